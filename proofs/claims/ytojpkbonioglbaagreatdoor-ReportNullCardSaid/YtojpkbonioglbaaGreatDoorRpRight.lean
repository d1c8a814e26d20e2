/-
  A reply in its box; the walk of Right.
-/
import Derived.Test.YtojpkbonioglbaaGreatDoorRpRow
namespace Go.Proofs.YtojpkbonioglbaaGreatDoor.R
set_option maxRecDepth 100000
open Go.RowKit
/-- A reply in its box. -/
structure RX (W : World) (c : Int) (e : E3) (v : Value) (w : World) : Prop where
  box : w.heap[W.heap.size]? = some (.cells #[.int .i64 c, .int .i64 e.1, .int .i64 e.2.1, .int .i64 e.2.2, v] 37 (0, 0))
  below : Below W.heap.size W w
  ready : Ready w
theorem RX.next {W w w' : World} {c : Int} {e : E3} {v : Value} (h : RX W c e v w) (hb : Below w.heap.size w w') : RX W c e v w' := ⟨(hb.block _ (ltOf h.box)).trans h.box, below_next h.below hb, ready_below h.ready hb⟩
theorem RX.new {w : World} (c : Int) (e : E3) (v : Value) (hR : Ready w) : RX w c e v (w.alloc (.cells #[.int .i64 c, .int .i64 e.1, .int .i64 e.2.1, .int .i64 e.2.2, v] 37)) :=
  ⟨newOf w _, below_box w _, ready_below hR (below_box w _)⟩
theorem RX.alloc {W w : World} {c : Int} {e : E3} {v : Value} (h : RX W c e v w) (o : Obj) : RX W c e v (w.alloc o) := h.next (below_box w o)
theorem right_parts (r : Rp) : rpRight r = if (rpCls r.code == 0 || rpHas r.e && !rpBel r.e r.code) = true then 1 else if r.text.any (fun t => !t.all rpPr) = true then 2 else if (r.text.isEmpty || decide (32 < r.text.length) || r.text.any (fun t => decide (510 < (rpHead r.code r.e 32).length + t.length))) = true then 3 else 0 := rfl
/-- A reply in its box, and how long a line is ahead of its text. -/
structure LX (W : World) (c : Int) (e : E3) (v : Value) (n g : Nat) (w : World) : Prop where
  rx : RX W c e v w
  cell : w.heap[g]? = some (.cells #[.int .i64 (n : Int)] 3 (0, 0))
theorem LX.next {W w w' : World} {c : Int} {e : E3} {v : Value} {n g : Nat} (h : LX W c e v n g w) (hb : Below w.heap.size w w') : LX W c e v n g w' := ⟨h.rx.next hb, (hb.block _ (ltOf h.cell)).trans h.cell⟩
theorem LX.new {W w : World} {c : Int} {e : E3} {v : Value} {n : Nat} (h : RX W c e v w) : LX W c e v n w.heap.size (w.alloc (.cells #[.int .i64 (n : Int)] 3)) := ⟨h.alloc _, newOf w _⟩
theorem ret_i {a b : Int} (h : a = b) : Ending.returned (.int .i64 b) = .returned (.int .i64 a) := by rw [h]
set_option maxHeartbeats 4000000 in
theorem right_x (r : Rp) (v : Value) (hRI : RI r.code r.e) (w : World) (hR : Ready w) (hT : TxtsAt w v r.text) (hn : r.text.length ≤ 1000000000000000) (hl : ∀ t ∈ r.text, t.length ≤ 1000000000000000) :
    Calls Tryz.prog 40 #[RV r.code r.e v] w fun x w' => x = .returned (.int .i64 (rpRight r)) ∧ Below w.heap.size w w' := by
  obtain ⟨a, cap, rfl, hcp⟩ := id hT
  clear hcp
  have HV := Lib.hid (right_parts r)
  have HH := Lib.hid (fun (w : World) (hR : Ready w) => head_x r.code r.e (.slice a r.text.length cap) 32 hRI w hR)
  have HHL := Lib.hid (head_len (c := r.code) (e := r.e) 32 hRI)
  have HC := Lib.hid (fun w => class_x r.code w)
  have HHas := Lib.hid (fun w => has_x r.code r.e (.slice a r.text.length cap) w)
  have HBel := Lib.hid (fun w => bel_x r.e r.code w)
  have HT := Lib.hid hT
  have HOdd := Lib.hid (fun (w' : World) (hb : Below w.heap.size w w') => cfunc_x 63 #[] ent_odd (fun t => !t.all rpPr) r.text (.slice a r.text.length cap) w' (hT.below hb) (fun W x _ hx => odd_x x W (hl x hx)) hn)
  have HN := Lib.hid hn
  have HL := Lib.hid hl
  have HX := Lib.hid (RX.new r.code r.e (.slice a r.text.length cap) hR)
  have hlen : r.text.length ≤ 1000000000000000 := hn
  have hem : ((r.text.length : Int) == 0) = r.text.isEmpty := by cases r.text with | nil => rfl | cons => simp; omega
  have h32 : decide ((32 : Int) < (r.text.length : Int)) = decide (32 < r.text.length) := by
    by_cases h : 32 < r.text.length
    · rw [decide_eq_true h]; exact decide_eq_true (by omega)
    · rw [decide_eq_false h]; exact decide_eq_false (by omega)
  clear hn hl hR hRI hT
  generalize rpHead r.code r.e 32 = hd at HV HH HHL
  have hhz := mkS_size hd
  have hhl := HHL.out
  have HLong := Lib.hid (fun (w' : World) (g : Nat) (hx : LX w r.code r.e (.slice a r.text.length cap) hd.length g w') => cfunc_x 65 #[.pointer (some ⟨g, 0, none⟩)] ent_long (fun t => decide (510 < hd.length + t.length)) r.text (.slice a r.text.length cap) w' (HT.out.below hx.rx.below)
    (fun W x hb hx' => tlong_x x ⟨g, 0, none⟩ hd.length W (cellOf (hx.next hb).cell 0) (by have := HHL.out; omega) (HL.out x hx')) HN.out)
  generalize hk : rpCls r.code = k at HV HC
  generalize rpHas r.e = qh at HV HHas
  generalize rpBel r.e r.code = qb at HV HBel
  generalize hq2 : (r.text.any (fun t => !t.all rpPr)) = q2 at HV HOdd
  generalize hq3 : (r.text.any (fun t => decide (510 < hd.length + t.length))) = q3 at HV HLong
  generalize hqe : r.text.isEmpty = qe at HV hem
  generalize hq32 : decide (32 < r.text.length) = q32 at HV h32
  clear hk hq2 hq3 hqe hq32
  go_enter Tryz.func40, Tryz.ntmps40
  go_wp2_with fail
  refine (HH.out _ HX.out.ready).mono ?_
  rintro x w1 ⟨rfl, hb1⟩
  have HX2 := Lib.hid (LX.new (n := hd.length) (HX.out.next hb1))
  have k0 := cellOf HX2.out.rx.box 0
  have k1 := cellOf HX2.out.rx.box 1
  have k2 := cellOf HX2.out.rx.box 2
  have k3 := cellOf HX2.out.rx.box 3
  have k4 := cellOf HX2.out.rx.box 4
  clear hb1
  generalize hd1 : (k == 0) = q1 at HV
  cases q1
  case true =>
    have HE := Lib.hid (show rpRight r = 1 by rw [HV.out]; rfl)
    go_wp2_with (go_at_call 66; refine (HC.out _).mono ?_; rintro x w' ⟨rfl, rfl⟩)
    go_ret
    exact ⟨ret_i HE.out, HX2.out.rx.below⟩
  case false =>
    go_wp2_with (go_at_call 66; refine (HC.out _).mono ?_; rintro x w' ⟨rfl, rfl⟩)
    refine (HHas.out _).mono ?_
    rintro x w3 ⟨rfl, hb3⟩
    have HX3 := Lib.hid (HX2.out.next hb3)
    clear k0 k1 k2 k3 k4 hb3
    cases qh
    case false =>
      have k4 := cellOf HX3.out.rx.box 4
      go_wp2_with fail
      refine (HOdd.out _ HX3.out.rx.below).mono ?_
      rintro x w5 ⟨rfl, hb5⟩
      have HX5 := Lib.hid (HX3.out.next hb5)
      clear hb5 k4
      cases q2
      case true =>
        have HE := Lib.hid (show rpRight r = 2 by rw [HV.out]; rfl)
        go_wp2_with fail
        go_ret
        exact ⟨ret_i HE.out, HX5.out.rx.below⟩
      case false =>
        have k4 := cellOf HX5.out.rx.box 4
        cases qe
        case true =>
          have HE := Lib.hid (show rpRight r = 3 by rw [HV.out]; rfl)
          go_wp2_with fail
          go_ret
          exact ⟨ret_i HE.out, HX5.out.rx.below⟩
        case false =>
          cases q32
          case true =>
            have HE := Lib.hid (show rpRight r = 3 by rw [HV.out]; rfl)
            go_wp2_with fail
            go_ret
            exact ⟨ret_i HE.out, HX5.out.rx.below⟩
          case false =>
            go_wp2_with fail
            refine (HLong.out _ _ HX5.out).mono ?_
            rintro x w6 ⟨rfl, hb6⟩
            have HX6 := Lib.hid (HX5.out.next hb6)
            clear hb6 k4
            cases q3
            case true =>
              have HE := Lib.hid (show rpRight r = 3 by rw [HV.out]; rfl)
              go_wp2_with fail
              go_ret
              exact ⟨ret_i HE.out, HX6.out.rx.below⟩
            case false =>
              have HE := Lib.hid (show rpRight r = 0 by rw [HV.out]; rfl)
              go_wp2_with fail
              go_ret
              exact ⟨ret_i HE.out, HX6.out.rx.below⟩
    case true =>
      have k0 := cellOf HX3.out.rx.box 0
      have k1 := cellOf HX3.out.rx.box 1
      have k2 := cellOf HX3.out.rx.box 2
      have k3 := cellOf HX3.out.rx.box 3
      go_wp2_with fail
      refine (HBel.out _).mono ?_
      rintro x w4 ⟨rfl, hb4⟩
      have HX4 := Lib.hid (HX3.out.next hb4)
      clear k0 k1 k2 k3 hb4
      cases qb
      case false =>
        have HE := Lib.hid (show rpRight r = 1 by rw [HV.out]; rfl)
        go_wp2_with fail
        go_ret
        exact ⟨ret_i HE.out, HX4.out.rx.below⟩
      case true =>
        have k4 := cellOf HX4.out.rx.box 4
        go_wp2_with fail
        refine (HOdd.out _ HX4.out.rx.below).mono ?_
        rintro x w5 ⟨rfl, hb5⟩
        have HX5 := Lib.hid (HX4.out.next hb5)
        clear hb5 k4
        cases q2
        case true =>
          have HE := Lib.hid (show rpRight r = 2 by rw [HV.out]; rfl)
          go_wp2_with fail
          go_ret
          exact ⟨ret_i HE.out, HX5.out.rx.below⟩
        case false =>
          have k4 := cellOf HX5.out.rx.box 4
          cases qe
          case true =>
            have HE := Lib.hid (show rpRight r = 3 by rw [HV.out]; rfl)
            go_wp2_with fail
            go_ret
            exact ⟨ret_i HE.out, HX5.out.rx.below⟩
          case false =>
            cases q32
            case true =>
              have HE := Lib.hid (show rpRight r = 3 by rw [HV.out]; rfl)
              go_wp2_with fail
              go_ret
              exact ⟨ret_i HE.out, HX5.out.rx.below⟩
            case false =>
              go_wp2_with fail
              refine (HLong.out _ _ HX5.out).mono ?_
              rintro x w6 ⟨rfl, hb6⟩
              have HX6 := Lib.hid (HX5.out.next hb6)
              clear hb6 k4
              cases q3
              case true =>
                have HE := Lib.hid (show rpRight r = 3 by rw [HV.out]; rfl)
                go_wp2_with fail
                go_ret
                exact ⟨ret_i HE.out, HX6.out.rx.below⟩
              case false =>
                have HE := Lib.hid (show rpRight r = 0 by rw [HV.out]; rfl)
                go_wp2_with fail
                go_ret
                exact ⟨ret_i HE.out, HX6.out.rx.below⟩
end Go.Proofs.YtojpkbonioglbaaGreatDoor.R
