/-
  A row of acts as a law's argument; the walks of Few and does.
-/
import Derived.Test.YtdjgjmbgcjhnpaaDkAwake
import Derived.Test.YtdjgjmbgcjhnpaaOpen
import Derived.Lib.SmallJoins
import Derived.Deep.Slices
namespace Go.Proofs.Ytdjgjmbgcjhnpaa
set_option maxRecDepth 100000
open Go.ChangeShapes Go.WideShapes Go.ChangeAt Go.RowKit
structure Ac where
  kind : Int
  name : Txt
  s : Txt
  at_ : Int
  keep : Int
abbrev acV (c : Ac) : Array Value := #[.int .i64 c.kind, .string (mkS c.name), .string (mkS c.s), .int .i64 c.at_, .int .i64 c.keep]
/-- An act's five cells, from an address on. -/
structure AcAt (w : World) (A : Addr) (c : Ac) : Prop where
  lt : A.block < w.heap.size
  c0 : w.cell? A = some (.int .i64 c.kind)
  c1 : w.cell? ⟨A.block, A.off + 1, none⟩ = some (.string (mkS c.name))
  c2 : w.cell? ⟨A.block, A.off + 2, none⟩ = some (.string (mkS c.s))
  c3 : w.cell? ⟨A.block, A.off + 3, none⟩ = some (.int .i64 c.at_)
  c4 : w.cell? ⟨A.block, A.off + 4, none⟩ = some (.int .i64 c.keep)
def ActsAt (w : World) (v : Value) (l : List Ac) : Prop := ∃ (a : Option Addr) (cap : Nat), v = .slice a l.length cap ∧ l.length ≤ cap ∧ ∀ i c, l[i]? = some c → ∃ A, a = some A ∧ A.block < w.heap.size ∧ AcAt w (A.add (i * 5)) c
theorem AcAt.below {w w' : World} {B : Nat} {A : Addr} {c : Ac} (h : AcAt w A c) (hb : Below B w w') (hB : A.block < B) : AcAt w' A c :=
  ⟨Nat.lt_of_lt_of_le h.lt hb.size, (hb.cell (p := A) hB).trans h.c0, (hb.cell (p := ⟨A.block, A.off + 1, none⟩) hB).trans h.c1, (hb.cell (p := ⟨A.block, A.off + 2, none⟩) hB).trans h.c2, (hb.cell (p := ⟨A.block, A.off + 3, none⟩) hB).trans h.c3, (hb.cell (p := ⟨A.block, A.off + 4, none⟩) hB).trans h.c4⟩
theorem ActsAt.below {w w' : World} {v : Value} {l : List Ac} (h : ActsAt w v l) (hb : Below w.heap.size w w') : ActsAt w' v l := by
  obtain ⟨a, cap, hv, hc, hx⟩ := h
  refine ⟨a, cap, hv, hc, fun i c hi => ?_⟩
  obtain ⟨A, hA, hl, hat⟩ := hx i c hi
  exact ⟨A, hA, Nat.lt_of_lt_of_le hl hb.size, hat.below hb hat.lt⟩
theorem add_off (a : Addr) (k j : Nat) (hj : 0 < j) : a.add (k + j) = ⟨(a.add k).block, (a.add k).off + j, none⟩ := by
  obtain ⟨i, rfl⟩ : ∃ i, j = i + 1 := ⟨j - 1, by omega⟩
  unfold Addr.add
  split
  · rename_i h; omega
  · split
    · rename_i h; subst h; simp
    · simp [Nat.add_assoc]
theorem acts_len {w : World} {v : Value} {l : List Ac} (h : ActsAt w v l) : ∃ a cap, v = .slice a l.length cap := by obtain ⟨a, cap, hv, _⟩ := h; exact ⟨a, cap, hv⟩
theorem arg_acts {H : Type} {enc : TypeId × Value → H} {W : World} {base : Nat} {v : Value} {d : DataW H} {p : List MemPlace} (hv : Value.okWide Try.prog W .any base 22 v) (h : DataW.Trod enc Try.prog W 0 (fun _ => true) true 22 v d p) :
    ∃ l : List Ac, ActsAt W v l := by
  obtain ⟨a0, len, cap, rfl⟩ := okWide_slice Try.underlying22 hv
  obtain ⟨fuel, hf⟩ := h
  rcases Go.Deep.open_slice Try.underlying22 hf with ⟨hcs, _⟩ | ⟨a, len', cap', m, n, D, Pl, hcs, _, hl, _, hm, _, hx⟩
  · simp [Value.cells] at hcs
    obtain ⟨rfl, rfl, rfl⟩ := hcs
    exact ⟨[], none, 0, rfl, Nat.le_refl _, fun i c hi => by simp at hi⟩
  · simp [Value.cells] at hcs
    obtain ⟨rfl, rfl, rfl⟩ := hcs
    have hlm : len ≤ m := by rw [hm]; simp; exact hl
    have c5 : Try.prog.cellsOf 33 = 5 := by kernel_rfl
    have key : ∀ i, i < len → ∃ q : Ac, AcAt W (a.add (i * 5)) q := by
      intro i hi
      obtain ⟨cs', h1, h2⟩ := hx i (by omega)
      rw [c5] at h1
      obtain ⟨_, hlen, hcell⟩ := World.cells?_some h1
      obtain ⟨y0, y1, y2, y3, n1, _, _, t0, t1, t2, t3⟩ := Go.Joins.trod_struct4 Try.underlying33 h2
      match cs', hlen with
      | [v0, v1, v2, v3, v4], _ =>
        have t0' : DataW.trod enc Try.prog W 0 (fun _ => true) true n1 3 [v0] = some y0 := t0
        have t1' : DataW.trod enc Try.prog W 0 (fun _ => true) true n1 9 [v1] = some y1 := t1
        have t2' : DataW.trod enc Try.prog W 0 (fun _ => true) true n1 9 [v2] = some y2 := t2
        have t3' : DataW.trod enc Try.prog W 0 (fun _ => true) true n1 31 [v3, v4] = some y3 := t3
        obtain ⟨z0, z1, n2, _, _, u0, u1⟩ := trod_struct2 Try.underlying31 t3'
        have u0' : DataW.trod enc Try.prog W 0 (fun _ => true) true n2 3 [v3] = some z0 := u0
        have u1' : DataW.trod enc Try.prog W 0 (fun _ => true) true n2 3 [v4] = some z1 := u1
        obtain ⟨k, e0, _⟩ := DataW.trod_int Try.underlying3 t0'
        obtain ⟨s1, e1, _⟩ := DataW.trod_string Try.underlying9 t1'
        obtain ⟨s2, e2, _⟩ := DataW.trod_string Try.underlying9 t2'
        obtain ⟨k3, e3, _⟩ := DataW.trod_int Try.underlying3 u0'
        obtain ⟨k4, e4, _⟩ := DataW.trod_int Try.underlying3 u1'
        injection e0 with e0
        injection e1 with e1
        injection e2 with e2
        injection e3 with e3
        injection e4 with e4
        subst e0 e1 e2 e3 e4
        obtain ⟨l1, rfl⟩ := mkS_of s1
        obtain ⟨l2, rfl⟩ := mkS_of s2
        have k0 := hcell 0 (by decide)
        have k1 := hcell 1 (by decide)
        have k2 := hcell 2 (by decide)
        have k3' := hcell 3 (by decide)
        have k4' := hcell 4 (by decide)
        exact ⟨⟨k, l1, l2, k3, k4⟩, World.block_lt_of_cell? W (a.add (i * 5)) k0, k0, k1, k2, k3', k4'⟩
    have key2 : ∃ f : Nat → Ac, ∀ i, i < len → AcAt W (a.add (i * 5)) (f i) := by
      refine ⟨fun i => if h : i < len then (key i h).choose else ⟨0, [], [], 0, 0⟩, fun i hi => ?_⟩
      simp only [hi, dif_pos]
      exact (key i hi).choose_spec
    obtain ⟨f, hfi⟩ := key2
    refine ⟨(List.range len).map f, some a, cap, by simp, by simpa using hl, fun i c hi => ?_⟩
    rw [List.getElem?_map] at hi
    obtain ⟨j, hj, rfl⟩ := Option.map_eq_some_iff.1 hi
    obtain ⟨hlt, e⟩ := List.getElem?_eq_some_iff.1 hj
    simp at hlt e
    subst e
    have hb := (hfi i hlt).lt
    rw [add_block] at hb
    exact ⟨a, rfl, hb, hfi i hlt⟩
/-- What Few answers. -/
def fewA (l : List Ac) : Bool := decide (l.length ≤ 200) && l.all (fun c => decide (c.name.length ≤ 100) && decide (c.s.length ≤ 2000))
theorem few_a {l : List Ac} (h : fewA l = true) : l.length ≤ 200 ∧ ∀ c ∈ l, c.name.length ≤ 100 ∧ c.s.length ≤ 2000 := by
  rw [fewA, Bool.and_eq_true, decide_eq_true_eq, List.all_eq_true] at h
  refine ⟨h.1, fun c hc => ?_⟩
  have := h.2 c hc
  rw [Bool.and_eq_true, decide_eq_true_eq, decide_eq_true_eq] at this
  exact this
set_option maxHeartbeats 2000000 in
theorem fewA_x (v : Value) (l : List Ac) (w : World) (hs : ActsAt w v l) : Calls Try.prog 8 #[v] w fun e w' => e = .returned (.bool (fewA l)) ∧ w = w' := by
  obtain ⟨A, c, rfl, _, hc⟩ := hs
  have HS := Lib.hid hc
  clear hc
  go_enter Try.func8, Try.ntmps8
  go_wp2_with fail
  go_loop [3] (fun i => ∃ k : Nat, k ≤ l.length ∧ k ≤ 200 ∧ i = .int .i64 k ∧ Hid ((l.take k).all (fun c => decide (c.name.length ≤ 100) && decide (c.s.length ≤ 2000)) = true)) (fun i => l.length - (intOf i).toNat)
  case atStart => exact ⟨0, Nat.zero_le _, Nat.zero_le _, rfl, by show _ = true; simp⟩
  case round =>
    obtain ⟨k, hk, hk2, rfl, HN⟩ := hrel
    by_cases hlt : k < l.length
    · obtain ⟨t, ht⟩ : ∃ t, l[k]? = some t := ⟨_, List.getElem?_eq_getElem hlt⟩
      obtain ⟨ad, rfl, hab, hat⟩ := HS.out k t ht
      have c1 := hat.c1
      have c2 := hat.c2
      have hm1 := mkS_size t.name
      have hm2 := mkS_size t.s
      have HM := Lib.hid (List.mem_of_getElem? ht)
      have HT := Lib.hid (show (l.take (k + 1)).all (fun c => decide (c.name.length ≤ 100) && decide (c.s.length ≤ 2000)) = (decide (t.name.length ≤ 100) && decide (t.s.length ≤ 2000)) by
        obtain ⟨h1, h2⟩ := List.getElem?_eq_some_iff.1 ht
        rw [List.take_succ_eq_append_getElem h1, List.all_append, HN.out, h2]
        simp)
      have HF := Lib.hid (show (decide (t.name.length ≤ 100) && decide (t.s.length ≤ 2000)) = false → fewA l = false from fun e => by
        rw [fewA, Bool.and_eq_false_iff]
        right
        rw [List.all_eq_false]
        exact ⟨t, HM.out, by rw [e]; exact Bool.false_ne_true⟩)
      clear ht hat
      by_cases h2 : 200 ≤ k
      · have d1 : decide ((200 : Int) ≤ (k : Int)) = true := decide_eq_true (by omega)
        have HE := Lib.hid (show fewA l = false by rw [fewA, decide_eq_false (by omega)]; rfl)
        go_wp2_with fail
        go_ret
        exact ⟨ret_bool HE.out.symm, rfl⟩
      · have d1 : decide ((200 : Int) ≤ (k : Int)) = false := decide_eq_false (by omega)
        by_cases h3 : 100 < t.name.length
        · have d2 : decide ((100 : Int) < (t.name.length : Int)) = true := decide_eq_true (by omega)
          have HE := Lib.hid (HF.out (by rw [decide_eq_false (by omega)]; rfl))
          go_wp2_with fail
          go_ret
          exact ⟨ret_bool HE.out.symm, rfl⟩
        · have d2 : decide ((100 : Int) < (t.name.length : Int)) = false := decide_eq_false (by omega)
          by_cases h4 : 2000 < t.s.length
          · have d3 : decide ((2000 : Int) < (t.s.length : Int)) = true := decide_eq_true (by omega)
            have HE := Lib.hid (HF.out (by rw [decide_eq_false (p := t.s.length ≤ 2000) (by omega), Bool.and_false]))
            go_wp2_with fail
            go_ret
            exact ⟨ret_bool HE.out.symm, rfl⟩
          · have d3 : decide ((2000 : Int) < (t.s.length : Int)) = false := decide_eq_false (by omega)
            have HT2 := Lib.hid (show (l.take (k + 1)).all (fun c => decide (c.name.length ≤ 100) && decide (c.s.length ≤ 2000)) = true by rw [HT.out, decide_eq_true (by omega), decide_eq_true (by omega)]; rfl)
            go_wp2_with fail
            go_round
            case rel => exact ⟨k + 1, by omega, by omega, by go_num, HT2⟩
            case measure => simp [intOf]; omega
    · have HE := Lib.hid (show fewA l = true by
        have h := HN.out
        rw [List.take_of_length_le (by omega)] at h
        rw [fewA, decide_eq_true (by omega), h]; rfl)
      go_wp2_with fail
      go_ret
      exact ⟨ret_bool HE.out.symm, rfl⟩
/-- What an act does. -/
def doD (S : Dk) (c : Ac) : Nat × Dk :=
  if c.kind = 0 then appD S c.name c.s else if c.kind = 1 then synD S c.name else if c.kind = 2 then renD S c.name c.s else if c.kind = 3 then remD S c.name
  else if c.kind = 4 then (0, armD S c.at_ c.keep) else if c.kind = 5 then (0, crashD S c.keep) else if c.kind = 6 then (0, startD S) else (0, S)
theorem inv_do {S : Dk} {k : Nat} (h : Inv S k) (hu : uniq S.fs) (c : Ac) : Inv (doD S c).2 (k + 1) := by
  rw [doD]
  repeat' split
  · exact inv_app h hu _ _
  · exact inv_syn h _
  · exact inv_ren h _ _
  · exact inv_rem h _
  · exact (inv_arm h _ _).mono (Nat.le_succ _)
  · exact (inv_crash h _).mono (Nat.le_succ _)
  · exact (inv_start h).mono (Nat.le_succ _)
  · exact h.mono (Nat.le_succ _)
theorem Did.back {B b m : Nat} {r r' : Nat × Dk} {w w0 : World} {e : Ending} {w' : World} (h : Did B b m r w0 e w') (hr : r' = r) (hb : Below B w w0) : e = .returned (.int .i64 (r'.1 : Int)) ∧ Live B b m r'.2 w' ∧ Below B w w' := by
  subst hr
  exact ⟨h.1, h.2.1, hb.trans h.2.2⟩
set_option maxHeartbeats 4000000 in
theorem does_x {B b m : Nat} {S : Dk} {w : World} (h : Live B b m S w) {k : Nat} (hi : Inv S k) (hk : k ≤ 1000000) (c : Ac) (hn : c.name.length ≤ 1000000) (hs : c.s.length ≤ 1000000) :
    Calls Try.prog 11 #[.pointer (some ⟨b, 0, none⟩), .agg (acV c)] w (Did B b m (doD S c) w) := by
  obtain ⟨kd, n, s, a, q⟩ := c
  have hb0 := below_box w (.cells (acV ⟨kd, n, s, a, q⟩) 33)
  have HL := Lib.hid (h.next hb0)
  have HB := Lib.hid (h.base hb0)
  have HI := Lib.hid hi
  have HN := Lib.hid (show n.length ≤ 1000000000000 from Nat.le_trans hn (by decide))
  have HS := Lib.hid (show s.length ≤ 1000000000 from Nat.le_trans hs (by decide))
  have HS2 := Lib.hid (show s.length ≤ 1000000000000 from Nat.le_trans hs (by decide))
  have HK := Lib.hid hk
  clear h hi hb0 hn hs hk
  by_cases e0 : kd = 0
  · subst e0
    have HV := Lib.hid (show doD S ⟨0, n, s, a, q⟩ = appD S n s from rfl)
    go_enter Try.func11, Try.ntmps11
    go_wp2_with fail
    refine (app_l HL.out HI.out HK.out n s HN.out HS.out).mono ?_
    rintro e w1 ⟨rfl, hl, hb⟩
    have H1 := Lib.hid hl
    have H2 := Lib.hid (HB.out.trans hb)
    clear hl hb
    go_wp2_with fail
    go_ret
    exact ⟨by rw [HV.out]; rfl, by rw [HV.out]; exact H1.out, H2.out⟩
  have f0 : (kd == 0) = false := beq_eq_false_iff_ne.2 e0
  by_cases e1 : kd = 1
  · subst e1
    have HV := Lib.hid (show doD S ⟨1, n, s, a, q⟩ = synD S n from rfl)
    go_enter Try.func11, Try.ntmps11
    go_wp2_with fail
    refine (syn_l HL.out HI.out HK.out n HN.out).mono ?_
    rintro e w1 ⟨rfl, hl, hb⟩
    have H1 := Lib.hid hl
    have H2 := Lib.hid (HB.out.trans hb)
    clear hl hb
    go_wp2_with fail
    go_ret
    exact ⟨by rw [HV.out]; rfl, by rw [HV.out]; exact H1.out, H2.out⟩
  have f1 : (kd == 1) = false := beq_eq_false_iff_ne.2 e1
  by_cases e2 : kd = 2
  · subst e2
    have HV := Lib.hid (show doD S ⟨2, n, s, a, q⟩ = renD S n s from rfl)
    go_enter Try.func11, Try.ntmps11
    go_wp2_with fail
    refine (ren_l HL.out HI.out HK.out n s HN.out HS2.out).mono ?_
    rintro e w1 ⟨rfl, hl, hb⟩
    have H1 := Lib.hid hl
    have H2 := Lib.hid (HB.out.trans hb)
    clear hl hb
    go_wp2_with fail
    go_ret
    exact ⟨by rw [HV.out]; rfl, by rw [HV.out]; exact H1.out, H2.out⟩
  have f2 : (kd == 2) = false := beq_eq_false_iff_ne.2 e2
  by_cases e3 : kd = 3
  · subst e3
    have HV := Lib.hid (show doD S ⟨3, n, s, a, q⟩ = remD S n from rfl)
    go_enter Try.func11, Try.ntmps11
    go_wp2_with fail
    refine (rem_l HL.out HI.out HK.out n HN.out).mono ?_
    rintro e w1 ⟨rfl, hl, hb⟩
    have H1 := Lib.hid hl
    have H2 := Lib.hid (HB.out.trans hb)
    clear hl hb
    go_wp2_with fail
    go_ret
    exact ⟨by rw [HV.out]; rfl, by rw [HV.out]; exact H1.out, H2.out⟩
  have f3 : (kd == 3) = false := beq_eq_false_iff_ne.2 e3
  by_cases e4 : kd = 4
  · subst e4
    have HV := Lib.hid (show doD S ⟨4, n, s, a, q⟩ = (0, armD S a q) from rfl)
    go_enter Try.func11, Try.ntmps11
    go_wp2_with fail
    refine (arm_l HL.out a q).mono ?_
    rintro e w1 ⟨rfl, hl, hb⟩
    have H1 := Lib.hid hl
    have H2 := Lib.hid (HB.out.trans hb)
    clear hl hb
    go_wp2_with fail
    go_ret
    exact ⟨by rw [HV.out]; rfl, by rw [HV.out]; exact H1.out, H2.out⟩
  have f4 : (kd == 4) = false := beq_eq_false_iff_ne.2 e4
  by_cases e5 : kd = 5
  · subst e5
    have HV := Lib.hid (show doD S ⟨5, n, s, a, q⟩ = (0, crashD S q) from rfl)
    go_enter Try.func11, Try.ntmps11
    go_wp2_with fail
    refine (crash_l HL.out HI.out q).mono ?_
    rintro e w1 ⟨rfl, hl, hb⟩
    have H1 := Lib.hid hl
    have H2 := Lib.hid (HB.out.trans hb)
    clear hl hb
    go_wp2_with fail
    go_ret
    exact ⟨by rw [HV.out]; rfl, by rw [HV.out]; exact H1.out, H2.out⟩
  have f5 : (kd == 5) = false := beq_eq_false_iff_ne.2 e5
  by_cases e6 : kd = 6
  · subst e6
    have HV := Lib.hid (show doD S ⟨6, n, s, a, q⟩ = (0, startD S) from rfl)
    go_enter Try.func11, Try.ntmps11
    go_wp2_with fail
    refine (start_l HL.out).mono ?_
    rintro e w1 ⟨rfl, hl, hb⟩
    have H1 := Lib.hid hl
    have H2 := Lib.hid (HB.out.trans hb)
    clear hl hb
    go_wp2_with fail
    go_ret
    exact ⟨by rw [HV.out]; rfl, by rw [HV.out]; exact H1.out, H2.out⟩
  have f6 : (kd == 6) = false := beq_eq_false_iff_ne.2 e6
  have HV := Lib.hid (show doD S ⟨kd, n, s, a, q⟩ = (0, S) by rw [doD, if_neg e0, if_neg e1, if_neg e2, if_neg e3, if_neg e4, if_neg e5, if_neg e6])
  clear e0 e1 e2 e3 e4 e5 e6
  go_enter Try.func11, Try.ntmps11
  go_wp2_with fail
  go_ret
  exact ⟨by rw [HV.out]; rfl, by rw [HV.out]; exact HL.out, HB.out⟩
end Go.Proofs.Ytdjgjmbgcjhnpaa
