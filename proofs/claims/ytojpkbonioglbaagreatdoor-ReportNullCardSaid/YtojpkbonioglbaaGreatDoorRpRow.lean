/-
  Rows of texts; the walks of slices.IndexFunc and ContainsFunc at texts.
-/
import Derived.Test.YtojpkbonioglbaaGreatDoorRpHead
namespace Go.Proofs.YtojpkbonioglbaaGreatDoor.R
set_option maxRecDepth 100000
open Go.RowKit
/-- A slice of texts in memory. -/
def TxtsAt (w : World) (v : Value) (l : List Txt) : Prop :=
  ∃ (a : Option Addr) (cap : Nat), v = .slice a l.length cap ∧ l.length ≤ cap ∧ (a = none → cap = 0) ∧ ∀ (i : Nat) (t : Txt), l[i]? = some t → ∃ A, a = some A ∧ A.block < w.heap.size ∧ w.cell? (A.add i) = some (.string (mkS t))
theorem TxtsAt.below {w w' : World} {v : Value} {l : List Txt} (h : TxtsAt w v l) (hb : Below w.heap.size w w') : TxtsAt w' v l := by
  obtain ⟨a, cap, hv, hc0, hn, hc⟩ := h
  refine ⟨a, cap, hv, hc0, hn, fun i t hi => ?_⟩
  obtain ⟨A, ha, hA, c0⟩ := hc i t hi
  have e : (A.add i).block < w.heap.size := by rw [add_block]; exact hA
  exact ⟨A, ha, Nat.lt_of_lt_of_le hA hb.size, (hb.cell e).trans c0⟩
theorem TxtsAt.apart {w w' : World} {v : Value} {l : List Txt} (h : TxtsAt w v l) (hb : Below w.heap.size w w') : TxtsAt w' v l := h.below hb
theorem TxtsAt.take {w : World} {a : Option Addr} {n cap : Nat} {l : List Txt} (h : TxtsAt w (.slice a n cap) l) {k : Nat} (hk : k ≤ l.length) : TxtsAt w (.slice a k cap) (l.take k) := by
  obtain ⟨a', cap', hv, hc0, hn, hc⟩ := h
  injection hv with h1 h2 h3
  subst h1 h3
  have e : (l.take k).length = k := by rw [List.length_take]; omega
  refine ⟨a, cap, by rw [e], by rw [e]; omega, hn, fun i t hi => ?_⟩
  rw [List.getElem?_take] at hi
  split at hi
  · exact hc i t hi
  · cases hi
theorem txts_nil (w : World) : TxtsAt w (.slice none 0 0) [] := ⟨none, 0, rfl, Nat.le_refl _, fun _ => rfl, fun i t h => by simp at h⟩
/-- What a predicate on texts hands back, wherever no older block has turned; it may lay blocks. -/
def PredS (f : Nat) (lb : Array Value) (p : Txt → Bool) (ps : List Txt) (w : World) : Prop :=
  ∀ (W : World) (x : Txt), Below w.heap.size w W → x ∈ ps → Calls Tryz.prog f (#[.string (mkS x)] ++ lb) W fun e w' => e = .returned (.bool (p x)) ∧ Below W.heap.size W w'
def IFPost (p : Txt → Bool) (ps : List Txt) (w : World) (e : Ending) (w' : World) : Prop :=
  ∃ r : Int, e = .returned (.int .i64 r) ∧ decide (0 ≤ r) = ps.any p ∧ Below w.heap.size w w'
theorem any_more {p : Txt → Bool} {ps : List Txt} {k : Nat} {x : Txt} (hx : ps[k]? = some x) (ha : (ps.take k).any p = false) (hp : p x = false) : (ps.take (k + 1)).any p = false := by
  obtain ⟨hk, rfl⟩ := List.getElem?_eq_some_iff.1 hx
  rw [List.take_succ_eq_append_getElem hk, List.any_append, ha]
  simp [hp]
set_option maxHeartbeats 1000000 in
theorem ifunc_x (f : Nat) (lb : Array Value) (eg : ∀ args w, (callFunc f args).run Tryz.prog w = .ok (.enter f args) w) (p : Txt → Bool) (ps : List Txt) (v : Value) (w : World) (hs : TxtsAt w v ps) (hp : PredS f lb p ps w) (hn : ps.length ≤ 1000000000000000) :
    Calls Tryz.prog 92 #[v, .func (.func f) #[] lb] w (IFPost p ps w) := by
  obtain ⟨A, cap, rfl, _, _, hc⟩ := hs
  have HS := Lib.hid hc
  have HP := Lib.hid hp
  clear hc hp
  go_enter Tryz.func92, Tryz.ntmps92
  go_wp2_with fail
  go_loopw [8] (fun i wr => ∃ k : Nat, k ≤ ps.length ∧ i = .int .i64 k ∧ (ps.take k).any p = false ∧ Below w.heap.size w wr) (fun i _ => ps.length - (intOf i).toNat)
  case atStart => exact ⟨0, Nat.zero_le _, rfl, rfl, Below.refl _ _⟩
  case round =>
    obtain ⟨k, hk, rfl, ha, hb⟩ := hrel
    have HA := Lib.hid ha
    have HB := Lib.hid hb
    by_cases hlt : k < ps.length
    · obtain ⟨x, hx⟩ : ∃ x, ps[k]? = some x := ⟨_, List.getElem?_eq_getElem hlt⟩
      obtain ⟨ad, rfl, hab, hcw⟩ := HS.out k x hx
      have hcl : wr.cell? (ad.add k) = some (.string (mkS x)) := (hb.cell (by rw [add_block]; exact hab)).trans hcw
      have HX := Lib.hid hx
      have HC := Lib.hid (HP.out wr x hb (List.mem_of_getElem? hx))
      clear hx hcw ha hb
      cases hpx : p x
      · go_wp2_with fail
        refine HC.out.mono ?_
        rintro e w1 ⟨rfl, hb1⟩
        have HB1 := Lib.hid hb1
        rw [hpx]
        clear hb1
        go_wp2_with fail
        go_roundw
        case rel => exact ⟨k + 1, by omega, by go_num, any_more HX.out HA.out hpx, HB.out.trans (HB1.out.mono HB.out.size)⟩
        case measure => simp [intOf]; omega
      · go_wp2_with fail
        refine HC.out.mono ?_
        rintro e w1 ⟨rfl, hb1⟩
        have HB1 := Lib.hid hb1
        rw [hpx]
        clear hb1
        go_wp2_with fail
        go_ret
        exact ⟨(k : Int), rfl, by rw [List.any_eq_true.2 ⟨x, List.mem_of_getElem? HX.out, hpx⟩]; exact decide_eq_true (by omega), HB.out.trans (HB1.out.mono HB.out.size)⟩
    · clear ha hb
      go_wp2_with fail
      go_ret
      exact ⟨-1, rfl, by have e := HA.out; rw [List.take_of_length_le (by omega)] at e; rw [e]; rfl, HB.out⟩
set_option maxHeartbeats 1000000 in
theorem cfunc_x (f : Nat) (lb : Array Value) (eg : ∀ args w, (callFunc f args).run Tryz.prog w = .ok (.enter f args) w) (p : Txt → Bool) (ps : List Txt) (v : Value) (w : World) (hs : TxtsAt w v ps) (hp : PredS f lb p ps w) (hn : ps.length ≤ 1000000000000000) :
    Calls Tryz.prog 69 #[v, .func (.func f) #[] lb] w fun e w' => e = .returned (.bool (ps.any p)) ∧ Below w.heap.size w w' := by
  have HI := Lib.hid (ifunc_x f lb eg p ps v w hs hp hn)
  clear hs hp eg
  go_enter Tryz.func69, Tryz.ntmps69
  go_wp2_with fail
  refine HI.out.mono ?_
  rintro e w1 ⟨r, rfl, hr, hb⟩
  have HB := Lib.hid hb
  clear hb
  cases ha : ps.any p
  · rw [ha] at hr
    go_wp2_with fail
    go_ret
    exact ⟨by rw [ha]; rfl, HB.out⟩
  · rw [ha] at hr
    go_wp2_with fail
    go_ret
    exact ⟨by rw [ha]; rfl, HB.out⟩
theorem ent_odd : ∀ args w, (callFunc 63 args).run Tryz.prog w = .ok (.enter 63 args) w := enters_of Tryz.func63 (by kernel_rfl) rfl
theorem ent_long : ∀ args w, (callFunc 65 args).run Tryz.prog w = .ok (.enter 65 args) w := enters_of Tryz.func65 (by kernel_rfl) rfl
set_option maxHeartbeats 1000000 in
theorem odd_x (s : Txt) (w : World) (hs : s.length ≤ 1000000000000000) : Calls Tryz.prog 63 #[.string (mkS s)] w fun e w' => e = .returned (.bool (!s.all rpPr)) ∧ Below w.heap.size w w' := by
  have HI := Lib.hid (fun w => printable_x s w hs)
  go_enter Tryz.func63, Tryz.ntmps63
  go_wp2_with (go_at_call 64; refine (HI.out _).mono ?_; rintro e w' ⟨rfl, rfl⟩)
  go_ret
  exact ⟨rfl, Below.refl _ _⟩
set_option maxHeartbeats 1000000 in
theorem tlong_x (s : Txt) (bx : Addr) (n : Nat) (w : World) (hc : w.cell? bx = some (.int .i64 (n : Int))) (hn : n ≤ 1000) (hs : s.length ≤ 1000000000000000) : Calls Tryz.prog 65 #[.string (mkS s), .pointer (some bx)] w fun e w' => e = .returned (.bool (decide (510 < n + s.length))) ∧ Below w.heap.size w w' := by
  have hms := mkS_size s
  have HD := Lib.hid (show decide ((510 : Int) < (n : Int) + (s.length : Int)) = decide (510 < n + s.length) by
    by_cases h : 510 < n + s.length
    · rw [decide_eq_true h]; exact decide_eq_true (by omega)
    · rw [decide_eq_false h]; exact decide_eq_false (by omega))
  go_enter Tryz.func65, Tryz.ntmps65
  go_wp2_with fail
  go_ret
  exact ⟨ret_bool HD.out, Below.refl _ _⟩
end Go.Proofs.YtojpkbonioglbaaGreatDoor.R
