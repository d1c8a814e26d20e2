/-
  The walks of slices.IndexFunc, slices.ContainsFunc at strings, and of wrong.
-/
import Derived.Test.YtkkpfencnjnddaaFeed
namespace Go.Proofs.Ytkkpfencnjnddaa
open Go.RowKit

/-- What a predicate on texts hands back, wherever no older block has turned; it may lay blocks. -/
def PredS (f : Nat) (lb : Array Value) (p : ByteArray → Bool) (ps : List ByteArray) (w : World) : Prop :=
  ∀ (W : World) (x : ByteArray), Below w.heap.size w W → x ∈ ps → Calls Try.prog f (#[.string x] ++ lb) W fun e w' => e = .returned (.bool (p x)) ∧ Below W.heap.size W w'
def IFPost (p : ByteArray → Bool) (ps : List ByteArray) (w : World) (e : Ending) (w' : World) : Prop :=
  ∃ r : Int, e = .returned (.int .i64 r) ∧ decide (0 ≤ r) = ps.any p ∧ Below w.heap.size w w'
theorem Strs.cell {w : World} {A : Option Addr} {n k : Nat} {ps : List ByteArray} (h : Strs w A n ps) (hk : k < n) : ∃ ad p, A = some ad ∧ ps[k]? = some p ∧ ad.block < w.heap.size ∧ w.cell? (ad.add k) = some (.string p) := by
  obtain ⟨hl, h⟩ := h
  obtain ⟨ad, hA, hb, hc⟩ := h (by omega)
  have hp : ps[k]? = some (ps[k]'(by omega)) := List.getElem?_eq_getElem (by omega)
  exact ⟨ad, _, hA, hp, hb, hc k _ hp⟩
theorem Strs.below {w W : World} {A : Option Addr} {n : Nat} {ps : List ByteArray} (h : Strs w A n ps) (hb : Below w.heap.size w W) : Strs W A n ps :=
  ⟨h.1, fun hn => by
    obtain ⟨ad, hA, hlt, hc⟩ := h.2 hn
    exact ⟨ad, hA, Nat.lt_of_lt_of_le hlt hb.size, fun j p hj => (hb.cell (by rw [add_block]; exact hlt)).trans (hc j p hj)⟩⟩

theorem any_more {p : ByteArray → Bool} {ps : List ByteArray} {k : Nat} {x : ByteArray} (hx : ps[k]? = some x) (ha : (ps.take k).any p = false) (hp : p x = false) : (ps.take (k + 1)).any p = false := by
  obtain ⟨hk, rfl⟩ := List.getElem?_eq_some_iff.1 hx
  rw [List.take_succ_eq_append_getElem hk, List.any_append, ha]
  simp [hp]
set_option maxHeartbeats 1000000 in
theorem ifunc_x (f : Nat) (lb : Array Value) (eg : ∀ args w, (callFunc f args).run Try.prog w = .ok (.enter f args) w) (p : ByteArray → Bool) (ps : List ByteArray) (A : Option Addr) (n c : Nat) (w : World) (hs : Strs w A n ps) (hp : PredS f lb p ps w) (hn : n ≤ 1000000000) :
    Calls Try.prog 45 #[.slice A n c, .func (.func f) #[] lb] w (IFPost p ps w) := by
  have HS := Lib.hid hs
  have HP := Lib.hid hp
  clear hs hp
  go_enter Try.func45, Try.ntmps45
  go_wp2_with fail
  go_loopw [8] (fun i wr => ∃ k : Nat, k ≤ n ∧ i = .int .i64 k ∧ (ps.take k).any p = false ∧ Below w.heap.size w wr) (fun i _ => n - (intOf i).toNat)
  case atStart => exact ⟨0, Nat.zero_le _, rfl, rfl, Below.refl _ _⟩
  case round =>
    obtain ⟨k, hk, rfl, ha, hb⟩ := hrel
    have HA := Lib.hid ha
    have HB := Lib.hid hb
    by_cases hlt : k < n
    · obtain ⟨ad, x, rfl, hx, hab, hcw⟩ := HS.out.cell hlt
      have hcl : wr.cell? (ad.add k) = some (.string x) := (hb.cell (by rw [add_block]; exact hab)).trans hcw
      have HX := Lib.hid hx
      have HC := Lib.hid (HP.out wr x hb (List.mem_of_getElem? hx))
      clear hx hcw ha hb
      cases hpx : p x
      · go_wp2_with fail
        refine HC.out.mono ?_
        rintro e w1 ⟨rfl, hb1⟩
        have HB1 := Lib.hid hb1
        rw [hpx]
        clear hb1
        go_wp2_with fail
        go_roundw
        case rel => exact ⟨k + 1, by omega, by go_num, any_more HX.out HA.out hpx, HB.out.trans (HB1.out.mono HB.out.size)⟩
        case measure => simp [intOf]; omega
      · go_wp2_with fail
        refine HC.out.mono ?_
        rintro e w1 ⟨rfl, hb1⟩
        have HB1 := Lib.hid hb1
        rw [hpx]
        clear hb1
        go_wp2_with fail
        go_ret
        exact ⟨(k : Int), rfl, by rw [List.any_eq_true.2 ⟨x, List.mem_of_getElem? HX.out, hpx⟩]; exact decide_eq_true (by omega), HB.out.trans (HB1.out.mono HB.out.size)⟩
    · clear ha hb
      go_wp2_with fail
      go_ret
      exact ⟨-1, rfl, by have e := HA.out; rw [List.take_of_length_le (by rw [HS.out.1]; omega)] at e; rw [e]; rfl, HB.out⟩
set_option maxHeartbeats 1000000 in
theorem cfunc_x (f : Nat) (lb : Array Value) (eg : ∀ args w, (callFunc f args).run Try.prog w = .ok (.enter f args) w) (p : ByteArray → Bool) (ps : List ByteArray) (A : Option Addr) (n c : Nat) (w : World) (hs : Strs w A n ps) (hp : PredS f lb p ps w) (hn : n ≤ 1000000000) :
    Calls Try.prog 38 #[.slice A n c, .func (.func f) #[] lb] w fun e w' => e = .returned (.bool (ps.any p)) ∧ Below w.heap.size w w' := by
  have HI := Lib.hid (ifunc_x f lb eg p ps A n c w hs hp hn)
  clear hs hp eg
  go_enter Try.func38, Try.ntmps38
  go_wp2_with fail
  refine HI.out.mono ?_
  rintro e w1 ⟨r, rfl, hr, hb⟩
  have HB := Lib.hid hb
  clear hb
  cases ha : ps.any p
  · rw [ha] at hr
    go_wp2_with fail
    go_ret
    exact ⟨by rw [ha]; rfl, HB.out⟩
  · rw [ha] at hr
    go_wp2_with fail
    go_ret
    exact ⟨by rw [ha]; rfl, HB.out⟩
theorem Try.enters36 : ∀ args w, (callFunc 36 args).run Try.prog w = .ok (.enter 36 args) w := enters_of Try.func36 (by kernel_rfl) rfl
theorem Try.enters37 : ∀ args w, (callFunc 37 args).run Try.prog w = .ok (.enter 37 args) w := enters_of Try.func37 (by kernel_rfl) rfl
set_option maxHeartbeats 1000000 in
theorem odd_x (s : ByteArray) (w : World) (hs : s.size < 4294967281) : Calls Try.prog 36 #[.string s] w fun e w' => e = .returned (.bool (!plainB s.data.toList)) ∧ Below w.heap.size w w' := by
  go_enter Try.func36, Try.ntmps36
  go_wp2_with (go_at_call 21; refine (plain_any s w hs).mono ?_; rintro e w' ⟨rfl, hw⟩)
  go_ret
  exact ⟨rfl, hw⟩
set_option maxHeartbeats 1000000 in
theorem long_x (s : ByteArray) (bx : Addr) (most : Int) (w : World) (hc : w.cell? bx = some (.int .i64 most)) : Calls Try.prog 37 #[.string s, .pointer (some bx)] w fun e w' => e = .returned (.bool (decide (most < s.size))) ∧ w = w' := by
  go_enter Try.func37, Try.ntmps37
  go_wp2_with fail
  go_ret
  exact ⟨rfl, rfl⟩

/-- What is wrong with a text's lines. -/
def wrongOf (most : Nat) (ps : List ByteArray) : Int :=
  if ps.any (fun p => !plainB p.data.toList) then 2 else if ps.any (fun p => decide ((most : Int) < p.size)) then 3 else 0
theorem wrongOf_2 {most : Nat} {ps : List ByteArray} (h : ps.any (fun p => !plainB p.data.toList) = true) : wrongOf most ps = 2 := by rw [wrongOf, h, if_pos rfl]
theorem wrongOf_3 {most : Nat} {ps : List ByteArray} (h : ps.any (fun p => !plainB p.data.toList) = false) (h' : ps.any (fun p => decide ((most : Int) < p.size)) = true) : wrongOf most ps = 3 := by rw [wrongOf, h, if_neg (by decide), h', if_pos rfl]
theorem wrongOf_0 {most : Nat} {ps : List ByteArray} (h : ps.any (fun p => !plainB p.data.toList) = false) (h' : ps.any (fun p => decide ((most : Int) < p.size)) = false) : wrongOf most ps = 0 := by rw [wrongOf, h, if_neg (by decide), h', if_neg (by decide)]
theorem ret_int {k : IntKind} {a b : Int} (h : a = b) : Ending.returned (.int k a) = .returned (.int k b) := by rw [h]

set_option maxHeartbeats 1000000 in
theorem wrong_x (most n c : Nat) (ps : List ByteArray) (A : Option Addr) (w : World) (hs : Strs w A n ps) (hz : ∀ p ∈ ps, p.size < 4294967281) (hn : n ≤ 1000000000) :
    Calls Try.prog 27 #[.slice A n c, .int .i64 (most : Int)] w fun e w' => e = .returned (.int .i64 (wrongOf most ps)) ∧ Below w.heap.size w w' := by
  have hb0 : Below w.heap.size w (w.alloc (.cells #[.int .i64 (most : Int)] 3)) := (Below.refl _ _).alloc (Nat.le_refl _) _
  have hbs : (w.alloc (.cells #[.int .i64 (most : Int)] 3)).cell? ⟨w.heap.size, 0, none⟩ = some (.int .i64 (most : Int)) := World.cell?_alloc_at _ _ _ _ rfl
  have H1 := Lib.hid (cfunc_x 36 #[] Try.enters36 (fun p => !plainB p.data.toList) ps A n c _ (hs.below hb0) (fun W x _ hx => odd_x x W (hz x hx)) hn)
  have H2 : Hid (∀ W, Below (w.alloc (.cells #[.int .i64 (most : Int)] 3)).heap.size (w.alloc (.cells #[.int .i64 (most : Int)] 3)) W → Calls Try.prog 38 #[.slice A n c, .func (.func 37) #[] #[.pointer (some ⟨w.heap.size, 0, none⟩)]] W fun e w' => e = .returned (.bool (ps.any (fun p => decide ((most : Int) < p.size)))) ∧ Below W.heap.size W w') := fun W hW =>
    cfunc_x 37 _ Try.enters37 (fun p => decide ((most : Int) < p.size)) ps A n c W ((hs.below hb0).below hW) (fun V x hV _ => (long_x x ⟨w.heap.size, 0, none⟩ most V (by
      rw [hV.cell (Nat.lt_of_lt_of_le (by simp) hW.size), hW.cell (by simp)]; exact hbs)).mono fun e w' ⟨he, hw⟩ => ⟨he, hw ▸ Below.refl _ _⟩) hn
  have HB0 := Lib.hid hb0
  clear hs hz hb0 hbs
  go_enter Try.func27, Try.ntmps27
  go_wp2_with fail
  refine H1.out.mono ?_
  rintro e w1 ⟨rfl, hb1⟩
  have HB1 := Lib.hid hb1
  clear hb1
  cases ha : ps.any (fun p => !plainB p.data.toList)
  · have HA := Lib.hid ha
    clear ha
    go_wp2_with fail
    refine (H2.out _ HB1.out).mono ?_
    rintro e w2 ⟨rfl, hb2⟩
    have HB2 := Lib.hid hb2
    clear hb2
    have hfin := HB0.out.trans ((HB1.out.trans (HB2.out.mono HB1.out.size)).mono HB0.out.size)
    have HFIN := Lib.hid hfin
    clear hfin
    cases hq : ps.any (fun p => decide ((most : Int) < p.size))
    · have HQ := Lib.hid hq
      clear hq
      go_wp2_with fail
      go_ret
      exact ⟨ret_int (wrongOf_0 HA.out HQ.out).symm, HFIN.out⟩
    · have HQ := Lib.hid hq
      clear hq
      go_wp2_with fail
      go_ret
      exact ⟨ret_int (wrongOf_3 HA.out HQ.out).symm, HFIN.out⟩
  · have HA := Lib.hid ha
    clear ha
    go_wp2_with fail
    go_ret
    exact ⟨ret_int (wrongOf_2 HA.out).symm, HB0.out.trans (HB1.out.mono HB0.out.size)⟩
end Go.Proofs.Ytkkpfencnjnddaa
