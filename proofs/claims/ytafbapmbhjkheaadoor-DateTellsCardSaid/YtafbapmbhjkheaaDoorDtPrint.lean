/-
  The walk of package date's Print.
-/
import Derived.Test.YtafbapmbhjkheaaDoorDtLay
namespace Go.Proofs.YtafbapmbhjkheaaDoor
open Go.RowKit
def PrintPost (t : Int) (w : World) (e : Ending) (w' : World) : Prop := e = .returned (.tuple #[.string (mkS (printS t)), .int .i64 (printE t)]) ∧ Below w.heap.size w w'
set_option maxHeartbeats 1000000 in
theorem print_no (t : Int) (w : World) (ht : timB t = false) : Calls Tryd.prog 15 #[.int .i64 t] w (PrintPost t w) := by
  have HT := Lib.hid (time_x t w)
  have HS := Lib.hid (show printS t = [] ∧ printE t = 1 by unfold printS printE; rw [ht]; exact ⟨rfl, rfl⟩)
  rw [ht] at HT
  clear ht
  go_enter Tryd.func15, Tryd.ntmps15
  go_wp2_with fail
  refine HT.out.mono ?_
  rintro e w' ⟨rfl, rfl⟩
  go_wp2_with fail
  go_ret2
  exact ⟨by rw [HS.out.1, HS.out.2]; rfl, Below.refl _ _⟩
/-- What holds in Print: what was laid so far, and the date in its box. -/
structure PS (w0 w1 : World) (l : List UInt8) (y m d : Nat) (w : World) : Prop where
  bld : Bld (w1.heap.size + 1) l w
  box : w.heap[w1.heap.size]? = some (.cells #[.int .i64 (y : Int), .int .i64 (m : Int), .int .i64 (d : Int)] 23 (0, 0))
  below : Below w0.heap.size w0 w
theorem ps_new {w0 w1 : World} (h : Below w0.heap.size w0 w1) (y m d : Nat) :
    PS w0 w1 [] y m d ((w1.alloc (.cells #[.int .i64 (y : Int), .int .i64 (m : Int), .int .i64 (d : Int)] 23)).alloc (.cells #[.pointer none, .slice none 0 0] 58)) := by
  have h0 := newOf w1 (.cells #[.int .i64 (y : Int), .int .i64 (m : Int), .int .i64 (d : Int)] 23)
  have h1 := bld_new (w1.alloc (.cells #[.int .i64 (y : Int), .int .i64 (m : Int), .int .i64 (d : Int)] 23))
  have s1 : (w1.alloc (.cells #[.int .i64 (y : Int), .int .i64 (m : Int), .int .i64 (d : Int)] 23)).heap.size = w1.heap.size + 1 := by simp
  rw [s1] at h1
  refine ⟨h1, ?_, ?_⟩
  · rw [Below.heap_alloc _ _ _ (by rw [s1]; omega)]; exact h0
  · exact (h.alloc h.size _).alloc (by have := h.size; rw [s1]; omega) _
theorem PS.next {w0 w1 w w' : World} {l l' : List UInt8} {y m d : Nat} (h : PS w0 w1 l y m d w) (hs : w0.heap.size ≤ w1.heap.size) (hb : Bld (w1.heap.size + 1) l' w') (hw : Below (w1.heap.size + 1) w w') : PS w0 w1 l' y m d w' :=
  ⟨hb, (hw.block _ (by omega)).trans h.box, h.below.trans (hw.mono (by omega))⟩
theorem ps2_x {w0 w1 w : World} {l : List UInt8} {y m d : Nat} (h : PS w0 w1 l y m d w) (hs : w0.heap.size ≤ w1.heap.size) (v : Int) (x : UInt8) (h0 : 0 ≤ v) (h1 : v < 100) (hl : l.length ≤ 1000) :
    Calls Tryd.prog 33 #[.int .i64 v, .int .i64 2, .string { data := #[x] }, .pointer (some ⟨w1.heap.size + 1, 0, none⟩)] w fun e w' => e = .returned (.tuple #[]) ∧ PS w0 w1 (l ++ b2 v.toNat ++ [x]) y m d w' := by
  obtain ⟨n, rfl⟩ : ∃ n : Nat, v = n := ⟨v.toNat, by omega⟩
  rw [Int.toNat_natCast]
  exact (lay2_x _ l [x] n w h.bld hl (by simp) (by omega)).mono fun e w' ⟨he, hb, hw⟩ => ⟨he, h.next hs hb hw⟩
theorem ps4_x {w0 w1 w : World} {l : List UInt8} {y m d : Nat} (h : PS w0 w1 l y m d w) (hR : Ready w0) (hs : w0.heap.size ≤ w1.heap.size) (n : Nat) (x : UInt8) (h0 : 1000 ≤ n) (h1 : n < 10000) (hl : l.length ≤ 1000) :
    Calls Tryd.prog 33 #[.int .i64 (n : Int), .int .i64 4, .string { data := #[x] }, .pointer (some ⟨w1.heap.size + 1, 0, none⟩)] w fun e w' => e = .returned (.tuple #[]) ∧ PS w0 w1 (l ++ b4 n ++ [x]) y m d w' :=
  (lay4_x _ l [x] n w (hR.below h.below) h.bld hl (by simp) h0 h1).mono fun e w' ⟨he, hb, hw⟩ => ⟨he, h.next hs hb hw⟩
theorem text_eq (y m d h i s : Nat) : [] ++ b4 y ++ [45] ++ b2 m ++ [45] ++ b2 d ++ [84] ++ b2 h ++ [58] ++ b2 i ++ [58] ++ b2 s ++ [90] = textX y m d h i s := rfl
set_option maxHeartbeats 4000000 in
theorem print_yes (t : Int) (w : World) (hR : Ready w) (ht : timB t = true) : Calls Tryd.prog 15 #[.int .i64 t] w (PrintPost t w) := by
  have htb := timB_iff.1 ht
  have HT := Lib.hid (time_x t w)
  have HO := Lib.hid (of_x (t / 86400) w hR)
  have hsp := ofD_spec (n := t / 86400) (by omega) (by omega)
  have HE := Lib.hid (show ofV (t / 86400) = .tuple #[.agg #[.int .i64 (ofD (t / 86400)).1, .int .i64 (ofD (t / 86400)).2.1, .int .i64 (ofD (t / 86400)).2.2], .int .i64 0] by rw [ofV, ofE, if_pos (by omega)])
  have HS := Lib.hid (show printS t = textX (ofD (t / 86400)).1.toNat (ofD (t / 86400)).2.1.toNat (ofD (t / 86400)).2.2.toNat (t % 86400 / 3600).toNat (t % 3600 / 60).toNat (t % 60).toNat ∧ printE t = 0 by unfold printS printE printX; rw [ht]; exact ⟨rfl, rfl⟩)
  unfold OfPost at HO
  rw [HE.out] at HO
  rw [ht] at HT
  generalize (ofD (t / 86400)).1 = y at *
  generalize (ofD (t / 86400)).2.1 = m at *
  generalize (ofD (t / 86400)).2.2 = d at *
  have hv := hsp.1
  have hm := hv.m
  have hd := hv.d31
  have hd1 := hv.d1
  have hy1 := hv.y1
  have hy2 := hv.y2
  have HR := Lib.hid hR
  clear hsp ht hv HE hR
  obtain ⟨y, rfl⟩ : ∃ k : Nat, y = k := ⟨y.toNat, by omega⟩
  obtain ⟨m, rfl⟩ : ∃ k : Nat, m = k := ⟨m.toNat, by omega⟩
  obtain ⟨d, rfl⟩ : ∃ k : Nat, d = k := ⟨d.toNat, by omega⟩
  go_enter Tryd.func15, Tryd.ntmps15
  go_wp2_with fail
  refine HT.out.mono ?_
  rintro e w' ⟨rfl, rfl⟩
  go_wp2_with fail
  refine HO.out.mono ?_
  rintro e w1 ⟨rfl, hb1⟩
  have HB1 := Lib.hid hb1
  clear hb1
  go_wp2_with fail
  have HZ := Lib.hid HB1.out.size
  refine (ps4_x (ps_new HB1.out y m d) HR.out HZ.out y 45 (by omega) (by omega) (by simp)).mono ?_
  rintro e v1 ⟨rfl, hp⟩
  have P1 := Lib.hid hp
  clear hp
  have hc1 := cellOf P1.out.box 1
  go_wp2_with fail
  clear hc1
  refine (ps2_x P1.out HZ.out ((m : Nat) : Int) 45 (by omega) (by omega) (by simp [b4])).mono ?_
  rintro e v2 ⟨rfl, hp⟩
  have P2 := Lib.hid hp
  clear hp
  have hc2 := cellOf P2.out.box 2
  go_wp2_with fail
  clear hc2
  refine (ps2_x P2.out HZ.out ((d : Nat) : Int) 84 (by omega) (by omega) (by simp [b2, b4])).mono ?_
  rintro e v3 ⟨rfl, hp⟩
  have P3 := Lib.hid hp
  clear hp
  go_wp2_with fail
  refine (ps2_x P3.out HZ.out (t % 86400 / 3600) 58 (by omega) (by omega) (by simp [b2, b4])).mono ?_
  rintro e v4 ⟨rfl, hp⟩
  have P4 := Lib.hid hp
  clear hp
  go_wp2_with fail
  refine (ps2_x P4.out HZ.out (t % 3600 / 60) 58 (by omega) (by omega) (by simp [b2, b4])).mono ?_
  rintro e v5 ⟨rfl, hp⟩
  have P5 := Lib.hid hp
  clear hp
  go_wp2_with fail
  refine (ps2_x P5.out HZ.out (t % 60) 90 (by omega) (by omega) (by simp [b2, b4])).mono ?_
  rintro e v6 ⟨rfl, hp⟩
  have P6 := Lib.hid hp
  clear hp
  go_wp2_with fail
  refine (bld_string P6.out.bld).mono ?_
  rintro e v7 ⟨rfl, _, hw⟩
  have HW := Lib.hid (P6.out.below.trans (hw.mono (by have := HZ.out; omega)))
  clear hw
  go_wp2_with fail
  go_ret2
  exact ⟨by rw [HS.out.1, HS.out.2]; rfl, HW.out⟩
theorem print_x (t : Int) (w : World) (hR : Ready w) : Calls Tryd.prog 15 #[.int .i64 t] w (PrintPost t w) := by
  cases ht : timB t
  · exact print_no t w ht
  · exact print_yes t w hR ht
end Go.Proofs.YtafbapmbhjkheaaDoor
