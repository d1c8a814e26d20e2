/-
  The walks of strings.IndexAny, strings.ContainsAny at the bytes 0, 10, 13, and of Plain: every string.
-/
import Derived.Test.YtkkpfencnjnddaaAny
namespace Go.Proofs.Ytkkpfencnjnddaa
open Go.RowKit
theorem noAny_more {l chars : List UInt8} {i m : Nat} (h : Lib.NoAny l chars i) (hm : ∀ j b, i ≤ j → j < m → l[j]? = some b → chars.contains b = false) : Lib.NoAny l chars m := fun j b hj hb => by
  rcases Nat.lt_or_ge j i with hl | hl
  · exact h j b hl hb
  · exact hm j b hl hj hb
theorem high_not (b : UInt8) (h : 128 ≤ b.toNat) : ends3.data.toList.contains b = false := by
  have h0 : b ≠ 0 := by rintro rfl; exact absurd h (by decide)
  have h1 : b ≠ 10 := by rintro rfl; exact absurd h (by decide)
  have h2 : b ≠ 13 := by rintro rfl; exact absurd h (by decide)
  simp [ends3, h0, h1, h2]
theorem noAny_skip (s : ByteArray) (i : Nat) (hi : i < s.size) (ha : 128 ≤ (s[i]'hi).toNat) (h : Lib.NoAny s.data.toList ends3.data.toList i) : Lib.NoAny s.data.toList ends3.data.toList (i + (Utf8.decode s i).2) :=
  noAny_more h fun j b hij hj hb => by
    obtain ⟨k, rfl⟩ := Nat.exists_eq_add_of_le hij
    obtain ⟨hk, hh⟩ := decode_skip s i hi ha k (by omega)
    have e := Lib.data_getElem? s (i + k) hk
    rw [e] at hb
    injection hb with hb
    rw [← hb]
    exact high_not _ hh
theorem skip_le (s : ByteArray) (i : Nat) (hi : i < s.size) (ha : 128 ≤ (s[i]'hi).toNat) : 1 ≤ (Utf8.decode s i).2 ∧ i + (Utf8.decode s i).2 ≤ s.size := by
  have h1 := (decode_high s i hi ha).2
  refine ⟨h1, ?_⟩
  obtain ⟨hk, _⟩ := decode_skip s i hi ha ((Utf8.decode s i).2 - 1) (by omega)
  omega

theorem below_iterAt {w wx : World} (h : Below w.heap.size w wx) (s : ByteArray) (p : Nat) : Below w.heap.size w (wx.iterAt w.heap.size s p) :=
  ⟨h.os, h.tape, h.output, by rw [Lib.iterAt_size]; exact h.size, fun k hk => (Lib.iterAt_other _ _ _ _ _ (by omega)).trans (h.block k hk)⟩
theorem below_next {w wx w' : World} {s : ByteArray} {i p : Nat} (h : Below w.heap.size w wx) (hit : wx.heap[w.heap.size]? = some (.stringIter s i)) (hb : Below (wx.iterAt w.heap.size s p).heap.size (wx.iterAt w.heap.size s p) w') :
    w'.heap[w.heap.size]? = some (.stringIter s p) ∧ Below w.heap.size w w' := by
  have hlt : w.heap.size < (wx.iterAt w.heap.size s p).heap.size := by rw [Lib.iterAt_size]; exact lt5 hit
  exact ⟨(hb.block _ hlt).trans (Lib.iterAt_heap _ _ _ _ _ hit), (below_iterAt h s p).trans (hb.mono (by omega))⟩
theorem irune_C {C : ByteArray} (hE : Hid (C = ends3)) (r : Int) (w : World) (h : 128 ≤ r) : Calls Try.prog 48 #[.string C, .int .i32 r] w fun e w' => e = .returned (.int .i64 (-1)) ∧ Below w.heap.size w w' := by
  rw [hE.out]; exact irune_high r w h
theorem ends3_toList : ends3.toList.isEmpty = false := by rw [Lib.toList_data]; rfl
set_option maxHeartbeats 1000000 in
set_option maxRecDepth 1000000 in
theorem iany_short (C s : ByteArray) (w : World) (hC : C.size = 3) (hE : Hid (C = ends3)) (h8 : s.size ≤ 8) :
    Calls Try.prog 44 #[.string s, .string C] w fun e w' => e = .returned (.int .i64 (Lib.indexAny s.data.toList ends3.data.toList)) ∧ Below w.heap.size w w' := by
  have hemp : C.toList.isEmpty = false := by rw [hE.out]; exact ends3_toList
  have h8z : decide ((8 : Int) < (s.size : Int)) = false := decide_eq_false (by omega)
  go_enter Try.func44, Try.ntmps44
  go_wp2_with (go_at_call 49; refine (Try.strings_shouldUseASCIISet _ _).mono ?_; rintro e w' ⟨rfl, hw⟩; rw [hw, h8z])
  go_loopg [9, 10] s.size (fun g _ _ wx => ∃ i : Nat, i + g = s.size ∧ Lib.NoAny s.data.toList ends3.data.toList i ∧ wx.heap[w.heap.size]? = some (.stringIter s i) ∧ Below w.heap.size w wx)
  case atStart => exact ⟨0, by omega, Lib.NoAny.zero _ _, World.iter_heap _ _ _, below_iter _ _ _⟩
  case round =>
    obtain ⟨i, hig, hno, hit, hb⟩ := hrel
    have HN := Lib.hid hno
    have HB := Lib.hid hb
    have HI := Lib.hid hit
    clear hno hb hit hC
    cases gk with
    | zero =>
      obtain rfl : i = s.size := by omega
      have hnx := fun ty => Lib.run_next_end_at (P := Try.prog) wr w.heap.size s s.size ty HI.out (by omega)
      go_wp2
      go_ret
      exact ⟨by rw [Lib.indexAny_none (by rw [← Lib.size_eq]; exact HN.out)]; rfl, HB.out⟩
    | succ g =>
      have hi : i < s.size := by omega
      obtain ⟨x, hx⟩ : ∃ x : UInt8, s[i]'hi = x := ⟨_, rfl⟩
      have hxl : s.data.toList[i]? = some x := by rw [← hx]; exact Lib.data_getElem? s i hi
      have Hx := Lib.hid hxl
      clear hxl
      by_cases hlo : x.toNat < 128
      · have hnx := fun ty => Lib.run_next_ascii_at (P := Try.prog) wr w.heap.size s i ty HI.out hi (by rw [hx]; exact hlo)
        rw [hx] at hnx
        have hback : ((x.toNat : Int)).toNat.toUInt8 = x := by simp
        have hcon := Lib.contains_iff_indexByte C.data.toList x
        clear hx
        cases hin : C.data.toList.contains x
        · rw [hin] at hcon
          have hlt : ¬ ((0 : Int) ≤ Lib.indexByte C.data.toList x) := of_decide_eq_false hcon.symm
          rw [hE.out] at hin
          have HIN := Lib.hid hin
          clear hcon hin
          go_wp2_with (go_at_call 48; refine (Try.strings_IndexRune_ascii _ _ _ (by omega) (by omega)).mono ?_; rintro e w' ⟨rfl, hw⟩; rw [hw, hback])
          go_roundg g
          case measure => omega
          case rel => exact ⟨i + 1, by omega, HN.out.succ Hx.out HIN.out, Lib.iterAt_heap _ _ _ _ _ HI.out, below_iterAt HB.out _ _⟩
        · rw [hin] at hcon
          have hge : (0 : Int) ≤ Lib.indexByte C.data.toList x := of_decide_eq_true hcon.symm
          rw [hE.out] at hin
          have HIN := Lib.hid hin
          clear hcon hin
          go_wp2_with (go_at_call 48; refine (Try.strings_IndexRune_ascii _ _ _ (by omega) (by omega)).mono ?_; rintro e w' ⟨rfl, hw⟩; rw [hw, hback])
          go_ret
          exact ⟨by rw [Lib.indexAny_hit HN.out Hx.out HIN.out]; rfl, below_iterAt HB.out _ _⟩
      · have hhi : 128 ≤ (s[i]'hi).toNat := by rw [hx]; omega
        have hnx := fun ty => Lib.run_next_any_at (P := Try.prog) wr w.heap.size s i ty HI.out hi
        have hd := (decode_high s i hi hhi).1
        have hsk := skip_le s i hi hhi
        have hna := Lib.hid (noAny_skip s i hi hhi HN.out)
        clear hx hhi
        generalize Utf8.decode s i = d at hnx hd hsk hna
        obtain ⟨r, m⟩ := d
        simp only at hnx hd hsk hna
        go_wp2_with (go_at_call 48; refine (irune_C hE _ _ (by omega)).mono ?_; rintro e w' ⟨rfl, hbw⟩)
        have hend := Lib.hid (below_next HB.out HI.out hbw)
        clear hbw
        go_roundg (s.size - (i + m))
        case measure => omega
        case rel => exact ⟨i + m, by omega, hna.out, hend.out.1, hend.out.2⟩
theorem iany_any (s : ByteArray) (w : World) (hs : s.size < 4294967281) :
    Calls Try.prog 44 #[.string s, .string ends3] w fun e w' => e = .returned (.int .i64 (Lib.indexAny s.data.toList ends3.data.toList)) ∧ Below w.heap.size w w' := by
  by_cases h8 : s.size ≤ 8
  · exact iany_short ends3 s w rfl rfl h8
  · refine (Try.strings_IndexAny_long (fun _ => by kernel_rfl) s ends3 w (by decide) (by omega) hs (by decide) ?_).mono ?_
    · intro j b hb
      have hm := List.mem_of_getElem? hb
      have h3 : b = 0 ∨ b = 10 ∨ b = 13 := by simpa [ends3] using hm
      rcases h3 with rfl | rfl | rfl <;> decide
    · rintro e w' ⟨rfl, rfl⟩
      exact ⟨rfl, ((Below.refl _ _).alloc (Nat.le_refl _) _).alloc (by simp) _⟩

/-- Is a text without bytes 0, 10 and 13? -/
def plainB (l : List UInt8) : Bool := l.all fun b => b != 0 && b != 10 && b != 13
theorem indexAny_plain : ∀ l : List UInt8, decide (0 ≤ Lib.indexAny l ends3.data.toList) = !plainB l
  | [] => rfl
  | b :: l => by
    have ih := indexAny_plain l
    have hge := Lib.indexAny_ge ends3.data.toList l
    have hc : ends3.data.toList.contains b = !(b != 0 && b != 10 && b != 13) := by
      simp [ends3, bne]
      rw [Bool.eq_iff_iff]
      simp [or_assoc]
    have hp : plainB (b :: l) = ((b != 0 && b != 10 && b != 13) && plainB l) := rfl
    rw [Lib.indexAny, hc, hp]
    cases hb : (b != 0 && b != 10 && b != 13)
    · simp
    · cases hl : plainB l
      · rw [hl] at ih
        have h0 : 0 ≤ Lib.indexAny l ends3.data.toList := of_decide_eq_true ih
        have h1 : (Lib.indexAny l ends3.data.toList == -1) = false := beq_eq_false_iff_ne.2 (by omega)
        simp only [Bool.not_true, Bool.false_eq_true, if_false, h1, Bool.and_false, Bool.not_false]
        exact decide_eq_true (by omega)
      · rw [hl] at ih
        have h0 : ¬ 0 ≤ Lib.indexAny l ends3.data.toList := of_decide_eq_false ih
        have h1 : (Lib.indexAny l ends3.data.toList == -1) = true := beq_iff_eq.2 (by omega)
        simp [h1]

set_option maxHeartbeats 1000000 in
theorem cany_any (s : ByteArray) (w : World) (hs : s.size < 4294967281) :
    Calls Try.prog 35 #[.string s, .string ends3] w fun e w' => e = .returned (.bool (!plainB s.data.toList)) ∧ Below w.heap.size w w' := by
  rw [← indexAny_plain]
  obtain ⟨C, hC⟩ : ∃ C, C = ends3 := ⟨_, rfl⟩
  have HC := Lib.hid hC
  rw [← hC]
  clear hC
  have hr := Lib.hid (iany_any s w hs)
  rw [← HC.out] at hr
  go_enter Try.func35, Try.ntmps35
  go_wp2_with (go_at_call 44; refine hr.out.mono ?_; rintro e w' ⟨rfl, hw⟩)
  go_ret
  exact ⟨rfl, hw⟩
set_option maxHeartbeats 1000000 in
/-- Plain, every string. -/
theorem plain_any (s : ByteArray) (w : World) (hs : s.size < 4294967281) :
    Calls Try.prog 21 #[.string s] w fun e w' => e = .returned (.bool (plainB s.data.toList)) ∧ Below w.heap.size w w' := by
  go_enter Try.func21, Try.ntmps21
  go_wp2_with (go_at_call 35; refine (cany_any s w hs).mono ?_; rintro e w' ⟨rfl, hw⟩)
  go_ret
  exact ⟨by simp, hw⟩
end Go.Proofs.Ytkkpfencnjnddaa
