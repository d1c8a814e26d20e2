/-
  Plain's own walk, at every string: strings.IndexAny with the three bytes 0, 10, 13, whether its text is valid UTF-8 or not.
-/
import Derived.Test.YtkkpfencnjnddaaBase
import Derived.Test.YtkkpfencnjnddaaShelf
import Derived.Laws.RangeAny
import Derived.IntWalk
namespace Go.Proofs.Ytkkpfencnjnddaa
open Go.RowKit
def ends3 : ByteArray := { data := #[0, 10, 13] }

theorem encode_size (r : Int) (hv : Utf8.valid r = true) (h : 128 ≤ r) : (Utf8.encode r).size = 2 ∨ (Utf8.encode r).size = 3 ∨ (Utf8.encode r).size = 4 := by
  obtain ⟨h1, h2, _⟩ := encode_facts r hv h
  omega
theorem byte_high {E : ByteArray} {n : Nat} (hn : E.size = n + 1) (h : ∀ h : E.size - 1 < E.size, 128 ≤ (E[E.size - 1]'h).toNat) : ∃ x : UInt8, 128 ≤ x.toNat ∧ ∀ h : n < E.size, E[n]'h = x := by
  have e : E.size - 1 = n := by omega
  refine ⟨E[n]'(by omega), ?_, fun _ => rfl⟩
  have := h (by omega)
  simpa only [e] using this
theorem indexByte_high (l : List UInt8) (x : UInt8) (hx : 128 ≤ x.toNat) (h : ∀ b ∈ l, b.toNat < 128) : Lib.indexByte l x = -1 := by
  induction l with
  | nil => rfl
  | cons b l ih =>
    have hb := h b (by simp)
    have hne : (b == x) = false := beq_eq_false_iff_ne.2 (by rintro rfl; omega)
    rw [Lib.indexByte, hne, ih (fun b hb => h b (by simp [hb]))]
    rfl

theorem ends3_low (i : Nat) (h : i < ends3.size) : (ends3[i]'h).toNat < 128 := by
  have h3 : i < 3 := h
  match i, h3, h with
  | 0, _, _ => exact (by decide : (0 : UInt8).toNat < 128)
  | 1, _, _ => exact (by decide : (10 : UInt8).toNat < 128)
  | 2, _, _ => exact (by decide : (13 : UInt8).toNat < 128)
theorem below_iter (w : World) (s : ByteArray) (p : Nat) : Below w.heap.size w (w.iter s p) := (Below.refl _ _).alloc (Nat.le_refl _) _

set_option maxRecDepth 1000000 in
set_option maxHeartbeats 1000000 in
theorem irune_bad (w : World) : Calls Try.prog 48 #[.string ends3, .int .i32 65533] w fun e w' => e = .returned (.int .i64 (-1)) ∧ Below w.heap.size w w' := by
  obtain ⟨C, hC⟩ : ∃ C, C = ends3 := ⟨_, rfl⟩
  have hlow : ∀ (i : Nat) (h : i < C.size), (C[i]'h).toNat < 128 := by subst hC; exact ends3_low
  have HL := Lib.hid hlow
  rw [← hC]
  clear hlow hC
  go_enter Try.func48, Try.ntmps48
  go_wp2_with fail
  go_loopg [5, 6] C.size (fun g _ _ wx => ∃ i : Nat, i + g = C.size ∧ wx = w.iter C i)
  case atStart => exact ⟨0, by omega, rfl⟩
  case round =>
    obtain ⟨i, hig, rfl⟩ := hrel
    cases gk with
    | zero =>
      obtain rfl : i = C.size := by omega
      have hnx := run_next_end (P := Try.prog) w C C.size
      go_wp2
      go_ret
      exact ⟨rfl, below_iter _ _ _⟩
    | succ g =>
      have hi : i < C.size := by omega
      have hlo := HL.out i hi
      obtain ⟨x, hx⟩ : ∃ x : UInt8, C[i]'hi = x := ⟨_, rfl⟩
      have hnx := fun ty => run_next_ascii (P := Try.prog) w C i ty hi hlo
      rw [hx] at hnx hlo
      have hne : ((x.toNat : Int) == 65533) = false := beq_eq_false_iff_ne.2 (by omega)
      clear hx
      go_wp2
      go_roundg g
      case measure => omega
      case rel => exact ⟨i + 1, by omega, rfl⟩
set_option maxRecDepth 1000000 in
set_option maxHeartbeats 1000000 in
theorem irune_invalid (r : Int) (w : World) (h : 128 ≤ r) (h2 : (r == 65533) = false) (hv : Lib.validRune r = false) : Calls Try.prog 48 #[.string ends3, .int .i32 r] w fun e w' => e = .returned (.int .i64 (-1)) ∧ Below w.heap.size w w' := by
  unfold ends3
  go_enter Try.func48, Try.ntmps48
  go_wp2_with (go_at_call 57; refine (Try.utf8_ValidRune _ _).mono ?_; rintro e w' ⟨rfl, rfl⟩; rw [hv])
  go_ret
  exact ⟨rfl, Below.refl _ _⟩
theorem ib_high (s : ByteArray) (x : UInt8) (hx : 128 ≤ x.toNat) (h : ∀ b ∈ s.data.toList, b.toNat < 128) : Lib.indexByte s.data.toList ((x.toNat : Int).toNat.toUInt8) = -1 := by
  have e : (x.toNat : Int).toNat.toUInt8 = x := by simp
  rw [e]; exact indexByte_high _ x hx h
theorem ib_call (s : ByteArray) (x : UInt8) (hx : 128 ≤ x.toNat) (h : ∀ b ∈ s.data.toList, b.toNat < 128) (w : World) : Calls Try.prog 56 #[.string s, .int .u8 (x.toNat : Int)] w fun e w' => e = .returned (.int .i64 (-1)) ∧ w' = w :=
  (Try.strings_IndexByte s _ w).mono fun _ _ ⟨he, hw⟩ => ⟨by rw [he, ib_high s x hx h], hw⟩
theorem low_extract {C : ByteArray} (hl : ∀ (i : Nat) (h : i < C.size), (C[i]'h).toNat < 128) (a e : Nat) : ∀ b ∈ (C.extract a e).data.toList, b.toNat < 128 := by
  intro b hb
  have hm := mem_extract hb
  obtain ⟨i, hi, he⟩ := List.mem_iff_getElem.1 hm
  have := hl i (by simpa using hi)
  rw [← he]
  exact this
set_option maxRecDepth 1000000 in
set_option maxHeartbeats 1000000 in
theorem irune_n (C : ByteArray) (n : Nat) (h12 : n = 1 ∨ n = 2) (r : Int) (w : World) (h : 128 ≤ r) (h2 : (r == 65533) = false) (hv : Lib.validRune r = true) (x : UInt8) (hx : 128 ≤ x.toNat) (hs : (Utf8.encode r).size = n + 1) (hx1 : ∀ h : n < (Utf8.encode r).size, (Utf8.encode r)[n]'h = x) (hn : n < C.size)
    (hC : C.size = 3) (hlow : ∀ (i : Nat) (h : i < C.size), (C[i]'h).toNat < 128) : Calls Try.prog 48 #[.string C, .int .i32 r] w fun e w' => e = .returned (.int .i64 (-1)) ∧ Below w.heap.size w w' := by
  obtain ⟨y, hy⟩ : ∃ y : UInt8, C[n]'hn = y := ⟨_, rfl⟩
  have hyl := hlow n hn
  rw [hy] at hyl
  have hy1 : ∀ h : n < C.size, C[n]'h = y := fun _ => hy
  have hne : ((y.toNat : Int) != (x.toNat : Int)) = true := by rw [bne_iff_ne]; omega
  have HL := Lib.hid hlow
  have hb3 : n < 3 := by omega
  clear hlow hy
  rcases h12 with rfl | rfl
  all_goals
    go_enter Try.func48, Try.ntmps48
    go_wp2_with (go_at_call 57; refine (Try.utf8_ValidRune _ _).mono ?_; rintro e w' ⟨rfl, rfl⟩; rw [hv])
    go_step3
    go_wp2_with fail
    refine wp_loop_rounds 1 ?_
    rw [rounds_succ]
    go_wp2_with fail
    go_step3
    go_wp2_with fail
    go_quiet (fail)
    go_wp2_with fail
    have w2 : IntKind.i64.wrap 2 = 2 := by decide
    have w3 : IntKind.i64.wrap 3 = 3 := by decide
    go_quiet ((go_at_call 56; exact quiet_more (ib_call _ x hx (by first | exact low_extract HL.out _ _ | simp) _)))
    go_wp2_with fail
    simp only [Exit.noGoto_ret, Exit.inBlock, Exit.then]
    go_ret
    exact ⟨rfl, below_drewN (Below.refl _ _) _⟩
set_option maxRecDepth 1000000 in
set_option maxHeartbeats 1000000 in
theorem irune_4 (C : ByteArray) (r : Int) (w : World) (h : 128 ≤ r) (h2 : (r == 65533) = false) (hv : Lib.validRune r = true) (hs : (Utf8.encode r).size = 4) (hC : C.size = 3) : Calls Try.prog 48 #[.string C, .int .i32 r] w fun e w' => e = .returned (.int .i64 (-1)) ∧ Below w.heap.size w w' := by
  go_enter Try.func48, Try.ntmps48
  go_wp2_with (go_at_call 57; refine (Try.utf8_ValidRune _ _).mono ?_; rintro e w' ⟨rfl, rfl⟩; rw [hv])
  go_step3
  go_wp2_with fail
  refine wp_loop_rounds 1 ?_
  rw [rounds_succ]
  go_wp2_with fail
  simp only [Exit.noGoto_ret, Exit.inBlock]
  go_ret
  exact ⟨rfl, Below.refl _ _⟩
theorem valid_eq (r : Int) : Utf8.valid r = Lib.validRune r := by
  rw [validRune_eq]; rfl
theorem irune_high (r : Int) (w : World) (h : 128 ≤ r) : Calls Try.prog 48 #[.string ends3, .int .i32 r] w fun e w' => e = .returned (.int .i64 (-1)) ∧ Below w.heap.size w w' := by
  by_cases h2 : r = 65533
  · subst h2; exact irune_bad w
  · have h2' : (r == 65533) = false := beq_eq_false_iff_ne.2 h2
    cases hv : Lib.validRune r with
    | false => exact irune_invalid r w h h2' hv
    | true =>
      have hv' : Utf8.valid r = true := by rw [valid_eq]; exact hv
      obtain ⟨_, _, hlast⟩ := encode_facts r hv' h
      rcases encode_size r hv' h with e | e | e
      · obtain ⟨x, hx, hx1⟩ := byte_high (n := 1) e hlast
        exact irune_n ends3 1 (.inl rfl) r w h h2' hv x hx e hx1 (by decide) rfl ends3_low
      · obtain ⟨x, hx, hx1⟩ := byte_high (n := 2) e hlast
        exact irune_n ends3 2 (.inr rfl) r w h h2' hv x hx e hx1 (by decide) rfl ends3_low
      · exact irune_4 ends3 r w h h2' hv e rfl

theorem cont_high {s : ByteArray} {i k : Nat} (h : (decide (i + k < s.size) && (s.get! (i + k)).toNat / 64 == 2) = true) : ∃ hj : i + k < s.size, 128 ≤ (s[i + k]'hj).toNat := by
  simp only [Bool.and_eq_true, decide_eq_true_eq, beq_iff_eq] at h
  refine ⟨h.1, ?_⟩
  have e := get_at s (i + k) h.1
  rw [Nat.add_zero] at e
  have := h.2
  rw [e] at this
  omega
theorem decode_skip (s : ByteArray) (i : Nat) (h : i < s.size) (ha : 128 ≤ (s[i]'h).toNat) (k : Nat) (hk : k < (Utf8.decode s i).2) : ∃ hj : i + k < s.size, 128 ≤ (s[i + k]'hj).toNat := by
  have h0 : ∃ hj : i + 0 < s.size, 128 ≤ (s[i + 0]'hj).toNat := ⟨h, ha⟩
  have hn : ¬ (s[i]'h).toNat < 128 := by omega
  revert hk
  simp only [Utf8.decode, get_at s i h, hn, if_false]
  repeat' split
  all_goals intro hk
  all_goals simp only [Bool.and_eq_true] at *
  all_goals match k, hk with
    | 0, _ => exact h0
    | 1, _ => first | exact cont_high (by simp_all) | (exfalso; omega)
    | 2, _ => first | exact cont_high (by simp_all) | (exfalso; omega)
    | 3, _ => first | exact cont_high (by simp_all) | (exfalso; omega)
    | k + 4, hk => exfalso; omega
end Go.Proofs.Ytkkpfencnjnddaa
