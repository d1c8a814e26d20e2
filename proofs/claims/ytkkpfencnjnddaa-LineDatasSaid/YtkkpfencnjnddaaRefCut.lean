/-
  The walks of the reference's Plain and Cut.
-/
import Derived.Test.YtkkpfencnjnddaaLoop
import Derived.Test.YtkkpfencnjnddaaScan
namespace Go.Proofs.Ytkkpfencnjnddaa
open Go.RowKit
theorem plain_take {l : List UInt8} {k : Nat} {b : UInt8} (hb : l[k]? = some b) (h : plainB (l.take k) = true) (h0 : b ≠ 0) (h1 : b ≠ 10) (h2 : b ≠ 13) : plainB (l.take (k + 1)) = true := by
  obtain ⟨hk, rfl⟩ := List.getElem?_eq_some_iff.1 hb
  rw [List.take_succ_eq_append_getElem hk]
  unfold plainB at *
  rw [List.all_append, h]
  simp [h0, h1, h2]
theorem plain_not {l : List UInt8} {k : Nat} {b : UInt8} (hb : l[k]? = some b) (h : b = 0 ∨ b = 10 ∨ b = 13) : plainB l = false := by
  cases hp : plainB l
  · rfl
  · have := plainB_mem hp (List.mem_of_getElem? hb)
    rcases h with h | h | h <;> simp [h] at this

theorem byte_eq {b : UInt8} {n : Nat} (hn : n < 256) : (((b.toNat : Int) == (n : Int)) = true) ↔ b = UInt8.ofNat n := by
  rw [beq_iff_eq]
  constructor
  · intro h
    have h' : b.toNat = n := by omega
    exact UInt8.toNat_inj.1 (by rw [h']; simp; omega)
  · rintro rfl
    simp; omega

set_option maxHeartbeats 1000000 in
theorem rplain_x (s : ByteArray) (w : World) (hs : s.size ≤ 1000000000) : Calls Try.prog 22 #[.string s] w fun e w' => e = .returned (.bool (plainB s.data.toList)) ∧ w = w' := by
  go_enter Try.func22, Try.ntmps22
  go_wp2_with fail
  go_loop [3] (fun i => ∃ k : Nat, k ≤ s.size ∧ i = .int .i64 k ∧ Hid (plainB (s.data.toList.take k) = true)) (fun i => s.size - (intOf i).toNat)
  case atStart => exact ⟨0, Nat.zero_le _, rfl, rfl⟩
  case round =>
    obtain ⟨k, hk, rfl, HP⟩ := hrel
    by_cases hlt : k < s.size
    · obtain ⟨x, hx⟩ : ∃ x : UInt8, s[k]'hlt = x := ⟨_, rfl⟩
      have HX := Lib.hid (show s.data.toList[k]? = some x by rw [← hx]; exact Lib.data_getElem? s k hlt)
      by_cases h0 : x = 0
      · have hb : ((x.toNat : Int) == 0) = true := by rw [h0]; rfl
        have HB := Lib.hid (plain_not HX.out (.inl h0))
        clear h0
        go_wp2_with fail
        go_ret
        exact ⟨ret_bool' HB.out, rfl⟩
      · have hb0 : ((x.toNat : Int) == 0) = false := Bool.eq_false_iff.2 fun e => h0 ((byte_eq (n := 0) (by decide)).1 e)
        by_cases h1 : x = 10
        · have hb : ((x.toNat : Int) == 10) = true := by rw [h1]; rfl
          have HB := Lib.hid (plain_not HX.out (.inr (.inl h1)))
          clear h0 h1
          go_wp2_with fail
          go_ret
          exact ⟨ret_bool' HB.out, rfl⟩
        · have hb1 : ((x.toNat : Int) == 10) = false := Bool.eq_false_iff.2 fun e => h1 ((byte_eq (n := 10) (by decide)).1 e)
          by_cases h2 : x = 13
          · have hb : ((x.toNat : Int) == 13) = true := by rw [h2]; rfl
            have HB := Lib.hid (plain_not HX.out (.inr (.inr h2)))
            clear h0 h1 h2
            go_wp2_with fail
            go_ret
            exact ⟨ret_bool' HB.out, rfl⟩
          · have hb2 : ((x.toNat : Int) == 13) = false := Bool.eq_false_iff.2 fun e => h2 ((byte_eq (n := 13) (by decide)).1 e)
            have HN := Lib.hid (plain_take HX.out HP.out h0 h1 h2)
            clear h0 h1 h2
            go_wp2_with fail
            go_round
            case rel => exact ⟨k + 1, by omega, by go_num, HN.out⟩
            case measure => simp [intOf]; omega
    · have hp := HP.out
      rw [List.take_of_length_le (by rw [← Lib.size_eq]; omega)] at hp
      have HQ := Lib.hid hp
      clear hp
      go_wp2_with fail
      go_ret
      exact ⟨ret_bool' HQ.out, rfl⟩
end Go.Proofs.Ytkkpfencnjnddaa
