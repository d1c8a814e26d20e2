/-
  The walks of few and of the reference's Same.
-/
import Derived.Test.YtkkpfencnjnddaaUnd
namespace Go.Proofs.Ytkkpfencnjnddaa
open Go.RowKit
def fewB (ps : List ByteArray) : Bool := decide (ps.length ≤ 100 ∧ (joinB ps).length ≤ 20000)
theorem fewB_yes {ps : List ByteArray} (h1 : ps.length ≤ 100) (h2 : (joinB ps).length ≤ 20000) : fewB ps = true := decide_eq_true ⟨h1, h2⟩
theorem fewB_no {ps : List ByteArray} (h : 100 < ps.length ∨ 20000 < (joinB ps).length) : fewB ps = false := decide_eq_false (by omega)
theorem join_mono (ps : List ByteArray) (k : Nat) : (joinB (ps.take k)).length ≤ (joinB ps).length := by
  have e : joinB ps = joinB (ps.take k) ++ joinB (ps.drop k) := by rw [← joinB_append, List.take_append_drop]
  rw [e, List.length_append]
  omega
theorem join_step {ps : List ByteArray} {k : Nat} {p : ByteArray} (h : ps[k]? = some p) : (joinB (ps.take (k + 1))).length = (joinB (ps.take k)).length + p.size := by
  rw [joinB_take h, List.length_append, ← Lib.size_eq]
theorem ret_bool' {a b : Bool} (h : b = a) : Ending.returned (.bool a) = .returned (.bool b) := by rw [h]

set_option maxHeartbeats 1000000 in
theorem few_x (n c : Nat) (ps : List ByteArray) (A : Option Addr) (w : World) (hs : Strs w A n ps) (hz : ∀ p ∈ ps, p.size ≤ 140737488355328) :
    Calls Try.prog 9 #[.slice A n c] w fun e w' => e = .returned (.bool (fewB ps)) ∧ w = w' := by
  have HS := Lib.hid hs
  have HZ := Lib.hid hz
  clear hs hz
  go_enter Try.func9, Try.ntmps9
  go_wp2_with fail
  go_loop [3, 4] (fun t i => ∃ k : Nat, k ≤ n ∧ k ≤ 100 ∧ i = .int .i64 k ∧ t = .int .i64 ((joinB (ps.take k)).length : Nat) ∧ (joinB (ps.take k)).length ≤ 20000) (fun _ i => n - (intOf i).toNat)
  case atStart => exact ⟨0, Nat.zero_le _, Nat.zero_le _, rfl, rfl, by simp [joinB]⟩
  case round =>
    obtain ⟨k, hk, hk1, rfl, rfl, hj⟩ := hrel
    by_cases hlt : k < n
    · obtain ⟨ad, p, rfl, hpk, hab, hcl⟩ := HS.out.cell hlt
      have hpz := HZ.out p (List.mem_of_getElem? hpk)
      have hst := join_step hpk
      have hle := join_mono ps (k + 1)
      have hlen := HS.out.1
      generalize hJ : (joinB (ps.take k)).length = J at hj hst
      have HST := Lib.hid hst
      have HLE := Lib.hid hle
      have HLEN := Lib.hid hlen
      clear hst hle hlen hpk hJ
      by_cases h100 : k < 100
      · have d1 : decide ((100 : Int) ≤ (k : Int)) = false := decide_eq_false (by omega)
        by_cases h2 : J + p.size ≤ 20000
        · have d2 : decide ((20000 : Int) < (J : Int) + (p.size : Int)) = false := decide_eq_false (by omega)
          go_wp2_with fail
          go_round
          case rel => exact ⟨k + 1, by omega, by omega, by go_num, by rw [HST.out]; go_num, by rw [HST.out]; exact h2⟩
          case measure => simp [intOf]; omega
        · have d2 : decide ((20000 : Int) < (J : Int) + (p.size : Int)) = true := decide_eq_true (by omega)
          go_wp2_with fail
          go_ret
          exact ⟨ret_bool' (fewB_no (.inr (by have := HST.out; have := HLE.out; omega))), rfl⟩
      · have d1 : decide ((100 : Int) ≤ (k : Int)) = true := decide_eq_true (by omega)
        go_wp2_with fail
        go_ret
        exact ⟨ret_bool' (fewB_no (.inl (by have := HLEN.out; omega))), rfl⟩
    · go_wp2_with fail
      go_ret
      exact ⟨ret_bool' (fewB_yes (by rw [HS.out.1]; omega) (by rw [List.take_of_length_le (by rw [HS.out.1]; omega)] at hj; exact hj)), rfl⟩

theorem ba_eq {p q : ByteArray} (h : p.toList = q.toList) : p = q := by
  rw [Lib.toList_data, Lib.toList_data] at h
  cases p; cases q
  rw [ByteArray.mk.injEq]
  exact Array.toList_inj.1 h
theorem ba_ne {p q : ByteArray} (h : p ≠ q) : (p.toList == q.toList) = false := beq_eq_false_iff_ne.2 fun e => h (ba_eq e)
def sameB (ps qs : List ByteArray) : Bool := decide (ps = qs)
theorem same_no_len {ps qs : List ByteArray} (h : ps.length ≠ qs.length) : sameB ps qs = false := decide_eq_false (fun e => h (by rw [e]))
theorem same_no {ps qs : List ByteArray} {k : Nat} {p q : ByteArray} (h : ps[k]? = some p) (h' : qs[k]? = some q) (hne : p ≠ q) : sameB ps qs = false := decide_eq_false (fun e => hne (by rw [e, h'] at h; injection h with h; exact h.symm))
theorem take_more {ps qs : List ByteArray} {k : Nat} {p : ByteArray} (h : ps[k]? = some p) (h' : qs[k]? = some p) (ht : ps.take k = qs.take k) : ps.take (k + 1) = qs.take (k + 1) := by
  obtain ⟨hk, e⟩ := List.getElem?_eq_some_iff.1 h
  obtain ⟨hk', e'⟩ := List.getElem?_eq_some_iff.1 h'
  rw [List.take_succ_eq_append_getElem hk, List.take_succ_eq_append_getElem hk', ht, e, e']

set_option maxHeartbeats 1000000 in
theorem same_x (n c n' c' : Nat) (ps qs : List ByteArray) (A A' : Option Addr) (w : World) (hs : Strs w A n ps) (hs' : Strs w A' n' qs) (hn : n ≤ 1000000000) :
    Calls Try.prog 20 #[.slice A n c, .slice A' n' c'] w fun e w' => e = .returned (.bool (sameB ps qs)) ∧ Below w.heap.size w w' := by
  have HS := Lib.hid hs
  have HS' := Lib.hid hs'
  clear hs hs'
  by_cases hnn : n = n'
  · subst hnn
    go_enter Try.func20, Try.ntmps20
    go_wp2_with fail
    go_loopw [5] (fun i wr => ∃ k : Nat, k ≤ n ∧ i = .int .i64 k ∧ ps.take k = qs.take k ∧ ∃ m, wr = w.drewN m) (fun i _ => n - (intOf i).toNat)
    case atStart => exact ⟨0, Nat.zero_le _, rfl, by simp, 0, rfl⟩
    case round =>
      obtain ⟨k, hk, rfl, ht, m, rfl⟩ := hrel
      have HT := Lib.hid ht
      clear ht
      by_cases hlt : k < n
      · obtain ⟨ad, p, rfl, hpk, hab, hcl⟩ := HS.out.cell hlt
        obtain ⟨ad', q, rfl, hqk, hab', hcl'⟩ := HS'.out.cell hlt
        have HP := Lib.hid hpk
        have HQ := Lib.hid hqk
        clear hpk hqk
        by_cases hpq : p = q
        · subst hpq
          go_wp2_with fail
          go_quiet (fail)
          go_wp2_with fail
          go_roundw
          case rel => exact ⟨k + 1, by omega, by go_num, take_more HP.out HQ.out HT.out, _, rfl⟩
          case measure => simp [intOf]; omega
        · have hb : (p.toList == q.toList) = false := ba_ne hpq
          go_wp2_with fail
          go_quiet (fail)
          go_wp2_with fail
          go_ret
          exact ⟨ret_bool' (same_no HP.out HQ.out hpq), below_drewN (below_drewN (Below.refl _ _) _) _⟩
      · go_wp2_with fail
        go_ret
        have e := HT.out
        rw [List.take_of_length_le (by rw [HS.out.1]; omega), List.take_of_length_le (by rw [HS'.out.1]; omega)] at e
        exact ⟨ret_bool' (decide_eq_true e), below_drewN (Below.refl _ _) _⟩
  · have hb : ((n : Int) != (n' : Int)) = true := by rw [bne_iff_ne]; omega
    have hnl : ps.length ≠ qs.length := by rw [HS.out.1, HS'.out.1]; exact hnn
    have HNL := Lib.hid hnl
    clear hnl
    go_enter Try.func20, Try.ntmps20
    go_wp2_with fail
    go_ret
    exact ⟨ret_bool' (same_no_len HNL.out), Below.refl _ _⟩
end Go.Proofs.Ytkkpfencnjnddaa
