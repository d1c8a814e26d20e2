import Derived.Test.YtojpkbonioglbaaGreatDoorMaRtZ
namespace Go.Proofs.YtojpkbonioglbaaGreatDoor.E.T
set_option maxRecDepth 100000
set_option linter.unusedSimpArgs false
open Go.RowKit Go.Shelf
theorem same_no {ps qs : List Txt} {k : Nat} {p q : Txt} (h : ps[k]? = some p) (h' : qs[k]? = some q) (hne : (p == q) = false) : (ps == qs) = false :=
 beq_eq_false_iff_ne.2 fun e => by
  rw [e, h'] at h
  injection h with h
  rw [h] at hne
  simp at hne
theorem take_more {ps qs : List Txt} {k : Nat} {p : Txt} (h : ps[k]? = some p) (h' : qs[k]? = some p) (ht : ps.take k = qs.take k) : ps.take (k + 1) = qs.take (k + 1) := by
 obtain ⟨hk, e⟩ := List.getElem?_eq_some_iff.1 h
 obtain ⟨hk', e'⟩ := List.getElem?_eq_some_iff.1 h'
 rw [List.take_succ_eq_append_getElem hk, List.take_succ_eq_append_getElem hk', ht, e, e']
set_option maxHeartbeats 1000000 in
theorem rsame_x (v u : Value) (ps qs : List Txt) (w : World) (hs : TxtsAt w v ps) (hs' : TxtsAt w u qs) (hn : ps.length ≤ 1000000000) :
  Calls Tryz.prog 14 #[v, u] w fun e w' => e = .returned (.bool (ps == qs)) ∧ ∃ m, w' = w.drewN m := by
 obtain ⟨A, c, rfl, _, _, hc⟩ := hs
 obtain ⟨A', c', rfl, _, _, hc'⟩ := hs'
 have HS := Lib.hid hc
 have HS' := Lib.hid hc'
 clear hc hc'
 by_cases hnn : ps.length = qs.length
 ·have HN := Lib.hid hnn
  rw [← hnn]
  clear hnn
  go_enter Tryz.func14, Tryz.ntmps14
  go_wp2_with fail
  go_loopw [5] (fun i wr => ∃ k : Nat, k ≤ ps.length ∧ i = .int .i64 k ∧ ps.take k = qs.take k ∧ ∃ m, wr = w.drewN m) (fun i _ => ps.length - (intOf i).toNat)
  case atStart => exact ⟨0, Nat.zero_le _, rfl, by simp, 0, rfl⟩
  case round =>
   obtain ⟨k, hk, rfl, ht, m, rfl⟩ := hrel
   have HT := Lib.hid ht
   clear ht
   by_cases hlt : k < ps.length
   ·obtain ⟨p, hpk⟩ : ∃ p, ps[k]? = some p := ⟨_, List.getElem?_eq_getElem hlt⟩
    obtain ⟨q, hqk⟩ : ∃ q, qs[k]? = some q := ⟨_, List.getElem?_eq_getElem (by have := HN.out; omega)⟩
    obtain ⟨ad, rfl, hab, hcl⟩ := HS.out k p hpk
    obtain ⟨ad', rfl, hab', hcl'⟩ := HS'.out k q hqk
    have HP := Lib.hid hpk
    have HQ := Lib.hid hqk
    have e1 := mkS_eqb p q
    clear hpk hqk hab hab'
    cases hpq : (p == q)
    ·rw [hpq] at e1
     go_wp2_with fail
     go_quiet (fail)
     go_wp2_with fail
     go_ret
     exact ⟨ret_bool (same_no HP.out HQ.out hpq).symm, _, World.drewN_drewN _ _ _⟩
    ·rw [hpq] at e1
     go_wp2_with fail
     go_quiet (fail)
     go_wp2_with fail
     go_roundw
     case rel => exact ⟨k + 1, by omega, by go_num, take_more HP.out (by rw [HQ.out, eq_of_beq hpq]) HT.out, _, rfl⟩
     case measure => simp [intOf]; omega
   ·go_wp2_with fail
    go_ret
    have e := HT.out
    rw [List.take_of_length_le (by omega), List.take_of_length_le (by have := HN.out; omega)] at e
    exact ⟨ret_bool (by rw [e]; simp), _, rfl⟩
 ·have hb : ((ps.length : Int) != (qs.length : Int)) = true := by rw [bne_iff_ne]; omega
  have HNL := Lib.hid hnn
  clear hnn
  go_enter Tryz.func14, Tryz.ntmps14
  go_wp2_with fail
  go_ret
  exact ⟨ret_bool (beq_eq_false_iff_ne.2 fun e => HNL.out (by rw [e])).symm, 0, rfl⟩
end Go.Proofs.YtojpkbonioglbaaGreatDoor.E.T
