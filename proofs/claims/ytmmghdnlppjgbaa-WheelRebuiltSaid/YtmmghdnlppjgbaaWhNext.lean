/-
  The walk of Next.
-/
import Derived.Test.YtmmghdnlppjgbaaWhNew
namespace Go.Proofs.Ytmmghdnlppjgbaa
set_option maxRecDepth 100000
open Go.RowKit
set_option maxHeartbeats 1000000 in
theorem seekM_x {w : World} {fb ib a : Nat} {found : Bool} {first f : Int} (h : Bx w fb ib found first) (ct : w.cell? ⟨a, 1, none⟩ = some (.int .i64 f)) :
    Calls Try.prog 28 #[ptrV a, .pointer (some ⟨fb, 0, none⟩), .pointer (some ⟨ib, 0, none⟩)] w fun e w' => e = .returned (.tuple #[]) ∧ Bx w' fb ib true (seekN found first f) ∧ Fr (fun k => k = fb ∨ k = ib) w w' := by
  have c1 : w.cell? ⟨fb, 0, none⟩ = some (.bool found) := cellOf h.1 0
  have c2 : w.cell? ⟨ib, 0, none⟩ = some (.int .i64 first) := cellOf h.2 0
  have f1 : w.frozen? ⟨fb, 0, none⟩ = false := freeOf h.1 0
  have f2 : w.frozen? ⟨ib, 0, none⟩ = false := freeOf h.2 0
  have hne : ib ≠ fb := fun e => by have h1 := h.1; rw [← e, h.2] at h1; injection h1 with h1; injection h1 with h1 _; cases h1
  have H := Lib.hid (fun q => h.drewN q)
  have HF : Hid (∀ q, Fr (fun k => k = fb ∨ k = ib) w (((w.drewN q).setCell ⟨ib, 0, none⟩ (.int .i64 f)).setCell ⟨fb, 0, none⟩ (.bool true))) := Lib.hid (fun q => ((Fr.drewN _ w q).set (.inr rfl) 0 _).set (.inl rfl) 0 _)
  clear h
  cases found with
  | false =>
    go_enter Try.func28, Try.ntmps28
    go_wp2_with fail
    go_quiet (fail)
    go_wp2_with fail
    go_end0
    exact ⟨rfl, by simpa [seekN] using (H.out _).set f, HF.out _⟩
  | true =>
    cases hd : decide (f < first) with
    | true =>
      go_enter Try.func28, Try.ntmps28
      go_wp2_with fail
      go_quiet (fail)
      go_wp2_with fail
      go_end0
      exact ⟨rfl, by rw [seekN, if_neg (fun e => e.2 (of_decide_eq_true hd))]; exact (H.out _).set f, HF.out _⟩
    | false =>
      go_enter Try.func28, Try.ntmps28
      go_wp2_with fail
      go_quiet (fail)
      go_wp2_with fail
      go_end0
      exact ⟨rfl, by rw [seekN, if_pos ⟨rfl, of_decide_eq_false hd⟩]; exact H.out _, Fr.drewN _ _ _⟩
/-- What was found of the levels below i. -/
def FdN (S : List Tm) (i : Nat) (found : Bool) (first : Int) : Prop := (found = false → first = 0 ∧ ∀ t ∈ S, ¬ t.lv < i) ∧ (found = true → (∃ t ∈ S, t.f = first) ∧ ∀ t ∈ S, t.lv < i → first ≤ t.f)
theorem FdN.none {S : List Tm} {i : Nat} {found : Bool} {first : Int} (h : FdN S i found first) (hn : ∀ t ∈ S, t.lv ≠ i) : FdN S (i + 1) found first :=
  ⟨fun e => ⟨(h.1 e).1, fun t ht => by have := (h.1 e).2 t ht; have := hn t ht; omega⟩, fun e => ⟨(h.2 e).1, fun t ht hl => (h.2 e).2 t ht (by have := hn t ht; omega)⟩⟩
/-- .. and of some of one slot's. -/
structure FdR (S S0 : List Tm) (i : Nat) (lf : Int → Bool) (found : Bool) (first : Int) : Prop where
  no : found = false → first = 0 ∧ (∀ t ∈ S, ¬ t.lv < i) ∧ ∀ t ∈ S0, lf t.id = true
  yes : found = true → (∃ t ∈ S, t.f = first) ∧ (∀ t ∈ S, t.lv < i → first ≤ t.f) ∧ ∀ t ∈ S0, lf t.id = false → first ≤ t.f
theorem FdN.start {S S0 : List Tm} {i : Nat} {found : Bool} {first : Int} (h : FdN S i found first) {lf : Int → Bool} (hl : ∀ t ∈ S0, lf t.id = true) : FdR S S0 i lf found first :=
  ⟨fun e => ⟨(h.1 e).1, (h.1 e).2, hl⟩, fun e => ⟨(h.2 e).1, (h.2 e).2, fun t ht e2 => by rw [hl t ht] at e2; cases e2⟩⟩
theorem seekN_le (found : Bool) (first f : Int) : seekN found first f ≤ f ∧ (found = true → seekN found first f ≤ first) ∧ (seekN found first f = f ∨ found = true ∧ seekN found first f = first) := by
  unfold seekN
  split
  · rename_i e; exact ⟨by omega, fun _ => Int.le_refl _, .inr ⟨e.1, rfl⟩⟩
  · rename_i e; exact ⟨Int.le_refl _, fun h => by have : f < first := Classical.byContradiction fun h2 => e ⟨h, h2⟩; omega, .inl rfl⟩
theorem FdR.step {S S0 : List Tm} {i : Nat} {lf : Int → Bool} {found : Bool} {first : Int} (h : FdR S S0 i lf found first) {t : Tm} (ht : t ∈ S0) (hs : ∀ t ∈ S0, t ∈ S) (hid : ∀ s ∈ S0, s.id = t.id → s = t) : FdR S S0 i (fun z => lf z && !(z == t.id)) true (seekN found first t.f) := by
  obtain ⟨a1, a2, a3⟩ := seekN_le found first t.f
  refine ⟨fun e => by simp at e, fun _ => ⟨?_, fun s hs' hl => ?_, fun s hs' hl => ?_⟩⟩
  · rcases a3 with e | ⟨e1, e2⟩
    · exact ⟨t, hs t ht, e.symm⟩
    · rw [e2]; exact (h.yes e1).1
  · cases found with
    | false => exact absurd hl ((h.no rfl).2.1 s hs')
    | true => have := (h.yes rfl).2.1 s hs' hl; have := a2 rfl; omega
  · by_cases e : s.id = t.id
    · rw [hid s hs' e]; exact a1
    · have hl2 : lf s.id = false := by simpa [e] using hl
      cases found with
      | false => rw [(h.no rfl).2.2 s hs'] at hl2; cases hl2
      | true => have := (h.yes rfl).2.2 s hs' hl2; have := a2 rfl; omega
theorem FdR.over {S : List Tm} {i k : Nat} {q : Int} {lf : Int → Bool} {found : Bool} {first : Int} (hi : i < 4) (h : FdR S (S.filter fun t => t.no == k) i lf found first) (hk : k = slotN i (q * wd i)) (hne : ∃ t ∈ S, t.no = k) (hq : ∀ t ∈ S, t.lv = i → q ≤ t.f / wd i) {n : Int} (hS : ∀ t ∈ S, Stand n t) (h1 : n / wd i < q) (h2 : q ≤ n / wd i + 64) (hl : ∀ z, lf z = false) : FdN S (i + 1) found first := by
  obtain ⟨t0, ht0, e0⟩ := hne
  have hm0 : t0 ∈ S.filter fun t => t.no == k := List.mem_filter.2 ⟨ht0, by simpa using e0⟩
  have at_q : ∀ t ∈ S, t.no = k → t.lv = i ∧ t.f / wd i = q := fun t ht e => by
    have hlv : t.lv = i := slot_lv (f := t.f) (g := q * wd i) (by rw [← hk]; exact e)
    obtain ⟨a, c⟩ := (hS t ht).1 (by omega)
    rw [hlv] at a c
    refine ⟨hlv, (slot_one a c h1 h2).1 ?_⟩
    rw [← hk, ← hlv]; exact e
  have hp := wd_pos i
  refine ⟨fun e => ?_, fun e => ⟨(h.yes e).1, fun t ht hlt => ?_⟩⟩
  · have := (h.no e).2.2 t0 hm0
    rw [hl] at this
    cases this
  · obtain ⟨_, y2, y3⟩ := h.yes e
    by_cases hlt' : t.lv < i
    · exact y2 t ht hlt'
    · have hlv : t.lv = i := by omega
      have g1 := hq t ht hlv
      by_cases e2 : t.no = k
      · exact y3 t (List.mem_filter.2 ⟨ht, by simpa using e2⟩) (hl _)
      · have g2 : t.f / wd i ≠ q := fun e3 => e2 (by
          rw [hk]; unfold Tm.no; rw [hlv]; apply slot_eq; rw [begins_div, e3])
        have g3 := y3 t0 hm0 (hl _)
        obtain ⟨_, g4⟩ := at_q t0 ht0 e0
        have : t0.f < t.f := div_lt (l := i) (by rw [g4]; omega)
        omega
end Go.Proofs.Ytmmghdnlppjgbaa
