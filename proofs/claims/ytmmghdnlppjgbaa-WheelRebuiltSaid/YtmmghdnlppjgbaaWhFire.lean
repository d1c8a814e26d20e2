/-
  The walk of fire.
-/
import Derived.Test.YtmmghdnlppjgbaaWhAnewX
import Derived.Test.YtmmghdnlppjgbaaIter
import Derived.Test.YtmmghdnlppjgbaaShelf
import Derived.Shelf.SlIterI.Nil
import Derived.Shelf.AbstractIn
namespace Go.Proofs.Ytmmghdnlppjgbaa
set_option maxRecDepth 100000
open Go.RowKit Go.Maps Go.Sort Go.Shelf Go.ChangeMaps Go.MapKept
/-- slices.Sort's two contracts, at the fence that asks nothing. -/
theorem sorts_in (m : Nat) : AnyZI.SortsIn Try.prog Try.sortedA_ren Fence.wide m :=
  ⟨fun blk off cap ss W hH hblk hsz => callsIn_wide.2 (Try.slices_Sort_int blk off cap ss W hH hblk hsz),
   fun p cap W => callsIn_wide.2 (Try.slices_Sort_int_none p cap W)⟩
noncomputable def srtI (l : List Int) : List Int := l.mergeSort fun x y => decide (x ≤ y)
theorem merge_perm {l l' : List Int} (h : l.Perm l') : srtI l = srtI l' := by
  have tr : ∀ a b c : Int, decide (a ≤ b) = true → decide (b ≤ c) = true → decide (a ≤ c) = true := fun a b c h1 h2 => by simp only [decide_eq_true_eq] at *; omega
  have tot : ∀ a b : Int, (decide (a ≤ b) || decide (b ≤ a)) = true := fun a b => by simp only [Bool.or_eq_true, decide_eq_true_eq]; omega
  refine List.Perm.eq_of_pairwise (le := fun a b : Int => decide (a ≤ b) = true) (fun a b _ _ h1 h2 => ?_) (List.pairwise_mergeSort tr tot l) (List.pairwise_mergeSort tr tot l') (((List.mergeSort_perm l _).trans h).trans (List.mergeSort_perm l' _).symm)
  simp only [decide_eq_true_eq] at h1 h2
  omega
theorem srtI_perm (l : List Int) : (srtI l).Perm l := List.mergeSort_perm l _
theorem keys_x (mb : Option Nat) (W : World) : Calls Try.prog 37 #[.map mb] W fun e w' => e = .returned (.func (.func 40) #[] #[.pointer (some ⟨W.heap.size, 0, none⟩)]) ∧ w' = W.alloc (.cells #[.map mb] 59) :=
  callsIn_wide.1 (AnyZI.keys_in Try.keysA Fence.wide 5 trivial rfl mb W)
theorem sorted_x (w : World) (mb : Option Nat) (K : List (Int × Value)) (h0 : mb = none → K = []) (h1 : ∀ m, mb = some m → JAt w m K) (hl : K.length ≤ 1000000) :
    Calls Try.prog 36 #[.func (.func 40) #[] #[.pointer (some ⟨w.heap.size, 0, none⟩)]] (w.alloc (.cells #[.map mb] 59)) fun e w' =>
      ∃ v, e = .returned v ∧ w'.ownsRow w.heap.size 3 1 v K.length ((srtI (K.map Prod.fst)).map fun i => .int .i64 i) ∧ Below w.heap.size w w' := by
  refine (callsIn_wide (n := 5)).1 ?_
  cases mb with
  | none =>
    have hK := h0 rfl
    subst hK
    have hseq := AnyZI.keys_gives_nil (ρ := Try.keysA_ren) { Try.keysA with } Fence.wide 2 trivial rfl w.heap.size (w.alloc (.cells #[.map none] 59)) (by simp) (by simp)
    have cS := AnyZI.sorted_in Try.sortedA Fence.wide 5 trivial trivial trivial trivial rfl (by omega) (sorts_in _) (enters_of Try.func39 (by kernel_rfl) rfl) 40 #[.pointer (some ⟨w.heap.size, 0, none⟩)] trivial (enters_of Try.func40 (by kernel_rfl) rfl) _ _ (by unfold maxLen; omega) (by omega) _ hseq
    refine cS.mono ?_
    rintro e w' ⟨v, ss, rfl, hS, hrow, _, hb⟩
    have hS' : ss = [] := hS
    subst hS'
    refine ⟨v, rfl, ?_, ((Below.refl _ w).alloc (Nat.le_refl _) _).trans (hb.mono (by simp))⟩
    exact own_mono hrow (B' := w.heap.size) (by simp)
  | some m =>
    obtain ⟨es, hown, hp⟩ := h1 m rfl
    have hbl := hown.lt
    have hsize : Maps.size (.map es : DataW Value) = K.length := by rw [size_eq, hp.length_eq, List.length_map]
    have hkeys : (intKeys (.map es : DataW Value)).Perm (K.map Prod.fst) := by
      have e1 : (intKeys (.map es : DataW Value)).Perm ((K.map jntV).map fun p => Go.intOf p.1) := hp.map _
      refine e1.trans ?_
      rw [List.map_map]
      exact List.Perm.refl _
    have hseq : SeqGives Fence.wide 2 Try.prog 40 #[.pointer (some ⟨w.heap.size, 0, none⟩)] encZ (fun ss => ss.Perm (intKeys (.map es : DataW Value))) (Maps.size (.map es : DataW Value)) (w.alloc (.cells #[.map (some m)] 59)) :=
      AnyZI.keys_gives (ρ := Try.keysA_ren) { Try.keysA with } Fence.wide _ trivial rfl (by omega) w.heap.size m _ (.map es : DataW Value) _ (by simp) (by simp) (by
        obtain ⟨es', clock, hb, Ft, hs, hD⟩ := hown
        exact ⟨es', clock, (Below.heap_alloc _ _ m hbl).trans hb, Ft, hs, hD⟩)
    have cS := AnyZI.sorted_in Try.sortedA Fence.wide 5 trivial trivial trivial trivial rfl (by omega) (sorts_in _) (enters_of Try.func39 (by kernel_rfl) rfl) 40 #[.pointer (some ⟨w.heap.size, 0, none⟩)] trivial (enters_of Try.func40 (by kernel_rfl) rfl) _ _ (by rw [hsize]; unfold maxLen; omega) (by rw [hsize]; omega) _ hseq
    refine cS.mono ?_
    rintro e w' ⟨v, ss, rfl, hS, hrow, _, hb⟩
    have hperm : ss.Perm (K.map Prod.fst) := hS.trans hkeys
    have hlen : ss.length = K.length := by rw [hperm.length_eq, List.length_map]
    refine ⟨v, rfl, ?_, ((Below.refl _ w).alloc (Nat.le_refl _) _).trans (hb.mono (by simp))⟩
    have := own_mono hrow (B' := w.heap.size) (by simp)
    rw [hlen] at this
    have e : srtI ss = srtI (K.map Prod.fst) := merge_perm hperm
    unfold srtI at e ⊢
    rw [← e]
    exact this
end Go.Proofs.Ytmmghdnlppjgbaa
