/-
  What a law's arguments are, as the row reads them: rows of texts, texts, numbers; and the row's last step.
-/
import Derived.Test.YtkkpfencnjnddaaApp
import Derived.HandedShaped
import Derived.ProofKit
import Derived.SizedLaws
namespace Go.Proofs.Ytkkpfencnjnddaa
open Go.ChangeShapes Go.WideShapes Go.ChangeAt Go.RowKit
open Go.ChangeMaps (open_string shut_string)

theorem Try.own : ownKnob Try.prog.godebug = none := by kernel_rfl
theorem Try.laidOut : laidOutB Try.prog = true := by kernel_rfl
theorem Try.cells9 : Try.prog.cellsOf 9 = 1 := by kernel_rfl

theorem max_cell {W : World} (h : W.ShapedOpen Try.prog) : ∃ m, W.cell? ⟨0, 0, none⟩ = some (.int .i64 m) := Try.laysM145.s1_3 W h
theorem cell_lt {W : World} {a : Addr} {v : Value} (h : W.cell? a = some v) : a.block < W.heap.size := by
  rcases Nat.lt_or_ge a.block W.heap.size with h' | h'
  · exact h'
  · simp [World.cell?, Array.getElem?_eq_none h'] at h

theorem weights_all {H : Type} {P : Program} {e : TypeId} : ∀ {ds : List (DataW H)} {d : DataW H} {n : Nat}, d ∈ ds → n ∈ d.weights P e → n ∈ DataW.weightsAll P e ds
  | [], _, _, h, _ => by simp at h
  | d0 :: ds, d, n, h, hn => by
    simp only [DataW.weightsAll, List.mem_append]
    rcases List.mem_cons.1 h with rfl | h
    · exact .inl hn
    · exact .inr (weights_all h hn)
theorem sized_strs {H : Type} {ts : List TypeId} {ds : List (DataW H)} {j : Nat} {a b : List ByteArray} (h : (DataW.weightsEach Try.prog ts ds).all (· ≤ reachBytes) = true) (ht : ts[j]? = some 22) (hd : ds[j]? = some (.slice (strs a) (strs b))) : ∀ s ∈ a, s.size ≤ 140737488355328 := by
  intro s hs
  have hm : s.data.toList.length ∈ (DataW.slice (strs (H := H) a) (strs b)).weights Try.prog 22 := by
    simp only [DataW.weights, Try.underlying22, List.mem_cons, List.mem_append]
    refine .inr (.inl (weights_all (d := .lit (.string s.data.toList)) ?_ (by simp [DataW.weights])))
    rw [strs]
    exact List.mem_map.2 ⟨s, hs, rfl⟩
  have := List.all_eq_true.1 h _ (DataW.weights_mem_each ht hd _ hm)
  have h2 : s.data.toList.length ≤ reachBytes := by simpa using this
  have h3 := reachBytes_lt
  rw [Lib.size_eq]
  omega

theorem arg_strs {H : Type} {enc : TypeId × Value → H} {W : World} {base : Nat} {v : Value} {d : DataW H} {p : List MemPlace} {ts : List TypeId} {ds : List (DataW H)} {j : Nat} (hv : Value.okWide Try.prog W .any base 22 v) (h : DataW.Trod enc Try.prog W 0 (fun _ => true) true 22 v d p)
    (hsz : (DataW.weightsEach Try.prog ts ds).all (· ≤ reachBytes) = true) (ht : ts[j]? = some 22) (hd : ds[j]? = some d) :
    ∃ A n c ps, v = .slice A n c ∧ Strs W A n ps ∧ (∀ q ∈ ps, q.size ≤ 140737488355328) ∧ (A = none → c = 0) := by
  obtain ⟨a0, len, cap, rfl⟩ := okWide_slice Try.underlying22 hv
  obtain ⟨fuel, hf⟩ := h
  rcases open_strings Try.underlying22 Try.underlying9 Try.cells9 hf with ⟨hcs, _⟩ | ⟨a, len', cap', ss, hcs, _, hl, _, hz, hx, hcell, _⟩
  · simp [Value.cells] at hcs
    obtain ⟨rfl, rfl, rfl⟩ := hcs
    exact ⟨none, 0, 0, [], rfl, ⟨rfl, fun h => absurd h (by omega)⟩, by simp, fun _ => rfl⟩
  · simp [Value.cells] at hcs
    obtain ⟨rfl, rfl, rfl⟩ := hcs
    simp only [Prod.mk.injEq] at hx
    obtain ⟨rfl, rfl⟩ := hx
    simp only [if_true] at hz
    refine ⟨some a, len, cap, ss.take len, rfl, ⟨by rw [List.length_take]; omega, fun hn => ⟨a, rfl, ?_, fun i q hq => ?_⟩⟩, sized_strs hsz ht hd, fun h => by cases h⟩
    · have := cell_lt (hcell 0 (by omega))
      rwa [add_block] at this
    · have hi : i < (ss.take len).length := (List.getElem?_eq_some_iff.1 hq).1
      rw [List.length_take] at hi
      rw [List.getElem?_take, if_pos (by omega)] at hq
      rw [hcell i (by omega), List.getD, hq]
      rfl
theorem arg_str {H : Type} {enc : TypeId × Value → H} {W : World} {base : Nat} {v : Value} {d : DataW H} {p : List MemPlace} {ts : List TypeId} {ds : List (DataW H)} {j : Nat} (hv : Value.okWide Try.prog W .any base 9 v) (h : DataW.Trod enc Try.prog W 0 (fun _ => true) true 9 v d p)
    (hsz : (DataW.weightsEach Try.prog ts ds).all (· ≤ reachBytes) = true) (ht : ts[j]? = some 9) (hd : ds[j]? = some d) : ∃ s : ByteArray, v = .string s ∧ s.size ≤ 140737488355328 := by
  obtain ⟨s, rfl, rfl, _, _⟩ := open_string Try.underlying9 hv h
  have h2 := sized_string hsz ht hd
  have h3 := reachBytes_lt
  exact ⟨s, rfl, by rw [Lib.size_eq]; omega⟩
end Go.Proofs.Ytkkpfencnjnddaa
