/-
  A slice of texts as a law's argument.
-/
import Derived.Test.YtfejepkpjoieoaaOpen
import Derived.Test.YtfejepkpjoieoaaTxts
import Derived.SliceStrings
import Derived.Deep.DeepHandedRow
import Derived.Lib.SmallJoins
namespace Go.Proofs.Ytfejepkpjoieoaa
set_option maxRecDepth 100000
open Go.ChangeShapes Go.WideShapes Go.ChangeAt Go.RowKit
open Go.ChangeMaps (open_string shut_string)
/-- A slice of texts, as it is trod. -/
theorem trod_txts {H : Type} {enc : TypeId × Value → H} {W : World} {n : Nat} {c : Value} {x : DataW H × List MemPlace} (h : DataW.trod enc Try.prog W 0 (fun _ => true) true n 22 [c] = some x) : ∃ l : List Txt, TxtsAt W c l := by
  rcases open_strings Try.underlying22 Try.underlying9 Try.cells9 h with ⟨hcs, _⟩ | ⟨a, len, cap, ss, hcs, _, hl, _, hz, _, hcell, _⟩
  · injection hcs with hcs
    subst hcs
    exact ⟨[], txts_nil W⟩
  · injection hcs with hcs
    subst hcs
    simp only [if_true] at hz
    have hlen : ((ss.take len).map fun b => b.data.toList).length = len := by rw [List.length_map, List.length_take]; omega
    refine ⟨(ss.take len).map fun b => b.data.toList, some a, cap, by rw [hlen], by rw [hlen]; exact hl, fun e => by (cases e), fun i t hi => ?_⟩
    rw [List.getElem?_map, Option.map_eq_some_iff] at hi
    obtain ⟨q, hq, rfl⟩ := hi
    have hil : i < (ss.take len).length := (List.getElem?_eq_some_iff.1 hq).1
    rw [List.length_take] at hil
    rw [List.getElem?_take, if_pos (by omega)] at hq
    have hc := hcell i (by omega)
    have hb := cell_lt hc
    rw [add_block] at hb
    refine ⟨a, rfl, hb, ?_⟩
    rw [hc, List.getD, hq]
    show some (Value.string q) = some (Value.string (mkS q.data.toList))
    obtain ⟨l, rfl⟩ := mkS_of q
    rw [mkS_data]
theorem arg_txts {H : Type} {enc : TypeId × Value → H} {W : World} {base : Nat} {v : Value} {d : DataW H} {p : List MemPlace} (hv : Value.okWide Try.prog W .any base 22 v) (h : DataW.Trod enc Try.prog W 0 (fun _ => true) true 22 v d p) : ∃ l : List Txt, TxtsAt W v l := by
  obtain ⟨a0, len, cap, rfl⟩ := okWide_slice Try.underlying22 hv
  obtain ⟨fuel, hf⟩ := h
  exact trod_txts (by simpa [Value.cells] using hf)
theorem weights_all {H : Type} {P : Program} {e : TypeId} : ∀ {ds : List (DataW H)} {d : DataW H} {n : Nat}, d ∈ ds → n ∈ d.weights P e → n ∈ DataW.weightsAll P e ds
  | [], _, _, h, _ => by simp at h
  | d0 :: ds, d, n, h, hn => by
    simp only [DataW.weightsAll, List.mem_append]
    rcases List.mem_cons.1 h with rfl | h
    · exact .inl hn
    · exact .inr (weights_all h hn)
theorem sized_strs {H : Type} {ts : List TypeId} {ds : List (DataW H)} {j : Nat} {a b : List ByteArray} (h : (DataW.weightsEach Try.prog ts ds).all (· ≤ reachBytes) = true) (ht : ts[j]? = some 22) (hd : ds[j]? = some (.slice (strs a) (strs b))) : ∀ s ∈ a, s.size ≤ 140737488355328 := by
  intro s hs
  have hm : s.data.toList.length ∈ (DataW.slice (strs (H := H) a) (strs b)).weights Try.prog 22 := by
    simp only [DataW.weights, Try.underlying22, List.mem_cons, List.mem_append]
    refine .inr (.inl (weights_all (d := .lit (.string s.data.toList)) ?_ (by simp [DataW.weights])))
    rw [strs]
    exact List.mem_map.2 ⟨s, hs, rfl⟩
  have := List.all_eq_true.1 h _ (DataW.weights_mem_each ht hd _ hm)
  have h2 : s.data.toList.length ≤ reachBytes := by simpa using this
  have h3 := reachBytes_lt
  rw [Lib.size_eq]
  omega
/-- A slice of texts, and how long each is at most. -/
theorem arg_txtz {H : Type} {enc : TypeId × Value → H} {W : World} {base : Nat} {v : Value} {d : DataW H} {p : List MemPlace} {ts : List TypeId} {ds : List (DataW H)} {j : Nat} (hv : Value.okWide Try.prog W .any base 22 v) (h : DataW.Trod enc Try.prog W 0 (fun _ => true) true 22 v d p)
    (hsz : (DataW.weightsEach Try.prog ts ds).all (· ≤ reachBytes) = true) (ht : ts[j]? = some 22) (hd : ds[j]? = some d) : ∃ l : List Txt, TxtsAt W v l ∧ ∀ t ∈ l, t.length ≤ 140737488355328 := by
  obtain ⟨a0, len0, cap0, rfl⟩ := okWide_slice Try.underlying22 hv
  obtain ⟨fuel, hf⟩ := h
  rcases open_strings Try.underlying22 Try.underlying9 Try.cells9 hf with ⟨hcs, _⟩ | ⟨a, len, cap, ss, hcs, _, hl, _, hz, hx, hcell, _⟩
  · simp [Value.cells] at hcs
    obtain ⟨rfl, rfl, rfl⟩ := hcs
    exact ⟨[], txts_nil W, by simp⟩
  · simp [Value.cells] at hcs
    obtain ⟨rfl, rfl, rfl⟩ := hcs
    simp only [Prod.mk.injEq] at hx
    obtain ⟨rfl, rfl⟩ := hx
    simp only [if_true] at hz
    have HZ := sized_strs hsz ht hd
    have hlen : ((ss.take len0).map fun b => b.data.toList).length = len0 := by rw [List.length_map, List.length_take]; omega
    refine ⟨(ss.take len0).map fun b => b.data.toList, ⟨some a, cap0, by rw [hlen], by rw [hlen]; exact hl, fun e => by (cases e), fun i t hi => ?_⟩, fun t ht => ?_⟩
    · rw [List.getElem?_map, Option.map_eq_some_iff] at hi
      obtain ⟨q, hq, rfl⟩ := hi
      have hil : i < (ss.take len0).length := (List.getElem?_eq_some_iff.1 hq).1
      rw [List.length_take] at hil
      rw [List.getElem?_take, if_pos (by omega)] at hq
      have hc := hcell i (by omega)
      have hb := cell_lt hc
      rw [add_block] at hb
      refine ⟨a, rfl, hb, ?_⟩
      rw [hc, List.getD, hq]
      show some (Value.string q) = some (Value.string (mkS q.data.toList))
      obtain ⟨l, rfl⟩ := mkS_of q
      rw [mkS_data]
    · obtain ⟨q, hq, rfl⟩ := List.mem_map.1 ht
      have := HZ q hq
      rw [Lib.size_eq] at this
      exact this
theorem arg_u32 {H : Type} {enc : TypeId × Value → H} {W : World} {base : Nat} {v : Value} {d : DataW H} {p : List MemPlace} {t : TypeId} (ht : Try.prog.underlying t = some (.int .u32)) (hv : Value.okWide Try.prog W .any base t v) (h : DataW.Trod enc Try.prog W 0 (fun _ => true) true t v d p) :
    ∃ n : Nat, v = .int .u32 (n : Int) ∧ n < 4294967296 := by
  obtain ⟨n, rfl, w1, w2⟩ := arg_int ht hv h
  have h1 : (0 : Int) ≤ n := w1
  have h2 : n ≤ 4294967295 := w2
  exact ⟨n.toNat, by congr; omega, by omega⟩
end Go.Proofs.Ytfejepkpjoieoaa
