/-
  Two wheels, a map of numbers to numbers and a row of numbers, all a law's own.
-/
import Derived.Test.YtmmghdnlppjgbaaWhIntMap
namespace Go.Proofs.Ytmmghdnlppjgbaa
set_option maxRecDepth 100000
open Go.RowKit
section
variable {W w w' : World} {O Oa Ob P : Nat → Prop} {a b fm : Nat} {n nA nB : Int} {M Ma Mb : List En} {K : List (Int × Value)} {vo vl : Value} {ord ids : List Int}
theorem HW.move (h : HW W O b n M w) (hf : Fr P w w') (hd : ∀ k, O k → ¬ P k) (hP : ∀ k, P k → W.heap.size ≤ k) : HW W O b n M w' :=
  ⟨h.pw.other hf.size fun k hk => hf.block k (h.pw.lt k hk) (hd k hk), h.new, h.below.trans (hf.below h.below.size fun k hk ho => by have := hP k ho; omega)⟩
theorem row_map {B k : Nat} {v : Value} {xs : List Value} (h : w.ownsRow B 3 1 v k xs) (hm : JAt w fm K) : v.ownBlock ≠ some fm := by
  rcases h.2 with ⟨rfl, _⟩ | ⟨g, cap, cur, rfl, _, h1, _⟩
  · intro e; cases e
  · intro e
    cases e
    obtain ⟨es, clock, h2⟩ := hm.isMap
    rw [h1] at h2
    cases h2
structure OS (W : World) (Oa : Nat → Prop) (a : Nat) (nA : Int) (Ma : List En) (Ob : Nat → Prop) (b : Nat) (nB : Int) (Mb : List En) (fm : Nat) (K : List (Int × Value)) (vo : Value) (ord : List Int) (w : World) : Prop where
  tw : TW W Oa a nA Ma Ob b nB Mb w
  map : JAt w fm K
  new : W.heap.size ≤ fm
  fa : ¬ Oa fm
  fb : ¬ Ob fm
  row : w.ownsRow W.heap.size 3 1 vo ord.length (intsR ord)
  ra : ∀ g, vo.ownBlock = some g → ¬ Oa g ∧ ¬ Ob g
theorem OS.drewN (h : OS W Oa a nA Ma Ob b nB Mb fm K vo ord w) (m : Nat) : OS W Oa a nA Ma Ob b nB Mb fm K vo ord (w.drewN m) := ⟨h.tw.drewN m, h.map.block rfl, h.new, h.fa, h.fb, h.row, h.ra⟩
theorem OS.adv {O' : Nat → Prop} {n' : Int} {M' : List En} (h : OS W Oa a nA Ma Ob b nB Mb fm K vo ord w) (h1 : HW W O' a n' M' w') (hs : ∀ k, O' k → Oa k ∨ w.heap.size ≤ k) (hf : Fr Oa w w') : OS W O' a n' M' Ob b nB Mb fm K vo ord w' :=
  ⟨h.tw.first h1 hs hf, h.map.block (hf.block fm h.map.lt h.fa), h.new, fun e => (hs fm e).elim h.fa fun e => by have := h.map.lt; omega, h.fb, row_fr h.row hf fun g hg => (h.ra g hg).1,
    fun g hg => ⟨fun e => (hs g e).elim (h.ra g hg).1 fun e => by have := (h.row.lt g hg).2; omega, (h.ra g hg).2⟩⟩
theorem OS.advB {O' : Nat → Prop} {n' : Int} {M' : List En} (h : OS W Oa a nA Ma Ob b nB Mb fm K vo ord w) (h1 : HW W O' b n' M' w') (hs : ∀ k, O' k → Ob k ∨ w.heap.size ≤ k) (hf : Fr Ob w w') : OS W Oa a nA Ma O' b n' M' fm K vo ord w' :=
  ⟨h.tw.second h1 hs hf, h.map.block (hf.block fm h.map.lt h.fb), h.new, h.fa, fun e => (hs fm e).elim h.fb fun e => by have := h.map.lt; omega, row_fr h.row hf fun g hg => (h.ra g hg).2,
    fun g hg => ⟨(h.ra g hg).1, fun e => (hs g e).elim (h.ra g hg).2 fun e => by have := (h.row.lt g hg).2; omega⟩⟩
theorem OS.put {K' : List (Int × Value)} (h : OS W Oa a nA Ma Ob b nB Mb fm K vo ord w) (hm : JAt w' fm K') (ht : w.mapTurned w' fm) : OS W Oa a nA Ma Ob b nB Mb fm K' vo ord w' := by
  have hf : Fr (fun k => k = fm) w w' := (Fr.refl _ w).turned ht rfl
  have hP : ∀ k, k = fm → W.heap.size ≤ k := fun k e => by have := h.new; omega
  exact ⟨⟨h.tw.fst.move hf (fun k hk e => h.fa (e ▸ hk)) hP, h.tw.snd.move hf (fun k hk e => h.fb (e ▸ hk)) hP, h.tw.dis⟩, hm, h.new, h.fa, h.fb, row_fr h.row hf (fun g hg e => row_map h.row h.map (e ▸ hg)), h.ra⟩
theorem OS.app {x : Int} {v' : Value} (h : OS W Oa a nA Ma Ob b nB Mb fm K vo ord w) (hr : w'.ownsRow W.heap.size 3 1 v' (ord ++ [x]).length (intsR (ord ++ [x]))) (hg : (w.alloc (.cells #[.int .i64 x] 3)).grownBy w' vo.ownBlock) (hv : v'.ownBlock = vo.ownBlock ∨ v'.ownBlock = some (w.alloc (.cells #[.int .i64 x] 3)).heap.size) :
    OS W Oa a nA Ma Ob b nB Mb fm K v' (ord ++ [x]) w' := by
  have hf : Fr (fun k => vo.ownBlock = some k) w w' := ((Fr.refl _ w).alloc _).grown hg fun k e => e
  have hP : ∀ k, vo.ownBlock = some k → W.heap.size ≤ k := fun k e => row_base h.row k e
  refine ⟨⟨h.tw.fst.move hf (fun k hk e => (h.ra k e).1 hk) hP, h.tw.snd.move hf (fun k hk e => (h.ra k e).2 hk) hP, h.tw.dis⟩, h.map.block (hf.block fm h.map.lt (row_map h.row h.map)), h.new, h.fa, h.fb, hr, fun g hg => ?_⟩
  rcases hv with e | e
  · exact h.ra g (e ▸ hg)
  · rw [hg] at e
    injection e with e
    simp at e
    exact ⟨fun ho => by have := h.tw.fst.pw.lt g ho; omega, fun ho => by have := h.tw.snd.pw.lt g ho; omega⟩
/-- A row that is read while the other one grows. -/
structure LR (vo vl : Value) (ids : List Int) (w : World) : Prop where
  row : w.ownsRow 0 3 1 vl ids.length (intsR ids)
  sep : ∀ g, vl.ownBlock = some g → vo.ownBlock ≠ some g
theorem LR.put (h : LR vo vl ids w) (hm : JAt w fm K) (ht : w.mapTurned w' fm) : LR vo vl ids w' :=
  ⟨row_fr h.row (O := fun k => k = fm) ((Fr.refl _ w).turned ht rfl) (fun _ hg e => row_map h.row hm (e ▸ hg)), h.sep⟩
theorem LR.app {x : Int} {v' : Value} (h : LR vo vl ids w) (hg : (w.alloc (.cells #[.int .i64 x] 3)).grownBy w' vo.ownBlock) (hv : v'.ownBlock = vo.ownBlock ∨ v'.ownBlock = some (w.alloc (.cells #[.int .i64 x] 3)).heap.size) : LR v' vl ids w' := by
  refine ⟨row_fr h.row (O := fun k => vo.ownBlock = some k) (((Fr.refl _ w).alloc _).grown hg fun k e => e) h.sep, fun g hl e => ?_⟩
  rcases hv with e2 | e2
  · exact h.sep g hl (e2 ▸ e)
  · rw [e] at e2
    injection e2 with e2
    simp at e2
    have := (h.row.lt g hl).2
    omega
end
/-- One more in a row: what append makes of it. -/
theorem run_one {w : World} {B : Nat} {v : Value} {xs : List Int} (x : Int) (ty : TypeId) (hv : w.ownsRow B 3 1 v xs.length (intsR xs)) (hl : xs.length ≤ 1000) (hB : B ≤ w.heap.size) :
    ∃ A c w', (Builtin.append_ #[40, 40] ty #[v, .slice (some ⟨w.heap.size, 0, none⟩) 1 1]).run Try.prog (w.alloc (.cells #[.int .i64 x] 3)) = .ok (.slice A (xs.length + 1) c) w' ∧ w'.ownsRow B 3 1 (.slice A (xs.length + 1) c) (xs ++ [x]).length (intsR (xs ++ [x])) ∧ (w.alloc (.cells #[.int .i64 x] 3)).grownBy w' v.ownBlock ∧ ((Value.slice A (xs.length + 1) c).ownBlock = v.ownBlock ∨ (Value.slice A (xs.length + 1) c).ownBlock = some (w.alloc (.cells #[.int .i64 x] 3)).heap.size) := by
  have h1 : (w.alloc (.cells #[.int .i64 x] 3)).ownsRow 0 3 1 (.slice (some ⟨w.heap.size, 0, none⟩) 1 1) [x].length (intsR [x]) := ⟨rfl, .inr ⟨w.heap.size, 1, _, rfl, Nat.zero_le _, newOf w _, Nat.le_refl _, by unfold maxLen; omega, rfl, rfl⟩⟩
  obtain ⟨v', w', hr, h2, h3, h4⟩ := run_app ty (hv.alloc _) h1 (by simp; omega) (by simp; omega)
  obtain ⟨A, c, rfl⟩ := own_slice h2
  have e : (xs ++ [x]).length = xs.length + 1 := by simp
  rw [e] at hr h2 h4
  exact ⟨A, c, w', hr, by rw [e]; exact h2, h3, h4⟩
abbrev kv1 (p : En) : Int × Value := (p.2, .int .i64 1)
theorem ids_fresh {M : List En} {i : Nat} {x : En} (hn : (M.map Prod.snd).Nodup) (hx : M[i]? = some x) : ∀ p ∈ M.take i, p.2 ≠ x.2 := by
  intro p hp e
  obtain ⟨j, hj, rfl⟩ := List.getElem_of_mem hp
  obtain ⟨hi, rfl⟩ := List.getElem?_eq_some_iff.1 hx
  rw [List.length_take] at hj
  rw [List.getElem_take] at e
  have := (List.getElem?_inj (l := M.map Prod.snd) (i := j) (j := i) (by rw [List.length_map]; omega) hn).1 (by
    rw [List.getElem?_map, List.getElem?_map, List.getElem?_eq_getElem (by omega : j < M.length), List.getElem?_eq_getElem hi]
    simp only [Option.map_some, e])
  omega
theorem take_more {M : List En} {i : Nat} {x : En} (hx : M[i]? = some x) : M.take (i + 1) = M.take i ++ [x] := by rw [List.take_add_one, hx]; rfl
/-- The map, with one more. -/
theorem JAt.one {w : World} {m : Nat} {M : List En} {i : Nat} {x : En} (hn : (M.map Prod.snd).Nodup) (hx : M[i]? = some x) (h : JAt w m ((x.2, .int .i64 1) :: ((M.take i).map kv1).filter fun p => p.1 != x.2)) : JAt w m ((M.take (i + 1)).map kv1) := by
  have e : (((M.take i).map kv1).filter fun p => p.1 != x.2) = (M.take i).map kv1 := by
    refine List.filter_eq_self.2 fun p hp => ?_
    obtain ⟨q, hq, rfl⟩ := List.mem_map.1 hp
    simp only [bne_iff_ne]
    exact ids_fresh hn hx q hq
  rw [e] at h
  refine h.perm ?_
  rw [take_more hx, List.map_append]
  exact (List.perm_append_comm (l₁ := [kv1 x])).trans (List.Perm.refl _)
/-- The split at a tick. -/
theorem split_at {M : List En} {k q : Nat} {t : Int} (hk : k ≤ M.length) (hq : q ≤ M.length) (h1 : ∀ p ∈ M.take k, p.1 ≤ t) (h2 : ∀ p ∈ M.drop k, t < p.1) (h3 : ∀ p ∈ M.take q, p.1 ≤ t) (h4 : ∀ p ∈ M.drop q, t < p.1) : k = q := by
  have key : ∀ a b : Nat, b ≤ M.length → (∀ p ∈ M.drop a, t < p.1) → (∀ p ∈ M.take b, p.1 ≤ t) → b ≤ a := fun a b hb ha hb2 => by
    refine Classical.byContradiction fun hn => ?_
    have hl : a < M.length := by omega
    have x1 := ha M[a] (by rw [List.drop_eq_getElem_cons hl]; exact List.mem_cons_self)
    have x2 := hb2 M[a] (List.mem_of_getElem? (i := a) (by rw [List.getElem?_take_of_lt (by omega), List.getElem?_eq_getElem hl]))
    omega
  exact Nat.le_antisymm (key q k hk h4 h1) (key k q hq h2 h3)
end Go.Proofs.Ytmmghdnlppjgbaa
