/-
  What a row of ticks leaves in a wheel, set one behind the other under its own number.
-/
import Derived.Test.YtmmghdnlppjgbaaWhAwake
namespace Go.Proofs.Ytmmghdnlppjgbaa
set_option maxRecDepth 100000
open Go.RowKit
theorem srt_at {M : List En} (h : Srt M) {i j : Nat} {p q : En} (hp : M[i]? = some p) (hq : M[j]? = some q) (hij : i < j) : lt2 p q := by
  obtain ⟨h1, rfl⟩ := List.getElem?_eq_some_iff.1 hp
  obtain ⟨h2, rfl⟩ := List.getElem?_eq_some_iff.1 hq
  exact List.pairwise_iff_getElem.1 h i j h1 h2 hij
section
variable {W w w' : World} {O : Nat → Prop} {b : Nat} {n : Int} {M : List En}
theorem PW.srt (h : PW O b n M w) : Srt M := by obtain ⟨S, mt, sv, v, L, _, h2⟩ := h; exact h2.srt
theorem PW.gt (h : PW O b n M w) : ∀ p ∈ M, n < p.1 := by
  obtain ⟨S, mt, sv, v, L, _, h2⟩ := h
  intro p hp
  obtain ⟨t, ht, rfl⟩ := List.mem_map.1 (h2.perm.mem_iff.1 hp)
  exact (h2.stand t ht).ahead
theorem PW.now (h : PW O b n M w) : 0 ≤ n ∧ n ≤ 1099511627776 := by obtain ⟨S, mt, sv, v, L, _, h2⟩ := h; exact ⟨h2.n0, h2.n1⟩
/-- The first k of the row are set, at now n. -/
structure Row (n : Int) (l : List Int) (k : Nat) (M : List En) : Prop where
  len : M.length = k
  at_ : ∀ p ∈ M, ∃ j d, j < k ∧ l[j]? = some d ∧ p = (max d (n + 1), (j : Int))
  all : ∀ j d, j < k → l[j]? = some d → (max d (n + 1), (j : Int)) ∈ M
theorem Row.nil (n : Int) (l : List Int) : Row n l 0 [] := ⟨rfl, fun p hp => by simp at hp, fun j d hj => by omega⟩
theorem Row.fresh {l : List Int} {k : Nat} (h : Row n l k M) : delE M k = M := by
  refine List.filter_eq_self.2 fun p hp => ?_
  obtain ⟨j, d, hj, _, rfl⟩ := h.at_ p hp
  simp only [bne_iff_ne]
  omega
theorem Row.next {l : List Int} {k : Nat} {d : Int} (h : Row n l k M) (hd : l[k]? = some d) : Row n l (k + 1) (setE M k (max d (n + 1))) := by
  refine ⟨by rw [(setE_perm _ _ _).length_eq, List.length_cons, h.fresh, h.len], fun p hp => ?_, fun j d' hj hl => ?_⟩
  · rcases setE_mem.1 hp with rfl | ⟨hp, _⟩
    · exact ⟨k, d, by omega, hd, rfl⟩
    · obtain ⟨j, d, hj, hl, e⟩ := h.at_ p hp
      exact ⟨j, d, by omega, hl, e⟩
  · by_cases e : j = k
    · subst e
      rw [hd] at hl
      injection hl with hl
      subst hl
      exact setE_mem.2 (.inl rfl)
    · exact setE_mem.2 (.inr ⟨h.all j d' (by omega) hl, by show (j : Int) ≠ k; omega⟩)
theorem PW.ids (h : PW O b n M w) : (M.map Prod.snd).Nodup := by
  obtain ⟨S, mt, sv, v, L, _, h2⟩ := h
  have := (h2.perm.map Prod.snd).nodup_iff.2 (by rw [List.map_map]; exact h2.ids)
  exact this
end
theorem due_mem {M : List En} {f i : Int} (hn : (M.map Prod.snd).Nodup) (h : (f, i) ∈ M) : dueE M i = some f := by
  induction M with
  | nil => simp at h
  | cons p M ih =>
    rw [List.map_cons, List.nodup_cons] at hn
    unfold dueE
    rw [List.find?_cons]
    by_cases e : p.2 = i
    · rw [beq_iff_eq.2 e]
      rcases List.mem_cons.1 h with rfl | h
      · rfl
      · exact absurd (List.mem_map.2 ⟨_, h, rfl⟩) (by rw [← e] at *; exact hn.1)
    · rw [beq_eq_false_iff_ne.2 e]
      rcases List.mem_cons.1 h with rfl | h
      · exact absurd rfl e
      · exact ih hn.2 h
theorem due_del (M : List En) (i : Int) : dueE (delE M i) i = none := by
  unfold dueE delE
  rw [List.find?_filter, List.find?_eq_none.2 (fun p _ => by simp)]
  rfl
theorem del_again (M : List En) (i : Int) : delE (delE M i) i = delE M i := by simp [delE, List.filter_filter]
theorem del_any (M : List En) (i : Int) : ((delE M i).any fun p => p.2 == i) = false := by
  rw [List.any_eq_false]
  intro p hp
  simp [(delE_mem.1 hp).2]
theorem any_mem {M : List En} {f i : Int} (h : (f, i) ∈ M) : (M.any fun p => p.2 == i) = true := List.any_eq_true.2 ⟨_, h, by simp⟩
theorem del_len {M : List En} {f i : Int} (hn : (M.map Prod.snd).Nodup) (h : (f, i) ∈ M) : (delE M i).length + 1 = M.length := by
  induction M with
  | nil => simp at h
  | cons p M ih =>
    rw [List.map_cons, List.nodup_cons] at hn
    by_cases e : p.2 = i
    · have : delE (p :: M) i = M := by
        unfold delE
        rw [List.filter_cons, if_neg (by simp [e])]
        refine List.filter_eq_self.2 fun q hq => ?_
        simp only [bne_iff_ne]
        intro e2
        exact hn.1 (List.mem_map.2 ⟨q, hq, by rw [e2, e]⟩)
      rw [this, List.length_cons]
    · have : delE (p :: M) i = p :: delE M i := by
        unfold delE
        rw [List.filter_cons, if_pos (by simp [e])]
      rw [this, List.length_cons, List.length_cons]
      rcases List.mem_cons.1 h with rfl | h
      · exact absurd rfl e
      · rw [ih hn.2 h]
theorem set_del {M : List En} (hs : Srt M) (i f : Int) : delE (setE M i f) i = delE M i := by
  refine srt_eq (delE_srt (setE_srt hs i f) i) (delE_srt hs i) ?_
  have := (setE_perm M i f).filter (fun p => p.2 != i)
  rw [List.filter_cons, if_neg (by simp)] at this
  refine this.trans ?_
  exact (congrArg (fun l => l.Perm (delE M i)) (del_again M i)).mpr (List.Perm.refl _)
/-- An advance far past all of them. -/
theorem adv_all {M : List En} {n to m : Int} {k : Nat} (h : AdvP M n to 1048576 k m) (hf : M.length ≤ 1000) (ht : ∀ p ∈ M, p.1 ≤ to) : k = M.length ∧ m = to := by
  have hm : m = to := by
    rcases h.over with e | e
    · exact e.1
    · have := h.le; omega
  refine ⟨?_, hm⟩
  refine Classical.byContradiction fun hk => ?_
  have hlt : k < M.length := by have := h.le; omega
  have h1 := h.next M[k] (by rw [List.drop_eq_getElem_cons hlt]; exact List.mem_cons_self)
  have := ht M[k] (List.getElem_mem hlt)
  omega
/-- What a filter keeps, by its place. -/
theorem filter_at {p : Int → Bool} {X : List Int} {i : Nat} {v : Int} (hv : X[i]? = some v) (hp : p v = true) : (X.filter p)[((X.take i).filter p).length]? = some v := by
  obtain ⟨hl, rfl⟩ := List.getElem?_eq_some_iff.1 hv
  have e : X.filter p = (X.take i).filter p ++ (X.drop i).filter p := by rw [← List.filter_append, List.take_append_drop]
  rw [e, List.getElem?_append_right (Nat.le_refl _), Nat.sub_self, List.drop_eq_getElem_cons hl, List.filter_cons, if_pos hp]
  rfl
theorem filter_take {p : Int → Bool} {X : List Int} {i : Nat} {v : Int} (hv : X[i]? = some v) : ((X.take (i + 1)).filter p).length = ((X.take i).filter p).length + if p v then 1 else 0 := by
  rw [List.take_add_one, hv, List.filter_append, List.length_append, Option.toList_some, List.filter_cons]
  split <;> simp_all
section
variable {W w w' : World} {O O2 : Nat → Prop} {b b2 : Nat} {n n2 : Int} {M M2 : List En}
/-- Two wheels of a law's own. -/
structure TW (W : World) (O : Nat → Prop) (b : Nat) (n : Int) (M : List En) (O2 : Nat → Prop) (b2 : Nat) (n2 : Int) (M2 : List En) (w : World) : Prop where
  fst : HW W O b n M w
  snd : HW W O2 b2 n2 M2 w
  dis : ∀ k, O k → ¬ O2 k
theorem TW.first {O' : Nat → Prop} {n' : Int} {M' : List En} (h : TW W O b n M O2 b2 n2 M2 w) (h1 : HW W O' b n' M' w') (hs : ∀ k, O' k → O k ∨ w.heap.size ≤ k) (hf : Fr O w w') : TW W O' b n' M' O2 b2 n2 M2 w' :=
  ⟨h1, h.snd.other h.fst (fun k hk ho => h.dis k ho hk) hf, fun k hk ho => (hs k hk).elim (fun e => h.dis k e ho) fun e => by have := h.snd.pw.lt k ho; omega⟩
theorem TW.second {O' : Nat → Prop} {n' : Int} {M' : List En} (h : TW W O b n M O2 b2 n2 M2 w) (h1 : HW W O' b2 n' M' w') (hs : ∀ k, O' k → O2 k ∨ w.heap.size ≤ k) (hf : Fr O2 w w') : TW W O b n M O' b2 n' M' w' :=
  ⟨h.fst.other h.snd h.dis hf, h1, fun k hk ho => (hs k ho).elim (fun e => h.dis k hk e) fun e => by have := h.fst.pw.lt k hk; omega⟩
theorem TW.drewN (h : TW W O b n M O2 b2 n2 M2 w) (m : Nat) : TW W O b n M O2 b2 n2 M2 (w.drewN m) := ⟨h.fst.drewN m, h.snd.drewN m, h.dis⟩
theorem TW.keep (h : TW W O b n M O2 b2 n2 M2 w) (hb : Below w.heap.size w w') : TW W O b n M O2 b2 n2 M2 w' := ⟨h.fst.keep hb, h.snd.keep hb, h.dis⟩
theorem row_fr {B k : Nat} {v : Value} {xs : List Value} (h : w.ownsRow B 3 1 v k xs) (hf : Fr O w w') (hn : ∀ g, v.ownBlock = some g → ¬ O g) : w'.ownsRow B 3 1 v k xs := by
  refine ⟨h.1, ?_⟩
  rcases h.2 with h0 | ⟨g, cap, cur, rfl, hb, h1, hr⟩
  · exact .inl h0
  · exact .inr ⟨g, cap, cur, rfl, hb, (hf.block g (ltOf h1) (hn g rfl)).trans h1, hr⟩
theorem row_base {B k : Nat} {v : Value} {xs : List Value} (h : w.ownsRow B 3 1 v k xs) : ∀ g, v.ownBlock = some g → B ≤ g := by
  rcases h.2 with ⟨rfl, _⟩ | ⟨g, cap, cur, rfl, hb, _⟩
  · intro g e; cases e
  · intro g' e; cases e; exact hb
end
end Go.Proofs.Ytmmghdnlppjgbaa
