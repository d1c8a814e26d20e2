/-
  A map of numbers to true and false: made, added to, ranged over.
-/
import Derived.Test.YtmmghdnlppjgbaaWhActs
namespace Go.Proofs.Ytmmghdnlppjgbaa
set_option maxRecDepth 100000
open Go.RowKit Go.Maps Go.ChangeMaps
open Go.WideShapes
theorem make_bools (w : World) : (Instr.makeMap 55 none).run Try.prog w = .ok (.map (some w.heap.size)) (w.alloc (.map #[] 0)) := by kernel_rfl
theorem JAt.bool_put {w : World} {m : Nat} {L : List (Int × Value)} (h : JAt w m L) {n : Int} (a : Value) (hn : Nm n) (hl : L.length ≤ 1000000) :
    ∃ w', (Instr.mapUpdate 55 (.map (some m)) (.int .i64 n) (a)).run Try.prog w = .ok () w' ∧ JAt w' m ((n, a) :: L.filter fun p => p.1 != n) ∧ w.mapTurned w' m := by
  obtain ⟨es, h1, h2⟩ := h
  obtain ⟨w', e1, e2, e3⟩ := h1.store lawI Try.underlying55 (by unfold maxLen; omega) (keyI hn) (show valR (a) = some (.held (a), []) from rfl)
  refine ⟨w', e1, .of (es := DataW.insert (.int .i64 n, .held (a)) (es.filter fun p => !p.1.sameKey (.int .i64 n))) e2 ?_, e3⟩
  refine (insert_perm _ _).trans (List.Perm.cons _ ?_)
  rw [← filter_jnt]
  exact h2.filter _
theorem wpList_range_bool {P : Program} (hP : P = Try.prog) (w : World) {ops : Array Oper} {rest : List Oper} {o : Oper} {a : Act} {Q : Exit → Act → World → Prop} (hg : o.guard = none) (x : Operand) (hop : o.op = Op.range 55 x) (m : Nat) (L : List (Int × Value))
    (hm : a.eval x = .map (some m)) (h : JAt w m L)
    (hK : ∀ w', Jt w' m w.heap.size L (fun z => L.any fun p => p.1 == z) L.length → w.grownBy w' none → w'.heap.size = w.heap.size + 1 → wpList P ops Q rest (a.put o.dst (.pointer (some ⟨w.heap.size, 0, none⟩))) w') :
    wpList P ops Q (o :: rest) a w := by
  subst hP
  obtain ⟨es, h1, h2⟩ := h
  refine wpList_range_own w hg x 55 hop 3 4 lawI Try.underlying55 valR m _ _ hm h1 fun w' k1 k2 k3 => hK w' ?_ k2 k3
  rw [size_eq, h2.length_eq, List.length_map] at k1
  refine ⟨es, _, _, k1, h2, fun z => ?_⟩
  rw [Bool.eq_iff_iff, has_eq, List.any_eq_true, List.any_eq_true]
  constructor
  · rintro ⟨p, hp, hs⟩
    obtain ⟨q, hq, rfl⟩ := List.mem_map.1 (h2.mem_iff.1 hp)
    exact ⟨q, hq, (same_int _ _).symm.trans hs⟩
  · rintro ⟨q, hq, hs⟩
    exact ⟨jntV q, h2.mem_iff.2 (List.mem_map.2 ⟨_, hq, rfl⟩), (same_int _ _).trans hs⟩
section
variable {W w w' : World} {O : Nat → Prop} {b fm : Nat} {n : Int} {M : List En} {K : List (Int × Value)}
/-- A wheel of a law's own beside a map. -/
structure RM (W : World) (O : Nat → Prop) (b : Nat) (n : Int) (M : List En) (fm : Nat) (K : List (Int × Value)) (w : World) : Prop where
  hw : HW W O b n M w
  map : JAt w fm K
  new : W.heap.size ≤ fm
  fo : ¬ O fm
theorem RM.step {O' : Nat → Prop} {n' : Int} {M' : List En} (h : RM W O b n M fm K w) (h1 : HW W O' b n' M' w') (hs : ∀ k, O' k → O k ∨ w.heap.size ≤ k) (hf : Fr O w w') : RM W O' b n' M' fm K w' :=
  ⟨h1, h.map.block (hf.block fm h.map.lt h.fo), h.new, fun e => (hs fm e).elim h.fo fun e => by have := h.map.lt; omega⟩
theorem RM.keep (h : RM W O b n M fm K w) (hb : Below w.heap.size w w') : RM W O b n M fm K w' := ⟨h.hw.keep hb, h.map.block (hb.block fm h.map.lt), h.new, h.fo⟩
theorem RM.put {K' : List (Int × Value)} (h : RM W O b n M fm K w) (hm : JAt w' fm K') (ht : w.mapTurned w' fm) : RM W O b n M fm K' w' := by
  have hf : Fr (fun k => k = fm) w w' := (Fr.refl _ w).turned ht rfl
  exact ⟨h.hw.move hf (fun k hk e => h.fo (e ▸ hk)) fun k e => by have := h.new; omega, hm, h.new, h.fo⟩
/-- At most i timers, their numbers all in the map. -/
structure RS (M : List En) (K : List (Int × Value)) (i : Nat) : Prop where
  few : M.length ≤ i
  kfew : K.length ≤ i
  ids : ∀ p ∈ M, ∃ q ∈ K, q.1 = p.2
  kn : ∀ q ∈ K, Nm q.1
theorem RS.put {M' : List En} {i : Nat} {x : Int} {v : Value} (h : RS M K i) (hx : Nm x) (hl : M'.length ≤ M.length + 1) (hm : ∀ p ∈ M', p.2 = x ∨ p ∈ M) : RS M' ((x, v) :: K.filter fun p => p.1 != x) (i + 1) := by
  refine ⟨by have := h.few; omega, ?_, fun p hp => ?_, fun q hq => (List.mem_cons.1 hq).elim (fun e => by rw [e]; exact hx) fun e => h.kn q (List.mem_filter.1 e).1⟩
  · have := List.length_filter_le (fun p : Int × Value => p.1 != x) K
    have := h.kfew
    rw [List.length_cons]
    omega
  · rcases hm p hp with e | e
    · exact ⟨_, List.mem_cons_self, e.symm⟩
    · obtain ⟨q, hq, e2⟩ := h.ids p e
      by_cases e3 : q.1 = x
      · exact ⟨_, List.mem_cons_self, by rw [← e2, e3]⟩
      · exact ⟨q, List.mem_cons_of_mem _ (List.mem_filter.2 ⟨hq, by simpa using e3⟩), e2⟩
theorem RS.less {M' : List En} {i : Nat} (h : RS M K i) (hl : M'.length ≤ M.length) (hm : ∀ p ∈ M', p ∈ M) : RS M' K (i + 1) :=
  ⟨by have := h.few; omega, by have := h.kfew; omega, fun p hp => h.ids p (hm p hp), h.kn⟩
theorem set_any {i d : Int} (h : HW W O b n M w) (hi : Nm i) (few : M.length ≤ 1000) : Calls Try.prog 11 #[.pointer (some ⟨b, 0, none⟩), .int .i64 i, .int .i64 d] w fun e w' => ∃ v O' M', e = .returned v ∧ HW W O' b n M' w' ∧ (∀ k, O' k → O k ∨ w.heap.size ≤ k) ∧ Fr O w w' ∧ M'.length ≤ M.length + 1 ∧ ∀ p ∈ M', p.2 = i ∨ p ∈ M := by
  by_cases hc : 0 ≤ i ∧ 0 ≤ d ∧ d ≤ 2199023255552
  · refine (set_h (i := i) (d := d) h ⟨hc.1, hi.2⟩ hc.2 few rfl).mono ?_
    rintro e w' ⟨rfl, O', h1, h2, h3⟩
    refine ⟨_, O', _, rfl, h1, h2, h3, setE_length _ _ _, fun p hp => ?_⟩
    rcases setE_mem.1 hp with rfl | ⟨e, _⟩
    · exact .inl rfl
    · exact .inr e
  · refine (set_no b w i d hc).mono ?_
    rintro e w' ⟨rfl, rfl⟩
    exact ⟨_, O, M, rfl, h, fun k e => .inl e, Fr.refl _ _, by omega, fun p hp => .inr hp⟩
theorem cancel_any {i : Int} (h : HW W O b n M w) (hi : Nm i) : Calls Try.prog 13 #[.pointer (some ⟨b, 0, none⟩), .int .i64 i] w fun e w' => ∃ v O' M', e = .returned v ∧ HW W O' b n M' w' ∧ (∀ k, O' k → O k ∨ w.heap.size ≤ k) ∧ Fr O w w' ∧ M'.length ≤ M.length ∧ ∀ p ∈ M', p ∈ M := by
  refine (cancel_h h hi rfl rfl).mono ?_
  rintro e w' ⟨rfl, O', h1, h2, h3⟩
  exact ⟨_, O', _, rfl, h1, h2, h3, delE_length _ _, fun p hp => (delE_mem.1 hp).1⟩
theorem adv_any {to batch : Int} (h : HW W O b n M w) (few : M.length ≤ 1000) : Calls Try.prog 15 #[.pointer (some ⟨b, 0, none⟩), .int .i64 to, .int .i64 batch] w fun e w' => ∃ v O' n' M', e = .returned v ∧ HW W O' b n' M' w' ∧ (∀ k, O' k → O k ∨ w.heap.size ≤ k) ∧ Fr O w w' ∧ M'.length ≤ M.length ∧ ∀ p ∈ M', p ∈ M := by
  by_cases hc : to < n ∨ 1099511627776 < to ∨ batch < 1 ∨ 1048576 < batch
  · refine (adv_no h.pw hc).mono ?_
    rintro e w' ⟨rfl, rfl⟩
    exact ⟨_, O, n, M, rfl, h, fun k e => .inl e, Fr.refl _ _, Nat.le_refl _, fun p hp => hp⟩
  · refine (adv_h (to := to) (batch := batch) h few (by omega) (by omega) (by omega) (by omega)).mono ?_
    rintro e w' ⟨A, c, m, k, O', rfl, h1, h2, h3, h4, h5, h6⟩
    exact ⟨_, O', m, _, rfl, h2, h4, h6, by rw [List.length_drop]; omega, fun p hp => List.mem_of_mem_drop hp⟩
end
/-- Two rows in order that hold the same. -/
theorem srt_ext : ∀ {M N : List En}, Srt M → Srt N → (∀ p, p ∈ M ↔ p ∈ N) → M = N
  | [], [], _, _, _ => rfl
  | [], q :: N, _, _, h => absurd ((h q).2 List.mem_cons_self) (by simp)
  | p :: M, [], _, _, h => absurd ((h p).1 List.mem_cons_self) (by simp)
  | p :: M, q :: N, hM, hN, h => by
    have h1 := List.pairwise_cons.1 hM
    have h2 := List.pairwise_cons.1 hN
    have e : p = q := by
      rcases List.mem_cons.1 ((h p).1 List.mem_cons_self) with e | e
      · exact e
      · rcases List.mem_cons.1 ((h q).2 List.mem_cons_self) with e2 | e2
        · exact e2.symm
        · exact absurd (lt2_trans (h1.1 q e2) (h2.1 p e)) (lt2_irr p)
    subst e
    rw [srt_ext h1.2 h2.2 fun x => ⟨fun hx => ?_, fun hx => ?_⟩]
    · rcases List.mem_cons.1 ((h x).1 (List.mem_cons_of_mem _ hx)) with e | e
      · subst e; exact absurd (h1.1 x hx) (lt2_irr x)
      · exact e
    · rcases List.mem_cons.1 ((h x).2 (List.mem_cons_of_mem _ hx)) with e | e
      · subst e; exact absurd (h2.1 x hx) (lt2_irr x)
      · exact e
section
variable {W w w' : World} {O O2 : Nat → Prop} {b b2 fm r cnt : Nat} {n : Int} {M M2 : List En} {K : List (Int × Value)} {lf : Int → Bool}
theorem PW.f1 (h : PW O b n M w) : ∀ p ∈ M, p.1 ≤ 2199023255552 ∧ 0 ≤ p.2 ∧ p.2 ≤ 9223372036854775807 := by
  obtain ⟨S, mt, sv, v, L, _, h2⟩ := h
  intro p hp
  obtain ⟨t, ht, rfl⟩ := List.mem_map.1 (h2.perm.mem_iff.1 hp)
  exact ⟨h2.f1 t ht, h2.id0 t ht⟩
theorem due_in {f i : Int} (h : dueE M i = some f) : (f, i) ∈ M := by
  unfold dueE at h
  obtain ⟨p, hp, rfl⟩ := Option.map_eq_some_iff.1 h
  have h1 := List.mem_of_find?_eq_some hp
  have h2 : p.2 = i := by simpa using List.find?_some hp
  subst h2
  exact h1
theorem due_out {i : Int} (h : dueE M i = none) : ∀ p ∈ M, p.2 ≠ i := by
  unfold dueE at h
  rw [Option.map_eq_none_iff, List.find?_eq_none] at h
  intro p hp e
  exact h p hp (by simp [e])
/-- A range over the numbers under way: what is no more to come stands in the second wheel. -/
structure RG (W : World) (O : Nat → Prop) (b : Nat) (n : Int) (M : List En) (O2 : Nat → Prop) (b2 : Nat) (M2 : List En) (fm r : Nat) (K : List (Int × Value)) (lf : Int → Bool) (cnt : Nat) (w : World) : Prop where
  jt : Jt w fm r K lf cnt
  tw : TW W O b n M O2 b2 n M2 w
  rnew : W.heap.size ≤ r
  fo : ¬ O fm ∧ ¬ O2 fm
  ro : ¬ O r ∧ ¬ O2 r
  part : ∀ p, p ∈ M2 ↔ p ∈ M ∧ lf p.2 = false
  few : M2.length + cnt ≤ K.length
theorem RG.next (h : RG W O b n M O2 b2 M2 fm r K lf cnt w) (hg : w.grownBy w' (some r)) : TW W O b n M O2 b2 n M2 w' := by
  have hf : Fr (fun k => k = r) w w' := ⟨hg.os, hg.tape, hg.output, hg.size, fun i hi hn => hg.block i hi (fun e => by cases e; exact hn rfl)⟩
  exact ⟨h.tw.fst.move hf (fun k hk e => h.ro.1 (e ▸ hk)) (fun k e => by have := h.rnew; omega), h.tw.snd.move hf (fun k hk e => h.ro.2 (e ▸ hk)) (fun k e => by have := h.rnew; omega), h.tw.dis⟩
theorem RG.skip {cnt' : Nat} {z : Int} (h : RG W O b n M O2 b2 M2 fm r K lf cnt w) (hj : Jt w' fm r K (fun x => lf x && !(x == z)) cnt') (hlt : cnt' < cnt) (hg : w.grownBy w' (some r)) (hz : ∀ p ∈ M, p.2 ≠ z) : RG W O b n M O2 b2 M2 fm r K (fun x => lf x && !(x == z)) cnt' w' := by
  refine ⟨hj, h.next hg, h.rnew, h.fo, h.ro, fun p => ?_, by have := h.few; omega⟩
  rw [h.part p]
  refine and_congr_right fun hp => ?_
  have := hz p hp
  simp [this]
theorem RG.add {O3 : Nat → Prop} {cnt' : Nat} {z f : Int} {w3 : World} (h : RG W O b n M O2 b2 M2 fm r K lf cnt w) (hj : Jt w' fm r K (fun x => lf x && !(x == z)) cnt') (hlt : cnt' < cnt) (hg : w.grownBy w' (some r)) (hz : (f, z) ∈ M) (h3 : HW W O3 b2 n (setE M2 z f) w3) (hs : ∀ k, O3 k → O2 k ∨ w'.heap.size ≤ k) (hf : Fr O2 w' w3) :
    RG W O b n M O3 b2 (setE M2 z f) fm r K (fun x => lf x && !(x == z)) cnt' w3 := by
  have ht := h.next hg
  refine ⟨hj.block (hf.block fm hj.map.lt h.fo.2) (hf.block r hj.lt h.ro.2), ht.second h3 hs hf, h.rnew, ⟨h.fo.1, fun e => (hs fm e).elim h.fo.2 fun e => by have := hj.map.lt; omega⟩, ⟨h.ro.1, fun e => (hs r e).elim h.ro.2 fun e => by have := hj.lt; omega⟩, fun p => ?_, by have := h.few; have := setE_length M2 z f; omega⟩
  rw [setE_mem]
  constructor
  · rintro (rfl | ⟨e1, e2⟩)
    · exact ⟨hz, by simp⟩
    · obtain ⟨a1, a2⟩ := (h.part p).1 e1
      exact ⟨a1, by simp [a2]⟩
  · rintro ⟨e1, e2⟩
    by_cases e3 : p.2 = z
    · left
      have h4 := due_mem (f := p.1) (i := p.2) ht.fst.pw.ids e1
      have h5 := due_mem ht.fst.pw.ids hz
      rw [e3, h5] at h4
      injection h4 with h4
      rw [h4, ← e3]
    · right
      refine ⟨(h.part p).2 ⟨e1, ?_⟩, e3⟩
      simpa [e3] using e2
theorem RG.over (h : RG W O b n M O2 b2 M2 fm r K lf cnt w) (hl : ∀ z, lf z = false) : M2 = M := srt_ext h.tw.snd.pw.srt h.tw.fst.pw.srt fun p => by rw [h.part p]; simp [hl]
theorem adv_same {k k' : Nat} {m m' to batch : Int} {n' : Int} (h : AdvP M n to batch k m) (h' : AdvP M n' to batch k' m') : k = k' ∧ m = m' := by
  rcases h.doc with e | ⟨e, e2⟩ <;> rcases h'.doc with e' | ⟨e', e2'⟩ <;> rw [e] at e' <;> simp at e'
  · exact e'
  · exact ⟨e', by rw [e2, e2']⟩
end
end Go.Proofs.Ytmmghdnlppjgbaa
