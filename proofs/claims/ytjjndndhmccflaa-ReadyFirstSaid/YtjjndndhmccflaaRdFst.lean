/-
  Plain, and in memory: what ReadyFirst's loops hold.
-/
import Derived.Test.YtjjndndhmccflaaRdRows
namespace Go.Proofs.Ytjjndndhmccflaa
set_option maxRecDepth 100000
open Go.RowKit
theorem erase_ent : ∀ {l : List Et}, (l.map Et.id).Nodup → ∀ {k : Nat} {x : Et}, l[k]? = some x → l.eraseIdx k = l.filter (fun y => y.id != x.id)
  | [], _, k, x, hx => by simp at hx
  | y :: r, h, 0, x, hx => by
    rw [List.getElem?_cons_zero] at hx
    cases hx
    rw [List.map_cons, List.nodup_cons] at h
    rw [List.eraseIdx_cons_zero, List.filter_cons_of_neg (by simp)]
    symm
    rw [List.filter_eq_self]
    intro z hz
    have : z.id ≠ y.id := fun e => h.1 (e ▸ List.mem_map.2 ⟨z, hz, rfl⟩)
    simpa using this
  | y :: r, h, k + 1, x, hx => by
    rw [List.getElem?_cons_succ] at hx
    rw [List.map_cons, List.nodup_cons] at h
    have hne : y.id ≠ x.id := fun e => h.1 (e ▸ List.mem_map.2 ⟨x, List.mem_of_getElem? hx, rfl⟩)
    rw [List.eraseIdx_cons_succ, List.filter_cons_of_pos (by simpa using hne), erase_ent h.2 hx]
structure FP (g lm : Int) (k : Nat) (S : Rq) (l : List Et) : Prop where
  e : l = S.L.map Prod.fst
  age : S.age = g
  lim : S.lim = lm
  n : S.n ≤ k
def frG (S : Rq) (l : List Et) (k : Nat) : Bool := match l[k]? with
  | some y => decide (cnt S.F y.dest < S.lim)
  | none => false
section
variable {g lm n : Int} {k : Nat} {S : Rq} {l : List Et} {x : Et}
theorem FP.next (h : FP g lm k S l) : FP g lm (k + 1) S l := ⟨h.e, h.age, h.lim, by have := h.n; omega⟩
theorem FP.start (g lm : Int) : FP g lm 0 (newS g lm 4096) [] := ⟨rfl, rfl, rfl, Int.le_refl _⟩
theorem FP.put (h : FP g lm k S l) (hp : putE S x = 0) : FP g lm (k + 1) (putQ S x) (l ++ [x]) := by
  unfold putQ
  rw [if_pos hp]
  refine ⟨?_, h.age, h.lim, by have := h.n; show S.n + 1 ≤ _; omega⟩
  show l ++ [x] = (S.L ++ [(x, S.n + 1)]).map Prod.fst
  rw [h.e, List.map_append]; rfl
theorem FP.done (h : FP g lm k S l) (i : Int) : FP g lm (k + 1) (doneQ S i) l := ⟨h.e, h.age, h.lim, by have := h.n; show S.n ≤ _; omega⟩
theorem FP.len (h : FP g lm k S l) (ok : OkQ S) : l.length ≤ k := by
  have := ok.len; have := h.n; have h3 : l.length = S.L.length := by rw [h.e, List.length_map]
  omega
theorem FP.ids (h : FP g lm k S l) (ok : OkQ S) : (l.map Et.id).Nodup := by
  have := ok.idsL
  rw [h.e, List.map_map]
  exact this
theorem FP.okl (h : FP g lm k S l) (ok : OkQ S) : ∀ x ∈ l, okE x = true ∧ Nm x.id ∧ x.dest.length ≤ 255 := fun x hx => by
  rw [h.e] at hx
  obtain ⟨y, hy, rfl⟩ := List.mem_map.1 hx
  have h1 := ok.okL y hy
  have h2 := okE_iff.1 h1.1
  exact ⟨h1.1, ⟨by omega, h1.2⟩, h2.2.2.1⟩
theorem FP.remove (h : FP g lm k S l) (i : Int) : FP g lm (k + 1) (removeQ S i) (l.filter fun y => y.id != i) := by
  refine ⟨?_, h.age, h.lim, by have := h.n; show S.n ≤ _; omega⟩
  rw [h.e, List.filter_map]; rfl
theorem FP.take (h : FP g lm k S l) {x : Wt} (hx : takeE S n = some x) : FP g lm (k + 1) (takeQ S n) (l.filter fun y => y.id != x.1.id) := by
  unfold takeQ
  rw [hx]
  refine ⟨?_, h.age, h.lim, by have := h.n; show S.n ≤ _; omega⟩
  rw [h.e, List.filter_map]; rfl
theorem FP.takeN (h : FP g lm k S l) (hx : takeE S n = none) : FP g lm (k + 1) (takeQ S n) l := by
  unfold takeQ
  rw [hx]
  exact h.next
theorem take_no_free (h : FP g lm k S l) (hx : takeE S n = none) (j : Nat) : frG S l j = false := by
  unfold frG
  split
  · rename_i y hy
    have hm := List.mem_of_getElem? hy
    rw [h.e] at hm
    obtain ⟨z, hz, rfl⟩ := List.mem_map.1 hm
    have := List.find?_eq_none.1 hx z ((srt_perm _ _ _).mem_iff.2 hz)
    unfold free at this
    simpa using this
  · rfl
theorem take_is (h : FP g lm k S l) (ok : OkQ S) {x : Wt} (hx : takeE S n = some x) :
    ∃ a, l[a]? = some x.1 ∧ frG S l a = true ∧ (∀ (j : Nat) (y : Et), l[j]? = some y → j ≠ a → y ≠ x.1) ∧ ∀ (j : Nat) (y : Et), l[j]? = some y → frG S l j = true → j ≠ a → rk y.pri y.at_ n g < rk x.1.pri x.1.at_ n g ∨ (rk y.pri y.at_ n g = rk x.1.pri x.1.at_ n g ∧ a < j) := by
  obtain ⟨hm, hf⟩ := takeE_mem hx
  obtain ⟨a, ha⟩ := List.mem_iff_getElem?.1 hm
  have hla : l[a]? = some x.1 := by rw [h.e, List.getElem?_map, ha]; rfl
  obtain ⟨al, ae⟩ := List.getElem?_eq_some_iff.1 ha
  have hpos : ∀ (j : Nat) (z : Wt), S.L[j]? = some z → j ≠ a → z.2 ≠ x.2 ∧ (x.2 < z.2 → a < j) := fun j z hz hne => by
    obtain ⟨jl, je⟩ := List.getElem?_eq_some_iff.1 hz
    have hp := ok.puts
    rw [List.pairwise_iff_getElem] at hp
    rcases Nat.lt_or_gt_of_ne hne with hlt | hgt
    · have := hp j a jl al hlt
      rw [je, ae] at this
      exact ⟨by omega, fun h => by omega⟩
    · exact ⟨by have := hp a j al jl hgt; rw [je, ae] at this; omega, fun _ => hgt⟩
  have hnth : ∀ (j : Nat) (y : Et), l[j]? = some y → ∃ z, S.L[j]? = some z ∧ y = z.1 := fun j y hy => by
    rw [h.e, List.getElem?_map] at hy
    obtain ⟨z, hz, rfl⟩ := Option.map_eq_some_iff.1 hy
    exact ⟨z, hz, rfl⟩
  refine ⟨a, hla, by unfold frG; rw [hla]; exact hf, fun j y hy hne e => ?_, fun j y hy hfr hne => ?_⟩
  · obtain ⟨z, hz, rfl⟩ := hnth j y hy
    have := mem_one ok.idsL (List.mem_of_getElem? hz) hm (by rw [e])
    exact (hpos j z hz hne).1 (by rw [this])
  · obtain ⟨z, hz, rfl⟩ := hnth j y hy
    have hfz : free S z = true := by unfold frG at hfr; rw [hy] at hfr; exact hfr
    obtain ⟨_, us, bs, hs, hno⟩ := List.find?_eq_some_iff_append.1 hx
    have hzm : z ∈ srt S.age n S.L := (srt_perm _ _ _).mem_iff.2 (List.mem_of_getElem? hz)
    rw [hs] at hzm
    have hpw := srt_pw (g := S.age) (n := n) ok.ne
    rw [hs] at hpw
    have hzb : z ∈ bs := by
      rcases List.mem_append.1 hzm with hz' | hz'
      · have := hno z hz'; rw [hfz] at this; cases this
      · rcases List.mem_cons.1 hz' with e | hz'
        · exact absurd (by rw [e]) (hpos j z hz hne).1
        · exact hz'
    have hb := (List.pairwise_cons.1 (List.pairwise_append.1 hpw).2.1).1 z hzb
    rw [bet_iff, h.age] at hb
    rcases hb with hb | ⟨hb, hb2⟩
    · exact .inl hb
    · exact .inr ⟨hb, (hpos j z hz hne).2 hb2⟩
theorem take_cnt (h : FP g lm k S l) {x : Wt} (hx : takeE S n = some x) : cnt (takeQ S n).F x.1.dest ≤ lm := by
  have hf := (takeE_mem hx).2
  unfold free at hf
  have hf := of_decide_eq_true hf
  unfold takeQ
  rw [hx, ← h.lim]
  show cnt (x.1 :: S.F) x.1.dest ≤ S.lim
  unfold cnt at hf ⊢
  rw [List.countP_cons_of_pos (by simp)]
  omega
end
/-- Which of the row are free, the first j of them. -/
def frM (f : Nat → Bool) : Nat → List (Int × Value)
  | 0 => []
  | j + 1 => ((j : Int), .bool (f j)) :: frM f j
theorem frM_lt {f : Nat → Bool} : ∀ {j : Nat} {p : Int × Value}, p ∈ frM f j → p.1 < j
  | j + 1, p, hp => by
    rcases List.mem_cons.1 hp with rfl | hp
    · show (j : Int) < ((j + 1 : Nat) : Int); omega
    · have := frM_lt hp; omega
theorem frM_filter (f : Nat → Bool) (j : Nat) : (frM f j).filter (fun p => p.1 != (j : Int)) = frM f j := by
  rw [List.filter_eq_self]
  intro p hp
  have := frM_lt hp
  have : p.1 ≠ (j : Int) := by omega
  simpa using this
theorem frM_len (f : Nat → Bool) : ∀ j, (frM f j).length = j
  | 0 => rfl
  | j + 1 => by show (frM f j).length + 1 = _; rw [frM_len f j]
theorem frM_mem (f : Nat → Bool) : ∀ {j i : Nat}, i < j → ((i : Int), Value.bool (f i)) ∈ frM f j
  | j + 1, i, h => by
    by_cases e : i = j
    · subst e; exact List.mem_cons_self ..
    · exact List.mem_cons_of_mem _ (frM_mem f (by omega))
/-- A queue, a row of entries, blocks that stay. -/
structure FY (W : World) (O : Nat → Prop) (b : Nat) (K : List (Nat × Obj)) (S : Rq) (v : Value) (l : List Et) (w : World) : Prop where
  q : HQ W O b S w
  row : ER w W.heap.size v l
  nv : ∀ g, v.ownBlock = some g → ¬ O g
  kp : Kept K O w
theorem ER.lt {w : World} {B : Nat} {v : Value} {l : List Et} (h : ER w B v l) {g : Nat} (hg : v.ownBlock = some g) : B ≤ g ∧ g < w.heap.size := by
  rcases h.2 with ⟨rfl, _⟩ | ⟨g', cap, cur, rfl, hB, hk, _⟩
  · cases hg
  · simp only [Value.ownBlock, Option.some.injEq] at hg
    subst hg
    exact ⟨hB, ltOf hk⟩
theorem ER.block {w w' : World} {B : Nat} {v : Value} {l : List Et} (h : ER w B v l) (hb : ∀ g, v.ownBlock = some g → w'.heap[g]? = w.heap[g]?) : ER w' B v l := by
  rcases h.2 with ⟨rfl, h0⟩ | ⟨g, cap, cur, rfl, hB, hk, hr⟩
  · exact ⟨h.1, .inl ⟨rfl, h0⟩⟩
  · exact ⟨h.1, .inr ⟨g, cap, cur, rfl, hB, (hb g rfl).trans hk, hr⟩⟩
section
variable {W : World} {O O' : Nat → Prop} {b m : Nat} {K : List (Nat × Obj)} {S S' : Rq} {v v' : Value} {l l' : List Et} {w w' : World} {J : List (Int × Value)}
theorem FY.step (h : FY W O b K S v l w) (q' : HQ W O' b S' w') (s : St O O' w w') : FY W O' b K S' v l w' :=
  ⟨q', (h.row.st s h.nv).1, (h.row.st s h.nv).2, h.kp.st s⟩
theorem FY.below (h : FY W O b K S v l w) (s : Below w.heap.size w w') : FY W O b K S v l w' := h.step (h.q.next s) (St.of_below s)
theorem FY.add (h : FY W O b K S v l w) {g : Nat} {o : Obj} (hg : w.heap[g]? = some o) (hn : ¬ O g) : FY W O b ((g, o) :: K) S v l w := ⟨h.q, h.row, h.nv, h.kp.add hg hn⟩
theorem FY.less (h : FY W O b K S v l w) : FY W O b [] S v l w := ⟨h.q, h.row, h.nv, Kept.nil _ _⟩
theorem FY.old (h : FY W O b K S v l w) {k : Nat} (hk : w.heap.size ≤ k) : ¬ O k := fun e => by have := h.q.olt _ e; omega
/-- .. the row is another one now. -/
theorem FY.turn (h : FY W O b K S v l w) (g : w.grownBy w' v.ownBlock) (r : ER w' W.heap.size v' l') (ho : v'.ownBlock = v.ownBlock ∨ ∀ i, v'.ownBlock = some i → w.heap.size ≤ i) (hk : ∀ p ∈ K, v.ownBlock ≠ some p.1) : FY W O b K S v' l' w' := by
  obtain ⟨u, fm, gm, P, G, k⟩ := h.q.ra
  refine ⟨⟨⟨u, fm, gm, P, G, k.of (fun i hi => g.block i (k.olt i hi) (fun e => h.nv i e.symm hi)) g.size⟩, h.q.ge, ⟨g.os.trans h.q.below.os, g.tape.trans h.q.below.tape, g.output.trans h.q.below.output, Nat.le_trans h.q.below.size g.size, fun i hi => (g.block i (Nat.lt_of_lt_of_le hi h.q.below.size) (fun e => by have := (h.row.lt e.symm).1; omega)).trans (h.q.below.block i hi)⟩⟩, r, fun i hi => ?_, fun p hp => ⟨(g.block p.1 (hlt (h.kp p hp).1) (fun e => hk p hp e.symm)).trans (h.kp p hp).1, (h.kp p hp).2⟩⟩
  rcases ho with ho | ho
  · exact h.nv i (ho ▸ hi)
  · exact h.old (ho i hi)
/-- .. and a map of the law's own. -/
structure FM (W : World) (O : Nat → Prop) (b : Nat) (K : List (Nat × Obj)) (m : Nat) (J : List (Int × Value)) (S : Rq) (v : Value) (l : List Et) (w : World) : Prop where
  y : FY W O b K S v l w
  j : JAt w m J
  nm : ¬ O m
  gm : W.heap.size ≤ m
  nvm : ∀ g, v.ownBlock = some g → g ≠ m
  km : ∀ p ∈ K, p.1 ≠ m
theorem FM.step (h : FM W O b K m J S v l w) (q' : HQ W O' b S' w') (s : St O O' w w') : FM W O' b K m J S' v l w' :=
  ⟨h.y.step q' s, (h.j.st s h.nm).1, (h.j.st s h.nm).2, h.gm, h.nvm, h.km⟩
theorem FM.below (h : FM W O b K m J S v l w) (s : Below w.heap.size w w') : FM W O b K m J S v l w' := h.step (h.y.q.next s) (St.of_below s)
theorem FM.made (h : FY W O b K S v l w) : FM W O b K w.heap.size [] S v l (w.alloc (.map #[] 0)) :=
  ⟨h.below (below_box w _), JAt.made w, h.old (Nat.le_refl _), h.q.below.size, fun g hg => by have := (h.row.lt hg).2; omega, fun p hp => by have := hlt (h.kp p hp).1; omega⟩
theorem FM.put (h : FM W O b K m J S v l w) {J' : List (Int × Value)} (j' : JAt w' m J') (t : w.mapTurned w' m) : FM W O b K m J' S v l w' :=
  ⟨⟨h.y.q.turned t h.nm h.gm, h.y.row.block fun g hg => t.grown.block g (h.y.row.lt hg).2 (fun e => h.nvm g hg (by cases e; rfl)), h.y.nv, fun p hp => ⟨(t.grown.block p.1 (hlt (h.y.kp p hp).1) (fun e => h.km p hp (by cases e; rfl))).trans (h.y.kp p hp).1, (h.y.kp p hp).2⟩⟩, j', h.nm, h.gm, h.nvm, h.km⟩
theorem FM.add (h : FM W O b K m J S v l w) {g : Nat} {o : Obj} (hg : w.heap[g]? = some o) (hn : ¬ O g) (hm : g ≠ m) : FM W O b ((g, o) :: K) m J S v l w :=
  ⟨h.y.add hg hn, h.j, h.nm, h.gm, h.nvm, fun p hp => by
    rcases List.mem_cons.1 hp with rfl | hp
    · exact hm
    · exact h.km p hp⟩
theorem FY.lenN {g lm : Int} {k N : Nat} (h : FY W O b K S v l w) (p : FP g lm k S l) (hN : l.length = N) : Calls Try.prog 20 #[.pointer (some ⟨b, 0, none⟩)] w fun e w' => e = .returned (.int .i64 (N : Int)) ∧ w' = w := by
  have e : S.L.length = N := by rw [← hN, p.e, List.length_map]
  rw [← e]
  exact len_h h.q
end
/-- .. a row laid anew. -/
theorem FY.cut {W : World} {O : Nat → Prop} {b : Nat} {K : List (Nat × Obj)} {S : Rq} {v v' : Value} {l l' : List Et} {w w' : World} (h : FY W O b K S v l w) (hb : Below w.heap.size w w') (r : ER w' w.heap.size v' l') : FY W O b K S v' l' w' :=
  ⟨h.q.next hb, own_mono r h.q.below.size, fun _ hi => h.old (r.lt hi).1, h.kp.st (St.of_below hb)⟩
/-- One more in the row: what append makes of it. -/
theorem app_one {w : World} {B : Nat} {v : Value} {l : List Et} (h : ER w B v l) (x : Et) (hl : l.length ≤ 1000) (hB : B ≤ w.heap.size) :
    ∃ A c w', (Builtin.append_ #[56, 56] 56 #[v, .slice (some ⟨w.heap.size, 0, none⟩) 1 1]).run Try.prog (w.alloc (.cells (ecs x) 34)) = .ok (.slice A (l.length + 1) c) w' ∧ ER w' B (.slice A (l.length + 1) c) (l ++ [x]) ∧ (w.alloc (.cells (ecs x) 34)).grownBy w' v.ownBlock ∧ ((Value.slice A (l.length + 1) c).ownBlock = v.ownBlock ∨ ∀ i, (Value.slice A (l.length + 1) c).ownBlock = some i → (w.alloc (.cells (ecs x) 34)).heap.size ≤ i) := by
  have hb := below_box w (.cells (ecs x) 34)
  have h1 : ER (w.alloc (.cells (ecs x) 34)) B v l := h.block fun g hg => hb.block g (h.lt hg).2
  have hx := newOf w (.cells (ecs x) 34)
  obtain ⟨v', w', hr, h2, h3, h4⟩ := app_et h1 56 ⟨w.heap.size, 0, none⟩ 1 1 [x] rfl (fun j u hu => by
    rw [show (⟨w.heap.size, 0, none⟩ : Addr).add j = ⟨w.heap.size, j, none⟩ by unfold Addr.add; split <;> simp_all, cellOf hx]
    simpa [encE] using hu) (by omega) (Nat.le_trans hB hb.size)
  obtain ⟨A, c, rfl⟩ := h2.slice
  have e : (l ++ [x]).length = l.length + 1 := by simp
  rw [e] at hr h2 h4
  refine ⟨A, c, w', hr, h2, h3, ?_⟩
  rcases h4 with h4 | h4
  · exact .inl h4
  · exact .inr fun i hi => by rw [h4] at hi; cases hi; exact Nat.le_refl _
theorem wpList_app_run {P : Program} {w w' : World} {ops : Array Oper} {rest : List Oper} {o : Oper} {a : Act} {Q : Exit → Act → World → Prop} (hg : o.guard = none) (s x : Operand) (t : TypeId)
    (ho : o.op = .call { callee := .builtin .append, args := #[s, x], argTypes := #[t, t] }) (v u v' : Value) (hs : a.eval s = v) (hx : a.eval x = u) (hrun : (Builtin.append_ #[t, t] o.type #[v, u]).run P w = .ok v' w') (h : wpList P ops Q rest (a.put o.dst v') w') : wpList P ops Q (o :: rest) a w := by
  refine wpList_plain hg fun K hK => ?_
  unfold Oper.wp execOp
  simp only [ho, resolve, invoke, builtin, Sem.run_bind, Sem.run_pure, Result.andThen_ok, List.map_toArray, List.map_cons, List.map_nil, hs, hx, hrun]
  exact hK _ _ h
/-- At a step of a region that draws its order. -/
theorem step_app_run {P : Program} {w w' : World} {ops : Array Oper} {o : Oper} {a : Act} {K : Act → World → Prop} {Q : Exit → Act → World → Prop} {E : Prop} (hg : o.guard = none) (s x : Operand) (t : TypeId)
    (ho : o.op = .call { callee := .builtin .append, args := #[s, x], argTypes := #[t, t] }) (v u v' : Value) (hs : a.eval s = v) (hx : a.eval x = u) (hrun : (Builtin.append_ #[t, t] o.type #[v, u]).run P w = .ok v' w') (h : K (a.put o.dst v') w') :
    if Region.wanted o (yielded ops a.tmps) = true then Oper.wp P o a w K Q else E := by
  rw [if_pos (by simp [Region.wanted, hg])]
  unfold Oper.wp execOp
  simp only [ho, resolve, invoke, builtin, Sem.run_bind, Sem.run_pure, Result.andThen_ok, List.map_toArray, List.map_cons, List.map_nil, hs, hx, hrun]
  exact h
end Go.Proofs.Ytjjndndhmccflaa
