/-
  A ready queue in memory: its own block, the row of who is there, the two maps; what stays.
-/
import Derived.Test.YtjjndndhmccflaaRdMap
import Derived.Deep.AppendLies
import Derived.WalkSmall
import Derived.OneCell
import Derived.Laws.OwnMore
import Derived.Lib.OwnKind
import Derived.RegionTactic
import Derived.Shelf.GgSortFunc.InsertionK
namespace Go.Proofs.Ytjjndndhmccflaa
set_option maxRecDepth 100000
open Go.RowKit
/-- Nothing has turned but what lies in O, and what is new. -/
structure Fr (O : Nat → Prop) (w w' : World) : Prop where
  os : w'.os = w.os
  tape : w'.tape = w.tape
  output : w'.output = w.output
  size : w.heap.size ≤ w'.heap.size
  block : ∀ k, k < w.heap.size → ¬ O k → w'.heap[k]? = w.heap[k]?
theorem Fr.refl (O : Nat → Prop) (w : World) : Fr O w w := ⟨rfl, rfl, rfl, Nat.le_refl _, fun _ _ _ => rfl⟩
theorem Fr.drewN (O : Nat → Prop) (w : World) (n : Nat) : Fr O w (w.drewN n) := ⟨rfl, rfl, rfl, Nat.le_refl _, fun _ _ _ => rfl⟩
theorem Fr.trans {O O' : Nat → Prop} {a b c : World} (h : Fr O a b) (k : Fr O' b c) (hs : ∀ i, i < a.heap.size → O' i → O i) : Fr O a c :=
  ⟨k.os.trans h.os, k.tape.trans h.tape, k.output.trans h.output, Nat.le_trans h.size k.size, fun i hi hn => (k.block i (Nat.lt_of_lt_of_le hi h.size) (fun e => hn (hs i hi e))).trans (h.block i hi hn)⟩
theorem Fr.trans0 {O : Nat → Prop} {a b c : World} (h : Fr O a b) (k : Fr O b c) : Fr O a c := h.trans k fun _ _ e => e
theorem Fr.mono {O O' : Nat → Prop} {a b : World} (h : Fr O a b) (hs : ∀ i, i < a.heap.size → O i → O' i) : Fr O' a b := ⟨h.os, h.tape, h.output, h.size, fun k hk hn => h.block k hk fun e => hn (hs k hk e)⟩
theorem Fr.of_below {O : Nat → Prop} {w w' : World} (h : Below w.heap.size w w') : Fr O w w' := ⟨h.os, h.tape, h.output, h.size, fun k hk _ => h.block k hk⟩
theorem Fr.of_drew {O : Nat → Prop} {w w' : World} (h : ∃ m, w' = w.drewN m) : Fr O w w' := by obtain ⟨m, rfl⟩ := h; exact Fr.drewN O w m
theorem Fr.below {O : Nat → Prop} {w w' : World} (h : Fr O w w') {B : Nat} (hB : B ≤ w.heap.size) (hO : ∀ k, k < B → ¬ O k) : Below B w w' := ⟨h.os, h.tape, h.output, h.size, fun k hk => h.block k (by omega) (hO k hk)⟩
theorem Fr.set {O : Nat → Prop} {a w : World} (h : Fr O a w) {b : Nat} (hb : O b) (i : Nat) (v : Value) : Fr O a (w.setCell ⟨b, i, none⟩ v) :=
  ⟨h.os, h.tape, h.output, by rw [World.size_setCell]; exact h.size, fun k hk hne => (Below.heap_setCell _ _ _ k (fun e => hne (by rw [show k = b from e]; exact hb))).trans (h.block k hk hne)⟩
theorem Fr.alloc {O : Nat → Prop} {a w : World} (h : Fr O a w) (o : Obj) : Fr O a (w.alloc o) :=
  h.trans (Fr.of_below ((Below.refl _ w).alloc (Nat.le_refl _) o) : Fr O w (w.alloc o)) fun _ _ e => e
theorem Fr.heap {O : Nat → Prop} {a w w' : World} (h : Fr O a w) (e0 : w'.os = w.os) (e1 : w'.tape = w.tape) (e2 : w'.output = w.output) (e3 : w'.heap = w.heap) : Fr O a w' := ⟨e0.trans h.os, e1.trans h.tape, e2.trans h.output, by rw [e3]; exact h.size, by rw [e3]; exact h.block⟩
theorem Fr.drew {O : Nat → Prop} {a w : World} (h : Fr O a w) : Fr O a w.drew := ⟨h.os, h.tape, h.output, h.size, h.block⟩
theorem Fr.turned {O : Nat → Prop} {a w w' : World} (h : Fr O a w) {m : Nat} (k : w.mapTurned w' m) (hm : O m) : Fr O a w' := by
  have g := k.grown
  exact h.trans (⟨g.os, g.tape, g.output, g.size, fun i hi hn => g.block i hi (fun e => hn (by cases e; exact hm))⟩ : Fr O w w') fun _ _ e => e
theorem set_far {w : World} {a b : Nat} (hne : a ≠ b) (i : Nat) (v : Value) : (w.setCell ⟨b, i, none⟩ v).heap[a]? = w.heap[a]? := Below.heap_setCell _ _ _ a (fun e => hne e)
/-- An entry's cells, and those of one with the put that brought it. -/
def encE (e : Et) : List Value := [.int .i64 e.id, .string (mkS e.dest), .int .i64 e.pri, .int .i64 e.at_]
def encR (x : Wt) : List Value := [.int .i64 x.1.id, .string (mkS x.1.dest), .int .i64 x.1.pri, .int .i64 x.1.at_, .int .i64 x.2]
abbrev agE (e : Et) : Value := .agg #[.int .i64 e.id, .string (mkS e.dest), .int .i64 e.pri, .int .i64 e.at_]
abbrev agR (x : Wt) : Value := .agg #[.int .i64 x.1.id, .string (mkS x.1.dest), .int .i64 x.1.pri, .int .i64 x.1.at_, .int .i64 x.2]
theorem encR_len (x : Wt) : (encR x).length = 5 := rfl
theorem encR_one (x : Wt) : ∀ v ∈ encR x, v.oneCell' = true := by
  intro v hv
  simp only [encR, List.mem_cons, List.not_mem_nil, or_false] at hv
  rcases hv with rfl | rfl | rfl | rfl | rfl <;> rfl
/-- An entry that is right; any other one as some that is. -/
def nrm (e : Et) : Et := if okE e = true then e else default
theorem nrm_ok (e : Et) : okE (nrm e) = true := by
  unfold nrm
  split
  · assumption
  · decide
theorem nrm_of {e : Et} (h : okE e = true) : nrm e = e := by unfold nrm; rw [if_pos h]
def encN (x : Wt) : List Value := encR (nrm x.1, x.2)
theorem encN_of {x : Wt} (h : okE x.1 = true) : encN x = encR x := by unfold encN; rw [nrm_of h]
theorem encN_len (x : Wt) : (encN x).length = 5 := rfl
theorem encN_one (x : Wt) : ∀ v ∈ encN x, v.oneCell' = true := encR_one _
theorem flat_get {α : Type} (f : α → List Value) (k : Nat) (hk : ∀ x, (f x).length = k) : ∀ (l : List α) (j c : Nat) (x : α), c < k → l[j]? = some x → (l.flatMap f)[j * k + c]? = (f x)[c]?
  | [], _, _, _, _, h => by simp at h
  | y :: r, 0, c, x, hc, h => by
    simp only [List.getElem?_cons_zero, Option.some.injEq] at h
    subst h
    rw [List.flatMap_cons, Nat.zero_mul, Nat.zero_add, List.getElem?_append_left (by rw [hk]; exact hc)]
  | y :: r, j + 1, c, x, hc, h => by
    rw [List.getElem?_cons_succ] at h
    rw [List.flatMap_cons, List.getElem?_append_right (by rw [hk, Nat.add_mul]; omega), hk, show (j + 1) * k + c - k = j * k + c by rw [Nat.add_mul]; omega]
    exact flat_get f k hk r j c x hc h
theorem flat_len {α : Type} (f : α → List Value) (k : Nat) (hk : ∀ x, (f x).length = k) : ∀ (l : List α), (l.flatMap f).length = l.length * k
  | [] => by simp
  | y :: r => by rw [List.flatMap_cons, List.length_append, hk, flat_len f k hk r, List.length_cons, Nat.add_mul]; omega
theorem flatK_list {α : Type} [Inhabited α] (f : α → List Value) (k : Nat) (hk : ∀ x, (f x).length = k) (d : Array α) : (Go.Sort.flatK f k d).toList = d.toList.flatMap f := by
  apply List.ext_getElem?
  intro t
  by_cases ht : t < d.size * k
  · have k0 : 0 < k := by rcases Nat.eq_zero_or_pos k with h | h
                          · subst h; simp at ht
                          · exact h
    have hd : t / k < d.size := (Nat.div_lt_iff_lt_mul k0).2 ht
    have hm : t % k < k := Nat.mod_lt t k0
    have e1 := flat_get f k hk d.toList (t / k) (t % k) d[t / k]! hm (by rw [Array.getElem?_toList, getElem!_pos d (t / k) hd, Array.getElem?_eq_getElem hd])
    rw [Nat.mul_comm, Nat.div_add_mod] at e1
    rw [e1, Array.getElem?_toList, ← Array.getElem?_toList, Array.getElem?_toList]
    have hs : t < (Go.Sort.flatK f k d).size := by rw [Go.Sort.size_flatK]; exact ht
    have e2 := Go.Sort.get_flatK f k d t ht
    rw [getElem!_pos (Go.Sort.flatK f k d) t hs] at e2
    rw [Array.getElem?_eq_getElem hs, e2]
    have hl : t % k < (f d[t / k]!).length := by rw [hk]; exact hm
    rw [getElem!_pos (f d[t / k]!) (t % k) hl, List.getElem?_eq_getElem hl]
  · rw [List.getElem?_eq_none (by rw [Array.length_toList, Go.Sort.size_flatK]; omega), List.getElem?_eq_none (by rw [flat_len f k hk, Array.length_toList]; omega)]
theorem flat_congr {α : Type} {f g : α → List Value} : ∀ {l : List α}, (∀ x ∈ l, f x = g x) → l.flatMap f = l.flatMap g
  | [], _ => rfl
  | x :: r, h => by rw [List.flatMap_cons, List.flatMap_cons, h x (List.mem_cons_self ..), flat_congr fun y hy => h y (List.mem_cons_of_mem _ hy)]
abbrev bxC (S : Rq) (v : Value) (fm gm : Nat) : Array Value := #[.int .i64 S.age, .int .i64 S.lim, .int .i64 S.room, .int .i64 S.n, v, .map (some fm), .map (some gm)]
def flyL (F : List Et) : List (Int × Value) := F.map fun e => (e.id, agE e)
/-- A QUEUE IN MEMORY. -/
structure RB (O : Nat → Prop) (b : Nat) (v : Value) (fm gm : Nat) (P : List Wt) (G : List (Txt × Int)) (S : Rq) (w : World) : Prop where
  box : w.heap[b]? = some (.cells (bxC S v fm gm) 64 (0, 0))
  row : w.ownsRow 0 70 5 v P.length (P.flatMap encR)
  perm : P.Perm S.L
  fly : JAt w fm (flyL S.F)
  go : MapAt w gm G
  cnt : ∀ d, getG G d = cnt S.F d
  glen : (G.length : Int) + S.L.length ≤ S.n
  ob : O b
  ofm : O fm
  ogm : O gm
  ov : ∀ g, v.ownBlock = some g → O g
  ne : fm ≠ gm
  ok : OkQ S
  olt : ∀ k, O k → k < w.heap.size
/-- The same, its parts not named. -/
def RA (O : Nat → Prop) (b : Nat) (S : Rq) (w : World) : Prop := ∃ v fm gm P G, RB O b v fm gm P G S w
section
variable {O : Nat → Prop} {b : Nat} {v : Value} {fm gm : Nat} {P : List Wt} {G : List (Txt × Int)} {S : Rq} {w w' : World}
theorem RB.few (h : RB O b v fm gm P G S w) : P.length ≤ 1000000 := by have := h.ok.len; have := h.ok.n1; rw [h.perm.length_eq]; omega
theorem RB.okP (h : RB O b v fm gm P G S w) : ∀ x ∈ P, okE x.1 = true ∧ x.1.id ≤ 9223372036854775807 := fun x hx => h.ok.okL x (h.perm.mem_iff.1 hx)
theorem RB.nm (h : RB O b v fm gm P G S w) : ∀ x ∈ P, Nm x.1.id := fun x hx => by obtain ⟨h1, h2⟩ := h.okP x hx; have := (okE_iff.1 h1).1; exact ⟨by omega, h2⟩
theorem RB.of (h : RB O b v fm gm P G S w) (k : ∀ i, O i → w'.heap[i]? = w.heap[i]?) (hs : w.heap.size ≤ w'.heap.size) : RB O b v fm gm P G S w' := by
  refine ⟨(k b h.ob).trans h.box, ⟨h.row.1, ?_⟩, h.perm, h.fly.block (k _ h.ofm), h.go.block (k _ h.ogm), h.cnt, h.glen, h.ob, h.ofm, h.ogm, h.ov, h.ne, h.ok, fun i hi => Nat.lt_of_lt_of_le (h.olt i hi) hs⟩
  rcases h.row.2 with h0 | ⟨g, cap, cur, rfl, hB, hk, h1⟩
  · exact .inl h0
  · exact .inr ⟨g, cap, cur, rfl, hB, (k g (h.ov g rfl)).trans hk, h1⟩
theorem RB.drewN (h : RB O b v fm gm P G S w) (n : Nat) : RB O b v fm gm P G S (w.drewN n) := h.of (fun _ _ => rfl) (Nat.le_refl _)
theorem RB.drew (h : RB O b v fm gm P G S w) : RB O b v fm gm P G S w.drew := h.of (fun _ _ => rfl) (Nat.le_refl _)
theorem RB.below (h : RB O b v fm gm P G S w) (k : Below w.heap.size w w') : RB O b v fm gm P G S w' := h.of (fun i hi => k.block i (h.olt i hi)) k.size
theorem RA.below (h : RA O b S w) (k : Below w.heap.size w w') : RA O b S w' := by obtain ⟨v, fm, gm, P, G, h⟩ := h; exact ⟨v, fm, gm, P, G, h.below k⟩
theorem RB.blt (h : RB O b v fm gm P G S w) : b < w.heap.size := ltOf h.box
theorem RB.c0 (h : RB O b v fm gm P G S w) : w.cell? ⟨b, 0, none⟩ = some (.int .i64 S.age) := cellOf h.box 0
theorem RB.c1 (h : RB O b v fm gm P G S w) : w.cell? ⟨b, 1, none⟩ = some (.int .i64 S.lim) := cellOf h.box 1
theorem RB.c2 (h : RB O b v fm gm P G S w) : w.cell? ⟨b, 2, none⟩ = some (.int .i64 S.room) := cellOf h.box 2
theorem RB.c3 (h : RB O b v fm gm P G S w) : w.cell? ⟨b, 3, none⟩ = some (.int .i64 S.n) := cellOf h.box 3
theorem RB.c4 (h : RB O b v fm gm P G S w) : w.cell? ⟨b, 4, none⟩ = some v := cellOf h.box 4
theorem RB.c5 (h : RB O b v fm gm P G S w) : w.cell? ⟨b, 5, none⟩ = some (.map (some fm)) := cellOf h.box 5
theorem RB.c6 (h : RB O b v fm gm P G S w) : w.cell? ⟨b, 6, none⟩ = some (.map (some gm)) := cellOf h.box 6
theorem RB.fr (h : RB O b v fm gm P G S w) (i : Nat) : w.frozen? ⟨b, i, none⟩ = false := freeOf h.box i
theorem RB.slice (h : RB O b v fm gm P G S w) : ∃ A c, v = .slice A P.length c := own_slice h.row
/-- Where someone is there, the row is a block. -/
theorem RB.form (h : RB O b v fm gm P G S w) (hl : 0 < P.length) : ∃ g cap cur, v = .slice (some ⟨g, 0, none⟩) P.length cap ∧ w.heap[g]? = some (.cells cur 70 (0, 0)) ∧ P.length ≤ cap ∧ cap ≤ maxLen ∧ cur.size = cap * 5 ∧ cur.toList.take (P.length * 5) = P.flatMap encR ∧ O g := by
  rcases h.row.2 with ⟨_, h0⟩ | ⟨g, cap, cur, hv, _, h1⟩
  · omega
  · exact ⟨g, cap, cur, hv, h1.1, h1.2.1, h1.2.2.1, h1.2.2.2.1, h1.2.2.2.2, h.ov g (by rw [hv]; rfl)⟩
theorem RB.nil (h : RB O b v fm gm P G S w) (hl : P = []) : ∃ A c, v = .slice A 0 c := by subst hl; exact h.slice
/-- The row's own block is none of the others. -/
theorem RB.gne (h : RB O b v fm gm P G S w) {g : Nat} (hg : v.ownBlock = some g) : g ≠ b ∧ g ≠ fm ∧ g ≠ gm := by
  rcases h.row.2 with ⟨rfl, _⟩ | ⟨g', cap, cur, rfl, _, hk, _⟩
  · cases hg
  · simp only [Value.ownBlock, Option.some.injEq] at hg
    subst hg
    refine ⟨fun e => ?_, fun e => ?_, fun e => ?_⟩
    · have hb := h.box
      rw [← e, hk] at hb; injection hb with hb; injection hb with _ h2; exact absurd h2 (by decide)
    · obtain ⟨es, c, hf⟩ := h.fly.isMap; rw [← e, hk] at hf; cases hf
    · obtain ⟨es, c, hf⟩ := h.go.isMap; rw [← e, hk] at hf; cases hf
theorem RB.bne (h : RB O b v fm gm P G S w) : b ≠ fm ∧ b ≠ gm := by
  refine ⟨fun e => ?_, fun e => ?_⟩
  · obtain ⟨es, c, hf⟩ := h.fly.isMap; rw [← e, h.box] at hf; cases hf
  · obtain ⟨es, c, hf⟩ := h.go.isMap; rw [← e, h.box] at hf; cases hf
theorem RB.get (h : RB O b v fm gm P G S w) {g cap : Nat} (hv : v = .slice (some ⟨g, 0, none⟩) P.length cap) {j c : Nat} {x : Wt} (hj : P[j]? = some x) (hc : c < 5) : w.cell? ⟨g, j * 5 + c, none⟩ = (encR x)[c]? := by
  have hr := h.row
  rw [hv] at hr
  have hl := (List.getElem?_eq_some_iff.1 hj).1
  rw [hr.cellAt (j * 5 + c) (by omega), flat_get encR 5 encR_len P j c x hc hj]
end
end Go.Proofs.Ytjjndndhmccflaa
