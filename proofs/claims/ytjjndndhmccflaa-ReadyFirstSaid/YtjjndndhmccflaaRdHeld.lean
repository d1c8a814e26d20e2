/-
  A queue as a law holds it: its calls, and what stays beside them.
-/
import Derived.Test.YtjjndndhmccflaaRdOrd
namespace Go.Proofs.Ytjjndndhmccflaa
set_option maxRecDepth 100000
open Go.RowKit
/-- What a call leaves: nothing has turned but what lies in O; O' is of O's and of new blocks. -/
structure St (O O' : Nat → Prop) (w w' : World) : Prop where
  fr : Fr O w w'
  new : ∀ i, O' i → O i ∨ w.heap.size ≤ i
section
variable {O O' O2 : Nat → Prop} {w w' w2 : World}
theorem St.at (h : St O O' w w') {k : Nat} (hk : k < w.heap.size) (hn : ¬ O k) : w'.heap[k]? = w.heap[k]? := h.fr.block k hk hn
theorem St.not (h : St O O' w w') {k : Nat} (hk : k < w.heap.size) (hn : ¬ O k) : ¬ O' k := fun e => by rcases h.new k e with e | e; exact hn e; omega
theorem St.trans (h : St O O' w w') (k : St O' O2 w' w2) : St O O2 w w2 :=
  ⟨h.fr.trans k.fr fun i hi e => (h.new i e).resolve_right (by omega), fun i e => by
    rcases k.new i e with e | e
    · exact h.new i e
    · exact .inr (Nat.le_trans h.fr.size e)⟩
theorem St.of_below (h : Below w.heap.size w w') : St O O w w' := ⟨Fr.of_below h, fun _ e => .inl e⟩
theorem St.refl : St O O w w := St.of_below (Below.refl _ _)
theorem St.of_fr (h : Fr O w w') : St O O w w' := ⟨h, fun _ e => .inl e⟩
end
/-- A law's own queue. -/
structure HQ (W : World) (O : Nat → Prop) (b : Nat) (S : Rq) (w : World) : Prop where
  ra : RA O b S w
  ge : ∀ k, O k → W.heap.size ≤ k
  below : Below W.heap.size W w
section
variable {W : World} {O O' : Nat → Prop} {b : Nat} {S S' : Rq} {w w' : World}
theorem HQ.ok (h : HQ W O b S w) : OkQ S := by obtain ⟨v, fm, gm, P, G, k⟩ := h.ra; exact k.ok
theorem HQ.olt (h : HQ W O b S w) : ∀ k, O k → k < w.heap.size := by obtain ⟨v, fm, gm, P, G, k⟩ := h.ra; exact k.olt
theorem HQ.step (h : HQ W O b S w) (k : RA O' b S' w') (s : St O O' w w') : HQ W O' b S' w' :=
  ⟨k, fun i e => by
    rcases s.new i e with e | e
    · exact h.ge i e
    · exact Nat.le_trans h.below.size e, h.below.trans (s.fr.below h.below.size fun i hi e => by have := h.ge i e; omega)⟩
theorem HQ.next (h : HQ W O b S w) (k : Below w.heap.size w w') : HQ W O b S w' := h.step (h.ra.below k) (St.of_below k)
theorem HQ.drewN (h : HQ W O b S w) (n : Nat) : HQ W O b S (w.drewN n) := h.next (below_drewN (Below.refl _ _) n)
theorem new_h (hb : Below W.heap.size W w) (g l r : Int) (h : rightN g l r = true) : Calls Try.prog 7 #[.int .i64 g, .int .i64 l, .int .i64 r] w fun e w' => ∃ b O, e = .returned (.tuple #[.pointer (some ⟨b, 0, none⟩), .int .i64 0]) ∧ HQ W O b (newS g l r) w' ∧ Below w.heap.size w w' ∧ ∀ k, O k → w.heap.size ≤ k := by
  refine (new_x g l r w h).mono ?_
  rintro e w' ⟨rfl, ⟨O, h1, h2⟩, h3⟩
  exact ⟨_, O, rfl, ⟨h1, fun k e => Nat.le_trans hb.size (h2 k e), below_next hb h3⟩, h3, h2⟩
theorem put_h (h : HQ W O b S w) (x : Et) (hn : S.n < 1000000) (hi : Nm x.id) (hd : x.dest.length ≤ 1000000000) :
    Calls Try.prog 10 #[.pointer (some ⟨b, 0, none⟩), agE x] w fun e w' => e = .returned (.int .i64 (putE S x)) ∧ ∃ O', HQ W O' b (putQ S x) w' ∧ St O O' w w' := by
  refine (put_x h.ra x hn hi hd).mono ?_
  rintro e w' ⟨rfl, ⟨O', h1, h2⟩, h3⟩
  exact ⟨rfl, O', h.step h1 ⟨h3, h2⟩, h3, h2⟩
/-- Who is taken, and whether anybody is. -/
def tkE (S : Rq) (n : Int) : Et := match takeE S n with | none => zEt | some x => x.1
def tkB (S : Rq) (n : Int) : Bool := (takeE S n).isSome
theorem take_h (h : HQ W O b S w) (n : Int) (hn : NowOk n S.age) :
    Calls Try.prog 12 #[.pointer (some ⟨b, 0, none⟩), .int .i64 n] w fun e w' => e = .returned (.tuple #[agE (tkE S n), .bool (tkB S n)]) ∧ HQ W O b (takeQ S n) w' ∧ St O O w w' := by
  refine (take_x h.ra n hn).mono ?_
  rintro e w' ⟨h1, h2, h3⟩
  refine ⟨?_, h.step h2 (St.of_fr h3), St.of_fr h3⟩
  unfold tkE tkB
  rcases h1 with ⟨e1, rfl⟩ | ⟨x, e1, rfl⟩ <;> rw [e1] <;> rfl
theorem done_h (h : HQ W O b S w) (i : Int) (hi : Nm i) :
    Calls Try.prog 14 #[.pointer (some ⟨b, 0, none⟩), .int .i64 i] w fun e w' => e = .returned (.bool (hasF S i)) ∧ HQ W O b (doneQ S i) w' ∧ St O O w w' := by
  refine (done_x h.ra i hi).mono ?_
  rintro e w' ⟨rfl, h2, h3⟩
  exact ⟨rfl, h.step h2 (St.of_fr h3), St.of_fr h3⟩
theorem remove_h (h : HQ W O b S w) (i : Int) :
    Calls Try.prog 16 #[.pointer (some ⟨b, 0, none⟩), .int .i64 i] w fun e w' => e = .returned (.bool (hasL S i)) ∧ HQ W O b (removeQ S i) w' ∧ St O O w w' := by
  refine (remove_x h.ra i).mono ?_
  rintro e w' ⟨rfl, h2, h3⟩
  exact ⟨rfl, h.step h2 (St.of_fr h3), St.of_fr h3⟩
theorem len_h (h : HQ W O b S w) : Calls Try.prog 20 #[.pointer (some ⟨b, 0, none⟩)] w fun e w' => e = .returned (.int .i64 (S.L.length : Int)) ∧ w' = w := len_x h.ra
theorem flying_h (h : HQ W O b S w) (d : Txt) (hd : d.length ≤ 1000000000) : Calls Try.prog 21 #[.pointer (some ⟨b, 0, none⟩), .string (mkS d)] w fun e w' => e = .returned (.int .i64 (cnt S.F d)) ∧ w' = w := flying_x h.ra d hd
theorem order_h (h : HQ W O b S w) (n : Int) (hn : NowOk n S.age) :
    Calls Try.prog 18 #[.pointer (some ⟨b, 0, none⟩), .int .i64 n] w fun e w' => ∃ A c, e = .returned (.slice A (ordQ S n).length c) ∧ w'.ownsRow w.heap.size 3 1 (.slice A (ordQ S n).length c) (ordQ S n).length (intsR (ordQ S n)) ∧ HQ W O b S w' ∧ St O O w w' := by
  refine (order_x h.ra n hn).mono ?_
  rintro e w' ⟨⟨v, rfl, h1⟩, h2, h3⟩
  obtain ⟨A, c, rfl⟩ := own_slice h1
  exact ⟨A, c, rfl, h1, h.step h2 (St.of_fr h3), St.of_fr h3⟩
end
/-- Blocks that stay beside a queue. -/
def Kept (L : List (Nat × Obj)) (O : Nat → Prop) (w : World) : Prop := ∀ p ∈ L, w.heap[p.1]? = some p.2 ∧ ¬ O p.1
theorem hlt {w : World} {g : Nat} {o : Obj} (h : w.heap[g]? = some o) : g < w.heap.size := by
  rcases Nat.lt_or_ge g w.heap.size with hl | hl
  · exact hl
  · rw [Array.getElem?_eq_none hl] at h; cases h
theorem Kept.st {L : List (Nat × Obj)} {O O' : Nat → Prop} {w w' : World} (h : Kept L O w) (s : St O O' w w') : Kept L O' w' := fun p hp =>
  ⟨(s.at (hlt (h p hp).1) (h p hp).2).trans (h p hp).1, s.not (hlt (h p hp).1) (h p hp).2⟩
theorem Kept.nil (O : Nat → Prop) (w : World) : Kept [] O w := fun _ hp => (List.not_mem_nil hp).elim
theorem Kept.add {L : List (Nat × Obj)} {O : Nat → Prop} {w : World} (h : Kept L O w) {g : Nat} {o : Obj} (hg : w.heap[g]? = some o) (hn : ¬ O g) : Kept ((g, o) :: L) O w := fun p hp => by
  rcases List.mem_cons.1 hp with rfl | hp
  · exact ⟨hg, hn⟩
  · exact h p hp
end Go.Proofs.Ytjjndndhmccflaa
