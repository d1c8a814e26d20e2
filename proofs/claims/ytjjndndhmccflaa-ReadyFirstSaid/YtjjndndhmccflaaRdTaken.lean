/-
  Plain: the row in order, taken one by one; a queue beside maps of the law's own.
-/
import Derived.Test.YtjjndndhmccflaaRdEq
namespace Go.Proofs.Ytjjndndhmccflaa
set_option maxRecDepth 100000
open Go.RowKit
theorem rankB (x : Et) (n g : Int) (hx : okE x = true) (hn : NowOk n g) {r : Int} (hr : rk x.pri x.at_ n g = r) (w : World) :
    Calls Try.prog 23 #[agE x, .int .i64 n, .int .i64 g] w fun e w' => e = .returned (.int .i64 r) ∧ Below w.heap.size w w' := by
  obtain ⟨z0, z1, z2, z3, z4, z5, z6⟩ := okE_iff.1 hx
  refine (rank_x x n g w z3 z4 z5 z6 hn.1 hn.2.1 hn.2.2.1 hn.2.2.2).mono ?_
  rintro e w' ⟨rfl, rfl⟩
  exact ⟨by rw [hr], below_box w _⟩
theorem bet_imp {g n : Int} {l : List Wt} (h : l.Pairwise (fun a b => bet g n a b = true)) : l.Pairwise (fun a b => bet g n b a = false) := h.imp fun {_ _} e => bet_asymm e
/-- The first of those in order is gone: the others are as they were. -/
theorem srt_tail {g n : Int} {l r : List Wt} {x : Wt} (hd : l.Pairwise (fun a b => a.2 ≠ b.2)) (hn : (l.map (fun x => x.1.id)).Nodup) (h : srt g n l = x :: r) : srt g n (l.filter fun y => y.1.id != x.1.id) = r := by
  have hp := srt_perm g n l
  have hw := srt_pw (g := g) (n := n) hd
  rw [h] at hp hw
  have hn' : ((x :: r).map (fun x => x.1.id)).Nodup := (hp.map _).nodup_iff.2 hn
  rw [List.map_cons, List.nodup_cons] at hn'
  have hf : (x :: r).filter (fun y => y.1.id != x.1.id) = r := by
    rw [List.filter_cons_of_neg (by simp), List.filter_eq_self]
    intro y hy
    have : y.1.id ≠ x.1.id := fun e => hn'.1 (e ▸ List.mem_map.2 ⟨y, hy, rfl⟩)
    simpa using this
  have hp2 : r.Perm (l.filter fun y => y.1.id != x.1.id) := by
    have := hp.filter (fun y => y.1.id != x.1.id)
    rwa [hf] at this
  exact (srt_of hp2 (hd.filter _) (bet_imp (List.pairwise_cons.1 hw).2)).symm
theorem srt_nil {g n : Int} {l : List Wt} (h : srt g n l = []) : l = [] := by
  have hp := srt_perm g n l
  rw [h] at hp
  exact hp.symm.eq_nil
/-- Nobody flies, and there is no cap in the way: the first one is taken. -/
theorem take_first {S : Rq} {n : Int} {x : Wt} {r : List Wt} (hF : S.F = []) (hl : 1 ≤ S.lim) (h : srt S.age n S.L = x :: r) : takeE S n = some x := by
  unfold takeE
  rw [h, List.find?_cons_of_pos]
  unfold free cnt
  rw [hF]
  exact decide_eq_true (by rw [List.countP_nil]; show (0 : Int) < S.lim; omega)
theorem take_none {S : Rq} {n : Int} (h : srt S.age n S.L = []) : takeE S n = none := by unfold takeE; rw [h]; rfl
/-- .. and done: who is left. -/
theorem take_done {S : Rq} {n : Int} {x : Wt} {r : List Wt} (hS : OkQ S) (hF : S.F = []) (h : srt S.age n S.L = x :: r) :
    (doneQ (takeQ S n) x.1.id).F = [] ∧ srt (doneQ (takeQ S n) x.1.id).age n (doneQ (takeQ S n) x.1.id).L = r ∧ (doneQ (takeQ S n) x.1.id).age = S.age ∧ (doneQ (takeQ S n) x.1.id).lim = S.lim ∧ hasF (takeQ S n) x.1.id = true := by
  have ht := take_first hF hS.lim1 h
  have e : takeQ S n = { S with L := S.L.filter (fun y => y.1.id != x.1.id), F := x.1 :: S.F } := by unfold takeQ; rw [ht]
  rw [e, hF]
  refine ⟨by unfold doneQ; simp, srt_tail hS.ne hS.idsL h, rfl, rfl, by unfold hasF; simp⟩
/-- A queue that another block's turning leaves alone. -/
theorem HQ.turned {W : World} {O : Nat → Prop} {b : Nat} {S : Rq} {w w' : World} {m : Nat} (h : HQ W O b S w) (t : w.mapTurned w' m) (hm : ¬ O m) (hW : W.heap.size ≤ m) : HQ W O b S w' := by
  have g := t.grown
  obtain ⟨v, fm, gm, P, G, k⟩ := h.ra
  refine ⟨⟨v, fm, gm, P, G, k.of (fun i hi => g.block i (k.olt i hi) (fun e => hm (by cases e; exact hi))) g.size⟩, h.ge, ⟨g.os.trans h.below.os, g.tape.trans h.below.tape, g.output.trans h.below.output, Nat.le_trans h.below.size g.size, fun i hi => (g.block i (Nat.lt_of_lt_of_le hi h.below.size) (fun e => by cases e; omega)).trans (h.below.block i hi)⟩⟩
/-- A map beside a queue. -/
theorem JAt.st {O O' : Nat → Prop} {w w' : World} {m : Nat} {L : List (Int × Value)} (h : JAt w m L) (s : St O O' w w') (hm : ¬ O m) : JAt w' m L ∧ ¬ O' m := ⟨h.block (s.at h.lt hm), s.not h.lt hm⟩
end Go.Proofs.Ytjjndndhmccflaa
