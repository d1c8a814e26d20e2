/-
  A copied row of recipients; its first one's Notify set.
-/
import Derived.Test.YtcedhgihebollaaGreatDoorMaEvB
import Derived.Test.YtcedhgihebollaaGreatDoorMaJgM
namespace Go.Proofs.YtcedhgihebollaaGreatDoor.E.J
set_option maxRecDepth 100000
open Go.RowKit Go.Shelf
theorem jadd_more (A : Addr) (k r : Nat) (hr : 0 < r) : A.add (k + r) = ⟨(A.add k).block, (A.add k).off + r, none⟩ := by
  obtain ⟨i, rfl⟩ : ∃ i, r = i + 1 := ⟨r - 1, by omega⟩
  unfold Addr.add
  split
  · rename_i h; omega
  · split
    · rename_i h; subst h; simp
    · simp [Nat.add_assoc]
theorem jrcV_get (l : List Rc) : ∀ (i r : Nat), r < 5 → (rcV l)[i * 5 + r]? = (l[i]?).bind fun t => (RC t).toList[r]? := by
  induction l with
  | nil => intro i r _; simp [rcV]
  | cons t l ih =>
    intro i r hr
    have e : rcV (t :: l) = (RC t).toList ++ rcV l := rfl
    cases i with
    | zero => rw [e, List.getElem?_append_left (by rw [RC_len]; omega)]; simp
    | succ i => rw [e, List.getElem?_append_right (by rw [RC_len]; omega), RC_len, show (i + 1) * 5 + r - 5 = i * 5 + r by omega, ih i r hr]; simp
theorem jrcat_get {w : World} {A : Addr} {k : Nat} {t : Rc} (h : RcAt w (A.add k) t) {r : Nat} {v : Value} (hv : (RC t).toList[r]? = some v) : w.cell? (A.add (k + r)) = some v := by
  match r, hv with
  | 0, hv => cases hv; exact h.c0
  | 1, hv => cases hv; rw [jadd_more A k 1 (by decide)]; exact h.c1
  | 2, hv => cases hv; rw [jadd_more A k 2 (by decide)]; exact h.c2
  | 3, hv => cases hv; rw [jadd_more A k 3 (by decide)]; exact h.c3
  | 4, hv => cases hv; rw [jadd_more A k 4 (by decide)]; exact h.c4
  | r + 5, hv => cases hv
theorem jrcV_one (l : List Rc) : ∀ v ∈ rcV l, v.oneCell' = true := by
  intro v hv
  obtain ⟨c, _, hu⟩ := List.mem_flatMap.1 hv
  have hu' : v ∈ [Value.string (mkS c.p.1), .string (mkS c.p.2), .string (mkS c.r.no), .string (mkS c.r.kind), .string (mkS c.r.oc)] := hu
  simp only [List.mem_cons, List.not_mem_nil, or_false] at hu'
  rcases hu' with rfl | rfl | rfl | rfl | rfl <;> rfl
theorem jrcs_cells {w : World} {A : Addr} {cap : Nat} {l : List Rc} (h : RcsAt w (.slice (some A) l.length cap) l) : ∀ j u, (rcV l)[j]? = some u → w.cell? (A.add j) = some u := by
  intro j u hj
  obtain ⟨a, c, hv, _, _, hx⟩ := h
  injection hv with e1 _ _
  subst e1
  have hr : j % 5 < 5 := Nat.mod_lt _ (by decide)
  have e : j = j / 5 * 5 + j % 5 := by omega
  rw [e, jrcV_get _ _ _ hr] at hj
  obtain ⟨t, ht, hv⟩ := Option.bind_eq_some_iff.1 hj
  obtain ⟨A', hA, _, hat⟩ := hx _ t ht
  cases hA
  rw [e]
  exact jrcat_get hat hv
def setNo (l : List Rc) (no : Txt) : List Rc := match l with | [] => [] | c :: l => ⟨c.p, { c.r with no := no }⟩ :: l
def withNo (x : EM) (no : Txt) : EM := { x with rc := setNo x.rc no }
theorem setNo_len (l : List Rc) (no : Txt) : (setNo l no).length = l.length := by cases l <;> rfl
theorem set_row {w : World} {B g cap : Nat} {l : List Rc} (h : w.ownsRow B 50 5 (.slice (some ⟨g, 0, none⟩) l.length cap) l.length (rcV l)) (hl : 1 ≤ l.length) (no : Txt) : (w.setCell ⟨g, 2, none⟩ (.string (mkS no))).ownsRow B 50 5 (.slice (some ⟨g, 0, none⟩) (setNo l no).length cap) (setNo l no).length (rcV (setNo l no)) := by
  match l, hl with
  | c :: tl, _ =>
    rcases h.2 with ⟨h0, _⟩ | ⟨g', cap', cur, hv, hB, hh, hn, hm, hsz, htk⟩
    · cases h0
    · injection hv with e1 e2 e3
      injection e1 with e1
      injection e1 with e1 _ _
      subst e1 e3
      refine ⟨by rw [rcV_length], .inr ⟨g, cap, cur.setIfInBounds 2 (.string (mkS no)), rfl, hB, setOf hh 2 _, hn, hm, by simpa using hsz, ?_⟩⟩
      rw [Array.toList_setIfInBounds, List.take_set]
      show (cur.toList.take ((c :: tl).length * 5)).set 2 _ = _
      rw [htk]
      rfl
theorem row_lt {w : World} {B g cap n : Nat} {xs : List Value} (h : w.ownsRow B 50 5 (.slice (some ⟨g, 0, none⟩) n cap) n xs) (hn : 1 ≤ n) : (∃ c, w.cell? ⟨g, 2, none⟩ = some c) ∧ w.frozen? ⟨g, 2, none⟩ = false ∧ B ≤ g ∧ g < w.heap.size := by
  rcases h.2 with ⟨h0, _⟩ | ⟨g', cap', cur, hv, hB, hh, hk, hm, hsz, htk⟩
  · cases h0
  · injection hv with e1 e2 e3
    injection e1 with e1
    injection e1 with e1 _ _
    subst e1 e3
    refine ⟨?_, freeOf hh 2, hB, ltOf hh⟩
    rw [cellOf hh]
    exact ⟨_, Array.getElem?_eq_getElem (by omega)⟩
theorem row_some {w : World} {B n : Nat} {v : Value} {xs : List Value} (h : w.ownsRow B 50 5 v n xs) (hn : 1 ≤ n) : ∃ g cap, v = .slice (some ⟨g, 0, none⟩) n cap ∧ B ≤ g := by
  rcases h.2 with ⟨_, h0⟩ | ⟨g, cap, cur, hv, hB, _⟩
  · omega
  · exact ⟨g, cap, hv, hB⟩
theorem bd_with {x : EM} {no : Txt} (h : BdJ x) : BdJ (withNo x no) := ⟨h.at_, h.by_⟩
section
variable {p : PJ} {x : EM} {no : Txt} {now : Int}
theorem no_with (h : 1 ≤ x.rc.length) (rel : Int) : noJ (withNo x no) ⟨0, [82], 0, rel, 0⟩ = no := by
  unfold noJ withNo
  cases hx : x.rc with
  | nil => rw [hx] at h; exact absurd h (by decide)
  | cons c l => rfl
end
end Go.Proofs.YtcedhgihebollaaGreatDoor.E.J
