/-
  Ready queues as lists: entries, ranks, who comes first; no memory.
-/
import Derived.Test.YtjjndndhmccflaaBase
namespace Go.Proofs.Ytjjndndhmccflaa
set_option maxRecDepth 100000
abbrev Txt := List UInt8
/-- An entry. -/
structure Et where
  id : Int
  dest : Txt
  pri : Int
  at_ : Int
deriving DecidableEq
instance : Inhabited Et := ⟨⟨0, [120], 0, 0⟩⟩
def okE (e : Et) : Bool := decide (0 ≤ e.id) && decide (1 ≤ e.dest.length) && decide (e.dest.length ≤ 255) && decide (-9 ≤ e.pri) && decide (e.pri ≤ 9) && decide (0 ≤ e.at_) && decide (e.at_ ≤ 1099511627776)
theorem okE_iff {e : Et} : okE e = true ↔ 0 ≤ e.id ∧ 1 ≤ e.dest.length ∧ e.dest.length ≤ 255 ∧ -9 ≤ e.pri ∧ e.pri ≤ 9 ∧ 0 ≤ e.at_ ∧ e.at_ ≤ 1099511627776 := by
  unfold okE
  simp only [Bool.and_eq_true, decide_eq_true_eq]
  constructor
  · rintro ⟨⟨⟨⟨⟨⟨a, b⟩, c⟩, d⟩, e⟩, f⟩, g⟩; exact ⟨a, b, c, d, e, f, g⟩
  · rintro ⟨a, b, c, d, e, f, g⟩; exact ⟨⟨⟨⟨⟨⟨a, b⟩, c⟩, d⟩, e⟩, f⟩, g⟩
/-- A rank: of priority p, come at a, at n, of age g. -/
def rk (p a n g : Int) : Int := if n ≤ a then p else min 9 (p + (n - a) / g)
/-- An entry, and which put brought it. -/
abbrev Wt := Et × Int
def rkW (g n : Int) (x : Wt) : Int := rk x.1.pri x.1.at_ n g
/-- x is ahead of y. -/
def bet (g n : Int) (x y : Wt) : Bool := decide (rkW g n y < rkW g n x) || (decide (rkW g n y = rkW g n x) && decide (x.2 < y.2))
theorem bet_iff {g n : Int} {x y : Wt} : bet g n x y = true ↔ rkW g n y < rkW g n x ∨ (rkW g n y = rkW g n x ∧ x.2 < y.2) := by simp [bet]
theorem bet_not {g n : Int} {x y : Wt} : bet g n x y = false ↔ ¬ (rkW g n y < rkW g n x ∨ (rkW g n y = rkW g n x ∧ x.2 < y.2)) := by rw [← bet_iff]; simp
theorem bet_total {g n : Int} {x y : Wt} (h : x.2 ≠ y.2) (k : bet g n x y = false) : bet g n y x = true := by rw [bet_not] at k; rw [bet_iff]; omega
theorem bet_asymm {g n : Int} {x y : Wt} (h : bet g n x y = true) : bet g n y x = false := by rw [bet_iff] at h; rw [bet_not]; omega
theorem bet_trans {g n : Int} {x y z : Wt} (h : bet g n x y = true) (k : bet g n y z = true) : bet g n x z = true := by rw [bet_iff] at *; omega
def ins (g n : Int) (x : Wt) : List Wt → List Wt
  | [] => [x]
  | y :: r => if bet g n x y then x :: y :: r else y :: ins g n x r
/-- In order. -/
def srt (g n : Int) : List Wt → List Wt
  | [] => []
  | x :: r => ins g n x (srt g n r)
theorem ins_perm (g n : Int) (x : Wt) : ∀ l, (ins g n x l).Perm (x :: l)
  | [] => List.Perm.refl _
  | y :: r => by
    unfold ins
    split
    · exact List.Perm.refl _
    · exact ((ins_perm g n x r).cons y).trans (List.Perm.swap x y r)
theorem srt_perm (g n : Int) : ∀ l, (srt g n l).Perm l
  | [] => List.Perm.refl _
  | x :: r => (ins_perm g n x _).trans ((srt_perm g n r).cons x)
theorem ins_pw {g n : Int} {x : Wt} : ∀ {l : List Wt}, l.Pairwise (fun a b => bet g n a b = true) → (∀ y ∈ l, x.2 ≠ y.2) → (ins g n x l).Pairwise (fun a b => bet g n a b = true)
  | [], _, _ => by simp [ins]
  | y :: r, h, k => by
    unfold ins
    obtain ⟨h1, h2⟩ := List.pairwise_cons.1 h
    split
    · rename_i e
      refine List.pairwise_cons.2 ⟨fun z hz => ?_, h⟩
      rcases List.mem_cons.1 hz with rfl | hz
      · exact e
      · exact bet_trans e (h1 z hz)
    · rename_i e
      refine List.pairwise_cons.2 ⟨fun z hz => ?_, ins_pw h2 fun y hy => k y (List.mem_cons_of_mem _ hy)⟩
      rcases List.mem_cons.1 ((ins_perm g n x r).mem_iff.1 hz) with rfl | hz
      · exact bet_total (k y (List.mem_cons_self ..)) (by simpa using e)
      · exact h1 z hz
theorem srt_pw {g n : Int} : ∀ {l : List Wt}, l.Pairwise (fun a b => a.2 ≠ b.2) → (srt g n l).Pairwise (fun a b => bet g n a b = true)
  | [], _ => List.Pairwise.nil
  | x :: r, h => by
    obtain ⟨h1, h2⟩ := List.pairwise_cons.1 h
    exact ins_pw (srt_pw h2) fun y hy => h1 y ((srt_perm g n r).mem_iff.1 hy)
theorem srt_of {g n : Int} {P L : List Wt} (hp : P.Perm L) (hd : L.Pairwise (fun a b => a.2 ≠ b.2)) (hs : P.Pairwise (fun x y => bet g n y x = false)) : P = srt g n L := by
  have hdP : P.Pairwise (fun a b => a.2 ≠ b.2) := (hp.pairwise_iff (fun {_ _} hne => Ne.symm hne)).2 hd
  have hs' : P.Pairwise (fun x y => bet g n x y = true) := (hs.and hdP).imp fun {a b} ⟨h1, h2⟩ => bet_total (Ne.symm h2) h1
  refine List.Perm.eq_of_pairwise (fun a b _ _ h1 h2 => ?_) hs' (srt_pw hd) (hp.trans (srt_perm g n L).symm)
  rw [bet_asymm h1] at h2; cases h2
/-- A queue: its set-up, how many were put; who is there, as put; who is in flight. -/
structure Rq where
  age : Int
  lim : Int
  room : Int
  n : Int
  L : List Wt
  F : List Et
deriving DecidableEq
def hasL (S : Rq) (i : Int) : Bool := S.L.any fun x => x.1.id == i
def hasF (S : Rq) (i : Int) : Bool := S.F.any fun x => x.id == i
def putE (S : Rq) (x : Et) : Int := if okE x = false then 1 else if hasF S x.id || hasL S x.id then 11 else if S.room ≤ S.L.length then 6 else 0
def putQ (S : Rq) (x : Et) : Rq := if putE S x = 0 then { S with n := S.n + 1, L := S.L ++ [(x, S.n + 1)] } else S
/-- How many in flight go there. -/
def cnt (F : List Et) (d : Txt) : Int := F.countP fun e => e.dest == d
def free (S : Rq) (x : Wt) : Bool := decide (cnt S.F x.1.dest < S.lim)
def takeE (S : Rq) (n : Int) : Option Wt := (srt S.age n S.L).find? (free S)
def takeQ (S : Rq) (n : Int) : Rq := match takeE S n with
  | none => S
  | some x => { S with L := S.L.filter (fun y => y.1.id != x.1.id), F := x.1 :: S.F }
def doneQ (S : Rq) (i : Int) : Rq := { S with F := S.F.filter fun x => x.id != i }
def removeQ (S : Rq) (i : Int) : Rq := { S with L := S.L.filter fun x => x.1.id != i }
def ordQ (S : Rq) (n : Int) : List Int := (srt S.age n S.L).map fun x => x.1.id
/-- What holds of every queue. -/
structure OkQ (S : Rq) : Prop where
  age1 : 1 ≤ S.age
  age2 : S.age ≤ 1048576
  lim1 : 1 ≤ S.lim
  lim2 : S.lim ≤ 64
  room1 : 1 ≤ S.room
  room2 : S.room ≤ 4096
  n0 : 0 ≤ S.n
  n1 : S.n ≤ 1000000
  okL : ∀ x ∈ S.L, okE x.1 = true ∧ x.1.id ≤ 9223372036854775807
  okF : ∀ x ∈ S.F, okE x = true ∧ x.id ≤ 9223372036854775807
  ids : (S.L.map (fun x => x.1.id) ++ S.F.map Et.id).Nodup
  puts : S.L.Pairwise (fun a b => a.2 < b.2)
  putn : ∀ x ∈ S.L, x.2 ≤ S.n
  len : (S.L.length : Int) + S.F.length ≤ S.n
theorem OkQ.ne {S : Rq} (h : OkQ S) : S.L.Pairwise (fun a b => a.2 ≠ b.2) := h.puts.imp fun {a b} e => by omega
theorem OkQ.idsL {S : Rq} (h : OkQ S) : (S.L.map (fun x => x.1.id)).Nodup := (List.nodup_append.1 h.ids).1
theorem OkQ.idsF {S : Rq} (h : OkQ S) : (S.F.map Et.id).Nodup := (List.nodup_append.1 h.ids).2.1
theorem OkQ.apart {S : Rq} (h : OkQ S) {x : Wt} {y : Et} (hx : x ∈ S.L) (hy : y ∈ S.F) : x.1.id ≠ y.id :=
  (List.nodup_append.1 h.ids).2.2 _ (List.mem_map.2 ⟨x, hx, rfl⟩) _ (List.mem_map.2 ⟨y, hy, rfl⟩)
theorem mem_one {L : List Wt} (h : (L.map (fun x => x.1.id)).Nodup) {x y : Wt} (hx : x ∈ L) (hy : y ∈ L) (e : x.1.id = y.1.id) : x = y := by
  induction L with
  | nil => simp at hx
  | cons z r ih =>
    rw [List.map_cons, List.nodup_cons] at h
    rcases List.mem_cons.1 hx with rfl | hx' <;> rcases List.mem_cons.1 hy with rfl | hy'
    · rfl
    · exact absurd (List.mem_map.2 ⟨y, hy', e.symm⟩) h.1
    · exact absurd (List.mem_map.2 ⟨x, hx', e⟩) h.1
    · exact ih h.2 hx' hy'
theorem OkQ.put {S : Rq} (h : OkQ S) {x : Et} (hn : S.n < 1000000) (hi : x.id ≤ 9223372036854775807) : OkQ (putQ S x) := by
  unfold putQ
  split
  · rename_i e
    unfold putE at e
    split at e
    · omega
    · rename_i k1
      split at e
      · omega
      · rename_i k2
        rw [Bool.or_eq_true, not_or] at k2
        have f1 : ∀ y ∈ S.L, y.1.id ≠ x.id := fun y hy e => k2.2 (List.any_eq_true.2 ⟨y, hy, by simpa using e⟩)
        have f2 : ∀ y ∈ S.F, y.id ≠ x.id := fun y hy e => k2.1 (List.any_eq_true.2 ⟨y, hy, by simpa using e⟩)
        have hx : okE x = true := by simpa using k1
        refine ⟨h.age1, h.age2, h.lim1, h.lim2, h.room1, h.room2, by have := h.n0; show 0 ≤ S.n + 1; omega, by show S.n + 1 ≤ _; omega, fun y hy => ?_, h.okF, ?_, ?_, fun y hy => ?_, ?_⟩
        · rcases List.mem_append.1 hy with hy | hy
          · exact h.okL y hy
          · rw [List.mem_singleton.1 hy]; exact ⟨hx, hi⟩
        · have hp : ((S.L ++ [(x, S.n + 1)]).map (fun x => x.1.id) ++ S.F.map Et.id).Perm (x.id :: (S.L.map (fun x => x.1.id) ++ S.F.map Et.id)) := by
            rw [List.map_append, List.append_assoc]
            exact List.perm_middle
          refine hp.nodup_iff.2 (List.nodup_cons.2 ⟨fun hm => ?_, h.ids⟩)
          rcases List.mem_append.1 hm with hm | hm
          · obtain ⟨y, hy, e⟩ := List.mem_map.1 hm; exact f1 y hy e
          · obtain ⟨y, hy, e⟩ := List.mem_map.1 hm; exact f2 y hy e
        · refine List.pairwise_append.2 ⟨h.puts, by simp, fun a ha b hb => ?_⟩
          rw [List.mem_singleton.1 hb]
          have := h.putn a ha
          show a.2 < S.n + 1; omega
        · rcases List.mem_append.1 hy with hy | hy
          · have := h.putn y hy; show y.2 ≤ S.n + 1; omega
          · rw [List.mem_singleton.1 hy]; exact Int.le_refl _
        · have := h.len
          show ((S.L ++ [(x, S.n + 1)]).length : Int) + S.F.length ≤ S.n + 1
          rw [List.length_append, List.length_singleton]; omega
  · exact h
theorem filter_len_lt {α : Type} {l : List α} {p : α → Bool} {x : α} (hx : x ∈ l) (hp : p x = false) : (l.filter p).length < l.length := by
  rcases Nat.lt_or_ge (l.filter p).length l.length with h | h
  · exact h
  · have e := List.filter_eq_self.1 (List.Sublist.eq_of_length (List.filter_sublist) (Nat.le_antisymm (List.length_filter_le _ _) h)) x hx
    rw [hp] at e; cases e
theorem OkQ.remove {S : Rq} (h : OkQ S) (i : Int) : OkQ (removeQ S i) := by
  refine ⟨h.age1, h.age2, h.lim1, h.lim2, h.room1, h.room2, h.n0, h.n1, fun y hy => h.okL y (List.mem_filter.1 hy).1, h.okF, ?_, h.puts.filter _, fun y hy => h.putn y (List.mem_filter.1 hy).1, ?_⟩
  · exact h.ids.sublist (List.Sublist.append_right (List.Sublist.map _ List.filter_sublist) _)
  · have := h.len
    have k : (removeQ S i).L.length ≤ S.L.length := List.length_filter_le _ _
    show ((removeQ S i).L.length : Int) + S.F.length ≤ S.n
    omega
theorem OkQ.done {S : Rq} (h : OkQ S) (i : Int) : OkQ (doneQ S i) := by
  refine ⟨h.age1, h.age2, h.lim1, h.lim2, h.room1, h.room2, h.n0, h.n1, h.okL, fun y hy => h.okF y (List.mem_filter.1 hy).1, ?_, h.puts, h.putn, ?_⟩
  · exact h.ids.sublist (List.Sublist.append_left (List.Sublist.map _ List.filter_sublist) _)
  · have := h.len
    have k : (doneQ S i).F.length ≤ S.F.length := List.length_filter_le _ _
    show (S.L.length : Int) + (doneQ S i).F.length ≤ S.n
    omega
theorem takeE_mem {S : Rq} {n : Int} {x : Wt} (h : takeE S n = some x) : x ∈ S.L ∧ free S x = true :=
  ⟨(srt_perm S.age n S.L).mem_iff.1 (List.mem_of_find?_eq_some h), by have := List.find?_some h; simpa using this⟩
theorem OkQ.take {S : Rq} (h : OkQ S) (n : Int) : OkQ (takeQ S n) := by
  unfold takeQ
  split
  · exact h
  · rename_i x e
    obtain ⟨hx, _⟩ := takeE_mem e
    have hlt : (S.L.filter (fun y => y.1.id != x.1.id)).length < S.L.length := filter_len_lt hx (by simp)
    refine ⟨h.age1, h.age2, h.lim1, h.lim2, h.room1, h.room2, h.n0, h.n1, fun y hy => h.okL y (List.mem_filter.1 hy).1, fun y hy => ?_, ?_, h.puts.filter _, fun y hy => h.putn y (List.mem_filter.1 hy).1, ?_⟩
    · rcases List.mem_cons.1 hy with rfl | hy
      · exact h.okL x hx
      · exact h.okF y hy
    · show ((S.L.filter (fun y => y.1.id != x.1.id)).map (fun x => x.1.id) ++ (x.1 :: S.F).map Et.id).Nodup
      rw [List.map_cons]
      refine List.perm_middle.nodup_iff.2 (List.nodup_cons.2 ⟨fun hm => ?_, h.ids.sublist (List.Sublist.append_right (List.Sublist.map _ List.filter_sublist) _)⟩)
      rcases List.mem_append.1 hm with hm | hm
      · obtain ⟨y, hy, e⟩ := List.mem_map.1 hm
        have := (List.mem_filter.1 hy).2
        simp [e] at this
      · obtain ⟨y, hy, e⟩ := List.mem_map.1 hm
        exact h.apart hx hy e.symm
    · have := h.len
      show ((S.L.filter (fun y => y.1.id != x.1.id)).length : Int) + (x.1 :: S.F).length ≤ S.n
      rw [List.length_cons]; omega
end Go.Proofs.Ytjjndndhmccflaa
