/-
  A disk that lives: its methods' contracts in one shape; what stays true of it, whatever is done.
-/
import Derived.Test.YtdjgjmbgcjhnpaaDkApd
import Derived.Test.YtdjgjmbgcjhnpaaDkList
namespace Go.Proofs.Ytdjgjmbgcjhnpaa
set_option maxRecDepth 100000
open Go.RowKit
/-- What stays true: k changes at most. -/
structure Inv (S : Dk) (k : Nat) : Prop where
  room : S.room ≤ 1048576
  used : usedF S.fs ≤ S.room
  len : S.fs.length ≤ 128
  nam : ∀ f ∈ S.fs, f.name.length ≤ 32
  chg : S.chg ≤ k
theorem used_filter (l : List Fl) (p : Fl → Bool) : usedF (l.filter p) + usedF (l.filter (fun f => !p f)) = usedF l := by
  induction l with
  | nil => rfl
  | cons a r ih =>
    rw [List.filter_cons, List.filter_cons]
    cases p a <;> simp [used_cons] <;> omega
theorem len_filter (l : List Fl) (p : Fl → Bool) : (l.filter p).length + (l.filter (fun f => !p f)).length = l.length := by
  induction l with
  | nil => rfl
  | cons a r ih =>
    rw [List.filter_cons, List.filter_cons]
    cases p a <;> simp <;> omega
theorem used_del_le (l : List Fl) (n : Txt) : usedF (delL l n) ≤ usedF l := by
  have h1 := used_filter l (fun f => f.name != n)
  have h2 : usedF (delL l n) = usedF (l.filter (fun f => f.name != n)) := rfl
  omega
theorem used_mov_le (l : List Fl) (n t : Txt) : usedF (movL l n t) ≤ usedF l := by
  have h1 := used_filter l (fun f => f.name == n)
  have h2 : usedF (oneL l n t) = usedF (l.filter (fun f => f.name == n)) := by rw [oneL, usedF, usedF, List.map_map]; rfl
  have h3 : delL l n = l.filter (fun f => !(f.name == n)) := rfl
  have h4 := used_del_le (delL l n) t
  rw [movL, used_append, h2]
  rw [← h3] at h1
  omega
theorem len_mov_le (l : List Fl) (n t : Txt) : (movL l n t).length ≤ l.length := by
  have h1 := len_filter l (fun f => f.name == n)
  have h3 : delL l n = l.filter (fun f => !(f.name == n)) := rfl
  have h4 : (delL (delL l n) t).length ≤ (delL l n).length := List.length_filter_le _ _
  have h2 : (oneL l n t).length = (l.filter (fun f => f.name == n)).length := by rw [oneL, List.length_map]
  rw [movL, List.length_append, h2]
  rw [← h3] at h1
  omega
theorem used_cut_le (l : List Fl) (k : Int) : usedF (l.map (cutF k)) ≤ usedF l := by
  induction l with
  | nil => exact Nat.le_refl _
  | cons a r ih =>
    rw [List.map_cons, used_cons, used_cons]
    have : (cutF k a).byt.length ≤ a.byt.length := by rw [cutF]; show (a.byt.take _).length ≤ _; rw [List.length_take]; omega
    omega
theorem used_set (l : List Fl) (n : Txt) : usedF (setL l n) = usedF l := by
  rw [setL, usedF, usedF, List.map_map]
  congr 1
  refine List.map_congr_left fun f _ => ?_
  show (if f.name == n then (⟨f.name, f.byt, f.byt.length⟩ : Fl) else f).byt.length = f.byt.length
  split <;> rfl
theorem ok_len {n : Txt} (h : okN n = true) : n.length ≤ 32 := by
  simp only [okN, Bool.and_eq_true, decide_eq_true_eq] at h
  exact h.1.2
theorem ready_ok {S : Dk} {n : Txt} (h : readyE S n = 0) : okN n = true ∧ S.off = false := by
  rw [readyE] at h
  cases ho : S.off
  · rw [ho] at h
    cases hn : okN n
    · rw [hn] at h; simp at h
    · exact ⟨rfl, rfl⟩
  · rw [ho] at h; simp at h
/-- A list of files that may be. -/
structure Fit (r : Nat) (l : List Fl) : Prop where
  used : usedF l ≤ r
  len : l.length ≤ 128
  nam : ∀ f ∈ l, f.name.length ≤ 32
theorem Fit.cut {r : Nat} {l : List Fl} (h : Fit r l) (k : Int) : Fit r (l.map (cutF k)) :=
  ⟨Nat.le_trans (used_cut_le l k) h.used, by rw [List.length_map]; exact h.len, fun f hf => by obtain ⟨g, hg, rfl⟩ := List.mem_map.1 hf; exact h.nam g hg⟩
theorem Inv.fit {S : Dk} {k : Nat} (h : Inv S k) : Fit S.room S.fs := ⟨h.used, h.len, h.nam⟩
theorem Inv.mono {S : Dk} {k k' : Nat} (h : Inv S k) (hk : k ≤ k') : Inv S k' := ⟨h.room, h.used, h.len, h.nam, Nat.le_trans h.chg hk⟩
theorem inv_chg {S : Dk} {k : Nat} (h : Inv S k) {l1 l2 : List Fl} (h1 : Fit S.room l1) (h2 : Fit S.room l2) : Inv (chgD S l1 l2).2 (k + 1) := by
  rw [chgD]
  split
  · exact ⟨h.room, (h1.cut S.keep).used, (h1.cut S.keep).len, (h1.cut S.keep).nam, Nat.succ_le_succ h.chg⟩
  · exact ⟨h.room, h2.used, h2.len, h2.nam, Nat.succ_le_succ h.chg⟩
theorem fit_add {S : Dk} {k : Nat} (h : Inv S k) (hu : uniq S.fs) {n s : Txt} (hn : okN n = true) (hf : fullB S n s = false) : Fit S.room (addL S.fs n s) := by
  rw [fullB, Bool.or_eq_false_iff, decide_eq_false_iff_not] at hf
  refine ⟨by rw [used_add hu]; omega, ?_, ?_⟩
  · rw [addL]
    cases hh : hasF S.fs n
    · rw [hh, Bool.not_false, Bool.true_and, decide_eq_false_iff_not] at hf
      rw [if_neg (by simp), List.length_cons]
      have := h.len
      omega
    · rw [if_pos rfl, List.length_map]; exact h.len
  · rw [addL]
    intro f
    cases hh : hasF S.fs n
    · rw [if_neg (by simp)]
      intro hf
      rcases List.mem_cons.1 hf with rfl | hf
      · exact ok_len hn
      · exact h.nam f hf
    · rw [if_pos rfl]
      intro hf
      obtain ⟨g, hg, rfl⟩ := List.mem_map.1 hf
      split
      · exact h.nam g hg
      · exact h.nam g hg
theorem fit_set {S : Dk} {k : Nat} (h : Inv S k) (n : Txt) : Fit S.room (setL S.fs n) :=
  ⟨by rw [used_set]; exact h.used, by rw [setL, List.length_map]; exact h.len, fun f hf => by
    rw [setL] at hf
    obtain ⟨g, hg, rfl⟩ := List.mem_map.1 hf
    split
    · exact h.nam g hg
    · exact h.nam g hg⟩
theorem fit_del {S : Dk} {k : Nat} (h : Inv S k) (n : Txt) : Fit S.room (delL S.fs n) :=
  ⟨Nat.le_trans (used_del_le _ _) h.used, Nat.le_trans (List.length_filter_le _ _) h.len, fun f hf => h.nam f (List.mem_filter.1 hf).1⟩
theorem fit_mov {S : Dk} {k : Nat} (h : Inv S k) (n : Txt) {t : Txt} (ht : okN t = true) : Fit S.room (movL S.fs n t) :=
  ⟨Nat.le_trans (used_mov_le _ _ _) h.used, Nat.le_trans (len_mov_le _ _ _) h.len, fun f hf => by
    rw [movL] at hf
    rcases List.mem_append.1 hf with hf | hf
    · rw [oneL] at hf
      obtain ⟨g, hg, rfl⟩ := List.mem_map.1 hf
      exact ok_len ht
    · exact h.nam f (List.mem_filter.1 (List.mem_filter.1 hf).1).1⟩
theorem inv_app {S : Dk} {k : Nat} (h : Inv S k) (hu : uniq S.fs) (n s : Txt) : Inv (appD S n s).2 (k + 1) := by
  rw [appD]
  by_cases hr : readyE S n = 0
  · rw [if_neg (by simp [hr])]
    cases hf : fullB S n s
    · rw [if_neg (by simp)]; exact inv_chg h (fit_add h hu (ready_ok hr).1 hf) (fit_add h hu (ready_ok hr).1 hf)
    · rw [if_pos rfl]; exact h.mono (Nat.le_succ _)
  · rw [if_pos hr]; exact h.mono (Nat.le_succ _)
theorem inv_syn {S : Dk} {k : Nat} (h : Inv S k) (n : Txt) : Inv (synD S n).2 (k + 1) := by
  rw [synD]
  split
  · exact h.mono (Nat.le_succ _)
  · exact inv_chg h h.fit (fit_set h n)
theorem inv_rem {S : Dk} {k : Nat} (h : Inv S k) (n : Txt) : Inv (remD S n).2 (k + 1) := by
  rw [remD]
  split
  · exact h.mono (Nat.le_succ _)
  · exact inv_chg h h.fit (fit_del h n)
theorem inv_ren {S : Dk} {k : Nat} (h : Inv S k) (n t : Txt) : Inv (renD S n t).2 (k + 1) := by
  rw [renD]
  by_cases hr : readyE S t = 0
  · rw [if_neg (by simp [hr])]
    split
    · exact h.mono (Nat.le_succ _)
    · exact inv_chg h h.fit (fit_mov h n (ready_ok hr).1)
  · rw [if_pos hr]; exact h.mono (Nat.le_succ _)
theorem inv_crash {S : Dk} {k : Nat} (h : Inv S k) (c : Int) : Inv (crashD S c) k := by
  rw [crashD]
  split
  · exact h
  · exact ⟨h.room, (h.fit.cut c).used, (h.fit.cut c).len, (h.fit.cut c).nam, h.chg⟩
theorem inv_arm {S : Dk} {k : Nat} (h : Inv S k) (a c : Int) : Inv (armD S a c) k := ⟨h.room, h.used, h.len, h.nam, Nat.zero_le _⟩
theorem inv_start {S : Dk} {k : Nat} (h : Inv S k) : Inv (startD S) k := ⟨h.room, h.used, h.len, h.nam, h.chg⟩
theorem inv_new {r : Nat} (h : r ≤ 1048576) : Inv (newD r) 0 := ⟨h, Nat.zero_le _, Nat.zero_le _, fun f hf => (by cases hf), Nat.le_refl _⟩
/-- A disk lives in a world. -/
def Live (B b m : Nat) (S : Dk) (w : World) : Prop := ∃ F, DA w B w.heap.size b m S F
theorem Live.uniq {B b m : Nat} {S : Dk} {w : World} (h : Live B b m S w) : uniq S.fs := by obtain ⟨F, h⟩ := h; exact h.uniq
theorem Live.next {B b m : Nat} {S : Dk} {w w' : World} (h : Live B b m S w) (hb : Below w.heap.size w w') : Live B b m S w' := by
  obtain ⟨F, h⟩ := h
  exact ⟨F, (h.next hb).raise hb.size (Nat.le_refl _)⟩
theorem Live.base {B b m : Nat} {S : Dk} {w w' : World} (h : Live B b m S w) (hb : Below w.heap.size w w') : Below B w w' := by
  obtain ⟨F, h⟩ := h
  exact h.base hb
theorem Live.out {B b m : Nat} {S : Dk} {w w' : World} (h : Live B b m S w) (hb : Out B w.heap.size w w') : Below B w w' := by
  obtain ⟨F, h⟩ := h
  exact hb.below (Nat.le_refl _) (by have := h.low; have := h.lt; omega)
theorem Left.live {B b m : Nat} {S : Dk} {w w' : World} (h : Left B b m S w w') : Live B b m S w' := by obtain ⟨F, h, _⟩ := h; exact ⟨F, h⟩
theorem Left.below {B b m : Nat} {S : Dk} {w w' : World} (h : Left B b m S w w') : Below B w w' := by obtain ⟨F, _, h⟩ := h; exact h
/-- What a method that answers a code leaves. -/
def Did (B b m : Nat) (r : Nat × Dk) (w : World) (e : Ending) (w' : World) : Prop := e = .returned (.int .i64 (r.1 : Int)) ∧ Live B b m r.2 w' ∧ Below B w w'
theorem app_l {B b m : Nat} {S : Dk} {w : World} (h : Live B b m S w) {k : Nat} (hi : Inv S k) (hk : k ≤ 1000000) (n s : Txt) (hn : n.length ≤ 1000000000000) (hs : s.length ≤ 1000000000) :
    Calls Try.prog 16 #[.pointer (some ⟨b, 0, none⟩), .string (mkS n), .string (mkS s)] w (Did B b m (appD S n s) w) := by
  obtain ⟨F, h⟩ := h
  exact (append_x h n s hn hs (by have := hi.chg; omega) hi.room hi.used (by have := hi.len; omega)).mono fun _ _ ⟨h1, h2, _⟩ => ⟨h1, h2.live, h2.below⟩
theorem syn_l {B b m : Nat} {S : Dk} {w : World} (h : Live B b m S w) {k : Nat} (hi : Inv S k) (hk : k ≤ 1000000) (n : Txt) (hn : n.length ≤ 1000000000000) :
    Calls Try.prog 19 #[.pointer (some ⟨b, 0, none⟩), .string (mkS n)] w (Did B b m (synD S n) w) := by
  obtain ⟨F, h⟩ := h
  exact (sync_x h n (by omega) (by have := hi.chg; omega) (by have := hi.used; have := hi.room; omega)).mono fun _ _ ⟨h1, h2, _⟩ => ⟨h1, h2.live, h2.below⟩
theorem rem_l {B b m : Nat} {S : Dk} {w : World} (h : Live B b m S w) {k : Nat} (hi : Inv S k) (hk : k ≤ 1000000) (n : Txt) (hn : n.length ≤ 1000000000000) :
    Calls Try.prog 23 #[.pointer (some ⟨b, 0, none⟩), .string (mkS n)] w (Did B b m (remD S n) w) := by
  obtain ⟨F, h⟩ := h
  exact (remove_x h n (by omega) (by have := hi.chg; omega) (by have := hi.used; have := hi.room; omega)).mono fun _ _ ⟨h1, h2, _⟩ => ⟨h1, h2.live, h2.below⟩
theorem ren_l {B b m : Nat} {S : Dk} {w : World} (h : Live B b m S w) {k : Nat} (hi : Inv S k) (hk : k ≤ 1000000) (n t : Txt) (hn : n.length ≤ 1000000000000) (ht : t.length ≤ 1000000000000) :
    Calls Try.prog 20 #[.pointer (some ⟨b, 0, none⟩), .string (mkS n), .string (mkS t)] w (Did B b m (renD S n t) w) := by
  obtain ⟨F, h⟩ := h
  exact (rename_x h n t (by omega) ht (by have := hi.chg; omega) (by have := hi.used; have := hi.room; omega) (by have := hi.len; omega)).mono fun _ _ ⟨h1, h2, _⟩ => ⟨h1, h2.live, h2.below⟩
theorem arm_l {B b m : Nat} {S : Dk} {w : World} (h : Live B b m S w) (a c : Int) :
    Calls Try.prog 10 #[.pointer (some ⟨b, 0, none⟩), .agg #[.int .i64 a, .int .i64 c]] w fun e w' => e = .returned (.tuple #[]) ∧ Live B b m (armD S a c) w' ∧ Below B w w' := by
  have hl := h
  obtain ⟨F, h⟩ := h
  exact (arm_x h a c).mono fun _ _ ⟨h1, h2, h3⟩ => ⟨h1, ⟨F, h2.raise h2.lim (Nat.le_refl _)⟩, hl.out h3⟩
theorem start_l {B b m : Nat} {S : Dk} {w : World} (h : Live B b m S w) :
    Calls Try.prog 14 #[.pointer (some ⟨b, 0, none⟩)] w fun e w' => e = .returned (.tuple #[]) ∧ Live B b m (startD S) w' ∧ Below B w w' := by
  have hl := h
  obtain ⟨F, h⟩ := h
  exact (start_x h).mono fun _ _ ⟨h1, h2, _, h3⟩ => ⟨h1, ⟨F, h2.raise h2.lim (Nat.le_refl _)⟩, hl.out h3⟩
theorem crash_l {B b m : Nat} {S : Dk} {w : World} (h : Live B b m S w) {k : Nat} (hi : Inv S k) (c : Int) :
    Calls Try.prog 22 #[.pointer (some ⟨b, 0, none⟩), .int .i64 c] w fun e w' => e = .returned (.tuple #[]) ∧ Live B b m (crashD S c) w' ∧ Below B w w' := by
  have hl := h
  obtain ⟨F, h⟩ := h
  exact (crash_x h c (by have := hi.used; have := hi.room; omega)).mono fun _ _ ⟨h1, F', h2, h3⟩ => ⟨h1, ⟨F', h2.raise h2.lim (Nat.le_refl _)⟩, hl.out h3⟩
theorem down_l {B b m : Nat} {S : Dk} {w : World} (h : Live B b m S w) :
    Calls Try.prog 12 #[.pointer (some ⟨b, 0, none⟩)] w fun e w' => e = .returned (.bool S.off) ∧ w = w' := by
  obtain ⟨F, h⟩ := h
  exact down_x h
theorem changes_l {B b m : Nat} {S : Dk} {w : World} (h : Live B b m S w) :
    Calls Try.prog 13 #[.pointer (some ⟨b, 0, none⟩)] w fun e w' => e = .returned (.int .i64 (S.chg : Int)) ∧ w = w' := by
  obtain ⟨F, h⟩ := h
  exact changes_x h
theorem used_l {B b m : Nat} {S : Dk} {w : World} (h : Live B b m S w) {k : Nat} (hi : Inv S k) :
    Calls Try.prog 17 #[.pointer (some ⟨b, 0, none⟩)] w fun e w' => e = .returned (.int .i64 (usedF S.fs : Int)) ∧ Below w.heap.size w w' := by
  obtain ⟨F, h⟩ := h
  exact used_x h (by have := hi.used; have := hi.room; omega)
theorem waits_l {B b m : Nat} {S : Dk} {w : World} (h : Live B b m S w) {k : Nat} (hi : Inv S k) (n : Txt) (hn : n.length ≤ 1000000000000) :
    Calls Try.prog 21 #[.pointer (some ⟨b, 0, none⟩), .string (mkS n)] w fun e w' => e = .returned (.int .i64 (waitF S.fs n : Int)) ∧ Below w.heap.size w w' := by
  obtain ⟨F, h⟩ := h
  exact waits_x h n (by omega) (by have := hi.used; have := hi.room; omega)
theorem read_l {B b m : Nat} {S : Dk} {w : World} (h : Live B b m S w) (n : Txt) (hn : n.length ≤ 1000000000000) :
    Calls Try.prog 18 #[.pointer (some ⟨b, 0, none⟩), .string (mkS n)] w fun e w' => e = .returned (.tuple #[.string (mkS (readD S n)), .int .i64 (findE S n : Int)]) ∧ Below w.heap.size w w' := by
  obtain ⟨F, h⟩ := h
  exact read_x h n (by omega)
theorem list_l {B b m : Nat} {S : Dk} {w : World} (h : Live B b m S w) {k : Nat} (hi : Inv S k) :
    Calls Try.prog 15 #[.pointer (some ⟨b, 0, none⟩)] w (Listed w S) := by
  obtain ⟨F, h⟩ := h
  exact list_x h (by have := hi.len; omega) (fun f hf => Nat.le_trans (hi.nam f hf) (by decide))
theorem new_l (r : Nat) (w : World) (h1 : 1 ≤ r) (h2 : r ≤ 1048576) : Calls Try.prog 9 #[.int .i64 (r : Int)] w fun e w' => ∃ b m, e = .returned (.tuple #[.pointer (some ⟨b, 0, none⟩), .int .i64 0]) ∧ Live w.heap.size b m (newD r) w' ∧ Below w.heap.size w w' :=
  (new_x r w h1 h2).mono fun _ _ ⟨b, m, k1, k2, k3⟩ => ⟨b, m, k1, ⟨[], k2⟩, k3⟩
end Go.Proofs.Ytdjgjmbgcjhnpaa
