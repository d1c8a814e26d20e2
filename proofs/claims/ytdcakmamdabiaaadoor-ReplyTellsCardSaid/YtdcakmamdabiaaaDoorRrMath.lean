/-
  Plain mathematics: how the reference reads an enhanced code (no model).
-/
import Derived.Test.YtdcakmamdabiaaaDoorRpMath
namespace Go.Proofs.YtdcakmamdabiaaaDoor
set_option maxRecDepth 100000
/-- How many digits stand ahead in a text, of at most four. -/
def rnN (l : Txt) : Nat := ((l.take 4).takeWhile digB).length
def rnOk (l : Txt) : Bool := rpNm (l.take (rnN l))
theorem rn_le (l : Txt) : rnN l ≤ 4 ∧ rnN l ≤ l.length := by
  have h := (List.takeWhile_sublist (p := digB) (l := l.take 4)).length_le
  rw [List.length_take] at h
  unfold rnN
  omega
theorem rn_pre (l : Txt) : l.take (rnN l) = (l.take 4).takeWhile digB := by
  have h : ∀ m : Txt, m.take (m.takeWhile digB).length = m.takeWhile digB := by
    intro m
    induction m with
    | nil => rfl
    | cons a t ih =>
      cases ha : digB a
      · simp [ha]
      · simp [ha, ih]
  have h2 := h (l.take 4)
  rw [List.take_take] at h2
  have h3 := (rn_le l).1
  unfold rnN at h3 ⊢
  rwa [Nat.min_eq_left h3] at h2
theorem tw_all (m : Txt) : (m.takeWhile digB).all digB = true := by
  induction m with
  | nil => rfl
  | cons a t ih =>
    cases ha : digB a
    · simp [ha]
    · rw [List.takeWhile_cons, if_pos ha, List.all_cons, ha, ih]; rfl
theorem rn_dig (l : Txt) : (l.take (rnN l)).all digB = true := by rw [rn_pre]; exact tw_all _
theorem tw_stop : ∀ (m : Txt) (j : Nat), (m.take j).all digB = true → (∀ x, m[j]? = some x → digB x = false) → j ≤ m.length → (m.takeWhile digB).length = j
  | [], j, _, _, h => by have : j = 0 := by simpa using h
                         subst this; rfl
  | a :: t, 0, _, h, _ => by
    have := h a rfl
    simp [this]
  | a :: t, j + 1, h, h2, h3 => by
    rw [List.take_succ_cons, List.all_cons, Bool.and_eq_true] at h
    rw [List.takeWhile_cons, if_pos h.1, List.length_cons, tw_stop t j h.2 (fun x hx => h2 x (by simpa using hx)) (by simpa using h3)]
/-- Where the count stops. -/
theorem rn_stop {l : Txt} {j : Nat} (h : (l.take j).all digB = true) (hj : j ≤ 4) (hl : j ≤ l.length) (hs : j = 4 ∨ l.length ≤ j ∨ ∃ x, l[j]? = some x ∧ digB x = false) : rnN l = j := by
  unfold rnN
  refine tw_stop (l.take 4) j ?_ ?_ (by rw [List.length_take]; omega)
  · rw [List.take_take, Nat.min_eq_left hj]; exact h
  · intro x hx
    rw [List.getElem?_take] at hx
    split at hx
    · rcases hs with h4 | h4 | ⟨y, hy, hd⟩
      · omega
      · rw [List.getElem?_eq_none h4] at hx; cases hx
      · rw [hy] at hx; injection hx with hx; rw [← hx]; exact hd
    · cases hx
theorem rn_step {x r : Txt} {s : UInt8} (hx : rpNm x = true) (hs : digB s = false) : rnN (x ++ s :: r) = x.length ∧ rnOk (x ++ s :: r) = true ∧ (x ++ s :: r).take (rnN (x ++ s :: r)) = x := by
  have h1 := nm_dig hx
  have h2 := nm_len hx
  have h : rnN (x ++ s :: r) = x.length := rn_stop (by rw [List.take_left' rfl]; exact h1) (by omega) (by simp) (.inr (.inr ⟨s, by simp, hs⟩))
  have h3 : (x ++ s :: r).take (rnN (x ++ s :: r)) = x := by rw [h, List.take_left' rfl]
  exact ⟨h, by rw [rnOk, h3]; exact hx, h3⟩
/-- A number, its sign, and what is behind. -/
theorem rn_split {l : Txt} {s : UInt8} (_ho : rnOk l = true) (hs : l[rnN l]? = some s) : l = l.take (rnN l) ++ s :: l.drop (rnN l + 1) ∧ (l.take (rnN l)).length = rnN l := by
  obtain ⟨hk, e⟩ := List.getElem?_eq_some_iff.1 hs
  refine ⟨?_, by rw [List.length_take]; omega⟩
  rw [← e, ← List.drop_eq_getElem_cons hk, List.take_append_drop]
theorem rn_ok_parts (l : Txt) : rnOk l = (decide (0 < rnN l) && decide (rnN l ≤ 3) && (decide (rnN l ≤ 1) || l[0]? != some 48)) := by
  have h1 := rn_le l
  have h2 : (l.take (rnN l)).length = rnN l := by rw [List.length_take]; omega
  have h3 := rn_dig l
  unfold rnOk rpNm
  rw [h3, h2, Bool.and_true]
  generalize hk : rnN l = k at *
  match k, l with
  | 0, l => simp
  | k + 1, [] => simp at h1
  | 1, a :: t =>
    by_cases ha : a = 48
    · subst ha; rfl
    · simp [ha]
  | k + 2, a :: t =>
    have ht : t.take (k + 1) ≠ [] := fun e => by
      rw [List.take_succ_cons, e] at h2
      simp at h2
    have : ((a :: t).take (k + 2) == [48]) = false := by
      rw [List.take_succ_cons, beq_eq_false_iff_ne]
      intro e
      injection e with _ e
      exact ht e
    have h5 : ((a :: t).take (k + 2) != []) = true := bne_iff_ne.2 (by rw [List.take_succ_cons]; exact fun e => by cases e)
    rw [this, h5]
    simp
/-- The front of a text. -/
theorem front_shape {t : Txt} {c : Int} {e : E3} : rpFront c t = some e ↔ ∃ x y z r, t = x ++ 46 :: (y ++ 46 :: (z ++ 32 :: r)) ∧ rpNm x = true ∧ rpNm y = true ∧ rpNm z = true ∧ e = ((valX x : Int), (valX y : Int), (valX z : Int)) ∧ rpBel e c = true := by
  constructor
  · intro h
    unfold rpFront at h
    split at h
    · rename_i hc
      obtain ⟨x, y, z, hs, h1, h2, h3, h4, h5⟩ := enc_shape.1 h
      have ht := (cut_of hc).2
      refine ⟨x, y, z, postC 32 t, ?_, h1, h2, h3, h4, h5⟩
      rw [hs] at ht
      exact ht.trans (by simp)
    · cases h
  · rintro ⟨x, y, z, r, rfl, h1, h2, h3, h4, h5⟩
    have hn : (32 : UInt8) ∉ x ++ 46 :: (y ++ 46 :: z) := by
      have a := nm_not h1 d32
      have b := nm_not h2 d32
      have c := nm_not h3 d32
      simp [a, b, c]
    obtain ⟨a1, a2, a3⟩ := cut_at r hn
    rw [show x ++ 46 :: (y ++ 46 :: (z ++ 32 :: r)) = (x ++ 46 :: (y ++ 46 :: z)) ++ 32 :: r by simp, rpFront, a1, a2, if_pos rfl]
    exact enc_shape.2 ⟨x, y, z, rfl, h1, h2, h3, h4, h5⟩
theorem front_post {t x y z r : Txt} (ht : t = x ++ 46 :: (y ++ 46 :: (z ++ 32 :: r))) (h1 : rpNm x = true) (h2 : rpNm y = true) (h3 : rpNm z = true) : postC 32 t = r := by
  have hn : (32 : UInt8) ∉ x ++ 46 :: (y ++ 46 :: z) := by
    have a := nm_not h1 d32
    have b := nm_not h2 d32
    have c := nm_not h3 d32
    simp [a, b, c]
  rw [ht, show x ++ 46 :: (y ++ 46 :: (z ++ 32 :: r)) = (x ++ 46 :: (y ++ 46 :: z)) ++ 32 :: r by simp]
  exact (cut_at r hn).2.2
/-- What the reference has read behind j numbers: where it stands, and what it has. -/
def RS (t : Txt) : Nat → Nat → E3 → Prop
  | 0, a, e => a = 0 ∧ e = rpE0
  | 1, a, e => ∃ x r, t = x ++ 46 :: r ∧ rpNm x = true ∧ a = x.length + 1 ∧ e = ((valX x : Int), 0, 0)
  | 2, a, e => ∃ x y r, t = x ++ 46 :: (y ++ 46 :: r) ∧ rpNm x = true ∧ rpNm y = true ∧ a = x.length + 1 + (y.length + 1) ∧ e = ((valX x : Int), (valX y : Int), 0)
  | _, a, e => ∃ x y z r, t = x ++ 46 :: (y ++ 46 :: (z ++ 32 :: r)) ∧ rpNm x = true ∧ rpNm y = true ∧ rpNm z = true ∧ a = x.length + 1 + (y.length + 1) + (z.length + 1) ∧ e = ((valX x : Int), (valX y : Int), (valX z : Int))
def rsSep (j : Nat) : UInt8 := if j = 2 then 32 else 46
def rsPut (e : E3) (j : Nat) (n : Int) : E3 := if j = 0 then (n, e.2.1, e.2.2) else if j = 1 then (e.1, n, e.2.2) else (e.1, e.2.1, n)
theorem rs_le {t : Txt} {j a : Nat} {e : E3} (h : RS t j a e) : a ≤ t.length := by
  match j, h with
  | 0, h => obtain ⟨rfl, _⟩ := h; exact Nat.zero_le _
  | 1, h => obtain ⟨x, r, rfl, _, rfl, _⟩ := h; simp
  | 2, h => obtain ⟨x, y, r, rfl, _, _, rfl, _⟩ := h; simp; omega
  | k + 3, h => obtain ⟨x, y, z, r, rfl, _, _, _, rfl, _⟩ := h; simp; omega
theorem drop_app (a b : Txt) (s : UInt8) (n : Nat) : (a ++ s :: b).drop (a.length + 1 + n) = b.drop n := by
  rw [Nat.add_assoc, List.drop_append]
  simp [Nat.add_comm 1 n]
/-- A step more. -/
theorem rs_step {t : Txt} {j a : Nat} {e : E3} (hj : j < 3) (h : RS t j a e) (ho : rnOk (t.drop a) = true) (hs : (t.drop a)[rnN (t.drop a)]? = some (rsSep j)) :
    RS t (j + 1) (a + rnN (t.drop a) + 1) (rsPut e j (valX ((t.drop a).take (rnN (t.drop a))) : Int)) := by
  obtain ⟨h1, h2⟩ := rn_split ho hs
  have h3 : rpNm ((t.drop a).take (rnN (t.drop a))) = true := ho
  match j, hj, h with
  | 0, _, h =>
    obtain ⟨rfl, rfl⟩ := h
    rw [List.drop_zero] at h1 h2 h3 ⊢
    exact ⟨_, _, h1, h3, by rw [h2]; omega, rfl⟩
  | 1, _, h =>
    obtain ⟨x, r, rfl, hx, rfl, rfl⟩ := h
    have hd : (x ++ 46 :: r).drop (x.length + 1) = r := drop_app x r 46 0
    rw [hd] at h1 h2 h3 ⊢
    exact ⟨x, _, _, congrArg (fun q => x ++ 46 :: q) h1, hx, h3, by rw [h2]; omega, rfl⟩
  | 2, _, h =>
    obtain ⟨x, y, r, rfl, hx, hy, rfl, rfl⟩ := h
    have hd : (x ++ 46 :: (y ++ 46 :: r)).drop (x.length + 1 + (y.length + 1)) = r := by rw [drop_app]; exact drop_app y r 46 0
    rw [hd] at h1 h2 h3 ⊢
    exact ⟨x, y, _, _, congrArg (fun q => x ++ 46 :: (y ++ 46 :: q)) h1, hx, hy, h3, by rw [h2]; omega, rfl⟩
theorem cut_eq {x y r s : Txt} {c : UInt8} (hx : rpNm x = true) (hy : rpNm y = true) (hc : digB c = false) (h : x ++ c :: r = y ++ c :: s) : x = y ∧ r = s := by
  obtain ⟨_, a, b⟩ := cut_at r (nm_not hx hc)
  obtain ⟨_, a', b'⟩ := cut_at s (nm_not hy hc)
  exact ⟨by rw [← a, h, a'], by rw [← b, h, b']⟩
/-- Where a step is not to be had, there is nothing in front. -/
theorem rs_none {t : Txt} {j a : Nat} {e : E3} {c : Int} (hj : j < 3) (h : RS t j a e) (hn : ¬ (rnOk (t.drop a) = true ∧ (t.drop a)[rnN (t.drop a)]? = some (rsSep j))) : rpFront c t = none := by
  cases hf : rpFront c t with
  | none => rfl
  | some E =>
    exfalso
    obtain ⟨x, y, z, r, ht, hx, hy, hz, _⟩ := front_shape.1 hf
    apply hn
    match j, hj, h with
    | 0, _, h =>
      obtain ⟨rfl, rfl⟩ := h
      rw [List.drop_zero, ht]
      obtain ⟨q1, q2, q3⟩ := rn_step (r := y ++ 46 :: (z ++ 32 :: r)) hx d46
      exact ⟨q2, by rw [q1]; simp [rsSep]⟩
    | 1, _, h =>
      obtain ⟨x', r', e1, hx', rfl, rfl⟩ := h
      rw [e1] at ht
      obtain ⟨rfl, rfl⟩ := cut_eq hx' hx d46 ht
      rw [e1, show (x' ++ 46 :: (y ++ 46 :: (z ++ 32 :: r))).drop (x'.length + 1) = y ++ 46 :: (z ++ 32 :: r) from drop_app x' _ 46 0]
      obtain ⟨q1, q2, q3⟩ := rn_step (r := z ++ 32 :: r) hy d46
      exact ⟨q2, by rw [q1]; simp [rsSep]⟩
    | 2, _, h =>
      obtain ⟨x', y', r', e1, hx', hy', rfl, rfl⟩ := h
      rw [e1] at ht
      obtain ⟨rfl, h2⟩ := cut_eq hx' hx d46 ht
      obtain ⟨rfl, rfl⟩ := cut_eq hy' hy d46 h2
      rw [e1, show (x' ++ 46 :: (y' ++ 46 :: (z ++ 32 :: r))).drop (x'.length + 1 + (y'.length + 1)) = z ++ 32 :: r by rw [drop_app]; exact drop_app y' _ 46 0]
      obtain ⟨q1, q2, q3⟩ := rn_step (r := r) hz d32
      exact ⟨q2, by rw [q1]; simp [rsSep]⟩
/-- All three are read. -/
theorem rs_end {t : Txt} {a : Nat} {e : E3} {c : Int} (h : RS t 3 a e) : rpFront c t = (if rpBel e c then some e else none) ∧ t.drop a = postC 32 t ∧ rpIn e.1 = true ∧ rpIn e.2.1 = true ∧ rpIn e.2.2 = true := by
  obtain ⟨x, y, z, r, ht, hx, hy, hz, rfl, rfl⟩ := h
  refine ⟨?_, ?_, ?_, ?_, ?_⟩
  · split
    · rename_i hb
      exact front_shape.2 ⟨x, y, z, r, ht, hx, hy, hz, rfl, hb⟩
    · rename_i hb
      cases hf : rpFront c t with
      | none => rfl
      | some E =>
        exfalso
        obtain ⟨x', y', z', r', ht', hx', hy', hz', rfl, hb'⟩ := front_shape.1 hf
        rw [ht] at ht'
        obtain ⟨rfl, h2⟩ := cut_eq hx hx' d46 ht'
        obtain ⟨rfl, h3⟩ := cut_eq hy hy' d46 h2
        obtain ⟨rfl, _⟩ := cut_eq hz hz' d32 h3
        exact hb hb'
  · rw [front_post ht hx hy hz, ht, Nat.add_assoc, drop_app, drop_app]
    exact drop_app z r 32 0
  all_goals
    rw [rpIn, Bool.and_eq_true, decide_eq_true_eq, decide_eq_true_eq]
    have := nm_val hx
    have := nm_val hy
    have := nm_val hz
    simp only
    omega
/-- With a blank behind it a word is an enhanced code where nothing is left. -/
theorem front_word {word : Txt} {c : Int} : rpEnc word c = match rpFront c (word ++ [32]) with | some e => if postC 32 (word ++ [32]) = [] then some e else none | none => none := by
  cases hf : rpFront c (word ++ [32]) with
  | none =>
    cases he : rpEnc word c with
    | none => rfl
    | some e =>
      obtain ⟨x, y, z, rfl, h1, h2, h3, h4, h5⟩ := enc_shape.1 he
      have := front_shape.2 ⟨x, y, z, [], rfl, h1, h2, h3, h4, h5⟩
      rw [show (x ++ 46 :: (y ++ 46 :: z)) ++ [32] = x ++ 46 :: (y ++ 46 :: (z ++ [32])) by simp, this] at hf
      cases hf
  | some e =>
    obtain ⟨x, y, z, r, ht, h1, h2, h3, h4, h5⟩ := front_shape.1 hf
    rw [front_post ht h1 h2 h3]
    simp only
    split
    · rename_i hr
      subst hr
      have hw : word = x ++ 46 :: (y ++ 46 :: z) := by
        have e2 : (word ++ [32]).dropLast = word := by simp
        rw [← e2, ht, show x ++ 46 :: (y ++ 46 :: (z ++ [32])) = (x ++ 46 :: (y ++ 46 :: z)) ++ [32] by simp, List.dropLast_concat]
      rw [hw]
      exact enc_shape.2 ⟨x, y, z, rfl, h1, h2, h3, h4, h5⟩
    · rename_i hr
      cases he : rpEnc word c with
      | none => rfl
      | some e' =>
        exfalso
        obtain ⟨x', y', z', rfl, h1', h2', h3', _⟩ := enc_shape.1 he
        have e3 : x' ++ 46 :: (y' ++ 46 :: (z' ++ 32 :: [])) = x ++ 46 :: (y ++ 46 :: (z ++ 32 :: r)) := by rw [← ht]; simp
        obtain ⟨_, q2⟩ := cut_eq h1' h1 d46 e3
        obtain ⟨_, q3⟩ := cut_eq h2' h2 d46 q2
        obtain ⟨_, q4⟩ := cut_eq h3' h3 d32 q3
        exact hr q4.symm
/-- May an enhanced code be a code's, in the reference's words. -/
def rpFit (c : Int) (e : E3) : Bool := !rpHas e || rpBel e c
theorem right_fit (c : Int) (e : E3) : (rpHas e && !rpBel e c) = !rpFit c e := by unfold rpFit; cases rpHas e <;> cases rpBel e c <;> rfl
theorem fit_in {c : Int} {e : E3} (h : rpFit c e = true) : rpHas e = false ∨ rpIn e.1 = true ∧ rpIn e.2.1 = true ∧ rpIn e.2.2 = true := by
  unfold rpFit at h
  cases hh : rpHas e
  · exact .inl rfl
  · rw [hh] at h
    obtain ⟨_, _, a, b, c⟩ := bel_parts (by simpa using h : rpBel e c = true)
    exact .inr ⟨a, b, c⟩
theorem head_word {c : Int} (e : E3) (s : UInt8) (h : rpCls c ≠ 0) : (rpHead c e s).length = 4 + (rpWord e).length := by
  obtain ⟨h1, h2, _⟩ := cls_code h
  obtain ⟨u, rfl⟩ : ∃ u : Nat, c = u := ⟨c.toNat, by omega⟩
  have : (Lib.itoa (u : Int)).length = 3 := by
    rw [Lib.itoa, if_neg (by omega), Int.toNat_natCast, dec_s (by omega), dec_s (by omega), dec_1 (by omega)]
    rfl
  rw [rpHead, List.length_append, List.length_cons, this]
  omega
theorem word_len2 {e : E3} (h : rpHas e = false ∨ rpIn e.1 = true ∧ rpIn e.2.1 = true ∧ rpIn e.2.2 = true) : (rpWord e).length ≤ 12 := by
  unfold rpWord
  split
  · rename_i hh
    rcases h with h | ⟨h1, h2, h3⟩
    · rw [h] at hh; cases hh
    · have a := nm_len (itoa_nm h1).1
      have b := nm_len (itoa_nm h2).1
      have c := nm_len (itoa_nm h3).1
      simp
      omega
  · simp
end Go.Proofs.YtdcakmamdabiaaaDoor
