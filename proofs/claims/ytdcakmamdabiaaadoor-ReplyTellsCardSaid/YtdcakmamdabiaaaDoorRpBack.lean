/-
  Plain mathematics: a reply's lines are read back; what was read may be said again; one wrong line makes it none.
-/
import Derived.Test.YtdcakmamdabiaaaDoorRpMath
namespace Go.Proofs.YtdcakmamdabiaaaDoor
set_option maxRecDepth 100000

theorem pr_dig {b : UInt8} (h : digB b = true) : rpPr b = true := by
  have := digB_bd h
  rw [rpPr, Bool.and_eq_true, decide_eq_true_eq, decide_eq_true_eq]
  omega
theorem pr_nm {l : Txt} (h : rpNm l = true) : l.all rpPr = true :=
  List.all_eq_true.2 fun b hb => pr_dig ((List.all_eq_true.1 (nm_dig h)) b hb)
/-- A code's three digits. -/
theorem code3 {c : Int} (h : rpCls c ≠ 0) : ∃ x y z, Lib.itoa c = [x, y, z] ∧ rpNm [x, y, z] = true ∧ (valX [x, y, z] : Int) = c := by
  obtain ⟨h1, h2, _⟩ := cls_code h
  obtain ⟨u, rfl⟩ : ∃ u : Nat, c = u := ⟨c.toNat, by omega⟩
  obtain ⟨a1, a2⟩ := itoa_nm (n := (u : Int)) (by rw [rpIn, Bool.and_eq_true, decide_eq_true_eq, decide_eq_true_eq]; omega)
  have e : Lib.itoa (u : Int) = [dg (u / 10 / 10), dg (u / 10 % 10), dg (u % 10)] := by
    rw [Lib.itoa, if_neg (by omega), Int.toNat_natCast, dec_s (by omega), dec_s (by omega), dec_1 (by omega)]
    rfl
  rw [e] at a1 a2
  exact ⟨_, _, _, e, a1, a2⟩
theorem word_pr {e : E3} {c : Int} (h : rpHas e = true → rpBel e c = true) : (rpWord e).all rpPr = true := by
  cases hh : rpHas e
  · rw [rpWord, hh]; rfl
  · obtain ⟨_, _, h1, h2, h3⟩ := bel_parts (h hh)
    rw [rpWord, hh, if_pos rfl]
    simp only [List.all_append, List.all_cons, pr_nm (itoa_nm h1).1, pr_nm (itoa_nm h2).1, pr_nm (itoa_nm h3).1]
    decide
/-- What makes a reply right. -/
structure RpOk (r : Rp) : Prop where
  cls : rpCls r.code ≠ 0
  bel : rpHas r.e = true → rpBel r.e r.code = true
  pr : ∀ t ∈ r.text, t.all rpPr = true
  ne : r.text ≠ []
  many : r.text.length ≤ 32
  len : ∀ t ∈ r.text, (rpHead r.code r.e 32).length + t.length ≤ 510
theorem right_ok {r : Rp} : rpRight r = 0 ↔ RpOk r := by
  unfold rpRight
  constructor
  · intro h
    split at h
    · cases h
    · rename_i h1
      split at h
      · cases h
      · rename_i h2
        split at h
        · cases h
        · rename_i h3
          simp only [Bool.or_eq_true, beq_iff_eq, Bool.and_eq_true, Bool.not_eq_true', not_or, not_and, Bool.not_eq_false, List.any_eq_true, not_exists, decide_eq_true_eq, List.isEmpty_iff] at h1 h2 h3
          exact ⟨h1.1, fun hh => h1.2 hh, fun t ht => h2 t ht, h3.1.1, by omega, fun t ht => by have := h3.2 t ht; omega⟩
  · rintro ⟨a, b, c, d, e, f⟩
    rw [if_neg, if_neg, if_neg]
    · simp only [Bool.or_eq_true, not_or, List.any_eq_true, not_exists, not_and, decide_eq_true_eq, List.isEmpty_iff]
      exact ⟨⟨d, by omega⟩, fun t ht => by have := f t ht; omega⟩
    · simp only [List.any_eq_true, not_exists, not_and, Bool.not_eq_true', Bool.not_eq_false]
      exact fun t ht => c t ht
    · simp only [Bool.or_eq_true, beq_iff_eq, Bool.and_eq_true, Bool.not_eq_true', not_or, not_and, Bool.not_eq_false]
      exact ⟨a, b⟩
theorem headlen_eq (c : Int) (e : E3) (s : UInt8) : (rpHead c e s).length = (rpHead c e 32).length := by simp [rpHead]
/-- A line of a right reply. -/
theorem line_facts {c : Int} {e : E3} (hc : rpCls c ≠ 0) (hb : rpHas e = true → rpBel e c = true) {t : Txt} (hp : t.all rpPr = true) (s : UInt8) (hs : s = 45 ∨ s = 32) :
    (rpHead c e s ++ t).take 3 = Lib.itoa c ∧ (rpHead c e s ++ t)[3]? = some s ∧ (rpHead c e s ++ t).drop 4 = rpWord e ++ t ∧ rpFm (rpHead c e s ++ t) = true := by
  obtain ⟨x, y, z, e3, h1, h2⟩ := code3 hc
  have hw := word_pr hb
  have hn := pr_nm h1
  have hL : rpHead c e s ++ t = x :: y :: z :: s :: (rpWord e ++ t) := by rw [rpHead, e3]; simp
  have hsp : rpPr s = true := by rcases hs with rfl | rfl <;> decide
  rw [hL, e3]
  refine ⟨rfl, rfl, rfl, ?_⟩
  rw [rpFm, show (x :: y :: z :: s :: (rpWord e ++ t)).take 3 = [x, y, z] from rfl, show (x :: y :: z :: s :: (rpWord e ++ t))[3]? = some s from rfl, h1, h2]
  have hall : (x :: y :: z :: s :: (rpWord e ++ t)).all rpPr = true := by
    simp only [List.all_cons, List.all_append, hw, hp, hsp, Bool.and_true]
    simpa using hn
  rw [hall]
  have h3 : (rpCls c != 0) = true := bne_iff_ne.2 hc
  rw [h3]
  rcases hs with rfl | rfl <;> simp
theorem scan_go (l0 : Txt) : ∀ (a : List Txt) (i : Nat) (b : List Txt), (∀ k t, a[k]? = some t → rpStp l0 (i + k) t = 0) → rpScan l0 i (a ++ b) = rpScan l0 (i + a.length) b
  | [], i, b, _ => rfl
  | t :: a, i, b, h => by
    have h0 := h 0 t rfl
    rw [Nat.add_zero] at h0
    rw [List.cons_append, rpScan, if_pos h0, scan_go l0 a (i + 1) b (fun k u hu => by
      have := h (k + 1) u (by simpa using hu)
      rwa [show i + (k + 1) = i + 1 + k by omega] at this), List.length_cons, show i + 1 + a.length = i + (a.length + 1) by omega]
theorem lines_len (r : Rp) (h : r.text ≠ []) : (rpLines r).length = r.text.length := by
  have : 0 < r.text.length := List.length_pos_iff.2 h
  simp [rpLines]
/-- The lines ahead of the last one, and it. -/
theorem lines_split {r : Rp} (h : r.text ≠ []) : ∃ a t, r.text = a ++ [t] ∧ rpLines r = a.map (rpHead r.code r.e 45 ++ ·) ++ [rpHead r.code r.e 32 ++ t] := by
  have hlast := List.dropLast_concat_getLast h
  refine ⟨r.text.dropLast, r.text.getLast h, hlast.symm, ?_⟩
  have h1 : r.text.take (r.text.length - 1) = r.text.dropLast := by rw [List.dropLast_eq_take]
  have h2 : r.text.drop (r.text.length - 1) = [r.text.getLast h] := by
    conv => lhs; rw [← hlast]
    rw [List.length_append, List.length_dropLast]
    simp
  rw [rpLines, h1, h2]
  rfl
theorem stp_on {r : Rp} (h : RpOk r) {l0 t : Txt} {i : Nat} (h0 : l0.take 3 = Lib.itoa r.code) (ht : t ∈ r.text) (hi : i < 32) : rpStp l0 i (rpHead r.code r.e 45 ++ t) = 0 := by
  obtain ⟨h1, h2, _, h4⟩ := line_facts h.cls h.bel (h.pr t ht) 45 (.inl rfl)
  have hl := h.len t ht
  rw [rpStp, h4, h1, h0, h2]
  simp only [beq_self_eq_true, Bool.and_self, if_true]
  rw [if_neg (by rw [List.length_append, headlen_eq]; omega)]
theorem stp_end {r : Rp} (h : RpOk r) {l0 t : Txt} {i : Nat} (h0 : l0.take 3 = Lib.itoa r.code) (ht : t ∈ r.text) (hi : i < 32) : rpStp l0 i (rpHead r.code r.e 32 ++ t) = 1 := by
  obtain ⟨h1, h2, _, h4⟩ := line_facts h.cls h.bel (h.pr t ht) 32 (.inr rfl)
  have hl := h.len t ht
  rw [rpStp, h4, h1, h0, h2]
  simp only [beq_self_eq_true, Bool.and_self, if_true]
  rw [if_neg (by rw [List.length_append]; omega), if_neg (by decide)]
theorem head_take {r : Rp} (h : RpOk r) (b : List Txt) : ((rpLines r ++ b).headD []).take 3 = Lib.itoa r.code := by
  obtain ⟨a, t, h1, h2⟩ := lines_split h.ne
  rw [h2]
  cases a with
  | nil => exact (line_facts h.cls h.bel (h.pr t (by rw [h1]; simp)) 32 (.inr rfl)).1
  | cons u a => exact (line_facts h.cls h.bel (h.pr u (by rw [h1]; simp)) 45 (.inl rfl)).1
theorem parse_back {r : Rp} (h : RpOk r) (hp : rpPart r.code (r.text.map (rpWord r.e ++ ·)) = (r.e, r.text)) (b : List Txt) : rpParse (rpLines r ++ b) = ⟨r, (r.text.length : Nat), 0⟩ := by
  have h0 := head_take h b
  obtain ⟨x, y, z, e3, n1, n2⟩ := code3 h.cls
  generalize hl0 : (rpLines r ++ b).headD [] = l0 at h0
  obtain ⟨a, t, h1, h2⟩ := lines_split h.ne
  have hlen : r.text.length = a.length + 1 := by rw [h1]; simp
  have hm := h.many
  have hs : rpScan l0 0 (rpLines r ++ b) = (a.length, 1) := by
    rw [h2, List.append_assoc, scan_go]
    · rw [List.length_map, Nat.zero_add, List.cons_append, rpScan, stp_end h h0 (by rw [h1]; simp) (by omega)]
      rfl
    · intro k u hu
      rw [List.getElem?_map, Option.map_eq_some_iff] at hu
      obtain ⟨v, hv, rfl⟩ := hu
      have hk : k < a.length := (List.getElem?_eq_some_iff.1 hv).1
      exact stp_on h h0 (by rw [h1]; exact List.mem_append_left _ (List.mem_of_getElem? hv)) (by omega)
  have htk : (rpLines r ++ b).take (a.length + 1) = rpLines r := by
    rw [← hlen, ← lines_len r h.ne, List.take_left']
    rfl
  have hmap : (rpLines r).map (·.drop 4) = r.text.map (rpWord r.e ++ ·) := by
    have key : ∀ s, (s = 45 ∨ s = 32) → ∀ l : List Txt, (∀ u ∈ l, u ∈ r.text) → (l.map (rpHead r.code r.e s ++ ·)).map (·.drop 4) = l.map (rpWord r.e ++ ·) := by
      intro s hs l hl
      rw [List.map_map]
      apply List.map_congr_left
      intro u hu
      exact (line_facts h.cls h.bel (h.pr u (hl u hu)) s hs).2.2.1
    rw [h2, List.map_append, key 45 (.inl rfl) a (fun u hu => by rw [h1]; simp [hu])]
    rw [show [rpHead r.code r.e 32 ++ t].map (·.drop 4) = [t].map (rpWord r.e ++ ·) from key 32 (.inr rfl) [t] (fun u hu => by rw [h1]; simp at hu; simp [hu]), ← List.map_append, ← h1]
  have hh : (rpLines r).headD [] = l0 := by
    rw [← hl0, h2]
    cases a <;> rfl
  rw [rpParse, hl0, hs]
  simp only [if_true]
  rw [htk, rpRead, hh, h0, hmap, e3, n2, hp, hlen]
theorem parse_short {r : Rp} (h : RpOk r) : rpParse ((rpLines r).take (r.text.length - 1)) = ⟨rp0, 0, 12⟩ := by
  obtain ⟨a, t, h1, h2⟩ := lines_split h.ne
  have hlen : r.text.length = a.length + 1 := by rw [h1]; simp
  have hm := h.many
  have htk : (rpLines r).take (r.text.length - 1) = a.map (rpHead r.code r.e 45 ++ ·) := by
    rw [h2, hlen, Nat.add_sub_cancel, List.take_left' (by simp)]
  rw [htk]
  cases ha : a with
  | nil => rfl
  | cons u a' =>
    have h0 : ((a.map (rpHead r.code r.e 45 ++ ·)).headD []).take 3 = Lib.itoa r.code := by
      rw [ha]
      exact (line_facts h.cls h.bel (h.pr u (by rw [h1, ha]; simp)) 45 (.inl rfl)).1
    rw [← ha]
    have hs : rpScan ((a.map (rpHead r.code r.e 45 ++ ·)).headD []) 0 (a.map (rpHead r.code r.e 45 ++ ·)) = (a.length, 12) := by
      have := scan_go ((a.map (rpHead r.code r.e 45 ++ ·)).headD []) (a.map (rpHead r.code r.e 45 ++ ·)) 0 [] (fun k u hu => by
        rw [List.getElem?_map, Option.map_eq_some_iff] at hu
        obtain ⟨v, hv, rfl⟩ := hu
        have hk : k < a.length := (List.getElem?_eq_some_iff.1 hv).1
        exact stp_on h h0 (by rw [h1]; exact List.mem_append_left _ (List.mem_of_getElem? hv)) (by omega))
      rw [List.append_nil, List.length_map, Nat.zero_add] at this
      rw [this]
      rfl
    rw [rpParse, hs]
    rfl
/-- One line that is none, whatever stands behind it. -/
theorem stp_bad {l0 u : Txt} {i : Nat} (hu : rpFm u = false) : rpStp l0 i u = 2 := by
  rw [rpStp, hu, Bool.false_and]; rfl
theorem parse_wrong {r : Rp} (h : RpOk r) {k : Nat} (hk : k < r.text.length) {u : Txt} (hu : rpFm u = false) : rpParse ((rpLines r).set k u) = ⟨rp0, 0, 2⟩ := by
  obtain ⟨a, t, h1, h2⟩ := lines_split h.ne
  have hlen : r.text.length = a.length + 1 := by rw [h1]; simp
  have hm := h.many
  have hsplit : (rpLines r).set k u = (a.take k).map (rpHead r.code r.e 45 ++ ·) ++ u :: (rpLines r).drop (k + 1) := by
    rw [List.set_eq_take_append_cons_drop, if_pos (by rw [lines_len r h.ne]; exact hk)]
    congr 1
    rw [h2, List.take_append_of_le_length (by simp; omega), List.map_take]
  have key : ∀ l0 : Txt, (k ≠ 0 → l0.take 3 = Lib.itoa r.code) → rpScan l0 0 ((rpLines r).set k u) = (k, 2) := by
    intro l0 h0
    rw [hsplit, scan_go]
    · rw [rpScan, stp_bad hu, List.length_map, List.length_take, if_neg (by decide)]
      congr 1
      omega
    · intro j v hv
      rw [List.getElem?_map, Option.map_eq_some_iff] at hv
      obtain ⟨x, hx, rfl⟩ := hv
      have hj : j < (a.take k).length := (List.getElem?_eq_some_iff.1 hx).1
      rw [List.length_take] at hj
      exact stp_on h (h0 (by omega)) (by rw [h1]; exact List.mem_append_left _ (List.mem_of_mem_take (List.mem_of_getElem? hx))) (by omega)
  have hs := key (((rpLines r).set k u).headD []) (fun h0 => by
    have e : ((rpLines r).set k u).headD [] = (rpLines r ++ []).headD [] := by
      rw [List.append_nil]
      cases hL : rpLines r with
      | nil => rfl
      | cons x y => cases k with
        | zero => exact absurd rfl h0
        | succ k => rfl
    rw [e]
    exact head_take h [])
  rw [rpParse, hs]
  rfl
/-- What is no line: fewer than three bytes, no code, a sign that is neither - nor a blank. -/
theorem fm_short {u : Txt} (h : u.length < 3) : rpFm u = false := by
  rw [rpFm, decide_eq_false (by omega)]; rfl
theorem fm_sign {u : Txt} {c : UInt8} (h : u[3]? = some c) (h1 : c ≠ 45) (h2 : c ≠ 32) : rpFm u = false := by
  rw [rpFm, h]
  have e : ((some c == none) || (some c == some 45) || (some c == some (32 : UInt8))) = false := by
    simp [h1, h2]
  rw [e, Bool.and_false]
theorem fm_999 : rpFm [57, 57, 57, 32, 120] = false := by decide +kernel

/- What lines tell. -/
theorem scan_cases (l0 : Txt) : ∀ (l : List Txt) (i : Nat), (rpScan l0 i l = (i + l.length, 12) ∧ ∀ k t, l[k]? = some t → rpStp l0 (i + k) t = 0) ∨
    ∃ k t, l[k]? = some t ∧ rpScan l0 i l = (i + k, rpStp l0 (i + k) t) ∧ rpStp l0 (i + k) t ≠ 0 ∧ ∀ j u, j < k → l[j]? = some u → rpStp l0 (i + j) u = 0
  | [], i => .inl ⟨rfl, fun k t h => by simp at h⟩
  | t :: r, i => by
    by_cases h0 : rpStp l0 i t = 0
    · rw [rpScan, if_pos h0]
      rcases scan_cases l0 r (i + 1) with ⟨h1, h2⟩ | ⟨k, u, h1, h2, h3, h4⟩
      · refine .inl ⟨by rw [h1, List.length_cons]; congr 1; omega, fun k u hu => ?_⟩
        cases k with
        | zero => simp at hu; subst hu; exact h0
        | succ k => have := h2 k u (by simpa using hu); rwa [show i + 1 + k = i + (k + 1) by omega] at this
      · rw [show i + 1 + k = i + (k + 1) by omega] at h2 h3
        refine .inr ⟨k + 1, u, by simpa using h1, h2, h3, fun j v hj hv => ?_⟩
        cases j with
        | zero => simp at hv; subst hv; exact h0
        | succ j => have := h4 j v (by omega) (by simpa using hv); rwa [show i + 1 + j = i + (j + 1) by omega] at this
    · rw [rpScan, if_neg h0]
      exact .inr ⟨0, t, rfl, rfl, h0, fun j u hj => by omega⟩
theorem stp_vals (l0 : Txt) (i : Nat) (t : Txt) : (rpStp l0 i t = 0 ∧ rpFm t = true ∧ t.take 3 = l0.take 3 ∧ i ≠ 32) ∨ (rpStp l0 i t = 1 ∧ rpFm t = true ∧ t.take 3 = l0.take 3 ∧ i ≠ 32) ∨ rpStp l0 i t = 2 ∨ rpStp l0 i t = 3 := by
  unfold rpStp
  split
  · rename_i h
    rw [Bool.and_eq_true, beq_iff_eq] at h
    split
    · exact .inr (.inr (.inr rfl))
    · rename_i h3
      split
      · exact .inl ⟨rfl, h.1, h.2, by omega⟩
      · exact .inr (.inl ⟨rfl, h.1, h.2, by omega⟩)
  · exact .inr (.inr (.inl rfl))
theorem parse_cases (l : List Txt) : (rpParse l = ⟨rp0, 0, 2⟩ ∨ rpParse l = ⟨rp0, 0, 3⟩ ∨ rpParse l = ⟨rp0, 0, 12⟩) ∨
    ∃ k, k < l.length ∧ k < 32 ∧ rpParse l = ⟨rpRead (l.take (k + 1)), (k + 1 : Nat), 0⟩ ∧ ∀ t ∈ l.take (k + 1), rpFm t = true ∧ t.take 3 = (l.headD []).take 3 := by
  rcases scan_cases (l.headD []) l 0 with ⟨h1, _⟩ | ⟨k, t, h1, h2, h3, h4⟩
  · exact .inl (.inr (.inr (by rw [rpParse, h1]; rfl)))
  · rw [Nat.zero_add] at h2 h3
    have hk : k < l.length := (List.getElem?_eq_some_iff.1 h1).1
    rcases stp_vals (l.headD []) k t with ⟨e, _⟩ | ⟨e, f1, f2, f3⟩ | e | e
    · exact absurd e h3
    · have hlines : ∀ j u, j < k → l[j]? = some u → j ≠ 32 ∧ rpFm u = true ∧ u.take 3 = (l.headD []).take 3 := by
        intro j u hj hu
        have h0 := h4 j u hj hu
        rw [Nat.zero_add] at h0
        rcases stp_vals (l.headD []) j u with ⟨_, g1, g2, g3⟩ | ⟨e', _⟩ | e' | e'
        · exact ⟨g3, g1, g2⟩
        · rw [e'] at h0; cases h0
        · rw [e'] at h0; cases h0
        · rw [e'] at h0; cases h0
      refine .inr ⟨k, hk, ?_, by rw [rpParse, h2, e]; rfl, fun u hu => ?_⟩
      · rcases Nat.lt_or_ge k 32 with h | h
        · exact h
        · have hj : 32 < k := by omega
          obtain ⟨u, hu⟩ : ∃ u, l[32]? = some u := ⟨_, List.getElem?_eq_getElem (by omega)⟩
          exact absurd rfl (hlines 32 u hj hu).1
      · obtain ⟨j, hj⟩ := List.getElem?_of_mem hu
        rw [List.getElem?_take] at hj
        split at hj
        · rename_i hjk
          by_cases ejk : j = k
          · subst ejk
            rw [h1] at hj
            injection hj with hj
            subst hj
            exact ⟨f1, f2⟩
          · exact (hlines j u (by omega) hj).2
        · cases hj
    · exact .inl (.inl (by rw [rpParse, h2, e]; rfl))
    · exact .inl (.inr (.inl (by rw [rpParse, h2, e]; rfl)))
theorem fm_parts {t : Txt} (h : rpFm t = true) : 3 ≤ t.length ∧ t.all rpPr = true ∧ rpNm (t.take 3) = true ∧ rpCls (valX (t.take 3)) ≠ 0 := by
  rw [rpFm] at h
  simp only [Bool.and_eq_true, decide_eq_true_eq, bne_iff_ne] at h
  exact ⟨h.1.1.1.1, h.1.1.1.2, h.1.1.2, h.1.2⟩
theorem all_drop {p : UInt8 → Bool} {t : Txt} (n : Nat) (h : t.all p = true) : (t.drop n).all p = true :=
  List.all_eq_true.2 fun b hb => (List.all_eq_true.1 h) b (List.mem_of_mem_drop hb)
theorem all_post {t : Txt} (h : t.all rpPr = true) : (postC 32 t).all rpPr = true := by
  rw [postC]
  exact all_drop 1 (List.all_eq_true.2 fun b hb => (List.all_eq_true.1 h) b ((List.dropWhile_sublist _).mem hb))
/-- What was read: all but that a line may be too long to be said again. -/
structure RpGot (r : Rp) : Prop where
  cls : rpCls r.code ≠ 0
  bel : rpHas r.e = true → rpBel r.e r.code = true
  pr : ∀ t ∈ r.text, t.all rpPr = true
  ne : r.text ≠ []
  many : r.text.length ≤ 32
  again : rpPart r.code (r.text.map (rpWord r.e ++ ·)) = (r.e, r.text)
theorem map_nil (l : List Txt) : l.map (([] : Txt) ++ ·) = l := by simp
theorem got_read {l : List Txt} {l0 : Txt} (hl : l ≠ []) (hm : l.length ≤ 32) (hh : l.headD [] = l0) (h : ∀ t ∈ l, rpFm t = true ∧ t.take 3 = l0.take 3) : RpGot (rpRead l) ∧ (rpRead l).text.length = l.length := by
  have h0 : rpFm l0 = true := by
    cases l with
    | nil => exact absurd rfl hl
    | cons a t => subst hh; exact (h a (by simp)).1
  obtain ⟨_, _, _, f4⟩ := fm_parts h0
  have hts : ∀ t ∈ l.map (·.drop 4), t.all rpPr = true := by
    intro t ht
    obtain ⟨u, hu, rfl⟩ := List.mem_map.1 ht
    exact all_drop 4 (fm_parts (h u hu).1).2.1
  have hne : l.map (·.drop 4) ≠ [] := by simpa using hl
  have hlen : (l.map (·.drop 4)).length = l.length := by simp
  rw [rpRead, hh]
  generalize l.map (·.drop 4) = ts at hts hne hlen
  generalize hc : ((valX (l0.take 3) : Nat) : Int) = c at f4
  rcases part_cases c ts with e | ⟨e, hb, he, hf⟩
  · rw [e]
    refine ⟨⟨f4, fun hx => by simp [rpHas] at hx, hts, hne, by rw [hlen]; exact hm, ?_⟩, hlen⟩
    show rpPart c (ts.map (rpWord rpE0 ++ ·)) = (rpE0, ts)
    rw [show rpWord rpE0 = [] from rfl, map_nil, e]
  · rw [he]
    refine ⟨⟨f4, fun _ => hb, ?_, ?_, ?_, part_back hb (by simpa using hne)⟩, by rw [List.length_map, hlen]⟩
    · intro t ht
      obtain ⟨u, hu, rfl⟩ := List.mem_map.1 ht
      exact all_post (hts u hu)
    · simpa using hne
    · show (ts.map (postC 32)).length ≤ 32
      rw [List.length_map, hlen]; exact hm
theorem got_right {r : Rp} (h : RpGot r) : rpRight r = 0 ∨ rpRight r = 3 := by
  unfold rpRight
  rw [if_neg, if_neg]
  · split
    · exact .inr rfl
    · exact .inl rfl
  · simp only [List.any_eq_true, not_exists, not_and, Bool.not_eq_true', Bool.not_eq_false]
    exact fun t ht => h.pr t ht
  · simp only [Bool.or_eq_true, beq_iff_eq, Bool.and_eq_true, Bool.not_eq_true', not_or, not_and, Bool.not_eq_false]
    exact ⟨h.cls, h.bel⟩
theorem parse_got (l : List Txt) : ((rpParse l).err ≠ 0 ∧ (rpParse l).r = rp0 ∧ (rpParse l).n = 0) ∨
    ((rpParse l).err = 0 ∧ RpGot (rpParse l).r ∧ (rpParse l).n = ((rpParse l).r.text.length : Nat) ∧ (rpParse l).r.text.length ≤ l.length) := by
  rcases parse_cases l with (e | e | e) | ⟨k, hk, hk2, e, hL⟩
  · rw [e]; exact .inl ⟨by decide, rfl, rfl⟩
  · rw [e]; exact .inl ⟨by decide, rfl, rfl⟩
  · rw [e]; exact .inl ⟨by decide, rfl, rfl⟩
  · rw [e]
    have hlen : (l.take (k + 1)).length = k + 1 := by rw [List.length_take]; omega
    obtain ⟨h1, h2⟩ := got_read (l := l.take (k + 1)) (l0 := l.headD []) (by intro e; rw [e] at hlen; simp at hlen) (by omega) (by cases l <;> rfl) hL
    refine .inr ⟨rfl, h1, ?_, ?_⟩
    · show ((k + 1 : Nat) : Int) = _
      rw [h2, hlen]
    · show (rpRead (l.take (k + 1))).text.length ≤ _
      rw [h2, hlen]; omega
/-- What was read and may be said is read again as it was. -/
theorem again {r : Rp} (h : RpGot r) (hr : rpRight r = 0) (b : List Txt) : rpParse (rpLines r ++ b) = ⟨r, (r.text.length : Nat), 0⟩ := parse_back (right_ok.1 hr) h.again b
/-- A reply of which no text begins as an enhanced code. -/
theorem again_plain {r : Rp} (hr : rpRight r = 0) (hp : rpHas r.e = false → ∀ t ∈ r.text, ∀ b, t.head? = some b → digB b = false) (b : List Txt) : rpParse (rpLines r ++ b) = ⟨r, (r.text.length : Nat), 0⟩ := by
  have h := right_ok.1 hr
  refine parse_back h ?_ b
  cases hh : rpHas r.e
  · have e0 : r.e = rpE0 := by
      rw [rpHas] at hh
      simpa using hh
    rw [e0, show rpWord rpE0 = [] from rfl, map_nil]
    exact part_none (hp hh)
  · exact part_back (h.bel hh) h.ne
end Go.Proofs.YtdcakmamdabiaaaDoor
