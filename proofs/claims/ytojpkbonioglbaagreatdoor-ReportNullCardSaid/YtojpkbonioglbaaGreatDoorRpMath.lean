/-
  Plain mathematics: what a server answers, as lines, and back (no model).
-/
import Derived.Test.YtojpkbonioglbaaGreatDoorMaPure
namespace Go.Proofs.YtojpkbonioglbaaGreatDoor
set_option maxRecDepth 100000

/-- The classes of codes; a number of one to three digits; an enhanced code that may be a code's. -/
def rpCls (c : Int) : Int := if c < 200 then 0 else if 599 < c then 0 else c / 100
def rpNm (l : Txt) : Bool := l != [] && decide (l.length ≤ 3) && (l.head? != some 48 || l == [48]) && l.all digB
abbrev E3 := Int × Int × Int
def rpE0 : E3 := (0, 0, 0)
def rpIn (n : Int) : Bool := decide (0 ≤ n) && decide (n ≤ 999)
def rpBel (e : E3) (code : Int) : Bool := (rpCls code == 2 || rpCls code == 4 || rpCls code == 5) && e.1 == rpCls code && rpIn e.2.1 && rpIn e.2.2
def rpEnc (s : Txt) (code : Int) : Option E3 :=
  if hasC 46 s && hasC 46 (postC 46 s) && rpNm (preC 46 s) && rpNm (preC 46 (postC 46 s)) && rpNm (postC 46 (postC 46 s)) && rpBel ((valX (preC 46 s) : Int), (valX (preC 46 (postC 46 s)) : Int), (valX (postC 46 (postC 46 s)) : Int)) code
  then some ((valX (preC 46 s) : Int), (valX (preC 46 (postC 46 s)) : Int), (valX (postC 46 (postC 46 s)) : Int)) else none
/-- The enhanced code at the front of a text, a blank behind it. -/
def rpFront (code : Int) (t : Txt) : Option E3 := if hasC 32 t then rpEnc (preC 32 t) code else none
def rpPart (code : Int) (ts : List Txt) : E3 × List Txt :=
  match ts with
  | [] => (rpE0, [])
  | t :: _ => match rpFront code t with
    | none => (rpE0, ts)
    | some e => if ts.all (fun t => rpFront code t == some e) then (e, ts.map (postC 32)) else (rpE0, ts)
/-- A line that may be one of a reply. -/
def rpPr (b : UInt8) : Bool := decide (32 ≤ b.toNat) && decide (b.toNat ≤ 126)
def rpFm (l : Txt) : Bool := decide (3 ≤ l.length) && l.all rpPr && rpNm (l.take 3) && rpCls (valX (l.take 3)) != 0 && (l[3]? == none || l[3]? == some 45 || l[3]? == some 32)
/-- What a line does: 0 more is to come, 1 it is the last one, else the error. -/
def rpStp (l0 : Txt) (i : Nat) (t : Txt) : Nat :=
  if rpFm t && t.take 3 == l0.take 3 then (if 510 < t.length ∨ i = 32 then 3 else if t[3]? = some 45 then 0 else 1) else 2
def rpScan (l0 : Txt) : Nat → List Txt → Nat × Nat
  | i, [] => (i, 12)
  | i, t :: r => if rpStp l0 i t = 0 then rpScan l0 (i + 1) r else (i, rpStp l0 i t)
structure Rp where
  code : Int
  e : E3
  text : List Txt
def rp0 : Rp := ⟨0, rpE0, []⟩
def rpRead (l : List Txt) : Rp := ⟨(valX ((l.headD []).take 3) : Int), (rpPart (valX ((l.headD []).take 3) : Int) (l.map (·.drop 4))).1, (rpPart (valX ((l.headD []).take 3) : Int) (l.map (·.drop 4))).2⟩
structure RpA where
  r : Rp
  n : Int
  err : Int
def rpParse (l : List Txt) : RpA :=
  if (rpScan (l.headD []) 0 l).2 = 1 then ⟨rpRead (l.take ((rpScan (l.headD []) 0 l).1 + 1)), ((rpScan (l.headD []) 0 l).1 + 1 : Nat), 0⟩ else ⟨rp0, 0, ((rpScan (l.headD []) 0 l).2 : Nat)⟩
/-- A reply's lines. -/
def rpHas (e : E3) : Bool := !(e == rpE0)
def rpWord (e : E3) : Txt := if rpHas e then Lib.itoa e.1 ++ 46 :: (Lib.itoa e.2.1 ++ 46 :: (Lib.itoa e.2.2 ++ [32])) else []
def rpHead (c : Int) (e : E3) (sign : UInt8) : Txt := Lib.itoa c ++ sign :: rpWord e
def rpRight (r : Rp) : Int :=
  if (rpCls r.code == 0 || rpHas r.e && !rpBel r.e r.code) = true then 1
  else if r.text.any (fun t => !t.all rpPr) = true then 2
  else if (r.text.isEmpty || decide (32 < r.text.length) || r.text.any (fun t => decide (510 < (rpHead r.code r.e 32).length + t.length))) = true then 3 else 0
def rpLines (r : Rp) : List Txt := (r.text.take (r.text.length - 1)).map (rpHead r.code r.e 45 ++ ·) ++ (r.text.drop (r.text.length - 1)).map (rpHead r.code r.e 32 ++ ·)
def rpPrintL (r : Rp) : List Txt := if rpRight r = 0 then rpLines r else []
def rpWant (word : Txt) (code : Int) : Option E3 := if word = [] then some rpE0 else rpEnc word code
structure RpO where
  r : Rp
  err : Int
def rpOf (code : Int) (word : Txt) (text : List Txt) : RpO :=
  match rpWant word code with
  | none => ⟨rp0, 2⟩
  | some e => if rpRight ⟨code, e, text⟩ = 0 then ⟨⟨code, e, text⟩, 0⟩ else ⟨rp0, rpRight ⟨code, e, text⟩⟩

/- Numbers. -/
theorem nm_ne {l : Txt} (h : rpNm l = true) : l ≠ [] := by
  rw [rpNm] at h
  simp only [Bool.and_eq_true] at h
  exact bne_iff_ne.1 h.1.1.1
theorem nm_dig {l : Txt} (h : rpNm l = true) : l.all digB = true := by
  rw [rpNm] at h
  simp only [Bool.and_eq_true] at h
  exact h.2
theorem nm_len {l : Txt} (h : rpNm l = true) : l.length ≤ 3 := by
  rw [rpNm] at h
  simp only [Bool.and_eq_true, decide_eq_true_eq] at h
  exact h.1.1.2
theorem dig_not {l : Txt} {c : UInt8} (h : l.all digB = true) (hc : digB c = false) : c ∉ l := fun hm => by
  have := (List.all_eq_true.1 h) c hm
  rw [hc] at this
  cases this
theorem nm_not {l : Txt} {c : UInt8} (h : rpNm l = true) (hc : digB c = false) : c ∉ l := dig_not (nm_dig h) hc
theorem d46 : digB 46 = false := by decide
theorem d32 : digB 32 = false := by decide
theorem nm_val {l : Txt} (h : rpNm l = true) : valX l < 1000 := by
  have hd := nm_dig h
  have hl := nm_len h
  have hb : ∀ b ∈ l, b.toNat - 48 ≤ 9 := fun b hm => by
    have := digB_bd ((List.all_eq_true.1 hd) b hm)
    omega
  match l, hl with
  | [], _ => simp [valX]
  | [a], _ => have := hb a (by simp); simp [valX]; omega
  | [a, b], _ => have := hb a (by simp); have := hb b (by simp); simp [valX]; omega
  | [a, b, c], _ => have := hb a (by simp); have := hb b (by simp); have := hb c (by simp); simp [valX]; omega
theorem nm_dec : ∀ n : Nat, n < 1000 → rpNm (Lib.decDigits n) = true ∧ valX (Lib.decDigits n) = n := by
  intro n h
  obtain ⟨h1, h2, h3, h4⟩ := dd_all 2 n h
  refine ⟨?_, h4⟩
  have hz : ((Lib.decDigits n).head? != some 48 || Lib.decDigits n == [48]) = true := by
    by_cases h10 : n < 10
    · rw [dec_1 h10]
      by_cases h0 : n = 0
      · subst h0; rfl
      · have : dg n ≠ 48 := fun e => by have := dg_nat h10; rw [e] at this; simp at this; omega
        simp [this]
    · by_cases h100 : n < 100
      · rw [dec_2 h10 h100, b2]
        have : dg (n / 10) ≠ 48 := fun e => by have := dg_nat (show n / 10 < 10 by omega); rw [e] at this; simp at this; omega
        simp [this]
      · rw [dec_s h10, dec_s (by omega), dec_1 (by omega)]
        have : dg (n / 10 / 10) ≠ 48 := fun e => by have := dg_nat (show n / 10 / 10 < 10 by omega); rw [e] at this; simp at this; omega
        simp [this]
  rw [rpNm, h3, hz]
  simp only [Bool.and_true, Bool.and_eq_true, decide_eq_true_eq]
  exact ⟨bne_iff_ne.2 h1, h2⟩
theorem itoa_nm {n : Int} (h : rpIn n = true) : rpNm (Lib.itoa n) = true ∧ (valX (Lib.itoa n) : Int) = n := by
  rw [rpIn, Bool.and_eq_true, decide_eq_true_eq, decide_eq_true_eq] at h
  obtain ⟨u, rfl⟩ : ∃ u : Nat, n = u := ⟨n.toNat, by omega⟩
  rw [Lib.itoa, if_neg (by omega), Int.toNat_natCast]
  obtain ⟨h1, h2⟩ := nm_dec u (by omega)
  exact ⟨h1, by rw [h2]⟩

/- The class. -/
theorem cls_bd (c : Int) : 0 ≤ rpCls c ∧ rpCls c ≤ 5 ∧ rpCls c ≠ 1 := by
  unfold rpCls
  split
  · omega
  · split <;> omega
theorem cls_code {c : Int} (h : rpCls c ≠ 0) : 200 ≤ c ∧ c ≤ 599 ∧ 2 ≤ rpCls c := by
  unfold rpCls at h ⊢
  split at h
  · omega
  · split at h
    · omega
    · rw [if_neg (by omega), if_neg (by omega)]; omega
theorem bel_e0 (c : Int) : rpBel rpE0 c = false := by
  unfold rpBel rpE0
  have := cls_bd c
  by_cases h : rpCls c = 0
  · rw [h]; rfl
  · rw [show (((0 : Int), (0 : Int), (0 : Int)).1 == rpCls c) = false from beq_eq_false_iff_ne.2 (Ne.symm h)]; simp
theorem bel_parts {e : E3} {c : Int} (h : rpBel e c = true) : (rpCls c = 2 ∨ rpCls c = 4 ∨ rpCls c = 5) ∧ e.1 = rpCls c ∧ rpIn e.1 = true ∧ rpIn e.2.1 = true ∧ rpIn e.2.2 = true := by
  unfold rpBel at h
  simp only [Bool.and_eq_true, Bool.or_eq_true, beq_iff_eq] at h
  obtain ⟨⟨⟨h1, h2⟩, h3⟩, h4⟩ := h
  refine ⟨by omega, h2, ?_, h3, h4⟩
  rw [rpIn, Bool.and_eq_true, decide_eq_true_eq, decide_eq_true_eq]
  omega
theorem bel_ne {e : E3} {c : Int} (h : rpBel e c = true) : rpHas e = true := by
  unfold rpHas
  cases he : (e == rpE0)
  · rfl
  · rw [beq_iff_eq] at he
    subst he
    rw [bel_e0] at h
    cases h
theorem enc_bel {s : Txt} {c : Int} {e : E3} (h : rpEnc s c = some e) : rpBel e c = true := by
  unfold rpEnc at h
  split at h
  · rename_i hc
    injection h with h
    subst h
    simp only [Bool.and_eq_true] at hc
    exact hc.2
  · cases h
theorem front_bel {t : Txt} {c : Int} {e : E3} (h : rpFront c t = some e) : rpBel e c = true := by
  unfold rpFront at h
  split at h
  · exact enc_bel h
  · cases h
theorem enc_shape {s : Txt} {c : Int} {e : E3} : rpEnc s c = some e ↔ ∃ x y z, s = x ++ 46 :: (y ++ 46 :: z) ∧ rpNm x = true ∧ rpNm y = true ∧ rpNm z = true ∧ e = ((valX x : Int), (valX y : Int), (valX z : Int)) ∧ rpBel e c = true := by
  constructor
  · intro h
    have hb := enc_bel h
    unfold rpEnc at h
    split at h
    · rename_i hc
      injection h with h
      simp only [Bool.and_eq_true] at hc
      obtain ⟨⟨⟨⟨⟨h1, h2⟩, h3⟩, h4⟩, h5⟩, _⟩ := hc
      refine ⟨preC 46 s, preC 46 (postC 46 s), postC 46 (postC 46 s), ?_, h3, h4, h5, h.symm, hb⟩
      rw [← (cut_of h2).2, ← (cut_of h1).2]
    · cases h
  · rintro ⟨x, y, z, rfl, hx, hy, hz, rfl, hb⟩
    obtain ⟨a1, a2, a3⟩ := cut_at (y ++ 46 :: z) (nm_not hx d46)
    obtain ⟨b1, b2, b3⟩ := cut_at z (nm_not hy d46)
    unfold rpEnc
    rw [a3, b3, a1, a2, b1, b2, hx, hy, hz, hb]
    rfl
theorem word_enc {e : E3} {c : Int} (h : rpBel e c = true) : rpEnc (Lib.itoa e.1 ++ 46 :: (Lib.itoa e.2.1 ++ 46 :: Lib.itoa e.2.2)) c = some e := by
  obtain ⟨_, _, h1, h2, h3⟩ := bel_parts h
  obtain ⟨a1, a2⟩ := itoa_nm h1
  obtain ⟨b1, b2⟩ := itoa_nm h2
  obtain ⟨c1, c2⟩ := itoa_nm h3
  exact enc_shape.2 ⟨_, _, _, rfl, a1, b1, c1, by rw [a2, b2, c2], h⟩
theorem word_not {e : E3} {c : Int} (h : rpBel e c = true) : (32 : UInt8) ∉ Lib.itoa e.1 ++ 46 :: (Lib.itoa e.2.1 ++ 46 :: Lib.itoa e.2.2) := by
  obtain ⟨_, _, h1, h2, h3⟩ := bel_parts h
  have a := nm_not (itoa_nm h1).1 d32
  have b := nm_not (itoa_nm h2).1 d32
  have c := nm_not (itoa_nm h3).1 d32
  simp [a, b, c]
theorem word_front {e : E3} {c : Int} (h : rpBel e c = true) (t : Txt) : rpFront c (rpWord e ++ t) = some e ∧ postC 32 (rpWord e ++ t) = t := by
  have hw : rpWord e ++ t = (Lib.itoa e.1 ++ 46 :: (Lib.itoa e.2.1 ++ 46 :: Lib.itoa e.2.2)) ++ 32 :: t := by
    rw [rpWord, if_pos (bel_ne h)]; simp
  obtain ⟨h1, h2, h3⟩ := cut_at t (word_not h)
  rw [hw, rpFront, h1, h2, h3, if_pos rfl]
  exact ⟨word_enc h, rfl⟩
theorem word_len {e : E3} {c : Int} (h : rpBel e c = true) : (rpWord e).length ≤ 12 := by
  obtain ⟨_, _, h1, h2, h3⟩ := bel_parts h
  have a := nm_len (itoa_nm h1).1
  have b := nm_len (itoa_nm h2).1
  have c := nm_len (itoa_nm h3).1
  rw [rpWord, if_pos (bel_ne h)]
  simp
  omega
theorem part_back {e : E3} {c : Int} (h : rpBel e c = true) {ts : List Txt} (hts : ts ≠ []) : rpPart c (ts.map (rpWord e ++ ·)) = (e, ts) := by
  have key : ∀ l : List Txt, (l.map (rpWord e ++ ·)).all (fun t => rpFront c t == some e) = true ∧ (l.map (rpWord e ++ ·)).map (postC 32) = l := by
    intro l
    induction l with
    | nil => exact ⟨rfl, rfl⟩
    | cons a t ih =>
      obtain ⟨h1, h2⟩ := word_front h a
      refine ⟨?_, ?_⟩
      · rw [List.map_cons, List.all_cons, ih.1, h1]; simp
      · rw [List.map_cons, List.map_cons, ih.2, h2]
  cases ts with
  | nil => exact absurd rfl hts
  | cons a t =>
    obtain ⟨h1, h2⟩ := key (a :: t)
    rw [List.map_cons] at h1 h2 ⊢
    rw [rpPart, (word_front h a).1]
    simp only [h1, h2, if_true]
/-- A text that begins with no digit has no enhanced code at its front. -/
theorem front_none {t : Txt} {c : Int} (h : ∀ b, t.head? = some b → digB b = false) : rpFront c t = none := by
  unfold rpFront
  split
  · rename_i hc
    cases he : rpEnc (preC 32 t) c with
    | none => rfl
    | some e =>
      obtain ⟨x, y, z, hs, hx, _⟩ := enc_shape.1 he
      have ht := (cut_of hc).2
      cases hx' : x with
      | nil => exact absurd hx' (nm_ne hx)
      | cons b r =>
        rw [hs, hx'] at ht
        have := h b (by rw [ht]; rfl)
        have h2 := (List.all_eq_true.1 (nm_dig hx)) b (by rw [hx']; simp)
        rw [this] at h2
        cases h2
  · rfl
theorem part_none {ts : List Txt} {c : Int} (h : ∀ t ∈ ts, ∀ b, t.head? = some b → digB b = false) : rpPart c ts = (rpE0, ts) := by
  cases ts with
  | nil => rfl
  | cons a t => rw [rpPart, front_none (h a (by simp))]
theorem part_len (c : Int) (ts : List Txt) : (rpPart c ts).2.length = ts.length := by
  unfold rpPart
  split
  · rfl
  · split
    · rfl
    · split <;> simp
theorem part_cases (c : Int) (ts : List Txt) : rpPart c ts = (rpE0, ts) ∨ ∃ e, rpBel e c = true ∧ rpPart c ts = (e, ts.map (postC 32)) ∧ ∀ t ∈ ts, rpFront c t = some e := by
  unfold rpPart
  split
  · exact .inl rfl
  · split
    · exact .inl rfl
    · rename_i t _ _ e he
      split
      · rename_i ha
        exact .inr ⟨e, front_bel he, rfl, fun t ht => by simpa using (List.all_eq_true.1 ha) t ht⟩
      · exact .inl rfl
end Go.Proofs.YtojpkbonioglbaaGreatDoor
