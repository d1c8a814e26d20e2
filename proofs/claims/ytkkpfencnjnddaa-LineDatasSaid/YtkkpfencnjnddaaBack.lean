/-
  Plain mathematics: what is laid as data is read back; a cutter gives its lines.
-/
import Derived.Test.YtkkpfencnjnddaaAwake
namespace Go.Proofs.Ytkkpfencnjnddaa

theorem plainB_mem {l : List UInt8} (h : plainB l = true) {b : UInt8} (hb : b ∈ l) : b ≠ 13 ∧ b ≠ 10 ∧ b ≠ 0 := by
  have := List.all_eq_true.1 h b hb
  simp only [Bool.and_eq_true, bne_iff_ne] at this
  exact ⟨this.2, this.1.2, this.1.1⟩
theorem plainB_tail {b : UInt8} {l : List UInt8} (h : plainB (b :: l) = true) : plainB l = true := by
  unfold plainB at *
  simp only [List.all_cons, Bool.and_eq_true] at h
  exact h.2

theorem cutE_hit {t : List UInt8} (ht : plainB t = true) (r : List UInt8) : cutE (t ++ ([13, 10] ++ r)) = (t, r, true) := by
  have hi : Lib.index (t ++ ([13, 10] ++ r)) [13, 10] = (t.length : Int) := by
    refine Lib.index_first (by simp) ?_ ?_
    · unfold Lib.occAt
      rw [List.drop_left]
      rfl
    · intro j hj
      unfold Lib.occAt
      rw [List.drop_append_of_le_length (by omega), List.drop_eq_getElem_cons hj, List.cons_append]
      have hne := (plainB_mem ht (List.getElem_mem hj)).1
      simp [List.isPrefixOf, Ne.symm hne]
  unfold cutE Lib.cut
  rw [hi, if_pos (by omega)]
  simp [List.drop_append]

theorem und_laid : ∀ (ts : List (List UInt8)) (acc : List (List UInt8)) (f : Nat) (r : List UInt8), (∀ t ∈ ts, plainB t = true ∧ t ≠ [46]) → ts.length < f →
    und f acc (ts.flatMap (fun t => t ++ [13, 10]) ++ ([46] ++ ([13, 10] ++ r))) = some (acc ++ ts, r)
  | [], acc, f, r, _, hf => by
    obtain ⟨f', rfl⟩ : ∃ f', f = f' + 1 := ⟨f - 1, by simp at hf; omega⟩
    have e : cutE ([46] ++ ([13, 10] ++ r)) = ([46], r, true) := cutE_hit rfl r
    simp only [List.flatMap_nil, List.nil_append, List.append_nil, und, e, if_true]
  | t :: ts, acc, f, r, h, hf => by
    obtain ⟨f', rfl⟩ : ∃ f', f = f' + 1 := ⟨f - 1, by simp at hf; omega⟩
    obtain ⟨hp, hd⟩ := h t (by simp)
    have e : cutE ((t :: ts).flatMap (fun t => t ++ [13, 10]) ++ ([46] ++ ([13, 10] ++ r))) = (t, ts.flatMap (fun t => t ++ [13, 10]) ++ ([46] ++ ([13, 10] ++ r)), true) := by
      rw [List.flatMap_cons, List.append_assoc, List.append_assoc]
      exact cutE_hit hp _
    rw [und, e]
    simp only [if_true, if_neg hd]
    rw [und_laid ts (acc ++ [t]) f' r (fun u hu => h u (by simp [hu])) (by simp at hf; omega)]
    simp

/-- A line as it is laid, without its end. -/
def dotted (p : List UInt8) : List UInt8 := (if Lib.hasPrefix p [46] then [46] else []) ++ p
theorem laidOf_dotted (p : List UInt8) : laidOf p = dotted p ++ [13, 10] := by simp [laidOf, dotted]
theorem bodyOf_dotted (ps : List ByteArray) : bodyOf ps = (ps.map fun p => dotted p.data.toList).flatMap (fun t => t ++ [13, 10]) := by
  rw [bodyOf, List.flatMap_map]
  congr 1
  funext p
  exact laidOf_dotted _
theorem dotted_plain {p : List UInt8} (h : plainB p = true) : plainB (dotted p) = true := by
  unfold dotted
  split
  · unfold plainB at *
    rw [List.all_append, h]; rfl
  · exact h
theorem dotted_ne (p : List UInt8) : dotted p ≠ [46] := by
  unfold dotted
  split
  · rename_i h
    cases p with
    | nil => exact absurd h (by decide)
    | cons a t => simp
  · rename_i h
    intro e
    simp only [List.nil_append] at e
    rw [e] at h
    exact h rfl
theorem dotted_trim (p : List UInt8) : Lib.trimPrefix (dotted p) [46] = p := by
  unfold dotted
  split
  · rename_i h
    rw [Lib.trimPrefix, if_pos (by simp [Lib.hasPrefix, List.isPrefixOf])]
    rfl
  · rename_i h
    rw [List.nil_append, Lib.trimPrefix, if_neg h]
theorem dotted_len (p : List UInt8) : (dotted p).length ≤ p.length + 1 := by
  unfold dotted
  split <;> simp

theorem wrongOf_zero {most : Nat} {ps : List ByteArray} (h : wrongOf most ps = 0) : ∀ p ∈ ps, plainB p.data.toList = true ∧ p.size ≤ most := by
  unfold wrongOf at h
  split at h
  · omega
  · rename_i h1
    split at h
    · omega
    · rename_i h2
      intro p hp
      constructor
      · by_cases hx : plainB p.data.toList = true
        · exact hx
        · exact absurd (List.any_eq_true.2 ⟨p, hp, by simpa using hx⟩) h1
      · by_cases hx : p.size ≤ most
        · exact hx
        · exact absurd (List.any_eq_true.2 ⟨p, hp, decide_eq_true (by omega)⟩) h2
theorem zero_wrongOf {most : Nat} {ps : List ByteArray} (h : ∀ p ∈ ps, plainB p.data.toList = true ∧ p.size ≤ most) : wrongOf most ps = 0 := by
  refine wrongOf_0 ?_ ?_
  · rw [List.any_eq_false]
    intro p hp
    rw [(h p hp).1]; decide
  · rw [List.any_eq_false]
    intro p hp
    have := (h p hp).2
    simp; omega

theorem dataOf_eq (ps : List ByteArray) (r : List UInt8) : dataOf ps ++ r = (ps.map fun p => dotted p.data.toList).flatMap (fun t => t ++ [13, 10]) ++ ([46] ++ ([13, 10] ++ r)) := by
  rw [dataOf, bodyOf_dotted]; simp
theorem flat_len (ts : List (List UInt8)) : ts.length ≤ (ts.flatMap (fun t => t ++ [13, 10])).length := by
  induction ts with
  | nil => simp
  | cons t ts ih => simp only [List.flatMap_cons, List.length_append, List.length_cons, List.length_nil] at ih ⊢; omega
theorem undata_data (ps : List ByteArray) (r : List UInt8) (h : wrongOf 998 ps = 0) : undata (dataOf ps ++ r) = (ps.map (fun p => p.data.toList), r, 0) := by
  have hw := wrongOf_zero h
  have hts : ∀ t ∈ ps.map (fun p => dotted p.data.toList), plainB t = true ∧ t ≠ [46] := fun t ht => by
    obtain ⟨p, hp, rfl⟩ := List.mem_map.1 ht
    exact ⟨dotted_plain (hw p hp).1, dotted_ne _⟩
  have hu := und_laid (ps.map fun p => dotted p.data.toList) [] ((dataOf ps ++ r).length + 1) r hts (by
    rw [dataOf_eq, List.length_append]
    have := flat_len (ps.map fun p => dotted p.data.toList)
    omega)
  rw [← dataOf_eq, List.nil_append] at hu
  have h9 : wrongOf 999 ((ps.map (fun p => dotted p.data.toList)).map mkS) = 0 := zero_wrongOf fun q hq => by
    obtain ⟨t, ht, rfl⟩ := List.mem_map.1 hq
    obtain ⟨p, hp, rfl⟩ := List.mem_map.1 ht
    have h1 := dotted_len p.data.toList
    have h2 := (hw p hp).2
    rw [← Lib.size_eq] at h1
    exact ⟨dotted_plain (hw p hp).1, by rw [mkS, size_mk]; omega⟩
  rw [undata, hu]
  show (if wrongOf 999 ((ps.map (fun p => dotted p.data.toList)).map mkS) = 0 then ((ps.map (fun p => dotted p.data.toList)).map (fun t => Lib.trimPrefix t [46]), r, (0 : Int)) else ([], [], wrongOf 999 ((ps.map (fun p => dotted p.data.toList)).map mkS))) = _
  rw [if_pos h9, List.map_map]
  have e : ps.map ((fun t => Lib.trimPrefix t [46]) ∘ fun p => dotted p.data.toList) = ps.map (fun p => p.data.toList) := List.map_congr_left fun p _ => dotted_trim _
  rw [e]

/-! ### The cutter over data -/
theorem feed_plain (most : Nat) : ∀ (t : List UInt8) (s : St), plainB t = true → s.pend + t.length ≤ most → ∃ last, (feed most s t) = (⟨s.kept ++ t, s.pend + t.length, last, s.lines⟩, []) ∧ (t = [] → last = s.last) ∧ (t ≠ [] → last ≠ 13)
  | [], s, _, _ => ⟨s.last, by simp [feed], fun _ => rfl, fun h => absurd rfl h⟩
  | b :: t, s, hp, hl => by
    have hb := plainB_mem hp (List.mem_cons_self (a := b) (l := t))
    have hst : step most s b = (⟨s.kept ++ [b], s.pend + 1, b, s.lines⟩, []) := by
      have e : (s.last == 13 && b == 10) = false := by
        rw [beq_eq_false_iff_ne.2 hb.2.1, Bool.and_false]
      simp only [List.length_cons] at hl
      rw [step, e, if_neg (by decide), keepB, if_pos (by omega)]
    obtain ⟨last, he, h1, h2⟩ := feed_plain most t ⟨s.kept ++ [b], s.pend + 1, b, s.lines⟩ (plainB_tail hp) (by simp only [List.length_cons] at hl; show s.pend + 1 + t.length ≤ most; omega)
    refine ⟨last, ?_, fun e => by simp at e, fun _ => ?_⟩
    · rw [feed, hst, he]
      simp only [List.length_cons, List.append_assoc, List.cons_append, List.nil_append, Prod.mk.injEq, St.mk.injEq, true_and, and_true]
      omega
    · cases t with
      | nil => rw [h1 rfl]; exact hb.1
      | cons c t => exact h2 (by simp)
theorem feed_line (most : Nat) (t : List UInt8) (last0 : UInt8) (lines : Nat) (hp : plainB t = true) (hl : t.length + 2 ≤ most) (h0 : last0 ≠ 13) : feed most ⟨[], 0, last0, lines⟩ (t ++ [13, 10]) = (⟨[], 0, 10, lines + 1⟩, [(t, 0)]) := by
  obtain ⟨last, he, h1, h2⟩ := feed_plain most t ⟨[], 0, last0, lines⟩ hp (by show 0 + t.length ≤ most; omega)
  have hl13 : last ≠ 13 := by
    cases t with
    | nil => rw [h1 rfl]; exact h0
    | cons c t => exact h2 (by simp)
  rw [feed_append, he]
  have s1 : step most ⟨t, 0 + t.length, last, lines⟩ 13 = (⟨t ++ [13], t.length + 1, 13, lines⟩, []) := by
    have e : (last == 13 && (13 : UInt8) == 10) = false := by rw [Bool.and_eq_false_iff]; exact .inr rfl
    rw [step, e, if_neg (by decide), keepB, if_pos (by show 0 + t.length + 1 ≤ most; omega)]
    simp
  have s2 : step most ⟨t ++ [13], t.length + 1, 13, lines⟩ 10 = (⟨[], 0, 10, lines + 1⟩, [(t, 0)]) := by
    have e2 : lineOf most (t.length + 1 + 1) (t ++ [13] ++ [10]) = (t, 0) := by
      have hk : (t ++ [13] ++ [10]).take ((t ++ [13] ++ [10]).length - 2) = t := by simp
      rw [lineOf, if_neg (by omega), hk, hp, if_pos rfl]
    rw [step, if_pos (show ((13 : UInt8) == 13 && (10 : UInt8) == 10) = true from rfl), keepB, if_pos (by show t.length + 1 + 1 ≤ most; omega), e2]
  simp only [feed, s1, s2, List.nil_append, List.append_nil]
theorem feed_laid (most : Nat) : ∀ (ts : List (List UInt8)) (last0 : UInt8) (lines : Nat), last0 ≠ 13 → (∀ t ∈ ts, plainB t = true ∧ t.length + 2 ≤ most) → ∃ last, last ≠ 13 ∧ feed most ⟨[], 0, last0, lines⟩ (ts.flatMap (fun t => t ++ [13, 10])) = (⟨[], 0, last, lines + ts.length⟩, ts.map fun t => (t, 0))
  | [], last0, lines, h0, _ => ⟨last0, h0, by simp [feed]⟩
  | t :: ts, last0, lines, h0, h => by
    obtain ⟨hp, hl⟩ := h t (by simp)
    obtain ⟨last, hl13, he⟩ := feed_laid most ts 10 (lines + 1) (by decide) (fun u hu => h u (by simp [hu]))
    refine ⟨last, hl13, ?_⟩
    rw [List.flatMap_cons, feed_append, feed_line most t last0 lines hp hl h0, he]
    simp only [List.length_cons, List.map_cons, List.cons_append, List.nil_append, Prod.mk.injEq, St.mk.injEq, true_and, and_true]
    omega
theorem feed_data (ps : List ByteArray) (h : wrongOf 998 ps = 0) : (feed 65536 st0 (dataOf ps)).2 = (ps.map fun p => (dotted p.data.toList, (0 : Int))) ++ [([46], 0)] := by
  have hw := wrongOf_zero h
  have e : dataOf ps = (ps.map fun p => dotted p.data.toList).flatMap (fun t => t ++ [13, 10]) ++ ([46] ++ [13, 10]) := by
    have := dataOf_eq ps []
    simpa using this
  obtain ⟨last, hl, he⟩ := feed_laid 65536 (ps.map fun p => dotted p.data.toList) 0 0 (by decide) (fun t ht => by
    obtain ⟨p, hp, rfl⟩ := List.mem_map.1 ht
    have h1 := dotted_len p.data.toList
    have h2 := (hw p hp).2
    rw [← Lib.size_eq] at h1
    exact ⟨dotted_plain (hw p hp).1, by omega⟩)
  rw [e, feed_append]
  show (feed 65536 ⟨[], 0, 0, 0⟩ _).2 ++ _ = _
  rw [show st0 = ⟨[], 0, 0, 0⟩ from rfl, he]
  have := feed_line 65536 [46] last (0 + (ps.map fun p => dotted p.data.toList).length) rfl (by decide) hl
  simp only [this, List.map_map]
  rfl
end Go.Proofs.Ytkkpfencnjnddaa
