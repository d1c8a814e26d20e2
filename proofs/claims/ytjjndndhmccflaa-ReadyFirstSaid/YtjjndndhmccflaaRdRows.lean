/-
  Rows of entries of a law's own; Few.
-/
import Derived.Test.YtjjndndhmccflaaRdTaken
namespace Go.Proofs.Ytjjndndhmccflaa
set_option maxRecDepth 100000
open Go.RowKit
def fewA (l : List Ac) : Bool := decide (l.length ≤ 60) && l.all (fun c => decide (c.x.dest.length ≤ 300))
theorem few_a {l : List Ac} (h : fewA l = true) : l.length ≤ 60 ∧ ∀ c ∈ l, c.x.dest.length ≤ 300 := by
  rw [fewA, Bool.and_eq_true, decide_eq_true_eq, List.all_eq_true] at h
  exact ⟨h.1, fun c hc => by simpa using h.2 c hc⟩
set_option maxHeartbeats 4000000 in
theorem few_x (v : Value) (l : List Ac) (w : World) (hs : ActsAt w v l) : Calls Try.prog 6 #[v] w fun e w' => e = .returned (.bool (fewA l)) ∧ w' = w := by
  obtain ⟨a0, cap, rfl, hcap, hat⟩ := hs
  have HS := Lib.hid hat
  clear hat
  go_enter Try.func6, Try.ntmps6
  go_wp2_with fail
  go_loop [3] (fun i => ∃ k : Nat, k ≤ l.length ∧ k ≤ 60 ∧ i = .int .i64 k ∧ Hid ((l.take k).all (fun c => decide (c.x.dest.length ≤ 300)) = true)) (fun i => l.length - (intOf i).toNat)
  case atStart => exact ⟨0, Nat.zero_le _, Nat.zero_le _, rfl, by show _ = true; simp⟩
  case round =>
    obtain ⟨k, hk, hk2, rfl, HN⟩ := hrel
    by_cases hlt : k < l.length
    · have HLT := Lib.hid hlt
      obtain ⟨t, ht⟩ : ∃ t, l[k]? = some t := ⟨_, List.getElem?_eq_getElem hlt⟩
      obtain ⟨ad, rfl, hab, hat⟩ := HS.out k t ht
      have c4 := hat.c4
      have hm := mkS_size t.x.dest
      have HM := Lib.hid (List.mem_of_getElem? ht)
      have HT := Lib.hid (show (l.take (k + 1)).all (fun c => decide (c.x.dest.length ≤ 300)) = decide (t.x.dest.length ≤ 300) by
        obtain ⟨h1, h2⟩ := List.getElem?_eq_some_iff.1 ht
        rw [List.take_succ_eq_append_getElem h1, List.all_append, HN.out, h2]
        simp)
      clear ht hat
      have hkl : (k : Int) < (l.length : Int) := by omega
      by_cases h2 : 60 ≤ k
      · have d1 : decide ((60 : Int) ≤ (k : Int)) = true := decide_eq_true (by omega)
        have HE := Lib.hid (show fewA l = false by rw [fewA, decide_eq_false (by omega)]; rfl)
        go_wp2_with fail
        go_ret
        exact ⟨ret_bool HE.out.symm, rfl⟩
      · have d1 : decide ((60 : Int) ≤ (k : Int)) = false := decide_eq_false (by omega)
        have HK60 := Lib.hid h2
        clear h2
        by_cases h3 : 300 < t.x.dest.length
        · have d2 : decide ((300 : Int) < (t.x.dest.length : Int)) = true := decide_eq_true (by omega)
          have HE := Lib.hid (show fewA l = false by
            rw [fewA, Bool.and_eq_false_iff]
            right
            rw [List.all_eq_false]
            exact ⟨t, HM.out, by simpa using h3⟩)
          clear h3
          go_wp2_with fail
          go_ret
          exact ⟨ret_bool HE.out.symm, rfl⟩
        · have d2 : decide ((300 : Int) < (t.x.dest.length : Int)) = false := decide_eq_false (by omega)
          have HE := Lib.hid (HT.out.trans (decide_eq_true (by omega)))
          clear h3
          go_wp2_with fail
          go_round
          case rel => exact ⟨k + 1, by have := HLT.out; omega, by have := HK60.out; omega, by go_num, HE⟩
          case measure => have := HLT.out; simp [intOf]; omega
    · have HE := Lib.hid (show fewA l = true by
        have e : l.take k = l := List.take_of_length_le (by omega)
        have := HN.out
        rw [e] at this
        rw [fewA, Bool.and_eq_true, decide_eq_true_eq]
        exact ⟨by omega, this⟩)
      obtain rfl : k = l.length := by omega
      go_wp2_with fail
      go_ret
      exact ⟨ret_bool HE.out.symm, rfl⟩
theorem Try.infoE : (Try.prog.info? 34).map (fun i => (i.zero, i.size, i.bytes)) = some (some zeroE, 4, 40) := by kernel_rfl
theorem encE_len (x : Et) : (encE x).length = 4 := rfl
theorem encE_one (x : Et) : ∀ v ∈ encE x, v.oneCell' = true := by
  intro v hv
  simp only [encE, List.mem_cons, List.not_mem_nil, or_false] at hv
  rcases hv with rfl | rfl | rfl | rfl <;> rfl
theorem encL_one (l : List Et) : ∀ u ∈ l.flatMap encE, u.oneCell' = true := by
  intro u hu
  obtain ⟨x, _, hx⟩ := List.mem_flatMap.1 hu
  exact encE_one x u hx
/-- A row of these entries. -/
def ER (w : World) (B : Nat) (v : Value) (l : List Et) : Prop := w.ownsRow B 34 4 v l.length (l.flatMap encE)
theorem ER.nil (w : World) (B : Nat) : ER w B (.slice none 0 0) [] := ⟨rfl, .inl ⟨rfl, rfl⟩⟩
theorem ER.made {w : World} {B : Nat} (hB : B ≤ w.heap.size) : ER (w.alloc (.cells #[] 34)) B (.slice (some ⟨w.heap.size, 0, none⟩) 0 0) [] := ⟨rfl, .inr ⟨w.heap.size, 0, #[], rfl, hB, newOf w _, Nat.le_refl _, Nat.zero_le _, rfl, rfl⟩⟩
theorem ER.slice {w : World} {B : Nat} {v : Value} {l : List Et} (h : ER w B v l) : ∃ A c, v = .slice A l.length c := own_slice h
theorem ER.st {O O' : Nat → Prop} {w w' : World} {B : Nat} {v : Value} {l : List Et} (h : ER w B v l) (s : St O O' w w') (hn : ∀ g, v.ownBlock = some g → ¬ O g) : ER w' B v l ∧ ∀ g, v.ownBlock = some g → ¬ O' g := by
  rcases h.2 with ⟨rfl, h0⟩ | ⟨g, cap, cur, rfl, hB, hk, hr⟩
  · exact ⟨⟨h.1, .inl ⟨rfl, h0⟩⟩, fun g e => by cases e⟩
  · refine ⟨⟨h.1, .inr ⟨g, cap, cur, rfl, hB, (s.at (ltOf hk) (hn g rfl)).trans hk, hr⟩⟩, fun g' e => ?_⟩
    simp only [Value.ownBlock, Option.some.injEq] at e
    subst e
    exact s.not (ltOf hk) (hn g rfl)
theorem ER.form {w : World} {B : Nat} {v : Value} {l : List Et} (h : ER w B v l) (hl : 0 < l.length) : ∃ g cap cur, v = .slice (some ⟨g, 0, none⟩) l.length cap ∧ B ≤ g ∧ w.heap[g]? = some (.cells cur 34 (0, 0)) ∧ l.length ≤ cap ∧ cur.toList.take (l.length * 4) = l.flatMap encE := by
  rcases h.2 with ⟨_, h0⟩ | ⟨g, cap, cur, hv, hB, hk, h1, _, _, h2⟩
  · omega
  · exact ⟨g, cap, cur, hv, hB, hk, h1, h2⟩
theorem ER.get {w : World} {B g cap : Nat} {l : List Et} (h : ER w B (.slice (some ⟨g, 0, none⟩) l.length cap) l) {j c : Nat} {x : Et} (hj : l[j]? = some x) (hc : c < 4) : w.cell? ⟨g, j * 4 + c, none⟩ = (encE x)[c]? := by
  have hl := (List.getElem?_eq_some_iff.1 hj).1
  have h' : w.ownsRow B 34 4 (.slice (some ⟨g, 0, none⟩) l.length cap) l.length (l.flatMap encE) := h
  rw [h'.cellAt (j * 4 + c) (by omega), flat_get encE 4 encE_len l j c x hc hj]
theorem app_et {W : World} {B : Nat} {v : Value} {l : List Et} (hown : ER W B v l) (ty : TypeId) (A : Addr) (m c : Nat) (news : List Et) (hm : news.length = m) (hnews : ∀ j u, (news.flatMap encE)[j]? = some u → W.cell? (A.add j) = some u) (few : l.length + m ≤ 1000000) (hB : B ≤ W.heap.size) :
    ∃ v' w', (Builtin.append_ #[56, 56] ty #[v, .slice (some A) m c]).run Try.prog W = .ok v' w' ∧ ER w' B v' (l ++ news) ∧ W.grownBy w' v.ownBlock ∧ (v'.ownBlock = v.ownBlock ∨ v'.ownBlock = some W.heap.size) := by
  obtain ⟨i0, hi, hz0, hz1, hz2⟩ := info_parts Try.infoE
  obtain ⟨v', w', h1, h2, h3, _, h4⟩ := run_append_own_at (P := Try.prog) W B 56 ty 34 i0 zeroE 4 40 Try.underlying56 hi hz0 hz1 hz2 rfl (by decide) v l.length (l.flatMap encE) hown A m c (news.flatMap encE) (by rw [flat_len encE 4 encE_len, hm]) hnews (encL_one news) (by unfold maxLen; omega) (by omega) hB
  refine ⟨v', w', h1, ?_, h3, h4⟩
  unfold ER
  rw [List.length_append, hm, List.flatMap_append]
  exact h2
/-- One of them is left out, the others laid anew: the two appends that do it. -/
theorem cut_et {W : World} {B g cap k : Nat} {l : List Et} (h : ER W B (.slice (some ⟨g, 0, none⟩) l.length cap) l) (hk : k < l.length) (few : l.length ≤ 1000) (ty : TypeId) :
    ∃ A2 v1 w1 v2 w2, (if cap = k + 1 then (some ⟨g, 0, none⟩ : Option Addr) else some ⟨g, (k + 1) * 4, none⟩) = some A2 ∧
      (Builtin.append_ #[56, 56] ty #[.slice (some ⟨W.heap.size, 0, none⟩) 0 0, .slice (some ⟨g, 0, none⟩) k cap]).run Try.prog (W.alloc (.cells #[] 34)) = .ok v1 w1 ∧
      (Builtin.append_ #[56, 56] ty #[v1, .slice (some A2) (l.length - (k + 1)) (cap - (k + 1))]).run Try.prog w1 = .ok v2 w2 ∧
      ER w2 W.heap.size v2 (l.eraseIdx k) ∧ Below W.heap.size W w2 := by
  obtain ⟨g', cap', cur, hv, hBg, hg, hc1, hc2⟩ := h.form (by omega)
  injection hv with hv1 _ hv3
  injection hv1 with hv1
  injection hv1 with hv1
  subst hv1
  subst hv3
  have hgl := ltOf hg
  obtain ⟨W1, hW1⟩ : ∃ W1, W1 = W.alloc (.cells #[] 34) := ⟨_, rfl⟩
  have b1 : Below W.heap.size W W1 := by rw [hW1]; exact below_box W _
  have g1 : W1.heap[g]? = some (.cells cur 34 (0, 0)) := (b1.block g hgl).trans hg
  have cellsAt : ∀ (wx : World), wx.heap[g]? = some (.cells cur 34 (0, 0)) → ∀ (j c : Nat) (x : Et), c < 4 → l[j]? = some x → wx.cell? ⟨g, j * 4 + c, none⟩ = (encE x)[c]? := fun wx hx j c x hc hj => by
    have hl := (List.getElem?_eq_some_iff.1 hj).1
    rw [cellOf hx, ← Array.getElem?_toList]
    have e6 : (cur.toList.take (l.length * 4))[j * 4 + c]? = cur.toList[j * 4 + c]? := by rw [List.getElem?_take, if_pos (by omega)]
    rw [← e6, hc2, flat_get encE 4 encE_len l j c x hc hj]
  have split4 : ∀ t : Nat, ∃ q r, r < 4 ∧ t = q * 4 + r := fun t => ⟨t / 4, t % 4, by omega, by omega⟩
  have hER0 : ER W1 W.heap.size (.slice (some ⟨W.heap.size, 0, none⟩) 0 0) [] := by rw [hW1]; exact ER.made (Nat.le_refl _)
  have hsz1 : W.heap.size ≤ W1.heap.size := b1.size
  obtain ⟨v1, w1, r1, e1, q1, o1⟩ := app_et hER0 ty ⟨g, 0, none⟩ k cap (l.take k) (by rw [List.length_take]; omega) (fun t u hu => by
    obtain ⟨q, r, hr, rfl⟩ := split4 t
    have hq : q < k := by
      have := (List.getElem?_eq_some_iff.1 hu).1
      rw [flat_len encE 4 encE_len, List.length_take] at this; omega
    obtain ⟨x, hx⟩ : ∃ x, l[q]? = some x := ⟨_, List.getElem?_eq_getElem (by omega)⟩
    rw [flat_get encE 4 encE_len (l.take k) q r x hr (by rw [List.getElem?_take, if_pos hq]; exact hx)] at hu
    rw [show (⟨g, 0, none⟩ : Addr).add (q * 4 + r) = ⟨g, q * 4 + r, none⟩ by unfold Addr.add; split <;> simp_all]
    exact (cellsAt W1 g1 q r x hr hx).trans hu) (by simp; omega) hsz1
  rw [List.nil_append] at e1
  have nb1 : g ≠ W.heap.size := by omega
  have g2 : w1.heap[g]? = some (.cells cur 34 (0, 0)) := (q1.block g (by omega) (fun e => by simp only [Value.ownBlock, Option.some.injEq] at e; omega)).trans g1
  have b2 : Below W.heap.size W w1 := b1.trans ⟨q1.os, q1.tape, q1.output, q1.size, fun i hi => q1.block i (by omega) (fun e => by simp only [Value.ownBlock, Option.some.injEq] at e; omega)⟩
  have hv1 : ∀ i, v1.ownBlock = some i → W.heap.size ≤ i := fun i hi => by
    rcases o1 with o1 | o1
    · rw [o1] at hi; simp only [Value.ownBlock, Option.some.injEq] at hi; omega
    · rw [o1] at hi; simp only [Option.some.injEq] at hi; omega
  obtain ⟨A2, hA2, hsrc⟩ : ∃ A2 : Addr, (if cap = k + 1 then (some ⟨g, 0, none⟩ : Option Addr) else some ⟨g, (k + 1) * 4, none⟩) = some A2 ∧ ∀ t u, ((l.drop (k + 1)).flatMap encE)[t]? = some u → w1.cell? (A2.add t) = some u := by
    by_cases hck : cap = k + 1
    · refine ⟨⟨g, 0, none⟩, by rw [if_pos hck], fun t u hu => ?_⟩
      have : (l.drop (k + 1)).length = 0 := by rw [List.length_drop]; omega
      rw [List.length_eq_zero_iff.1 this] at hu
      simp at hu
    · refine ⟨⟨g, (k + 1) * 4, none⟩, by rw [if_neg hck], fun t u hu => ?_⟩
      obtain ⟨q, r, hr, rfl⟩ := split4 t
      have hq : q < l.length - (k + 1) := by
        have := (List.getElem?_eq_some_iff.1 hu).1
        rw [flat_len encE 4 encE_len, List.length_drop] at this; omega
      obtain ⟨x, hx⟩ : ∃ x, l[k + 1 + q]? = some x := ⟨_, List.getElem?_eq_getElem (by omega)⟩
      rw [flat_get encE 4 encE_len (l.drop (k + 1)) q r x hr (by rw [List.getElem?_drop]; exact hx)] at hu
      rw [Addr.add_lit, show (k + 1) * 4 + (q * 4 + r) = (k + 1 + q) * 4 + r by omega]
      exact (cellsAt w1 g2 (k + 1 + q) r x hr hx).trans hu
  obtain ⟨v2, w2, r2, e2, q2, o2⟩ := app_et e1 ty A2 (l.length - (k + 1)) (cap - (k + 1)) (l.drop (k + 1)) (by rw [List.length_drop]) hsrc (by rw [List.length_take]; omega) b2.size
  refine ⟨A2, v1, w1, v2, w2, hA2, by rw [← hW1]; exact r1, r2, ?_, b2.trans ⟨q2.os, q2.tape, q2.output, q2.size, fun i hi => q2.block i (by have := b2.size; omega) (fun e => by have := hv1 i e.symm; omega)⟩⟩
  rw [List.eraseIdx_eq_take_drop_succ]
  exact e2
end Go.Proofs.Ytjjndndhmccflaa
