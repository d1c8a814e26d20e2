/-
  Rows of texts of the call's own, and strings.Join walked.
-/
import Derived.Test.YtbecdncnidcmdaaGreatDoorMaBuild
import Derived.Test.YtbecdncnidcmdaaGreatDoorMaPure
import Derived.Maps.AppendAt
import Derived.Deep.AppendLies
import Derived.Lib.Join
import Derived.IntWalk
import Derived.Lib.SmallJoins
namespace Go.Proofs.YtbecdncnidcmdaaGreatDoor
set_option maxRecDepth 100000
open Go.RowKit Go.Shelf
set_option maxHeartbeats 4000000 in
theorem join_many (bk o cp : Nat) (xs : List Txt) (sp : Txt) (w : World)
    (hcells : ∀ (j : Nat) x, xs[j]? = some x → w.cell? ⟨bk, o + j, none⟩ = some (.string (mkS x)))
    (hbk : bk < w.heap.size) (h2 : 2 ≤ xs.length) (hN : xs.length ≤ 1000000) (hcap : xs.length ≤ cp) (hlen : (Lib.join xs sp).length ≤ 10000000000) :
    Calls Tryz.prog 94 #[.slice (some ⟨bk, o, none⟩) xs.length cp, .string (mkS sp)] w fun e w' => e = .returned (.string (mkS (Lib.join xs sp))) ∧ Below w.heap.size w w' := by
  have HC := Lib.hid hcells
  clear hcells
  obtain ⟨x0, r, hxs⟩ : ∃ x0 r, xs = x0 :: r := by
    cases xs with
    | nil => simp at h2
    | cons a t => exact ⟨a, t, rfl⟩
  have hsz := mkS_size sp
  have hjl : sp.length * (xs.length - 1) + Lib.lens xs ≤ 10000000000 := by
    have := Lib.join_length x0 r sp
    rw [hxs] at hlen ⊢
    rw [this] at hlen
    rw [List.length_cons, Nat.add_sub_cancel]
    exact hlen
  have hmul : sp.length * (xs.length - 1) ≤ 10000000000 := by omega
  generalize hM : sp.length * (xs.length - 1) = M at hjl hmul
  have hcast : ((xs.length : Int) - 1) = ((xs.length - 1 : Nat) : Int) := by omega
  have hlt : sp.length < 9223372036854775807 / (xs.length - 1) := by
    have : sp.length + 1 ≤ 9223372036854775807 / (xs.length - 1) := by
      rw [Nat.le_div_iff_mul_le (by omega), Nat.add_mul, hM]
      omega
    omega
  have hdv : ¬ (9223372036854775807 / ((xs.length : Int) - 1) ≤ (sp.length : Int)) := by
    have e : (9223372036854775807 : Int) / ((xs.length - 1 : Nat) : Int) = ((9223372036854775807 / (xs.length - 1) : Nat) : Int) := IntWalk.up_div (x := 9223372036854775807) rfl rfl
    rw [hcast, e]
    generalize 9223372036854775807 / (xs.length - 1) = q at hlt
    omega
  have hprod : wrap64 ((sp.length : Int) * ((xs.length : Int) - 1)) = (M : Int) := by
    have e : (sp.length : Int) * ((xs.length - 1 : Nat) : Int) = ((sp.length * (xs.length - 1) : Nat) : Int) := IntWalk.up_mul rfl rfl
    rw [hcast, e, hM]
    exact IntWalk.wrap64_in _ ⟨by omega, by omega⟩
  have hM0 : sp.length = 0 → M = 0 := fun h => by rw [← hM, h, Nat.zero_mul]
  clear hlt hcast
  have hne0 : ((xs.length : Int) == 0) = false := beq_eq_false_iff_ne.2 (by omega)
  have hne1 : ((xs.length : Int) == 1) = false := beq_eq_false_iff_ne.2 (by omega)
  have Hxs := Lib.hid hxs
  have Hlen := Lib.hid hlen
  clear hxs hlen
  go_enter Tryz.func94, Tryz.ntmps94
  go_wp2_with fail
  all_goals (
    go_loop [5, 41] (fun n i => ∃ k : Nat, k ≤ xs.length ∧ i = .int .i64 k ∧ n = .int .i64 ((M + Lib.lens (xs.take k) : Nat) : Int)) (fun _ i => xs.length - (intOf i).toNat)
    case atStart => exact ⟨0, Nat.zero_le _, rfl, by first | (simp [Lib.lens]; done) | (have := hM0 (by omega); simp [Lib.lens, this])⟩
    case round =>
      obtain ⟨k, hk, rfl, rfl⟩ := hrel
      by_cases hkn : k < xs.length
      · obtain ⟨x, hx⟩ : ∃ x, xs[k]? = some x := ⟨xs[k], List.getElem?_eq_getElem hkn⟩
        have hc := HC.out k x hx
        have hxz := mkS_size x
        have hstep := Lib.lens_take_succ xs k x hx
        have hbound : Lib.lens (xs.take (k + 1)) ≤ Lib.lens xs := Lib.lens_take_le _ _
        generalize hA1 : Lib.lens (xs.take (k + 1)) = A1 at hstep hbound
        generalize Lib.lens (xs.take k) = A0 at hstep
        have HA1 := Lib.hid hA1
        clear hA1
        go_wp2
        exact ⟨⟨k + 1, by omega, by go_num, by rw [HA1.out]; refine congrArg _ ?_; omega⟩, by simp [intOf]; omega⟩
      · have hke : k = xs.length := by omega
        subst hke
        have hall : xs.take xs.length = xs := List.take_of_length_le (by simp)
        rw [hall]
        generalize hT : Lib.lens xs = T at hjl
        have HT := Lib.hid hT
        clear hT hall
        go_wp2_with fail
        have hMT : ((M : Int) + (T : Int)) = ((M + T : Nat) : Int) := by omega
        rw [hMT]
        refine (bld_grow w (M + T) (by omega)).mono ?_
        rintro e w1 ⟨rfl, h1, hb1⟩
        have hx0 : xs[0]? = some x0 := by rw [Hxs.out]; rfl
        have hc0 : w1.cell? ⟨bk, o, none⟩ = some (.string (mkS x0)) := by
          rw [hb1.cell (p := ⟨bk, o, none⟩) hbk]
          exact HC.out 0 x0 hx0
        have H1 := Lib.hid h1
        have Hb1 := Lib.hid hb1
        clear h1 hb1 hMT
        have hwhole : Lib.join xs sp = x0 ++ Lib.joinTail sp r := by
          rw [Hxs.out, Lib.join_cons]
        have hCle : ∀ k, (x0 ++ Lib.joinTail sp (r.take k)).length ≤ 10000000000 := fun k => by
          have h1 := Hlen.out
          rw [hwhole, List.length_append] at h1
          have h2 := Lib.joinTail_take_le sp r k
          rw [List.length_append]
          omega
        have HCle := Lib.hid hCle
        have Hwhole := Lib.hid hwhole
        clear hCle hwhole
        go_wp2_with fail
        refine (bld_str H1.out x0 (by have := HCle.out 0; simp [Lib.joinTail] at this ⊢; omega)).mono ?_
        rintro e w2 ⟨rfl, h2', hb2⟩
        have hstart : [] ++ x0 = x0 ++ Lib.joinTail sp (r.take 0) := by simp [Lib.joinTail]
        rw [hstart] at h2'
        have H2 := Lib.hid h2'
        have Hb2 := Lib.hid (Hb1.out.trans hb2)
        clear h2' hb2 hstart
        have hrl : r.length = xs.length - 1 := by rw [Hxs.out]; simp
        go_wp2_with fail
        go_loopw [65] (fun i wr => ∃ k : Nat, k ≤ r.length ∧ i = .int .i64 k ∧ Hid (Bld w.heap.size (x0 ++ Lib.joinTail sp (r.take k)) wr) ∧ Hid (Below w.heap.size w wr)) (fun i _ => r.length - (intOf i).toNat)
        case atStart => exact ⟨0, Nat.zero_le _, rfl, H2, Hb2⟩
        case round =>
          obtain ⟨k, hk', rfl, HB, HW⟩ := hrel
          by_cases hkr : k < r.length
          · obtain ⟨y, hy⟩ : ∃ y, r[k]? = some y := ⟨r[k], List.getElem?_eq_getElem hkr⟩
            have hxy : xs[k + 1]? = some y := by rw [Hxs.out]; simpa using hy
            have hcy : wr.cell? ⟨bk, o + 1 + k, none⟩ = some (.string (mkS y)) := by
              rw [HW.out.cell (p := ⟨bk, o + 1 + k, none⟩) hbk, show o + 1 + k = o + (k + 1) by omega]
              exact HC.out (k + 1) y hxy
            have hnext : x0 ++ Lib.joinTail sp (r.take k) ++ sp ++ y = x0 ++ Lib.joinTail sp (r.take (k + 1)) := by
              rw [Lib.joinTail_take_succ sp r k y hy]; simp
            have hl1 := HCle.out (k + 1)
            rw [← hnext, List.length_append, List.length_append] at hl1
            have Hn := Lib.hid hnext
            have Hl := Lib.hid hl1
            clear hnext hy hxy hl1
            go_wp2_with fail
            refine (bld_str HB.out sp (by have := Hl.out; omega)).mono ?_
            rintro e w3 ⟨rfl, h3, hb3⟩
            have H3 := Lib.hid h3
            have Hb3 := Lib.hid hb3
            clear h3 hb3
            go_wp2_with fail
            refine (bld_str H3.out y (by have := Hl.out; rw [List.length_append]; omega)).mono ?_
            rintro e w4 ⟨rfl, h4, hb4⟩
            rw [Hn.out] at h4
            have H4 := Lib.hid h4
            have Hb4 := Lib.hid ((HW.out.trans Hb3.out).trans hb4)
            clear h4 hb4
            go_wp2
            exact ⟨⟨k + 1, by omega, by go_num, H4, Hb4⟩, by simp [intOf]; omega⟩
          · have hke : k = r.length := by omega
            subst hke
            have hfull : r.take r.length = r := List.take_of_length_le (by simp)
            have hB' := HB.out
            rw [hfull, ← Hwhole.out] at hB'
            have HB2 := Lib.hid hB'
            clear hB' hfull
            go_wp2_with fail
            refine (bld_string HB2.out).mono ?_
            rintro e w5 ⟨rfl, _, hb5⟩
            have Hb5 := Lib.hid (HW.out.trans hb5)
            clear hb5
            go_wp2
            go_ret
            exact ⟨rfl, Hb5.out⟩)
theorem join_none (a : Option Addr) (c : Nat) (sp : Txt) (w : World) : Calls Tryz.prog 94 #[.slice a 0 c, .string (mkS sp)] w fun e w' => e = .returned (.string { data := #[] }) ∧ w = w' := by
  go_enter Tryz.func94, Tryz.ntmps94
  go_wp2
  go_ret
  exact ⟨rfl, rfl⟩
theorem join_one (bk o c : Nat) (x sp : Txt) (w : World) (hc : w.cell? ⟨bk, o, none⟩ = some (.string (mkS x))) : Calls Tryz.prog 94 #[.slice (some ⟨bk, o, none⟩) 1 c, .string (mkS sp)] w fun e w' => e = .returned (.string (mkS x)) ∧ w = w' := by
  go_enter Tryz.func94, Tryz.ntmps94
  go_wp2
  go_ret
  exact ⟨rfl, rfl⟩
/-- Texts as the model's cells. -/
def strsV (l : List Txt) : List Value := l.map fun s => .string (mkS s)
theorem strsV_length (l : List Txt) : (strsV l).length = l.length := by simp [strsV]
theorem strsV_append (l m : List Txt) : strsV (l ++ m) = strsV l ++ strsV m := by simp [strsV]
theorem Tryz.infoT : (Tryz.prog.info? 9).map (fun i => (i.zero, i.size, i.bytes)) = some (some (.string { data := #[] }), 1, 16) := by kernel_rfl
theorem join_x (c : UInt8) (B : Nat) (v : Value) (l : List Txt) (w : World) (h : w.ownsRow B 9 1 v l.length (strsV l)) (hN : l.length ≤ 1000) (hs : Lib.lens l ≤ 1000000000) :
    Calls Tryz.prog 94 #[v, .string { data := #[c] }] w fun e w' => e = .returned (.string (mkS (joinC c l))) ∧ Below w.heap.size w w' := by
  rw [← joinC_intercalate]
  show Calls Tryz.prog 94 #[v, .string (mkS [c])] w _
  rcases Joins.ownsRow_forms h with ⟨rfl, h0⟩ | ⟨g, cap, rfl⟩
  · have e : l = [] := List.eq_nil_of_length_eq_zero h0
    subst e
    exact (join_none none 0 [c] w).mono fun _ _ ⟨he, hw⟩ => ⟨he, hw ▸ Below.refl _ _⟩
  · have hc : ∀ (j : Nat) x, l[j]? = some x → w.cell? ⟨g, 0 + j, none⟩ = some (.string (mkS x)) := fun j x hj => by
      have := h.cells rfl j (.string (mkS x)) (by simp [strsV, hj])
      rwa [show (⟨g, 0, none⟩ : Addr).add j = ⟨g, 0 + j, none⟩ by unfold Addr.add; split <;> simp_all] at this
    obtain ⟨hg, hcap⟩ : g < w.heap.size ∧ l.length ≤ cap := by
      rcases h.2 with ⟨hv, _⟩ | ⟨g', cap', cur, hv, _, hg, hcap, _⟩
      · cases hv
      · cases hv
        exact ⟨ltOf hg, hcap⟩
    match l, hN, hs, hc, hcap with
    | [], _, _, _, _ => exact (join_none (some ⟨g, 0, none⟩) cap [c] w).mono fun _ _ ⟨he, hw⟩ => ⟨he, hw ▸ Below.refl _ _⟩
    | [x], _, _, hc, _ => exact (join_one g 0 cap x [c] w (hc 0 x rfl)).mono fun _ _ ⟨he, hw⟩ => ⟨by rw [he, Lib.join_one], hw ▸ Below.refl _ _⟩
    | x :: y :: r, hN, hs, hc, hcap =>
      exact join_many g 0 cap (x :: y :: r) [c] w hc hg (by simp) (by omega) hcap (by
        have := Lib.join_length x (y :: r) [c]
        rw [this]
        simp only [List.length_cons, List.length_nil] at *
        omega)
theorem news_one (w : World) (x : Txt) : ∀ j u, (strsV [x])[j]? = some u → (w.alloc (.cells #[.string (mkS x)] 9)).cell? ((⟨w.heap.size, 0, none⟩ : Addr).add j) = some u := by
  intro j u hj
  match j with
  | 0 => simp [strsV] at hj; subst hj; exact World.cell?_alloc_at _ _ _ _ rfl
  | j + 1 => simp [strsV] at hj
/-- append of one text of a new block onto a row of texts of the call's own. -/
theorem app_strs {w : World} {ops : Array Oper} {rest : List Oper} {o : Oper} {a : Act} {Q : Exit → Act → World → Prop} (hgd : o.guard = none) (s x : Operand)
    (ho : o.op = .call { callee := .builtin .append, args := #[s, x], argTypes := #[51, 51] }) (base : Nat) (v : Value) (l : List Txt) (hs : a.eval s = v) (hown : w.ownsRow base 9 1 v l.length (strsV l))
    (ad : Addr) (m c : Nat) (news : List Txt) (hx : a.eval x = .slice (some ad) m c) (hl : news.length = m) (hnews : ∀ j u, (strsV news)[j]? = some u → w.cell? (ad.add j) = some u) (h9 : l.length + m ≤ 100000000) (hbase : base ≤ w.heap.size)
    (h : ∀ v' w', w'.ownsRow base 9 1 v' (l ++ news).length (strsV (l ++ news)) → w.grownBy w' v.ownBlock → wpList Tryz.prog ops Q rest (a.put o.dst v') w') :
    wpList Tryz.prog ops Q (o :: rest) a w := by
  obtain ⟨i0, hi, hz0, hz1, hz2⟩ := info_parts Tryz.infoT
  refine wpList_append_own_at (w := w) hgd s x 51 ho base 9 i0 (.string { data := #[] }) 1 16 Tryz.underlying51 hi hz0 hz1 hz2 rfl (by decide) v l.length (strsV l) hs hown ad m c (strsV news) hx (by rw [strsV_length]; omega) hnews ?_ (by unfold maxLen; omega) (by omega) hbase ?_
  · intro u hu
    obtain ⟨b, _, rfl⟩ := List.mem_map.1 hu
    rfl
  · intro v' w' h1 h2 _ _
    refine h v' w' ?_ h2
    rw [List.length_append, hl, strsV_append]
    exact h1
/-- The same at a step of a region that draws its order. -/
theorem step_strs {w : World} {ops : Array Oper} {o : Oper} {a : Act} {K : Act → World → Prop} {Q : Exit → Act → World → Prop} {E : Prop} (hgd : o.guard = none) (s x : Operand)
    (ho : o.op = .call { callee := .builtin .append, args := #[s, x], argTypes := #[51, 51] }) (base : Nat) (v : Value) (l : List Txt) (hs : a.eval s = v) (hown : w.ownsRow base 9 1 v l.length (strsV l))
    (ad : Addr) (m c : Nat) (news : List Txt) (hx : a.eval x = .slice (some ad) m c) (hl : news.length = m) (hnews : ∀ j u, (strsV news)[j]? = some u → w.cell? (ad.add j) = some u) (hm : 0 < m) (h9 : l.length + m ≤ 100000000) (hbase : base ≤ w.heap.size)
    (h : ∀ v' w', w'.ownsRow base 9 1 v' (l ++ news).length (strsV (l ++ news)) → w.grownBy w' v.ownBlock → K (a.put o.dst v') w') :
    if Region.wanted o (yielded ops a.tmps) = true then Oper.wp Tryz.prog o a w K Q else E := by
  obtain ⟨i0, hi, hz0, hz1, hz2⟩ := info_parts Tryz.infoT
  refine step_append_lies w hgd s x 51 ho base 9 i0 (.string { data := #[] }) 1 16 Tryz.underlying51 hi hz0 hz1 hz2 rfl (by decide) v l.length (strsV l) hs hown ad m c (strsV news) hx (by rw [strsV_length]; omega) hnews ?_ hm (by unfold maxLen; omega) (by omega) hbase _ rfl ?_
  · intro u hu
    obtain ⟨b, _, rfl⟩ := List.mem_map.1 hu
    rfl
  · intro g cap w' h1 h2 _ _
    refine h _ w' ?_ h2
    rw [List.length_append, hl, strsV_append]
    exact h1
theorem strs_grown {B : Nat} {w0 w w' : World} {v : Value} {l : List Txt} (hB : B ≤ w.heap.size) (hb : Below B w0 w) (hown : w.ownsRow B 9 1 v l.length (strsV l)) {o : Obj} (hg : (w.alloc o).grownBy w' v.ownBlock) : Below B w0 w' :=
  (hb.alloc hB o).grown hg (by simp; omega) (fun k hk => (hown.lt k hk).1)
theorem strs_nil (w : World) (B : Nat) : w.ownsRow B 9 1 (.slice none 0 0) ([] : List Txt).length (strsV []) := ⟨rfl, .inl ⟨rfl, rfl⟩⟩
end Go.Proofs.YtbecdncnidcmdaaGreatDoor
