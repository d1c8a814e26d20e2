/-
  The walk of the reference's Print.
-/
import Derived.Test.YtdcakmamdabiaaaDoorRrRight
import Derived.Test.YtdcakmamdabiaaaDoorRpPrint
namespace Go.Proofs.YtdcakmamdabiaaaDoor
set_option maxRecDepth 100000
open Go.RowKit
/-- The same at a step of a region that draws its order. -/
theorem step_strs {w : World} {ops : Array Oper} {o : Oper} {a : Act} {K : Act → World → Prop} {Q : Exit → Act → World → Prop} {E : Prop} (hgd : o.guard = none) (s x : Operand)
    (ho : o.op = .call { callee := .builtin .append, args := #[s, x], argTypes := #[22, 22] }) (base : Nat) (v : Value) (l : List Txt) (hs : a.eval s = v) (hown : w.ownsRow base 9 1 v l.length (strsV l))
    (ad : Addr) (m c : Nat) (news : List Txt) (hx : a.eval x = .slice (some ad) m c) (hl : news.length = m) (hnews : ∀ j u, (strsV news)[j]? = some u → w.cell? (ad.add j) = some u) (hm : 0 < m) (h9 : l.length + m ≤ 100000000) (hbase : base ≤ w.heap.size)
    (h : ∀ v' w', w'.ownsRow base 9 1 v' (l ++ news).length (strsV (l ++ news)) → w.grownBy w' v.ownBlock → K (a.put o.dst v') w') :
    if Region.wanted o (yielded ops a.tmps) = true then Oper.wp Tryd.prog o a w K Q else E := by
  obtain ⟨i0, hi, hz0, hz1, hz2⟩ := info_parts Tryd.infoT
  refine step_append_lies w hgd s x 22 ho base 9 i0 (.string { data := #[] }) 1 16 Tryd.underlying22 hi hz0 hz1 hz2 rfl (by decide) v l.length (strsV l) hs hown ad m c (strsV news) hx (by rw [strsV_length]; omega) hnews ?_ hm (by unfold maxLen; omega) (by omega) hbase _ rfl ?_
  · intro u hu
    obtain ⟨b, _, rfl⟩ := List.mem_map.1 hu
    rfl
  · intro g cap w' h1 h2 _ _
    refine h _ w' ?_ h2
    rw [List.length_append, hl, strsV_append]
    exact h1
/-- A reply in its box, and a row of texts of the call's own. -/
structure PY (W : World) (c : Int) (e : E3) (rv : Value) (v : Value) (L : List Txt) (w : World) : Prop where
  rx : RX W c e rv w
  r0 : Ready W
  row : w.ownsRow (W.heap.size + 1) 9 1 v L.length (strsV L)
/-- What the region asks of the world. -/
def PYF (W : World) (c : Int) (e : E3) (rv : Value) (v : Value) (L : List Txt) (A : Addr) (x : Txt) (w : World) : Prop :=
  w.cell? ⟨W.heap.size, 0, none⟩ = some (.int .i64 c) ∧ w.cell? ⟨W.heap.size, 1, none⟩ = some (.int .i64 e.1) ∧ w.cell? ⟨W.heap.size, 2, none⟩ = some (.int .i64 e.2.1) ∧ w.cell? ⟨W.heap.size, 3, none⟩ = some (.int .i64 e.2.2) ∧ w.cell? ⟨W.heap.size, 4, none⟩ = some rv ∧ w.cell? A = some (.string (mkS x)) ∧ Hid (PY W c e rv v L w)
section
variable {W w w' : World} {c : Int} {e : E3} {rv v : Value} {L : List Txt} {A : Addr} {x : Txt}
theorem PY.next (h : PY W c e rv v L w) (hb : Below w.heap.size w w') : PY W c e rv v L w' := ⟨h.rx.next hb, h.r0, own_below h.row hb⟩
theorem PY.drew (h : PY W c e rv v L w) : PY W c e rv v L w.drew := h.next (below_drewN (Below.refl _ _) 1)
theorem PY.full (h : PY W c e rv v L w) (hA : A.block < W.heap.size) (hx : W.cell? A = some (.string (mkS x))) : PYF W c e rv v L A x w := ⟨cellOf h.rx.box 0, cellOf h.rx.box 1, cellOf h.rx.box 2, cellOf h.rx.box 3, cellOf h.rx.box 4, (h.rx.below.cell hA).trans hx, h⟩
theorem PY.app {v' : Value} {L' : List Txt} {o : Obj} (h : PY W c e rv v L w) (hown : w'.ownsRow (W.heap.size + 1) 9 1 v' L'.length (strsV L')) (hg : (w.alloc o).grownBy w' v.ownBlock) : PY W c e rv v' L' w' := by
  have hb : Below W.heap.size W w' := (h.rx.below.alloc h.rx.below.size o).grown hg (by have := h.rx.below.size; simp; omega) (fun k hk => by have := (h.row.lt k hk).1; omega)
  have hl := ltOf h.rx.box
  refine ⟨⟨?_, hb, ready_below h.r0 hb⟩, h.r0, hown⟩
  exact (hg.block W.heap.size (by simp; omega) (fun e => by have := (h.row.lt _ e.symm).1; omega)).trans ((Below.heap_alloc w o _ (by omega)).trans h.rx.box)
theorem PY.word (h : Hid (PY W c e rv v L w)) (hA : A.block < W.heap.size) (hx : W.cell? A = some (.string (mkS x))) (hf : rpHas e = false ∨ rpIn e.1 = true ∧ rpIn e.2.1 = true ∧ rpIn e.2.2 = true) :
    Calls Tryd.prog 28 #[EV e] w fun y w' => y = .returned (.string (mkS (rpWord e))) ∧ PYF W c e rv v L A x w' := (word_x e hf w).mono fun _ _ ⟨he, hb⟩ => ⟨he, (h.out.next hb).full hA hx⟩
theorem PY.dig (h : Hid (PY W c e rv v L w)) (hA : A.block < W.heap.size) (hx : W.cell? A = some (.string (mkS x))) (hc : 0 ≤ c ∧ c ≤ 999999) :
    Calls Tryd.prog 27 #[.int .i64 c] w fun y w' => y = .returned (.string (mkS (Lib.itoa c))) ∧ PYF W c e rv v L A x w' := (digits_x c w (by omega) (by omega)).mono fun _ _ ⟨he, hb⟩ => ⟨he, (h.out.next hb).full hA hx⟩
/-- The text is appended: the region's last step. -/
theorem PY.step {ops : Array Oper} {o : Oper} {a : Act} {K : Act → World → Prop} {Q : Exit → Act → World → Prop} {E : Prop} (h : Hid (PY W c e rv v L w)) (hA : A.block < W.heap.size) (hx : W.cell? A = some (.string (mkS x))) (hL : L.length ≤ 1000) (hgd : o.guard = none) (s y : Operand) (t : Txt)
    (ho : o.op = .call { callee := .builtin .append, args := #[s, y], argTypes := #[22, 22] }) (hs : a.eval s = v) (hy : a.eval y = .slice (some ⟨w.heap.size, 0, none⟩) 1 1)
    (hk : ∀ v' w', PYF W c e rv v' (L ++ [t]) A x w' → K (a.put o.dst v') w') : if Region.wanted o (yielded ops a.tmps) = true then Oper.wp Tryd.prog o a (w.alloc (.cells #[.string (mkS t)] 9)) K Q else E := by
  refine step_strs hgd s y ho (W.heap.size + 1) v L hs (own_below h.out.row (below_box w _)) ⟨w.heap.size, 0, none⟩ 1 1 [t] hy rfl (news_one w t) (Nat.zero_lt_succ 0) (by omega) (by have := ltOf h.out.rx.box; simp; omega) ?_
  intro v1 w3 hown hg
  exact hk v1 w3 ((PY.app (L' := L ++ [t]) h.out hown hg).full hA hx)
end
theorem six {W w : World} {c : Int} {e : E3} {rv v : Value} {L : List Txt} {A : Addr} {x : Txt} (h : w.cell? ⟨W.heap.size, 0, none⟩ = some (.int .i64 c) ∧ w.cell? ⟨W.heap.size, 1, none⟩ = some (.int .i64 e.1) ∧ w.cell? ⟨W.heap.size, 2, none⟩ = some (.int .i64 e.2.1) ∧ w.cell? ⟨W.heap.size, 3, none⟩ = some (.int .i64 e.2.2) ∧ w.cell? ⟨W.heap.size, 4, none⟩ = some rv ∧ w.cell? A = some (.string (mkS x)) ∧ Hid (PY W c e rv v L w)) :
    w.cell? ⟨W.heap.size, 0, none⟩ = some (.int .i64 c) ∧ w.cell? ⟨W.heap.size, 1, none⟩ = some (.int .i64 e.1) ∧ w.cell? ⟨W.heap.size, 2, none⟩ = some (.int .i64 e.2.1) ∧ w.cell? ⟨W.heap.size, 3, none⟩ = some (.int .i64 e.2.2) ∧ w.cell? ⟨W.heap.size, 4, none⟩ = some rv ∧ w.cell? A = some (.string (mkS x)) := ⟨h.1, h.2.1, h.2.2.1, h.2.2.2.1, h.2.2.2.2.1, h.2.2.2.2.2.1⟩
theorem keepA {W w : World} {c : Int} {e : E3} {rv v : Value} {L : List Txt} {A : Addr} {x : Txt} {o : Obj} (hA : A.block < W.heap.size) (hx : W.cell? A = some (.string (mkS x))) (h : Hid (PY W c e rv v L w)) :
    (w.alloc o).cell? ⟨W.heap.size, 0, none⟩ = some (.int .i64 c) ∧ (w.alloc o).cell? ⟨W.heap.size, 1, none⟩ = some (.int .i64 e.1) ∧ (w.alloc o).cell? ⟨W.heap.size, 2, none⟩ = some (.int .i64 e.2.1) ∧ (w.alloc o).cell? ⟨W.heap.size, 3, none⟩ = some (.int .i64 e.2.2) ∧ (w.alloc o).cell? ⟨W.heap.size, 4, none⟩ = some rv ∧ (w.alloc o).cell? A = some (.string (mkS x)) := six ((h.out.next (below_box w o)).full hA hx)
theorem cat_line (c : Int) (e : E3) (s : UInt8) (t : Txt) : mkS (Lib.itoa c) ++ mkS [s] ++ mkS (rpWord e) ++ mkS t = mkS (rpHead c e s ++ t) := by
  simp only [mkS_cat, rpHead]
  simp
/-- The lines of the first k texts. -/
def rpLs (c : Int) (e : E3) (text : List Txt) (k : Nat) : List Txt := if k < text.length then (text.take k).map (rpHead c e 45 ++ ·) else rpLines ⟨c, e, text⟩
theorem ls_more {c : Int} {e : E3} {text : List Txt} {k : Nat} {t : Txt} (h : text[k]? = some t) (hk : k + 1 < text.length) : rpLs c e text (k + 1) = rpLs c e text k ++ [rpHead c e 45 ++ t] := by
  obtain ⟨h1, h2⟩ := List.getElem?_eq_some_iff.1 h
  rw [rpLs, rpLs, if_pos hk, if_pos h1, List.take_succ_eq_append_getElem h1, h2]
  simp
theorem ls_last {c : Int} {e : E3} {text : List Txt} {k : Nat} {t : Txt} (h : text[k]? = some t) (hk : k + 1 = text.length) : rpLs c e text (k + 1) = rpLs c e text k ++ [rpHead c e 32 ++ t] := by
  obtain ⟨h1, h2⟩ := List.getElem?_eq_some_iff.1 h
  rw [rpLs, rpLs, if_neg (by omega), if_pos h1]
  show (text.take (text.length - 1)).map (rpHead c e 45 ++ ·) ++ (text.drop (text.length - 1)).map (rpHead c e 32 ++ ·) = _
  rw [← hk, Nat.add_sub_cancel, List.drop_eq_getElem_cons h1, h2, List.drop_of_length_le (by omega)]
  rfl
theorem ls_len {c : Int} {e : E3} {text : List Txt} {k : Nat} (hk : k < text.length) : (rpLs c e text k).length = k := by
  rw [rpLs, if_pos hk, List.length_map, List.length_take]; omega
set_option maxHeartbeats 8000000 in
theorem rprint_x (r : Rp) (v : Value) (w : World) (hR : Ready w) (hT : TxtsAt w v r.text) (hn : r.text.length ≤ 1000000000000000) (hl : ∀ t ∈ r.text, t.length ≤ 1000000000000000) :
    Calls Tryd.prog 9 #[RV r.code r.e v] w (PrintPost r w) := by
  obtain ⟨code, e, text⟩ := r
  have hT : TxtsAt w v text := hT
  have hn : text.length ≤ 1000000000000000 := hn
  have hl : ∀ t ∈ text, t.length ≤ 1000000000000000 := hl
  show Calls Tryd.prog 9 #[RV code e v] w (PrintPost ⟨code, e, text⟩ w)
  have HRT := Lib.hid (fun (w' : World) (hb : Below w.heap.size w w') => rright_x ⟨code, e, text⟩ v w' (ready_below hR hb) (hT.below hb) hn hl)
  have HX := Lib.hid (RX.new code e v hR)
  by_cases h0 : rpRight ⟨code, e, text⟩ = 0
  · have hok : RpOk ⟨code, e, text⟩ := right_ok.1 h0
    have hokm : text.length ≤ 32 := hok.many
    have hokn : text ≠ [] := hok.ne
    have hokl : ∀ t ∈ text, (rpHead code e 32).length + t.length ≤ 510 := hok.len
    have hcc : 200 ≤ code ∧ code ≤ 599 ∧ _ := cls_code hok.cls
    have HW := Lib.hid (show rpHas e = false ∨ rpIn e.1 = true ∧ rpIn e.2.1 = true ∧ rpIn e.2.2 = true by
      cases hh : rpHas e
      · exact .inl rfl
      · obtain ⟨_, _, a, b, c⟩ := bel_parts (hok.bel hh)
        exact .inr ⟨a, b, c⟩)
    have HLN := Lib.hid hokl
    have hm := hokm
    have H0 := Lib.hid h0
    have HR := Lib.hid hR
    have hls0 := Lib.hid (show rpLs code e text 0 = [] by rw [rpLs, if_pos (List.length_pos_iff.2 hokn)]; rfl)
    have hlsn := Lib.hid (show rpLs code e text text.length = rpLines ⟨code, e, text⟩ by rw [rpLs, if_neg (by omega)])
    obtain ⟨a, cap, rfl, _, _, hc⟩ := hT
    rw [h0] at HRT
    have HS := Lib.hid hc
    have HCC := Lib.hid (show 0 ≤ code ∧ code ≤ 999999 by omega)
    have HIL := Lib.hid (show (Lib.itoa code).length ≤ 21 from itoa_len ⟨by omega, by omega⟩)
    have HWL := Lib.hid (word_len2 HW.out)
    clear hok hokm hokn hokl h0 hR hc hcc hn hl
    go_enter Tryd.func9, Tryd.ntmps9
    go_wp2_with fail
    refine (HRT.out _ HX.out.below).mono ?_
    rintro x w1 ⟨rfl, hb1⟩
    have HP1 := Lib.hid (show PY w code e (.slice a text.length cap) (.slice none 0 0) [] w1 from ⟨HX.out.next hb1, HR.out, World.ownsRow_nil _ _ _ _⟩)
    clear hb1 HX
    go_wp2_with fail
    go_loopw [5, 6] (fun v i wr => ∃ k : Nat, k ≤ text.length ∧ i = .int .i64 (k : Int) ∧ Hid (PY w code e (.slice a text.length cap) v (rpLs code e text k) wr)) (fun _ i _ => text.length - (intOf i).toNat)
    case atStart => exact ⟨0, Nat.zero_le _, rfl, Lib.hid (by rw [hls0.out]; exact HP1.out)⟩
    case round =>
      clear HP1
      obtain ⟨k, hk, rfl, HP⟩ := hrel
      have k4 := cellOf HP.out.rx.box 4
      by_cases hlt : k < text.length
      · obtain ⟨t, ht⟩ : ∃ t, text[k]? = some t := ⟨_, List.getElem?_eq_getElem hlt⟩
        obtain ⟨ad, rfl, hab, hcw⟩ := HS.out k t ht
        have htl := HLN.out t (List.mem_of_getElem? ht)
        have hab2 : (ad.add k).block < w.heap.size := by rw [add_block]; exact hab
        have hLL := ls_len (c := code) (e := e) hlt
        have HM := Lib.hid (fun h => ls_more (c := code) (e := e) ht h)
        have HLa := Lib.hid (fun h => ls_last (c := code) (e := e) ht h)
        generalize rpLs code e text k = Lk at HP hLL HM HLa
        obtain ⟨A1, cp, rfl⟩ := strs_slice HP.out.row
        have HAB := Lib.hid hab2
        have HCW := Lib.hid hcw
        have HLL := Lib.hid (show Lk.length ≤ 1000 by omega)
        have HFu := Lib.hid (fun (w' : World) (h : PY w code e (.slice (some ad) text.length cap) (.slice A1 Lk.length cp) Lk w') => h.full hab2 hcw)
        have HDi := Lib.hid (fun (w' : World) (h : Hid (PY w code e (.slice (some ad) text.length cap) (.slice A1 Lk.length cp) Lk w')) => PY.dig h hab2 hcw HCC.out)
        have HWo := Lib.hid (fun (w' : World) (h : Hid (PY w code e (.slice (some ad) text.length cap) (.slice A1 Lk.length cp) Lk w')) => PY.word h hab2 hcw HW.out)
        unfold PYF at HFu HDi HWo
        obtain ⟨ic, hic⟩ : ∃ ic, Lib.itoa code = ic := ⟨_, rfl⟩
        obtain ⟨wd, hwd⟩ : ∃ wd, rpWord e = wd := ⟨_, rfl⟩
        have HIC := Lib.hid hic
        have HWD := Lib.hid hwd
        have hil := HIL.out
        have hwl := HWL.out
        rw [hic] at hil HDi
        rw [hwd] at hwl HWo
        clear hic hwd
        have z1 := mkS_size ic
        have z2 := mkS_size wd
        have z3 := mkS_size t
        have htl2 : t.length ≤ 510 := by omega
        have s1 : ¬ 9223372036854775807 < ic.length + 1 := by omega
        have s2 : ¬ 9223372036854775807 < ic.length + 1 + wd.length := by omega
        have s3 : ¬ 9223372036854775807 < ic.length + 1 + wd.length + t.length := by omega
        have hj0 : (0 : Int) ≤ (k : Int) := by omega
        have hj1 : (k : Int) < (text.length : Int) := by omega
        have sw : IntKind.i64.wrap ((text.length : Int) - 1) = (text.length : Int) - 1 := IntWalk.i64_in _ (by omega)
        obtain ⟨c0, c1, c2, c3, c4, c5, _⟩ := HFu.out _ HP.out
        clear ht hcw hab hab2 htl hLL k4
        by_cases hlast : k + 1 = text.length
        · have d1 : ((k : Int) == (text.length : Int) - 1) = true := beq_iff_eq.2 (by omega)
          have HK2 := Lib.hid (HLa.out (by omega))
          have hct : mkS ic ++ { data := #[32] } ++ mkS wd ++ mkS t = mkS (rpHead code e 32 ++ t) := by rw [← HIC.out, ← HWD.out]; exact cat_line code e 32 t
          clear hlast
          go_wp2_with fail
          go_region_held3 (fun wr => wr.cell? ⟨w.heap.size, 0, none⟩ = some (.int .i64 code) ∧ wr.cell? ⟨w.heap.size, 1, none⟩ = some (.int .i64 e.1) ∧ wr.cell? ⟨w.heap.size, 2, none⟩ = some (.int .i64 e.2.1) ∧ wr.cell? ⟨w.heap.size, 3, none⟩ = some (.int .i64 e.2.2) ∧ wr.cell? ⟨w.heap.size, 4, none⟩ = some (.slice (some ad) text.length cap) ∧ wr.cell? (ad.add k) = some (.string (mkS t)))
            (first | (with_reducible exact ⟨by assumption, by assumption, by assumption, by assumption, by assumption, by assumption⟩) | exact keepA HAB.out HCW.out (by assumption) | exact six (HFu.out _ HP.out.drew) | exact six (HFu.out _ HP.out))
            (first
              | (go_at_call 27; (with_reducible refine (HDi.out _ ?_).mono ?_); (first | assumption | exact Lib.hid HP.out.drew | exact HP); rintro y w4 ⟨rfl, g1, g2, g3, g4, g5, g6, g7⟩)
              | (go_at_call 28; (with_reducible refine (HWo.out _ ?_).mono ?_); (first | assumption | exact Lib.hid HP.out.drew | exact HP); rintro y w5 ⟨rfl, e1, e2, e3, e4, e5, e6, e7⟩)
              | (refine PY.step (W := w) (c := code) (e := e) (rv := .slice (some ad) text.length cap) (v := .slice A1 Lk.length cp) (L := Lk) (A := ad.add k) (x := t) (by assumption) HAB.out HCW.out (by have := HLL.out; omega) rfl (.tmp 25) (.tmp 40) (rpHead code e 32 ++ t) rfl rfl rfl ?_; intro v1 w6 hF; unfold PYF at hF; obtain ⟨f1, f2, f3, f4, f5, f6, f7⟩ := hF))
          all_goals
            have HP6 := Lib.hid f7.out
            clear g1 g2 g3 g4 g5 g6 g7 e1 e2 e3 e4 e5 e6 e7 f1 f2 f3 f4 f5 f6 f7
            go_wp2_with fail
            go_roundw
            case rel => exact ⟨k + 1, by omega, by go_num, Lib.hid (by rw [HK2.out]; exact HP6.out)⟩
            case measure => simp [intOf]; omega
        · have d1 : ((k : Int) == (text.length : Int) - 1) = false := beq_eq_false_iff_ne.2 (by omega)
          have HK2 := Lib.hid (HM.out (by omega))
          have hct : mkS ic ++ { data := #[45] } ++ mkS wd ++ mkS t = mkS (rpHead code e 45 ++ t) := by rw [← HIC.out, ← HWD.out]; exact cat_line code e 45 t
          clear hlast
          go_wp2_with fail
          go_region_held3 (fun wr => wr.cell? ⟨w.heap.size, 0, none⟩ = some (.int .i64 code) ∧ wr.cell? ⟨w.heap.size, 1, none⟩ = some (.int .i64 e.1) ∧ wr.cell? ⟨w.heap.size, 2, none⟩ = some (.int .i64 e.2.1) ∧ wr.cell? ⟨w.heap.size, 3, none⟩ = some (.int .i64 e.2.2) ∧ wr.cell? ⟨w.heap.size, 4, none⟩ = some (.slice (some ad) text.length cap) ∧ wr.cell? (ad.add k) = some (.string (mkS t)))
            (first | (with_reducible exact ⟨by assumption, by assumption, by assumption, by assumption, by assumption, by assumption⟩) | exact keepA HAB.out HCW.out (by assumption) | exact six (HFu.out _ HP.out.drew) | exact six (HFu.out _ HP.out))
            (first
              | (go_at_call 27; (with_reducible refine (HDi.out _ ?_).mono ?_); (first | assumption | exact Lib.hid HP.out.drew | exact HP); rintro y w4 ⟨rfl, g1, g2, g3, g4, g5, g6, g7⟩)
              | (go_at_call 28; (with_reducible refine (HWo.out _ ?_).mono ?_); (first | assumption | exact Lib.hid HP.out.drew | exact HP); rintro y w5 ⟨rfl, e1, e2, e3, e4, e5, e6, e7⟩)
              | (refine PY.step (W := w) (c := code) (e := e) (rv := .slice (some ad) text.length cap) (v := .slice A1 Lk.length cp) (L := Lk) (A := ad.add k) (x := t) (by assumption) HAB.out HCW.out (by have := HLL.out; omega) rfl (.tmp 42) (.tmp 57) (rpHead code e 45 ++ t) rfl rfl rfl ?_; intro v1 w6 hF; unfold PYF at hF; obtain ⟨f1, f2, f3, f4, f5, f6, f7⟩ := hF))
          all_goals
            have HP6 := Lib.hid f7.out
            clear g1 g2 g3 g4 g5 g6 g7 e1 e2 e3 e4 e5 e6 e7 f1 f2 f3 f4 f5 f6 f7
            go_wp2_with fail
            go_roundw
            case rel => exact ⟨k + 1, by omega, by go_num, Lib.hid (by rw [HK2.out]; exact HP6.out)⟩
            case measure => simp [intOf]; omega
      · have hke : k = text.length := by omega
        subst hke
        have HF := Lib.hid (show TxtsAt wr _ (rpLines ⟨code, e, text⟩) ∧ Below w.heap.size w wr from ⟨by rw [← hlsn.out]; exact own_txts HP.out.row, HP.out.rx.below⟩)
        go_wp2_with fail
        go_ret2
        exact print_yes H0.out HF.out.1 HF.out.2
  · obtain ⟨a, cap, rfl, -⟩ := id hT
    have d1 : (rpRight ⟨code, e, text⟩ != 0) = true := bne_iff_ne.2 h0
    have H0 := Lib.hid h0
    generalize hq : rpRight ⟨code, e, text⟩ = q at HRT d1 H0
    have HQ := Lib.hid hq
    clear h0 hq hT hR hn hl
    go_enter Tryd.func9, Tryd.ntmps9
    go_wp2_with fail
    refine (HRT.out _ HX.out.below).mono ?_
    rintro x w1 ⟨rfl, hb1⟩
    have HB := Lib.hid (HX.out.next hb1).below
    clear hb1
    go_wp2_with fail
    go_ret2
    exact print_no HQ.out H0.out HB.out
end Go.Proofs.YtdcakmamdabiaaaDoor
