/-
  The walk of the law ReplyTells.
-/
import Derived.Test.YtdcakmamdabiaaaDoorRpApp
import Derived.Test.YtdcakmamdabiaaaDoorRrParse
import Derived.Test.YtdcakmamdabiaaaDoorRrPrint
import Derived.Test.YtdcakmamdabiaaaDoorRrRight
namespace Go.Proofs.YtdcakmamdabiaaaDoor
set_option maxRecDepth 100000
open Go.RowKit
theorem region_rt {P : Program} {id : Nat} {Q : Exit → Act → World → Prop} {a : Act} {w : World} {l : List Oper} (hm : P.follows .mixedOrders = true) (hB : Region.lexB .any l.toArray = true) {Y : Type} (F : Y → World) (y0 : Y) (hy : F y0 = w.drew)
    (h : wpQuiet P l.toArray (fun w' => ∃ y, w' = F y) (fun a' => ∀ w', (∃ y, w' = F y) → Q .normal a' w') l a) : (Code.region id l.toArray true).wp P Q a w :=
  wp_region_quiet (C := fun w' => ∃ y, w' = F y) hm hB ⟨y0, hy.symm⟩ (by simpa using h)
/-- The law's three replies in their boxes, and the two rows of lines. -/
structure RT (W : World) (bx by_ br : Nat) (X r : Rp) (xv yv rv av bv : Value) (L : List Txt) (w : World) : Prop where
  below : Below W.heap.size W w
  ready : Ready w
  x : RBx bx X.code X.e xv X.text w
  y : RBx by_ X.code X.e yv X.text w
  r : RBx br r.code r.e rv r.text w
  a : TxtsAt w av L
  b : TxtsAt w bv L
section
variable {W w w' : World} {bx by_ br : Nat} {X r : Rp} {xv yv rv av bv : Value} {L : List Txt}
theorem RT.next (h : RT W bx by_ br X r xv yv rv av bv L w) (hb : Below w.heap.size w w') : RT W bx by_ br X r xv yv rv av bv L w' :=
  ⟨below_next h.below hb, ready_below h.ready hb, h.x.next hb, h.y.next hb, h.r.next hb, h.a.below hb, h.b.below hb⟩
theorem RT.quiet {Y : Type} {F : Y → World} {y : Y} (h : (∀ y, RT W bx by_ br X r xv yv rv av bv L (F y)) ∧ (∀ w', RT W bx by_ br X r xv yv rv av bv L w' → ∃ y, w' = F y)) {f : FuncId} {args : Array Value} {v : Value} (H : Calls Tryd.prog f args (F y) fun e w' => e = .returned v ∧ Below (F y).heap.size (F y) w') :
    Calls Tryd.prog f args (F y) fun e w' => e = .returned v ∧ ∃ y, w' = F y := H.mono fun _ _ ⟨he, hb⟩ => ⟨he, h.2 _ ((h.1 y).next hb)⟩
theorem RT.still {Y : Type} {F : Y → World} {y : Y} {f : FuncId} {args : Array Value} {v : Value} (H : Calls Tryd.prog f args (F y) fun e w' => e = .returned v ∧ F y = w') :
    Calls Tryd.prog f args (F y) fun e w' => e = .returned v ∧ ∃ y, w' = F y := H.mono fun _ _ ⟨he, hw⟩ => ⟨he, y, hw.symm⟩
theorem RT.drawn {Y : Type} {F : Y → World} {y : Y} (h : (∀ y, RT W bx by_ br X r xv yv rv av bv L (F y)) ∧ (∀ w', RT W bx by_ br X r xv yv rv av bv L w' → ∃ y, w' = F y)) {f : FuncId} {args : Array Value} {v : Value} (H : Calls Tryd.prog f args (F y) fun e w' => e = .returned v ∧ ∃ m, w' = (F y).drewN m) :
    Calls Tryd.prog f args (F y) fun e w' => e = .returned v ∧ ∃ y, w' = F y := H.mono fun _ _ ⟨he, m, hw⟩ => ⟨he, h.2 _ (hw ▸ (h.1 y).next (below_drewN (Below.refl _ _) m))⟩
end
theorem sameR_self (X : Rp) : sameR X X = true := by rw [sameR]; simp
theorem parse_few (l : List Txt) : (rpParse l).r.text.length ≤ l.length := by
  rcases parse_got l with ⟨_, h, _⟩ | ⟨_, _, _, h⟩
  · rw [h]; exact Nat.zero_le _
  · exact h
set_option maxHeartbeats 8000000 in
theorem replyTells_x (l : List Txt) (r : Rp) (lv rv : Value) (w : World) (hR : Ready w) (hT : TxtsAt w lv l) (hRI : RI r.code r.e) (hS : TxtsAt w rv r.text) :
    Calls Tryd.prog 3 #[lv, RV r.code r.e rv] w fun x w' => x = .returned (.bool true) ∧ Below w.heap.size w w' := by
  have HAw := Lib.hid (fun w hR => awake_x w hR)
  have HRd := Lib.hid (fun (w' : World) (hb : Below w.heap.size w w') => ready_below hR hb)
  have HT := Lib.hid (fun (w' : World) (hb : Below w.heap.size w w') => hT.below hb)
  have HRI := Lib.hid hRI
  obtain ⟨a, cap, rfl, -⟩ := id hT
  obtain ⟨ra, rcap, hrv, -⟩ := id hS
  have HK0 := Lib.hid (RBx.new (c := r.code) (e := r.e) hS)
  have HB0 := Lib.hid (below_box w (.cells #[.int .i64 r.code, .int .i64 r.e.1, .int .i64 r.e.2.1, .int .i64 r.e.2.2, rv] 25))
  subst hrv
  clear hR hT hRI hS
  go_enter Tryd.func3, Tryd.ntmps3
  go_wp2_with fail
  generalize w.alloc (.cells #[.int .i64 r.code, .int .i64 r.e.1, .int .i64 r.e.2.1, .int .i64 r.e.2.2, .slice ra r.text.length rcap] 25) = w0 at HK0 HB0 ⊢
  refine (HAw.out _ (HRd.out _ HB0.out)).mono ?_
  rintro x w1 ⟨rfl, hb1⟩
  have HB1 := Lib.hid (below_next HB0.out hb1)
  have HK1 := Lib.hid (HK0.out.next hb1)
  clear hb1 HB0 HK0
  have k4 := cellOf HK1.out.box 4
  go_wp2_with fail
  refine (few_x _ l _ (HT.out _ HB1.out)).mono ?_
  rintro x w2 ⟨rfl, rfl⟩
  cases hf : fewL l
  · clear hf
    go_wp2_with fail
    go_ret
    exact ⟨rfl, HB1.out⟩
  have HF := Lib.hid (few_yes hf)
  clear hf
  go_wp2_with fail
  refine (few_x _ r.text _ HK1.out.txts).mono ?_
  rintro x w2 ⟨rfl, rfl⟩
  cases hg : fewL r.text
  · clear hg
    go_wp2_with fail
    go_ret
    exact ⟨rfl, HB1.out⟩
  have HG := Lib.hid (few_yes hg)
  clear hg k4
  obtain ⟨X, n, err, hpa⟩ : ∃ X n err, rpParse l = ⟨X, n, err⟩ := ⟨_, _, _, rfl⟩
  have hXl := parse_few l
  rw [hpa] at hXl
  have HXl := Lib.hid (show X.text.length ≤ 1000 by have := HF.out.1; exact Nat.le_trans hXl (by omega))
  have HP1 := Lib.hid (show ∀ (v : Value) (w : World), TxtsAt w v l → Calls Tryd.prog 6 #[v] w fun e w' => ∃ v', e = .returned (.tuple #[RV X.code X.e v', .int .i64 n, .int .i64 err]) ∧ TxtsAt w' v' X.text ∧ Below w.heap.size w w' from fun v w h => (parse_x l v w h (by have := HF.out.1; omega) (fun t ht => HF.out.2 t ht)).mono fun e w' ⟨v', he, ht, hb⟩ => ⟨v', by rw [he, hpa], by rw [hpa] at ht; exact ht, hb⟩)
  have HP2 := Lib.hid (show ∀ (v : Value) (w : World), TxtsAt w v l → Calls Tryd.prog 7 #[v] w fun e w' => ∃ v', e = .returned (.tuple #[RV X.code X.e v', .int .i64 n, .int .i64 err]) ∧ TxtsAt w' v' X.text ∧ Below w.heap.size w w' from fun v w h => (rparse_x l v w h (by have := HF.out.1; omega) (fun t ht => HF.out.2 t ht)).mono fun e w' ⟨v', he, ht, hb⟩ => ⟨v', by rw [he, hpa], by rw [hpa] at ht; exact ht, hb⟩)
  clear hpa hXl
  go_wp2_with (at_builtin; refine app_new rfl (.tmp 27) (.tmp 28) rfl _ rfl rfl _ l rfl (HT.out _ HB1.out) (by have := HF.out.1; omega) ?_; intro v3 w3 hown3 hb3)
  have HB3 := Lib.hid (below_next HB1.out hb3)
  have HK3 := Lib.hid (HK1.out.next hb3)
  refine (HP1.out _ _ (own_txts hown3)).mono ?_
  rintro x w4 ⟨v4, rfl, hT4, hb4⟩
  obtain ⟨A4, c4, rfl, -⟩ := id hT4
  have HX4 := Lib.hid (RBx.new (c := X.code) (e := X.e) hT4)
  have hq4 := below_next hb4 (below_box w4 (.cells #[.int .i64 X.code, .int .i64 X.e.1, .int .i64 X.e.2.1, .int .i64 X.e.2.2, .slice A4 X.text.length c4] 25))
  have HB4 := Lib.hid (below_next HB3.out hq4)
  have HK4 := Lib.hid (HK3.out.next hq4)
  clear hown3 hb3 hT4 hb4 hq4 HB3 HK3 HB1 HK1
  go_wp2_with fail
  generalize w4.alloc (.cells #[.int .i64 X.code, .int .i64 X.e.1, .int .i64 X.e.2.1, .int .i64 X.e.2.2, .slice A4 X.text.length c4] 25) = wx at HX4 HB4 HK4 ⊢
  generalize w4.heap.size = bx at HX4 ⊢
  refine (HP2.out _ _ (HT.out _ HB4.out)).mono ?_
  rintro x w5 ⟨v5, rfl, hT5, hb5⟩
  obtain ⟨A5, c5, rfl, -⟩ := id hT5
  have HY5 := Lib.hid (RBx.new (c := X.code) (e := X.e) hT5)
  have hq5 := below_next hb5 (below_box w5 (.cells #[.int .i64 X.code, .int .i64 X.e.1, .int .i64 X.e.2.1, .int .i64 X.e.2.2, .slice A5 X.text.length c5] 25))
  have HB5 := Lib.hid (below_next HB4.out hq5)
  have HK5 := Lib.hid (HK4.out.next hq5)
  have HX5 := Lib.hid (HX4.out.next hq5)
  clear hT5 hb5 hq5 HB4 HK4 HX4
  have k0 := cellOf HK5.out.box 0
  have k1 := cellOf HK5.out.box 1
  have k2 := cellOf HK5.out.box 2
  have k3 := cellOf HK5.out.box 3
  have k4 := cellOf HK5.out.box 4
  go_wp2_with fail
  generalize w5.alloc (.cells #[.int .i64 X.code, .int .i64 X.e.1, .int .i64 X.e.2.1, .int .i64 X.e.2.2, .slice A5 X.text.length c5] 25) = wy at HX5 HY5 HB5 HK5 ⊢
  generalize w5.heap.size = by_ at HY5 ⊢
  clear k0 k1 k2 k3 k4
  refine (print_x r _ HRI.out _ (HRd.out _ HB5.out) HK5.out.txts (Nat.le_trans HG.out.1 (by decide)) (fun t ht => Nat.le_trans (HG.out.2 t ht) (by decide))).mono ?_
  unfold PrintPost
  rintro x w6 ⟨av, rfl, hA6, hb6⟩
  have HA6 := Lib.hid hA6
  obtain ⟨A6, c6, rfl, -⟩ := id hA6
  have HB6 := Lib.hid (below_next HB5.out hb6)
  have HK6 := Lib.hid (HK5.out.next hb6)
  have HX6 := Lib.hid (HX5.out.next hb6)
  have HY6 := Lib.hid (HY5.out.next hb6)
  clear hA6 hb6 HB5 HK5 HX5 HY5
  have k0 := cellOf HK6.out.box 0
  have k1 := cellOf HK6.out.box 1
  have k2 := cellOf HK6.out.box 2
  have k3 := cellOf HK6.out.box 3
  have k4 := cellOf HK6.out.box 4
  go_wp2_with fail
  clear k0 k1 k2 k3 k4
  refine (rprint_x r _ _ (HRd.out _ HB6.out) HK6.out.txts (Nat.le_trans HG.out.1 (by decide)) (fun t ht => Nat.le_trans (HG.out.2 t ht) (by decide))).mono ?_
  unfold PrintPost
  rintro x w7 ⟨bv, rfl, hA7, hb7⟩
  obtain ⟨A7, c7, rfl, -⟩ := id hA7
  have T7 := Lib.hid (RT.mk (below_next HB6.out hb7) (HRd.out _ (below_next HB6.out hb7)) (HX6.out.next hb7) (HY6.out.next hb7) (HK6.out.next hb7) (HA6.out.below hb7) hA7)
  have HPL := Lib.hid (show (rpPrintL r).length ≤ 1000000000 by
    rw [rpPrintL]
    split
    · rename_i h0
      have hok := right_ok.1 h0
      rw [lines_len r hok.ne]
      exact Nat.le_trans HG.out.1 (by decide)
    · exact Nat.zero_le _)
  clear hA7 hb7 HB6 HK6 HX6 HY6 HA6
  generalize rpPrintL r = PL at T7 HPL ⊢
  obtain ⟨Y, F, y0, hy0, hF, hS⟩ : ∃ (Y : Type) (F : Y → World) (y0 : Y), F y0 = w7.drew ∧ (∀ y, RT w bx by_ w.heap.size X r (.slice A4 X.text.length c4) (.slice A5 X.text.length c5) (.slice ra r.text.length rcap) (.slice A6 PL.length c6) (.slice A7 PL.length c7) PL (F y)) ∧ (∀ w', RT w bx by_ w.heap.size X r (.slice A4 X.text.length c4) (.slice A5 X.text.length c5) (.slice ra r.text.length rcap) (.slice A6 PL.length c6) (.slice A7 PL.length c7) PL w' → ∃ y, w' = F y) :=
    ⟨{ w' // RT w bx by_ w.heap.size X r (.slice A4 X.text.length c4) (.slice A5 X.text.length c5) (.slice ra r.text.length rcap) (.slice A6 PL.length c6) (.slice A7 PL.length c7) PL w' }, Subtype.val, ⟨_, T7.out.next (below_drewN (Below.refl _ _) 1)⟩, rfl, fun y => y.2, fun w' h => ⟨⟨w', h⟩, rfl⟩⟩
  have hne : Nonempty Y := ⟨y0⟩
  have HFS := Lib.hid (And.intro hF hS)
  have HC1 := Lib.hid (show ∀ y, Calls Tryd.prog 10 #[RV X.code X.e (.slice A4 X.text.length c4), RV X.code X.e (.slice A5 X.text.length c5)] (F y) (fun e w' => e = .returned (.bool true) ∧ ∃ y, w' = F y) from fun y => RT.quiet HFS.out ((psame_x X X _ _ (F y) (hF y).x.txts (hF y).y.txts (Nat.le_trans HXl.out (by decide))).mono fun e w' h => ⟨by rw [h.1, sameR_self], h.2⟩))
  have HC2 := Lib.hid (show ∀ y, Calls Tryd.prog 11 #[RV X.code X.e (.slice A4 X.text.length c4), RV X.code X.e (.slice A5 X.text.length c5)] (F y) (fun e w' => e = .returned (.bool true) ∧ ∃ y, w' = F y) from fun y => RT.quiet HFS.out ((rsame_x X X _ _ (F y) (hF y).x.txts (hF y).y.txts (Nat.le_trans HXl.out (by decide))).mono fun e w' h => ⟨by rw [h.1, sameR_self], h.2⟩))
  have HC3 := Lib.hid (show ∀ y, Calls Tryd.prog 12 #[.slice A6 PL.length c6, .slice A7 PL.length c7] (F y) (fun e w' => e = .returned (.bool true) ∧ ∃ y, w' = F y) from fun y => RT.drawn HFS.out ((same_x _ _ PL PL (F y) (hF y).a (hF y).b HPL.out).mono fun e w' h => ⟨by rw [h.1]; simp, h.2⟩))
  have HC4 := Lib.hid (show ∀ y, Calls Tryd.prog 13 #[RV r.code r.e (.slice ra r.text.length rcap)] (F y) (fun e w' => e = .returned (.int .i64 (rpRight r)) ∧ ∃ y, w' = F y) from fun y => RT.quiet HFS.out (right_x r _ HRI.out (F y) (hF y).ready (hF y).r.txts (Nat.le_trans HG.out.1 (by decide)) (fun t ht => Nat.le_trans (HG.out.2 t ht) (by decide))))
  have HC5 := Lib.hid (show ∀ y, Calls Tryd.prog 14 #[RV r.code r.e (.slice ra r.text.length rcap)] (F y) (fun e w' => e = .returned (.int .i64 (rpRight r)) ∧ ∃ y, w' = F y) from fun y => RT.quiet HFS.out (rright_x r _ (F y) (hF y).ready (hF y).r.txts (Nat.le_trans HG.out.1 (by decide)) (fun t ht => Nat.le_trans (HG.out.2 t ht) (by decide))))
  have HC6 := Lib.hid (show ∀ y, Calls Tryd.prog 15 #[.int .i64 r.code] (F y) (fun e w' => e = .returned (.int .i64 (rpCls r.code)) ∧ ∃ y, w' = F y) from fun y => RT.still (class_x r.code (F y)))
  have HC7 := Lib.hid (show ∀ y, Calls Tryd.prog 16 #[.int .i64 r.code] (F y) (fun e w' => e = .returned (.int .i64 (rpCls r.code)) ∧ ∃ y, w' = F y) from fun y => RT.still (rclass_x r.code (F y)))
  generalize rpRight r = rq at HC4 HC5 ⊢
  generalize rpCls r.code = cq at HC6 HC7
  have x0 := fun y => cellOf (hF y).x.box 0
  have x1 := fun y => cellOf (hF y).x.box 1
  have x2 := fun y => cellOf (hF y).x.box 2
  have x3 := fun y => cellOf (hF y).x.box 3
  have x4 := fun y => cellOf (hF y).x.box 4
  have u0 := fun y => cellOf (hF y).y.box 0
  have u1 := fun y => cellOf (hF y).y.box 1
  have u2 := fun y => cellOf (hF y).y.box 2
  have u3 := fun y => cellOf (hF y).y.box 3
  have u4 := fun y => cellOf (hF y).y.box 4
  have r0 := fun y => cellOf (hF y).r.box 0
  have r1 := fun y => cellOf (hF y).r.box 1
  have r2 := fun y => cellOf (hF y).r.box 2
  have r3 := fun y => cellOf (hF y).r.box 3
  have r4 := fun y => cellOf (hF y).r.box 4
  clear hF hS T7
  go_wp2_with fail
  refine region_rt (by kernel_rfl) (by kernel_rfl) F y0 hy0 ?_
  repeat (go_big_quiet_step (first
    | (go_at_call 10; exact HC1.out _)
    | (go_at_call 11; exact HC2.out _)
    | (go_at_call 12; exact HC3.out _)
    | (go_at_call 13; exact HC4.out _)
    | (go_at_call 14; exact HC5.out _)
    | (go_at_call 15; exact HC6.out _)
    | (go_at_call 16; exact HC7.out _)))
  refine wpQuiet_nil ?_
  rintro _ ⟨y, rfl⟩
  have HZ := Lib.hid (HFS.out.1 y).below
  clear x0 x1 x2 x3 x4 u0 u1 u2 u3 u4 r0 r1 r2 r3 r4 hy0
  go_wp2_with fail
  go_ret
  exact ⟨rfl, HZ.out⟩
end Go.Proofs.YtdcakmamdabiaaaDoor
