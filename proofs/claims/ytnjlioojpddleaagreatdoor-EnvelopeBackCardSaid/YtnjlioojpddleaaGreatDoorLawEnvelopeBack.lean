import Derived.Test.YtnjlioojpddleaaGreatDoorMaEvD
import Derived.Carry
import Derived.Deep.DeepCutAuto
namespace Go.Proofs.YtnjlioojpddleaaGreatDoor.E
open Go.RowKit Go.ChangeShapes
section
variable {H : Type} {enc : TypeId × Value → H} {P : Program} {w : World} {base : Nat} {spare : Nat → Bool} {held : Bool}
theorem trodAll_five {t t' t'' t3 t4 : TypeId} {args : Array Value} {ds : List (DataW H)} {ps : List MemPlace} (h : DataW.TrodAll enc P w base spare held [t, t', t'', t3, t4] args.toList ds ps) :
  ∃ v v' v'' v3 v4 d d' d'' d3 d4 p p' p'' p3 p4, args = #[v, v', v'', v3, v4] ∧ ds = [d, d', d'', d3, d4] ∧ ps = p ++ p' ++ p'' ++ p3 ++ p4 ∧ DataW.Trod enc P w base spare held t v d p ∧ DataW.Trod enc P w base spare held t' v' d' p' ∧ DataW.Trod enc P w base spare held t'' v'' d'' p'' ∧ DataW.Trod enc P w base spare held t3 v3 d3 p3 ∧ DataW.Trod enc P w base spare held t4 v4 d4 p4 := by
 obtain ⟨v, vs, d, ds', p, q, hargs, rfl, rfl, hd, hrest⟩ := trodAll_cons h
 obtain ⟨v1, vs1, d1, ds1, p1, q1, rfl, rfl, rfl, hd1, hrest⟩ := trodAll_cons hrest
 obtain ⟨v2, vs2, d2, ds2, p2, q2, rfl, rfl, rfl, hd2, hrest⟩ := trodAll_cons hrest
 obtain ⟨v3, vs3, d3, ds3, p3, q3, rfl, rfl, rfl, hd3, hrest⟩ := trodAll_cons hrest
 obtain ⟨v4, vs4, d4, ds4, p4, q4, rfl, rfl, rfl, hd4, hrest⟩ := trodAll_cons hrest
 obtain ⟨rfl, rfl, rfl⟩ := trodAll_nil hrest
 exact ⟨v, v1, v2, v3, v4, d, d1, d2, d3, d4, p, p1, p2, p3, p4, by cases args; simp_all, rfl, by simp, hd, hd1, hd2, hd3, hd4⟩
theorem trodAll_mk5 {t t' t'' t3 t4 : TypeId} {v v' v'' v3 v4 : Value} {d d' d'' d3 d4 : DataW H} {p p' p'' p3 p4 : List MemPlace} (h : DataW.Trod enc P w base spare held t v d p) (h' : DataW.Trod enc P w base spare held t' v' d' p')
  (h'' : DataW.Trod enc P w base spare held t'' v'' d'' p'') (h3 : DataW.Trod enc P w base spare held t3 v3 d3 p3) (h4 : DataW.Trod enc P w base spare held t4 v4 d4 p4) : DataW.TrodAll enc P w base spare held [t, t', t'', t3, t4] [v, v', v'', v3, v4] [d, d', d'', d3, d4] (p ++ (p' ++ (p'' ++ (p3 ++ p4)))) :=
 ⟨p, p' ++ (p'' ++ (p3 ++ p4)), h, trodAll_mk4 h' h'' h3 h4, rfl⟩
end
end Go.Proofs.YtnjlioojpddleaaGreatDoor.E
namespace Go.Proofs.YtnjlioojpddleaaGreatDoor.E
set_option maxRecDepth 100000
open Go.RowKit Go.Shelf
def eqST (a b : ST) : Bool := a.pl == b.pl && (a.st == b.st && (a.tr == b.tr && (a.ne == b.ne && a.told == b.told)))
theorem eqST_iff {a b : ST} : eqST a b = true ↔ a = b := by
 obtain ⟨a1, a2, a3, a4, a5⟩ := a
 obtain ⟨b1, b2, b3, b4, b5⟩ := b
 simp [eqST]
set_option maxHeartbeats 4000000 in
theorem eqSt (a b : ST) (w : World) : (Op.equalIn 10000 23 (.agg (TD a)) (.agg (TD b))).run Tryz.prog w = .ok (eqST a b) w := by
 show (Op.equalIn 10000 23 (.agg #[.int .i64 a.pl, .string (mkS a.st), .int .i64 a.tr, .int .i64 a.ne, .int .i64 a.told]) (.agg #[.int .i64 b.pl, .string (mkS b.st), .int .i64 b.tr, .int .i64 b.ne, .int .i64 b.told])).run Tryz.prog w = _
 have u9 := Tryz.underlying9
 have a9 := Tryz.isAgg9
 have z9 := Tryz.sizeOf9
 have u3 := Tryz.underlying3
 have a3 := Tryz.isAgg3
 have z3 := Tryz.sizeOf3
 have hS : Tryz.prog.underlying 23 = some (.struct (Tryz.prog.fieldsOf 23)) := by kernel_rfl
 have hp : Tryz.prog.stoodInHeld 23 = false := by kernel_rfl
 rw [show (10000 : Nat) = 9999 + 1 from rfl, run_equalIn_agg w 9999 23 _ _ hS hp]
 have hI : ∀ (x y : Int), (Op.equalIn 9999 3 (.int .i64 x) (.int .i64 y)).run Tryz.prog w = .ok (x == y) w := fun x y => by go_simp
 have hT : ∀ (x y : Txt), (Op.equalIn 9999 9 (.string (mkS x)) (.string (mkS y))).run Tryz.prog w = .ok (x == y) w := fun x y => by
  have e := mkS_eqb x y
  go_simp
 have p3 : ∀ (cs : Array Value) (k : Nat) (v : Value), cs[k]? = some v → (part 3 cs k).run Tryz.prog w = .ok v w := fun cs k v h => by unfold part; go_simp
 have p9 : ∀ (cs : Array Value) (k : Nat) (v : Value), cs[k]? = some v → (part 9 cs k).run Tryz.prog w = .ok v w := fun cs k v h => by unfold part; go_simp
 have key := eqF_cons (P := Tryz.prog) (w := w) (d := 9999) (f := (Tryz.prog.fieldsOf 23)[0]!) (by decide) (p3 #[.int .i64 a.pl, .string (mkS a.st), .int .i64 a.tr, .int .i64 a.ne, .int .i64 a.told] 0 _ rfl) (p3 #[.int .i64 b.pl, .string (mkS b.st), .int .i64 b.tr, .int .i64 b.ne, .int .i64 b.told] 0 _ rfl) (hI a.pl b.pl)
  (eqF_cons (f := (Tryz.prog.fieldsOf 23)[1]!) (by decide) (p9 #[.int .i64 a.pl, .string (mkS a.st), .int .i64 a.tr, .int .i64 a.ne, .int .i64 a.told] 1 _ rfl) (p9 #[.int .i64 b.pl, .string (mkS b.st), .int .i64 b.tr, .int .i64 b.ne, .int .i64 b.told] 1 _ rfl) (hT a.st b.st)
  (eqF_cons (f := (Tryz.prog.fieldsOf 23)[2]!) (by decide) (p3 #[.int .i64 a.pl, .string (mkS a.st), .int .i64 a.tr, .int .i64 a.ne, .int .i64 a.told] 2 _ rfl) (p3 #[.int .i64 b.pl, .string (mkS b.st), .int .i64 b.tr, .int .i64 b.ne, .int .i64 b.told] 2 _ rfl) (hI a.tr b.tr)
  (eqF_cons (f := (Tryz.prog.fieldsOf 23)[3]!) (by decide) (p3 #[.int .i64 a.pl, .string (mkS a.st), .int .i64 a.tr, .int .i64 a.ne, .int .i64 a.told] 3 _ rfl) (p3 #[.int .i64 b.pl, .string (mkS b.st), .int .i64 b.tr, .int .i64 b.ne, .int .i64 b.told] 3 _ rfl) (hI a.ne b.ne)
  (eqF_cons (f := (Tryz.prog.fieldsOf 23)[4]!) (by decide) (p3 #[.int .i64 a.pl, .string (mkS a.st), .int .i64 a.tr, .int .i64 a.ne, .int .i64 a.told] 4 _ rfl) (p3 #[.int .i64 b.pl, .string (mkS b.st), .int .i64 b.tr, .int .i64 b.ne, .int .i64 b.told] 4 _ rfl) (hI a.told b.told)
  (show (Op.eqFields 9999 #[.int .i64 a.pl, .string (mkS a.st), .int .i64 a.tr, .int .i64 a.ne, .int .i64 a.told] #[.int .i64 b.pl, .string (mkS b.st), .int .i64 b.tr, .int .i64 b.ne, .int .i64 b.told] []).run Tryz.prog w = .ok true w from rfl)))))
 refine key.trans ?_
 simp [eqST]
structure BB (W : World) (x y : EM) (t u : ST) (a b c d : Value) (w : World) : Prop where
 x : w.heap[W.heap.size]? = some (.cells (EC x a b) 45 (0, 0))
 y : w.heap[W.heap.size + 1]? = some (.cells (EC y c d) 45 (0, 0))
 t : w.heap[W.heap.size + 1 + 1]? = some (.cells (TD t) 23 (0, 0))
 u : w.heap[W.heap.size + 1 + 1 + 1]? = some (.cells (TD u) 23 (0, 0))
 below : Below W.heap.size W w
theorem BB.next {W w w' : World} {x y : EM} {t u : ST} {a b c d : Value} (h : BB W x y t u a b c d w) (hb : Below w.heap.size w w') : BB W x y t u a b c d w' :=
 ⟨(hb.block _ (ltOf h.x)).trans h.x, (hb.block _ (ltOf h.y)).trans h.y, (hb.block _ (ltOf h.t)).trans h.t, (hb.block _ (ltOf h.u)).trans h.u, below_next h.below hb⟩
theorem BB.new (w : World) (x y : EM) (t u : ST) (a b c d : Value) : BB w x y t u a b c d ((((w.alloc (.cells (EC x a b) 45)).alloc (.cells (EC y c d) 45)).alloc (.cells (TD t) 23)).alloc (.cells (TD u) 23)) := by
 refine ⟨?_, ?_, ?_, ?_, ((((Below.refl _ w).alloc (Nat.le_refl _) _).alloc (by simp) _).alloc (by simp; try omega) _).alloc (by simp; try omega) _⟩
 ·rw [Below.heap_alloc _ _ _ (by simp; try omega), Below.heap_alloc _ _ _ (by simp; try omega), Below.heap_alloc _ _ _ (by simp)]
  exact newOf w _
 ·rw [Below.heap_alloc _ _ _ (by simp; try omega), Below.heap_alloc _ _ _ (by simp)]
  exact (show (w.alloc (.cells (EC x a b) 45)).heap.size = w.heap.size + 1 by simp) ▸ newOf _ _
 ·rw [Below.heap_alloc _ _ _ (by simp)]
  exact (show ((w.alloc (.cells (EC x a b) 45)).alloc (.cells (EC y c d) 45)).heap.size = w.heap.size + 1 + 1 by simp) ▸ newOf _ _
 ·exact (show (((w.alloc (.cells (EC x a b) 45)).alloc (.cells (EC y c d) 45)).alloc (.cells (TD t) 23)).heap.size = w.heap.size + 1 + 1 + 1 by simp) ▸ newOf _ _
theorem paV_fit {s : Txt} (h : paE s = 0) : FitE (paV s) := by
 have h9 := (pa_0 h).1
 unfold paV
 rw [if_pos h]
 exact fit_read h9
end Go.Proofs.YtnjlioojpddleaaGreatDoor.E
namespace Go.Proofs.YtnjlioojpddleaaGreatDoor.E
set_option maxRecDepth 100000
open Go.RowKit Go.Shelf
theorem stV_len {t : ST} (h : stE t = 0) : (stV t).length ≤ 1000 := by
 obtain ⟨h1, h2, h3, h4, h5⟩ := st_iff.1 h
 have z0 := itoa_20 (n := t.pl) ⟨by omega, by omega⟩
 have z1 := itoa_20 (n := t.tr) ⟨by omega, by omega⟩
 have z2 := itoa_20 (n := t.ne) ⟨by omega, by omega⟩
 have z3 := itoa_20 (n := t.told) ⟨by omega, by omega⟩
 have z4 : t.st.length = 1 := by rcases state_cases h1 with e | e | e | e <;> rw [e] <;> rfl
 rw [st_yes h]
 unfold bytesT wordsI
 simp only [List.length_cons, List.length_append]
 omega
theorem enV_len {x : EM} (h : enE x = 0) : (enV x).length ≤ 9728 := by rw [en_yes h]; exact bytes_len (en_iff.1 h)
theorem en_eq {x y : EM} (hx : enE x = 0) (hy : enE y = 0) : sameE x y = (enV x == enV y) := by
 rw [Bool.eq_iff_iff, sameE_iff, beq_iff_eq]
 exact ⟨fun h => by rw [h], fun h => en_inj hx hy h⟩
theorem st_eq {x y : ST} (hx : stE x = 0) (hy : stE y = 0) : eqST x y = (stV x == stV y) := by
 rw [Bool.eq_iff_iff, eqST_iff, beq_iff_eq]
 exact ⟨fun h => by rw [h], fun h => st_inj hx hy h⟩
set_option maxHeartbeats 16000000 in
theorem envelopeBack_x (x y : EM) (vx lx vy ly : Value) (t u : ST) (s : Txt) (w : World) (hR : Rdy w) (hX : EAt w x vx lx) (hSx : ShE x) (hY : EAt w y vy ly) (hSy : ShE y) (ht : t.st.length ≤ 281474976710656) (hu : u.st.length ≤ 281474976710656) (hs : s.length ≤ 140737488355328) : Calls Tryz.prog 4 #[.agg (EC x vx lx), .agg (EC y vy ly), .agg (TD t), .agg (TD u), .string (mkS s)] w fun e w' => e = .returned (.bool true) ∧ Below w.heap.size w w' := by
 obtain ⟨ra, rn, rc, lb, lm, ld, rfl, rfl⟩ := hX.slices
 obtain ⟨rb, ro, rd, mb, mm, md, rfl, rfl⟩ := hY.slices
 have HM := Lib.hid (BB.new w x y t u (.slice ra rn rc) (.slice lb lm ld) (.slice rb ro rd) (.slice mb mm md))
 have HR := Lib.hid (fun w' (h : Below w.heap.size w w') => hR.below h)
 have HX := Lib.hid (fun w' (h : Below w.heap.size w w') => hX.below h)
 have HY := Lib.hid (fun w' (h : Below w.heap.size w w') => hY.below h)
 have HSX := Lib.hid (fun w' (h : Below w.heap.size w w') => msmall_x x _ _ w' (hX.below h) hSx)
 have HSY := Lib.hid (fun w' (h : Below w.heap.size w w') => msmall_x y _ _ w' (hY.below h) hSy)
 unfold SmPost at HSX HSY
 have ms := mkS_size s
 have mt := mkS_size t.st
 have mu := mkS_size u.st
 obtain ⟨k, hk⟩ : ∃ k, t.st.length + u.st.length = k := ⟨_, rfl⟩
 have hw : IntKind.i64.wrap ((t.st.length : Int) + (u.st.length : Int)) = (k : Int) := by rw [IntWalk.i64_in _ (by omega)]; omega
 clear hR hX hSx hY hSy ht hu hk
 go_enter Tryz.func4, Tryz.ntmps4
 go_wp2_with fail
 refine (awake_x _ (HR.out _ HM.out.below)).mono ?_
 rintro e w1 ⟨rfl, hb⟩
 have HM1 := Lib.hid (HM.out.next hb)
 clear hb HM
 go_wp2_with (first | ((with_reducible refine is_load (ty := 45) (x := .tmp 5) rfl ?_); refine wpList_load_blk rfl 45 (.tmp 5) rfl w.heap.size 0 45 (EC x (.slice ra rn rc) (.slice lb lm ld)) (EC x (.slice ra rn rc) (.slice lb lm ld)) _ rfl HM1.out.x Tryz.underlying45 rfl size_msg (fun j _ => by rw [Nat.zero_add]) ?_))
 refine (HSX.out _ HM1.out.below).mono ?_
 rintro e w2 ⟨q, rfl, hq, hb⟩
 have HM2 := Lib.hid (HM1.out.next hb)
 have HQ := Lib.hid hq
 clear hb HM1 hq HSX
 cases q
 ·go_wp2_with fail
  go_ret
  exact ⟨rfl, HM2.out.below⟩
 have HF1 := Lib.hid (HQ.out rfl)
 clear HQ
 go_wp2_with (first | ((with_reducible refine is_load (ty := 45) (x := .tmp 6) rfl ?_); refine wpList_load_want ?_ 45 (.tmp 6) rfl (w.heap.size + 1) 0 45 (EC y (.slice rb ro rd) (.slice mb mm md)) (EC y (.slice rb ro rd) (.slice mb mm md)) _ rfl HM2.out.y Tryz.underlying45 rfl size_msg (fun j _ => by rw [Nat.zero_add]) ?_; (focus (first | rfl | (go_simp; done)))))
 refine (HSY.out _ HM2.out.below).mono ?_
 rintro e w3 ⟨q, rfl, hq, hb⟩
 have HM3 := Lib.hid (HM2.out.next hb)
 have HQ := Lib.hid hq
 clear hb HM2 hq HSY
 cases q
 ·go_wp2_with fail
  go_ret
  exact ⟨rfl, HM3.out.below⟩
 have HF2 := Lib.hid (HQ.out rfl)
 clear HQ
 have c7 : w3.cell? ⟨w.heap.size + 1 + 1, 1, none⟩ = some (.string (mkS t.st)) := cellOf HM3.out.t 1
 have c8 : w3.cell? ⟨w.heap.size + 1 + 1 + 1, 1, none⟩ = some (.string (mkS u.st)) := cellOf HM3.out.u 1
 by_cases k1 : 20000 < s.length
 ·go_wp2_with fail
  go_ret
  exact ⟨rfl, HM3.out.below⟩
 by_cases k2 : 100 < k
 ·go_wp2_with fail
  go_ret
  exact ⟨rfl, HM3.out.below⟩
 have HPA := Lib.hid (parse_x s w3 (by omega) (HR.out _ HM3.out.below))
 unfold PaPost at HPA
 go_wp2_with fail
 refine HPA.out.mono ?_
 rintro e w4 ⟨vr, vl, rfl, hE, hb⟩
 obtain ⟨a1, n1, d1, b1, m1, f1, rfl, rfl⟩ := hE.slices
 have HM4 := Lib.hid (HM3.out.next hb)
 have HE := Lib.hid hE
 have HP0 := Lib.hid (fun h => pa_0 (s := s) h)
 have HFI := Lib.hid (fun h => paV_fit (s := s) h)
 clear hb hE HM3 HPA c7 c8 hw k2
 generalize paV s = p at HE HP0 HFI ⊢
 generalize paE s = E1 at HP0 HFI ⊢
 go_upto_if 62 with (first | ((with_reducible refine is_store (ty := 45) (x := .tmp 11) (y := .tmp 59) rfl ?_); refine wpList_store_blk rfl 45 (.tmp 11) (.tmp 59) rfl w4.heap.size 0 45 (EC zeroE nilS nilS) (EC p (.slice a1 n1 d1) (.slice b1 m1 f1)) (EC p (.slice a1 n1 d1) (.slice b1 m1 f1)) rfl rfl (newOf w4 _) size_msg (one_ECs _ _ _ _ _ _ _) (Nat.le_of_eq rfl) (whole_EC _ _ _ _ rfl) ?_; intro v1 hB1 hA1))
 have hb := far_apart hA1
 have HM5 := Lib.hid (HM4.out.next hb)
 have HE5 := Lib.hid (HE.out.below hb)
 have HB5 := Lib.hid hB1
 clear hb hB1 hA1 HM4 HE
 generalize w4.heap.size = b5 at HB5 ⊢
 go_cut [] from 11 (fun wc => Hid (BB w x y t u (.slice ra rn rc) (.slice lb lm ld) (.slice rb ro rd) (.slice mb mm md) wc))
 case first =>
  by_cases h0 : E1 = 0
  ·subst h0
   obtain ⟨h1, h2, h3⟩ := HP0.out rfl
   have HPR := Lib.hid (print_x p _ _ v1 HE5.out (HFI.out rfl) (HR.out _ HM5.out.below))
   unfold EnPost at HPR
   rw [h2, h3] at HPR
   clear h1 h2 h3 HP0 HFI
   go_wp2_with (first | ((with_reducible refine is_load (ty := 45) (x := .tmp 11) rfl ?_); refine wpList_load_blk rfl 45 (.tmp 11) rfl b5 0 45 (EC p (.slice a1 n1 d1) (.slice b1 m1 f1)) (EC p (.slice a1 n1 d1) (.slice b1 m1 f1)) _ rfl HB5.out Tryz.underlying45 rfl size_msg (fun j _ => by rw [Nat.zero_add]) ?_))
   refine HPR.out.mono ?_
   rintro e w5 ⟨rfl, hb⟩
   have HM6 := Lib.hid (HM5.out.next hb)
   clear hb HM5 HPR
   go_wp2_with fail
   go_meet
   case rel => exact HM6
  ·have hne : (E1 == 0) = false := beq_eq_false_iff_ne.2 h0
   go_wp2_with fail
   go_meet
   case rel => exact HM5
 case rest =>
  have HM7 := Lib.hid hcut.out
  clear hcut HM5 HE5 HB5 HP0 HFI
  have HPT := Lib.hid (parse_st s wc (by omega) (HR.out _ HM7.out.below))
  unfold PtPost at HPT
  have HP0 := Lib.hid (fun h => pt_0 (s := s) h)
  generalize ptV s = p2 at HPT HP0
  generalize ptE s = E2 at HPT HP0
  go_wp2_with fail
  refine HPT.out.mono ?_
  rintro e w8 ⟨rfl, hb⟩
  have HM8 := Lib.hid (HM7.out.next hb)
  clear hb HM7 HPT
  go_upto_if 81 with (first | ((with_reducible refine is_store (ty := 23) (x := .tmp 15) (y := .tmp 78) rfl ?_); refine wpList_store_blk rfl 23 (.tmp 15) (.tmp 78) rfl w8.heap.size 0 23 (TD zeroT) (TD p2) (TD p2) rfl rfl (newOf w8 _) size_st (one_TD _) (Nat.le_of_eq rfl) (whole_TD _ _) ?_; intro v2 hB2 hA2))
  have hb := far_apart hA2
  have HM9 := Lib.hid (HM8.out.next hb)
  have HB9 := Lib.hid hB2
  clear hb hB2 hA2 HM8
  generalize w8.heap.size = b9 at HB9 ⊢
  go_cut [] from 11 (fun wc => Hid (BB w x y t u (.slice ra rn rc) (.slice lb lm ld) (.slice rb ro rd) (.slice mb mm md) wc))
  case first =>
   by_cases h0 : E2 = 0
   ·subst h0
    obtain ⟨h2, h3⟩ := HP0.out rfl
    have HPR := Lib.hid (print_st p2 v2 (HR.out _ HM9.out.below))
    unfold StPost at HPR
    rw [h2, h3] at HPR
    clear h2 h3 HP0
    go_wp2_with (first | ((with_reducible refine is_load (ty := 23) (x := .tmp 15) rfl ?_); refine wpList_load_blk rfl 23 (.tmp 15) rfl b9 0 23 (TD p2) (TD p2) _ rfl HB9.out Tryz.underlying23 rfl size_st (fun j _ => by rw [Nat.zero_add]) ?_))
    refine HPR.out.mono ?_
    rintro e w9 ⟨rfl, hb⟩
    have HM10 := Lib.hid (HM9.out.next hb)
    clear hb HM9 HPR
    go_wp2_with fail
    go_meet
    case rel => exact HM10
   ·have hne : (E2 == 0) = false := beq_eq_false_iff_ne.2 h0
    go_wp2_with fail
    go_meet
    case rel => exact HM9
  case rest =>
   have HM11 := Lib.hid hcut.out
   clear hcut HM9 HB9 HP0
   have HPX := Lib.hid (print_x x _ _ wc (HX.out _ HM11.out.below) HF1.out.fit (HR.out _ HM11.out.below))
   unfold EnPost at HPX
   go_wp2_with (first | ((with_reducible refine is_load (ty := 45) (x := .tmp 5) rfl ?_); refine wpList_load_blk rfl 45 (.tmp 5) rfl w.heap.size 0 45 (EC x (.slice ra rn rc) (.slice lb lm ld)) (EC x (.slice ra rn rc) (.slice lb lm ld)) _ rfl HM11.out.x Tryz.underlying45 rfl size_msg (fun j _ => by rw [Nat.zero_add]) ?_))
   refine HPX.out.mono ?_
   rintro e w12 ⟨rfl, hb⟩
   have HM12 := Lib.hid (HM11.out.next hb)
   clear hb HM11 HPX
   have HPY := Lib.hid (print_x y _ _ w12 (HY.out _ HM12.out.below) HF2.out.fit (HR.out _ HM12.out.below))
   unfold EnPost at HPY
   go_wp2_with (first | ((with_reducible refine is_load (ty := 45) (x := .tmp 6) rfl ?_); refine wpList_load_blk rfl 45 (.tmp 6) rfl (w.heap.size + 1) 0 45 (EC y (.slice rb ro rd) (.slice mb mm md)) (EC y (.slice rb ro rd) (.slice mb mm md)) _ rfl HM12.out.y Tryz.underlying45 rfl size_msg (fun j _ => by rw [Nat.zero_add]) ?_))
   refine HPY.out.mono ?_
   rintro e w13 ⟨rfl, hb⟩
   have HM13 := Lib.hid (HM12.out.next hb)
   clear hb HM12 HPY
   have FX := Lib.hid (fun h => pa_back (x := x) h)
   have FL := Lib.hid (fun h => enV_len (x := x) h)
   have FQ := Lib.hid (fun hx hy => en_eq (x := x) (y := y) hx hy)
   generalize enE x = E3 at FX FL FQ ⊢
   generalize enE y = E4 at FQ ⊢
   generalize enV x = t3 at FX FL FQ ⊢
   generalize enV y = t4 at FQ ⊢
   go_upto_if 105 with fail
   go_cut [] from 11 (fun wc => Hid (BB w x y t u (.slice ra rn rc) (.slice lb lm ld) (.slice rb ro rd) (.slice mb mm md) wc))
   case first =>
    by_cases h0 : E3 = 0
    ·subst h0
     have hl := FL.out rfl
     obtain ⟨h1, h2⟩ := FX.out rfl
     have HPA := Lib.hid (parse_x t3 w13 (by omega) (HR.out _ HM13.out.below))
     unfold PaPost at HPA
     rw [h1, h2] at HPA
     clear h1 h2 FX FL hl
     go_wp2_with fail
     refine HPA.out.mono ?_
     rintro e w14 ⟨vr2, vl2, rfl, hE, hb⟩
     obtain ⟨a2, n2, d2, b2, m2, f2, rfl, rfl⟩ := hE.slices
     have HM14 := Lib.hid (HM13.out.next hb)
     have HE := Lib.hid hE
     clear hb hE HM13 HPA
     go_upto_region 19 with (first | ((with_reducible refine is_store (ty := 45) (x := .tmp 23) (y := .tmp 109) rfl ?_); refine wpList_store_blk rfl 45 (.tmp 23) (.tmp 109) rfl w14.heap.size 0 45 (EC zeroE nilS nilS) (EC x (.slice a2 n2 d2) (.slice b2 m2 f2)) (EC x (.slice a2 n2 d2) (.slice b2 m2 f2)) rfl rfl (newOf w14 _) size_msg (one_ECs _ _ _ _ _ _ _) (Nat.le_of_eq rfl) (whole_EC _ _ _ _ rfl) ?_; intro v3 hB3 hA3))
     have hb := far_apart hA3
     have HM15 := Lib.hid (HM14.out.next hb)
     have HE5 := Lib.hid (HE.out.below hb)
     have HB5 := Lib.hid hB3
     clear hb hB3 hA3 HM14 HE
     generalize w14.heap.size = b7 at HB5 ⊢
     have f1 := HF1.out.fit.rn
     have f2 := HF1.out.fit.ln
     have HS1 := Lib.hid (same_x x x _ _ _ _ v3 HE5.out (HX.out _ HM15.out.below) (by omega) (by omega))
     rw [show sameE x x = true from sameE_iff.2 rfl] at HS1
     have HS2 := Lib.hid (fun w' (h : Below w.heap.size w w') => same_x x y _ _ _ _ w' (HX.out _ h) (HY.out _ h) (by omega) (by omega))
     clear f1 f2
     by_cases hy : E4 = 0
     ·subst hy
      rw [FQ.out (by trivial) (by trivial)] at HS2
      have e34 := mkS_eqb t3 t4
      generalize (t3 == t4) = q at e34 HS2
      go_wp2_with (first | ((with_reducible refine is_load (ty := 45) (x := .tmp 23) rfl ?_); refine wpList_load_want ?_ 45 (.tmp 23) rfl b7 0 45 (EC x (.slice a2 n2 d2) (.slice b2 m2 f2)) (EC x (.slice a2 n2 d2) (.slice b2 m2 f2)) _ rfl HB5.out Tryz.underlying45 rfl size_msg (fun j _ => by rw [Nat.zero_add]) ?_; (focus (first | rfl | (go_simp; done)))) | ((with_reducible refine is_load (ty := 45) (x := .tmp 5) rfl ?_); refine wpList_load_want ?_ 45 (.tmp 5) rfl w.heap.size 0 45 (EC x (.slice ra rn rc) (.slice lb lm ld)) (EC x (.slice ra rn rc) (.slice lb lm ld)) _ rfl HM15.out.x Tryz.underlying45 rfl size_msg (fun j _ => by rw [Nat.zero_add]) ?_; (focus (first | rfl | (go_simp; done)))))
      refine HS1.out.mono ?_
      rintro e w15 ⟨rfl, hb⟩
      have HM16 := Lib.hid (HM15.out.next hb)
      clear hb HS1
      cases q
      all_goals
       go_wp2_with (first | ((with_reducible refine is_load (ty := 45) (x := .tmp 6) rfl ?_); refine wpList_load_want ?_ 45 (.tmp 6) rfl (w.heap.size + 1) 0 45 (EC y (.slice rb ro rd) (.slice mb mm md)) (EC y (.slice rb ro rd) (.slice mb mm md)) _ rfl HM16.out.y Tryz.underlying45 rfl size_msg (fun j _ => by rw [Nat.zero_add]) ?_; (focus (first | rfl | (go_simp; done)))) | ((with_reducible refine is_load (ty := 45) (x := .tmp 5) rfl ?_); refine wpList_load_want ?_ 45 (.tmp 5) rfl w.heap.size 0 45 (EC x (.slice ra rn rc) (.slice lb lm ld)) (EC x (.slice ra rn rc) (.slice lb lm ld)) _ rfl HM16.out.x Tryz.underlying45 rfl size_msg (fun j _ => by rw [Nat.zero_add]) ?_; (focus (first | rfl | (go_simp; done)))))
       refine (HS2.out _ HM16.out.below).mono ?_
       rintro e w17 ⟨rfl, hb⟩
       have HM17 := Lib.hid (HM16.out.next hb)
       clear hb HS2
       go_wp2_with fail
       go_meet
      all_goals exact HM17
     ·have hne : (E4 == 0) = false := beq_eq_false_iff_ne.2 hy
      go_wp2_with (first | ((with_reducible refine is_load (ty := 45) (x := .tmp 23) rfl ?_); refine wpList_load_want ?_ 45 (.tmp 23) rfl b7 0 45 (EC x (.slice a2 n2 d2) (.slice b2 m2 f2)) (EC x (.slice a2 n2 d2) (.slice b2 m2 f2)) _ rfl HB5.out Tryz.underlying45 rfl size_msg (fun j _ => by rw [Nat.zero_add]) ?_; (focus (first | rfl | (go_simp; done)))) | ((with_reducible refine is_load (ty := 45) (x := .tmp 5) rfl ?_); refine wpList_load_want ?_ 45 (.tmp 5) rfl w.heap.size 0 45 (EC x (.slice ra rn rc) (.slice lb lm ld)) (EC x (.slice ra rn rc) (.slice lb lm ld)) _ rfl HM15.out.x Tryz.underlying45 rfl size_msg (fun j _ => by rw [Nat.zero_add]) ?_; (focus (first | rfl | (go_simp; done)))))
      refine HS1.out.mono ?_
      rintro e w15 ⟨rfl, hb⟩
      have HM16 := Lib.hid (HM15.out.next hb)
      clear hb HS1
      go_wp2_with fail
      go_meet
      case rel => exact HM16
    ·have hne : (E3 == 0) = false := beq_eq_false_iff_ne.2 h0
     go_wp2_with fail
     go_meet
     case rel => exact HM13
   case rest =>
    have HM18 := Lib.hid hcut.out
    clear hcut HM13 FX FL FQ HX HY HF1 HF2
    have HPT := Lib.hid (print_st t wc (HR.out _ HM18.out.below))
    unfold StPost at HPT
    go_wp2_with (first | ((with_reducible refine is_load (ty := 23) (x := .tmp 7) rfl ?_); refine wpList_load_blk rfl 23 (.tmp 7) rfl (w.heap.size + 1 + 1) 0 23 (TD t) (TD t) _ rfl HM18.out.t Tryz.underlying23 rfl size_st (fun j _ => by rw [Nat.zero_add]) ?_))
    refine HPT.out.mono ?_
    rintro e w19 ⟨rfl, hb⟩
    have HM19 := Lib.hid (HM18.out.next hb)
    clear hb HM18 HPT
    have HPU := Lib.hid (print_st u w19 (HR.out _ HM19.out.below))
    unfold StPost at HPU
    go_wp2_with (first | ((with_reducible refine is_load (ty := 23) (x := .tmp 8) rfl ?_); refine wpList_load_blk rfl 23 (.tmp 8) rfl (w.heap.size + 1 + 1 + 1) 0 23 (TD u) (TD u) _ rfl HM19.out.u Tryz.underlying23 rfl size_st (fun j _ => by rw [Nat.zero_add]) ?_))
    refine HPU.out.mono ?_
    rintro e w20 ⟨rfl, hb⟩
    have HM20 := Lib.hid (HM19.out.next hb)
    clear hb HM19 HPU
    by_cases h0 : stE t = 0
    ·have hl := stV_len h0
     obtain ⟨h1, h2⟩ := pt_back h0
     have HPA := Lib.hid (parse_st (stV t) w20 (by omega) (HR.out _ HM20.out.below))
     unfold PtPost at HPA
     rw [h1, h2] at HPA
     have FQ := Lib.hid (fun hu => st_eq (x := t) (y := u) h0 hu)
     rw [h0]
     clear h0 h1 h2 hl
     generalize stV t = t5 at HPA FQ ⊢
     generalize stE u = E6 at FQ ⊢
     generalize stV u = t6 at FQ ⊢
     go_wp2_with fail
     refine HPA.out.mono ?_
     rintro e w21 ⟨rfl, hb⟩
     have HM21 := Lib.hid (HM20.out.next hb)
     clear hb HM20 HPA
     go_upto_region 26 with (first | ((with_reducible refine is_store (ty := 23) (x := .tmp 29) (y := .tmp 149) rfl ?_); refine wpList_store_blk rfl 23 (.tmp 29) (.tmp 149) rfl w21.heap.size 0 23 (TD zeroT) (TD t) (TD t) rfl rfl (newOf w21 _) size_st (one_TD _) (Nat.le_of_eq rfl) (whole_TD _ _) ?_; intro v4 hB4 hA4))
     have hb := far_apart hA4
     have HM22 := Lib.hid (HM21.out.next hb)
     have HB22 := Lib.hid hB4
     clear hb hB4 hA4 HM21
     generalize w21.heap.size = b8 at HB22 ⊢
     have q1 : ∀ w, (Op.equalIn 10000 23 (.agg (TD t)) (.agg (TD t))).run Tryz.prog w = .ok true w := fun w => (eqSt t t w).trans (by rw [eqST_iff.2 rfl])
     by_cases hu : E6 = 0
     ·subst hu
      have q2 : ∀ w, (Op.equalIn 10000 23 (.agg (TD t)) (.agg (TD u))).run Tryz.prog w = .ok (t5 == t6) w := fun w => (eqSt t u w).trans (by rw [FQ.out (by trivial)])
      have e56 := mkS_eqb t5 t6
      clear FQ
      generalize (t5 == t6) = q at e56 q2
      cases q
      all_goals
       go_wp2_with (first | ((with_reducible refine is_load (ty := 23) (x := .tmp 29) rfl ?_); refine wpList_load_want ?_ 23 (.tmp 29) rfl b8 0 23 (TD t) (TD t) _ rfl HB22.out Tryz.underlying23 rfl size_st (fun j _ => by rw [Nat.zero_add]) ?_; (focus (first | rfl | (go_simp; done)))) | ((with_reducible refine is_load (ty := 23) (x := .tmp 7) rfl ?_); refine wpList_load_want ?_ 23 (.tmp 7) rfl (w.heap.size + 1 + 1) 0 23 (TD t) (TD t) _ rfl HM22.out.t Tryz.underlying23 rfl size_st (fun j _ => by rw [Nat.zero_add]) ?_; (focus (first | rfl | (go_simp; done)))) | ((with_reducible refine is_load (ty := 23) (x := .tmp 8) rfl ?_); refine wpList_load_want ?_ 23 (.tmp 8) rfl (w.heap.size + 1 + 1 + 1) 0 23 (TD u) (TD u) _ rfl HM22.out.u Tryz.underlying23 rfl size_st (fun j _ => by rw [Nat.zero_add]) ?_; (focus (first | rfl | (go_simp; done)))))
       go_ret
       exact ⟨rfl, HM22.out.below⟩
     ·have hne : (E6 != 0) = true := by rw [bne_iff_ne]; exact hu
      clear FQ
      go_wp2_with (first | ((with_reducible refine is_load (ty := 23) (x := .tmp 29) rfl ?_); refine wpList_load_want ?_ 23 (.tmp 29) rfl b8 0 23 (TD t) (TD t) _ rfl HB22.out Tryz.underlying23 rfl size_st (fun j _ => by rw [Nat.zero_add]) ?_; (focus (first | rfl | (go_simp; done)))) | ((with_reducible refine is_load (ty := 23) (x := .tmp 7) rfl ?_); refine wpList_load_want ?_ 23 (.tmp 7) rfl (w.heap.size + 1 + 1) 0 23 (TD t) (TD t) _ rfl HM22.out.t Tryz.underlying23 rfl size_st (fun j _ => by rw [Nat.zero_add]) ?_; (focus (first | rfl | (go_simp; done)))) | ((with_reducible refine is_load (ty := 23) (x := .tmp 8) rfl ?_); refine wpList_load_want ?_ 23 (.tmp 8) rfl (w.heap.size + 1 + 1 + 1) 0 23 (TD u) (TD u) _ rfl HM22.out.u Tryz.underlying23 rfl size_st (fun j _ => by rw [Nat.zero_add]) ?_; (focus (first | rfl | (go_simp; done)))))
      go_ret
      exact ⟨rfl, HM22.out.below⟩
    ·have hv : stV t = [] := if_neg h0
     have hne : (stE t != 0) = true := by rw [bne_iff_ne]; exact h0
     rw [hv]
     clear hv h0
     generalize stE t = E5 at hne ⊢
     have hT := mkS_toList []
     go_wp2_with fail
     go_ret
     exact ⟨by simp, HM20.out.below⟩
end Go.Proofs.YtnjlioojpddleaaGreatDoor.E
