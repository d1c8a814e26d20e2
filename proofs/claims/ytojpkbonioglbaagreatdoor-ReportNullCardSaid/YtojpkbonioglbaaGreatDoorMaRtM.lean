import Derived.Test.YtojpkbonioglbaaGreatDoorMaRtZ
import Derived.Test.YtojpkbonioglbaaGreatDoorMaRtS
namespace Go.Proofs.YtojpkbonioglbaaGreatDoor.E.T
set_option maxRecDepth 100000
set_option linter.unusedSimpArgs false
open Go.RowKit Go.Shelf
theorem RA0.next {w w' : World} {r : RT} {vr vl vt : Value} (h : RA0 w r vr vl vt) (hb : Below w.heap.size w w') : RA0 w' r vr vl vt := ⟨h.at_.below hb, h.sh, h.k, h.h, h.tl, h.ri⟩
noncomputable def again (r : RT) (id : Int) (k : Txt) : RT := ⟨k, mk r id, 0, r.now, 0, r.host, rp00⟩
theorem again_e {r : RT} (h : OkR r) {id : Int} (h1 : 1 ≤ id ∧ id ≤ 2147483647) (k : Txt) : rtE (again r id k) = if clsK k = none then 10 else 9 := by
 have ho := en_iff.2 (mk_ok h h1)
 by_cases hk : clsK k = none
 ·unfold rtE again
  rw [if_pos hk, if_pos hk]
 ·unfold rtE again
  rw [if_neg hk, if_neg hk, if_neg, if_neg (fun hh => hh ho), if_pos (by show P.nullB ([], []) = true; decide)]
  have h2 := h.now
  simp only [inR, Bool.and_eq_false_iff, decide_eq_false_iff_not]
  show ¬ _
  have e : ((mk r id).rc.length : Int) = 1 := rfl
  rw [e]
  omega
theorem again_m {r : RT} (h : OkR r) {id : Int} (h1 : 1 ≤ id ∧ id ≤ 2147483647) (k : Txt) : mkE (again r id k) 1 = (if clsK k = none then 10 else 9) ∧ mkV (again r id k) 1 = zeroE := by
 have e := again_e h h1 k
 have h0 : rtE (again r id k) ≠ 0 := by rw [e]; split <;> decide
 have h2 : mkE (again r id k) 1 = rtE (again r id k) := by unfold mkE; rw [if_pos h0]
 refine ⟨h2.trans e, ?_⟩
 unfold mkV
 rw [h2, if_neg h0]
theorem fitL_len : ∀ (room : Int) (l : List Txt), (fitL room l).length ≤ l.length
 | _, [] => Nat.le_refl _
 | room, t :: l => by
  rw [fitL]
  split
  ·exact Nat.zero_le _
  ·have := fitL_len (room - cost (t.take 998)) l
   rw [List.length_cons, List.length_cons]; omega
theorem join_le2 : ∀ {l : List Txt}, (∀ t ∈ l, t.length ≤ 998) → (L.joinB (bs l)).length ≤ 998 * l.length
 | [], _ => Nat.zero_le _
 | a :: l, h => by
  have ih := join_le2 (l := l) (fun t ht => h t (by simp [ht]))
  have ha := h a (by simp)
  have e : (L.joinB (bs (a :: l))).length = a.length + (L.joinB (bs l)).length := by
   unfold L.joinB bs
   rw [List.map_cons, List.flatMap_cons, List.length_append, mkS_data]
  rw [e, List.length_cons]; omega
theorem fit_mk {r : RT} {vr vl vt : Value} {w : World} (h : OkR r) (hP : RP w r vr vl vt) (id : Int) : FitE (mk r id) := by
 have hl := (lines_fit r h hP).1
 have h1 := fitL_len 4093 (rtLines r)
 have h2 := join_le2 (l := fitL 4093 (rtLines r)) (fun t ht => by
  obtain ⟨u, _, rfl⟩ := fit_mem ht
  rw [List.length_take]; omega)
 refine ⟨⟨by show 0 ≤ _; omega, by show 0 ≤ _; omega⟩, fun c hc => ?_, by show 1 ≤ 100000; decide, by show (L.joinB (bs (fitL 4093 (rtLines r)))).length ≤ _; omega, by show (fitL 4093 (rtLines r)).length ≤ _; omega⟩
 have hc' : c ∈ [(⟨r.x.fr, zeroR⟩ : Rc)] := hc
 rw [List.mem_singleton] at hc'
 subst hc'
 exact ⟨hP.fit.fr.1, hP.fit.fr.2, by show 0 ≤ _; omega⟩
theorem rp_again {r : RT} {vr vl vt va vb : Value} {w : World} (h : OkR r) (hP : RP w r vr vl vt) {id : Int} {k : Txt} (hk : k.length ≤ 1000) (hE : EAt w (mk r id) va vb) (hR : Rdy w) : RP w (again r id k) va vb nilS :=
 ⟨⟨hE, txts_nil _⟩, fit_mk h hP id, hR, ri_0, by show (0 : Nat) ≤ _; decide, fun t ht => (by cases ht), by show k.length ≤ _; omega, by show 1 ≤ _; decide⟩
theorem mk_first {r : RT} (h : OkR r) (hl : (rtBack r).length ≤ 1000000) : 7 ≤ (fitL 4093 (rtLines r)).length ∧ (fitL 4093 (rtLines r))[0]? = some ([70, 114, 111, 109, 58, 32, 60, 112, 111, 115, 116, 109, 97, 115, 116, 101, 114, 64] ++ r.host ++ [62]) := by
 obtain ⟨q, hq⟩ := mk_front h hl
 rw [hq]
 constructor
 ·rw [List.length_append, s1_len]; omega
 ·unfold sec1
  rw [List.cons_append, List.getElem?_cons_zero, (pm_text h).2]
  simp
structure NB (W : World) (b7 : Nat) (r : RT) (id : Int) (vr vl vt mr ml : Value) (A L0 : Addr) (fl : Txt) (w : World) : Prop where
 bx : w.heap[W.heap.size]? = some (.cells (RE r vr vl vt) 39 (0, 0))
 bm : w.heap[b7]? = some (.cells (EC (mk r id) mr ml) 34 (0, 0))
 ca : w.cell? A = some (.string (mkS r.x.fr.1))
 cb : w.cell? ⟨A.block, A.off + 1, none⟩ = some (.string (mkS r.x.fr.2))
 cl : w.cell? L0 = some (.string (mkS fl))
 la : A.block < w.heap.size
 ll : L0.block < w.heap.size
theorem NB.next {W w w' : World} {b7 : Nat} {r : RT} {id : Int} {vr vl vt mr ml : Value} {A L0 : Addr} {fl : Txt} (h : NB W b7 r id vr vl vt mr ml A L0 fl w) (hb : Below w.heap.size w w') : NB W b7 r id vr vl vt mr ml A L0 fl w' :=
 ⟨(hb.block _ (ltOf h.bx)).trans h.bx, (hb.block _ (ltOf h.bm)).trans h.bm, (hb.cell h.la).trans h.ca, (hb.cell (p := ⟨A.block, A.off + 1, none⟩) h.la).trans h.cb, (hb.cell h.ll).trans h.cl, Nat.lt_of_lt_of_le h.la hb.size, Nat.lt_of_lt_of_le h.ll hb.size⟩
structure NX (W : World) (b7 : Nat) (r : RT) (id : Int) (vr vl vt mr ml : Value) (A L0 : Addr) (fl : Txt) (w : World) : Prop where
 nb : NB W b7 r id vr vl vt mr ml A L0 fl w
 bl : Below W.heap.size W w
 em : EAt w (mk r id) mr ml
 rp : RP w r vr vl vt
theorem NX.next {W w w' : World} {b7 : Nat} {r : RT} {id : Int} {vr vl vt mr ml : Value} {A L0 : Addr} {fl : Txt} (h : NX W b7 r id vr vl vt mr ml A L0 fl w) (hb : Below w.heap.size w w') : NX W b7 r id vr vl vt mr ml A L0 fl w' := ⟨h.nb.next hb, below_next h.bl hb, h.em.below hb, h.rp.below hb⟩
theorem right0_x {r : RT} {va vb vc mr ml : Value} {w : World} {id : Int} (h : OkR r) (hP : RP w r va vb vc) (h1 : 1 ≤ id ∧ id ≤ 2147483647) (hE : EAt w (mk r id) mr ml) : Calls Tryz.prog 11 #[.agg (EC (mk r id) mr ml)] w fun e w' => e = .returned (.int .i64 0) ∧ Below w.heap.size w w' := by
 have k := right_x (mk r id) mr ml w hE (fit_mk h hP id) hP.rdy
 rwa [en_iff.2 (mk_ok h h1)] at k
theorem null1_x (w : World) : Calls Tryz.prog 12 #[.agg #[.string (mkS []), .string (mkS [])]] w fun e w' => e = .returned (.bool true) ∧ Below w.heap.size w w' :=
 (P.null_x ([], []) w).mono fun _ _ h => ⟨h.1.trans (by rw [show P.nullB ([], []) = true by decide]), h.2⟩
theorem load_m {w : World} {z : Nat} {m : EM} {a b : Option Addr} {n c k d : Nat} (h : w.heap[z]? = some (.cells (EC m (.slice a n c) (.slice b k d)) 34 (0, 0))) : (loadVar 34 ⟨z, 0, none⟩).run Tryz.prog w = .ok (.agg (EC m (.slice a n c) (.slice b k d))) w :=
 loadVar_blk (P := Tryz.prog) (ty := 34) (o := 0) (vs := EC m (.slice a n c) (.slice b k d)) h Tryz.underlying34 rfl size_msg (fun j _ => by rw [Nat.zero_add])
theorem load_mc {w : World} {z : Nat} {m : EM} {a b : Option Addr} {n c k d : Nat} (h : w.heap[z]? = some (.cells (EC m (.slice a n c) (.slice b k d)) 34 (0, 0))) : (loadVar 3 ⟨z, 0, none⟩).run Tryz.prog w = .ok (.int .i64 m.id) w ∧ (loadVar 3 ⟨z, 1, none⟩).run Tryz.prog w = .ok (.int .i64 m.at_) w ∧ (loadVar 3 ⟨z, 2, none⟩).run Tryz.prog w = .ok (.int .i64 m.rel) w ∧ (loadVar 32 ⟨z, 19, none⟩).run Tryz.prog w = .ok (.slice a n c) w ∧ (loadVar 22 ⟨z, 20, none⟩).run Tryz.prog w = .ok (.slice b k d) w := by
 have c0 : w.cell? ⟨z, 0, none⟩ = some (.int .i64 m.id) := cellOf h 0
 have c1 : w.cell? ⟨z, 1, none⟩ = some (.int .i64 m.at_) := cellOf h 1
 have c2 : w.cell? ⟨z, 2, none⟩ = some (.int .i64 m.rel) := cellOf h 2
 have c19 : w.cell? ⟨z, 19, none⟩ = some (.slice a n c) := cellOf h 19
 have c20 : w.cell? ⟨z, 20, none⟩ = some (.slice b k d) := cellOf h 20
 refine ⟨?_, ?_, ?_, ?_, ?_⟩ <;> go_simp
theorem load_mf {w : World} {z : Nat} {m : EM} {mr ml : Value} (h : w.heap[z]? = some (.cells (EC m mr ml) 34 (0, 0))) : (loadVar 27 ⟨z, 3, none⟩).run Tryz.prog w = .ok (.agg #[.string (mkS m.fr.1), .string (mkS m.fr.2)]) w :=
 loadVar_blk (P := Tryz.prog) (ty := 27) (o := 3) (vs := #[.string (mkS m.fr.1), .string (mkS m.fr.2)]) h Tryz.underlying27 rfl size_pt (fun j hj => by
  have hj' : j < 2 := hj
  match j, hj' with
  | 0, _ => rfl
  | 1, _ => rfl)
theorem load_a2 {w : World} {b o : Nat} {x y : Txt} (h0 : w.cell? ⟨b, o, none⟩ = some (.string (mkS x))) (h1 : w.cell? ⟨b, o + 1, none⟩ = some (.string (mkS y))) : (loadVar 27 ⟨b, o, none⟩).run Tryz.prog w = .ok (.agg #[.string (mkS x), .string (mkS y)]) w := by
 have := run_loadVar_mid (P := Tryz.prog) w b o 27 [.string (mkS x), .string (mkS y)] _ (fun j v hv => by
  match j, hv with
  | 0, hv => injection hv with hv; rw [← hv]; exact h0
  | 1, hv => injection hv with hv; rw [← hv]; exact h1
  | j + 2, hv => simp at hv) Tryz.underlying27 rfl (by simpa using size_pt)
 simpa using this
set_option maxHeartbeats 16000000 in
theorem reportNull_x (r : RT) (id : Int) (kd : Txt) (vr vl vt : Value) (w : World) (hA : RA0 w r vr vl vt) (hR : Rdy w) (hkd : kd.length ≤ 140737488355328) : Calls Tryz.prog 4 #[rtA r vr vl vt, .int .i64 id, .string (mkS kd)] w fun e w' => e = .returned (.bool true) ∧ Below w.heap.size w w' := by
 have HB := Lib.hid (RB.new w r vr vl vt)
 have HA := Lib.hid hA
 have HR := Lib.hid (fun w' (h : Below w.heap.size w w') => hR.below h)
 have skd := mkS_size kd
 obtain ⟨ra, rcap, rfl, _, _, _⟩ := hA.at_.e.rc
 obtain ⟨la, lc, rfl⟩ := txts_slice hA.at_.e.ls
 obtain ⟨ta, tc, rfl⟩ := txts_slice hA.at_.t
 clear hA hR
 go_enter Tryz.func4, Tryz.ntmps4
 go_upto_region 1 with fail
 change Code.wp _ _ _ _ (w.alloc (.cells (RE r (.slice ra r.x.rc.length rcap) (.slice la r.x.ls.length lc) (.slice ta r.rp.text.length tc)) 39))
 generalize w.alloc (.cells (RE r (.slice ra r.x.rc.length rcap) (.slice la r.x.ls.length lc) (.slice ta r.rp.text.length tc)) 39) = w1 at *
 go_wp2_with fail
 refine (awake_x _ (HR.out _ HB.out.below)).mono ?_
 rintro e w2 ⟨rfl, hb⟩
 have HB2 := Lib.hid (HB.out.next hb)
 clear hb HB
 go_wp2_with (first | ((with_reducible refine tis_load (ty := 39) (x := .tmp 3) rfl ?_); refine tload ?_ 39 (.tmp 3) rfl (w.heap.size) 0 39 (RE r (.slice ra r.x.rc.length rcap) (.slice la r.x.ls.length lc) (.slice ta r.rp.text.length tc)) (RE r (.slice ra r.x.rc.length rcap) (.slice la r.x.ls.length lc) (.slice ta r.rp.text.length tc)) _ rfl HB2.out.box Tryz.underlying39 rfl size_rt (fun j _ => by rw [Nat.zero_add]) ?_; (focus (first | rfl | (go_simp; done)))))
 refine (rsmall_x r (.slice ra r.x.rc.length rcap) (.slice la r.x.ls.length lc) (.slice ta r.rp.text.length tc) _ (HA.out.next HB2.out.below)).mono ?_
 rintro e w3 ⟨q, rfl, hq, hb⟩
 have HB3 := Lib.hid (HB2.out.next hb)
 clear hb HB2
 cases q
 ·go_wp2_with fail
  go_ret
  exact ⟨rfl, HB3.out.below⟩
 have HS := Lib.hid (hq rfl)
 clear hq
 by_cases hk : 100 < kd.length
 ·go_wp2_with fail
  go_ret
  exact ⟨rfl, HB3.out.below⟩
 have HK := Lib.hid hk
 go_wp2_with (first | ((with_reducible refine tis_load (ty := 39) (x := .tmp 3) rfl ?_); refine tload ?_ 39 (.tmp 3) rfl (w.heap.size) 0 39 (RE r (.slice ra r.x.rc.length rcap) (.slice la r.x.ls.length lc) (.slice ta r.rp.text.length tc)) (RE r (.slice ra r.x.rc.length rcap) (.slice la r.x.ls.length lc) (.slice ta r.rp.text.length tc)) _ rfl HB3.out.box Tryz.underlying39 rfl size_rt (fun j _ => by rw [Nat.zero_add]) ?_; (focus (first | rfl | (go_simp; done)))))
 have HP3 := Lib.hid (rp_of (HA.out.at_.below HB3.out.below) HS.out HA.out.ri (HR.out _ HB3.out.below))
 refine (make_x r id (.slice ra r.x.rc.length rcap) (.slice la r.x.ls.length lc) (.slice ta r.rp.text.length tc) _ HP3.out).mono ?_
 rintro e w4 ⟨mr, ml, rfl, hM, hb, _, _⟩
 have HB4 := Lib.hid (HB3.out.next hb)
 have HP4 := Lib.hid (HP3.out.below hb)
 clear hb HB3 HP3 hk skd
 by_cases hE : mkE r id = 0
 rotate_left
 ·have HV0 := Lib.hid (show mkV r id = zeroE by unfold mkV; rw [if_neg hE])
  rw [HV0.out] at hM ⊢
  have h1 : (mkE r id != 0) = true := by simpa using hE
  have h2 : (mkE r id == 0) = false := by simpa using hE
  obtain ⟨ma, mc, rfl, _, _, _⟩ := hM.rc
  obtain ⟨na, nc, rfl⟩ := txts_slice hM.ls
  clear hE HV0 hM
  rw [show zeroE.rc.length = 0 from rfl, show zeroE.ls.length = 0 from rfl]
  go_upto_region 6 with (first | ((with_reducible refine tis_store (ty := 34) (x := .tmp 7) (y := .tmp 26) rfl ?_); refine wpList_store_blk rfl 34 (.tmp 7) (.tmp 26) rfl (w4.heap.size) 0 34 (EC zeroE nilS nilS) (EC zeroE (.slice ma 0 mc) (.slice na 0 nc)) (EC zeroE (.slice ma 0 mc) (.slice na 0 nc)) rfl rfl (newOf w4 _) size_msg (one_ECs _ _ _ _ _ _ _) (Nat.le_of_eq rfl) (whole_EC _ _ _ _ rfl) ?_; intro w5 hB hA))
  have hf := far_apart hA
  have HM := Lib.hid hB
  have HB5 := Lib.hid (HB4.out.next hf)
  clear hB hA hf HB4
  have c0 : w5.cell? ⟨w4.heap.size, 0, none⟩ = some (.int .i64 0) := cellOf HM.out 0
  have c19 : w5.cell? ⟨w4.heap.size, 19, none⟩ = some (.slice ma 0 mc) := cellOf HM.out 19
  have c20 : w5.cell? ⟨w4.heap.size, 20, none⟩ = some (.slice na 0 nc) := cellOf HM.out 20
  go_wp2_with fail
  go_ret
  exact ⟨rfl, HB5.out.below⟩
 have HM1 := Lib.hid (show rtE r = 0 ∧ (1 ≤ id ∧ id ≤ 2147483647) by
  unfold mkE at hE
  by_cases h1 : rtE r = 0
  ·refine ⟨h1, ?_⟩
   rw [if_neg (fun h => h h1)] at hE
   by_cases h2 : inR id 1 2147483647 = false
   ·rw [if_pos h2] at hE; exact absurd hE (by decide)
   ·unfold inR at h2
    simp at h2
    exact h2
  ·rw [if_pos h1] at hE; exact absurd hE h1)
 have HOK := Lib.hid (rt_ok HM1.out.1)
 have HV0 := Lib.hid (show mkV r id = mk r id by unfold mkV; rw [if_pos hE])
 rw [HV0.out] at hM ⊢
 rw [hE]
 clear hE HV0
 have HEM := Lib.hid hM
 obtain ⟨A9, mc, hv9, _, _, hx9⟩ := hM.rc
 obtain ⟨na, nc, hvl, _, _, hx0⟩ := hM.ls
 obtain ⟨A1, rfl, hab9, hat9⟩ := hx9 0 _ rfl
 have hf1 := mk_first HOK.out (by have := back_le (r := r); have := ls_le HOK.out.ok; omega)
 obtain ⟨L0, rfl, hlb, hlc⟩ := hx0 0 _ hf1.2
 subst hv9 hvl
 rw [Nat.zero_mul, show A1.add 0 = A1 from (by unfold Addr.add; first | rfl | exact if_pos rfl | simp)] at hat9
 rw [show L0.add 0 = L0 from (by unfold Addr.add; first | rfl | exact if_pos rfl | simp)] at hlc
 have hsp : A1.spot = none := World.cell?_spot hat9.c0
 obtain ⟨ab, ao, sp⟩ := A1
 simp only at hsp
 subst hsp
 have hsl : L0.spot = none := World.cell?_spot hlc
 obtain ⟨lb, lo, sl⟩ := L0
 simp only at hsl
 subst hsl
 generalize hn7 : (fitL 4093 (rtLines r)).length = n7 at *
 have HN7 := Lib.hid hn7
 have h7 : 7 ≤ n7 := hf1.1
 clear hn7
 have e7 : (mk r id).ls.length = n7 := HN7.out
 rw [e7] at HEM ⊢
 have e8 : (mk r id).rc.length = 1 := rfl
 rw [e8] at HEM ⊢
 clear hM hx9 hx0 e7 e8 hab9
 go_upto_region 6 with (first | ((with_reducible refine tis_store (ty := 34) (x := .tmp 7) (y := .tmp 26) rfl ?_); refine wpList_store_blk rfl 34 (.tmp 7) (.tmp 26) rfl (w4.heap.size) 0 34 (EC zeroE nilS nilS) (EC (mk r id) (.slice (some ⟨ab, ao, none⟩) 1 mc) (.slice (some ⟨lb, lo, none⟩) n7 nc)) (EC (mk r id) (.slice (some ⟨ab, ao, none⟩) 1 mc) (.slice (some ⟨lb, lo, none⟩) n7 nc)) rfl rfl (newOf w4 _) size_msg (one_ECs _ _ _ _ _ _ _) (Nat.le_of_eq rfl) (whole_EC _ _ _ _ rfl) ?_; intro w5 hB hA))
 have hf := far_apart hA
 have HB5 := Lib.hid (HB4.out.next hf)
 have HE5 := Lib.hid (HEM.out.below hf)
 have HP5 := Lib.hid (HP4.out.below hf)
 have hat5 := RcAt.below hat9 hf hat9.lt
 have HX := Lib.hid (show NX w w4.heap.size r id (.slice ra r.x.rc.length rcap) (.slice la r.x.ls.length lc) (.slice ta r.rp.text.length tc) (.slice (some ⟨ab, ao, none⟩) 1 mc) (.slice (some ⟨lb, lo, none⟩) n7 nc) ⟨ab, ao, none⟩ ⟨lb, lo, none⟩ ([70, 114, 111, 109, 58, 32, 60, 112, 111, 115, 116, 109, 97, 115, 116, 101, 114, 64] ++ r.host ++ [62]) w5 from ⟨⟨HB5.out.box, hB, hat5.c0, hat5.c1, (hf.cell hlb).trans hlc, hat5.lt, Nat.lt_of_lt_of_le hlb hf.size⟩, HB5.out.below, HE5.out, HP5.out⟩)
 clear hA hB hf HB4 HP4 HEM hat9 hat5 hlb hlc HB5 HE5 HP5
 generalize w4.heap.size = b7 at *
 have hh3 := HS.out.h
 have shost := mkS_size r.host
 have e106 : ((mkS ([70, 114, 111, 109, 58, 32, 60, 112, 111, 115, 116, 109, 97, 115, 116, 101, 114, 64] ++ r.host ++ [62])).toList == (((⟨#[70, 114, 111, 109, 58, 32, 60, 112, 111, 115, 116, 109, 97, 115, 116, 101, 114, 64]⟩ : ByteArray) ++ mkS r.host) ++ (⟨#[62]⟩ : ByteArray)).toList) = true := by
  rw [show ((⟨#[70, 114, 111, 109, 58, 32, 60, 112, 111, 115, 116, 109, 97, 115, 116, 101, 114, 64]⟩ : ByteArray) ++ mkS r.host) = mkS ([70, 114, 111, 109, 58, 32, 60, 112, 111, 115, 116, 109, 97, 115, 116, 101, 114, 64] ++ r.host) from mkS_cat _ _, show (mkS ([70, 114, 111, 109, 58, 32, 60, 112, 111, 115, 116, 109, 97, 115, 116, 101, 114, 64] ++ r.host) ++ (⟨#[62]⟩ : ByteArray)) = mkS ([70, 114, 111, 109, 58, 32, 60, 112, 111, 115, 116, 109, 97, 115, 116, 101, 114, 64] ++ r.host ++ [62]) from mkS_cat _ _]
  simp
 generalize [70, 114, 111, 109, 58, 32, 60, 112, 111, 115, 116, 109, 97, 115, 116, 101, 114, 64] ++ r.host ++ [62] = fl at HX e106
 have he : ∀ w, (Op.equalIn 10000 27 (.agg #[.string (mkS r.x.fr.1), .string (mkS r.x.fr.2)]) (.agg #[.string (mkS r.x.fr.1), .string (mkS r.x.fr.2)])).run Tryz.prog w = .ok true w := fun w => by have h := P.eqP r.x.fr r.x.fr w; simpa using h
 have h70 : ¬ ((n7 : Int) < 7) := by omega
 have h71 : ¬ n7 = 0 := by omega
 have hid : (id != id) = false := by simp
 have hnow : (r.now != r.now) = false := by simp
 go_upto_region 8 with fail
 go_cut [107] from 45 (fun q wc => q = .bool false ∧ Hid (NX w b7 r id (.slice ra r.x.rc.length rcap) (.slice la r.x.ls.length lc) (.slice ta r.rp.text.length tc) (.slice (some ⟨ab, ao, none⟩) 1 mc) (.slice (some ⟨lb, lo, none⟩) n7 nc) ⟨ab, ao, none⟩ ⟨lb, lo, none⟩ fl wc))
 case first =>
  refine wp_region_held_drew (S := NB w b7 r id (.slice ra r.x.rc.length rcap) (.slice la r.x.ls.length lc) (.slice ta r.rp.text.length tc) (.slice (some ⟨ab, ao, none⟩) 1 mc) (.slice (some ⟨lb, lo, none⟩) n7 nc) ⟨ab, ao, none⟩ ⟨lb, lo, none⟩ fl) (by kernel_rfl) (HX.out.next (Below.refl _ _).drew).nb (fun hH => ?_)
  have G1 := Lib.hid (HX.out.next (Below.refl _ _).drew)
  generalize World.drew _ = wd at *
  refine wpAnyH_take (i := 0) (oi := { dst := some 45, op := _, type := _, pos := _, after := _, guard := _ }) (v := .agg (EC (mk r id) (.slice (some ⟨ab, ao, none⟩) 1 mc) (.slice (some ⟨lb, lo, none⟩) n7 nc))) rfl (by kernel_rfl) (by kernel_rfl) (by kernel_rfl) (fun _ _ _ h => h) (Or.inl ⟨by kernel_rfl, fun wz hz => jload_op _ ⟨rfl, rfl⟩ (load_m hz.bm)⟩) hH ?_
  try simp only [Act.put, List.setIfInBounds_toArray, List.set_cons_zero, List.set_cons_succ]
  refine wpAnyH_ready (rs := [1]) (by kernel_rfl) (by simp) ?_
  refine AllReadyH.cons rfl (fun K hK => ?_) AllReadyH.nil
  go_simp
  go_at_call 11
  refine (right0_x HOK.out G1.out.rp HM1.out.2 G1.out.em).mono ?_
  rintro x w12 ⟨rfl, hb⟩
  have G2 := Lib.hid (G1.out.next hb)
  clear hb
  refine hK.out _ _ G2.out.nb (fun hHn => ?_)
  clear hK K hH
  have hH := hHn
  clear hHn
  try simp only [Act.put, List.setIfInBounds_toArray, List.set_cons_zero, List.set_cons_succ]
  refine wpAnyH_take (i := 2) (oi := { dst := some 47, op := _, type := _, pos := _, after := _, guard := _ }) (v := .bool false) rfl (by kernel_rfl) (by kernel_rfl) (by kernel_rfl) (fun _ _ _ h => h) (Or.inl ⟨by kernel_rfl, fun wz hz => by kernel_rfl⟩) hH ?_
  try simp only [Act.put, List.setIfInBounds_toArray, List.set_cons_zero, List.set_cons_succ]
  refine wpAnyH_take (i := 3) (oi := { dst := some 48, op := _, type := _, pos := _, after := _, guard := _ }) (v := .bool false) rfl (by kernel_rfl) (by kernel_rfl) (by kernel_rfl) (fun _ _ _ h => h) (Or.inl ⟨by kernel_rfl, fun wz hz => by kernel_rfl⟩) hH ?_
  try simp only [Act.put, List.setIfInBounds_toArray, List.set_cons_zero, List.set_cons_succ]
  refine wpAnyH_take (i := 4) (oi := { dst := some 49, op := _, type := _, pos := _, after := _, guard := _ }) (v := .pointer (some ⟨b7, 3, none⟩)) rfl (by kernel_rfl) (by kernel_rfl) (by kernel_rfl) (fun _ _ _ h => h) (Or.inl ⟨by kernel_rfl, fun wz hz => by kernel_rfl⟩) hH ?_
  try simp only [Act.put, List.setIfInBounds_toArray, List.set_cons_zero, List.set_cons_succ]
  refine wpAnyH_take (i := 5) (oi := { dst := some 50, op := _, type := _, pos := _, after := _, guard := _ }) (v := .agg #[.string (mkS []), .string (mkS [])]) rfl (by kernel_rfl) (by kernel_rfl) (by kernel_rfl) (fun _ _ _ h => h) (Or.inl ⟨by kernel_rfl, fun wz hz => jload_op _ ⟨rfl, rfl⟩ (load_mf hz.bm)⟩) hH ?_
  try simp only [Act.put, List.setIfInBounds_toArray, List.set_cons_zero, List.set_cons_succ]
  refine wpAnyH_ready (rs := [6]) (by kernel_rfl) (by simp) ?_
  refine AllReadyH.cons rfl (fun K hK => ?_) AllReadyH.nil
  go_simp
  go_at_call 12
  refine (null1_x _).mono ?_
  rintro x w13 ⟨rfl, hb⟩
  have G3 := Lib.hid (G2.out.next hb)
  clear hb
  refine hK.out _ _ G3.out.nb (fun hHn => ?_)
  clear hK K hH
  have hH := hHn
  clear hHn
  try simp only [Act.put, List.setIfInBounds_toArray, List.set_cons_zero, List.set_cons_succ]
  refine wpAnyH_take (i := 7) (oi := { dst := some 52, op := _, type := _, pos := _, after := _, guard := _ }) (v := .bool false) rfl (by kernel_rfl) (by kernel_rfl) (by kernel_rfl) (fun _ _ _ h => h) (Or.inl ⟨by kernel_rfl, fun wz hz => by kernel_rfl⟩) hH ?_
  try simp only [Act.put, List.setIfInBounds_toArray, List.set_cons_zero, List.set_cons_succ]
  refine wpAnyH_take (i := 8) (oi := { dst := some 53, op := _, type := _, pos := _, after := _, guard := _ }) (v := .bool false) rfl (by kernel_rfl) (by kernel_rfl) (by kernel_rfl) (fun _ _ _ h => h) (Or.inl ⟨by kernel_rfl, fun wz hz => by kernel_rfl⟩) hH ?_
  try simp only [Act.put, List.setIfInBounds_toArray, List.set_cons_zero, List.set_cons_succ]
  refine wpAnyH_take (i := 9) (oi := { dst := some 54, op := _, type := _, pos := _, after := _, guard := _ }) (v := .bool false) rfl (by kernel_rfl) (by kernel_rfl) (by kernel_rfl) (fun _ _ _ h => h) (Or.inl ⟨by kernel_rfl, fun wz hz => by kernel_rfl⟩) hH ?_
  try simp only [Act.put, List.setIfInBounds_toArray, List.set_cons_zero, List.set_cons_succ]
  refine wpAnyH_take (i := 10) (oi := { dst := some 55, op := _, type := _, pos := _, after := _, guard := _ }) (v := .pointer (some ⟨b7, 19, none⟩)) rfl (by kernel_rfl) (by kernel_rfl) (by kernel_rfl) (fun _ _ _ h => h) (Or.inl ⟨by kernel_rfl, fun wz hz => by kernel_rfl⟩) hH ?_
  try simp only [Act.put, List.setIfInBounds_toArray, List.set_cons_zero, List.set_cons_succ]
  refine wpAnyH_take (i := 11) (oi := { dst := some 56, op := _, type := _, pos := _, after := _, guard := _ }) (v := .slice (some ⟨ab, ao, none⟩) 1 mc) rfl (by kernel_rfl) (by kernel_rfl) (by kernel_rfl) (fun _ _ _ h => h) (Or.inl ⟨by kernel_rfl, fun wz hz => jload_op _ ⟨rfl, rfl⟩ ((load_mc hz.bm).2.2.2.1)⟩) hH ?_
  try simp only [Act.put, List.setIfInBounds_toArray, List.set_cons_zero, List.set_cons_succ]
  refine wpAnyH_take (i := 12) (oi := { dst := some 57, op := _, type := _, pos := _, after := _, guard := _ }) (v := .int .i64 1) rfl (by kernel_rfl) (by kernel_rfl) (by kernel_rfl) (fun _ _ _ h => h) (Or.inl ⟨by kernel_rfl, fun wz hz => by kernel_rfl⟩) hH ?_
  try simp only [Act.put, List.setIfInBounds_toArray, List.set_cons_zero, List.set_cons_succ]
  refine wpAnyH_take (i := 13) (oi := { dst := some 58, op := _, type := _, pos := _, after := _, guard := _ }) (v := .bool false) rfl (by kernel_rfl) (by kernel_rfl) (by kernel_rfl) (fun _ _ _ h => h) (Or.inl ⟨by kernel_rfl, fun wz hz => by kernel_rfl⟩) hH ?_
  try simp only [Act.put, List.setIfInBounds_toArray, List.set_cons_zero, List.set_cons_succ]
  refine wpAnyH_take (i := 14) (oi := { dst := some 59, op := _, type := _, pos := _, after := _, guard := _ }) (v := .bool false) rfl (by kernel_rfl) (by kernel_rfl) (by kernel_rfl) (fun _ _ _ h => h) (Or.inl ⟨by kernel_rfl, fun wz hz => by kernel_rfl⟩) hH ?_
  try simp only [Act.put, List.setIfInBounds_toArray, List.set_cons_zero, List.set_cons_succ]
  refine wpAnyH_take (i := 15) (oi := { dst := some 60, op := _, type := _, pos := _, after := _, guard := _ }) (v := .bool false) rfl (by kernel_rfl) (by kernel_rfl) (by kernel_rfl) (fun _ _ _ h => h) (Or.inl ⟨by kernel_rfl, fun wz hz => by kernel_rfl⟩) hH ?_
  try simp only [Act.put, List.setIfInBounds_toArray, List.set_cons_zero, List.set_cons_succ]
  refine wpAnyH_take (i := 16) (oi := { dst := some 61, op := _, type := _, pos := _, after := _, guard := _ }) (v := .pointer (some ⟨b7, 19, none⟩)) rfl (by kernel_rfl) (by kernel_rfl) (by kernel_rfl) (fun _ _ _ h => h) (Or.inl ⟨by kernel_rfl, fun wz hz => by kernel_rfl⟩) hH ?_
  try simp only [Act.put, List.setIfInBounds_toArray, List.set_cons_zero, List.set_cons_succ]
  refine wpAnyH_take (i := 17) (oi := { dst := some 62, op := _, type := _, pos := _, after := _, guard := _ }) (v := .slice (some ⟨ab, ao, none⟩) 1 mc) rfl (by kernel_rfl) (by kernel_rfl) (by kernel_rfl) (fun _ _ _ h => h) (Or.inl ⟨by kernel_rfl, fun wz hz => jload_op _ ⟨rfl, rfl⟩ ((load_mc hz.bm).2.2.2.1)⟩) hH ?_
  try simp only [Act.put, List.setIfInBounds_toArray, List.set_cons_zero, List.set_cons_succ]
  refine wpAnyH_take (i := 18) (oi := { dst := some 63, op := _, type := _, pos := _, after := _, guard := _ }) (v := .pointer (some ⟨ab, ao, none⟩)) rfl (by kernel_rfl) (by kernel_rfl) (by kernel_rfl) (fun _ _ _ h => h) (Or.inl ⟨by kernel_rfl, fun wz hz => by go_simp⟩) hH ?_
  try simp only [Act.put, List.setIfInBounds_toArray, List.set_cons_zero, List.set_cons_succ]
  refine wpAnyH_take (i := 19) (oi := { dst := some 64, op := _, type := _, pos := _, after := _, guard := _ }) (v := .pointer (some ⟨ab, ao, none⟩)) rfl (by kernel_rfl) (by kernel_rfl) (by kernel_rfl) (fun _ _ _ h => h) (Or.inl ⟨by kernel_rfl, fun wz hz => by kernel_rfl⟩) hH ?_
  try simp only [Act.put, List.setIfInBounds_toArray, List.set_cons_zero, List.set_cons_succ]
  refine wpAnyH_take (i := 20) (oi := { dst := some 65, op := _, type := _, pos := _, after := _, guard := _ }) (v := .agg #[.string (mkS r.x.fr.1), .string (mkS r.x.fr.2)]) rfl (by kernel_rfl) (by kernel_rfl) (by kernel_rfl) (fun _ _ _ h => h) (Or.inl ⟨by kernel_rfl, fun wz hz => jload_op _ ⟨rfl, rfl⟩ (load_a2 hz.ca hz.cb)⟩) hH ?_
  try simp only [Act.put, List.setIfInBounds_toArray, List.set_cons_zero, List.set_cons_succ]
  refine wpAnyH_take (i := 21) (oi := { dst := some 66, op := _, type := _, pos := _, after := _, guard := _ }) (v := .pointer (some ⟨w.heap.size, 1, none⟩)) rfl (by kernel_rfl) (by kernel_rfl) (by kernel_rfl) (fun _ _ _ h => h) (Or.inl ⟨by kernel_rfl, fun wz hz => by kernel_rfl⟩) hH ?_
  try simp only [Act.put, List.setIfInBounds_toArray, List.set_cons_zero, List.set_cons_succ]
  refine wpAnyH_take (i := 22) (oi := { dst := some 67, op := _, type := _, pos := _, after := _, guard := _ }) (v := .pointer (some ⟨w.heap.size, 4, none⟩)) rfl (by kernel_rfl) (by kernel_rfl) (by kernel_rfl) (fun _ _ _ h => h) (Or.inl ⟨by kernel_rfl, fun wz hz => by kernel_rfl⟩) hH ?_
  try simp only [Act.put, List.setIfInBounds_toArray, List.set_cons_zero, List.set_cons_succ]
  refine wpAnyH_take (i := 23) (oi := { dst := some 68, op := _, type := _, pos := _, after := _, guard := _ }) (v := .agg #[.string (mkS r.x.fr.1), .string (mkS r.x.fr.2)]) rfl (by kernel_rfl) (by kernel_rfl) (by kernel_rfl) (fun _ _ _ h => h) (Or.inl ⟨by kernel_rfl, fun wz hz => jload_op _ ⟨rfl, rfl⟩ (load_f hz.bx)⟩) hH ?_
  try simp only [Act.put, List.setIfInBounds_toArray, List.set_cons_zero, List.set_cons_succ]
  refine wpAnyH_take (i := 24) (oi := { dst := some 69, op := _, type := _, pos := _, after := _, guard := _ }) (v := .bool false) rfl (by kernel_rfl) (by kernel_rfl) (by kernel_rfl) (fun _ _ _ h => h) (Or.inl ⟨by kernel_rfl, fun wz hz => by have h := he wz; go_simp⟩) hH ?_
  try simp only [Act.put, List.setIfInBounds_toArray, List.set_cons_zero, List.set_cons_succ]
  refine wpAnyH_take (i := 25) (oi := { dst := some 70, op := _, type := _, pos := _, after := _, guard := _ }) (v := .bool false) rfl (by kernel_rfl) (by kernel_rfl) (by kernel_rfl) (fun _ _ _ h => h) (Or.inl ⟨by kernel_rfl, fun wz hz => by kernel_rfl⟩) hH ?_
  try simp only [Act.put, List.setIfInBounds_toArray, List.set_cons_zero, List.set_cons_succ]
  refine wpAnyH_take (i := 26) (oi := { dst := some 71, op := _, type := _, pos := _, after := _, guard := _ }) (v := .bool false) rfl (by kernel_rfl) (by kernel_rfl) (by kernel_rfl) (fun _ _ _ h => h) (Or.inl ⟨by kernel_rfl, fun wz hz => by kernel_rfl⟩) hH ?_
  try simp only [Act.put, List.setIfInBounds_toArray, List.set_cons_zero, List.set_cons_succ]
  refine wpAnyH_take (i := 27) (oi := { dst := some 72, op := _, type := _, pos := _, after := _, guard := _ }) (v := .pointer (some ⟨b7, 0, none⟩)) rfl (by kernel_rfl) (by kernel_rfl) (by kernel_rfl) (fun _ _ _ h => h) (Or.inl ⟨by kernel_rfl, fun wz hz => by kernel_rfl⟩) hH ?_
  try simp only [Act.put, List.setIfInBounds_toArray, List.set_cons_zero, List.set_cons_succ]
  refine wpAnyH_take (i := 28) (oi := { dst := some 73, op := _, type := _, pos := _, after := _, guard := _ }) (v := .int .i64 id) rfl (by kernel_rfl) (by kernel_rfl) (by kernel_rfl) (fun _ _ _ h => h) (Or.inl ⟨by kernel_rfl, fun wz hz => jload_op _ ⟨rfl, rfl⟩ ((load_mc hz.bm).1)⟩) hH ?_
  try simp only [Act.put, List.setIfInBounds_toArray, List.set_cons_zero, List.set_cons_succ]
  refine wpAnyH_take (i := 29) (oi := { dst := some 74, op := _, type := _, pos := _, after := _, guard := _ }) (v := .int .i64 id) rfl (by kernel_rfl) (by kernel_rfl) (by kernel_rfl) (fun _ _ _ h => h) (Or.inl ⟨by kernel_rfl, fun wz hz => by kernel_rfl⟩) hH ?_
  try simp only [Act.put, List.setIfInBounds_toArray, List.set_cons_zero, List.set_cons_succ]
  refine wpAnyH_take (i := 30) (oi := { dst := some 75, op := _, type := _, pos := _, after := _, guard := _ }) (v := .bool false) rfl (by kernel_rfl) (by kernel_rfl) (by kernel_rfl) (fun _ _ _ h => h) (Or.inl ⟨by kernel_rfl, fun wz hz => by have h := hid; go_simp⟩) hH ?_
  try simp only [Act.put, List.setIfInBounds_toArray, List.set_cons_zero, List.set_cons_succ]
  refine wpAnyH_take (i := 31) (oi := { dst := some 76, op := _, type := _, pos := _, after := _, guard := _ }) (v := .bool false) rfl (by kernel_rfl) (by kernel_rfl) (by kernel_rfl) (fun _ _ _ h => h) (Or.inl ⟨by kernel_rfl, fun wz hz => by kernel_rfl⟩) hH ?_
  try simp only [Act.put, List.setIfInBounds_toArray, List.set_cons_zero, List.set_cons_succ]
  refine wpAnyH_take (i := 32) (oi := { dst := some 77, op := _, type := _, pos := _, after := _, guard := _ }) (v := .bool false) rfl (by kernel_rfl) (by kernel_rfl) (by kernel_rfl) (fun _ _ _ h => h) (Or.inl ⟨by kernel_rfl, fun wz hz => by kernel_rfl⟩) hH ?_
  try simp only [Act.put, List.setIfInBounds_toArray, List.set_cons_zero, List.set_cons_succ]
  refine wpAnyH_take (i := 33) (oi := { dst := some 78, op := _, type := _, pos := _, after := _, guard := _ }) (v := .pointer (some ⟨b7, 1, none⟩)) rfl (by kernel_rfl) (by kernel_rfl) (by kernel_rfl) (fun _ _ _ h => h) (Or.inl ⟨by kernel_rfl, fun wz hz => by kernel_rfl⟩) hH ?_
  try simp only [Act.put, List.setIfInBounds_toArray, List.set_cons_zero, List.set_cons_succ]
  refine wpAnyH_take (i := 34) (oi := { dst := some 79, op := _, type := _, pos := _, after := _, guard := _ }) (v := .int .i64 r.now) rfl (by kernel_rfl) (by kernel_rfl) (by kernel_rfl) (fun _ _ _ h => h) (Or.inl ⟨by kernel_rfl, fun wz hz => jload_op _ ⟨rfl, rfl⟩ ((load_mc hz.bm).2.1)⟩) hH ?_
  try simp only [Act.put, List.setIfInBounds_toArray, List.set_cons_zero, List.set_cons_succ]
  refine wpAnyH_take (i := 35) (oi := { dst := some 80, op := _, type := _, pos := _, after := _, guard := _ }) (v := .pointer (some ⟨w.heap.size, 23, none⟩)) rfl (by kernel_rfl) (by kernel_rfl) (by kernel_rfl) (fun _ _ _ h => h) (Or.inl ⟨by kernel_rfl, fun wz hz => by kernel_rfl⟩) hH ?_
  try simp only [Act.put, List.setIfInBounds_toArray, List.set_cons_zero, List.set_cons_succ]
  refine wpAnyH_take (i := 36) (oi := { dst := some 81, op := _, type := _, pos := _, after := _, guard := _ }) (v := .int .i64 r.now) rfl (by kernel_rfl) (by kernel_rfl) (by kernel_rfl) (fun _ _ _ h => h) (Or.inl ⟨by kernel_rfl, fun wz hz => jload_op _ ⟨rfl, rfl⟩ ((load_c hz.bx).2)⟩) hH ?_
  try simp only [Act.put, List.setIfInBounds_toArray, List.set_cons_zero, List.set_cons_succ]
  refine wpAnyH_take (i := 37) (oi := { dst := some 82, op := _, type := _, pos := _, after := _, guard := _ }) (v := .bool false) rfl (by kernel_rfl) (by kernel_rfl) (by kernel_rfl) (fun _ _ _ h => h) (Or.inl ⟨by kernel_rfl, fun wz hz => by have h := hnow; go_simp⟩) hH ?_
  try simp only [Act.put, List.setIfInBounds_toArray, List.set_cons_zero, List.set_cons_succ]
  refine wpAnyH_take (i := 38) (oi := { dst := some 83, op := _, type := _, pos := _, after := _, guard := _ }) (v := .bool false) rfl (by kernel_rfl) (by kernel_rfl) (by kernel_rfl) (fun _ _ _ h => h) (Or.inl ⟨by kernel_rfl, fun wz hz => by kernel_rfl⟩) hH ?_
  try simp only [Act.put, List.setIfInBounds_toArray, List.set_cons_zero, List.set_cons_succ]
  refine wpAnyH_take (i := 39) (oi := { dst := some 84, op := _, type := _, pos := _, after := _, guard := _ }) (v := .bool false) rfl (by kernel_rfl) (by kernel_rfl) (by kernel_rfl) (fun _ _ _ h => h) (Or.inl ⟨by kernel_rfl, fun wz hz => by kernel_rfl⟩) hH ?_
  try simp only [Act.put, List.setIfInBounds_toArray, List.set_cons_zero, List.set_cons_succ]
  refine wpAnyH_take (i := 40) (oi := { dst := some 85, op := _, type := _, pos := _, after := _, guard := _ }) (v := .pointer (some ⟨b7, 2, none⟩)) rfl (by kernel_rfl) (by kernel_rfl) (by kernel_rfl) (fun _ _ _ h => h) (Or.inl ⟨by kernel_rfl, fun wz hz => by kernel_rfl⟩) hH ?_
  try simp only [Act.put, List.setIfInBounds_toArray, List.set_cons_zero, List.set_cons_succ]
  refine wpAnyH_take (i := 41) (oi := { dst := some 86, op := _, type := _, pos := _, after := _, guard := _ }) (v := .int .i64 r.now) rfl (by kernel_rfl) (by kernel_rfl) (by kernel_rfl) (fun _ _ _ h => h) (Or.inl ⟨by kernel_rfl, fun wz hz => jload_op _ ⟨rfl, rfl⟩ ((load_mc hz.bm).2.2.1)⟩) hH ?_
  try simp only [Act.put, List.setIfInBounds_toArray, List.set_cons_zero, List.set_cons_succ]
  refine wpAnyH_take (i := 42) (oi := { dst := some 87, op := _, type := _, pos := _, after := _, guard := _ }) (v := .pointer (some ⟨w.heap.size, 23, none⟩)) rfl (by kernel_rfl) (by kernel_rfl) (by kernel_rfl) (fun _ _ _ h => h) (Or.inl ⟨by kernel_rfl, fun wz hz => by kernel_rfl⟩) hH ?_
  try simp only [Act.put, List.setIfInBounds_toArray, List.set_cons_zero, List.set_cons_succ]
  refine wpAnyH_take (i := 43) (oi := { dst := some 88, op := _, type := _, pos := _, after := _, guard := _ }) (v := .int .i64 r.now) rfl (by kernel_rfl) (by kernel_rfl) (by kernel_rfl) (fun _ _ _ h => h) (Or.inl ⟨by kernel_rfl, fun wz hz => jload_op _ ⟨rfl, rfl⟩ ((load_c hz.bx).2)⟩) hH ?_
  try simp only [Act.put, List.setIfInBounds_toArray, List.set_cons_zero, List.set_cons_succ]
  refine wpAnyH_take (i := 44) (oi := { dst := some 89, op := _, type := _, pos := _, after := _, guard := _ }) (v := .bool false) rfl (by kernel_rfl) (by kernel_rfl) (by kernel_rfl) (fun _ _ _ h => h) (Or.inl ⟨by kernel_rfl, fun wz hz => by have h := hnow; go_simp⟩) hH ?_
  try simp only [Act.put, List.setIfInBounds_toArray, List.set_cons_zero, List.set_cons_succ]
  refine wpAnyH_take (i := 45) (oi := { dst := some 90, op := _, type := _, pos := _, after := _, guard := _ }) (v := .bool false) rfl (by kernel_rfl) (by kernel_rfl) (by kernel_rfl) (fun _ _ _ h => h) (Or.inl ⟨by kernel_rfl, fun wz hz => by kernel_rfl⟩) hH ?_
  try simp only [Act.put, List.setIfInBounds_toArray, List.set_cons_zero, List.set_cons_succ]
  refine wpAnyH_take (i := 46) (oi := { dst := some 91, op := _, type := _, pos := _, after := _, guard := _ }) (v := .bool false) rfl (by kernel_rfl) (by kernel_rfl) (by kernel_rfl) (fun _ _ _ h => h) (Or.inl ⟨by kernel_rfl, fun wz hz => by kernel_rfl⟩) hH ?_
  try simp only [Act.put, List.setIfInBounds_toArray, List.set_cons_zero, List.set_cons_succ]
  refine wpAnyH_take (i := 47) (oi := { dst := some 92, op := _, type := _, pos := _, after := _, guard := _ }) (v := .pointer (some ⟨b7, 20, none⟩)) rfl (by kernel_rfl) (by kernel_rfl) (by kernel_rfl) (fun _ _ _ h => h) (Or.inl ⟨by kernel_rfl, fun wz hz => by kernel_rfl⟩) hH ?_
  try simp only [Act.put, List.setIfInBounds_toArray, List.set_cons_zero, List.set_cons_succ]
  refine wpAnyH_take (i := 48) (oi := { dst := some 93, op := _, type := _, pos := _, after := _, guard := _ }) (v := .slice (some ⟨lb, lo, none⟩) n7 nc) rfl (by kernel_rfl) (by kernel_rfl) (by kernel_rfl) (fun _ _ _ h => h) (Or.inl ⟨by kernel_rfl, fun wz hz => jload_op _ ⟨rfl, rfl⟩ ((load_mc hz.bm).2.2.2.2)⟩) hH ?_
  try simp only [Act.put, List.setIfInBounds_toArray, List.set_cons_zero, List.set_cons_succ]
  refine wpAnyH_take (i := 49) (oi := { dst := some 94, op := _, type := _, pos := _, after := _, guard := _ }) (v := .int .i64 (n7 : Int)) rfl (by kernel_rfl) (by kernel_rfl) (by kernel_rfl) (fun _ _ _ h => h) (Or.inl ⟨by kernel_rfl, fun wz hz => by kernel_rfl⟩) hH ?_
  try simp only [Act.put, List.setIfInBounds_toArray, List.set_cons_zero, List.set_cons_succ]
  refine wpAnyH_take (i := 50) (oi := { dst := some 95, op := _, type := _, pos := _, after := _, guard := _ }) (v := .bool false) rfl (by kernel_rfl) (by kernel_rfl) (by kernel_rfl) (fun _ _ _ h => h) (Or.inl ⟨by kernel_rfl, fun wz hz => by have h := h70; go_simp⟩) hH ?_
  try simp only [Act.put, List.setIfInBounds_toArray, List.set_cons_zero, List.set_cons_succ]
  refine wpAnyH_take (i := 51) (oi := { dst := some 96, op := _, type := _, pos := _, after := _, guard := _ }) (v := .bool false) rfl (by kernel_rfl) (by kernel_rfl) (by kernel_rfl) (fun _ _ _ h => h) (Or.inl ⟨by kernel_rfl, fun wz hz => by kernel_rfl⟩) hH ?_
  try simp only [Act.put, List.setIfInBounds_toArray, List.set_cons_zero, List.set_cons_succ]
  refine wpAnyH_take (i := 52) (oi := { dst := some 97, op := _, type := _, pos := _, after := _, guard := _ }) (v := .bool false) rfl (by kernel_rfl) (by kernel_rfl) (by kernel_rfl) (fun _ _ _ h => h) (Or.inl ⟨by kernel_rfl, fun wz hz => by kernel_rfl⟩) hH ?_
  try simp only [Act.put, List.setIfInBounds_toArray, List.set_cons_zero, List.set_cons_succ]
  refine wpAnyH_take (i := 53) (oi := { dst := some 98, op := _, type := _, pos := _, after := _, guard := _ }) (v := .pointer (some ⟨b7, 20, none⟩)) rfl (by kernel_rfl) (by kernel_rfl) (by kernel_rfl) (fun _ _ _ h => h) (Or.inl ⟨by kernel_rfl, fun wz hz => by kernel_rfl⟩) hH ?_
  try simp only [Act.put, List.setIfInBounds_toArray, List.set_cons_zero, List.set_cons_succ]
  refine wpAnyH_take (i := 54) (oi := { dst := some 99, op := _, type := _, pos := _, after := _, guard := _ }) (v := .slice (some ⟨lb, lo, none⟩) n7 nc) rfl (by kernel_rfl) (by kernel_rfl) (by kernel_rfl) (fun _ _ _ h => h) (Or.inl ⟨by kernel_rfl, fun wz hz => jload_op _ ⟨rfl, rfl⟩ ((load_mc hz.bm).2.2.2.2)⟩) hH ?_
  try simp only [Act.put, List.setIfInBounds_toArray, List.set_cons_zero, List.set_cons_succ]
  refine wpAnyH_take (i := 55) (oi := { dst := some 100, op := _, type := _, pos := _, after := _, guard := _ }) (v := .pointer (some ⟨lb, lo, none⟩)) rfl (by kernel_rfl) (by kernel_rfl) (by kernel_rfl) (fun _ _ _ h => h) (Or.inl ⟨by kernel_rfl, fun wz hz => by have h := h71; go_simp⟩) hH ?_
  try simp only [Act.put, List.setIfInBounds_toArray, List.set_cons_zero, List.set_cons_succ]
  refine wpAnyH_take (i := 56) (oi := { dst := some 101, op := _, type := _, pos := _, after := _, guard := _ }) (v := .string (mkS fl)) rfl (by kernel_rfl) (by kernel_rfl) (by kernel_rfl) (fun _ _ _ h => h) (Or.inl ⟨by kernel_rfl, fun wz hz => jload_op _ ⟨rfl, rfl⟩ (load_t hz.cl)⟩) hH ?_
  try simp only [Act.put, List.setIfInBounds_toArray, List.set_cons_zero, List.set_cons_succ]
  refine wpAnyH_take (i := 57) (oi := { dst := some 102, op := _, type := _, pos := _, after := _, guard := _ }) (v := .pointer (some ⟨w.heap.size, 25, none⟩)) rfl (by kernel_rfl) (by kernel_rfl) (by kernel_rfl) (fun _ _ _ h => h) (Or.inl ⟨by kernel_rfl, fun wz hz => by kernel_rfl⟩) hH ?_
  try simp only [Act.put, List.setIfInBounds_toArray, List.set_cons_zero, List.set_cons_succ]
  refine wpAnyH_take (i := 58) (oi := { dst := some 103, op := _, type := _, pos := _, after := _, guard := _ }) (v := .string (mkS r.host)) rfl (by kernel_rfl) (by kernel_rfl) (by kernel_rfl) (fun _ _ _ h => h) (Or.inl ⟨by kernel_rfl, fun wz hz => jload_op _ ⟨rfl, rfl⟩ ((load_c hz.bx).1)⟩) hH ?_
  try simp only [Act.put, List.setIfInBounds_toArray, List.set_cons_zero, List.set_cons_succ]
  refine wpAnyH_take (i := 59) (oi := { dst := some 104, op := _, type := _, pos := _, after := _, guard := _ }) (v := .string ((⟨#[70, 114, 111, 109, 58, 32, 60, 112, 111, 115, 116, 109, 97, 115, 116, 101, 114, 64]⟩ : ByteArray) ++ (mkS r.host))) rfl (by kernel_rfl) (by kernel_rfl) (by kernel_rfl) (fun _ _ _ h => h) (Or.inl ⟨by kernel_rfl, fun wz hz => by go_simp; omega⟩) hH ?_
  try simp only [Act.put, List.setIfInBounds_toArray, List.set_cons_zero, List.set_cons_succ]
  refine wpAnyH_take (i := 60) (oi := { dst := some 105, op := _, type := _, pos := _, after := _, guard := _ }) (v := .string (((⟨#[70, 114, 111, 109, 58, 32, 60, 112, 111, 115, 116, 109, 97, 115, 116, 101, 114, 64]⟩ : ByteArray) ++ (mkS r.host)) ++ (⟨#[62]⟩ : ByteArray))) rfl (by kernel_rfl) (by kernel_rfl) (by kernel_rfl) (fun _ _ _ h => h) (Or.inl ⟨by kernel_rfl, fun wz hz => by go_simp; omega⟩) hH ?_
  try simp only [Act.put, List.setIfInBounds_toArray, List.set_cons_zero, List.set_cons_succ]
  refine wpAnyH_take (i := 61) (oi := { dst := some 106, op := _, type := _, pos := _, after := _, guard := _ }) (v := .bool false) rfl (by kernel_rfl) (by kernel_rfl) (by kernel_rfl) (fun _ _ _ h => h) (Or.inl ⟨by kernel_rfl, fun wz hz => by have h := e106; go_simp⟩) hH ?_
  try simp only [Act.put, List.setIfInBounds_toArray, List.set_cons_zero, List.set_cons_succ]
  refine wpAnyH_take (i := 62) (oi := { dst := some 107, op := _, type := _, pos := _, after := _, guard := _ }) (v := .bool false) rfl (by kernel_rfl) (by kernel_rfl) (by kernel_rfl) (fun _ _ _ h => h) (Or.inl ⟨by kernel_rfl, fun wz hz => by kernel_rfl⟩) hH ?_
  try simp only [Act.put, List.setIfInBounds_toArray, List.set_cons_zero, List.set_cons_succ]
  refine wpAnyH_done (by kernel_rfl) ?_ _
  go_wp2_with fail
  go_meet
  case rel => exact ⟨rfl, Lib.hid ⟨G3.out.nb, G3.out.bl, G3.out.em, G3.out.rp⟩⟩
 case rest =>
 obtain ⟨rfl, HX8⟩ := hcut
 clear HX e106 he h70 h71 hid hnow shost
 have c23 := cellOf HX8.out.nb.bx 23
 have c25 := cellOf HX8.out.nb.bx 25
 unfold RE at c23 c25
 simp only [List.getElem?_toArray, List.getElem?_cons_succ, List.getElem?_cons_zero] at c23 c25
 go_upto_region 11 with (first | ((with_reducible refine tis_load (ty := 34) (x := .tmp 7) rfl ?_); refine tload ?_ 34 (.tmp 7) rfl b7 0 34 (EC (mk r id) (.slice (some ⟨ab, ao, none⟩) 1 mc) (.slice (some ⟨lb, lo, none⟩) n7 nc)) #[.int .i64 id, .int .i64 r.now, .int .i64 r.now, .string { data := #[] }, .string { data := #[] }, .bool false, .bool false, .bool false, .bool false, .bool false, .int .i64 0, .int .i64 0, .int .i64 0, .int .i64 0, .int .i64 0, .string { data := #[] }, .string { data := #[] }, .string { data := #[] }, .string { data := #[] }, .slice (some ⟨ab, ao, none⟩) 1 mc, .slice (some ⟨lb, lo, none⟩) n7 nc] _ rfl HX8.out.nb.bm Tryz.underlying34 rfl size_msg (fun j _ => by rw [Nat.zero_add]; rfl) ?_; (focus (first | rfl | (go_simp; done)))) | ((with_reducible refine tis_store (ty := 39) (x := .tmp 9) (y := .tmp 114) rfl ?_); refine wpList_store_blk rfl 39 (.tmp 9) (.tmp 114) rfl (wc.heap.size) 0 39 (RE zR nilS nilS nilS) (RE (again r id kd) (.slice (some ⟨ab, ao, none⟩) 1 mc) (.slice (some ⟨lb, lo, none⟩) n7 nc) nilS) (RE (again r id kd) (.slice (some ⟨ab, ao, none⟩) 1 mc) (.slice (some ⟨lb, lo, none⟩) n7 nc) nilS) rfl rfl (newOf wc _) size_rt (one_REs _ _ _ _ _ _ _ _ _ _) (Nat.le_of_eq rfl) (whole_REs _ _ _ _ _ rfl) ?_; intro w9 hB hA))
 have hf := far_apart hA
 have HX9 := Lib.hid (HX8.out.next hf)
 have HG := Lib.hid hB
 have HBL := Lib.hid (far_apart hA)
 clear hA hB hf c23 c25 HX8
 generalize hb9 : wc.heap.size = b9 at *
 clear hb9
 go_wp2_with (first | ((with_reducible refine tis_load (ty := 39) (x := .tmp 9) rfl ?_); refine tload ?_ 39 (.tmp 9) rfl (b9) 0 39 (RE (again r id kd) (.slice (some ⟨ab, ao, none⟩) 1 mc) (.slice (some ⟨lb, lo, none⟩) n7 nc) nilS) (RE (again r id kd) (.slice (some ⟨ab, ao, none⟩) 1 mc) (.slice (some ⟨lb, lo, none⟩) n7 nc) nilS) _ rfl HG.out Tryz.underlying39 rfl size_rt (fun j _ => by rw [Nat.zero_add]) ?_; (focus (first | rfl | (go_simp; done)))))
 refine (make_x (again r id kd) 1 _ _ _ _ (rp_again HOK.out HX9.out.rp (by have := HK.out; omega) HX9.out.em (HR.out _ HX9.out.bl))).mono ?_
 rintro e w10 ⟨mr2, ml2, rfl, hM2, hb, _, _⟩
 have HX10 := Lib.hid (HX9.out.next hb)
 have HAG := Lib.hid (again_m HOK.out HM1.out.2 kd)
 rw [HAG.out.2] at hM2 ⊢
 rw [HAG.out.1]
 obtain ⟨ma2, mc2, rfl, _, _, _⟩ := hM2.rc
 obtain ⟨na2, nc2, rfl⟩ := txts_slice hM2.ls
 rw [show zeroE.rc.length = 0 from rfl, show zeroE.ls.length = 0 from rfl]
 clear hb hM2 HX9
 go_upto_region 12 with (first | ((with_reducible refine tis_store (ty := 34) (x := .tmp 10) (y := .tmp 118) rfl ?_); refine wpList_store_blk rfl 34 (.tmp 10) (.tmp 118) rfl (w10.heap.size) 0 34 (EC zeroE nilS nilS) (EC zeroE (.slice ma2 0 mc2) (.slice na2 0 nc2)) (EC zeroE (.slice ma2 0 mc2) (.slice na2 0 nc2)) rfl rfl (newOf w10 _) size_msg (one_ECs _ _ _ _ _ _ _) (Nat.le_of_eq rfl) (whole_EC _ _ _ _ rfl) ?_; intro w11 hB hA))
 have HXE := Lib.hid (HX10.out.next (far_apart hA))
 clear hA hB HX10
 by_cases hc : clsK kd = none
 ·rw [if_pos hc]
  clear hc
  go_wp2_with fail
  go_ret
  exact ⟨rfl, HXE.out.bl⟩
 ·rw [if_neg hc]
  clear hc
  go_wp2_with fail
  go_ret
  exact ⟨rfl, HXE.out.bl⟩
end Go.Proofs.YtojpkbonioglbaaGreatDoor.E.T
