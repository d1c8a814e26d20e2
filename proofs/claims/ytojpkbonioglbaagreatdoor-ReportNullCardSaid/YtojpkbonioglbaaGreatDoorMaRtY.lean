import Derived.Test.YtojpkbonioglbaaGreatDoorMaRtX
namespace Go.Proofs.YtojpkbonioglbaaGreatDoor.E.T
set_option maxRecDepth 100000
set_option linter.unusedSimpArgs false
open Go.RowKit Go.Shelf
theorem low_eq (l : Txt) : Lib.toLowerA l = lowL l := by
 unfold lowL P.smallL Lib.toLowerA
 refine List.map_congr_left fun b _ => ?_
 have := P.all_bytes (P := fun b => Lib.lowerB b == P.smallB b) (by decide +kernel) b
 simpa using this
theorem lower_x (l : Txt) (w : World) (hl : l.length ≤ 1000000) (ha : ∀ b ∈ l, b.toNat < 128) : Calls Tryz.prog 57 #[.string (mkS l)] w fun e w' => e = .returned (.string (mkS (lowL l))) ∧ Below w.heap.size w w' := by
 have h := Tryz.strings_ToLower_ascii (mkS l) w (by rw [mkS_size]; omega) (fun j b hb => ha b (by rw [mkS_data] at hb; exact List.mem_of_getElem? hb))
 rwa [mkS_data, low_eq] at h
structure OB (W : World) (b1 : Nat) (r : RT) (vr vl vt : Value) (w : World) : Prop where
 bx : w.heap[W.heap.size]? = some (.cells (RE r vr vl vt) 39 (0, 0))
 rc : w.heap[b1]? = some (.cells (RC (rtTo r)) 49 (0, 0))
theorem OB.next {W w w' : World} {b1 : Nat} {r : RT} {vr vl vt : Value} (h : OB W b1 r vr vl vt w) (hb : Below w.heap.size w w') : OB W b1 r vr vl vt w' := ⟨(hb.block _ (ltOf h.bx)).trans h.bx, (hb.block _ (ltOf h.rc)).trans h.rc⟩
structure OS (W : World) (g R : Nat) (l : List Txt) (b1 : Nat) (r : RT) (vr vl vt : Value) (w : World) : Prop where
 ob : OB W b1 r vr vl vt w
 sl : SL g R l w
 sy : Sy g R W w
 g1 : W.heap.size ≠ g
 g2 : b1 ≠ g
theorem OS.next {W w w' : World} {g R b1 : Nat} {l : List Txt} {r : RT} {vr vl vt : Value} (h : OS W g R l b1 r vr vl vt w) (hb : Below w.heap.size w w') : OS W g R l b1 r vr vl vt w' := ⟨h.ob.next hb, h.sl.next hb, h.sy.trans (Sy.of hb h.sl.le), h.g1, h.g2⟩
theorem OS.said {W w w' : World} {g R b1 : Nat} {l l' : List Txt} {r : RT} {vr vl vt : Value} (h : OS W g R l b1 r vr vl vt w) (h1 : SL g R l' w') (h2 : Sy g R w w') : OS W g R l' b1 r vr vl vt w' :=
 ⟨⟨h2.keep _ _ h.ob.bx h.g1 (fun cs fz e => by injection e with _ e; exact absurd e (by decide)), h2.keep _ _ h.ob.rc h.g2 (fun cs fz e => by injection e with _ e; exact absurd e (by decide))⟩, h1, h.sy.trans h2, h.g1, h.g2⟩
theorem load_to {w : World} {z : Nat} {c : Rc} (h : w.heap[z]? = some (.cells (RC c) 49 (0, 0))) : (loadVar 9 ⟨z, 3, none⟩).run Tryz.prog w = .ok (.string (mkS c.r.kind)) w ∧ (loadVar 9 ⟨z, 4, none⟩).run Tryz.prog w = .ok (.string (mkS c.r.oc)) w := by
 have d3 : w.cell? ⟨z, 3, none⟩ = some (.string (mkS c.r.kind)) := cellOf h 3
 have d4 : w.cell? ⟨z, 4, none⟩ = some (.string (mkS c.r.oc)) := cellOf h 4
 constructor <;> go_simp
theorem load_tp {w : World} {z : Nat} {c : Rc} (h : w.heap[z]? = some (.cells (RC c) 49 (0, 0))) : (loadVar 27 ⟨z, 0, none⟩).run Tryz.prog w = .ok (.agg #[.string (mkS c.p.1), .string (mkS c.p.2)]) w :=
 loadVar_blk (P := Tryz.prog) (ty := 27) (o := 0) (vs := #[.string (mkS c.p.1), .string (mkS c.p.2)]) h Tryz.underlying27 rfl size_pt (fun j hj => by
  have hj' : j < 2 := hj
  match j, hj' with
  | 0, _ => rfl
  | 1, _ => rfl)
theorem load_rp {w : World} {z : Nat} {r : RT} {vr vl : Value} {a : Option Addr} {n c : Nat} (h : w.heap[z]? = some (.cells (RE r vr vl (.slice a n c)) 39 (0, 0))) : (loadVar 3 ⟨z, 26, none⟩).run Tryz.prog w = .ok (.int .i64 r.rp.code) w ∧ (loadVar 22 ⟨z, 30, none⟩).run Tryz.prog w = .ok (.slice a n c) w := by
 have d3 : w.cell? ⟨z, 26, none⟩ = some (.int .i64 r.rp.code) := cellOf h 26
 have d4 : w.cell? ⟨z, 30, none⟩ = some (.slice a n c) := cellOf h 30
 constructor <;> go_simp
theorem txt0 {w : World} {A : Addr} {n c : Nat} {t : Txt} {ts l : List Txt} (h : TxtsAt w (.slice (some A) n c) l) (hl : l = t :: ts) : w.cell? A = some (.string (mkS t)) := by
 obtain ⟨a', c', hv, _, _, hx⟩ := h
 injection hv with e1 _ _
 subst e1
 obtain ⟨A', e, _, hc⟩ := hx 0 t (by rw [hl]; rfl)
 injection e with e
 subst e
 rwa [show A.add 0 = A from (by unfold Addr.add; first | rfl | exact if_pos rfl | simp)] at hc
theorem bareb_x (t : Txt) (w : World) (hl : t.length ≤ 1000000) : Calls Tryz.prog 58 #[.string (mkS t)] w fun e w' => e = .returned (.string (mkS (bareL t))) ∧ Below w.heap.size w w' :=
 (bare_x t w hl).mono fun _ _ h => ⟨h.1, by rw [← h.2]; exact Below.refl _ _⟩
theorem load_t {w : World} {A : Addr} {t : Txt} (h : w.cell? A = some (.string (mkS t))) : (loadVar 9 A).run Tryz.prog w = .ok (.string (mkS t)) w := by
 go_simp
theorem dots_len {e : E3} (h : I3 e) : (dots e).length ≤ 1000 := by
 have l1 := R.itoa_len h.1
 have l2 := R.itoa_len h.2.1
 have l3 := R.itoa_len h.2.2
 unfold dots
 simp only [List.length_append, List.length_cons]
 omega
theorem bare_len (t : Txt) : (bareL t).length ≤ t.length := by
 unfold bareL Lib.trimSuffix Lib.trimPrefix
 split <;> split <;> simp <;> omega
theorem low_len (t : Txt) : (lowL t).length = t.length := by unfold lowL P.smallL; simp
theorem lenA (r : RT) : (if (rtTo r).r.kind = [] then [] else [[79, 114, 105, 103, 105, 110, 97, 108, 45, 82, 101, 99, 105, 112, 105, 101, 110, 116, 58, 32] ++ lowL (rtTo r).r.kind ++ [59, 32] ++ X.encX (rtTo r).r.oc]).length ≤ 1 := by split <;> simp
theorem lenC (r : RT) : (if r.rp.code = 0 then [] else [[68, 105, 97, 103, 110, 111, 115, 116, 105, 99, 45, 67, 111, 100, 101, 58, 32, 115, 109, 116, 112, 59, 32] ++ Lib.itoa r.rp.code ++ [32] ++ r.rp.text.headD []]).length ≤ 1 := by split <;> simp
theorem lenD (r : RT) : (if r.kind = kDel then [[87, 105, 108, 108, 45, 82, 101, 116, 114, 121, 45, 85, 110, 116, 105, 108, 58, 32] ++ tmL r.til] else []).length ≤ 1 := by split <;> simp
theorem sec4_eq (l : List Txt) (r : RT) : l ++ (if (rtTo r).r.kind = [] then [] else [[79, 114, 105, 103, 105, 110, 97, 108, 45, 82, 101, 99, 105, 112, 105, 101, 110, 116, 58, 32] ++ lowL (rtTo r).r.kind ++ [59, 32] ++ X.encX (rtTo r).r.oc]) ++ [[70, 105, 110, 97, 108, 45, 82, 101, 99, 105, 112, 105, 101, 110, 116, 58, 32, 114, 102, 99, 56, 50, 50, 59, 32] ++ bareL (P.textL (rtTo r).p), [65, 99, 116, 105, 111, 110, 58, 32] ++ r.kind, [83, 116, 97, 116, 117, 115, 58, 32] ++ dots (rtCode r)] ++ (if r.rp.code = 0 then [] else [[68, 105, 97, 103, 110, 111, 115, 116, 105, 99, 45, 67, 111, 100, 101, 58, 32, 115, 109, 116, 112, 59, 32] ++ Lib.itoa r.rp.code ++ [32] ++ r.rp.text.headD []]) ++ (if r.kind = kDel then [[87, 105, 108, 108, 45, 82, 101, 116, 114, 121, 45, 85, 110, 116, 105, 108, 58, 32] ++ tmL r.til] else []) ++ [[]] = l ++ sec4 r := by
 unfold sec4
 simp only [List.append_assoc]
set_option maxHeartbeats 16000000 in
theorem ofRecipient_x (g B0 : Nat) (l : List Txt) (r : RT) (vr vl vt : Value) (w : World) (h : SL g B0 l w) (hE : RAt w r vr vl vt) (hp : 0 ≤ r.pl ∧ r.pl < r.x.rc.length) (hr : P.rightE (rtTo r).p = 0) (hk : r.kind.length ≤ 100) (hto : (rtTo r).r.kind.length ≤ 10000 ∧ (rtTo r).r.oc.length ≤ 10000) (ha : ∀ b ∈ (rtTo r).r.kind, b.toNat < 128) (hI : I3 (rtCode r)) (hc : R.I64 r.rp.code) (ht : r.rp.code ≠ 0 → ∃ t ts, r.rp.text = t :: ts ∧ t.length ≤ 10000) (h0 : 0 ≤ r.til) (hR : ∀ w', Sy g B0 w w' → Rdy w') (hT : ∀ w', Sy g B0 w w' → TxtsAt w' vt r.rp.text) (hn : l.length + 10 ≤ 1000000) : Calls Tryz.prog 36 #[rtA r vr vl vt, sayF g] w (SayPost g B0 (l ++ sec4 r) w) := by
 have HB := Lib.hid (RB.new w r vr vl vt)
 have HE := Lib.hid hE
 have HP := Lib.hid hp
 have HR := Lib.hid hr
 have HTO := Lib.hid hto
 have HA := Lib.hid ha
 have HI := Lib.hid hI
 have HC := Lib.hid hc
 have HTX := Lib.hid ht
 have HRR := Lib.hid hR
 have HH := Lib.hid h
 obtain ⟨ra, rcap, rfl, _, _, _⟩ := hE.e.rc
 obtain ⟨la, lc, rfl⟩ := txts_slice hE.e.ls
 obtain ⟨ta, tc, rfl⟩ := txts_slice hE.t
 have HTT := Lib.hid hT
 have s1 := mkS_size r.kind
 have s2 : (mkS (lowL (rtTo r).r.kind)).size ≤ 10000 := by rw [mkS_size, low_len]; exact hto.1
 have s3 : (mkS (X.encX (rtTo r).r.oc)).size ≤ 30000 := by rw [mkS_size]; have := enc_len (rtTo r).r.oc; omega
 have s4 : (mkS (bareL (P.textL (rtTo r).p))).size ≤ 1000 := by have h1 := txt_len hr; have h2 := bare_len (P.textL (rtTo r).p); rw [mkS_size]; omega
 have s5 : (mkS (dots (rtCode r))).size ≤ 1000 := by rw [mkS_size]; exact dots_len hI
 have s6 : (mkS (tmL r.til)).size ≤ 1000 := by rw [mkS_size]; exact tm_len h0
 have s7 : (mkS (Lib.itoa r.rp.code)).size ≤ 1000 := by rw [mkS_size]; have := R.itoa_len hc; omega
 have e2 : ((mkS r.kind).toList == [100, 101, 108, 97, 121, 101, 100]) = (r.kind == kDel) := by rw [mkS_toList]; rfl
 clear h hE hp hr hto ha hI hc ht hR hT
 go_enter Tryz.func36, Tryz.ntmps36
 go_upto_region 1 with fail
 change Code.wp _ _ _ _ (w.alloc (.cells (RE r (.slice ra r.x.rc.length rcap) (.slice la r.x.ls.length lc) (.slice ta r.rp.text.length tc)) 39))
 generalize w.alloc (.cells (RE r (.slice ra r.x.rc.length rcap) (.slice la r.x.ls.length lc) (.slice ta r.rp.text.length tc)) 39) = w1 at *
 go_wp2_with (first | ((with_reducible refine tis_load (ty := 39) (x := .tmp 2) rfl ?_); refine tload ?_ 39 (.tmp 2) rfl w.heap.size 0 39 (RE r (.slice ra r.x.rc.length rcap) (.slice la r.x.ls.length lc) (.slice ta r.rp.text.length tc)) (RE r (.slice ra r.x.rc.length rcap) (.slice la r.x.ls.length lc) (.slice ta r.rp.text.length tc)) _ rfl HB.out.box Tryz.underlying39 rfl size_rt (fun j _ => by rw [Nat.zero_add]) ?_; (focus (first | rfl | (go_simp; done)))))
 refine (recipient_x r (.slice ra r.x.rc.length rcap) (.slice la r.x.ls.length lc) (.slice ta r.rp.text.length tc) _ (HE.out.below HB.out.below) HP.out).mono ?_
 rintro x w2 ⟨rfl, hb⟩
 have HB2 := Lib.hid (HB.out.next hb)
 clear hb HB
 unfold RC
 go_upto_if 10 with fail
 have HO := Lib.hid (show OS w g B0 l w2.heap.size r (.slice ra r.x.rc.length rcap) (.slice la r.x.ls.length lc) (.slice ta r.rp.text.length tc) (w2.alloc (.cells (RC (rtTo r)) 49)) from ⟨⟨((below_box w2 _).block _ (ltOf HB2.out.box)).trans HB2.out.box, newOf w2 _⟩, HH.out.next (below_next HB2.out.below (below_box w2 _)), Sy.of (below_next HB2.out.below (below_box w2 _)) HH.out.le, (by have := HH.out.lt; have := HH.out.le; omega), (by have := HH.out.lt; have := HH.out.le; have := ltOf HB2.out.box; omega)⟩)
 change Code.wp _ _ _ _ (w2.alloc (.cells (RC (rtTo r)) 49))
 generalize w2.alloc (.cells (RC (rtTo r)) 49) = w3 at *
 generalize w2.heap.size = b1 at *
 clear HB2 HH
 go_cut [] from 5 (fun wc => Hid (OS w g B0 (l ++ (if (rtTo r).r.kind = [] then [] else [[79, 114, 105, 103, 105, 110, 97, 108, 45, 82, 101, 99, 105, 112, 105, 101, 110, 116, 58, 32] ++ lowL (rtTo r).r.kind ++ [59, 32] ++ X.encX (rtTo r).r.oc])) b1 r (.slice ra r.x.rc.length rcap) (.slice la r.x.ls.length lc) (.slice ta r.rp.text.length tc) wc))
 case first =>
  by_cases hz : (rtTo r).r.kind = []
  ·have HZ := Lib.hid hz
   have e1 : (mkS (rtTo r).r.kind).toList.isEmpty = true := by rw [mkS_toList, hz]; rfl
   rw [show (!(mkS (rtTo r).r.kind).toList.isEmpty) = false by rw [e1]; rfl]
   clear hz
   go_wp2_with fail
   go_meet
   case rel => rw [if_pos HZ.out, List.append_nil]; exact HO
  ·have HZ := Lib.hid hz
   have e3 : List.isEmpty (rtTo r).r.kind = false := by cases h : (rtTo r).r.kind with | nil => exact absurd h hz | cons _ _ => rfl
   have e1 : (mkS (rtTo r).r.kind).toList.isEmpty = false := by rw [mkS_toList]; exact e3
   rw [show (!(mkS (rtTo r).r.kind).toList.isEmpty) = true by rw [e1]; rfl]
   clear hz
   go_wp2_with fail
   refine wp_region_held_drew (S := OB w b1 r (.slice ra r.x.rc.length rcap) (.slice la r.x.ls.length lc) (.slice ta r.rp.text.length tc)) (by kernel_rfl) (HO.out.next (Below.refl _ _).drew).ob (fun hH => ?_)
   have G1 := Lib.hid (HO.out.next (Below.refl _ _).drew)
   generalize World.drew _ = wd at *
   refine wpAnyH_take (i := 0) (oi := { dst := some 11, op := _, type := _, pos := _, after := _, guard := _ }) (v := sayF g) rfl (by kernel_rfl) (by kernel_rfl) (by kernel_rfl) (fun _ _ _ h => h) (Or.inl ⟨by kernel_rfl, fun wz hz => by kernel_rfl⟩) hH ?_
   try simp only [Act.put, List.setIfInBounds_toArray, List.set_cons_zero, List.set_cons_succ]
   refine wpAnyH_take (i := 1) (oi := { dst := some 12, op := _, type := _, pos := _, after := _, guard := _ }) (v := .pointer (some ⟨b1, 2, none⟩)) rfl (by kernel_rfl) (by kernel_rfl) (by kernel_rfl) (fun _ _ _ h => h) (Or.inl ⟨by kernel_rfl, fun wz hz => by kernel_rfl⟩) hH ?_
   try simp only [Act.put, List.setIfInBounds_toArray, List.set_cons_zero, List.set_cons_succ]
   refine wpAnyH_take (i := 2) (oi := { dst := some 13, op := _, type := _, pos := _, after := _, guard := _ }) (v := .pointer (some ⟨b1, 3, none⟩)) rfl (by kernel_rfl) (by kernel_rfl) (by kernel_rfl) (fun _ _ _ h => h) (Or.inl ⟨by kernel_rfl, fun wz hz => by kernel_rfl⟩) hH ?_
   try simp only [Act.put, List.setIfInBounds_toArray, List.set_cons_zero, List.set_cons_succ]
   refine wpAnyH_take (i := 3) (oi := { dst := some 14, op := _, type := _, pos := _, after := _, guard := _ }) (v := .string (mkS (rtTo r).r.kind)) rfl (by kernel_rfl) (by kernel_rfl) (by kernel_rfl) (fun _ _ _ h => h) (Or.inl ⟨by kernel_rfl, fun wz hz => jload_op _ ⟨rfl, rfl⟩ ((load_to hz.rc).1)⟩) hH ?_
   try simp only [Act.put, List.setIfInBounds_toArray, List.set_cons_zero, List.set_cons_succ]
   refine wpAnyH_take (i := 7) (oi := { dst := some 18, op := _, type := _, pos := _, after := _, guard := _ }) (v := .pointer (some ⟨b1, 2, none⟩)) rfl (by kernel_rfl) (by kernel_rfl) (by kernel_rfl) (fun _ _ _ h => h) (Or.inl ⟨by kernel_rfl, fun wz hz => by kernel_rfl⟩) hH ?_
   try simp only [Act.put, List.setIfInBounds_toArray, List.set_cons_zero, List.set_cons_succ]
   refine wpAnyH_take (i := 8) (oi := { dst := some 19, op := _, type := _, pos := _, after := _, guard := _ }) (v := .pointer (some ⟨b1, 4, none⟩)) rfl (by kernel_rfl) (by kernel_rfl) (by kernel_rfl) (fun _ _ _ h => h) (Or.inl ⟨by kernel_rfl, fun wz hz => by kernel_rfl⟩) hH ?_
   try simp only [Act.put, List.setIfInBounds_toArray, List.set_cons_zero, List.set_cons_succ]
   refine wpAnyH_take (i := 9) (oi := { dst := some 20, op := _, type := _, pos := _, after := _, guard := _ }) (v := .string (mkS (rtTo r).r.oc)) rfl (by kernel_rfl) (by kernel_rfl) (by kernel_rfl) (fun _ _ _ h => h) (Or.inl ⟨by kernel_rfl, fun wz hz => jload_op _ ⟨rfl, rfl⟩ ((load_to hz.rc).2)⟩) hH ?_
   try simp only [Act.put, List.setIfInBounds_toArray, List.set_cons_zero, List.set_cons_succ]
   refine wpAnyH_ready (rs := [4]) (by kernel_rfl) (by simp) ?_
   refine AllReadyH.cons rfl (fun K hK => ?_) AllReadyH.nil
   go_simp
   go_at_call 57
   refine (lower_x (rtTo r).r.kind _ (by have := HTO.out.1; omega) HA.out).mono ?_
   rintro x w12 ⟨rfl, hb⟩
   have G2 := Lib.hid (G1.out.next hb)
   clear hb
   refine hK.out _ _ G2.out.ob (fun hHn => ?_)
   clear hK K hH
   have hH := hHn
   clear hHn
   try simp only [Act.put, List.setIfInBounds_toArray, List.set_cons_zero, List.set_cons_succ]
   refine wpAnyH_take (i := 5) (oi := { dst := some 16, op := _, type := _, pos := _, after := _, guard := _ }) (v := .string ((⟨#[79, 114, 105, 103, 105, 110, 97, 108, 45, 82, 101, 99, 105, 112, 105, 101, 110, 116, 58, 32]⟩ : ByteArray) ++ (mkS (lowL (rtTo r).r.kind)))) rfl (by kernel_rfl) (by kernel_rfl) (by kernel_rfl) (fun _ _ _ h => h) (Or.inl ⟨by kernel_rfl, fun wz hz => by go_simp; omega⟩) hH ?_
   try simp only [Act.put, List.setIfInBounds_toArray, List.set_cons_zero, List.set_cons_succ]
   refine wpAnyH_take (i := 6) (oi := { dst := some 17, op := _, type := _, pos := _, after := _, guard := _ }) (v := .string (((⟨#[79, 114, 105, 103, 105, 110, 97, 108, 45, 82, 101, 99, 105, 112, 105, 101, 110, 116, 58, 32]⟩ : ByteArray) ++ (mkS (lowL (rtTo r).r.kind))) ++ (⟨#[59, 32]⟩ : ByteArray))) rfl (by kernel_rfl) (by kernel_rfl) (by kernel_rfl) (fun _ _ _ h => h) (Or.inl ⟨by kernel_rfl, fun wz hz => by go_simp; omega⟩) hH ?_
   try simp only [Act.put, List.setIfInBounds_toArray, List.set_cons_zero, List.set_cons_succ]
   refine wpAnyH_ready (rs := [10]) (by kernel_rfl) (by simp) ?_
   refine AllReadyH.cons rfl (fun K hK => ?_) AllReadyH.nil
   go_simp
   go_at_call 56
   refine (X.encode_x (rtTo r).r.oc _ (by have := HTO.out.2; omega)).mono ?_
   rintro x w13 ⟨rfl, hb⟩
   have G3 := Lib.hid (G2.out.next hb)
   clear hb
   refine hK.out _ _ G3.out.ob (fun hHn => ?_)
   clear hK K hH
   have hH := hHn
   clear hHn
   try simp only [Act.put, List.setIfInBounds_toArray, List.set_cons_zero, List.set_cons_succ]
   refine wpAnyH_take (i := 11) (oi := { dst := some 22, op := _, type := _, pos := _, after := _, guard := _ }) (v := .string ((((⟨#[79, 114, 105, 103, 105, 110, 97, 108, 45, 82, 101, 99, 105, 112, 105, 101, 110, 116, 58, 32]⟩ : ByteArray) ++ (mkS (lowL (rtTo r).r.kind))) ++ (⟨#[59, 32]⟩ : ByteArray)) ++ (mkS (X.encX (rtTo r).r.oc)))) rfl (by kernel_rfl) (by kernel_rfl) (by kernel_rfl) (fun _ _ _ h => h) (Or.inl ⟨by kernel_rfl, fun wz hz => by go_simp; omega⟩) hH ?_
   try simp only [Act.put, List.setIfInBounds_toArray, List.set_cons_zero, List.set_cons_succ]
   refine wpAnyH_ready (rs := [12]) (by kernel_rfl) (by simp) ?_
   refine AllReadyH.cons rfl (fun K hK => ?_) AllReadyH.nil
   go_simp
   have G4 := Lib.hid (G3.out.next (below_box w13 (.cells #[.string ((((⟨#[79, 114, 105, 103, 105, 110, 97, 108, 45, 82, 101, 99, 105, 112, 105, 101, 110, 116, 58, 32]⟩ : ByteArray) ++ (mkS (lowL (rtTo r).r.kind))) ++ (⟨#[59, 32]⟩ : ByteArray)) ++ (mkS (X.encX (rtTo r).r.oc)))] 9)))
   refine hK.out _ _ G4.out.ob (fun hHn => ?_)
   clear hK K hH
   have hH := hHn
   clear hHn
   try simp only [Act.put, List.setIfInBounds_toArray, List.set_cons_zero, List.set_cons_succ]
   refine wpAnyH_ready (rs := [13]) (by kernel_rfl) (by simp) ?_
   refine AllReadyH.cons rfl (fun K hK => ?_) AllReadyH.nil
   go_simp
   go_at_call 31
   refine (said_x G3.out.sl [[79, 114, 105, 103, 105, 110, 97, 108, 45, 82, 101, 99, 105, 112, 105, 101, 110, 116, 58, 32] ++ lowL (rtTo r).r.kind ++ [59, 32] ++ X.encX (rtTo r).r.oc] 1 _ ?_ rfl (by have h1 := lenA r; have h2 := lenC r; have h3 := lenD r; (try simp only [List.length_append, List.length_cons, List.length_nil]); omega)).mono ?_
   ·show [_] = _
    rw [strsV, List.map_cons, List.map_nil, ← mkS_cat, ← mkS_cat, ← mkS_cat]
    rfl
   rintro x w30 ⟨rfl, h1, h2⟩
   have G30 := Lib.hid (G3.out.said h1 h2)
   clear h1 h2
   refine hK.out _ _ G30.out.ob (fun hHn => ?_)
   clear hK K hH
   have hH := hHn
   clear hHn
   try simp only [Act.put, List.setIfInBounds_toArray, List.set_cons_zero, List.set_cons_succ]
   refine wpAnyH_done (by kernel_rfl) ?_ _
   go_wp2_with fail
   go_meet
   case rel => rw [if_neg HZ.out]; exact G30
 case rest =>
 clear HO
 have HO := hcut
 clear hcut
 go_upto_region 4 with fail
 refine wp_region_held_drew (S := OB w b1 r (.slice ra r.x.rc.length rcap) (.slice la r.x.ls.length lc) (.slice ta r.rp.text.length tc)) (by kernel_rfl) (HO.out.next (Below.refl _ _).drew).ob (fun hH => ?_)
 have G1 := Lib.hid (HO.out.next (Below.refl _ _).drew)
 generalize World.drew _ = wd at *
 refine wpAnyH_take (i := 0) (oi := { dst := some 25, op := _, type := _, pos := _, after := _, guard := _ }) (v := sayF g) rfl (by kernel_rfl) (by kernel_rfl) (by kernel_rfl) (fun _ _ _ h => h) (Or.inl ⟨by kernel_rfl, fun wz hz => by kernel_rfl⟩) hH ?_
 try simp only [Act.put, List.setIfInBounds_toArray, List.set_cons_zero, List.set_cons_succ]
 refine wpAnyH_take (i := 1) (oi := { dst := some 26, op := _, type := _, pos := _, after := _, guard := _ }) (v := .pointer (some ⟨b1, 0, none⟩)) rfl (by kernel_rfl) (by kernel_rfl) (by kernel_rfl) (fun _ _ _ h => h) (Or.inl ⟨by kernel_rfl, fun wz hz => by kernel_rfl⟩) hH ?_
 try simp only [Act.put, List.setIfInBounds_toArray, List.set_cons_zero, List.set_cons_succ]
 refine wpAnyH_take (i := 2) (oi := { dst := some 27, op := _, type := _, pos := _, after := _, guard := _ }) (v := .agg #[.string (mkS (rtTo r).p.1), .string (mkS (rtTo r).p.2)]) rfl (by kernel_rfl) (by kernel_rfl) (by kernel_rfl) (fun _ _ _ h => h) (Or.inl ⟨by kernel_rfl, fun wz hz => jload_op _ ⟨rfl, rfl⟩ (load_tp hz.rc)⟩) hH ?_
 try simp only [Act.put, List.setIfInBounds_toArray, List.set_cons_zero, List.set_cons_succ]
 refine wpAnyH_take (i := 6) (oi := { dst := some 31, op := _, type := _, pos := _, after := _, guard := _ }) (v := .pointer (some ⟨w.heap.size, 0, none⟩)) rfl (by kernel_rfl) (by kernel_rfl) (by kernel_rfl) (fun _ _ _ h => h) (Or.inl ⟨by kernel_rfl, fun wz hz => by kernel_rfl⟩) hH ?_
 try simp only [Act.put, List.setIfInBounds_toArray, List.set_cons_zero, List.set_cons_succ]
 refine wpAnyH_take (i := 7) (oi := { dst := some 32, op := _, type := _, pos := _, after := _, guard := _ }) (v := .string (mkS r.kind)) rfl (by kernel_rfl) (by kernel_rfl) (by kernel_rfl) (fun _ _ _ h => h) (Or.inl ⟨by kernel_rfl, fun wz hz => jload_op _ ⟨rfl, rfl⟩ (load_k hz.bx)⟩) hH ?_
 try simp only [Act.put, List.setIfInBounds_toArray, List.set_cons_zero, List.set_cons_succ]
 refine wpAnyH_take (i := 8) (oi := { dst := some 33, op := _, type := _, pos := _, after := _, guard := _ }) (v := .string ((⟨#[65, 99, 116, 105, 111, 110, 58, 32]⟩ : ByteArray) ++ (mkS r.kind))) rfl (by kernel_rfl) (by kernel_rfl) (by kernel_rfl) (fun _ _ _ h => h) (Or.inl ⟨by kernel_rfl, fun wz hz => by go_simp; omega⟩) hH ?_
 try simp only [Act.put, List.setIfInBounds_toArray, List.set_cons_zero, List.set_cons_succ]
 refine wpAnyH_take (i := 9) (oi := { dst := some 34, op := _, type := _, pos := _, after := _, guard := _ }) (v := rtA r (.slice ra r.x.rc.length rcap) (.slice la r.x.ls.length lc) (.slice ta r.rp.text.length tc)) rfl (by kernel_rfl) (by kernel_rfl) (by kernel_rfl) (fun _ _ _ h => h) (Or.inl ⟨by kernel_rfl, fun wz hz => jload_op _ ⟨rfl, rfl⟩ (load_rt hz.bx)⟩) hH ?_
 try simp only [Act.put, List.setIfInBounds_toArray, List.set_cons_zero, List.set_cons_succ]
 refine wpAnyH_ready (rs := [3]) (by kernel_rfl) (by simp) ?_
 refine AllReadyH.cons rfl (fun K hK => ?_) AllReadyH.nil
 go_simp
 go_at_call 53
 refine (printed_x (rtTo r).p _ HR.out).mono ?_
 rintro x w12 ⟨rfl, hb⟩
 have G2 := Lib.hid (G1.out.next hb)
 clear hb
 refine hK.out _ _ G2.out.ob (fun hHn => ?_)
 clear hK K hH
 have hH := hHn
 clear hHn
 try simp only [Act.put, List.setIfInBounds_toArray, List.set_cons_zero, List.set_cons_succ]
 refine wpAnyH_ready (rs := [4]) (by kernel_rfl) (by simp) ?_
 refine AllReadyH.cons rfl (fun K hK => ?_) AllReadyH.nil
 go_simp
 go_at_call 58
 refine (bareb_x (P.textL (rtTo r).p) _ (by have := txt_len HR.out; omega)).mono ?_
 rintro x w13 ⟨rfl, hb⟩
 have G3 := Lib.hid (G2.out.next hb)
 clear hb
 refine hK.out _ _ G3.out.ob (fun hHn => ?_)
 clear hK K hH
 have hH := hHn
 clear hHn
 try simp only [Act.put, List.setIfInBounds_toArray, List.set_cons_zero, List.set_cons_succ]
 refine wpAnyH_take (i := 5) (oi := { dst := some 30, op := _, type := _, pos := _, after := _, guard := _ }) (v := .string ((⟨#[70, 105, 110, 97, 108, 45, 82, 101, 99, 105, 112, 105, 101, 110, 116, 58, 32, 114, 102, 99, 56, 50, 50, 59, 32]⟩ : ByteArray) ++ (mkS (bareL (P.textL (rtTo r).p))))) rfl (by kernel_rfl) (by kernel_rfl) (by kernel_rfl) (fun _ _ _ h => h) (Or.inl ⟨by kernel_rfl, fun wz hz => by go_simp; omega⟩) hH ?_
 try simp only [Act.put, List.setIfInBounds_toArray, List.set_cons_zero, List.set_cons_succ]
 refine wpAnyH_ready (rs := [10]) (by kernel_rfl) (by simp) ?_
 refine AllReadyH.cons rfl (fun K hK => ?_) AllReadyH.nil
 go_simp
 go_at_call 18
 refine (code_x r (.slice ra r.x.rc.length rcap) (.slice la r.x.ls.length lc) (.slice ta r.rp.text.length tc) _ (by rw [mkS_size] at s1; omega)).mono ?_
 rintro x w14 ⟨rfl, hb⟩
 have G4 := Lib.hid (G3.out.next hb)
 clear hb
 refine hK.out _ _ G4.out.ob (fun hHn => ?_)
 clear hK K hH
 have hH := hHn
 clear hHn
 try simp only [Act.put, List.setIfInBounds_toArray, List.set_cons_zero, List.set_cons_succ]
 refine wpAnyH_ready (rs := [11]) (by kernel_rfl) (by simp) ?_
 refine AllReadyH.cons rfl (fun K hK => ?_) AllReadyH.nil
 go_simp
 go_at_call 59
 refine (dotted_x (rtCode r) _ HI.out (HRR.out _ G4.out.sy).r.2).mono ?_
 rintro x w15 ⟨rfl, hb⟩
 have G5 := Lib.hid (G4.out.next hb)
 clear hb
 refine hK.out _ _ G5.out.ob (fun hHn => ?_)
 clear hK K hH
 have hH := hHn
 clear hHn
 try simp only [Act.put, List.setIfInBounds_toArray, List.set_cons_zero, List.set_cons_succ]
 refine wpAnyH_take (i := 12) (oi := { dst := some 37, op := _, type := _, pos := _, after := _, guard := _ }) (v := .string ((⟨#[83, 116, 97, 116, 117, 115, 58, 32]⟩ : ByteArray) ++ (mkS (dots (rtCode r))))) rfl (by kernel_rfl) (by kernel_rfl) (by kernel_rfl) (fun _ _ _ h => h) (Or.inl ⟨by kernel_rfl, fun wz hz => by go_simp; omega⟩) hH ?_
 try simp only [Act.put, List.setIfInBounds_toArray, List.set_cons_zero, List.set_cons_succ]
 refine wpAnyH_ready (rs := [13]) (by kernel_rfl) (by simp) ?_
 refine AllReadyH.cons rfl (fun K hK => ?_) AllReadyH.nil
 go_simp
 have G6 := Lib.hid (G5.out.next (below_box w15 (.cells #[.string ((⟨#[70, 105, 110, 97, 108, 45, 82, 101, 99, 105, 112, 105, 101, 110, 116, 58, 32, 114, 102, 99, 56, 50, 50, 59, 32]⟩ : ByteArray) ++ (mkS (bareL (P.textL (rtTo r).p)))), .string ((⟨#[65, 99, 116, 105, 111, 110, 58, 32]⟩ : ByteArray) ++ (mkS r.kind)), .string ((⟨#[83, 116, 97, 116, 117, 115, 58, 32]⟩ : ByteArray) ++ (mkS (dots (rtCode r))))] 9)))
 refine hK.out _ _ G6.out.ob (fun hHn => ?_)
 clear hK K hH
 have hH := hHn
 clear hHn
 try simp only [Act.put, List.setIfInBounds_toArray, List.set_cons_zero, List.set_cons_succ]
 refine wpAnyH_ready (rs := [14]) (by kernel_rfl) (by simp) ?_
 refine AllReadyH.cons rfl (fun K hK => ?_) AllReadyH.nil
 go_simp
 go_at_call 31
 refine (said_x G5.out.sl [[70, 105, 110, 97, 108, 45, 82, 101, 99, 105, 112, 105, 101, 110, 116, 58, 32, 114, 102, 99, 56, 50, 50, 59, 32] ++ bareL (P.textL (rtTo r).p), [65, 99, 116, 105, 111, 110, 58, 32] ++ r.kind, [83, 116, 97, 116, 117, 115, 58, 32] ++ dots (rtCode r)] 3 _ ?_ rfl (by have h1 := lenA r; have h2 := lenC r; have h3 := lenD r; (try simp only [List.length_append, List.length_cons, List.length_nil]); omega)).mono ?_
 ·show [_, _, _] = _
  rw [strsV, List.map_cons, List.map_cons, List.map_cons, List.map_nil, ← mkS_cat, ← mkS_cat, ← mkS_cat]
  rfl
 rintro x w30 ⟨rfl, h1, h2⟩
 have G30 := Lib.hid (G5.out.said h1 h2)
 clear h1 h2
 refine hK.out _ _ G30.out.ob (fun hHn => ?_)
 clear hK K hH
 have hH := hHn
 clear hHn
 try simp only [Act.put, List.setIfInBounds_toArray, List.set_cons_zero, List.set_cons_succ]
 refine wpAnyH_done (by kernel_rfl) ?_ _
 go_wp2_with (first | ((with_reducible refine tis_load (ty := 39) (x := .tmp 2) rfl ?_); refine tload ?_ 39 (.tmp 2) rfl w.heap.size 0 39 (RE r (.slice ra r.x.rc.length rcap) (.slice la r.x.ls.length lc) (.slice ta r.rp.text.length tc)) (RE r (.slice ra r.x.rc.length rcap) (.slice la r.x.ls.length lc) (.slice ta r.rp.text.length tc)) _ rfl G30.out.ob.bx Tryz.underlying39 rfl size_rt (fun j _ => by rw [Nat.zero_add]) ?_; (focus (first | rfl | (go_simp; done)))))
 refine (replied_x r (.slice ra r.x.rc.length rcap) (.slice la r.x.ls.length lc) (.slice ta r.rp.text.length tc) _).mono ?_
 rintro x w4 ⟨rfl, hb⟩
 have HQ := Lib.hid (G30.out.next hb)
 clear hb G30
 go_upto_if 41 with fail
 go_cut [] from 5 (fun wc => Hid (OS w g B0 (l ++ (if (rtTo r).r.kind = [] then [] else [[79, 114, 105, 103, 105, 110, 97, 108, 45, 82, 101, 99, 105, 112, 105, 101, 110, 116, 58, 32] ++ lowL (rtTo r).r.kind ++ [59, 32] ++ X.encX (rtTo r).r.oc]) ++ [[70, 105, 110, 97, 108, 45, 82, 101, 99, 105, 112, 105, 101, 110, 116, 58, 32, 114, 102, 99, 56, 50, 50, 59, 32] ++ bareL (P.textL (rtTo r).p), [65, 99, 116, 105, 111, 110, 58, 32] ++ r.kind, [83, 116, 97, 116, 117, 115, 58, 32] ++ dots (rtCode r)] ++ (if r.rp.code = 0 then [] else [[68, 105, 97, 103, 110, 111, 115, 116, 105, 99, 45, 67, 111, 100, 101, 58, 32, 115, 109, 116, 112, 59, 32] ++ Lib.itoa r.rp.code ++ [32] ++ r.rp.text.headD []])) b1 r (.slice ra r.x.rc.length rcap) (.slice la r.x.ls.length lc) (.slice ta r.rp.text.length tc) wc))
 case first =>
  by_cases hz : r.rp.code = 0
  ·have HZ := Lib.hid hz
   rw [show (r.rp.code != 0) = false by rw [hz]; rfl]
   clear hz
   go_wp2_with fail
   go_meet
   case rel => rw [if_pos HZ.out, List.append_nil]; exact HQ
  ·have HZ := Lib.hid hz
   obtain ⟨t, ts, ht, htl⟩ := HTX.out hz
   rw [show (r.rp.code != 0) = true by simpa using hz]
   have HX := Lib.hid ((HTT.out _ HQ.out.sy))
   obtain ⟨a', c', hv, hcl, _, hx⟩ := HX.out
   injection hv with e3 e4 e5
   subst e3 e5
   obtain ⟨A0, rfl, hab, hat⟩ := hx 0 t (by rw [ht]; rfl)
   have hpos : (0 : Int) < (r.rp.text.length : Int) := by rw [ht]; simp
   have HTH := Lib.hid ht
   have HNT := Lib.hid (show r.rp.text ≠ [] by rw [ht]; simp)
   have HHD := Lib.hid (show r.rp.text.headD [] = t by rw [ht]; rfl)
   have s8 : (mkS t).size ≤ 10000 := by rw [mkS_size]; exact htl
   clear hz hx ht htl
   go_wp2_with fail
   refine wp_region_held_drew (S := fun wr => OB w b1 r (.slice ra r.x.rc.length rcap) (.slice la r.x.ls.length lc) (.slice (some A0) r.rp.text.length tc) wr ∧ wr.cell? A0 = some (.string (mkS t))) (by kernel_rfl) ⟨(HQ.out.next (Below.refl _ _).drew).ob, txt0 (HTT.out _ (HQ.out.next (Below.refl _ _).drew).sy) HTH.out⟩ (fun hH => ?_)
   have G1 := Lib.hid (HQ.out.next (Below.refl _ _).drew)
   generalize World.drew _ = wd at *
   refine wpAnyH_take (i := 0) (oi := { dst := some 42, op := _, type := _, pos := _, after := _, guard := _ }) (v := sayF g) rfl (by kernel_rfl) (by kernel_rfl) (by kernel_rfl) (fun _ _ _ h => h) (Or.inl ⟨by kernel_rfl, fun wz hz => by kernel_rfl⟩) hH ?_
   try simp only [Act.put, List.setIfInBounds_toArray, List.set_cons_zero, List.set_cons_succ]
   refine wpAnyH_take (i := 1) (oi := { dst := some 43, op := _, type := _, pos := _, after := _, guard := _ }) (v := .pointer (some ⟨w.heap.size, 26, none⟩)) rfl (by kernel_rfl) (by kernel_rfl) (by kernel_rfl) (fun _ _ _ h => h) (Or.inl ⟨by kernel_rfl, fun wz hz => by kernel_rfl⟩) hH ?_
   try simp only [Act.put, List.setIfInBounds_toArray, List.set_cons_zero, List.set_cons_succ]
   refine wpAnyH_take (i := 2) (oi := { dst := some 44, op := _, type := _, pos := _, after := _, guard := _ }) (v := .pointer (some ⟨w.heap.size, 26, none⟩)) rfl (by kernel_rfl) (by kernel_rfl) (by kernel_rfl) (fun _ _ _ h => h) (Or.inl ⟨by kernel_rfl, fun wz hz => by kernel_rfl⟩) hH ?_
   try simp only [Act.put, List.setIfInBounds_toArray, List.set_cons_zero, List.set_cons_succ]
   refine wpAnyH_take (i := 3) (oi := { dst := some 45, op := _, type := _, pos := _, after := _, guard := _ }) (v := .int .i64 r.rp.code) rfl (by kernel_rfl) (by kernel_rfl) (by kernel_rfl) (fun _ _ _ h => h) (Or.inl ⟨by kernel_rfl, fun wz hz => jload_op _ ⟨rfl, rfl⟩ ((load_rp hz.1.bx).1)⟩) hH ?_
   try simp only [Act.put, List.setIfInBounds_toArray, List.set_cons_zero, List.set_cons_succ]
   refine wpAnyH_take (i := 7) (oi := { dst := some 49, op := _, type := _, pos := _, after := _, guard := _ }) (v := .pointer (some ⟨w.heap.size, 26, none⟩)) rfl (by kernel_rfl) (by kernel_rfl) (by kernel_rfl) (fun _ _ _ h => h) (Or.inl ⟨by kernel_rfl, fun wz hz => by kernel_rfl⟩) hH ?_
   try simp only [Act.put, List.setIfInBounds_toArray, List.set_cons_zero, List.set_cons_succ]
   refine wpAnyH_take (i := 8) (oi := { dst := some 50, op := _, type := _, pos := _, after := _, guard := _ }) (v := .pointer (some ⟨w.heap.size, 30, none⟩)) rfl (by kernel_rfl) (by kernel_rfl) (by kernel_rfl) (fun _ _ _ h => h) (Or.inl ⟨by kernel_rfl, fun wz hz => by kernel_rfl⟩) hH ?_
   try simp only [Act.put, List.setIfInBounds_toArray, List.set_cons_zero, List.set_cons_succ]
   refine wpAnyH_take (i := 9) (oi := { dst := some 51, op := _, type := _, pos := _, after := _, guard := _ }) (v := .slice (some A0) r.rp.text.length tc) rfl (by kernel_rfl) (by kernel_rfl) (by kernel_rfl) (fun _ _ _ h => h) (Or.inl ⟨by kernel_rfl, fun wz hz => jload_op _ ⟨rfl, rfl⟩ ((load_rp hz.1.bx).2)⟩) hH ?_
   try simp only [Act.put, List.setIfInBounds_toArray, List.set_cons_zero, List.set_cons_succ]
   refine wpAnyH_take (i := 10) (oi := { dst := some 52, op := _, type := _, pos := _, after := _, guard := _ }) (v := .pointer (some A0)) rfl (by kernel_rfl) (by kernel_rfl) (by kernel_rfl) (fun _ _ _ h => h) (Or.inl ⟨by kernel_rfl, fun wz hz => by go_simp; exact fun h => absurd h HNT.out⟩) hH ?_
   try simp only [Act.put, List.setIfInBounds_toArray, List.set_cons_zero, List.set_cons_succ]
   refine wpAnyH_take (i := 11) (oi := { dst := some 53, op := _, type := _, pos := _, after := _, guard := _ }) (v := .string (mkS t)) rfl (by kernel_rfl) (by kernel_rfl) (by kernel_rfl) (fun _ _ _ h => h) (Or.inl ⟨by kernel_rfl, fun wz hz => jload_op _ ⟨rfl, rfl⟩ (load_t hz.2)⟩) hH ?_
   try simp only [Act.put, List.setIfInBounds_toArray, List.set_cons_zero, List.set_cons_succ]
   refine wpAnyH_ready (rs := [4]) (by kernel_rfl) (by simp) ?_
   refine AllReadyH.cons rfl (fun K hK => ?_) AllReadyH.nil
   go_simp
   go_at_call 22
   refine (R.itoa_x r.rp.code HC.out _ (HRR.out _ G1.out.sy).r.2).mono ?_
   rintro x w12 ⟨rfl, hb⟩
   have G2 := Lib.hid (G1.out.next hb)
   clear hb
   refine hK.out _ _ ⟨G2.out.ob, txt0 (HTT.out _ G2.out.sy) HTH.out⟩ (fun hHn => ?_)
   clear hK K hH
   have hH := hHn
   clear hHn
   try simp only [Act.put, List.setIfInBounds_toArray, List.set_cons_zero, List.set_cons_succ]
   refine wpAnyH_take (i := 5) (oi := { dst := some 47, op := _, type := _, pos := _, after := _, guard := _ }) (v := .string ((⟨#[68, 105, 97, 103, 110, 111, 115, 116, 105, 99, 45, 67, 111, 100, 101, 58, 32, 115, 109, 116, 112, 59, 32]⟩ : ByteArray) ++ (mkS (Lib.itoa r.rp.code)))) rfl (by kernel_rfl) (by kernel_rfl) (by kernel_rfl) (fun _ _ _ h => h) (Or.inl ⟨by kernel_rfl, fun wz hz => by go_simp; omega⟩) hH ?_
   try simp only [Act.put, List.setIfInBounds_toArray, List.set_cons_zero, List.set_cons_succ]
   refine wpAnyH_take (i := 6) (oi := { dst := some 48, op := _, type := _, pos := _, after := _, guard := _ }) (v := .string (((⟨#[68, 105, 97, 103, 110, 111, 115, 116, 105, 99, 45, 67, 111, 100, 101, 58, 32, 115, 109, 116, 112, 59, 32]⟩ : ByteArray) ++ (mkS (Lib.itoa r.rp.code))) ++ (⟨#[32]⟩ : ByteArray))) rfl (by kernel_rfl) (by kernel_rfl) (by kernel_rfl) (fun _ _ _ h => h) (Or.inl ⟨by kernel_rfl, fun wz hz => by go_simp; omega⟩) hH ?_
   try simp only [Act.put, List.setIfInBounds_toArray, List.set_cons_zero, List.set_cons_succ]
   refine wpAnyH_take (i := 12) (oi := { dst := some 54, op := _, type := _, pos := _, after := _, guard := _ }) (v := .string ((((⟨#[68, 105, 97, 103, 110, 111, 115, 116, 105, 99, 45, 67, 111, 100, 101, 58, 32, 115, 109, 116, 112, 59, 32]⟩ : ByteArray) ++ (mkS (Lib.itoa r.rp.code))) ++ (⟨#[32]⟩ : ByteArray)) ++ (mkS t))) rfl (by kernel_rfl) (by kernel_rfl) (by kernel_rfl) (fun _ _ _ h => h) (Or.inl ⟨by kernel_rfl, fun wz hz => by go_simp; omega⟩) hH ?_
   try simp only [Act.put, List.setIfInBounds_toArray, List.set_cons_zero, List.set_cons_succ]
   refine wpAnyH_ready (rs := [13]) (by kernel_rfl) (by simp) ?_
   refine AllReadyH.cons rfl (fun K hK => ?_) AllReadyH.nil
   go_simp
   have G3 := Lib.hid (G2.out.next (below_box w12 (.cells #[.string ((((⟨#[68, 105, 97, 103, 110, 111, 115, 116, 105, 99, 45, 67, 111, 100, 101, 58, 32, 115, 109, 116, 112, 59, 32]⟩ : ByteArray) ++ (mkS (Lib.itoa r.rp.code))) ++ (⟨#[32]⟩ : ByteArray)) ++ (mkS t))] 9)))
   refine hK.out _ _ ⟨G3.out.ob, txt0 (HTT.out _ G3.out.sy) HTH.out⟩ (fun hHn => ?_)
   clear hK K hH
   have hH := hHn
   clear hHn
   try simp only [Act.put, List.setIfInBounds_toArray, List.set_cons_zero, List.set_cons_succ]
   refine wpAnyH_ready (rs := [14]) (by kernel_rfl) (by simp) ?_
   refine AllReadyH.cons rfl (fun K hK => ?_) AllReadyH.nil
   go_simp
   go_at_call 31
   refine (said_x G2.out.sl [[68, 105, 97, 103, 110, 111, 115, 116, 105, 99, 45, 67, 111, 100, 101, 58, 32, 115, 109, 116, 112, 59, 32] ++ Lib.itoa r.rp.code ++ [32] ++ r.rp.text.headD []] 1 _ ?_ rfl (by have h1 := lenA r; have h2 := lenC r; have h3 := lenD r; (try simp only [List.length_append, List.length_cons, List.length_nil]); omega)).mono ?_
   ·show [_] = _
    rw [strsV, HHD.out, List.map_cons, List.map_nil, ← mkS_cat, ← mkS_cat, ← mkS_cat]
    rfl
   rintro x w30 ⟨rfl, h1, h2⟩
   have G30 := Lib.hid (G2.out.said h1 h2)
   clear h1 h2
   refine hK.out _ _ ⟨G30.out.ob, txt0 (HTT.out _ G30.out.sy) HTH.out⟩ (fun hHn => ?_)
   clear hK K hH
   have hH := hHn
   clear hHn
   try simp only [Act.put, List.setIfInBounds_toArray, List.set_cons_zero, List.set_cons_succ]
   refine wpAnyH_done (by kernel_rfl) ?_ _
   go_wp2_with fail
   go_meet
   case rel => rw [if_neg HZ.out]; exact G30
 case rest =>
 clear HQ
 have HQ := hcut
 clear hcut
 have c0 := cellOf HQ.out.ob.bx 0
 unfold RE at c0
 go_upto_if 59 with fail
 clear c0
 go_cut [] from 5 (fun wc => Hid (OS w g B0 (l ++ (if (rtTo r).r.kind = [] then [] else [[79, 114, 105, 103, 105, 110, 97, 108, 45, 82, 101, 99, 105, 112, 105, 101, 110, 116, 58, 32] ++ lowL (rtTo r).r.kind ++ [59, 32] ++ X.encX (rtTo r).r.oc]) ++ [[70, 105, 110, 97, 108, 45, 82, 101, 99, 105, 112, 105, 101, 110, 116, 58, 32, 114, 102, 99, 56, 50, 50, 59, 32] ++ bareL (P.textL (rtTo r).p), [65, 99, 116, 105, 111, 110, 58, 32] ++ r.kind, [83, 116, 97, 116, 117, 115, 58, 32] ++ dots (rtCode r)] ++ (if r.rp.code = 0 then [] else [[68, 105, 97, 103, 110, 111, 115, 116, 105, 99, 45, 67, 111, 100, 101, 58, 32, 115, 109, 116, 112, 59, 32] ++ Lib.itoa r.rp.code ++ [32] ++ r.rp.text.headD []]) ++ (if r.kind = kDel then [[87, 105, 108, 108, 45, 82, 101, 116, 114, 121, 45, 85, 110, 116, 105, 108, 58, 32] ++ tmL r.til] else [])) b1 r (.slice ra r.x.rc.length rcap) (.slice la r.x.ls.length lc) (.slice ta r.rp.text.length tc) wc))
 case first =>
  by_cases hz : r.kind = kDel
  ·have HZ := Lib.hid hz
   rw [show (r.kind == kDel) = true by simpa using hz]
   have c4 := cellOf HQ.out.ob.bx 24
   unfold RE at c4
   clear hz
   go_wp2_with fail
   refine (timed_x r.til _ h0 (HRR.out _ HQ.out.sy).r).mono ?_
   rintro x w5 ⟨rfl, hb⟩
   have HQ2 := Lib.hid (HQ.out.next hb)
   clear hb HQ c4
   go_wp2_with fail
   refine (said_x HQ2.out.sl [[87, 105, 108, 108, 45, 82, 101, 116, 114, 121, 45, 85, 110, 116, 105, 108, 58, 32] ++ tmL r.til] 1 _ ?_ rfl (by have h1 := lenA r; have h2 := lenC r; have h3 := lenD r; (try simp only [List.length_append, List.length_cons, List.length_nil]); omega)).mono ?_
   ·show [_] = _
    rw [strsV, List.map_cons, List.map_nil, ← mkS_cat]
    rfl
   rintro x w6 ⟨rfl, h1, h2⟩
   have HQ3 := Lib.hid (HQ2.out.said h1 h2)
   clear h1 h2 HQ2
   go_wp2_with fail
   go_meet
   case rel => rw [if_pos HZ.out]; exact HQ3
  ·have HZ := Lib.hid hz
   rw [show (r.kind == kDel) = false by simpa using hz]
   clear hz
   go_wp2_with fail
   go_meet
   case rel => rw [if_neg HZ.out, List.append_nil]; exact HQ
 case rest =>
 clear HQ
 have HQ := hcut
 clear hcut e2
 go_wp2_with fail
 refine (said_x HQ.out.sl [[]] 1 _ ?_ rfl (by have h1 := lenA r; have h2 := lenC r; have h3 := lenD r; (try simp only [List.length_append, List.length_cons, List.length_nil]); omega)).mono ?_
 ·rfl
 rintro x w6 ⟨rfl, h1, h2⟩
 have HQ3 := Lib.hid (HQ.out.said h1 h2)
 clear h1 h2 HQ
 go_wp2_with fail
 go_end0
 have k := HQ3.out.sl
 rw [sec4_eq] at k
 exact ⟨rfl, k, HQ3.out.sy⟩
end Go.Proofs.YtojpkbonioglbaaGreatDoor.E.T
namespace Go.Proofs.YtojpkbonioglbaaGreatDoor.E.T
set_option maxRecDepth 100000
set_option linter.unusedSimpArgs false
open Go.RowKit Go.Shelf
section
variable {r : RT}
theorem mailR_ok (h : OkE r.x) : rightM r.x.m = 0 := by
 have h1 := h.say (cmdM r.x) (by unfold cmds; simp)
 obtain ⟨_, h2, _⟩ := prE_zero h1
 rw [show kindV (cmdM r.x).verb = 2 from rfl] at h2
 unfold bE at h2
 rw [if_neg (by decide), if_pos rfl] at h2
 split at h2
 ·split at h2
  ·exact h2
  ·rename_i h3; exact absurd h2 h3
 ·exact absurd h2 (by decide)
theorem env_le (h : OkE r.x) : r.x.m.env.length ≤ 1000 := by
 have h1 := mailR_ok h
 unfold rightM at h1
 split at h1
 ·cases h1
 ·split at h1
  ·cases h1
  ·split at h1
   ·cases h1
   ·omega
theorem kindR_ok {c : Rc} (h : rightR c.r = 0) : c.r.kind.length ≤ 10000 ∧ c.r.oc.length ≤ 10000 ∧ ∀ b ∈ c.r.kind, b.toNat < 128 := by
 unfold rightR at h
 split at h
 ·cases h
 ·split at h
  ·cases h
  ·rename_i h2
   split at h
   ·cases h
   ·rename_i h3
    simp only [Bool.not_eq_false] at h2
    unfold kindB at h2
    simp only [Bool.and_eq_true, Bool.or_eq_true] at h2
    rcases h2.2 with h3 | h3
    ·rw [beq_iff_eq] at h3; rw [h3]; exact ⟨by simp, by omega, fun b hb => by cases hb⟩
    ·have h4 := h3.1
     unfold isKind at h4
     simp only [Bool.and_eq_true, decide_eq_true_eq] at h4
     refine ⟨by omega, by omega, fun b hb => ?_⟩
     have h5 := List.all_eq_true.1 h4.2 b hb
     have := P.all_bytes (P := fun b => !(alnB b) || decide (b.toNat < 128)) (by decide +kernel) b
     rw [h5] at this
     simpa using this
theorem body_ge : ∀ l : List Txt, 2 * l.length ≤ (L.bodyOf (bs l)).length
 | [] => Nat.zero_le _
 | a :: l => by
  have h1 := body_ge l
  have h2 := (laid_len a).1
  have e : (L.bodyOf (bs (a :: l))).length = (L.laidOf a).length + (L.bodyOf (bs l)).length := by
   unfold L.bodyOf bs
   rw [List.map_cons, List.flatMap_cons, List.length_append, mkS_data]
  rw [e, List.length_cons]
  omega
theorem ls_le (h : OkE r.x) : r.x.ls.length ≤ 2048 := by
 have h1 := body_ge r.x.ls
 have h2 := h.len
 unfold L.dataOf at h2
 rw [List.length_append] at h2
 omega
theorem tw_le (p : Txt → Bool) : ∀ l : List Txt, (l.takeWhile p).length ≤ l.length
 | [] => Nat.le_refl _
 | a :: l => by
  rw [List.takeWhile_cons]
  have := tw_le p l
  split <;> simp <;> omega
theorem back_le : (rtBack r).length ≤ r.x.ls.length := by
 unfold rtBack
 split
 ·exact Nat.le_refl _
 ·exact tw_le _ _
theorem bnd_len {l : List Txt} (h : l.length ≤ 100000) : (bnd l).length ≤ 17 := by
 have := (least_ok l (by omega)).2.2.1
 unfold bnd
 rw [itoa_n, List.length_append]
 have := (dd_of (n := leastB l) (by omega)).2.1
 simp
 omega
theorem join_mem {l : List Txt} {t : Txt} (h : t ∈ l) : t.length ≤ (L.joinB (bs l)).length := by
 induction l with
 | nil => cases h
 | cons a l ih =>
  have e : (L.joinB (bs (a :: l))).length = a.length + (L.joinB (bs l)).length := by
   unfold L.joinB bs
   rw [List.map_cons, List.flatMap_cons, List.length_append, mkS_data]
  rw [e]
  rcases List.mem_cons.1 h with rfl | h
  ·omega
  ·have := ih h; omega
theorem code_i3 {vr vl vt : Value} {w : World} (h : RP w r vr vl vt) : I3 (rtCode r) := by
 unfold rtCode
 split
 ·exact ⟨h.ri.a, h.ri.b, h.ri.d⟩
 ·refine ⟨?_, show R.I64 0 from ⟨by decide, by decide⟩, show R.I64 0 from ⟨by decide, by decide⟩⟩
  show R.I64 ((clsK r.kind).getD 0)
  unfold clsK
  split
  ·exact ⟨by decide, by decide⟩
  ·split
   ·exact ⟨by decide, by decide⟩
   ·split
    ·exact ⟨by decide, by decide⟩
    ·split <;> exact ⟨by decide, by decide⟩
theorem rp_sizes {p : Rp} (h : rpRight p = 0) : p.text ≠ [] ∧ ∀ t ∈ p.text, t.length ≤ 1000 := by
 unfold rpRight at h
 split at h
 ·cases h
 ·split at h
  ·cases h
  ·split at h
   ·cases h
   ·rename_i h3
    simp only [Bool.or_eq_true, not_or, Bool.not_eq_true, List.any_eq_false, decide_eq_true_eq, Nat.not_lt] at h3
    refine ⟨fun e => by rw [e] at h3; simp at h3, fun t ht => ?_⟩
    have := h3.2 t ht
    omega
theorem s1_len (r : RT) (b : Txt) : (sec1 r b).length = 7 := rfl
theorem s2_len (r : RT) : (sec2 r).length = 2 := rfl
theorem p_len (b f : Txt) : (part b f).length = 3 := rfl
theorem s3_len (r : RT) : (sec3 r).length ≤ 10 := by unfold sec3; split <;> simp
theorem s4_len (r : RT) : (sec4 r).length ≤ 20 := by unfold sec4; split <;> split <;> split <;> simp
theorem rp_first (h : OkR r) (hc : r.rp.code ≠ 0) : ∃ t ts, r.rp.text = t :: ts ∧ t.length ≤ 10000 := by
 have h1 : rpRight r.rp = 0 := h.rp.resolve_left hc
 have h2 : r.rp.text ≠ [] ∧ ∀ t ∈ r.rp.text, t.length ≤ 1000 := rp_sizes h1
 cases ht : r.rp.text with
 | nil => exact absurd ht h2.1
 | cons t ts => exact ⟨t, ts, rfl, by have := h2.2 t (by rw [ht]; simp); omega⟩
end
structure LS (w5 : World) (g : Nat) (l : List Txt) (w : World) : Prop where
 sl : SL g w5.heap.size l w
 sy : Sy g w5.heap.size w5 w
theorem LS.said {w5 w w' : World} {g : Nat} {l l' : List Txt} (h : LS w5 g l w) (h1 : SL g w5.heap.size l' w') (h2 : Sy g w5.heap.size w w') : LS w5 g l' w' := ⟨h1, h.sy.trans h2⟩
theorem LS.next {w5 w w' : World} {g : Nat} {l : List Txt} (h : LS w5 g l w) (hb : Below w.heap.size w w') : LS w5 g l w' := ⟨h.sl.next hb, h.sy.trans (Sy.of hb h.sl.le)⟩
theorem LS.old {w5 w : World} {g k : Nat} {l : List Txt} {o : Obj} (h : LS w5 g l w) (hk : w5.heap[k]? = some o) (hg : k ≠ g) : w.heap[k]? = some o := (h.sy.old k (ltOf hk) hg).trans hk
theorem LS.base {W w5 w : World} {g : Nat} {l : List Txt} (h : LS w5 g l w) (hb : Below W.heap.size W w5) (hg : W.heap.size ≤ g) : Below W.heap.size W w := hb.trans (h.sy.below hg hb.size)
theorem sy_base {W w5 w w' : World} {g : Nat} {l : List Txt} (h : LS w5 g l w) (hb : Below W.heap.size W w5) (hg : W.heap.size ≤ g) (hs : Sy g w5.heap.size w w') : Below W.heap.size W w' := hb.trans ((h.sy.trans hs).below hg hb.size)
def LnPost (r : RT) (w : World) (e : Ending) (w' : World) : Prop := ∃ v, e = .returned (.tuple #[v, .int .i64 (rtE r)]) ∧ TxtsAt w' v (if rtE r = 0 then rtLines r else []) ∧ Below w.heap.size w w' ∧ ∀ k, v.ownBlock = some k → w.heap.size ≤ k
theorem lines_eq (r : RT) : [] ++ sec1 r (bnd (rtBack r)) ++ part (bnd (rtBack r)) tyT ++ sec2 r ++ part (bnd (rtBack r)) tyS ++ sec3 r ++ sec4 r ++ part (bnd (rtBack r)) (if rtFull r then tyM else tyH) ++ rtBack r ++ [[45, 45] ++ bnd (rtBack r) ++ [45, 45]] = rtLines r := by
 unfold rtLines rtPre
 rw [List.nil_append]
set_option maxHeartbeats 16000000 in
theorem lines_x (r : RT) (vr vl vt : Value) (w : World) (hP : RP w r vr vl vt) : Calls Tryz.prog 13 #[rtA r vr vl vt] w (LnPost r w) := by
 have HP := Lib.hid hP
 have HB := Lib.hid (RB.new w r vr vl vt)
 obtain ⟨ra, rcap, rfl, _, _, _⟩ := hP.at_.e.rc
 obtain ⟨la, lc, rfl⟩ := txts_slice hP.at_.e.ls
 obtain ⟨ta, tc, rfl⟩ := txts_slice hP.at_.t
 clear hP
 go_enter Tryz.func13, Tryz.ntmps13
 go_upto_region 1 with fail
 change Code.wp _ _ _ _ (w.alloc (.cells (RE r (.slice ra r.x.rc.length rcap) (.slice la r.x.ls.length lc) (.slice ta r.rp.text.length tc)) 39))
 generalize w.alloc (.cells (RE r (.slice ra r.x.rc.length rcap) (.slice la r.x.ls.length lc) (.slice ta r.rp.text.length tc)) 39) = w1 at *
 go_wp2_with (first | ((with_reducible refine tis_load (ty := 39) (x := .tmp 1) rfl ?_); refine tload ?_ 39 (.tmp 1) rfl w.heap.size 0 39 (RE r (.slice ra r.x.rc.length rcap) (.slice la r.x.ls.length lc) (.slice ta r.rp.text.length tc)) (RE r (.slice ra r.x.rc.length rcap) (.slice la r.x.ls.length lc) (.slice ta r.rp.text.length tc)) _ rfl HB.out.box Tryz.underlying39 rfl size_rt (fun j _ => by rw [Nat.zero_add]) ?_; (focus (first | rfl | (go_simp; done)))))
 refine (rright_x r (.slice ra r.x.rc.length rcap) (.slice la r.x.ls.length lc) (.slice ta r.rp.text.length tc) _ (HP.out.below HB.out.below)).mono ?_
 rintro e w2 ⟨rfl, hb⟩
 have HB2 := Lib.hid (HB.out.next hb)
 clear hb HB
 by_cases hE : rtE r = 0
 rotate_left
 ·have h1 : (rtE r != 0) = true := by simpa using hE
  have h2 : (rtE r == 0) = false := by simpa using hE
  have HE := Lib.hid hE
  clear hE
  go_wp2_with fail
  go_ret2
  exact ⟨_, rfl, by rw [if_neg HE.out]; exact txts_nil _, HB2.out.below, fun k hk => (by cases hk)⟩
 have HE := Lib.hid hE
 have HOK := Lib.hid (rt_ok hE)
 have HBK := Lib.hid (show (rtBack r).length ≤ 2048 from Nat.le_trans back_le (ls_le (rt_ok hE).ok))
 rw [hE]
 clear hE
 go_wp2_with (first | ((with_reducible refine tis_load (ty := 39) (x := .tmp 1) rfl ?_); refine tload ?_ 39 (.tmp 1) rfl w.heap.size 0 39 (RE r (.slice ra r.x.rc.length rcap) (.slice la r.x.ls.length lc) (.slice ta r.rp.text.length tc)) (RE r (.slice ra r.x.rc.length rcap) (.slice la r.x.ls.length lc) (.slice ta r.rp.text.length tc)) _ rfl HB2.out.box Tryz.underlying39 rfl size_rt (fun j _ => by rw [Nat.zero_add]) ?_; (focus (first | rfl | (go_simp; done)))))
 refine (returned_x r (.slice ra r.x.rc.length rcap) (.slice la r.x.ls.length lc) (.slice ta r.rp.text.length tc) _ (HP.out.at_.e.ls.below HB2.out.below) (by have := ls_le HOK.out.ok; omega) (fun t ht => Nat.le_trans (join_mem ht) HP.out.fit.ls)).mono ?_
 rintro e w3 ⟨v, rfl, hv, hb⟩
 have HTY := Lib.hid (show (if rtFull r then tyM else tyH : Txt).length ≤ 1000 by split <;> decide)
 generalize hty : (if rtFull r then tyM else tyH : Txt) = ty at HTY ⊢
 have HTE := Lib.hid hty
 clear hty
 have HB3 := Lib.hid (HB2.out.next hb)
 have HV3 := Lib.hid hv
 obtain ⟨va, vc, rfl⟩ := txts_slice hv
 clear hb HB2 hv
 go_wp2_with fail
 refine (boundary_x _ (rtBack r) _ HV3.out (by have := HBK.out; omega) (HP.out.rdy.below HB3.out.below).r.2).mono ?_
 rintro e w4 ⟨rfl, hb⟩
 have HB4 := Lib.hid (HB3.out.next hb)
 have HV4 := Lib.hid (HV3.out.below hb)
 clear hb HB3 HV3
 have HBL := Lib.hid (bnd_len (l := rtBack r) (by have := HBK.out; omega))
 generalize hbd : bnd (rtBack r) = bd at HBL ⊢
 have HBD := Lib.hid hbd
 clear hbd
 go_upto_region 9 with fail
 have HW := Lib.hid (show Below w4.heap.size w4 (((w4.alloc (.cells #[.string (mkS bd)] 9)).alloc (.cells #[.slice none 0 0] 22)).alloc (.cells #[sayF (w4.heap.size + 1)] 75)) from below_next (below_next (below_box w4 _) (below_box _ _)) (below_box _ _))
 have HZ := Lib.hid (show (((w4.alloc (.cells #[.string (mkS bd)] 9)).alloc (.cells #[.slice none 0 0] 22)).alloc (.cells #[sayF (w4.heap.size + 1)] 75)).heap.size = w4.heap.size + 3 by simp)
 have H7 := Lib.hid (show (((w4.alloc (.cells #[.string (mkS bd)] 9)).alloc (.cells #[.slice none 0 0] 22)).alloc (.cells #[sayF (w4.heap.size + 1)] 75)).heap[w4.heap.size]? = some (.cells #[.string (mkS bd)] 9 (0, 0)) from ((below_next (below_box (w4.alloc (.cells #[.string (mkS bd)] 9)) _) (below_box _ _)).block _ (by simp)).trans (newOf w4 _))
 have H8 := Lib.hid (show (((w4.alloc (.cells #[.string (mkS bd)] 9)).alloc (.cells #[.slice none 0 0] 22)).alloc (.cells #[sayF (w4.heap.size + 1)] 75)).heap[w4.heap.size + 1]? = some (.cells #[.slice none 0 0] 22 (0, 0)) from ((below_box _ _).block _ (by simp)).trans (tnew2 w4 _ _))
 have H9 := Lib.hid (show (((w4.alloc (.cells #[.string (mkS bd)] 9)).alloc (.cells #[.slice none 0 0] 22)).alloc (.cells #[sayF (w4.heap.size + 1)] 75)).heap[w4.heap.size + 1 + 1]? = some (.cells #[sayF (w4.heap.size + 1)] 75 (0, 0)) from (by have h := tnew2 (w4.alloc (.cells #[.string (mkS bd)] 9)) (.cells #[.slice none 0 0] 22) (.cells #[sayF (w4.heap.size + 1)] 75); rwa [show (w4.alloc (.cells #[.string (mkS bd)] 9)).heap.size = w4.heap.size + 1 by simp] at h))
 have HB5 := Lib.hid (HB4.out.next HW.out)
 have HG := Lib.hid (show w.heap.size ≤ w4.heap.size + 1 ∧ w.heap.size ≠ w4.heap.size + 1 from ⟨Nat.le_succ_of_le HB4.out.below.size, by have := ltOf HB4.out.box; omega⟩)
 generalize ((w4.alloc (.cells #[.string (mkS bd)] 9)).alloc (.cells #[.slice none 0 0] 22)).alloc (.cells #[sayF (w4.heap.size + 1)] 75) = w5 at *
 have HL := Lib.hid (show LS w5 (w4.heap.size + 1) [] w5 from ⟨⟨⟨_, H8.out, strs_nil _ _⟩, by rw [HZ.out]; omega, Nat.le_refl _⟩, Sy.refl _ _ _⟩)
 have HVV := Lib.hid (fun (l : List Txt) (wa : World) (h : LS w5 (w4.heap.size + 1) l wa) => HV4.out.below (h.base HW.out (Nat.le_succ _)))
 have H79 := Lib.hid (show w4.heap.size ≠ w4.heap.size + 1 ∧ w4.heap.size + 1 + 1 ≠ w4.heap.size + 1 by omega)
 clear HW HZ H8 HB4 HV4
 generalize w4.heap.size + 1 + 1 = b9 at *
 generalize w4.heap.size + 1 = g at *
 generalize w4.heap.size = b7 at *
 clear w4
 have HRW := Lib.hid (fun (l : List Txt) (wa wb : World) (h : LS w5 g l wa) (hs : Sy g w5.heap.size wa wb) => HP.out.below (sy_base h HB5.out.below HG.out.1 hs))
 have HRB := Lib.hid (fun (l : List Txt) (wa : World) (h : LS w5 g l wa) => HP.out.below (h.base HB5.out.below HG.out.1))
 have c7 := cellOf (HL.out.old H7.out H79.out.1) 0
 have c9 := cellOf (HL.out.old H9.out H79.out.2) 0
 go_wp2_with (first | ((with_reducible refine tis_load (ty := 39) (x := .tmp 1) rfl ?_); refine tload ?_ 39 (.tmp 1) rfl w.heap.size 0 39 (RE r (.slice ra r.x.rc.length rcap) (.slice la r.x.ls.length lc) (.slice ta r.rp.text.length tc)) (RE r (.slice ra r.x.rc.length rcap) (.slice la r.x.ls.length lc) (.slice ta r.rp.text.length tc)) _ rfl (HL.out.old HB5.out.box HG.out.2) Tryz.underlying39 rfl size_rt (fun j _ => by rw [Nat.zero_add]) ?_; (focus (first | rfl | (go_simp; done)))))
 refine (header_x g w5.heap.size [] bd r (.slice ra r.x.rc.length rcap) (.slice la r.x.ls.length lc) (.slice ta r.rp.text.length tc) _ HL.out.sl (HRB.out _ _ HL.out).at_ (pm_text HOK.out).1 (mail_ok HOK.out.ok) HOK.out.now.1 (fun w' h => (HRW.out _ _ _ HL.out (Sy.of h HL.out.sl.le)).rdy.r) (by have := HBL.out; omega) (by rcases cls_kind HOK.out.kind with e | e | e | e <;> rw [e] <;> decide) (by have h3 := s3_len r; have h4 := s4_len r; simp only [List.length_append, List.length_nil, s1_len, s2_len, p_len]; omega)).mono ?_
 rintro e wa ⟨rfl, h1, h2⟩
 have HLa := Lib.hid (HL.out.said h1 h2)
 clear h1 h2 c7 c9 HL
 have c7 := cellOf (HLa.out.old H7.out H79.out.1) 0
 have c9 := cellOf (HLa.out.old H9.out H79.out.2) 0
 go_wp2_with fail
 refine (part_x g w5.heap.size b9 b7 _ bd tyT _ HLa.out.sl ⟨_, HLa.out.old H9.out H79.out.2⟩ ⟨_, HLa.out.old H7.out H79.out.1⟩ (by have := HBL.out; omega) (by decide) (by have h3 := s3_len r; have h4 := s4_len r; simp only [List.length_append, List.length_nil, s1_len, s2_len, p_len]; omega)).mono ?_
 rintro e wb ⟨rfl, h1, h2⟩
 have HLb := Lib.hid (HLa.out.said h1 h2)
 clear h1 h2 c7 c9 HLa
 have c7 := cellOf (HLb.out.old H7.out H79.out.1) 0
 have c9 := cellOf (HLb.out.old H9.out H79.out.2) 0
 go_wp2_with (first | ((with_reducible refine tis_load (ty := 39) (x := .tmp 1) rfl ?_); refine tload ?_ 39 (.tmp 1) rfl w.heap.size 0 39 (RE r (.slice ra r.x.rc.length rcap) (.slice la r.x.ls.length lc) (.slice ta r.rp.text.length tc)) (RE r (.slice ra r.x.rc.length rcap) (.slice la r.x.ls.length lc) (.slice ta r.rp.text.length tc)) _ rfl (HLb.out.old HB5.out.box HG.out.2) Tryz.underlying39 rfl size_rt (fun j _ => by rw [Nat.zero_add]) ?_; (focus (first | rfl | (go_simp; done)))))
 refine (sentence_x g w5.heap.size _ r (.slice ra r.x.rc.length rcap) (.slice la r.x.ls.length lc) (.slice ta r.rp.text.length tc) _ HLb.out.sl (HRB.out _ _ HLb.out).at_ HOK.out.pl (rcpt_ok HOK.out.ok (to_mem HOK.out)).1 (by rcases cls_kind HOK.out.kind with e | e | e | e <;> rw [e] <;> decide) (by have h3 := s3_len r; have h4 := s4_len r; simp only [List.length_append, List.length_nil, s1_len, s2_len, p_len]; omega)).mono ?_
 rintro e wc ⟨rfl, h1, h2⟩
 have HLc := Lib.hid (HLb.out.said h1 h2)
 clear h1 h2 c7 c9 HLb
 have c7 := cellOf (HLc.out.old H7.out H79.out.1) 0
 have c9 := cellOf (HLc.out.old H9.out H79.out.2) 0
 go_wp2_with fail
 refine (part_x g w5.heap.size b9 b7 _ bd tyS _ HLc.out.sl ⟨_, HLc.out.old H9.out H79.out.2⟩ ⟨_, HLc.out.old H7.out H79.out.1⟩ (by have := HBL.out; omega) (by decide) (by have h3 := s3_len r; have h4 := s4_len r; simp only [List.length_append, List.length_nil, s1_len, s2_len, p_len]; omega)).mono ?_
 rintro e wd ⟨rfl, h1, h2⟩
 have HLd := Lib.hid (HLc.out.said h1 h2)
 clear h1 h2 c7 c9 HLc
 have c7 := cellOf (HLd.out.old H7.out H79.out.1) 0
 have c9 := cellOf (HLd.out.old H9.out H79.out.2) 0
 go_wp2_with (first | ((with_reducible refine tis_load (ty := 39) (x := .tmp 1) rfl ?_); refine tload ?_ 39 (.tmp 1) rfl w.heap.size 0 39 (RE r (.slice ra r.x.rc.length rcap) (.slice la r.x.ls.length lc) (.slice ta r.rp.text.length tc)) (RE r (.slice ra r.x.rc.length rcap) (.slice la r.x.ls.length lc) (.slice ta r.rp.text.length tc)) _ rfl (HLd.out.old HB5.out.box HG.out.2) Tryz.underlying39 rfl size_rt (fun j _ => by rw [Nat.zero_add]) ?_; (focus (first | rfl | (go_simp; done)))))
 refine (ofMessage_x g w5.heap.size _ r (.slice ra r.x.rc.length rcap) (.slice la r.x.ls.length lc) (.slice ta r.rp.text.length tc) _ HLd.out.sl (HRB.out _ _ HLd.out).at_ HOK.out.ok.at_.1 (fun w' h => (HRW.out _ _ _ HLd.out h).rdy.r) (by have := (host_ok HOK.out).2.2.1; omega) (env_le HOK.out.ok) (by have h3 := s3_len r; have h4 := s4_len r; simp only [List.length_append, List.length_nil, s1_len, s2_len, p_len]; omega)).mono ?_
 rintro e we ⟨rfl, h1, h2⟩
 have HLe := Lib.hid (HLd.out.said h1 h2)
 clear h1 h2 c7 c9 HLd
 have c7 := cellOf (HLe.out.old H7.out H79.out.1) 0
 have c9 := cellOf (HLe.out.old H9.out H79.out.2) 0
 go_wp2_with (first | ((with_reducible refine tis_load (ty := 39) (x := .tmp 1) rfl ?_); refine tload ?_ 39 (.tmp 1) rfl w.heap.size 0 39 (RE r (.slice ra r.x.rc.length rcap) (.slice la r.x.ls.length lc) (.slice ta r.rp.text.length tc)) (RE r (.slice ra r.x.rc.length rcap) (.slice la r.x.ls.length lc) (.slice ta r.rp.text.length tc)) _ rfl (HLe.out.old HB5.out.box HG.out.2) Tryz.underlying39 rfl size_rt (fun j _ => by rw [Nat.zero_add]) ?_; (focus (first | rfl | (go_simp; done)))))
 refine (ofRecipient_x g w5.heap.size _ r (.slice ra r.x.rc.length rcap) (.slice la r.x.ls.length lc) (.slice ta r.rp.text.length tc) _ HLe.out.sl (HRB.out _ _ HLe.out).at_ HOK.out.pl (rcpt_ok HOK.out.ok (to_mem HOK.out)).1 (by rcases cls_kind HOK.out.kind with e | e | e | e <;> rw [e] <;> decide) (by have := kindR_ok (rcpt_ok HOK.out.ok (to_mem HOK.out)).2; exact ⟨this.1, this.2.1⟩) (kindR_ok (rcpt_ok HOK.out.ok (to_mem HOK.out)).2).2.2 (code_i3 HP.out) HP.out.ri.1 (rp_first HOK.out) HOK.out.til.1 (fun w' h => (HRW.out _ _ _ HLe.out h).rdy) (fun w' h => (HRW.out _ _ _ HLe.out h).at_.t) (by have h3 := s3_len r; have h4 := s4_len r; simp only [List.length_append, List.length_nil, s1_len, s2_len, p_len]; omega)).mono ?_
 rintro e wf ⟨rfl, h1, h2⟩
 have HLf := Lib.hid (HLe.out.said h1 h2)
 clear h1 h2 c7 c9 HLe
 have HLN := Lib.hid (show ∀ k, k ≤ 900000 → ([] ++ sec1 r bd ++ part bd tyT ++ sec2 r ++ part bd tyS ++ sec3 r ++ sec4 r).length + k ≤ 1000000 by
  intro k hk
  have h3 := s3_len r; have h4 := s4_len r
  simp only [List.length_append, List.length_nil, s1_len, s2_len, p_len]
  omega)
 generalize hl6 : [] ++ sec1 r bd ++ part bd tyT ++ sec2 r ++ part bd tyS ++ sec3 r ++ sec4 r = l6 at HLf HLN
 have HL6 := Lib.hid hl6
 clear hl6
 have c7 := cellOf (HLf.out.old H7.out H79.out.1) 0
 have c9 := cellOf (HLf.out.old H9.out H79.out.2) 0
 go_wp2_with fail
 refine (part_x g w5.heap.size b9 b7 _ bd ty _ HLf.out.sl ⟨_, HLf.out.old H9.out H79.out.2⟩ ⟨_, HLf.out.old H7.out H79.out.1⟩ (by have := HBL.out; omega) HTY.out (HLN.out 3 (by decide))).mono ?_
 rintro e wg ⟨rfl, h1, h2⟩
 have HLg := Lib.hid (HLf.out.said h1 h2)
 clear h1 h2 c7 c9 HLf
 have c7 := cellOf (HLg.out.old H7.out H79.out.1) 0
 have c9 := cellOf (HLg.out.old H9.out H79.out.2) 0
 go_wp2_with fail
 refine (say_x g w5.heap.size _ (rtBack r) _ _ HLg.out.sl (HVV.out _ _ HLg.out) (by have h := HLN.out 10000 (by decide); have h2 := HBK.out; rw [List.length_append, show (part bd ty).length = 3 from rfl]; omega)).mono ?_
 rintro e wh ⟨rfl, h1, h2⟩
 have HLh := Lib.hid (HLg.out.said h1 h2)
 clear h1 h2 c7 c9 HLg
 have c7 := cellOf (HLh.out.old H7.out H79.out.1) 0
 have c9 := cellOf (HLh.out.old H9.out H79.out.2) 0
 have sb : (mkS bd).size ≤ 100 := by rw [mkS_size]; have := HBL.out; omega
 go_wp2_with fail
 refine (said_x HLh.out.sl [[45, 45] ++ bd ++ [45, 45]] 1 _ ?_ rfl (by have h := HLN.out 10000 (by decide); have h2 := HBK.out; rw [List.length_append, List.length_append, show (part bd ty).length = 3 from rfl]; omega)).mono ?_
 ·show [_] = _
  rw [strsV, List.map_cons, List.map_nil, ← mkS_cat, ← mkS_cat]
  rfl
 rintro e wi ⟨rfl, h1, h2⟩
 have HLi := Lib.hid (HLh.out.said h1 h2)
 clear h1 h2 c7 c9 HLh
 generalize hLL : l6 ++ part bd ty ++ rtBack r ++ [[45, 45] ++ bd ++ [45, 45]] = LL at HLi
 have HLL := Lib.hid hLL
 clear hLL
 obtain ⟨v, hv1, hv2⟩ := HLi.out.sl.row
 have HV := Lib.hid (own_txts hv2)
 have HFR := Lib.hid (show ∀ k, v.ownBlock = some k → w.heap.size ≤ k from fun k hk => Nat.le_trans HB5.out.below.size (hv2.lt k hk).1)
 obtain ⟨A, cp, rfl⟩ := strs_slice hv2
 have cg : wi.cell? ⟨g, 0, none⟩ = some (.slice A LL.length cp) := cellOf hv1 0
 clear hv1 hv2
 generalize hN : LL.length = N at cg HV HFR
 clear hN sb
 go_wp2_with fail
 go_ret2
 refine ⟨.slice A N cp, by rw [HE.out]; rfl, ?_, HLi.out.base HB5.out.below HG.out.1, HFR.out⟩
 have k := HV.out
 rw [if_pos HE.out, ← lines_eq, HBD.out, HTE.out, HL6.out, HLL.out]
 exact k
end Go.Proofs.YtojpkbonioglbaaGreatDoor.E.T
namespace Go.Proofs.YtojpkbonioglbaaGreatDoor.E.T
set_option maxRecDepth 100000
set_option linter.unusedSimpArgs false
open Go.RowKit Go.Shelf
set_option maxHeartbeats 1000000 in
theorem size_x (v : Value) (l : List Txt) (w : World) (hT : TxtsAt w v l) (hz : (L.joinB (bs l)).length ≤ 1000000000) (hn : l.length ≤ 1000000000) : Calls Tryz.prog 45 #[v] w fun e w' => e = .returned (.int .i64 (szL l)) ∧ Below w.heap.size w w' := by
 obtain ⟨a, cap, rfl⟩ := txts_slice hT
 have HD := Lib.hid (L.data_x l.length cap (bs l) a w (txts_strs hT) hz hn)
 unfold L.DataPost at HD
 have HS := Lib.hid (show ((⟨(if L.wrongOf 998 (bs l) = 0 then L.dataOf (bs l) else []).toArray⟩ : ByteArray).size : Int) = szL l by
  rw [show ∀ x : Txt, (⟨x.toArray⟩ : ByteArray).size = x.length from fun x => by simp [ByteArray.size]]
  unfold szL
  split <;> simp)
 generalize (⟨(if L.wrongOf 998 (bs l) = 0 then L.dataOf (bs l) else []).toArray⟩ : ByteArray) = d at HD HS
 clear hT hz hn
 go_enter Tryz.func45, Tryz.ntmps45
 go_wp2_with fail
 refine HD.out.mono ?_
 rintro e w' ⟨rfl, hb⟩
 have HB := Lib.hid hb
 clear hb
 go_wp2_with fail
 go_ret
 exact ⟨ret_int HS.out, HB.out⟩
theorem szl_le {t : Txt} (h : t.length ≤ 998) : 0 ≤ szL [t] ∧ szL [t] ≤ 1004 := by
 unfold szL
 split
 ·have := (laid_len t).2
  unfold L.dataOf L.bodyOf bs
  simp [mkS_data]
  omega
 ·omega
structure FI (W : World) (l : List Txt) (k : Nat) (acc : List Txt) (room : Int) (v : Value) (w : World) : Prop where
 own : w.ownsRow W.heap.size 9 1 v acc.length (strsV acc)
 below : Below W.heap.size W w
 fit : fitL 4093 l = acc ++ fitL room (l.drop k)
 len : acc.length ≤ k
theorem FI.next {W w w' : World} {l acc : List Txt} {k : Nat} {room : Int} {v : Value} (h : FI W l k acc room v w) (hb : Below w.heap.size w w') : FI W l k acc room v w' := ⟨own_below h.own hb, below_next h.below hb, h.fit, h.len⟩
theorem fit_end (room : Int) {l : List Txt} {k : Nat} (h : l.length ≤ k) : fitL room (l.drop k) = [] := by
 rw [List.drop_of_length_le h]
 cases l <;> rfl
theorem fit_stop {room : Int} {l : List Txt} {k : Nat} {t : Txt} (ht : l[k]? = some t) (h : room - cost (t.take 998) < 0) : fitL room (l.drop k) = [] := by
 obtain ⟨hk, rfl⟩ := List.getElem?_eq_some_iff.1 ht
 rw [List.drop_eq_getElem_cons hk, fitL, if_pos h]
theorem fit_go {room : Int} {l : List Txt} {k : Nat} {t : Txt} (ht : l[k]? = some t) (h : ¬ room - cost (t.take 998) < 0) : fitL room (l.drop k) = t.take 998 :: fitL (room - cost (t.take 998)) (l.drop (k + 1)) := by
 obtain ⟨hk, rfl⟩ := List.getElem?_eq_some_iff.1 ht
 rw [List.drop_eq_getElem_cons hk, fitL, if_neg h]
def FtPost (l : List Txt) (w : World) (e : Ending) (w' : World) : Prop := ∃ v, e = .returned v ∧ TxtsAt w' v (fitL 4093 l) ∧ Below w.heap.size w w' ∧ ∀ k, v.ownBlock = some k → w.heap.size ≤ k
set_option maxHeartbeats 8000000 in
theorem fitting_x (v : Value) (l : List Txt) (w : World) (hT : TxtsAt w v l) (hn : l.length ≤ 1000000) (hz : ∀ t ∈ l, t.length ≤ 1000000000) : Calls Tryz.prog 28 #[v] w (FtPost l w) := by
 obtain ⟨a, cap, rfl, _, _, hx⟩ := hT
 have HX := Lib.hid hx
 have HZ := Lib.hid hz
 have HS0 := Lib.hid (fun w => size_x (.slice none 0 0) [] w (txts_nil w) (by decide) (by decide))
 rw [sz_nil] at HS0
 clear hx hz
 generalize hN : l.length = N at *
 have HN := Lib.hid hN
 clear hN
 go_enter Tryz.func28, Tryz.ntmps28
 go_wp2_with fail
 refine (HS0.out _).mono ?_
 rintro e w1 ⟨rfl, hb⟩
 have HF := Lib.hid (show FI w l 0 [] 4093 (.slice none 0 0) w1 from ⟨strs_nil _ _, hb, by rw [List.drop_zero, List.nil_append], Nat.le_refl _⟩)
 clear hb
 go_wp2_with fail
 go_loopw [3, 4, 11] (fun v rm i wr => ∃ (k : Nat) (acc : List Txt) (room : Int) (A : Option Addr) (c : Nat), k ≤ N ∧ v = .slice A acc.length c ∧ rm = .int .i64 room ∧ i = .int .i64 k ∧ 0 ≤ room ∧ room ≤ 4093 + 3 * (k : Int) ∧ Hid (FI w l k acc room (.slice A acc.length c) wr)) (fun _ _ i _ => N - (intOf i).toNat)
 case atStart => exact ⟨0, [], 4093, none, 0, Nat.zero_le _, rfl, rfl, rfl, by decide, by decide, HF⟩
 case round =>
  obtain ⟨k, acc, room, A, c, hk, rfl, rfl, rfl, hr0, hr1, HK⟩ := hrel
  by_cases hlt : k < N
  ·obtain ⟨t, ht⟩ : ∃ t, l[k]? = some t := ⟨_, List.getElem?_eq_getElem (by have := HN.out; omega)⟩
   obtain ⟨ad, rfl, hab, hat⟩ := HX.out k t ht
   have hcl := (HK.out.below.cell (by rw [add_block]; exact hab)).trans hat
   have hms := mkS_size t
   have htl := HZ.out t (List.mem_of_getElem? ht)
   obtain ⟨M, hM⟩ : ∃ M, M = min t.length 998 := ⟨_, rfl⟩
   have e1 : min (t.length : Int) 998 = (M : Int) := by omega
   have he : (mkS t).extract 0 M = mkS (t.take 998) := by
    rw [mkS_extract, List.drop_zero, hM]
    congr 1
    rcases Nat.le_total t.length 998 with h | h
    ·rw [Nat.min_eq_left h, List.take_of_length_le (Nat.le_refl _), List.take_of_length_le h]
    ·rw [Nat.min_eq_right h]
   have hM1 : M ≤ t.length := by omega
   have hul : (t.take 998).length ≤ 998 := by rw [List.length_take]; omega
   have HT := Lib.hid ht
   have HC := Lib.hid (show cost (t.take 998) = szL [t.take 998] - 3 by unfold cost; rw [sz_nil])
   obtain ⟨hs0, hs1⟩ := szl_le hul
   have HS1 := Lib.hid (fun wz hT => size_x (.slice (some ⟨wr.heap.size, 0, none⟩) 1 1) [t.take 998] wz hT (by have := hul; simp [L.joinB, bs, mkS_data]; omega) (by simp))
   generalize szL [t.take 998] = z at *
   generalize hc : cost (t.take 998) = cz at *
   have HCC := Lib.hid hc
   have wz1 : IntKind.i64.wrap (z - 3) = cz := (IntWalk.i64_in _ (by omega)).trans HC.out.symm
   have hcz : -3 ≤ cz ∧ cz ≤ 1001 := by have := HC.out; omega
   have wz2 : IntKind.i64.wrap (room - cz) = room - cz := IntWalk.i64_in _ (by omega)
   clear ht hab hat hM hul hc hs0 hs1
   generalize htk : t.take 998 = u at *
   have HTK := Lib.hid htk
   clear htk
   go_wp2_with fail
   refine (HS1.out _ (one_txts wr u)).mono ?_
   rintro e w2 ⟨rfl, hb⟩
   have HK2 := Lib.hid (HK.out.next (below_next (below_box wr _) hb))
   clear hb
   go_wp2_with fail
   refine (HS0.out _).mono ?_
   rintro e w3 ⟨rfl, hb⟩
   have HK3 := Lib.hid (HK2.out.next hb)
   clear hb HK2 HK hcl he
   by_cases hneg : room - cz < 0
   ·have HNG := Lib.hid (fit_stop (room := room) HT.out (by rw [HTK.out, HCC.out]; exact hneg))
    go_wp2_with fail
    go_ret
    exact ⟨_, rfl, by rw [HK3.out.fit, HNG.out, List.append_nil]; exact own_txts HK3.out.own, HK3.out.below, fun k hk => (HK3.out.own.lt k hk).1⟩
   ·have HGO := Lib.hid (fit_go (room := room) HT.out (by rw [HTK.out, HCC.out]; exact hneg))
    rw [HTK.out, HCC.out] at HGO
    obtain ⟨p, hp⟩ : ∃ p, p = room - cz := ⟨_, rfl⟩
    have hp0 : 0 ≤ p := by omega
    rw [← hp] at HGO
    replace wz2 : IntKind.i64.wrap (room - cz) = p := wz2.trans hp.symm
    have HLE := Lib.hid HK3.out.len
    have HPP := Lib.hid hp
    clear hneg hp
    go_wp2_with (at_builtin; refine app_more rfl (.tmp 29) (.tmp 31) rfl (.slice A acc.length c) acc rfl (own_below HK3.out.own (below_box w3 (.cells #[.string (mkS u)] 9))) (by have := HK3.out.below.size; simp; omega) (below_next HK3.out.below (below_box w3 (.cells #[.string (mkS u)] 9))) _ [u] rfl (one_txts w3 u) (by have := HLE.out; have := HN.out; simp; omega) ?_; intro v' w4 k1 k2; obtain ⟨A', c', rfl⟩ := strs_slice k1; have K1 := Lib.hid k1; have K2 := Lib.hid k2; clear k1 k2)
    go_roundw
    case rel => exact ⟨k + 1, acc ++ [u], p, A', c', by omega, by rw [List.length_append]; rfl, rfl, by go_num, hp0, by have := HPP.out; push_cast; omega, Lib.hid ⟨K1.out, K2.out, by rw [HK3.out.fit, HGO.out]; simp, by simp; exact HLE.out⟩⟩
    case measure => simp [intOf]; omega
  ·obtain rfl : k = N := by omega
   have HEN := Lib.hid (fit_end room (l := l) (k := k) (by have := HN.out; omega))
   go_wp2_with fail
   go_ret
   exact ⟨_, rfl, by rw [HK.out.fit, HEN.out, List.append_nil]; exact own_txts HK.out.own, HK.out.below, fun k hk => (HK.out.own.lt k hk).1⟩
end Go.Proofs.YtojpkbonioglbaaGreatDoor.E.T
namespace Go.Proofs.YtojpkbonioglbaaGreatDoor.E.T
set_option maxRecDepth 100000
set_option linter.unusedSimpArgs false
open Go.RowKit Go.Shelf
noncomputable def mkE (r : RT) (id : Int) : Int := if rtE r ≠ 0 then rtE r else if inR id 1 2147483647 = false then 1 else 0
noncomputable def mkV (r : RT) (id : Int) : EM := if mkE r id = 0 then mk r id else zeroE
def MkPost (r : RT) (id : Int) (w : World) (e : Ending) (w' : World) : Prop := ∃ vr vl, e = .returned (.tuple #[.agg (EC (mkV r id) vr vl), .int .i64 (mkE r id)]) ∧ EAt w' (mkV r id) vr vl ∧ Below w.heap.size w w' ∧ (∀ k, vr.ownBlock = some k → w.heap.size ≤ k) ∧ (∀ k, vl.ownBlock = some k → w.heap.size ≤ k)
structure MA (W : World) (r : RT) (vr vl vt : Value) (w : World) : Prop where
 rb : RB W r vr vl vt w
 ans : w.heap[W.heap.size + 1]? = some (.cells (EC zeroE nilS nilS) 34 (0, 0))
theorem MA.next {W w w' : World} {r : RT} {vr vl vt : Value} (h : MA W r vr vl vt w) (hb : Below w.heap.size w w') : MA W r vr vl vt w' := ⟨h.rb.next hb, (hb.block _ (ltOf h.ans)).trans h.ans⟩
theorem MA.start (w : World) (r : RT) (vr vl vt : Value) : MA w r vr vl vt ((w.alloc (.cells (RE r vr vl vt) 39)).alloc (.cells (EC zeroE nilS nilS) 34)) := ⟨(RB.new w r vr vl vt).next (below_box _ _), tnew2 w _ _⟩
theorem mk_no {r : RT} {id E : Int} {W w w' : World} {vr vl vt : Value} (hE : mkE r id = E) (h0 : E ≠ 0) (h : MA W r vr vl vt w) (hA : Apart (W.heap.size + 1) w.heap.size w w') : MkPost r id W (.returned (.tuple #[.agg (EC zeroE nilS nilS), .int .i64 E])) w' := by
 unfold MkPost mkV
 rw [hE, if_neg h0]
 exact ⟨_, _, rfl, EAt.nil w' _ rfl rfl, h.rb.below.trans (hA.below h.rb.below.size (Nat.le_succ _)), fun k hk => (by cases hk), fun k hk => (by cases hk)⟩
structure MB7 (W : World) (b8 : Nat) (r : RT) (vr vl vt v : Value) (w : World) : Prop where
 ma : MA W r vr vl vt w
 fr : w.heap[b8]? = some (.cells #[.string (mkS r.x.fr.1), .string (mkS r.x.fr.2)] 27 (0, 0))
 ls : TxtsAt w v (rtLines r)
theorem MB7.next {W w w' : World} {b8 : Nat} {r : RT} {vr vl vt v : Value} (h : MB7 W b8 r vr vl vt v w) (hb : Below w.heap.size w w') : MB7 W b8 r vr vl vt v w' := ⟨h.ma.next hb, (hb.block _ (ltOf h.fr)).trans h.fr, h.ls.below hb⟩
theorem load_8 {w : World} {z : Nat} {a b : Txt} (h : w.heap[z]? = some (.cells #[.string (mkS a), .string (mkS b)] 27 (0, 0))) : (loadVar 9 ⟨z, 0, none⟩).run Tryz.prog w = .ok (.string (mkS a)) w ∧ (loadVar 9 ⟨z, 1, none⟩).run Tryz.prog w = .ok (.string (mkS b)) w := by
 have c : w.cell? ⟨z, 0, none⟩ = some (.string (mkS a)) := cellOf h 0
 have d : w.cell? ⟨z, 1, none⟩ = some (.string (mkS b)) := cellOf h 1
 constructor <;> go_simp
theorem load_9 {w : World} {z : Nat} {a b : Txt} (h : w.heap[z]? = some (.cells #[.string (mkS a), .string (mkS b)] 27 (0, 0))) : (loadVar 27 ⟨z, 0, none⟩).run Tryz.prog w = .ok (.agg #[.string (mkS a), .string (mkS b)]) w :=
 loadVar_blk (P := Tryz.prog) (ty := 27) (o := 0) (vs := #[.string (mkS a), .string (mkS b)]) h Tryz.underlying27 rfl size_pt (fun j hj => by rw [Nat.zero_add])
theorem load_23 {w : World} {z : Nat} {r : RT} {vr vl vt : Value} (h : w.heap[z]? = some (.cells (RE r vr vl vt) 39 (0, 0))) : (loadVar 3 ⟨z, 23, none⟩).run Tryz.prog w = .ok (.int .i64 r.now) w := (load_c h).2
def Sh (l : List Txt) : Prop := ∀ t ∈ l, t.length ≤ 1000000000
theorem Sh.app {l m : List Txt} (h : Sh l) (k : Sh m) : Sh (l ++ m) := fun t ht => by
 rcases List.mem_append.1 ht with ht | ht
 ·exact h t ht
 ·exact k t ht
theorem Sh.nil : Sh [] := fun t h => by cases h
theorem Sh.cons {t : Txt} {l : List Txt} (h : t.length ≤ 1000000000) (k : Sh l) : Sh (t :: l) := fun u hu => by
 rcases List.mem_cons.1 hu with rfl | hu
 ·exact h
 ·exact k u hu
theorem Sh.ite {p : Prop} [Decidable p] {l m : List Txt} (h : p → Sh l) (k : Sh m) : Sh (if p then l else m) := by
 split
 ·exact h ‹_›
 ·exact k
theorem Sh.ite' {p : Prop} [Decidable p] {l m : List Txt} (h : Sh l) (k : ¬ p → Sh m) : Sh (if p then l else m) := by
 split
 ·exact h
 ·exact k ‹_›
theorem lines_fit {vr vl vt : Value} {w : World} (r : RT) (h : OkR r) (hP : RP w r vr vl vt) : (rtLines r).length ≤ 1000000 ∧ ∀ t ∈ rtLines r, t.length ≤ 1000000000 := by
 have l1 := txt_len (pm_text h).1
 have l2 := txt_len (mail_ok h.ok)
 have l3 := tm_len h.now.1
 have l4 : r.kind.length ≤ 9 := by rcases cls_kind h.kind with e | e | e | e <;> rw [e] <;> decide
 have hb := ls_le h.ok
 have hb2 := back_le (r := r)
 have l5 := bnd_len (l := rtBack r) (by omega)
 have l6 := txt_len (rcpt_ok h.ok (to_mem h)).1
 have l7 := (host_ok h).2.2.1
 have l8 := env_le h.ok
 have l9 := enc_len r.x.m.env
 have l10 := tm_len h.ok.at_.1
 obtain ⟨m1, m2, _⟩ := kindR_ok (rcpt_ok h.ok (to_mem h)).2
 have m3 := enc_len (rtTo r).r.oc
 have m4 := low_len (rtTo r).r.kind
 have m5 := bare_len (P.textL (rtTo r).p)
 have m6 := dots_len (code_i3 hP)
 have m7 := tm_len h.til.1
 have m8 := R.itoa_len hP.ri.1
 have m9 : r.rp.code ≠ 0 → (r.rp.text.headD []).length ≤ 10000 := fun hc => by
  obtain ⟨t, ts, ht, hl⟩ := rp_first h hc
  rw [ht]; exact hl
 have back : Sh (rtBack r) := fun t ht => by
  have hm : t ∈ r.x.ls := by
   unfold rtBack at ht
   split at ht
   ·exact ht
   ·exact mem_tw ht
  exact Nat.le_trans (join_mem hm) hP.fit.ls
 have hp : ∀ f : Txt, f.length ≤ 100 → Sh (part (bnd (rtBack r)) f) := fun f hf => by
  unfold part
  refine Sh.cons ?_ (Sh.cons ?_ (Sh.cons ?_ Sh.nil)) <;> simp only [List.length_append, List.length_cons, List.length_nil] <;> omega
 have h1 : Sh (sec1 r (bnd (rtBack r))) := by
  unfold sec1
  refine Sh.cons ?_ (Sh.cons ?_ (Sh.cons ?_ (Sh.cons ?_ (Sh.cons ?_ (Sh.cons ?_ (Sh.cons ?_ Sh.nil)))))) <;> simp only [List.length_append, List.length_cons, List.length_nil] <;> omega
 have h2 : Sh (sec2 r) := by
  unfold sec2
  refine Sh.cons ?_ (Sh.cons ?_ Sh.nil)
  ·split <;> simp only [List.length_append, List.length_cons, List.length_nil] <;> omega
  ·simp
 have h3 : Sh (sec3 r) := by
  unfold sec3
  refine Sh.app (Sh.app (Sh.cons ?_ Sh.nil) (Sh.ite (fun _ => Sh.nil) (Sh.cons ?_ Sh.nil))) (Sh.cons ?_ (Sh.cons ?_ Sh.nil)) <;> simp only [List.length_append, List.length_cons, List.length_nil] <;> omega
 have h4 : Sh (sec4 r) := by
  unfold sec4
  refine Sh.app (Sh.app (Sh.app (Sh.app (Sh.ite (fun _ => Sh.nil) (Sh.cons ?_ Sh.nil)) (Sh.cons ?_ (Sh.cons ?_ (Sh.cons ?_ Sh.nil)))) (Sh.ite' Sh.nil (fun hc => Sh.cons ?_ Sh.nil))) (Sh.ite (fun _ => Sh.cons ?_ Sh.nil) Sh.nil)) (Sh.cons ?_ Sh.nil)
  case refine_5 => have := m9 hc; simp only [List.length_append, List.length_cons, List.length_nil]; omega
  all_goals (simp only [List.length_append, List.length_cons, List.length_nil]; omega)
 refine ⟨?_, ?_⟩
 ·have k3 := s3_len r
  have k4 := s4_len r
  unfold rtLines rtPre
  simp only [List.length_append, List.length_cons, List.length_nil, s1_len, s2_len, p_len]
  omega
 ·unfold rtLines rtPre
  refine Sh.app (Sh.app (Sh.app (Sh.app (Sh.app (Sh.app (Sh.app (Sh.app h1 (hp _ (by decide))) h2) (hp _ (by decide))) h3) h4) (hp _ (by split <;> decide))) back) (Sh.cons ?_ Sh.nil)
  simp only [List.length_append, List.length_cons, List.length_nil]; omega
theorem one_rcs (w : World) (p : P.Pth) : RcsAt (w.alloc (.cells (RC ⟨p, zeroR⟩) 49)) (.slice (some ⟨w.heap.size, 0, none⟩) 1 1) [⟨p, zeroR⟩] := by
 refine ⟨_, 1, rfl, Nat.le_refl _, fun e => (by cases e), fun i c hi => ?_⟩
 cases i with
 | succ i => cases hi
 | zero =>
  injection hi with hi
  subst hi
  have hn := newOf w (.cells (RC ⟨p, zeroR⟩) 49)
  refine ⟨_, rfl, ltOf hn, ?_⟩
  rw [Nat.zero_mul, show (⟨w.heap.size, 0, none⟩ : Addr).add 0 = ⟨w.heap.size, 0, none⟩ from rfl]
  exact ⟨ltOf hn, cellOf hn 0, cellOf hn 1, cellOf hn 2, cellOf hn 3, cellOf hn 4⟩
set_option maxHeartbeats 16000000 in
theorem make_x (r : RT) (id : Int) (vr vl vt : Value) (w : World) (hP : RP w r vr vl vt) : Calls Tryz.prog 10 #[rtA r vr vl vt, .int .i64 id] w (MkPost r id w) := by
 have HP := Lib.hid hP
 have HM := Lib.hid (MA.start w r vr vl vt)
 obtain ⟨ra, rcap, rfl, _, _, _⟩ := hP.at_.e.rc
 obtain ⟨la, lc, rfl⟩ := txts_slice hP.at_.e.ls
 obtain ⟨ta, tc, rfl⟩ := txts_slice hP.at_.t
 clear hP
 go_enter Tryz.func10, Tryz.ntmps10
 go_upto_region 1 with fail
 change Code.wp _ _ _ _ ((w.alloc (.cells (RE r (.slice ra r.x.rc.length rcap) (.slice la r.x.ls.length lc) (.slice ta r.rp.text.length tc)) 39)).alloc (.cells (EC zeroE nilS nilS) 34))
 generalize (w.alloc (.cells (RE r (.slice ra r.x.rc.length rcap) (.slice la r.x.ls.length lc) (.slice ta r.rp.text.length tc)) 39)).alloc (.cells (EC zeroE nilS nilS) 34) = w1 at *
 go_wp2_with (first | ((with_reducible refine tis_load (ty := 39) (x := .tmp 2) rfl ?_); refine tload ?_ 39 (.tmp 2) rfl w.heap.size 0 39 (RE r (.slice ra r.x.rc.length rcap) (.slice la r.x.ls.length lc) (.slice ta r.rp.text.length tc)) (RE r (.slice ra r.x.rc.length rcap) (.slice la r.x.ls.length lc) (.slice ta r.rp.text.length tc)) _ rfl HM.out.rb.box Tryz.underlying39 rfl size_rt (fun j _ => by rw [Nat.zero_add]) ?_; (focus (first | rfl | (go_simp; done)))))
 refine (lines_x r (.slice ra r.x.rc.length rcap) (.slice la r.x.ls.length lc) (.slice ta r.rp.text.length tc) _ (HP.out.below HM.out.rb.below)).mono ?_
 rintro e w2 ⟨v, rfl, hv, hb, _⟩
 have HM2 := Lib.hid (HM.out.next hb)
 have HV := Lib.hid hv
 obtain ⟨va, vc, rfl⟩ := txts_slice hv
 clear hb HM hv
 by_cases hE : rtE r = 0
 rotate_left
 ·have HK := Lib.hid (show mkE r id = rtE r by unfold mkE; rw [if_pos hE])
  have HE := Lib.hid hE
  have h1 : (rtE r != 0) = true := by simpa using hE
  have h2 : (rtE r == 0) = false := by simpa using hE
  clear hE
  go_wp2_with (first | ((with_reducible refine tis_store (ty := 34) (x := .tmp 4) (y := .tmp 18) rfl ?_); refine wpList_store_blk rfl 34 (.tmp 4) (.tmp 18) rfl (w.heap.size + 1) 0 34 (EC zeroE nilS nilS) (EC zeroE nilS nilS) (EC zeroE nilS nilS) rfl rfl HM2.out.ans size_msg (one_ECs _ _ _ _ _ _ _) (Nat.le_of_eq rfl) (whole_EC _ _ _ _ rfl) ?_; intro w9 hB9 hA9))
  refine bodyPost_ret (v := .tuple #[.agg (EC zeroE nilS nilS), .int .i64 (rtE r)]) (answer_g rfl rfl rfl hB9 Tryz.underlying34 rfl size_msg) rfl (mk_no HK.out HE.out HM2.out hA9)
 have HE := Lib.hid hE
 rw [if_pos hE] at HV
 rw [hE]
 clear hE
 go_wp2_with fail
 refine (within_x id 1 2147483647 _).mono ?_
 rintro e w' ⟨rfl, rfl⟩
 rcases Bool.eq_false_or_eq_true (inR id 1 2147483647) with hi | hi
 rotate_left
 ·have HK := Lib.hid (show mkE r id = 1 by unfold mkE; rw [if_neg (fun h => h HE.out), if_pos hi])
  rw [hi]
  clear hi
  go_wp2_with (first | ((with_reducible refine tis_store (ty := 34) (x := .tmp 4) (y := .tmp 24) rfl ?_); refine wpList_store_blk rfl 34 (.tmp 4) (.tmp 24) rfl (w.heap.size + 1) 0 34 (EC zeroE nilS nilS) (EC zeroE nilS nilS) (EC zeroE nilS nilS) rfl rfl HM2.out.ans size_msg (one_ECs _ _ _ _ _ _ _) (Nat.le_of_eq rfl) (whole_EC _ _ _ _ rfl) ?_; intro w9 hB9 hA9))
  refine bodyPost_ret (v := .tuple #[.agg (EC zeroE nilS nilS), .int .i64 1]) (answer_g rfl rfl rfl hB9 Tryz.underlying34 rfl size_msg) rfl (mk_no HK.out (by decide) HM2.out hA9)
 have HK := Lib.hid (show mkE r id = 0 by unfold mkE; rw [if_neg (fun h => h HE.out), if_neg (by rw [hi]; decide)])
 have HOK := Lib.hid (rt_ok HE.out)
 rw [hi]
 clear hi
 have c4 := cellOf HM2.out.rb.box 4
 have c5 := cellOf HM2.out.rb.box 5
 unfold RE at c4 c5
 go_upto_region 7 with fail
 have HM3 := Lib.hid (show MB7 w w2.heap.size r (.slice ra r.x.rc.length rcap) (.slice la r.x.ls.length lc) (.slice ta r.rp.text.length tc) _ (w2.alloc (.cells #[.string (mkS r.x.fr.1), .string (mkS r.x.fr.2)] 27)) from ⟨HM2.out.next (below_box w2 _), newOf w2 _, HV.out.below (below_box w2 _)⟩)
 generalize w2.alloc (.cells #[.string (mkS r.x.fr.1), .string (mkS r.x.fr.2)] 27) = w3 at *
 generalize w2.heap.size = b8 at HM3 ⊢
 clear c4 c5 HM2 HV
 clear w2
 go_cut [9] from 28 (fun p wc => ∃ g, p = .pointer (some ⟨g, 0, none⟩) ∧ Hid (MB7 w g r (.slice ra r.x.rc.length rcap) (.slice la r.x.ls.length lc) (.slice ta r.rp.text.length tc) (.slice va (rtLines r).length vc) wc))
 case first =>
  refine wp_region_held_drew (S := fun wr => wr.heap[b8]? = some (.cells #[.string (mkS r.x.fr.1), .string (mkS r.x.fr.2)] 27 (0, 0))) (by kernel_rfl) (HM3.out.next (Below.refl _ _).drew).fr (fun hH => ?_)
  have G1 := Lib.hid (HM3.out.next (Below.refl _ _).drew)
  generalize World.drew _ = wd at *
  refine wpAnyH_take (i := 0) (oi := { dst := some 28, op := _, type := _, pos := _, after := _, guard := _ }) (v := .pointer (some ⟨b8, 0, none⟩)) rfl (by kernel_rfl) (by kernel_rfl) (by kernel_rfl) (fun _ _ _ h => h) (Or.inl ⟨by kernel_rfl, fun wz hz => by kernel_rfl⟩) hH ?_
  try simp only [Act.put, List.setIfInBounds_toArray, List.set_cons_zero, List.set_cons_succ]
  refine wpAnyH_take (i := 1) (oi := { dst := some 29, op := _, type := _, pos := _, after := _, guard := _ }) (v := .string (mkS r.x.fr.1)) rfl (by kernel_rfl) (by kernel_rfl) (by kernel_rfl) (fun _ _ _ h => h) (Or.inl ⟨by kernel_rfl, fun wz hz => jload_op _ ⟨rfl, rfl⟩ ((load_8 hz).1)⟩) hH ?_
  try simp only [Act.put, List.setIfInBounds_toArray, List.set_cons_zero, List.set_cons_succ]
  refine wpAnyH_take (i := 3) (oi := { dst := some 31, op := _, type := _, pos := _, after := _, guard := _ }) (v := .pointer (some ⟨b8, 1, none⟩)) rfl (by kernel_rfl) (by kernel_rfl) (by kernel_rfl) (fun _ _ _ h => h) (Or.inl ⟨by kernel_rfl, fun wz hz => by kernel_rfl⟩) hH ?_
  try simp only [Act.put, List.setIfInBounds_toArray, List.set_cons_zero, List.set_cons_succ]
  refine wpAnyH_take (i := 4) (oi := { dst := some 32, op := _, type := _, pos := _, after := _, guard := _ }) (v := .string (mkS r.x.fr.2)) rfl (by kernel_rfl) (by kernel_rfl) (by kernel_rfl) (fun _ _ _ h => h) (Or.inl ⟨by kernel_rfl, fun wz hz => jload_op _ ⟨rfl, rfl⟩ ((load_8 hz).2)⟩) hH ?_
  try simp only [Act.put, List.setIfInBounds_toArray, List.set_cons_zero, List.set_cons_succ]
  refine wpAnyH_ready (rs := [2, 7]) (by kernel_rfl) (by simp) ?_
  refine AllReadyH.cons rfl (fun K hK => ?_) (AllReadyH.cons rfl (fun K hK => ?_) AllReadyH.nil)
  ·go_simp
   go_at_call 27
   refine (clone_x r.x.fr.1 _ (by have := HP.out.fit.fr.1; omega)).mono ?_
   rintro x w12 ⟨rfl, hb⟩
   have G2 := Lib.hid (G1.out.next hb)
   clear hb
   refine hK.out _ _ G2.out.fr (fun hHn => ?_)
   clear hK K hH
   have hH := hHn
   clear hHn
   try simp only [Act.put, List.setIfInBounds_toArray, List.set_cons_zero, List.set_cons_succ]
   refine wpAnyH_ready (rs := [5, 7]) (by kernel_rfl) (by simp) ?_
   refine AllReadyH.cons rfl (fun K hK => ?_) (AllReadyH.cons rfl (fun K hK => ?_) AllReadyH.nil)
   ·go_simp
    go_at_call 27
    refine (clone_x r.x.fr.2 _ (by have := HP.out.fit.fr.2; omega)).mono ?_
    rintro x w13 ⟨rfl, hb⟩
    have G3 := Lib.hid (G2.out.next hb)
    clear hb
    refine hK.out _ _ G3.out.fr (fun hHn => ?_)
    clear hK K hH
    have hH := hHn
    clear hHn
    try simp only [Act.put, List.setIfInBounds_toArray, List.set_cons_zero, List.set_cons_succ]
    refine wpAnyH_take (i := 6) (oi := { dst := some 34, op := _, type := _, pos := _, after := _, guard := _ }) (v := .agg #[.string (mkS r.x.fr.1), .string (mkS r.x.fr.2)]) rfl (by kernel_rfl) (by kernel_rfl) (by kernel_rfl) (fun _ _ _ h => h) (Or.inl ⟨by kernel_rfl, fun wz hz => by kernel_rfl⟩) hH ?_
    try simp only [Act.put, List.setIfInBounds_toArray, List.set_cons_zero, List.set_cons_succ]
    refine wpAnyH_ready (rs := [7]) (by kernel_rfl) (by simp) ?_
    refine AllReadyH.cons rfl (fun K hK => ?_) AllReadyH.nil
    go_simp
    have G4 := Lib.hid (G3.out.next (below_box w13 (.cells #[.string ⟨#[]⟩, .string ⟨#[]⟩] 27)))
    have N4 := Lib.hid (newOf w13 (.cells #[.string ⟨#[]⟩, .string ⟨#[]⟩] 27))
    have B4 := Lib.hid (below_box w13 (.cells #[.string ⟨#[]⟩, .string ⟨#[]⟩] 27))
    generalize w13.alloc (.cells #[.string ⟨#[]⟩, .string ⟨#[]⟩] 27) = w14 at *
    refine hK.out _ _ G4.out.fr (fun hHn => ?_)
    clear hK K hH
    have hH := hHn
    clear hHn
    try simp only [Act.put, List.setIfInBounds_toArray, List.set_cons_zero, List.set_cons_succ]
    refine wpAnyH_ready (rs := [8]) (by kernel_rfl) (by simp) ?_
    refine AllReadyH.cons rfl (fun K hK => ?_) AllReadyH.nil
    refine tstep_store rfl 27 (.tmp 9) (.tmp 34) rfl (w13.heap.size) 27 #[.string ⟨#[]⟩, .string ⟨#[]⟩] #[.string (mkS r.x.fr.1), .string (mkS r.x.fr.2)] rfl rfl N4.out size_pt (by kernel_rfl) rfl ?_
    intro w30 hB9 hA9
    have hb := B4.out.trans (hA9.below B4.out.size (Nat.le_refl _))
    have G30 := Lib.hid (G3.out.next hb)
    have N30 := Lib.hid hB9
    clear hb hB9 hA9
    refine hK.out _ _ G30.out.fr (fun hHn => ?_)
    clear hK K hH
    have hH := hHn
    clear hHn
    try simp only [Act.put, List.setIfInBounds_toArray, List.set_cons_zero, List.set_cons_succ]
    refine wpAnyH_done (by kernel_rfl) ?_ _
    go_wp2_with fail
    go_meet
    case rel => exact ⟨_, rfl, Lib.hid ⟨G30.out.ma, N30.out, G30.out.ls⟩⟩
   ·go_simp
    have G3 := Lib.hid (G2.out.next (below_box w12 (.cells #[.string ⟨#[]⟩, .string ⟨#[]⟩] 27)))
    have N3 := Lib.hid (newOf w12 (.cells #[.string ⟨#[]⟩, .string ⟨#[]⟩] 27))
    have B3 := Lib.hid (below_box w12 (.cells #[.string ⟨#[]⟩, .string ⟨#[]⟩] 27))
    generalize w12.alloc (.cells #[.string ⟨#[]⟩, .string ⟨#[]⟩] 27) = w13 at *
    refine hK.out _ _ G3.out.fr (fun hHn => ?_)
    clear hK K hH
    have hH := hHn
    clear hHn
    try simp only [Act.put, List.setIfInBounds_toArray, List.set_cons_zero, List.set_cons_succ]
    refine wpAnyH_ready (rs := [5]) (by kernel_rfl) (by simp) ?_
    refine AllReadyH.cons rfl (fun K hK => ?_) AllReadyH.nil
    go_simp
    go_at_call 27
    refine (clone_x r.x.fr.2 _ (by have := HP.out.fit.fr.2; omega)).mono ?_
    rintro x w14 ⟨rfl, hb⟩
    have G4 := Lib.hid (G3.out.next hb)
    have N4 := Lib.hid ((hb.block _ (ltOf N3.out)).trans N3.out)
    have B4 := Lib.hid (below_next B3.out hb)
    clear hb
    refine hK.out _ _ G4.out.fr (fun hHn => ?_)
    clear hK K hH
    have hH := hHn
    clear hHn
    try simp only [Act.put, List.setIfInBounds_toArray, List.set_cons_zero, List.set_cons_succ]
    refine wpAnyH_take (i := 6) (oi := { dst := some 34, op := _, type := _, pos := _, after := _, guard := _ }) (v := .agg #[.string (mkS r.x.fr.1), .string (mkS r.x.fr.2)]) rfl (by kernel_rfl) (by kernel_rfl) (by kernel_rfl) (fun _ _ _ h => h) (Or.inl ⟨by kernel_rfl, fun wz hz => by kernel_rfl⟩) hH ?_
    try simp only [Act.put, List.setIfInBounds_toArray, List.set_cons_zero, List.set_cons_succ]
    refine wpAnyH_ready (rs := [8]) (by kernel_rfl) (by simp) ?_
    refine AllReadyH.cons rfl (fun K hK => ?_) AllReadyH.nil
    refine tstep_store rfl 27 (.tmp 9) (.tmp 34) rfl (w12.heap.size) 27 #[.string ⟨#[]⟩, .string ⟨#[]⟩] #[.string (mkS r.x.fr.1), .string (mkS r.x.fr.2)] rfl rfl N4.out size_pt (by kernel_rfl) rfl ?_
    intro w30 hB9 hA9
    have hb := B4.out.trans (hA9.below B4.out.size (Nat.le_refl _))
    have G30 := Lib.hid (G2.out.next hb)
    have N30 := Lib.hid hB9
    clear hb hB9 hA9
    refine hK.out _ _ G30.out.fr (fun hHn => ?_)
    clear hK K hH
    have hH := hHn
    clear hHn
    try simp only [Act.put, List.setIfInBounds_toArray, List.set_cons_zero, List.set_cons_succ]
    refine wpAnyH_done (by kernel_rfl) ?_ _
    go_wp2_with fail
    go_meet
    case rel => exact ⟨_, rfl, Lib.hid ⟨G30.out.ma, N30.out, G30.out.ls⟩⟩
  ·go_simp
   have G2 := Lib.hid (G1.out.next (below_box wd (.cells #[.string ⟨#[]⟩, .string ⟨#[]⟩] 27)))
   have N2 := Lib.hid (newOf wd (.cells #[.string ⟨#[]⟩, .string ⟨#[]⟩] 27))
   have B2 := Lib.hid (below_box wd (.cells #[.string ⟨#[]⟩, .string ⟨#[]⟩] 27))
   generalize wd.alloc (.cells #[.string ⟨#[]⟩, .string ⟨#[]⟩] 27) = w12 at *
   refine hK.out _ _ G2.out.fr (fun hHn => ?_)
   clear hK K hH
   have hH := hHn
   clear hHn
   try simp only [Act.put, List.setIfInBounds_toArray, List.set_cons_zero, List.set_cons_succ]
   refine wpAnyH_ready (rs := [2]) (by kernel_rfl) (by simp) ?_
   refine AllReadyH.cons rfl (fun K hK => ?_) AllReadyH.nil
   go_simp
   go_at_call 27
   refine (clone_x r.x.fr.1 _ (by have := HP.out.fit.fr.1; omega)).mono ?_
   rintro x w13 ⟨rfl, hb⟩
   have G3 := Lib.hid (G2.out.next hb)
   have N3 := Lib.hid ((hb.block _ (ltOf N2.out)).trans N2.out)
   have B3 := Lib.hid (below_next B2.out hb)
   clear hb
   refine hK.out _ _ G3.out.fr (fun hHn => ?_)
   clear hK K hH
   have hH := hHn
   clear hHn
   try simp only [Act.put, List.setIfInBounds_toArray, List.set_cons_zero, List.set_cons_succ]
   refine wpAnyH_ready (rs := [5]) (by kernel_rfl) (by simp) ?_
   refine AllReadyH.cons rfl (fun K hK => ?_) AllReadyH.nil
   go_simp
   go_at_call 27
   refine (clone_x r.x.fr.2 _ (by have := HP.out.fit.fr.2; omega)).mono ?_
   rintro x w14 ⟨rfl, hb⟩
   have G4 := Lib.hid (G3.out.next hb)
   have N4 := Lib.hid ((hb.block _ (ltOf N3.out)).trans N3.out)
   have B4 := Lib.hid (below_next B3.out hb)
   clear hb
   refine hK.out _ _ G4.out.fr (fun hHn => ?_)
   clear hK K hH
   have hH := hHn
   clear hHn
   try simp only [Act.put, List.setIfInBounds_toArray, List.set_cons_zero, List.set_cons_succ]
   refine wpAnyH_take (i := 6) (oi := { dst := some 34, op := _, type := _, pos := _, after := _, guard := _ }) (v := .agg #[.string (mkS r.x.fr.1), .string (mkS r.x.fr.2)]) rfl (by kernel_rfl) (by kernel_rfl) (by kernel_rfl) (fun _ _ _ h => h) (Or.inl ⟨by kernel_rfl, fun wz hz => by kernel_rfl⟩) hH ?_
   try simp only [Act.put, List.setIfInBounds_toArray, List.set_cons_zero, List.set_cons_succ]
   refine wpAnyH_ready (rs := [8]) (by kernel_rfl) (by simp) ?_
   refine AllReadyH.cons rfl (fun K hK => ?_) AllReadyH.nil
   refine tstep_store rfl 27 (.tmp 9) (.tmp 34) rfl (wd.heap.size) 27 #[.string ⟨#[]⟩, .string ⟨#[]⟩] #[.string (mkS r.x.fr.1), .string (mkS r.x.fr.2)] rfl rfl N4.out size_pt (by kernel_rfl) rfl ?_
   intro w30 hB9 hA9
   have hb := B4.out.trans (hA9.below B4.out.size (Nat.le_refl _))
   have G30 := Lib.hid (G1.out.next hb)
   have N30 := Lib.hid hB9
   clear hb hB9 hA9
   refine hK.out _ _ G30.out.fr (fun hHn => ?_)
   clear hK K hH
   have hH := hHn
   clear hHn
   try simp only [Act.put, List.setIfInBounds_toArray, List.set_cons_zero, List.set_cons_succ]
   refine wpAnyH_done (by kernel_rfl) ?_ _
   go_wp2_with fail
   go_meet
   case rel => exact ⟨_, rfl, Lib.hid ⟨G30.out.ma, N30.out, G30.out.ls⟩⟩
 case rest =>
 clear HM3
 obtain ⟨b9, rfl, HM4⟩ := hcut
 have HNE := Lib.hid (show b9 ≠ w.heap.size + 1 from fun e => by
  have h1 := HM4.out.fr
  rw [e, HM4.out.ma.ans] at h1
  injection h1 with h1
  injection h1 with _ h1 _
  exact absurd h1 (by decide))
 go_upto_region 8 with fail
 refine wp_region_held_drew (S := fun wr => wr.heap[w.heap.size]? = some (.cells (RE r (.slice ra r.x.rc.length rcap) (.slice la r.x.ls.length lc) (.slice ta r.rp.text.length tc)) 39 (0, 0)) ∧ wr.heap[b9]? = some (.cells #[.string (mkS r.x.fr.1), .string (mkS r.x.fr.2)] 27 (0, 0))) (by kernel_rfl) ⟨(HM4.out.next (Below.refl _ _).drew).ma.rb.box, (HM4.out.next (Below.refl _ _).drew).fr⟩ (fun hH => ?_)
 have G1 := Lib.hid (HM4.out.next (Below.refl _ _).drew)
 generalize World.drew _ = wd at *
 refine wpAnyH_take (i := 0) (oi := { dst := some 35, op := _, type := _, pos := _, after := _, guard := _ }) (v := .int .i64 id) rfl (by kernel_rfl) (by kernel_rfl) (by kernel_rfl) (fun _ _ _ h => h) (Or.inl ⟨by kernel_rfl, fun wz hz => by kernel_rfl⟩) hH ?_
 try simp only [Act.put, List.setIfInBounds_toArray, List.set_cons_zero, List.set_cons_succ]
 refine wpAnyH_take (i := 1) (oi := { dst := some 36, op := _, type := _, pos := _, after := _, guard := _ }) (v := .pointer (some ⟨w.heap.size, 23, none⟩)) rfl (by kernel_rfl) (by kernel_rfl) (by kernel_rfl) (fun _ _ _ h => h) (Or.inl ⟨by kernel_rfl, fun wz hz => by kernel_rfl⟩) hH ?_
 try simp only [Act.put, List.setIfInBounds_toArray, List.set_cons_zero, List.set_cons_succ]
 refine wpAnyH_take (i := 2) (oi := { dst := some 37, op := _, type := _, pos := _, after := _, guard := _ }) (v := .int .i64 r.now) rfl (by kernel_rfl) (by kernel_rfl) (by kernel_rfl) (fun _ _ _ h => h) (Or.inl ⟨by kernel_rfl, fun wz hz => jload_op _ ⟨rfl, rfl⟩ (load_23 hz.1)⟩) hH ?_
 try simp only [Act.put, List.setIfInBounds_toArray, List.set_cons_zero, List.set_cons_succ]
 refine wpAnyH_take (i := 3) (oi := { dst := some 38, op := _, type := _, pos := _, after := _, guard := _ }) (v := .pointer (some ⟨w.heap.size, 23, none⟩)) rfl (by kernel_rfl) (by kernel_rfl) (by kernel_rfl) (fun _ _ _ h => h) (Or.inl ⟨by kernel_rfl, fun wz hz => by kernel_rfl⟩) hH ?_
 try simp only [Act.put, List.setIfInBounds_toArray, List.set_cons_zero, List.set_cons_succ]
 refine wpAnyH_take (i := 4) (oi := { dst := some 39, op := _, type := _, pos := _, after := _, guard := _ }) (v := .int .i64 r.now) rfl (by kernel_rfl) (by kernel_rfl) (by kernel_rfl) (fun _ _ _ h => h) (Or.inl ⟨by kernel_rfl, fun wz hz => jload_op _ ⟨rfl, rfl⟩ (load_23 hz.1)⟩) hH ?_
 try simp only [Act.put, List.setIfInBounds_toArray, List.set_cons_zero, List.set_cons_succ]
 refine wpAnyH_take (i := 5) (oi := { dst := some 40, op := _, type := _, pos := _, after := _, guard := _ }) (v := .agg #[.string (mkS r.x.fr.1), .string (mkS r.x.fr.2)]) rfl (by kernel_rfl) (by kernel_rfl) (by kernel_rfl) (fun _ _ _ h => h) (Or.inl ⟨by kernel_rfl, fun wz hz => jload_op _ ⟨rfl, rfl⟩ (load_9 hz.2)⟩) hH ?_
 try simp only [Act.put, List.setIfInBounds_toArray, List.set_cons_zero, List.set_cons_succ]
 refine wpAnyH_take (i := 6) (oi := { dst := some 41, op := _, type := _, pos := _, after := _, guard := _ }) (v := .agg #[.string (mkS r.x.fr.1), .string (mkS r.x.fr.2), .string ⟨#[]⟩, .string ⟨#[]⟩, .string ⟨#[]⟩]) rfl (by kernel_rfl) (by kernel_rfl) (by kernel_rfl) (fun _ _ _ h => h) (Or.inl ⟨by kernel_rfl, fun wz hz => by kernel_rfl⟩) hH ?_
 try simp only [Act.put, List.setIfInBounds_toArray, List.set_cons_zero, List.set_cons_succ]
 refine wpAnyH_take (i := 8) (oi := { dst := some 43, op := _, type := _, pos := _, after := _, guard := _ }) (v := (.slice va (rtLines r).length vc)) rfl (by kernel_rfl) (by kernel_rfl) (by kernel_rfl) (fun _ _ _ h => h) (Or.inl ⟨by kernel_rfl, fun wz hz => by kernel_rfl⟩) hH ?_
 try simp only [Act.put, List.setIfInBounds_toArray, List.set_cons_zero, List.set_cons_succ]
 refine wpAnyH_ready (rs := [7, 9]) (by kernel_rfl) (by simp) ?_
 refine AllReadyH.cons rfl (fun K hK => ?_) (AllReadyH.cons rfl (fun K hK => ?_) AllReadyH.nil)
 ·go_simp
  change K _ (wd.alloc (.cells (RC ⟨r.x.fr, zeroR⟩) 49))
  have G2 := Lib.hid (G1.out.next (below_box wd (.cells (RC ⟨r.x.fr, zeroR⟩) 49)))
  have Rw2 := Lib.hid (one_rcs wd r.x.fr)
  have RK := Lib.hid (show ∀ k, (.slice (some ⟨wd.heap.size, 0, none⟩) 1 1 : Value).ownBlock = some k → w.heap.size + 1 < k by intro k hk; have hk2 : wd.heap.size = k := (by simpa [Value.ownBlock] using hk); have := ltOf G1.out.ma.ans; omega)
  generalize wd.alloc (.cells (RC ⟨r.x.fr, zeroR⟩) 49) = w12 at *
  refine hK.out _ _ ⟨G2.out.ma.rb.box, G2.out.fr⟩ (fun hHn => ?_)
  clear hK K hH
  have hH := hHn
  clear hHn
  try simp only [Act.put, List.setIfInBounds_toArray, List.set_cons_zero, List.set_cons_succ]
  refine wpAnyH_ready (rs := [9]) (by kernel_rfl) (by simp) ?_
  refine AllReadyH.cons rfl (fun K hK => ?_) AllReadyH.nil
  go_simp
  go_at_call 28
  refine (fitting_x (.slice va (rtLines r).length vc) (rtLines r) _ G2.out.ls (lines_fit r HOK.out HP.out).1 (lines_fit r HOK.out HP.out).2).mono ?_
  rintro x w13 ⟨fv, rfl, hf, hb, hk⟩
  have FK := Lib.hid (show ∀ k, fv.ownBlock = some k → w.heap.size + 1 < k by intro k hk'; have := hk k hk'; have := ltOf G2.out.ma.ans; omega)
  have G3 := Lib.hid (G2.out.next hb)
  have F3 := Lib.hid hf
  obtain ⟨fa, fc, rfl⟩ := txts_slice hf
  have Rw3 := Lib.hid (Rw2.out.below hb)
  clear hb hf hk
  refine hK.out _ _ ⟨G3.out.ma.rb.box, G3.out.fr⟩ (fun hHn => ?_)
  clear hK K hH
  have hH := hHn
  clear hHn
  try simp only [Act.put, List.setIfInBounds_toArray, List.set_cons_zero, List.set_cons_succ]
  refine wpAnyH_take (i := 10) (oi := { dst := some 45, op := _, type := _, pos := _, after := _, guard := _ }) (v := .agg (EC (mk r id) (.slice (some ⟨wd.heap.size, 0, none⟩) 1 1) (.slice fa (fitL 4093 (rtLines r)).length fc))) rfl (by kernel_rfl) (by kernel_rfl) (by kernel_rfl) (fun _ _ _ h => h) (Or.inl ⟨by kernel_rfl, fun wz hz => by kernel_rfl⟩) hH ?_
  try simp only [Act.put, List.setIfInBounds_toArray, List.set_cons_zero, List.set_cons_succ]
  refine wpAnyH_ready (rs := [11]) (by kernel_rfl) (by simp) ?_
  refine AllReadyH.cons rfl (fun K hK => ?_) AllReadyH.nil
  refine tstep_store rfl 34 (.tmp 4) (.tmp 45) rfl (w.heap.size + 1) 34 (EC zeroE nilS nilS) (EC (mk r id) (.slice (some ⟨wd.heap.size, 0, none⟩) 1 1) (.slice fa (fitL 4093 (rtLines r)).length fc)) rfl rfl G3.out.ma.ans size_msg (one_ECs _ _ _ _ _ _ _) rfl ?_
  intro w30 hB9 hA9
  have HX := Lib.hid (show EAt w30 (mk r id) (.slice (some ⟨wd.heap.size, 0, none⟩) 1 1) (.slice fa (fitL 4093 (rtLines r)).length fc) from EAt.apart (w := w13) ⟨Rw3.out, F3.out⟩ hA9 RK.out FK.out)
  have HBB := Lib.hid (G3.out.ma.rb.below.trans (hA9.below G3.out.ma.rb.below.size (Nat.le_succ _)))
  have HS1 := Lib.hid ((hA9.block _ (ltOf G3.out.ma.rb.box) (by omega)).trans G3.out.ma.rb.box)
  have HS2 := Lib.hid ((hA9.block _ (ltOf G3.out.fr) HNE.out).trans G3.out.fr)
  refine hK.out _ _ ⟨HS1.out, HS2.out⟩ (fun hHn => ?_)
  clear hK K hH
  have hH := hHn
  clear hHn
  try simp only [Act.put, List.setIfInBounds_toArray, List.set_cons_zero, List.set_cons_succ]
  refine wpAnyH_take (i := 12) (oi := { dst := some 5, op := _, type := _, pos := _, after := _, guard := _ }) (v := .int .i64 0) rfl (by kernel_rfl) (by kernel_rfl) (by kernel_rfl) (fun _ _ _ h => h) (Or.inl ⟨by kernel_rfl, fun wz hz => by kernel_rfl⟩) hH ?_
  try simp only [Act.put, List.setIfInBounds_toArray, List.set_cons_zero, List.set_cons_succ]
  refine wpAnyH_done (by kernel_rfl) ?_ _
  go_wp2_with fail
  refine bodyPost_ret (v := .tuple #[.agg (EC (mk r id) (.slice (some ⟨wd.heap.size, 0, none⟩) 1 1) (.slice fa (fitL 4093 (rtLines r)).length fc)), .int .i64 0]) (answer_g rfl rfl rfl hB9 Tryz.underlying34 rfl size_msg) rfl ?_
  unfold MkPost mkV
  rw [HK.out, if_pos rfl]
  exact ⟨_, _, rfl, HX.out, HBB.out, fun k hk => Nat.le_trans (by omega) (Nat.le_of_lt (RK.out k hk)), fun k hk => Nat.le_trans (by omega) (Nat.le_of_lt (FK.out k hk))⟩
 ·go_simp
  go_at_call 28
  refine (fitting_x (.slice va (rtLines r).length vc) (rtLines r) _ G1.out.ls (lines_fit r HOK.out HP.out).1 (lines_fit r HOK.out HP.out).2).mono ?_
  rintro x w12 ⟨fv, rfl, hf, hb, hk⟩
  have FK := Lib.hid (show ∀ k, fv.ownBlock = some k → w.heap.size + 1 < k by intro k hk'; have := hk k hk'; have := ltOf G1.out.ma.ans; omega)
  have G2 := Lib.hid (G1.out.next hb)
  have F2 := Lib.hid hf
  obtain ⟨fa, fc, rfl⟩ := txts_slice hf
  clear hb hf hk
  refine hK.out _ _ ⟨G2.out.ma.rb.box, G2.out.fr⟩ (fun hHn => ?_)
  clear hK K hH
  have hH := hHn
  clear hHn
  try simp only [Act.put, List.setIfInBounds_toArray, List.set_cons_zero, List.set_cons_succ]
  refine wpAnyH_ready (rs := [7]) (by kernel_rfl) (by simp) ?_
  refine AllReadyH.cons rfl (fun K hK => ?_) AllReadyH.nil
  go_simp
  change K _ (w12.alloc (.cells (RC ⟨r.x.fr, zeroR⟩) 49))
  have G3 := Lib.hid (G2.out.next (below_box w12 (.cells (RC ⟨r.x.fr, zeroR⟩) 49)))
  have Rw3 := Lib.hid (one_rcs w12 r.x.fr)
  have RK := Lib.hid (show ∀ k, (.slice (some ⟨w12.heap.size, 0, none⟩) 1 1 : Value).ownBlock = some k → w.heap.size + 1 < k by intro k hk; have hk2 : w12.heap.size = k := (by simpa [Value.ownBlock] using hk); have := ltOf G2.out.ma.ans; omega)
  have F3 := Lib.hid (F2.out.below (below_box w12 (.cells (RC ⟨r.x.fr, zeroR⟩) 49)))
  generalize w12.alloc (.cells (RC ⟨r.x.fr, zeroR⟩) 49) = w13 at *
  refine hK.out _ _ ⟨G3.out.ma.rb.box, G3.out.fr⟩ (fun hHn => ?_)
  clear hK K hH
  have hH := hHn
  clear hHn
  try simp only [Act.put, List.setIfInBounds_toArray, List.set_cons_zero, List.set_cons_succ]
  refine wpAnyH_take (i := 10) (oi := { dst := some 45, op := _, type := _, pos := _, after := _, guard := _ }) (v := .agg (EC (mk r id) (.slice (some ⟨w12.heap.size, 0, none⟩) 1 1) (.slice fa (fitL 4093 (rtLines r)).length fc))) rfl (by kernel_rfl) (by kernel_rfl) (by kernel_rfl) (fun _ _ _ h => h) (Or.inl ⟨by kernel_rfl, fun wz hz => by kernel_rfl⟩) hH ?_
  try simp only [Act.put, List.setIfInBounds_toArray, List.set_cons_zero, List.set_cons_succ]
  refine wpAnyH_ready (rs := [11]) (by kernel_rfl) (by simp) ?_
  refine AllReadyH.cons rfl (fun K hK => ?_) AllReadyH.nil
  refine tstep_store rfl 34 (.tmp 4) (.tmp 45) rfl (w.heap.size + 1) 34 (EC zeroE nilS nilS) (EC (mk r id) (.slice (some ⟨w12.heap.size, 0, none⟩) 1 1) (.slice fa (fitL 4093 (rtLines r)).length fc)) rfl rfl G3.out.ma.ans size_msg (one_ECs _ _ _ _ _ _ _) rfl ?_
  intro w30 hB9 hA9
  have HX := Lib.hid (show EAt w30 (mk r id) (.slice (some ⟨w12.heap.size, 0, none⟩) 1 1) (.slice fa (fitL 4093 (rtLines r)).length fc) from EAt.apart (w := w13) ⟨Rw3.out, F3.out⟩ hA9 RK.out FK.out)
  have HBB := Lib.hid (G3.out.ma.rb.below.trans (hA9.below G3.out.ma.rb.below.size (Nat.le_succ _)))
  have HS1 := Lib.hid ((hA9.block _ (ltOf G3.out.ma.rb.box) (by omega)).trans G3.out.ma.rb.box)
  have HS2 := Lib.hid ((hA9.block _ (ltOf G3.out.fr) HNE.out).trans G3.out.fr)
  refine hK.out _ _ ⟨HS1.out, HS2.out⟩ (fun hHn => ?_)
  clear hK K hH
  have hH := hHn
  clear hHn
  try simp only [Act.put, List.setIfInBounds_toArray, List.set_cons_zero, List.set_cons_succ]
  refine wpAnyH_take (i := 12) (oi := { dst := some 5, op := _, type := _, pos := _, after := _, guard := _ }) (v := .int .i64 0) rfl (by kernel_rfl) (by kernel_rfl) (by kernel_rfl) (fun _ _ _ h => h) (Or.inl ⟨by kernel_rfl, fun wz hz => by kernel_rfl⟩) hH ?_
  try simp only [Act.put, List.setIfInBounds_toArray, List.set_cons_zero, List.set_cons_succ]
  refine wpAnyH_done (by kernel_rfl) ?_ _
  go_wp2_with fail
  refine bodyPost_ret (v := .tuple #[.agg (EC (mk r id) (.slice (some ⟨w12.heap.size, 0, none⟩) 1 1) (.slice fa (fitL 4093 (rtLines r)).length fc)), .int .i64 0]) (answer_g rfl rfl rfl hB9 Tryz.underlying34 rfl size_msg) rfl ?_
  unfold MkPost mkV
  rw [HK.out, if_pos rfl]
  exact ⟨_, _, rfl, HX.out, HBB.out, fun k hk => Nat.le_trans (by omega) (Nat.le_of_lt (RK.out k hk)), fun k hk => Nat.le_trans (by omega) (Nat.le_of_lt (FK.out k hk))⟩
end Go.Proofs.YtojpkbonioglbaaGreatDoor.E.T
