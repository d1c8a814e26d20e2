import Derived.Test.YtojpkbonioglbaaGreatDoorMaRtV
import Derived.Test.YtojpkbonioglbaaGreatDoorMaEvD
import Derived.Test.YtojpkbonioglbaaGreatDoorRpRight
import Derived.Deep.RegionHeld3
import Derived.Test.YtojpkbonioglbaaGreatDoorRpHead
import Derived.Test.YtojpkbonioglbaaGreatDoorMaEvA
namespace Go.Proofs.YtojpkbonioglbaaGreatDoor.E.T
set_option maxRecDepth 100000
open Go.RowKit Go.Shelf
def RE (r : RT) (vr vl vt : Value) : Array Value := #[.string (mkS r.kind), .int .i64 r.x.id, .int .i64 r.x.at_, .int .i64 r.x.rel, .string (mkS r.x.fr.1), .string (mkS r.x.fr.2), .bool r.x.m.hs, .bool r.x.m.hf, .bool r.x.m.hu, .bool r.x.m.hb, .bool r.x.m.hp, .int .i64 r.x.m.sz, .int .i64 r.x.m.fo, .int .i64 r.x.m.un, .int .i64 r.x.m.by_, .int .i64 r.x.m.pr, .string (mkS r.x.m.body), .string (mkS r.x.m.ret), .string (mkS r.x.m.env), .string (mkS r.x.m.mode), vr, vl, .int .i64 r.pl, .int .i64 r.now, .int .i64 r.til, .string (mkS r.host), .int .i64 r.rp.code, .int .i64 r.rp.e.1, .int .i64 r.rp.e.2.1, .int .i64 r.rp.e.2.2, vt]
abbrev rtA (r : RT) (vr vl vt : Value) : Value := .agg #[.string (mkS r.kind), .int .i64 r.x.id, .int .i64 r.x.at_, .int .i64 r.x.rel, .string (mkS r.x.fr.1), .string (mkS r.x.fr.2), .bool r.x.m.hs, .bool r.x.m.hf, .bool r.x.m.hu, .bool r.x.m.hb, .bool r.x.m.hp, .int .i64 r.x.m.sz, .int .i64 r.x.m.fo, .int .i64 r.x.m.un, .int .i64 r.x.m.by_, .int .i64 r.x.m.pr, .string (mkS r.x.m.body), .string (mkS r.x.m.ret), .string (mkS r.x.m.env), .string (mkS r.x.m.mode), vr, vl, .int .i64 r.pl, .int .i64 r.now, .int .i64 r.til, .string (mkS r.host), .int .i64 r.rp.code, .int .i64 r.rp.e.1, .int .i64 r.rp.e.2.1, .int .i64 r.rp.e.2.2, vt]
theorem size_rt : (Tryz.prog.info? 39).map (·.size) = some 31 := by kernel_rfl
theorem size_rp : (Tryz.prog.info? 37).map (·.size) = some 5 := by kernel_rfl
theorem size_rc : (Tryz.prog.info? 49).map (·.size) = some 5 := by kernel_rfl
theorem tnew2 (w : World) (a b : Obj) : ((w.alloc a).alloc b).heap[w.heap.size + 1]? = some b := by
 have h := newOf (w.alloc a) b
 rwa [show (w.alloc a).heap.size = w.heap.size + 1 by simp] at h
structure RB (W : World) (r : RT) (vr vl vt : Value) (w : World) : Prop where
 box : w.heap[W.heap.size]? = some (.cells (RE r vr vl vt) 39 (0, 0))
 below : Below W.heap.size W w
theorem RB.new (w : World) (r : RT) (vr vl vt : Value) : RB w r vr vl vt (w.alloc (.cells (RE r vr vl vt) 39)) := ⟨newOf w _, below_box w _⟩
theorem RB.next {W w w' : World} {r : RT} {vr vl vt : Value} (h : RB W r vr vl vt w) (hb : Below w.heap.size w w') : RB W r vr vl vt w' := ⟨(hb.block _ (ltOf h.box)).trans h.box, below_next h.below hb⟩
structure RAt (w : World) (r : RT) (vr vl vt : Value) : Prop where
 e : EAt w r.x vr vl
 t : TxtsAt w vt r.rp.text
theorem RAt.below {w w' : World} {r : RT} {vr vl vt : Value} (h : RAt w r vr vl vt) (hb : Below w.heap.size w w') : RAt w' r vr vl vt := ⟨h.e.below hb, h.t.below hb⟩
theorem jE_msg (r : RT) (vr vl vt : Value) : ∀ j, j < (EC r.x vr vl).size → (RE r vr vl vt)[1 + j]? = (EC r.x vr vl)[j]? := by
 intro j hj
 have hj' : j < 21 := hj
 match j, hj' with
 | 0, _ => rfl
 | 1, _ => rfl
 | 2, _ => rfl
 | 3, _ => rfl
 | 4, _ => rfl
 | 5, _ => rfl
 | 6, _ => rfl
 | 7, _ => rfl
 | 8, _ => rfl
 | 9, _ => rfl
 | 10, _ => rfl
 | 11, _ => rfl
 | 12, _ => rfl
 | 13, _ => rfl
 | 14, _ => rfl
 | 15, _ => rfl
 | 16, _ => rfl
 | 17, _ => rfl
 | 18, _ => rfl
 | 19, _ => rfl
 | 20, _ => rfl
 | j + 21, h => omega
set_option maxHeartbeats 4000000 in
theorem replied_x (r : RT) (vr vl vt : Value) (w : World) : Calls Tryz.prog 39 #[rtA r vr vl vt] w fun e w' => e = .returned (.bool (r.rp.code != 0)) ∧ Below w.heap.size w w' := by
 have HB := Lib.hid (RB.new w r vr vl vt)
 have c : (w.alloc (.cells (RE r vr vl vt) 39)).cell? ⟨w.heap.size, 26, none⟩ = some (.int .i64 r.rp.code) := cellOf HB.out.box 26
 unfold RE at HB c
 go_enter Tryz.func39, Tryz.ntmps39
 go_wp2_with fail
 go_ret
 exact ⟨rfl, HB.out.below⟩
theorem toS (l : Txt) : (⟨l.toArray⟩ : ByteArray) = mkS l := rfl
set_option maxHeartbeats 4000000 in
theorem bare_x (t : Txt) (w : World) (hl : t.length ≤ 1000000) : Calls Tryz.prog 58 #[.string (mkS t)] w fun e w' => e = .returned (.string (mkS (bareL t))) ∧ w = w' := by
 have H1 := Lib.hid (Tryz.strings_TrimPrefix (mkS t) ⟨#[60]⟩ w)
 have hl2 : (Lib.trimPrefix t [60]).length ≤ t.length := by unfold Lib.trimPrefix; split <;> simp
 have H2 := Lib.hid (Tryz.strings_TrimSuffix (mkS (Lib.trimPrefix t [60])) ⟨#[62]⟩ w (by rw [mkS_size]; omega))
 rw [mkS_data, toS] at H1 H2
 unfold bareL
 clear hl hl2
 go_enter Tryz.func58, Tryz.ntmps58
 go_wp2_with fail
 refine H1.out.mono ?_
 rintro e w' ⟨rfl, rfl⟩
 go_wp2_with fail
 refine H2.out.mono ?_
 rintro e w' ⟨rfl, rfl⟩
 go_wp2_with fail
 go_ret
 exact ⟨rfl, rfl⟩
set_option maxHeartbeats 4000000 in
theorem recipient_x (r : RT) (vr vl vt : Value) (w : World) (hE : RAt w r vr vl vt) (hp : 0 ≤ r.pl ∧ r.pl < r.x.rc.length) : Calls Tryz.prog 55 #[rtA r vr vl vt] w fun e w' => e = .returned (.agg (RC (rtTo r))) ∧ Below w.heap.size w w' := by
 obtain ⟨kind, x, pl, now, til, host, rp⟩ := r
 obtain ⟨q, rfl⟩ : ∃ q : Nat, pl = q := ⟨pl.toNat, by have := hp.1; simp only at this; omega⟩
 obtain ⟨a, cap, rfl, _, _, hx⟩ := hE.e.rc
 simp only at hx hp
 obtain ⟨c, hc⟩ : ∃ c, x.rc[q]? = some c := ⟨_, List.getElem?_eq_getElem (by omega)⟩
 have HTO := Lib.hid (show rtTo ⟨kind, x, (q : Int), now, til, host, rp⟩ = c by unfold rtTo; simp only [Int.toNat_natCast]; rw [List.getD_eq_getElem?_getD, hc]; rfl)
 obtain ⟨A, rfl, hab, hat⟩ := hx q c hc
 have hlt : (q : Int) < (x.rc.length : Int) := by omega
 have h0 : (0 : Int) ≤ (q : Int) := by omega
 have HB := Lib.hid (RB.new w ⟨kind, x, (q : Int), now, til, host, rp⟩ (.slice (some A) x.rc.length cap) vl vt)
 have b2 := below_box (w.alloc (.cells (RE ⟨kind, x, (q : Int), now, til, host, rp⟩ (.slice (some A) x.rc.length cap) vl vt) 39)) (.cells #[.string { data := #[] }, .string { data := #[] }, .string { data := #[] }, .string { data := #[] }, .string { data := #[] }] 49)
 have HB2 := Lib.hid (HB.out.next b2)
 have at2 := hat.below HB2.out.below (by rw [add_block]; exact hab)
 have al := at2.lt
 have d0 := at2.c0
 have d1 := at2.c1
 have d2 := at2.c2
 have d3 := at2.c3
 have d4 := at2.c4
 have e1 := cellOf HB2.out.box 20
 have e2 := cellOf HB2.out.box 22
 unfold RE at HB HB2 e1 e2 d0 d1 d2 d3 d4 al
 simp only [List.getElem?_toArray, List.getElem?_cons_succ, List.getElem?_cons_zero] at e1 e2
 rw [HTO.out]
 clear hx hE hp hc at2 hat b2
 go_enter Tryz.func55, Tryz.ntmps55
 go_wp2_with fail
 refine bodyPost_ret (v := .agg (RC c)) (results_cell_row rfl _ _ (w.heap.size + 1) 49 (RC c) (0, 0) _ rfl (tnew2 w _ _) Tryz.underlying49 rfl size_rc) rfl ⟨rfl, ?_⟩
 exact below_next (below_box w _) (below_box _ _)
end Go.Proofs.YtojpkbonioglbaaGreatDoor.E.T
namespace Go.Proofs.YtojpkbonioglbaaGreatDoor.E.T
set_option maxRecDepth 100000
open Go.RowKit Go.Shelf
theorem used_more {l : List Txt} {k : Nat} {t : Txt} (h : l[k]? = some t) : usedL (l.take (k + 1)) = usedL (l.take k) ++ (if Lib.hasPrefix t bPre then begL 10 0 (Lib.trimPrefix t bPre) else []) := by
 obtain ⟨hk, rfl⟩ := List.getElem?_eq_some_iff.1 h
 rw [List.take_succ_eq_append_getElem hk, usedL, List.flatMap_append]
 unfold usedL
 rw [List.flatMap_cons, List.flatMap_nil, List.append_nil]
 unfold Lib.trimPrefix Lib.hasPrefix
 split
 ·rfl
 ·rfl
theorem beg_len : ∀ (f n : Nat) (t : Txt), (begL f n t).length ≤ f
 | 0, _, _ => Nat.le_refl _
 | f + 1, _, [] => Nat.zero_le _
 | f + 1, n, b :: t => by
  rw [begL]
  split
  ·exact Nat.zero_le _
  ·have := beg_len f (n * 10 + (b.toNat - 48)) t
   simp
   omega
structure UL (W : World) (l : List Txt) (k : Nat) (w : World) : Prop where
 us : ∃ c, c ≤ 10 * k ∧ US (W.heap.size + 1) W.heap.size c (usedL (l.take k)) w
 below : Below W.heap.size W w
theorem UL.next {W w w' : World} {l : List Txt} {k : Nat} (h : UL W l k w) (hb : Below w.heap.size w w') : UL W l k w' := by
 obtain ⟨c, h1, h2⟩ := h.us
 exact ⟨⟨c, h1, (hb.block _ (ltOf h2.box)).trans h2.box, h2.set.block (hb.block _ h2.set.lt)⟩, below_next h.below hb⟩
theorem UL.more {W w w' : World} {l : List Txt} {k : Nat} {t : Txt} (h : UL W l k w) (ht : l[k]? = some t) (hp : Lib.hasPrefix t bPre = true) {c : Nat} (hc : c ≤ 10 * k) (hu : US (W.heap.size + 1) W.heap.size (c + (begL 10 0 (Lib.trimPrefix t bPre)).length) (usedL (l.take k) ++ begL 10 0 (Lib.trimPrefix t bPre)) w') (hg : w.grownBy w' (some W.heap.size)) : UL W l (k + 1) w' :=
 ⟨⟨c + (begL 10 0 (Lib.trimPrefix t bPre)).length, by have := beg_len 10 0 (Lib.trimPrefix t bPre); omega, by rw [used_more ht, if_pos hp]; exact hu⟩, h.below.grown hg h.below.size (fun j hj => by injection hj with hj; omega)⟩
theorem UL.skip {W w : World} {l : List Txt} {k : Nat} {t : Txt} (h : UL W l k w) (ht : l[k]? = some t) (hp : Lib.hasPrefix t bPre = false) : UL W l (k + 1) w := by
 obtain ⟨c, h1, h2⟩ := h.us
 exact ⟨⟨c, by omega, by rw [used_more ht, hp, if_neg (by decide), List.append_nil]; exact h2⟩, h.below⟩
theorem ins_is {l : List Txt} {n : Nat} (h1 : 1 ≤ n) (h2 : n < 10 ^ 10) : (inS (usedL l) (n : Int)).isSome = usesB l n := by
 have k := usedL_iff (l := l) h1 h2
 unfold inS
 cases hu : usesB l n
 ·rw [hu] at k
  rw [if_neg]
  ·rfl
  ·rw [List.any_eq_true]
   rintro ⟨m, hm, e⟩
   have e' : m = n := by
    have h9 : (m : Int) = (n : Int) := by simpa using e
    omega
   rw [e'] at hm
   exact absurd (k.1 hm) (by decide)
 ·rw [hu] at k
  rw [if_pos]
  ·rfl
  ·rw [List.any_eq_true]
   exact ⟨n, k.2 rfl, by simp⟩
theorem ins_get (S : List Nat) (k : Int) : (inS S k).getD (.agg #[]) = .agg #[] := by
 unfold inS
 split <;> rfl
theorem ten10 {n : Nat} (h : n < 10 ^ 10) : (n : Int) ≤ 9223372036854775807 := by
 have h1 : (10 : Nat) ^ 10 = 10000000000 := by decide
 omega
theorem toB (l : Txt) : (⟨l.toArray⟩ : ByteArray) = mkS l := rfl
theorem UL.look {W w : World} {l : List Txt} (h : UL W l l.length w) {n : Nat} (h1 : 1 ≤ n) (h2 : n < 10 ^ 10) : (Instr.lookup 58 (.map (some W.heap.size)) (.int .i64 (n : Int)) true).run Tryz.prog w = .ok (.tuple #[.agg #[], .bool (usesB l n)]) w := by
 obtain ⟨c, _, hu⟩ := h.us
 have k := hu.set.look_ok Tryz.underlying58 (z := .agg #[]) (by kernel_rfl) (k := (n : Int)) ⟨by omega, ten10 h2⟩
 rw [List.take_length, ins_get, ins_is h1 h2] at k
 exact k
set_option maxHeartbeats 8000000 in
theorem boundary_x (v : Value) (l : List Txt) (w : World) (hT : TxtsAt w v l) (hl : l.length ≤ 10000000) (hR : R.Ready w) : Calls Tryz.prog 7 #[v] w fun e w' => e = .returned (.string (mkS (bnd l))) ∧ Below w.heap.size w w' := by
 obtain ⟨a, cap, rfl, hc, _, hx⟩ := hT
 have HX := Lib.hid hx
 have hmm := @run_makeMap Tryz.prog
 have HM := Lib.hid (SetIs.made w)
 have HBX := Lib.hid (newOf (w.alloc (.map #[] 0)) (.cells #[.map (some w.heap.size)] 58))
 have HB0 := Lib.hid (below_next (below_box w (.map #[] 0)) (below_box (w.alloc (.map #[] 0)) (.cells #[.map (some w.heap.size)] 58)))
 have HU := Lib.hid (show UL w l 0 ((w.alloc (.map #[] 0)).alloc (.cells #[.map (some w.heap.size)] 58)) from ⟨⟨0, Nat.le_refl _, by have h1 := HBX.out; rwa [show (w.alloc (.map #[] 0)).heap.size = w.heap.size + 1 by simp] at h1, (HM.out.block ((below_box (w.alloc (.map #[] 0)) _).block _ HM.out.lt)).congr (fun k => rfl)⟩, HB0.out⟩)
 have HRR := Lib.hid hR
 have HLL := Lib.hid hl
 clear hx hR HM HBX HB0
 generalize hn : l.length = N at *
 have HN := Lib.hid hn
 clear hn
 go_enter Tryz.func7, Tryz.ntmps7
 go_upto_region 3 with fail
 generalize (w.alloc (.map #[] 0)).alloc (.cells #[.map (some w.heap.size)] 58) = w1 at *
 clear hmm
 go_wp2_with fail
 go_loopw [16] (fun i wr => ∃ k : Nat, k ≤ N ∧ i = .int .i64 k ∧ Hid (UL w l k wr)) (fun i _ => N - (intOf i).toNat)
 case atStart => exact ⟨0, Nat.zero_le _, rfl, HU⟩
 case round =>
  obtain ⟨k, hk, rfl, HK⟩ := hrel
  by_cases hlt : k < N
  ·obtain ⟨t, ht⟩ : ∃ t, l[k]? = some t := ⟨_, List.getElem?_eq_getElem (by have := HN.out; omega)⟩
   obtain ⟨ad, rfl, hab, hat⟩ := HX.out k t ht
   have hcl := (HK.out.below.cell (by rw [add_block]; exact hab)).trans hat
   have C1 := Tryz.strings_CutPrefix (mkS t) ⟨#[45, 45, 114, 101, 112, 111, 114, 116, 46]⟩ wr
   rw [mkS_data, show (⟨#[45, 45, 114, 101, 112, 111, 114, 116, 46]⟩ : ByteArray).data.toList = bPre from rfl, toB] at C1
   have HT := Lib.hid ht
   clear ht hab hat
   cases hp : Lib.hasPrefix t bPre
   ·rw [hp] at C1
    have HC := Lib.hid C1
    have HPP := Lib.hid hp
    clear C1 hp
    generalize Lib.trimPrefix t bPre = u at HC
    go_wp2_with fail
    refine HC.out.mono ?_
    rintro e w' ⟨rfl, rfl⟩
    go_wp2_with fail
    go_roundw
    case rel => exact ⟨k + 1, by omega, by go_num, Lib.hid (HK.out.skip HT.out HPP.out)⟩
    case measure => simp [intOf]; omega
   ·rw [hp] at C1
    have HC := Lib.hid C1
    have HPP := Lib.hid hp
    obtain ⟨c, hc1, hc2⟩ := HK.out.us
    have HG := Lib.hid (begun_x (Lib.trimPrefix t bPre) _ _ c _ wr hc2 (by omega))
    have HMR := Lib.hid (fun w' hu hg => HK.out.more (w' := w') HT.out HPP.out hc1 hu hg)
    clear C1 hp hc1 hc2
    generalize Lib.trimPrefix t bPre = u at HC HG HMR
    go_wp2_with fail
    refine HC.out.mono ?_
    rintro e w' ⟨rfl, rfl⟩
    go_wp2_with fail
    refine HG.out.mono ?_
    rintro e w2 ⟨rfl, hu, hg⟩
    have HK2 := Lib.hid (HMR.out _ hu hg)
    clear hu hg HG HMR
    go_wp2_with fail
    go_roundw
    case rel => exact ⟨k + 1, by omega, by go_num, HK2⟩
    case measure => simp [intOf]; omega
  ·obtain rfl : k = N := by omega
   have HE := Lib.hid (show UL w l l.length wr by rw [HN.out]; exact HK.out)
   have HLO := Lib.hid (least_ok l (by have := HN.out; omega))
   have c3 : wr.cell? ⟨w.heap.size + 1, 0, none⟩ = some (.map (some w.heap.size)) := by
    obtain ⟨c, _, hu⟩ := HE.out.us
    exact cellOf hu.box 0
   have hl1 := HE.out.look (n := 1) (Nat.le_refl _) (by decide)
   rw [show ((1 : Nat) : Int) = 1 from rfl] at hl1
   clear HK HU
   generalize hb1 : usesB l 1 = b1 at hl1
   go_wp2_with fail
   have HS := Lib.hid (show UL w l l.length (wr.alloc (.cells #[] 59)) ∧ (wr.alloc (.cells #[] 59)).heap[wr.heap.size]? = some (.cells #[] 59 (0, 0)) from ⟨HE.out.next (below_box wr _), newOf wr _⟩)
   have HB1 := Lib.hid hb1
   clear hl1 c3 hb1
   generalize wr.alloc (.cells #[] 59) = w2 at *
   generalize wr.heap.size = g0 at *
   go_loopw [9, 10, 11] (fun v p c wz => ∃ (n g : Nat), v = .int .i64 n ∧ p = .pointer (some ⟨g, 0, none⟩) ∧ c = .bool (usesB l n) ∧ 1 ≤ n ∧ n ≤ 100000001 ∧ Hid (n ≤ leastB l ∧ UL w l l.length wz ∧ wz.heap[g]? = some (.cells #[] 59 (0, 0)))) (fun v _ _ _ => leastB l - (intOf v).toNat)
   case atStart => exact ⟨1, g0, rfl, rfl, by rw [HB1.out], Nat.le_refl _, by decide, Lib.hid ⟨HLO.out.2.1, HS.out.1, HS.out.2⟩⟩
   case round =>
    obtain ⟨n, g, rfl, rfl, rfl, hn1, hn2, HV⟩ := hrel
    cases hu : usesB l n
    ·have hle : n = leastB l := by
      have h1 := HV.out.1
      rcases Nat.lt_or_ge n (leastB l) with h2 | h2
      ·have h3 := HLO.out.2.2.2 n hn1 h2
       rw [hu] at h3
       cases h3
      ·omega
     have HI := Lib.hid (R.itoa_x (n : Int) ⟨by omega, by omega⟩ wr (R.ready_below HRR.out HV.out.2.1.below))
     have hil := R.itoa_len (n := (n : Int)) ⟨by omega, by omega⟩
     have HBD := Lib.hid (show bnd l = [114, 101, 112, 111, 114, 116, 46] ++ Lib.itoa (n : Int) by rw [hle]; rfl)
     obtain ⟨s, hs⟩ : ∃ s, s = Lib.itoa (n : Int) := ⟨_, rfl⟩
     rw [← hs] at HI HBD hil
     have hsz := mkS_size s
     clear hu hle hs
     go_wp2_with fail
     refine HI.out.mono ?_
     rintro e w3 ⟨rfl, hb⟩
     have HB3 := Lib.hid (below_next HV.out.2.1.below hb)
     clear hb
     go_wp2_with fail
     go_ret
     exact ⟨by rw [HBD.out]; exact ret_str (mkS_cat [114, 101, 112, 111, 114, 116, 46] s), HB3.out⟩
    ·have hlt : n < leastB l := by
      have h1 := HV.out.1
      rcases Nat.lt_or_ge n (leastB l) with h2 | h2
      ·exact h2
      ·have h3 := HLO.out.1
       rw [show leastB l = n by omega, hu] at h3
       cases h3
     have HLT := Lib.hid hlt
     have hnb : n + 1 ≤ 100000001 := by
      have h1 := HLO.out.2.2.1
      have h2 := HN.out
      have h3 := HLL.out
      omega
     have hU2 := HV.out.2.1.next (below_box wr (.cells #[] 59))
     have hlk := hU2.look (n := n + 1) (by omega) (by have h9 : (10 : Nat) ^ 10 = 10000000000 := (by decide); omega)
     have c4 : (wr.alloc (.cells #[] 59)).cell? ⟨w.heap.size + 1, 0, none⟩ = some (.map (some w.heap.size)) := by
      obtain ⟨c, _, hq⟩ := hU2.us
      exact cellOf hq.box 0
     have hw1 : IntKind.i64.wrap ((n : Int) + 1) = ((n + 1 : Nat) : Int) := (IntWalk.i64_in _ (by omega)).trans (by omega)
     have HU2 := Lib.hid (And.intro hU2 (newOf wr (.cells #[] 59)))
     rw [show ((n + 1 : Nat) : Int) = (n : Int) + 1 by omega] at hlk hw1
     obtain ⟨b2, hb2⟩ : ∃ b2, b2 = usesB l (n + 1) := ⟨_, rfl⟩
     rw [← hb2] at hlk
     have HB2 := Lib.hid hb2
     clear hU2 hlt hu hb2
     go_wp2_with fail
     go_roundw
     case rel => exact ⟨n + 1, wr.heap.size, by show Value.int _ _ = _; rw [show ((n + 1 : Nat) : Int) = (n : Int) + 1 by omega], rfl, by rw [HB2.out], by omega, hnb, Lib.hid ⟨HLT.out, HU2.out.1, HU2.out.2⟩⟩
     case measure => have := HLT.out; simp [intOf]; omega
end Go.Proofs.YtojpkbonioglbaaGreatDoor.E.T
