/-
  The walks of reporter and of what it answers.
-/
import Derived.Test.YtcedhgihebollaaGreatDoorMaJgF
import Derived.RegionTactic
import Derived.Deep.RegionLaw
namespace Go.Proofs.YtcedhgihebollaaGreatDoor.E.J
set_option maxRecDepth 100000
open Go.RowKit Go.Shelf
theorem jadd_off (a : Addr) (k j : Nat) (hj : 0 < j) : a.add (k + j) = ⟨(a.add k).block, (a.add k).off + j, none⟩ := by
  obtain ⟨i, rfl⟩ : ∃ i, j = i + 1 := ⟨j - 1, by omega⟩
  unfold Addr.add
  split
  · rename_i h; omega
  · split
    · rename_i h; subst h; simp
    · simp [Nat.add_assoc]
set_option maxHeartbeats 8000000 in
theorem reporter_x (x : EM) (vr vl : Value) (bt bm : Nat) (t : ST) (w : World) (hE : EAt w x vr vl) (hT : w.heap[bt]? = some (.cells (TC t) 41 (0, 0))) (hp1 : 0 ≤ t.pl) (hp2 : t.pl < x.rc.length) :
    Calls Tryz.prog 25 #[msA x vr vl, .pointer (some ⟨bt, 0, none⟩), .pointer (some ⟨bm, 0, none⟩)] w fun e w' => ∃ b1 b2 b3 b4, e = .returned (.func (.func 36) #[] #[.pointer (some ⟨b1, 0, none⟩), .pointer (some ⟨b2, 0, none⟩), .pointer (some ⟨b3, 0, none⟩), .pointer (some ⟨b4, 0, none⟩)]) ∧ RP x vr vl (noJ x t) bt bm b1 b2 b3 b4 w' ∧ Below w.heap.size w w' := by
  obtain ⟨k, hk⟩ : ∃ k : Nat, t.pl = k := ⟨t.pl.toNat, by omega⟩
  have hkl : k < x.rc.length := by omega
  obtain ⟨c, hc⟩ : ∃ c, x.rc[k]? = some c := ⟨_, List.getElem?_eq_getElem hkl⟩
  have hno : noJ x t = c.r.no := by
    unfold noJ
    rw [hk, Int.toNat_natCast, List.getD_eq_getElem?_getD, hc]; rfl
  rw [hno]
  obtain ⟨ra, rcap, rfl, hrc0, _, hrc⟩ := hE.rc
  obtain ⟨A, rfl, hab, hat⟩ := hrc k c hc
  obtain ⟨s, hs⟩ : ∃ s, w.heap.size = s := ⟨_, rfl⟩
  obtain ⟨W1, hW1⟩ : ∃ W1, W1 = w.alloc (.cells (EC x (.slice (some A) x.rc.length rcap) vl) 33) := ⟨_, rfl⟩
  obtain ⟨W2, hW2⟩ : ∃ W2, W2 = W1.alloc (.cells #[.pointer (some ⟨bt, 0, none⟩)] 71) := ⟨_, rfl⟩
  obtain ⟨W3, hW3⟩ : ∃ W3, W3 = W2.alloc (.cells #[.pointer (some ⟨bm, 0, none⟩)] 72) := ⟨_, rfl⟩
  have s1 : W1.heap.size = s + 1 := by rw [hW1, ← hs]; simp
  have s2 : W2.heap.size = s + 2 := by rw [hW2]; simp [s1]
  have s3 : W3.heap.size = s + 3 := by rw [hW3]; simp [s2]
  have bb1 : Below w.heap.size w W1 := by rw [hW1]; exact below_box _ _
  have bb2 : Below W1.heap.size W1 W2 := by rw [hW2]; exact below_box _ _
  have bb3 : Below W2.heap.size W2 W3 := by rw [hW3]; exact below_box _ _
  have m1 : W1.heap[s]? = some (.cells (EC x (.slice (some A) x.rc.length rcap) vl) 33 (0, 0)) := by rw [hW1, ← hs]; exact newOf w _
  have m3 := (bb3.block s (by omega)).trans ((bb2.block s (by omega)).trans m1)
  have t2 : W2.heap[s + 1]? = some (.cells #[.pointer (some ⟨bt, 0, none⟩)] 71 (0, 0)) := by rw [hW2, ← s1]; exact newOf W1 _
  have t3 := (bb3.block (s + 1) (by omega)).trans t2
  have l3 : W3.heap[s + 2]? = some (.cells #[.pointer (some ⟨bm, 0, none⟩)] 72 (0, 0)) := by rw [hW3, ← s2]; exact newOf W2 _
  have bb : Below w.heap.size w W3 := below_next (below_next bb1 bb2) bb3
  have T3 := (bb.block bt (ltOf hT)).trans hT
  have at3 := hat.below bb (by rw [add_block]; exact hab)
  have c5 : W3.cell? ⟨s, 19, none⟩ = some (.slice (some A) x.rc.length rcap) := cellOf m3 19
  have ct : W3.cell? ⟨s + 1, 0, none⟩ = some (.pointer (some ⟨bt, 0, none⟩)) := cellOf t3 0
  have cT : W3.cell? ⟨bt, 0, none⟩ = some (.int .i64 k) := by rw [← hk]; exact cellOf T3 0
  have cn := at3.c2
  have d1 : (0 : Int) ≤ (k : Int) := by omega
  have d2 : (k : Int) < (x.rc.length : Int) := by omega
  have HEND := Lib.hid (show ∀ w', Below W3.heap.size W3 w' → w'.heap[s + 3]? = some (.cells #[.string (mkS c.r.no)] 9 (0, 0)) → RP x (.slice (some A) x.rc.length rcap) vl c.r.no bt bm s (s + 1) (s + 3) (s + 2) w' ∧ Below s w w' from fun w' hb h3 =>
    ⟨⟨(hb.block s (by omega)).trans m3, (hb.block (s + 1) (by omega)).trans t3, h3, (hb.block (s + 2) (by omega)).trans l3⟩, by rw [← hs]; exact below_next bb hb⟩)
  have l1 : s < W3.heap.size := by omega
  have l2 : s + 1 < W3.heap.size := by omega
  have l4 : bt < W3.heap.size := ltOf T3
  have l5 : (A.add (k * 5)).block < W3.heap.size := at3.lt
  have HW := Lib.hid (And.intro hW1 (And.intro hW2 (And.intro hW3 hs)))
  have HS3 := Lib.hid s3
  clear hE hT hrc hat at3 hc hno bb1 bb2 bb3 m1 m3 t2 t3 l3 bb T3 hk hp1 hp2 hkl s1 s2 s3 hW1 hW2 hW3 hs
  unfold msA
  go_enter Tryz.func25, Tryz.ntmps25
  go_wp2_with fail
  have e1 := HW.out.1
  unfold EC at e1
  rw [← e1, HW.out.2.2.2, ← HW.out.2.1, ← HW.out.2.2.1]
  generalize W3 = w3 at *
  clear e1
  go_region
  have HN3 := Lib.hid (newOf w3 (.cells #[.string (mkS c.r.no)] 9))
  have HB3 := Lib.hid (below_box w3 (.cells #[.string (mkS c.r.no)] 9))
  go_wp2_with fail
  go_ret
  have hb3 := below_drewN HB3.out 1
  have e3 := HEND.out _ hb3 (by rw [← HS3.out]; exact HN3.out)
  rw [← HS3.out] at e3
  rw [← HW.out.2.2.2] at e3
  exact ⟨w.heap.size, w.heap.size + 1, w3.heap.size, w.heap.size + 2, by simp [HW.out.2.2.2], e3⟩
/-- What pass, or a report, leaves. -/
def PsPost (W : World) (bt bm : Nat) (t : ST) (l : List Txt) (w : World) (e : Ending) (w' : World) : Prop := e = .returned (.tuple #[]) ∧ ∃ v', TB W bt bm t v' l w' ∧ F2 bt bm w w'
theorem PsPost.of {W : World} {bt bm : Nat} {t : ST} {l : List Txt} {w w1 w' : World} {e : Ending} (f : F2 bt bm w w1) (h : PsPost W bt bm t l w1 e w') : PsPost W bt bm t l w e w' := ⟨h.1, h.2.choose, h.2.choose_spec.1, f.trans h.2.choose_spec.2⟩
/-- One text in a row: what append makes of none. -/
theorem jrun (w : World) (B : Nat) (s : Txt) (ty : TypeId) (hB : B ≤ w.heap.size) :
    ∃ v' w', (Builtin.append_ #[31, 31] ty #[jnil, .slice (some ⟨w.heap.size, 0, none⟩) 1 1]).run Tryz.prog (w.alloc (.cells #[.string (mkS s)] 9)) = .ok v' w' ∧ w'.ownsRow B 9 1 v' [s].length (strsV [s]) ∧ (w.alloc (.cells #[.string (mkS s)] 9)).grownBy w' none := by
  obtain ⟨i0, hi, hz0, hz1, hz2⟩ := info_parts Tryz.infoT
  obtain ⟨v', w', h1, h2, h3, _, h4⟩ := run_append_own_at (P := Tryz.prog) (w.alloc (.cells #[.string (mkS s)] 9)) B 31 ty 9 i0 (.string { data := #[] }) 1 16 Tryz.underlying31 hi hz0 hz1 hz2 rfl (by decide) jnil 0 (strsV []) (strs_nil _ B) ⟨w.heap.size, 0, none⟩ 1 1 (strsV [s]) rfl (news_one w s) (by
    intro u hu
    obtain ⟨b, _, rfl⟩ := List.mem_map.1 hu
    rfl) (by unfold maxLen; omega) (by omega) (by simp; omega)
  exact ⟨v', w', h1, by simpa [strsV] using h2, h3⟩
/-- An append at a step of a region that draws its order, its run known. -/
theorem jstep_run {P : Program} {w w' : World} {ops : Array Oper} {o : Oper} {a : Act} {K : Act → World → Prop} {Q : Exit → Act → World → Prop} {E : Prop} (hg : o.guard = none) (s x : Operand) (t : TypeId)
    (ho : o.op = .call { callee := .builtin .append, args := #[s, x], argTypes := #[t, t] }) (v u v' : Value) (hs : a.eval s = v) (hx : a.eval x = u) (hrun : (Builtin.append_ #[t, t] o.type #[v, u]).run P w = .ok v' w') (h : K (a.put o.dst v') w') :
    if Region.wanted o (yielded ops a.tmps) = true then Oper.wp P o a w K Q else E := by
  rw [if_pos (by simp [Region.wanted, hg])]
  unfold Oper.wp execOp
  simp only [ho, resolve, invoke, builtin, Sem.run_bind, Sem.run_pure, Result.andThen_ok, List.map_toArray, List.map_cons, List.map_nil, hs, hx, hrun]
  exact h
def zKd : Value := .agg #[.int .i64 0, .string ⟨#[]⟩, .bool false]
set_option maxHeartbeats 16000000 in
theorem report_x (W : World) (x : EM) (vr vl : Value) (no : Txt) (bt bm b1 b2 b3 b4 : Nat) (t : ST) (k : KJ) (f : Bool) (sn : ByteArray) (w : World) (hk : kindB4 k) (hsn : sn = mkS k.name) (hT : TB W bt bm t jnil [] w) (hR : RP x vr vl no bt bm b1 b2 b3 b4 w) (h0 : 0 ≤ t.told) (h7 : t.told ≤ 7) :
    Calls Tryz.prog 36 #[.string sn, .bool f, .pointer (some ⟨b1, 0, none⟩), .pointer (some ⟨b2, 0, none⟩), .pointer (some ⟨b3, 0, none⟩), .pointer (some ⟨b4, 0, none⟩)] w (PsPost W bt bm (repT x no k f t) (repL x no k f t) w) := by
  subst hsn
  have hkl : k.name.length ≤ 1000000000 := by rcases hk with rfl | rfl | rfl | rfl <;> decide
  have HK := Lib.hid (kinds_x w)
  have HLK := Lib.hid (fun (w1 : World) (M : Nat) (hM : MapIs w1 M 4 kdF) => hM.look Tryz.underlying77 (z := zKd) (by kernel_rfl) hkl)
  rw [kdF_of hk] at HLK
  have HT := Lib.hid hT
  have HR := Lib.hid hR
  have HA := Lib.hid (and_has h0 h7 (kbits hk))
  have HO := Lib.hid (or_add h0 h7 (kbits hk))
  have HY := Lib.hid (fun h => rep_yes (x := x) (no := no) (k := k) (f := f) (t := t) h)
  have HN := Lib.hid (fun h => rep_no (x := x) (no := no) (k := k) (f := f) (t := t) h)
  have HM := Lib.hid (show madeJ x no k f t = (!(P.nullB x.fr) && (!(hasB t.told k.bit) && askJ k no f)) from rfl)
  generalize repT x no k f t = T2 at HY HN ⊢
  generalize repL x no k f t = L2 at HY HN ⊢
  generalize madeJ x no k f t = md at HY HN HM
  clear hk hkl hT hR h0 h7
  go_enter Tryz.func36, Tryz.ntmps36
  go_wp2_with fail
  refine HK.out.mono ?_
  rintro e w1 ⟨M, rfl, hb1, hM⟩
  have hlk := HLK.out w1 M hM
  simp only [Option.getD_some] at hlk
  have HB1 := Lib.hid hb1
  clear hb1 hM HLK HK
  unfold kdA at hlk
  go_wp2_with fail
  clear hlk
  have hkb := newOf w1 (.cells #[.int .i64 k.bit, .string ⟨#[k.c]⟩, .bool k.un] 76)
  have hb2 := below_next HB1.out (below_box w1 (.cells #[.int .i64 k.bit, .string ⟨#[k.c]⟩, .bool k.un] 76))
  generalize w1.alloc (.cells #[.int .i64 k.bit, .string ⟨#[k.c]⟩, .bool k.un] 76) = w2 at hkb hb2 ⊢
  generalize w1.heap.size = kb at hkb ⊢
  have hT2 := HT.out.next hb2
  have hR2 := HR.out.next hb2
  obtain ⟨Y, F, f0, hf0, hF1, hF2⟩ := jcls w2
  have key : ∀ {g : Nat} {o : Obj}, w2.heap[g]? = some o → ∀ y, (F y).heap[g]? = some o := fun hg y => ((hF1 y).block _ (ltOf hg)).trans hg
  have X3 : ∀ y, (F y).cell? ⟨b1, 3, none⟩ = some (.string (mkS x.fr.1)) := fun y => cellOf (key hR2.m y) 3
  have X4 : ∀ y, (F y).cell? ⟨b1, 4, none⟩ = some (.string (mkS x.fr.2)) := fun y => cellOf (key hR2.m y) 4
  have Xt : ∀ y, (F y).cell? ⟨b2, 0, none⟩ = some (.pointer (some ⟨bt, 0, none⟩)) := fun y => cellOf (key hR2.t y) 0
  have Xo : ∀ y, (F y).cell? ⟨bt, 4, none⟩ = some (.int .i64 t.told) := fun y => cellOf (key hT2.t_ y) 4
  have Xb : ∀ y, (F y).cell? ⟨kb, 0, none⟩ = some (.int .i64 k.bit) := fun y => cellOf (key hkb y) 0
  have Xc : ∀ y, (F y).cell? ⟨kb, 1, none⟩ = some (.string ⟨#[k.c]⟩) := fun y => cellOf (key hkb y) 1
  have Xu : ∀ y, (F y).cell? ⟨kb, 2, none⟩ = some (.bool k.un) := fun y => cellOf (key hkb y) 2
  have Xn : ∀ y, (F y).cell? ⟨b3, 0, none⟩ = some (.string (mkS no)) := fun y => cellOf (key hR2.n y) 0
  have CN := Lib.hid (jin_cls hF1 hF2 fun w' _ => P.null_x x.fr w')
  have CA := Lib.hid (jin_cls hF1 hF2 fun w' _ => asked_x k no f w')
  have H1 := Lib.hid hF1
  have HK2 := Lib.hid hkb
  have HB2 := Lib.hid hb2
  have HT2 := Lib.hid hT2
  have HR2 := Lib.hid hR2
  have hA := HA.out
  clear hF1 hF2 key hkb hb2 hT2 hR2 HA HT HR HB1
  have hNE : Nonempty Y := ⟨f0⟩
  generalize askJ k no f = ak at CA HM
  generalize hasB t.told k.bit = hs at hA HM HO
  generalize P.nullB x.fr = nl at CN HM
  have hNo : ∀ (z : Y), md = false → PsPost W bt bm T2 L2 w (.returned (.tuple #[])) (F z) := fun z hm => by
    obtain ⟨e1, e2⟩ := HN.out hm
    rw [e1, e2]
    exact ⟨rfl, jnil, HT2.out.next (H1.out z), F2.of (below_next HB2.out (H1.out z))⟩
  have HNO := Lib.hid hNo
  clear hNo
  cases nl
  · cases hs
    · cases ak
      · have hmd : md = false := HM.out
        have HMD := Lib.hid hmd
        clear hmd
        refine jregion (by kernel_rfl) (by kernel_rfl) F f0 hf0 ?_
        repeat (go_big_quiet_step (first | (go_at_call 13; (with_reducible exact CN.out _)) | (go_at_call 37; (with_reducible exact CA.out _))))
        refine wpQuiet_nil ?_
        rintro _ ⟨z, rfl⟩
        go_wp2_with fail
        go_end0
        exact HNO.out z HMD.out
      · have hmd : md = true := HM.out
        have HMD := Lib.hid hmd
        clear hmd
        refine jregion (by kernel_rfl) (by kernel_rfl) F f0 hf0 ?_
        repeat (go_big_quiet_step (first | (go_at_call 13; (with_reducible exact CN.out _)) | (go_at_call 37; (with_reducible exact CA.out _))))
        refine wpQuiet_nil ?_
        rintro _ ⟨z, rfl⟩
        have HB3 := Lib.hid (H1.out z)
        clear X3 X4 Xt Xo Xb Xc Xu Xn hf0
        generalize F z = w3 at HB3
        have hT3 := HT2.out.next HB3.out
        have hR3 := HR2.out.next HB3.out
        have c1 : w3.cell? ⟨b2, 0, none⟩ = some (.pointer (some ⟨bt, 0, none⟩)) := cellOf hR3.t 0
        have c2 : w3.cell? ⟨bt, 4, none⟩ = some (.int .i64 t.told) := cellOf hT3.t_ 4
        have c3 : w3.cell? ⟨kb, 0, none⟩ = some (.int .i64 k.bit) := cellOf ((HB3.out.block _ (ltOf HK2.out)).trans HK2.out) 0
        have f1 := freeOf hT3.t_ 4
        have hor := HO.out rfl
        have HT3 := Lib.hid hT3
        have HR3 := Lib.hid hR3
        clear hT3 hR3
        go_wp2_with fail
        go_region
        clear c1 c2 c3 f1 hor
        have e4 : (TC t).setIfInBounds 4 (.int .i64 (t.told + k.bit)) = TC { t with told := t.told + k.bit } := rfl
        have hT4 := (HT3.out.set 4 (.int .i64 (t.told + k.bit)) e4).next (Below.refl _ _).drew
        have hF4 : F2 bt bm w3 (w3.setCell ⟨bt, 4, none⟩ (.int .i64 (t.told + k.bit))).drew := (F2.set1 bt bm w3 4 (.int .i64 (t.told + k.bit))).trans (F2.of (Below.refl _ _).drew)
        have hR4 := HR3.out.f2 HT3.out.t_ HT3.out.m_ hF4
        have HB4 := Lib.hid ((F2.of (below_next HB2.out HB3.out) : F2 bt bm w w3).trans hF4)
        clear e4 hF4 HB3 HT3 HR3
        generalize (w3.setCell ⟨bt, 4, none⟩ (.int .i64 (t.told + k.bit))).drew = w4 at *
        obtain ⟨v6, w6, run6, own6, g6⟩ := jrun w4.drew W.heap.size k.name 31 hT4.below.size
        obtain ⟨A6, c6, rfl⟩ := strs_slice own6
        have hg6 : w4.drew.grownBy w6 none := ⟨g6.os, g6.tape, g6.output, by have h1 := g6.size; have h2 := (below_box w4.drew (.cells #[.string (mkS k.name)] 9)).size; omega, fun i hi hne => (g6.block i (by have h2 := (below_box w4.drew (.cells #[.string (mkS k.name)] 9)).size; omega) hne).trans ((below_box w4.drew (.cells #[.string (mkS k.name)] 9)).block i hi)⟩
        have hT4d := hT4.next (Below.refl _ _).drew
        have hTE := hT4d.put (v' := .slice A6 1 c6) (l' := [k.name]) hg6 own6
        have c1 : w4.cell? ⟨b4, 0, none⟩ = some (.pointer (some ⟨bm, 0, none⟩)) := cellOf hR4.l 0
        have c2 : w4.cell? ⟨bm, 0, none⟩ = some jnil := cellOf hT4.m_ 0
        have b1' : b4 < w4.heap.size := ltOf hR4.l
        have b2' : bm < w4.heap.size := ltOf hT4.m_
        have m6 : w6.heap[bm]? = some (.cells #[jnil] 31 (0, 0)) := (hg6.block bm b2' (fun e => by cases e)).trans hT4.m_
        have d1 : w6.cell? ⟨b4, 0, none⟩ = some (.pointer (some ⟨bm, 0, none⟩)) := cellOf ((hg6.block b4 b1' (fun e => by cases e)).trans hR4.l) 0
        have d2 : w6.cell? ⟨bm, 0, none⟩ = some jnil := cellOf m6 0
        have f6 : w6.frozen? ⟨bm, 0, none⟩ = false := freeOf m6 0
        have HF6 := Lib.hid (show F2 bt bm w (w6.setCell ⟨bm, 0, none⟩ (.slice A6 1 c6)) from HB4.out.trans ((F2.of (Below.refl _ _).drew : F2 bt bm w4 w4.drew).trans ((⟨hg6.os, hg6.tape, hg6.output, hg6.size, fun i hi _ _ => hg6.block i hi (fun e => by cases e)⟩ : F2 bt bm w4.drew w6).trans (F2.set2 bt bm w6 0 (.slice A6 1 c6)))))
        have HTE := Lib.hid hTE
        clear hT4 hT4d hR4 hTE hg6 own6 g6 m6
        go_wp2_with fail
        go_region_law (refine jstep_run rfl (.tmp 44) (.tmp 46) 31 rfl _ _ _ (by simp [Act.eval]) (by simp [Act.eval]) run6 ?_)
        all_goals
          go_wp2_with fail
          go_end0
          obtain ⟨e1, e2⟩ := HY.out HMD.out
          rw [e1, e2]
          exact ⟨rfl, _, HTE.out, HF6.out⟩
    · have hmd : md = false := HM.out
      have HMD := Lib.hid hmd
      clear hmd
      refine jregion (by kernel_rfl) (by kernel_rfl) F f0 hf0 ?_
      repeat (go_big_quiet_step (first | (go_at_call 13; (with_reducible exact CN.out _)) | (go_at_call 37; (with_reducible exact CA.out _))))
      refine wpQuiet_nil ?_
      rintro _ ⟨z, rfl⟩
      go_wp2_with fail
      go_end0
      exact HNO.out z HMD.out
  · have hmd : md = false := HM.out
    have HMD := Lib.hid hmd
    clear hmd
    refine jregion (by kernel_rfl) (by kernel_rfl) F f0 hf0 ?_
    repeat (go_big_quiet_step (first | (go_at_call 13; (with_reducible exact CN.out _)) | (go_at_call 37; (with_reducible exact CA.out _))))
    refine wpQuiet_nil ?_
    rintro _ ⟨z, rfl⟩
    go_wp2_with fail
    go_end0
    exact HNO.out z HMD.out
end Go.Proofs.YtcedhgihebollaaGreatDoor.E.J
