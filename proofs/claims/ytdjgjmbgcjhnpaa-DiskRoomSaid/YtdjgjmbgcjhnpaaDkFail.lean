/-
  The walks of fail, Crash, Read, Waits.
-/
import Derived.Test.YtdjgjmbgcjhnpaaDkUsed
import Derived.StillTailTactics
namespace Go.Proofs.Ytdjgjmbgcjhnpaa
set_option maxRecDepth 100000
open Go.RowKit
def cutV (v : Value) (j : Nat) : Value := match v with | .slice A _ c => .slice A j c | x => x
def cutG (k : Int) (g : Gd) : Gd := ⟨g.name, g.adr, cutV g.v (stayF k g.core), g.byt.take (stayF k g.core), stayF k g.core⟩
theorem bytesV_take (l : List UInt8) (j : Nat) : bytesV (l.take j) = (bytesV l).take j := by simp [bytesV, List.map_take]
theorem own_cut {w : World} {B : Nat} {v : Value} {l : List UInt8} (h : w.ownsRow B 5 1 v l.length (bytesV l)) {j : Nat} (hj : j ≤ l.length) :
    (∃ A c, v = .slice A l.length c ∧ cutV v j = .slice A j c ∧ ∀ W, (Instr.slice 56 (.slice A l.length c) none (some (.int .i64 (j : Int))) none).run Try.prog W = .ok (.slice A j c) W) ∧
    w.ownsRow B 5 1 (cutV v j) (l.take j).length (bytesV (l.take j)) ∧ (cutV v j).ownBlock = v.ownBlock := by
  have hl : (l.take j).length = j := by rw [List.length_take]; omega
  rw [hl]
  rcases h.2 with ⟨rfl, h0⟩ | ⟨g, cap, cur, rfl, hb, h1, h2, h3, h4, h5⟩
  · have hj0 : j = 0 := by omega
    subst hj0
    refine ⟨⟨none, 0, by rw [h0], rfl, fun W => ?_⟩, ⟨by simp [bytesV], .inl ⟨rfl, rfl⟩⟩, rfl⟩
    rw [h0]
    simp [Instr.slice, run_underlying Try.underlying56, Instr.sliceBounds, go_sem]
  · refine ⟨⟨_, cap, rfl, rfl, fun W => ?_⟩, ⟨by rw [bytesV_length, hl]; omega, .inr ⟨g, cap, cur, rfl, hb, h1, by omega, h3, h4, ?_⟩⟩, rfl⟩
    · have e1 : (j : Int) ≤ (cap : Int) := by omega
      simp [Instr.slice, run_underlying Try.underlying56, Instr.sliceBounds, go_sem, e1]
    · rw [bytesV_take, ← h5, List.take_take, Nat.mul_one, Nat.mul_one, Nat.min_eq_left hj]
theorem stay_le {k : Int} {g : Gd} (h : g.syn ≤ g.byt.length) : stayF k g.core ≤ g.byt.length := by
  show g.syn + min k.toNat (g.byt.length - g.syn) ≤ _
  omega
/-- How far a failure is: those that aren't to come are cut. -/
def failL (k : Int) (F : List Gd) (lf : Txt → Bool) : List Gd := F.map (fun g => if lf g.name then g else cutG k g)
theorem fail_ent (k : Int) (F : List Gd) (lf : Txt → Bool) : (failL k F lf).map Gd.ent = F.map Gd.ent := by
  rw [failL, List.map_map]
  refine List.map_congr_left fun g _ => ?_
  show Gd.ent (if lf g.name then g else cutG k g) = _
  split <;> rfl
theorem fail_start (k : Int) (F : List Gd) : failL k F (fun z => (F.map Gd.ent).any fun p => p.1 == z) = F := by
  have : ∀ g ∈ F, (if ((F.map Gd.ent).any fun p => p.1 == g.name) then g else cutG k g) = g := by
    intro g hg
    rw [if_pos]
    rw [List.any_eq_true]
    exact ⟨g.ent, List.mem_map.2 ⟨g, hg, rfl⟩, by simp [Gd.ent]⟩
  rw [failL, List.map_congr_left this]
  simp
theorem fail_end (k : Int) (F : List Gd) {lf : Txt → Bool} (h : ∀ z, lf z = false) : (failL k F lf).map Gd.core = (F.map Gd.core).map (cutF k) := by
  rw [failL, List.map_map, List.map_map]
  refine List.map_congr_left fun g _ => ?_
  show Gd.core (if lf g.name then g else cutG k g) = _
  rw [h]; rfl
theorem fail_step (k : Int) {l1 l2 : List Gd} {g : Gd} (hn : ((l1 ++ g :: l2).map Gd.name).Nodup) {lf : Txt → Bool} (hl : lf g.name = true) :
    failL k (l1 ++ g :: l2) lf = failL k l1 lf ++ g :: failL k l2 lf ∧ failL k (l1 ++ g :: l2) (fun z => lf z && !(z == g.name)) = failL k l1 lf ++ cutG k g :: failL k l2 lf := by
  constructor
  · simp [failL, hl]
  · have hne : ∀ x ∈ l1 ++ l2, (x.name == g.name) = false := by
      intro x hx
      rw [beq_eq_false_iff_ne]
      intro e
      have hp : ((l1 ++ g :: l2).map Gd.name).Perm ((g :: (l1 ++ l2)).map Gd.name) := List.perm_middle.map _
      have := hp.nodup_iff.1 hn
      rw [List.map_cons, List.nodup_cons] at this
      exact this.1 (by rw [← e]; exact List.mem_map_of_mem hx)
    have h1 : ∀ x ∈ l1, (if (lf x.name && !(x.name == g.name)) = true then x else cutG k x) = (if lf x.name = true then x else cutG k x) := fun x hx => by simp [hne x (by simp [hx])]
    have h2 : ∀ x ∈ l2, (if (lf x.name && !(x.name == g.name)) = true then x else cutG k x) = (if lf x.name = true then x else cutG k x) := fun x hx => by simp [hne x (by simp [hx])]
    rw [failL, List.map_append, List.map_cons, List.map_congr_left h1, List.map_congr_left h2]
    simp [failL]
/-- A file is cut, in memory. -/
theorem cut_at {w : World} {B lim b m : Nat} {S : Dk} {g : Gd} {R : List Gd} (h : DA w B lim b m S (g :: R)) (k : Int) :
    DA ((w.setCell ⟨g.adr, 0, none⟩ (cutV g.v (stayF k g.core))).setCell ⟨g.adr, 1, none⟩ (.int .i64 (stayF k g.core : Int))) B lim b m (putD S ((cutG k g :: R).map Gd.core)) (cutG k g :: R) := by
  have hg := h.gs g (by simp)
  obtain ⟨_, h2, h3⟩ := own_cut hg.own (stay_le hg.syn (k := k))
  have e1 := setOf hg.blk 0 (cutV g.v (stayF k g.core))
  have e2 := setOf e1 1 (.int .i64 (stayF k g.core : Int))
  have hot : ∀ i, i ≠ g.adr → ((w.setCell ⟨g.adr, 0, none⟩ (cutV g.v (stayF k g.core))).setCell ⟨g.adr, 1, none⟩ (.int .i64 (stayF k g.core : Int))).heap[i]? = w.heap[i]? := fun i hi => (set_other _ _ _ _ i hi).trans (set_other _ _ _ _ i hi)
  refine h.file (cutG k g) _ rfl (fun i hi _ _ => hot i hi) ⟨e2, ?_, hg.low, hg.lt, ?_, ?_⟩ (Nat.le_refl _) (by simp [World.setCell]; exact h.lim) (fun i hi => .inl ?_) (List.Perm.refl _)
  · refine own_kept h2 fun i hi => hot i fun e => ?_
    exact hg.adr_row hg (k := i) (by rw [← h3]; exact hi) e.symm
  · intro i hi
    exact hg.rowlt i (by rw [← h3]; exact hi)
  · show stayF k g.core ≤ (g.byt.take (stayF k g.core)).length
    rw [List.length_take]
    have := stay_le hg.syn (k := k)
    omega
  · rw [← h3]; exact hi
theorem DA.fsp {w : World} {B lim b m : Nat} {S : Dk} {F : List Gd} (h : DA w B lim b m S F) (fs : List Fl) (hp : S.fs.Perm fs) : DA w B lim b m (putD S fs) F :=
  ⟨h.blk, h.map, h.gs, h.sep, h.fs.trans hp, h.low, h.lt, h.mlow, h.mlt, h.lim⟩
theorem mid_at {w : World} {B lim b m : Nat} {S : Dk} {g : Gd} {R : List Gd} (h : DA w B lim b m S (g :: R)) (k : Int) :
    GAt (w.setCell ⟨g.adr, 0, none⟩ (cutV g.v (stayF k g.core))) B lim ⟨g.name, g.adr, cutV g.v (stayF k g.core), g.byt.take (stayF k g.core), g.syn⟩ := by
  have hg := h.gs g (by simp)
  obtain ⟨_, h2, h3⟩ := own_cut hg.own (stay_le hg.syn (k := k))
  refine ⟨setOf hg.blk 0 (cutV g.v (stayF k g.core)), ?_, hg.low, hg.lt, ?_, ?_⟩
  · refine own_kept h2 fun i hi => set_other _ _ _ _ i fun e => ?_
    exact hg.adr_row hg (k := i) (by rw [← h3]; exact hi) e.symm
  · intro i hi
    exact hg.rowlt i (by rw [← h3]; exact hi)
  · show g.syn ≤ (g.byt.take (stayF k g.core)).length
    rw [List.length_take]
    have := stay_le hg.syn (k := k)
    show g.syn ≤ min (g.syn + min k.toNat (g.byt.length - g.syn)) g.byt.length
    have := hg.syn
    omega
/-- How far a failure is, in memory. -/
structure FI (w wr : World) (B lim b m r : Nat) (S : Dk) (F : List Gd) (k : Int) (lf : Txt → Bool) (cnt : Nat) : Prop where
  it : It wr m r (F.map Gd.ent) lf cnt
  da : DA wr B lim b m (putD S ((failL k F lf).map Gd.core)) (failL k F lf)
  out : Out B lim w wr
  far : ∀ i, i < w.heap.size → i ≠ b → (∀ g ∈ F, i ≠ g.adr) → wr.heap[i]? = w.heap[i]?
set_option maxHeartbeats 4000000 in
theorem fail_x {w : World} {B lim b m : Nat} {S : Dk} {F : List Gd} (h : DA w B lim b m S F) (k : Int) (hu : usedF S.fs ≤ 1000000000) :
    Calls Try.prog 35 #[.pointer (some ⟨b, 0, none⟩), .int .i64 k] w fun e w' => e = .returned (.tuple #[]) ∧ ∃ F', DA w' B lim b m (failD k S) F' ∧ Out B lim w w' ∧ ∀ i, i < w.heap.size → i ≠ b → (∀ g ∈ F, i ≠ g.adr) → w'.heap[i]? = w.heap[i]? := by
  obtain ⟨_, c1, _, _, _, _⟩ := h.cells
  have HD := Lib.hid h
  have HU := Lib.hid hu
  clear h hu
  go_enter Try.func35, Try.ntmps35
  go_wp2_with (at_range; refine wpList_range_file rfl _ rfl (.tmp 10) rfl m (F.map Gd.ent) rfl HD.out.map ?_; intro w0 hit0 hg0 hs0)
  go_frame
  go_loopw [5] (fun _ wr => ∃ lf cnt, Hid (FI w wr B lim b m w.heap.size S F k lf cnt)) (fun _ wr => wr.rangeLeft m w.heap.size)
  case atStart =>
    refine ⟨_, _, Lib.hid ⟨hit0, ?_, (Out.refl B lim w).grown hg0 (fun j hj => by cases hj), fun i hi _ _ => hg0.block i hi (by simp)⟩⟩
    rw [fail_start]
    have h1 := HD.out.next ((Below.refl w.heap.size w).grown hg0 (Nat.le_refl _) (fun j hj => by cases hj))
    exact ⟨h1.blk, h1.map, h1.gs, h1.sep, List.Perm.refl _, h1.low, h1.lt, h1.mlow, h1.mlt, h1.lim⟩
  case round =>
    obtain ⟨lf, cnt, HI⟩ := hrel
    go_wp2_with (at_next; refine wpList_next_g rfl _ rfl (.tmp 11) rfl m w.heap.size cnt F lf rfl HI.out.it ?_ ?_)
    · intro hl0
      have HD1 := Lib.hid HI.out.da
      have HS := Lib.hid (setOf HD1.out.blk 2 (.bool true))
      have HD2 := Lib.hid (HD1.out.set (S' := ⟨S.room, (failL k F lf).map Gd.core, true, S.at_, S.keep, S.chg⟩) 2 (.bool true) rfl rfl)
      have HO2 := Lib.hid (HI.out.out.set 2 (.bool true) HD.out.low HD.out.lt)
      have HP := Lib.hid (show ((failL k F lf).map Gd.core).Perm (S.fs.map (cutF k)) by rw [fail_end k F hl0.out]; exact HD.out.fs.map _)
      have f2 := freeOf HD1.out.blk 2
      have c2 : wr.cell? ⟨b, 2, none⟩ = some (.bool S.off) := cellOf HD1.out.blk 2
      have HIo := HI
      clear hl0 HI
      go_wp2_with (refine wpList_store_blk rfl 31 (.tmp 43) (.tmp 39) rfl b 3 51 (diskC ⟨S.room, (failL k F lf).map Gd.core, true, S.at_, S.keep, S.chg⟩ m) #[.int .i64 0, .int .i64 0] (diskC ⟨S.room, (failL k F lf).map Gd.core, true, 0, 0, S.chg⟩ m) rfl rfl HD2.out.blk Try.sizeCut (one_two 0 0) (Nat.le_of_ble_eq_true rfl) rfl ?_)
      intro w2 hB2 hA2
      have hA3 : Apart b (wr.setCell ⟨b, 2, none⟩ (.bool true)).heap.size (wr.setCell ⟨b, 2, none⟩ (.bool true)) w2 := by first | exact hA2 | (rw [World.size_setCell]; exact hA2)
      have HD3 := Lib.hid ((HD2.out.apart (S' := ⟨S.room, (failL k F lf).map Gd.core, true, 0, 0, S.chg⟩) hB2 hA3 rfl).fsp _ HP.out)
      have HO3 := Lib.hid (HO2.out.apart hA3 HD.out.low HD.out.lt)
      have HFr := Lib.hid (fun i (hi : i < w.heap.size) (hb : i ≠ b) (hg : ∀ g ∈ F, i ≠ g.adr) => ((hA3.block i (by have := HIo.out.out.size; rw [World.size_setCell]; omega) hb).trans ((set_other wr b 2 (.bool true) i hb).trans (HIo.out.far i hi hb hg)) : w2.heap[i]? = w.heap[i]?))
      clear hB2 hA2 hA3
      go_wp2_with fail
      go_end0
      exact ⟨rfl, _, HD3.out, HO3.out, HFr.out⟩
    · intro g w1 cnt1 HX hen
      obtain ⟨l1, l2, hF⟩ := List.append_of_mem HX.out.mem
      have hnd := HD.out.nodup
      rw [hF] at hnd
      obtain ⟨hs1, hs2⟩ := fail_step k hnd HX.out.left
      rw [← hF] at hs1 hs2
      have hgl := HD.out.len_le HX.out.mem
      have hda := HI.out.da
      rw [hs1] at hda
      have hlm := hda.lim
      have hda1 : DA w1 B lim b m (putD S ((failL k l1 lf ++ g :: failL k l2 lf).map Gd.core)) (failL k l1 lf ++ g :: failL k l2 lf) := hda.block (fun i _ hl => HX.out.grown.block i (Nat.lt_of_lt_of_le hl hlm) (fun e => by have := HD.out.lim; cases e; omega)) (Nat.le_of_eq HX.out.size.symm)
      have HDA := Lib.hid (hda1.perm List.perm_middle)
      have HG := Lib.hid (HDA.out.gs g (by simp))
      obtain ⟨⟨A, c, hv, hcv, hsl⟩, _, _⟩ := own_cut HG.out.own (stay_le HG.out.syn (k := k))
      have HS := Lib.hid HG.out.syn
      have HL1 := Lib.hid (show g.byt.length ≤ 1000000000 from Nat.le_trans hgl HU.out)
      obtain ⟨M, hM⟩ : ∃ M, M = min k.toNat (g.byt.length - g.syn) := ⟨_, rfl⟩
      have hst : stayF k g.core = g.syn + M := by rw [hM]; rfl
      have hb1 : g.syn ≤ 1000000000 := Nat.le_trans HS.out HL1.out
      have hb2 : M ≤ 1000000000 := by rw [hM]; have := HL1.out; omega
      have hmin : min (max k 0) ((g.byt.length - g.syn : Nat) : Int) = (M : Int) := by rw [hM]; omega
      have HW := Lib.hid (dwaits_x HG.out (by have := HL1.out; omega))
      rw [hst, Int.natCast_add] at hsl
      have HCA := Lib.hid (show cutV g.v (stayF k g.core) = .slice A (g.syn + M) c by rw [hcv, hst])
      have HST := Lib.hid hst
      have HS2 := Lib.hid hs2
      have HI1 := Lib.hid HX.out.it
      have HLT := Lib.hid (show w1.rangeLeft m w.heap.size < wr.rangeLeft m w.heap.size by rw [HX.out.it.left_eq, HI.out.it.left_eq]; exact HX.out.lt)
      have HGm := Lib.hid HX.out.mem
      have HF1 := Lib.hid (fun i (hi : i < w.heap.size) (hb : i ≠ b) (hgs : ∀ g ∈ F, i ≠ g.adr) => ((HX.out.grown.block i (Nat.lt_of_lt_of_le hi HI.out.out.size) (fun e => by cases e; omega)).trans (HI.out.far i hi hb hgs) : w1.heap[i]? = w.heap[i]?))
      have HO1 := Lib.hid (HI.out.out.grown HX.out.grown (fun j hj => by cases hj; exact .inl (Nat.le_refl _)))
      generalize g.byt.length - g.syn = Wt at HW hmin
      clear hF hnd hs1 hs2 hgl hda hlm hda1 hM hst hcv
      go_wp2_with fail
      refine HW.out.mono ?_
      rintro e w2 ⟨rfl, hb⟩
      have HD2 := Lib.hid (HDA.out.next hb)
      have HI2 := Lib.hid (HI1.out.block (hb.block m HI1.out.map.lt) (hb.block _ HI1.out.lt))
      have HO2 := Lib.hid (HO1.out.trans (Out.of hb))
      have HF2 := Lib.hid (fun i (hi : i < w.heap.size) (hb2 : i ≠ b) (hgs : ∀ g ∈ F, i ≠ g.adr) => ((hb.block i (Nat.lt_of_lt_of_le hi HO1.out.size)).trans (HF1.out i hi hb2 hgs) : w2.heap[i]? = w.heap[i]?))
      have HLT2 := Lib.hid (show w2.rangeLeft m w.heap.size < wr.rangeLeft m w.heap.size by rw [HI2.out.left_eq, ← HI1.out.left_eq]; exact HLT.out)
      have HG2 := Lib.hid (HD2.out.gs g (by simp))
      clear hb HW
      obtain ⟨c0, c1'⟩ := HG2.out.cells
      rw [hv] at c0
      have f0 := freeOf HG2.out.blk 0
      have hwr : IntKind.i64.wrap ((g.syn : Int) + (M : Int)) = (g.syn : Int) + (M : Int) := IntWalk.i64_in _ (by omega)
      have HM := Lib.hid (mid_at HD2.out.drew k)
      have HC := Lib.hid (cut_at HD2.out.drew k)
      have HOS := Lib.hid ((HO2.out.drew.set 0 (cutV g.v (stayF k g.core)) HG2.out.low HG2.out.lt).set 1 (.int .i64 (stayF k g.core : Int)) HG2.out.low HG2.out.lt)
      have HLN := Lib.hid (show (g.byt.take (stayF k g.core)).length = stayF k g.core by rw [List.length_take]; have := stay_le HG.out.syn (k := k); omega)
      rw [HCA.out] at HM HC HOS
      go_wp2_with fail
      go_still_tail 14, (by kernel_rfl)
      go_wp2_with fail
      refine (settle_x HM.out).mono ?_
      rintro e w3 ⟨rfl, hw3⟩
      have hw4 : w3 = (w2.drew.setCell ⟨g.adr, 0, none⟩ (.slice A (g.syn + M) c)).setCell ⟨g.adr, 1, none⟩ (.int .i64 (stayF k g.core : Int)) := by rw [hw3]; show World.setCell _ _ (.int .i64 ((g.byt.take (stayF k g.core)).length : Int)) = _; rw [HLN.out]
      have HNE := Lib.hid (HD2.out.ne_adr (g := g) (by simp))
      have HR := Lib.hid (show g.adr < w.heap.size from Nat.lt_of_lt_of_le HG2.out.lt HD.out.lim)
      have hot : ∀ i, i ≠ g.adr → w3.heap[i]? = w2.heap[i]? := fun i hi => by rw [hw4]; exact (set_other _ _ _ _ i hi).trans (set_other _ _ _ _ i hi)
      have HI3 := Lib.hid (HI2.out.block (hot m (HNE.out.2.symm)) (hot _ (by have := HR.out; omega)))
      have HF3 : Hid (FI w w3 B lim b m w.heap.size S F k (fun z => lf z && !(z == g.name)) cnt1) := Lib.hid ⟨HI3.out, (by
        rw [HS2.out, hw4]
        exact (HC.out.perm List.perm_middle.symm).fsp _ ((List.perm_middle (a := cutG k g)).symm.map _)), (by rw [hw4]; exact HOS.out), fun i hi hb hgs => (hot i (hgs g HGm.out)).trans (HF2.out i hi hb hgs)⟩
      have HLT3 := Lib.hid (show w3.rangeLeft m w.heap.size < wr.rangeLeft m w.heap.size by rw [HI3.out.left_eq, ← HI2.out.left_eq]; exact HLT2.out)
      clear hw3 hw4 hot
      go_wp2_with fail
      go_round
      case rel => exact ⟨_, _, HF3⟩
      case measure => exact HLT3.out
set_option maxHeartbeats 1000000 in
theorem crash_x {w : World} {B lim b m : Nat} {S : Dk} {F : List Gd} (h : DA w B lim b m S F) (k : Int) (hu : usedF S.fs ≤ 1000000000) :
    Calls Try.prog 22 #[.pointer (some ⟨b, 0, none⟩), .int .i64 k] w fun e w' => e = .returned (.tuple #[]) ∧ ∃ F', DA w' B lim b m (crashD S k) F' ∧ Out B lim w w' := by
  obtain ⟨_, _, c2, _, _, _⟩ := h.cells
  have HF := Lib.hid (fail_x h k hu)
  have HD := Lib.hid h
  have HV := Lib.hid (show crashD S k = if S.off then S else failD k S from rfl)
  clear h hu
  cases ho : S.off <;> rw [ho] at c2 HV
  · have HE := Lib.hid (show failD k S = crashD S k by rw [HV.out]; rfl)
    clear HV ho
    go_enter Try.func22, Try.ntmps22
    go_wp2_with fail
    refine HF.out.mono ?_
    rintro e w1 ⟨rfl, F', hd, hout, -⟩
    have H1 := Lib.hid hd
    have H2 := Lib.hid hout
    clear hd hout
    go_wp2_with fail
    go_end0
    exact ⟨rfl, F', HE.out ▸ H1.out, H2.out⟩
  · have HE := Lib.hid (show S = crashD S k by rw [HV.out]; rfl)
    clear HV ho
    go_enter Try.func22, Try.ntmps22
    go_wp2_with fail
    go_end0
    exact ⟨rfl, F, HE.out ▸ HD.out, Out.refl _ _ _⟩
end Go.Proofs.Ytdjgjmbgcjhnpaa
