/-
  The walk of change, whatever it does ahead of a failure and behind it; those of Sync and Remove.
-/
import Derived.Test.YtdjgjmbgcjhnpaaDkRead
namespace Go.Proofs.Ytdjgjmbgcjhnpaa
set_option maxRecDepth 100000
open Go.RowKit Go.Shelf
/-- What every change leaves. -/
def Left (B b m : Nat) (S : Dk) (w w' : World) : Prop := ∃ F, DA w' B w'.heap.size b m S F ∧ Below B w w'
theorem nothing_x (w : World) : Calls Try.prog 30 #[] w fun e w' => e = .returned (.tuple #[]) ∧ w = w' := by
  go_enter Try.func30, Try.ntmps30
  go_wp2_with fail
  go_end0
  exact ⟨rfl, rfl⟩
theorem tick_at {w : World} {B lim b m : Nat} {S : Dk} {F : List Gd} (h : DA w B lim b m S F) : DA (w.setCell ⟨b, 5, none⟩ (.int .i64 ((S.chg : Int) + 1))) B lim b m (tickD S) F :=
  h.set (tickD S) 5 _ (by simp [diskC, tickD]) rfl
/-- These blocks stay, and are none of the disk's that a failure turns. -/
def Kept (Kp : Nat → Prop) (w w2 : World) (b : Nat) (F : List Gd) : Prop := ∀ k, Kp k → w2.heap[k]? = w.heap[k]? ∧ k < w2.heap.size ∧ k ≠ b ∧ ∀ g ∈ F, k ≠ g.adr
theorem Kept.none {w w2 : World} {b : Nat} {F : List Gd} : Kept (fun _ => False) w w2 b F := fun _ h => h.elim
set_option maxHeartbeats 1000000 in
theorem change_x (fa fb : Nat) (pa pb la lb : Array Value) (ea : ∀ args w, (callFunc fa args).run Try.prog w = .ok (.enter fa args) w) (eb : ∀ args w, (callFunc fb args).run Try.prog w = .ok (.enter fb args) w)
    {w : World} {B lim b m : Nat} {S : Dk} {F : List Gd} (h : DA w B lim b m S F) (hc : S.chg ≤ 1000000000000) (l1 l2 : List Fl) (hu : usedF l1 ≤ 1000000000) (PA : World → Prop) (Kp : Nat → Prop)
    (HA : Calls Try.prog fa (pa ++ la) (w.setCell ⟨b, 5, none⟩ (.int .i64 ((S.chg : Int) + 1))) fun e w2 => e = .returned (.tuple #[]) ∧ PA w2)
    (HP : ∀ w2, PA w2 → ∃ lim2 F2, DA w2 B lim2 b m (putD (tickD S) l1) F2 ∧ Below B w w2 ∧ Kept Kp w w2 b F2 ∧ ∀ n, PA (w2.drewN n))
    (HB : ∀ w2, PA w2 → Calls Try.prog fb (pb ++ lb) w2 fun e w3 => e = .returned (.tuple #[]) ∧ Left B b m (putD (tickD S) l2) w w3 ∧ ∀ k, Kp k → w3.heap[k]? = w.heap[k]?) :
    Calls Try.prog 29 #[.pointer (some ⟨b, 0, none⟩), .func (.func fa) pa la, .func (.func fb) pb lb] w fun e w' => e = .returned (.int .i64 ((chgD S l1 l2).1 : Int)) ∧ Left B b m (chgD S l1 l2).2 w w' ∧ ∀ k, Kp k → w'.heap[k]? = w.heap[k]? := by
  obtain ⟨-, -, -, -, -, c5⟩ := h.cells
  have f5 := freeOf h.blk 5
  have HAh := Lib.hid HA
  have HPh := Lib.hid HP
  have HBh := Lib.hid HB
  have HUh := Lib.hid hu
  clear HA HP HB h
  go_enter Try.func29, Try.ntmps29
  go_wp2_with fail
  refine HAh.out.mono ?_
  rintro e w2 ⟨rfl, hpa⟩
  obtain ⟨lim2, F2, hd2, hb2, -, hpd⟩ := HPh.out w2 hpa
  obtain ⟨-, -, -, -, -, c5⟩ := hd2.cells
  have c3 : w2.cell? ⟨b, 3, none⟩ = some (.int .i64 S.at_) := cellOf hd2.blk 3
  have c5' : w2.cell? ⟨b, 5, none⟩ = some (.int .i64 ((S.chg : Int) + 1)) := by rw [c5]; simp [putD, tickD]
  have HPA := Lib.hid hpd
  clear hpa hpd c5 hd2 hb2
  by_cases hat : (S.chg : Int) + 1 = S.at_
  · have HE := Lib.hid (show chgD S l1 l2 = (7, failD S.keep (putD (tickD S) l1)) by rw [chgD, if_pos (by omega)])
    have d1 : ((S.chg : Int) + 1 == S.at_) = true := by rw [beq_iff_eq]; exact hat
    clear hat
    go_wp2_with fail
    go_quiet (fail)
    have hpa := HPA.out nq
    obtain ⟨lim2, F2, hd2, hb2, hkp, -⟩ := HPh.out _ hpa
    have HKP := Lib.hid hkp
    have c4 : (w2.drewN nq).cell? ⟨b, 4, none⟩ = some (.int .i64 S.keep) := cellOf hd2.blk 4
    have HF := Lib.hid (fail_x hd2 S.keep (show usedF l1 ≤ 1000000000 from HUh.out))
    have HB2 := Lib.hid hb2
    have HL := Lib.hid hd2.low
    have HM := Lib.hid hd2.lim
    clear hpa hd2 hb2 hkp
    go_wp2_with fail
    refine HF.out.mono ?_
    rintro e w3 ⟨rfl, F3, hd3, ho3, hfar⟩
    have HKK := Lib.hid (fun k (hk : Kp k) => ((hfar k (HKP.out k hk).2.1 (HKP.out k hk).2.2.1 (HKP.out k hk).2.2.2).trans (HKP.out k hk).1 : w3.heap[k]? = w.heap[k]?))
    have H3 := Lib.hid (show Left B b m (failD S.keep (putD (tickD S) l1)) w w3 from ⟨F3, hd3.raise hd3.lim (Nat.le_refl _), HB2.out.trans (ho3.below (Nat.le_refl _) (by have := hd3.low; have := hd3.lt; have := HM.out; omega))⟩)
    clear hd3 ho3 hfar
    go_wp2_with fail
    go_ret
    exact ⟨by rw [HE.out]; rfl, (by rw [HE.out]; exact H3.out), HKK.out⟩
  · have HE := Lib.hid (show chgD S l1 l2 = (0, putD (tickD S) l2) by rw [chgD, if_neg (by omega)])
    have d1 : ((S.chg : Int) + 1 == S.at_) = false := by rw [beq_eq_false_iff_ne]; exact hat
    clear hat
    go_wp2_with fail
    go_quiet (fail)
    go_wp2_with fail
    refine (HBh.out _ (HPA.out nq)).mono ?_
    rintro e w3 ⟨rfl, hl3, hk3⟩
    have H3 := Lib.hid hl3
    have HKK := Lib.hid hk3
    clear hl3 hk3
    go_wp2_with fail
    go_ret
    exact ⟨by rw [HE.out]; rfl, (by rw [HE.out]; exact H3.out), HKK.out⟩
theorem ent_nothing : ∀ args w, (callFunc 30 args).run Try.prog w = .ok (.enter 30 args) w := enters_of Try.func30 (by kernel_rfl) rfl
theorem ent_settle : ∀ args w, (callFunc 32 args).run Try.prog w = .ok (.enter 32 args) w := enters_of Try.func32 (by kernel_rfl) rfl
theorem DA.left {w w' : World} {B lim b m : Nat} {S : Dk} {F : List Gd} (h : DA w B lim b m S F) (hb : Below w.heap.size w w') : Left B b m S w w' :=
  ⟨F, (h.next hb).raise (Nat.le_trans h.lim hb.size) (Nat.le_refl _), ⟨hb.os, hb.tape, hb.output, hb.size, fun k hk => hb.block k (by have := h.low; have := h.lt; have := h.lim; omega)⟩⟩
theorem Left.next {B b m : Nat} {S : Dk} {w w1 w' : World} (h : Left B b m S w1 w') (hb : Below B w w1) : Left B b m S w w' := by
  obtain ⟨F, h1, h2⟩ := h
  exact ⟨F, h1, hb.trans h2⟩
theorem DA.base {w w' : World} {B lim b m : Nat} {S : Dk} {F : List Gd} (h : DA w B lim b m S F) (hb : Below w.heap.size w w') : Below B w w' :=
  ⟨hb.os, hb.tape, hb.output, hb.size, fun k hk => hb.block k (by have := h.low; have := h.lt; have := h.lim; omega)⟩
/-- One file turns, in the disk's words. -/
theorem map_one {fs : List Fl} {g g1 : Gd} {R : List Gd} (hp : ((g :: R).map Gd.core).Perm fs) (hr : ∀ x ∈ R, x.name ≠ g.name) (φ : Fl → Fl) (hφ : φ g.core = g1.core) :
    ((g1 :: R).map Gd.core).Perm (fs.map (fun f => if f.name == g.name then φ f else f)) := by
  refine List.Perm.trans (List.Perm.of_eq ?_) (hp.map _)
  rw [List.map_cons, List.map_cons, List.map_cons, List.map_map]
  congr 1
  · have : (g.core.name == g.name) = true := by simp [Gd.core]
    rw [if_pos this, hφ]
  · refine List.map_congr_left fun x hx => ?_
    have : (x.core.name == g.name) = false := by rw [beq_eq_false_iff_ne]; exact hr x hx
    show x.core = if (x.core.name == g.name) = true then φ x.core else x.core
    rw [this]; rfl
theorem settle_at {w : World} {B lim b m : Nat} {S : Dk} {g : Gd} {R : List Gd} (h : DA w B lim b m S (g :: R)) :
    DA (w.setCell ⟨g.adr, 1, none⟩ (.int .i64 (g.byt.length : Int))) B lim b m (putD S (setL S.fs g.name)) (⟨g.name, g.adr, g.v, g.byt, g.byt.length⟩ :: R) := by
  have hg := h.gs g (by simp)
  have hot := set_other w g.adr 1 (.int .i64 (g.byt.length : Int))
  refine h.file ⟨g.name, g.adr, g.v, g.byt, g.byt.length⟩ _ rfl (fun i hi _ _ => hot i hi) ⟨setOf hg.blk 1 _, ?_, hg.low, hg.lt, hg.rowlt, Nat.le_refl _⟩ (Nat.le_refl _) (by simp [World.setCell]; exact h.lim) (fun i hi => .inl hi) (map_one h.fs h.rest (fun f => ⟨f.name, f.byt, f.byt.length⟩) rfl)
  exact own_kept hg.own fun i hi => hot i fun e => hg.adr_row hg hi e.symm
set_option maxHeartbeats 1000000 in
theorem sync_x {w : World} {B lim b m : Nat} {S : Dk} {F : List Gd} (h : DA w B lim b m S F) (n : Txt) (hl : n.length ≤ 140737488355328) (hc : S.chg ≤ 1000000000000) (hu : usedF S.fs ≤ 1000000000) :
    Calls Try.prog 19 #[.pointer (some ⟨b, 0, none⟩), .string (mkS n)] w fun e w' => e = .returned (.int .i64 ((synD S n).1 : Int)) ∧ Left B b m (synD S n).2 w w' ∧ ∀ k, lim ≤ k ∧ k < w.heap.size → w'.heap[k]? = w.heap[k]? := by
  by_cases hf : findE S n = 0
  · obtain ⟨_, hh⟩ := find_zero hf
    obtain ⟨g, R, hp, rfl⟩ := h.has_mem hh
    have hd := h.perm hp
    have HV := Lib.hid (show synD S g.name = chgD S S.fs (setL S.fs g.name) by rw [synD, if_neg (by simp [hf])])
    have HF := Lib.hid (find_yes hd hl hf)
    have HD := Lib.hid hd
    have HC := Lib.hid hc
    have HU := Lib.hid hu
    clear hd hp hl hh hf h hc hu
    go_enter Try.func19, Try.ntmps19
    go_wp2_with fail
    refine HF.out.mono ?_
    rintro e w1 ⟨rfl, hb⟩
    have HD1 := Lib.hid (HD.out.next hb)
    have HB1 := Lib.hid (HD.out.base hb)
    have HQ1 := Lib.hid hb
    clear hb
    go_wp2_with fail
    refine (change_x 30 32 #[] #[.pointer (some ⟨g.adr, 0, none⟩)] #[] #[] ent_nothing ent_settle HD1.out HC.out S.fs (setL S.fs g.name) HU.out (fun w2 => DA w2 B lim b m (tickD S) (g :: R) ∧ Below B w1 w2 ∧ ∀ k, lim ≤ k ∧ k < w.heap.size → w2.heap[k]? = w1.heap[k]?) (fun k => lim ≤ k ∧ k < w.heap.size) ?_ ?_ ?_).mono ?_
    · refine (nothing_x _).mono ?_
      rintro e w2 ⟨rfl, rfl⟩
      exact ⟨rfl, tick_at HD1.out, (Below.refl B w1).setCell (p := ⟨b, 5, none⟩) HD1.out.low _, fun k hk => set_other _ _ _ _ _ (by have := HD1.out.lt; omega)⟩
    · rintro w2 ⟨k1, k2, k3⟩
      exact ⟨lim, _, k1, k2, fun k hk => ⟨k3 k hk, by have h1 := HQ1.out.size; have h2 := k2.size; omega, by have := k1.lt; omega, fun x hx => by have := (k1.gs x hx).lt; omega⟩, fun n => ⟨k1.block (fun _ _ _ => rfl) (Nat.le_refl _), below_drewN k2 n, k3⟩⟩
    · rintro w2 ⟨k1, k2, k3⟩
      refine (settle_x (k1.gs g (by simp))).mono ?_
      rintro e w3 ⟨rfl, rfl⟩
      exact ⟨rfl, ⟨_, (settle_at k1).raise (by simp [World.setCell]; exact k1.lim) (Nat.le_refl _), k2.setCell (p := ⟨g.adr, 1, none⟩) (k1.gs g (by simp)).low _⟩, fun k hk => (set_other _ _ _ _ _ (by have := (k1.gs g (by simp)).lt; omega)).trans (k3 k hk)⟩
    · rintro e w4 ⟨rfl, hl4, hk4⟩
      have H4 := Lib.hid (hl4.next HB1.out)
      have HKK := Lib.hid (fun k (hk : lim ≤ k ∧ k < w.heap.size) => ((hk4 k hk).trans (HQ1.out.block k hk.2) : w4.heap[k]? = w.heap[k]?))
      clear hl4 hk4
      rw [← HV.out] at H4 ⊢
      go_wp2_with fail
      go_ret
      exact ⟨rfl, H4.out, HKK.out⟩
  · have HV := Lib.hid (show synD S n = (findE S n, S) by rw [synD, if_pos hf])
    have HF := Lib.hid (find_no h n hl (findE S n) rfl hf)
    have HD := Lib.hid h
    have d1 : ((findE S n : Int) != 0) = true := by rw [bne_iff_ne]; omega
    clear h hl hf hc hu
    generalize findE S n = fe at HF d1 HV
    go_enter Try.func19, Try.ntmps19
    go_wp2_with fail
    refine HF.out.mono ?_
    rintro e w1 ⟨rfl, hb⟩
    have H2 := Lib.hid (HD.out.left hb)
    have HQ1 := Lib.hid hb
    clear hb
    go_wp2_with fail
    go_ret
    exact ⟨by rw [HV.out]; rfl, (by rw [HV.out]; exact H2.out), fun k hk => HQ1.out.block k hk.2⟩
end Go.Proofs.Ytdjgjmbgcjhnpaa
