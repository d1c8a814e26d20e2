/-
  The walk of Rename.
-/
import Derived.Test.YtdjgjmbgcjhnpaaDkRen
namespace Go.Proofs.Ytdjgjmbgcjhnpaa
set_option maxRecDepth 100000
open Go.RowKit Go.Shelf Go.ChangeMaps Go.MapKept
theorem boxes3 (w : World) (v1 v2 v3 : Value) (t1 t2 t3 : TypeId) :
    (((w.alloc (.cells #[v1] t1)).alloc (.cells #[v2] t2)).alloc (.cells #[v3] t3)).heap[w.heap.size]? = some (.cells #[v1] t1 (0, 0)) ∧
    (((w.alloc (.cells #[v1] t1)).alloc (.cells #[v2] t2)).alloc (.cells #[v3] t3)).heap[w.heap.size + 1]? = some (.cells #[v2] t2 (0, 0)) ∧
    (((w.alloc (.cells #[v1] t1)).alloc (.cells #[v2] t2)).alloc (.cells #[v3] t3)).heap[w.heap.size + 1 + 1]? = some (.cells #[v3] t3 (0, 0)) ∧
    Below w.heap.size w (((w.alloc (.cells #[v1] t1)).alloc (.cells #[v2] t2)).alloc (.cells #[v3] t3)) ∧
    (((w.alloc (.cells #[v1] t1)).alloc (.cells #[v2] t2)).alloc (.cells #[v3] t3)).heap.size = w.heap.size + 3 := by
  have s1 : (w.alloc (.cells #[v1] t1)).heap.size = w.heap.size + 1 := by simp
  have s2 : ((w.alloc (.cells #[v1] t1)).alloc (.cells #[v2] t2)).heap.size = w.heap.size + 2 := by simp
  refine ⟨(heap_alloc_old _ _ (by rw [s2]; omega)).trans ((heap_alloc_old _ _ (by rw [s1]; omega)).trans (newOf w _)), (heap_alloc_old _ _ (by rw [s2]; omega)).trans ?_, ?_, ((below_box w _).alloc (by rw [s1]; omega) _).alloc (by rw [s2]; omega) _, by simp⟩
  · have := newOf (w.alloc (.cells #[v1] t1)) (.cells #[v2] t2)
    rwa [s1] at this
  · have := newOf ((w.alloc (.cells #[v1] t1)).alloc (.cells #[v2] t2)) (.cells #[v3] t3)
    rwa [s2] at this
theorem ent_rename1 : ∀ args w, (callFunc 33 args).run Try.prog w = .ok (.enter 33 args) w := enters_of Try.func33 (by kernel_rfl) rfl
set_option maxHeartbeats 2000000 in
theorem rename_x {w : World} {B lim b m : Nat} {S : Dk} {F : List Gd} (h : DA w B lim b m S F) (n to : Txt) (hl : n.length ≤ 140737488355328) (hl2 : to.length ≤ 1000000000000) (hc : S.chg ≤ 1000000000000) (hu : usedF S.fs ≤ 1000000000) (hF : S.fs.length ≤ 1000000) :
    Calls Try.prog 20 #[.pointer (some ⟨b, 0, none⟩), .string (mkS n), .string (mkS to)] w fun e w' => e = .returned (.int .i64 ((renD S n to).1 : Int)) ∧ Left B b m (renD S n to).2 w w' ∧ ∀ k, lim ≤ k ∧ k < w.heap.size → w'.heap[k]? = w.heap[k]? := by
  obtain ⟨hX, hY, hZ, hb0, hs0⟩ := boxes3 w (.pointer (some ⟨b, 0, none⟩)) (.string (mkS n)) (.string (mkS to)) 25 9 9
  have h0 := h.next hb0
  have HX := Lib.hid hX
  have HY := Lib.hid hY
  have HZ := Lib.hid hZ
  have HD := Lib.hid h0
  have HB := Lib.hid hb0
  have HL := Lib.hid hl
  have HL2 := Lib.hid hl2
  have HW := Lib.hid h
  have HR := Lib.hid (ready_x h0 to (by omega))
  have HC := Lib.hid hc
  have HU := Lib.hid hu
  have HFL := Lib.hid hF
  have HS := Lib.hid hs0
  clear hX hY hZ h0 hb0 hl hl2 h hc hu hF hs0
  by_cases hr : readyE S to = 0
  · have HV := Lib.hid (show renD S n to = if findE S n ≠ 0 then (findE S n, S) else chgD S S.fs (movL S.fs n to) by rw [renD, if_neg (by simp [hr])])
    rw [hr] at HR
    clear hr
    go_enter Try.func20, Try.ntmps20
    go_wp2_with fail
    refine HR.out.mono ?_
    rintro e w1 ⟨rfl, hb⟩
    have HD1 := Lib.hid (HD.out.next hb)
    have HB1 := Lib.hid (below_next HB.out hb)
    have HX1 := Lib.hid ((hb.block _ (ltOf HX.out)).trans HX.out)
    have HY1 := Lib.hid ((hb.block _ (ltOf HY.out)).trans HY.out)
    have HZ1 := Lib.hid ((hb.block _ (ltOf HZ.out)).trans HZ.out)
    have cx : w1.cell? ⟨w.heap.size, 0, none⟩ = some (.pointer (some ⟨b, 0, none⟩)) := cellOf HX1.out 0
    have cy : w1.cell? ⟨w.heap.size + 1, 0, none⟩ = some (.string (mkS n)) := cellOf HY1.out 0
    clear hb
    by_cases hf : findE S n = 0
    · obtain ⟨_, hh⟩ := find_zero hf
      obtain ⟨g, R, hp, rfl⟩ := HD1.out.has_mem hh
      have HFi := Lib.hid (find_yes (HD1.out.perm hp) HL.out hf)
      have HV2 := Lib.hid (show renD S g.name to = chgD S S.fs (movL S.fs g.name to) by rw [HV.out, if_neg (by simp [hf])])
      have HG := Lib.hid (show g ∈ F from hp.mem_iff.2 (by simp))
      clear HV hf hp hh
      go_wp2_with fail
      refine HFi.out.mono ?_
      rintro e w2 ⟨rfl, hb⟩
      have HD2 := Lib.hid (HD1.out.next hb)
      have HB2 := Lib.hid (below_next HB1.out hb)
      clear cx cy
      have HX2 := Lib.hid ((hb.block _ (ltOf HX1.out)).trans HX1.out)
      have HY2 := Lib.hid ((hb.block _ (ltOf HY1.out)).trans HY1.out)
      have HZ2 := Lib.hid ((hb.block _ (ltOf HZ1.out)).trans HZ1.out)
      have hbA := below_box w2 (.cells #[.pointer (some ⟨g.adr, 0, none⟩)] 54)
      have HD3 := Lib.hid (HD2.out.next hbA)
      have HB3 := Lib.hid (below_next HB2.out hbA)
      have HX3 := Lib.hid ((hbA.block _ (ltOf HX2.out)).trans HX2.out)
      have HY3 := Lib.hid ((hbA.block _ (ltOf HY2.out)).trans HY2.out)
      have HZ3 := Lib.hid ((hbA.block _ (ltOf HZ2.out)).trans HZ2.out)
      have HN3 := Lib.hid (newOf w2 (.cells #[.pointer (some ⟨g.adr, 0, none⟩)] 54))
      have HLw := Lib.hid HB2.out.size
      have cx : (w2.alloc (.cells #[.pointer (some ⟨g.adr, 0, none⟩)] 54)).cell? ⟨w.heap.size, 0, none⟩ = some (.pointer (some ⟨b, 0, none⟩)) := cellOf HX3.out 0
      clear hb hbA
      obtain ⟨w3, hw3⟩ : ∃ w3, w2.alloc (.cells #[.pointer (some ⟨g.adr, 0, none⟩)] 54) = w3 := ⟨_, rfl⟩
      rw [hw3] at HD3 HB3 HX3 HY3 HZ3 HN3 cx
      go_wp2_with fail
      refine (change_x 30 33 #[] #[] #[] #[.pointer (some ⟨w.heap.size, 0, none⟩), .pointer (some ⟨w.heap.size + 1, 0, none⟩), .pointer (some ⟨w2.heap.size, 0, none⟩), .pointer (some ⟨w.heap.size + 1 + 1, 0, none⟩)] ent_nothing ent_rename1 HD3.out HC.out S.fs (movL S.fs g.name to) HU.out (fun w4 => DA w4 B lim b m (tickD S) F ∧ Below B w3 w4 ∧ ∀ k, lim ≤ k → w4.heap[k]? = w3.heap[k]?) (fun k => lim ≤ k ∧ k < w.heap.size) ?_ ?_ ?_).mono ?_
      · refine (nothing_x _).mono ?_
        rintro e w4 ⟨rfl, rfl⟩
        have h1 := HW.out.lt
        have h2 := HW.out.lim
        exact ⟨rfl, tick_at HD3.out, (Below.refl B w3).setCell (p := ⟨b, 5, none⟩) HD3.out.low _, fun k hk => set_other _ _ _ _ _ (by omega)⟩
      · rintro w4 ⟨k1, k2, k3⟩
        exact ⟨lim, _, k1, k2, fun k hk => ⟨k3 k hk.1, by have h1 := HB3.out.size; have h2 := k2.size; omega, by have := k1.lt; omega, fun x hx => by have := (k1.gs x hx).lt; omega⟩, fun n => ⟨k1.block (fun _ _ _ => rfl) (Nat.le_refl _), below_drewN k2 n, k3⟩⟩
      · rintro w4 ⟨k1, k2, k3⟩
        have h1 := HW.out.mlt
        have h2 := HW.out.lim
        have h3 := HLw.out
        refine (rename1_x k1 HG.out to HL.out HL2.out (by have h4 := HFL.out; have h5 := HW.out.fs.length_eq; rw [List.length_map] at h5; omega) w.heap.size (w.heap.size + 1) w2.heap.size (w.heap.size + 1 + 1) ⟨by omega, by omega, by omega⟩ (cellOf ((k3 _ (by omega)).trans HX3.out) 0) (cellOf ((k3 _ (by omega)).trans HY3.out) 0) (cellOf ((k3 _ (by omega)).trans HN3.out) 0) (cellOf ((k3 _ (by omega)).trans HZ3.out) 0)).mono ?_
        rintro e w5 ⟨rfl, hl5, ho5⟩
        exact ⟨rfl, hl5.next k2, fun k hk => (ho5 k (by have h1 := HB3.out.size; have h2 := k2.size; omega) (by omega)).trans (k3 k hk.1)⟩
      · rintro e w4 ⟨rfl, hl4, hk4⟩
        have HKK := Lib.hid (fun k (hk : lim ≤ k ∧ k < w.heap.size) => ((hk4 k hk).trans (HB3.out.block k hk.2) : w4.heap[k]? = w.heap[k]?))
        have H4 := Lib.hid (hl4.next (HW.out.base HB3.out))
        clear hl4 cx hk4
        rw [← HV2.out] at H4 ⊢
        go_wp2_with fail
        go_ret
        exact ⟨rfl, H4.out, HKK.out⟩
    · have HFi := Lib.hid (find_no HD1.out n HL.out (findE S n) rfl hf)
      have HV2 := Lib.hid (show renD S n to = (findE S n, S) by rw [HV.out, if_pos hf])
      have d1 : ((findE S n : Int) != 0) = true := by rw [bne_iff_ne]; omega
      generalize findE S n = fe at HFi d1 HV2
      clear hf HV
      go_wp2_with fail
      refine HFi.out.mono ?_
      rintro e w2 ⟨rfl, hb⟩
      have HQ2 := Lib.hid (below_next HB1.out (hb.alloc hb.size (.cells #[.pointer none] 54)))
      have H2 := Lib.hid ((HD1.out.left (hb.alloc hb.size (.cells #[.pointer none] 54))).next (HW.out.base HB1.out))
      clear hb cx cy
      go_wp2_with fail
      go_ret
      exact ⟨by rw [HV2.out]; rfl, (by rw [HV2.out]; exact H2.out), fun k hk => HQ2.out.block k hk.2⟩
  · have HV := Lib.hid (show renD S n to = (readyE S to, S) by rw [renD, if_pos hr])
    have d1 : ((readyE S to : Int) != 0) = true := by rw [bne_iff_ne]; omega
    generalize readyE S to = fe at HR d1 HV
    clear hr
    go_enter Try.func20, Try.ntmps20
    go_wp2_with fail
    refine HR.out.mono ?_
    rintro e w1 ⟨rfl, hb⟩
    have H2 := Lib.hid ((HD.out.left hb).next (HW.out.base HB.out))
    have HQ2 := Lib.hid (below_next HB.out hb)
    clear hb
    go_wp2_with fail
    go_ret
    exact ⟨by rw [HV.out]; rfl, (by rw [HV.out]; exact H2.out), fun k hk => HQ2.out.block k hk.2⟩
end Go.Proofs.Ytdjgjmbgcjhnpaa
