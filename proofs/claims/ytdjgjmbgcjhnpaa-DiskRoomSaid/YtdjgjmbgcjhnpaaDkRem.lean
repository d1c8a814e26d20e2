/-
  The walk of Remove, with its closure.
-/
import Derived.Test.YtdjgjmbgcjhnpaaDkChg
namespace Go.Proofs.Ytdjgjmbgcjhnpaa
set_option maxRecDepth 100000
open Go.RowKit Go.Shelf Go.ChangeMaps Go.MapKept
theorem turned_other {w w' : World} {m : Nat} (h : w.mapTurned w' m) : (∀ k, k ≠ m → w'.heap[k]? = w.heap[k]?) ∧ w.heap.size = w'.heap.size ∧ w'.os = w.os ∧ w'.tape = w.tape ∧ w'.output = w.output := by
  obtain ⟨es, c, es', c', hb, rfl⟩ := h
  exact ⟨fun k hk => heap_setBlock_other hb _ hk, by simp [setBlock], rfl, rfl, rfl⟩
theorem turned_below {w w' : World} {m B : Nat} {a : World} (h : w.mapTurned w' m) (hb : Below B a w) (hm : B ≤ m) : Below B a w' :=
  ⟨(turned_other h).2.2.1.trans hb.os, (turned_other h).2.2.2.1.trans hb.tape, (turned_other h).2.2.2.2.trans hb.output, by rw [← (turned_other h).2.1]; exact hb.size, fun k hk => ((turned_other h).1 k (by omega)).trans (hb.block k hk)⟩
theorem wpList_del_file {w : World} {ops : Array Oper} {rest : List Oper} {o : Oper} {a : Act} {Q : Exit → Act → World → Prop} (hg : o.guard = none) (mo xo : Operand)
    (hop : o.op = Op.call { callee := Callee.builtin Builtin.delete, args := #[mo, xo], argTypes := #[49, 9] }) (m : Nat) (L : List (Txt × Nat)) (n : Txt) (hm : a.eval mo = .map (some m)) (h : MapAt w m L) (hx : a.eval xo = .string (mkS n)) (hn : n.length ≤ 140737488355328)
    (hK : ∀ w', MapAt w' m (L.filter fun p => p.1 != n) → w.mapTurned w' m → wpList Try.prog ops Q rest (a.put o.dst (.tuple #[])) w') : wpList Try.prog ops Q (o :: rest) a w := by
  refine wpList_plain hg fun K' hK' => ?_
  obtain ⟨w', hrun, r1, r2⟩ := h.del hn o.type
  unfold Oper.wp
  simp [execOp, hop, resolve, invoke, builtin, hm, hx, hrun, Result.andThen]
  exact hK' _ _ (hK w' r1 r2)
theorem step_put_file {w : World} {ops : Array Oper} {o : Oper} {a : Act} {K : Act → World → Prop} {Q : Exit → Act → World → Prop} {E : Prop} (hgd : o.guard = none) (mo xo vo : Operand)
    (hop : o.op = Op.mapUpdate 49 mo xo vo) (m : Nat) (L : List (Txt × Nat)) (n : Txt) (ad : Nat) (hm : a.eval mo = .map (some m)) (h : MapAt w m L) (hx : a.eval xo = .string (mkS n)) (hv : a.eval vo = ptrV ad) (hn : n.length ≤ 140737488355328) (hl : L.length ≤ 1000000)
    (hK : ∀ w', MapAt w' m ((n, ad) :: L.filter fun p => p.1 != n) → w.mapTurned w' m → K (a.put o.dst undef) w') :
    if Region.wanted o (yielded ops a.tmps) = true then Oper.wp Try.prog o a w K Q else E := by
  have hw : Region.wanted o (yielded ops a.tmps) = true := by simp [Region.wanted, hgd]
  rw [if_pos hw]
  obtain ⟨w', hrun, r1, r2⟩ := h.put ad hn hl
  unfold Oper.wp
  simp [execOp, hop, hm, hx, hv, hrun, Result.andThen]
  exact hK w' r1 r2
theorem filter_ents (F : List Gd) (n : Txt) : ((F.map Gd.ent).filter fun p => p.1 != n) = (F.filter fun g => g.name != n).map Gd.ent := by
  rw [List.filter_map]
  congr 1
theorem filter_core (F : List Gd) (n : Txt) : ((F.map Gd.core).filter fun f => f.name != n) = (F.filter fun g => g.name != n).map Gd.core := by
  rw [List.filter_map]
  congr 1
theorem chg_code (S : Dk) (l1 l2 : List Fl) : (chgD S l1 l2).1 ≠ 4 := by rw [chgD]; split <;> simp
theorem chg_code6 (S : Dk) (l1 l2 : List Fl) : (chgD S l1 l2).1 ≠ 6 := by rw [chgD]; split <;> simp
/-- A file is struck, in memory. -/
theorem del_at {w w' : World} {B lim b m : Nat} {S : Dk} {F : List Gd} (h : DA w B lim b m S F) (n : Txt) (hm : MapAt w' m ((F.map Gd.ent).filter fun p => p.1 != n)) (ht : w.mapTurned w' m) :
    DA w' B lim b m (putD S (delL S.fs n)) (F.filter fun g => g.name != n) := by
  rw [filter_ents] at hm
  refine h.remap _ _ hm (fun k hk _ => (turned_other ht).1 k hk) (Nat.le_of_eq (turned_other ht).2.1) (fun g' hg' => ⟨g', (List.mem_filter.1 hg').1, rfl, rfl, rfl, rfl⟩) (h.sep.filter _) ?_
  rw [← filter_core]
  exact h.fs.filter _
theorem map_lt {w : World} {B lim b m : Nat} {S : Dk} {F : List Gd} (h : DA w B lim b m S F) {x : Nat} (hx : lim ≤ x) : x ≠ m := by
  have := h.mlt
  omega
set_option maxHeartbeats 1000000 in
theorem remove1_x {w : World} {B lim b m : Nat} {S : Dk} {F : List Gd} (h : DA w B lim b m S F) (n : Txt) (hl : n.length ≤ 140737488355328) (x y : Nat) (cx : w.cell? ⟨x, 0, none⟩ = some (.pointer (some ⟨b, 0, none⟩))) (cy : w.cell? ⟨y, 0, none⟩ = some (.string (mkS n))) :
    Calls Try.prog 36 #[.pointer (some ⟨x, 0, none⟩), .pointer (some ⟨y, 0, none⟩)] w fun e w' => e = .returned (.tuple #[]) ∧ Left B b m (putD S (delL S.fs n)) w w' ∧ ∀ k, k ≠ m → w'.heap[k]? = w.heap[k]? := by
  obtain ⟨-, c1, -, -, -, -⟩ := h.cells
  have HD := Lib.hid h
  have HL := Lib.hid hl
  clear h hl
  go_enter Try.func36, Try.ntmps36
  go_wp2_with fail
  go_still_tail 5, (by kernel_rfl)
  go_wp2_with (at_delete; refine wpList_del_file rfl (.tmp 5) (.tmp 6) rfl m (F.map Gd.ent) n rfl HD.out.drew.map rfl HL.out ?_)
  intro w1 hm1 ht1
  have hd1 := del_at HD.out.drew n hm1 ht1
  have HX := Lib.hid (show Left B b m (putD S (delL S.fs n)) w w1 from ⟨_, hd1.raise hd1.lim (Nat.le_refl _), turned_below ht1 ((Below.refl B w).drew) HD.out.mlow⟩)
  have HO := Lib.hid (fun k (hk : k ≠ m) => ((turned_other ht1).1 k hk : w1.heap[k]? = w.heap[k]?))
  clear hm1 ht1 hd1
  go_wp2_with fail
  go_end0
  exact ⟨rfl, HX.out, HO.out⟩
theorem ent_remove1 : ∀ args w, (callFunc 36 args).run Try.prog w = .ok (.enter 36 args) w := enters_of Try.func36 (by kernel_rfl) rfl
/-- Boxes that a call lays: each in a block of its own. -/
theorem box_one (w : World) (v : Value) (t : TypeId) : (w.alloc (.cells #[v] t)).cell? ⟨w.heap.size, 0, none⟩ = some v := by rw [cellOf (newOf w _)]; rfl
set_option maxHeartbeats 1000000 in
theorem remove_x {w : World} {B lim b m : Nat} {S : Dk} {F : List Gd} (h : DA w B lim b m S F) (n : Txt) (hl : n.length ≤ 140737488355328) (hc : S.chg ≤ 1000000000000) (hu : usedF S.fs ≤ 1000000000) :
    Calls Try.prog 23 #[.pointer (some ⟨b, 0, none⟩), .string (mkS n)] w fun e w' => e = .returned (.int .i64 ((remD S n).1 : Int)) ∧ Left B b m (remD S n).2 w w' ∧ ((remD S n).1 = 4 → Below w.heap.size w w') ∧ ∀ k, lim ≤ k ∧ k < w.heap.size → w'.heap[k]? = w.heap[k]? := by
  have hb0 : Below w.heap.size w ((w.alloc (.cells #[.pointer (some ⟨b, 0, none⟩)] 25)).alloc (.cells #[.string (mkS n)] 9)) := (below_box w _).alloc (by simp) _
  have h0 := h.next hb0
  have HX := Lib.hid (show ((w.alloc (.cells #[.pointer (some ⟨b, 0, none⟩)] 25)).alloc (.cells #[.string (mkS n)] 9)).heap[w.heap.size]? = some (.cells #[.pointer (some ⟨b, 0, none⟩)] 25 (0, 0)) from (heap_alloc_old _ _ (by simp)).trans (newOf w _))
  have HY := Lib.hid (show ((w.alloc (.cells #[.pointer (some ⟨b, 0, none⟩)] 25)).alloc (.cells #[.string (mkS n)] 9)).heap[w.heap.size + 1]? = some (.cells #[.string (mkS n)] 9 (0, 0)) by have := newOf (w.alloc (.cells #[.pointer (some ⟨b, 0, none⟩)] 25)) (.cells #[.string (mkS n)] 9); rwa [show (w.alloc (.cells #[.pointer (some ⟨b, 0, none⟩)] 25)).heap.size = w.heap.size + 1 by simp] at this)
  have HD := Lib.hid h0
  have HB := Lib.hid hb0
  have HL := Lib.hid hl
  have HW := Lib.hid h
  by_cases hf : findE S n = 0
  · obtain ⟨_, hh⟩ := find_zero hf
    obtain ⟨g, R, hp, rfl⟩ := h.has_mem hh
    have HV := Lib.hid (show remD S g.name = chgD S S.fs (delL S.fs g.name) by rw [remD, if_neg (by simp [hf])])
    have HF := Lib.hid (find_yes (h0.perm hp) hl hf)
    have HC := Lib.hid hc
    have HU := Lib.hid hu
    clear hp hl hh hf h hc hu h0 hb0
    go_enter Try.func23, Try.ntmps23
    go_wp2_with fail
    refine HF.out.mono ?_
    rintro e w1 ⟨rfl, hb⟩
    have HD1 := Lib.hid (HD.out.next hb)
    have HB1 := Lib.hid (HD.out.base hb)
    have HQ1 := Lib.hid (below_next HB.out hb)
    have HX1 := Lib.hid ((hb.block _ (ltOf HX.out)).trans HX.out)
    have HY1 := Lib.hid ((hb.block _ (ltOf HY.out)).trans HY.out)
    have cx : w1.cell? ⟨w.heap.size, 0, none⟩ = some (.pointer (some ⟨b, 0, none⟩)) := cellOf HX1.out 0
    have cy : w1.cell? ⟨w.heap.size + 1, 0, none⟩ = some (.string (mkS g.name)) := cellOf HY1.out 0
    clear hb
    go_wp2_with fail
    refine (change_x 30 36 #[] #[] #[] #[.pointer (some ⟨w.heap.size, 0, none⟩), .pointer (some ⟨w.heap.size + 1, 0, none⟩)] ent_nothing ent_remove1 HD1.out HC.out S.fs (delL S.fs g.name) HU.out (fun w2 => DA w2 B lim b m (tickD S) F ∧ Below B w1 w2 ∧ w2.heap[w.heap.size]? = w1.heap[w.heap.size]? ∧ w2.heap[w.heap.size + 1]? = w1.heap[w.heap.size + 1]? ∧ ∀ k, lim ≤ k ∧ k < w.heap.size → w2.heap[k]? = w1.heap[k]?) (fun k => lim ≤ k ∧ k < w.heap.size) ?_ ?_ ?_).mono ?_
    · refine (nothing_x _).mono ?_
      rintro e w2 ⟨rfl, rfl⟩
      have h1 := HW.out.lt
      have h2 := HW.out.lim
      exact ⟨rfl, tick_at HD1.out, (Below.refl B w1).setCell (p := ⟨b, 5, none⟩) HD1.out.low _, set_other _ _ _ _ _ (by omega), set_other _ _ _ _ _ (by omega), fun k hk => set_other _ _ _ _ _ (by omega)⟩
    · rintro w2 ⟨k1, k2, k3, k4, k5⟩
      exact ⟨lim, _, k1, k2, fun k hk => ⟨k5 k hk, by have h1 := HQ1.out.size; have h2 := k2.size; omega, by have := k1.lt; omega, fun x hx => by have := (k1.gs x hx).lt; omega⟩, fun n => ⟨k1.block (fun _ _ _ => rfl) (Nat.le_refl _), below_drewN k2 n, k3, k4, k5⟩⟩
    · rintro w2 ⟨k1, k2, k3, k4, k5⟩
      refine (remove1_x k1 g.name HL.out w.heap.size (w.heap.size + 1) (cellOf (k3.trans HX1.out) 0) (cellOf (k4.trans HY1.out) 0)).mono ?_
      rintro e w3 ⟨rfl, hl3, ho3⟩
      exact ⟨rfl, hl3.next k2, fun k hk => (ho3 k (by have := k1.mlt; omega)).trans (k5 k hk)⟩
    · rintro e w4 ⟨rfl, hl4, hk4⟩
      have HKK := Lib.hid (fun k (hk : lim ≤ k ∧ k < w.heap.size) => ((hk4 k hk).trans (HQ1.out.block k hk.2) : w4.heap[k]? = w.heap[k]?))
      have H4 := Lib.hid ((hl4.next HB1.out).next (HW.out.base HB.out))
      clear hl4 cx cy hk4
      have HN4 := Lib.hid (show (remD S g.name).1 ≠ 4 by rw [HV.out]; exact chg_code _ _ _)
      rw [← HV.out] at H4 ⊢
      go_wp2_with fail
      go_ret
      exact ⟨rfl, H4.out, (fun h => absurd h HN4.out), HKK.out⟩
  · have HV := Lib.hid (show remD S n = (findE S n, S) by rw [remD, if_pos hf])
    have HF := Lib.hid (find_no h0 n hl (findE S n) rfl hf)
    have d1 : ((findE S n : Int) != 0) = true := by rw [bne_iff_ne]; omega
    clear h hl hf hc hu h0 hb0
    generalize findE S n = fe at HF d1 HV
    go_enter Try.func23, Try.ntmps23
    go_wp2_with fail
    refine HF.out.mono ?_
    rintro e w1 ⟨rfl, hb⟩
    have H2 := Lib.hid ((HD.out.left hb).next (HW.out.base HB.out))
    have HBB := Lib.hid (below_next HB.out hb)
    clear hb
    go_wp2_with fail
    go_ret
    exact ⟨by rw [HV.out]; rfl, (by rw [HV.out]; exact H2.out), (fun _ => HBB.out), fun k hk => HBB.out.block k hk.2⟩
end Go.Proofs.Ytdjgjmbgcjhnpaa
