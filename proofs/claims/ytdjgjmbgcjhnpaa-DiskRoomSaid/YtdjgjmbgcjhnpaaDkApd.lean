/-
  The walk of Append.
-/
import Derived.Test.YtdjgjmbgcjhnpaaDkCls
namespace Go.Proofs.Ytdjgjmbgcjhnpaa
set_option maxRecDepth 100000
open Go.RowKit Go.Shelf Go.ChangeMaps Go.MapKept
/-- Behind Append's look-up: its two boxes. -/
structure AY (w wc : World) (Fb Tb : Nat) (fv : Value) (tb : Bool) : Prop where
  file : wc.heap[Fb]? = some (.cells #[fv] 54 (0, 0))
  there : wc.heap[Tb]? = some (.cells #[.bool tb] 4 (0, 0))
  low : w.heap.size ≤ Fb ∧ w.heap.size ≤ Tb
  below : Below w.heap.size w wc
theorem ay_one (w : World) (fv : Value) (tb : Bool) : AY w ((w.alloc (.cells #[fv] 54)).alloc (.cells #[.bool tb] 4)) w.heap.size (w.heap.size + 1) fv tb := by
  have e : (w.alloc (.cells #[fv] 54)).heap.size = w.heap.size + 1 := by simp
  refine ⟨(heap_alloc_old _ _ (by rw [e]; omega)).trans (newOf w _), ?_, ⟨Nat.le_refl _, by omega⟩, ((Below.refl _ w).alloc (Nat.le_refl _) _).alloc (by rw [e]; omega) _⟩
  have := newOf (w.alloc (.cells #[fv] 54)) (.cells #[.bool tb] 4)
  rwa [e] at this
theorem ay_two (w : World) (fv : Value) (tb : Bool) : AY w ((w.alloc (.cells #[.bool tb] 4)).alloc (.cells #[fv] 54)) (w.heap.size + 1) w.heap.size fv tb := by
  have e : (w.alloc (.cells #[.bool tb] 4)).heap.size = w.heap.size + 1 := by simp
  refine ⟨?_, (heap_alloc_old _ _ (by rw [e]; omega)).trans (newOf w _), ⟨by omega, Nat.le_refl _⟩, ((Below.refl _ w).alloc (Nat.le_refl _) _).alloc (by rw [e]; omega) _⟩
  have := newOf (w.alloc (.cells #[.bool tb] 4)) (.cells #[fv] 54)
  rwa [e] at this
theorem AY.drew {w wc : World} {Fb Tb : Nat} {fv : Value} {tb : Bool} (h : AY w wc Fb Tb fv tb) : AY w wc.drew Fb Tb fv tb := ⟨h.file, h.there, h.low, h.below.drew⟩
theorem two_boxes (w : World) :
    ((w.alloc (.cells #[.pointer none] 54)).alloc (.cells #[.bool false] 4)).drew.cell? ⟨w.heap.size, 0, none⟩ = some (.pointer none) ∧
    ((w.alloc (.cells #[.pointer none] 54)).alloc (.cells #[.bool false] 4)).drew.frozen? ⟨w.heap.size, 0, none⟩ = false ∧
    ((w.alloc (.cells #[.pointer none] 54)).alloc (.cells #[.bool false] 4)).drew.cell? ⟨w.heap.size + 1, 0, none⟩ = some (.bool false) ∧
    ((w.alloc (.cells #[.pointer none] 54)).alloc (.cells #[.bool false] 4)).drew.frozen? ⟨w.heap.size + 1, 0, none⟩ = false ∧
    ((w.alloc (.cells #[.bool false] 4)).alloc (.cells #[.pointer none] 54)).drew.cell? ⟨w.heap.size, 0, none⟩ = some (.bool false) ∧
    ((w.alloc (.cells #[.bool false] 4)).alloc (.cells #[.pointer none] 54)).drew.frozen? ⟨w.heap.size, 0, none⟩ = false ∧
    ((w.alloc (.cells #[.bool false] 4)).alloc (.cells #[.pointer none] 54)).drew.cell? ⟨w.heap.size + 1, 0, none⟩ = some (.pointer none) ∧
    ((w.alloc (.cells #[.bool false] 4)).alloc (.cells #[.pointer none] 54)).drew.frozen? ⟨w.heap.size + 1, 0, none⟩ = false := by
  have h1 := ay_one w (.pointer none) false
  have h2 := ay_two w (.pointer none) false
  exact ⟨cellOf h1.file 0, freeOf h1.file 0, cellOf h1.there 0, freeOf h1.there 0, cellOf h2.there 0, freeOf h2.there 0, cellOf h2.file 0, freeOf h2.file 0⟩
theorem look_any {w : World} {B lim b m : Nat} {S : Dk} {F : List Gd} (h : DA w B lim b m S F) (n : Txt) (hn : n.length ≤ 140737488355328) : ∃ fo : Option Addr,
    ((hasF S.fs n = false ∧ fo = none) ∨ (hasF S.fs n = true ∧ ∃ g R, F.Perm (g :: R) ∧ g.name = n ∧ fo = some ⟨g.adr, 0, none⟩)) ∧
    ∀ w', Below w.heap.size w w' → (Instr.lookup 49 (.map (some m)) (.string (mkS n)) true).run Try.prog w' = .ok (.tuple #[.pointer fo, .bool (hasF S.fs n)]) w' := by
  cases hh : hasF S.fs n
  · exact ⟨_, .inl ⟨rfl, rfl⟩, fun w' hb => (h.next hb).map.look_no (by intro p hp; obtain ⟨g, hg, rfl⟩ := List.mem_map.1 hp; exact h.has_none hh g hg) hn⟩
  · obtain ⟨g, R, hp, rfl⟩ := h.has_mem hh
    exact ⟨_, .inr ⟨rfl, g, R, hp, rfl, rfl⟩, fun w' hb => (h.next hb).map.look_yes (hp.symm.map Gd.ent |>.mem_iff.1 (by simp [Gd.ent])) hn⟩
theorem used_map (l : List Fl) (hu : uniq l) (n s : Txt) : usedF (l.map (fun f => if f.name == n then (⟨f.name, f.byt ++ s, f.syn⟩ : Fl) else f)) = usedF l + if hasF l n then s.length else 0 := by
  induction l with
  | nil => rfl
  | cons a r ih =>
    rw [uniq, List.map_cons, List.nodup_cons] at hu
    rw [List.map_cons, used_cons, used_cons, ih hu.2]
    by_cases hn : a.name = n
    · have h1 : hasF r n = false := by
        rw [hasF, List.any_eq_false]
        intro x hx e
        exact hu.1 (by rw [hn, ← beq_iff_eq.1 e]; exact List.mem_map_of_mem (f := fun f => f.name) hx)
      have h2 : hasF (a :: r) n = true := by simp [hasF, hn]
      rw [h1, h2]
      simp [hn]
      omega
    · have h2 : hasF (a :: r) n = hasF r n := by simp [hasF, hn]
      rw [h2]
      simp [hn]
      omega
theorem used_add {l : List Fl} (hu : uniq l) (n s : Txt) : usedF (addL l n s) = usedF l + s.length := by
  rw [addL]
  cases hh : hasF l n
  · rw [if_neg (by simp), used_cons]; simp; omega
  · rw [if_pos rfl, used_map l hu n s, hh]; rfl
theorem used_add_le {l : List Fl} (hu : uniq l) (n s : Txt) {k : Nat} (h : usedF l + s.length ≤ k) : usedF (addL l n s) ≤ k := by rw [used_add hu]; exact h
theorem ax_of {w w1 wc w3 : World} {b Fb Tb : Nat} {fv : Value} {tb : Bool} {n s : Txt} (h : AY w1 wc Fb Tb fv tb) (hx : wc.heap[w.heap.size]? = some (.cells #[.pointer (some ⟨b, 0, none⟩)] 25 (0, 0))) (hy : wc.heap[w.heap.size + 1]? = some (.cells #[.string (mkS n)] 9 (0, 0))) (hz : wc.heap[w.heap.size + 1 + 1]? = some (.cells #[.string (mkS s)] 9 (0, 0))) (hs : w.heap.size ≤ w1.heap.size) (hb : Below wc.heap.size wc w3) :
    AX w3 w.heap.size b tb fv n s Tb Fb w.heap.size (w.heap.size + 1) (w.heap.size + 1 + 1) ∧ (Fb ≠ Tb ∧ Fb ≠ w.heap.size ∧ Fb ≠ w.heap.size + 1 ∧ Fb ≠ w.heap.size + 1 + 1) := by
  refine ⟨⟨(hb.block _ (ltOf h.there)).trans h.there, (hb.block _ (ltOf h.file)).trans h.file, (hb.block _ (ltOf hx)).trans hx, (hb.block _ (ltOf hy)).trans hy, (hb.block _ (ltOf hz)).trans hz, by have := h.low; omega⟩, ?_, ?_, ?_, ?_⟩
  · intro e
    have := h.file
    rw [e, h.there] at this
    simp at this
  · intro e
    have := h.file
    rw [e, hx] at this
    simp at this
  · intro e
    have := h.file
    rw [e, hy] at this
    simp at this
  · intro e
    have := h.file
    rw [e, hz] at this
    simp at this
theorem AX.lower {w : World} {lim lim' b : Nat} {th : Bool} {fv : Value} {n s : Txt} {t f x y z : Nat} (h : AX w lim b th fv n s t f x y z) (hl : lim' ≤ lim) : AX w lim' b th fv n s t f x y z :=
  ⟨h.there, h.file, h.disk, h.name, h.text, by have := h.low; omega⟩
theorem ent_append1 : ∀ args w, (callFunc 28 args).run Try.prog w = .ok (.enter 28 args) w := enters_of Try.func28 (by kernel_rfl) rfl
set_option maxHeartbeats 4000000 in
theorem append_x {w : World} {B lim b m : Nat} {S : Dk} {F : List Gd} (h : DA w B lim b m S F) (n s : Txt) (hl : n.length ≤ 1000000000000) (hs : s.length ≤ 1000000000) (hc : S.chg ≤ 1000000000000) (hr0 : S.room ≤ 1048576) (hu : usedF S.fs ≤ S.room) (hF : S.fs.length ≤ 1000000) :
    Calls Try.prog 16 #[.pointer (some ⟨b, 0, none⟩), .string (mkS n), .string (mkS s)] w fun e w' => e = .returned (.int .i64 ((appD S n s).1 : Int)) ∧ Left B b m (appD S n s).2 w w' ∧ (∀ k, lim ≤ k ∧ k < w.heap.size → w'.heap[k]? = w.heap[k]?) ∧ ((appD S n s).1 = 6 → Below w.heap.size w w') := by
  obtain ⟨hX, hY, hZ, hb0, hs0⟩ := boxes3 w (.pointer (some ⟨b, 0, none⟩)) (.string (mkS n)) (.string (mkS s)) 25 9 9
  have h0 := h.next hb0
  have HX := Lib.hid hX
  have HY := Lib.hid hY
  have HZ := Lib.hid hZ
  have HD := Lib.hid h0
  have HB := Lib.hid hb0
  have HL := Lib.hid hl
  have HSl := Lib.hid hs
  have HW := Lib.hid h
  have HR := Lib.hid (ready_x h0 n (by omega))
  have HC := Lib.hid hc
  have HU := Lib.hid hu
  have HR0 := Lib.hid hr0
  have HFL := Lib.hid hF
  clear hX hY hZ h0 hb0 hl h hc hu hF hs0 hr0 hs
  by_cases hr : readyE S n = 0
  · have HV := Lib.hid (show appD S n s = if fullB S n s then (6, S) else chgD S (addL S.fs n s) (addL S.fs n s) by rw [appD, if_neg (by simp [hr])])
    rw [hr] at HR
    clear hr
    go_enter Try.func16, Try.ntmps16
    go_wp2_with fail
    refine HR.out.mono ?_
    rintro e w1 ⟨rfl, hb⟩
    have HD1 := Lib.hid (HD.out.next hb)
    have HB1 := Lib.hid (below_next HB.out hb)
    have HX1 := Lib.hid ((hb.block _ (ltOf HX.out)).trans HX.out)
    have HY1 := Lib.hid ((hb.block _ (ltOf HY.out)).trans HY.out)
    have HZ1 := Lib.hid ((hb.block _ (ltOf HZ.out)).trans HZ.out)
    obtain ⟨fo, hfv, hlk⟩ := look_any HD1.out n (by have := HL.out; omega)
    have HFV := Lib.hid hfv
    have HK : Hid (∀ w2, Below w1.heap.size w1 w2 → w2.cell? ⟨w.heap.size, 0, none⟩ = some (.pointer (some ⟨b, 0, none⟩)) ∧ w2.cell? ⟨b, 1, none⟩ = some (.map (some m)) ∧ w2.cell? ⟨w.heap.size + 1, 0, none⟩ = some (.string (mkS n)) ∧ (Instr.lookup 49 (.map (some m)) (.string (mkS n)) true).run Try.prog w2 = .ok (.tuple #[.pointer fo, .bool (hasF S.fs n)]) w2) :=
      Lib.hid fun w2 hb2 => ⟨cellOf ((hb2.block _ (ltOf HX1.out)).trans HX1.out) 0, (HD1.out.next hb2).cells.2.1, cellOf ((hb2.block _ (ltOf HY1.out)).trans HY1.out) 0, hlk w2 hb2⟩
    have HT := Lib.hid (HK.out _ (Below.refl _ w1).drew)
    have HHd := Lib.hid (rfl : hasF S.fs n = hasF S.fs n)
    clear hb hfv hlk
    obtain ⟨tb, htb⟩ : ∃ tb, hasF S.fs n = tb := ⟨_, rfl⟩
    have HTB := Lib.hid htb
    rw [htb] at HK HT
    clear htb HHd
    go_wp2_with fail
    go_cut [8, 9] from 17 (fun u v wc => ∃ Fb Tb, u = .pointer (some ⟨Fb, 0, none⟩) ∧ v = .pointer (some ⟨Tb, 0, none⟩) ∧ Hid (AY w1 wc Fb Tb (.pointer fo) tb))
    case first =>
      obtain ⟨a1, a2, a3, a4, a5, a6, a7, a8⟩ := two_boxes w1
      go_region_held3 (fun wr => wr.cell? ⟨w.heap.size, 0, none⟩ = some (.pointer (some ⟨b, 0, none⟩)) ∧ wr.cell? ⟨b, 1, none⟩ = some (.map (some m)) ∧ wr.cell? ⟨w.heap.size + 1, 0, none⟩ = some (.string (mkS n)) ∧ (Instr.lookup 49 (.map (some m)) (.string (mkS n)) true).run Try.prog wr = .ok (.tuple #[.pointer fo, .bool tb]) wr)
        (first | (with_reducible exact ⟨by assumption, by assumption, by assumption, by assumption⟩) | exact HT.out | (refine HK.out _ ?_; repeat (first | exact Below.refl _ _ | refine Below.drew ?_ | refine Below.alloc ?_ (by simp) _ | refine Below.setCell ?_ (by simp) _)))
        (fail)
      all_goals
        clear a1 a2 a3 a4 a5 a6 a7 a8
        go_wp2_with fail
        go_meet
        case rel => first | exact ⟨_, _, rfl, rfl, Lib.hid (ay_one w1 _ _).drew⟩ | exact ⟨_, _, rfl, rfl, Lib.hid (ay_two w1 _ _).drew⟩
    case rest =>
      obtain ⟨Fb, Tb, rfl, rfl, HAY⟩ := hcut
      clear HT HK HR
      have HD2 := Lib.hid (HD1.out.next HAY.out.below)
      have HX2 := Lib.hid ((HAY.out.below.block _ (ltOf HX1.out)).trans HX1.out)
      have HY2 := Lib.hid ((HAY.out.below.block _ (ltOf HY1.out)).trans HY1.out)
      have HZ2 := Lib.hid ((HAY.out.below.block _ (ltOf HZ1.out)).trans HZ1.out)
      have HB2 := Lib.hid (below_next HB1.out HAY.out.below)
      obtain ⟨Y, G, y0, hy0, hG1, hG2⟩ := cls wc
      have hne : Nonempty Y := ⟨y0⟩
      have HG1 := Lib.hid hG1
      have HG2 := Lib.hid hG2
      have HBx := Lib.hid (fun y k i u (h : wc.cell? ⟨k, i, none⟩ = some u) => ((hG1 y).cell (p := ⟨k, i, none⟩) (World.block_lt_of_cell? wc _ h)).trans h)
      have c1 : ∀ y, (G y).cell? ⟨w.heap.size + 1 + 1, 0, none⟩ = some (.string (mkS s)) := fun y => HBx.out y _ _ _ (cellOf HZ2.out 0)
      have c2 : ∀ y, (G y).cell? ⟨w.heap.size, 0, none⟩ = some (.pointer (some ⟨b, 0, none⟩)) := fun y => HBx.out y _ _ _ (cellOf HX2.out 0)
      have c3 : ∀ y, (G y).cell? ⟨b, 0, none⟩ = some (.int .i64 (S.room : Int)) := fun y => HBx.out y _ _ _ HD2.out.cells.1
      have c4 : ∀ y, (G y).cell? ⟨b, 1, none⟩ = some (.map (some m)) := fun y => HBx.out y _ _ _ HD2.out.cells.2.1
      have c5 : ∀ y, (G y).cell? ⟨Tb, 0, none⟩ = some (.bool tb) := fun y => HBx.out y _ _ _ (cellOf HAY.out.there 0)
      have hlen : F.length = S.fs.length := by have := HW.out.fs.length_eq; rwa [List.length_map] at this
      have c6 : ∀ y ty, (Builtin.len_ #[49] ty #[.map (some m)]).run Try.prog (G y) = .ok (.int .i64 (S.fs.length : Int)) (G y) := fun y ty => by
        have := (HD2.out.next (hG1 y)).map.len ty
        rwa [List.length_map, hlen] at this
      have hms := mkS_size s
      have HUs := Lib.hid (in_cls hG1 hG2 (fun w' hb => used_x (HD2.out.next hb) (by have := HU.out; have := HR0.out; omega)))
      have HFU := Lib.hid (show fullB S n s = (decide (S.room < usedF S.fs + s.length) || (!hasF S.fs n && decide (S.fs.length = 128))) from rfl)
      have hub := HU.out
      have hrb := HR0.out
      rw [HTB.out] at HFU
      have HUQ := Lib.hid (show usedF S.fs + s.length ≤ S.room → usedF (addL S.fs n s) ≤ 1000000000 from fun hq => used_add_le HW.out.uniq n s (by omega))
      generalize hqu : usedF S.fs = u at HUs HFU hub HUQ
      generalize hql : S.fs.length = L at c6 HFU
      have hwr : IntKind.i64.wrap ((S.room : Int) - (u : Int)) = (S.room : Int) - (u : Int) := IntWalk.i64_in _ (by omega)
      clear hG1 hG2 hlen
      by_cases hq : S.room < u + s.length
      · have d1 : decide ((S.room : Int) - (u : Int) < (s.length : Int)) = true := decide_eq_true (by omega)
        have HV2 := Lib.hid (show appD S n s = (6, S) by rw [HV.out, if_pos (by rw [HFU.out, decide_eq_true hq]; rfl)])
        clear hq
        go_wp2_with fail
        refine region_in (by kernel_rfl) (by kernel_rfl) G y0 hy0 ?_
        repeat (go_big_quiet_step ((go_at_call 17; exact HUs.out _)))
        refine wpQuiet_nil ?_
        rintro _ ⟨y, rfl⟩
        have H2 := Lib.hid ((HD2.out.left (HG1.out y)).next (HW.out.base HB2.out))
        have HBB := Lib.hid (below_next HB2.out (HG1.out y))
        clear c1 c2 c3 c4 c5 c6 hy0
        go_wp2_with fail
        go_ret
        exact ⟨by rw [HV2.out]; rfl, (by rw [HV2.out]; exact H2.out), fun k hk => HBB.out.block k hk.2, fun _ => HBB.out⟩
      · have d1 : decide ((S.room : Int) - (u : Int) < (s.length : Int)) = false := decide_eq_false (by omega)
        rcases HFV.out with ⟨hh1, rfl⟩ | ⟨hh2, g, R, hp, rfl, rfl⟩
        · have htb := HTB.out
          rw [hh1] at htb
          subst htb
          by_cases hq8 : L = 128
          · have d2 : ((L : Int) == 128) = true := by rw [beq_iff_eq]; omega
            have HV2 := Lib.hid (show appD S n s = (6, S) by rw [HV.out, if_pos (by rw [HFU.out, decide_eq_true hq8, Bool.not_false, Bool.true_and, Bool.or_true])])
            clear hq hq8
            go_wp2_with fail
            refine region_in (by kernel_rfl) (by kernel_rfl) G y0 hy0 ?_
            repeat (go_big_quiet_step ((go_at_call 17; exact HUs.out _)))
            refine wpQuiet_nil ?_
            rintro _ ⟨y, rfl⟩
            have H2 := Lib.hid ((HD2.out.left (HG1.out y)).next (HW.out.base HB2.out))
            have HBB := Lib.hid (below_next HB2.out (HG1.out y))
            clear c1 c2 c3 c4 c5 c6 hy0
            go_wp2_with fail
            go_ret
            exact ⟨by rw [HV2.out]; rfl, (by rw [HV2.out]; exact H2.out), fun k hk => HBB.out.block k hk.2, fun _ => HBB.out⟩
          · have d2 : ((L : Int) == 128) = false := by rw [beq_eq_false_iff_ne]; omega
            have HV2 := Lib.hid (show appD S n s = chgD S (addL S.fs n s) (addL S.fs n s) by rw [HV.out, if_neg (by rw [HFU.out, decide_eq_false hq8, decide_eq_false hq]; simp)])
            go_wp2_with fail
            refine region_in (by kernel_rfl) (by kernel_rfl) G y0 hy0 ?_
            repeat (go_big_quiet_step ((go_at_call 17; exact HUs.out _)))
            refine wpQuiet_nil ?_
            rintro _ ⟨y, rfl⟩
            have HD3 := Lib.hid (HD2.out.next (HG1.out y))
            have HAX := Lib.hid (ax_of HAY.out HX2.out HY2.out HZ2.out (HB1.out.size) (HG1.out y))
            have cx := c2 y
            have HB3 := Lib.hid (below_next HB2.out (HG1.out y))
            clear c1 c2 c3 c4 c5 c6 hy0 d1
            obtain ⟨w3, hw3⟩ : ∃ w3, G y = w3 := ⟨_, rfl⟩
            rw [hw3] at HD3 HAX cx HB3
            go_wp2_with fail
            refine (change_x 28 30 #[] #[] #[.pointer (some ⟨Tb, 0, none⟩), .pointer (some ⟨Fb, 0, none⟩), .pointer (some ⟨w.heap.size, 0, none⟩), .pointer (some ⟨w.heap.size + 1, 0, none⟩), .pointer (some ⟨w.heap.size + 1 + 1, 0, none⟩)] #[] ent_append1 ent_nothing HD3.out HC.out (addL S.fs n s) (addL S.fs n s) (HUQ.out (by omega)) (fun w4 => LeftK (fun k => lim ≤ k ∧ k < w.heap.size) B b m (putD (tickD S) (addL S.fs n s)) w3 w4) (fun k => lim ≤ k ∧ k < w.heap.size) ?_ ?_ ?_).mono ?_
            · have HXX := Lib.hid (HAX.out.1.kept (w' := w3.setCell ⟨b, 5, none⟩ (.int .i64 ((S.chg : Int) + 1))) (fun k hk _ => set_other _ _ _ _ _ (by have := HW.out.lt; have := HW.out.lim; omega)))
              refine (append1_no (tick_at HD3.out) n s hh1 Tb Fb w.heap.size (w.heap.size + 1) (w.heap.size + 1 + 1) (HXX.out.lower HW.out.lim) HAX.out.2 HSl.out HL.out (by have h4 := HFL.out; have h5 := HW.out.fs.length_eq; rw [List.length_map] at h5; omega) (fun k => lim ≤ k ∧ k < w.heap.size) (fun k hk => ⟨hk.1, by rw [World.size_setCell]; have := HB3.out.size; omega, by have h1 := HAY.out.low.1; have h2 := HB1.out.size; omega⟩)).mono ?_
              rintro e w4 ⟨rfl, hl4⟩
              have h5 := hl4.next ((Below.refl B w3).setCell (p := ⟨b, 5, none⟩) HD3.out.low _) (fun k hk => set_other _ _ _ _ _ (by have := HD3.out.lt; omega))
              refine ⟨rfl, ?_⟩
              have he : addL S.fs n s = ⟨n, s, 0⟩ :: (tickD S).fs := by rw [addL, if_neg (by rw [hh1]; simp)]; rfl
              rw [he]
              exact h5
            · rintro w4 ⟨F4, k1, k2, k3⟩
              exact ⟨_, F4, k1, k2, k3, fun n => ⟨F4, k1.block (fun _ _ _ => rfl) (Nat.le_refl _), below_drewN k2 n, k3⟩⟩
            · rintro w4 hl4
              refine (nothing_x w4).mono ?_
              rintro e w5 ⟨rfl, rfl⟩
              obtain ⟨F5, k1, k2, k3⟩ := hl4
              exact ⟨rfl, ⟨F5, k1, k2⟩, fun k hk => (k3 k hk).1⟩
            · rintro e w4 ⟨rfl, hl4, hk4⟩
              have H4 := Lib.hid (hl4.next (HW.out.base HB3.out))
              have HKK := Lib.hid (fun k (hk : lim ≤ k ∧ k < w.heap.size) => ((hk4 k hk).trans (HB3.out.block k hk.2) : w4.heap[k]? = w.heap[k]?))
              clear hl4 cx hk4
              have HN6 := Lib.hid (show ((chgD S (addL S.fs n s) (addL S.fs n s)).1 : Nat) ≠ 6 from chg_code6 _ _ _)
              rw [← HV2.out] at H4 HN6 ⊢
              go_wp2_with fail
              go_ret
              exact ⟨rfl, H4.out, HKK.out, fun h => absurd h HN6.out⟩

        · have htb := HTB.out
          rw [hh2] at htb
          subst htb
          have HV2 := Lib.hid (show appD S g.name s = chgD S (addL S.fs g.name s) (addL S.fs g.name s) by rw [HV.out, if_neg (by rw [HFU.out, decide_eq_false hq]; simp)])
          go_wp2_with fail
          refine region_in (by kernel_rfl) (by kernel_rfl) G y0 hy0 ?_
          repeat (go_big_quiet_step ((go_at_call 17; exact HUs.out _)))
          refine wpQuiet_nil ?_
          rintro _ ⟨y, rfl⟩
          have HD3 := Lib.hid (HD2.out.next (HG1.out y))
          have HAX := Lib.hid (ax_of HAY.out HX2.out HY2.out HZ2.out (HB1.out.size) (HG1.out y))
          have cx := c2 y
          have HB3 := Lib.hid (below_next HB2.out (HG1.out y))
          clear c1 c2 c3 c4 c5 c6 hy0 d1
          obtain ⟨w3, hw3⟩ : ∃ w3, G y = w3 := ⟨_, rfl⟩
          rw [hw3] at HD3 HAX cx HB3
          go_wp2_with fail
          refine (change_x 28 30 #[] #[] #[.pointer (some ⟨Tb, 0, none⟩), .pointer (some ⟨Fb, 0, none⟩), .pointer (some ⟨w.heap.size, 0, none⟩), .pointer (some ⟨w.heap.size + 1, 0, none⟩), .pointer (some ⟨w.heap.size + 1 + 1, 0, none⟩)] #[] ent_append1 ent_nothing HD3.out HC.out (addL S.fs g.name s) (addL S.fs g.name s) (HUQ.out (by omega)) (fun w4 => LeftK (fun k => lim ≤ k ∧ k < w.heap.size) B b m (putD (tickD S) (addL S.fs g.name s)) w3 w4) (fun k => lim ≤ k ∧ k < w.heap.size) ?_ ?_ ?_).mono ?_
          · have HXX := Lib.hid (HAX.out.1.kept (w' := w3.setCell ⟨b, 5, none⟩ (.int .i64 ((S.chg : Int) + 1))) (fun k hk _ => set_other _ _ _ _ _ (by have := HW.out.lt; have := HW.out.lim; omega)))
            refine (append1_yes (tick_at (HD3.out.perm hp)) g.name s Tb Fb w.heap.size (w.heap.size + 1) (w.heap.size + 1 + 1) (HXX.out.lower HW.out.lim) (by have := HW.out.len_le (hp.mem_iff.2 (by simp : g ∈ g :: R)); have := HSl.out; omega) (fun k => lim ≤ k ∧ k < w.heap.size) (fun k hk => ⟨hk.1, by rw [World.size_setCell]; have := HB3.out.size; omega⟩)).mono ?_
            rintro e w4 ⟨rfl, hl4⟩
            have h5 := hl4.next ((Below.refl B w3).setCell (p := ⟨b, 5, none⟩) HD3.out.low _) (fun k hk => set_other _ _ _ _ _ (by have := HD3.out.lt; omega))
            refine ⟨rfl, ?_⟩
            have he : addL S.fs g.name s = (tickD S).fs.map (fun f => if f.name == g.name then ⟨f.name, f.byt ++ s, f.syn⟩ else f) := by rw [addL, if_pos hh2]; rfl
            rw [he]
            exact h5
          · rintro w4 ⟨F4, k1, k2, k3⟩
            exact ⟨_, F4, k1, k2, k3, fun n => ⟨F4, k1.block (fun _ _ _ => rfl) (Nat.le_refl _), below_drewN k2 n, k3⟩⟩
          · rintro w4 hl4
            refine (nothing_x w4).mono ?_
            rintro e w5 ⟨rfl, rfl⟩
            obtain ⟨F5, k1, k2, k3⟩ := hl4
            exact ⟨rfl, ⟨F5, k1, k2⟩, fun k hk => (k3 k hk).1⟩
          · rintro e w4 ⟨rfl, hl4, hk4⟩
            have H4 := Lib.hid (hl4.next (HW.out.base HB3.out))
            have HKK := Lib.hid (fun k (hk : lim ≤ k ∧ k < w.heap.size) => ((hk4 k hk).trans (HB3.out.block k hk.2) : w4.heap[k]? = w.heap[k]?))
            clear hl4 cx hk4
            have HN6 := Lib.hid (show ((chgD S (addL S.fs g.name s) (addL S.fs g.name s)).1 : Nat) ≠ 6 from chg_code6 _ _ _)
            rw [← HV2.out] at H4 HN6 ⊢
            go_wp2_with fail
            go_ret
            exact ⟨rfl, H4.out, HKK.out, fun h => absurd h HN6.out⟩
  · have HV := Lib.hid (show appD S n s = (readyE S n, S) by rw [appD, if_pos hr])
    have d1 : ((readyE S n : Int) != 0) = true := by rw [bne_iff_ne]; omega
    generalize readyE S n = fe at HR d1 HV
    clear hr
    go_enter Try.func16, Try.ntmps16
    go_wp2_with fail
    refine HR.out.mono ?_
    rintro e w1 ⟨rfl, hb⟩
    have H2 := Lib.hid ((HD.out.left hb).next (HW.out.base HB.out))
    have HBB := Lib.hid (below_next HB.out hb)
    clear hb
    go_wp2_with fail
    go_ret
    exact ⟨by rw [HV.out]; rfl, (by rw [HV.out]; exact H2.out), fun k hk => HBB.out.block k hk.2, fun _ => HBB.out⟩
end Go.Proofs.Ytdjgjmbgcjhnpaa
