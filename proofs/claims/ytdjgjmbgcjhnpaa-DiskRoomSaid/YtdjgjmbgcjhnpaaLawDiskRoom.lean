/-
  The walk of DiskRoom.
-/
import Derived.Test.YtdjgjmbgcjhnpaaDkHold
import Derived.Deep.RegionHeld3
namespace Go.Proofs.Ytdjgjmbgcjhnpaa
set_option maxRecDepth 100000
open Go.RowKit
/-- How far DiskRoom is. -/
structure RI (B b m r : Nat) (S : Dk) (k : Nat) (w wr : World) : Prop where
  live : Live B b m S wr
  inv : Inv S k
  room : S.room = r
  below : Below w.heap.size w wr
  base : w.heap.size ≤ B
/-- An act's box. -/
def acB (w : World) (x : Nat) (c : Ac) : Prop := w.heap[x]? = some (.cells (acV c) 33 (0, 0))
theorem do_room (S : Dk) (c : Ac) : (doD S c).2.room = S.room := by
  have key : ∀ l1 l2, (chgD S l1 l2).2.room = S.room := fun l1 l2 => by rw [chgD]; split <;> rfl
  rw [doD]
  repeat' split
  · rw [appD]; repeat' split
    all_goals first | rfl | exact key _ _
  · rw [synD]; split
    all_goals first | rfl | exact key _ _
  · rw [renD]; repeat' split
    all_goals first | rfl | exact key _ _
  · rw [remD]; split
    all_goals first | rfl | exact key _ _
  · rfl
  · rw [crashD]; split <;> rfl
  · rfl
  · rfl
/-- The disk with an act's box beside it, the box younger than all that is the disk's. -/
structure RJ (B b m X : Nat) (S : Dk) (c : Ac) (w wr : World) : Prop where
  da : ∃ F, DA wr B X b m S F
  box : acB wr X c
  below : Below w.heap.size w wr
  base : w.heap.size ≤ B
/-- The same behind what the act did. -/
structure RK (B b m X : Nat) (S : Dk) (c : Ac) (w wr : World) : Prop where
  live : Live B b m S wr
  box : acB wr X c
  below : Below w.heap.size w wr
  base : w.heap.size ≤ B
theorem RJ.live {B b m X : Nat} {S : Dk} {c : Ac} {w wr : World} (h : RJ B b m X S c w wr) : Live B b m S wr := by
  obtain ⟨F, hd⟩ := h.da
  exact ⟨F, hd.raise hd.lim (Nat.le_refl _)⟩
theorem RJ.next {B b m X : Nat} {S : Dk} {c : Ac} {w wr w' : World} (h : RJ B b m X S c w wr) (hb : Below wr.heap.size wr w') : RJ B b m X S c w w' := by
  obtain ⟨F, hd⟩ := h.da
  exact ⟨⟨F, hd.next hb⟩, (hb.block _ (ltOf h.box)).trans h.box, below_next h.below hb, h.base⟩
theorem RK.next {B b m X : Nat} {S : Dk} {c : Ac} {w wr w' : World} (h : RK B b m X S c w wr) (hb : Below wr.heap.size wr w') : RK B b m X S c w w' :=
  ⟨h.live.next hb, (hb.block _ (ltOf h.box)).trans h.box, below_next h.below hb, h.base⟩
theorem RK.drew {B b m X : Nat} {S : Dk} {c : Ac} {w wr : World} (h : RK B b m X S c w wr) : RK B b m X S c w wr.drew := h.next (Below.refl _ _).drew
theorem rj_start {B b m r : Nat} {S : Dk} {k : Nat} {w wr : World} (h : RI B b m r S k w wr) (c : Ac) : RJ B b m wr.heap.size S c w (wr.alloc (.cells (acV c) 33)) := by
  obtain ⟨F, hd⟩ := h.live
  exact ⟨⟨F, hd.next (below_box wr _)⟩, newOf wr _, below_next h.below (below_box wr _), h.base⟩
theorem does_k {B b m X : Nat} {S S' : Dk} {c : Ac} {w wr : World} (h : RJ B b m X S c w wr) {k : Nat} (hi : Inv S k) (hk : k ≤ 1000000) (hn : c.name.length ≤ 100) (hs : c.s.length ≤ 2000) {ec : Nat} {ev : Int} (hdo : doD S c = (ec, S')) (he : (ec : Int) = ev) :
    Calls Try.prog 11 #[.pointer (some ⟨b, 0, none⟩), .agg (acV c)] wr fun e w' => e = .returned (.int .i64 ev) ∧ RK B b m X S' c w w' := by
  obtain ⟨F, hd⟩ := h.da
  have hd2 := does_h hd hi hk c (by omega) (by omega)
  rw [hdo, he] at hd2
  exact hd2.mono fun e w' ⟨h1, h2, h3, h4⟩ => ⟨h1, h2, (h4 X ⟨Nat.le_refl _, ltOf h.box⟩).trans h.box, h.below.trans (h3.mono h.base), h.base⟩
theorem rj_used {B b m X : Nat} {S : Dk} {c : Ac} {w wr : World} (h : RJ B b m X S c w wr) {k : Nat} (hi : Inv S k) {v : Int} (hv : (usedF S.fs : Int) = v) : Calls Try.prog 17 #[.pointer (some ⟨b, 0, none⟩)] wr fun e w' => e = .returned (.int .i64 v) ∧ RJ B b m X S c w w' := by
  rw [← hv]
  exact (used_l h.live hi).mono fun _ _ ⟨h1, h2⟩ => ⟨h1, h.next h2⟩
theorem rk_used {B b m X : Nat} {S : Dk} {c : Ac} {w wr : World} (h : RK B b m X S c w wr) {k : Nat} (hi : Inv S k) {v : Int} (hv : (usedF S.fs : Int) = v) : Calls Try.prog 17 #[.pointer (some ⟨b, 0, none⟩)] wr fun e w' => e = .returned (.int .i64 v) ∧ RK B b m X S c w w' := by
  rw [← hv]
  exact (used_l h.live hi).mono fun _ _ ⟨h1, h2⟩ => ⟨h1, h.next h2⟩
theorem len_listed {w w' : World} {S : Dk} {e : Ending} {n : Nat} (h : Listed w S e w') (hn : S.fs.length = n) : ∃ A p, e = .returned (.slice A n p) ∧ Below w.heap.size w w' := by
  obtain ⟨u, ts, rfl, hrow, hperm, hb⟩ := h
  obtain ⟨A, p, rfl⟩ := own_slice hrow
  have hl : ts.length = n := by have := hperm.length_eq; rw [List.length_map] at this; omega
  rw [hl]
  exact ⟨A, p, rfl, hb⟩
theorem rj_list {B b m X : Nat} {S : Dk} {c : Ac} {w wr : World} (h : RJ B b m X S c w wr) {k : Nat} (hi : Inv S k) {n : Nat} (hn : S.fs.length = n) : Calls Try.prog 15 #[.pointer (some ⟨b, 0, none⟩)] wr fun e w' => ∃ A p, e = .returned (.slice A n p) ∧ RJ B b m X S c w w' :=
  (list_l h.live hi).mono fun _ _ hl => by obtain ⟨A, p, h1, h2⟩ := len_listed hl hn; exact ⟨A, p, h1, h.next h2⟩
theorem rk_list {B b m X : Nat} {S : Dk} {c : Ac} {w wr : World} (h : RK B b m X S c w wr) {k : Nat} (hi : Inv S k) {n : Nat} (hn : S.fs.length = n) : Calls Try.prog 15 #[.pointer (some ⟨b, 0, none⟩)] wr fun e w' => ∃ A p, e = .returned (.slice A n p) ∧ RK B b m X S c w w' :=
  (list_l h.live hi).mono fun _ _ hl => by obtain ⟨A, p, h1, h2⟩ := len_listed hl hn; exact ⟨A, p, h1, h.next h2⟩
theorem rj_read {B b m X : Nat} {S : Dk} {c : Ac} {w wr : World} (h : RJ B b m X S c w wr) (hn : c.name.length ≤ 100) {old : Txt} (ho : readD S c.name = old) : Calls Try.prog 18 #[.pointer (some ⟨b, 0, none⟩), .string (mkS c.name)] wr fun e w' => ∃ g : Nat, e = .returned (.tuple #[.string (mkS old), .int .i64 (g : Int)]) ∧ RJ B b m X S c w w' := by
  rw [← ho]
  exact (read_l h.live c.name (by omega)).mono fun _ _ ⟨h1, h2⟩ => ⟨_, h1, h.next h2⟩
theorem rk_cls {B b m X : Nat} {S : Dk} {c : Ac} {w wr : World} (h : RK B b m X S c w wr) : ∃ (Y : Type) (G : Y → World) (y0 : Y), G y0 = wr.drew ∧ (∀ y, RK B b m X S c w (G y)) ∧ (∀ w', RK B b m X S c w w' → ∃ y, w' = G y) :=
  ⟨{w' // RK B b m X S c w w'}, Subtype.val, ⟨wr.drew, h.drew⟩, rfl, fun y => y.2, fun w' h => ⟨⟨w', h⟩, rfl⟩⟩
theorem RK.to {B b m r X : Nat} {S : Dk} {c : Ac} {k : Nat} {w wr : World} (h : RK B b m X S c w wr) (hi : Inv S k) (hr : S.room = r) : RI B b m r S k w wr := ⟨h.live, hi, hr, h.below, h.base⟩
theorem read_le {S : Dk} (n : Txt) (hu : uniq S.fs) : (readD S n).length ≤ usedF S.fs := by
  rw [readD]
  split
  · exact Nat.zero_le _
  · rename_i hf
    have := (del_one hu (find_zero (Classical.not_not.1 hf)).2).1
    show (bytF S.fs n).length ≤ _
    omega
/-- What an act that is done leaves, in numbers. -/
structure VA (S' : Dk) (c : Ac) (u n : Nat) (old : Txt) : Prop where
  app : c.kind = 0 → (usedF S'.fs : Int) = (u : Int) + (c.s.length : Int)
  syn : c.kind = 1 → (usedF S'.fs : Int) = (u : Int)
  rem : c.kind = 3 → (usedF S'.fs : Int) = (u : Int) - (old.length : Int) ∧ S'.fs.length + 1 = n
set_option maxHeartbeats 8000000 in
theorem diskRoom_x (room : Int) (v : Value) (l : List Ac) (w : World) (_ : -9223372036854775808 ≤ room) (_ : room ≤ 9223372036854775807) (hs : ActsAt w v l) : Calls Try.prog 4 #[.int .i64 room, v] w fun e w' => e = .returned (.bool true) ∧ Below w.heap.size w w' := by
  have HS0 := Lib.hid hs
  have HA := Lib.hid (awake_x w)
  obtain ⟨A, cap, rfl, hcp, hcl⟩ := hs
  have HS := Lib.hid hcl
  clear hcl hcp
  go_enter Try.func4, Try.ntmps4
  go_wp2_with fail
  refine HA.out.mono ?_
  rintro e w1 ⟨rfl, hb⟩
  have B1 := Lib.hid hb
  have HS1 := Lib.hid (HS0.out.below hb)
  clear hb
  go_wp2_with fail
  refine (fewA_x _ l w1 HS1.out).mono ?_
  cases hfew : fewA l
  · rintro e w1' ⟨rfl, rfl⟩
    go_wp2_with fail
    go_ret
    exact ⟨rfl, B1.out⟩
  · rintro e w1' ⟨rfl, rfl⟩
    have HF := Lib.hid (few_a hfew)
    clear hfew
    by_cases ha : room < 1
    · have d1 : decide (room < 1) = true := decide_eq_true ha
      clear ha
      go_wp2_with fail
      go_ret
      exact ⟨rfl, B1.out⟩
    · have d1 : decide (room < 1) = false := decide_eq_false ha
      by_cases ha2 : 1048576 < room
      · have d2 : decide (1048576 < room) = true := decide_eq_true ha2
        clear ha ha2
        go_wp2_with fail
        go_ret
        exact ⟨rfl, B1.out⟩
      · have d2 : decide (1048576 < room) = false := decide_eq_false ha2
        obtain ⟨r, rfl⟩ : ∃ r : Nat, room = (r : Int) := ⟨room.toNat, by omega⟩
        have hr1 : 1 ≤ r := by omega
        have hr2 : r ≤ 1048576 := by omega
        clear ha ha2
        go_wp2_with fail
        refine (new_l r w1 hr1 hr2).mono ?_
        rintro e w2 ⟨b, m, rfl, hv, hb⟩
        have H2 : Hid (RI w1.heap.size b m r (newD r) 0 w w2) := Lib.hid ⟨hv, inv_new hr2, rfl, below_next B1.out hb, B1.out.size⟩
        clear hv hb d1 d2
        go_wp2_with fail
        go_loopw [7] (fun iv wr => ∃ k : Nat, ∃ S, k ≤ l.length ∧ iv = .int .i64 k ∧ Hid (RI w1.heap.size b m r S k w wr)) (fun iv _ => l.length - (intOf iv).toNat)
        case atStart => exact ⟨0, _, Nat.zero_le _, rfl, H2⟩
        case round =>
          obtain ⟨k, S, hk, rfl, HC⟩ := hrel
          have hl200 := HF.out.1
          by_cases hlt : k < l.length
          · obtain ⟨c, hcx⟩ : ∃ c, l[k]? = some c := ⟨_, List.getElem?_eq_getElem hlt⟩
            obtain ⟨ad, rfl, hab, hat⟩ := HS.out k c hcx
            have HSZ := Lib.hid (HF.out.2 c (List.mem_of_getElem? hcx))
            obtain ⟨-, c0, c1, c2, c3, c4⟩ := hat.below HC.out.below hat.lt
            have hkk : k ≤ 200 := by omega
            clear hcx hat hab
            have J1 := Lib.hid (rj_start HC.out c)
            have HIV := Lib.hid HC.out.inv
            have HUQ := Lib.hid HC.out.live.uniq
            have HRM := Lib.hid HC.out.room
            clear HC
            obtain ⟨u, hu⟩ : ∃ u, usedF S.fs = u := ⟨_, rfl⟩
            obtain ⟨n, hn⟩ : ∃ n, S.fs.length = n := ⟨_, rfl⟩
            obtain ⟨old, hold⟩ : ∃ old, readD S c.name = old := ⟨_, rfl⟩
            have HU := Lib.hid hu
            have HN := Lib.hid hn
            have HO := Lib.hid hold
            have hub : u ≤ 1048576 := by have := HIV.out.used; have := HIV.out.room; omega
            have hnb : n ≤ 128 := by have := HIV.out.len; omega
            have hob : old.length ≤ u := by have := read_le c.name HUQ.out; rw [hold, hu] at this; exact this
            have hsb := HSZ.out.2
            clear hu hn hold
            go_wp2_with fail
            refine (rj_used J1.out HIV.out (v := (u : Int)) (by rw [HU.out])).mono ?_
            rintro e w3 ⟨rfl, hj⟩
            have J2 := Lib.hid hj
            clear hj J1 c0 c1 c2 c3 c4
            go_wp2_with fail
            refine (rj_list J2.out HIV.out HN.out).mono ?_
            rintro e w4 ⟨A4, p4, rfl, hj⟩
            have J3 := Lib.hid hj
            clear hj J2
            have b1 : w4.cell? ⟨wr.heap.size, 1, none⟩ = some (.string (mkS c.name)) := cellOf J3.out.box 1
            go_wp2_with fail
            refine (rj_read J3.out HSZ.out.1 HO.out).mono ?_
            rintro e w5 ⟨gc, rfl, hj⟩
            have J4 := Lib.hid hj
            clear hj J3 b1
            have b0 : w5.cell? ⟨wr.heap.size, 0, none⟩ = some (.int .i64 c.kind) := cellOf J4.out.box 0
            have b1 : w5.cell? ⟨wr.heap.size, 1, none⟩ = some (.string (mkS c.name)) := cellOf J4.out.box 1
            have b2 : w5.cell? ⟨wr.heap.size, 2, none⟩ = some (.string (mkS c.s)) := cellOf J4.out.box 2
            have b3 : w5.cell? ⟨wr.heap.size, 3, none⟩ = some (.int .i64 c.at_) := cellOf J4.out.box 3
            have b4 : w5.cell? ⟨wr.heap.size, 4, none⟩ = some (.int .i64 c.keep) := cellOf J4.out.box 4
            obtain ⟨ec, S', hdo⟩ : ∃ ec S', doD S c = (ec, S') := ⟨_, _, rfl⟩
            have HIW : Hid (Inv S' (k + 1)) := Lib.hid (by have := inv_do HIV.out HUQ.out c; rw [hdo] at this; exact this)
            have HRW : Hid (S'.room = r) := Lib.hid (by have := do_room S c; rw [hdo, HRM.out] at this; exact this)
            have HSA : Hid (ec ≠ 0 → ec ≠ 7 → S' = S) := Lib.hid (fun x y => by have := do_same (S := S) (c := c); rw [hdo] at this; exact this x y)
            have HAP : Hid (c.kind = 0 → ec = 0 → usedF S'.fs = u + c.s.length) := Lib.hid (fun x y => by have := do_app HUQ.out x (S := S); rw [hdo, HU.out] at this; exact this y)
            have HSY : Hid (c.kind = 1 → ec = 0 → usedF S'.fs = u) := Lib.hid (fun x y => by have := do_syn x (S := S); rw [hdo, HU.out] at this; exact this y)
            have HRE : Hid (c.kind = 3 → ec = 0 → usedF S'.fs + old.length = u ∧ S'.fs.length + 1 = n) := Lib.hid (fun x y => by have := do_rem HUQ.out x (S := S); rw [hdo, HU.out, HN.out, HO.out] at this; exact this y)
            have HDO := Lib.hid hdo
            clear hdo
            obtain ⟨u', hu'⟩ : ∃ u', usedF S'.fs = u' := ⟨_, rfl⟩
            obtain ⟨n', hn'⟩ : ∃ n', S'.fs.length = n' := ⟨_, rfl⟩
            have HU2 := Lib.hid hu'
            have HN2 := Lib.hid hn'
            have d15 : decide ((r : Int) < (u' : Int)) = false := decide_eq_false (by have := HIW.out.used; have := HRW.out; omega)
            have d16 : decide ((128 : Int) < (n' : Int)) = false := decide_eq_false (by have := HIW.out.len; omega)
            have d15n : decide (r < u') = false := decide_eq_false (by have := HIW.out.used; have := HRW.out; omega)
            have d16n : decide (128 < n') = false := decide_eq_false (by have := HIW.out.len; omega)
            clear hu' hn'
            by_cases he0 : ec = 0
            · subst he0
              have HVA : Hid (VA S' c u n old) := Lib.hid ⟨fun x => by have := HAP.out x rfl; omega, fun x => by have := HSY.out x rfl; omega, fun x => by have := HRE.out x rfl; omega⟩
              clear HAP HSY HRE
              go_wp2_with fail
              refine (does_k J4.out HIV.out (by omega) HSZ.out.1 HSZ.out.2 HDO.out (ev := 0) (by omega)).mono ?_
              rintro e w6 ⟨rfl, hj⟩
              have K6 := Lib.hid hj
              clear hj J4 b0 b1 b2 b3 b4
              go_wp2_with fail
              refine (rk_used K6.out HIW.out (v := (u' : Int)) (by rw [HU2.out])).mono ?_
              rintro e w7 ⟨rfl, hj⟩
              have K7 := Lib.hid hj
              clear hj K6
              go_wp2_with fail
              refine (rk_list K7.out HIW.out HN2.out).mono ?_
              rintro e w8 ⟨A8, p8, rfl, hj⟩
              have K8 := Lib.hid hj
              clear hj K7
              by_cases hq : c.kind = 0
              · as_aux_lemma =>
                  obtain ⟨Y, G, y0, hy0, hG1, hG2⟩ := rk_cls K8.out
                  have hne : Nonempty Y := ⟨y0⟩
                  have HG1 := Lib.hid hG1
                  have g0 : ∀ y, (G y).cell? ⟨wr.heap.size, 0, none⟩ = some (.int .i64 0) := fun y => by rw [← hq]; exact cellOf (HG1.out y).box 0
                  have g2 : ∀ y, (G y).cell? ⟨wr.heap.size, 2, none⟩ = some (.string (mkS c.s)) := fun y => cellOf (HG1.out y).box 2
                  have hms := mkS_size c.s
                  have hw1 : IntKind.i64.wrap ((u : Int) + (c.s.length : Int)) = (u : Int) + (c.s.length : Int) := IntWalk.i64_in _ (by omega)
                  have HGU := Lib.hid (fun y => (rk_used (hG1 y) HIW.out (v := (u : Int) + (c.s.length : Int)) (HVA.out.app hq)).mono fun _ _ ⟨h1, h2⟩ => (⟨h1, hG2 _ h2⟩ : _ ∧ ∃ z, _ = G z))
                  clear hG1 hG2
                  go_wp2_with fail
                  refine region_in (by kernel_rfl) (by kernel_rfl) G y0 hy0 ?_
                  repeat (go_big_quiet_step ((go_at_call 17; exact HGU.out _)))
                  refine wpQuiet_nil ?_
                  rintro _ ⟨y, rfl⟩
                  have HZ := Lib.hid ((HG1.out y).to HIW.out HRW.out)
                  clear g0 g2 hy0 HG1 K8
                  go_wp2_with fail
                  go_round
                  case rel => exact ⟨k + 1, S', by omega, by go_num, HZ⟩
                  case measure => simp [intOf]; omega
              by_cases hq1 : c.kind = 1
              · have hq := hq1
                as_aux_lemma =>
                  obtain ⟨Y, G, y0, hy0, hG1, hG2⟩ := rk_cls K8.out
                  have hne : Nonempty Y := ⟨y0⟩
                  have HG1 := Lib.hid hG1
                  have g0 : ∀ y, (G y).cell? ⟨wr.heap.size, 0, none⟩ = some (.int .i64 1) := fun y => by rw [← hq]; exact cellOf (HG1.out y).box 0
                  have g2 : ∀ y, (G y).cell? ⟨wr.heap.size, 2, none⟩ = some (.string (mkS c.s)) := fun y => cellOf (HG1.out y).box 2
                  have HGU := Lib.hid (fun y => (rk_used (hG1 y) HIW.out (v := (u : Int)) (HVA.out.syn hq)).mono fun _ _ ⟨h1, h2⟩ => (⟨h1, hG2 _ h2⟩ : _ ∧ ∃ z, _ = G z))
                  clear hG1 hG2
                  go_wp2_with fail
                  refine region_in (by kernel_rfl) (by kernel_rfl) G y0 hy0 ?_
                  repeat (go_big_quiet_step ((go_at_call 17; exact HGU.out _)))
                  refine wpQuiet_nil ?_
                  rintro _ ⟨y, rfl⟩
                  have HZ := Lib.hid ((HG1.out y).to HIW.out HRW.out)
                  clear g0 g2 hy0 HG1 K8
                  go_wp2_with fail
                  go_round
                  case rel => exact ⟨k + 1, S', by omega, by go_num, HZ⟩
                  case measure => simp [intOf]; omega
              by_cases hq3 : c.kind = 3
              · as_aux_lemma =>
                  have hq := hq3
                  have g0 : w8.cell? ⟨wr.heap.size, 0, none⟩ = some (.int .i64 3) := by rw [← hq]; exact cellOf K8.out.box 0
                  have g1 : w8.drew.cell? ⟨wr.heap.size, 0, none⟩ = some (.int .i64 3) := g0
                  have hm2 := mkS_size old
                  have hw2 : IntKind.i64.wrap ((u : Int) - (old.length : Int)) = (u : Int) - (old.length : Int) := IntWalk.i64_in _ (by omega)
                  have hw3 : IntKind.i64.wrap ((n : Int) - 1) = (n' : Int) := by rw [IntWalk.i64_in _ (by omega)]; have := (HVA.out.rem hq).2; have := HN2.out; omega
                  have HV3 := Lib.hid (fun w9 (h : RK w1.heap.size b m wr.heap.size S' c w w9) => rk_used h HIW.out (HVA.out.rem hq).1)
                  have HL3 := Lib.hid (fun w9 (h : RK w1.heap.size b m wr.heap.size S' c w w9) => rk_list h HIW.out HN2.out)
                  have HK3 := Lib.hid (fun w9 (h : RK w1.heap.size b m wr.heap.size S' c w w9) => show w9.cell? ⟨wr.heap.size, 0, none⟩ = some (.int .i64 3) by rw [← hq]; exact cellOf h.box 0)
                  clear hq hq1 hq3
                  go_wp2_with fail
                  refine wp_region_held_drew (S := fun wz => wz.cell? ⟨wr.heap.size, 0, none⟩ = some (.int .i64 3)) (by kernel_rfl) g1 (fun hH => ?_)
                  refine wpAnyH_take (i := 0) (oi := { dst := some 92, op := Op.fieldAddr 33 (Operand.tmp 8) 0, type := 0, pos := "law.go:231", after := #[], guard := none }) (v := .pointer (some ⟨wr.heap.size, 0, none⟩)) rfl (by kernel_rfl) (by kernel_rfl) (by kernel_rfl) (fun _ _ _ h => h) (Or.inl ⟨by kernel_rfl, fun wz hz => by kernel_rfl⟩) hH ?_
                  try simp only [Act.put, List.setIfInBounds_toArray, List.set_cons_zero, List.set_cons_succ]
                  refine wpAnyH_take (i := 1) (oi := { dst := some 93, op := Op.load 3 (Operand.tmp 92), type := 3, pos := "law.go:231", after := #[{ on := 0, ground := Ground.data }], guard := none }) (v := .int .i64 3) rfl (by kernel_rfl) (by kernel_rfl) (by kernel_rfl) (fun _ _ _ h => h) (Or.inl ⟨by kernel_rfl, fun wz hz => by go_simp⟩) hH ?_
                  try simp only [Act.put, List.setIfInBounds_toArray, List.set_cons_zero, List.set_cons_succ]
                  refine wpAnyH_take (i := 2) (oi := { dst := some 94, op := Op.binOp BinOp.eql 3 (Operand.tmp 93) (Operand.const (Value.int IntKind.i64 0)) 3, type := 4, pos := "law.go:231", after := #[{ on := 1, ground := Ground.data }], guard := none }) (v := .bool false) rfl (by kernel_rfl) (by kernel_rfl) (by kernel_rfl) (fun _ _ _ h => h) (Or.inl ⟨by kernel_rfl, fun wz hz => by kernel_rfl⟩) hH ?_
                  try simp only [Act.put, List.setIfInBounds_toArray, List.set_cons_zero, List.set_cons_succ]
                  refine wpAnyH_take (i := 3) (oi := { dst := some 95, op := Op.move (Operand.tmp 94), type := 4, pos := "law.go:231", after := #[{ on := 2, ground := Ground.data }], guard := none }) (v := .bool false) rfl (by kernel_rfl) (by kernel_rfl) (by kernel_rfl) (fun _ _ _ h => h) (Or.inl ⟨by kernel_rfl, fun wz hz => by kernel_rfl⟩) hH ?_
                  try simp only [Act.put, List.setIfInBounds_toArray, List.set_cons_zero, List.set_cons_succ]
                  refine wpAnyH_take (i := 4) (oi := { dst := some 96, op := Op.move (Operand.tmp 13), type := 26, pos := "law.go:231", after := #[{ on := 3, ground := Ground.guard }], guard := some (3, true) }) (v := undef) rfl (by kernel_rfl) (by kernel_rfl) (by kernel_rfl) (fun _ _ _ h => h) (Or.inr ⟨by kernel_rfl, rfl⟩) hH ?_
                  try simp only [Act.put, List.setIfInBounds_toArray, List.set_cons_zero, List.set_cons_succ]
                  refine wpAnyH_take (i := 5) (oi := { dst := some 97, op := Op.binOp BinOp.eql 26 (Operand.tmp 96) (Operand.const (Value.int IntKind.i64 0)) 26, type := 4, pos := "law.go:231", after := #[{ on := 4, ground := Ground.data }, { on := 3, ground := Ground.guard }], guard := some (3, true) }) (v := undef) rfl (by kernel_rfl) (by kernel_rfl) (by kernel_rfl) (fun _ _ _ h => h) (Or.inr ⟨by kernel_rfl, rfl⟩) hH ?_
                  try simp only [Act.put, List.setIfInBounds_toArray, List.set_cons_zero, List.set_cons_succ]
                  refine wpAnyH_take (i := 6) (oi := { dst := some 98, op := Op.pick (Operand.tmp 95) (Operand.tmp 97) (Operand.const (Value.bool false)), type := 4, pos := "law.go:231", after := #[{ on := 3, ground := Ground.data }, { on := 5, ground := Ground.data }], guard := none }) (v := .bool false) rfl (by kernel_rfl) (by kernel_rfl) (by kernel_rfl) (fun _ _ _ h => h) (Or.inl ⟨by kernel_rfl, fun wz hz => by kernel_rfl⟩) hH ?_
                  try simp only [Act.put, List.setIfInBounds_toArray, List.set_cons_zero, List.set_cons_succ]
                  refine wpAnyH_take (i := 7) (oi := { dst := some 99, op := Op.move (Operand.tmp 98), type := 4, pos := "law.go:231", after := #[{ on := 6, ground := Ground.data }, { on := 3, ground := Ground.chain }], guard := none }) (v := .bool false) rfl (by kernel_rfl) (by kernel_rfl) (by kernel_rfl) (fun _ _ _ h => h) (Or.inl ⟨by kernel_rfl, fun wz hz => by kernel_rfl⟩) hH ?_
                  try simp only [Act.put, List.setIfInBounds_toArray, List.set_cons_zero, List.set_cons_succ]
                  refine wpAnyH_take (i := 8) (oi := { dst := some 100, op := Op.move (Operand.tmp 5), type := 25, pos := "law.go:231", after := #[{ on := 7, ground := Ground.guard }], guard := some (7, true) }) (v := undef) rfl (by kernel_rfl) (by kernel_rfl) (by kernel_rfl) (fun _ _ _ h => h) (Or.inr ⟨by kernel_rfl, rfl⟩) hH ?_
                  try simp only [Act.put, List.setIfInBounds_toArray, List.set_cons_zero, List.set_cons_succ]
                  refine wpAnyH_take (i := 9) (oi := { dst := some 101, op := Op.call { callee := Callee.value (Operand.func 17), args := #[Operand.tmp 100], argTypes := #[25] }, type := 3, pos := "law.go:231", after := #[{ on := 8, ground := Ground.data }, { on := 7, ground := Ground.chain }, { on := 7, ground := Ground.guard }], guard := some (7, true) }) (v := undef) rfl (by kernel_rfl) (by kernel_rfl) (by kernel_rfl) (fun _ _ _ h => h) (Or.inr ⟨by kernel_rfl, rfl⟩) hH ?_
                  try simp only [Act.put, List.setIfInBounds_toArray, List.set_cons_zero, List.set_cons_succ]
                  refine wpAnyH_take (i := 10) (oi := { dst := some 102, op := Op.move (Operand.tmp 9), type := 3, pos := "law.go:231", after := #[{ on := 7, ground := Ground.guard }], guard := some (7, true) }) (v := undef) rfl (by kernel_rfl) (by kernel_rfl) (by kernel_rfl) (fun _ _ _ h => h) (Or.inr ⟨by kernel_rfl, rfl⟩) hH ?_
                  try simp only [Act.put, List.setIfInBounds_toArray, List.set_cons_zero, List.set_cons_succ]
                  refine wpAnyH_take (i := 11) (oi := { dst := some 103, op := Op.fieldAddr 33 (Operand.tmp 8) 2, type := 0, pos := "law.go:231", after := #[{ on := 7, ground := Ground.guard }], guard := some (7, true) }) (v := undef) rfl (by kernel_rfl) (by kernel_rfl) (by kernel_rfl) (fun _ _ _ h => h) (Or.inr ⟨by kernel_rfl, rfl⟩) hH ?_
                  try simp only [Act.put, List.setIfInBounds_toArray, List.set_cons_zero, List.set_cons_succ]
                  refine wpAnyH_take (i := 12) (oi := { dst := some 104, op := Op.load 9 (Operand.tmp 103), type := 9, pos := "law.go:231", after := #[{ on := 11, ground := Ground.data }, { on := 7, ground := Ground.guard }], guard := some (7, true) }) (v := undef) rfl (by kernel_rfl) (by kernel_rfl) (by kernel_rfl) (fun _ _ _ h => h) (Or.inr ⟨by kernel_rfl, rfl⟩) hH ?_
                  try simp only [Act.put, List.setIfInBounds_toArray, List.set_cons_zero, List.set_cons_succ]
                  refine wpAnyH_take (i := 13) (oi := { dst := some 105, op := Op.call { callee := Callee.builtin Builtin.len, args := #[Operand.tmp 104], argTypes := #[9] }, type := 3, pos := "law.go:231", after := #[{ on := 12, ground := Ground.data }, { on := 7, ground := Ground.guard }], guard := some (7, true) }) (v := undef) rfl (by kernel_rfl) (by kernel_rfl) (by kernel_rfl) (fun _ _ _ h => h) (Or.inr ⟨by kernel_rfl, rfl⟩) hH ?_
                  try simp only [Act.put, List.setIfInBounds_toArray, List.set_cons_zero, List.set_cons_succ]
                  refine wpAnyH_take (i := 14) (oi := { dst := some 106, op := Op.binOp BinOp.add 3 (Operand.tmp 102) (Operand.tmp 105) 3, type := 3, pos := "law.go:231", after := #[{ on := 10, ground := Ground.data }, { on := 13, ground := Ground.data }, { on := 7, ground := Ground.guard }], guard := some (7, true) }) (v := undef) rfl (by kernel_rfl) (by kernel_rfl) (by kernel_rfl) (fun _ _ _ h => h) (Or.inr ⟨by kernel_rfl, rfl⟩) hH ?_
                  try simp only [Act.put, List.setIfInBounds_toArray, List.set_cons_zero, List.set_cons_succ]
                  refine wpAnyH_take (i := 15) (oi := { dst := some 107, op := Op.binOp BinOp.neq 3 (Operand.tmp 101) (Operand.tmp 106) 3, type := 4, pos := "law.go:231", after := #[{ on := 9, ground := Ground.data }, { on := 14, ground := Ground.data }, { on := 7, ground := Ground.guard }], guard := some (7, true) }) (v := undef) rfl (by kernel_rfl) (by kernel_rfl) (by kernel_rfl) (fun _ _ _ h => h) (Or.inr ⟨by kernel_rfl, rfl⟩) hH ?_
                  try simp only [Act.put, List.setIfInBounds_toArray, List.set_cons_zero, List.set_cons_succ]
                  refine wpAnyH_take (i := 16) (oi := { dst := some 108, op := Op.pick (Operand.tmp 99) (Operand.tmp 107) (Operand.const (Value.bool false)), type := 4, pos := "law.go:231", after := #[{ on := 7, ground := Ground.data }, { on := 15, ground := Ground.data }], guard := none }) (v := .bool false) rfl (by kernel_rfl) (by kernel_rfl) (by kernel_rfl) (fun _ _ _ h => h) (Or.inl ⟨by kernel_rfl, fun wz hz => by kernel_rfl⟩) hH ?_
                  try simp only [Act.put, List.setIfInBounds_toArray, List.set_cons_zero, List.set_cons_succ]
                  refine wpAnyH_take (i := 17) (oi := { dst := some 109, op := Op.move (Operand.tmp 108), type := 4, pos := "law.go:231", after := #[{ on := 16, ground := Ground.data }, { on := 9, ground := Ground.chain }], guard := none }) (v := .bool false) rfl (by kernel_rfl) (by kernel_rfl) (by kernel_rfl) (fun _ _ _ h => h) (Or.inl ⟨by kernel_rfl, fun wz hz => by kernel_rfl⟩) hH ?_
                  try simp only [Act.put, List.setIfInBounds_toArray, List.set_cons_zero, List.set_cons_succ]
                  refine wpAnyH_take (i := 18) (oi := { dst := some 110, op := Op.fieldAddr 33 (Operand.tmp 8) 0, type := 0, pos := "law.go:231", after := #[{ on := 17, ground := Ground.guard }], guard := some (17, false) }) (v := .pointer (some ⟨wr.heap.size, 0, none⟩)) rfl (by kernel_rfl) (by kernel_rfl) (by kernel_rfl) (fun _ _ _ h => h) (Or.inl ⟨by kernel_rfl, fun wz hz => by kernel_rfl⟩) hH ?_
                  try simp only [Act.put, List.setIfInBounds_toArray, List.set_cons_zero, List.set_cons_succ]
                  refine wpAnyH_take (i := 19) (oi := { dst := some 111, op := Op.load 3 (Operand.tmp 110), type := 3, pos := "law.go:231", after := #[{ on := 18, ground := Ground.data }, { on := 17, ground := Ground.guard }], guard := some (17, false) }) (v := .int .i64 3) rfl (by kernel_rfl) (by kernel_rfl) (by kernel_rfl) (fun _ _ _ h => h) (Or.inl ⟨by kernel_rfl, fun wz hz => by go_simp⟩) hH ?_
                  try simp only [Act.put, List.setIfInBounds_toArray, List.set_cons_zero, List.set_cons_succ]
                  refine wpAnyH_take (i := 20) (oi := { dst := some 112, op := Op.binOp BinOp.eql 3 (Operand.tmp 111) (Operand.const (Value.int IntKind.i64 3)) 3, type := 4, pos := "law.go:231", after := #[{ on := 19, ground := Ground.data }, { on := 17, ground := Ground.guard }], guard := some (17, false) }) (v := .bool true) rfl (by kernel_rfl) (by kernel_rfl) (by kernel_rfl) (fun _ _ _ h => h) (Or.inl ⟨by kernel_rfl, fun wz hz => by kernel_rfl⟩) hH ?_
                  try simp only [Act.put, List.setIfInBounds_toArray, List.set_cons_zero, List.set_cons_succ]
                  refine wpAnyH_take (i := 21) (oi := { dst := some 113, op := Op.move (Operand.tmp 112), type := 4, pos := "law.go:231", after := #[{ on := 20, ground := Ground.data }, { on := 17, ground := Ground.chain }, { on := 17, ground := Ground.guard }], guard := some (17, false) }) (v := .bool true) rfl (by kernel_rfl) (by kernel_rfl) (by kernel_rfl) (fun _ _ _ h => h) (Or.inl ⟨by kernel_rfl, fun wz hz => by kernel_rfl⟩) hH ?_
                  try simp only [Act.put, List.setIfInBounds_toArray, List.set_cons_zero, List.set_cons_succ]
                  refine wpAnyH_take (i := 22) (oi := { dst := some 114, op := Op.move (Operand.tmp 13), type := 26, pos := "law.go:231", after := #[{ on := 21, ground := Ground.guard }], guard := some (21, true) }) (v := .int .i64 0) rfl (by kernel_rfl) (by kernel_rfl) (by kernel_rfl) (fun _ _ _ h => h) (Or.inl ⟨by kernel_rfl, fun wz hz => by kernel_rfl⟩) hH ?_
                  try simp only [Act.put, List.setIfInBounds_toArray, List.set_cons_zero, List.set_cons_succ]
                  refine wpAnyH_take (i := 23) (oi := { dst := some 115, op := Op.binOp BinOp.eql 26 (Operand.tmp 114) (Operand.const (Value.int IntKind.i64 0)) 26, type := 4, pos := "law.go:231", after := #[{ on := 22, ground := Ground.data }, { on := 21, ground := Ground.guard }], guard := some (21, true) }) (v := .bool true) rfl (by kernel_rfl) (by kernel_rfl) (by kernel_rfl) (fun _ _ _ h => h) (Or.inl ⟨by kernel_rfl, fun wz hz => by kernel_rfl⟩) hH ?_
                  try simp only [Act.put, List.setIfInBounds_toArray, List.set_cons_zero, List.set_cons_succ]
                  refine wpAnyH_take (i := 24) (oi := { dst := some 116, op := Op.pick (Operand.tmp 113) (Operand.tmp 115) (Operand.const (Value.bool false)), type := 4, pos := "law.go:231", after := #[{ on := 21, ground := Ground.data }, { on := 23, ground := Ground.data }, { on := 17, ground := Ground.guard }], guard := some (17, false) }) (v := .bool true) rfl (by kernel_rfl) (by kernel_rfl) (by kernel_rfl) (fun _ _ _ h => h) (Or.inl ⟨by kernel_rfl, fun wz hz => by kernel_rfl⟩) hH ?_
                  try simp only [Act.put, List.setIfInBounds_toArray, List.set_cons_zero, List.set_cons_succ]
                  refine wpAnyH_take (i := 25) (oi := { dst := some 117, op := Op.move (Operand.tmp 116), type := 4, pos := "law.go:231", after := #[{ on := 24, ground := Ground.data }, { on := 21, ground := Ground.chain }, { on := 17, ground := Ground.guard }], guard := some (17, false) }) (v := .bool true) rfl (by kernel_rfl) (by kernel_rfl) (by kernel_rfl) (fun _ _ _ h => h) (Or.inl ⟨by kernel_rfl, fun wz hz => by kernel_rfl⟩) hH ?_
                  try simp only [Act.put, List.setIfInBounds_toArray, List.set_cons_zero, List.set_cons_succ]
                  refine wpAnyH_take (i := 26) (oi := { dst := some 118, op := Op.move (Operand.tmp 5), type := 25, pos := "law.go:231", after := #[{ on := 25, ground := Ground.guard }], guard := some (25, true) }) (v := .pointer (some ⟨b, 0, none⟩)) rfl (by kernel_rfl) (by kernel_rfl) (by kernel_rfl) (fun _ _ _ h => h) (Or.inl ⟨by kernel_rfl, fun wz hz => by kernel_rfl⟩) hH ?_
                  try simp only [Act.put, List.setIfInBounds_toArray, List.set_cons_zero, List.set_cons_succ]
                  refine wpAnyH_take (i := 28) (oi := { dst := some 120, op := Op.move (Operand.tmp 9), type := 3, pos := "law.go:231", after := #[{ on := 25, ground := Ground.guard }], guard := some (25, true) }) (v := .int .i64 (u : Int)) rfl (by kernel_rfl) (by kernel_rfl) (by kernel_rfl) (fun _ _ _ h => h) (Or.inl ⟨by kernel_rfl, fun wz hz => by kernel_rfl⟩) hH ?_
                  try simp only [Act.put, List.setIfInBounds_toArray, List.set_cons_zero, List.set_cons_succ]
                  refine wpAnyH_take (i := 29) (oi := { dst := some 121, op := Op.move (Operand.tmp 11), type := 9, pos := "law.go:231", after := #[{ on := 25, ground := Ground.guard }], guard := some (25, true) }) (v := .string (mkS old)) rfl (by kernel_rfl) (by kernel_rfl) (by kernel_rfl) (fun _ _ _ h => h) (Or.inl ⟨by kernel_rfl, fun wz hz => by kernel_rfl⟩) hH ?_
                  try simp only [Act.put, List.setIfInBounds_toArray, List.set_cons_zero, List.set_cons_succ]
                  refine wpAnyH_take (i := 30) (oi := { dst := some 122, op := Op.call { callee := Callee.builtin Builtin.len, args := #[Operand.tmp 121], argTypes := #[9] }, type := 3, pos := "law.go:231", after := #[{ on := 29, ground := Ground.data }, { on := 25, ground := Ground.guard }], guard := some (25, true) }) (v := .int .i64 (old.length : Int)) rfl (by kernel_rfl) (by kernel_rfl) (by kernel_rfl) (fun _ _ _ h => h) (Or.inl ⟨by kernel_rfl, fun wz hz => by go_simp⟩) hH ?_
                  try simp only [Act.put, List.setIfInBounds_toArray, List.set_cons_zero, List.set_cons_succ]
                  refine wpAnyH_take (i := 31) (oi := { dst := some 123, op := Op.binOp BinOp.sub 3 (Operand.tmp 120) (Operand.tmp 122) 3, type := 3, pos := "law.go:231", after := #[{ on := 28, ground := Ground.data }, { on := 30, ground := Ground.data }, { on := 25, ground := Ground.guard }], guard := some (25, true) }) (v := .int .i64 ((u : Int) - (old.length : Int))) rfl (by kernel_rfl) (by kernel_rfl) (by kernel_rfl) (fun _ _ _ h => h) (Or.inl ⟨by kernel_rfl, fun wz hz => by go_simp⟩) hH ?_
                  try simp only [Act.put, List.setIfInBounds_toArray, List.set_cons_zero, List.set_cons_succ]
                  refine wpAnyH_ready (rs := [27]) (by kernel_rfl) (by simp) ?_
                  refine AllReadyH.cons (o := { dst := some 119, op := Op.call { callee := Callee.value (Operand.func 17), args := #[Operand.tmp 118], argTypes := #[25] }, type := 3, pos := "law.go:231", after := #[{ on := 26, ground := Ground.data }, { on := 25, ground := Ground.chain }, { on := 25, ground := Ground.guard }], guard := some (25, true) }) rfl (fun K hK => ?_) AllReadyH.nil
                  go_simp
                  go_at_call 17
                  refine (HV3.out _ K8.out.drew).mono ?_
                  rintro e w9 ⟨rfl, hj⟩
                  have K9 := Lib.hid hj
                  clear hj
                  have g2 := HK3.out _ K9.out
                  refine hK.out _ _ g2 (fun hH2 => ?_)
                  clear hK K
                  try simp only [Act.put, List.setIfInBounds_toArray, List.set_cons_zero, List.set_cons_succ]
                  refine wpAnyH_take (i := 32) (oi := { dst := some 124, op := Op.binOp BinOp.neq 3 (Operand.tmp 119) (Operand.tmp 123) 3, type := 4, pos := "law.go:231", after := #[{ on := 27, ground := Ground.data }, { on := 31, ground := Ground.data }, { on := 25, ground := Ground.guard }], guard := some (25, true) }) (v := .bool false) rfl (by kernel_rfl) (by kernel_rfl) (by kernel_rfl) (fun _ _ _ h => h) (Or.inl ⟨by kernel_rfl, fun wz hz => by go_simp⟩) g2 ?_
                  try simp only [Act.put, List.setIfInBounds_toArray, List.set_cons_zero, List.set_cons_succ]
                  refine wpAnyH_take (i := 33) (oi := { dst := some 125, op := Op.move (Operand.tmp 124), type := 4, pos := "law.go:231", after := #[{ on := 32, ground := Ground.data }, { on := 27, ground := Ground.chain }, { on := 25, ground := Ground.guard }], guard := some (25, true) }) (v := .bool false) rfl (by kernel_rfl) (by kernel_rfl) (by kernel_rfl) (fun _ _ _ h => h) (Or.inl ⟨by kernel_rfl, fun wz hz => by kernel_rfl⟩) g2 ?_
                  try simp only [Act.put, List.setIfInBounds_toArray, List.set_cons_zero, List.set_cons_succ]
                  refine wpAnyH_take (i := 34) (oi := { dst := some 126, op := Op.move (Operand.tmp 5), type := 25, pos := "law.go:231", after := #[{ on := 33, ground := Ground.guard }], guard := some (33, false) }) (v := .pointer (some ⟨b, 0, none⟩)) rfl (by kernel_rfl) (by kernel_rfl) (by kernel_rfl) (fun _ _ _ h => h) (Or.inl ⟨by kernel_rfl, fun wz hz => by kernel_rfl⟩) g2 ?_
                  try simp only [Act.put, List.setIfInBounds_toArray, List.set_cons_zero, List.set_cons_succ]
                  refine wpAnyH_take (i := 37) (oi := { dst := some 129, op := Op.move (Operand.tmp 10), type := 3, pos := "law.go:231", after := #[{ on := 33, ground := Ground.guard }], guard := some (33, false) }) (v := .int .i64 (n : Int)) rfl (by kernel_rfl) (by kernel_rfl) (by kernel_rfl) (fun _ _ _ h => h) (Or.inl ⟨by kernel_rfl, fun wz hz => by kernel_rfl⟩) g2 ?_
                  try simp only [Act.put, List.setIfInBounds_toArray, List.set_cons_zero, List.set_cons_succ]
                  refine wpAnyH_take (i := 38) (oi := { dst := some 130, op := Op.binOp BinOp.sub 3 (Operand.tmp 129) (Operand.const (Value.int IntKind.i64 1)) 3, type := 3, pos := "law.go:231", after := #[{ on := 37, ground := Ground.data }, { on := 33, ground := Ground.guard }], guard := some (33, false) }) (v := .int .i64 (n' : Int)) rfl (by kernel_rfl) (by kernel_rfl) (by kernel_rfl) (fun _ _ _ h => h) (Or.inl ⟨by kernel_rfl, fun wz hz => by go_simp⟩) g2 ?_
                  try simp only [Act.put, List.setIfInBounds_toArray, List.set_cons_zero, List.set_cons_succ]
                  refine wpAnyH_ready (rs := [35]) (by kernel_rfl) (by simp) ?_
                  refine AllReadyH.cons (o := { dst := some 127, op := Op.call { callee := Callee.value (Operand.func 15), args := #[Operand.tmp 126], argTypes := #[25] }, type := 36, pos := "law.go:231", after := #[{ on := 34, ground := Ground.data }, { on := 33, ground := Ground.chain }, { on := 33, ground := Ground.guard }], guard := some (33, false) }) rfl (fun K hK => ?_) AllReadyH.nil
                  go_simp
                  go_at_call 15
                  refine (HL3.out _ K9.out).mono ?_
                  rintro e w10 ⟨A10, p10, rfl, hj⟩
                  have K10 := Lib.hid hj
                  clear hj
                  have g3 := HK3.out _ K10.out
                  refine hK.out _ _ g3 (fun hH3 => ?_)
                  clear hK K
                  try simp only [Act.put, List.setIfInBounds_toArray, List.set_cons_zero, List.set_cons_succ]
                  refine wpAnyH_take (i := 36) (oi := { dst := some 128, op := Op.call { callee := Callee.builtin Builtin.len, args := #[Operand.tmp 127], argTypes := #[36] }, type := 3, pos := "law.go:231", after := #[{ on := 35, ground := Ground.data }, { on := 33, ground := Ground.guard }], guard := some (33, false) }) (v := .int .i64 (n' : Int)) rfl (by kernel_rfl) (by kernel_rfl) (by kernel_rfl) (fun _ _ _ h => h) (Or.inl ⟨by kernel_rfl, fun wz hz => by go_simp⟩) g3 ?_
                  try simp only [Act.put, List.setIfInBounds_toArray, List.set_cons_zero, List.set_cons_succ]
                  refine wpAnyH_take (i := 39) (oi := { dst := some 131, op := Op.binOp BinOp.neq 3 (Operand.tmp 128) (Operand.tmp 130) 3, type := 4, pos := "law.go:231", after := #[{ on := 36, ground := Ground.data }, { on := 38, ground := Ground.data }, { on := 33, ground := Ground.guard }], guard := some (33, false) }) (v := .bool false) rfl (by kernel_rfl) (by kernel_rfl) (by kernel_rfl) (fun _ _ _ h => h) (Or.inl ⟨by kernel_rfl, fun wz hz => by go_simp⟩) g3 ?_
                  try simp only [Act.put, List.setIfInBounds_toArray, List.set_cons_zero, List.set_cons_succ]
                  refine wpAnyH_take (i := 40) (oi := { dst := some 132, op := Op.pick (Operand.tmp 125) (Operand.const (Value.bool true)) (Operand.tmp 131), type := 4, pos := "law.go:231", after := #[{ on := 33, ground := Ground.data }, { on := 39, ground := Ground.data }, { on := 25, ground := Ground.guard }], guard := some (25, true) }) (v := .bool false) rfl (by kernel_rfl) (by kernel_rfl) (by kernel_rfl) (fun _ _ _ h => h) (Or.inl ⟨by kernel_rfl, fun wz hz => by kernel_rfl⟩) g3 ?_
                  try simp only [Act.put, List.setIfInBounds_toArray, List.set_cons_zero, List.set_cons_succ]
                  refine wpAnyH_take (i := 41) (oi := { dst := some 133, op := Op.pick (Operand.tmp 117) (Operand.tmp 132) (Operand.const (Value.bool false)), type := 4, pos := "law.go:231", after := #[{ on := 25, ground := Ground.data }, { on := 40, ground := Ground.data }, { on := 17, ground := Ground.guard }], guard := some (17, false) }) (v := .bool false) rfl (by kernel_rfl) (by kernel_rfl) (by kernel_rfl) (fun _ _ _ h => h) (Or.inl ⟨by kernel_rfl, fun wz hz => by kernel_rfl⟩) g3 ?_
                  try simp only [Act.put, List.setIfInBounds_toArray, List.set_cons_zero, List.set_cons_succ]
                  refine wpAnyH_take (i := 42) (oi := { dst := some 134, op := Op.pick (Operand.tmp 109) (Operand.const (Value.bool true)) (Operand.tmp 133), type := 4, pos := "law.go:231", after := #[{ on := 17, ground := Ground.data }, { on := 41, ground := Ground.data }], guard := none }) (v := .bool false) rfl (by kernel_rfl) (by kernel_rfl) (by kernel_rfl) (fun _ _ _ h => h) (Or.inl ⟨by kernel_rfl, fun wz hz => by kernel_rfl⟩) g3 ?_
                  try simp only [Act.put, List.setIfInBounds_toArray, List.set_cons_zero, List.set_cons_succ]
                  refine wpAnyH_take (i := 43) (oi := { dst := some 135, op := Op.move (Operand.tmp 134), type := 4, pos := "law.go:231", after := #[{ on := 42, ground := Ground.data }, { on := 35, ground := Ground.chain }], guard := none }) (v := .bool false) rfl (by kernel_rfl) (by kernel_rfl) (by kernel_rfl) (fun _ _ _ h => h) (Or.inl ⟨by kernel_rfl, fun wz hz => by kernel_rfl⟩) g3 ?_
                  try simp only [Act.put, List.setIfInBounds_toArray, List.set_cons_zero, List.set_cons_succ]
                  refine wpAnyH_take (i := 44) (oi := { dst := some 136, op := Op.fieldAddr 33 (Operand.tmp 8) 0, type := 0, pos := "law.go:231", after := #[{ on := 43, ground := Ground.guard }], guard := some (43, false) }) (v := .pointer (some ⟨wr.heap.size, 0, none⟩)) rfl (by kernel_rfl) (by kernel_rfl) (by kernel_rfl) (fun _ _ _ h => h) (Or.inl ⟨by kernel_rfl, fun wz hz => by kernel_rfl⟩) g3 ?_
                  try simp only [Act.put, List.setIfInBounds_toArray, List.set_cons_zero, List.set_cons_succ]
                  refine wpAnyH_take (i := 45) (oi := { dst := some 137, op := Op.load 3 (Operand.tmp 136), type := 3, pos := "law.go:231", after := #[{ on := 44, ground := Ground.data }, { on := 43, ground := Ground.guard }], guard := some (43, false) }) (v := .int .i64 3) rfl (by kernel_rfl) (by kernel_rfl) (by kernel_rfl) (fun _ _ _ h => h) (Or.inl ⟨by kernel_rfl, fun wz hz => by go_simp⟩) g3 ?_
                  try simp only [Act.put, List.setIfInBounds_toArray, List.set_cons_zero, List.set_cons_succ]
                  refine wpAnyH_take (i := 46) (oi := { dst := some 138, op := Op.binOp BinOp.eql 3 (Operand.tmp 137) (Operand.const (Value.int IntKind.i64 1)) 3, type := 4, pos := "law.go:231", after := #[{ on := 45, ground := Ground.data }, { on := 43, ground := Ground.guard }], guard := some (43, false) }) (v := .bool false) rfl (by kernel_rfl) (by kernel_rfl) (by kernel_rfl) (fun _ _ _ h => h) (Or.inl ⟨by kernel_rfl, fun wz hz => by kernel_rfl⟩) g3 ?_
                  try simp only [Act.put, List.setIfInBounds_toArray, List.set_cons_zero, List.set_cons_succ]
                  refine wpAnyH_take (i := 47) (oi := { dst := some 139, op := Op.move (Operand.tmp 138), type := 4, pos := "law.go:231", after := #[{ on := 46, ground := Ground.data }, { on := 43, ground := Ground.chain }, { on := 43, ground := Ground.guard }], guard := some (43, false) }) (v := .bool false) rfl (by kernel_rfl) (by kernel_rfl) (by kernel_rfl) (fun _ _ _ h => h) (Or.inl ⟨by kernel_rfl, fun wz hz => by kernel_rfl⟩) g3 ?_
                  try simp only [Act.put, List.setIfInBounds_toArray, List.set_cons_zero, List.set_cons_succ]
                  refine wpAnyH_take (i := 48) (oi := { dst := some 140, op := Op.move (Operand.tmp 13), type := 26, pos := "law.go:231", after := #[{ on := 47, ground := Ground.guard }], guard := some (47, true) }) (v := undef) rfl (by kernel_rfl) (by kernel_rfl) (by kernel_rfl) (fun _ _ _ h => h) (Or.inr ⟨by kernel_rfl, rfl⟩) g3 ?_
                  try simp only [Act.put, List.setIfInBounds_toArray, List.set_cons_zero, List.set_cons_succ]
                  refine wpAnyH_take (i := 49) (oi := { dst := some 141, op := Op.binOp BinOp.eql 26 (Operand.tmp 140) (Operand.const (Value.int IntKind.i64 0)) 26, type := 4, pos := "law.go:231", after := #[{ on := 48, ground := Ground.data }, { on := 47, ground := Ground.guard }], guard := some (47, true) }) (v := undef) rfl (by kernel_rfl) (by kernel_rfl) (by kernel_rfl) (fun _ _ _ h => h) (Or.inr ⟨by kernel_rfl, rfl⟩) g3 ?_
                  try simp only [Act.put, List.setIfInBounds_toArray, List.set_cons_zero, List.set_cons_succ]
                  refine wpAnyH_take (i := 50) (oi := { dst := some 142, op := Op.pick (Operand.tmp 139) (Operand.tmp 141) (Operand.const (Value.bool false)), type := 4, pos := "law.go:231", after := #[{ on := 47, ground := Ground.data }, { on := 49, ground := Ground.data }, { on := 43, ground := Ground.guard }], guard := some (43, false) }) (v := .bool false) rfl (by kernel_rfl) (by kernel_rfl) (by kernel_rfl) (fun _ _ _ h => h) (Or.inl ⟨by kernel_rfl, fun wz hz => by kernel_rfl⟩) g3 ?_
                  try simp only [Act.put, List.setIfInBounds_toArray, List.set_cons_zero, List.set_cons_succ]
                  refine wpAnyH_take (i := 51) (oi := { dst := some 143, op := Op.move (Operand.tmp 142), type := 4, pos := "law.go:231", after := #[{ on := 50, ground := Ground.data }, { on := 47, ground := Ground.chain }, { on := 43, ground := Ground.guard }], guard := some (43, false) }) (v := .bool false) rfl (by kernel_rfl) (by kernel_rfl) (by kernel_rfl) (fun _ _ _ h => h) (Or.inl ⟨by kernel_rfl, fun wz hz => by kernel_rfl⟩) g3 ?_
                  try simp only [Act.put, List.setIfInBounds_toArray, List.set_cons_zero, List.set_cons_succ]
                  refine wpAnyH_take (i := 52) (oi := { dst := some 144, op := Op.move (Operand.tmp 5), type := 25, pos := "law.go:231", after := #[{ on := 51, ground := Ground.guard }], guard := some (51, true) }) (v := undef) rfl (by kernel_rfl) (by kernel_rfl) (by kernel_rfl) (fun _ _ _ h => h) (Or.inr ⟨by kernel_rfl, rfl⟩) g3 ?_
                  try simp only [Act.put, List.setIfInBounds_toArray, List.set_cons_zero, List.set_cons_succ]
                  refine wpAnyH_take (i := 53) (oi := { dst := some 145, op := Op.call { callee := Callee.value (Operand.func 17), args := #[Operand.tmp 144], argTypes := #[25] }, type := 3, pos := "law.go:231", after := #[{ on := 52, ground := Ground.data }, { on := 51, ground := Ground.chain }, { on := 51, ground := Ground.guard }], guard := some (51, true) }) (v := undef) rfl (by kernel_rfl) (by kernel_rfl) (by kernel_rfl) (fun _ _ _ h => h) (Or.inr ⟨by kernel_rfl, rfl⟩) g3 ?_
                  try simp only [Act.put, List.setIfInBounds_toArray, List.set_cons_zero, List.set_cons_succ]
                  refine wpAnyH_take (i := 54) (oi := { dst := some 146, op := Op.move (Operand.tmp 9), type := 3, pos := "law.go:231", after := #[{ on := 51, ground := Ground.guard }], guard := some (51, true) }) (v := undef) rfl (by kernel_rfl) (by kernel_rfl) (by kernel_rfl) (fun _ _ _ h => h) (Or.inr ⟨by kernel_rfl, rfl⟩) g3 ?_
                  try simp only [Act.put, List.setIfInBounds_toArray, List.set_cons_zero, List.set_cons_succ]
                  refine wpAnyH_take (i := 55) (oi := { dst := some 147, op := Op.binOp BinOp.neq 3 (Operand.tmp 145) (Operand.tmp 146) 3, type := 4, pos := "law.go:231", after := #[{ on := 53, ground := Ground.data }, { on := 54, ground := Ground.data }, { on := 51, ground := Ground.guard }], guard := some (51, true) }) (v := undef) rfl (by kernel_rfl) (by kernel_rfl) (by kernel_rfl) (fun _ _ _ h => h) (Or.inr ⟨by kernel_rfl, rfl⟩) g3 ?_
                  try simp only [Act.put, List.setIfInBounds_toArray, List.set_cons_zero, List.set_cons_succ]
                  refine wpAnyH_take (i := 56) (oi := { dst := some 148, op := Op.pick (Operand.tmp 143) (Operand.tmp 147) (Operand.const (Value.bool false)), type := 4, pos := "law.go:231", after := #[{ on := 51, ground := Ground.data }, { on := 55, ground := Ground.data }, { on := 43, ground := Ground.guard }], guard := some (43, false) }) (v := .bool false) rfl (by kernel_rfl) (by kernel_rfl) (by kernel_rfl) (fun _ _ _ h => h) (Or.inl ⟨by kernel_rfl, fun wz hz => by kernel_rfl⟩) g3 ?_
                  try simp only [Act.put, List.setIfInBounds_toArray, List.set_cons_zero, List.set_cons_succ]
                  refine wpAnyH_take (i := 57) (oi := { dst := some 149, op := Op.pick (Operand.tmp 135) (Operand.const (Value.bool true)) (Operand.tmp 148), type := 4, pos := "law.go:231", after := #[{ on := 43, ground := Ground.data }, { on := 56, ground := Ground.data }], guard := none }) (v := .bool false) rfl (by kernel_rfl) (by kernel_rfl) (by kernel_rfl) (fun _ _ _ h => h) (Or.inl ⟨by kernel_rfl, fun wz hz => by kernel_rfl⟩) g3 ?_
                  try simp only [Act.put, List.setIfInBounds_toArray, List.set_cons_zero, List.set_cons_succ]
                  refine wpAnyH_done (by kernel_rfl) ?_ _
                  have HZ := Lib.hid (K10.out.to HIW.out HRW.out)
                  clear g0 g1 g2 g3 K8 K9 K10 hH hH2 hH3 hm2 hw2 hw3 HV3 HL3 HK3
                  go_wp2_with fail
                  go_round
                  case rel => exact ⟨k + 1, S', by omega, by go_num, HZ⟩
                  case measure => simp [intOf]; omega
              have q0 : (c.kind == 0) = false := beq_eq_false_iff_ne.2 hq
              have q1 : (c.kind == 1) = false := beq_eq_false_iff_ne.2 hq1
              have q3 : (c.kind == 3) = false := beq_eq_false_iff_ne.2 hq3
              as_aux_lemma =>
                obtain ⟨Y, G, y0, hy0, hG1, hG2⟩ := rk_cls K8.out
                have hne : Nonempty Y := ⟨y0⟩
                have HG1 := Lib.hid hG1
                have g0 : ∀ y, (G y).cell? ⟨wr.heap.size, 0, none⟩ = some (.int .i64 c.kind) := fun y => cellOf (HG1.out y).box 0
                have g2 : ∀ y, (G y).cell? ⟨wr.heap.size, 2, none⟩ = some (.string (mkS c.s)) := fun y => cellOf (HG1.out y).box 2
                clear hG1 hG2
                go_wp2_with fail
                refine region_in (by kernel_rfl) (by kernel_rfl) G y0 hy0 ?_
                repeat (go_big_quiet_step (fail))
                refine wpQuiet_nil ?_
                rintro _ ⟨y, rfl⟩
                have HZ := Lib.hid ((HG1.out y).to HIW.out HRW.out)
                clear g0 g2 hy0 HG1 K8
                go_wp2_with fail
                go_round
                case rel => exact ⟨k + 1, S', by omega, by go_num, HZ⟩
                case measure => simp [intOf]; omega
            by_cases he7 : ec = 7
            · subst he7
              go_wp2_with fail
              refine (does_k J4.out HIV.out (by omega) HSZ.out.1 HSZ.out.2 HDO.out (ev := 7) (by omega)).mono ?_
              rintro e w6 ⟨rfl, hj⟩
              have K6 := Lib.hid hj
              clear hj J4 b0 b1 b2 b3 b4
              go_wp2_with fail
              refine (rk_used K6.out HIW.out (v := (u' : Int)) (by rw [HU2.out])).mono ?_
              rintro e w7 ⟨rfl, hj⟩
              have K7 := Lib.hid hj
              clear hj K6
              go_wp2_with fail
              refine (rk_list K7.out HIW.out HN2.out).mono ?_
              rintro e w8 ⟨A8, p8, rfl, hj⟩
              have K8 := Lib.hid hj
              clear hj K7
              by_cases hq : c.kind = 0
              · as_aux_lemma =>
                  obtain ⟨Y, G, y0, hy0, hG1, hG2⟩ := rk_cls K8.out
                  have hne : Nonempty Y := ⟨y0⟩
                  have HG1 := Lib.hid hG1
                  have g0 : ∀ y, (G y).cell? ⟨wr.heap.size, 0, none⟩ = some (.int .i64 0) := fun y => by rw [← hq]; exact cellOf (HG1.out y).box 0
                  have g2 : ∀ y, (G y).cell? ⟨wr.heap.size, 2, none⟩ = some (.string (mkS c.s)) := fun y => cellOf (HG1.out y).box 2
                  have hms := mkS_size c.s
                  have hw1 : IntKind.i64.wrap ((u : Int) + (c.s.length : Int)) = (u : Int) + (c.s.length : Int) := IntWalk.i64_in _ (by omega)
                  clear hG1 hG2
                  go_wp2_with fail
                  refine region_in (by kernel_rfl) (by kernel_rfl) G y0 hy0 ?_
                  repeat (go_big_quiet_step (fail))
                  refine wpQuiet_nil ?_
                  rintro _ ⟨y, rfl⟩
                  have HZ := Lib.hid ((HG1.out y).to HIW.out HRW.out)
                  clear g0 g2 hy0 HG1 K8
                  go_wp2_with fail
                  go_round
                  case rel => exact ⟨k + 1, S', by omega, by go_num, HZ⟩
                  case measure => simp [intOf]; omega
              by_cases hq1 : c.kind = 1
              · have hq := hq1
                as_aux_lemma =>
                  obtain ⟨Y, G, y0, hy0, hG1, hG2⟩ := rk_cls K8.out
                  have hne : Nonempty Y := ⟨y0⟩
                  have HG1 := Lib.hid hG1
                  have g0 : ∀ y, (G y).cell? ⟨wr.heap.size, 0, none⟩ = some (.int .i64 1) := fun y => by rw [← hq]; exact cellOf (HG1.out y).box 0
                  have g2 : ∀ y, (G y).cell? ⟨wr.heap.size, 2, none⟩ = some (.string (mkS c.s)) := fun y => cellOf (HG1.out y).box 2
                  clear hG1 hG2
                  go_wp2_with fail
                  refine region_in (by kernel_rfl) (by kernel_rfl) G y0 hy0 ?_
                  repeat (go_big_quiet_step (fail))
                  refine wpQuiet_nil ?_
                  rintro _ ⟨y, rfl⟩
                  have HZ := Lib.hid ((HG1.out y).to HIW.out HRW.out)
                  clear g0 g2 hy0 HG1 K8
                  go_wp2_with fail
                  go_round
                  case rel => exact ⟨k + 1, S', by omega, by go_num, HZ⟩
                  case measure => simp [intOf]; omega
              by_cases hq3 : c.kind = 3
              · have hq := hq3
                as_aux_lemma =>
                  obtain ⟨Y, G, y0, hy0, hG1, hG2⟩ := rk_cls K8.out
                  have hne : Nonempty Y := ⟨y0⟩
                  have HG1 := Lib.hid hG1
                  have g0 : ∀ y, (G y).cell? ⟨wr.heap.size, 0, none⟩ = some (.int .i64 3) := fun y => by rw [← hq]; exact cellOf (HG1.out y).box 0
                  have g2 : ∀ y, (G y).cell? ⟨wr.heap.size, 2, none⟩ = some (.string (mkS c.s)) := fun y => cellOf (HG1.out y).box 2
                  clear hG1 hG2
                  go_wp2_with fail
                  refine region_in (by kernel_rfl) (by kernel_rfl) G y0 hy0 ?_
                  repeat (go_big_quiet_step (fail))
                  refine wpQuiet_nil ?_
                  rintro _ ⟨y, rfl⟩
                  have HZ := Lib.hid ((HG1.out y).to HIW.out HRW.out)
                  clear g0 g2 hy0 HG1 K8
                  go_wp2_with fail
                  go_round
                  case rel => exact ⟨k + 1, S', by omega, by go_num, HZ⟩
                  case measure => simp [intOf]; omega
              have q0 : (c.kind == 0) = false := beq_eq_false_iff_ne.2 hq
              have q1 : (c.kind == 1) = false := beq_eq_false_iff_ne.2 hq1
              have q3 : (c.kind == 3) = false := beq_eq_false_iff_ne.2 hq3
              as_aux_lemma =>
                obtain ⟨Y, G, y0, hy0, hG1, hG2⟩ := rk_cls K8.out
                have hne : Nonempty Y := ⟨y0⟩
                have HG1 := Lib.hid hG1
                have g0 : ∀ y, (G y).cell? ⟨wr.heap.size, 0, none⟩ = some (.int .i64 c.kind) := fun y => cellOf (HG1.out y).box 0
                have g2 : ∀ y, (G y).cell? ⟨wr.heap.size, 2, none⟩ = some (.string (mkS c.s)) := fun y => cellOf (HG1.out y).box 2
                clear hG1 hG2
                go_wp2_with fail
                refine region_in (by kernel_rfl) (by kernel_rfl) G y0 hy0 ?_
                repeat (go_big_quiet_step (fail))
                refine wpQuiet_nil ?_
                rintro _ ⟨y, rfl⟩
                have HZ := Lib.hid ((HG1.out y).to HIW.out HRW.out)
                clear g0 g2 hy0 HG1 K8
                go_wp2_with fail
                go_round
                case rel => exact ⟨k + 1, S', by omega, by go_num, HZ⟩
                case measure => simp [intOf]; omega
            have z0 : ((ec : Int) == 0) = false := by rw [beq_eq_false_iff_ne]; omega
            have z7 : ((ec : Int) == 7) = false := by rw [beq_eq_false_iff_ne]; omega
            have HUS := Lib.hid (show u' = u by rw [← HU2.out, HSA.out he0 he7, HU.out])
            have HNS := Lib.hid (show n' = n by rw [← HN2.out, HSA.out he0 he7, HN.out])
            go_wp2_with fail
            refine (does_k J4.out HIV.out (by omega) HSZ.out.1 HSZ.out.2 HDO.out (ev := (ec : Int)) (by omega)).mono ?_
            rintro e w6 ⟨rfl, hj⟩
            have K6 := Lib.hid hj
            clear hj J4 b0 b1 b2 b3 b4
            go_wp2_with fail
            refine (rk_used K6.out HIW.out (v := (u' : Int)) (by rw [HU2.out])).mono ?_
            rintro e w7 ⟨rfl, hj⟩
            have K7 := Lib.hid hj
            clear hj K6
            go_wp2_with fail
            refine (rk_list K7.out HIW.out HN2.out).mono ?_
            rintro e w8 ⟨A8, p8, rfl, hj⟩
            have K8 := Lib.hid hj
            clear hj K7
            go_wp2_with fail
            refine (rk_used K8.out HIW.out (v := (u : Int)) (by rw [HU2.out, HUS.out])).mono ?_
            rintro e w9 ⟨rfl, hj⟩
            have K9 := Lib.hid hj
            clear hj K8
            go_wp2_with fail
            refine (rk_list K9.out HIW.out (n := n) (by rw [HN2.out, HNS.out])).mono ?_
            rintro e w10 ⟨A10, p10, rfl, hj⟩
            have K8 := Lib.hid hj
            clear hj K9
            by_cases hq : c.kind = 0
            · as_aux_lemma =>
                obtain ⟨Y, G, y0, hy0, hG1, hG2⟩ := rk_cls K8.out
                have hne : Nonempty Y := ⟨y0⟩
                have HG1 := Lib.hid hG1
                have g0 : ∀ y, (G y).cell? ⟨wr.heap.size, 0, none⟩ = some (.int .i64 0) := fun y => by rw [← hq]; exact cellOf (HG1.out y).box 0
                have g2 : ∀ y, (G y).cell? ⟨wr.heap.size, 2, none⟩ = some (.string (mkS c.s)) := fun y => cellOf (HG1.out y).box 2
                have hms := mkS_size c.s
                have hw1 : IntKind.i64.wrap ((u : Int) + (c.s.length : Int)) = (u : Int) + (c.s.length : Int) := IntWalk.i64_in _ (by omega)
                clear hG1 hG2
                go_wp2_with fail
                refine region_in (by kernel_rfl) (by kernel_rfl) G y0 hy0 ?_
                repeat (go_big_quiet_step (fail))
                refine wpQuiet_nil ?_
                rintro _ ⟨y, rfl⟩
                have HZ := Lib.hid ((HG1.out y).to HIW.out HRW.out)
                clear g0 g2 hy0 HG1 K8
                go_wp2_with fail
                go_round
                case rel => exact ⟨k + 1, S', by omega, by go_num, HZ⟩
                case measure => simp [intOf]; omega
            by_cases hq1 : c.kind = 1
            · have hq := hq1
              as_aux_lemma =>
                obtain ⟨Y, G, y0, hy0, hG1, hG2⟩ := rk_cls K8.out
                have hne : Nonempty Y := ⟨y0⟩
                have HG1 := Lib.hid hG1
                have g0 : ∀ y, (G y).cell? ⟨wr.heap.size, 0, none⟩ = some (.int .i64 1) := fun y => by rw [← hq]; exact cellOf (HG1.out y).box 0
                have g2 : ∀ y, (G y).cell? ⟨wr.heap.size, 2, none⟩ = some (.string (mkS c.s)) := fun y => cellOf (HG1.out y).box 2
                clear hG1 hG2
                go_wp2_with fail
                refine region_in (by kernel_rfl) (by kernel_rfl) G y0 hy0 ?_
                repeat (go_big_quiet_step (fail))
                refine wpQuiet_nil ?_
                rintro _ ⟨y, rfl⟩
                have HZ := Lib.hid ((HG1.out y).to HIW.out HRW.out)
                clear g0 g2 hy0 HG1 K8
                go_wp2_with fail
                go_round
                case rel => exact ⟨k + 1, S', by omega, by go_num, HZ⟩
                case measure => simp [intOf]; omega
            by_cases hq3 : c.kind = 3
            · have hq := hq3
              as_aux_lemma =>
                obtain ⟨Y, G, y0, hy0, hG1, hG2⟩ := rk_cls K8.out
                have hne : Nonempty Y := ⟨y0⟩
                have HG1 := Lib.hid hG1
                have g0 : ∀ y, (G y).cell? ⟨wr.heap.size, 0, none⟩ = some (.int .i64 3) := fun y => by rw [← hq]; exact cellOf (HG1.out y).box 0
                have g2 : ∀ y, (G y).cell? ⟨wr.heap.size, 2, none⟩ = some (.string (mkS c.s)) := fun y => cellOf (HG1.out y).box 2
                clear hG1 hG2
                go_wp2_with fail
                refine region_in (by kernel_rfl) (by kernel_rfl) G y0 hy0 ?_
                repeat (go_big_quiet_step (fail))
                refine wpQuiet_nil ?_
                rintro _ ⟨y, rfl⟩
                have HZ := Lib.hid ((HG1.out y).to HIW.out HRW.out)
                clear g0 g2 hy0 HG1 K8
                go_wp2_with fail
                go_round
                case rel => exact ⟨k + 1, S', by omega, by go_num, HZ⟩
                case measure => simp [intOf]; omega
            have q0 : (c.kind == 0) = false := beq_eq_false_iff_ne.2 hq
            have q1 : (c.kind == 1) = false := beq_eq_false_iff_ne.2 hq1
            have q3 : (c.kind == 3) = false := beq_eq_false_iff_ne.2 hq3
            as_aux_lemma =>
              obtain ⟨Y, G, y0, hy0, hG1, hG2⟩ := rk_cls K8.out
              have hne : Nonempty Y := ⟨y0⟩
              have HG1 := Lib.hid hG1
              have g0 : ∀ y, (G y).cell? ⟨wr.heap.size, 0, none⟩ = some (.int .i64 c.kind) := fun y => cellOf (HG1.out y).box 0
              have g2 : ∀ y, (G y).cell? ⟨wr.heap.size, 2, none⟩ = some (.string (mkS c.s)) := fun y => cellOf (HG1.out y).box 2
              clear hG1 hG2
              go_wp2_with fail
              refine region_in (by kernel_rfl) (by kernel_rfl) G y0 hy0 ?_
              repeat (go_big_quiet_step (fail))
              refine wpQuiet_nil ?_
              rintro _ ⟨y, rfl⟩
              have HZ := Lib.hid ((HG1.out y).to HIW.out HRW.out)
              clear g0 g2 hy0 HG1 K8
              go_wp2_with fail
              go_round
              case rel => exact ⟨k + 1, S', by omega, by go_num, HZ⟩
              case measure => simp [intOf]; omega
          · go_wp2_with fail
            go_ret
            exact ⟨rfl, HC.out.below⟩
end Go.Proofs.Ytdjgjmbgcjhnpaa
