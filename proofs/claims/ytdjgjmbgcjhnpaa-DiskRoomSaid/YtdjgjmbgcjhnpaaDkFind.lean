/-
  The walks of ready, find, waits, Waits, Down, Changes, Start, Read.
-/
import Derived.Test.YtdjgjmbgcjhnpaaDkName
namespace Go.Proofs.Ytdjgjmbgcjhnpaa
set_option maxRecDepth 100000
open Go.RowKit
theorem DA.cells {w : World} {B lim b m : Nat} {S : Dk} {F : List Gd} (h : DA w B lim b m S F) :
    w.cell? ⟨b, 0, none⟩ = some (.int .i64 (S.room : Int)) ∧ w.cell? ⟨b, 1, none⟩ = some (.map (some m)) ∧ w.cell? ⟨b, 2, none⟩ = some (.bool S.off) ∧ w.cell? ⟨b, 3, none⟩ = some (.int .i64 S.at_) ∧ w.cell? ⟨b, 4, none⟩ = some (.int .i64 S.keep) ∧ w.cell? ⟨b, 5, none⟩ = some (.int .i64 (S.chg : Int)) :=
  ⟨cellOf h.blk 0, cellOf h.blk 1, cellOf h.blk 2, cellOf h.blk 3, cellOf h.blk 4, cellOf h.blk 5⟩
theorem GAt.cells {w : World} {B lim : Nat} {g : Gd} (h : GAt w B lim g) : w.cell? ⟨g.adr, 0, none⟩ = some g.v ∧ w.cell? ⟨g.adr, 1, none⟩ = some (.int .i64 (g.syn : Int)) := ⟨cellOf h.blk 0, cellOf h.blk 1⟩
set_option maxHeartbeats 1000000 in
theorem ready_x {w : World} {B lim b m : Nat} {S : Dk} {F : List Gd} (h : DA w B lim b m S F) (n : Txt) (hl : n.length ≤ 140737488355328) :
    Calls Try.prog 27 #[.pointer (some ⟨b, 0, none⟩), .string (mkS n)] w fun e w' => e = .returned (.int .i64 (readyE S n : Int)) ∧ Below w.heap.size w w' := by
  have HV := Lib.hid (show readyE S n = if S.off then 7 else if okN n then 0 else 2 from rfl)
  obtain ⟨_, _, c2, _, _, _⟩ := h.cells
  have HC := Lib.hid (fun w => dright_x n w hl)
  generalize okN n = q at HC HV
  cases ho : S.off <;> rw [ho] at c2 HV
  · cases q
    · go_enter Try.func27, Try.ntmps27
      go_wp2_with (go_at_call 40; refine (HC.out _).mono ?_; rintro e w1 ⟨rfl, hb⟩)
      have H2 := Lib.hid hb
      clear hb
      go_wp2_with fail
      go_ret
      exact ⟨ret_int (by rw [HV.out]; rfl), H2.out⟩
    · go_enter Try.func27, Try.ntmps27
      go_wp2_with (go_at_call 40; refine (HC.out _).mono ?_; rintro e w1 ⟨rfl, hb⟩)
      have H2 := Lib.hid hb
      clear hb
      go_wp2_with fail
      go_ret
      exact ⟨ret_int (by rw [HV.out]; rfl), H2.out⟩
  · go_enter Try.func27, Try.ntmps27
    go_wp2_with fail
    go_ret
    exact ⟨ret_int (by rw [HV.out]; rfl), Below.refl _ _⟩
set_option maxHeartbeats 1000000 in
theorem find_no {w : World} {B lim b m : Nat} {S : Dk} {F : List Gd} (h : DA w B lim b m S F) (n : Txt) (hl : n.length ≤ 140737488355328) (c : Nat) (hc : findE S n = c) (h0 : c ≠ 0) :
    Calls Try.prog 31 #[.pointer (some ⟨b, 0, none⟩), .string (mkS n)] w fun e w' => e = .returned (.tuple #[.pointer none, .int .i64 (c : Int)]) ∧ Below w.heap.size w w' := by
  have HV := Lib.hid (show c = if readyE S n ≠ 0 then readyE S n else if hasF S.fs n then 0 else 4 by rw [← hc]; rfl)
  have HR := Lib.hid (ready_x h n hl)
  have HD := Lib.hid h
  have HL := Lib.hid hl
  have HN := Lib.hid (fun hh => h.has_none (n := n) hh)
  have H0 := Lib.hid h0
  clear h hc hl h0
  generalize readyE S n = r at HR HV
  by_cases hr : r = 0
  · subst hr
    cases hh : hasF S.fs n
    · have HC := Lib.hid (show c = 4 by rw [HV.out, hh]; rfl)
      have HN2 := Lib.hid (HN.out hh)
      clear HV HN hh H0
      go_enter Try.func31, Try.ntmps31
      go_wp2_with fail
      refine (HR.out).mono ?_
      rintro e w1 ⟨rfl, hb⟩
      have HD1 := Lib.hid (HD.out.next hb)
      have H2 := Lib.hid hb
      clear hb
      obtain ⟨_, c1, _, _, _, _⟩ := HD1.out.cells
      have hlook := HD1.out.map.look_no (n := n) (by intro p hp; obtain ⟨g, hg, rfl⟩ := List.mem_map.1 hp; exact HN2.out g hg) HL.out
      go_wp2_with fail
      go_ret2
      exact ⟨by rw [HC.out]; rfl, H2.out⟩
    · exact absurd (by rw [HV.out, hh]; rfl) H0.out
  · have HC := Lib.hid (show c = r by rw [HV.out, if_pos hr])
    have d1 : ((r : Int) != 0) = true := by rw [bne_iff_ne]; omega
    clear HV HN H0
    go_enter Try.func31, Try.ntmps31
    go_wp2_with fail
    refine (HR.out).mono ?_
    rintro e w1 ⟨rfl, hb⟩
    have H2 := Lib.hid hb
    clear hb
    go_wp2_with fail
    go_ret2
    exact ⟨by rw [HC.out]; rfl, H2.out⟩
set_option maxHeartbeats 1000000 in
theorem find_yes {w : World} {B lim b m : Nat} {S : Dk} {g : Gd} {R : List Gd} (h : DA w B lim b m S (g :: R)) (hl : g.name.length ≤ 140737488355328) (hc : findE S g.name = 0) :
    Calls Try.prog 31 #[.pointer (some ⟨b, 0, none⟩), .string (mkS g.name)] w fun e w' => e = .returned (.tuple #[.pointer (some ⟨g.adr, 0, none⟩), .int .i64 0]) ∧ Below w.heap.size w w' := by
  have HR := Lib.hid (ready_x h g.name hl)
  have HD := Lib.hid h
  have HL := Lib.hid hl
  have hr0 : readyE S g.name = 0 := by
    rw [findE] at hc
    by_cases hr : readyE S g.name = 0
    · exact hr
    · rw [if_pos hr] at hc; exact absurd hc hr
  rw [hr0] at HR
  clear h hc hl hr0
  go_enter Try.func31, Try.ntmps31
  go_wp2_with fail
  refine (HR.out).mono ?_
  rintro e w1 ⟨rfl, hb⟩
  have HD1 := Lib.hid (HD.out.next hb)
  have H2 := Lib.hid hb
  clear hb
  obtain ⟨_, c1, _, _, _, _⟩ := HD1.out.cells
  have hlook := HD1.out.map.look_yes (n := g.name) (a := g.adr) (by simp [Gd.ent]) HL.out
  go_wp2_with fail
  go_ret2
  exact ⟨rfl, H2.out⟩
set_option maxHeartbeats 1000000 in
theorem dwaits_x {w : World} {B lim : Nat} {g : Gd} (h : GAt w B lim g) (hl : g.byt.length ≤ 140737488355328) :
    Calls Try.prog 34 #[.pointer (some ⟨g.adr, 0, none⟩)] w fun e w' => e = .returned (.int .i64 ((g.byt.length - g.syn : Nat) : Int)) ∧ Below w.heap.size w w' := by
  obtain ⟨c0, c1⟩ := h.cells
  have hs := h.syn
  obtain ⟨A, c, hv⟩ := own_slice h.own
  rw [hv] at c0
  generalize g.byt.length = L at *
  go_enter Try.func34, Try.ntmps34
  go_wp2_with fail
  go_quiet (fail)
  go_wp2_with fail
  go_ret
  exact ⟨ret_int (by rw [Int.ofNat_sub hs]), below_drewN (Below.refl _ w) _⟩
set_option maxHeartbeats 1000000 in
theorem settle_x {w : World} {B lim : Nat} {g : Gd} (h : GAt w B lim g) :
    Calls Try.prog 32 #[.pointer (some ⟨g.adr, 0, none⟩)] w fun e w' => e = .returned (.tuple #[]) ∧ w' = w.setCell ⟨g.adr, 1, none⟩ (.int .i64 (g.byt.length : Int)) := by
  obtain ⟨c0, c1⟩ := h.cells
  have f1 := freeOf h.blk 1
  obtain ⟨A, c, hv⟩ := own_slice h.own
  rw [hv] at c0
  generalize g.byt.length = L at *
  go_enter Try.func32, Try.ntmps32
  go_wp2_with fail
  go_end0
  exact ⟨rfl, rfl⟩
end Go.Proofs.Ytdjgjmbgcjhnpaa
