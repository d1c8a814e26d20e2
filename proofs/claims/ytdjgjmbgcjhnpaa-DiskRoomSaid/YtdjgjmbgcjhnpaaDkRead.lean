/-
  The walks of Read and Waits.
-/
import Derived.Test.YtdjgjmbgcjhnpaaDkFail
namespace Go.Proofs.Ytdjgjmbgcjhnpaa
set_option maxRecDepth 100000
open Go.RowKit
theorem find_uniq : ∀ {l : List Fl}, uniq l → ∀ {f : Fl}, f ∈ l → l.find? (fun x => x.name == f.name) = some f
  | [], _, f, h => by cases h
  | y :: r, hu, f, h => by
    rw [uniq, List.map_cons, List.nodup_cons] at hu
    rcases List.mem_cons.1 h with rfl | h'
    · simp
    · have hne : (y.name == f.name) = false := by
        rw [beq_eq_false_iff_ne]
        intro e
        exact hu.1 (by rw [e]; exact List.mem_map_of_mem (f := fun f => f.name) h')
      rw [List.find?_cons, hne]
      exact find_uniq hu.2 h'
theorem find_none {l : List Fl} {n : Txt} (h : hasF l n = false) : l.find? (fun x => x.name == n) = none := by
  rw [List.find?_eq_none]
  intro x hx
  rw [hasF, List.any_eq_false] at h
  exact h x hx
theorem DA.find {w : World} {B lim b m : Nat} {S : Dk} {F : List Gd} (h : DA w B lim b m S F) {g : Gd} (hg : g ∈ F) : S.fs.find? (fun x => x.name == g.name) = some g.core :=
  find_uniq h.uniq (f := g.core) (h.fs.mem_iff.1 (List.mem_map_of_mem hg))
theorem find_zero {S : Dk} {n : Txt} (h : findE S n = 0) : readyE S n = 0 ∧ hasF S.fs n = true := by
  rw [findE] at h
  by_cases hr : readyE S n = 0
  · rw [if_neg (by simp [hr])] at h
    cases hh : hasF S.fs n
    · rw [hh] at h; simp at h
    · exact ⟨hr, rfl⟩
  · rw [if_pos hr] at h; exact absurd h hr
set_option maxHeartbeats 1000000 in
theorem read_x {w : World} {B lim b m : Nat} {S : Dk} {F : List Gd} (h : DA w B lim b m S F) (n : Txt) (hl : n.length ≤ 140737488355328) :
    Calls Try.prog 18 #[.pointer (some ⟨b, 0, none⟩), .string (mkS n)] w fun e w' => e = .returned (.tuple #[.string (mkS (readD S n)), .int .i64 (findE S n : Int)]) ∧ Below w.heap.size w w' := by
  by_cases hc : findE S n = 0
  · obtain ⟨_, hh⟩ := find_zero hc
    obtain ⟨g, R, hp, rfl⟩ := h.has_mem hh
    have hd := h.perm hp
    have HB := Lib.hid (show readD S g.name = g.byt by rw [readD, if_neg (by simp [hc]), bytF, hd.find (g := g) (by simp)]; rfl)
    have HF := Lib.hid (find_yes hd hl hc)
    have HD := Lib.hid hd
    have HC := Lib.hid hc
    clear hd hp hl hh hc h
    generalize readD S g.name = rd at HB
    generalize findE S g.name = fe at HC
    go_enter Try.func18, Try.ntmps18
    go_wp2_with fail
    refine HF.out.mono ?_
    rintro e w1 ⟨rfl, hb⟩
    have HG := Lib.hid ((HD.out.next hb).gs g (by simp))
    have H2 := Lib.hid hb
    clear hb
    obtain ⟨c0, c1⟩ := HG.out.cells
    have hconv := conv_own HG.out.own
    go_wp2_with fail
    go_ret2
    exact ⟨by rw [HB.out, HC.out]; rfl, H2.out⟩
  · have HB := Lib.hid (show readD S n = [] by rw [readD, if_pos hc])
    have HF := Lib.hid (find_no h n hl (findE S n) rfl hc)
    have d1 : ((findE S n : Int) != 0) = true := by rw [bne_iff_ne]; omega
    clear h hl hc
    generalize readD S n = rd at HB
    generalize findE S n = fe at HF d1
    go_enter Try.func18, Try.ntmps18
    go_wp2_with fail
    refine HF.out.mono ?_
    rintro e w1 ⟨rfl, hb⟩
    have H2 := Lib.hid hb
    clear hb
    go_wp2_with fail
    go_ret2
    exact ⟨by rw [HB.out]; rfl, H2.out⟩
set_option maxHeartbeats 1000000 in
theorem waits_x {w : World} {B lim b m : Nat} {S : Dk} {F : List Gd} (h : DA w B lim b m S F) (n : Txt) (hl : n.length ≤ 140737488355328) (hu : usedF S.fs ≤ 1000000000) :
    Calls Try.prog 21 #[.pointer (some ⟨b, 0, none⟩), .string (mkS n)] w fun e w' => e = .returned (.int .i64 (waitF S.fs n : Int)) ∧ Below w.heap.size w w' := by
  obtain ⟨_, c1, _, _, _, _⟩ := h.cells
  cases hh : hasF S.fs n
  · have hlook := h.map.look_no (n := n) (by intro p hp; obtain ⟨g, hg, rfl⟩ := List.mem_map.1 hp; exact h.has_none hh g hg) hl
    have HB := Lib.hid (show waitF S.fs n = 0 by rw [waitF, find_none hh]; rfl)
    clear h hl hu hh
    go_enter Try.func21, Try.ntmps21
    go_wp2_with fail
    go_ret
    exact ⟨ret_int (by rw [HB.out]; rfl), Below.refl _ _⟩
  · obtain ⟨g, R, hp, rfl⟩ := h.has_mem hh
    have hd := h.perm hp
    have HB := Lib.hid (show waitF S.fs g.name = g.byt.length - g.syn by rw [waitF, hd.find (g := g) (by simp)]; rfl)
    have hlook := hd.map.look_yes (n := g.name) (a := g.adr) (by simp [Gd.ent]) hl
    have HW := Lib.hid (dwaits_x (hd.gs g (by simp)) (by have := hd.len_le (g := g) (by simp); omega))
    clear hd hp hl hh h hu
    generalize g.byt.length - g.syn = Wt at HW HB
    go_enter Try.func21, Try.ntmps21
    go_wp2_with fail
    refine HW.out.mono ?_
    rintro e w1 ⟨rfl, hb⟩
    have H2 := Lib.hid hb
    clear hb
    go_wp2_with fail
    go_ret
    exact ⟨ret_int (by rw [HB.out]), H2.out⟩
end Go.Proofs.Ytdjgjmbgcjhnpaa
