/-
  The walks of Used, Read, Waits.
-/
import Derived.Test.YtdjgjmbgcjhnpaaDkSee
namespace Go.Proofs.Ytdjgjmbgcjhnpaa
set_option maxRecDepth 100000
open Go.RowKit
/-- What is counted already: those that aren't to come. -/
def doneL (F : List Gd) (lf : Txt → Bool) : Nat := (F.map (fun g => if lf g.name then 0 else g.byt.length)).sum
theorem done_start (F : List Gd) : doneL F (fun z => (F.map Gd.ent).any fun p => p.1 == z) = 0 := by
  have : ∀ g ∈ F, (if ((F.map Gd.ent).any fun p => p.1 == g.name) then 0 else g.byt.length) = 0 := by
    intro g hg
    rw [if_pos]
    rw [List.any_eq_true]
    exact ⟨g.ent, List.mem_map.2 ⟨g, hg, rfl⟩, by simp [Gd.ent]⟩
  rw [doneL, List.map_congr_left this]
  clear this
  induction F with
  | nil => rfl
  | cons a l ih => rw [List.map_cons, List.sum_cons, ih]
theorem done_end (F : List Gd) {lf : Txt → Bool} (h : ∀ z, lf z = false) : doneL F lf = usedF (F.map Gd.core) := by
  rw [doneL, usedF, List.map_map]
  congr 1
  refine List.map_congr_left fun g _ => ?_
  rw [h]; rfl
theorem done_step {F : List Gd} (hn : (F.map Gd.name).Nodup) {g : Gd} (hg : g ∈ F) {lf : Txt → Bool} (hl : lf g.name = true) : doneL F (fun z => lf z && !(z == g.name)) = doneL F lf + g.byt.length := by
  induction F with
  | nil => cases hg
  | cons a l ih =>
    rw [List.map_cons, List.nodup_cons] at hn
    simp only [doneL, List.map_cons, List.sum_cons]
    rcases List.mem_cons.1 hg with rfl | hg'
    · have : ∀ x ∈ l, (if (lf x.name && !(x.name == g.name)) = true then 0 else x.byt.length) = (if lf x.name = true then 0 else x.byt.length) := by
        intro x hx
        have hne : (x.name == g.name) = false := by
          rw [beq_eq_false_iff_ne]
          intro e
          exact hn.1 (by rw [← e]; exact List.mem_map_of_mem hx)
        simp [hne]
      rw [List.map_congr_left this]
      simp [hl]
      omega
    · have h2 := ih hn.2 hg'
      simp only [doneL] at h2
      have hne : (a.name == g.name) = false := by
        rw [beq_eq_false_iff_ne]
        intro e
        exact hn.1 (by rw [e]; exact List.mem_map_of_mem hg')
      rw [h2]
      simp [hne]
      omega
theorem done_le {F : List Gd} (lf : Txt → Bool) : doneL F lf ≤ usedF (F.map Gd.core) := by
  induction F with
  | nil => exact Nat.le_refl _
  | cons a l ih =>
    simp only [doneL, usedF, List.map_cons, List.sum_cons] at ih ⊢
    split <;> simp only [Gd.core] <;> omega
theorem DA.len_le {w : World} {B lim b m : Nat} {S : Dk} {F : List Gd} (h : DA w B lim b m S F) {g : Gd} (hg : g ∈ F) : g.byt.length ≤ usedF S.fs := by
  rw [← used_perm h.fs]
  obtain ⟨l1, l2, rfl⟩ := List.append_of_mem hg
  simp only [usedF, List.map_append, List.map_cons, List.sum_append, List.sum_cons, Gd.core]
  omega
theorem below_iter {B r : Nat} {a b c : World} (h : Below B a b) (k : b.grownBy c (some r)) (hB : B ≤ b.heap.size) (hr : B ≤ r) : Below B a c :=
  h.grown k hB (fun j hj => by cases hj; exact hr)
/-- A range's step: which file has come. -/
structure Nxt (w w' : World) (m r cnt cnt' : Nat) (F : List Gd) (lf : Txt → Bool) (g : Gd) : Prop where
  mem : g ∈ F
  left : lf g.name = true
  it : It w' m r (F.map Gd.ent) (fun z => lf z && !(z == g.name)) cnt'
  lt : cnt' < cnt
  grown : w.grownBy w' (some r)
  size : w'.heap.size = w.heap.size
theorem wpList_next_g {P : Program} (hP : P = Try.prog) (w : World) {ops : Array Oper} {rest : List Oper} {o : Oper} {a : Act} {Q : Exit → Act → World → Prop} (hg : o.guard = none) (x : Operand) (hop : o.op = Op.next x false) (m r cnt : Nat) (F : List Gd) (lf : Txt → Bool)
    (hx : a.eval x = .pointer (some ⟨r, 0, none⟩)) (h : It w m r (F.map Gd.ent) lf cnt)
    (hDone : Hid (∀ z, lf z = false) → wpList P ops Q rest (a.put o.dst (.tuple #[.bool false])) w)
    (hMore : ∀ (g : Gd) (w' : World) (cnt' : Nat), Hid (Nxt w w' m r cnt cnt' F lf g) →
      (Instr.entry (.pointer (some ⟨r, 0, none⟩))).run P w' = .ok (.tuple #[.string (mkS g.name), ptrV g.adr]) w' → wpList P ops Q rest (a.put o.dst (.tuple #[.bool true, .string (mkS g.name), ptrV g.adr])) w') :
    wpList P ops Q (o :: rest) a w :=
  wpList_next_file hP w hg x hop m r cnt _ lf hx h (fun k => hDone (Lib.hid k)) fun n ad w' cnt' h1 h2 h3 h4 h5 h6 h7 h8 => by
    obtain ⟨g, hgF, hge⟩ := List.mem_map.1 h1
    simp only [Gd.ent, Prod.mk.injEq] at hge
    obtain ⟨rfl, rfl⟩ := hge
    exact hMore g w' cnt' (Lib.hid ⟨hgF, h2, h4, h5, h6, h7⟩) h8
set_option maxHeartbeats 2000000 in
theorem used_x {w : World} {B lim b m : Nat} {S : Dk} {F : List Gd} (h : DA w B lim b m S F) (hu : usedF S.fs ≤ 1000000000) :
    Calls Try.prog 17 #[.pointer (some ⟨b, 0, none⟩)] w fun e w' => e = .returned (.int .i64 (usedF S.fs : Int)) ∧ Below w.heap.size w w' := by
  obtain ⟨_, c1, _, _, _, _⟩ := h.cells
  have HD := Lib.hid h
  have HU := Lib.hid hu
  clear h hu
  go_enter Try.func17, Try.ntmps17
  go_wp2_with (at_range; refine wpList_range_file rfl _ rfl (.tmp 9) rfl m (F.map Gd.ent) rfl HD.out.map ?_; intro w0 hit0 hg0 hs0)
  go_frame
  go_loopw [3] (fun u wr => ∃ lf cnt, ∃ k : Nat, Hid (It wr m w.heap.size (F.map Gd.ent) lf cnt) ∧ u = .int .i64 (k : Int) ∧ k ≤ 1000000000 ∧ Hid (k = doneL F lf) ∧ Hid (Below w.heap.size w wr)) (fun _ wr => wr.rangeLeft m w.heap.size)
  case atStart => exact ⟨_, _, 0, Lib.hid hit0, rfl, by omega, Lib.hid (done_start F).symm, Lib.hid ((Below.refl _ w).grown hg0 (Nat.le_refl _) (fun j hj => by cases hj))⟩
  case round =>
    obtain ⟨lf, cnt, k, HI, rfl, hk, HK, HB⟩ := hrel
    go_wp2_with (at_next; refine wpList_next_g rfl _ rfl (.tmp 10) rfl m w.heap.size cnt F lf rfl HI.out ?_ ?_)
    · intro hl0
      have HE := Lib.hid (show k = usedF S.fs by rw [HK.out, done_end F hl0.out, used_perm HD.out.fs])
      clear hl0
      go_wp2_with fail
      go_ret
      exact ⟨ret_int (by rw [HE.out]), HB.out⟩
    · intro g w1 cnt1 HX hen
      have HB1 := Lib.hid (below_iter HB.out HX.out.grown HB.out.size (Nat.le_refl _))
      have HG := Lib.hid ((HD.out.next HB1.out).gs g HX.out.mem)
      obtain ⟨A, c, hv⟩ := own_slice HG.out.own
      have c0 := HG.out.cells.1
      rw [hv] at c0
      have HK1 := Lib.hid (show k + g.byt.length = doneL F (fun z => lf z && !(z == g.name)) by rw [done_step HD.out.nodup HX.out.mem HX.out.left, HK.out])
      have hk1 : k + g.byt.length ≤ 1000000000 := by
        have h1 := HK1.out
        have h2 := done_le (F := F) (fun z => lf z && !(z == g.name))
        rw [used_perm HD.out.fs] at h2
        have h3 := HU.out
        omega
      have HM := Lib.hid (show w1.rangeLeft m w.heap.size < wr.rangeLeft m w.heap.size by rw [HX.out.it.left_eq, HI.out.left_eq]; exact HX.out.lt)
      clear hv
      go_wp2_with fail
      go_round
      case rel => exact ⟨_, _, k + g.byt.length, Lib.hid HX.out.it, by go_num, hk1, HK1, HB1⟩
      case measure => exact HM.out
end Go.Proofs.Ytdjgjmbgcjhnpaa
