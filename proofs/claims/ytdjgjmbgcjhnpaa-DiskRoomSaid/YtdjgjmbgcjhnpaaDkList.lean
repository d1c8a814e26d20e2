/-
  The walk of List: the names, in whatever order they come, sorted.
-/
import Derived.Test.YtdjgjmbgcjhnpaaDkRead
import Derived.Sort.OwnSorted
namespace Go.Proofs.Ytdjgjmbgcjhnpaa
set_option maxRecDepth 100000
open Go.RowKit Go.Sort
/-- Who has come already. -/
def doneN (F : List Gd) (lf : Txt → Bool) : List Txt := (F.filter (fun g => !lf g.name)).map Gd.name
theorem doneN_start (F : List Gd) : doneN F (fun z => (F.map Gd.ent).any fun p => p.1 == z) = [] := by
  rw [doneN, List.filter_eq_nil_iff.2]
  · rfl
  · intro g hg
    have : ((F.map Gd.ent).any fun p => p.1 == g.name) = true := by
      rw [List.any_eq_true]
      exact ⟨g.ent, List.mem_map.2 ⟨g, hg, rfl⟩, by simp [Gd.ent]⟩
    rw [this]; simp
theorem doneN_end (F : List Gd) {lf : Txt → Bool} (h : ∀ z, lf z = false) : doneN F lf = F.map Gd.name := by
  rw [doneN, List.filter_eq_self.2]
  intro g _
  rw [h]; rfl
theorem doneN_step {F : List Gd} (hn : (F.map Gd.name).Nodup) {g : Gd} (hg : g ∈ F) {lf : Txt → Bool} (hl : lf g.name = true) : (doneN F lf ++ [g.name]).Perm (doneN F (fun z => lf z && !(z == g.name))) := by
  obtain ⟨l1, l2, rfl⟩ := List.append_of_mem hg
  have hne : ∀ x ∈ l1 ++ l2, (x.name == g.name) = false := by
    intro x hx
    rw [beq_eq_false_iff_ne]
    intro e
    have hp : ((l1 ++ g :: l2).map Gd.name).Perm ((g :: (l1 ++ l2)).map Gd.name) := List.perm_middle.map _
    have := hp.nodup_iff.1 hn
    rw [List.map_cons, List.nodup_cons] at this
    exact this.1 (by rw [← e]; exact List.mem_map_of_mem hx)
  have h1 : l1.filter (fun x => !(lf x.name && !(x.name == g.name))) = l1.filter (fun x => !lf x.name) := List.filter_congr fun x hx => by rw [hne x (by simp [hx])]; simp
  have h2 : l2.filter (fun x => !(lf x.name && !(x.name == g.name))) = l2.filter (fun x => !lf x.name) := List.filter_congr fun x hx => by rw [hne x (by simp [hx])]; simp
  rw [doneN, doneN, List.filter_append, List.filter_append, List.filter_cons, List.filter_cons, h1, h2, hl]
  simp only [Bool.not_true, Bool.false_eq_true, if_false, beq_self_eq_true, Bool.and_false, Bool.not_false, if_true, List.map_append, List.map_cons]
  rw [List.append_assoc]
  refine List.Perm.append_left _ ?_
  exact (List.perm_append_comm (l₁ := l2.filter (fun x => !lf x.name) |>.map Gd.name) (l₂ := [g.name]))
structure LI (w wr : World) (m : Nat) (F : List Gd) (lf : Txt → Bool) (cnt : Nat) (v : Value) (ss : List Txt) : Prop where
  it : It wr m w.heap.size (F.map Gd.ent) lf cnt
  own : wr.ownsRow (w.heap.size + 1) 9 1 v ss.length (strsV ss)
  perm : ss.Perm (doneN F lf)
  below : Below w.heap.size w wr
  size : w.heap.size + 1 ≤ wr.heap.size
theorem doneN_le (F : List Gd) (lf : Txt → Bool) : (doneN F lf).length ≤ F.length := by
  rw [doneN, List.length_map]; exact List.length_filter_le _ _
theorem own_iter {w w' : World} {B n size : Nat} {e : TypeId} {v : Value} {xs : List Value} {m r cnt : Nat} {L : List (Txt × Nat)} {lf : Txt → Bool} (h : w.ownsRow B e size v n xs) (hi : It w m r L lf cnt) (hg : w.grownBy w' (some r)) : w'.ownsRow B e size v n xs := by
  obtain ⟨es, n', left, hr, _⟩ := hi
  exact own_of h fun k hk => hg.block k (h.lt k hk).2 (fun e => row_ne_iter h hr (by rw [hk, e]))
/-- A row of texts, in one word. -/
structure RowT (w : World) (B : Nat) (v : Value) (l : List Txt) : Prop where
  own : w.ownsRow B 9 1 v l.length (strsV l)
theorem app_rowT {w0 w : World} {B : Nat} {ops : Array Oper} {rest : List Oper} {o : Oper} {a : Act} {Q : Exit → Act → World → Prop} (hgd : o.guard = none) (s x : Operand)
    (ho : o.op = .call { callee := .builtin .append, args := #[s, x], argTypes := #[36, 36] }) (v : Value) (l : List Txt) (hs : a.eval s = v) (hown : w.ownsRow B 9 1 v l.length (strsV l)) (hB : B ≤ w.heap.size) (hb : Below B w0 w) (u : Value) (news : List Txt) (hx : a.eval x = u) (hu : TxtsAt w u news) (h9 : l.length + news.length ≤ 10000000)
    (h : ∀ v' w', Hid (RowT w' B v' (l ++ news) ∧ Below B w0 w' ∧ w.heap.size ≤ w'.heap.size) → wpList Try.prog ops Q rest (a.put o.dst v') w') : wpList Try.prog ops Q (o :: rest) a w :=
  app_txts hgd s x ho B v l hs hown u news hx hu (by omega) hB fun v' w' h1 h2 _ => h v' w' (Lib.hid ⟨⟨h1⟩, hb.grown h2 hB (fun k hk => (hown.lt k hk).1), h2.size⟩)
/-- What List leaves. -/
def Listed (w : World) (S : Dk) (e : Ending) (w' : World) : Prop :=
  ∃ v ts, e = .returned v ∧ w'.ownsRow (w.heap.size + 1) 9 1 v ts.length (strsV ts) ∧ ts.Perm (S.fs.map (fun f => f.name)) ∧ Below w.heap.size w w'
theorem LI.sort {w wr : World} {m : Nat} {F : List Gd} {lf : Txt → Bool} {cnt : Nat} {v : Value} {ss : List Txt} (h : LI w wr m F lf cnt v ss) (hl : ss.length ≤ 1000000) :
    Calls Try.prog 26 #[v] wr fun e w' => e = .returned (.tuple #[]) ∧ ∃ ts, w'.ownsRow (w.heap.size + 1) 9 1 v ts.length (strsV ts) ∧ ts.Perm ss ∧ Below w.heap.size w w' := by
  rcases h.own.2 with ⟨rfl, h0⟩ | ⟨g, cap, cur, rfl, hbase, hb, h1, h2, h3, h4⟩
  · refine (Try.slices_Sort_string_none none 0 wr).mono ?_
    rintro e w' ⟨rfl, rfl⟩
    exact ⟨rfl, ss, h.own, List.Perm.refl _, h.below⟩
  · have hH : Holds encStr wr g 0 ss.toArray := holds_of_block hb (by have h := h4; rw [Nat.mul_one] at h; exact h)
    refine (Try.slices_Sort_string g 0 cap ss wr hH (ltOf hb) (by omega)).mono ?_
    rintro e w' ⟨rfl, n, os, rfl⟩
    have hp : (ss.mergeSort fun x y => decide (x ≤ y)).Perm ss := List.mergeSort_perm _ _
    have hr := ownsRow_sorted (n := n) (os := os) (ts := ss.mergeSort fun x y => decide (x ≤ y)) hp.length_eq hbase hb h1 h2 h3
    refine ⟨rfl, _, ?_, hp, h.below.grown (grownBy_sorted _) h.below.size (fun j hj => by cases hj; omega)⟩
    have key : ∀ n', n' = ss.length → (grow (putRow encStr (Sort.ahead wr n) g 0 (ss.mergeSort fun x y => decide (x ≤ y)).toArray) os).ownsRow (w.heap.size + 1) 9 1 (.slice (some ⟨g, 0, none⟩) ss.length cap) n' (strsV (ss.mergeSort fun x y => decide (x ≤ y))) := fun n' hn => by subst hn; exact hr
    exact key _ hp.length_eq
set_option maxHeartbeats 4000000 in
theorem list_x {w : World} {B lim b m : Nat} {S : Dk} {F : List Gd} (h : DA w B lim b m S F) (hF : S.fs.length ≤ 1000000) (hn : ∀ f ∈ S.fs, f.name.length ≤ 1000000000000) :
    Calls Try.prog 15 #[.pointer (some ⟨b, 0, none⟩)] w (Listed w S) := by
  obtain ⟨-, c1, -, -, -, -⟩ := h.cells
  have HD := Lib.hid h
  have HFl := Lib.hid (show F.length ≤ 1000000 by have := h.fs.length_eq; rw [List.length_map] at this; omega)
  have HPn := Lib.hid (show (F.map Gd.name).Perm (S.fs.map (fun f => f.name)) by have := h.fs.map (fun f => f.name); rw [List.map_map] at this; exact this)
  have HNl := Lib.hid (fun g (hg : g ∈ F) => show g.name.length ≤ 1000000000000 from hn g.core (h.fs.mem_iff.1 (List.mem_map_of_mem hg)))
  clear h hF hn
  go_enter Try.func15, Try.ntmps15
  go_wp2_with (at_range; refine wpList_range_file rfl _ rfl (.tmp 8) rfl m (F.map Gd.ent) rfl HD.out.map ?_; intro w0 hit0 hg0 hs0)
  go_frame
  go_loopw [3] (fun u wr => ∃ lf cnt ss, Hid (LI w wr m F lf cnt u ss)) (fun _ wr => wr.rangeLeft m w.heap.size)
  case atStart => exact ⟨_, _, [], Lib.hid ⟨hit0, strs_nil _ _, by rw [doneN_start], (Below.refl _ w).grown hg0 (Nat.le_refl _) (fun j hj => by cases hj), Nat.le_of_eq hs0.symm⟩⟩
  case round =>
    obtain ⟨lf, cnt, ss, HI⟩ := hrel
    have HSl := Lib.hid (show ss.length ≤ 1000000 by have h1 := HI.out.perm.length_eq; have h2 := doneN_le F lf; have h3 := HFl.out; omega)
    go_wp2_with (at_next; refine wpList_next_g rfl _ rfl (.tmp 9) rfl m w.heap.size cnt F lf rfl HI.out.it ?_ ?_)
    · intro hl0
      have HP := Lib.hid (show ss.Perm (S.fs.map (fun f => f.name)) by have h1 := HI.out.perm; rw [doneN_end F hl0.out] at h1; exact h1.trans HPn.out)
      have HSo := Lib.hid (HI.out.sort HSl.out)
      clear hl0 HI
      go_wp2_with fail
      refine HSo.out.mono ?_
      rintro e w2 ⟨rfl, ts, k1, k2, k3⟩
      have K1 := Lib.hid k1
      have K2 := Lib.hid (k2.trans HP.out)
      have K3 := Lib.hid k3
      clear k1 k2 k3
      go_wp2_with fail
      go_ret
      exact ⟨_, ts, rfl, K1.out, K2.out, K3.out⟩
    · intro g w1 cnt1 HX hen
      have HB1 := Lib.hid (below_iter HI.out.below HX.out.grown HI.out.below.size (Nat.le_refl _))
      have HO1 := Lib.hid (own_iter HI.out.own HI.out.it HX.out.grown)
      have HS1 := Lib.hid (show w.heap.size + 1 ≤ w1.heap.size by rw [HX.out.size]; exact HI.out.size)
      have HCl := Lib.hid (clone_x g.name w1 (HNl.out g HX.out.mem))
      have HP1 := Lib.hid ((HI.out.perm.append_right [g.name]).trans (doneN_step HD.out.nodup HX.out.mem HX.out.left))
      have HM := Lib.hid (show w1.rangeLeft m w.heap.size < wr.rangeLeft m w.heap.size by rw [HX.out.it.left_eq, HI.out.it.left_eq]; exact HX.out.lt)
      have HI1 := Lib.hid HX.out.it
      clear HX
      go_wp2_with fail
      refine HCl.out.mono ?_
      rintro e w2 ⟨rfl, hb⟩
      have HO2 := Lib.hid (own_below HO1.out hb)
      have HB2 := Lib.hid (below_next HB1.out hb)
      have HS2 := Lib.hid (show w.heap.size + 1 ≤ w2.heap.size by have := hb.size; have := HS1.out; omega)
      have HQ := Lib.hid hb
      clear hb
      go_wp2_with (at_builtin; refine app_rowT (w0 := w1) (B := w.heap.size + 1) rfl (.tmp 14) (.tmp 17) rfl _ ss rfl (own_below HO2.out (below_box w2 _)) (by have := HS2.out; simp; omega) ((HQ.out.mono HS1.out).alloc HS2.out _) _ [g.name] rfl (one_txts w2 g.name) (by have := HSl.out; simp; omega) ?_)
      intro v2 w3 hk
      have hb3 := hk.out.2.1
      have HI3 := Lib.hid (HI1.out.block (hb3.block m (by have := HD.out.mlt; have := HD.out.lim; omega)) (hb3.block _ (Nat.lt_succ_self _)))
      have HF3 : Hid (LI w w3 m F (fun z => lf z && !(z == g.name)) cnt1 v2 (ss ++ [g.name])) := Lib.hid ⟨HI3.out, hk.out.1.own, HP1.out, HB1.out.trans (hb3.mono (Nat.le_succ _)), Nat.le_trans HS1.out hb3.size⟩
      have HM3 := Lib.hid (show w3.rangeLeft m w.heap.size < wr.rangeLeft m w.heap.size by rw [HI3.out.left_eq, ← HI1.out.left_eq]; exact HM.out)
      clear hk hb3
      go_wp2_with fail
      go_round
      case rel => exact ⟨_, _, _, HF3⟩
      case measure => exact HM3.out
end Go.Proofs.Ytdjgjmbgcjhnpaa
