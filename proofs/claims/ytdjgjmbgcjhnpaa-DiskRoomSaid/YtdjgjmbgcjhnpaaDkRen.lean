/-
  The walk of Rename, with its closure.
-/
import Derived.Test.YtdjgjmbgcjhnpaaDkRem
namespace Go.Proofs.Ytdjgjmbgcjhnpaa
set_option maxRecDepth 100000
open Go.RowKit Go.Shelf Go.ChangeMaps Go.MapKept
theorem filter_ents2 (F : List Gd) (n t : Txt) (a : Nat) : ((t, a) :: ((F.map Gd.ent).filter fun p => p.1 != n).filter fun p => p.1 != t) = (t, a) :: (((F.filter fun g => g.name != n).filter fun g => g.name != t).map Gd.ent) := by
  rw [filter_ents, filter_ents]
theorem one_name {F : List Gd} (hn : (F.map Gd.name).Nodup) {g : Gd} (hg : g ∈ F) : F.filter (fun x => x.name == g.name) = [g] := by
  induction F with
  | nil => cases hg
  | cons a l ih =>
    rw [List.map_cons, List.nodup_cons] at hn
    rcases List.mem_cons.1 hg with rfl | hg'
    · rw [List.filter_cons_of_pos (by simp)]
      congr 1
      rw [List.filter_eq_nil_iff]
      intro x hx e
      exact hn.1 (by rw [← beq_iff_eq.1 e]; exact List.mem_map_of_mem hx)
    · rw [List.filter_cons_of_neg, ih hn.2 hg']
      intro e
      exact hn.1 (by rw [beq_iff_eq.1 e]; exact List.mem_map_of_mem hg')
/-- A file gets another name, in memory. -/
theorem mov_at {w w' : World} {B lim b m : Nat} {S : Dk} {g : Gd} {F : List Gd} (h : DA w B lim b m S F) (hg : g ∈ F) (t : Txt) (hm : MapAt w' m ((t, g.adr) :: ((F.map Gd.ent).filter fun p => p.1 != g.name).filter fun p => p.1 != t)) (hk : ∀ k, k ≠ m → k < lim → w'.heap[k]? = w.heap[k]?) (hs : w.heap.size ≤ w'.heap.size) :
    DA w' B lim b m (putD S (movL S.fs g.name t)) (⟨t, g.adr, g.v, g.byt, g.syn⟩ :: ((F.filter fun x => x.name != g.name).filter fun x => x.name != t)) := by
  rw [filter_ents2] at hm
  have hnd := h.nodup
  refine h.remap _ _ hm hk hs ?_ ?_ ?_
  · intro g' hg'
    rcases List.mem_cons.1 hg' with rfl | hg'
    · exact ⟨g, hg, rfl, rfl, rfl, rfl⟩
    · exact ⟨g', (List.mem_filter.1 (List.mem_filter.1 hg').1).1, rfl, rfl, rfl, rfl⟩
  · refine List.pairwise_cons.2 ⟨fun x hx => ?_, (h.sep.filter _).filter _⟩
    have hx1 := (List.mem_filter.1 hx).1
    have hxF := (List.mem_filter.1 hx1).1
    have hne : x.name ≠ g.name := by simpa using (List.mem_filter.1 hx1).2
    obtain ⟨l1, l2, rfl⟩ := List.append_of_mem hg
    have hp := (h.perm List.perm_middle).sep
    obtain ⟨k1, k2⟩ := List.pairwise_cons.1 hp
    have hx2 : x ∈ l1 ++ l2 := by
      rcases List.mem_append.1 hxF with k | k
      · exact List.mem_append.2 (.inl k)
      · rcases List.mem_cons.1 k with rfl | k
        · exact absurd rfl hne
        · exact List.mem_append.2 (.inr k)
    exact k1 x hx2
  · rw [List.map_cons, ← filter_core, ← filter_core, movL, oneL]
    have e1 : ((S.fs.filter fun f => f.name == g.name).map fun f => (⟨t, f.byt, f.syn⟩ : Fl)).Perm [⟨t, g.byt, g.syn⟩] := by
      have := ((h.fs.symm.filter (fun f => f.name == g.name)).map (fun f => (⟨t, f.byt, f.syn⟩ : Fl)))
      refine this.trans (List.Perm.of_eq ?_)
      rw [List.filter_map]
      have e2 : (fun f : Fl => f.name == g.name) ∘ Gd.core = fun x : Gd => x.name == g.name := rfl
      rw [e2, one_name hnd hg]
      rfl
    refine List.Perm.trans ?_ (List.Perm.append_right _ e1.symm)
    exact List.Perm.cons _ ((h.fs.filter _).filter _)
theorem ren_keep {W w : World} {b x f t : Nat} {m : Nat} {a : Nat} {to : Txt} (hx : W.cell? ⟨x, 0, none⟩ = some (.pointer (some ⟨b, 0, none⟩))) (hb : W.cell? ⟨b, 1, none⟩ = some (.map (some m))) (ht : W.cell? ⟨t, 0, none⟩ = some (.string (mkS to))) (hf : W.cell? ⟨f, 0, none⟩ = some (ptrV a)) (h : Below W.heap.size W w) :
    w.cell? ⟨x, 0, none⟩ = some (.pointer (some ⟨b, 0, none⟩)) ∧ w.cell? ⟨b, 1, none⟩ = some (.map (some m)) ∧ w.cell? ⟨t, 0, none⟩ = some (.string (mkS to)) ∧ w.cell? ⟨f, 0, none⟩ = some (ptrV a) ∧ Hid (Below W.heap.size W w) :=
  ⟨(h.cell (World.block_lt_of_cell? W _ hx)).trans hx, (h.cell (World.block_lt_of_cell? W _ hb)).trans hb, (h.cell (World.block_lt_of_cell? W _ ht)).trans ht, (h.cell (World.block_lt_of_cell? W _ hf)).trans hf, Lib.hid h⟩
set_option maxHeartbeats 4000000 in
theorem rename1_x {w : World} {B lim b m : Nat} {S : Dk} {g : Gd} {F : List Gd} (h : DA w B lim b m S F) (hg : g ∈ F) (to : Txt) (hl : g.name.length ≤ 140737488355328) (hl2 : to.length ≤ 1000000000000) (hF : F.length ≤ 1000000) (x y f t : Nat) (hxm : x ≠ m ∧ f ≠ m ∧ t ≠ m)
    (cx : w.cell? ⟨x, 0, none⟩ = some (.pointer (some ⟨b, 0, none⟩))) (cy : w.cell? ⟨y, 0, none⟩ = some (.string (mkS g.name))) (cf : w.cell? ⟨f, 0, none⟩ = some (ptrV g.adr)) (ct : w.cell? ⟨t, 0, none⟩ = some (.string (mkS to))) :
    Calls Try.prog 33 #[.pointer (some ⟨x, 0, none⟩), .pointer (some ⟨y, 0, none⟩), .pointer (some ⟨f, 0, none⟩), .pointer (some ⟨t, 0, none⟩)] w fun e w' => e = .returned (.tuple #[]) ∧ Left B b m (putD S (movL S.fs g.name to)) w w' ∧ ∀ k, k < w.heap.size → k ≠ m → w'.heap[k]? = w.heap[k]? := by
  obtain ⟨-, c1, -, -, -, -⟩ := h.cells
  have HD := Lib.hid h
  have HG := Lib.hid hg
  have HL := Lib.hid hl
  have HL2 := Lib.hid hl2
  have HFl := Lib.hid hF
  have HNM := Lib.hid hxm
  have CX := Lib.hid cx
  have CF := Lib.hid cf
  have CT := Lib.hid ct
  clear h hl hg hl2 hF hxm cf ct
  go_enter Try.func33, Try.ntmps33
  go_wp2_with fail
  go_still_tail 5, (by kernel_rfl)
  go_wp2_with (at_delete; refine wpList_del_file rfl (.tmp 7) (.tmp 8) rfl m (F.map Gd.ent) g.name rfl HD.out.drew.map rfl HL.out ?_)
  intro w1 hm1 ht1
  have hot := fun k hk => (turned_other ht1).1 k hk
  have cell : ∀ k i, k ≠ m → w1.cell? ⟨k, i, none⟩ = w.cell? ⟨k, i, none⟩ := fun k i hk => by simp only [World.cell?, hot k hk]; rfl
  have HM1 := Lib.hid hm1
  have HB1 := Lib.hid (turned_below ht1 ((Below.refl B w).drew) HD.out.mlow)
  have HO1 := Lib.hid (fun k hk => hot k hk)
  have HS1 := Lib.hid (turned_other ht1).2.1
  have k1 := (cell x 0 HNM.out.1).trans CX.out
  have k2 := (cell b 1 HD.out.ne_map).trans c1
  have k3 := (cell t 0 HNM.out.2.2).trans CT.out
  have k4 := (cell f 0 HNM.out.2.1).trans CF.out
  have HK := Lib.hid (fun w2 (hb : Below w1.heap.size w1 w2) => ren_keep k1 k2 k3 k4 hb)
  have HL3 := Lib.hid (show to.length ≤ 140737488355328 by have := HL2.out; omega)
  have HFl2 := Lib.hid (show ((F.map Gd.ent).filter fun p => p.1 != g.name).length ≤ 1000000 from Nat.le_trans (List.length_filter_le _ _) (by rw [List.length_map]; exact HFl.out))
  have HCl : Hid (∀ w2, Hid (Below w1.heap.size w1 w2) → Calls Try.prog 25 #[.string (mkS to)] w2 fun e w3 => e = .returned (.string (mkS to)) ∧ (w3.cell? ⟨x, 0, none⟩ = some (.pointer (some ⟨b, 0, none⟩)) ∧ w3.cell? ⟨b, 1, none⟩ = some (.map (some m)) ∧ w3.cell? ⟨t, 0, none⟩ = some (.string (mkS to)) ∧ w3.cell? ⟨f, 0, none⟩ = some (ptrV g.adr)) ∧
      ∃ w4, (Instr.mapUpdate 49 (.map (some m)) (.string (mkS to)) (ptrV g.adr)).run Try.prog w3 = .ok () w4 ∧ Hid (MapAt w4 m ((to, g.adr) :: ((F.map Gd.ent).filter fun p => p.1 != g.name).filter fun p => p.1 != to)) ∧ Hid (Below w1.heap.size w1 w3 ∧ w3.mapTurned w4 m) ∧ w4.cell? ⟨x, 0, none⟩ = some (.pointer (some ⟨b, 0, none⟩)) ∧ w4.cell? ⟨b, 1, none⟩ = some (.map (some m)) ∧ w4.cell? ⟨t, 0, none⟩ = some (.string (mkS to)) ∧ w4.cell? ⟨f, 0, none⟩ = some (ptrV g.adr)) :=
    Lib.hid fun w2 hb => (clone_x to w2 HL2.out).mono fun e w3 ⟨h1, h2⟩ => by
      have hb3 := below_next hb.out h2
      obtain ⟨w4, q1, q2, q3⟩ := (HM1.out.block (hb3.block m HM1.out.lt)).put (n := to) g.adr HL3.out HFl2.out
      obtain ⟨j1, j2, j3, j4, _⟩ := HK.out w3 hb3
      have cl : ∀ k i, k ≠ m → w4.cell? ⟨k, i, none⟩ = w3.cell? ⟨k, i, none⟩ := fun k i hk => by simp only [World.cell?, (turned_other q3).1 k hk]
      exact ⟨h1, ⟨j1, j2, j3, j4⟩, w4, q1, Lib.hid q2, Lib.hid ⟨hb3, q3⟩, (cl x 0 HNM.out.1).trans j1, (cl b 1 HD.out.ne_map).trans j2, (cl t 0 HNM.out.2.2).trans j3, (cl f 0 HNM.out.2.1).trans j4⟩
  obtain ⟨j1, j2, j3, j4, _⟩ := HK.out _ (Below.refl _ w1).drew
  have HT := Lib.hid (And.intro j1 (And.intro j2 (And.intro j3 j4)))
  clear j1 j2 j3 j4
  clear hm1 ht1 hot cell k1 k2 k3 k4 c1 cx cy
  go_wp2_with fail
  go_region_held3 (fun wr => wr.cell? ⟨x, 0, none⟩ = some (.pointer (some ⟨b, 0, none⟩)) ∧ wr.cell? ⟨b, 1, none⟩ = some (.map (some m)) ∧ wr.cell? ⟨t, 0, none⟩ = some (.string (mkS to)) ∧ wr.cell? ⟨f, 0, none⟩ = some (ptrV g.adr))
    (first | (with_reducible exact ⟨by assumption, by assumption, by assumption, by assumption⟩) | exact HT.out)
    ((go_at_call 25; (with_reducible refine (HCl.out _ (Lib.hid (Below.refl _ w1).drew)).mono ?_); rintro u w2 ⟨rfl, ⟨g1, g2, g3, g4⟩, w3, q1, q2, q3, g5, g6, g7, g8⟩))
  all_goals
    have HX : Hid (Left B b m (putD S (movL S.fs g.name to)) w w3) := Lib.hid (by
      have hz := HS1.out
      have hz2 : w.drew.heap.size = w.heap.size := rfl
      have hlm := HD.out.lim
      have hd := mov_at HD.out HG.out to q2.out (fun k hk hkl => ((turned_other q3.out.2).1 k hk).trans ((q3.out.1.block k (by omega)).trans (HO1.out k hk))) (by have h1 := q3.out.1.size; have h2 := (turned_other q3.out.2).2.1; omega)
      exact ⟨_, hd.raise hd.lim (Nat.le_refl _), turned_below q3.out.2 (HB1.out.trans (q3.out.1.mono (by have := HD.out.low; have := HD.out.lt; omega))) HD.out.mlow⟩)
    have HOK := Lib.hid (fun k (hkl : k < w.heap.size) (hk : k ≠ m) => (((turned_other q3.out.2).1 k hk).trans ((q3.out.1.block k (by have hz := HS1.out; have hz2 : w.drew.heap.size = w.heap.size := rfl; omega)).trans (HO1.out k hk)) : w3.heap[k]? = w.heap[k]?))
    clear g1 g2 g3 g4 q1 q2 q3 g5 g6 g7 g8
    go_wp2_with fail
    go_end0
    exact ⟨rfl, HX.out, HOK.out⟩
end Go.Proofs.Ytdjgjmbgcjhnpaa
