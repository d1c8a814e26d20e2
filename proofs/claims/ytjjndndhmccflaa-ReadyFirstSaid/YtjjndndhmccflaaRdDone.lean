/-
  The walk of Done.
-/
import Derived.Test.YtjjndndhmccflaaRdTake
namespace Go.Proofs.Ytjjndndhmccflaa
set_option maxRecDepth 100000
open Go.RowKit
theorem cnt_filter {F : List Et} (hn : (F.map Et.id).Nodup) {y : Et} (hy : y ∈ F) (d : Txt) : cnt (F.filter fun x => x.id != y.id) d = cnt F d - if d = y.dest then 1 else 0 := by
  induction F with
  | nil => simp at hy
  | cons z r ih =>
    rw [List.map_cons, List.nodup_cons] at hn
    rw [cnt_cons]
    rcases List.mem_cons.1 hy with rfl | hy'
    · rw [List.filter_cons_of_neg (by simp)]
      have : r.filter (fun x => x.id != y.id) = r := List.filter_eq_self.2 fun x hx => by
        have : x.id ≠ y.id := fun e => hn.1 (e ▸ List.mem_map.2 ⟨x, hx, rfl⟩)
        simpa using this
      rw [this]; omega
    · have hne : z.id ≠ y.id := fun e => hn.1 (e ▸ List.mem_map.2 ⟨y, hy', rfl⟩)
      rw [List.filter_cons_of_pos (by simpa using hne), cnt_cons, ih hn.2 hy']; omega
theorem cnt_pos {F : List Et} {y : Et} (hy : y ∈ F) : 1 ≤ cnt F y.dest := by
  unfold cnt
  have : 0 < F.countP fun e => e.dest == y.dest := List.countP_pos_iff.2 ⟨y, hy, by simp⟩
  omega
/-- The queue behind one that flies no more. -/
theorem RB.landed {O : Nat → Prop} {b : Nat} {v : Value} {fm gm : Nat} {P : List Wt} {G G' : List (Txt × Int)} {S : Rq} {w w' : World} {y : Et} (h : RB O b v fm gm P G S w) (hy : y ∈ S.F)
    (kb : ∀ k, k < w.heap.size → k ≠ fm → k ≠ gm → w'.heap[k]? = w.heap[k]?) (hs : w.heap.size ≤ w'.heap.size) (j1 : JAt w' fm ((flyL S.F).filter fun p => p.1 != y.id)) (j2 : MapAt w' gm G')
    (hG : ∀ d, getG G' d = Go.Proofs.Ytjjndndhmccflaa.cnt S.F d - if d = y.dest then 1 else 0) (hl : G'.length ≤ G.length) : RB O b v fm gm P G' (doneQ S y.id) w' := by
  have hfil : (flyL S.F).filter (fun p => p.1 != y.id) = flyL (doneQ S y.id).F := by
    unfold flyL doneQ
    rw [List.filter_map]; rfl
  rw [hfil] at j1
  have hbne := h.bne
  refine ⟨(kb b h.blt hbne.1 hbne.2).trans h.box, ⟨h.row.1, ?_⟩, h.perm, j1, j2, fun d => ?_, ?_, h.ob, h.ofm, h.ogm, h.ov, h.ne, h.ok.done _, fun k hk => Nat.lt_of_lt_of_le (h.olt k hk) hs⟩
  · rcases h.row.2 with h0 | ⟨g', cap', cur, hv, hB', hk, hr⟩
    · exact .inl h0
    · have hn := h.gne (g := g') (by rw [hv]; rfl)
      exact .inr ⟨g', cap', cur, hv, hB', (kb g' (ltOf hk) hn.2.1 hn.2.2).trans hk, hr⟩
  · rw [hG]; exact (cnt_filter h.ok.idsF hy d).symm
  · have := h.glen
    show (G'.length : Int) + S.L.length ≤ S.n
    omega
def DonePost (O : Nat → Prop) (b : Nat) (S : Rq) (i : Int) (w : World) (e : Ending) (w' : World) : Prop :=
  e = .returned (.bool (hasF S i)) ∧ RA O b (doneQ S i) w' ∧ Fr O w w'
set_option maxHeartbeats 8000000 in
theorem done_x {O : Nat → Prop} {b : Nat} {S : Rq} {w : World} (h : RA O b S w) (i : Int) (hi : Nm i) :
    Calls Try.prog 14 #[.pointer (some ⟨b, 0, none⟩), .int .i64 i] w (DonePost O b S i w) := by
  obtain ⟨v, fm, gm, P, G, h⟩ := h
  obtain ⟨y, tb, hlk, htb, hy⟩ := fly_look h.fly hi
  have c5 := h.c5
  have hlk0 := hlk w rfl
  have HF := Lib.hid (show hasF S i = tb from htb.symm)
  have HH := Lib.hid h
  have HY := Lib.hid hy
  clear hlk htb hy h
  cases tb with
  | false =>
    go_enter Try.func14, Try.ntmps14
    go_wp2_with fail
    go_ret
    have e : doneQ S i = S := by
      unfold doneQ
      have : S.F.filter (fun x => x.id != i) = S.F := List.filter_eq_self.2 fun z hz => by
        have := List.any_eq_false.1 HF.out z hz
        simpa using this
      rw [this]
    exact ⟨ret_bool HF.out.symm, by rw [e]; exact RA.below ⟨v, fm, gm, P, G, HH.out⟩ (below_box w _), Fr.of_below (below_box w _)⟩
  | true =>
    obtain ⟨hyF, hyi⟩ : y ∈ S.F ∧ y.id = i := by
      rcases HY.out with h | h
      · exact h.2
      · exact absurd h.1 (by decide)
    subst hyi
    obtain ⟨X, hX⟩ : ∃ X, X = w.heap.size := ⟨_, rfl⟩
    obtain ⟨W1, hW1⟩ : ∃ W1, W1 = w.alloc (.cells (ecs y) 34) := ⟨_, rfl⟩
    have b1 : Below w.heap.size w W1 := by rw [hW1]; exact below_box w _
    have x1 : W1.heap[X]? = some (.cells (ecs y) 34 (0, 0)) := by rw [hW1, hX]; exact newOf w _
    have H1 := Lib.hid (HH.out.below b1)
    obtain ⟨w2, run2, j2, t2⟩ := H1.out.fly.delE hi 0
    have nO : ¬ O X := fun e => by have := HH.out.olt X e; omega
    have nXf : X ≠ fm := fun e => nO (e ▸ HH.out.ofm)
    have nXg : X ≠ gm := fun e => nO (e ▸ HH.out.ogm)
    have hbne := HH.out.bne
    have k2 : ∀ k, k < W1.heap.size → k ≠ fm → w2.heap[k]? = W1.heap[k]? := fun k hk hne => t2.grown.block k hk (fun e => hne (by cases e; rfl))
    have X2 := (k2 X (ltOf x1) nXf).trans x1
    have B2 := (k2 b H1.out.blt hbne.1).trans H1.out.box
    have g2 : MapAt w2.drew gm G := (H1.out.go.block (w' := w2) (k2 gm H1.out.go.lt (Ne.symm HH.out.ne))).block rfl
    have dx : y.dest.length ≤ 255 := (okE_iff.1 (HH.out.ok.okF y hyF).1).2.2.1
    have hlook := MapAt.get g2 (n := y.dest) (by omega)
    have hGl : G.length ≤ 1000000 := by have := HH.out.glen; have := HH.out.ok.n1; omega
    have hq : getG G y.dest = cnt S.F y.dest := HH.out.cnt _
    obtain ⟨w3, run3, j3, t3⟩ := g2.put (n := y.dest) (getG G y.dest - 1) (by omega) hGl
    have hq2 := cnt_le S.F y.dest
    have hq3 := cnt_pos hyF
    have hwr : IntKind.i64.wrap (getG G y.dest - 1) = getG G y.dest - 1 := by
      have := HH.out.ok.len; have := HH.out.ok.n1
      rw [hq]; simp [IntKind.wrap, IntKind.bits, IntKind.signed]; omega
    have k3 : ∀ k, k < w2.heap.size → k ≠ gm → w3.heap[k]? = w2.heap[k]? := fun k hk hne => t3.grown.block k hk (fun e => hne (by cases e; rfl))
    have X3 := (k3 X (ltOf X2) nXg).trans X2
    have B3 := (k3 b (ltOf B2) hbne.2).trans B2
    have hlook3 : ∀ m, (Instr.lookup 61 (.map (some gm)) (.string (mkS y.dest)) false).run Try.prog (w3.drewN m) = .ok (.int .i64 (getG G y.dest - 1)) (w3.drewN m) := fun m => by
      have := MapAt.get (w := w3.drewN m) (j3.block rfl) (n := y.dest) (by omega)
      rwa [getG_put, if_pos rfl] at this
    have nod := g2.nodup
    have hmem : ∃ p ∈ G, p.1 = y.dest := by
      unfold getG at hq
      cases hf : G.find? (fun p => p.1 == y.dest) with
      | none => rw [hf] at hq; simp only at hq; omega
      | some p => exact ⟨p, List.mem_of_find?_eq_some hf, by have := List.find?_some hf; simpa using this⟩
    have hlen : (G.filter fun p => p.1 != y.dest).length + 1 ≤ G.length := by
      obtain ⟨p, hp, e⟩ := hmem
      have : (G.filter fun p => p.1 != y.dest).length < G.length := by
        rcases Nat.lt_or_ge (G.filter fun p => p.1 != y.dest).length G.length with h | h
        · exact h
        · have e2 := List.filter_eq_self.1 (List.Sublist.eq_of_length (List.filter_sublist) (Nat.le_antisymm (List.length_filter_le _ _) h)) p hp
          simp [e] at e2
      exact this
    have hc3 : ∀ d, getG ((y.dest, getG G y.dest - 1) :: G.filter fun p => p.1 != y.dest) d = cnt S.F d - if d = y.dest then 1 else 0 := fun d => by
      rw [getG_put]
      by_cases e : d = y.dest
      · subst e; rw [if_pos rfl, if_pos rfl, hq]
      · rw [if_neg e, if_neg e, Int.sub_zero]; exact HH.out.cnt d
    have s13 : W1.heap.size ≤ w3.heap.size := Nat.le_trans t2.grown.size t3.grown.size
    have jf3 : JAt w3 fm ((flyL S.F).filter fun p => p.1 != y.id) := j2.block ((k3 fm j2.lt HH.out.ne).trans rfl)
    have k13 : ∀ k, k < W1.heap.size → k ≠ fm → k ≠ gm → w3.heap[k]? = W1.heap[k]? := fun k hk n1 n2 => (k3 k (Nat.lt_of_lt_of_le hk t2.grown.size) n2).trans (k2 k hk n1)
    have f3 : Fr O w w3 := by
      have a1 : Fr O w W1 := Fr.of_below b1
      have a2 : Fr O w w2 := a1.turned t2 HH.out.ofm
      exact (a2.drew).turned t3 HH.out.ogm
    have HR3 := Lib.hid (And.intro (H1.out.landed hyF k13 s13 jf3 j3 hc3 (by rw [List.length_cons]; exact hlen)) f3)
    have HW1 := Lib.hid hW1
    have HX := Lib.hid hX
    have c21 := cellOf B2 6
    have c22 := cellOf X2 1
    have c31 := cellOf B3 6
    have c32 := cellOf X3 1
    have c15 := H1.out.c5
    have HJ := Lib.hid (And.intro j3 (And.intro jf3 (And.intro k13 (And.intro s13 (And.intro hc3 (And.intro hlen (And.intro X3 (And.intro B3 hyF))))))))
    have HD255 := Lib.hid dx
    have hb0 := HH.out.blt
    have hb1 : b ≠ w.heap.size := by omega
    have hXw : X = w.heap.size := hX
    rw [hXw] at c22 c32
    rw [hW1] at run2
    clear b1 x1 j2 t2 nO nXf nXg hbne k2 X2 B2 g2 hGl hq hq2 hq3 j3 t3 k3 X3 B3 nod hmem hlen hc3 s13 jf3 k13 f3 hX hXw hW1 dx hyF
    generalize hqq : getG G y.dest - 1 = q at *
    go_enter Try.func14, Try.ntmps14
    go_wp2_with fail
    go_cut [] from 31 (fun wc => Hid (wc = w3))
    case first =>
      go_region
      all_goals
        go_wp2_with fail
        go_meet
        case rel => exact rfl
    case rest =>
      have hw := hcut.out
      subst hw
      clear run2 run3 hlook c21 c22 hlk0 c5 c15
      have e0 : (q == 0) = decide (q = 0) := rfl
      by_cases hq0 : q = 0
      · have hqb : (q == 0) = true := beq_iff_eq.2 hq0
        have HQ0 := Lib.hid hq0
        clear e0 hq0
        go_wp2_with fail
        go_quiet (fail)
        obtain ⟨w4, hw4⟩ : ∃ w4, w4 = wc.drewN nq := ⟨_, rfl⟩
        rw [← hw4]
        have c41 : w4.cell? ⟨b, 6, none⟩ = some (.map (some gm)) := by rw [hw4]; exact c31
        have c42 : w4.cell? ⟨w.heap.size, 1, none⟩ = some (.string (mkS y.dest)) := by rw [hw4]; exact c32
        have j4 : MapAt w4.drew gm ((y.dest, q) :: G.filter fun p => p.1 != y.dest) := by rw [hw4]; exact HJ.out.1.block rfl
        obtain ⟨w5, run5, j5, t5⟩ := j4.del (n := y.dest) (by have := HD255.out; omega) 0
        have HW4 := Lib.hid hw4
        have HT5 := Lib.hid (And.intro j5 t5)
        clear hw4 j4 j5 t5 c31 c32 hlook3
        go_wp2_with fail
        go_region
        all_goals
          go_wp2_with fail
          go_ret
          obtain ⟨j3, jf3, k13, s13, hc3, hlen, X3, B3, hyF⟩ := HJ.out
          obtain ⟨j5, t5⟩ := HT5.out
          have k5 : ∀ k, k < wc.heap.size → k ≠ gm → w5.heap[k]? = wc.heap[k]? := fun k hk hne => (t5.grown.block k (by rw [HW4.out]; exact hk) (fun e => hne (by cases e; rfl))).trans (by rw [HW4.out]; rfl)
          have s5 : wc.heap.size ≤ w5.heap.size := by have := t5.grown.size; rw [HW4.out] at this; exact this
          have f5 : Fr O w w5 := ((HR3.out.2.trans0 (by rw [HW4.out]; exact Fr.drewN O wc nq : Fr O wc w4)).drew).turned t5 HH.out.ogm
          have hcq := hc3 y.dest
          rw [if_pos rfl, getG_put, if_pos rfl] at hcq
          refine ⟨ret_bool HF.out.symm, ⟨_, _, _, _, _, H1.out.landed hyF (fun k hk n1 n2 => (k5 k (Nat.lt_of_lt_of_le hk s13) n2).trans (k13 k hk n1 n2)) (Nat.le_trans s13 s5) (jf3.block (k5 fm jf3.lt HH.out.ne)) j5 (fun d => ?_) ?_⟩, f5⟩
          · rw [getG_del]
            by_cases e : d = y.dest
            · subst e; rw [if_pos rfl, if_pos rfl, ← hcq]; exact HQ0.out.symm
            · rw [if_neg e, hc3 d]
          · have := List.length_filter_le (fun p : Txt × Int => p.1 != y.dest) ((y.dest, q) :: G.filter fun p => p.1 != y.dest)
            rw [List.length_cons] at this
            omega
      · have hqb : (q == 0) = false := beq_eq_false_iff_ne.2 hq0
        clear e0 hq0
        go_wp2_with fail
        go_quiet (fail)
        go_wp2_with fail
        go_ret
        obtain ⟨v', fm', gm', P', G', hr⟩ : RA O b (doneQ S y.id) wc := ⟨_, _, _, _, _, HR3.out.1⟩
        exact ⟨ret_bool HF.out.symm, ⟨_, _, _, _, _, hr.drewN nq⟩, HR3.out.2.trans0 (Fr.drewN O wc nq)⟩
end Go.Proofs.Ytjjndndhmccflaa
