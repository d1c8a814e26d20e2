/-
  The walk of Put.
-/
import Derived.Test.YtjjndndhmccflaaRdLook
import Derived.Test.YtjjndndhmccflaaShelf
namespace Go.Proofs.Ytjjndndhmccflaa
set_option maxRecDepth 100000
open Go.RowKit
theorem clone_x (l : List UInt8) (w : World) (hl : l.length ≤ 1000000000000) :
    Calls Try.prog 27 #[.string (mkS l)] w fun e w' => e = .returned (.string (mkS l)) ∧ Below w.heap.size w w' := by
  have hms := mkS_size l
  have HI := Lib.hid (fun w => Try.stringslite_Clone (mkS l) w (by omega))
  go_enter Try.func27, Try.ntmps27
  go_wp2_with fail
  refine (HI.out _).mono ?_
  rintro e w' ⟨rfl, hb⟩
  go_wp2_with fail
  go_ret
  exact ⟨rfl, hb⟩
/-- An element is appended to a queue's row: at a step of a region that draws its order. -/
theorem step_wait {W : World} {ops : Array Oper} {o : Oper} {a : Act} {K : Act → World → Prop} {Q : Exit → Act → World → Prop} {E : Prop} (hgd : o.guard = none) (s y : Operand)
    (ho : o.op = .call { callee := .builtin .append, args := #[s, y], argTypes := #[62, 62] }) (v : Value) (P : List Wt) (hs : a.eval s = v) (hown : W.ownsRow 0 70 5 v P.length (P.flatMap encR))
    (p : Wt) (g0 : Nat) (hy : a.eval y = .slice (some ⟨g0, 0, none⟩) 1 1) (hb : W.heap[g0]? = some (.cells (encR p).toArray 70 (0, 0))) (few : P.length ≤ 1000000)
    (h : ∀ g cap w', w'.ownsRow 0 70 5 (.slice (some ⟨g, 0, none⟩) (P.length + 1) cap) (P.length + 1) ((P ++ [p]).flatMap encR) → W.grownBy w' v.ownBlock → (v.ownBlock = some g ∨ g = W.heap.size) → g < w'.heap.size → K (a.put o.dst (.slice (some ⟨g, 0, none⟩) (P.length + 1) cap)) w') :
    if Region.wanted o (yielded ops a.tmps) = true then Oper.wp Try.prog o a W K Q else E := by
  obtain ⟨i0, hi, hz0, hz1, hz2⟩ := info_parts Try.infoW
  refine step_append_lies W hgd s y 62 ho 0 70 i0 zeroR 5 48 Try.underlying62 hi hz0 hz1 hz2 rfl (by decide) v P.length (P.flatMap encR) hs hown ⟨g0, 0, none⟩ 1 1 (encR p) hy rfl ?_ (encR_one p) (Nat.zero_lt_one) (by unfold maxLen; omega) (by omega) (Nat.zero_le _) _ rfl ?_
  · intro j u hu
    rw [show (⟨g0, 0, none⟩ : Addr).add j = ⟨g0, j, none⟩ by unfold Addr.add; split <;> simp_all, cellOf hb]
    simpa using hu
  · intro g cap w' h1 h2 h3 h4
    refine h g cap w' ?_ h2 h3 h4
    rw [List.flatMap_append]
    simpa using h1
/-- The queue behind a put: the count, the row, its slice. -/
theorem RB.more {O : Nat → Prop} {b : Nat} {v : Value} {fm gm : Nat} {P : List Wt} {G : List (Txt × Int)} {S : Rq} {w0 w w6 W w7 : World} {x : Et} {g cap B : Nat} (h : RB O b v fm gm P G S w) (h0 : w0.heap.size ≤ B ∧ B < w.heap.size) (hold : ∀ k, O k → k < w0.heap.size)
    (e6 : w6 = (w.setCell ⟨B, 1, none⟩ (.string (mkS x.dest))).setCell ⟨b, 3, none⟩ (.int .i64 (S.n + 1))) (hW : Below w6.heap.size w6 W)
    (h1 : w7.ownsRow 0 70 5 (.slice (some ⟨g, 0, none⟩) (P.length + 1) cap) (P.length + 1) ((P ++ [(x, S.n + 1)]).flatMap encR)) (h2 : W.grownBy w7 v.ownBlock) (h3 : v.ownBlock = some g ∨ g = W.heap.size) (h4 : g < w7.heap.size) (hp : putE S x = 0) (hn : S.n < 1000000) (hi : x.id ≤ 9223372036854775807) :
    (∃ O', RA O' b (putQ S x) (w7.setCell ⟨b, 4, none⟩ (.slice (some ⟨g, 0, none⟩) (P.length + 1) cap)) ∧ ∀ k, O' k → O k ∨ w0.heap.size ≤ k) ∧ ∀ k, k < w0.heap.size → ¬ O k → (w7.setCell ⟨b, 4, none⟩ (.slice (some ⟨g, 0, none⟩) (P.length + 1) cap)).heap[k]? = w.heap[k]? := by
  have hbB : b ≠ B := fun e => by have := hold b h.ob; omega
  have hfB : fm ≠ B := fun e => by have := hold fm h.ofm; omega
  have hgB : gm ≠ B := fun e => by have := hold gm h.ogm; omega
  have hbne := h.bne
  have hs6 : w6.heap.size = w.heap.size := by rw [e6, World.size_setCell, World.size_setCell]
  have k6 : ∀ k, k ≠ B → k ≠ b → w6.heap[k]? = w.heap[k]? := fun k n1 n2 => by rw [e6, set_far n2, set_far n1]
  have b6 : w6.heap[b]? = some (.cells (bxC { S with n := S.n + 1 } v fm gm) 64 (0, 0)) := by
    rw [e6]
    exact setOf ((set_far hbB 1 _).trans h.box) 3 _
  have k7 : ∀ k, k < w.heap.size → k ≠ B → k ≠ b → some k ≠ v.ownBlock → w7.heap[k]? = w.heap[k]? := fun k h1 h2' h3' h4' =>
    (h2.block k (by have := hW.size; omega) h4').trans ((hW.block k (by omega)).trans (k6 k h2' h3'))
  have nown : ∀ k, (k = b ∨ k = fm ∨ k = gm) → some k ≠ v.ownBlock := fun k hk e => by
    have := h.gne e.symm
    rcases hk with rfl | rfl | rfl
    · exact this.1 rfl
    · exact this.2.1 rfl
    · exact this.2.2 rfl
  have b7 : w7.heap[b]? = some (.cells (bxC { S with n := S.n + 1 } v fm gm) 64 (0, 0)) :=
    (h2.block b (by have := hW.size; have := h.blt; omega) (nown b (.inl rfl))).trans ((hW.block b (by have := h.blt; omega)).trans b6)
  have s7 : w.heap.size ≤ w7.heap.size := by have := h2.size; have := hW.size; omega
  have hgb : g ≠ b := by
    rcases h3 with h3 | h3
    · exact (h.gne h3).1
    · have := hW.size; have := h.blt; omega
  have eQ : putQ S x = { S with n := S.n + 1, L := S.L ++ [(x, S.n + 1)] } := by unfold putQ; rw [if_pos hp]
  refine ⟨⟨fun k => O k ∨ (w0.heap.size ≤ k ∧ k < w7.heap.size), ⟨.slice (some ⟨g, 0, none⟩) (P.length + 1) cap, fm, gm, P ++ [(x, S.n + 1)], G, ?_⟩, fun k hk => hk.imp id fun e => e.1⟩, ?_⟩
  · have hok := h.ok.put (x := x) hn hi
    rw [eQ] at hok ⊢
    refine ⟨setOf b7 4 _, ?_, h.perm.append_right _, h.fly.block ((set_far (Ne.symm hbne.1) 4 _).trans (k7 fm h.fly.lt hfB (Ne.symm hbne.1) (nown fm (.inr (.inl rfl))))), h.go.block ((set_far (Ne.symm hbne.2) 4 _).trans (k7 gm h.go.lt hgB (Ne.symm hbne.2) (nown gm (.inr (.inr rfl))))), h.cnt, ?_, .inl h.ob, .inl h.ofm, .inl h.ogm, fun k hk => ?_, h.ne, hok, fun k hk => ?_⟩
    · rw [List.length_append, List.length_singleton]
      refine ⟨h1.1, ?_⟩
      rcases h1.2 with h0 | ⟨g', cap', cur, hv, hB', hk, hr⟩
      · exact .inl h0
      · refine .inr ⟨g', cap', cur, hv, hB', ?_, hr⟩
        have eg : g' = g := by injection hv with hv; injection hv with hv; injection hv with hv; exact hv.symm
        rw [eg, set_far hgb, ← eg]; exact hk
    · have := h.glen
      show (G.length : Int) + (S.L ++ [(x, S.n + 1)]).length ≤ S.n + 1
      rw [List.length_append, List.length_singleton]; omega
    · simp only [Value.ownBlock, Option.some.injEq] at hk
      subst hk
      rcases h3 with h3 | h3
      · exact .inl (h.ov _ h3)
      · exact .inr ⟨by have := hW.size; omega, h4⟩
    · rw [World.size_setCell]
      rcases hk with hk | hk
      · have := h.olt k hk; omega
      · exact hk.2
  · intro k hk hO
    have n1 : k ≠ b := fun e => hO (e ▸ h.ob)
    rw [set_far n1]
    exact k7 k (by omega) (by omega) n1 fun e => hO (h.ov k e.symm)
/-- What a put leaves. -/
def PutPost (O : Nat → Prop) (b : Nat) (S : Rq) (x : Et) (w : World) (e : Ending) (w' : World) : Prop :=
  e = .returned (.int .i64 (putE S x)) ∧ (∃ O', RA O' b (putQ S x) w' ∧ ∀ k, O' k → O k ∨ w.heap.size ≤ k) ∧ Fr O w w'
theorem put_same {O : Nat → Prop} {b : Nat} {S : Rq} {x : Et} {w w' : World} {c : Int} (h : RA O b S w) (hb : Below w.heap.size w w') (hc : putE S x = c) (h0 : c ≠ 0) : PutPost O b S x w (.returned (.int .i64 c)) w' := by
  refine ⟨by rw [hc], ⟨O, ?_, fun k hk => .inl hk⟩, Fr.of_below hb⟩
  have : putQ S x = S := by unfold putQ; rw [if_neg (by rw [hc]; exact h0)]
  rw [this]; exact h.below hb
set_option maxHeartbeats 4000000 in
theorem put_x {O : Nat → Prop} {b : Nat} {S : Rq} {w : World} (h : RA O b S w) (x : Et) (hn : S.n < 1000000) (hi : Nm x.id) (hd : x.dest.length ≤ 1000000000) :
    Calls Try.prog 10 #[.pointer (some ⟨b, 0, none⟩), agE x] w (PutPost O b S x w) := by
  obtain ⟨v, fm, gm, P, G, h⟩ := h
  obtain ⟨W1, hW1⟩ : ∃ W1, W1 = w.alloc (.cells (ecs x) 34) := ⟨_, rfl⟩
  obtain ⟨B, hB⟩ : ∃ B, B = w.heap.size := ⟨_, rfl⟩
  have x1 : W1.heap[B]? = some (.cells (ecs x) 34 (0, 0)) := by rw [hW1, hB]; exact newOf w _
  have b1 : Below w.heap.size w W1 := by rw [hW1]; exact below_box w _
  have HR := Lib.hid (right_x x W1 (by omega))
  have hok : okE x = okE x := rfl
  have HW1 := Lib.hid hW1
  have HB := Lib.hid hB
  have HH := Lib.hid (And.intro h (And.intro x1 (And.intro b1 (And.intro hn (And.intro hi hd)))))
  clear hW1 hB h x1 b1 hn hi hd hok
  go_enter Try.func10, Try.ntmps10
  go_wp2_with fail
  rw [← HW1.out, ← HB.out]
  refine HR.out.mono ?_
  rintro e w' ⟨rfl, hw2⟩
  have hb2 : Below w.heap.size w w' := below_next HH.out.2.2.1 (by rw [hw2]; exact below_box _ _)
  have hx2 : w'.heap[B]? = some (.cells (ecs x) 34 (0, 0)) := by rw [hw2]; exact ((below_box W1 _).block B (ltOf HH.out.2.1)).trans HH.out.2.1
  have HB2 := Lib.hid (And.intro hb2 hx2)
  clear hw2 hb2 hx2
  cases hok : okE x with
  | false =>
    have HOK := Lib.hid hok
    clear hok
    go_wp2_with fail
    go_ret
    exact put_same ⟨v, fm, gm, P, G, HH.out.1⟩ HB2.out.1 (by unfold putE; rw [if_pos HOK.out]) (by decide)
  | true =>
    have HOK := Lib.hid hok
    have H2 := Lib.hid (HH.out.1.below HB2.out.1)
    obtain ⟨y, tb, hlk, htb, _⟩ := fly_look H2.out.fly HH.out.2.2.2.2.1
    have HLK := Lib.hid (And.intro hlk htb)
    have HT := Lib.hid (show w'.drew.cell? ⟨b, 5, none⟩ = some (.map (some fm)) ∧ w'.drew.cell? ⟨B, 0, none⟩ = some (.int .i64 x.id) ∧ (Instr.lookup 60 (.map (some fm)) (.int .i64 x.id) true).run Try.prog w'.drew = .ok (.tuple #[agE y, .bool tb]) w'.drew from ⟨H2.out.c5, cellOf HB2.out.2 0, hlk _ rfl⟩)
    have HK := Lib.hid (show ∀ wr, Below w'.heap.size w' wr → wr.cell? ⟨b, 5, none⟩ = some (.map (some fm)) ∧ wr.cell? ⟨B, 0, none⟩ = some (.int .i64 x.id) ∧ (Instr.lookup 60 (.map (some fm)) (.int .i64 x.id) true).run Try.prog wr = .ok (.tuple #[agE y, .bool tb]) wr from fun wr hb => ⟨(hb.cell (p := ⟨b, 5, none⟩) H2.out.blt).trans H2.out.c5, (hb.cell (p := ⟨B, 0, none⟩) (ltOf HB2.out.2)).trans (cellOf HB2.out.2 0), hlk _ (hb.block _ H2.out.fly.lt)⟩)
    clear hok hlk htb
    go_wp2_with fail
    go_cut [6] from 20 (fun u wc => u = .bool tb ∧ Hid (Below w'.heap.size w' wc))
    case first =>
      go_region_held3 (fun wr => wr.cell? ⟨b, 5, none⟩ = some (.map (some fm)) ∧ wr.cell? ⟨B, 0, none⟩ = some (.int .i64 x.id) ∧ (Instr.lookup 60 (.map (some fm)) (.int .i64 x.id) true).run Try.prog wr = .ok (.tuple #[agE y, .bool tb]) wr)
        (first | exact HT.out | (with_reducible exact ⟨by assumption, by assumption, by assumption⟩) | (refine HK.out _ ?_; repeat (first | exact Below.refl _ _ | refine Below.drew ?_ | refine Below.alloc ?_ (by simp) _ | refine Below.setCell ?_ (by simp) _)))
        (fail)
      all_goals
        go_wp2_with fail
        go_meet
        case rel => exact ⟨rfl, Lib.hid (below_drewN (below_box w' _) 1)⟩
    case rest =>
      obtain ⟨rfl, HBc⟩ := hcut
      have HF := Lib.hid (show hasF S x.id = tb from HLK.out.2.symm)
      have HB3 := Lib.hid (And.intro (below_next HB2.out.1 HBc.out) ((HBc.out.block B (ltOf HB2.out.2)).trans HB2.out.2))
      have H3 := Lib.hid (H2.out.below HBc.out)
      clear HT HK HLK HBc HB2 H2
      cases tb with
      | true =>
        go_wp2_with fail
        go_ret
        exact put_same ⟨v, fm, gm, P, G, HH.out.1⟩ HB3.out.1 (by unfold putE; rw [if_neg (by rw [HOK.out]; decide), if_pos (by rw [HF.out]; rfl)]) (by decide)
      | false =>
        have c0 := cellOf HB3.out.2 0
        have HPl := Lib.hid (place_x H3.out x.id)
        go_wp2_with fail
        refine HPl.out.mono ?_
        rintro e w3 ⟨⟨r, rfl, hr⟩, hb3⟩
        have HB4 := Lib.hid (And.intro (below_next HB3.out.1 hb3) ((hb3.block B (ltOf HB3.out.2)).trans HB3.out.2))
        have H4 := Lib.hid (H3.out.below hb3)
        clear hb3 HPl HB3 H3 c0
        rcases hr with ⟨rfl, hn⟩ | ⟨k, y', rfl, hx, hf⟩
        · have HL := Lib.hid (show hasL S x.id = false by rw [hasL_find HH.out.1.perm x.id, hn]; rfl)
          clear hn
          have c4 := H4.out.c4
          have c2 := H4.out.c2
          have hl := H4.out.perm.length_eq
          have hfew := H4.out.few
          obtain ⟨A, c, hv⟩ := H4.out.slice
          rw [hv, hl] at c4
          have HV := Lib.hid hv
          clear hv
          by_cases hroom : S.room ≤ (S.L.length : Int)
          · have HRm := Lib.hid hroom
            go_wp2_with fail
            go_quiet (fail)
            go_wp2_with fail
            go_ret
            exact put_same ⟨v, fm, gm, P, G, HH.out.1⟩ (below_drewN HB4.out.1 nq) (by unfold putE; rw [if_neg (by rw [HOK.out]; decide), if_neg (by rw [HF.out, HL.out]; decide), if_pos HRm.out]) (by decide)
          · have HRm := Lib.hid hroom
            have hroom' : decide (S.room ≤ (S.L.length : Int)) = false := decide_eq_false hroom
            clear hroom
            go_wp2_with fail
            go_quiet (fail)
            have HB5 := Lib.hid (And.intro (below_drewN HB4.out.1 nq) (show (w3.drewN nq).heap[B]? = _ from HB4.out.2))
            have H5 := Lib.hid (H4.out.drewN nq)
            obtain ⟨w4, hw4⟩ : ∃ w4, w4 = w3.drewN nq := ⟨_, rfl⟩
            rw [← hw4] at HB5 H5
            rw [← hw4]
            clear hw4 HB4 H4 c4 c2 hroom'
            have c1 := cellOf HB5.out.2 1
            have HCl := Lib.hid (clone_x x.dest w4 (by have := HH.out.2.2.2.2.2; omega))
            go_wp2_with fail
            refine HCl.out.mono ?_
            rintro e w5 ⟨rfl, hb5⟩
            have HB6 := Lib.hid (And.intro (below_next HB5.out.1 hb5) ((hb5.block B (ltOf HB5.out.2)).trans HB5.out.2))
            have H6 := Lib.hid (H5.out.below hb5)
            have hbB : b ≠ B := fun e => by have := HH.out.1.blt; have := HB.out; omega
            have c1 := cellOf HB6.out.2 1
            have f1 := freeOf HB6.out.2 1
            have c3 := H6.out.c3
            have f3 := H6.out.fr 3
            have hw3 : IntKind.i64.wrap (S.n + 1) = S.n + 1 := by have := H6.out.ok.n0; have := HH.out.2.2.2.1; simp [IntKind.wrap, IntKind.bits, IntKind.signed]; omega
            obtain ⟨w6, hw6⟩ : ∃ w6, w6 = (w5.setCell ⟨B, 1, none⟩ (.string (mkS x.dest))).setCell ⟨b, 3, none⟩ (.int .i64 (S.n + 1)) := ⟨_, rfl⟩
            have HW6 := Lib.hid hw6
            clear hb5 HCl H5 HB5 hw6
            go_wp2_with fail
            rw [← HW6.out]
            have x6 : w6.heap[B]? = some (.cells (ecs x) 34 (0, 0)) := by
              rw [HW6.out, set_far (Ne.symm hbB)]
              exact setOf HB6.out.2 1 _
            have b6 : w6.heap[b]? = some (.cells (bxC { S with n := S.n + 1 } v fm gm) 64 (0, 0)) := by
              rw [HW6.out]
              exact setOf ((set_far hbB 1 _).trans H6.out.box) 3 _
            have hv := HV.out
            subst hv
            have row6 : w6.ownsRow 0 70 5 (.slice A P.length c) P.length (P.flatMap encR) := by
              refine ⟨H6.out.row.1, ?_⟩
              rcases H6.out.row.2 with h0 | ⟨g', cap', cur, hv, hB', hk, hr⟩
              · exact .inl h0
              · have hO := H6.out.ov g' (by rw [hv]; rfl)
                have n1 := (H6.out.gne (g := g') (by rw [hv]; rfl)).1
                have n2 : g' ≠ B := fun e => by have := HH.out.1.olt g' (HH.out.1.ov g' (by rw [hv]; rfl)); have := HB.out; omega
                exact .inr ⟨g', cap', cur, hv, hB', by rw [HW6.out, set_far n1, set_far n2]; exact hk, hr⟩
            have lt6 := ltOf b6
            have ltB := ltOf x6
            have nb : b ≠ B := hbB
            have HS := Lib.hid (show ∀ wr : World, wr.heap[b]? = some (.cells (bxC { S with n := S.n + 1 } (.slice A P.length c) fm gm) 64 (0, 0)) → wr.heap[B]? = some (.cells (ecs x) 34 (0, 0)) → wr.cell? ⟨b, 4, none⟩ = some (.slice A P.length c) ∧ wr.cell? ⟨b, 3, none⟩ = some (.int .i64 (S.n + 1)) ∧ wr.cell? ⟨B, 0, none⟩ = some (.int .i64 x.id) ∧ wr.cell? ⟨B, 1, none⟩ = some (.string (mkS x.dest)) ∧ wr.cell? ⟨B, 2, none⟩ = some (.int .i64 x.pri) ∧ wr.cell? ⟨B, 3, none⟩ = some (.int .i64 x.at_) ∧ wr.frozen? ⟨b, 4, none⟩ = false from fun wr h1 h2 => ⟨cellOf h1 4, cellOf h1 3, cellOf h2 0, cellOf h2 1, cellOf h2 2, cellOf h2 3, freeOf h1 4⟩)
            have HK := Lib.hid (show ∀ wr : World, Below w6.heap.size w6 wr → wr.cell? ⟨b, 4, none⟩ = some (.slice A P.length c) ∧ wr.cell? ⟨b, 3, none⟩ = some (.int .i64 (S.n + 1)) ∧ wr.cell? ⟨B, 0, none⟩ = some (.int .i64 x.id) ∧ wr.cell? ⟨B, 1, none⟩ = some (.string (mkS x.dest)) ∧ wr.cell? ⟨B, 2, none⟩ = some (.int .i64 x.pri) ∧ wr.cell? ⟨B, 3, none⟩ = some (.int .i64 x.at_) ∧ wr.frozen? ⟨b, 4, none⟩ = false from fun wr hb => HS.out wr ((hb.block b lt6).trans b6) ((hb.block B ltB).trans x6))
            have HG := Lib.hid (show ∀ W wr : World, Below w6.heap.size w6 W → W.grownBy wr (Value.slice A P.length c).ownBlock → wr.cell? ⟨b, 4, none⟩ = some (.slice A P.length c) ∧ wr.cell? ⟨b, 3, none⟩ = some (.int .i64 (S.n + 1)) ∧ wr.cell? ⟨B, 0, none⟩ = some (.int .i64 x.id) ∧ wr.cell? ⟨B, 1, none⟩ = some (.string (mkS x.dest)) ∧ wr.cell? ⟨B, 2, none⟩ = some (.int .i64 x.pri) ∧ wr.cell? ⟨B, 3, none⟩ = some (.int .i64 x.at_) ∧ wr.frozen? ⟨b, 4, none⟩ = false from fun W wr hb hg => HS.out wr ((hg.block b (by have := hb.size; omega) (fun e => (H6.out.gne e.symm).1 rfl)).trans ((hb.block b lt6).trans b6)) ((hg.block B (by have := hb.size; omega) (fun e => by have := HH.out.1.olt B (HH.out.1.ov B e.symm); have := HB.out; omega)).trans ((hb.block B ltB).trans x6)))
            have HT := Lib.hid (HK.out _ (Below.drew (Below.refl w6.heap.size w6)))
            have HROW := Lib.hid row6
            have HFIN := Lib.hid (show ∀ (W w7 : World) (g cap : Nat), Below w6.heap.size w6 W → w7.ownsRow 0 70 5 (.slice (some ⟨g, 0, none⟩) (P.length + 1) cap) (P.length + 1) ((P ++ [(x, S.n + 1)]).flatMap encR) → W.grownBy w7 (Value.slice A P.length c).ownBlock → ((Value.slice A P.length c).ownBlock = some g ∨ g = W.heap.size) → g < w7.heap.size → PutPost O b S x w (.returned (.int .i64 0)) (w7.setCell ⟨b, 4, none⟩ (.slice (some ⟨g, 0, none⟩) (P.length + 1) cap)) from fun W w7 g cap hW k1 k2 k3 k4 => by
              have hp0 : putE S x = 0 := by
                unfold putE
                rw [if_neg (by rw [HOK.out]; decide), if_neg (by rw [HF.out, HL.out]; decide), if_neg (by have := HRm.out; omega)]
              have hm := H6.out.more (w0 := w) (x := x) ⟨by have := HB.out; omega, ltOf HB6.out.2⟩ HH.out.1.olt HW6.out hW k1 k2 k3 k4 hp0 HH.out.2.2.2.1 HH.out.2.2.2.2.1.2
              have s6 : w6.heap.size = w5.heap.size := by rw [HW6.out, World.size_setCell, World.size_setCell]
              have q1 := HB6.out.1
              have q2 : w6.os = w5.os ∧ w6.tape = w5.tape ∧ w6.output = w5.output := by rw [HW6.out]; exact ⟨rfl, rfl, rfl⟩
              refine ⟨by rw [hp0], hm.1, ?_, ?_, ?_, ?_, fun k hk hO => (hm.2 k hk hO).trans (q1.block k hk)⟩
              · exact k2.os.trans (hW.os.trans (q2.1.trans q1.os))
              · exact k2.tape.trans (hW.tape.trans (q2.2.1.trans q1.tape))
              · exact k2.output.trans (hW.output.trans (q2.2.2.trans q1.output))
              · rw [World.size_setCell]; have := k2.size; have := hW.size; have := q1.size; omega)
            obtain ⟨y1, y2, y3, y4, y5, y6, y7⟩ := HK.out w6 (Below.refl _ _)
            have nb1 : b ≠ w6.heap.size := by omega
            have nB1 : B ≠ w6.heap.size := by omega
            clear c1 f1 c3 f3 hw3 x6 b6 row6 hl HT HK
            go_region_law (refine step_wait rfl (.tmp 53) (.tmp 60) rfl (.slice A P.length c) P rfl (own_below HROW.out (Below.drew (below_box w6 _))) (x, S.n + 1) w6.heap.size rfl (newOf w6 _) hfew ?_; intro g1 cap1 w7 k1 k2 k3 k4; have hbw := Lib.hid (Below.drew (below_box w6 (.cells (encR (x, S.n + 1)).toArray 70))); obtain ⟨g1', g2', g3', g4', g5', g6', g7'⟩ := HG.out _ w7 hbw.out k2; have HE := Lib.hid (HFIN.out _ w7 g1 cap1 hbw.out k1 k2 k3 k4); clear k1 k2 k3 k4 hbw)
            all_goals
              go_wp2_with fail
              go_ret
              exact HE.out
        · have HL := Lib.hid (show hasL S x.id = true by rw [hasL_find HH.out.1.perm x.id, hf]; rfl)
          have hk0 : decide ((0 : Int) ≤ (k : Int)) = true := decide_eq_true (by omega)
          clear hf hx
          go_wp2_with fail
          go_ret
          exact put_same ⟨v, fm, gm, P, G, HH.out.1⟩ HB4.out.1 (by unfold putE; rw [if_neg (by rw [HOK.out]; decide), if_pos (by rw [HL.out, Bool.or_true])]) (by decide)
end Go.Proofs.Ytjjndndhmccflaa
