/-
  The walks of New, Len, Flying, Remove.
-/
import Derived.Test.YtjjndndhmccflaaRdDel
namespace Go.Proofs.Ytjjndndhmccflaa
set_option maxRecDepth 100000
open Go.RowKit
def newS (g l r : Int) : Rq := ⟨g, l, r, 0, [], []⟩
def rightN (g l r : Int) : Bool := decide (1 ≤ g) && decide (g ≤ 1048576) && decide (1 ≤ l) && decide (l ≤ 64) && decide (1 ≤ r) && decide (r ≤ 4096)
theorem rightN_iff {g l r : Int} : rightN g l r = true ↔ 1 ≤ g ∧ g ≤ 1048576 ∧ 1 ≤ l ∧ l ≤ 64 ∧ 1 ≤ r ∧ r ≤ 4096 := by
  unfold rightN
  simp only [Bool.and_eq_true, decide_eq_true_eq]
  constructor
  · rintro ⟨⟨⟨⟨⟨a, b⟩, c⟩, d⟩, e⟩, f⟩; exact ⟨a, b, c, d, e, f⟩
  · rintro ⟨a, b, c, d, e, f⟩; exact ⟨⟨⟨⟨⟨a, b⟩, c⟩, d⟩, e⟩, f⟩
theorem new_ok {g l r : Int} (h : rightN g l r = true) : OkQ (newS g l r) := by
  obtain ⟨a, b, c, d, e, f⟩ := rightN_iff.1 h
  exact ⟨a, b, c, d, e, f, Int.le_refl _, by show (0 : Int) ≤ _; omega, fun x hx => (List.not_mem_nil hx).elim, fun x hx => (List.not_mem_nil hx).elim, List.nodup_nil, List.Pairwise.nil, fun x hx => (List.not_mem_nil hx).elim, by show ((0 : Nat) : Int) + ((0 : Nat) : Int) ≤ 0; omega⟩
set_option maxHeartbeats 4000000 in
theorem new_no (g l r : Int) (w : World) (h : rightN g l r = false) : Calls Try.prog 7 #[.int .i64 g, .int .i64 l, .int .i64 r] w fun e w' => e = .returned (.tuple #[.pointer none, .int .i64 1]) ∧ w' = w := by
  have H := Lib.hid h
  clear h
  go_enter Try.func7, Try.ntmps7
  go_wp2_with fail
  all_goals first
    | (go_ret2; exact ⟨rfl, rfl⟩)
    | (exfalso; have := H.out; unfold rightN at this; simp_all; done)
    | (exfalso; have := H.out; unfold rightN at this; simp_all; omega)
set_option maxHeartbeats 4000000 in
theorem new_x (g l r : Int) (w : World) (h : rightN g l r = true) : Calls Try.prog 7 #[.int .i64 g, .int .i64 l, .int .i64 r] w fun e w' => e = .returned (.tuple #[.pointer (some ⟨w.heap.size + 2, 0, none⟩), .int .i64 0]) ∧ (∃ O, RA O (w.heap.size + 2) (newS g l r) w' ∧ ∀ k, O k → w.heap.size ≤ k) ∧ Below w.heap.size w w' := by
  obtain ⟨a, b, c, d, e, f⟩ := rightN_iff.1 h
  have t1 : decide (g < 1) = false := decide_eq_false (by omega)
  have t2 : decide (1048576 < g) = false := decide_eq_false (by omega)
  have t3 : decide (l < 1) = false := decide_eq_false (by omega)
  have t4 : decide (64 < l) = false := decide_eq_false (by omega)
  have t5 : decide (r < 1) = false := decide_eq_false (by omega)
  have t6 : decide (4096 < r) = false := decide_eq_false (by omega)
  have m1 := make_E w
  have m2 := make_S (w.alloc (.map #[] 0))
  have HK := Lib.hid (new_ok h)
  clear h a b c d e f
  go_enter Try.func7, Try.ntmps7
  go_wp2_with fail
  go_ret2
  obtain ⟨W1, hW1⟩ : ∃ W1, W1 = w.alloc (.map #[] 0) := ⟨_, rfl⟩
  obtain ⟨W2, hW2⟩ : ∃ W2, W2 = W1.alloc (.map #[] 0) := ⟨_, rfl⟩
  have s1 : W1.heap.size = w.heap.size + 1 := by rw [hW1]; simp
  have s2 : W2.heap.size = w.heap.size + 2 := by rw [hW2]; simp [s1]
  refine ⟨rfl, ⟨fun k => w.heap.size ≤ k ∧ k < w.heap.size + 3, ⟨.slice none 0 0, w.heap.size, w.heap.size + 1, [], [], ?_⟩, fun k hk => hk.1⟩, ?_⟩
  · rw [← hW1, ← hW2]
    refine ⟨?_, ⟨rfl, .inl ⟨rfl, rfl⟩⟩, List.Perm.refl _, ?_, ?_, fun d => rfl, by show ((0 : Nat) : Int) + ((0 : Nat) : Int) ≤ 0; omega, ⟨by omega, by omega⟩, ⟨by omega, by omega⟩, ⟨by omega, by omega⟩, fun k hk => by (cases hk), by omega, HK.out, fun k hk => ?_⟩
    · rw [← s2]; exact newOf W2 _
    · have h0 : JAt W1 w.heap.size [] := by rw [hW1]; exact JAt.made w
      have h1 : JAt W2 w.heap.size [] := by rw [hW2]; exact h0.block ((below_box W1 _).block _ (by omega))
      exact h1.block ((below_box W2 _).block _ (by omega))
    · have h1 : MapAt W2 (w.heap.size + 1) [] := by rw [hW2, ← s1]; exact MapAt.made W1
      exact h1.block ((below_box W2 _).block _ (by omega))
    · have : ∀ o, (W2.alloc o).heap.size = w.heap.size + 3 := fun o => by simp [s2]
      rw [this]; exact hk.2
  · rw [← hW1, ← hW2]
    have b1 : Below w.heap.size w W1 := by rw [hW1]; exact below_box w _
    have b2 : Below w.heap.size w W2 := by rw [hW2]; exact below_next b1 (below_box W1 _)
    exact below_next b2 (below_box W2 _)
section
variable {O : Nat → Prop} {b : Nat} {S : Rq} {w : World}
set_option maxHeartbeats 2000000 in
theorem len_x (h : RA O b S w) : Calls Try.prog 20 #[.pointer (some ⟨b, 0, none⟩)] w fun e w' => e = .returned (.int .i64 (S.L.length : Int)) ∧ w' = w := by
  obtain ⟨v, fm, gm, P, G, h⟩ := h
  have c4 := h.c4
  have e := h.perm.length_eq
  obtain ⟨A, c, rfl⟩ := h.slice
  rw [e] at c4
  clear e h
  go_enter Try.func20, Try.ntmps20
  go_wp2_with fail
  go_ret
  exact ⟨rfl, rfl⟩
set_option maxHeartbeats 2000000 in
theorem flying_x (h : RA O b S w) (d : Txt) (hd : d.length ≤ 1000000000) : Calls Try.prog 21 #[.pointer (some ⟨b, 0, none⟩), .string (mkS d)] w fun e w' => e = .returned (.int .i64 (cnt S.F d)) ∧ w' = w := by
  obtain ⟨v, fm, gm, P, G, h⟩ := h
  have c6 := h.c6
  have hl := MapAt.get h.go (n := d) (by omega)
  rw [h.cnt] at hl
  generalize cnt S.F d = q at hl ⊢
  clear h
  go_enter Try.func21, Try.ntmps21
  go_wp2_with fail
  go_ret
  exact ⟨rfl, rfl⟩
end
theorem erase_filter : ∀ {P : List Wt} {k : Nat} {x : Wt}, (P.map (fun x => x.1.id)).Nodup → P[k]? = some x → P.eraseIdx k = P.filter (fun y => y.1.id != x.1.id)
  | [], _, _, _, h => by simp at h
  | y :: r, 0, x, hn, h => by
    simp only [List.getElem?_cons_zero, Option.some.injEq] at h
    subst h
    rw [List.map_cons, List.nodup_cons] at hn
    rw [List.eraseIdx_cons_zero, List.filter_cons_of_neg (by simp)]
    symm
    rw [List.filter_eq_self]
    intro z hz
    have : z.1.id ≠ y.1.id := fun e => hn.1 (e ▸ List.mem_map.2 ⟨z, hz, rfl⟩)
    simpa using this
  | y :: r, k + 1, x, hn, h => by
    rw [List.map_cons, List.nodup_cons] at hn
    rw [List.getElem?_cons_succ] at h
    have : y.1.id ≠ x.1.id := fun e => hn.1 (e ▸ List.mem_map.2 ⟨x, List.mem_of_getElem? h, rfl⟩)
    rw [List.eraseIdx_cons_succ, List.filter_cons_of_pos (by simpa using this), erase_filter hn.2 h]
theorem find_none_id {P : List Wt} {i : Int} (h : P.find? (isId i) = none) : ∀ y ∈ P, y.1.id ≠ i := fun y hy e => by
  have := List.find?_eq_none.1 h y hy
  simp [isId, e] at this
theorem find_some_id {P : List Wt} {i : Int} {x : Wt} (h : P.find? (isId i) = some x) : x ∈ P ∧ x.1.id = i := ⟨List.mem_of_find?_eq_some h, by have := List.find?_some h; simpa [isId] using this⟩
theorem hasL_find {S : Rq} {P : List Wt} (hp : P.Perm S.L) (i : Int) : hasL S i = (P.find? (isId i)).isSome := by
  unfold hasL
  cases h : P.find? (isId i) with
  | none =>
    show _ = false
    rw [List.any_eq_false]
    intro x hx e
    have := List.find?_eq_none.1 h x (hp.mem_iff.2 hx)
    exact this e
  | some x =>
    show _ = true
    exact List.any_eq_true.2 ⟨x, hp.mem_iff.1 (List.mem_of_find?_eq_some h), by have := List.find?_some h; exact this⟩
/-- The queue behind one that isn't there any more: the row's slice cut, its block turned. -/
theorem RB.gone {O : Nat → Prop} {b : Nat} {v : Value} {fm gm : Nat} {P : List Wt} {G : List (Txt × Int)} {S : Rq} {w w1 : World} (h : RB O b v fm gm P G S w) {g cap k : Nat} {x : Wt} (hv : v = .slice (some ⟨g, 0, none⟩) P.length cap) (hc : P.length ≤ cap ∧ cap ≤ maxLen) (hx : P[k]? = some x)
    (hd : DelPost g cap P k w (.returned (.slice (some ⟨g, 0, none⟩) (P.length - 1) cap)) w1) :
    RB O b (.slice (some ⟨g, 0, none⟩) (P.length - 1) cap) fm gm (P.eraseIdx k) G (removeQ S x.1.id) (w1.setCell ⟨b, 4, none⟩ (.slice (some ⟨g, 0, none⟩) (P.length - 1) cap)) ∧ Fr O w (w1.setCell ⟨b, 4, none⟩ (.slice (some ⟨g, 0, none⟩) (P.length - 1) cap)) := by
  obtain ⟨_, ⟨cur, d1, d2, d3⟩, d4⟩ := hd
  obtain ⟨n1, n2, n3⟩ := h.gne (g := g) (by rw [hv]; rfl)
  have hO : O g := h.ov g (by rw [hv]; rfl)
  have hk := (List.getElem?_eq_some_iff.1 hx).1
  have he : (P.eraseIdx k).length = P.length - 1 := by rw [List.length_eraseIdx]; simp [hk]
  have hb1 : w1.heap[b]? = w.heap[b]? := d4.block b h.blt (Ne.symm n1)
  have hnod : (P.map (fun x => x.1.id)).Nodup := (h.perm.map _).nodup_iff.2 h.ok.idsL
  have hbx := h.box
  have hbne := h.bne
  have f1 : Fr O w (w1.setCell ⟨b, 4, none⟩ (.slice (some ⟨g, 0, none⟩) (P.length - 1) cap)) := (d4.mono (O' := O) fun i _ hi => hi ▸ hO).set h.ob 4 _
  refine ⟨⟨?_, ⟨flat_len encR 5 encR_len _, .inr ⟨g, cap, cur, ?_, Nat.zero_le _, ?_, ?_, hc.2, d2, ?_⟩⟩, ?_, ?_, ?_, h.cnt, ?_, h.ob, h.ofm, h.ogm, fun k hk => ?_, h.ne, h.ok.remove _, fun i hi => ?_⟩, f1⟩
  · exact setOf (hb1.trans hbx) 4 _
  · rw [he]
  · rw [set_far n1]; exact d1
  · rw [he]; omega
  · rw [he]; exact d3
  · rw [erase_filter hnod hx]; exact h.perm.filter _
  · exact h.fly.block ((set_far (Ne.symm hbne.1) 4 _).trans (d4.block _ h.fly.lt (Ne.symm n2)))
  · exact h.go.block ((set_far (Ne.symm hbne.2) 4 _).trans (d4.block _ h.go.lt (Ne.symm n3)))
  · have := h.glen
    have k : (removeQ S x.1.id).L.length ≤ S.L.length := List.length_filter_le _ _
    show (G.length : Int) + (removeQ S x.1.id).L.length ≤ S.n
    omega
  · simp only [Value.ownBlock, Option.some.injEq] at hk
    subst hk; exact hO
  · exact Nat.lt_of_lt_of_le (h.olt i hi) f1.size
set_option maxHeartbeats 4000000 in
/-- Remove. -/
theorem remove_x {O : Nat → Prop} {b : Nat} {S : Rq} {w : World} (h : RA O b S w) (i : Int) :
    Calls Try.prog 16 #[.pointer (some ⟨b, 0, none⟩), .int .i64 i] w fun e w' => e = .returned (.bool (hasL S i)) ∧ RA O b (removeQ S i) w' ∧ Fr O w w' := by
  obtain ⟨v, fm, gm, P, G, h⟩ := h
  have HH := Lib.hid h
  have HP := Lib.hid (place_x h i)
  have hbn : b ≠ 0 ∨ True := .inr trivial
  clear h hbn
  go_enter Try.func16, Try.ntmps16
  go_wp2_with fail
  refine HP.out.mono ?_
  rintro e w1 ⟨⟨r, rfl, hr⟩, hb1⟩
  have HB := Lib.hid hb1
  have H1 := Lib.hid (HH.out.below hb1)
  clear hb1
  rcases hr with ⟨rfl, hn⟩ | ⟨k, x, rfl, hx, hf⟩
  · have HN := Lib.hid hn
    clear hn
    go_wp2_with fail
    go_ret
    refine ⟨ret_bool ?_, ?_, Fr.of_below HB.out⟩
    · rw [hasL_find HH.out.perm i, HN.out]; rfl
    · have e : removeQ S i = S := by
        unfold removeQ
        have : S.L.filter (fun x => x.1.id != i) = S.L := List.filter_eq_self.2 fun y hy => by
          have := find_none_id HN.out y (HH.out.perm.mem_iff.2 hy)
          simpa using this
        rw [this]
      rw [e]; exact ⟨v, fm, gm, P, G, H1.out⟩
  · obtain ⟨g, cap, cur, hv, hg, hc1, hc2, hc3, hc4, hO⟩ := H1.out.form (by have := (List.getElem?_eq_some_iff.1 hx).1; omega)
    have hlt := (List.getElem?_eq_some_iff.1 hx).1
    have HX := Lib.hid (And.intro hx (And.intro hf (And.intro hv (And.intro hc1 hc2))))
    have HD := Lib.hid (del_x hg hlt hc1 hc3 hc4)
    have few := H1.out.few
    have wk : IntKind.i64.wrap ((k : Int) + 1) = (k : Int) + 1 := by simp [IntKind.wrap, IntKind.bits, IntKind.signed]; omega
    have hk0 : decide ((k : Int) < 0) = false := decide_eq_false (by omega)
    have c4 := H1.out.c4
    rw [hv] at c4
    clear hx hf hv hc1 hc2 hc3 hc4 hg hO
    go_wp2_with fail
    refine HD.out.mono ?_
    rintro e w2 ⟨rfl, hd1, hd2⟩
    have hbb : w2.heap[b]? = w1.heap[b]? := hd2.block b H1.out.blt (Ne.symm (H1.out.gne (g := g) (by rw [HX.out.2.2.1]; rfl)).1)
    have hbx : w2.heap[b]? = some (.cells (bxC S v fm gm) 64 (0, 0)) := hbb.trans H1.out.box
    have b4 := cellOf hbx 4
    have f4 := freeOf hbx 4
    have HG := Lib.hid (H1.out.gone HX.out.2.2.1 HX.out.2.2.2 HX.out.1 ⟨rfl, hd1, hd2⟩)
    clear hd1 hd2 hbb hbx
    go_wp2_with fail
    go_ret
    have e := (find_some_id HX.out.2.1).2
    refine ⟨ret_bool ?_, ?_, (Fr.of_below HB.out : Fr O w w1).trans0 HG.out.2⟩
    · rw [hasL_find HH.out.perm i, HX.out.2.1]; rfl
    · rw [← e]; exact ⟨_, _, _, _, _, HG.out.1⟩
end Go.Proofs.Ytjjndndhmccflaa
