/-
  The walks of the row's Push and Pop.
-/
import Derived.Test.YtmmghdnlppjgbaaWhDown
namespace Go.Proofs.Ytmmghdnlppjgbaa
set_option maxRecDepth 100000
open Go.RowKit
theorem Fr.grown {O : Nat → Prop} {a w w' : World} (h : Fr O a w) {row : Option Nat} (g : w.grownBy w' row) (hr : ∀ k, row = some k → O k) : Fr O a w' :=
  h.trans0 (⟨g.os, g.tape, g.output, g.size, fun i hi hn => g.block i hi (fun e => hn (hr i e.symm))⟩ : Fr O w w')
/-- A set of blocks with one more. -/
def wth (O : Nat → Prop) (v : Value) : Nat → Prop := fun k => O k ∨ v.ownBlock = some k
section
variable {O : Nat → Prop} {b : Nat} {n : Int} {mt : Nat} {sv : Nat → Option Nat} {v : Value} {L : List Hd} {w : World}
theorem HS.pushed (h : HS O b n mt sv v L w) {t : Hd} {l p : Int} (ht : TmB w t.a t.id t.f l p) (hl : l = 4) (ha : ∀ x ∈ L, x.a ≠ t.a) (oa : O t.a) (hf : L.length < 1000000) {w3 : World} {v' : Value}
    (r1 : w3.ownsRow 0 66 1 v' (L.length + 1) (L.map Hd.ptr ++ [ptrV t.a])) (r2 : ((w.setCell ⟨t.a, 3, none⟩ (.int .i64 L.length)).alloc (.cells #[ptrV t.a] 66)).grownBy w3 v.ownBlock) (r3 : v'.ownBlock = v.ownBlock ∨ v'.ownBlock = some (w.heap.size + 1)) :
    HS (wth O v') b n mt sv v' (L ++ [t]) (w3.setCell ⟨b, 258, none⟩ v') ∧ Fr O w (w3.setCell ⟨b, 258, none⟩ v') ∧ ∀ k, wth O v' k → O k ∨ w.heap.size ≤ k := by
  subst hl
  obtain ⟨cs, hb0, _⟩ := h.wb
  have kb : v.ownBlock ≠ some b := own_kind h.row hb0 (by decide)
  have kt : v.ownBlock ≠ some t.a := own_kind h.row ht (by decide)
  have kL : ∀ x ∈ L, v.ownBlock ≠ some x.a := fun x hx => by
    obtain ⟨k, hk, rfl⟩ := List.getElem_of_mem hx
    exact own_kind h.row (h.hd k _ (List.getElem?_eq_getElem hk)) (by decide)
  have tb : t.a ≠ b := fun e => by
    unfold TmB at ht
    rw [e, hb0] at ht
    injection ht with ht
    injection ht with _ h2
    exact absurd h2 (by decide)
  have keep : ∀ k, k < w.heap.size → v.ownBlock ≠ some k → w3.heap[k]? = (w.setCell ⟨t.a, 3, none⟩ (.int .i64 L.length)).heap[k]? := fun k hk hne => by
    rw [r2.block k (by simp; omega) (fun e => hne e.symm)]
    exact Below.heap_alloc _ _ k (by simpa using hk)
  have fr3 : Fr O w w3 := ((((Fr.refl O w).set oa 3 (.int .i64 L.length)).alloc _).grown r2 h.ov)
  have e3 : TmB w3 t.a t.id t.f 4 L.length := (ht.setPlace L.length).of (keep t.a (ltOf ht) kt)
  have eL : ∀ (k : Nat) (x : Hd), L[k]? = some x → TmB w3 x.a x.id x.f 4 k := fun k x hx => ((h.hd k x hx).far (ha x (mem_at hx)) _ _).of (keep x.a (ltOf (h.hd k x hx)) (kL x (mem_at hx)))
  have hsz : w.heap.size ≤ w3.heap.size := fr3.size
  have bnv : v'.ownBlock ≠ some b := by
    rcases r3 with e | e
    · rw [e]; exact kb
    · rw [e]; intro e2; injection e2 with e2; have := h.wb.lt; omega
  have hsub : ∀ k, wth O v' k → O k ∨ w.heap.size ≤ k := fun k hk => by
    rcases hk with hk | hk
    · exact .inl hk
    · rcases r3 with e | e
      · exact .inl (h.ov k (e ▸ hk))
      · rw [hk] at e; injection e with e; exact .inr (by omega)
  refine ⟨⟨((h.wb.far tb.symm _ _).of (keep b h.wb.lt kb)).setList v', ?_, fun k x hx => ?_, ?_, .inl h.ob, fun g hg => .inr hg, fun x hx => ?_, by simp; omega, fun k hk => ?_⟩, fr3.set h.ob 258 v', hsub⟩
  · rw [List.length_append, List.map_append]
    exact ownsRow_setCell_other r1 (a := ⟨b, 258, none⟩) bnv _
  · by_cases hk : k < L.length
    · rw [List.getElem?_append_left hk] at hx
      exact (eL k x hx).far (h.ne_b x (mem_at hx)) _ _
    · rw [List.getElem?_append_right (by omega)] at hx
      have hk0 : k - L.length = 0 := by
        have := (List.getElem?_eq_some_iff.1 hx).1
        simp at this
        omega
      rw [hk0] at hx
      injection hx with hx
      subst hx
      rw [show k = L.length by omega]
      exact e3.far tb _ _
  · rw [List.map_append]
    refine List.nodup_append.2 ⟨h.nd, by simp, fun x hx y hy e => ?_⟩
    obtain ⟨z, hz, rfl⟩ := List.mem_map.1 hx
    simp at hy
    exact ha z hz (e.trans hy)
  · rcases List.mem_append.1 hx with hx | hx
    · exact .inl (h.ol x hx)
    · simp at hx; subst hx; exact .inl oa
  · rw [World.size_setCell]
    rcases hk with hk | hk
    · have := h.olt k hk; omega
    · exact (r1.lt k hk).2
theorem Try.infoP : (Try.prog.info? 66).map (fun i => (i.zero, i.size, i.bytes)) = some (some (.pointer none), 1, 8) := by kernel_rfl
theorem own_slice' {w : World} {B : Nat} {e : TypeId} {size n : Nat} {v : Value} {xs : List Value} (h : w.ownsRow B e size v n xs) : ∃ A c, v = .slice A n c := own_slice h
theorem one_news (w : World) (a : Nat) : ∀ j u, [ptrV a][j]? = some u → (w.alloc (.cells #[ptrV a] 66)).cell? ((⟨w.heap.size, 0, none⟩ : Addr).add j) = some u := by
  intro j u hj
  match j with
  | 0 => simp at hj; subst hj; exact World.cell?_alloc_at _ _ _ _ rfl
  | j + 1 => simp at hj
theorem assert_tm (w : World) (a : Nat) : (Instr.typeAssert (.iface 66 (ptrV a)) 20 66 false).run Try.prog w = .ok (ptrV a) w := by kernel_rfl
set_option maxHeartbeats 2000000 in
theorem push_x (h : HS O b n mt sv v L w) {t : Hd} {p : Int} (ht : TmB w t.a t.id t.f 4 p) (ha : ∀ x ∈ L, x.a ≠ t.a) (oa : O t.a) (hf : L.length < 1000000) :
    Calls Try.prog 82 #[lsP b, .iface 66 (ptrV t.a)] w fun e w' => e = .returned (.tuple #[]) ∧ ∃ O' v', HS O' b n mt sv v' (L ++ [t]) w' ∧ Fr O w w' ∧ ∀ k, O' k → O k ∨ w.heap.size ≤ k := by
  have HP := Lib.hid (fun w3 v' r1 r2 r3 => h.pushed ht rfl ha oa hf (w3 := w3) (v' := v') r1 r2 r3)
  have c0 := h.wb.list
  have fb := h.wb.free 258
  obtain ⟨_, _, _, c3⟩ := ht.cells
  have f3 : w.frozen? ⟨t.a, 3, none⟩ = false := freeOf ht 3
  have tb : t.a ≠ b := fun e => by
    obtain ⟨cs, hb0, _⟩ := h.wb
    unfold TmB at ht
    rw [e, hb0] at ht
    injection ht with ht
    injection ht with _ h2
    exact absurd h2 (by decide)
  have nb : b ≠ t.a := fun e => tb e.symm
  have kb : v.ownBlock ≠ some b := by obtain ⟨cs, hb0, _⟩ := h.wb; exact own_kind h.row hb0 (by decide)
  have hbl := h.wb.lt
  obtain ⟨A, c, rfl⟩ := own_slice h.row
  have HROW := Lib.hid (ownsRow_setCell_other h.row (a := ⟨t.a, 3, none⟩) (own_kind h.row ht (by decide)) (.int .i64 L.length))
  have HFEW := Lib.hid h.few
  have HNB := Lib.hid kb
  clear h ht ha oa hf kb
  have hTA := assert_tm w t.a
  obtain ⟨i0, hi, hz0, hz1, hz2⟩ := info_parts Try.infoP
  go_enter Try.func82, Try.ntmps82
  go_wp2_with (at_builtin; refine wpList_append_own_at (w := _) rfl (.tmp 17) (.tmp 19) 63 rfl 0 66 i0 (.pointer none) 1 8 Try.underlying63 hi hz0 hz1 hz2 rfl (by decide) _ L.length (L.map Hd.ptr) rfl (HROW.out.alloc _) _ 1 1 [ptrV t.a] rfl rfl ?_ ?_ ?_ ?_ ?_ ?_)
  · intro j u hj
    have := one_news (w.setCell ⟨t.a, 3, none⟩ (.int .i64 L.length)) t.a j u hj
    rwa [World.size_setCell] at this
  · intro u hu
    simp at hu
    subst hu
    rfl
  · have := HFEW.out
    unfold maxLen
    omega
  · have := HFEW.out
    omega
  · exact Nat.zero_le _
  · intro v' w3 r1 r2 _ r3
    have HR := Lib.hid (HP.out w3 v' r1 r2 r3)
    obtain ⟨A', c', rfl⟩ := own_slice r1
    have e3 : w3.heap[b]? = w.heap[b]? := ((r2.block b (by simp; omega) (fun e => HNB.out e.symm)).trans (Below.heap_alloc _ _ b (by simpa using hbl))).trans (set_far nb _ _)
    have c4 : w3.cell? ⟨b, 258, none⟩ = some (.slice A L.length c) := (World.cell?_of_block e3).trans c0
    have f4 : w3.frozen? ⟨b, 258, none⟩ = false := (World.frozen?_of_block e3).trans fb
    clear e3 r1 r2 r3 c0 fb HROW
    go_wp2_with fail
    go_end0
    exact ⟨rfl, _, _, HR.out⟩
end
end Go.Proofs.Ytmmghdnlppjgbaa
