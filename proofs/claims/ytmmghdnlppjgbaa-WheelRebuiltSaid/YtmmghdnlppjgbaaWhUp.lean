/-
  The walks of heap's up and down over the row behind the wheels.
-/
import Derived.Test.YtmmghdnlppjgbaaWhSwap
namespace Go.Proofs.Ytmmghdnlppjgbaa
set_option maxRecDepth 100000
open Go.RowKit
abbrev lsP (b : Nat) : Value := .pointer (some ⟨b, 258, none⟩)
abbrev lsI (b : Nat) : Value := .iface 72 (lsP b)
/-- How deep methods are looked for: as the walk reckons it (the number of the dump's types and 100). -/
theorem sz : Try.prog.types.size + 100 = 233 := by kernel_rfl
theorem meth_less {w : World} {b l c : Nat} {A : Option Addr} (h : w.cell? ⟨b, 258, none⟩ = some (.slice A l c)) : (method 233 72 (lsP b) "Less").run Try.prog w = .ok (79, .slice A l c) w := by
  have e : (method 233 72 (lsP b) "Less").run Try.prog w = (do let v ← loadVar 63 ⟨b, 258, none⟩; pure (79, v) : Sem (FuncId × Value)).run Try.prog w := by kernel_rfl
  rw [e]
  simp [h, go_sem, loadVar]
theorem meth_swap {w : World} {b l c : Nat} {A : Option Addr} (h : w.cell? ⟨b, 258, none⟩ = some (.slice A l c)) : (method 233 72 (lsP b) "Swap").run Try.prog w = .ok (80, .slice A l c) w := by
  have e : (method 233 72 (lsP b) "Swap").run Try.prog w = (do let v ← loadVar 63 ⟨b, 258, none⟩; pure (80, v) : Sem (FuncId × Value)).run Try.prog w := by kernel_rfl
  rw [e]
  simp [h, go_sem, loadVar]
theorem meth_len {w : World} {b l c : Nat} {A : Option Addr} (h : w.cell? ⟨b, 258, none⟩ = some (.slice A l c)) : (method 233 72 (lsP b) "Len").run Try.prog w = .ok (78, .slice A l c) w := by
  have e : (method 233 72 (lsP b) "Len").run Try.prog w = (do let v ← loadVar 63 ⟨b, 258, none⟩; pure (78, v) : Sem (FuncId × Value)).run Try.prog w := by kernel_rfl
  rw [e]
  simp [h, go_sem, loadVar]
theorem meth_push (w : World) (b : Nat) : (method 233 72 (lsP b) "Push").run Try.prog w = .ok (82, lsP b) w := by kernel_rfl
theorem meth_pop (w : World) (b : Nat) : (method 233 72 (lsP b) "Pop").run Try.prog w = .ok (81, lsP b) w := by kernel_rfl
theorem enter_less (args : Array Value) (w : World) : (callFunc 79 args).run Try.prog w = .ok (.enter 79 args) w := by kernel_rfl
theorem enter_swap (args : Array Value) (w : World) : (callFunc 80 args).run Try.prog w = .ok (.enter 80 args) w := by kernel_rfl
theorem enter_len (args : Array Value) (w : World) : (callFunc 78 args).run Try.prog w = .ok (.enter 78 args) w := by kernel_rfl
theorem enter_push (args : Array Value) (w : World) : (callFunc 82 args).run Try.prog w = .ok (.enter 82 args) w := by kernel_rfl
theorem enter_pop (args : Array Value) (w : World) : (callFunc 81 args).run Try.prog w = .ok (.enter 81 args) w := by kernel_rfl
section
variable {O : Nat → Prop} {b : Nat} {n : Int} {mt : Nat} {sv : Nat → Option Nat} {v : Value} {L : List Hd} {w : World}
/-- A row in other order. -/
structure HP (O : Nat → Prop) (b : Nat) (n : Int) (mt : Nat) (sv : Nat → Option Nat) (v : Value) (L L' : List Hd) (m : Nat) (w w' : World) : Prop where
  hs : HS O b n mt sv v L' w'
  fr : Fr O w w'
  perm : L'.Perm L
  far : ∀ k, m ≤ k → L'[k]? = L[k]?
theorem HP.refl (h : HS O b n mt sv v L w) (m : Nat) : HP O b n mt sv v L L m w w := ⟨h, Fr.refl _ _, List.Perm.refl _, fun _ _ => rfl⟩
theorem HP.len {L' : List Hd} {m : Nat} {w' : World} (h : HP O b n mt sv v L L' m w w') : L'.length = L.length := h.perm.length_eq
theorem HP.drewN {L' : List Hd} {m : Nat} {w' : World} (h : HP O b n mt sv v L L' m w w') (k : Nat) : HP O b n mt sv v L L' m w (w'.drewN k) := ⟨h.hs.drewN k, h.fr.trans0 (Fr.drewN _ _ _), h.perm, h.far⟩
theorem HP.swap {L' : List Hd} {m i j : Nat} {w' w'' : World} (h : HP O b n mt sv v L L' m w w') (hi : i < m) (hj : j < m) (hm : m ≤ L.length) (h2 : HS O b n mt sv v (swL L' i j) w'' ∧ Fr O w' w'') : HP O b n mt sv v L (swL L' i j) m w w'' := by
  refine ⟨h2.1, h.fr.trans0 h2.2, (swL_perm _ _ _).trans h.perm, fun k hk => ?_⟩
  have := h.len
  obtain ⟨x, hx⟩ : ∃ x, L'[i]? = some x := ⟨_, List.getElem?_eq_getElem (by omega)⟩
  obtain ⟨y, hy⟩ : ∃ y, L'[j]? = some y := ⟨_, List.getElem?_eq_getElem (by omega)⟩
  rw [swL_get hx hy, if_neg (by omega), if_neg (by omega)]
  exact h.far k hk
theorem at_some {L : List Hd} {k : Nat} (h : k < L.length) : ∃ x, L[k]? = some x := ⟨_, List.getElem?_eq_getElem h⟩
set_option maxHeartbeats 2000000 in
theorem up_x (h : HS O b n mt sv v L w) {j0 m : Nat} (hj0 : j0 < m) (hm : m ≤ L.length) (hu : UOk m (keyL L) j0) :
    Calls Try.prog 33 #[lsI b, .int .i64 j0] w fun e w' => e = .returned (.tuple #[]) ∧ ∃ L', HP O b n mt sv v L L' m w w' ∧ HOrd m (keyL L') := by
  obtain ⟨g, cap, rfl, _⟩ := h.form (by omega)
  have HM := Lib.hid hm
  have few := h.few
  have H0 := Lib.hid (HP.refl h m)
  have HU := Lib.hid hu
  clear h hu hm
  go_enter Try.func33, Try.ntmps33
  go_wp2_with fail
  go_loopw [1] (fun s wr => ∃ j L', s = .int .i64 (j : Nat) ∧ j < m ∧ Hid (HP O b n mt sv (.slice (some ⟨g, 0, none⟩) L.length cap) L L' m w wr ∧ UOk m (keyL L') j)) (fun s _ => (intOf s).toNat)
  case atStart => exact ⟨j0, L, rfl, hj0, Lib.hid ⟨H0.out, HU.out⟩⟩
  case round =>
    obtain ⟨j, L', rfl, hj, HR⟩ := hrel
    have hw := HR.out.1.hs.wb.list
    have hml : m ≤ 1000000 := by have := HM.out; omega
    rcases Nat.eq_zero_or_pos j with h0 | h0
    · subst h0
      go_wp2_with fail
      go_end0
      exact ⟨rfl, L', HR.out.1, up_end HR.out.2 (above_zero _)⟩
    · obtain ⟨i, hi⟩ : ∃ i, i = (j - 1) / 2 := ⟨_, rfl⟩
      have hk : kid i j := by unfold kid; omega
      have hij := kid_lt hk
      have hdiv : ((j : Int) - 1).tdiv 2 = (i : Int) := by rw [Int.tdiv_eq_ediv_of_nonneg (by omega)]; omega
      have hne : (((i : Int)) == (j : Int)) = false := by simp; omega
      obtain ⟨x, hx⟩ := at_some (L := L') (k := j) (by rw [HR.out.1.len]; have := HM.out; omega)
      obtain ⟨y, hy⟩ := at_some (L := L') (k := i) (by rw [HR.out.1.len]; have := HM.out; omega)
      have HLess := Lib.hid (less_x HR.out.1.hs hx hy)
      have HSwap := Lib.hid (fun q => swap_x (HR.out.1.hs.drewN q) hy hx)
      have HX := Lib.hid (And.intro hx (And.intro hy hk))
      have mL := meth_less hw
      have mS := fun q => meth_swap (w := wr.drewN q) hw
      have eL := enter_less
      have eS := enter_swap
      clear hx hy hw hi hk
      cases hlt : decide (x.f < y.f) with
      | true =>
        rw [hlt] at HLess
        go_wp2_with (first
          | (go_at_call 79; refine HLess.out.mono ?_; rintro e w' ⟨rfl, q, rfl⟩)
          | (go_at_call 80; refine (HSwap.out _).mono ?_; rintro e w' ⟨rfl, hs2⟩))
        have HS2 := Lib.hid hs2
        clear hs2
        go_roundw
        case rel =>
          obtain ⟨hx, hy, hk⟩ := HX.out
          have hle : y.f ≥ x.f := by have := of_decide_eq_true hlt; omega
          refine ⟨i, swL L' i j, rfl, by omega, Lib.hid ⟨(HR.out.1.drewN q).swap (by omega) hj HM.out HS2.out, ?_⟩⟩
          rw [show keyL (swL L' i j) = swK (keyL L') i j from funext (keyL_sw (List.getElem?_eq_some_iff.1 hy).1 (List.getElem?_eq_some_iff.1 hx).1)]
          exact up_step HR.out.2 hk hj (by rw [keyL_at hx, keyL_at hy]; exact hle)
        case measure => simp [intOf]; omega
      | false =>
        rw [hlt] at HLess
        go_wp2_with (go_at_call 79; refine HLess.out.mono ?_; rintro e w' ⟨rfl, q, rfl⟩)
        go_end0
        obtain ⟨hx, hy, hk⟩ := HX.out
        refine ⟨rfl, L', HR.out.1.drewN q, up_end HR.out.2 fun p hp => ?_⟩
        rw [kid_one hp hk, keyL_at hx, keyL_at hy]
        have := of_decide_eq_false hlt
        omega
end
end Go.Proofs.Ytmmghdnlppjgbaa
