/-
  append of strings that came in, nil too, onto a row of the call's own.
-/
import Derived.Test.YtkkpfencnjnddaaBack
namespace Go.Proofs.Ytkkpfencnjnddaa
open Go.RowKit
def strsB (ps : List ByteArray) : List Value := ps.map Value.string
theorem app_strs {w : World} {ops : Array Oper} {rest : List Oper} {o : Oper} {a : Act} {Q : Exit → Act → World → Prop} (hgd : o.guard = none) (s x : Operand)
    (ho : o.op = .call { callee := .builtin .append, args := #[s, x], argTypes := #[22, 22] }) (base : Nat) (v : Value) (n : Nat) (xs : List Value) (hs : a.eval s = v) (hown : w.ownsRow base 9 1 v n xs)
    (A : Option Addr) (m c : Nat) (ps : List ByteArray) (hx : a.eval x = .slice A m c) (hst : Strs w A m ps) (hnil : A = none → c = 0) (h9 : n + m ≤ 1000000000) (hbase : base ≤ w.heap.size)
    (h : ∀ v' w', w'.ownsRow base 9 1 v' (n + m) (xs ++ strsB ps) → w.grownBy w' v.ownBlock → wpList Try.prog ops Q rest (a.put o.dst v') w') :
    wpList Try.prog ops Q (o :: rest) a w := by
  obtain ⟨i0, hi, hz0, hz1, hz2⟩ := info_parts Try.info9
  cases A with
  | some ad =>
    refine wpList_append_own_at w hgd s x 22 ho base 9 i0 (.string ⟨#[]⟩) 1 16 Try.underlying22 hi hz0 hz1 hz2 rfl (by decide) v n xs hs hown ad m c (strsB ps) hx (by simp [strsB, hst.1]) ?_ ?_ (by unfold maxLen; omega) (by omega) hbase fun v' w' h1 h2 _ _ => h v' w' h1 h2
    · intro j u hu
      rw [strsB, List.getElem?_map] at hu
      cases hp : ps[j]? with
      | none => rw [hp] at hu; cases hu
      | some p =>
        rw [hp] at hu
        injection hu with hu
        have hj : j < m := by have := (List.getElem?_eq_some_iff.1 hp).1; rw [hst.1] at this; exact this
        obtain ⟨ad', e, _, hc⟩ := hst.2 (by omega)
        injection e with e
        subst e
        rw [← hu]
        exact hc j p hp
    · intro u hu
      obtain ⟨p, _, rfl⟩ := List.mem_map.1 hu
      rfl
  | none =>
    have hm : m = 0 := by
      rcases Nat.eq_zero_or_pos m with h0 | h0
      · exact h0
      · obtain ⟨_, e, _⟩ := hst.2 h0; cases e
    subst hm
    have hps : ps = [] := List.eq_nil_of_length_eq_zero hst.1
    subst hps
    have hc0 := hnil rfl
    subst hc0
    refine wpList_plain hgd fun K hK' => ?_
    have hrun := run_append_owned_none (P := Try.prog) w base 22 o.type 9 i0 1 Try.underlying22 hi v n xs hown
    unfold Oper.wp
    simp [execOp, ho, resolve, invoke, builtin, hs, hx, hrun, Result.andThen]
    exact hK' _ _ (h v w (by simpa [strsB] using hown) (World.grownBy.refl _ _))
theorem own_strsB {w : World} {B c n : Nat} {A : Option Addr} {ps : List ByteArray} (h : w.ownsRow B 9 1 (.slice A n c) n (strsB ps)) : Strs w A n ps := by
  have hl : ps.length = n := by have := h.1; simpa [strsB] using this
  refine ⟨hl, fun hn => ?_⟩
  obtain ⟨g, cap, hv, _, hlt⟩ := h.form hn
  injection hv with h1 h2 h3
  subst h1
  refine ⟨_, rfl, hlt, fun j p hj => h.cells rfl j (.string p) ?_⟩
  rw [strsB, List.getElem?_map, hj]; rfl
end Go.Proofs.Ytkkpfencnjnddaa
