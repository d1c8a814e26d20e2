/-
  The walk of Advance.
-/
import Derived.Test.YtmmghdnlppjgbaaWhAdvX
namespace Go.Proofs.Ytmmghdnlppjgbaa
set_option maxRecDepth 100000
open Go.RowKit
theorem wpList_app_run {P : Program} {w w' : World} {ops : Array Oper} {rest : List Oper} {o : Oper} {a : Act} {Q : Exit → Act → World → Prop} (hg : o.guard = none) (s x : Operand) (t : TypeId)
    (ho : o.op = .call { callee := .builtin .append, args := #[s, x], argTypes := #[t, t] }) (v u v' : Value) (hs : a.eval s = v) (hx : a.eval x = u) (hrun : (Builtin.append_ #[t, t] o.type #[v, u]).run P w = .ok v' w') (h : wpList P ops Q rest (a.put o.dst v') w') : wpList P ops Q (o :: rest) a w := by
  refine wpList_plain hg fun K hK => ?_
  unfold Oper.wp execOp
  simp only [ho, resolve, invoke, builtin, Sem.run_bind, Sem.run_pure, Result.andThen_ok, List.map_toArray, List.map_cons, List.map_nil, hs, hx, hrun]
  exact hK _ _ h
section
variable {O : Nat → Prop} {b : Nat} {M : List En} {n to batch : Int} {w : World}
set_option maxHeartbeats 4000000 in
theorem adv_x (h : PW O b n M w) (few : M.length ≤ 1000) (hto : n ≤ to) (hto2 : to ≤ 1099511627776) (hb1 : 1 ≤ batch) (hb2 : batch ≤ 1048576) :
    Calls Try.prog 15 #[.pointer (some ⟨b, 0, none⟩), .int .i64 to, .int .i64 batch] w fun e w' => ∃ vr m, e = .returned (.tuple #[vr, .int .i64 m, .int .i64 0]) ∧ AdE O b M n to batch w vr m w' := by
  obtain ⟨S, mt, sv, v, L, h1, h2⟩ := h
  have c0 := h1.hs.wb.now
  have n0 := h2.n0
  have d1 : decide (to < n) = false := decide_eq_false (by omega)
  have d2 : decide ((1099511627776 : Int) < to) = false := decide_eq_false (by omega)
  have d3 : decide (batch < 1) = false := decide_eq_false (by omega)
  have d4 : decide ((1048576 : Int) < batch) = false := decide_eq_false (by omega)
  have H0 : Hid (AdI O b M n to batch w (.slice none 0 0) 0 n S O mt sv v L w) := Lib.hid ⟨Nat.zero_le _, fun p hp => by simp at hp, Int.le_refl _, hto, ⟨0, by omega, Nat.le_refl _, fun p hp => by simp at hp⟩, h1, by simpa using h2, fun _ e => .inl e, ⟨by simp, .inl ⟨rfl, by simp⟩⟩, fun g hg => by simp [Value.ownBlock] at hg, Fr.refl _ _⟩
  have HF := Lib.hid few
  clear h1 h2 few
  go_enter Try.func15, Try.ntmps15
  go_wp2_with fail
  go_loopg [6] ((to - n).toNat + 1) (fun gf s6 wr => ∃ (k : Nat) (n1 : Int) (S1 : List Tm) (O1 : Nat → Prop) (sv1 : Nat → Option Nat) (v1 : Value) (L1 : List Hd), Hid (AdI O b M n to batch w s6 k n1 S1 O1 mt sv1 v1 L1 wr ∧ (to - n1).toNat < gf))
  case atStart => exact ⟨0, n, S, O, sv, v, L, Lib.hid ⟨H0.out, by omega⟩⟩
  case round =>
    obtain ⟨k, n1, S1, O1, sv1, v1, L1, HI⟩ := hrel
    have hr := HI.out.1.row
    rw [show ((M.take k).map Prod.snd).length = k by rw [List.length_map, List.length_take]; have := HI.out.1.le; omega] at hr
    obtain ⟨A, cc, rfl⟩ := own_slice hr
    clear hr
    have cn := HI.out.1.wc.hs.wb.now
    have fn := HI.out.1.wc.hs.wb.free 0
    by_cases hk : (k : Int) < batch
    · have HT := Lib.hid (turn_x HI.out.1.wc HI.out.1.set.stand HI.out.1.set.n0 HI.out.1.set.n1 (fun t ht => by have := HI.out.1.set.f1 t ht; omega))
      go_wp2_with fail
      refine HT.out.mono ?_
      rintro e w2 ⟨r, ok, rfl, hf, hb⟩
      have hbl := HI.out.1.wc.hs.wb.lt
      have cn2 : w2.cell? ⟨b, 0, none⟩ = some (.int .i64 n1) := (hb.cell (p := ⟨b, 0, none⟩) hbl).trans cn
      have fn2 : w2.frozen? ⟨b, 0, none⟩ = false := (hb.frozen (p := ⟨b, 0, none⟩) hbl).trans fn
      cases ok with
      | false =>
        have HE := Lib.hid (fun q => HI.out.1.done hk hto2 hf (fun e => by simp at e) hb q)
        clear hf hb hbl cn fn
        go_wp2_with fail
        go_quiet (fail)
        go_wp2_with fail
        go_returns
        exact ⟨_, to, rfl, HE.out _⟩
      | true =>
        cases hd : decide (to < r) with
        | true =>
          have HE := Lib.hid (fun q => HI.out.1.done hk hto2 hf (fun _ => of_decide_eq_true hd) hb q)
          clear hf hb hbl cn fn
          go_wp2_with fail
          go_quiet (fail)
          go_wp2_with fail
          go_returns
          exact ⟨_, to, rfl, HE.out _⟩
        | false =>
          obtain ⟨a1, a2⟩ := HI.out.1.an HF.out hf
          have hr : r ≤ to := by have := of_decide_eq_false hd; omega
          have w3c := (HI.out.1.wc.below hb).setNow r
          have n10 := HI.out.1.set.n0
          have HA := Lib.hid (anew_x w3c (by omega) (by omega) a2)
          have HB := Lib.hid hb
          have hrn : r ≤ 1099511627776 := by omega
          have hr0 : 0 ≤ r := by omega
          clear hf hb hbl cn fn a2 w3c
          go_wp2_with fail
          refine HA.out.mono ?_
          rintro e w4 ⟨rfl, S2, hd4, ha4, h44⟩
          obtain ⟨O2, sv2, v2, L2, w4c, s2⟩ := hd4.at_
          have HFi := Lib.hid (fire_x w4c hr0 hrn ha4.nm ha4.few)
          have H4 := Lib.hid (And.intro hd4.fr (And.intro s2 (And.intro ha4 h44)))
          clear hd4 ha4 h44 w4c s2
          go_wp2_with fail
          refine HFi.out.mono ?_
          rintro e w5 ⟨vu, rfl, hu, ⟨sv3, w5c⟩, f5⟩
          obtain ⟨v', w6, hrun, k', S3, L3, hN⟩ := HI.out.1.fired hk a1 hr hto2 HB.out H4.out.1 H4.out.2.1 H4.out.2.2.1 H4.out.2.2.2 f5 w5c hu HF.out 40
          obtain ⟨A2, c2, rfl⟩ := own_slice hu
          have hrow := hN.row
          obtain ⟨A3, c3, rfl⟩ := own_slice hrow
          rw [show ((M.take k').map Prod.snd).length = k' by rw [List.length_map, List.length_take]; have := hN.le; omega] at hN hrun
          have HN := Lib.hid hN
          clear hN hu w5c f5 hrow
          go_wp2_with (at_builtin; refine wpList_app_run rfl (.tmp 55) (.tmp 57) 40 rfl _ _ _ rfl rfl hrun ?_)
          go_roundg ((to - r).toNat + 1)
          case measure => have := HI.out.2; omega
          case rel => exact ⟨k', r, S3, O2, sv3, v2, L3, Lib.hid ⟨HN.out, by omega⟩⟩
    · have HE := Lib.hid (fun q => HI.out.1.full (by omega) q)
      go_wp2_with fail
      go_quiet (fail)
      go_wp2_with fail
      go_returns
      exact ⟨_, n1, rfl, HE.out _⟩
end
end Go.Proofs.Ytmmghdnlppjgbaa
