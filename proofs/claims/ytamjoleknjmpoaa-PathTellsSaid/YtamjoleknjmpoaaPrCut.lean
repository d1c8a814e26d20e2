/-
  The walks of the reference's cut, Labels and Atoms.
-/
import Derived.Test.YtamjoleknjmpoaaPrRefA
namespace Go.Proofs.Ytamjoleknjmpoaa
open Go.RowKit
/-- Texts as cells. -/
def tsV (ts : List (List UInt8)) : List Value := ts.map fun t => .string (mkS t)
theorem tsV_append (a b : List (List UInt8)) : tsV (a ++ b) = tsV a ++ tsV b := by simp [tsV]
theorem tsV_length (a : List (List UInt8)) : (tsV a).length = a.length := by simp [tsV]
theorem Try.infoS : (Try.prog.info? 9).map (fun i => (i.zero, i.size, i.bytes)) = some (some (.string ⟨#[]⟩), 1, 16) := by kernel_rfl
/-- append of one text onto a row of the call's own. -/
theorem app_one {w : World} {ops : Array Oper} {rest : List Oper} {o : Oper} {a : Act} {Q : Exit → Act → World → Prop} (hgd : o.guard = none) (s x : Operand)
    (ho : o.op = .call { callee := .builtin .append, args := #[s, x], argTypes := #[67, 67] }) (base : Nat) (v : Value) (ts : List (List UInt8)) (hs : a.eval s = v) (hown : w.ownsRow base 9 1 v ts.length (tsV ts))
    (ad : Addr) (t : List UInt8) (hx : a.eval x = .slice (some ad) 1 1) (hnew : w.cell? ad = some (.string (mkS t))) (h9 : ts.length ≤ 1000000000) (hbase : base ≤ w.heap.size)
    (h : ∀ v' w', w'.ownsRow base 9 1 v' (ts ++ [t]).length (tsV (ts ++ [t])) → w.grownBy w' v.ownBlock → wpList Try.prog ops Q rest (a.put o.dst v') w') :
    wpList Try.prog ops Q (o :: rest) a w := by
  obtain ⟨i0, hi, hz0, hz1, hz2⟩ := info_parts Try.infoS
  refine wpList_append_own_at w hgd s x 67 ho base 9 i0 (.string ⟨#[]⟩) 1 16 Try.underlying67 hi hz0 hz1 hz2 rfl (by decide) v ts.length (tsV ts) hs hown ad 1 1 [.string (mkS t)] hx rfl ?_ (by simp [Value.oneCell']) (by unfold maxLen; omega) (by omega) hbase fun v' w' h1 h2 _ _ => h v' w' ?_ h2
  · intro j u hj
    match j, hj with
    | 0, hj => simp at hj; subst hj; simpa [Addr.add] using hnew
  · rw [List.length_append, tsV_append]; exact h1
/-- Texts in a row of the call's own. -/
def Row (W w : World) (v : Value) (ts : List (List UInt8)) : Prop := w.ownsRow W.heap.size 9 1 v ts.length (tsV ts)
theorem Row.get {W w : World} {g n cap : Nat} {ts : List (List UInt8)} (h : Row W w (.slice (some ⟨g, 0, none⟩) n cap) ts) {i : Nat} {t : List UInt8} (hi : ts[i]? = some t) : w.cell? ⟨g, i, none⟩ = some (.string (mkS t)) := by
  have := World.ownsRow.cells h rfl i (.string (mkS t)) (by rw [tsV, List.getElem?_map, hi]; rfl)
  rwa [show (⟨g, 0, none⟩ : Addr).add i = ⟨g, i, none⟩ by unfold Addr.add; split <;> simp_all] at this
theorem row_grown {w0 w w' : World} {v : Value} {ts : List (List UInt8)} (hb : Below w0.heap.size w0 w) (hown : w.ownsRow w0.heap.size 9 1 v ts.length (tsV ts)) {o : Obj} (hg : (w.alloc o).grownBy w' v.ownBlock) : Below w0.heap.size w0 w' :=
  (hb.alloc hb.size o).grown hg (by have := hb.size; simp; omega) (fun k hk => (hown.lt k hk).1)
theorem split_ne (s : List UInt8) : (splitD s).length ≠ 0 := by
  obtain ⟨d, c, h⟩ := splitG_form s []
  rw [splitD, h]; simp
theorem row_some {W w : World} {v : Value} {ts : List (List UInt8)} (h : Row W w v ts) (hne : ts.length ≠ 0) : ∃ g cap, v = .slice (some ⟨g, 0, none⟩) ts.length cap := by
  rcases h.2 with ⟨_, h0⟩ | ⟨g, cap, cur, e, _⟩
  · exact absurd h0 hne
  · exact ⟨g, cap, e⟩
/-- What cut answers. -/
def CuPost (s : List UInt8) (w : World) (e : Ending) (w' : World) : Prop := ∃ g cap, e = .returned (.slice (some ⟨g, 0, none⟩) (splitD s).length cap) ∧ Row w w' (.slice (some ⟨g, 0, none⟩) (splitD s).length cap) (splitD s) ∧ Below w.heap.size w w'
/-- What holds in cut's loop. -/
def CuI (W : World) (s : List UInt8) (i f : Nat) (v : Value) (w : World) : Prop :=
  Below W.heap.size W w ∧ ((i ≤ s.length ∧ ∃ done, CutAt s i f done ∧ Row W w v done ∧ done.length ≤ i) ∨ (i = s.length + 1 ∧ Row W w v (splitD s)))
set_option maxHeartbeats 4000000 in
theorem rcut_x (s : List UInt8) (w : World) (hs : s.length ≤ 1000000) : Calls Try.prog 39 #[.string (mkS s)] w (CuPost s w) := by
  have hms := mkS_size s
  go_enter Try.func39, Try.ntmps39
  go_wp2_with fail
  go_loopw [3, 4, 5] (fun v fv i wr => ∃ (k f : Nat), k ≤ s.length + 1 ∧ f ≤ k ∧ i = .int .i64 k ∧ fv = .int .i64 f ∧ Hid (CuI w s k f v wr)) (fun _ _ i _ => s.length + 1 - (intOf i).toNat)
  case atStart => exact ⟨0, 0, by omega, Nat.le_refl _, rfl, rfl, Below.refl _ _, .inl ⟨Nat.zero_le _, [], CutAt.zero s, World.ownsRow_nil _ _ _ _, Nat.le_refl _⟩⟩
  case round =>
    obtain ⟨k, f, hk, hf, rfl, rfl, HI⟩ := hrel
    obtain ⟨hB, ⟨hks, done, hC, hR, hd⟩ | ⟨rfl, hR⟩⟩ := HI.out
    · have HB := Lib.hid hB
      have HC := Lib.hid hC
      have HR := Lib.hid hR
      obtain ⟨A, c, hv⟩ := own_slice hR
      have HX := Lib.hid (show (mkS s).extract f k = mkS ((s.take k).drop f) by rw [mkS_extract])
      have i0 : (0 : Int) ≤ (f : Int) := by omega
      have i1 : (f : Int) ≤ (k : Int) := by omega
      have i2 : (k : Int) ≤ (s.length : Int) := by omega
      clear hB hC hR HI
      subst hv
      by_cases hlt : k < s.length
      · obtain ⟨x, hx⟩ : ∃ x : UInt8, (mkS s)[k]'(by omega) = x := ⟨_, rfl⟩
        have hX : s[k]? = some x := by rw [← hx]; have := Lib.data_getElem? (mkS s) k (by omega); rwa [mkS_data] at this
        have d1 : ((x.toNat : Int) == 46) = (x == 46) := byte_beq x 46 (by decide) 46 rfl
        have d2 : ((k : Int) == (s.length : Int)) = false := beq_eq_false_iff_ne.2 (by omega)
        cases hq : (x == 46)
        · rw [hq] at d1
          have HN := Lib.hid (HC.out.step hX hq)
          clear hX hq
          go_wp2_with fail
          go_roundw
          case rel => exact ⟨k + 1, f, by omega, by omega, by go_num, rfl, HB.out, .inl ⟨by omega, done, HN.out, HR.out, by omega⟩⟩
          case measure => simp [intOf]; omega
        · rw [hq] at d1
          have HN := Lib.hid (HC.out.dot (by rw [hX, eq_of_beq hq]))
          clear hX hq
          go_wp2_with (at_builtin; rw [HX.out]; refine app_one rfl (.tmp 22) (.tmp 27) rfl w.heap.size (.slice A done.length c) done rfl (World.ownsRow.alloc HR.out _) ⟨wr.heap.size, 0, none⟩ ((s.take k).drop f) rfl ?c1 ?c2 ?c3 ?_)
          case c1 => exact cellOf (newOf wr _) 0
          case c2 => omega
          case c3 => have := HB.out.size; simp; omega
          intro v1 w2 hown hg
          have HO2 := Lib.hid (show Row w w2 v1 (done ++ [(s.take k).drop f]) by unfold Row; rw [List.length_append]; exact hown)
          have HW2 := Lib.hid (row_grown HB.out HR.out hg)
          clear hown hg
          go_wp2_with fail
          go_roundw
          case rel => exact ⟨k + 1, k + 1, by omega, by omega, by go_num, by go_num, HW2.out, .inl ⟨by omega, _, HN.out, HO2.out, by simp; omega⟩⟩
          case measure => simp [intOf]; omega
      · obtain rfl : k = s.length := by omega
        have HN := Lib.hid HC.out.all
        clear i2
        go_wp2_with (at_builtin; rw [HX.out]; refine app_one rfl (.tmp 22) (.tmp 27) rfl w.heap.size (.slice A done.length c) done rfl (World.ownsRow.alloc HR.out _) ⟨wr.heap.size, 0, none⟩ ((s.take s.length).drop f) rfl ?c4 ?c5 ?c6 ?_)
        case c4 => exact cellOf (newOf wr _) 0
        case c5 => omega
        case c6 => have := HB.out.size; simp; omega
        intro v1 w2 hown hg
        have HO2 := Lib.hid (show Row w w2 v1 (done ++ [s.drop f]) by unfold Row; rw [List.length_append]; exact hown)
        have HW2 := Lib.hid (row_grown HB.out HR.out hg)
        clear hown hg
        go_wp2_with fail
        go_roundw
        case rel => exact ⟨s.length + 1, s.length + 1, by omega, by omega, by go_num, by go_num, HW2.out, .inr ⟨rfl, by rw [HN.out]; exact HO2.out⟩⟩
        case measure => simp [intOf]
    · have HB := Lib.hid hB
      obtain ⟨g, cap, rfl⟩ := row_some hR (split_ne s)
      have HR := Lib.hid hR
      clear hB hR HI
      go_wp2_with fail
      go_ret
      exact ⟨g, cap, rfl, HR.out, HB.out⟩
end Go.Proofs.Ytamjoleknjmpoaa
