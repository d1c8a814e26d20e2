/-
  Equality of statuses; the walk of Same, of two rows of texts.
-/
import Derived.Test.YtpgbojpeffilmaaProg
import Derived.Test.YtpgbojpeffilmaaJgCls
import Derived.Test.YtpgbojpeffilmaaMaBuild
import Derived.Test.YtpgbojpeffilmaaMaEvA
import Derived.Test.YtpgbojpeffilmaaMaPure
import Derived.Test.YtpgbojpeffilmaaPaRight
import Derived.Test.YtpgbojpeffilmaaRows
import Derived.Lib.IndexAny
import Derived.Laws.Runes
import Derived.Lib.Small
import Derived.Lib.Bytealg
import Derived.Lib.ItoaNum
import Derived.Lib.Atoi
import Derived.Lib.Join
import Derived.Lib.Strings
import Derived.Lib.TrimByte
import Derived.Lib.IndexMore
import Derived.Lib.AtoiTie
import Derived.WalkKit
import Derived.WalkSpells
import Derived.WalkLawsBesides
import Derived.Deep.QuietTactic
import Derived.BigQuiet
import Derived.StillTailTactics
import Derived.Lib.Hide
import Derived.Maps.AppendAt
import Derived.Deep.AppendLies
import Derived.Deep.RegionWith
import Derived.Deep.RegionHeld3
import Derived.Deep.DeepFit
import Derived.Deep.LoopGhost
import Derived.IntWalk
import Derived.Lib.IndexBytes
import Derived.Laws.BytesString
import Derived.Shelf.Strings.Search1
import Derived.Shelf.Strings.Search2
import Derived.Shelf.Strings.Search3
import Derived.Shelf.LaysM
import Derived.Shelf.Strings.Shaped
import Derived.Shelf.Strings.BuilderK
import Derived.Lib.FrozenHead2
import Derived.Deep.MidRow
import Derived.Laws.ResultCell
import Derived.Laws.RangeAny
import Derived.Lib.ConvBytes
import Derived.Laws.StructEq
import Derived.RangeFuncNested
import Derived.RangeFuncBound
import Derived.RangeFuncCalls
import Derived.RangeFuncLeaves
import Derived.RangeFuncBox
import Derived.RangeFuncWrites
import Derived.Shelf.Abstract
import Derived.Shelf.RegionOpen
import Derived.OwnWalkIn
import Derived.TacticsInMore
import Derived.LoopNIn
import Derived.LoopIn
import Derived.Lib.LaidTab
import Derived.Lib.AppendIntMem
import Derived.LoopN
import Derived.Maps.OwnIn
import Derived.Laws.EntriesVeiled
import Derived.Lib.SmallJoins
import Derived.Lib.AtoiErrMem
namespace Go.Proofs.Ytpgbojpeffilmaa.E.J
set_option maxRecDepth 100000
open Go.RowKit Go.Shelf
def eqST (a b : ST) : Bool := a.pl == b.pl && (a.st == b.st && (a.tr == b.tr && (a.ne == b.ne && a.told == b.told)))
theorem eqST_iff {a b : ST} : eqST a b = true ↔ a = b := by
  obtain ⟨a1, a2, a3, a4, a5⟩ := a
  obtain ⟨b1, b2, b3, b4, b5⟩ := b
  simp [eqST]
set_option maxHeartbeats 4000000 in
theorem eqSt (a b : ST) (w : World) : (Op.equalIn 10000 44 (.agg (TC a)) (.agg (TC b))).run Try.prog w = .ok (eqST a b) w := by
  show (Op.equalIn 10000 44 (.agg #[.int .i64 a.pl, .string (mkS a.st), .int .i64 a.tr, .int .i64 a.ne, .int .i64 a.told]) (.agg #[.int .i64 b.pl, .string (mkS b.st), .int .i64 b.tr, .int .i64 b.ne, .int .i64 b.told])).run Try.prog w = _
  have u9 := Try.underlying9
  have a9 := Try.isAgg9
  have z9 := Try.sizeOf9
  have u3 := Try.underlying3
  have a3 := Try.isAgg3
  have z3 := Try.sizeOf3
  have hS : Try.prog.underlying 44 = some (.struct (Try.prog.fieldsOf 44)) := by kernel_rfl
  have hp : Try.prog.stoodInHeld 44 = false := by kernel_rfl
  rw [show (10000 : Nat) = 9999 + 1 from rfl, run_equalIn_agg w 9999 44 _ _ hS hp]
  have hI : ∀ (x y : Int), (Op.equalIn 9999 3 (.int .i64 x) (.int .i64 y)).run Try.prog w = .ok (x == y) w := fun x y => by go_simp
  have hT : ∀ (x y : Txt), (Op.equalIn 9999 9 (.string (mkS x)) (.string (mkS y))).run Try.prog w = .ok (x == y) w := fun x y => by
    have e := mkS_eqb x y
    go_simp
  have p3 : ∀ (cs : Array Value) (k : Nat) (v : Value), cs[k]? = some v → (part 3 cs k).run Try.prog w = .ok v w := fun cs k v h => by unfold part; go_simp
  have p9 : ∀ (cs : Array Value) (k : Nat) (v : Value), cs[k]? = some v → (part 9 cs k).run Try.prog w = .ok v w := fun cs k v h => by unfold part; go_simp
  have key := eqF_cons (P := Try.prog) (w := w) (d := 9999) (f := (Try.prog.fieldsOf 44)[0]!) (by decide) (p3 #[.int .i64 a.pl, .string (mkS a.st), .int .i64 a.tr, .int .i64 a.ne, .int .i64 a.told] 0 _ rfl) (p3 #[.int .i64 b.pl, .string (mkS b.st), .int .i64 b.tr, .int .i64 b.ne, .int .i64 b.told] 0 _ rfl) (hI a.pl b.pl)
    (eqF_cons (f := (Try.prog.fieldsOf 44)[1]!) (by decide) (p9 #[.int .i64 a.pl, .string (mkS a.st), .int .i64 a.tr, .int .i64 a.ne, .int .i64 a.told] 1 _ rfl) (p9 #[.int .i64 b.pl, .string (mkS b.st), .int .i64 b.tr, .int .i64 b.ne, .int .i64 b.told] 1 _ rfl) (hT a.st b.st)
    (eqF_cons (f := (Try.prog.fieldsOf 44)[2]!) (by decide) (p3 #[.int .i64 a.pl, .string (mkS a.st), .int .i64 a.tr, .int .i64 a.ne, .int .i64 a.told] 2 _ rfl) (p3 #[.int .i64 b.pl, .string (mkS b.st), .int .i64 b.tr, .int .i64 b.ne, .int .i64 b.told] 2 _ rfl) (hI a.tr b.tr)
    (eqF_cons (f := (Try.prog.fieldsOf 44)[3]!) (by decide) (p3 #[.int .i64 a.pl, .string (mkS a.st), .int .i64 a.tr, .int .i64 a.ne, .int .i64 a.told] 3 _ rfl) (p3 #[.int .i64 b.pl, .string (mkS b.st), .int .i64 b.tr, .int .i64 b.ne, .int .i64 b.told] 3 _ rfl) (hI a.ne b.ne)
    (eqF_cons (f := (Try.prog.fieldsOf 44)[4]!) (by decide) (p3 #[.int .i64 a.pl, .string (mkS a.st), .int .i64 a.tr, .int .i64 a.ne, .int .i64 a.told] 4 _ rfl) (p3 #[.int .i64 b.pl, .string (mkS b.st), .int .i64 b.tr, .int .i64 b.ne, .int .i64 b.told] 4 _ rfl) (hI a.told b.told)
    (show (Op.eqFields 9999 #[.int .i64 a.pl, .string (mkS a.st), .int .i64 a.tr, .int .i64 a.ne, .int .i64 a.told] #[.int .i64 b.pl, .string (mkS b.st), .int .i64 b.tr, .int .i64 b.ne, .int .i64 b.told] []).run Try.prog w = .ok true w from rfl)))))
  refine key.trans ?_
  simp [eqST]
theorem same_no {ps qs : List Txt} {k : Nat} {p q : Txt} (h : ps[k]? = some p) (h' : qs[k]? = some q) (hne : (p == q) = false) : (ps == qs) = false :=
  beq_eq_false_iff_ne.2 fun e => by
    rw [e, h'] at h
    injection h with h
    rw [h] at hne
    simp at hne
theorem take_more {ps qs : List Txt} {k : Nat} {p : Txt} (h : ps[k]? = some p) (h' : qs[k]? = some p) (ht : ps.take k = qs.take k) : ps.take (k + 1) = qs.take (k + 1) := by
  obtain ⟨hk, e⟩ := List.getElem?_eq_some_iff.1 h
  obtain ⟨hk', e'⟩ := List.getElem?_eq_some_iff.1 h'
  rw [List.take_succ_eq_append_getElem hk, List.take_succ_eq_append_getElem hk', ht, e, e']
set_option maxHeartbeats 1000000 in
theorem same_x (v u : Value) (ps qs : List Txt) (w : World) (hs : TxtsAt w v ps) (hs' : TxtsAt w u qs) (hn : ps.length ≤ 1000000000) :
    Calls Try.prog 11 #[v, u] w fun e w' => e = .returned (.bool (ps == qs)) ∧ ∃ m, w' = w.drewN m := by
  obtain ⟨A, c, rfl, _, _, hc⟩ := hs
  obtain ⟨A', c', rfl, _, _, hc'⟩ := hs'
  have HS := Lib.hid hc
  have HS' := Lib.hid hc'
  clear hc hc'
  by_cases hnn : ps.length = qs.length
  · have HN := Lib.hid hnn
    rw [← hnn]
    clear hnn
    go_enter Try.func11, Try.ntmps11
    go_wp2_with fail
    go_loopw [5] (fun i wr => ∃ k : Nat, k ≤ ps.length ∧ i = .int .i64 k ∧ ps.take k = qs.take k ∧ ∃ m, wr = w.drewN m) (fun i _ => ps.length - (intOf i).toNat)
    case atStart => exact ⟨0, Nat.zero_le _, rfl, by simp, 0, rfl⟩
    case round =>
      obtain ⟨k, hk, rfl, ht, m, rfl⟩ := hrel
      have HT := Lib.hid ht
      clear ht
      by_cases hlt : k < ps.length
      · obtain ⟨p, hpk⟩ : ∃ p, ps[k]? = some p := ⟨_, List.getElem?_eq_getElem hlt⟩
        obtain ⟨q, hqk⟩ : ∃ q, qs[k]? = some q := ⟨_, List.getElem?_eq_getElem (by have := HN.out; omega)⟩
        obtain ⟨ad, rfl, hab, hcl⟩ := HS.out k p hpk
        obtain ⟨ad', rfl, hab', hcl'⟩ := HS'.out k q hqk
        have HP := Lib.hid hpk
        have HQ := Lib.hid hqk
        have e1 := mkS_eqb p q
        clear hpk hqk hab hab'
        cases hpq : (p == q)
        · rw [hpq] at e1
          go_wp2_with fail
          go_quiet (fail)
          go_wp2_with fail
          go_ret
          exact ⟨ret_bool (same_no HP.out HQ.out hpq).symm, _, World.drewN_drewN _ _ _⟩
        · rw [hpq] at e1
          go_wp2_with fail
          go_quiet (fail)
          go_wp2_with fail
          go_roundw
          case rel => exact ⟨k + 1, by omega, by go_num, take_more HP.out (by rw [HQ.out, eq_of_beq hpq]) HT.out, _, rfl⟩
          case measure => simp [intOf]; omega
      · go_wp2_with fail
        go_ret
        have e := HT.out
        rw [List.take_of_length_le (by omega), List.take_of_length_le (by have := HN.out; omega)] at e
        exact ⟨ret_bool (by rw [e]; simp), _, rfl⟩
  · have hb : ((ps.length : Int) != (qs.length : Int)) = true := by rw [bne_iff_ne]; omega
    have HNL := Lib.hid hnn
    clear hnn
    go_enter Try.func11, Try.ntmps11
    go_wp2_with fail
    go_ret
    exact ⟨ret_bool (beq_eq_false_iff_ne.2 fun e => HNL.out (by rw [e])).symm, 0, rfl⟩
end Go.Proofs.Ytpgbojpeffilmaa.E.J
