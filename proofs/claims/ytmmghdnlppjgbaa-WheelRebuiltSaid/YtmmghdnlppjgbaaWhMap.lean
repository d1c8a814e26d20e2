/-
  A map of numbers to timers: what it holds, told by a list; the laws at its operations, and of a range over it.
-/
import Derived.Test.YtmmghdnlppjgbaaBlk
import Derived.Maps.RangeWalk
import Derived.Maps.OwnIn
import Derived.Sort.KeysCollected
import Derived.Sort.MapsRangeIn
namespace Go.Proofs.Ytmmghdnlppjgbaa
set_option maxRecDepth 100000
open Go.RowKit Go.Maps Go.ChangeMaps
open Go.WideShapes
def Nm (n : Int) : Prop := -9223372036854775808 ≤ n ∧ n ≤ 9223372036854775807
theorem nm_wf {n : Int} (h : Nm n) : (Lit.int .i64 n).wf = true := by
  obtain ⟨h1, h2⟩ := h
  show (decide (IntKind.i64.min ≤ n) && decide (n ≤ IntKind.i64.max)) = true
  have e1 : IntKind.i64.min = -9223372036854775808 := by decide
  have e2 : IntKind.i64.max = 9223372036854775807 := by decide
  rw [e1, e2, Bool.and_eq_true, decide_eq_true_eq, decide_eq_true_eq]
  exact ⟨h1, h2⟩
abbrev ptrV (a : Nat) : Value := .pointer (some ⟨a, 0, none⟩)
def valR (v : Value) : Option (DataW Value × List MemPlace) := some (.held v, [])
theorem own_tight {w : World} {P : Program} {k : TypeId} {R : Value → Option (DataW Value × List MemPlace)} {b n : Nat} {D : DataW Value} (h : w.ownsMap P k R b n D) : w.ownsMap P k R b (Maps.size D) D := by
  obtain ⟨es, clock, hb, F, hs, rfl⟩ := h
  exact ⟨es, clock, hb, F, by simp [Maps.size, length_sorted], rfl⟩
theorem find_one {k : Lit} {d : DataW Value} (hk : WideAt.IsKeyLit k) : ∀ {l : List (Lit × DataW Value)}, l.Pairwise (fun p q => p.1 ≠ q.1) → (k, d) ∈ l → l.find? (fun p => p.1.sameKey k) = some (k, d)
  | [], _, h => by simp at h
  | y :: r, hp, h => by
    obtain ⟨h1, h2⟩ := List.pairwise_cons.1 hp
    rcases List.mem_cons.1 h with e | h'
    · rw [← e, List.find?_cons]
      simp [WideAt.sameKey_self hk]
    · rw [List.find?_cons, sameKey_ne (h1 _ h')]
      exact find_one hk h2 h'
def jntV (p : Int × Value) : Lit × DataW Value := (.int .i64 p.1, .held p.2)
/-- BLOCK m IS A MAP OF JUST THESE NAMES AND BLOCKS. -/
def JAt (w : World) (m : Nat) (L : List (Int × Value)) : Prop := ∃ es, w.ownsMap Try.prog 3 valR m L.length (.map es) ∧ es.Perm (L.map jntV)
theorem lawI : Keyed Try.prog 3 := int_keyed Try.underlying3
theorem keyI {n : Int} (hn : Nm n) : keyOf Try.prog 3 (.int .i64 n) = some (.int .i64 n) := keyOf_int_mk Try.underlying3 (nm_wf hn)
theorem JAt.of {w : World} {m n : Nat} {L : List (Int × Value)} {es : List (Lit × DataW Value)} (h : w.ownsMap Try.prog 3 valR m n (.map es)) (hp : es.Perm (L.map jntV)) : JAt w m L := by
  refine ⟨es, ?_, hp⟩
  have := own_tight h
  have e : L.length = Maps.size (.map es : DataW Value) := by rw [size_eq, hp.length_eq, List.length_map]
  rwa [← e] at this
theorem JAt.block {w w' : World} {m : Nat} {L : List (Int × Value)} (h : JAt w m L) (hb : w'.heap[m]? = w.heap[m]?) : JAt w' m L := by
  obtain ⟨es, ⟨a, c, h0, r⟩, hp⟩ := h
  exact ⟨es, ⟨a, c, hb.trans h0, r⟩, hp⟩
theorem JAt.lt {w : World} {m : Nat} {L : List (Int × Value)} (h : JAt w m L) : m < w.heap.size := by
  obtain ⟨es, h1, _⟩ := h
  exact h1.lt
theorem JAt.isMap {w : World} {m : Nat} {L : List (Int × Value)} (h : JAt w m L) : ∃ es clock, w.heap[m]? = some (.map es clock) := by
  obtain ⟨es, ⟨a, c, h0, r⟩, hp⟩ := h
  exact ⟨a, c, h0⟩
theorem JAt.perm {w : World} {m : Nat} {L L' : List (Int × Value)} (h : JAt w m L) (hp : L.Perm L') : JAt w m L' := by
  obtain ⟨es, h1, h2⟩ := h
  exact .of h1 (h2.trans (hp.map _))
theorem JAt.made (w : World) : JAt (w.alloc (.map #[] 0)) w.heap.size [] := .of (World.ownsMap_made w _ _ _) (List.Perm.refl _)
theorem jnt_apart {es : List (Lit × DataW Value)} {L : List (Int × Value)} (hp : es.Perm (L.map jntV)) (ht : Tidy (.map es : DataW Value)) : (L.map jntV).Pairwise (fun p q => p.1 ≠ q.1) := by
  obtain ⟨es', e, h⟩ := ht
  injection e with e
  subst e
  exact (hp.pairwise_iff (fun {_ _} hne => Ne.symm hne)).1 h
theorem JAt.nodup {w : World} {m : Nat} {L : List (Int × Value)} (h : JAt w m L) : (L.map Prod.fst).Nodup := by
  obtain ⟨es, h1, h2⟩ := h
  have := jnt_apart h2 (h1.tidy lawI)
  rw [List.pairwise_map] at this
  rw [List.Nodup, List.pairwise_map]
  exact this.imp fun {a b} hne e => hne (by simp [jntV, e])
theorem int_key (n : Int) : WideAt.IsKeyLit (.int .i64 n) := by simp [WideAt.IsKeyLit]
theorem JAt.at_ {es : List (Lit × DataW Value)} {L : List (Int × Value)} (hp : es.Perm (L.map jntV)) (ht : Tidy (.map es : DataW Value)) {n : Int} {a : Value} (hm : (n, a) ∈ L) :
    Maps.has (.map es : DataW Value) (.int .i64 n) = true ∧ ∀ z, (DataW.map es).atKey (.int .i64 n) z = .held (a) := by
  obtain ⟨es', e, h⟩ := ht
  injection e with e
  subst e
  have hmem : ((.int .i64 n, .held (a)) : Lit × DataW Value) ∈ es := hp.mem_iff.2 (List.mem_map.2 ⟨_, hm, rfl⟩)
  refine ⟨List.any_eq_true.2 ⟨_, hmem, WideAt.sameKey_self (int_key n)⟩, fun z => ?_⟩
  unfold DataW.atKey
  simp only [find_one (int_key n) h hmem]
theorem JAt.not_ {es : List (Lit × DataW Value)} {L : List (Int × Value)} (hp : es.Perm (L.map jntV)) {n : Int} (hm : ∀ p ∈ L, p.1 ≠ n) : Maps.has (.map es : DataW Value) (.int .i64 n) = false := by
  rw [has_eq, List.any_eq_false]
  intro p hp' hs
  obtain ⟨q, hq, rfl⟩ := List.mem_map.1 (hp.mem_iff.1 hp')
  have := WideAt.sameKey_eq hs
  simp only [jntV, Lit.int.injEq] at this
  exact hm q hq this.2
theorem JAt.look_yes {w : World} {m : Nat} {L : List (Int × Value)} (h : JAt w m L) {n : Int} {a : Value} (hm : (n, a) ∈ L) (hn : Nm n) :
    (Instr.lookup 59 (.map (some m)) (.int .i64 n) true).run Try.prog w = .ok (.tuple #[a, .bool true]) w := by
  obtain ⟨es, h1, h2⟩ := h
  obtain ⟨v, ps, e1, e2⟩ := h1.look_ok lawI Try.underlying59 (e := 66) (z := .pointer none) (by kernel_rfl) (show valR (.pointer none) = some (.held (.pointer none), []) from rfl) (keyI hn)
  obtain ⟨e3, e4⟩ := JAt.at_ h2 (h1.tidy lawI) hm
  rw [e1, e3]
  rw [e4] at e2
  simp only [valR, Option.some.injEq, Prod.mk.injEq, DataW.held.injEq] at e2
  rw [e2.1]
theorem JAt.look_no {w : World} {m : Nat} {L : List (Int × Value)} (h : JAt w m L) {n : Int} (hm : ∀ p ∈ L, p.1 ≠ n) (hn : Nm n) :
    (Instr.lookup 59 (.map (some m)) (.int .i64 n) true).run Try.prog w = .ok (.tuple #[.pointer none, .bool false]) w := by
  obtain ⟨es, h1, h2⟩ := h
  obtain ⟨v, ps, e1, e2⟩ := h1.look_ok lawI Try.underlying59 (e := 66) (z := .pointer none) (by kernel_rfl) (show valR (.pointer none) = some (.held (.pointer none), []) from rfl) (keyI hn)
  have e3 := JAt.not_ h2 hm
  rw [e1, e3]
  rw [atKey_of_not_has e3] at e2
  simp only [valR, Option.some.injEq, Prod.mk.injEq, DataW.held.injEq] at e2
  rw [e2.1]
theorem same_int (a b : Int) : (Lit.int .i64 a).sameKey (.int .i64 b) = (a == b) := by
  by_cases h : a = b
  · subst h; rw [WideAt.sameKey_self (int_key a)]; simp
  · rw [beq_eq_false_iff_ne.2 h]
    exact sameKey_ne fun e => h (by injection e)
theorem filter_jnt (L : List (Int × Value)) (n : Int) : ((L.map jntV).filter fun p => !p.1.sameKey (.int .i64 n)) = (L.filter fun p => p.1 != n).map jntV := by
  rw [List.filter_map]
  congr 1
  refine List.filter_congr fun p _ => ?_
  show (!(Lit.int .i64 p.1).sameKey (.int .i64 n)) = (p.1 != n)
  rw [same_int]; rfl
theorem JAt.put {w : World} {m : Nat} {L : List (Int × Value)} (h : JAt w m L) {n : Int} (a : Value) (hn : Nm n) (hl : L.length ≤ 1000000) :
    ∃ w', (Instr.mapUpdate 59 (.map (some m)) (.int .i64 n) (a)).run Try.prog w = .ok () w' ∧ JAt w' m ((n, a) :: L.filter fun p => p.1 != n) ∧ w.mapTurned w' m := by
  obtain ⟨es, h1, h2⟩ := h
  obtain ⟨w', e1, e2, e3⟩ := h1.store lawI Try.underlying59 (by unfold maxLen; omega) (keyI hn) (show valR (a) = some (.held (a), []) from rfl)
  refine ⟨w', e1, .of (es := DataW.insert (.int .i64 n, .held (a)) (es.filter fun p => !p.1.sameKey (.int .i64 n))) e2 ?_, e3⟩
  refine (insert_perm _ _).trans (List.Perm.cons _ ?_)
  rw [← filter_jnt]
  exact h2.filter _
theorem JAt.del {w : World} {m : Nat} {L : List (Int × Value)} (h : JAt w m L) {n : Int} (hn : Nm n) (ty : TypeId) :
    ∃ w', (Builtin.delete_ #[59, 3] ty #[.map (some m), .int .i64 n]).run Try.prog w = .ok (.tuple #[]) w' ∧ JAt w' m (L.filter fun p => p.1 != n) ∧ w.mapTurned w' m := by
  obtain ⟨es, h1, h2⟩ := h
  obtain ⟨w', e1, e2, e3⟩ := h1.drop lawI Try.underlying59 (keyI hn) ty
  refine ⟨w', e1, .of (es := es.filter fun p => !p.1.sameKey (.int .i64 n)) e2 ?_, e3⟩
  rw [← filter_jnt]
  exact h2.filter _
theorem JAt.len {w : World} {m : Nat} {L : List (Int × Value)} (h : JAt w m L) (ty : TypeId) : (Builtin.len_ #[59] ty #[.map (some m)]).run Try.prog w = .ok (.int .i64 (L.length : Int)) w := by
  obtain ⟨es, h1, h2⟩ := h
  have := h1.len Try.underlying59 ty
  rwa [size_eq, h2.length_eq, List.length_map] at this
/-- A RANGE OVER IT UNDER WAY: lf: is a name still to come? -/
def Jt (w : World) (m r : Nat) (L : List (Int × Value)) (lf : Int → Bool) (cnt : Nat) : Prop :=
  ∃ es n left, w.ranges Try.prog 3 valR m r n (.map es) left cnt ∧ es.Perm (L.map jntV) ∧ ∀ x, left (.int .i64 x) = lf x
theorem Jt.map {w : World} {m r cnt : Nat} {L : List (Int × Value)} {lf : Int → Bool} (h : Jt w m r L lf cnt) : JAt w m L := by
  obtain ⟨es, n, left, h1, h2, _⟩ := h
  exact .of h1.owns h2
theorem Jt.lt {w : World} {m r cnt : Nat} {L : List (Int × Value)} {lf : Int → Bool} (h : Jt w m r L lf cnt) : r < w.heap.size := by
  obtain ⟨es, n, left, h1, h2, _⟩ := h
  exact h1.lt
theorem Jt.left_eq {w : World} {m r cnt : Nat} {L : List (Int × Value)} {lf : Int → Bool} (h : Jt w m r L lf cnt) : w.rangeLeft m r = cnt := by
  obtain ⟨es, n, left, h1, h2, _⟩ := h
  exact h1.left_eq
theorem Jt.block {w w' : World} {m r cnt : Nat} {L : List (Int × Value)} {lf : Int → Bool} (h : Jt w m r L lf cnt) (hm : w'.heap[m]? = w.heap[m]?) (hr : w'.heap[r]? = w.heap[r]?) : Jt w' m r L lf cnt := by
  obtain ⟨es, n, left, ⟨a, b, c, d, e, h1, h2, h3, h4, h5, h6⟩, h7⟩ := h
  exact ⟨es, n, left, ⟨a, b, c, d, e, hm.trans h1, h2, h3, h4, hr.trans h5, h6⟩, h7⟩
theorem wpList_range_ent {P : Program} (hP : P = Try.prog) (w : World) {ops : Array Oper} {rest : List Oper} {o : Oper} {a : Act} {Q : Exit → Act → World → Prop} (hg : o.guard = none) (x : Operand) (hop : o.op = Op.range 59 x) (m : Nat) (L : List (Int × Value))
    (hm : a.eval x = .map (some m)) (h : JAt w m L)
    (hK : ∀ w', Jt w' m w.heap.size L (fun z => L.any fun p => p.1 == z) L.length → w.grownBy w' none → w'.heap.size = w.heap.size + 1 → wpList P ops Q rest (a.put o.dst (.pointer (some ⟨w.heap.size, 0, none⟩))) w') :
    wpList P ops Q (o :: rest) a w := by
  subst hP
  obtain ⟨es, h1, h2⟩ := h
  refine wpList_range_own w hg x 59 hop 3 66 lawI Try.underlying59 valR m _ _ hm h1 fun w' k1 k2 k3 => hK w' ?_ k2 k3
  rw [size_eq, h2.length_eq, List.length_map] at k1
  refine ⟨es, _, _, k1, h2, fun z => ?_⟩
  rw [Bool.eq_iff_iff, has_eq, List.any_eq_true, List.any_eq_true]
  constructor
  · rintro ⟨p, hp, hs⟩
    obtain ⟨q, hq, rfl⟩ := List.mem_map.1 (h2.mem_iff.1 hp)
    exact ⟨q, hq, (same_int _ _).symm.trans hs⟩
  · rintro ⟨q, hq, hs⟩
    exact ⟨jntV q, h2.mem_iff.2 (List.mem_map.2 ⟨_, hq, rfl⟩), (same_int _ _).trans hs⟩
theorem wpList_next_ent {P : Program} (hP : P = Try.prog) (w : World) {ops : Array Oper} {rest : List Oper} {o : Oper} {a : Act} {Q : Exit → Act → World → Prop} (hg : o.guard = none) (x : Operand) (hop : o.op = Op.next x false) (m r cnt : Nat) (L : List (Int × Value)) (lf : Int → Bool)
    (hx : a.eval x = .pointer (some ⟨r, 0, none⟩)) (h : Jt w m r L lf cnt)
    (hDone : (∀ z, lf z = false) → wpList P ops Q rest (a.put o.dst (.tuple #[.bool false])) w)
    (hMore : ∀ (n : Int) (ad : Value) (w' : World) (cnt' : Nat), (n, ad) ∈ L → lf n = true → Jt w' m r L (fun z => lf z && !(z == n)) cnt' → cnt' < cnt → w.grownBy w' (some r) → w'.heap.size = w.heap.size →
      (Instr.entry (.pointer (some ⟨r, 0, none⟩))).run P w' = .ok (.tuple #[.int .i64 n, ad]) w' → wpList P ops Q rest (a.put o.dst (.tuple #[.bool true, .int .i64 n, ad])) w') :
    wpList P ops Q (o :: rest) a w := by
  subst hP
  obtain ⟨es, n, left, h1, h2, h3⟩ := h
  refine wpList_plain hg fun K' hK' => ?_
  unfold Oper.wp
  have ht := h1.owns.tidy lawI
  rcases h1.next lawI o.type with ⟨h0, hl, hrun⟩ | ⟨key, v, kl, y, w', cnt', hkey, hlk, hv, hat, hrun, hrg, hlt, hgr, hsz, hen⟩
  · simp [execOp, hop, hx, hrun, Result.andThen]
    exact hK' _ _ (hDone fun z => by rw [← h3, hl])
  · obtain ⟨t, rfl, rfl, htl⟩ := Maps.keyOf_int_inv Try.underlying3 hkey
    have hb := Maps.has_true_of_atKey hat
    obtain ⟨p, hp, hs⟩ := List.any_eq_true.1 hb
    obtain ⟨q, hq, rfl⟩ := List.mem_map.1 (h2.mem_iff.1 hp)
    have hqt : q.1 = t := by
      have := WideAt.sameKey_eq hs
      simpa [jntV] using this
    obtain ⟨qn, qa⟩ := q
    subst hqt
    have hya := (hat (.held (.pointer none))).symm.trans ((JAt.at_ h2 ht hq).2 _)
    have hvy : y = (.held v, []) := by
      simp only [valR, Option.some.injEq] at hv
      exact hv.symm
    subst hvy
    simp only [DataW.held.injEq] at hya
    subst hya
    simp [execOp, hop, hx, hrun, Result.andThen]
    refine hK' _ _ (hMore qn _ w' cnt' hq (by rw [← h3, hlk]) ⟨es, n, _, hrg, h2, fun z => ?_⟩ hlt hgr hsz hen)
    rw [h3, same_int]
end Go.Proofs.Ytmmghdnlppjgbaa
