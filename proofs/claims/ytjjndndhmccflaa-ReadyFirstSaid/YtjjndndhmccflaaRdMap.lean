/-
  Maps at their operations: of numbers to entries, to numbers, to true or false; of texts to numbers.
-/
import Derived.Test.YtjjndndhmccflaaRdMath
import Derived.Test.YtjjndndhmccflaaBlk
import Derived.Maps.RangeWalk
import Derived.Maps.OwnIn
import Derived.Sort.KeysCollected
import Derived.Sort.MapsRangeIn
namespace Go.Proofs.Ytjjndndhmccflaa
set_option maxRecDepth 100000
open Go.RowKit Go.Maps Go.ChangeMaps
open Go.WideShapes
def Nm (n : Int) : Prop := -9223372036854775808 ≤ n ∧ n ≤ 9223372036854775807
theorem nm_wf {n : Int} (h : Nm n) : (Lit.int .i64 n).wf = true := by
  obtain ⟨h1, h2⟩ := h
  show (decide (IntKind.i64.min ≤ n) && decide (n ≤ IntKind.i64.max)) = true
  have e1 : IntKind.i64.min = -9223372036854775808 := by decide
  have e2 : IntKind.i64.max = 9223372036854775807 := by decide
  rw [e1, e2, Bool.and_eq_true, decide_eq_true_eq, decide_eq_true_eq]
  exact ⟨h1, h2⟩
def valR (v : Value) : Option (DataW Value × List MemPlace) := some (.held v, [])
theorem own_tight {w : World} {P : Program} {k : TypeId} {R : Value → Option (DataW Value × List MemPlace)} {b n : Nat} {D : DataW Value} (h : w.ownsMap P k R b n D) : w.ownsMap P k R b (Maps.size D) D := by
  obtain ⟨es, clock, hb, F, hs, rfl⟩ := h
  exact ⟨es, clock, hb, F, by simp [Maps.size, length_sorted], rfl⟩
theorem find_one {k : Lit} {d : DataW Value} (hk : WideAt.IsKeyLit k) : ∀ {l : List (Lit × DataW Value)}, l.Pairwise (fun p q => p.1 ≠ q.1) → (k, d) ∈ l → l.find? (fun p => p.1.sameKey k) = some (k, d)
  | [], _, h => by simp at h
  | y :: r, hp, h => by
    obtain ⟨h1, h2⟩ := List.pairwise_cons.1 hp
    rcases List.mem_cons.1 h with e | h'
    · rw [← e, List.find?_cons]
      simp [WideAt.sameKey_self hk]
    · rw [List.find?_cons, sameKey_ne (h1 _ h')]
      exact find_one hk h2 h'
abbrev zeroE : Value := .agg #[.int .i64 0, .string ⟨#[]⟩, .int .i64 0, .int .i64 0]
def jntV (p : Int × Value) : Lit × DataW Value := (.int .i64 p.1, .held p.2)
def JAt (w : World) (m : Nat) (L : List (Int × Value)) : Prop := ∃ es, w.ownsMap Try.prog 3 valR m L.length (.map es) ∧ es.Perm (L.map jntV)
theorem lawI : Keyed Try.prog 3 := int_keyed Try.underlying3
theorem keyI {n : Int} (hn : Nm n) : keyOf Try.prog 3 (.int .i64 n) = some (.int .i64 n) := keyOf_int_mk Try.underlying3 (nm_wf hn)
theorem JAt.of {w : World} {m n : Nat} {L : List (Int × Value)} {es : List (Lit × DataW Value)} (h : w.ownsMap Try.prog 3 valR m n (.map es)) (hp : es.Perm (L.map jntV)) : JAt w m L := by
  refine ⟨es, ?_, hp⟩
  have := own_tight h
  have e : L.length = Maps.size (.map es : DataW Value) := by rw [size_eq, hp.length_eq, List.length_map]
  rwa [← e] at this
theorem JAt.block {w w' : World} {m : Nat} {L : List (Int × Value)} (h : JAt w m L) (hb : w'.heap[m]? = w.heap[m]?) : JAt w' m L := by
  obtain ⟨es, ⟨a, c, h0, r⟩, hp⟩ := h
  exact ⟨es, ⟨a, c, hb.trans h0, r⟩, hp⟩
theorem JAt.lt {w : World} {m : Nat} {L : List (Int × Value)} (h : JAt w m L) : m < w.heap.size := by
  obtain ⟨es, h1, _⟩ := h
  exact h1.lt
theorem JAt.isMap {w : World} {m : Nat} {L : List (Int × Value)} (h : JAt w m L) : ∃ es clock, w.heap[m]? = some (.map es clock) := by
  obtain ⟨es, ⟨a, c, h0, r⟩, hp⟩ := h
  exact ⟨a, c, h0⟩
theorem JAt.perm {w : World} {m : Nat} {L L' : List (Int × Value)} (h : JAt w m L) (hp : L.Perm L') : JAt w m L' := by
  obtain ⟨es, h1, h2⟩ := h
  exact .of h1 (h2.trans (hp.map _))
theorem JAt.made (w : World) : JAt (w.alloc (.map #[] 0)) w.heap.size [] := .of (World.ownsMap_made w _ _ _) (List.Perm.refl _)
theorem jnt_apart {es : List (Lit × DataW Value)} {L : List (Int × Value)} (hp : es.Perm (L.map jntV)) (ht : Tidy (.map es : DataW Value)) : (L.map jntV).Pairwise (fun p q => p.1 ≠ q.1) := by
  obtain ⟨es', e, h⟩ := ht
  injection e with e
  subst e
  exact (hp.pairwise_iff (fun {_ _} hne => Ne.symm hne)).1 h
theorem JAt.nodup {w : World} {m : Nat} {L : List (Int × Value)} (h : JAt w m L) : (L.map Prod.fst).Nodup := by
  obtain ⟨es, h1, h2⟩ := h
  have := jnt_apart h2 (h1.tidy lawI)
  rw [List.pairwise_map] at this
  rw [List.Nodup, List.pairwise_map]
  exact this.imp fun {a b} hne e => hne (by simp [jntV, e])
theorem int_key (n : Int) : WideAt.IsKeyLit (.int .i64 n) := by simp [WideAt.IsKeyLit]
theorem JAt.at_ {es : List (Lit × DataW Value)} {L : List (Int × Value)} (hp : es.Perm (L.map jntV)) (ht : Tidy (.map es : DataW Value)) {n : Int} {a : Value} (hm : (n, a) ∈ L) :
    Maps.has (.map es : DataW Value) (.int .i64 n) = true ∧ ∀ z, (DataW.map es).atKey (.int .i64 n) z = .held (a) := by
  obtain ⟨es', e, h⟩ := ht
  injection e with e
  subst e
  have hmem : ((.int .i64 n, .held (a)) : Lit × DataW Value) ∈ es := hp.mem_iff.2 (List.mem_map.2 ⟨_, hm, rfl⟩)
  refine ⟨List.any_eq_true.2 ⟨_, hmem, WideAt.sameKey_self (int_key n)⟩, fun z => ?_⟩
  unfold DataW.atKey
  simp only [find_one (int_key n) h hmem]
theorem JAt.not_ {es : List (Lit × DataW Value)} {L : List (Int × Value)} (hp : es.Perm (L.map jntV)) {n : Int} (hm : ∀ p ∈ L, p.1 ≠ n) : Maps.has (.map es : DataW Value) (.int .i64 n) = false := by
  rw [has_eq, List.any_eq_false]
  intro p hp' hs
  obtain ⟨q, hq, rfl⟩ := List.mem_map.1 (hp.mem_iff.1 hp')
  have := WideAt.sameKey_eq hs
  simp only [jntV, Lit.int.injEq] at this
  exact hm q hq this.2
theorem same_int (a b : Int) : (Lit.int .i64 a).sameKey (.int .i64 b) = (a == b) := by
  by_cases h : a = b
  · subst h; rw [WideAt.sameKey_self (int_key a)]; simp
  · rw [beq_eq_false_iff_ne.2 h]
    exact sameKey_ne fun e => h (by injection e)
theorem filter_jnt (L : List (Int × Value)) (n : Int) : ((L.map jntV).filter fun p => !p.1.sameKey (.int .i64 n)) = (L.filter fun p => p.1 != n).map jntV := by
  rw [List.filter_map]
  congr 1
  refine List.filter_congr fun p _ => ?_
  show (!(Lit.int .i64 p.1).sameKey (.int .i64 n)) = (p.1 != n)
  rw [same_int]; rfl
theorem JAt.look_yesE {w : World} {m : Nat} {L : List (Int × Value)} (h : JAt w m L) {n : Int} {a : Value} (hm : (n, a) ∈ L) (hn : Nm n) :
    (Instr.lookup 60 (.map (some m)) (.int .i64 n) true).run Try.prog w = .ok (.tuple #[a, .bool true]) w := by
  obtain ⟨es, h1, h2⟩ := h
  obtain ⟨v, ps, e1, e2⟩ := h1.look_ok lawI Try.underlying60 (e := 34) (z := (zeroE)) (by kernel_rfl) (show valR ((zeroE)) = some (.held ((zeroE)), []) from rfl) (keyI hn)
  obtain ⟨e3, e4⟩ := JAt.at_ h2 (h1.tidy lawI) hm
  rw [e1, e3]
  rw [e4] at e2
  simp only [valR, Option.some.injEq, Prod.mk.injEq, DataW.held.injEq] at e2
  rw [e2.1]
theorem JAt.look_noE {w : World} {m : Nat} {L : List (Int × Value)} (h : JAt w m L) {n : Int} (hm : ∀ p ∈ L, p.1 ≠ n) (hn : Nm n) :
    (Instr.lookup 60 (.map (some m)) (.int .i64 n) true).run Try.prog w = .ok (.tuple #[(zeroE), .bool false]) w := by
  obtain ⟨es, h1, h2⟩ := h
  obtain ⟨v, ps, e1, e2⟩ := h1.look_ok lawI Try.underlying60 (e := 34) (z := (zeroE)) (by kernel_rfl) (show valR ((zeroE)) = some (.held ((zeroE)), []) from rfl) (keyI hn)
  have e3 := JAt.not_ h2 hm
  rw [e1, e3]
  rw [atKey_of_not_has e3] at e2
  simp only [valR, Option.some.injEq, Prod.mk.injEq, DataW.held.injEq] at e2
  rw [e2.1]
theorem JAt.putE {w : World} {m : Nat} {L : List (Int × Value)} (h : JAt w m L) {n : Int} (a : Value) (hn : Nm n) (hl : L.length ≤ 1000000) :
    ∃ w', (Instr.mapUpdate 60 (.map (some m)) (.int .i64 n) (a)).run Try.prog w = .ok () w' ∧ JAt w' m ((n, a) :: L.filter fun p => p.1 != n) ∧ w.mapTurned w' m := by
  obtain ⟨es, h1, h2⟩ := h
  obtain ⟨w', e1, e2, e3⟩ := h1.store lawI Try.underlying60 (by unfold maxLen; omega) (keyI hn) (show valR (a) = some (.held (a), []) from rfl)
  refine ⟨w', e1, .of (es := DataW.insert (.int .i64 n, .held (a)) (es.filter fun p => !p.1.sameKey (.int .i64 n))) e2 ?_, e3⟩
  refine (insert_perm _ _).trans (List.Perm.cons _ ?_)
  rw [← filter_jnt]
  exact h2.filter _
theorem JAt.delE {w : World} {m : Nat} {L : List (Int × Value)} (h : JAt w m L) {n : Int} (hn : Nm n) (ty : TypeId) :
    ∃ w', (Builtin.delete_ #[60, 3] ty #[.map (some m), .int .i64 n]).run Try.prog w = .ok (.tuple #[]) w' ∧ JAt w' m (L.filter fun p => p.1 != n) ∧ w.mapTurned w' m := by
  obtain ⟨es, h1, h2⟩ := h
  obtain ⟨w', e1, e2, e3⟩ := h1.drop lawI Try.underlying60 (keyI hn) ty
  refine ⟨w', e1, .of (es := es.filter fun p => !p.1.sameKey (.int .i64 n)) e2 ?_, e3⟩
  rw [← filter_jnt]
  exact h2.filter _
theorem JAt.lenE {w : World} {m : Nat} {L : List (Int × Value)} (h : JAt w m L) (ty : TypeId) : (Builtin.len_ #[60] ty #[.map (some m)]).run Try.prog w = .ok (.int .i64 (L.length : Int)) w := by
  obtain ⟨es, h1, h2⟩ := h
  have := h1.len Try.underlying60 ty
  rwa [size_eq, h2.length_eq, List.length_map] at this
theorem JAt.get_yesE {w : World} {m : Nat} {L : List (Int × Value)} (h : JAt w m L) {n : Int} {a : Value} (hm : (n, a) ∈ L) (hn : Nm n) :
    (Instr.lookup 60 (.map (some m)) (.int .i64 n) false).run Try.prog w = .ok a w := by
  obtain ⟨es, h1, h2⟩ := h
  obtain ⟨v, ps, e1, e2⟩ := h1.lookup lawI Try.underlying60 (e := 34) (z := zeroE) (by kernel_rfl) (show valR (zeroE) = some (.held (zeroE), []) from rfl) (keyI hn)
  rw [e1]
  rw [(JAt.at_ h2 (h1.tidy lawI) hm).2] at e2
  simp only [valR, Option.some.injEq, Prod.mk.injEq, DataW.held.injEq] at e2
  rw [e2.1]
theorem JAt.get_noE {w : World} {m : Nat} {L : List (Int × Value)} (h : JAt w m L) {n : Int} (hm : ∀ p ∈ L, p.1 ≠ n) (hn : Nm n) :
    (Instr.lookup 60 (.map (some m)) (.int .i64 n) false).run Try.prog w = .ok (zeroE) w := by
  obtain ⟨es, h1, h2⟩ := h
  obtain ⟨v, ps, e1, e2⟩ := h1.lookup lawI Try.underlying60 (e := 34) (z := zeroE) (by kernel_rfl) (show valR (zeroE) = some (.held (zeroE), []) from rfl) (keyI hn)
  rw [e1]
  rw [atKey_of_not_has (JAt.not_ h2 hm)] at e2
  simp only [valR, Option.some.injEq, Prod.mk.injEq, DataW.held.injEq] at e2
  rw [e2.1]
theorem make_E (w : World) : (Instr.makeMap 60 none).run Try.prog w = .ok (.map (some w.heap.size)) (w.alloc (.map #[] 0)) := by kernel_rfl
theorem JAt.putB {w : World} {m : Nat} {L : List (Int × Value)} (h : JAt w m L) {n : Int} (a : Value) (hn : Nm n) (hl : L.length ≤ 1000000) :
    ∃ w', (Instr.mapUpdate 57 (.map (some m)) (.int .i64 n) (a)).run Try.prog w = .ok () w' ∧ JAt w' m ((n, a) :: L.filter fun p => p.1 != n) ∧ w.mapTurned w' m := by
  obtain ⟨es, h1, h2⟩ := h
  obtain ⟨w', e1, e2, e3⟩ := h1.store lawI Try.underlying57 (by unfold maxLen; omega) (keyI hn) (show valR (a) = some (.held (a), []) from rfl)
  refine ⟨w', e1, .of (es := DataW.insert (.int .i64 n, .held (a)) (es.filter fun p => !p.1.sameKey (.int .i64 n))) e2 ?_, e3⟩
  refine (insert_perm _ _).trans (List.Perm.cons _ ?_)
  rw [← filter_jnt]
  exact h2.filter _
theorem JAt.get_yesB {w : World} {m : Nat} {L : List (Int × Value)} (h : JAt w m L) {n : Int} {a : Value} (hm : (n, a) ∈ L) (hn : Nm n) :
    (Instr.lookup 57 (.map (some m)) (.int .i64 n) false).run Try.prog w = .ok a w := by
  obtain ⟨es, h1, h2⟩ := h
  obtain ⟨v, ps, e1, e2⟩ := h1.lookup lawI Try.underlying57 (e := 4) (z := .bool false) (by kernel_rfl) (show valR (.bool false) = some (.held (.bool false), []) from rfl) (keyI hn)
  rw [e1]
  rw [(JAt.at_ h2 (h1.tidy lawI) hm).2] at e2
  simp only [valR, Option.some.injEq, Prod.mk.injEq, DataW.held.injEq] at e2
  rw [e2.1]
theorem JAt.get_noB {w : World} {m : Nat} {L : List (Int × Value)} (h : JAt w m L) {n : Int} (hm : ∀ p ∈ L, p.1 ≠ n) (hn : Nm n) :
    (Instr.lookup 57 (.map (some m)) (.int .i64 n) false).run Try.prog w = .ok (.bool false) w := by
  obtain ⟨es, h1, h2⟩ := h
  obtain ⟨v, ps, e1, e2⟩ := h1.lookup lawI Try.underlying57 (e := 4) (z := .bool false) (by kernel_rfl) (show valR (.bool false) = some (.held (.bool false), []) from rfl) (keyI hn)
  rw [e1]
  rw [atKey_of_not_has (JAt.not_ h2 hm)] at e2
  simp only [valR, Option.some.injEq, Prod.mk.injEq, DataW.held.injEq] at e2
  rw [e2.1]
theorem make_B (w : World) : (Instr.makeMap 57 none).run Try.prog w = .ok (.map (some w.heap.size)) (w.alloc (.map #[] 0)) := by kernel_rfl
def entV (p : Txt × Int) : Lit × DataW Value := (.string p.1, .held (.int .i64 p.2))
def MapAt (w : World) (m : Nat) (L : List (Txt × Int)) : Prop := ∃ es, w.ownsMap Try.prog 9 valR m L.length (.map es) ∧ es.Perm (L.map entV)
theorem lawS : Keyed Try.prog 9 := string_keyed Try.underlying9
theorem keyS {k : Txt} (hk : k.length ≤ 140737488355328) : keyOf Try.prog 9 (.string (mkS k)) = some (.string k) := by
  have := Go.WideMaps.keyOf_string_mk Try.underlying9 (s := mkS k) (by rw [mkS_size]; unfold maxLen; omega)
  rwa [mkS_data] at this
theorem MapAt.of {w : World} {m n : Nat} {L : List (Txt × Int)} {es : List (Lit × DataW Value)} (h : w.ownsMap Try.prog 9 valR m n (.map es)) (hp : es.Perm (L.map entV)) : MapAt w m L := by
  refine ⟨es, ?_, hp⟩
  have := own_tight h
  have e : L.length = Maps.size (.map es : DataW Value) := by rw [size_eq, hp.length_eq, List.length_map]
  rwa [← e] at this
theorem MapAt.block {w w' : World} {m : Nat} {L : List (Txt × Int)} (h : MapAt w m L) (hb : w'.heap[m]? = w.heap[m]?) : MapAt w' m L := by
  obtain ⟨es, ⟨a, c, h0, r⟩, hp⟩ := h
  exact ⟨es, ⟨a, c, hb.trans h0, r⟩, hp⟩
theorem MapAt.lt {w : World} {m : Nat} {L : List (Txt × Int)} (h : MapAt w m L) : m < w.heap.size := by
  obtain ⟨es, h1, _⟩ := h
  exact h1.lt
theorem MapAt.isMap {w : World} {m : Nat} {L : List (Txt × Int)} (h : MapAt w m L) : ∃ es clock, w.heap[m]? = some (.map es clock) := by
  obtain ⟨es, ⟨a, c, h0, r⟩, hp⟩ := h
  exact ⟨a, c, h0⟩
theorem MapAt.perm {w : World} {m : Nat} {L L' : List (Txt × Int)} (h : MapAt w m L) (hp : L.Perm L') : MapAt w m L' := by
  obtain ⟨es, h1, h2⟩ := h
  exact .of h1 (h2.trans (hp.map _))
theorem MapAt.made (w : World) : MapAt (w.alloc (.map #[] 0)) w.heap.size [] := .of (World.ownsMap_made w _ _ _) (List.Perm.refl _)
theorem ent_apart {es : List (Lit × DataW Value)} {L : List (Txt × Int)} (hp : es.Perm (L.map entV)) (ht : Tidy (.map es : DataW Value)) : (L.map entV).Pairwise (fun p q => p.1 ≠ q.1) := by
  obtain ⟨es', e, h⟩ := ht
  injection e with e
  subst e
  exact (hp.pairwise_iff (fun {_ _} hne => Ne.symm hne)).1 h
theorem MapAt.nodup {w : World} {m : Nat} {L : List (Txt × Int)} (h : MapAt w m L) : (L.map Prod.fst).Nodup := by
  obtain ⟨es, h1, h2⟩ := h
  have := ent_apart h2 (h1.tidy lawS)
  rw [List.pairwise_map] at this
  rw [List.Nodup, List.pairwise_map]
  exact this.imp fun {a b} hne e => hne (by simp [entV, e])
theorem str_key (n : Txt) : WideAt.IsKeyLit (.string n) := by simp [WideAt.IsKeyLit]
theorem MapAt.at_ {es : List (Lit × DataW Value)} {L : List (Txt × Int)} (hp : es.Perm (L.map entV)) (ht : Tidy (.map es : DataW Value)) {n : Txt} {a : Int} (hm : (n, a) ∈ L) :
    Maps.has (.map es : DataW Value) (.string n) = true ∧ ∀ z, (DataW.map es).atKey (.string n) z = .held (.int .i64 a) := by
  obtain ⟨es', e, h⟩ := ht
  injection e with e
  subst e
  have hmem : ((.string n, .held (.int .i64 a)) : Lit × DataW Value) ∈ es := hp.mem_iff.2 (List.mem_map.2 ⟨_, hm, rfl⟩)
  refine ⟨List.any_eq_true.2 ⟨_, hmem, WideAt.sameKey_self (str_key n)⟩, fun z => ?_⟩
  unfold DataW.atKey
  simp only [find_one (str_key n) h hmem]
theorem MapAt.not_ {es : List (Lit × DataW Value)} {L : List (Txt × Int)} (hp : es.Perm (L.map entV)) {n : Txt} (hm : ∀ p ∈ L, p.1 ≠ n) : Maps.has (.map es : DataW Value) (.string n) = false := by
  rw [has_eq, List.any_eq_false]
  intro p hp' hs
  obtain ⟨q, hq, rfl⟩ := List.mem_map.1 (hp.mem_iff.1 hp')
  have := WideAt.sameKey_eq hs
  simp only [entV, Lit.string.injEq] at this
  exact hm q hq this
theorem same_str (a b : Txt) : (Lit.string a).sameKey (.string b) = (a == b) := rfl
theorem filter_ent (L : List (Txt × Int)) (n : Txt) : ((L.map entV).filter fun p => !p.1.sameKey (.string n)) = (L.filter fun p => p.1 != n).map entV := by
  rw [List.filter_map]
  congr 1
theorem MapAt.put {w : World} {m : Nat} {L : List (Txt × Int)} (h : MapAt w m L) {n : Txt} (a : Int) (hn : n.length ≤ 140737488355328) (hl : L.length ≤ 1000000) :
    ∃ w', (Instr.mapUpdate 61 (.map (some m)) (.string (mkS n)) (.int .i64 a)).run Try.prog w = .ok () w' ∧ MapAt w' m ((n, a) :: L.filter fun p => p.1 != n) ∧ w.mapTurned w' m := by
  obtain ⟨es, h1, h2⟩ := h
  obtain ⟨w', e1, e2, e3⟩ := h1.store lawS Try.underlying61 (by unfold maxLen; omega) (keyS hn) (show valR (.int .i64 a) = some (.held (.int .i64 a), []) from rfl)
  refine ⟨w', e1, .of (es := DataW.insert (.string n, .held (.int .i64 a)) (es.filter fun p => !p.1.sameKey (.string n))) e2 ?_, e3⟩
  refine (insert_perm _ _).trans (List.Perm.cons _ ?_)
  rw [← filter_ent]
  exact h2.filter _
theorem MapAt.del {w : World} {m : Nat} {L : List (Txt × Int)} (h : MapAt w m L) {n : Txt} (hn : n.length ≤ 140737488355328) (ty : TypeId) :
    ∃ w', (Builtin.delete_ #[61, 9] ty #[.map (some m), .string (mkS n)]).run Try.prog w = .ok (.tuple #[]) w' ∧ MapAt w' m (L.filter fun p => p.1 != n) ∧ w.mapTurned w' m := by
  obtain ⟨es, h1, h2⟩ := h
  obtain ⟨w', e1, e2, e3⟩ := h1.drop lawS Try.underlying61 (keyS hn) ty
  refine ⟨w', e1, .of (es := es.filter fun p => !p.1.sameKey (.string n)) e2 ?_, e3⟩
  rw [← filter_ent]
  exact h2.filter _
theorem make_S (w : World) : (Instr.makeMap 61 none).run Try.prog w = .ok (.map (some w.heap.size)) (w.alloc (.map #[] 0)) := by kernel_rfl
/-- What a list tells at a text: 0 where it isn't there. -/
def getG (G : List (Txt × Int)) (d : Txt) : Int := match G.find? (fun p => p.1 == d) with | some p => p.2 | none => 0
theorem getG_put (G : List (Txt × Int)) (d : Txt) (a : Int) (x : Txt) : getG ((d, a) :: G.filter fun p => p.1 != d) x = if x = d then a else getG G x := by
  unfold getG
  by_cases h : x = d
  · subst h; simp
  · have hb : (d == x) = false := by simp; exact fun e => h e.symm
    rw [if_neg h, List.find?_cons_of_neg (by simpa using hb)]
    congr 1
    induction G with
    | nil => rfl
    | cons p r ih =>
      by_cases e : p.1 = d
      · rw [List.filter_cons_of_neg (by simp [e]), ih, List.find?_cons_of_neg (by rw [e]; simpa using hb)]
      · rw [List.filter_cons_of_pos (by simp [e])]
        by_cases e2 : p.1 = x
        · rw [List.find?_cons_of_pos (by simp [e2]), List.find?_cons_of_pos (by simp [e2])]
        · rw [List.find?_cons_of_neg (by simp [e2]), List.find?_cons_of_neg (by simp [e2]), ih]
theorem getG_del (G : List (Txt × Int)) (d x : Txt) : getG (G.filter fun p => p.1 != d) x = if x = d then 0 else getG G x := by
  have k := getG_put G d 0 x
  unfold getG at k ⊢
  by_cases h : x = d
  · subst h
    rw [if_pos rfl]
    have : (G.filter fun p => p.1 != x).find? (fun p => p.1 == x) = none := List.find?_eq_none.2 fun p hp => by
      have := (List.mem_filter.1 hp).2
      simpa using this
    rw [this]
  · have hb : (d == x) = false := by simp; exact fun e => h e.symm
    rw [if_neg h] at k ⊢
    rw [List.find?_cons_of_neg (by simpa using hb)] at k
    exact k
theorem MapAt.get {w : World} {m : Nat} {L : List (Txt × Int)} (h : MapAt w m L) {n : Txt} (hn : n.length ≤ 140737488355328) :
    (Instr.lookup 61 (.map (some m)) (.string (mkS n)) false).run Try.prog w = .ok (.int .i64 (getG L n)) w := by
  obtain ⟨es, h1, h2⟩ := h
  obtain ⟨v, ps, e1, e2⟩ := h1.lookup lawS Try.underlying61 (e := 3) (z := .int .i64 0) (by kernel_rfl) (show valR (.int .i64 0) = some (.held (.int .i64 0), []) from rfl) (keyS hn)
  rw [e1]
  unfold getG
  cases hf : L.find? (fun p => p.1 == n) with
  | none =>
    rw [atKey_of_not_has (MapAt.not_ h2 fun p hp e => by have := List.find?_eq_none.1 hf p hp; simp [e] at this)] at e2
    simp only [valR, Option.some.injEq, Prod.mk.injEq, DataW.held.injEq] at e2
    rw [e2.1]
  | some p =>
    have hp := List.mem_of_find?_eq_some hf
    have hk := List.find?_some hf
    simp only [beq_iff_eq] at hk
    subst hk
    rw [(MapAt.at_ h2 (h1.tidy lawS) (show (p.1, p.2) ∈ L from hp)).2] at e2
    simp only [valR, Option.some.injEq, Prod.mk.injEq, DataW.held.injEq] at e2
    rw [e2.1]
end Go.Proofs.Ytjjndndhmccflaa
