/-
  A map of names to files' blocks: what it holds, told by a list; the laws at its operations, and of a range over it.
-/
import Derived.Test.YtdjgjmbgcjhnpaaDkMath
import Derived.Maps.RangeWalk
import Derived.Maps.OwnIn
import Derived.Sort.KeysCollected
namespace Go.Proofs.Ytdjgjmbgcjhnpaa
set_option maxRecDepth 100000
open Go.RowKit Go.Maps Go.ChangeMaps
open Go.WideShapes
abbrev ptrV (a : Nat) : Value := .pointer (some ⟨a, 0, none⟩)
def valR (v : Value) : Option (DataW Value × List MemPlace) := some (.held v, [])
def entV (p : Txt × Nat) : Lit × DataW Value := (.string p.1, .held (ptrV p.2))
/-- BLOCK m IS A MAP OF JUST THESE NAMES AND BLOCKS. -/
def MapAt (w : World) (m : Nat) (L : List (Txt × Nat)) : Prop := ∃ es, w.ownsMap Try.prog 9 valR m L.length (.map es) ∧ es.Perm (L.map entV)
theorem lawS : Keyed Try.prog 9 := string_keyed Try.underlying9
theorem keyS {k : Txt} (hk : k.length ≤ 140737488355328) : keyOf Try.prog 9 (.string (mkS k)) = some (.string k) := by
  have := Go.WideMaps.keyOf_string_mk Try.underlying9 (s := mkS k) (by rw [mkS_size]; unfold maxLen; omega)
  rwa [mkS_data] at this
theorem own_tight {w : World} {P : Program} {k : TypeId} {R : Value → Option (DataW Value × List MemPlace)} {b n : Nat} {D : DataW Value} (h : w.ownsMap P k R b n D) : w.ownsMap P k R b (Maps.size D) D := by
  obtain ⟨es, clock, hb, F, hs, rfl⟩ := h
  exact ⟨es, clock, hb, F, by simp [Maps.size, length_sorted], rfl⟩
theorem MapAt.of {w : World} {m n : Nat} {L : List (Txt × Nat)} {es : List (Lit × DataW Value)} (h : w.ownsMap Try.prog 9 valR m n (.map es)) (hp : es.Perm (L.map entV)) : MapAt w m L := by
  refine ⟨es, ?_, hp⟩
  have := own_tight h
  have e : L.length = Maps.size (.map es : DataW Value) := by rw [size_eq, hp.length_eq, List.length_map]
  rwa [← e] at this
theorem MapAt.block {w w' : World} {m : Nat} {L : List (Txt × Nat)} (h : MapAt w m L) (hb : w'.heap[m]? = w.heap[m]?) : MapAt w' m L := by
  obtain ⟨es, ⟨a, c, h0, r⟩, hp⟩ := h
  exact ⟨es, ⟨a, c, hb.trans h0, r⟩, hp⟩
theorem MapAt.lt {w : World} {m : Nat} {L : List (Txt × Nat)} (h : MapAt w m L) : m < w.heap.size := by
  obtain ⟨es, h1, _⟩ := h
  exact h1.lt
theorem MapAt.isMap {w : World} {m : Nat} {L : List (Txt × Nat)} (h : MapAt w m L) : ∃ es clock, w.heap[m]? = some (.map es clock) := by
  obtain ⟨es, ⟨a, c, h0, r⟩, hp⟩ := h
  exact ⟨a, c, h0⟩
theorem MapAt.perm {w : World} {m : Nat} {L L' : List (Txt × Nat)} (h : MapAt w m L) (hp : L.Perm L') : MapAt w m L' := by
  obtain ⟨es, h1, h2⟩ := h
  exact .of h1 (h2.trans (hp.map _))
theorem MapAt.made (w : World) : MapAt (w.alloc (.map #[] 0)) w.heap.size [] := .of (World.ownsMap_made w _ _ _) (List.Perm.refl _)
theorem ent_apart {es : List (Lit × DataW Value)} {L : List (Txt × Nat)} (hp : es.Perm (L.map entV)) (ht : Tidy (.map es : DataW Value)) : (L.map entV).Pairwise (fun p q => p.1 ≠ q.1) := by
  obtain ⟨es', e, h⟩ := ht
  injection e with e
  subst e
  exact (hp.pairwise_iff (fun {_ _} hne => Ne.symm hne)).1 h
theorem MapAt.nodup {w : World} {m : Nat} {L : List (Txt × Nat)} (h : MapAt w m L) : (L.map Prod.fst).Nodup := by
  obtain ⟨es, h1, h2⟩ := h
  have := ent_apart h2 (h1.tidy lawS)
  rw [List.pairwise_map] at this
  rw [List.Nodup, List.pairwise_map]
  exact this.imp fun {a b} hne e => hne (by simp [entV, e])
theorem find_one {k : Lit} {d : DataW Value} (hk : WideAt.IsKeyLit k) : ∀ {l : List (Lit × DataW Value)}, l.Pairwise (fun p q => p.1 ≠ q.1) → (k, d) ∈ l → l.find? (fun p => p.1.sameKey k) = some (k, d)
  | [], _, h => by simp at h
  | y :: r, hp, h => by
    obtain ⟨h1, h2⟩ := List.pairwise_cons.1 hp
    rcases List.mem_cons.1 h with e | h'
    · rw [← e, List.find?_cons]
      simp [WideAt.sameKey_self hk]
    · rw [List.find?_cons, sameKey_ne (h1 _ h')]
      exact find_one hk h2 h'
theorem str_key (n : Txt) : WideAt.IsKeyLit (.string n) := by simp [WideAt.IsKeyLit]
theorem MapAt.at_ {es : List (Lit × DataW Value)} {L : List (Txt × Nat)} (hp : es.Perm (L.map entV)) (ht : Tidy (.map es : DataW Value)) {n : Txt} {a : Nat} (hm : (n, a) ∈ L) :
    Maps.has (.map es : DataW Value) (.string n) = true ∧ ∀ z, (DataW.map es).atKey (.string n) z = .held (ptrV a) := by
  obtain ⟨es', e, h⟩ := ht
  injection e with e
  subst e
  have hmem : ((.string n, .held (ptrV a)) : Lit × DataW Value) ∈ es := hp.mem_iff.2 (List.mem_map.2 ⟨_, hm, rfl⟩)
  refine ⟨List.any_eq_true.2 ⟨_, hmem, WideAt.sameKey_self (str_key n)⟩, fun z => ?_⟩
  unfold DataW.atKey
  simp only [find_one (str_key n) h hmem]
theorem MapAt.not_ {es : List (Lit × DataW Value)} {L : List (Txt × Nat)} (hp : es.Perm (L.map entV)) {n : Txt} (hm : ∀ p ∈ L, p.1 ≠ n) : Maps.has (.map es : DataW Value) (.string n) = false := by
  rw [has_eq, List.any_eq_false]
  intro p hp' hs
  obtain ⟨q, hq, rfl⟩ := List.mem_map.1 (hp.mem_iff.1 hp')
  have := WideAt.sameKey_eq hs
  simp only [entV, Lit.string.injEq] at this
  exact hm q hq this
theorem MapAt.look_yes {w : World} {m : Nat} {L : List (Txt × Nat)} (h : MapAt w m L) {n : Txt} {a : Nat} (hm : (n, a) ∈ L) (hn : n.length ≤ 140737488355328) :
    (Instr.lookup 49 (.map (some m)) (.string (mkS n)) true).run Try.prog w = .ok (.tuple #[ptrV a, .bool true]) w := by
  obtain ⟨es, h1, h2⟩ := h
  obtain ⟨v, ps, e1, e2⟩ := h1.look_ok lawS Try.underlying49 (e := 54) (z := .pointer none) (by kernel_rfl) (show valR (.pointer none) = some (.held (.pointer none), []) from rfl) (keyS hn)
  obtain ⟨e3, e4⟩ := MapAt.at_ h2 (h1.tidy lawS) hm
  rw [e1, e3]
  rw [e4] at e2
  simp only [valR, Option.some.injEq, Prod.mk.injEq, DataW.held.injEq] at e2
  rw [e2.1]
theorem MapAt.look_no {w : World} {m : Nat} {L : List (Txt × Nat)} (h : MapAt w m L) {n : Txt} (hm : ∀ p ∈ L, p.1 ≠ n) (hn : n.length ≤ 140737488355328) :
    (Instr.lookup 49 (.map (some m)) (.string (mkS n)) true).run Try.prog w = .ok (.tuple #[.pointer none, .bool false]) w := by
  obtain ⟨es, h1, h2⟩ := h
  obtain ⟨v, ps, e1, e2⟩ := h1.look_ok lawS Try.underlying49 (e := 54) (z := .pointer none) (by kernel_rfl) (show valR (.pointer none) = some (.held (.pointer none), []) from rfl) (keyS hn)
  have e3 := MapAt.not_ h2 hm
  rw [e1, e3]
  rw [atKey_of_not_has e3] at e2
  simp only [valR, Option.some.injEq, Prod.mk.injEq, DataW.held.injEq] at e2
  rw [e2.1]
theorem same_str (a b : Txt) : (Lit.string a).sameKey (.string b) = (a == b) := rfl
theorem filter_ent (L : List (Txt × Nat)) (n : Txt) : ((L.map entV).filter fun p => !p.1.sameKey (.string n)) = (L.filter fun p => p.1 != n).map entV := by
  rw [List.filter_map]
  congr 1
theorem MapAt.put {w : World} {m : Nat} {L : List (Txt × Nat)} (h : MapAt w m L) {n : Txt} (a : Nat) (hn : n.length ≤ 140737488355328) (hl : L.length ≤ 1000000) :
    ∃ w', (Instr.mapUpdate 49 (.map (some m)) (.string (mkS n)) (ptrV a)).run Try.prog w = .ok () w' ∧ MapAt w' m ((n, a) :: L.filter fun p => p.1 != n) ∧ w.mapTurned w' m := by
  obtain ⟨es, h1, h2⟩ := h
  obtain ⟨w', e1, e2, e3⟩ := h1.store lawS Try.underlying49 (by unfold maxLen; omega) (keyS hn) (show valR (ptrV a) = some (.held (ptrV a), []) from rfl)
  refine ⟨w', e1, .of (es := DataW.insert (.string n, .held (ptrV a)) (es.filter fun p => !p.1.sameKey (.string n))) e2 ?_, e3⟩
  refine (insert_perm _ _).trans (List.Perm.cons _ ?_)
  rw [← filter_ent]
  exact h2.filter _
theorem MapAt.del {w : World} {m : Nat} {L : List (Txt × Nat)} (h : MapAt w m L) {n : Txt} (hn : n.length ≤ 140737488355328) (ty : TypeId) :
    ∃ w', (Builtin.delete_ #[49, 9] ty #[.map (some m), .string (mkS n)]).run Try.prog w = .ok (.tuple #[]) w' ∧ MapAt w' m (L.filter fun p => p.1 != n) ∧ w.mapTurned w' m := by
  obtain ⟨es, h1, h2⟩ := h
  obtain ⟨w', e1, e2, e3⟩ := h1.drop lawS Try.underlying49 (keyS hn) ty
  refine ⟨w', e1, .of (es := es.filter fun p => !p.1.sameKey (.string n)) e2 ?_, e3⟩
  rw [← filter_ent]
  exact h2.filter _
theorem MapAt.len {w : World} {m : Nat} {L : List (Txt × Nat)} (h : MapAt w m L) (ty : TypeId) : (Builtin.len_ #[49] ty #[.map (some m)]).run Try.prog w = .ok (.int .i64 (L.length : Int)) w := by
  obtain ⟨es, h1, h2⟩ := h
  have := h1.len Try.underlying49 ty
  rwa [size_eq, h2.length_eq, List.length_map] at this
/-- A RANGE OVER IT UNDER WAY: lf: is a name still to come? -/
def It (w : World) (m r : Nat) (L : List (Txt × Nat)) (lf : Txt → Bool) (cnt : Nat) : Prop :=
  ∃ es n left, w.ranges Try.prog 9 valR m r n (.map es) left cnt ∧ es.Perm (L.map entV) ∧ ∀ x, left (.string x) = lf x
theorem It.map {w : World} {m r cnt : Nat} {L : List (Txt × Nat)} {lf : Txt → Bool} (h : It w m r L lf cnt) : MapAt w m L := by
  obtain ⟨es, n, left, h1, h2, _⟩ := h
  exact .of h1.owns h2
theorem It.lt {w : World} {m r cnt : Nat} {L : List (Txt × Nat)} {lf : Txt → Bool} (h : It w m r L lf cnt) : r < w.heap.size := by
  obtain ⟨es, n, left, h1, h2, _⟩ := h
  exact h1.lt
theorem It.left_eq {w : World} {m r cnt : Nat} {L : List (Txt × Nat)} {lf : Txt → Bool} (h : It w m r L lf cnt) : w.rangeLeft m r = cnt := by
  obtain ⟨es, n, left, h1, h2, _⟩ := h
  exact h1.left_eq
theorem It.block {w w' : World} {m r cnt : Nat} {L : List (Txt × Nat)} {lf : Txt → Bool} (h : It w m r L lf cnt) (hm : w'.heap[m]? = w.heap[m]?) (hr : w'.heap[r]? = w.heap[r]?) : It w' m r L lf cnt := by
  obtain ⟨es, n, left, ⟨a, b, c, d, e, h1, h2, h3, h4, h5, h6⟩, h7⟩ := h
  exact ⟨es, n, left, ⟨a, b, c, d, e, hm.trans h1, h2, h3, h4, hr.trans h5, h6⟩, h7⟩
theorem wpList_range_file {P : Program} (hP : P = Try.prog) (w : World) {ops : Array Oper} {rest : List Oper} {o : Oper} {a : Act} {Q : Exit → Act → World → Prop} (hg : o.guard = none) (x : Operand) (hop : o.op = Op.range 49 x) (m : Nat) (L : List (Txt × Nat))
    (hm : a.eval x = .map (some m)) (h : MapAt w m L)
    (hK : ∀ w', It w' m w.heap.size L (fun z => L.any fun p => p.1 == z) L.length → w.grownBy w' none → w'.heap.size = w.heap.size + 1 → wpList P ops Q rest (a.put o.dst (.pointer (some ⟨w.heap.size, 0, none⟩))) w') :
    wpList P ops Q (o :: rest) a w := by
  subst hP
  obtain ⟨es, h1, h2⟩ := h
  refine wpList_range_own w hg x 49 hop 9 54 lawS Try.underlying49 valR m _ _ hm h1 fun w' k1 k2 k3 => hK w' ?_ k2 k3
  rw [size_eq, h2.length_eq, List.length_map] at k1
  refine ⟨es, _, _, k1, h2, fun z => ?_⟩
  rw [Bool.eq_iff_iff, has_eq, List.any_eq_true, List.any_eq_true]
  constructor
  · rintro ⟨p, hp, hs⟩
    obtain ⟨q, hq, rfl⟩ := List.mem_map.1 (h2.mem_iff.1 hp)
    exact ⟨q, hq, hs⟩
  · rintro ⟨q, hq, hs⟩
    exact ⟨entV q, h2.mem_iff.2 (List.mem_map.2 ⟨_, hq, rfl⟩), hs⟩
theorem wpList_next_file {P : Program} (hP : P = Try.prog) (w : World) {ops : Array Oper} {rest : List Oper} {o : Oper} {a : Act} {Q : Exit → Act → World → Prop} (hg : o.guard = none) (x : Operand) (hop : o.op = Op.next x false) (m r cnt : Nat) (L : List (Txt × Nat)) (lf : Txt → Bool)
    (hx : a.eval x = .pointer (some ⟨r, 0, none⟩)) (h : It w m r L lf cnt)
    (hDone : (∀ z, lf z = false) → wpList P ops Q rest (a.put o.dst (.tuple #[.bool false])) w)
    (hMore : ∀ (n : Txt) (ad : Nat) (w' : World) (cnt' : Nat), (n, ad) ∈ L → lf n = true → n.length ≤ maxLen → It w' m r L (fun z => lf z && !(z == n)) cnt' → cnt' < cnt → w.grownBy w' (some r) → w'.heap.size = w.heap.size →
      (Instr.entry (.pointer (some ⟨r, 0, none⟩))).run P w' = .ok (.tuple #[.string (mkS n), ptrV ad]) w' → wpList P ops Q rest (a.put o.dst (.tuple #[.bool true, .string (mkS n), ptrV ad])) w') :
    wpList P ops Q (o :: rest) a w := by
  subst hP
  obtain ⟨es, n, left, h1, h2, h3⟩ := h
  refine wpList_plain hg fun K' hK' => ?_
  unfold Oper.wp
  have ht := h1.owns.tidy lawS
  rcases h1.next lawS o.type with ⟨h0, hl, hrun⟩ | ⟨key, v, kl, y, w', cnt', hkey, hlk, hv, hat, hrun, hrg, hlt, hgr, hsz, hen⟩
  · simp [execOp, hop, hx, hrun, Result.andThen]
    exact hK' _ _ (hDone fun z => by rw [← h3, hl])
  · obtain ⟨t, rfl, rfl, htl⟩ := Maps.keyOf_str Try.underlying9 hkey
    have hb := Maps.has_true_of_atKey hat
    obtain ⟨p, hp, hs⟩ := List.any_eq_true.1 hb
    obtain ⟨q, hq, rfl⟩ := List.mem_map.1 (h2.mem_iff.1 hp)
    have hqt : q.1 = t := by
      have := WideAt.sameKey_eq hs
      simpa [entV] using this
    obtain ⟨qn, qa⟩ := q
    subst hqt
    have hya := (hat (.held (.pointer none))).symm.trans ((MapAt.at_ h2 ht hq).2 _)
    have hvy : y = (.held v, []) := by
      simp only [valR, Option.some.injEq] at hv
      exact hv.symm
    subst hvy
    simp only [DataW.held.injEq] at hya
    subst hya
    simp [execOp, hop, hx, hrun, Result.andThen]
    refine hK' _ _ (hMore qn qa w' cnt' hq (by rw [← h3, hlk]) htl ⟨es, n, _, hrg, h2, fun z => ?_⟩ hlt hgr hsz hen)
    rw [h3, same_str]
end Go.Proofs.Ytdjgjmbgcjhnpaa
