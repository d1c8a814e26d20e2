/-
  Rows of texts: slices in memory, rows of the call's own, append, sameness, clones. (Of reply's texts, without reply: not beside those in one seat.)
-/
import Derived.Test.YtdjgjmbgcjhnpaaBase
import Derived.Test.YtdjgjmbgcjhnpaaShelf
import Derived.Maps.AppendAt
import Derived.Deep.AppendLies
namespace Go.Proofs.Ytdjgjmbgcjhnpaa
set_option maxRecDepth 100000
open Go.RowKit
abbrev Txt := List UInt8
theorem below_box (w : World) (o : Obj) : Below w.heap.size w (w.alloc o) := (Below.refl _ w).alloc (Nat.le_refl _) _
/-- A slice of texts in memory. -/
def TxtsAt (w : World) (v : Value) (l : List Txt) : Prop :=
  ∃ (a : Option Addr) (cap : Nat), v = .slice a l.length cap ∧ l.length ≤ cap ∧ (a = none → cap = 0) ∧ ∀ (i : Nat) (t : Txt), l[i]? = some t → ∃ A, a = some A ∧ A.block < w.heap.size ∧ w.cell? (A.add i) = some (.string (mkS t))
theorem TxtsAt.below {w w' : World} {v : Value} {l : List Txt} (h : TxtsAt w v l) (hb : Below w.heap.size w w') : TxtsAt w' v l := by
  obtain ⟨a, cap, hv, hc0, hn, hc⟩ := h
  refine ⟨a, cap, hv, hc0, hn, fun i t hi => ?_⟩
  obtain ⟨A, ha, hA, c0⟩ := hc i t hi
  have e : (A.add i).block < w.heap.size := by rw [add_block]; exact hA
  exact ⟨A, ha, Nat.lt_of_lt_of_le hA hb.size, (hb.cell e).trans c0⟩
theorem TxtsAt.apart {w w' : World} {v : Value} {l : List Txt} (h : TxtsAt w v l) (hb : Below w.heap.size w w') : TxtsAt w' v l := h.below hb
theorem TxtsAt.take {w : World} {a : Option Addr} {n cap : Nat} {l : List Txt} (h : TxtsAt w (.slice a n cap) l) {k : Nat} (hk : k ≤ l.length) : TxtsAt w (.slice a k cap) (l.take k) := by
  obtain ⟨a', cap', hv, hc0, hn, hc⟩ := h
  injection hv with h1 h2 h3
  subst h1 h3
  have e : (l.take k).length = k := by rw [List.length_take]; omega
  refine ⟨a, cap, by rw [e], by rw [e]; omega, hn, fun i t hi => ?_⟩
  rw [List.getElem?_take] at hi
  split at hi
  · exact hc i t hi
  · cases hi
theorem txts_nil (w : World) : TxtsAt w (.slice none 0 0) [] := ⟨none, 0, rfl, Nat.le_refl _, fun _ => rfl, fun i t h => by simp at h⟩
/-- A guarded operation that is wanted, as an unguarded one. -/
theorem wpList_unguard {P : Program} {ops : Array Oper} {rest : List Oper} {o : Oper} {a : Act} {w : World} {Q : Exit → Act → World → Prop} (hw : Region.wanted o (yielded ops a.tmps) = true) (h : wpList P ops Q (⟨o.dst, o.op, o.type, o.pos, o.after, none⟩ :: rest) a w) : wpList P ops Q (o :: rest) a w := by
  unfold wpList at h ⊢
  rw [if_pos hw]
  rw [if_pos (by simp [Region.wanted])] at h
  cases o
  exact h
/-- Texts as the model's cells. -/
def strsV (l : List Txt) : List Value := l.map fun s => .string (mkS s)
theorem strsV_length (l : List Txt) : (strsV l).length = l.length := by simp [strsV]
theorem strsV_append (l m : List Txt) : strsV (l ++ m) = strsV l ++ strsV m := by simp [strsV]
theorem Try.infoT : (Try.prog.info? 9).map (fun i => (i.zero, i.size, i.bytes)) = some (some (.string { data := #[] }), 1, 16) := by kernel_rfl
theorem news_one (w : World) (x : Txt) : ∀ j u, (strsV [x])[j]? = some u → (w.alloc (.cells #[.string (mkS x)] 9)).cell? ((⟨w.heap.size, 0, none⟩ : Addr).add j) = some u := by
  intro j u hj
  match j with
  | 0 => simp [strsV] at hj; subst hj; exact World.cell?_alloc_at _ _ _ _ rfl
  | j + 1 => simp [strsV] at hj
/-- append of texts onto a row of texts of the call's own. -/
theorem app_strs {w : World} {ops : Array Oper} {rest : List Oper} {o : Oper} {a : Act} {Q : Exit → Act → World → Prop} (hgd : o.guard = none) (s x : Operand)
    (ho : o.op = .call { callee := .builtin .append, args := #[s, x], argTypes := #[36, 36] }) (base : Nat) (v : Value) (l : List Txt) (hs : a.eval s = v) (hown : w.ownsRow base 9 1 v l.length (strsV l))
    (ad : Addr) (m c : Nat) (news : List Txt) (hx : a.eval x = .slice (some ad) m c) (hl : news.length = m) (hnews : ∀ j u, (strsV news)[j]? = some u → w.cell? (ad.add j) = some u) (h9 : l.length + m ≤ 100000000) (hbase : base ≤ w.heap.size)
    (h : ∀ v' w', w'.ownsRow base 9 1 v' (l ++ news).length (strsV (l ++ news)) → w.grownBy w' v.ownBlock → (v'.ownBlock = v.ownBlock ∨ v'.ownBlock = some w.heap.size) → wpList Try.prog ops Q rest (a.put o.dst v') w') :
    wpList Try.prog ops Q (o :: rest) a w := by
  obtain ⟨i0, hi, hz0, hz1, hz2⟩ := info_parts Try.infoT
  refine wpList_append_own_at (w := w) hgd s x 36 ho base 9 i0 (.string { data := #[] }) 1 16 Try.underlying36 hi hz0 hz1 hz2 rfl (by decide) v l.length (strsV l) hs hown ad m c (strsV news) hx (by rw [strsV_length]; omega) hnews ?_ (by unfold maxLen; omega) (by omega) hbase ?_
  · intro u hu
    obtain ⟨b, _, rfl⟩ := List.mem_map.1 hu
    rfl
  · intro v' w' h1 h2 _ h3
    refine h v' w' ?_ h2 h3
    rw [List.length_append, hl, strsV_append]
    exact h1
/-- .. of a slice that came in, nil too. -/
theorem app_txts {w : World} {ops : Array Oper} {rest : List Oper} {o : Oper} {a : Act} {Q : Exit → Act → World → Prop} (hgd : o.guard = none) (s x : Operand)
    (ho : o.op = .call { callee := .builtin .append, args := #[s, x], argTypes := #[36, 36] }) (base : Nat) (v : Value) (l : List Txt) (hs : a.eval s = v) (hown : w.ownsRow base 9 1 v l.length (strsV l))
    (u : Value) (news : List Txt) (hx : a.eval x = u) (hu : TxtsAt w u news) (h9 : l.length + news.length ≤ 100000000) (hbase : base ≤ w.heap.size)
    (h : ∀ v' w', w'.ownsRow base 9 1 v' (l ++ news).length (strsV (l ++ news)) → w.grownBy w' v.ownBlock → (v'.ownBlock = v.ownBlock ∨ v'.ownBlock = some w.heap.size) → wpList Try.prog ops Q rest (a.put o.dst v') w') :
    wpList Try.prog ops Q (o :: rest) a w := by
  obtain ⟨A, cap, rfl, hc0, hnil, hc⟩ := hu
  cases A with
  | some ad =>
    refine app_strs hgd s x ho base v l hs hown ad news.length cap news hx rfl (fun j u hj => ?_) h9 hbase h
    rw [strsV, List.getElem?_map, Option.map_eq_some_iff] at hj
    obtain ⟨t, ht, rfl⟩ := hj
    obtain ⟨A, hA, _, c0⟩ := hc j t ht
    cases hA
    exact c0
  | none =>
    have hc1 := hnil rfl
    subst hc1
    have hn0 : news = [] := List.eq_nil_of_length_eq_zero (by omega)
    subst hn0
    obtain ⟨i0, hi, hz0, hz1, hz2⟩ := info_parts Try.infoT
    refine wpList_plain hgd fun K hK' => ?_
    have hrun := run_append_owned_none (P := Try.prog) w base 36 o.type 9 i0 1 Try.underlying36 hi v l.length (strsV l) hown
    unfold Oper.wp
    simp [execOp, ho, resolve, invoke, builtin, hs, hx, hrun, Result.andThen]
    exact hK' _ _ (h v w (by simpa using hown) (World.grownBy.refl _ _) (.inl rfl))
theorem strs_grown {B : Nat} {w0 w w' : World} {v : Value} {l : List Txt} (hB : B ≤ w.heap.size) (hb : Below B w0 w) (hown : w.ownsRow B 9 1 v l.length (strsV l)) {o : Obj} (hg : (w.alloc o).grownBy w' v.ownBlock) : Below B w0 w' :=
  (hb.alloc hB o).grown hg (by simp; omega) (fun k hk => (hown.lt k hk).1)
theorem strs_nil (w : World) (B : Nat) : w.ownsRow B 9 1 (.slice none 0 0) ([] : List Txt).length (strsV []) := ⟨rfl, .inl ⟨rfl, rfl⟩⟩
theorem strs_slice {w : World} {B : Nat} {v : Value} {l : List Txt} (h : w.ownsRow B 9 1 v l.length (strsV l)) : ∃ A c, v = .slice A l.length c := own_slice h
/-- A row of the call's own, as a slice. -/
theorem own_txts {w : World} {B : Nat} {v : Value} {l : List Txt} (h : w.ownsRow B 9 1 v l.length (strsV l)) : TxtsAt w v l := by
  rcases h.2 with ⟨rfl, h0⟩ | ⟨g, cap, cur, rfl, hB, hg, hcap, _⟩
  · have e : l = [] := List.eq_nil_of_length_eq_zero h0
    subst e
    exact txts_nil w
  · refine ⟨some ⟨g, 0, none⟩, cap, rfl, hcap, fun e => by (cases e), fun i t hi => ⟨_, rfl, ltOf hg, ?_⟩⟩
    exact h.cells rfl i (.string (mkS t)) (by rw [strsV, List.getElem?_map, hi]; rfl)
/-- Its block is none of another kind. -/
theorem own_not {w : World} {B g : Nat} {v : Value} {l : List Txt} {cs : Array Value} {t : TypeId} {fz : Nat × Nat} (h : w.ownsRow B 9 1 v l.length (strsV l)) (hg : w.heap[g]? = some (.cells cs t fz)) (ht : t ≠ 9) : v.ownBlock ≠ some g := by
  intro e
  rcases h.2 with ⟨rfl, _⟩ | ⟨k, cap, cur, rfl, _, hk, _⟩
  · cases e
  · simp [Value.ownBlock] at e
    subst e
    rw [hk] at hg
    injection hg with hg
    injection hg with _ h2
    exact ht h2.symm
theorem own_of {w w' : World} {B n size : Nat} {e : TypeId} {v : Value} {xs : List Value} (h : w.ownsRow B e size v n xs) (hk : ∀ k, v.ownBlock = some k → w'.heap[k]? = w.heap[k]?) : w'.ownsRow B e size v n xs := by
  refine ⟨h.1, ?_⟩
  rcases h.2 with h0 | ⟨g, cap, cur, hv, hB, hg, h1⟩
  · exact .inl h0
  · exact .inr ⟨g, cap, cur, hv, hB, (hk g (by rw [hv]; rfl)).trans hg, h1⟩
/-- A row of the call's own that a slice of made texts is. -/
theorem one_txts (w : World) (x : Txt) : TxtsAt (w.alloc (.cells #[.string (mkS x)] 9)) (.slice (some ⟨w.heap.size, 0, none⟩) 1 1) [x] :=
  ⟨_, _, rfl, Nat.le_refl _, fun e => by (cases e), fun i t hi => by
    match i with
    | 0 => simp at hi; subst hi; exact ⟨_, rfl, by simp, World.cell?_alloc_at _ _ _ _ rfl⟩
    | i + 1 => simp at hi⟩
theorem app_new {w : World} {ops : Array Oper} {rest : List Oper} {o : Oper} {a : Act} {Q : Exit → Act → World → Prop} (hgd : o.guard = none) (s x : Operand)
    (ho : o.op = .call { callee := .builtin .append, args := #[s, x], argTypes := #[36, 36] }) (b : Nat) (hs : a.eval s = .slice (some ⟨b, 0, none⟩) 0 0) (hb0 : b = w.heap.size) (u : Value) (news : List Txt) (hx : a.eval x = u) (hu : TxtsAt w u news) (h9 : news.length ≤ 10000000)
    (h : ∀ v' w', w'.ownsRow w.heap.size 9 1 v' news.length (strsV news) → Below w.heap.size w w' → wpList Try.prog ops Q rest (a.put o.dst v') w') : wpList Try.prog ops Q (o :: rest) a (w.alloc (.cells #[] 9)) := by
  subst hb0
  refine app_txts hgd s x ho w.heap.size (.slice (some ⟨w.heap.size, 0, none⟩) 0 0) [] hs (World.ownsRow_lit w #[] 0 (Nat.le_refl _) (Nat.zero_le _) rfl) u news hx (hu.below (below_box w _)) (by simp; omega) (by simp) ?_
  intro v' w' h1 h2 _
  refine h v' w' (by simpa using h1) ?_
  exact ((Below.refl _ w).alloc (Nat.le_refl _) _).grown h2 (by simp) (fun k hk => by simp [Value.ownBlock] at hk; omega)
theorem app_more {w0 w : World} {B : Nat} {ops : Array Oper} {rest : List Oper} {o : Oper} {a : Act} {Q : Exit → Act → World → Prop} (hgd : o.guard = none) (s x : Operand)
    (ho : o.op = .call { callee := .builtin .append, args := #[s, x], argTypes := #[36, 36] }) (v : Value) (l : List Txt) (hs : a.eval s = v) (hown : w.ownsRow B 9 1 v l.length (strsV l)) (hB : B ≤ w.heap.size) (hb : Below B w0 w) (u : Value) (news : List Txt) (hx : a.eval x = u) (hu : TxtsAt w u news) (h9 : l.length + news.length ≤ 10000000)
    (h : ∀ v' w', w'.ownsRow B 9 1 v' (l ++ news).length (strsV (l ++ news)) → Below B w0 w' → wpList Try.prog ops Q rest (a.put o.dst v') w') : wpList Try.prog ops Q (o :: rest) a w := by
  refine app_txts hgd s x ho B v l hs hown u news hx hu (by omega) hB ?_
  intro v' w' h1 h2 _
  exact h v' w' h1 (hb.grown h2 hB (fun k hk => (hown.lt k hk).1))
theorem same_no {ps qs : List Txt} {k : Nat} {p q : Txt} (h : ps[k]? = some p) (h' : qs[k]? = some q) (hne : (p == q) = false) : (ps == qs) = false :=
  beq_eq_false_iff_ne.2 fun e => by
    rw [e, h'] at h
    injection h with h
    rw [h] at hne
    simp at hne
theorem take_more {ps qs : List Txt} {k : Nat} {p : Txt} (h : ps[k]? = some p) (h' : qs[k]? = some p) (ht : ps.take k = qs.take k) : ps.take (k + 1) = qs.take (k + 1) := by
  obtain ⟨hk, e⟩ := List.getElem?_eq_some_iff.1 h
  obtain ⟨hk', e'⟩ := List.getElem?_eq_some_iff.1 h'
  rw [List.take_succ_eq_append_getElem hk, List.take_succ_eq_append_getElem hk', ht, e, e']
set_option maxHeartbeats 1000000 in
theorem same_x (v u : Value) (ps qs : List Txt) (w : World) (hs : TxtsAt w v ps) (hs' : TxtsAt w u qs) (hn : ps.length ≤ 1000000000) :
    Calls Try.prog 24 #[v, u] w fun e w' => e = .returned (.bool (ps == qs)) ∧ ∃ m, w' = w.drewN m := by
  obtain ⟨A, c, rfl, _, _, hc⟩ := hs
  obtain ⟨A', c', rfl, _, _, hc'⟩ := hs'
  have HS := Lib.hid hc
  have HS' := Lib.hid hc'
  clear hc hc'
  by_cases hnn : ps.length = qs.length
  · have HN := Lib.hid hnn
    rw [← hnn]
    clear hnn
    go_enter Try.func24, Try.ntmps24
    go_wp2_with fail
    go_loopw [5] (fun i wr => ∃ k : Nat, k ≤ ps.length ∧ i = .int .i64 k ∧ ps.take k = qs.take k ∧ ∃ m, wr = w.drewN m) (fun i _ => ps.length - (intOf i).toNat)
    case atStart => exact ⟨0, Nat.zero_le _, rfl, by simp, 0, rfl⟩
    case round =>
      obtain ⟨k, hk, rfl, ht, m, rfl⟩ := hrel
      have HT := Lib.hid ht
      clear ht
      by_cases hlt : k < ps.length
      · obtain ⟨p, hpk⟩ : ∃ p, ps[k]? = some p := ⟨_, List.getElem?_eq_getElem hlt⟩
        obtain ⟨q, hqk⟩ : ∃ q, qs[k]? = some q := ⟨_, List.getElem?_eq_getElem (by have := HN.out; omega)⟩
        obtain ⟨ad, rfl, hab, hcl⟩ := HS.out k p hpk
        obtain ⟨ad', rfl, hab', hcl'⟩ := HS'.out k q hqk
        have HP := Lib.hid hpk
        have HQ := Lib.hid hqk
        have e1 := mkS_eqb p q
        clear hpk hqk hab hab'
        cases hpq : (p == q)
        · rw [hpq] at e1
          go_wp2_with fail
          go_quiet (fail)
          go_wp2_with fail
          go_ret
          exact ⟨ret_bool (same_no HP.out HQ.out hpq).symm, _, World.drewN_drewN _ _ _⟩
        · rw [hpq] at e1
          go_wp2_with fail
          go_quiet (fail)
          go_wp2_with fail
          go_roundw
          case rel => exact ⟨k + 1, by omega, by go_num, take_more HP.out (by rw [HQ.out, eq_of_beq hpq]) HT.out, _, rfl⟩
          case measure => simp [intOf]; omega
      · go_wp2_with fail
        go_ret
        have e := HT.out
        rw [List.take_of_length_le (by omega), List.take_of_length_le (by have := HN.out; omega)] at e
        exact ⟨ret_bool (by rw [e]; simp), _, rfl⟩
  · have hb : ((ps.length : Int) != (qs.length : Int)) = true := by rw [bne_iff_ne]; omega
    have HNL := Lib.hid hnn
    clear hnn
    go_enter Try.func24, Try.ntmps24
    go_wp2_with fail
    go_ret
    exact ⟨ret_bool (beq_eq_false_iff_ne.2 fun e => HNL.out (by rw [e])).symm, 0, rfl⟩
theorem clone_x (l : List UInt8) (w : World) (hl : l.length ≤ 1000000000000) :
    Calls Try.prog 25 #[.string (mkS l)] w fun e w' => e = .returned (.string (mkS l)) ∧ Below w.heap.size w w' := by
  have hms := mkS_size l
  have HI := Lib.hid (fun w => Try.stringslite_Clone (mkS l) w (by omega))
  go_enter Try.func25, Try.ntmps25
  go_wp2_with fail
  refine (HI.out _).mono ?_
  rintro e w' ⟨rfl, hb⟩
  go_wp2_with fail
  go_ret
  exact ⟨rfl, hb⟩
end Go.Proofs.Ytdjgjmbgcjhnpaa
