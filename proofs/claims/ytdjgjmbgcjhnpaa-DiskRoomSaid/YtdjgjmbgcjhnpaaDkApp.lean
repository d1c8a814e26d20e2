/-
  The walk of Append's closure: a new file, or one that is there; bytes behind its bytes.
-/
import Derived.Test.YtdjgjmbgcjhnpaaDkRn2
import Derived.Lib.AppendStr
namespace Go.Proofs.Ytdjgjmbgcjhnpaa
set_option maxRecDepth 100000
open Go.RowKit Go.Shelf Go.ChangeMaps Go.MapKept
theorem strCells_eq (s : Txt) : Lib.strCells (mkS s) = bytesV s := by simp [Lib.strCells, bytesV, mkS]
/-- append(row, text...): what comes of it, and where it lies. -/
theorem run_app {w : World} {B : Nat} {v : Value} {l : Txt} (h : w.ownsRow B 5 1 v l.length (bytesV l)) (hB : B ≤ w.heap.size) (s : Txt) (hl : l.length + s.length ≤ 100000000000) (ty : TypeId) :
    ∃ A c w', (Builtin.append_ #[56, 9] ty #[v, .string (mkS s)]).run Try.prog w = .ok (.slice A (l ++ s).length c) w' ∧ w'.ownsRow B 5 1 (.slice A (l ++ s).length c) (l ++ s).length (bytesV (l ++ s)) ∧ w.grownBy w' v.ownBlock ∧ ∀ k, (Value.slice A (l ++ s).length c).ownBlock = some k → v.ownBlock = some k ∨ w.heap.size ≤ k := by
  obtain ⟨i0, hi, hz0, hz1, hz2⟩ := info_parts Try.infoB
  have hs := mkS_size s
  have hnn : l.length + (mkS s).size = (l ++ s).length := by rw [hs, List.length_append]
  have hxx : bytesV l ++ Lib.strCells (mkS s) = bytesV (l ++ s) := by rw [strCells_eq, bytesV_append]
  have key : ∀ base, w.ownsRow base 5 1 v l.length (bytesV l) → base ≤ w.heap.size → ∃ v' w', (Builtin.append_ #[56, 9] ty #[v, .string (mkS s)]).run Try.prog w = .ok v' w' ∧ w'.ownsRow base 5 1 v' (l ++ s).length (bytesV (l ++ s)) ∧ w.grownBy w' v.ownBlock := by
    intro base hb hle
    obtain ⟨v', w', k1, k2, k3, _⟩ := Lib.run_append_own_string (P := Try.prog) w base 56 9 ty 5 i0 Try.underlying56 Try.underlying9 hi hz0 hz1 hz2 v l.length (bytesV l) hb (mkS s) (by unfold maxLen; omega) (by omega) hle
    rw [hnn, hxx] at k2
    exact ⟨v', w', k1, k2, k3⟩
  obtain ⟨v', w', k1, k2, k3⟩ := key B h hB
  obtain ⟨A, c, rfl⟩ := own_slice k2
  refine ⟨A, c, w', k1, k2, k3, fun k hk => ?_⟩
  rcases h.2 with ⟨rfl, h0⟩ | ⟨g, cap, cur, rfl, hb, h1, h2, h3, h4, h5⟩
  · obtain ⟨v2, w2, j1, j2, _⟩ := key w.heap.size ⟨h.1, .inl ⟨rfl, h0⟩⟩ (Nat.le_refl _)
    rw [k1] at j1
    injection j1 with j1 j3
    subst j1
    exact .inr (j2.lt k hk).1
  · by_cases hroom : l.length + (mkS s).size ≤ cap
    · have hr := Lib.run_append_room_string (P := Try.prog) w 56 9 ty 5 i0 Try.underlying56 Try.underlying9 hi hz1 g l.length cap cur h1 (mkS s) hroom (by omega)
      rw [k1] at hr
      injection hr with hr _
      injection hr with hr _
      subst hr
      exact .inl hk
    · have holds : ∀ j u, (bytesV l)[j]? = some u → w.cell? ((⟨g, 0, none⟩ : Addr).add j) = some u := h.cells (g := g) rfl
      have hr := Lib.run_append_grow_string (P := Try.prog) w 56 9 ty 5 i0 (.int .u8 0) Try.underlying56 Try.underlying9 hi hz0 ⟨g, 0, none⟩ l.length cap (bytesV l) (by rw [hz1]; simpa using h.1) holds (mkS s) (by omega) (by omega) (by rw [hz2]; exact growslice_fits (by omega) (by omega))
      rw [k1] at hr
      injection hr with hr _
      injection hr with hr _
      subst hr
      right
      simp only [Value.ownBlock, Option.some.injEq] at hk
      omega
theorem step_app {w : World} {ops : Array Oper} {o : Oper} {a : Act} {K : Act → World → Prop} {Q : Exit → Act → World → Prop} {E : Prop} (hgd : o.guard = none) (so xo : Operand)
    (hop : o.op = .call { callee := .builtin .append, args := #[so, xo], argTypes := #[56, 9] }) {B : Nat} {v : Value} {l : Txt} (hsv : a.eval so = v) (h : w.ownsRow B 5 1 v l.length (bytesV l)) (hB : B ≤ w.heap.size) (s : Txt) (hx : a.eval xo = .string (mkS s)) (hl : l.length + s.length ≤ 100000000000)
    (hK : ∀ A c w', w'.ownsRow B 5 1 (.slice A (l ++ s).length c) (l ++ s).length (bytesV (l ++ s)) → w.grownBy w' v.ownBlock → (∀ k, (Value.slice A (l ++ s).length c).ownBlock = some k → v.ownBlock = some k ∨ w.heap.size ≤ k) → K (a.put o.dst (.slice A (l ++ s).length c)) w') :
    if Region.wanted o (yielded ops a.tmps) = true then Oper.wp Try.prog o a w K Q else E := by
  have hw : Region.wanted o (yielded ops a.tmps) = true := by simp [Region.wanted, hgd]
  rw [if_pos hw]
  obtain ⟨A, c, w', hr, k1, k2, k3⟩ := run_app h hB s hl o.type
  unfold Oper.wp execOp
  simp only [hop, resolve, invoke, builtin, Sem.run_bind, Sem.run_pure, Result.andThen_ok, List.map_toArray, List.map_cons, List.map_nil, hsv, hx, hr]
  exact hK A c w' k1 k2 k3
/-- A file's bytes have grown, in memory. -/
theorem app_at {w w' : World} {B lim b m : Nat} {S : Dk} {g : Gd} {R : List Gd} (h : DA w B lim b m S (g :: R)) (s : Txt) {A : Option Addr} {c : Nat} (hown : w'.ownsRow B 5 1 (.slice A (g.byt ++ s).length c) (g.byt ++ s).length (bytesV (g.byt ++ s))) (hg : w.grownBy w' g.v.ownBlock)
    (hloc : ∀ k, (Value.slice A (g.byt ++ s).length c).ownBlock = some k → g.v.ownBlock = some k ∨ w.heap.size ≤ k) :
    DA (w'.setCell ⟨g.adr, 0, none⟩ (.slice A (g.byt ++ s).length c)) B w'.heap.size b m (putD S (S.fs.map (fun f => if f.name == g.name then ⟨f.name, f.byt ++ s, f.syn⟩ else f))) (⟨g.name, g.adr, .slice A (g.byt ++ s).length c, g.byt ++ s, g.syn⟩ :: R) := by
  have hg0 := h.gs g (by simp)
  have hot := set_other w' g.adr 0 (.slice A (g.byt ++ s).length c)
  have hadr : w'.heap[g.adr]? = some (.cells #[g.v, .int .i64 (g.syn : Int)] 58 (0, 0)) := (hg.block _ (ltOf hg0.blk) (fun e => hg0.adr_row hg0 e.symm rfl)).trans hg0.blk
  have hrow : ∀ k, (Value.slice A (g.byt ++ s).length c).ownBlock = some k → k ≠ g.adr := by
    intro k hk e
    obtain ⟨cur, hc⟩ := own_row hown hk
    rw [e, hadr] at hc
    simp at hc
  refine h.file ⟨g.name, g.adr, .slice A (g.byt ++ s).length c, g.byt ++ s, g.syn⟩ _ rfl (fun k k1 k2 k3 => (hot k k1).trans (hg.block k (Nat.lt_of_lt_of_le k3 h.lim) (fun e => k2 e.symm))) ⟨setOf hadr 0 _, own_kept hown fun k hk => hot k (hrow k hk), hg0.low, ?_, ?_, ?_⟩ (Nat.le_trans h.lim hg.size) (by simp [World.setCell]) (fun k hk => ?_) (map_one h.fs h.rest (fun f => ⟨f.name, f.byt ++ s, f.syn⟩) rfl)
  · exact Nat.lt_of_lt_of_le hg0.lt (Nat.le_trans h.lim hg.size)
  · intro k hk
    exact (hown.lt k hk).2
  · show g.syn ≤ (g.byt ++ s).length
    have := hg0.syn
    rw [List.length_append]; omega
  · rcases hloc k hk with e | e
    · exact .inl e
    · exact .inr (Nat.le_trans h.lim e)
/-- A new file, in memory. -/
theorem add_at {w w' : World} {B lim b m : Nat} {S : Dk} {F : List Gd} (h : DA w B lim b m S F) (n : Txt) (hn : hasF S.fs n = false) (x : Nat) (hx : w.heap[x]? = some (.cells #[.slice none 0 0, .int .i64 0] 58 (0, 0))) (hxl : lim ≤ x)
    (hm : MapAt w' m ((n, x) :: (F.map Gd.ent).filter fun p => p.1 != n)) (ht : w.mapTurned w' m) : DA w' B w'.heap.size b m (putD S (⟨n, [], 0⟩ :: S.fs)) (⟨n, x, .slice none 0 0, [], 0⟩ :: F) := by
  have hsz := (turned_other ht).2.1
  have hot := (turned_other ht).1
  have hne := h.has_none hn
  have hfil : (F.map Gd.ent).filter (fun p => p.1 != n) = F.map Gd.ent := by
    rw [List.filter_eq_self]
    intro p hp
    obtain ⟨g, hg, rfl⟩ := List.mem_map.1 hp
    exact bne_iff_ne.2 (hne g hg)
  rw [hfil] at hm
  have hxs := ltOf hx
  have hml := h.mlt
  have hlm := h.lim
  refine ⟨(hot b h.ne_map).trans h.blk, hm, ?_, ?_, List.Perm.cons _ h.fs, h.low, by have := h.lt; omega, h.mlow, by omega, Nat.le_refl _⟩
  · intro g hg
    rcases List.mem_cons.1 hg with rfl | hg
    · exact ⟨(hot x (by omega)).trans hx, ⟨rfl, .inl ⟨rfl, rfl⟩⟩, by have := h.low; have := h.lt; show B ≤ x; omega, by show x < _; omega, fun k hk => (by cases hk), Nat.le_refl _⟩
    · exact (h.gs g hg).kept (hot _ (h.ne_adr hg).2) (fun k e => hot k (h.ne_row hg e).2) (by omega)
  · refine List.pairwise_cons.2 ⟨fun g hg => ⟨?_, fun k hk => (by cases hk)⟩, h.sep⟩
    have := (h.gs g hg).lt
    show x ≠ g.adr
    omega
end Go.Proofs.Ytdjgjmbgcjhnpaa
