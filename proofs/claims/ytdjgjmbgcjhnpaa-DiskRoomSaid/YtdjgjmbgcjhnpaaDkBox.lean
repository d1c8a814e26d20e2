/-
  A disk in memory: its block, its map, its files; how that stays while other blocks turn.
-/
import Derived.Test.YtdjgjmbgcjhnpaaDkMap
import Derived.Test.YtdjgjmbgcjhnpaaBytes
namespace Go.Proofs.Ytdjgjmbgcjhnpaa
set_option maxRecDepth 100000
open Go.RowKit
/-- A file, with where it lies. -/
structure Gd where
  name : Txt
  adr : Nat
  v : Value
  byt : Txt
  syn : Nat
def Gd.ent (g : Gd) : Txt × Nat := (g.name, g.adr)
def Gd.core (g : Gd) : Fl := ⟨g.name, g.byt, g.syn⟩
structure GAt (w : World) (B lim : Nat) (g : Gd) : Prop where
  blk : w.heap[g.adr]? = some (.cells #[g.v, .int .i64 (g.syn : Int)] 58 (0, 0))
  own : w.ownsRow B 5 1 g.v g.byt.length (bytesV g.byt)
  low : B ≤ g.adr
  lt : g.adr < lim
  rowlt : ∀ k, g.v.ownBlock = some k → k < lim
  syn : g.syn ≤ g.byt.length
def SepG (g h : Gd) : Prop := g.adr ≠ h.adr ∧ ∀ k, g.v.ownBlock = some k → h.v.ownBlock ≠ some k
theorem SepG.symm {g h : Gd} (k : SepG g h) : SepG h g := ⟨k.1.symm, fun i h1 h2 => k.2 i h2 h1⟩
abbrev diskC (S : Dk) (m : Nat) : Array Value := #[.int .i64 (S.room : Int), .map (some m), .bool S.off, .int .i64 S.at_, .int .i64 S.keep, .int .i64 (S.chg : Int)]
structure DA (w : World) (B lim b m : Nat) (S : Dk) (F : List Gd) : Prop where
  blk : w.heap[b]? = some (.cells (diskC S m) 51 (0, 0))
  map : MapAt w m (F.map Gd.ent)
  gs : ∀ g ∈ F, GAt w B lim g
  sep : F.Pairwise SepG
  fs : (F.map Gd.core).Perm S.fs
  low : B ≤ b
  lt : b < lim
  mlow : B ≤ m
  mlt : m < lim
  lim : lim ≤ w.heap.size
/-- Nothing but what lies between B and lim has turned. -/
structure Out (B lim : Nat) (w w' : World) : Prop where
  os : w'.os = w.os
  tape : w'.tape = w.tape
  output : w'.output = w.output
  size : w.heap.size ≤ w'.heap.size
  block : ∀ k, k < w.heap.size → (k < B ∨ lim ≤ k) → w'.heap[k]? = w.heap[k]?
theorem Out.refl (B lim : Nat) (w : World) : Out B lim w w := ⟨rfl, rfl, rfl, Nat.le_refl _, fun _ _ _ => rfl⟩
theorem Out.of {B lim : Nat} {w w' : World} (h : Below w.heap.size w w') : Out B lim w w' := ⟨h.os, h.tape, h.output, h.size, fun k hk _ => h.block k hk⟩
theorem Out.trans {B lim : Nat} {a b c : World} (h : Out B lim a b) (k : Out B lim b c) : Out B lim a c :=
  ⟨k.os.trans h.os, k.tape.trans h.tape, k.output.trans h.output, Nat.le_trans h.size k.size, fun i hi ho => (k.block i (Nat.lt_of_lt_of_le hi h.size) ho).trans (h.block i hi ho)⟩
theorem Out.drew {B lim : Nat} {a b : World} (h : Out B lim a b) : Out B lim a b.drew := ⟨h.os, h.tape, h.output, h.size, h.block⟩
theorem Out.set {B lim : Nat} {a b : World} (h : Out B lim a b) {x : Nat} (i : Nat) (u : Value) (hx : B ≤ x) (hl : x < lim) : Out B lim a (b.setCell ⟨x, i, none⟩ u) :=
  ⟨h.os, h.tape, h.output, by have := h.size; simp [World.setCell]; omega, fun k hk ho => (Below.heap_setCell b ⟨x, i, none⟩ u k (by simp; omega)).trans (h.block k hk ho)⟩
theorem Out.grown {B lim : Nat} {a b c : World} {row : Option Nat} (h : Out B lim a b) (k : b.grownBy c row) (hr : ∀ j, row = some j → a.heap.size ≤ j ∨ (B ≤ j ∧ j < lim)) : Out B lim a c :=
  ⟨k.os.trans h.os, k.tape.trans h.tape, k.output.trans h.output, Nat.le_trans h.size k.size, fun i hi ho => (k.block i (Nat.lt_of_lt_of_le hi h.size) (fun e => by have := hr i e.symm; omega)).trans (h.block i hi ho)⟩
theorem Out.below {B lim n : Nat} {a b : World} (h : Out B lim a b) (h1 : n ≤ B) (h2 : n ≤ a.heap.size) : Below n a b := ⟨h.os, h.tape, h.output, h.size, fun k hk => h.block k (by omega) (by omega)⟩

theorem own_kept {w w' : World} {B n size : Nat} {e : TypeId} {v : Value} {xs : List Value} (h : w.ownsRow B e size v n xs) (hk : ∀ k, v.ownBlock = some k → w'.heap[k]? = w.heap[k]?) : w'.ownsRow B e size v n xs := by
  refine ⟨h.1, ?_⟩
  rcases h.2 with h0 | ⟨g, cap, cur, rfl, hb, h1, hr⟩
  · exact .inl h0
  · exact .inr ⟨g, cap, cur, rfl, hb, (hk g rfl).trans h1, hr⟩
theorem own_row {w : World} {B n : Nat} {v : Value} {xs : List Value} (h : w.ownsRow B 5 1 v n xs) {k : Nat} (hk : v.ownBlock = some k) : ∃ cur, w.heap[k]? = some (.cells cur 5 (0, 0)) := by
  rcases h.2 with ⟨rfl, _⟩ | ⟨g, cap, cur, rfl, _, h1, _⟩
  · cases hk
  · cases hk; exact ⟨cur, h1⟩
theorem GAt.kept {w w' : World} {B lim lim' : Nat} {g : Gd} (h : GAt w B lim g) (h1 : w'.heap[g.adr]? = w.heap[g.adr]?) (h2 : ∀ k, g.v.ownBlock = some k → w'.heap[k]? = w.heap[k]?) (hl : lim ≤ lim') : GAt w' B lim' g :=
  ⟨h1.trans h.blk, own_kept h.own h2, h.low, Nat.lt_of_lt_of_le h.lt hl, fun k hk => Nat.lt_of_lt_of_le (h.rowlt k hk) hl, h.syn⟩
theorem GAt.rlow {w : World} {B lim : Nat} {g : Gd} (h : GAt w B lim g) {k : Nat} (hk : g.v.ownBlock = some k) : B ≤ k := (h.own.lt k hk).1
theorem GAt.adr_row {w : World} {B lim : Nat} {g g' : Gd} (h : GAt w B lim g) (h' : GAt w B lim g') {k : Nat} (hk : g'.v.ownBlock = some k) : g.adr ≠ k := by
  rintro rfl
  obtain ⟨cur, e⟩ := own_row h'.own hk
  have := h.blk.symm.trans e
  simp at this
theorem DA.block {w w' : World} {B lim b m : Nat} {S : Dk} {F : List Gd} (h : DA w B lim b m S F) (hk : ∀ k, B ≤ k → k < lim → w'.heap[k]? = w.heap[k]?) (hs : w.heap.size ≤ w'.heap.size) : DA w' B lim b m S F :=
  ⟨(hk b h.low h.lt).trans h.blk, h.map.block (hk m h.mlow h.mlt), fun g hg => (h.gs g hg).kept (hk _ (h.gs g hg).low (h.gs g hg).lt) (fun k e => hk k ((h.gs g hg).rlow e) ((h.gs g hg).rowlt k e)) (Nat.le_refl _), h.sep, h.fs, h.low, h.lt, h.mlow, h.mlt, Nat.le_trans h.lim hs⟩
theorem DA.next {w w' : World} {B lim b m : Nat} {S : Dk} {F : List Gd} (h : DA w B lim b m S F) (hb : Below w.heap.size w w') : DA w' B lim b m S F :=
  h.block (fun k _ hl => hb.block k (Nat.lt_of_lt_of_le hl h.lim)) hb.size
theorem DA.drew {w : World} {B lim b m : Nat} {S : Dk} {F : List Gd} (h : DA w B lim b m S F) : DA w.drew B lim b m S F := h.block (fun _ _ _ => rfl) (Nat.le_refl _)
theorem DA.far {w : World} {B lim b m : Nat} {S : Dk} {F : List Gd} (h : DA w B lim b m S F) {x : Nat} (i : Nat) (u : Value) (hx : lim ≤ x ∨ x < B) : DA (w.setCell ⟨x, i, none⟩ u) B lim b m S F :=
  h.block (fun k h1 h2 => Below.heap_setCell w ⟨x, i, none⟩ u k (by simp; omega)) (by simp [World.setCell])
theorem DA.raise {w : World} {B lim lim' b m : Nat} {S : Dk} {F : List Gd} (h : DA w B lim b m S F) (hl : lim ≤ lim') (hs : lim' ≤ w.heap.size) : DA w B lim' b m S F :=
  ⟨h.blk, h.map, fun g hg => (h.gs g hg).kept rfl (fun _ _ => rfl) hl, h.sep, h.fs, h.low, Nat.lt_of_lt_of_le h.lt hl, h.mlow, Nat.lt_of_lt_of_le h.mlt hl, hs⟩
theorem DA.perm {w : World} {B lim b m : Nat} {S : Dk} {F F' : List Gd} (h : DA w B lim b m S F) (hp : F.Perm F') : DA w B lim b m S F' :=
  ⟨h.blk, h.map.perm (hp.map _), fun g hg => h.gs g (hp.mem_iff.2 hg), (hp.pairwise_iff (fun {_ _} k => SepG.symm k)).1 h.sep, (hp.symm.map _).trans h.fs, h.low, h.lt, h.mlow, h.mlt, h.lim⟩
theorem DA.ne_map {w : World} {B lim b m : Nat} {S : Dk} {F : List Gd} (h : DA w B lim b m S F) : b ≠ m := by
  rintro rfl
  obtain ⟨es, c, e⟩ := h.map.isMap
  have := h.blk.symm.trans e
  simp at this
theorem DA.ne_adr {w : World} {B lim b m : Nat} {S : Dk} {F : List Gd} (h : DA w B lim b m S F) {g : Gd} (hg : g ∈ F) : g.adr ≠ b ∧ g.adr ≠ m := by
  constructor <;> intro e
  · have := (h.gs g hg).blk
    rw [e, h.blk] at this
    simp at this
  · obtain ⟨es, c, e'⟩ := h.map.isMap
    have := (h.gs g hg).blk
    rw [e, e'] at this
    simp at this
theorem DA.ne_row {w : World} {B lim b m : Nat} {S : Dk} {F : List Gd} (h : DA w B lim b m S F) {g : Gd} (hg : g ∈ F) {k : Nat} (hk : g.v.ownBlock = some k) : k ≠ b ∧ k ≠ m := by
  obtain ⟨cur, e1⟩ := own_row (h.gs g hg).own hk
  constructor <;> intro e
  · rw [e, h.blk] at e1
    simp at e1
  · obtain ⟨es, c, e'⟩ := h.map.isMap
    rw [e, e'] at e1
    simp at e1
/-- The disk's own block turns. -/
theorem DA.disk {w w' : World} {B lim b m : Nat} {S S' : Dk} {F : List Gd} (h : DA w B lim b m S F) (hb : w'.heap[b]? = some (.cells (diskC S' m) 51 (0, 0))) (hk : ∀ k, k ≠ b → w'.heap[k]? = w.heap[k]?) (hs : w.heap.size ≤ w'.heap.size) (hf : S'.fs = S.fs) : DA w' B lim b m S' F :=
  ⟨hb, h.map.block (hk m h.ne_map.symm), fun g hg => (h.gs g hg).kept (hk _ (h.ne_adr hg).1) (fun k e => hk k (h.ne_row hg e).1) (Nat.le_refl _), h.sep, by rw [hf]; exact h.fs, h.low, h.lt, h.mlow, h.mlt, Nat.le_trans h.lim hs⟩
theorem set_other (w : World) (b i : Nat) (u : Value) : ∀ k, k ≠ b → (w.setCell ⟨b, i, none⟩ u).heap[k]? = w.heap[k]? := fun k hk => Below.heap_setCell w ⟨b, i, none⟩ u k (by simpa using hk)
theorem DA.set {w : World} {B lim b m : Nat} {S : Dk} {F : List Gd} (h : DA w B lim b m S F) (S' : Dk) (i : Nat) (u : Value) (hc : (diskC S m).setIfInBounds i u = diskC S' m) (hf : S'.fs = S.fs) : DA (w.setCell ⟨b, i, none⟩ u) B lim b m S' F :=
  h.disk (by rw [setOf h.blk, hc]) (set_other w b i u) (by simp [World.setCell]) hf
/-- The map turns, and with it who is in it. -/
theorem DA.remap {w w' : World} {B lim b m : Nat} {S : Dk} {F : List Gd} (h : DA w B lim b m S F) (F' : List Gd) (fs : List Fl) (hm : MapAt w' m (F'.map Gd.ent)) (hk : ∀ k, k ≠ m → k < lim → w'.heap[k]? = w.heap[k]?) (hs : w.heap.size ≤ w'.heap.size)
    (hF : ∀ g' ∈ F', ∃ g ∈ F, g'.adr = g.adr ∧ g'.v = g.v ∧ g'.byt = g.byt ∧ g'.syn = g.syn) (hsep : F'.Pairwise SepG) (hp : (F'.map Gd.core).Perm fs) : DA w' B lim b m (putD S fs) F' :=
  ⟨(hk b h.ne_map h.lt).trans h.blk, hm, fun g' hg' => by
    obtain ⟨g, hg, e1, e2, e3, e4⟩ := hF g' hg'
    have := (h.gs g hg).kept (hk _ (h.ne_adr hg).2 (h.gs g hg).lt) (fun k e => hk k (h.ne_row hg e).2 ((h.gs g hg).rowlt k e)) (Nat.le_refl _)
    exact ⟨by rw [e1, e2, e4]; exact this.blk, by rw [e2, e3]; exact this.own, by rw [e1]; exact this.low, by rw [e1]; exact this.lt, by rw [e2]; exact this.rowlt, by rw [e3, e4]; exact this.syn⟩, hsep, hp, h.low, h.lt, h.mlow, h.mlt, Nat.le_trans h.lim hs⟩
/-- One file turns. -/
theorem DA.file {w w' : World} {B lim lim' b m : Nat} {S : Dk} {g0 : Gd} {R : List Gd} (h : DA w B lim b m S (g0 :: R)) (g1 : Gd) (fs : List Fl) (hn : g1.ent = g0.ent) (hk : ∀ k, k ≠ g0.adr → g0.v.ownBlock ≠ some k → k < lim → w'.heap[k]? = w.heap[k]?)
    (h1 : GAt w' B lim' g1) (hl : lim ≤ lim') (hl' : lim' ≤ w'.heap.size) (hrow : ∀ k, g1.v.ownBlock = some k → g0.v.ownBlock = some k ∨ lim ≤ k) (hp : ((g1 :: R).map Gd.core).Perm fs) : DA w' B lim' b m (putD S fs) (g1 :: R) := by
  have hg0 := h.gs g0 (by simp)
  obtain ⟨hs1, hs2⟩ := List.pairwise_cons.1 h.sep
  have ha : g1.adr = g0.adr := congrArg Prod.snd hn
  refine ⟨(hk b (h.ne_adr (by simp)).1.symm (fun e => (h.ne_row (by simp) e).1 rfl) h.lt).trans h.blk, ?_, ?_, ?_, hp, h.low, Nat.lt_of_lt_of_le h.lt hl, h.mlow, Nat.lt_of_lt_of_le h.mlt hl, hl'⟩
  · rw [List.map_cons, hn]
    exact h.map.block (hk m (h.ne_adr (by simp)).2.symm (fun e => (h.ne_row (by simp) e).2 rfl) h.mlt)
  · intro g hg
    rcases List.mem_cons.1 hg with rfl | hg
    · exact h1
    · have hgr := h.gs g (by simp [hg])
      exact hgr.kept (hk _ (hs1 g hg).1.symm (fun e => hgr.adr_row hg0 e rfl) hgr.lt) (fun k e => hk k (fun e' => hg0.adr_row hgr e e'.symm) (fun e' => (hs1 g hg).2 k e' e) (hgr.rowlt k e)) hl
  · refine List.pairwise_cons.2 ⟨fun g hg => ⟨by rw [ha]; exact (hs1 g hg).1, fun k e1 e2 => ?_⟩, hs2⟩
    rcases hrow k e1 with e | e
    · exact (hs1 g hg).2 k e e2
    · have := (h.gs g (by simp [hg])).rowlt k e2
      omega
theorem DA.nodup {w : World} {B lim b m : Nat} {S : Dk} {F : List Gd} (h : DA w B lim b m S F) : (F.map Gd.name).Nodup := by
  have := h.map.nodup
  rwa [List.map_map] at this
theorem DA.uniq {w : World} {B lim b m : Nat} {S : Dk} {F : List Gd} (h : DA w B lim b m S F) : uniq S.fs := by
  have h1 := h.nodup
  have h2 := (h.fs.map (fun f => f.name))
  rw [List.map_map] at h2
  exact h2.nodup_iff.1 h1
theorem DA.has_mem {w : World} {B lim b m : Nat} {S : Dk} {F : List Gd} (h : DA w B lim b m S F) {n : Txt} (hh : hasF S.fs n = true) : ∃ g R, F.Perm (g :: R) ∧ g.name = n := by
  rw [← has_perm h.fs, hasF, List.any_eq_true] at hh
  obtain ⟨f, hf, e⟩ := hh
  obtain ⟨g, hg, rfl⟩ := List.mem_map.1 hf
  obtain ⟨l1, l2, rfl⟩ := List.append_of_mem hg
  exact ⟨g, l1 ++ l2, List.perm_middle, by simpa [Gd.core] using e⟩
theorem DA.has_none {w : World} {B lim b m : Nat} {S : Dk} {F : List Gd} (h : DA w B lim b m S F) {n : Txt} (hh : hasF S.fs n = false) : ∀ g ∈ F, g.name ≠ n := by
  intro g hg e
  rw [← has_perm h.fs, hasF, List.any_eq_false] at hh
  exact hh g.core (List.mem_map.2 ⟨g, hg, rfl⟩) (by simpa [Gd.core] using e)
theorem DA.rest {w : World} {B lim b m : Nat} {S : Dk} {g : Gd} {R : List Gd} (h : DA w B lim b m S (g :: R)) : ∀ x ∈ R, x.name ≠ g.name := by
  have := h.nodup
  rw [List.map_cons, List.nodup_cons] at this
  intro x hx e
  exact this.1 (by rw [← e]; exact List.mem_map_of_mem hx)
end Go.Proofs.Ytdjgjmbgcjhnpaa
