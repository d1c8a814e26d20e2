import Derived.Test.YtpgbojpeffilmaaProg
import Derived.Test.YtpgbojpeffilmaaCmMath
import Derived.Test.YtpgbojpeffilmaaMaBuild
import Derived.Test.YtpgbojpeffilmaaMaCmA
import Derived.Test.YtpgbojpeffilmaaMaCmPq
import Derived.Test.YtpgbojpeffilmaaMaCmPr
import Derived.Test.YtpgbojpeffilmaaMaEvA
import Derived.Test.YtpgbojpeffilmaaMaPure
import Derived.Test.YtpgbojpeffilmaaPtMath
import Derived.Test.YtpgbojpeffilmaaRows
import Derived.Lib.Bytealg
import Derived.Lib.ItoaNum
import Derived.Lib.Atoi
import Derived.Lib.Join
import Derived.Lib.Strings
import Derived.Lib.TrimByte
import Derived.WalkKit
import Derived.WalkSpells
import Derived.WalkLawsBesides
import Derived.Deep.QuietTactic
import Derived.BigQuiet
import Derived.StillTailTactics
import Derived.Lib.Hide
import Derived.Maps.AppendAt
import Derived.Deep.AppendLies
import Derived.Deep.RegionWith
import Derived.Deep.RegionHeld3
import Derived.Deep.DeepFit
import Derived.Deep.LoopGhost
import Derived.IntWalk
import Derived.Lib.IndexBytes
import Derived.Laws.BytesString
import Derived.Shelf.Strings.Search1
import Derived.Shelf.Strings.Search2
import Derived.Shelf.Strings.Search3
import Derived.Shelf.LaysM
import Derived.Shelf.Strings.Shaped
import Derived.Shelf.Strings.BuilderK
import Derived.Lib.FrozenHead2
import Derived.Deep.MidRow
import Derived.Laws.ResultCell
import Derived.Lib.ConvBytes
import Derived.Laws.StructEq
import Derived.RangeFuncNested
import Derived.RangeFuncBound
import Derived.RangeFuncCalls
import Derived.RangeFuncLeaves
import Derived.RangeFuncBox
import Derived.RangeFuncWrites
import Derived.Shelf.Abstract
import Derived.Shelf.RegionOpen
import Derived.OwnWalkIn
import Derived.TacticsInMore
import Derived.LoopNIn
import Derived.LoopIn
import Derived.Lib.LaidTab
import Derived.Lib.AppendIntMem
import Derived.LoopN
import Derived.Maps.OwnIn
import Derived.Laws.EntriesVeiled
import Derived.Lib.SmallJoins
import Derived.Lib.IndexAny
import Derived.Laws.Runes
import Derived.Lib.Small
import Derived.Lib.IndexMore
import Derived.Lib.AtoiTie
import Derived.Laws.RangeAny
import Derived.Lib.AtoiErrMem
namespace Go.Proofs.Ytpgbojpeffilmaa
set_option maxRecDepth 100000
open Go.RowKit Go.Shelf
attribute [local go_sem] Oper.semAt_some
end Go.Proofs.Ytpgbojpeffilmaa
namespace Go.Proofs.Ytpgbojpeffilmaa
set_option maxRecDepth 100000
open Go.RowKit Go.Shelf
attribute [local go_sem] Oper.semAt_some
end Go.Proofs.Ytpgbojpeffilmaa
namespace Go.Proofs.Ytpgbojpeffilmaa
set_option maxRecDepth 100000
open Go.RowKit Go.Shelf
attribute [local go_sem] Oper.semAt_some
end Go.Proofs.Ytpgbojpeffilmaa
namespace Go.Proofs.Ytpgbojpeffilmaa
set_option maxRecDepth 100000
open Go.RowKit Go.Shelf
attribute [local go_sem] Oper.semAt_some
theorem wds_len {hd ws : Txt} {p : P.Pth} (h1 : hd.length ≤ 10) (h2 : p.1.length ≤ 1000000000) (h3 : p.2.length ≤ 1000000000) (h4 : ws.length ≤ 1000000) : (wdsV hd p ws).length ≤ 4000000000 := by
 have := textL_len p
 unfold wdsV
 rw [List.length_append, List.length_append]
 split
 ·simp; omega
 ·rw [List.length_cons]; omega
theorem bV_len (k : Nat) {c : CL} (h : Fit c) : (bV k c).length ≤ 4000000000 := by
 have h1 := h.arg
 unfold bV
 split
 ·have := domV_le c.arg
  rw [List.length_cons]; omega
 ·split
  ·exact wds_len (by decide) h.p1 h.p2 prMail_len
  ·split
   ·exact wds_len (by decide) h.p1 h.p2 prRcpt_len
   ·split
    ·exact Nat.zero_le _
    ·split
     ·exact Nat.zero_le _
     ·rw [List.length_cons]; omega
def CrPost (c : CL) (w : World) (e : Ending) (w' : World) : Prop := e = .returned (.tuple #[.string (mkS (prV c)), .int .i64 (prE c)]) ∧ Below w.heap.size w w'
theorem cr_no {c : CL} {w w' : World} {n : Int} (h : prE c = n) (hn : n ≠ 0) (hb : Below w.heap.size w w') : CrPost c w (.returned (.tuple #[.string { data := #[] }, .int .i64 n])) w' := by
 unfold CrPost; rw [prV, h, if_neg hn]; exact ⟨rfl, hb⟩
theorem cr_yes {c : CL} {w w' : World} {s : ByteArray} (h : prE c = 0) (hs : s = mkS (c.verb ++ bV (kindV c.verb) c)) (hb : Below w.heap.size w w') : CrPost c w (.returned (.tuple #[.string s, .int .i64 0])) w' := by
 unfold CrPost; rw [prV, h, if_pos rfl, hs]; exact ⟨rfl, hb⟩
end Go.Proofs.Ytpgbojpeffilmaa
namespace Go.Proofs.Ytpgbojpeffilmaa.E
set_option maxRecDepth 100000
open Go.RowKit Go.Shelf
theorem cell_lt {w : World} {b o : Nat} {v : Value} (h : w.cell? ⟨b, o, none⟩ = some v) : b < w.heap.size := World.block_lt_of_cell? w ⟨b, o, none⟩ h
theorem cell_keep {w w' : World} {b o : Nat} {v : Value} (h : w.cell? ⟨b, o, none⟩ = some v) (hb : Below w.heap.size w w') : w'.cell? ⟨b, o, none⟩ = some v := (hb.cell (p := ⟨b, o, none⟩) (cell_lt h)).trans h
theorem grown_below {w w' : World} {r : Option Nat} (h : w.grownBy w' r) {B : Nat} (hB : B ≤ w.heap.size) (hr : ∀ k, r = some k → B ≤ k) : Below B w w' :=
 (Below.refl B w).grown h hB hr
end Go.Proofs.Ytpgbojpeffilmaa.E
namespace Go.Proofs.Ytpgbojpeffilmaa.E
set_option maxRecDepth 100000
open Go.RowKit Go.Shelf
def numL (a b c : Int) : List Txt := [Lib.itoa a, Lib.itoa b, Lib.itoa c]
theorem words_join (a b c : Int) : joinC 32 (numL a b c) = wordsI a b c := rfl
def I64 (n : Int) : Prop := -9223372036854775808 ≤ n ∧ n ≤ 9223372036854775807
theorem itoa_20 {n : Int} (h : I64 n) : (Lib.itoa n).length ≤ 21 := by
 unfold I64 at h
 unfold Lib.itoa
 split
 ·have := (dd_all 19 n.natAbs (by omega)).2.1
  simp only [List.length_cons]; omega
 ·have := (dd_all 19 n.toNat (by omega)).2.1
  omega
end Go.Proofs.Ytpgbojpeffilmaa.E
namespace Go.Proofs.Ytpgbojpeffilmaa.E
set_option maxRecDepth 100000
open Go.RowKit Go.Shelf
abbrev TC (t : ST) : Array Value := #[.int .i64 t.pl, .string (mkS t.st), .int .i64 t.tr, .int .i64 t.ne, .int .i64 t.told]
def StPost (t : ST) (w : World) (e : Ending) (w' : World) : Prop := e = .returned (.tuple #[.string (mkS (stV t)), .int .i64 (stE t)]) ∧ Below w.heap.size w w'
theorem st_post_10 {t : ST} {w w' : World} (h : stateB t.st = false) (hb : Below w.heap.size w w') : StPost t w (.returned (.tuple #[.string { data := #[] }, .int .i64 10])) w' := by
 have e : stE t = 10 := by unfold stE; rw [if_pos h]
 unfold StPost stV
 rw [e, if_neg (by decide)]
 exact ⟨rfl, hb⟩
theorem st_post_1 {t : ST} {w w' : World} (h : stateB t.st = true) (hi : (inI t.pl 0 7 && inI t.tr 0 1000 && inI t.ne 0 2199023255552 && inI t.told 0 7) = false) (hb : Below w.heap.size w w') : StPost t w (.returned (.tuple #[.string { data := #[] }, .int .i64 1])) w' := by
 have e : stE t = 1 := by unfold stE; rw [h, if_neg (by decide), if_pos hi]
 unfold StPost stV
 rw [e, if_neg (by decide)]
 exact ⟨rfl, hb⟩
theorem st_post_0 {t : ST} {w w' : World} {s : ByteArray} (h : stateB t.st = true) (hi : (inI t.pl 0 7 && inI t.tr 0 1000 && inI t.ne 0 2199023255552 && inI t.told 0 7) = true) (hs : s = mkS (bytesT t)) (hb : Below w.heap.size w w') : StPost t w (.returned (.tuple #[.string s, .int .i64 0])) w' := by
 have e : stE t = 0 := by unfold stE; rw [h, if_neg (by decide), hi, if_neg (by decide)]
 unfold StPost stV
 rw [e, if_pos rfl, hs]
 exact ⟨rfl, hb⟩
structure PB (W : World) (t : ST) (w : World) : Prop where
 box : w.heap[W.heap.size]? = some (.cells (TC t) 44 (0, 0))
 below : Below W.heap.size W w
theorem PB.next {W w w' : World} {t : ST} (h : PB W t w) (hb : Below w.heap.size w w') : PB W t w' := ⟨(hb.block _ (ltOf h.box)).trans h.box, below_next h.below hb⟩
theorem PB.drew {W w : World} {t : ST} (h : PB W t w) : PB W t w.drew := ⟨h.box, below_drewN h.below 1⟩
theorem PB.cells {W w : World} {t : ST} (h : PB W t w) : w.cell? ⟨W.heap.size, 0, none⟩ = some (.int .i64 t.pl) ∧ w.cell? ⟨W.heap.size, 1, none⟩ = some (.string (mkS t.st)) ∧ w.cell? ⟨W.heap.size, 2, none⟩ = some (.int .i64 t.tr) ∧ w.cell? ⟨W.heap.size, 3, none⟩ = some (.int .i64 t.ne) ∧ w.cell? ⟨W.heap.size, 4, none⟩ = some (.int .i64 t.told) :=
 ⟨cellOf h.box 0, cellOf h.box 1, cellOf h.box 2, cellOf h.box 3, cellOf h.box 4⟩
theorem cellsP {W w : World} {t : ST} (h : Hid (PB W t w)) : w.cell? ⟨W.heap.size, 0, none⟩ = some (.int .i64 t.pl) ∧ w.cell? ⟨W.heap.size, 1, none⟩ = some (.string (mkS t.st)) ∧ w.cell? ⟨W.heap.size, 2, none⟩ = some (.int .i64 t.tr) ∧ w.cell? ⟨W.heap.size, 3, none⟩ = some (.int .i64 t.ne) ∧ w.cell? ⟨W.heap.size, 4, none⟩ = some (.int .i64 t.told) := h.out.cells
theorem cat_t (si ss sw : Txt) : ({ data := #[83, 32] } ++ mkS si ++ { data := #[32] } ++ mkS ss ++ { data := #[32] } ++ mkS sw : ByteArray) = mkS (83 :: 32 :: (si ++ (32 :: (ss ++ (32 :: sw))))) := by
 rw [show ({ data := #[83, 32] } : ByteArray) = mkS [83, 32] from rfl, show ({ data := #[32] } : ByteArray) = mkS [32] from rfl, mkS_cat, mkS_cat, mkS_cat, mkS_cat, mkS_cat]
 simp
theorem in_bd {n a b : Int} (h : inI n a b = true) : a ≤ n ∧ n ≤ b := by
 unfold inI at h
 simpa using h
end Go.Proofs.Ytpgbojpeffilmaa.E
namespace Go.Proofs.Ytpgbojpeffilmaa.E
set_option maxRecDepth 100000
open Go.RowKit Go.Shelf
def RC (c : Rc) : Array Value := #[.string (mkS c.p.1), .string (mkS c.p.2), .string (mkS c.r.no), .string (mkS c.r.kind), .string (mkS c.r.oc)]
def EC (x : EM) (vr vl : Value) : Array Value := #[.int .i64 x.id, .int .i64 x.at_, .int .i64 x.rel, .string (mkS x.fr.1), .string (mkS x.fr.2), .bool x.m.hs, .bool x.m.hf, .bool x.m.hu, .bool x.m.hb, .bool x.m.hp, .int .i64 x.m.sz, .int .i64 x.m.fo, .int .i64 x.m.un, .int .i64 x.m.by_, .int .i64 x.m.pr, .string (mkS x.m.body), .string (mkS x.m.ret), .string (mkS x.m.env), .string (mkS x.m.mode), vr, vl]
structure RcAt (w : World) (A : Addr) (c : Rc) : Prop where
 lt : A.block < w.heap.size
 c0 : w.cell? A = some (.string (mkS c.p.1))
 c1 : w.cell? ⟨A.block, A.off + 1, none⟩ = some (.string (mkS c.p.2))
 c2 : w.cell? ⟨A.block, A.off + 2, none⟩ = some (.string (mkS c.r.no))
 c3 : w.cell? ⟨A.block, A.off + 3, none⟩ = some (.string (mkS c.r.kind))
 c4 : w.cell? ⟨A.block, A.off + 4, none⟩ = some (.string (mkS c.r.oc))
def RcsAt (w : World) (v : Value) (l : List Rc) : Prop := ∃ (a : Option Addr) (cap : Nat), v = .slice a l.length cap ∧ l.length ≤ cap ∧ (a = none → cap = 0) ∧ ∀ i c, l[i]? = some c → ∃ A, a = some A ∧ A.block < w.heap.size ∧ RcAt w (A.add (i * 5)) c
theorem RcAt.below {w w' : World} {B : Nat} {A : Addr} {c : Rc} (h : RcAt w A c) (hb : Below B w w') (hB : A.block < B) : RcAt w' A c :=
 ⟨Nat.lt_of_lt_of_le h.lt hb.size, (hb.cell (p := A) hB).trans h.c0, (hb.cell (p := ⟨A.block, A.off + 1, none⟩) hB).trans h.c1, (hb.cell (p := ⟨A.block, A.off + 2, none⟩) hB).trans h.c2, (hb.cell (p := ⟨A.block, A.off + 3, none⟩) hB).trans h.c3, (hb.cell (p := ⟨A.block, A.off + 4, none⟩) hB).trans h.c4⟩
theorem RcsAt.below {w w' : World} {v : Value} {l : List Rc} (h : RcsAt w v l) (hb : Below w.heap.size w w') : RcsAt w' v l := by
 obtain ⟨a, cap, hv, hc, hn, hx⟩ := h
 refine ⟨a, cap, hv, hc, hn, fun i c hi => ?_⟩
 obtain ⟨A, hA, hl, hat⟩ := hx i c hi
 exact ⟨A, hA, Nat.lt_of_lt_of_le hl hb.size, hat.below hb hat.lt⟩
theorem rcs_nil (w : World) : RcsAt w (.slice none 0 0) [] := ⟨none, 0, rfl, Nat.le_refl _, fun _ => rfl, fun i t h => by simp at h⟩
theorem add_at (g o n : Nat) : (⟨g, o, none⟩ : Addr).add n = ⟨g, o + n, none⟩ := by
 unfold Addr.add
 split
 ·rename_i h; rw [h]; rfl
 ·rfl
theorem size_msg : (Try.prog.info? 42).map (·.size) = some 21 := by kernel_rfl
structure EAt (w : World) (x : EM) (vr vl : Value) : Prop where
 rc : RcsAt w vr x.rc
 ls : TxtsAt w vl x.ls
theorem EAt.below {w w' : World} {x : EM} {vr vl : Value} (h : EAt w x vr vl) (hb : Below w.heap.size w w') : EAt w' x vr vl := ⟨h.rc.below hb, h.ls.below hb⟩
theorem one_EC {x : EM} {vr vl : Value} {w : World} (h : EAt w x vr vl) : (EC x vr vl).all (·.oneCell') = true := by
 obtain ⟨a, c, rfl, _⟩ := h.rc
 obtain ⟨b, d, rfl, _⟩ := h.ls
 kernel_rfl
theorem whole_EC (cs : Array Value) (x : EM) (vr vl : Value) (h : cs.size = 21) : EC x vr vl = (cs.toList.take 0 ++ (EC x vr vl).toList ++ cs.toList.drop (0 + (EC x vr vl).size)).toArray := by
 have e : (EC x vr vl).size = 21 := rfl
 rw [e, List.drop_of_length_le (by simp [h])]
 simp
def cmdsV (l : List CL) : List Value := l.flatMap fun c => (CC c).toList
theorem CC_len (c : CL) : (CC c).toList.length = 21 := rfl
theorem cmdsV_length (l : List CL) : (cmdsV l).length = l.length * 21 := by
 induction l with
 | nil => rfl
 | cons c l ih =>
  rw [cmdsV, List.flatMap_cons, List.length_append, CC_len]
  rw [cmdsV] at ih
  rw [ih, List.length_cons]; omega
theorem cmdsV_append (l m : List CL) : cmdsV (l ++ m) = cmdsV l ++ cmdsV m := by simp [cmdsV]
theorem Try.infoRc : (Try.prog.info? 38).map (fun i => (i.zero, i.size, i.bytes)) = some (some (.agg #[.string { data := #[] }, .string { data := #[] }, .string { data := #[] }, .string { data := #[] }, .string { data := #[] }]), 5, 80) := by kernel_rfl
def rcV (l : List Rc) : List Value := l.flatMap fun c => (RC c).toList
theorem RC_len (c : Rc) : (RC c).toList.length = 5 := rfl
theorem rcV_length (l : List Rc) : (rcV l).length = l.length * 5 := by
 induction l with
 | nil => rfl
 | cons c l ih =>
  rw [rcV, List.flatMap_cons, List.length_append, RC_len]
  rw [rcV] at ih
  rw [ih, List.length_cons]; omega
theorem rcV_append (l m : List Rc) : rcV (l ++ m) = rcV l ++ rcV m := by simp [rcV]
theorem app_rcs {w : World} {ops : Array Oper} {rest : List Oper} {o : Oper} {a : Act} {Q : Exit → Act → World → Prop} (hgd : o.guard = none) (s x : Operand)
  (ho : o.op = .call { callee := .builtin .append, args := #[s, x], argTypes := #[39, 39] }) (base : Nat) (v : Value) (l : List Rc) (hs : a.eval s = v) (hown : w.ownsRow base 38 5 v l.length (rcV l))
  (A : Addr) (c : Rc) (n : Nat) (hx : a.eval x = .slice (some A) 1 n) (hb : ∀ j u, (RC c).toList[j]? = some u → w.cell? (A.add j) = some u) (h9 : l.length ≤ 1000000) (hbase : base ≤ w.heap.size)
  (h : ∀ v' w', w'.ownsRow base 38 5 v' (l ++ [c]).length (rcV (l ++ [c])) → w.grownBy w' v.ownBlock → wpList Try.prog ops Q rest (a.put o.dst v') w') :
  wpList Try.prog ops Q (o :: rest) a w := by
 obtain ⟨i0, hi, hz0, hz1, hz2⟩ := info_parts Try.infoRc
 refine wpList_append_own_at (w := w) hgd s x 39 ho base 38 i0 _ 5 80 Try.underlying39 hi hz0 hz1 hz2 rfl (by decide) v l.length (rcV l) hs hown A 1 n (RC c).toList hx rfl hb ?_ (by unfold maxLen; omega) (by omega) hbase ?_
 ·intro u hu
  have hu' : u ∈ [Value.string (mkS c.p.1), .string (mkS c.p.2), .string (mkS c.r.no), .string (mkS c.r.kind), .string (mkS c.r.oc)] := hu
  simp only [List.mem_cons, List.not_mem_nil, or_false] at hu'
  rcases hu' with rfl | rfl | rfl | rfl | rfl <;> rfl
 ·intro v' w' h1 h2 _ _
  refine h v' w' ?_ h2
  rw [List.length_append, rcV_append]
  simpa [rcV] using h1
theorem own_rcs {w : World} {B : Nat} {v : Value} {l : List Rc} (h : w.ownsRow B 38 5 v l.length (rcV l)) : RcsAt w v l := by
 rcases h.2 with ⟨rfl, h0⟩ | ⟨g, cap, cur, hv, hB, hh, hn, _, hsz, htk⟩
 ·have e : l = [] := List.eq_nil_of_length_eq_zero h0
  subst e
  exact rcs_nil w
 ·refine ⟨some ⟨g, 0, none⟩, cap, hv, hn, fun e => (by cases e), fun i c hi => ⟨_, rfl, ltOf hh, ?_⟩⟩
  obtain ⟨hlt, hc⟩ := List.getElem?_eq_some_iff.1 hi
  have key : ∀ j, j < 5 → cur[i * 5 + j]? = (RC c)[j]? := fun j hj => by
   have e1 : (rcV l)[i * 5 + j]? = (RC c)[j]? := by
    have hs : l = l.take i ++ c :: l.drop (i + 1) := by
     rw [← hc, ← List.drop_eq_getElem_cons hlt, List.take_append_drop]
    have e2 : rcV l = rcV (l.take i) ++ ((RC c).toList ++ rcV (l.drop (i + 1))) := by
     conv => lhs; rw [hs, rcV_append]
     rfl
    have e3 : (rcV (l.take i)).length = i * 5 := by rw [rcV_length, List.length_take]; rw [Nat.min_eq_left (by omega)]
    rw [e2, List.getElem?_append_right (by omega), e3, Nat.add_sub_cancel_left, List.getElem?_append_left (by rw [RC_len]; exact hj), Array.getElem?_toList]
   rw [← e1, ← htk, List.getElem?_take, if_pos (by omega), Array.getElem?_toList]
  rw [add_at, Nat.zero_add]
  refine ⟨ltOf hh, ?_, ?_, ?_, ?_, ?_⟩
  ·rw [cellOf hh]; exact key 0 (by decide)
  ·rw [cellOf hh]; exact key 1 (by decide)
  ·rw [cellOf hh]; exact key 2 (by decide)
  ·rw [cellOf hh]; exact key 3 (by decide)
  ·rw [cellOf hh]; exact key 4 (by decide)
structure FitE (x : EM) : Prop where
 fr : x.fr.1.length ≤ 1000000000 ∧ x.fr.2.length ≤ 1000000000
 rc : ∀ c ∈ x.rc, c.p.1.length ≤ 1000000000 ∧ c.p.2.length ≤ 1000000000 ∧ c.r.kind.length ≤ 1000000000
 rn : x.rc.length ≤ 100000
 ls : (L.joinB (bs x.ls)).length ≤ 1000000000
 ln : x.ls.length ≤ 1000000
theorem fit_cmds {x : EM} (h : FitE x) : ∀ c ∈ cmds x, Fit c := by
 intro c hc
 rcases List.mem_cons.1 hc with rfl | hc
 ·exact ⟨by simp [cmdM, vMAIL], by simp [cmdM], h.fr.1, h.fr.2, by simp [cmdM, zeroR]⟩
 ·obtain ⟨d, hd, rfl⟩ := List.mem_map.1 hc
  obtain ⟨h1, h2, h3⟩ := h.rc d hd
  exact ⟨by simp [cmdR, vRCPT], by simp [cmdR], h1, h2, h3⟩
theorem txts_strs {w : World} {a : Option Addr} {n cap : Nat} {l : List Txt} (h : TxtsAt w (.slice a n cap) l) : L.Strs w a n (bs l) := by
 obtain ⟨a', cap', hv, _, hn, hc⟩ := h
 injection hv with h1 h2 h3
 subst h1 h2 h3
 refine ⟨by simp [bs], fun h0 => ?_⟩
 cases l with
 | nil => simp at h0
 | cons t l =>
  obtain ⟨A, hA, hlt, _⟩ := hc 0 t rfl
  refine ⟨A, hA, hlt, fun j p hj => ?_⟩
  rw [bs, List.getElem?_map, Option.map_eq_some_iff] at hj
  obtain ⟨u, hu, rfl⟩ := hj
  obtain ⟨A', hA', _, hcu⟩ := hc j u hu
  rw [hA] at hA'
  injection hA' with hA'
  rw [hA']; exact hcu
theorem sayE_at : ∀ {l : List CL} {k : Nat} {c : CL}, (∀ d ∈ l.take k, prE d = 0) → l[k]? = some c → prE c ≠ 0 → sayE l = prE c
 | [], k, c, _, h, _ => by simp at h
 | a :: l, 0, c, _, h, hne => by
  simp at h
  subst h
  rw [sayE, if_neg hne]
 | a :: l, k + 1, c, ha, h, hne => by
  rw [sayE, if_pos (ha a (by simp))]
  exact sayE_at (k := k) (fun d hd => ha d (by rw [List.take_succ_cons]; exact List.mem_cons_of_mem _ hd)) (by simpa using h) hne
end Go.Proofs.Ytpgbojpeffilmaa.E
namespace Go.Proofs.Ytpgbojpeffilmaa.E
set_option maxRecDepth 100000
open Go.RowKit Go.Shelf
def CmsPost (x : EM) (w : World) (e : Ending) (w' : World) : Prop := e = .returned (.tuple #[.string (mkS (if sayE (cmds x) = 0 then sayV (cmds x) else [])), .int .i64 (sayE (cmds x))]) ∧ Below w.heap.size w w'
theorem sayV_take {l : List CL} {k : Nat} {c : CL} (h : l[k]? = some c) : sayV (l.take (k + 1)) = sayV (l.take k) ++ (prV c ++ [13, 10]) := by
 obtain ⟨hk, rfl⟩ := List.getElem?_eq_some_iff.1 h
 rw [List.take_succ_eq_append_getElem hk, sayV, sayV, List.flatMap_append]
 simp
theorem sayV_le : ∀ (l : List CL), (sayV l).length ≤ 512 * l.length
 | [] => by simp [sayV]
 | c :: l => by
  have ih := sayV_le l
  have := prV_len (c := c)
  have e : sayV (c :: l) = prV c ++ [13, 10] ++ sayV l := by simp [sayV]
  rw [e]
  simp only [List.length_append, List.length_cons, List.length_nil]
  omega
theorem cms_err {x : EM} {c : CL} {k : Nat} {w w' : World} (h1 : ∀ d ∈ (cmds x).take k, prE d = 0) (h2 : (cmds x)[k]? = some c) (h3 : prE c ≠ 0) (hb : Below w.heap.size w w') : CmsPost x w (.returned (.tuple #[.string { data := #[] }, .int .i64 (prE c)])) w' := by
 unfold CmsPost
 rw [sayE_at h1 h2 h3, if_neg h3]
 exact ⟨rfl, hb⟩
theorem cms_ok {x : EM} {w w' : World} {t : Txt} (h1 : ∀ d ∈ cmds x, prE d = 0) (ht : t = sayV (cmds x)) (hb : Below w.heap.size w w') : CmsPost x w (.returned (.tuple #[.string (mkS t), .int .i64 0])) w' := by
 unfold CmsPost
 rw [sayE_of h1, if_pos rfl, ht]
 exact ⟨rfl, hb⟩
theorem take_all {l : List CL} {k : Nat} {c : CL} (h : l[k]? = some c) (ha : ∀ d ∈ l.take k, prE d = 0) (hc : prE c = 0) : ∀ d ∈ l.take (k + 1), prE d = 0 := by
 obtain ⟨hk, rfl⟩ := List.getElem?_eq_some_iff.1 h
 rw [List.take_succ_eq_append_getElem hk]
 intro d hd
 rcases List.mem_append.1 hd with hd | hd
 ·exact ha d hd
 ·rw [List.mem_singleton.1 hd]; exact hc
theorem new_two (w : World) (o p : Obj) : ((w.alloc o).alloc p).heap[w.heap.size + 1]? = some p := by
 have := newOf (w.alloc o) p
 rwa [show (w.alloc o).heap.size = w.heap.size + 1 by simp] at this
end Go.Proofs.Ytpgbojpeffilmaa.E
