/-
  The walk of may.
-/
import Derived.Test.YtpgbojpeffilmaaProg
import Derived.Test.YtpgbojpeffilmaaJgCls
import Derived.Test.YtpgbojpeffilmaaJgMath
import Derived.Test.YtpgbojpeffilmaaJgMsg
import Derived.Test.YtpgbojpeffilmaaJgSmall
import Derived.Test.YtpgbojpeffilmaaMaBuild
import Derived.Test.YtpgbojpeffilmaaMaEvA
import Derived.Test.YtpgbojpeffilmaaMaEvB
import Derived.Test.YtpgbojpeffilmaaMaPure
import Derived.Test.YtpgbojpeffilmaaRows
import Derived.Lib.IndexAny
import Derived.Laws.Runes
import Derived.Lib.Small
import Derived.Lib.Bytealg
import Derived.Lib.ItoaNum
import Derived.Lib.Atoi
import Derived.Lib.Join
import Derived.Lib.Strings
import Derived.Lib.TrimByte
import Derived.Lib.IndexMore
import Derived.Lib.AtoiTie
import Derived.WalkKit
import Derived.WalkSpells
import Derived.WalkLawsBesides
import Derived.Deep.QuietTactic
import Derived.BigQuiet
import Derived.StillTailTactics
import Derived.Lib.Hide
import Derived.Maps.AppendAt
import Derived.Deep.AppendLies
import Derived.Deep.RegionWith
import Derived.Deep.RegionHeld3
import Derived.Deep.DeepFit
import Derived.Deep.LoopGhost
import Derived.IntWalk
import Derived.Lib.IndexBytes
import Derived.Laws.BytesString
import Derived.Shelf.Strings.Search1
import Derived.Shelf.Strings.Search2
import Derived.Shelf.Strings.Search3
import Derived.Shelf.LaysM
import Derived.Shelf.Strings.Shaped
import Derived.Shelf.Strings.BuilderK
import Derived.Lib.FrozenHead2
import Derived.Deep.MidRow
import Derived.Laws.ResultCell
import Derived.Laws.RangeAny
import Derived.Lib.ConvBytes
import Derived.Laws.StructEq
import Derived.RangeFuncNested
import Derived.RangeFuncBound
import Derived.RangeFuncCalls
import Derived.RangeFuncLeaves
import Derived.RangeFuncBox
import Derived.RangeFuncWrites
import Derived.Shelf.Abstract
import Derived.Shelf.RegionOpen
import Derived.OwnWalkIn
import Derived.TacticsInMore
import Derived.LoopNIn
import Derived.LoopIn
import Derived.Lib.LaidTab
import Derived.Lib.AppendIntMem
import Derived.LoopN
import Derived.Maps.OwnIn
import Derived.Laws.EntriesVeiled
import Derived.Lib.SmallJoins
import Derived.Lib.AtoiErrMem
namespace Go.Proofs.Ytpgbojpeffilmaa.E.J
set_option maxRecDepth 100000
open Go.RowKit Go.Shelf
/-- The boxes of a plan, a message, a status, one above the other. -/
structure XB (W : World) (p : PJ) (x : EM) (vr vl : Value) (t : ST) (w : World) : Prop where
  pb : w.heap[W.heap.size]? = some (.cells #[.int .i64 p.base, .int .i64 p.most, .int .i64 p.life, .int .i64 p.warn] 23 (0, 0))
  mb : w.heap[W.heap.size + 1]? = some (.cells (EC x vr vl) 42 (0, 0))
  tb : w.heap[W.heap.size + 1 + 1]? = some (.cells (TC t) 44 (0, 0))
  below : Below W.heap.size W w
theorem XB.new (w : World) (p : PJ) (x : EM) (vr vl : Value) (t : ST) : XB w p x vr vl t (((w.alloc (.cells #[.int .i64 p.base, .int .i64 p.most, .int .i64 p.life, .int .i64 p.warn] 23)).alloc (.cells (EC x vr vl) 42)).alloc (.cells (TC t) 44)) := by
  have h := PB.new w p x vr vl
  generalize hW : (w.alloc (.cells #[.int .i64 p.base, .int .i64 p.most, .int .i64 p.life, .int .i64 p.warn] 23)).alloc (.cells (EC x vr vl) 42) = w2 at h
  have hs : w2.heap.size = w.heap.size + 1 + 1 := by rw [← hW]; simp
  have b := below_box w2 (.cells (TC t) 44)
  refine ⟨(b.block _ (ltOf h.pb)).trans h.pb, (b.block _ (ltOf h.mb)).trans h.mb, ?_, below_next h.below b⟩
  rw [← hs]
  exact newOf w2 _
theorem XB.next {W w w' : World} {p : PJ} {x : EM} {vr vl : Value} {t : ST} (h : XB W p x vr vl t w) (hb : Below w.heap.size w w') : XB W p x vr vl t w' := ⟨(hb.block _ (ltOf h.pb)).trans h.pb, (hb.block _ (ltOf h.mb)).trans h.mb, (hb.block _ (ltOf h.tb)).trans h.tb, below_next h.below hb⟩
theorem may_1 {p : PJ} {x : EM} {t : ST} {now : Int} (h : okP p = false) : mayJ p x t now = 1 := by unfold mayJ; rw [h]; rfl
theorem may_2 {p : PJ} {x : EM} {t : ST} {now : Int} (h : okP p = true) (k : inI now 0 1099511627776 = false) : mayJ p x t now = 1 := by unfold mayJ; rw [h, k]; rfl
theorem may_3 {p : PJ} {x : EM} {t : ST} {now : Int} (h : okP p = true) (k : inI now 0 1099511627776 = true) (s : (t.st == [82]) = false) : mayJ p x t now = 9 := by unfold mayJ; rw [h, k, s]; rfl
theorem may_4 {p : PJ} {x : EM} {t : ST} {now : Int} (h : okP p = true) (k : inI now 0 1099511627776 = true) (s : (t.st == [82]) = true) (i : inI t.pl 0 ((x.rc.length : Int) - 1) = false) : mayJ p x t now = 9 := by unfold mayJ; rw [h, k, s, i]; rfl
theorem may_5 {p : PJ} {x : EM} {t : ST} {now : Int} (h : okP p = true) (k : inI now 0 1099511627776 = true) (s : (t.st == [82]) = true) (i : inI t.pl 0 ((x.rc.length : Int) - 1) = true) : mayJ p x t now = 0 := by unfold mayJ; rw [h, k, s, i]; rfl
set_option maxHeartbeats 16000000 in
theorem may_x1 (p : PJ) (x : EM) (vr vl : Value) (t : ST) (now : Int) (w : World) (hE : EAt w x vr vl) (hn : x.rc.length ≤ 1000000) (hp : okP p = false) : Calls Try.prog 15 #[.agg #[.int .i64 p.base, .int .i64 p.most, .int .i64 p.life, .int .i64 p.warn], .agg #[.int .i64 x.id, .int .i64 x.at_, .int .i64 x.rel, .string (mkS x.fr.1), .string (mkS x.fr.2), .bool x.m.hs, .bool x.m.hf, .bool x.m.hu, .bool x.m.hb, .bool x.m.hp, .int .i64 x.m.sz, .int .i64 x.m.fo, .int .i64 x.m.un, .int .i64 x.m.by_, .int .i64 x.m.pr, .string (mkS x.m.body), .string (mkS x.m.ret), .string (mkS x.m.env), .string (mkS x.m.mode), vr, vl], .agg #[.int .i64 t.pl, .string (mkS t.st), .int .i64 t.tr, .int .i64 t.ne, .int .i64 t.told], .int .i64 now] w fun e w' => e = .returned (.int .i64 (mayJ p x t now)) ∧ Below w.heap.size w w' := by
  rw [may_1 hp]
  have HB := Lib.hid (XB.new w p x vr vl t)
  have HRG := Lib.hid (fun w => jright_x p w)
  have HW1 := Lib.hid (fun w => jwithin_x now 0 1099511627776 w)
  have HW2 := Lib.hid (fun w => jwithin_x t.pl 0 ((x.rc.length : Int) - 1) w)
  have e1 : ((mkS t.st).toList == [82]) = (t.st == [82]) := by rw [mkS_toList]
  obtain ⟨ra, rcap, rfl, _, _, _⟩ := hE.rc
  have q1 : IntKind.i64.wrap ((x.rc.length : Int) - 1) = (x.rc.length : Int) - 1 := IntWalk.i64_in _ (by omega)
  clear hE hn
  go_enter Try.func15, Try.ntmps15
  go_wp2_with (first | ((with_reducible refine jis_load (ty := 23) (x := .tmp 4) rfl ?_); refine jload ?_ 23 (.tmp 4) rfl (w.heap.size) 0 23 #[.int .i64 p.base, .int .i64 p.most, .int .i64 p.life, .int .i64 p.warn] #[.int .i64 p.base, .int .i64 p.most, .int .i64 p.life, .int .i64 p.warn] _ rfl HB.out.pb Try.underlying23 rfl jsize_plan (fun j _ => by rw [Nat.zero_add]) ?_; (focus (first | rfl | (go_simp; done)))))
  refine (HRG.out _).mono ?_
  rintro e w1 ⟨rfl, hb⟩
  have HB1 := Lib.hid (HB.out.next hb)
  clear hb HB
  rw [hp]
  simp only [Bool.false_eq_true, if_false]
  go_wp2_with fail
  go_ret
  exact ⟨rfl, HB1.out.below⟩
set_option maxHeartbeats 16000000 in
theorem may_x2 (p : PJ) (x : EM) (vr vl : Value) (t : ST) (now : Int) (w : World) (hE : EAt w x vr vl) (hn : x.rc.length ≤ 1000000) (hp : okP p = true) (hk : inI now 0 1099511627776 = false) : Calls Try.prog 15 #[.agg #[.int .i64 p.base, .int .i64 p.most, .int .i64 p.life, .int .i64 p.warn], .agg #[.int .i64 x.id, .int .i64 x.at_, .int .i64 x.rel, .string (mkS x.fr.1), .string (mkS x.fr.2), .bool x.m.hs, .bool x.m.hf, .bool x.m.hu, .bool x.m.hb, .bool x.m.hp, .int .i64 x.m.sz, .int .i64 x.m.fo, .int .i64 x.m.un, .int .i64 x.m.by_, .int .i64 x.m.pr, .string (mkS x.m.body), .string (mkS x.m.ret), .string (mkS x.m.env), .string (mkS x.m.mode), vr, vl], .agg #[.int .i64 t.pl, .string (mkS t.st), .int .i64 t.tr, .int .i64 t.ne, .int .i64 t.told], .int .i64 now] w fun e w' => e = .returned (.int .i64 (mayJ p x t now)) ∧ Below w.heap.size w w' := by
  rw [may_2 hp hk]
  have HB := Lib.hid (XB.new w p x vr vl t)
  have HRG := Lib.hid (fun w => jright_x p w)
  have HW1 := Lib.hid (fun w => jwithin_x now 0 1099511627776 w)
  have HW2 := Lib.hid (fun w => jwithin_x t.pl 0 ((x.rc.length : Int) - 1) w)
  have e1 : ((mkS t.st).toList == [82]) = (t.st == [82]) := by rw [mkS_toList]
  obtain ⟨ra, rcap, rfl, _, _, _⟩ := hE.rc
  have q1 : IntKind.i64.wrap ((x.rc.length : Int) - 1) = (x.rc.length : Int) - 1 := IntWalk.i64_in _ (by omega)
  clear hE hn
  go_enter Try.func15, Try.ntmps15
  go_wp2_with (first | ((with_reducible refine jis_load (ty := 23) (x := .tmp 4) rfl ?_); refine jload ?_ 23 (.tmp 4) rfl (w.heap.size) 0 23 #[.int .i64 p.base, .int .i64 p.most, .int .i64 p.life, .int .i64 p.warn] #[.int .i64 p.base, .int .i64 p.most, .int .i64 p.life, .int .i64 p.warn] _ rfl HB.out.pb Try.underlying23 rfl jsize_plan (fun j _ => by rw [Nat.zero_add]) ?_; (focus (first | rfl | (go_simp; done)))))
  refine (HRG.out _).mono ?_
  rintro e w1 ⟨rfl, hb⟩
  have HB1 := Lib.hid (HB.out.next hb)
  clear hb HB
  rw [hp]
  simp only [if_true]
  go_wp2_with fail
  refine (HW1.out _).mono ?_
  rintro e w1' ⟨rfl, rfl⟩
  rw [hk]
  have c1 : w1.cell? ⟨w.heap.size + 1 + 1, 1, none⟩ = some (.string (mkS t.st)) := cellOf HB1.out.tb 1
  have c0 : w1.cell? ⟨w.heap.size + 1 + 1, 0, none⟩ = some (.int .i64 t.pl) := cellOf HB1.out.tb 0
  have c5 : w1.cell? ⟨w.heap.size + 1, 19, none⟩ = some (.slice ra x.rc.length rcap) := cellOf HB1.out.mb 19
  go_wp2_with fail
  go_ret
  exact ⟨rfl, HB1.out.below⟩
set_option maxHeartbeats 16000000 in
theorem may_x3 (p : PJ) (x : EM) (vr vl : Value) (t : ST) (now : Int) (w : World) (hE : EAt w x vr vl) (hn : x.rc.length ≤ 1000000) (hp : okP p = true) (hk : inI now 0 1099511627776 = true) (hs : (t.st == [82]) = false) : Calls Try.prog 15 #[.agg #[.int .i64 p.base, .int .i64 p.most, .int .i64 p.life, .int .i64 p.warn], .agg #[.int .i64 x.id, .int .i64 x.at_, .int .i64 x.rel, .string (mkS x.fr.1), .string (mkS x.fr.2), .bool x.m.hs, .bool x.m.hf, .bool x.m.hu, .bool x.m.hb, .bool x.m.hp, .int .i64 x.m.sz, .int .i64 x.m.fo, .int .i64 x.m.un, .int .i64 x.m.by_, .int .i64 x.m.pr, .string (mkS x.m.body), .string (mkS x.m.ret), .string (mkS x.m.env), .string (mkS x.m.mode), vr, vl], .agg #[.int .i64 t.pl, .string (mkS t.st), .int .i64 t.tr, .int .i64 t.ne, .int .i64 t.told], .int .i64 now] w fun e w' => e = .returned (.int .i64 (mayJ p x t now)) ∧ Below w.heap.size w w' := by
  rw [may_3 hp hk hs]
  have HB := Lib.hid (XB.new w p x vr vl t)
  have HRG := Lib.hid (fun w => jright_x p w)
  have HW1 := Lib.hid (fun w => jwithin_x now 0 1099511627776 w)
  have HW2 := Lib.hid (fun w => jwithin_x t.pl 0 ((x.rc.length : Int) - 1) w)
  have e1 : ((mkS t.st).toList == [82]) = (t.st == [82]) := by rw [mkS_toList]
  obtain ⟨ra, rcap, rfl, _, _, _⟩ := hE.rc
  have q1 : IntKind.i64.wrap ((x.rc.length : Int) - 1) = (x.rc.length : Int) - 1 := IntWalk.i64_in _ (by omega)
  clear hE hn
  rw [hs] at e1
  go_enter Try.func15, Try.ntmps15
  go_wp2_with (first | ((with_reducible refine jis_load (ty := 23) (x := .tmp 4) rfl ?_); refine jload ?_ 23 (.tmp 4) rfl (w.heap.size) 0 23 #[.int .i64 p.base, .int .i64 p.most, .int .i64 p.life, .int .i64 p.warn] #[.int .i64 p.base, .int .i64 p.most, .int .i64 p.life, .int .i64 p.warn] _ rfl HB.out.pb Try.underlying23 rfl jsize_plan (fun j _ => by rw [Nat.zero_add]) ?_; (focus (first | rfl | (go_simp; done)))))
  refine (HRG.out _).mono ?_
  rintro e w1 ⟨rfl, hb⟩
  have HB1 := Lib.hid (HB.out.next hb)
  clear hb HB
  rw [hp]
  simp only [if_true]
  go_wp2_with fail
  refine (HW1.out _).mono ?_
  rintro e w1' ⟨rfl, rfl⟩
  rw [hk]
  have c1 : w1.cell? ⟨w.heap.size + 1 + 1, 1, none⟩ = some (.string (mkS t.st)) := cellOf HB1.out.tb 1
  have c0 : w1.cell? ⟨w.heap.size + 1 + 1, 0, none⟩ = some (.int .i64 t.pl) := cellOf HB1.out.tb 0
  have c5 : w1.cell? ⟨w.heap.size + 1, 19, none⟩ = some (.slice ra x.rc.length rcap) := cellOf HB1.out.mb 19
  go_wp2_with fail
  go_ret
  exact ⟨rfl, HB1.out.below⟩
set_option maxHeartbeats 16000000 in
theorem may_x4 (p : PJ) (x : EM) (vr vl : Value) (t : ST) (now : Int) (w : World) (hE : EAt w x vr vl) (hn : x.rc.length ≤ 1000000) (hp : okP p = true) (hk : inI now 0 1099511627776 = true) (hs : (t.st == [82]) = true) (hi : inI t.pl 0 ((x.rc.length : Int) - 1) = false) : Calls Try.prog 15 #[.agg #[.int .i64 p.base, .int .i64 p.most, .int .i64 p.life, .int .i64 p.warn], .agg #[.int .i64 x.id, .int .i64 x.at_, .int .i64 x.rel, .string (mkS x.fr.1), .string (mkS x.fr.2), .bool x.m.hs, .bool x.m.hf, .bool x.m.hu, .bool x.m.hb, .bool x.m.hp, .int .i64 x.m.sz, .int .i64 x.m.fo, .int .i64 x.m.un, .int .i64 x.m.by_, .int .i64 x.m.pr, .string (mkS x.m.body), .string (mkS x.m.ret), .string (mkS x.m.env), .string (mkS x.m.mode), vr, vl], .agg #[.int .i64 t.pl, .string (mkS t.st), .int .i64 t.tr, .int .i64 t.ne, .int .i64 t.told], .int .i64 now] w fun e w' => e = .returned (.int .i64 (mayJ p x t now)) ∧ Below w.heap.size w w' := by
  rw [may_4 hp hk hs hi]
  have HB := Lib.hid (XB.new w p x vr vl t)
  have HRG := Lib.hid (fun w => jright_x p w)
  have HW1 := Lib.hid (fun w => jwithin_x now 0 1099511627776 w)
  have HW2 := Lib.hid (fun w => jwithin_x t.pl 0 ((x.rc.length : Int) - 1) w)
  have e1 : ((mkS t.st).toList == [82]) = (t.st == [82]) := by rw [mkS_toList]
  obtain ⟨ra, rcap, rfl, _, _, _⟩ := hE.rc
  have q1 : IntKind.i64.wrap ((x.rc.length : Int) - 1) = (x.rc.length : Int) - 1 := IntWalk.i64_in _ (by omega)
  clear hE hn
  rw [hs] at e1
  go_enter Try.func15, Try.ntmps15
  go_wp2_with (first | ((with_reducible refine jis_load (ty := 23) (x := .tmp 4) rfl ?_); refine jload ?_ 23 (.tmp 4) rfl (w.heap.size) 0 23 #[.int .i64 p.base, .int .i64 p.most, .int .i64 p.life, .int .i64 p.warn] #[.int .i64 p.base, .int .i64 p.most, .int .i64 p.life, .int .i64 p.warn] _ rfl HB.out.pb Try.underlying23 rfl jsize_plan (fun j _ => by rw [Nat.zero_add]) ?_; (focus (first | rfl | (go_simp; done)))))
  refine (HRG.out _).mono ?_
  rintro e w1 ⟨rfl, hb⟩
  have HB1 := Lib.hid (HB.out.next hb)
  clear hb HB
  rw [hp]
  simp only [if_true]
  go_wp2_with fail
  refine (HW1.out _).mono ?_
  rintro e w1' ⟨rfl, rfl⟩
  rw [hk]
  have c1 : w1.cell? ⟨w.heap.size + 1 + 1, 1, none⟩ = some (.string (mkS t.st)) := cellOf HB1.out.tb 1
  have c0 : w1.cell? ⟨w.heap.size + 1 + 1, 0, none⟩ = some (.int .i64 t.pl) := cellOf HB1.out.tb 0
  have c5 : w1.cell? ⟨w.heap.size + 1, 19, none⟩ = some (.slice ra x.rc.length rcap) := cellOf HB1.out.mb 19
  go_wp2_with fail
  refine (HW2.out _).mono ?_
  rintro e w1'' ⟨rfl, rfl⟩
  rw [hi]
  go_wp2_with fail
  go_ret
  exact ⟨rfl, HB1.out.below⟩
set_option maxHeartbeats 16000000 in
theorem may_x5 (p : PJ) (x : EM) (vr vl : Value) (t : ST) (now : Int) (w : World) (hE : EAt w x vr vl) (hn : x.rc.length ≤ 1000000) (hp : okP p = true) (hk : inI now 0 1099511627776 = true) (hs : (t.st == [82]) = true) (hi : inI t.pl 0 ((x.rc.length : Int) - 1) = true) : Calls Try.prog 15 #[.agg #[.int .i64 p.base, .int .i64 p.most, .int .i64 p.life, .int .i64 p.warn], .agg #[.int .i64 x.id, .int .i64 x.at_, .int .i64 x.rel, .string (mkS x.fr.1), .string (mkS x.fr.2), .bool x.m.hs, .bool x.m.hf, .bool x.m.hu, .bool x.m.hb, .bool x.m.hp, .int .i64 x.m.sz, .int .i64 x.m.fo, .int .i64 x.m.un, .int .i64 x.m.by_, .int .i64 x.m.pr, .string (mkS x.m.body), .string (mkS x.m.ret), .string (mkS x.m.env), .string (mkS x.m.mode), vr, vl], .agg #[.int .i64 t.pl, .string (mkS t.st), .int .i64 t.tr, .int .i64 t.ne, .int .i64 t.told], .int .i64 now] w fun e w' => e = .returned (.int .i64 (mayJ p x t now)) ∧ Below w.heap.size w w' := by
  rw [may_5 hp hk hs hi]
  have HB := Lib.hid (XB.new w p x vr vl t)
  have HRG := Lib.hid (fun w => jright_x p w)
  have HW1 := Lib.hid (fun w => jwithin_x now 0 1099511627776 w)
  have HW2 := Lib.hid (fun w => jwithin_x t.pl 0 ((x.rc.length : Int) - 1) w)
  have e1 : ((mkS t.st).toList == [82]) = (t.st == [82]) := by rw [mkS_toList]
  obtain ⟨ra, rcap, rfl, _, _, _⟩ := hE.rc
  have q1 : IntKind.i64.wrap ((x.rc.length : Int) - 1) = (x.rc.length : Int) - 1 := IntWalk.i64_in _ (by omega)
  clear hE hn
  rw [hs] at e1
  go_enter Try.func15, Try.ntmps15
  go_wp2_with (first | ((with_reducible refine jis_load (ty := 23) (x := .tmp 4) rfl ?_); refine jload ?_ 23 (.tmp 4) rfl (w.heap.size) 0 23 #[.int .i64 p.base, .int .i64 p.most, .int .i64 p.life, .int .i64 p.warn] #[.int .i64 p.base, .int .i64 p.most, .int .i64 p.life, .int .i64 p.warn] _ rfl HB.out.pb Try.underlying23 rfl jsize_plan (fun j _ => by rw [Nat.zero_add]) ?_; (focus (first | rfl | (go_simp; done)))))
  refine (HRG.out _).mono ?_
  rintro e w1 ⟨rfl, hb⟩
  have HB1 := Lib.hid (HB.out.next hb)
  clear hb HB
  rw [hp]
  simp only [if_true]
  go_wp2_with fail
  refine (HW1.out _).mono ?_
  rintro e w1' ⟨rfl, rfl⟩
  rw [hk]
  have c1 : w1.cell? ⟨w.heap.size + 1 + 1, 1, none⟩ = some (.string (mkS t.st)) := cellOf HB1.out.tb 1
  have c0 : w1.cell? ⟨w.heap.size + 1 + 1, 0, none⟩ = some (.int .i64 t.pl) := cellOf HB1.out.tb 0
  have c5 : w1.cell? ⟨w.heap.size + 1, 19, none⟩ = some (.slice ra x.rc.length rcap) := cellOf HB1.out.mb 19
  go_wp2_with fail
  refine (HW2.out _).mono ?_
  rintro e w1'' ⟨rfl, rfl⟩
  rw [hi]
  go_wp2_with fail
  go_ret
  exact ⟨rfl, HB1.out.below⟩
set_option maxHeartbeats 4000000 in
theorem may_x (p : PJ) (x : EM) (vr vl : Value) (t : ST) (now : Int) (w : World) (hE : EAt w x vr vl) (hn : x.rc.length ≤ 1000000) : Calls Try.prog 15 #[.agg #[.int .i64 p.base, .int .i64 p.most, .int .i64 p.life, .int .i64 p.warn], .agg #[.int .i64 x.id, .int .i64 x.at_, .int .i64 x.rel, .string (mkS x.fr.1), .string (mkS x.fr.2), .bool x.m.hs, .bool x.m.hf, .bool x.m.hu, .bool x.m.hb, .bool x.m.hp, .int .i64 x.m.sz, .int .i64 x.m.fo, .int .i64 x.m.un, .int .i64 x.m.by_, .int .i64 x.m.pr, .string (mkS x.m.body), .string (mkS x.m.ret), .string (mkS x.m.env), .string (mkS x.m.mode), vr, vl], .agg #[.int .i64 t.pl, .string (mkS t.st), .int .i64 t.tr, .int .i64 t.ne, .int .i64 t.told], .int .i64 now] w fun e w' => e = .returned (.int .i64 (mayJ p x t now)) ∧ Below w.heap.size w w' := by
  cases hp : okP p with
  | false => exact may_x1 p x vr vl t now w hE hn hp
  | true =>
    cases hk : inI now 0 1099511627776 with
    | false => exact may_x2 p x vr vl t now w hE hn hp hk
    | true =>
      cases hs : t.st == [82] with
      | false => exact may_x3 p x vr vl t now w hE hn hp hk hs
      | true =>
        cases hi : inI t.pl 0 ((x.rc.length : Int) - 1) with
        | false => exact may_x4 p x vr vl t now w hE hn hp hk hs hi
        | true => exact may_x5 p x vr vl t now w hE hn hp hk hs hi
theorem may_ok {p : PJ} {x : EM} {t : ST} {now : Int} (h : mayJ p x t now = 0) : okP p = true ∧ (0 ≤ now ∧ now ≤ 1099511627776) ∧ t.st = [82] ∧ 0 ≤ t.pl ∧ t.pl < x.rc.length := by
  unfold mayJ at h
  split at h
  · cases h
  · rename_i h1
    split at h
    · cases h
    · rename_i h2
      simp only [Bool.not_eq_false, Bool.and_eq_true, inI_iff, beq_iff_eq] at h1 h2
      exact ⟨h1.1, h1.2, h2.1, h2.2.1, by omega⟩
end Go.Proofs.Ytpgbojpeffilmaa.E.J
