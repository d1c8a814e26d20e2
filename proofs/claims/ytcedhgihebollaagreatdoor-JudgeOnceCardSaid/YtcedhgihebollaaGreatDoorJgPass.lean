/-
  The walk of pass.
-/
import Derived.Test.YtcedhgihebollaaGreatDoorJgRep
namespace Go.Proofs.YtcedhgihebollaaGreatDoor.E.J
set_option maxRecDepth 100000
open Go.RowKit Go.Shelf
abbrev clA (b1 b2 b3 b4 : Nat) : Value := .func (.func 36) #[] #[.pointer (some ⟨b1, 0, none⟩), .pointer (some ⟨b2, 0, none⟩), .pointer (some ⟨b3, 0, none⟩), .pointer (some ⟨b4, 0, none⟩)]
set_option maxHeartbeats 16000000 in
theorem pass_n1 (W : World) (p : PJ) (x : EM) (vr vl : Value) (no : Txt) (bt bm b1 b2 b3 b4 : Nat) (t : ST) (now : Int) (w : World) (hp : okP p = true) (hx : BdJ x) (hT : TB W bt bm t jnil [] w) (hR : RP x vr vl no bt bm b1 b2 b3 b4 w) (h0 : 0 ≤ t.told) (h7 : t.told ≤ 7) (hhb : x.m.hb = false) (hex : decide (expJ p x ≤ now) = true) (T2 : ST) (L2 : List Txt) (hT2 : T2 = repT x no kF false { t with st := [70] }) (hL2 : L2 = repL x no kF false { t with st := [70] }) :
    Calls Tryz.prog 26 #[.agg #[.int .i64 p.base, .int .i64 p.most, .int .i64 p.life, .int .i64 p.warn], .agg #[.int .i64 x.id, .int .i64 x.at_, .int .i64 x.rel, .string (mkS x.fr.1), .string (mkS x.fr.2), .bool x.m.hs, .bool x.m.hf, .bool x.m.hu, .bool x.m.hb, .bool x.m.hp, .int .i64 x.m.sz, .int .i64 x.m.fo, .int .i64 x.m.un, .int .i64 x.m.by_, .int .i64 x.m.pr, .string (mkS x.m.body), .string (mkS x.m.ret), .string (mkS x.m.env), .string (mkS x.m.mode), vr, vl], .pointer (some ⟨bt, 0, none⟩), .int .i64 now, .func (.func 36) #[] #[.pointer (some ⟨b1, 0, none⟩), .pointer (some ⟨b2, 0, none⟩), .pointer (some ⟨b3, 0, none⟩), .pointer (some ⟨b4, 0, none⟩)]] w (PsPost W bt bm T2 L2 w) := by
  have HB := Lib.hid (PB.new w p x vr vl)
  have HDL := Lib.hid (fun w => deadline_x x vr vl w hx)
  have HEX := Lib.hid (fun w => expires_x p x vr vl w hp hx)
  have HWA := Lib.hid (fun w => warned_x p x vr vl w hp hx)
  have HRT := Lib.hid (fun w => returned_x x.m w)
  have HTB := Lib.hid (fun w' (h : Below w.heap.size w w') => hT.next h)
  have HRP := Lib.hid (fun w' (h : Below w.heap.size w w') => hR.next h)
  have HGO := Lib.hid (fun (k : KJ) (hk : kindB4 k) (f : Bool) (sn : ByteArray) (hsn : sn = mkS k.name) (t2 : ST) (e2 : t2.told = t.told) (w1 : World) (g1 : TB W bt bm t2 jnil [] w1) (g2 : RP x vr vl no bt bm b1 b2 b3 b4 w1) => report_x W x vr vl no bt bm b1 b2 b3 b4 t2 k f sn w1 hk hsn g1 g2 (by rw [e2]; exact h0) (by rw [e2]; exact h7))
  have HH2 := Lib.hid (And.intro hT2 hL2)
  clear hp hx hT hR h0 h7 hT2 hL2
  unfold dlV at HDL
  rw [hhb] at HDL
  simp only [Bool.false_eq_true, if_false] at HDL
  clear hhb
  go_enter Tryz.func26, Tryz.ntmps26
  go_wp2_with (first | ((with_reducible refine jis_load (ty := 33) (x := .tmp 6) rfl ?_); refine jload ?_ 33 (.tmp 6) rfl ((w.heap.size + 1)) 0 33 (EC x vr vl) (EC x vr vl) _ rfl HB.out.mb Tryz.underlying33 rfl size_msg (fun j _ => by rw [Nat.zero_add]) ?_; (focus (first | rfl | (go_simp; done)))))
  refine (HDL.out _).mono ?_
  rintro e w1 ⟨rfl, hb⟩
  have HB1 := Lib.hid (HB.out.next hb)
  clear hb HB
  go_wp2_with (first | ((with_reducible refine jis_load (ty := 23) (x := .tmp 5) rfl ?_); refine jload ?_ 23 (.tmp 5) rfl (w.heap.size) 0 23 #[.int .i64 p.base, .int .i64 p.most, .int .i64 p.life, .int .i64 p.warn] #[.int .i64 p.base, .int .i64 p.most, .int .i64 p.life, .int .i64 p.warn] _ rfl HB1.out.pb Tryz.underlying23 rfl jsize_plan (fun j _ => by rw [Nat.zero_add]) ?_; (focus (first | rfl | (go_simp; done)))) | ((with_reducible refine jis_load (ty := 33) (x := .tmp 6) rfl ?_); refine jload ?_ 33 (.tmp 6) rfl ((w.heap.size + 1)) 0 33 (EC x vr vl) (EC x vr vl) _ rfl HB1.out.mb Tryz.underlying33 rfl size_msg (fun j _ => by rw [Nat.zero_add]) ?_; (focus (first | rfl | (go_simp; done)))))
  refine (HEX.out _).mono ?_
  rintro e w2 ⟨rfl, hb⟩
  have HB2 := Lib.hid (HB1.out.next hb)
  clear hb
  have hTz := HTB.out _ HB2.out.below
  have hRz := HRP.out _ HB2.out.below
  have c1 := freeOf hTz.t_ 1
  have c2 : w2.cell? ⟨bt, 1, none⟩ = some (.string (mkS t.st)) := cellOf hTz.t_ 1
  have e4 : (TC t).setIfInBounds 1 (.string { data := #[70] }) = TC { t with st := [70] } := rfl
  have HTy := Lib.hid (hTz.set 1 (.string { data := #[70] }) e4)
  have HFy := Lib.hid (F2.set1 bt bm w2 1 (.string { data := #[70] }))
  have HRy := Lib.hid (hRz.f2 hTz.t_ hTz.m_ HFy.out)
  clear hTz hRz e4
  go_wp2_with fail
  refine (HGO.out kF (.inr (.inl rfl)) false { data := #[102, 97, 105, 108, 101, 100] } rfl { t with st := [70] } rfl _ HTy.out HRy.out).mono ?_
  rintro e w9 ⟨rfl, v', hz, hf⟩
  have HE := Lib.hid (show PsPost W bt bm T2 L2 w (.returned (.tuple #[])) w9 by rw [HH2.out.1, HH2.out.2]; exact ⟨rfl, v', hz, (F2.of HB2.out.below).trans (HFy.out.trans hf)⟩)
  clear hz hf
  go_wp2_with fail
  go_end0
  exact HE.out

set_option maxHeartbeats 16000000 in
theorem pass_n2 (W : World) (p : PJ) (x : EM) (vr vl : Value) (no : Txt) (bt bm b1 b2 b3 b4 : Nat) (t : ST) (now : Int) (w : World) (hp : okP p = true) (hx : BdJ x) (hT : TB W bt bm t jnil [] w) (hR : RP x vr vl no bt bm b1 b2 b3 b4 w) (h0 : 0 ≤ t.told) (h7 : t.told ≤ 7) (hhb : x.m.hb = false) (hex : decide (expJ p x ≤ now) = false) (hwa : decide (warJ p x ≤ now) = true) (T2 : ST) (L2 : List Txt) (hT2 : T2 = repT x no kD false t) (hL2 : L2 = repL x no kD false t) :
    Calls Tryz.prog 26 #[.agg #[.int .i64 p.base, .int .i64 p.most, .int .i64 p.life, .int .i64 p.warn], .agg #[.int .i64 x.id, .int .i64 x.at_, .int .i64 x.rel, .string (mkS x.fr.1), .string (mkS x.fr.2), .bool x.m.hs, .bool x.m.hf, .bool x.m.hu, .bool x.m.hb, .bool x.m.hp, .int .i64 x.m.sz, .int .i64 x.m.fo, .int .i64 x.m.un, .int .i64 x.m.by_, .int .i64 x.m.pr, .string (mkS x.m.body), .string (mkS x.m.ret), .string (mkS x.m.env), .string (mkS x.m.mode), vr, vl], .pointer (some ⟨bt, 0, none⟩), .int .i64 now, .func (.func 36) #[] #[.pointer (some ⟨b1, 0, none⟩), .pointer (some ⟨b2, 0, none⟩), .pointer (some ⟨b3, 0, none⟩), .pointer (some ⟨b4, 0, none⟩)]] w (PsPost W bt bm T2 L2 w) := by
  have HB := Lib.hid (PB.new w p x vr vl)
  have HDL := Lib.hid (fun w => deadline_x x vr vl w hx)
  have HEX := Lib.hid (fun w => expires_x p x vr vl w hp hx)
  have HWA := Lib.hid (fun w => warned_x p x vr vl w hp hx)
  have HRT := Lib.hid (fun w => returned_x x.m w)
  have HTB := Lib.hid (fun w' (h : Below w.heap.size w w') => hT.next h)
  have HRP := Lib.hid (fun w' (h : Below w.heap.size w w') => hR.next h)
  have HGO := Lib.hid (fun (k : KJ) (hk : kindB4 k) (f : Bool) (sn : ByteArray) (hsn : sn = mkS k.name) (t2 : ST) (e2 : t2.told = t.told) (w1 : World) (g1 : TB W bt bm t2 jnil [] w1) (g2 : RP x vr vl no bt bm b1 b2 b3 b4 w1) => report_x W x vr vl no bt bm b1 b2 b3 b4 t2 k f sn w1 hk hsn g1 g2 (by rw [e2]; exact h0) (by rw [e2]; exact h7))
  have HH2 := Lib.hid (And.intro hT2 hL2)
  clear hp hx hT hR h0 h7 hT2 hL2
  unfold dlV at HDL
  rw [hhb] at HDL
  simp only [Bool.false_eq_true, if_false] at HDL
  clear hhb
  go_enter Tryz.func26, Tryz.ntmps26
  go_wp2_with (first | ((with_reducible refine jis_load (ty := 33) (x := .tmp 6) rfl ?_); refine jload ?_ 33 (.tmp 6) rfl ((w.heap.size + 1)) 0 33 (EC x vr vl) (EC x vr vl) _ rfl HB.out.mb Tryz.underlying33 rfl size_msg (fun j _ => by rw [Nat.zero_add]) ?_; (focus (first | rfl | (go_simp; done)))))
  refine (HDL.out _).mono ?_
  rintro e w1 ⟨rfl, hb⟩
  have HB1 := Lib.hid (HB.out.next hb)
  clear hb HB
  go_wp2_with (first | ((with_reducible refine jis_load (ty := 23) (x := .tmp 5) rfl ?_); refine jload ?_ 23 (.tmp 5) rfl (w.heap.size) 0 23 #[.int .i64 p.base, .int .i64 p.most, .int .i64 p.life, .int .i64 p.warn] #[.int .i64 p.base, .int .i64 p.most, .int .i64 p.life, .int .i64 p.warn] _ rfl HB1.out.pb Tryz.underlying23 rfl jsize_plan (fun j _ => by rw [Nat.zero_add]) ?_; (focus (first | rfl | (go_simp; done)))) | ((with_reducible refine jis_load (ty := 33) (x := .tmp 6) rfl ?_); refine jload ?_ 33 (.tmp 6) rfl ((w.heap.size + 1)) 0 33 (EC x vr vl) (EC x vr vl) _ rfl HB1.out.mb Tryz.underlying33 rfl size_msg (fun j _ => by rw [Nat.zero_add]) ?_; (focus (first | rfl | (go_simp; done)))))
  refine (HEX.out _).mono ?_
  rintro e w2 ⟨rfl, hb⟩
  have HB2 := Lib.hid (HB1.out.next hb)
  clear hb
  go_wp2_with (first | ((with_reducible refine jis_load (ty := 23) (x := .tmp 5) rfl ?_); refine jload ?_ 23 (.tmp 5) rfl (w.heap.size) 0 23 #[.int .i64 p.base, .int .i64 p.most, .int .i64 p.life, .int .i64 p.warn] #[.int .i64 p.base, .int .i64 p.most, .int .i64 p.life, .int .i64 p.warn] _ rfl HB2.out.pb Tryz.underlying23 rfl jsize_plan (fun j _ => by rw [Nat.zero_add]) ?_; (focus (first | rfl | (go_simp; done)))) | ((with_reducible refine jis_load (ty := 33) (x := .tmp 6) rfl ?_); refine jload ?_ 33 (.tmp 6) rfl ((w.heap.size + 1)) 0 33 (EC x vr vl) (EC x vr vl) _ rfl HB2.out.mb Tryz.underlying33 rfl size_msg (fun j _ => by rw [Nat.zero_add]) ?_; (focus (first | rfl | (go_simp; done)))))
  refine (HWA.out _).mono ?_
  rintro e w3 ⟨rfl, hb⟩
  have HB3 := Lib.hid (HB2.out.next hb)
  clear hb
  have HTz := Lib.hid (HTB.out _ HB3.out.below)
  have HRz := Lib.hid (HRP.out _ HB3.out.below)
  go_wp2_with fail
  refine (HGO.out kD (.inl rfl) false { data := #[100, 101, 108, 97, 121, 101, 100] } rfl t rfl _ HTz.out HRz.out).mono ?_
  rintro e w9 ⟨rfl, v', hz, hf⟩
  have HE := Lib.hid (show PsPost W bt bm T2 L2 w (.returned (.tuple #[])) w9 by rw [HH2.out.1, HH2.out.2]; exact ⟨rfl, v', hz, (F2.of HB3.out.below).trans hf⟩)
  clear hz hf
  go_wp2_with fail
  go_end0
  exact HE.out

set_option maxHeartbeats 16000000 in
theorem pass_n3 (W : World) (p : PJ) (x : EM) (vr vl : Value) (no : Txt) (bt bm b1 b2 b3 b4 : Nat) (t : ST) (now : Int) (w : World) (hp : okP p = true) (hx : BdJ x) (hT : TB W bt bm t jnil [] w) (hR : RP x vr vl no bt bm b1 b2 b3 b4 w) (h0 : 0 ≤ t.told) (h7 : t.told ≤ 7) (hhb : x.m.hb = false) (hex : decide (expJ p x ≤ now) = false) (hwa : decide (warJ p x ≤ now) = false) (T2 : ST) (L2 : List Txt) (hT2 : T2 = t) (hL2 : L2 = []) :
    Calls Tryz.prog 26 #[.agg #[.int .i64 p.base, .int .i64 p.most, .int .i64 p.life, .int .i64 p.warn], .agg #[.int .i64 x.id, .int .i64 x.at_, .int .i64 x.rel, .string (mkS x.fr.1), .string (mkS x.fr.2), .bool x.m.hs, .bool x.m.hf, .bool x.m.hu, .bool x.m.hb, .bool x.m.hp, .int .i64 x.m.sz, .int .i64 x.m.fo, .int .i64 x.m.un, .int .i64 x.m.by_, .int .i64 x.m.pr, .string (mkS x.m.body), .string (mkS x.m.ret), .string (mkS x.m.env), .string (mkS x.m.mode), vr, vl], .pointer (some ⟨bt, 0, none⟩), .int .i64 now, .func (.func 36) #[] #[.pointer (some ⟨b1, 0, none⟩), .pointer (some ⟨b2, 0, none⟩), .pointer (some ⟨b3, 0, none⟩), .pointer (some ⟨b4, 0, none⟩)]] w (PsPost W bt bm T2 L2 w) := by
  have HB := Lib.hid (PB.new w p x vr vl)
  have HDL := Lib.hid (fun w => deadline_x x vr vl w hx)
  have HEX := Lib.hid (fun w => expires_x p x vr vl w hp hx)
  have HWA := Lib.hid (fun w => warned_x p x vr vl w hp hx)
  have HRT := Lib.hid (fun w => returned_x x.m w)
  have HTB := Lib.hid (fun w' (h : Below w.heap.size w w') => hT.next h)
  have HRP := Lib.hid (fun w' (h : Below w.heap.size w w') => hR.next h)
  have HGO := Lib.hid (fun (k : KJ) (hk : kindB4 k) (f : Bool) (sn : ByteArray) (hsn : sn = mkS k.name) (t2 : ST) (e2 : t2.told = t.told) (w1 : World) (g1 : TB W bt bm t2 jnil [] w1) (g2 : RP x vr vl no bt bm b1 b2 b3 b4 w1) => report_x W x vr vl no bt bm b1 b2 b3 b4 t2 k f sn w1 hk hsn g1 g2 (by rw [e2]; exact h0) (by rw [e2]; exact h7))
  have HH2 := Lib.hid (And.intro hT2 hL2)
  clear hp hx hT hR h0 h7 hT2 hL2
  unfold dlV at HDL
  rw [hhb] at HDL
  simp only [Bool.false_eq_true, if_false] at HDL
  clear hhb
  go_enter Tryz.func26, Tryz.ntmps26
  go_wp2_with (first | ((with_reducible refine jis_load (ty := 33) (x := .tmp 6) rfl ?_); refine jload ?_ 33 (.tmp 6) rfl ((w.heap.size + 1)) 0 33 (EC x vr vl) (EC x vr vl) _ rfl HB.out.mb Tryz.underlying33 rfl size_msg (fun j _ => by rw [Nat.zero_add]) ?_; (focus (first | rfl | (go_simp; done)))))
  refine (HDL.out _).mono ?_
  rintro e w1 ⟨rfl, hb⟩
  have HB1 := Lib.hid (HB.out.next hb)
  clear hb HB
  go_wp2_with (first | ((with_reducible refine jis_load (ty := 23) (x := .tmp 5) rfl ?_); refine jload ?_ 23 (.tmp 5) rfl (w.heap.size) 0 23 #[.int .i64 p.base, .int .i64 p.most, .int .i64 p.life, .int .i64 p.warn] #[.int .i64 p.base, .int .i64 p.most, .int .i64 p.life, .int .i64 p.warn] _ rfl HB1.out.pb Tryz.underlying23 rfl jsize_plan (fun j _ => by rw [Nat.zero_add]) ?_; (focus (first | rfl | (go_simp; done)))) | ((with_reducible refine jis_load (ty := 33) (x := .tmp 6) rfl ?_); refine jload ?_ 33 (.tmp 6) rfl ((w.heap.size + 1)) 0 33 (EC x vr vl) (EC x vr vl) _ rfl HB1.out.mb Tryz.underlying33 rfl size_msg (fun j _ => by rw [Nat.zero_add]) ?_; (focus (first | rfl | (go_simp; done)))))
  refine (HEX.out _).mono ?_
  rintro e w2 ⟨rfl, hb⟩
  have HB2 := Lib.hid (HB1.out.next hb)
  clear hb
  go_wp2_with (first | ((with_reducible refine jis_load (ty := 23) (x := .tmp 5) rfl ?_); refine jload ?_ 23 (.tmp 5) rfl (w.heap.size) 0 23 #[.int .i64 p.base, .int .i64 p.most, .int .i64 p.life, .int .i64 p.warn] #[.int .i64 p.base, .int .i64 p.most, .int .i64 p.life, .int .i64 p.warn] _ rfl HB2.out.pb Tryz.underlying23 rfl jsize_plan (fun j _ => by rw [Nat.zero_add]) ?_; (focus (first | rfl | (go_simp; done)))) | ((with_reducible refine jis_load (ty := 33) (x := .tmp 6) rfl ?_); refine jload ?_ 33 (.tmp 6) rfl ((w.heap.size + 1)) 0 33 (EC x vr vl) (EC x vr vl) _ rfl HB2.out.mb Tryz.underlying33 rfl size_msg (fun j _ => by rw [Nat.zero_add]) ?_; (focus (first | rfl | (go_simp; done)))))
  refine (HWA.out _).mono ?_
  rintro e w3 ⟨rfl, hb⟩
  have HB3 := Lib.hid (HB2.out.next hb)
  clear hb
  have HTz := Lib.hid (HTB.out _ HB3.out.below)
  have HE := Lib.hid (show PsPost W bt bm T2 L2 w (.returned (.tuple #[])) w3 by rw [HH2.out.1, HH2.out.2]; exact ⟨rfl, jnil, HTz.out, F2.of HB3.out.below⟩)
  go_wp2_with fail
  go_end0
  exact HE.out

set_option maxHeartbeats 16000000 in
theorem pass_f1 (W : World) (p : PJ) (x : EM) (vr vl : Value) (no : Txt) (bt bm b1 b2 b3 b4 : Nat) (t : ST) (now : Int) (w : World) (hp : okP p = true) (hx : BdJ x) (hT : TB W bt bm t jnil [] w) (hR : RP x vr vl no bt bm b1 b2 b3 b4 w) (h0 : 0 ≤ t.told) (h7 : t.told ≤ 7) (hhb : x.m.hb = true) (hdl : decide (dlJ x ≤ now) = false) (hex : decide (expJ p x ≤ now) = true) (T2 : ST) (L2 : List Txt) (hT2 : T2 = repT x no kF false { t with st := [70] }) (hL2 : L2 = repL x no kF false { t with st := [70] }) :
    Calls Tryz.prog 26 #[.agg #[.int .i64 p.base, .int .i64 p.most, .int .i64 p.life, .int .i64 p.warn], .agg #[.int .i64 x.id, .int .i64 x.at_, .int .i64 x.rel, .string (mkS x.fr.1), .string (mkS x.fr.2), .bool x.m.hs, .bool x.m.hf, .bool x.m.hu, .bool x.m.hb, .bool x.m.hp, .int .i64 x.m.sz, .int .i64 x.m.fo, .int .i64 x.m.un, .int .i64 x.m.by_, .int .i64 x.m.pr, .string (mkS x.m.body), .string (mkS x.m.ret), .string (mkS x.m.env), .string (mkS x.m.mode), vr, vl], .pointer (some ⟨bt, 0, none⟩), .int .i64 now, .func (.func 36) #[] #[.pointer (some ⟨b1, 0, none⟩), .pointer (some ⟨b2, 0, none⟩), .pointer (some ⟨b3, 0, none⟩), .pointer (some ⟨b4, 0, none⟩)]] w (PsPost W bt bm T2 L2 w) := by
  have HB := Lib.hid (PB.new w p x vr vl)
  have HDL := Lib.hid (fun w => deadline_x x vr vl w hx)
  have HEX := Lib.hid (fun w => expires_x p x vr vl w hp hx)
  have HWA := Lib.hid (fun w => warned_x p x vr vl w hp hx)
  have HRT := Lib.hid (fun w => returned_x x.m w)
  have HTB := Lib.hid (fun w' (h : Below w.heap.size w w') => hT.next h)
  have HRP := Lib.hid (fun w' (h : Below w.heap.size w w') => hR.next h)
  have HGO := Lib.hid (fun (k : KJ) (hk : kindB4 k) (f : Bool) (sn : ByteArray) (hsn : sn = mkS k.name) (t2 : ST) (e2 : t2.told = t.told) (w1 : World) (g1 : TB W bt bm t2 jnil [] w1) (g2 : RP x vr vl no bt bm b1 b2 b3 b4 w1) => report_x W x vr vl no bt bm b1 b2 b3 b4 t2 k f sn w1 hk hsn g1 g2 (by rw [e2]; exact h0) (by rw [e2]; exact h7))
  have HH2 := Lib.hid (And.intro hT2 hL2)
  clear hp hx hT hR h0 h7 hT2 hL2
  unfold dlV at HDL
  rw [hhb] at HDL
  simp only [if_true] at HDL
  clear hhb
  go_enter Tryz.func26, Tryz.ntmps26
  go_wp2_with (first | ((with_reducible refine jis_load (ty := 33) (x := .tmp 6) rfl ?_); refine jload ?_ 33 (.tmp 6) rfl ((w.heap.size + 1)) 0 33 (EC x vr vl) (EC x vr vl) _ rfl HB.out.mb Tryz.underlying33 rfl size_msg (fun j _ => by rw [Nat.zero_add]) ?_; (focus (first | rfl | (go_simp; done)))))
  refine (HDL.out _).mono ?_
  rintro e w1 ⟨rfl, hb⟩
  have HB1 := Lib.hid (HB.out.next hb)
  clear hb HB
  go_wp2_with (first | ((with_reducible refine jis_load (ty := 23) (x := .tmp 5) rfl ?_); refine jload ?_ 23 (.tmp 5) rfl (w.heap.size) 0 23 #[.int .i64 p.base, .int .i64 p.most, .int .i64 p.life, .int .i64 p.warn] #[.int .i64 p.base, .int .i64 p.most, .int .i64 p.life, .int .i64 p.warn] _ rfl HB1.out.pb Tryz.underlying23 rfl jsize_plan (fun j _ => by rw [Nat.zero_add]) ?_; (focus (first | rfl | (go_simp; done)))) | ((with_reducible refine jis_load (ty := 33) (x := .tmp 6) rfl ?_); refine jload ?_ 33 (.tmp 6) rfl ((w.heap.size + 1)) 0 33 (EC x vr vl) (EC x vr vl) _ rfl HB1.out.mb Tryz.underlying33 rfl size_msg (fun j _ => by rw [Nat.zero_add]) ?_; (focus (first | rfl | (go_simp; done)))))
  refine (HEX.out _).mono ?_
  rintro e w2 ⟨rfl, hb⟩
  have HB2 := Lib.hid (HB1.out.next hb)
  clear hb
  have hTz := HTB.out _ HB2.out.below
  have hRz := HRP.out _ HB2.out.below
  have c1 := freeOf hTz.t_ 1
  have c2 : w2.cell? ⟨bt, 1, none⟩ = some (.string (mkS t.st)) := cellOf hTz.t_ 1
  have e4 : (TC t).setIfInBounds 1 (.string { data := #[70] }) = TC { t with st := [70] } := rfl
  have HTy := Lib.hid (hTz.set 1 (.string { data := #[70] }) e4)
  have HFy := Lib.hid (F2.set1 bt bm w2 1 (.string { data := #[70] }))
  have HRy := Lib.hid (hRz.f2 hTz.t_ hTz.m_ HFy.out)
  clear hTz hRz e4
  go_wp2_with fail
  refine (HGO.out kF (.inr (.inl rfl)) false { data := #[102, 97, 105, 108, 101, 100] } rfl { t with st := [70] } rfl _ HTy.out HRy.out).mono ?_
  rintro e w9 ⟨rfl, v', hz, hf⟩
  have HE := Lib.hid (show PsPost W bt bm T2 L2 w (.returned (.tuple #[])) w9 by rw [HH2.out.1, HH2.out.2]; exact ⟨rfl, v', hz, (F2.of HB2.out.below).trans (HFy.out.trans hf)⟩)
  clear hz hf
  go_wp2_with fail
  go_end0
  exact HE.out

set_option maxHeartbeats 16000000 in
theorem pass_f2 (W : World) (p : PJ) (x : EM) (vr vl : Value) (no : Txt) (bt bm b1 b2 b3 b4 : Nat) (t : ST) (now : Int) (w : World) (hp : okP p = true) (hx : BdJ x) (hT : TB W bt bm t jnil [] w) (hR : RP x vr vl no bt bm b1 b2 b3 b4 w) (h0 : 0 ≤ t.told) (h7 : t.told ≤ 7) (hhb : x.m.hb = true) (hdl : decide (dlJ x ≤ now) = false) (hex : decide (expJ p x ≤ now) = false) (hwa : decide (warJ p x ≤ now) = true) (T2 : ST) (L2 : List Txt) (hT2 : T2 = repT x no kD false t) (hL2 : L2 = repL x no kD false t) :
    Calls Tryz.prog 26 #[.agg #[.int .i64 p.base, .int .i64 p.most, .int .i64 p.life, .int .i64 p.warn], .agg #[.int .i64 x.id, .int .i64 x.at_, .int .i64 x.rel, .string (mkS x.fr.1), .string (mkS x.fr.2), .bool x.m.hs, .bool x.m.hf, .bool x.m.hu, .bool x.m.hb, .bool x.m.hp, .int .i64 x.m.sz, .int .i64 x.m.fo, .int .i64 x.m.un, .int .i64 x.m.by_, .int .i64 x.m.pr, .string (mkS x.m.body), .string (mkS x.m.ret), .string (mkS x.m.env), .string (mkS x.m.mode), vr, vl], .pointer (some ⟨bt, 0, none⟩), .int .i64 now, .func (.func 36) #[] #[.pointer (some ⟨b1, 0, none⟩), .pointer (some ⟨b2, 0, none⟩), .pointer (some ⟨b3, 0, none⟩), .pointer (some ⟨b4, 0, none⟩)]] w (PsPost W bt bm T2 L2 w) := by
  have HB := Lib.hid (PB.new w p x vr vl)
  have HDL := Lib.hid (fun w => deadline_x x vr vl w hx)
  have HEX := Lib.hid (fun w => expires_x p x vr vl w hp hx)
  have HWA := Lib.hid (fun w => warned_x p x vr vl w hp hx)
  have HRT := Lib.hid (fun w => returned_x x.m w)
  have HTB := Lib.hid (fun w' (h : Below w.heap.size w w') => hT.next h)
  have HRP := Lib.hid (fun w' (h : Below w.heap.size w w') => hR.next h)
  have HGO := Lib.hid (fun (k : KJ) (hk : kindB4 k) (f : Bool) (sn : ByteArray) (hsn : sn = mkS k.name) (t2 : ST) (e2 : t2.told = t.told) (w1 : World) (g1 : TB W bt bm t2 jnil [] w1) (g2 : RP x vr vl no bt bm b1 b2 b3 b4 w1) => report_x W x vr vl no bt bm b1 b2 b3 b4 t2 k f sn w1 hk hsn g1 g2 (by rw [e2]; exact h0) (by rw [e2]; exact h7))
  have HH2 := Lib.hid (And.intro hT2 hL2)
  clear hp hx hT hR h0 h7 hT2 hL2
  unfold dlV at HDL
  rw [hhb] at HDL
  simp only [if_true] at HDL
  clear hhb
  go_enter Tryz.func26, Tryz.ntmps26
  go_wp2_with (first | ((with_reducible refine jis_load (ty := 33) (x := .tmp 6) rfl ?_); refine jload ?_ 33 (.tmp 6) rfl ((w.heap.size + 1)) 0 33 (EC x vr vl) (EC x vr vl) _ rfl HB.out.mb Tryz.underlying33 rfl size_msg (fun j _ => by rw [Nat.zero_add]) ?_; (focus (first | rfl | (go_simp; done)))))
  refine (HDL.out _).mono ?_
  rintro e w1 ⟨rfl, hb⟩
  have HB1 := Lib.hid (HB.out.next hb)
  clear hb HB
  go_wp2_with (first | ((with_reducible refine jis_load (ty := 23) (x := .tmp 5) rfl ?_); refine jload ?_ 23 (.tmp 5) rfl (w.heap.size) 0 23 #[.int .i64 p.base, .int .i64 p.most, .int .i64 p.life, .int .i64 p.warn] #[.int .i64 p.base, .int .i64 p.most, .int .i64 p.life, .int .i64 p.warn] _ rfl HB1.out.pb Tryz.underlying23 rfl jsize_plan (fun j _ => by rw [Nat.zero_add]) ?_; (focus (first | rfl | (go_simp; done)))) | ((with_reducible refine jis_load (ty := 33) (x := .tmp 6) rfl ?_); refine jload ?_ 33 (.tmp 6) rfl ((w.heap.size + 1)) 0 33 (EC x vr vl) (EC x vr vl) _ rfl HB1.out.mb Tryz.underlying33 rfl size_msg (fun j _ => by rw [Nat.zero_add]) ?_; (focus (first | rfl | (go_simp; done)))))
  refine (HEX.out _).mono ?_
  rintro e w2 ⟨rfl, hb⟩
  have HB2 := Lib.hid (HB1.out.next hb)
  clear hb
  go_wp2_with (first | ((with_reducible refine jis_load (ty := 23) (x := .tmp 5) rfl ?_); refine jload ?_ 23 (.tmp 5) rfl (w.heap.size) 0 23 #[.int .i64 p.base, .int .i64 p.most, .int .i64 p.life, .int .i64 p.warn] #[.int .i64 p.base, .int .i64 p.most, .int .i64 p.life, .int .i64 p.warn] _ rfl HB2.out.pb Tryz.underlying23 rfl jsize_plan (fun j _ => by rw [Nat.zero_add]) ?_; (focus (first | rfl | (go_simp; done)))) | ((with_reducible refine jis_load (ty := 33) (x := .tmp 6) rfl ?_); refine jload ?_ 33 (.tmp 6) rfl ((w.heap.size + 1)) 0 33 (EC x vr vl) (EC x vr vl) _ rfl HB2.out.mb Tryz.underlying33 rfl size_msg (fun j _ => by rw [Nat.zero_add]) ?_; (focus (first | rfl | (go_simp; done)))))
  refine (HWA.out _).mono ?_
  rintro e w3 ⟨rfl, hb⟩
  have HB3 := Lib.hid (HB2.out.next hb)
  clear hb
  have HTz := Lib.hid (HTB.out _ HB3.out.below)
  have HRz := Lib.hid (HRP.out _ HB3.out.below)
  go_wp2_with fail
  refine (HGO.out kD (.inl rfl) false { data := #[100, 101, 108, 97, 121, 101, 100] } rfl t rfl _ HTz.out HRz.out).mono ?_
  rintro e w9 ⟨rfl, v', hz, hf⟩
  have HE := Lib.hid (show PsPost W bt bm T2 L2 w (.returned (.tuple #[])) w9 by rw [HH2.out.1, HH2.out.2]; exact ⟨rfl, v', hz, (F2.of HB3.out.below).trans hf⟩)
  clear hz hf
  go_wp2_with fail
  go_end0
  exact HE.out

set_option maxHeartbeats 16000000 in
theorem pass_f3 (W : World) (p : PJ) (x : EM) (vr vl : Value) (no : Txt) (bt bm b1 b2 b3 b4 : Nat) (t : ST) (now : Int) (w : World) (hp : okP p = true) (hx : BdJ x) (hT : TB W bt bm t jnil [] w) (hR : RP x vr vl no bt bm b1 b2 b3 b4 w) (h0 : 0 ≤ t.told) (h7 : t.told ≤ 7) (hhb : x.m.hb = true) (hdl : decide (dlJ x ≤ now) = false) (hex : decide (expJ p x ≤ now) = false) (hwa : decide (warJ p x ≤ now) = false) (T2 : ST) (L2 : List Txt) (hT2 : T2 = t) (hL2 : L2 = []) :
    Calls Tryz.prog 26 #[.agg #[.int .i64 p.base, .int .i64 p.most, .int .i64 p.life, .int .i64 p.warn], .agg #[.int .i64 x.id, .int .i64 x.at_, .int .i64 x.rel, .string (mkS x.fr.1), .string (mkS x.fr.2), .bool x.m.hs, .bool x.m.hf, .bool x.m.hu, .bool x.m.hb, .bool x.m.hp, .int .i64 x.m.sz, .int .i64 x.m.fo, .int .i64 x.m.un, .int .i64 x.m.by_, .int .i64 x.m.pr, .string (mkS x.m.body), .string (mkS x.m.ret), .string (mkS x.m.env), .string (mkS x.m.mode), vr, vl], .pointer (some ⟨bt, 0, none⟩), .int .i64 now, .func (.func 36) #[] #[.pointer (some ⟨b1, 0, none⟩), .pointer (some ⟨b2, 0, none⟩), .pointer (some ⟨b3, 0, none⟩), .pointer (some ⟨b4, 0, none⟩)]] w (PsPost W bt bm T2 L2 w) := by
  have HB := Lib.hid (PB.new w p x vr vl)
  have HDL := Lib.hid (fun w => deadline_x x vr vl w hx)
  have HEX := Lib.hid (fun w => expires_x p x vr vl w hp hx)
  have HWA := Lib.hid (fun w => warned_x p x vr vl w hp hx)
  have HRT := Lib.hid (fun w => returned_x x.m w)
  have HTB := Lib.hid (fun w' (h : Below w.heap.size w w') => hT.next h)
  have HRP := Lib.hid (fun w' (h : Below w.heap.size w w') => hR.next h)
  have HGO := Lib.hid (fun (k : KJ) (hk : kindB4 k) (f : Bool) (sn : ByteArray) (hsn : sn = mkS k.name) (t2 : ST) (e2 : t2.told = t.told) (w1 : World) (g1 : TB W bt bm t2 jnil [] w1) (g2 : RP x vr vl no bt bm b1 b2 b3 b4 w1) => report_x W x vr vl no bt bm b1 b2 b3 b4 t2 k f sn w1 hk hsn g1 g2 (by rw [e2]; exact h0) (by rw [e2]; exact h7))
  have HH2 := Lib.hid (And.intro hT2 hL2)
  clear hp hx hT hR h0 h7 hT2 hL2
  unfold dlV at HDL
  rw [hhb] at HDL
  simp only [if_true] at HDL
  clear hhb
  go_enter Tryz.func26, Tryz.ntmps26
  go_wp2_with (first | ((with_reducible refine jis_load (ty := 33) (x := .tmp 6) rfl ?_); refine jload ?_ 33 (.tmp 6) rfl ((w.heap.size + 1)) 0 33 (EC x vr vl) (EC x vr vl) _ rfl HB.out.mb Tryz.underlying33 rfl size_msg (fun j _ => by rw [Nat.zero_add]) ?_; (focus (first | rfl | (go_simp; done)))))
  refine (HDL.out _).mono ?_
  rintro e w1 ⟨rfl, hb⟩
  have HB1 := Lib.hid (HB.out.next hb)
  clear hb HB
  go_wp2_with (first | ((with_reducible refine jis_load (ty := 23) (x := .tmp 5) rfl ?_); refine jload ?_ 23 (.tmp 5) rfl (w.heap.size) 0 23 #[.int .i64 p.base, .int .i64 p.most, .int .i64 p.life, .int .i64 p.warn] #[.int .i64 p.base, .int .i64 p.most, .int .i64 p.life, .int .i64 p.warn] _ rfl HB1.out.pb Tryz.underlying23 rfl jsize_plan (fun j _ => by rw [Nat.zero_add]) ?_; (focus (first | rfl | (go_simp; done)))) | ((with_reducible refine jis_load (ty := 33) (x := .tmp 6) rfl ?_); refine jload ?_ 33 (.tmp 6) rfl ((w.heap.size + 1)) 0 33 (EC x vr vl) (EC x vr vl) _ rfl HB1.out.mb Tryz.underlying33 rfl size_msg (fun j _ => by rw [Nat.zero_add]) ?_; (focus (first | rfl | (go_simp; done)))))
  refine (HEX.out _).mono ?_
  rintro e w2 ⟨rfl, hb⟩
  have HB2 := Lib.hid (HB1.out.next hb)
  clear hb
  go_wp2_with (first | ((with_reducible refine jis_load (ty := 23) (x := .tmp 5) rfl ?_); refine jload ?_ 23 (.tmp 5) rfl (w.heap.size) 0 23 #[.int .i64 p.base, .int .i64 p.most, .int .i64 p.life, .int .i64 p.warn] #[.int .i64 p.base, .int .i64 p.most, .int .i64 p.life, .int .i64 p.warn] _ rfl HB2.out.pb Tryz.underlying23 rfl jsize_plan (fun j _ => by rw [Nat.zero_add]) ?_; (focus (first | rfl | (go_simp; done)))) | ((with_reducible refine jis_load (ty := 33) (x := .tmp 6) rfl ?_); refine jload ?_ 33 (.tmp 6) rfl ((w.heap.size + 1)) 0 33 (EC x vr vl) (EC x vr vl) _ rfl HB2.out.mb Tryz.underlying33 rfl size_msg (fun j _ => by rw [Nat.zero_add]) ?_; (focus (first | rfl | (go_simp; done)))))
  refine (HWA.out _).mono ?_
  rintro e w3 ⟨rfl, hb⟩
  have HB3 := Lib.hid (HB2.out.next hb)
  clear hb
  have HTz := Lib.hid (HTB.out _ HB3.out.below)
  have HE := Lib.hid (show PsPost W bt bm T2 L2 w (.returned (.tuple #[])) w3 by rw [HH2.out.1, HH2.out.2]; exact ⟨rfl, jnil, HTz.out, F2.of HB3.out.below⟩)
  go_wp2_with fail
  go_end0
  exact HE.out

set_option maxHeartbeats 16000000 in
theorem pass_b (W : World) (p : PJ) (x : EM) (vr vl : Value) (no : Txt) (bt bm b1 b2 b3 b4 : Nat) (t : ST) (now : Int) (w : World) (hp : okP p = true) (hx : BdJ x) (hT : TB W bt bm t jnil [] w) (hR : RP x vr vl no bt bm b1 b2 b3 b4 w) (h0 : 0 ≤ t.told) (h7 : t.told ≤ 7) (hhb : x.m.hb = true) (hdl : decide (dlJ x ≤ now) = true) (hbb : backB x.m.mode = true) (T2 : ST) (L2 : List Txt) (hT2 : T2 = repT x no kF true { t with st := [70] }) (hL2 : L2 = repL x no kF true { t with st := [70] }) :
    Calls Tryz.prog 26 #[.agg #[.int .i64 p.base, .int .i64 p.most, .int .i64 p.life, .int .i64 p.warn], .agg #[.int .i64 x.id, .int .i64 x.at_, .int .i64 x.rel, .string (mkS x.fr.1), .string (mkS x.fr.2), .bool x.m.hs, .bool x.m.hf, .bool x.m.hu, .bool x.m.hb, .bool x.m.hp, .int .i64 x.m.sz, .int .i64 x.m.fo, .int .i64 x.m.un, .int .i64 x.m.by_, .int .i64 x.m.pr, .string (mkS x.m.body), .string (mkS x.m.ret), .string (mkS x.m.env), .string (mkS x.m.mode), vr, vl], .pointer (some ⟨bt, 0, none⟩), .int .i64 now, .func (.func 36) #[] #[.pointer (some ⟨b1, 0, none⟩), .pointer (some ⟨b2, 0, none⟩), .pointer (some ⟨b3, 0, none⟩), .pointer (some ⟨b4, 0, none⟩)]] w (PsPost W bt bm T2 L2 w) := by
  have HB := Lib.hid (PB.new w p x vr vl)
  have HDL := Lib.hid (fun w => deadline_x x vr vl w hx)
  have HEX := Lib.hid (fun w => expires_x p x vr vl w hp hx)
  have HWA := Lib.hid (fun w => warned_x p x vr vl w hp hx)
  have HRT := Lib.hid (fun w => returned_x x.m w)
  have HTB := Lib.hid (fun w' (h : Below w.heap.size w w') => hT.next h)
  have HRP := Lib.hid (fun w' (h : Below w.heap.size w w') => hR.next h)
  have HGO := Lib.hid (fun (k : KJ) (hk : kindB4 k) (f : Bool) (sn : ByteArray) (hsn : sn = mkS k.name) (t2 : ST) (e2 : t2.told = t.told) (w1 : World) (g1 : TB W bt bm t2 jnil [] w1) (g2 : RP x vr vl no bt bm b1 b2 b3 b4 w1) => report_x W x vr vl no bt bm b1 b2 b3 b4 t2 k f sn w1 hk hsn g1 g2 (by rw [e2]; exact h0) (by rw [e2]; exact h7))
  have HH2 := Lib.hid (And.intro hT2 hL2)
  clear hp hx hT hR h0 h7 hT2 hL2
  unfold dlV at HDL
  rw [hhb] at HDL
  simp only [if_true] at HDL
  clear hhb
  go_enter Tryz.func26, Tryz.ntmps26
  go_wp2_with (first | ((with_reducible refine jis_load (ty := 33) (x := .tmp 6) rfl ?_); refine jload ?_ 33 (.tmp 6) rfl ((w.heap.size + 1)) 0 33 (EC x vr vl) (EC x vr vl) _ rfl HB.out.mb Tryz.underlying33 rfl size_msg (fun j _ => by rw [Nat.zero_add]) ?_; (focus (first | rfl | (go_simp; done)))))
  refine (HDL.out _).mono ?_
  rintro e w1 ⟨rfl, hb⟩
  have HB1 := Lib.hid (HB.out.next hb)
  clear hb HB
  go_wp2_with (first | ((with_reducible refine jis_load (ty := 29) (x := .tmp 27) rfl ?_); refine jload ?_ 29 (.tmp 27) rfl ((w.heap.size + 1)) 5 33 (EC x vr vl) #[.bool x.m.hs, .bool x.m.hf, .bool x.m.hu, .bool x.m.hb, .bool x.m.hp, .int .i64 x.m.sz, .int .i64 x.m.fo, .int .i64 x.m.un, .int .i64 x.m.by_, .int .i64 x.m.pr, .string (mkS x.m.body), .string (mkS x.m.ret), .string (mkS x.m.env), .string (mkS x.m.mode)] _ rfl HB1.out.mb Tryz.underlying29 rfl jsize_mail (jEC_m x _ _) ?_; (focus (first | rfl | (go_simp; done)))))
  refine (HRT.out _).mono ?_
  rintro e w2 ⟨rfl, hb⟩
  have HB2 := Lib.hid (HB1.out.next hb)
  clear hb
  rw [hbb]
  have hTz := HTB.out _ HB2.out.below
  have hRz := HRP.out _ HB2.out.below
  have c1 := freeOf hTz.t_ 1
  have c2 : w2.cell? ⟨bt, 1, none⟩ = some (.string (mkS t.st)) := cellOf hTz.t_ 1
  have e4 : (TC t).setIfInBounds 1 (.string { data := #[70] }) = TC { t with st := [70] } := rfl
  have HTy := Lib.hid (hTz.set 1 (.string { data := #[70] }) e4)
  have HFy := Lib.hid (F2.set1 bt bm w2 1 (.string { data := #[70] }))
  have HRy := Lib.hid (hRz.f2 hTz.t_ hTz.m_ HFy.out)
  clear hTz hRz e4
  go_wp2_with fail
  refine (HGO.out kF (.inr (.inl rfl)) true { data := #[102, 97, 105, 108, 101, 100] } rfl { t with st := [70] } rfl _ HTy.out HRy.out).mono ?_
  rintro e w9 ⟨rfl, v', hz, hf⟩
  have HE := Lib.hid (show PsPost W bt bm T2 L2 w (.returned (.tuple #[])) w9 by rw [HH2.out.1, HH2.out.2]; exact ⟨rfl, v', hz, (F2.of HB2.out.below).trans (HFy.out.trans hf)⟩)
  clear hz hf
  go_wp2_with fail
  go_end0
  exact HE.out

set_option maxHeartbeats 16000000 in
theorem pass_c1 (W : World) (p : PJ) (x : EM) (vr vl : Value) (no : Txt) (bt bm b1 b2 b3 b4 : Nat) (t : ST) (now : Int) (w : World) (hp : okP p = true) (hx : BdJ x) (hT : TB W bt bm t jnil [] w) (hR : RP x vr vl no bt bm b1 b2 b3 b4 w) (h0 : 0 ≤ t.told) (h7 : t.told ≤ 7) (hhb : x.m.hb = true) (hdl : decide (dlJ x ≤ now) = true) (hbb : backB x.m.mode = false) (hex : decide (expJ p x ≤ now) = true) (T2 : ST) (L2 : List Txt) (hT2 : T2 = repT x no kF false { t with st := [70] }) (hL2 : L2 = repL x no kF false { t with st := [70] }) :
    Calls Tryz.prog 26 #[.agg #[.int .i64 p.base, .int .i64 p.most, .int .i64 p.life, .int .i64 p.warn], .agg #[.int .i64 x.id, .int .i64 x.at_, .int .i64 x.rel, .string (mkS x.fr.1), .string (mkS x.fr.2), .bool x.m.hs, .bool x.m.hf, .bool x.m.hu, .bool x.m.hb, .bool x.m.hp, .int .i64 x.m.sz, .int .i64 x.m.fo, .int .i64 x.m.un, .int .i64 x.m.by_, .int .i64 x.m.pr, .string (mkS x.m.body), .string (mkS x.m.ret), .string (mkS x.m.env), .string (mkS x.m.mode), vr, vl], .pointer (some ⟨bt, 0, none⟩), .int .i64 now, .func (.func 36) #[] #[.pointer (some ⟨b1, 0, none⟩), .pointer (some ⟨b2, 0, none⟩), .pointer (some ⟨b3, 0, none⟩), .pointer (some ⟨b4, 0, none⟩)]] w (PsPost W bt bm T2 L2 w) := by
  have HB := Lib.hid (PB.new w p x vr vl)
  have HDL := Lib.hid (fun w => deadline_x x vr vl w hx)
  have HEX := Lib.hid (fun w => expires_x p x vr vl w hp hx)
  have HWA := Lib.hid (fun w => warned_x p x vr vl w hp hx)
  have HRT := Lib.hid (fun w => returned_x x.m w)
  have HTB := Lib.hid (fun w' (h : Below w.heap.size w w') => hT.next h)
  have HRP := Lib.hid (fun w' (h : Below w.heap.size w w') => hR.next h)
  have HGO := Lib.hid (fun (k : KJ) (hk : kindB4 k) (f : Bool) (sn : ByteArray) (hsn : sn = mkS k.name) (t2 : ST) (e2 : t2.told = t.told) (w1 : World) (g1 : TB W bt bm t2 jnil [] w1) (g2 : RP x vr vl no bt bm b1 b2 b3 b4 w1) => report_x W x vr vl no bt bm b1 b2 b3 b4 t2 k f sn w1 hk hsn g1 g2 (by rw [e2]; exact h0) (by rw [e2]; exact h7))
  have HH2 := Lib.hid (And.intro hT2 hL2)
  clear hp hx hT hR h0 h7 hT2 hL2
  unfold dlV at HDL
  rw [hhb] at HDL
  simp only [if_true] at HDL
  clear hhb
  go_enter Tryz.func26, Tryz.ntmps26
  go_wp2_with (first | ((with_reducible refine jis_load (ty := 33) (x := .tmp 6) rfl ?_); refine jload ?_ 33 (.tmp 6) rfl ((w.heap.size + 1)) 0 33 (EC x vr vl) (EC x vr vl) _ rfl HB.out.mb Tryz.underlying33 rfl size_msg (fun j _ => by rw [Nat.zero_add]) ?_; (focus (first | rfl | (go_simp; done)))))
  refine (HDL.out _).mono ?_
  rintro e w1 ⟨rfl, hb⟩
  have HB1 := Lib.hid (HB.out.next hb)
  clear hb HB
  go_wp2_with (first | ((with_reducible refine jis_load (ty := 29) (x := .tmp 27) rfl ?_); refine jload ?_ 29 (.tmp 27) rfl ((w.heap.size + 1)) 5 33 (EC x vr vl) #[.bool x.m.hs, .bool x.m.hf, .bool x.m.hu, .bool x.m.hb, .bool x.m.hp, .int .i64 x.m.sz, .int .i64 x.m.fo, .int .i64 x.m.un, .int .i64 x.m.by_, .int .i64 x.m.pr, .string (mkS x.m.body), .string (mkS x.m.ret), .string (mkS x.m.env), .string (mkS x.m.mode)] _ rfl HB1.out.mb Tryz.underlying29 rfl jsize_mail (jEC_m x _ _) ?_; (focus (first | rfl | (go_simp; done)))))
  refine (HRT.out _).mono ?_
  rintro e w2 ⟨rfl, hb⟩
  have HB2 := Lib.hid (HB1.out.next hb)
  clear hb
  rw [hbb]
  go_wp2_with (first | ((with_reducible refine jis_load (ty := 23) (x := .tmp 5) rfl ?_); refine jload ?_ 23 (.tmp 5) rfl (w.heap.size) 0 23 #[.int .i64 p.base, .int .i64 p.most, .int .i64 p.life, .int .i64 p.warn] #[.int .i64 p.base, .int .i64 p.most, .int .i64 p.life, .int .i64 p.warn] _ rfl HB2.out.pb Tryz.underlying23 rfl jsize_plan (fun j _ => by rw [Nat.zero_add]) ?_; (focus (first | rfl | (go_simp; done)))) | ((with_reducible refine jis_load (ty := 33) (x := .tmp 6) rfl ?_); refine jload ?_ 33 (.tmp 6) rfl ((w.heap.size + 1)) 0 33 (EC x vr vl) (EC x vr vl) _ rfl HB2.out.mb Tryz.underlying33 rfl size_msg (fun j _ => by rw [Nat.zero_add]) ?_; (focus (first | rfl | (go_simp; done)))))
  refine (HEX.out _).mono ?_
  rintro e w3 ⟨rfl, hb⟩
  have HB3 := Lib.hid (HB2.out.next hb)
  clear hb
  have hTz := HTB.out _ HB3.out.below
  have hRz := HRP.out _ HB3.out.below
  have c1 := freeOf hTz.t_ 1
  have c2 : w3.cell? ⟨bt, 1, none⟩ = some (.string (mkS t.st)) := cellOf hTz.t_ 1
  have e4 : (TC t).setIfInBounds 1 (.string { data := #[70] }) = TC { t with st := [70] } := rfl
  have HTy := Lib.hid (hTz.set 1 (.string { data := #[70] }) e4)
  have HFy := Lib.hid (F2.set1 bt bm w3 1 (.string { data := #[70] }))
  have HRy := Lib.hid (hRz.f2 hTz.t_ hTz.m_ HFy.out)
  clear hTz hRz e4
  go_wp2_with fail
  refine (HGO.out kF (.inr (.inl rfl)) false { data := #[102, 97, 105, 108, 101, 100] } rfl { t with st := [70] } rfl _ HTy.out HRy.out).mono ?_
  rintro e w9 ⟨rfl, v', hz, hf⟩
  have HE := Lib.hid (show PsPost W bt bm T2 L2 w (.returned (.tuple #[])) w9 by rw [HH2.out.1, HH2.out.2]; exact ⟨rfl, v', hz, (F2.of HB3.out.below).trans (HFy.out.trans hf)⟩)
  clear hz hf
  go_wp2_with fail
  go_end0
  exact HE.out

set_option maxHeartbeats 16000000 in
theorem pass_c2 (W : World) (p : PJ) (x : EM) (vr vl : Value) (no : Txt) (bt bm b1 b2 b3 b4 : Nat) (t : ST) (now : Int) (w : World) (hp : okP p = true) (hx : BdJ x) (hT : TB W bt bm t jnil [] w) (hR : RP x vr vl no bt bm b1 b2 b3 b4 w) (h0 : 0 ≤ t.told) (h7 : t.told ≤ 7) (hhb : x.m.hb = true) (hdl : decide (dlJ x ≤ now) = true) (hbb : backB x.m.mode = false) (hex : decide (expJ p x ≤ now) = false) (T2 : ST) (L2 : List Txt) (hT2 : T2 = repT x no kD true t) (hL2 : L2 = repL x no kD true t) :
    Calls Tryz.prog 26 #[.agg #[.int .i64 p.base, .int .i64 p.most, .int .i64 p.life, .int .i64 p.warn], .agg #[.int .i64 x.id, .int .i64 x.at_, .int .i64 x.rel, .string (mkS x.fr.1), .string (mkS x.fr.2), .bool x.m.hs, .bool x.m.hf, .bool x.m.hu, .bool x.m.hb, .bool x.m.hp, .int .i64 x.m.sz, .int .i64 x.m.fo, .int .i64 x.m.un, .int .i64 x.m.by_, .int .i64 x.m.pr, .string (mkS x.m.body), .string (mkS x.m.ret), .string (mkS x.m.env), .string (mkS x.m.mode), vr, vl], .pointer (some ⟨bt, 0, none⟩), .int .i64 now, .func (.func 36) #[] #[.pointer (some ⟨b1, 0, none⟩), .pointer (some ⟨b2, 0, none⟩), .pointer (some ⟨b3, 0, none⟩), .pointer (some ⟨b4, 0, none⟩)]] w (PsPost W bt bm T2 L2 w) := by
  have HB := Lib.hid (PB.new w p x vr vl)
  have HDL := Lib.hid (fun w => deadline_x x vr vl w hx)
  have HEX := Lib.hid (fun w => expires_x p x vr vl w hp hx)
  have HWA := Lib.hid (fun w => warned_x p x vr vl w hp hx)
  have HRT := Lib.hid (fun w => returned_x x.m w)
  have HTB := Lib.hid (fun w' (h : Below w.heap.size w w') => hT.next h)
  have HRP := Lib.hid (fun w' (h : Below w.heap.size w w') => hR.next h)
  have HGO := Lib.hid (fun (k : KJ) (hk : kindB4 k) (f : Bool) (sn : ByteArray) (hsn : sn = mkS k.name) (t2 : ST) (e2 : t2.told = t.told) (w1 : World) (g1 : TB W bt bm t2 jnil [] w1) (g2 : RP x vr vl no bt bm b1 b2 b3 b4 w1) => report_x W x vr vl no bt bm b1 b2 b3 b4 t2 k f sn w1 hk hsn g1 g2 (by rw [e2]; exact h0) (by rw [e2]; exact h7))
  have HH2 := Lib.hid (And.intro hT2 hL2)
  clear hp hx hT hR h0 h7 hT2 hL2
  unfold dlV at HDL
  rw [hhb] at HDL
  simp only [if_true] at HDL
  clear hhb
  go_enter Tryz.func26, Tryz.ntmps26
  go_wp2_with (first | ((with_reducible refine jis_load (ty := 33) (x := .tmp 6) rfl ?_); refine jload ?_ 33 (.tmp 6) rfl ((w.heap.size + 1)) 0 33 (EC x vr vl) (EC x vr vl) _ rfl HB.out.mb Tryz.underlying33 rfl size_msg (fun j _ => by rw [Nat.zero_add]) ?_; (focus (first | rfl | (go_simp; done)))))
  refine (HDL.out _).mono ?_
  rintro e w1 ⟨rfl, hb⟩
  have HB1 := Lib.hid (HB.out.next hb)
  clear hb HB
  go_wp2_with (first | ((with_reducible refine jis_load (ty := 29) (x := .tmp 27) rfl ?_); refine jload ?_ 29 (.tmp 27) rfl ((w.heap.size + 1)) 5 33 (EC x vr vl) #[.bool x.m.hs, .bool x.m.hf, .bool x.m.hu, .bool x.m.hb, .bool x.m.hp, .int .i64 x.m.sz, .int .i64 x.m.fo, .int .i64 x.m.un, .int .i64 x.m.by_, .int .i64 x.m.pr, .string (mkS x.m.body), .string (mkS x.m.ret), .string (mkS x.m.env), .string (mkS x.m.mode)] _ rfl HB1.out.mb Tryz.underlying29 rfl jsize_mail (jEC_m x _ _) ?_; (focus (first | rfl | (go_simp; done)))))
  refine (HRT.out _).mono ?_
  rintro e w2 ⟨rfl, hb⟩
  have HB2 := Lib.hid (HB1.out.next hb)
  clear hb
  rw [hbb]
  go_wp2_with (first | ((with_reducible refine jis_load (ty := 23) (x := .tmp 5) rfl ?_); refine jload ?_ 23 (.tmp 5) rfl (w.heap.size) 0 23 #[.int .i64 p.base, .int .i64 p.most, .int .i64 p.life, .int .i64 p.warn] #[.int .i64 p.base, .int .i64 p.most, .int .i64 p.life, .int .i64 p.warn] _ rfl HB2.out.pb Tryz.underlying23 rfl jsize_plan (fun j _ => by rw [Nat.zero_add]) ?_; (focus (first | rfl | (go_simp; done)))) | ((with_reducible refine jis_load (ty := 33) (x := .tmp 6) rfl ?_); refine jload ?_ 33 (.tmp 6) rfl ((w.heap.size + 1)) 0 33 (EC x vr vl) (EC x vr vl) _ rfl HB2.out.mb Tryz.underlying33 rfl size_msg (fun j _ => by rw [Nat.zero_add]) ?_; (focus (first | rfl | (go_simp; done)))))
  refine (HEX.out _).mono ?_
  rintro e w3 ⟨rfl, hb⟩
  have HB3 := Lib.hid (HB2.out.next hb)
  clear hb
  have HTz := Lib.hid (HTB.out _ HB3.out.below)
  have HRz := Lib.hid (HRP.out _ HB3.out.below)
  go_wp2_with fail
  refine (HGO.out kD (.inl rfl) true { data := #[100, 101, 108, 97, 121, 101, 100] } rfl t rfl _ HTz.out HRz.out).mono ?_
  rintro e w9 ⟨rfl, v', hz, hf⟩
  have HE := Lib.hid (show PsPost W bt bm T2 L2 w (.returned (.tuple #[])) w9 by rw [HH2.out.1, HH2.out.2]; exact ⟨rfl, v', hz, (F2.of HB3.out.below).trans hf⟩)
  clear hz hf
  go_wp2_with fail
  go_end0
  exact HE.out

set_option maxHeartbeats 8000000 in
theorem pass_x (W : World) (p : PJ) (x : EM) (vr vl : Value) (no : Txt) (bt bm b1 b2 b3 b4 : Nat) (t : ST) (now : Int) (w : World) (hp : okP p = true) (hx : BdJ x) (hT : TB W bt bm t jnil [] w) (hR : RP x vr vl no bt bm b1 b2 b3 b4 w) (h0 : 0 ≤ t.told) (h7 : t.told ≤ 7) :
    Calls Tryz.prog 26 #[.agg #[.int .i64 p.base, .int .i64 p.most, .int .i64 p.life, .int .i64 p.warn], .agg #[.int .i64 x.id, .int .i64 x.at_, .int .i64 x.rel, .string (mkS x.fr.1), .string (mkS x.fr.2), .bool x.m.hs, .bool x.m.hf, .bool x.m.hu, .bool x.m.hb, .bool x.m.hp, .int .i64 x.m.sz, .int .i64 x.m.fo, .int .i64 x.m.un, .int .i64 x.m.by_, .int .i64 x.m.pr, .string (mkS x.m.body), .string (mkS x.m.ret), .string (mkS x.m.env), .string (mkS x.m.mode), vr, vl], .pointer (some ⟨bt, 0, none⟩), .int .i64 now, .func (.func 36) #[] #[.pointer (some ⟨b1, 0, none⟩), .pointer (some ⟨b2, 0, none⟩), .pointer (some ⟨b3, 0, none⟩), .pointer (some ⟨b4, 0, none⟩)]] w (PsPost W bt bm (passT p x no now t) (passL p x no now t) w) := by
  have e1 : ∀ q, decide (warJ p x ≤ now) = q → (if warJ p x ≤ now then repT x no kD false t else t) = (if q then repT x no kD false t else t) ∧ (if warJ p x ≤ now then repL x no kD false t else []) = (if q then repL x no kD false t else []) := fun q h => by subst h; simp
  rcases Bool.eq_false_or_eq_true x.m.hb with hhb | hhb
  case inr =>
    have hc : comeJ x now = false := by unfold comeJ; rw [hhb]; rfl
    have hbk : bkJ x now = false := by unfold bkJ; rw [hc]; rfl
    cases hex : decide (expJ p x ≤ now) with
    | true =>
      have ho : overJ p x now = true := by unfold overJ; rw [hbk, hex]; rfl
      exact pass_n1 W p x vr vl no bt bm b1 b2 b3 b4 t now w hp hx hT hR h0 h7 hhb hex _ _ (by unfold passT; rw [ho, hbk]; rfl) (by unfold passL; rw [ho, hbk]; rfl)
    | false =>
      have ho : overJ p x now = false := by unfold overJ; rw [hbk, hex]; rfl
      cases hwa : decide (warJ p x ≤ now) with
      | true => exact pass_n2 W p x vr vl no bt bm b1 b2 b3 b4 t now w hp hx hT hR h0 h7 hhb hex hwa _ _ (by unfold passT; rw [ho, hc, (e1 _ hwa).1]; rfl) (by unfold passL; rw [ho, hc, (e1 _ hwa).2]; rfl)
      | false => exact pass_n3 W p x vr vl no bt bm b1 b2 b3 b4 t now w hp hx hT hR h0 h7 hhb hex hwa _ _ (by unfold passT; rw [ho, hc, (e1 _ hwa).1]; rfl) (by unfold passL; rw [ho, hc, (e1 _ hwa).2]; rfl)
  case inl =>
    cases hdl : decide (dlJ x ≤ now) with
    | false =>
      have hc : comeJ x now = false := by unfold comeJ; rw [hhb, hdl]; rfl
      have hbk : bkJ x now = false := by unfold bkJ; rw [hc]; rfl
      cases hex : decide (expJ p x ≤ now) with
      | true =>
        have ho : overJ p x now = true := by unfold overJ; rw [hbk, hex]; rfl
        exact pass_f1 W p x vr vl no bt bm b1 b2 b3 b4 t now w hp hx hT hR h0 h7 hhb hdl hex _ _ (by unfold passT; rw [ho, hbk]; rfl) (by unfold passL; rw [ho, hbk]; rfl)
      | false =>
        have ho : overJ p x now = false := by unfold overJ; rw [hbk, hex]; rfl
        cases hwa : decide (warJ p x ≤ now) with
        | true => exact pass_f2 W p x vr vl no bt bm b1 b2 b3 b4 t now w hp hx hT hR h0 h7 hhb hdl hex hwa _ _ (by unfold passT; rw [ho, hc, (e1 _ hwa).1]; rfl) (by unfold passL; rw [ho, hc, (e1 _ hwa).2]; rfl)
        | false => exact pass_f3 W p x vr vl no bt bm b1 b2 b3 b4 t now w hp hx hT hR h0 h7 hhb hdl hex hwa _ _ (by unfold passT; rw [ho, hc, (e1 _ hwa).1]; rfl) (by unfold passL; rw [ho, hc, (e1 _ hwa).2]; rfl)
    | true =>
      have hc : comeJ x now = true := by unfold comeJ; rw [hhb, hdl]; rfl
      cases hbb : backB x.m.mode with
      | true =>
        have hbk : bkJ x now = true := by unfold bkJ; rw [hc, hbb]; rfl
        have ho : overJ p x now = true := by unfold overJ; rw [hbk]; rfl
        exact pass_b W p x vr vl no bt bm b1 b2 b3 b4 t now w hp hx hT hR h0 h7 hhb hdl hbb _ _ (by unfold passT; rw [ho, hbk]; rfl) (by unfold passL; rw [ho, hbk]; rfl)
      | false =>
        have hbk : bkJ x now = false := by unfold bkJ; rw [hc, hbb]; rfl
        cases hex : decide (expJ p x ≤ now) with
        | true =>
          have ho : overJ p x now = true := by unfold overJ; rw [hbk, hex]; rfl
          exact pass_c1 W p x vr vl no bt bm b1 b2 b3 b4 t now w hp hx hT hR h0 h7 hhb hdl hbb hex _ _ (by unfold passT; rw [ho, hbk]; rfl) (by unfold passL; rw [ho, hbk]; rfl)
        | false =>
          have ho : overJ p x now = false := by unfold overJ; rw [hbk, hex]; rfl
          exact pass_c2 W p x vr vl no bt bm b1 b2 b3 b4 t now w hp hx hT hR h0 h7 hhb hdl hbb hex _ _ (by unfold passT; rw [ho, hc]; rfl) (by unfold passL; rw [ho, hc]; rfl)
end Go.Proofs.YtcedhgihebollaaGreatDoor.E.J
