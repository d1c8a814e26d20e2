import Derived.Test.YtojpkbonioglbaaGreatDoorMaRtQ
import Derived.Test.YtojpkbonioglbaaGreatDoorMaRtS
namespace Go.Proofs.YtojpkbonioglbaaGreatDoor.E.T
set_option maxRecDepth 100000
open Go.ChangeShapes Go.WideShapes Go.ChangeAt Go.RowKit
open Go.ChangeMaps (open_string shut_string)
theorem list31 {α : Type} {l : List α} (h : l.length = 31) : ∃ c0 c1 c2 c3 c4 c5 c6 c7 c8 c9 c10 c11 c12 c13 c14 c15 c16 c17 c18 c19 c20 c21 c22 c23 c24 c25 c26 c27 c28 c29 c30, l = [c0, c1, c2, c3, c4, c5, c6, c7, c8, c9, c10, c11, c12, c13, c14, c15, c16, c17, c18, c19, c20, c21, c22, c23, c24, c25, c26, c27, c28, c29, c30] := by
 match l, h with
 | [c0, c1, c2, c3, c4, c5, c6, c7, c8, c9, c10, c11, c12, c13, c14, c15, c16, c17, c18, c19, c20, c21, c22, c23, c24, c25, c26, c27, c28, c29, c30], _ => exact ⟨c0, c1, c2, c3, c4, c5, c6, c7, c8, c9, c10, c11, c12, c13, c14, c15, c16, c17, c18, c19, c20, c21, c22, c23, c24, c25, c26, c27, c28, c29, c30, rfl⟩
theorem array31 {α : Type} {cs : Array α} (h : cs.size = 31) : ∃ c0 c1 c2 c3 c4 c5 c6 c7 c8 c9 c10 c11 c12 c13 c14 c15 c16 c17 c18 c19 c20 c21 c22 c23 c24 c25 c26 c27 c28 c29 c30, cs = #[c0, c1, c2, c3, c4, c5, c6, c7, c8, c9, c10, c11, c12, c13, c14, c15, c16, c17, c18, c19, c20, c21, c22, c23, c24, c25, c26, c27, c28, c29, c30] := by
 obtain ⟨l⟩ := cs
 obtain ⟨c0, c1, c2, c3, c4, c5, c6, c7, c8, c9, c10, c11, c12, c13, c14, c15, c16, c17, c18, c19, c20, c21, c22, c23, c24, c25, c26, c27, c28, c29, c30, rfl⟩ := list31 (by simpa using h)
 exact ⟨c0, c1, c2, c3, c4, c5, c6, c7, c8, c9, c10, c11, c12, c13, c14, c15, c16, c17, c18, c19, c20, c21, c22, c23, c24, c25, c26, c27, c28, c29, c30, rfl⟩
theorem kRt : Tryz.prog.cellsOf 39 = 31 := by kernel_rfl
theorem kRp : Tryz.prog.cellsOf 37 = 5 := by kernel_rfl
theorem kA3 : Tryz.prog.cellsOf 35 = 3 := by kernel_rfl
section
variable {H : Type} {enc : TypeId × Value → H} {W : World}
theorem rd_i64 {n : Nat} {c : Value} {x : DataW H × List MemPlace} (h : Tr enc W n 3 [c] = some x) : ∃ b, c = .int .i64 b ∧ R.I64 b := by
 obtain ⟨b, e, _, hw⟩ := DataW.trod_int Tryz.underlying3 h
 injection e with e
 rw [Lit.wf, Bool.and_eq_true, decide_eq_true_eq, decide_eq_true_eq] at hw
 exact ⟨b, e, hw⟩
theorem rd_arr {n : Nat} {c0 c1 c2 : Value} {x : DataW H × List MemPlace} (h : Tr enc W n 35 [c0, c1, c2] = some x) : ∃ a b c : Int, c0 = .int .i64 a ∧ c1 = .int .i64 b ∧ c2 = .int .i64 c ∧ R.I64 a ∧ R.I64 b ∧ R.I64 c := by
 have h' : DataW.trod enc Tryz.prog W 0 (fun _ => true) true n 35 [c0, c1, c2] = some x := h
 cases n with
 | zero => simp [DataW.trod] at h'
 | succ n =>
  simp only [DataW.trod, Tryz.underlying35, k3, Nat.mul_one] at h'
  split at h'
  ·obtain ⟨xs, hm, _⟩ := Option.map_eq_some_iff.1 h'
   have key : ∀ i, i < 3 → ∃ b, DataW.trod enc Tryz.prog W 0 (fun _ => true) true n 3 (([c0, c1, c2].drop i).take 1) = some b := fun i hi => by
    obtain ⟨b, _, hf⟩ := Lib.mapM_at hm i i (by simp [hi])
    exact ⟨b, hf⟩
   obtain ⟨_, h0⟩ := key 0 (by decide)
   obtain ⟨_, h1⟩ := key 1 (by decide)
   obtain ⟨_, h2⟩ := key 2 (by decide)
   obtain ⟨a, ea, ia⟩ := rd_i64 (c := c0) h0
   obtain ⟨b, eb, ib⟩ := rd_i64 (c := c1) h1
   obtain ⟨c, ec, ic⟩ := rd_i64 (c := c2) h2
   exact ⟨a, b, c, ea, eb, ec, ia, ib, ic⟩
  ·cases h'
theorem rd_rep {n : Nat} {c0 c1 c2 c3 c4 : Value} {x : DataW H × List MemPlace} (h : Tr enc W n 37 [c0, c1, c2, c3, c4] = some x) (hw : Wt 37 x.1) : ∃ p : Rp, c0 = .int .i64 p.code ∧ c1 = .int .i64 p.e.1 ∧ c2 = .int .i64 p.e.2.1 ∧ c3 = .int .i64 p.e.2.2 ∧ TxtsAt W c4 p.text ∧ (∀ t ∈ p.text, t.length ≤ 281474976710656) ∧ R.RI p.code p.e := by
 obtain ⟨xs, k, _, hx, _, hlen, hfs⟩ := DataW.trod_struct Tryz.underlying37 h
 rw [hx] at hw
 have hl : xs.length = 3 := hlen
 obtain ⟨y0, e0, w0⟩ := wt_field (tf := 3) hw Tryz.underlying37 (i := 0) (by omega) rfl rfl
 have s0 : DataW.trod enc Tryz.prog W 0 (fun _ => true) true k 3 (([c0, c1, c2, c3, c4].drop 0).take (Tryz.prog.cellsOf 3)) = xs[0]? := hfs 0 _ rfl
 rw [k3, e0] at s0
 obtain ⟨y1, e1, w1⟩ := wt_field (tf := 35) hw Tryz.underlying37 (i := 1) (by omega) rfl rfl
 have s1 : DataW.trod enc Tryz.prog W 0 (fun _ => true) true k 35 (([c0, c1, c2, c3, c4].drop 1).take (Tryz.prog.cellsOf 35)) = xs[1]? := hfs 1 _ rfl
 rw [kA3, e1] at s1
 obtain ⟨y2, e2, w2⟩ := wt_field (tf := 22) hw Tryz.underlying37 (i := 2) (by omega) rfl rfl
 have s2 : DataW.trod enc Tryz.prog W 0 (fun _ => true) true k 22 (([c0, c1, c2, c3, c4].drop 4).take (Tryz.prog.cellsOf 22)) = xs[2]? := hfs 2 _ rfl
 rw [kLs, e2] at s2
 obtain ⟨code, q0, i0⟩ := rd_i64 (c := c0) s0
 obtain ⟨a, b, c, q1, q2, q3, ia, ib, ic⟩ := rd_arr (c0 := c1) (c1 := c2) (c2 := c3) s1
 obtain ⟨l, hl4, z4⟩ := rd_txts (v := c4) s2 w2
 exact ⟨⟨code, (a, b, c), l⟩, q0, q1, q2, q3, hl4, z4, ⟨i0, ia, ib, ic⟩⟩
set_option maxHeartbeats 4000000 in
theorem rd_msg {n : Nat} {c0 c1 c2 c3 c4 c5 c6 c7 c8 c9 c10 c11 c12 c13 c14 c15 c16 c17 c18 c19 c20 : Value} {y : DataW H × List MemPlace} (h : Tr enc W n 34 [c0, c1, c2, c3, c4, c5, c6, c7, c8, c9, c10, c11, c12, c13, c14, c15, c16, c17, c18, c19, c20] = some y) (hw : Wt 34 y.1) : ∃ x : EM, c0 = .int .i64 x.id ∧ c1 = .int .i64 x.at_ ∧ c2 = .int .i64 x.rel ∧ c3 = .string (mkS x.fr.1) ∧ c4 = .string (mkS x.fr.2) ∧ c5 = .bool x.m.hs ∧ c6 = .bool x.m.hf ∧ c7 = .bool x.m.hu ∧ c8 = .bool x.m.hb ∧ c9 = .bool x.m.hp ∧ c10 = .int .i64 x.m.sz ∧ c11 = .int .i64 x.m.fo ∧ c12 = .int .i64 x.m.un ∧ c13 = .int .i64 x.m.by_ ∧ c14 = .int .i64 x.m.pr ∧ c15 = .string (mkS x.m.body) ∧ c16 = .string (mkS x.m.ret) ∧ c17 = .string (mkS x.m.env) ∧ c18 = .string (mkS x.m.mode) ∧ EAt W x c19 c20 ∧ ShE x := by
 obtain ⟨xs, k, _, hx, _, hlen, hfs⟩ := DataW.trod_struct Tryz.underlying34 h
 rw [hx] at hw
 have hl : xs.length = 7 := hlen
 obtain ⟨y0, e0, w0⟩ := wt_field (tf := 3) hw Tryz.underlying34 (i := 0) (by omega) rfl rfl
 have s0 : DataW.trod enc Tryz.prog W 0 (fun _ => true) true k 3 (([c0, c1, c2, c3, c4, c5, c6, c7, c8, c9, c10, c11, c12, c13, c14, c15, c16, c17, c18, c19, c20].drop 0).take (Tryz.prog.cellsOf 3)) = xs[0]? := hfs 0 _ rfl
 rw [k3, e0] at s0
 obtain ⟨y1, e1, w1⟩ := wt_field (tf := 3) hw Tryz.underlying34 (i := 1) (by omega) rfl rfl
 have s1 : DataW.trod enc Tryz.prog W 0 (fun _ => true) true k 3 (([c0, c1, c2, c3, c4, c5, c6, c7, c8, c9, c10, c11, c12, c13, c14, c15, c16, c17, c18, c19, c20].drop 1).take (Tryz.prog.cellsOf 3)) = xs[1]? := hfs 1 _ rfl
 rw [k3, e1] at s1
 obtain ⟨y2, e2, w2⟩ := wt_field (tf := 3) hw Tryz.underlying34 (i := 2) (by omega) rfl rfl
 have s2 : DataW.trod enc Tryz.prog W 0 (fun _ => true) true k 3 (([c0, c1, c2, c3, c4, c5, c6, c7, c8, c9, c10, c11, c12, c13, c14, c15, c16, c17, c18, c19, c20].drop 2).take (Tryz.prog.cellsOf 3)) = xs[2]? := hfs 2 _ rfl
 rw [k3, e2] at s2
 obtain ⟨y3, e3, w3⟩ := wt_field (tf := 27) hw Tryz.underlying34 (i := 3) (by omega) rfl rfl
 have s3 : DataW.trod enc Tryz.prog W 0 (fun _ => true) true k 27 (([c0, c1, c2, c3, c4, c5, c6, c7, c8, c9, c10, c11, c12, c13, c14, c15, c16, c17, c18, c19, c20].drop 3).take (Tryz.prog.cellsOf 27)) = xs[3]? := hfs 3 _ rfl
 rw [kP, e3] at s3
 obtain ⟨y4, e4, w4⟩ := wt_field (tf := 31) hw Tryz.underlying34 (i := 4) (by omega) rfl rfl
 have s4 : DataW.trod enc Tryz.prog W 0 (fun _ => true) true k 31 (([c0, c1, c2, c3, c4, c5, c6, c7, c8, c9, c10, c11, c12, c13, c14, c15, c16, c17, c18, c19, c20].drop 5).take (Tryz.prog.cellsOf 31)) = xs[4]? := hfs 4 _ rfl
 rw [kM, e4] at s4
 obtain ⟨y5, e5, w5⟩ := wt_field (tf := 32) hw Tryz.underlying34 (i := 5) (by omega) rfl rfl
 have s5 : DataW.trod enc Tryz.prog W 0 (fun _ => true) true k 32 (([c0, c1, c2, c3, c4, c5, c6, c7, c8, c9, c10, c11, c12, c13, c14, c15, c16, c17, c18, c19, c20].drop 19).take (Tryz.prog.cellsOf 32)) = xs[5]? := hfs 5 _ rfl
 rw [kLr, e5] at s5
 obtain ⟨y6, e6, w6⟩ := wt_field (tf := 22) hw Tryz.underlying34 (i := 6) (by omega) rfl rfl
 have s6 : DataW.trod enc Tryz.prog W 0 (fun _ => true) true k 22 (([c0, c1, c2, c3, c4, c5, c6, c7, c8, c9, c10, c11, c12, c13, c14, c15, c16, c17, c18, c19, c20].drop 20).take (Tryz.prog.cellsOf 22)) = xs[6]? := hfs 6 _ rfl
 rw [kLs, e6] at s6
 obtain ⟨n0, f0⟩ := rd_int (c := c0) s0
 obtain ⟨n1, f1⟩ := rd_int (c := c1) s1
 obtain ⟨n2, f2⟩ := rd_int (c := c2) s2
 obtain ⟨pp, p0, p1, hp⟩ := rd_path (c0 := c3) (c1 := c4) s3 w3
 obtain ⟨mm, g0, g1, g2, g3, g4, g5, g6, g7, g8, g9, g10, g11, g12, g13, hm⟩ := rd_mail (c0 := c5) (c1 := c6) (c2 := c7) (c3 := c8) (c4 := c9) (c5 := c10) (c6 := c11) (c7 := c12) (c8 := c13) (c9 := c14) (c10 := c15) (c11 := c16) (c12 := c17) (c13 := c18) s4 w4
 obtain ⟨lr, hr, zr⟩ := rd_rcs (v := c19) s5 w5
 obtain ⟨ll, hll, zl⟩ := rd_txts (v := c20) s6 w6
 exact ⟨⟨n0, n1, n2, pp, mm, lr, ll⟩, f0, f1, f2, p0, p1, g0, g1, g2, g3, g4, g5, g6, g7, g8, g9, g10, g11, g12, g13, ⟨hr, hll⟩, ⟨hp, hm, zr, zl⟩⟩
set_option maxHeartbeats 4000000 in
theorem arg_rep {base : Nat} {v : Value} {d : DataW H} {p : List MemPlace} {ts : List TypeId} {ds : List (DataW H)} {j : Nat} (hv : Value.okWide Tryz.prog W .any base 39 v) (h : DataW.Trod enc Tryz.prog W 0 (fun _ => true) true 39 v d p)
  (hsz : (DataW.weightsEach Tryz.prog ts ds).all (· ≤ reachBytes) = true) (ht : ts[j]? = some 39) (hd : ds[j]? = some d) : ∃ (r : RT) (vr vl vt : Value), v = rtA r vr vl vt ∧ RA0 W r vr vl vt := by
 have hw := wt_arg hsz ht hd
 obtain ⟨cs, rfl, hcsz⟩ := okWide_struct Tryz.underlying39 hv
 obtain ⟨c0, c1, c2, c3, c4, c5, c6, c7, c8, c9, c10, c11, c12, c13, c14, c15, c16, c17, c18, c19, c20, c21, c22, c23, c24, c25, c26, c27, c28, c29, c30, rfl⟩ := array31 (hcsz.trans kRt)
 obtain ⟨fuel, hf⟩ := h
 obtain ⟨xs, k, _, hx, _, hlen, hfs⟩ := DataW.trod_struct Tryz.underlying39 hf
 have hdd : d = .agg (xs.map (·.1)) := congrArg Prod.fst hx
 subst hdd
 have hl : xs.length = 7 := hlen
 obtain ⟨y0, e0, w0⟩ := wt_field (tf := 9) hw Tryz.underlying39 (i := 0) (by omega) rfl rfl
 have s0 : DataW.trod enc Tryz.prog W 0 (fun _ => true) true k 9 (([c0, c1, c2, c3, c4, c5, c6, c7, c8, c9, c10, c11, c12, c13, c14, c15, c16, c17, c18, c19, c20, c21, c22, c23, c24, c25, c26, c27, c28, c29, c30].drop 0).take (Tryz.prog.cellsOf 9)) = xs[0]? := hfs 0 _ rfl
 rw [k9, e0] at s0
 obtain ⟨y1, e1, w1⟩ := wt_field (tf := 34) hw Tryz.underlying39 (i := 1) (by omega) rfl rfl
 have s1 : DataW.trod enc Tryz.prog W 0 (fun _ => true) true k 34 (([c0, c1, c2, c3, c4, c5, c6, c7, c8, c9, c10, c11, c12, c13, c14, c15, c16, c17, c18, c19, c20, c21, c22, c23, c24, c25, c26, c27, c28, c29, c30].drop 1).take (Tryz.prog.cellsOf 34)) = xs[1]? := hfs 1 _ rfl
 rw [kE, e1] at s1
 obtain ⟨y2, e2, w2⟩ := wt_field (tf := 3) hw Tryz.underlying39 (i := 2) (by omega) rfl rfl
 have s2 : DataW.trod enc Tryz.prog W 0 (fun _ => true) true k 3 (([c0, c1, c2, c3, c4, c5, c6, c7, c8, c9, c10, c11, c12, c13, c14, c15, c16, c17, c18, c19, c20, c21, c22, c23, c24, c25, c26, c27, c28, c29, c30].drop 22).take (Tryz.prog.cellsOf 3)) = xs[2]? := hfs 2 _ rfl
 rw [k3, e2] at s2
 obtain ⟨y3, e3, w3⟩ := wt_field (tf := 3) hw Tryz.underlying39 (i := 3) (by omega) rfl rfl
 have s3 : DataW.trod enc Tryz.prog W 0 (fun _ => true) true k 3 (([c0, c1, c2, c3, c4, c5, c6, c7, c8, c9, c10, c11, c12, c13, c14, c15, c16, c17, c18, c19, c20, c21, c22, c23, c24, c25, c26, c27, c28, c29, c30].drop 23).take (Tryz.prog.cellsOf 3)) = xs[3]? := hfs 3 _ rfl
 rw [k3, e3] at s3
 obtain ⟨y4, e4, w4⟩ := wt_field (tf := 3) hw Tryz.underlying39 (i := 4) (by omega) rfl rfl
 have s4 : DataW.trod enc Tryz.prog W 0 (fun _ => true) true k 3 (([c0, c1, c2, c3, c4, c5, c6, c7, c8, c9, c10, c11, c12, c13, c14, c15, c16, c17, c18, c19, c20, c21, c22, c23, c24, c25, c26, c27, c28, c29, c30].drop 24).take (Tryz.prog.cellsOf 3)) = xs[4]? := hfs 4 _ rfl
 rw [k3, e4] at s4
 obtain ⟨y5, e5, w5⟩ := wt_field (tf := 9) hw Tryz.underlying39 (i := 5) (by omega) rfl rfl
 have s5 : DataW.trod enc Tryz.prog W 0 (fun _ => true) true k 9 (([c0, c1, c2, c3, c4, c5, c6, c7, c8, c9, c10, c11, c12, c13, c14, c15, c16, c17, c18, c19, c20, c21, c22, c23, c24, c25, c26, c27, c28, c29, c30].drop 25).take (Tryz.prog.cellsOf 9)) = xs[5]? := hfs 5 _ rfl
 rw [k9, e5] at s5
 obtain ⟨y6, e6, w6⟩ := wt_field (tf := 37) hw Tryz.underlying39 (i := 6) (by omega) rfl rfl
 have s6 : DataW.trod enc Tryz.prog W 0 (fun _ => true) true k 37 (([c0, c1, c2, c3, c4, c5, c6, c7, c8, c9, c10, c11, c12, c13, c14, c15, c16, c17, c18, c19, c20, c21, c22, c23, c24, c25, c26, c27, c28, c29, c30].drop 26).take (Tryz.prog.cellsOf 37)) = xs[6]? := hfs 6 _ rfl
 rw [kRp, e6] at s6
 obtain ⟨l0, f0, z0⟩ := rd_str (c := c0) s0 w0
 obtain ⟨x, g0, g1, g2, g3, g4, g5, g6, g7, g8, g9, g10, g11, g12, g13, g14, g15, g16, g17, g18, hE, hS⟩ := rd_msg (c0 := c1) (c1 := c2) (c2 := c3) (c3 := c4) (c4 := c5) (c5 := c6) (c6 := c7) (c7 := c8) (c8 := c9) (c9 := c10) (c10 := c11) (c11 := c12) (c12 := c13) (c13 := c14) (c14 := c15) (c15 := c16) (c16 := c17) (c17 := c18) (c18 := c19) (c19 := c20) (c20 := c21) s1 w1
 obtain ⟨n2, f2⟩ := rd_int (c := c22) s2
 obtain ⟨n3, f3⟩ := rd_int (c := c23) s3
 obtain ⟨n4, f4⟩ := rd_int (c := c24) s4
 obtain ⟨l5, f5, z5⟩ := rd_str (c := c25) s5 w5
 obtain ⟨rp, r0, r1, r2, r3, hT, zT, hI⟩ := rd_rep (c0 := c26) (c1 := c27) (c2 := c28) (c3 := c29) (c4 := c30) s6 w6
 exact ⟨⟨l0, x, n2, n3, n4, l5, rp⟩, c20, c21, c30, by unfold rtA; rw [f0, g0, g1, g2, g3, g4, g5, g6, g7, g8, g9, g10, g11, g12, g13, g14, g15, g16, g17, g18, f2, f3, f4, f5, r0, r1, r2, r3], ⟨⟨hE, hT⟩, hS, z0, z5, zT, hI⟩⟩
end
end Go.Proofs.YtojpkbonioglbaaGreatDoor.E.T
