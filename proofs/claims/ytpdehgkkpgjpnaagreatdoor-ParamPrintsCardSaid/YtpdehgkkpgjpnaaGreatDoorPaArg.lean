/-
  What a message and a recipient are, as the row reads them.
-/
import Derived.Test.YtpdehgkkpgjpnaaGreatDoorPaLaid
import Derived.Test.YtpdehgkkpgjpnaaGreatDoorPaBk
import Derived.Lib.SmallJoins
namespace Go.Proofs.YtpdehgkkpgjpnaaGreatDoor
set_option maxRecDepth 100000
open Go.ChangeShapes Go.WideShapes Go.ChangeAt Go.RowKit
theorem list14 {α : Type} {l : List α} (h : l.length = 14) : ∃ c0 c1 c2 c3 c4 c5 c6 c7 c8 c9 c10 c11 c12 c13, l = [c0, c1, c2, c3, c4, c5, c6, c7, c8, c9, c10, c11, c12, c13] := by
  match l, h with
  | [c0, c1, c2, c3, c4, c5, c6, c7, c8, c9, c10, c11, c12, c13], _ => exact ⟨c0, c1, c2, c3, c4, c5, c6, c7, c8, c9, c10, c11, c12, c13, rfl⟩
theorem array14 {α : Type} {cs : Array α} (h : cs.size = 14) : ∃ c0 c1 c2 c3 c4 c5 c6 c7 c8 c9 c10 c11 c12 c13, cs = #[c0, c1, c2, c3, c4, c5, c6, c7, c8, c9, c10, c11, c12, c13] := by
  obtain ⟨l⟩ := cs
  obtain ⟨c0, c1, c2, c3, c4, c5, c6, c7, c8, c9, c10, c11, c12, c13, rfl⟩ := list14 (by simpa using h)
  exact ⟨c0, c1, c2, c3, c4, c5, c6, c7, c8, c9, c10, c11, c12, c13, rfl⟩
section
variable {H : Type} {enc : TypeId × Value → H} {W : World} {n : Nat}
theorem sized_field {P : Program} {ts : List TypeId} {ds : List (DataW H)} (h : (DataW.weightsEach P ts ds).all (· ≤ reachBytes) = true) {j i : Nat} {t : TypeId} {fs : Array Field} {f : Field} {parts : List (DataW H)} {b : List UInt8}
    (ht : ts[j]? = some t) (hd : ds[j]? = some (.agg parts)) (hu : P.underlying t = some (.struct fs)) (hf : fs[i]? = some f) (hp : parts[i]? = some (.lit (.string b))) : b.length ≤ 281474976710656 := by
  have hm : b.length ∈ DataW.weightsEach P (fs.toList.map (·.type)) parts := DataW.weights_mem_each (j := i) (t := f.type) (by rw [List.getElem?_map, Array.getElem?_toList, hf]; rfl) hp _ (by simp [DataW.weights])
  have := List.all_eq_true.1 h _ (DataW.weights_mem_each ht hd b.length (by simp only [DataW.weights, hu]; exact hm))
  have h3 := reachBytes_lt
  have : b.length ≤ reachBytes := by simpa using this
  omega
theorem fld_bool {c : Value} {o : Option (DataW H × List MemPlace)} (h : DataW.trod enc Tryz.prog W 0 (fun _ => true) true n 4 [c] = o) (ho : o.isSome = true) : ∃ b, c = .bool b := by
  obtain ⟨y, rfl⟩ := Option.isSome_iff_exists.1 ho
  obtain ⟨b, e, _⟩ := DataW.trod_bool Tryz.underlying4 h
  injection e with e
  exact ⟨b, e⟩
theorem fld_int {c : Value} {o : Option (DataW H × List MemPlace)} (h : DataW.trod enc Tryz.prog W 0 (fun _ => true) true n 3 [c] = o) (ho : o.isSome = true) : ∃ b, c = .int .i64 b := by
  obtain ⟨y, rfl⟩ := Option.isSome_iff_exists.1 ho
  obtain ⟨b, e, _⟩ := DataW.trod_int Tryz.underlying3 h
  injection e with e
  exact ⟨b, e⟩
theorem fld_str {c : Value} {o : Option (DataW H × List MemPlace)} (h : DataW.trod enc Tryz.prog W 0 (fun _ => true) true n 9 [c] = o) (ho : o.isSome = true) : ∃ l : Txt, c = .string (mkS l) ∧ o = some (.lit (.string l), []) := by
  obtain ⟨y, rfl⟩ := Option.isSome_iff_exists.1 ho
  obtain ⟨s, e, ey, _⟩ := DataW.trod_string Tryz.underlying9 h
  injection e with e
  obtain ⟨l, rfl⟩ := mkS_of s
  exact ⟨l, e, by rw [ey, mkS_data]⟩
end
theorem arg_rcpt {H : Type} {enc : TypeId × Value → H} {W : World} {base : Nat} {v : Value} {d : DataW H} {p : List MemPlace} {ts : List TypeId} {ds : List (DataW H)} {j : Nat} (hv : Value.okWide Tryz.prog W .any base 27 v) (h : DataW.Trod enc Tryz.prog W 0 (fun _ => true) true 27 v d p)
    (hsz : (DataW.weightsEach Tryz.prog ts ds).all (· ≤ reachBytes) = true) (ht : ts[j]? = some 27) (hd : ds[j]? = some d) :
    ∃ r : RL, v = .agg #[.string (mkS r.no), .string (mkS r.kind), .string (mkS r.oc)] ∧ ShortR r := by
  obtain ⟨v0, v1, v2, y0, y1, y2, n, rfl, rfl, _, h0, h1, h2⟩ := Joins.open_agg3 Tryz.underlying27 (by kernel_rfl) (by kernel_rfl) hv h
  obtain ⟨l0, rfl, z0⟩ := fld_str h0 rfl
  obtain ⟨l1, rfl, z1⟩ := fld_str h1 rfl
  obtain ⟨l2, rfl, z2⟩ := fld_str h2 rfl
  injection z0 with z0
  injection z1 with z1
  injection z2 with z2
  subst z0 z1 z2
  exact ⟨⟨l0, l1, l2⟩, rfl, sized_field (i := 0) hsz ht hd Tryz.underlying27 rfl rfl, sized_field (i := 1) hsz ht hd Tryz.underlying27 rfl rfl, sized_field (i := 2) hsz ht hd Tryz.underlying27 rfl rfl⟩
theorem arg_mail {H : Type} {enc : TypeId × Value → H} {W : World} {base : Nat} {v : Value} {d : DataW H} {p : List MemPlace} {ts : List TypeId} {ds : List (DataW H)} {j : Nat} (hv : Value.okWide Tryz.prog W .any base 25 v) (h : DataW.Trod enc Tryz.prog W 0 (fun _ => true) true 25 v d p)
    (hsz : (DataW.weightsEach Tryz.prog ts ds).all (· ≤ reachBytes) = true) (ht : ts[j]? = some 25) (hd : ds[j]? = some d) :
    ∃ m : ML, v = .agg #[.bool m.hs, .bool m.hf, .bool m.hu, .bool m.hb, .bool m.hp, .int .i64 m.sz, .int .i64 m.fo, .int .i64 m.un, .int .i64 m.by_, .int .i64 m.pr, .string (mkS m.body), .string (mkS m.ret), .string (mkS m.env), .string (mkS m.mode)] ∧ ShortM m := by
  obtain ⟨cs, rfl, hcsz⟩ := okWide_struct Tryz.underlying25 hv
  have hC : Tryz.prog.cellsOf 25 = 14 := by kernel_rfl
  have k23 : Tryz.prog.cellsOf 23 = 5 := by kernel_rfl
  have k3 : Tryz.prog.cellsOf 3 = 1 := by kernel_rfl
  have k4 : Tryz.prog.cellsOf 4 = 1 := by kernel_rfl
  have k9 : Tryz.prog.cellsOf 9 = 1 := by kernel_rfl
  obtain ⟨c0, c1, c2, c3, c4, c5, c6, c7, c8, c9, c10, c11, c12, c13, rfl⟩ := array14 (hcsz.trans hC)
  obtain ⟨fuel, hf⟩ := h
  obtain ⟨xs, n, _, hx, _, hlen, hfs⟩ := DataW.trod_struct Tryz.underlying25 hf
  have hdd : d = .agg (xs.map (·.1)) := congrArg Prod.fst hx
  subst hdd
  have hlen' : xs.length = 10 := hlen
  have hsm : ∀ i, i < 10 → (xs[i]?).isSome = true := fun i hi => by rw [List.getElem?_eq_getElem (by omega)]; rfl
  have g0 : DataW.trod enc Tryz.prog W 0 (fun _ => true) true n 23 (([c0, c1, c2, c3, c4, c5, c6, c7, c8, c9, c10, c11, c12, c13].drop 0).take (Tryz.prog.cellsOf 23)) = xs[0]? := hfs 0 _ rfl
  rw [k23] at g0
  have g0' : DataW.trod enc Tryz.prog W 0 (fun _ => true) true n 23 [c0, c1, c2, c3, c4] = xs[0]? := g0
  obtain ⟨y, hy⟩ := Option.isSome_iff_exists.1 (hsm 0 (by decide))
  rw [hy] at g0'
  obtain ⟨zs, n', _, _, _, hlen2, hfs2⟩ := DataW.trod_struct Tryz.underlying23 g0'
  have hlen2' : zs.length = 5 := hlen2
  have hsm2 : ∀ i, i < 5 → (zs[i]?).isSome = true := fun i hi => by rw [List.getElem?_eq_getElem (by omega)]; rfl
  have b0 : DataW.trod enc Tryz.prog W 0 (fun _ => true) true n' 4 (([c0, c1, c2, c3, c4].drop 0).take (Tryz.prog.cellsOf 4)) = zs[0]? := hfs2 0 _ rfl
  rw [k4] at b0
  obtain ⟨x0, e0⟩ := fld_bool (c := c0) b0 (hsm2 0 (by decide))
  have b1 : DataW.trod enc Tryz.prog W 0 (fun _ => true) true n' 4 (([c0, c1, c2, c3, c4].drop 1).take (Tryz.prog.cellsOf 4)) = zs[1]? := hfs2 1 _ rfl
  rw [k4] at b1
  obtain ⟨x1, e1⟩ := fld_bool (c := c1) b1 (hsm2 1 (by decide))
  have b2 : DataW.trod enc Tryz.prog W 0 (fun _ => true) true n' 4 (([c0, c1, c2, c3, c4].drop 2).take (Tryz.prog.cellsOf 4)) = zs[2]? := hfs2 2 _ rfl
  rw [k4] at b2
  obtain ⟨x2, e2⟩ := fld_bool (c := c2) b2 (hsm2 2 (by decide))
  have b3 : DataW.trod enc Tryz.prog W 0 (fun _ => true) true n' 4 (([c0, c1, c2, c3, c4].drop 3).take (Tryz.prog.cellsOf 4)) = zs[3]? := hfs2 3 _ rfl
  rw [k4] at b3
  obtain ⟨x3, e3⟩ := fld_bool (c := c3) b3 (hsm2 3 (by decide))
  have b4 : DataW.trod enc Tryz.prog W 0 (fun _ => true) true n' 4 (([c0, c1, c2, c3, c4].drop 4).take (Tryz.prog.cellsOf 4)) = zs[4]? := hfs2 4 _ rfl
  rw [k4] at b4
  obtain ⟨x4, e4⟩ := fld_bool (c := c4) b4 (hsm2 4 (by decide))
  have i0 : DataW.trod enc Tryz.prog W 0 (fun _ => true) true n 3 (([c0, c1, c2, c3, c4, c5, c6, c7, c8, c9, c10, c11, c12, c13].drop 5).take (Tryz.prog.cellsOf 3)) = xs[1]? := hfs 1 _ rfl
  rw [k3] at i0
  obtain ⟨n0, f0⟩ := fld_int (c := c5) i0 (hsm 1 (by decide))
  have i1 : DataW.trod enc Tryz.prog W 0 (fun _ => true) true n 3 (([c0, c1, c2, c3, c4, c5, c6, c7, c8, c9, c10, c11, c12, c13].drop 6).take (Tryz.prog.cellsOf 3)) = xs[2]? := hfs 2 _ rfl
  rw [k3] at i1
  obtain ⟨n1, f1⟩ := fld_int (c := c6) i1 (hsm 2 (by decide))
  have i2 : DataW.trod enc Tryz.prog W 0 (fun _ => true) true n 3 (([c0, c1, c2, c3, c4, c5, c6, c7, c8, c9, c10, c11, c12, c13].drop 7).take (Tryz.prog.cellsOf 3)) = xs[3]? := hfs 3 _ rfl
  rw [k3] at i2
  obtain ⟨n2, f2⟩ := fld_int (c := c7) i2 (hsm 3 (by decide))
  have i3 : DataW.trod enc Tryz.prog W 0 (fun _ => true) true n 3 (([c0, c1, c2, c3, c4, c5, c6, c7, c8, c9, c10, c11, c12, c13].drop 8).take (Tryz.prog.cellsOf 3)) = xs[4]? := hfs 4 _ rfl
  rw [k3] at i3
  obtain ⟨n3, f3⟩ := fld_int (c := c8) i3 (hsm 4 (by decide))
  have i4 : DataW.trod enc Tryz.prog W 0 (fun _ => true) true n 3 (([c0, c1, c2, c3, c4, c5, c6, c7, c8, c9, c10, c11, c12, c13].drop 9).take (Tryz.prog.cellsOf 3)) = xs[5]? := hfs 5 _ rfl
  rw [k3] at i4
  obtain ⟨n4, f4⟩ := fld_int (c := c9) i4 (hsm 5 (by decide))
  have s0 : DataW.trod enc Tryz.prog W 0 (fun _ => true) true n 9 (([c0, c1, c2, c3, c4, c5, c6, c7, c8, c9, c10, c11, c12, c13].drop 10).take (Tryz.prog.cellsOf 9)) = xs[6]? := hfs 6 _ rfl
  rw [k9] at s0
  obtain ⟨l0, q0, z0⟩ := fld_str (c := c10) s0 (hsm 6 (by decide))
  have w0 := sized_field (i := 6) hsz ht hd Tryz.underlying25 rfl (by rw [List.getElem?_map, z0]; rfl)
  have s1 : DataW.trod enc Tryz.prog W 0 (fun _ => true) true n 9 (([c0, c1, c2, c3, c4, c5, c6, c7, c8, c9, c10, c11, c12, c13].drop 11).take (Tryz.prog.cellsOf 9)) = xs[7]? := hfs 7 _ rfl
  rw [k9] at s1
  obtain ⟨l1, q1, z1⟩ := fld_str (c := c11) s1 (hsm 7 (by decide))
  have w1 := sized_field (i := 7) hsz ht hd Tryz.underlying25 rfl (by rw [List.getElem?_map, z1]; rfl)
  have s2 : DataW.trod enc Tryz.prog W 0 (fun _ => true) true n 9 (([c0, c1, c2, c3, c4, c5, c6, c7, c8, c9, c10, c11, c12, c13].drop 12).take (Tryz.prog.cellsOf 9)) = xs[8]? := hfs 8 _ rfl
  rw [k9] at s2
  obtain ⟨l2, q2, z2⟩ := fld_str (c := c12) s2 (hsm 8 (by decide))
  have w2 := sized_field (i := 8) hsz ht hd Tryz.underlying25 rfl (by rw [List.getElem?_map, z2]; rfl)
  have s3 : DataW.trod enc Tryz.prog W 0 (fun _ => true) true n 9 (([c0, c1, c2, c3, c4, c5, c6, c7, c8, c9, c10, c11, c12, c13].drop 13).take (Tryz.prog.cellsOf 9)) = xs[9]? := hfs 9 _ rfl
  rw [k9] at s3
  obtain ⟨l3, q3, z3⟩ := fld_str (c := c13) s3 (hsm 9 (by decide))
  have w3 := sized_field (i := 9) hsz ht hd Tryz.underlying25 rfl (by rw [List.getElem?_map, z3]; rfl)
  exact ⟨⟨x0, x1, x2, x3, x4, n0, n1, n2, n3, n4, l0, l1, l2, l3⟩, by rw [e0, e1, e2, e3, e4, f0, f1, f2, f3, f4, q0, q1, q2, q3], w0, w1, w2, w3⟩
end Go.Proofs.YtpdehgkkpgjpnaaGreatDoor
