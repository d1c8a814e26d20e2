/-
  What a command is, as the row reads it; are its texts short?
-/
import Derived.Test.YtgkjbminokgddaaGreatDoorCmLaid
import Derived.Test.YtgkjbminokgddaaGreatDoorMaCmAw
import Derived.Lib.SmallJoins
namespace Go.Proofs.YtgkjbminokgddaaGreatDoor
set_option maxRecDepth 100000
open Go.ChangeShapes Go.WideShapes Go.ChangeAt Go.RowKit
section
variable {H : Type} {enc : TypeId × Value → H} {W : World} {n : Nat}
theorem sized_field {P : Program} {ts : List TypeId} {ds : List (DataW H)} (h : (DataW.weightsEach P ts ds).all (· ≤ reachBytes) = true) {j i : Nat} {t : TypeId} {fs : Array Field} {f : Field} {parts : List (DataW H)} {b : List UInt8}
    (ht : ts[j]? = some t) (hd : ds[j]? = some (.agg parts)) (hu : P.underlying t = some (.struct fs)) (hf : fs[i]? = some f) (hp : parts[i]? = some (.lit (.string b))) : b.length ≤ 281474976710656 := by
  have hm : b.length ∈ DataW.weightsEach P (fs.toList.map (·.type)) parts := DataW.weights_mem_each (j := i) (t := f.type) (by rw [List.getElem?_map, Array.getElem?_toList, hf]; rfl) hp _ (by simp [DataW.weights])
  have := List.all_eq_true.1 h _ (DataW.weights_mem_each ht hd b.length (by simp only [DataW.weights, hu]; exact hm))
  have h3 := reachBytes_lt
  have : b.length ≤ reachBytes := by simpa using this
  omega
theorem fld_bool {c : Value} {o : Option (DataW H × List MemPlace)} (h : DataW.trod enc Tryz.prog W 0 (fun _ => true) true n 4 [c] = o) (ho : o.isSome = true) : ∃ b, c = .bool b := by
  obtain ⟨y, rfl⟩ := Option.isSome_iff_exists.1 ho
  obtain ⟨b, e, _⟩ := DataW.trod_bool Tryz.underlying4 h
  injection e with e
  exact ⟨b, e⟩
theorem fld_int {c : Value} {o : Option (DataW H × List MemPlace)} (h : DataW.trod enc Tryz.prog W 0 (fun _ => true) true n 3 [c] = o) (ho : o.isSome = true) : ∃ b, c = .int .i64 b := by
  obtain ⟨y, rfl⟩ := Option.isSome_iff_exists.1 ho
  obtain ⟨b, e, _⟩ := DataW.trod_int Tryz.underlying3 h
  injection e with e
  exact ⟨b, e⟩
theorem fld_str {c : Value} {o : Option (DataW H × List MemPlace)} (h : DataW.trod enc Tryz.prog W 0 (fun _ => true) true n 9 [c] = o) (ho : o.isSome = true) : ∃ l : Txt, c = .string (mkS l) ∧ o = some (.lit (.string l), []) := by
  obtain ⟨y, rfl⟩ := Option.isSome_iff_exists.1 ho
  obtain ⟨s, e, ey, _⟩ := DataW.trod_string Tryz.underlying9 h
  injection e with e
  obtain ⟨l, rfl⟩ := mkS_of s
  exact ⟨l, e, by rw [ey, mkS_data]⟩
end
theorem sized_field2 {H : Type} {P : Program} {ts : List TypeId} {ds : List (DataW H)} (h : (DataW.weightsEach P ts ds).all (· ≤ reachBytes) = true) {j i k : Nat} {t t2 : TypeId} {fs fs2 : Array Field} {f f2 : Field} {parts parts2 : List (DataW H)} {b : List UInt8}
    (ht : ts[j]? = some t) (hd : ds[j]? = some (.agg parts)) (hu : P.underlying t = some (.struct fs)) (hf : fs[i]? = some f) (hft : f.type = t2) (hp : parts[i]? = some (.agg parts2)) (hu2 : P.underlying t2 = some (.struct fs2)) (hf2 : fs2[k]? = some f2) (hp2 : parts2[k]? = some (.lit (.string b))) : b.length ≤ 281474976710656 := by
  have hm2 : b.length ∈ DataW.weightsEach P (fs2.toList.map (·.type)) parts2 := DataW.weights_mem_each (j := k) (t := f2.type) (by rw [List.getElem?_map, Array.getElem?_toList, hf2]; rfl) hp2 _ (by simp [DataW.weights])
  have hm : b.length ∈ DataW.weightsEach P (fs.toList.map (·.type)) parts := DataW.weights_mem_each (j := i) (t := f.type) (by rw [List.getElem?_map, Array.getElem?_toList, hf]; rfl) hp b.length (by rw [hft]; simp only [DataW.weights, hu2]; exact hm2)
  have := List.all_eq_true.1 h _ (DataW.weights_mem_each ht hd b.length (by simp only [DataW.weights, hu]; exact hm))
  have h3 := reachBytes_lt
  have : b.length ≤ reachBytes := by simpa using this
  omega
theorem list21 {α : Type} {l : List α} (h : l.length = 21) : ∃ c0 c1 c2 c3 c4 c5 c6 c7 c8 c9 c10 c11 c12 c13 c14 c15 c16 c17 c18 c19 c20, l = [c0, c1, c2, c3, c4, c5, c6, c7, c8, c9, c10, c11, c12, c13, c14, c15, c16, c17, c18, c19, c20] := by
  match l, h with
  | [c0, c1, c2, c3, c4, c5, c6, c7, c8, c9, c10, c11, c12, c13, c14, c15, c16, c17, c18, c19, c20], _ => exact ⟨c0, c1, c2, c3, c4, c5, c6, c7, c8, c9, c10, c11, c12, c13, c14, c15, c16, c17, c18, c19, c20, rfl⟩
theorem array21 {α : Type} {cs : Array α} (h : cs.size = 21) : ∃ c0 c1 c2 c3 c4 c5 c6 c7 c8 c9 c10 c11 c12 c13 c14 c15 c16 c17 c18 c19 c20, cs = #[c0, c1, c2, c3, c4, c5, c6, c7, c8, c9, c10, c11, c12, c13, c14, c15, c16, c17, c18, c19, c20] := by
  obtain ⟨l⟩ := cs
  obtain ⟨c0, c1, c2, c3, c4, c5, c6, c7, c8, c9, c10, c11, c12, c13, c14, c15, c16, c17, c18, c19, c20, rfl⟩ := list21 (by simpa using h)
  exact ⟨c0, c1, c2, c3, c4, c5, c6, c7, c8, c9, c10, c11, c12, c13, c14, c15, c16, c17, c18, c19, c20, rfl⟩
theorem arg_u8 {H : Type} {enc : TypeId × Value → H} {W : World} {base : Nat} {v : Value} {d : DataW H} {p : List MemPlace} {t : TypeId} (ht : Tryz.prog.underlying t = some (.int .u8)) (hv : Value.okWide Tryz.prog W .any base t v) (h : DataW.Trod enc Tryz.prog W 0 (fun _ => true) true t v d p) :
    ∃ b : UInt8, v = .int .u8 (b.toNat : Int) := by
  obtain ⟨n, rfl, w1, w2⟩ := arg_int ht hv h
  have h1 : (0 : Int) ≤ n := w1
  have h2 : n ≤ 255 := w2
  refine ⟨UInt8.ofNat n.toNat, ?_⟩
  have : ((UInt8.ofNat n.toNat).toNat : Int) = n := by simp; omega
  rw [this]
structure ShortC (c : CL) : Prop where
  verb : c.verb.length ≤ 281474976710656
  arg : c.arg.length ≤ 281474976710656
  p1 : c.p.1.length ≤ 281474976710656
  p2 : c.p.2.length ≤ 281474976710656
  m : ShortM c.m
  r : ShortR c.r
set_option maxHeartbeats 4000000 in
theorem arg_cmd {H : Type} {enc : TypeId × Value → H} {W : World} {base : Nat} {v : Value} {d : DataW H} {p : List MemPlace} {ts : List TypeId} {ds : List (DataW H)} {j : Nat} (hv : Value.okWide Tryz.prog W .any base 31 v) (h : DataW.Trod enc Tryz.prog W 0 (fun _ => true) true 31 v d p)
    (hsz : (DataW.weightsEach Tryz.prog ts ds).all (· ≤ reachBytes) = true) (ht : ts[j]? = some 31) (hd : ds[j]? = some d) :
    ∃ c : CL, v = .agg #[.string (mkS c.verb), .string (mkS c.arg), .string (mkS c.p.1), .string (mkS c.p.2), .bool c.m.hs, .bool c.m.hf, .bool c.m.hu, .bool c.m.hb, .bool c.m.hp, .int .i64 c.m.sz, .int .i64 c.m.fo, .int .i64 c.m.un, .int .i64 c.m.by_, .int .i64 c.m.pr, .string (mkS c.m.body), .string (mkS c.m.ret), .string (mkS c.m.env), .string (mkS c.m.mode), .string (mkS c.r.no), .string (mkS c.r.kind), .string (mkS c.r.oc)] ∧ ShortC c := by
  obtain ⟨cs, rfl, hcsz⟩ := okWide_struct Tryz.underlying31 hv
  have hC : Tryz.prog.cellsOf 31 = 21 := by kernel_rfl
  have kH : Tryz.prog.cellsOf 25 = 5 := by kernel_rfl
  have kM : Tryz.prog.cellsOf 27 = 14 := by kernel_rfl
  have kR : Tryz.prog.cellsOf 29 = 3 := by kernel_rfl
  have kP : Tryz.prog.cellsOf 23 = 2 := by kernel_rfl
  have k3 : Tryz.prog.cellsOf 3 = 1 := by kernel_rfl
  have k4 : Tryz.prog.cellsOf 4 = 1 := by kernel_rfl
  have k9 : Tryz.prog.cellsOf 9 = 1 := by kernel_rfl
  obtain ⟨c0, c1, c2, c3, c4, c5, c6, c7, c8, c9, c10, c11, c12, c13, c14, c15, c16, c17, c18, c19, c20, rfl⟩ := array21 (hcsz.trans hC)
  obtain ⟨fuel, hf⟩ := h
  obtain ⟨xs, n, _, hx, _, hlen, hfs⟩ := DataW.trod_struct Tryz.underlying31 hf
  have hdd : d = .agg (xs.map (·.1)) := congrArg Prod.fst hx
  subst hdd
  have hlen' : xs.length = 5 := hlen
  have hsm : ∀ i, i < 5 → (xs[i]?).isSome = true := fun i hi => by rw [List.getElem?_eq_getElem (by omega)]; rfl
  have s0 : DataW.trod enc Tryz.prog W 0 (fun _ => true) true n 9 (([c0, c1, c2, c3, c4, c5, c6, c7, c8, c9, c10, c11, c12, c13, c14, c15, c16, c17, c18, c19, c20].drop 0).take (Tryz.prog.cellsOf 9)) = xs[0]? := hfs 0 _ rfl
  rw [k9] at s0
  obtain ⟨l0, q0, z0⟩ := fld_str (c := c0) s0 (hsm 0 (by decide))
  have w0 := sized_field (i := 0) hsz ht hd Tryz.underlying31 rfl (by rw [List.getElem?_map, z0]; rfl)
  have s1 : DataW.trod enc Tryz.prog W 0 (fun _ => true) true n 9 (([c0, c1, c2, c3, c4, c5, c6, c7, c8, c9, c10, c11, c12, c13, c14, c15, c16, c17, c18, c19, c20].drop 1).take (Tryz.prog.cellsOf 9)) = xs[1]? := hfs 1 _ rfl
  rw [k9] at s1
  obtain ⟨l1, q1, z1⟩ := fld_str (c := c1) s1 (hsm 1 (by decide))
  have w1 := sized_field (i := 1) hsz ht hd Tryz.underlying31 rfl (by rw [List.getElem?_map, z1]; rfl)
  have gP : DataW.trod enc Tryz.prog W 0 (fun _ => true) true n 23 (([c0, c1, c2, c3, c4, c5, c6, c7, c8, c9, c10, c11, c12, c13, c14, c15, c16, c17, c18, c19, c20].drop 2).take (Tryz.prog.cellsOf 23)) = xs[2]? := hfs 2 _ rfl
  rw [kP] at gP
  have gP' : DataW.trod enc Tryz.prog W 0 (fun _ => true) true n 23 [c2, c3] = xs[2]? := gP
  obtain ⟨yP, hyP⟩ := Option.isSome_iff_exists.1 (hsm 2 (by decide))
  rw [hyP] at gP'
  obtain ⟨zsP, nP, _, hxP, _, hlP, hfsP⟩ := DataW.trod_struct Tryz.underlying23 gP'
  have hlP' : zsP.length = 2 := hlP
  have hsmP : ∀ i, i < 2 → (zsP[i]?).isSome = true := fun i hi => by rw [List.getElem?_eq_getElem (by omega)]; rfl
  have hpP : (xs.map (·.1))[2]? = some (.agg (zsP.map (·.1))) := by rw [List.getElem?_map, hyP, hxP]; rfl
  have sP0 : DataW.trod enc Tryz.prog W 0 (fun _ => true) true nP 9 (([c2, c3].drop 0).take (Tryz.prog.cellsOf 9)) = zsP[0]? := hfsP 0 _ rfl
  rw [k9] at sP0
  obtain ⟨lP0, qP0, zP0⟩ := fld_str (c := c2) sP0 (hsmP 0 (by decide))
  have wP0 := sized_field2 (i := 2) (k := 0) hsz ht hd Tryz.underlying31 rfl rfl hpP Tryz.underlying23 rfl (by rw [List.getElem?_map, zP0]; rfl)
  have sP1 : DataW.trod enc Tryz.prog W 0 (fun _ => true) true nP 9 (([c2, c3].drop 1).take (Tryz.prog.cellsOf 9)) = zsP[1]? := hfsP 1 _ rfl
  rw [k9] at sP1
  obtain ⟨lP1, qP1, zP1⟩ := fld_str (c := c3) sP1 (hsmP 1 (by decide))
  have wP1 := sized_field2 (i := 2) (k := 1) hsz ht hd Tryz.underlying31 rfl rfl hpP Tryz.underlying23 rfl (by rw [List.getElem?_map, zP1]; rfl)
  have gM : DataW.trod enc Tryz.prog W 0 (fun _ => true) true n 27 (([c0, c1, c2, c3, c4, c5, c6, c7, c8, c9, c10, c11, c12, c13, c14, c15, c16, c17, c18, c19, c20].drop 4).take (Tryz.prog.cellsOf 27)) = xs[3]? := hfs 3 _ rfl
  rw [kM] at gM
  have gM' : DataW.trod enc Tryz.prog W 0 (fun _ => true) true n 27 [c4, c5, c6, c7, c8, c9, c10, c11, c12, c13, c14, c15, c16, c17] = xs[3]? := gM
  obtain ⟨yM, hyM⟩ := Option.isSome_iff_exists.1 (hsm 3 (by decide))
  rw [hyM] at gM'
  obtain ⟨zsM, nM, _, hxM, _, hlM, hfsM⟩ := DataW.trod_struct Tryz.underlying27 gM'
  have hlM' : zsM.length = 10 := hlM
  have hsmM : ∀ i, i < 10 → (zsM[i]?).isSome = true := fun i hi => by rw [List.getElem?_eq_getElem (by omega)]; rfl
  have hpM : (xs.map (·.1))[3]? = some (.agg (zsM.map (·.1))) := by rw [List.getElem?_map, hyM, hxM]; rfl
  have gH : DataW.trod enc Tryz.prog W 0 (fun _ => true) true nM 25 (([c4, c5, c6, c7, c8, c9, c10, c11, c12, c13, c14, c15, c16, c17].drop 0).take (Tryz.prog.cellsOf 25)) = zsM[0]? := hfsM 0 _ rfl
  rw [kH] at gH
  have gH' : DataW.trod enc Tryz.prog W 0 (fun _ => true) true nM 25 [c4, c5, c6, c7, c8] = zsM[0]? := gH
  obtain ⟨yH, hyH⟩ := Option.isSome_iff_exists.1 (hsmM 0 (by decide))
  rw [hyH] at gH'
  obtain ⟨zsH, nH, _, _, _, hlH, hfsH⟩ := DataW.trod_struct Tryz.underlying25 gH'
  have hlH' : zsH.length = 5 := hlH
  have hsmH : ∀ i, i < 5 → (zsH[i]?).isSome = true := fun i hi => by rw [List.getElem?_eq_getElem (by omega)]; rfl
  have b0 : DataW.trod enc Tryz.prog W 0 (fun _ => true) true nH 4 (([c4, c5, c6, c7, c8].drop 0).take (Tryz.prog.cellsOf 4)) = zsH[0]? := hfsH 0 _ rfl
  rw [k4] at b0
  obtain ⟨x0, e0⟩ := fld_bool (c := c4) b0 (hsmH 0 (by decide))
  have b1 : DataW.trod enc Tryz.prog W 0 (fun _ => true) true nH 4 (([c4, c5, c6, c7, c8].drop 1).take (Tryz.prog.cellsOf 4)) = zsH[1]? := hfsH 1 _ rfl
  rw [k4] at b1
  obtain ⟨x1, e1⟩ := fld_bool (c := c5) b1 (hsmH 1 (by decide))
  have b2 : DataW.trod enc Tryz.prog W 0 (fun _ => true) true nH 4 (([c4, c5, c6, c7, c8].drop 2).take (Tryz.prog.cellsOf 4)) = zsH[2]? := hfsH 2 _ rfl
  rw [k4] at b2
  obtain ⟨x2, e2⟩ := fld_bool (c := c6) b2 (hsmH 2 (by decide))
  have b3 : DataW.trod enc Tryz.prog W 0 (fun _ => true) true nH 4 (([c4, c5, c6, c7, c8].drop 3).take (Tryz.prog.cellsOf 4)) = zsH[3]? := hfsH 3 _ rfl
  rw [k4] at b3
  obtain ⟨x3, e3⟩ := fld_bool (c := c7) b3 (hsmH 3 (by decide))
  have b4 : DataW.trod enc Tryz.prog W 0 (fun _ => true) true nH 4 (([c4, c5, c6, c7, c8].drop 4).take (Tryz.prog.cellsOf 4)) = zsH[4]? := hfsH 4 _ rfl
  rw [k4] at b4
  obtain ⟨x4, e4⟩ := fld_bool (c := c8) b4 (hsmH 4 (by decide))
  have i0 : DataW.trod enc Tryz.prog W 0 (fun _ => true) true nM 3 (([c4, c5, c6, c7, c8, c9, c10, c11, c12, c13, c14, c15, c16, c17].drop 5).take (Tryz.prog.cellsOf 3)) = zsM[1]? := hfsM 1 _ rfl
  rw [k3] at i0
  obtain ⟨m0, f0⟩ := fld_int (c := c9) i0 (hsmM 1 (by decide))
  have i1 : DataW.trod enc Tryz.prog W 0 (fun _ => true) true nM 3 (([c4, c5, c6, c7, c8, c9, c10, c11, c12, c13, c14, c15, c16, c17].drop 6).take (Tryz.prog.cellsOf 3)) = zsM[2]? := hfsM 2 _ rfl
  rw [k3] at i1
  obtain ⟨m1, f1⟩ := fld_int (c := c10) i1 (hsmM 2 (by decide))
  have i2 : DataW.trod enc Tryz.prog W 0 (fun _ => true) true nM 3 (([c4, c5, c6, c7, c8, c9, c10, c11, c12, c13, c14, c15, c16, c17].drop 7).take (Tryz.prog.cellsOf 3)) = zsM[3]? := hfsM 3 _ rfl
  rw [k3] at i2
  obtain ⟨m2, f2⟩ := fld_int (c := c11) i2 (hsmM 3 (by decide))
  have i3 : DataW.trod enc Tryz.prog W 0 (fun _ => true) true nM 3 (([c4, c5, c6, c7, c8, c9, c10, c11, c12, c13, c14, c15, c16, c17].drop 8).take (Tryz.prog.cellsOf 3)) = zsM[4]? := hfsM 4 _ rfl
  rw [k3] at i3
  obtain ⟨m3, f3⟩ := fld_int (c := c12) i3 (hsmM 4 (by decide))
  have i4 : DataW.trod enc Tryz.prog W 0 (fun _ => true) true nM 3 (([c4, c5, c6, c7, c8, c9, c10, c11, c12, c13, c14, c15, c16, c17].drop 9).take (Tryz.prog.cellsOf 3)) = zsM[5]? := hfsM 5 _ rfl
  rw [k3] at i4
  obtain ⟨m4, f4⟩ := fld_int (c := c13) i4 (hsmM 5 (by decide))
  have sM0 : DataW.trod enc Tryz.prog W 0 (fun _ => true) true nM 9 (([c4, c5, c6, c7, c8, c9, c10, c11, c12, c13, c14, c15, c16, c17].drop 10).take (Tryz.prog.cellsOf 9)) = zsM[6]? := hfsM 6 _ rfl
  rw [k9] at sM0
  obtain ⟨lM0, qM0, zM0⟩ := fld_str (c := c14) sM0 (hsmM 6 (by decide))
  have wM0 := sized_field2 (i := 3) (k := 6) hsz ht hd Tryz.underlying31 rfl rfl hpM Tryz.underlying27 rfl (by rw [List.getElem?_map, zM0]; rfl)
  have sM1 : DataW.trod enc Tryz.prog W 0 (fun _ => true) true nM 9 (([c4, c5, c6, c7, c8, c9, c10, c11, c12, c13, c14, c15, c16, c17].drop 11).take (Tryz.prog.cellsOf 9)) = zsM[7]? := hfsM 7 _ rfl
  rw [k9] at sM1
  obtain ⟨lM1, qM1, zM1⟩ := fld_str (c := c15) sM1 (hsmM 7 (by decide))
  have wM1 := sized_field2 (i := 3) (k := 7) hsz ht hd Tryz.underlying31 rfl rfl hpM Tryz.underlying27 rfl (by rw [List.getElem?_map, zM1]; rfl)
  have sM2 : DataW.trod enc Tryz.prog W 0 (fun _ => true) true nM 9 (([c4, c5, c6, c7, c8, c9, c10, c11, c12, c13, c14, c15, c16, c17].drop 12).take (Tryz.prog.cellsOf 9)) = zsM[8]? := hfsM 8 _ rfl
  rw [k9] at sM2
  obtain ⟨lM2, qM2, zM2⟩ := fld_str (c := c16) sM2 (hsmM 8 (by decide))
  have wM2 := sized_field2 (i := 3) (k := 8) hsz ht hd Tryz.underlying31 rfl rfl hpM Tryz.underlying27 rfl (by rw [List.getElem?_map, zM2]; rfl)
  have sM3 : DataW.trod enc Tryz.prog W 0 (fun _ => true) true nM 9 (([c4, c5, c6, c7, c8, c9, c10, c11, c12, c13, c14, c15, c16, c17].drop 13).take (Tryz.prog.cellsOf 9)) = zsM[9]? := hfsM 9 _ rfl
  rw [k9] at sM3
  obtain ⟨lM3, qM3, zM3⟩ := fld_str (c := c17) sM3 (hsmM 9 (by decide))
  have wM3 := sized_field2 (i := 3) (k := 9) hsz ht hd Tryz.underlying31 rfl rfl hpM Tryz.underlying27 rfl (by rw [List.getElem?_map, zM3]; rfl)
  have gR : DataW.trod enc Tryz.prog W 0 (fun _ => true) true n 29 (([c0, c1, c2, c3, c4, c5, c6, c7, c8, c9, c10, c11, c12, c13, c14, c15, c16, c17, c18, c19, c20].drop 18).take (Tryz.prog.cellsOf 29)) = xs[4]? := hfs 4 _ rfl
  rw [kR] at gR
  have gR' : DataW.trod enc Tryz.prog W 0 (fun _ => true) true n 29 [c18, c19, c20] = xs[4]? := gR
  obtain ⟨yR, hyR⟩ := Option.isSome_iff_exists.1 (hsm 4 (by decide))
  rw [hyR] at gR'
  obtain ⟨zsR, nR, _, hxR, _, hlR, hfsR⟩ := DataW.trod_struct Tryz.underlying29 gR'
  have hlR' : zsR.length = 3 := hlR
  have hsmR : ∀ i, i < 3 → (zsR[i]?).isSome = true := fun i hi => by rw [List.getElem?_eq_getElem (by omega)]; rfl
  have hpR : (xs.map (·.1))[4]? = some (.agg (zsR.map (·.1))) := by rw [List.getElem?_map, hyR, hxR]; rfl
  have sR0 : DataW.trod enc Tryz.prog W 0 (fun _ => true) true nR 9 (([c18, c19, c20].drop 0).take (Tryz.prog.cellsOf 9)) = zsR[0]? := hfsR 0 _ rfl
  rw [k9] at sR0
  obtain ⟨lR0, qR0, zR0⟩ := fld_str (c := c18) sR0 (hsmR 0 (by decide))
  have wR0 := sized_field2 (i := 4) (k := 0) hsz ht hd Tryz.underlying31 rfl rfl hpR Tryz.underlying29 rfl (by rw [List.getElem?_map, zR0]; rfl)
  have sR1 : DataW.trod enc Tryz.prog W 0 (fun _ => true) true nR 9 (([c18, c19, c20].drop 1).take (Tryz.prog.cellsOf 9)) = zsR[1]? := hfsR 1 _ rfl
  rw [k9] at sR1
  obtain ⟨lR1, qR1, zR1⟩ := fld_str (c := c19) sR1 (hsmR 1 (by decide))
  have wR1 := sized_field2 (i := 4) (k := 1) hsz ht hd Tryz.underlying31 rfl rfl hpR Tryz.underlying29 rfl (by rw [List.getElem?_map, zR1]; rfl)
  have sR2 : DataW.trod enc Tryz.prog W 0 (fun _ => true) true nR 9 (([c18, c19, c20].drop 2).take (Tryz.prog.cellsOf 9)) = zsR[2]? := hfsR 2 _ rfl
  rw [k9] at sR2
  obtain ⟨lR2, qR2, zR2⟩ := fld_str (c := c20) sR2 (hsmR 2 (by decide))
  have wR2 := sized_field2 (i := 4) (k := 2) hsz ht hd Tryz.underlying31 rfl rfl hpR Tryz.underlying29 rfl (by rw [List.getElem?_map, zR2]; rfl)
  exact ⟨⟨l0, l1, (lP0, lP1), ⟨x0, x1, x2, x3, x4, m0, m1, m2, m3, m4, lM0, lM1, lM2, lM3⟩, ⟨lR0, lR1, lR2⟩⟩, by rw [q0, q1, qP0, qP1, e0, e1, e2, e3, e4, f0, f1, f2, f3, f4, qM0, qM1, qM2, qM3, qR0, qR1, qR2], w0, w1, wP0, wP1, ⟨wM0, wM1, wM2, wM3⟩, ⟨wR0, wR1, wR2⟩⟩
def csmB (c : CL) : Bool := decide (c.verb.length + c.arg.length + c.p.1.length + c.p.2.length ≤ 2000) && smallB c.m c.r
theorem csm_fit {c : CL} (h : csmB c = true) : Fit c := by
  unfold csmB smallB at h
  simp only [Bool.and_eq_true, decide_eq_true_eq] at h
  obtain ⟨h1, h2, h3⟩ := h
  exact ⟨by omega, by omega, by omega, by omega, by omega⟩
set_option maxHeartbeats 8000000 in
theorem csmall_x (c : CL) (w : World) (hc : ShortC c) : Calls Tryz.prog 6 #[.agg #[.string (mkS c.verb), .string (mkS c.arg), .string (mkS c.p.1), .string (mkS c.p.2), .bool c.m.hs, .bool c.m.hf, .bool c.m.hu, .bool c.m.hb, .bool c.m.hp, .int .i64 c.m.sz, .int .i64 c.m.fo, .int .i64 c.m.un, .int .i64 c.m.by_, .int .i64 c.m.pr, .string (mkS c.m.body), .string (mkS c.m.ret), .string (mkS c.m.env), .string (mkS c.m.mode), .string (mkS c.r.no), .string (mkS c.r.kind), .string (mkS c.r.oc)]] w fun e w' => e = .returned (.bool (csmB c)) ∧ Below w.heap.size w w' := by
  obtain ⟨h1, h2, h3, h4, h5, h6⟩ := hc
  have HS := Lib.hid (fun w => small_x c.m c.r w h5 h6)
  have z1 := mkS_size c.verb
  have z2 := mkS_size c.arg
  have z3 := mkS_size c.p.1
  have z4 := mkS_size c.p.2
  have HB := Lib.hid (show KB w w.heap.size c (w.alloc (.cells #[.string (mkS c.verb), .string (mkS c.arg), .string (mkS c.p.1), .string (mkS c.p.2), .bool c.m.hs, .bool c.m.hf, .bool c.m.hu, .bool c.m.hb, .bool c.m.hp, .int .i64 c.m.sz, .int .i64 c.m.fo, .int .i64 c.m.un, .int .i64 c.m.by_, .int .i64 c.m.pr, .string (mkS c.m.body), .string (mkS c.m.ret), .string (mkS c.m.env), .string (mkS c.m.mode), .string (mkS c.r.no), .string (mkS c.r.kind), .string (mkS c.r.oc)] 31)) from ⟨newOf w _, P.below_box w _⟩)
  have HV := Lib.hid (show csmB c = (decide (c.verb.length + c.arg.length + c.p.1.length + c.p.2.length ≤ 2000) && smallB c.m c.r) from rfl)
  generalize smallB c.m c.r = q at HS HV
  have q1 : IntKind.i64.wrap ((c.verb.length : Int) + c.arg.length) = c.verb.length + c.arg.length := IntWalk.i64_in _ (by omega)
  have q2 : IntKind.i64.wrap ((c.verb.length : Int) + c.arg.length + c.p.1.length) = c.verb.length + c.arg.length + c.p.1.length := IntWalk.i64_in _ (by omega)
  have q3 : IntKind.i64.wrap ((c.verb.length : Int) + c.arg.length + c.p.1.length + c.p.2.length) = c.verb.length + c.arg.length + c.p.1.length + c.p.2.length := IntWalk.i64_in _ (by omega)
  clear h1 h2 h3 h4 h5 h6
  by_cases hl : c.verb.length + c.arg.length + c.p.1.length + c.p.2.length ≤ 2000
  · have hlI : (c.verb.length : Int) + c.arg.length + c.p.1.length + c.p.2.length ≤ 2000 := by omega
    rw [decide_eq_true hl] at HV
    clear hl
    go_enter Tryz.func6, Tryz.ntmps6
    go_wp2_with (first | (refine wpList_load_want rfl 27 _ rfl w.heap.size 4 31 (CC c) #[.bool c.m.hs, .bool c.m.hf, .bool c.m.hu, .bool c.m.hb, .bool c.m.hp, .int .i64 c.m.sz, .int .i64 c.m.fo, .int .i64 c.m.un, .int .i64 c.m.by_, .int .i64 c.m.pr, .string (mkS c.m.body), .string (mkS c.m.ret), .string (mkS c.m.env), .string (mkS c.m.mode)] _ rfl HB.out.box Tryz.underlying27 rfl (by kernel_rfl) (KB.atm c) ?_) | (refine wpList_load_want rfl 29 _ rfl w.heap.size 18 31 (CC c) #[.string (mkS c.r.no), .string (mkS c.r.kind), .string (mkS c.r.oc)] _ rfl HB.out.box Tryz.underlying29 rfl (by kernel_rfl) (KB.atr c) ?_))
    refine (HS.out _).mono ?_
    rintro e w2 ⟨rfl, hb⟩
    have HB2 := Lib.hid (HB.out.next hb).below
    clear hb
    go_wp2_with fail
    go_ret
    exact ⟨ret_bool (by rw [HV.out]; rfl), HB2.out⟩
  · have hlI : ¬ (c.verb.length : Int) + c.arg.length + c.p.1.length + c.p.2.length ≤ 2000 := by omega
    rw [decide_eq_false hl] at HV
    clear hl
    go_enter Tryz.func6, Tryz.ntmps6
    go_wp2_with fail
    go_ret
    exact ⟨ret_bool (by rw [HV.out]; rfl), HB.out.below⟩
end Go.Proofs.YtgkjbminokgddaaGreatDoor
