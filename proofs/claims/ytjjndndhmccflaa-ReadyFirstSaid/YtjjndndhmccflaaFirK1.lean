/-
  The loop of the law ReadyFirst, taken out of it.
-/
import Derived.Test.YtjjndndhmccflaaRdFst
import Derived.RegionTactic
namespace Go.Proofs.Ytjjndndhmccflaa
set_option maxRecDepth 100000
open Go.RowKit
def firstLoop : Code → Option Code
  | .loop c => some c
  | .seq a b => match firstLoop a with
    | some c => some c
    | none => firstLoop b
  | .block _ c => firstLoop c
  | .scope c => firstLoop c
  | .cond _ a b => match firstLoop a with
    | some c => some c
    | none => firstLoop b
  | _ => none
noncomputable def bodyF : Code := ((Try.f4.body.bind firstLoop).getD .skip)
set_option maxHeartbeats 16000000 in
theorem first_k1 (w wr : World) (b : Nat) (g lm : Int) (l : List Ac) (M cap : Nat) (KK : Act → World → Prop) (R : Ending → World → Prop) (u6 u11 u12 u13 u14 u15 u16 u17 u18 u19 u20 u21 u55 u56 u57 u58 u59 u60 u61 u62 u63 u64 u65 u66 u67 u68 u69 u70 u71 u72 u73 u74 u75 u76 u77 u78 u79 u80 u81 u82 u83 u84 u85 u86 u87 u88 u89 u90 u91 u92 u93 u94 u95 u96 u97 u98 u99 u100 u101 u102 u103 u104 u105 u106 u107 u108 u109 u110 u111 u112 u113 u114 u115 u116 u117 u118 u119 u120 u121 u122 u123 u124 u125 u126 u127 u128 u129 u130 u131 u132 u133 u134 u135 u136 u137 u138 u139 u140 u141 u142 u143 u144 u145 u146 u147 u148 u149 u150 u151 u152 u153 u154 u155 u156 u157 u158 u159 u160 u161 u162 u163 u164 u165 u166 u167 u168 u169 u170 u171 u172 u173 u174 u175 u176 u177 u178 u179 u180 u181 u182 u183 u184 u185 u186 u187 u188 u189 u190 u191 u192 u193 u194 u195 u196 u197 u198 u199 u200 u201 u202 u203 u204 u205 u206 u207 u208 u209 u210 u211 u212 u213 u214 u215 u216 u217 u218 u219 u220 u221 u222 u223 u224 u225 u226 u227 u228 u229 u230 u231 u232 u233 u234 u235 u236 u237 u238 u239 u240 u241 u242 u243 : Value) (k : Nat) (HLT : Hid (k < M)) (O2 : Nat → Prop) (S2 : Rq) (L2 : List Et) (A : Addr)
    (HW : Hid (rightN g lm 4096 = true ∧ (∀ (i : Nat) (c : Ac), l[i]? = some c → ∃ A_1, some A = some A_1 ∧ A_1.block < w.heap.size ∧ AcAt w (A_1.add (i * 7)) c) ∧ (1 ≤ g ∧ g ≤ 1048576) ∧ l.length ≤ 60 ∧ ∀ (c : Ac), c ∈ l → List.length c.x.dest ≤ 300))
    (ai nw xi : Int) (xd : Txt) (xp xa : Int)
    (c1 : wr.cell? { block := (A.add (k * 7)).block, off := (A.add (k * 7)).off + 1 } = some (Value.int IntKind.i64 ai))
    (c2 : wr.cell? { block := (A.add (k * 7)).block, off := (A.add (k * 7)).off + 2 } = some (Value.int IntKind.i64 nw))
    (c3 : wr.cell? { block := (A.add (k * 7)).block, off := (A.add (k * 7)).off + 3 } = some (Value.int IntKind.i64 xi))
    (c4 : wr.cell? { block := (A.add (k * 7)).block, off := (A.add (k * 7)).off + 4 } = some (Value.string (mkS xd)))
    (c5 : wr.cell? { block := (A.add (k * 7)).block, off := (A.add (k * 7)).off + 5 } = some (Value.int IntKind.i64 xp))
    (c6 : wr.cell? { block := (A.add (k * 7)).block, off := (A.add (k * 7)).off + 6 } = some (Value.int IntKind.i64 xa))
    (hkl : (k : Int) < (M : Int)) (hk60 : k ≤ 60) (N : Nat) (hlL : N ≤ k) (Ar : Option Addr) (cr : Nat)
    (HGX : Hid (∀ (gg : Nat), (Value.slice Ar N cr).ownBlock = some gg → gg < wr.heap.size)) (HN : Hid (L2.length = N)) (e1 : decide (nw < -2199023255552) = false) (e2 : decide (2199023255552 < nw) = false) (HNW : Hid (¬nw < -2199023255552 ∧ ¬2199023255552 < nw))
    (c0 : wr.cell? (A.add (k * 7)) = some (Value.int IntKind.i64 1))
    (HY : Hid (FY w O2 b [(wr.heap.size, Obj.cells #[Value.int IntKind.i64 1, Value.int IntKind.i64 ai, Value.int IntKind.i64 nw, Value.int IntKind.i64 xi, Value.string (mkS xd), Value.int IntKind.i64 xp, Value.int IntKind.i64 xa] 36 (0, 0))] S2 (Value.slice Ar N cr) L2 (wr.alloc (Obj.cells #[Value.int IntKind.i64 1, Value.int IntKind.i64 ai, Value.int IntKind.i64 nw, Value.int IntKind.i64 xi, Value.string (mkS xd), Value.int IntKind.i64 xp, Value.int IntKind.i64 xa] 36)) ∧ FP g lm k S2 L2)) :
    Code.wp Try.prog bodyF
    (Exit.then
      (fun a' w' =>
        (∃ u6 u9 u10 u11 u12 u13 u14 u15 u16 u17 u18 u19 u20 u21 u55 u56 u57 u58 u59 u60 u61 u62 u63 u64 u65 u66 u67 u68
            u69 u70 u71 u72 u73 u74 u75 u76 u77 u78 u79 u80 u81 u82 u83 u84 u85 u86 u87 u88 u89 u90 u91 u92 u93 u94 u95
            u96 u97 u98 u99 u100 u101 u102 u103 u104 u105 u106 u107 u108 u109 u110 u111 u112 u113 u114 u115 u116 u117
            u118 u119 u120 u121 u122 u123 u124 u125 u126 u127 u128 u129 u130 u131 u132 u133 u134 u135 u136 u137 u138
            u139 u140 u141 u142 u143 u144 u145 u146 u147 u148 u149 u150 u151 u152 u153 u154 u155 u156 u157 u158 u159
            u160 u161 u162 u163 u164 u165 u166 u167 u168 u169 u170 u171 u172 u173 u174 u175 u176 u177 u178 u179 u180
            u181 u182 u183 u184 u185 u186 u187 u188 u189 u190 u191 u192 u193 u194 u195 u196 u197 u198 u199 u200 u201
            u202 u203 u204 u205 u206 u207 u208 u209 u210 u211 u212 u213 u214 u215 u216 u217 u218 u219 u220 u221 u222
            u223 u224 u225 u226 u227 u228 u229 u230 u231 u232 u233 u234 u235 u236 u237 u238 u239 u240 u241 u242 u243,
            (∃ k, k ≤ M ∧ u10 = Value.int IntKind.i64 ↑k ∧ Hid (∃ O S L, FY w O b [] S u9 L w' ∧ FP g lm k S L)) ∧
              a' =
                {
                  tmps :=
                    (List.toArray (Value.int IntKind.i64 g :: Value.int IntKind.i64 lm :: Value.slice (some A) M cap :: undef :: undef :: undef :: u6 :: Value.pointer (some { block := b, off := 0 }) :: Value.int IntKind.i64 0 :: u9 :: u10 :: u11 :: u12 :: u13 :: u14 :: u15 :: u16 :: u17 :: u18 :: u19 :: u20 :: u21 :: Value.bool true :: Value.bool false :: Value.slice (some A) M cap :: Value.bool true :: Value.bool false :: Value.bool false :: Value.int IntKind.i64 g :: Value.bool false :: Value.bool false :: Value.bool false :: Value.int IntKind.i64 g :: Value.bool false :: Value.bool false :: Value.bool false :: Value.int IntKind.i64 lm :: Value.bool false :: Value.bool false :: Value.bool false :: Value.int IntKind.i64 lm :: Value.bool false :: Value.bool false :: Value.tuple #[Value.pointer (some { block := b, off := 0 }), Value.int IntKind.i64 0] :: Value.int IntKind.i64 g :: Value.int IntKind.i64 lm :: Value.tuple #[Value.pointer (some { block := b, off := 0 }), Value.int IntKind.i64 0] :: Value.pointer (some { block := b, off := 0 }) :: Value.int IntKind.i64 0 :: Value.pointer (some { block := b, off := 0 }) :: Value.bool false :: Value.bool false :: Value.int IntKind.i64 0 :: Value.bool false :: Value.bool false :: u55 :: u56 :: u57 :: u58 :: u59 :: u60 :: u61 :: u62 :: u63 :: u64 :: u65 :: u66 :: u67 :: u68 :: u69 :: u70 :: u71 :: u72 :: u73 :: u74 :: u75 :: u76 :: u77 :: u78 :: u79 :: u80 :: u81 :: u82 :: u83 :: u84 :: u85 :: u86 :: u87 :: u88 :: u89 :: u90 :: u91 :: u92 :: u93 :: u94 :: u95 :: u96 :: u97 :: u98 :: u99 :: u100 :: u101 :: u102 :: u103 :: u104 :: u105 :: u106 :: u107 :: u108 :: u109 :: u110 :: u111 :: u112 :: u113 :: u114 :: u115 :: u116 :: u117 :: u118 :: u119 :: u120 :: u121 :: u122 :: u123 :: u124 :: u125 :: u126 :: u127 :: u128 :: u129 :: u130 :: u131 :: u132 :: u133 :: u134 :: u135 :: u136 :: u137 :: u138 :: u139 :: u140 :: u141 :: u142 :: u143 :: u144 :: u145 :: u146 :: u147 :: u148 :: u149 :: u150 :: u151 :: u152 :: u153 :: u154 :: u155 :: u156 :: u157 :: u158 :: u159 :: u160 :: u161 :: u162 :: u163 :: u164 :: u165 :: u166 :: u167 :: u168 :: u169 :: u170 :: u171 :: u172 :: u173 :: u174 :: u175 :: u176 :: u177 :: u178 :: u179 :: u180 :: u181 :: u182 :: u183 :: u184 :: u185 :: u186 :: u187 :: u188 :: u189 :: u190 :: u191 :: u192 :: u193 :: u194 :: u195 :: u196 :: u197 :: u198 :: u199 :: u200 :: u201 :: u202 :: u203 :: u204 :: u205 :: u206 :: u207 :: u208 :: u209 :: u210 :: u211 :: u212 :: u213 :: u214 :: u215 :: u216 :: u217 :: u218 :: u219 :: u220 :: u221 :: u222 :: u223 :: u224 :: u225 :: u226 :: u227 :: u228 :: u229 :: u230 :: u231 :: u232 :: u233 :: u234 :: u235 :: u236 :: u237 :: u238 :: u239 :: u240 :: u241 :: u242 :: u243 :: [])),
                  defers := [] }) ∧
          M - (intOf (a'.tmps.getD 10 undef)).toNat <
            M -
              (intOf
                  ((List.toArray (Value.int IntKind.i64 g :: Value.int IntKind.i64 lm :: Value.slice (some A) M cap :: undef :: undef :: undef :: u6 :: Value.pointer (some { block := b, off := 0 }) :: Value.int IntKind.i64 0 :: Value.slice Ar N cr :: Value.int IntKind.i64 ↑k :: u11 :: u12 :: u13 :: u14 :: u15 :: u16 :: u17 :: u18 :: u19 :: u20 :: u21 :: Value.bool true :: Value.bool false :: Value.slice (some A) M cap :: Value.bool true :: Value.bool false :: Value.bool false :: Value.int IntKind.i64 g :: Value.bool false :: Value.bool false :: Value.bool false :: Value.int IntKind.i64 g :: Value.bool false :: Value.bool false :: Value.bool false :: Value.int IntKind.i64 lm :: Value.bool false :: Value.bool false :: Value.bool false :: Value.int IntKind.i64 lm :: Value.bool false :: Value.bool false :: Value.tuple #[Value.pointer (some { block := b, off := 0 }), Value.int IntKind.i64 0] :: Value.int IntKind.i64 g :: Value.int IntKind.i64 lm :: Value.tuple #[Value.pointer (some { block := b, off := 0 }), Value.int IntKind.i64 0] :: Value.pointer (some { block := b, off := 0 }) :: Value.int IntKind.i64 0 :: Value.pointer (some { block := b, off := 0 }) :: Value.bool false :: Value.bool false :: Value.int IntKind.i64 0 :: Value.bool false :: Value.bool false :: u55 :: u56 :: u57 :: u58 :: u59 :: u60 :: u61 :: u62 :: u63 :: u64 :: u65 :: u66 :: u67 :: u68 :: u69 :: u70 :: u71 :: u72 :: u73 :: u74 :: u75 :: u76 :: u77 :: u78 :: u79 :: u80 :: u81 :: u82 :: u83 :: u84 :: u85 :: u86 :: u87 :: u88 :: u89 :: u90 :: u91 :: u92 :: u93 :: u94 :: u95 :: u96 :: u97 :: u98 :: u99 :: u100 :: u101 :: u102 :: u103 :: u104 :: u105 :: u106 :: u107 :: u108 :: u109 :: u110 :: u111 :: u112 :: u113 :: u114 :: u115 :: u116 :: u117 :: u118 :: u119 :: u120 :: u121 :: u122 :: u123 :: u124 :: u125 :: u126 :: u127 :: u128 :: u129 :: u130 :: u131 :: u132 :: u133 :: u134 :: u135 :: u136 :: u137 :: u138 :: u139 :: u140 :: u141 :: u142 :: u143 :: u144 :: u145 :: u146 :: u147 :: u148 :: u149 :: u150 :: u151 :: u152 :: u153 :: u154 :: u155 :: u156 :: u157 :: u158 :: u159 :: u160 :: u161 :: u162 :: u163 :: u164 :: u165 :: u166 :: u167 :: u168 :: u169 :: u170 :: u171 :: u172 :: u173 :: u174 :: u175 :: u176 :: u177 :: u178 :: u179 :: u180 :: u181 :: u182 :: u183 :: u184 :: u185 :: u186 :: u187 :: u188 :: u189 :: u190 :: u191 :: u192 :: u193 :: u194 :: u195 :: u196 :: u197 :: u198 :: u199 :: u200 :: u201 :: u202 :: u203 :: u204 :: u205 :: u206 :: u207 :: u208 :: u209 :: u210 :: u211 :: u212 :: u213 :: u214 :: u215 :: u216 :: u217 :: u218 :: u219 :: u220 :: u221 :: u222 :: u223 :: u224 :: u225 :: u226 :: u227 :: u228 :: u229 :: u230 :: u231 :: u232 :: u233 :: u234 :: u235 :: u236 :: u237 :: u238 :: u239 :: u240 :: u241 :: u242 :: u243 :: [])).getD
                    10 undef)).toNat)
      (Exit.inBlock 0 (Exit.then KK (bodyPost Try.prog Try.f4 R))))
    {
      tmps :=
        (List.toArray (Value.int IntKind.i64 g :: Value.int IntKind.i64 lm :: Value.slice (some A) M cap :: undef :: undef :: undef :: u6 :: Value.pointer (some { block := b, off := 0 }) :: Value.int IntKind.i64 0 :: Value.slice Ar N cr :: Value.int IntKind.i64 ↑k :: u11 :: u12 :: u13 :: u14 :: u15 :: u16 :: u17 :: u18 :: u19 :: u20 :: u21 :: Value.bool true :: Value.bool false :: Value.slice (some A) M cap :: Value.bool true :: Value.bool false :: Value.bool false :: Value.int IntKind.i64 g :: Value.bool false :: Value.bool false :: Value.bool false :: Value.int IntKind.i64 g :: Value.bool false :: Value.bool false :: Value.bool false :: Value.int IntKind.i64 lm :: Value.bool false :: Value.bool false :: Value.bool false :: Value.int IntKind.i64 lm :: Value.bool false :: Value.bool false :: Value.tuple #[Value.pointer (some { block := b, off := 0 }), Value.int IntKind.i64 0] :: Value.int IntKind.i64 g :: Value.int IntKind.i64 lm :: Value.tuple #[Value.pointer (some { block := b, off := 0 }), Value.int IntKind.i64 0] :: Value.pointer (some { block := b, off := 0 }) :: Value.int IntKind.i64 0 :: Value.pointer (some { block := b, off := 0 }) :: Value.bool false :: Value.bool false :: Value.int IntKind.i64 0 :: Value.bool false :: Value.bool false :: u55 :: u56 :: u57 :: u58 :: u59 :: u60 :: u61 :: u62 :: u63 :: u64 :: u65 :: u66 :: u67 :: u68 :: u69 :: u70 :: u71 :: u72 :: u73 :: u74 :: u75 :: u76 :: u77 :: u78 :: u79 :: u80 :: u81 :: u82 :: u83 :: u84 :: u85 :: u86 :: u87 :: u88 :: u89 :: u90 :: u91 :: u92 :: u93 :: u94 :: u95 :: u96 :: u97 :: u98 :: u99 :: u100 :: u101 :: u102 :: u103 :: u104 :: u105 :: u106 :: u107 :: u108 :: u109 :: u110 :: u111 :: u112 :: u113 :: u114 :: u115 :: u116 :: u117 :: u118 :: u119 :: u120 :: u121 :: u122 :: u123 :: u124 :: u125 :: u126 :: u127 :: u128 :: u129 :: u130 :: u131 :: u132 :: u133 :: u134 :: u135 :: u136 :: u137 :: u138 :: u139 :: u140 :: u141 :: u142 :: u143 :: u144 :: u145 :: u146 :: u147 :: u148 :: u149 :: u150 :: u151 :: u152 :: u153 :: u154 :: u155 :: u156 :: u157 :: u158 :: u159 :: u160 :: u161 :: u162 :: u163 :: u164 :: u165 :: u166 :: u167 :: u168 :: u169 :: u170 :: u171 :: u172 :: u173 :: u174 :: u175 :: u176 :: u177 :: u178 :: u179 :: u180 :: u181 :: u182 :: u183 :: u184 :: u185 :: u186 :: u187 :: u188 :: u189 :: u190 :: u191 :: u192 :: u193 :: u194 :: u195 :: u196 :: u197 :: u198 :: u199 :: u200 :: u201 :: u202 :: u203 :: u204 :: u205 :: u206 :: u207 :: u208 :: u209 :: u210 :: u211 :: u212 :: u213 :: u214 :: u215 :: u216 :: u217 :: u218 :: u219 :: u220 :: u221 :: u222 :: u223 :: u224 :: u225 :: u226 :: u227 :: u228 :: u229 :: u230 :: u231 :: u232 :: u233 :: u234 :: u235 :: u236 :: u237 :: u238 :: u239 :: u240 :: u241 :: u242 :: u243 :: [])),
      defers := [] }
    wr := by
  conv => arg 2; whnf
  have f0 : ((1 : Int) == 0) = false := rfl
  have mB := make_B (wr.alloc (.cells #[.int .i64 1, .int .i64 ai, .int .i64 nw, .int .i64 xi, .string (mkS xd), .int .i64 xp, .int .i64 xa] 36))
  have hM0 := FM.made HY.out.1
  rw [show (wr.alloc (.cells #[.int .i64 1, .int .i64 ai, .int .i64 nw, .int .i64 xi, .string (mkS xd), .int .i64 xp, .int .i64 xa] 36)).heap.size = wr.heap.size + 1 by simp] at hM0
  have HM0 := Lib.hid hM0
  clear hM0
  have hnow : NowOk nw S2.age := by rw [HY.out.2.age]; exact ⟨by have := HNW.out; omega, by have := HNW.out; omega, HW.out.2.2.1.1, HW.out.2.2.1.2⟩
  have HP := Lib.hid (And.intro HY.out.2 (And.intro HY.out.1.q.ok hnow))
  clear hnow HY
  go_wp2_with fail
  clear mB c0 c1 c2 c3 c4 c5 c6
  generalize (wr.alloc (.cells #[.int .i64 1, .int .i64 ai, .int .i64 nw, .int .i64 xi, .string (mkS xd), .int .i64 xp, .int .i64 xa] 36)).alloc (.map #[] 0) = w5 at HM0
  generalize wr.heap.size = X at HM0 HGX
  go_loopw [13] (fun si wx => ∃ j : Nat, j ≤ N ∧ si = .int .i64 j ∧ Hid (FM w O2 b [(X, .cells #[.int .i64 1, .int .i64 ai, .int .i64 nw, .int .i64 xi, .string (mkS xd), .int .i64 xp, .int .i64 xa] 36 (0, 0))] (X + 1) (frM (frG S2 L2) j) S2 (.slice Ar N cr) L2 wx)) (fun si _ => N - (intOf si).toNat)
  case atStart => exact ⟨0, Nat.zero_le _, rfl, HM0⟩
  case round =>
    obtain ⟨j, hjN, rfl, HJ⟩ := hrel
    by_cases hjl : j < N
    · have HJL := Lib.hid hjl
      have hN60 : N ≤ 60 := by omega
      obtain ⟨y, hy⟩ : ∃ y, L2[j]? = some y := ⟨_, List.getElem?_eq_getElem (by have := HN.out; omega)⟩
      obtain ⟨gB, cap', cur, hv, _, _, hcap2, _⟩ := HJ.out.y.row.form (by have := HN.out; omega)
      rw [HN.out] at hv hcap2
      injection hv with hv1 _ hv3
      subst hv1
      subst hv3
      have hrow := HJ.out.y.row
      have hyk := HP.out.1.okl HP.out.2.1 y (List.mem_of_getElem? hy)
      obtain ⟨cn, hcn⟩ : ∃ c, cnt S2.F y.dest = c := ⟨_, rfl⟩
      obtain ⟨f, hf⟩ : ∃ f, decide (cn < lm) = f := ⟨_, rfl⟩
      have hfr : frG S2 L2 j = f := by unfold frG; rw [hy]; show decide (cnt S2.F y.dest < S2.lim) = f; rw [hcn, HP.out.1.lim, hf]
      have hfl := flying_h HJ.out.y.q y.dest (by omega)
      rw [hcn] at hfl
      have HFl := Lib.hid hfl
      have hjn : Nm (j : Int) := ⟨by omega, by omega⟩
      obtain ⟨w6, run6, j6, t6⟩ := HJ.out.j.putB (n := (j : Int)) (.bool f) hjn (by rw [frM_len]; omega)
      rw [frM_filter, ← hfr] at j6
      have HJ6 := Lib.hid (HJ.out.put (J' := frM (frG S2 L2) (j + 1)) j6 t6)
      rw [← HN.out] at hrow
      have y1 : wr.cell? ⟨gB, j * 4 + 1, none⟩ = some (.string (mkS y.dest)) := hrow.get hy (c := 1) (by omega)
      have hjI : (j : Int) < (N : Int) := by omega
      clear hrow hyk hfl hjn j6 t6 hfr hcn hy
      go_wp2_with fail
      refine HFl.out.mono ?_
      rintro e w7 ⟨rfl, rfl⟩
      go_wp2_with fail
      go_roundw
      case rel => exact ⟨j + 1, by have := HJL.out; omega, by go_num, HJ6⟩
      case measure => have := HJL.out; simp [intOf]; omega
    · obtain rfl : j = N := by omega
      have a2 := cellOf (HJ.out.y.kp _ (List.mem_cons_self ..)).1 2
      have HJ0 := Lib.hid (take_h HJ.out.y.q nw HP.out.2.2)
      go_wp2_with fail
      refine HJ0.out.mono ?_
      rintro e w7 ⟨rfl, hq7, hs7⟩
      have hF7 := HJ.out.step hq7 hs7
      have hlX := hlt (hF7.y.kp _ (List.mem_cons_self ..)).1
      cases htk : takeE S2 nw with
      | none =>
        have h1 : tkE S2 nw = zEt := by unfold tkE; rw [htk]
        have h2 : tkB S2 nw = false := by unfold tkB; rw [htk]; rfl
        rw [h1, h2]
        have HP8 := Lib.hid (And.intro (HP.out.1.takeN htk) (fun i => take_no_free HP.out.1 htk i))
        have HF8 := Lib.hid (hF7.below (below_box w7 (.cells (ecs zEt) 34)))
        clear hF7 hq7 hs7 hlX htk h1 h2 a2
        go_wp2_with fail
        go_loopw [16, 17] (fun sv si wx => ∃ i : Nat, i ≤ j ∧ sv = .int .i64 (-1) ∧ si = .int .i64 i ∧ Hid (FM w O2 b [(X, .cells #[.int .i64 1, .int .i64 ai, .int .i64 nw, .int .i64 xi, .string (mkS xd), .int .i64 xp, .int .i64 xa] 36 (0, 0))] (X + 1) (frM (frG S2 L2) j) (takeQ S2 nw) (.slice Ar j cr) L2 wx)) (fun _ si _ => j - (intOf si).toNat)
        case atStart => exact ⟨0, Nat.zero_le _, rfl, rfl, HF8⟩
        case round =>
          obtain ⟨i, hij, rfl, rfl, HI⟩ := hrel
          have hi60 : i ≤ 60 := by omega
          by_cases hil : i < j
          · have hilI : (i : Int) < (j : Int) := by omega
            have HIL := Lib.hid hil
            clear hil
            go_wp2_with fail
            go_quiet (fail)
            go_wp2_with fail
            go_roundw
            case rel => exact ⟨i + 1, by have := HIL.out; omega, rfl, by go_num, Lib.hid (HI.out.below (below_drewN (Below.refl _ _) _))⟩
            case measure => have := HIL.out; simp [intOf]; omega
          · obtain rfl : i = j := by omega
            go_wp2_with fail
            go_loopw [18] (fun si wx => ∃ n : Nat, n ≤ i ∧ si = .int .i64 n ∧ Hid (FM w O2 b [(X, .cells #[.int .i64 1, .int .i64 ai, .int .i64 nw, .int .i64 xi, .string (mkS xd), .int .i64 xp, .int .i64 xa] 36 (0, 0))] (X + 1) (frM (frG S2 L2) i) (takeQ S2 nw) (.slice Ar i cr) L2 wx)) (fun si _ => i - (intOf si).toNat)
            case atStart => exact ⟨0, Nat.zero_le _, rfl, HI⟩
            case round =>
              obtain ⟨n, hni, rfl, HJ2⟩ := hrel
              by_cases hnl : n < i
              · have hnlI : (n : Int) < (i : Int) := by omega
                have hn60 : n ≤ 60 := by omega
                have lk := HJ2.out.j.get_yesB (frM_mem (frG S2 L2) hnl) ⟨by omega, by omega⟩
                rw [HP8.out.2 n] at lk
                have HNL := Lib.hid hnl
                clear hnl
                go_wp2_with fail
                go_roundw
                case rel => exact ⟨n + 1, by have := HNL.out; omega, by go_num, HJ2⟩
                case measure => have := HNL.out; simp [intOf]; omega
              · obtain rfl : n = i := by omega
                go_wp2_with fail
                refine (HJ2.out.y.less.lenN HP8.out.1 HN.out).mono ?_
                rintro e w9 ⟨rfl, rfl⟩
                go_wp2_with fail
                go_roundw
                case rel => exact ⟨k + 1, by have := HLT.out; omega, by go_num, Lib.hid ⟨_, _, _, HJ2.out.y.less, HP8.out.1⟩⟩
                case measure => have := HLT.out; simp [intOf]; omega
      | some x =>
        obtain ⟨x, xn⟩ := x
        have h1 : tkE S2 nw = x := by unfold tkE; rw [htk]
        have h2 : tkB S2 nw = true := by unfold tkB; rw [htk]; rfl
        rw [h1, h2]
        obtain ⟨a, hla, hfa, hne, hrk⟩ := take_is HP.out.1 HP.out.2.1 htk
        have haj : a < j := by have := (List.getElem?_eq_some_iff.1 hla).1; have := HN.out; omega
        have hcn := take_cnt HP.out.1 htk
        have hxo := HP.out.1.okl HP.out.2.1 x (List.mem_of_getElem? hla)
        have her := erase_ent (HP.out.1.ids HP.out.2.1) hla
        have hp8 := HP.out.1.take htk
        rw [show (L2.filter fun y => y.id != (x, xn).1.id) = L2.eraseIdx a from her.symm] at hp8
        have HT := Lib.hid (And.intro hla (And.intro hfa (And.intro hne hrk)))
        have HP8 := Lib.hid (And.intro hp8 (And.intro hcn hxo))
        have haI : (a : Int) < (j : Int) := by omega
        have HAJ := Lib.hid haj
        have hsx2 := mkS_size x.dest
        clear hla hfa hne hrk hcn hxo her hp8 htk haj
        have hsz : w7.heap.size ≠ X + 1 := by have := hF7.j.lt; omega
        have hb8 := hF7.below (below_box w7 (.cells (ecs x) 34))
        have HF8 := Lib.hid (hb8.add (newOf w7 _) (hF7.y.old (Nat.le_refl _)) hsz)
        clear hF7 hq7 hs7 hlX h1 h2 a2 hsz hb8
        go_wp2_with fail
        go_loopw [16, 17] (fun sv si wx => ∃ (i : Nat) (z : Int), i ≤ j ∧ sv = .int .i64 z ∧ si = .int .i64 i ∧ Hid (z = (if a < i then (a : Int) else -1) ∧ FM w O2 b [(w7.heap.size, .cells (ecs x) 34 (0, 0)), (X, .cells #[.int .i64 1, .int .i64 ai, .int .i64 nw, .int .i64 xi, .string (mkS xd), .int .i64 xp, .int .i64 xa] 36 (0, 0))] (X + 1) (frM (frG S2 L2) j) (takeQ S2 nw) (.slice Ar j cr) L2 wx)) (fun _ si _ => j - (intOf si).toNat)
        case atStart => exact ⟨0, -1, Nat.zero_le _, rfl, rfl, Lib.hid ⟨rfl, HF8.out⟩⟩
        case round =>
          obtain ⟨i, z, hij, rfl, rfl, HI⟩ := hrel
          have hi60 : i ≤ 60 := by omega
          by_cases hil : i < j
          · have hilI : (i : Int) < (j : Int) := by omega
            obtain ⟨y, hy⟩ : ∃ y, L2[i]? = some y := ⟨_, List.getElem?_eq_getElem (by have := HN.out; omega)⟩
            obtain ⟨gB, cap', cur, hv, _, _, hcap2, _⟩ := HI.out.2.y.row.form (by have := HN.out; omega)
            rw [HN.out] at hv hcap2
            injection hv with hv1 _ hv3
            subst hv1
            subst hv3
            have hrow := HI.out.2.y.row
            rw [← HN.out] at hrow
            have y0 : wr.cell? ⟨gB, i * 4, none⟩ = some (.int .i64 y.id) := hrow.get hy (c := 0) (by omega)
            have y1 : wr.cell? ⟨gB, i * 4 + 1, none⟩ = some (.string (mkS y.dest)) := hrow.get hy (c := 1) (by omega)
            have y2 : wr.cell? ⟨gB, i * 4 + 2, none⟩ = some (.int .i64 y.pri) := hrow.get hy (c := 2) (by omega)
            have y3 : wr.cell? ⟨gB, i * 4 + 3, none⟩ = some (.int .i64 y.at_) := hrow.get hy (c := 3) (by omega)
            have hX := (HI.out.2.y.kp _ (List.mem_cons_self ..)).1
            have x0 := cellOf hX 0
            have x1 := cellOf hX 1
            have x2 := cellOf hX 2
            have x3 := cellOf hX 3
            have HIL := Lib.hid hil
            by_cases hia : i = a
            · have hEq : ∀ w, (Op.equalIn 10000 34 (.agg #[.int .i64 y.id, .string (mkS y.dest), .int .i64 y.pri, .int .i64 y.at_]) (.agg #[.int .i64 x.id, .string (mkS x.dest), .int .i64 x.pri, .int .i64 x.at_])).run Try.prog w = .ok true w := fun w => by
                have h1 : y = x := by
                  have h2 := HT.out.1
                  rw [← hia, hy] at h2
                  exact Option.some.inj h2
                have := eqEt y x w
                rwa [eqE_iff.2 h1] at this
              have HIA := Lib.hid hia
              clear hil hy hrow hX hia
              go_wp2_with fail
              go_quiet (fail)
              go_wp2_with fail
              go_roundw
              case rel => exact ⟨i + 1, i, by have := HIL.out; omega, rfl, by go_num, Lib.hid ⟨by rw [if_pos (by have := HIA.out; omega), HIA.out], HI.out.2.below (below_drewN (Below.refl _ _) _)⟩⟩
              case measure => have := HIL.out; simp [intOf]; omega
            · have hEq : ∀ w, (Op.equalIn 10000 34 (.agg #[.int .i64 y.id, .string (mkS y.dest), .int .i64 y.pri, .int .i64 y.at_]) (.agg #[.int .i64 x.id, .string (mkS x.dest), .int .i64 x.pri, .int .i64 x.at_])).run Try.prog w = .ok false w := fun w => by
                have := eqEt y x w
                rwa [eqE_no.2 (HT.out.2.2.1 i y hy hia)] at this
              have HIA := Lib.hid hia
              clear hil hy hrow hX hia
              go_wp2_with fail
              go_quiet (fail)
              go_wp2_with fail
              go_roundw
              case rel => exact ⟨i + 1, z, by have := HIL.out; omega, rfl, by go_num, Lib.hid ⟨by
                  have h1 := HI.out.1
                  have h2 := HIA.out
                  by_cases h3 : a < i
                  · rw [if_pos (by omega)]; rwa [if_pos h3] at h1
                  · rw [if_neg (by omega)]; rwa [if_neg h3] at h1, HI.out.2.below (below_drewN (Below.refl _ _) _)⟩⟩
              case measure => have := HIL.out; simp [intOf]; omega
          · obtain rfl : i = j := by omega
            obtain rfl : z = (a : Int) := by have := HI.out.1; rwa [if_pos HAJ.out] at this
            have ha60 : a ≤ 60 := by omega
            have lka := HI.out.2.j.get_yesB (frM_mem (frG S2 L2) HAJ.out) ⟨by omega, by omega⟩
            rw [HT.out.2.1] at lka
            have HF9 := Lib.hid HI.out.2
            clear HI
            go_wp2_with fail
            clear lka
            go_loopw [18] (fun si wx => ∃ n : Nat, n ≤ i ∧ si = .int .i64 n ∧ Hid (FM w O2 b [(w7.heap.size, .cells (ecs x) 34 (0, 0)), (X, .cells #[.int .i64 1, .int .i64 ai, .int .i64 nw, .int .i64 xi, .string (mkS xd), .int .i64 xp, .int .i64 xa] 36 (0, 0))] (X + 1) (frM (frG S2 L2) i) (takeQ S2 nw) (.slice Ar i cr) L2 wx)) (fun si _ => i - (intOf si).toNat)
            case atStart => exact ⟨0, Nat.zero_le _, rfl, HF9⟩
            case round =>
              obtain ⟨n, hni, rfl, HJ2⟩ := hrel
              by_cases hnl : n < i
              · have hnlI : (n : Int) < (i : Int) := by omega
                have hn60 : n ≤ 60 := by omega
                have lk := HJ2.out.j.get_yesB (frM_mem (frG S2 L2) hnl) ⟨by omega, by omega⟩
                have HNL := Lib.hid hnl
                clear hnl
                cases hfn : frG S2 L2 n with
                | false =>
                  rw [hfn] at lk
                  clear hfn
                  go_wp2_with fail
                  go_roundw
                  case rel => exact ⟨n + 1, by have := HNL.out; omega, by go_num, HJ2⟩
                  case measure => have := HNL.out; simp [intOf]; omega
                | true =>
                  rw [hfn] at lk
                  by_cases hna : n = a
                  · have hnb : ((n : Int) == (a : Int)) = true := beq_iff_eq.2 (by omega)
                    clear hfn
                    have HNA := Lib.hid hna
                    clear hna
                    go_wp2_with fail
                    go_roundw
                    case rel => exact ⟨n + 1, by have := HNL.out; omega, by go_num, HJ2⟩
                    case measure => have := HNL.out; simp [intOf]; omega
                  · have hnb : ((n : Int) == (a : Int)) = false := beq_eq_false_iff_ne.2 (by omega)
                    obtain ⟨y, hy⟩ : ∃ y, L2[n]? = some y := ⟨_, List.getElem?_eq_getElem (by have := HN.out; have := HNL.out; omega)⟩
                    obtain ⟨gB, cap', cur, hv, _, _, hcap2, _⟩ := HJ2.out.y.row.form (by have := HN.out; have := HNL.out; omega)
                    rw [HN.out] at hv hcap2
                    injection hv with hv1 _ hv3
                    subst hv1
                    subst hv3
                    have hrow := HJ2.out.y.row
                    rw [← HN.out] at hrow
                    have y0 : wr.cell? ⟨gB, n * 4, none⟩ = some (.int .i64 y.id) := hrow.get hy (c := 0) (by omega)
                    have y1 : wr.cell? ⟨gB, n * 4 + 1, none⟩ = some (.string (mkS y.dest)) := hrow.get hy (c := 1) (by omega)
                    have y2 : wr.cell? ⟨gB, n * 4 + 2, none⟩ = some (.int .i64 y.pri) := hrow.get hy (c := 2) (by omega)
                    have y3 : wr.cell? ⟨gB, n * 4 + 3, none⟩ = some (.int .i64 y.at_) := hrow.get hy (c := 3) (by omega)
                    have hX := (HJ2.out.y.kp _ (List.mem_cons_self ..)).1
                    have hA := (HJ2.out.y.kp _ (List.mem_cons_of_mem _ (List.mem_cons_self ..))).1
                    have hbet := HT.out.2.2.2 n y hy hfn hna
                    have yok := (HP.out.1.okl HP.out.2.1 y (List.mem_of_getElem? hy)).1
                    have hnow := HP.out.2.2
                    rw [HP.out.1.age] at hnow
                    obtain ⟨p, hp⟩ : ∃ p, rk y.pri y.at_ nw g = p := ⟨_, rfl⟩
                    obtain ⟨q, hq⟩ : ∃ q, rk x.pri x.at_ nw g = q := ⟨_, rfl⟩
                    rw [hp, hq] at hbet
                    have Ky := fun w => rankB y nw g yok hnow hp w
                    have Kx := fun w => rankB x nw g HP8.out.2.2.1 hnow hq w
                    obtain ⟨YT, F, f0, hf0, hF1, hF2⟩ := cls wr
                    have : Nonempty YT := ⟨f0⟩
                    have hlg : gB < wr.heap.size := cellLt y0
                    have Y0 : ∀ y', (F y').cell? ⟨gB, n * 4, none⟩ = some (.int .i64 y.id) := fun y' => ((hF1 y').cell (p := ⟨gB, n * 4, none⟩) hlg).trans y0
                    have Y1 : ∀ y', (F y').cell? ⟨gB, n * 4 + 1, none⟩ = some (.string (mkS y.dest)) := fun y' => ((hF1 y').cell (p := ⟨gB, n * 4 + 1, none⟩) hlg).trans y1
                    have Y2 : ∀ y', (F y').cell? ⟨gB, n * 4 + 2, none⟩ = some (.int .i64 y.pri) := fun y' => ((hF1 y').cell (p := ⟨gB, n * 4 + 2, none⟩) hlg).trans y2
                    have Y3 : ∀ y', (F y').cell? ⟨gB, n * 4 + 3, none⟩ = some (.int .i64 y.at_) := fun y' => ((hF1 y').cell (p := ⟨gB, n * 4 + 3, none⟩) hlg).trans y3
                    have X0 : ∀ y', (F y').cell? ⟨w7.heap.size, 0, none⟩ = some (.int .i64 x.id) := fun y' => cellOf (((hF1 y').block _ (hlt hX)).trans hX) 0
                    have X1 : ∀ y', (F y').cell? ⟨w7.heap.size, 1, none⟩ = some (.string (mkS x.dest)) := fun y' => cellOf (((hF1 y').block _ (hlt hX)).trans hX) 1
                    have X2 : ∀ y', (F y').cell? ⟨w7.heap.size, 2, none⟩ = some (.int .i64 x.pri) := fun y' => cellOf (((hF1 y').block _ (hlt hX)).trans hX) 2
                    have X3 : ∀ y', (F y').cell? ⟨w7.heap.size, 3, none⟩ = some (.int .i64 x.at_) := fun y' => cellOf (((hF1 y').block _ (hlt hX)).trans hX) 3
                    have A2 : ∀ y', (F y').cell? ⟨X, 2, none⟩ = some (.int .i64 nw) := fun y' => cellOf (((hF1 y').block _ (hlt hA)).trans hA) 2
                    have Cy := Lib.hid (in_cls hF1 hF2 fun w' _ => Ky w')
                    have Cx := Lib.hid (in_cls hF1 hF2 fun w' _ => Kx w')
                    have H1 := Lib.hid hF1
                    have HBT := Lib.hid hbet
                    clear hF1 hF2 Kx Ky hp hq hlg hX hA hbet yok hnow hrow hy hfn hna y0 y1 y2 y3
                    go_wp2_with fail
                    refine region_in (by kernel_rfl) (by kernel_rfl) F f0 hf0 ?_
                    repeat (go_big_quiet_step ((go_at_call 23; first | (with_reducible exact Cx.out _) | (with_reducible exact Cy.out _))))
                    refine wpQuiet_nil ?_
                    rintro _ ⟨z, rfl⟩
                    have HZ0 := Lib.hid (HJ2.out.below (H1.out z))
                    clear X0 X1 X2 X3 Y0 Y1 Y2 Y3 A2 hf0 lk
                    generalize F z = wz at HZ0
                    have hpq : decide (q < p) = false := decide_eq_false (by have := HBT.out; omega)
                    by_cases hpe : p = q
                    · have hpb : (p == q) = true := beq_iff_eq.2 hpe
                      have hni2 : decide ((n : Int) < (a : Int)) = false := decide_eq_false (by have := HBT.out; omega)
                      have hni3 : ¬ n < a := by have := HBT.out; omega
                      clear hpe
                      go_wp2_with fail
                      go_roundw
                      case rel => exact ⟨n + 1, by have := HNL.out; omega, by go_num, HZ0⟩
                      case measure => have := HNL.out; simp [intOf]; omega
                    · have hpb : (p == q) = false := beq_eq_false_iff_ne.2 hpe
                      clear hpe
                      go_wp2_with fail
                      go_roundw
                      case rel => exact ⟨n + 1, by have := HNL.out; omega, by go_num, HZ0⟩
                      case measure => have := HNL.out; simp [intOf]; omega
              · obtain rfl : n = i := by omega
                obtain ⟨gB, cap', cur, hv, _, _, hcap2, _⟩ := HJ2.out.y.row.form (by have := HN.out; have := HAJ.out; omega)
                rw [HN.out] at hv hcap2
                injection hv with hv1 _ hv3
                subst hv1
                subst hv3
                have hYq := HJ2.out.y.below ((Below.refl wr.heap.size wr).drew)
                have hrq := hYq.row
                rw [← HN.out] at hrq
                obtain ⟨B2, v1, w1, v2, w9, hA2, r1, r2, e2, b2⟩ := cut_et hrq (k := a) (by rw [HN.out]; exact HAJ.out) (by rw [HN.out]; omega) 56
                rw [HN.out] at r2
                obtain ⟨N2, hN2⟩ : ∃ n, (L2.eraseIdx a).length = n := ⟨_, rfl⟩
                obtain ⟨Aw, cw, hv2⟩ := e2.slice
                rw [hN2] at hv2
                subst hv2
                have hYc := hYq.cut b2 e2
                have x1 := cellOf (hYc.kp _ (List.mem_cons_self ..)).1 1
                have HYn := Lib.hid (And.intro hYc hN2)
                obtain ⟨cz, hcz⟩ : ∃ c, cnt (takeQ S2 nw).F x.dest = c := ⟨_, rfl⟩
                have hfl := flying_h hYc.q x.dest (by have := HP8.out.2.2.2.2; omega)
                rw [hcz] at hfl
                have HFl := Lib.hid hfl
                have hdz : decide (lm < cz) = false := decide_eq_false (by
                  have h1 : cnt (takeQ S2 nw).F x.dest ≤ lm := HP8.out.2.1
                  rw [hcz] at h1
                  omega)
                have haN := HAJ.out
                have hj1 : a ≤ cr := by omega
                have hj2 : a + 1 ≤ n := by omega
                have hj3 : a + 1 ≤ cr := by omega
                have hj4 : IntKind.i64.wrap ((a : Int) + 1) = (a : Int) + 1 := by simp [IntKind.wrap, IntKind.bits, IntKind.signed]; omega
                have hj5 : (0 : Int) ≤ (a : Int) + 1 := by omega
                have hj6 : (a : Int) + 1 ≤ (n : Int) := by omega
                have hj7 : ((a : Int) + 1).toNat = a + 1 := by omega
                clear hYq hrq e2 b2 hYc hN2 hcz hfl
                go_wp2_with fail
                go_region_law (first
                  | (refine step_app_run rfl (.tmp 187) (.tmp 190) 56 rfl _ _ _ (by simp [Act.eval]) (by simp [Act.eval]) r1 ?_)
                  | (refine step_app_run rfl (.tmp 191) (.tmp 195) 56 rfl _ _ _ (by simp [Act.eval]) (by simp [Act.eval]) r2 ?_))
                go_wp2_with fail
                refine HFl.out.mono ?_
                rintro e w10 ⟨rfl, rfl⟩
                clear r1 r2 hA2
                go_wp2_with fail
                refine (HYn.out.1.less.lenN HP8.out.1 HYn.out.2).mono ?_
                rintro e w11 ⟨rfl, rfl⟩
                go_wp2_with fail
                go_roundw
                case rel => exact ⟨k + 1, by have := HLT.out; omega, by go_num, Lib.hid ⟨_, _, _, HYn.out.1.less, HP8.out.1⟩⟩
                case measure => have := HLT.out; simp [intOf]; omega
end Go.Proofs.Ytjjndndhmccflaa
