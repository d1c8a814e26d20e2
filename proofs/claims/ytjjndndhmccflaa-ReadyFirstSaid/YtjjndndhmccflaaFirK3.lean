/-
  Remove, in the law ReadyFirst.
-/
import Derived.Test.YtjjndndhmccflaaFirK1
import Derived.RegionTactic
namespace Go.Proofs.Ytjjndndhmccflaa
set_option maxRecDepth 100000
open Go.RowKit
set_option maxHeartbeats 16000000 in
theorem first_k3 (w wr : World) (b : Nat) (g lm : Int) (M cap : Nat) (KK : Act → World → Prop) (R : Ending → World → Prop) (u6 u11 u12 u13 u14 u15 u16 u17 u18 u19 u20 u21 u55 u56 u57 u58 u59 u60 u61 u62 u63 u64 u65 u66 u67 u68 u69 u70 u71 u72 u73 u74 u75 u76 u77 u78 u79 u80 u81 u82 u83 u84 u85 u86 u87 u88 u89 u90 u91 u92 u93 u94 u95 u96 u97 u98 u99 u100 u101 u102 u103 u104 u105 u106 u107 u108 u109 u110 u111 u112 u113 u114 u115 u116 u117 u118 u119 u120 u121 u122 u123 u124 u125 u126 u127 u128 u129 u130 u131 u132 u133 u134 u135 u136 u137 u138 u139 u140 u141 u142 u143 u144 u145 u146 u147 u148 u149 u150 u151 u152 u153 u154 u155 u156 u157 u158 u159 u160 u161 u162 u163 u164 u165 u166 u167 u168 u169 u170 u171 u172 u173 u174 u175 u176 u177 u178 u179 u180 u181 u182 u183 u184 u185 u186 u187 u188 u189 u190 u191 u192 u193 u194 u195 u196 u197 u198 u199 u200 u201 u202 u203 u204 u205 u206 u207 u208 u209 u210 u211 u212 u213 u214 u215 u216 u217 u218 u219 u220 u221 u222 u223 u224 u225 u226 u227 u228 u229 u230 u231 u232 u233 u234 u235 u236 u237 u238 u239 u240 u241 u242 u243 : Value) (k : Nat) (HLT : Hid (k < M)) (O2 : Nat → Prop) (S2 : Rq) (L2 : List Et) (A : Addr)
    (ai nw xi : Int) (xd : Txt) (xp xa : Int)
    (c1 : wr.cell? { block := (A.add (k * 7)).block, off := (A.add (k * 7)).off + 1 } = some (Value.int IntKind.i64 ai))
    (c2 : wr.cell? { block := (A.add (k * 7)).block, off := (A.add (k * 7)).off + 2 } = some (Value.int IntKind.i64 nw))
    (c3 : wr.cell? { block := (A.add (k * 7)).block, off := (A.add (k * 7)).off + 3 } = some (Value.int IntKind.i64 xi))
    (c4 : wr.cell? { block := (A.add (k * 7)).block, off := (A.add (k * 7)).off + 4 } = some (Value.string (mkS xd)))
    (c5 : wr.cell? { block := (A.add (k * 7)).block, off := (A.add (k * 7)).off + 5 } = some (Value.int IntKind.i64 xp))
    (c6 : wr.cell? { block := (A.add (k * 7)).block, off := (A.add (k * 7)).off + 6 } = some (Value.int IntKind.i64 xa))
    (hkl : (k : Int) < (M : Int)) (hk60 : k ≤ 60) (N : Nat) (hlL : N ≤ k) (Ar : Option Addr) (cr : Nat)
    (HGX : Hid (∀ (gg : Nat), (Value.slice Ar N cr).ownBlock = some gg → gg < wr.heap.size)) (HN : Hid (L2.length = N)) (e1 : decide (nw < -2199023255552) = false) (e2 : decide (2199023255552 < nw) = false)
    (c0 : wr.cell? (A.add (k * 7)) = some (Value.int IntKind.i64 3))
    (HY : Hid (FY w O2 b [(wr.heap.size, Obj.cells #[Value.int IntKind.i64 3, Value.int IntKind.i64 ai, Value.int IntKind.i64 nw, Value.int IntKind.i64 xi, Value.string (mkS xd), Value.int IntKind.i64 xp, Value.int IntKind.i64 xa] 36 (0, 0))] S2 (Value.slice Ar N cr) L2 (wr.alloc (Obj.cells #[Value.int IntKind.i64 3, Value.int IntKind.i64 ai, Value.int IntKind.i64 nw, Value.int IntKind.i64 xi, Value.string (mkS xd), Value.int IntKind.i64 xp, Value.int IntKind.i64 xa] 36)) ∧ FP g lm k S2 L2)) :
    Code.wp Try.prog bodyF
    (Exit.then
      (fun a' w' =>
        (∃ u6 u9 u10 u11 u12 u13 u14 u15 u16 u17 u18 u19 u20 u21 u55 u56 u57 u58 u59 u60 u61 u62 u63 u64 u65 u66 u67 u68
            u69 u70 u71 u72 u73 u74 u75 u76 u77 u78 u79 u80 u81 u82 u83 u84 u85 u86 u87 u88 u89 u90 u91 u92 u93 u94 u95
            u96 u97 u98 u99 u100 u101 u102 u103 u104 u105 u106 u107 u108 u109 u110 u111 u112 u113 u114 u115 u116 u117
            u118 u119 u120 u121 u122 u123 u124 u125 u126 u127 u128 u129 u130 u131 u132 u133 u134 u135 u136 u137 u138
            u139 u140 u141 u142 u143 u144 u145 u146 u147 u148 u149 u150 u151 u152 u153 u154 u155 u156 u157 u158 u159
            u160 u161 u162 u163 u164 u165 u166 u167 u168 u169 u170 u171 u172 u173 u174 u175 u176 u177 u178 u179 u180
            u181 u182 u183 u184 u185 u186 u187 u188 u189 u190 u191 u192 u193 u194 u195 u196 u197 u198 u199 u200 u201
            u202 u203 u204 u205 u206 u207 u208 u209 u210 u211 u212 u213 u214 u215 u216 u217 u218 u219 u220 u221 u222
            u223 u224 u225 u226 u227 u228 u229 u230 u231 u232 u233 u234 u235 u236 u237 u238 u239 u240 u241 u242 u243,
            (∃ k, k ≤ M ∧ u10 = Value.int IntKind.i64 ↑k ∧ Hid (∃ O S L, FY w O b [] S u9 L w' ∧ FP g lm k S L)) ∧
              a' =
                {
                  tmps :=
                    (List.toArray (Value.int IntKind.i64 g :: Value.int IntKind.i64 lm :: Value.slice (some A) M cap :: undef :: undef :: undef :: u6 :: Value.pointer (some { block := b, off := 0 }) :: Value.int IntKind.i64 0 :: u9 :: u10 :: u11 :: u12 :: u13 :: u14 :: u15 :: u16 :: u17 :: u18 :: u19 :: u20 :: u21 :: Value.bool true :: Value.bool false :: Value.slice (some A) M cap :: Value.bool true :: Value.bool false :: Value.bool false :: Value.int IntKind.i64 g :: Value.bool false :: Value.bool false :: Value.bool false :: Value.int IntKind.i64 g :: Value.bool false :: Value.bool false :: Value.bool false :: Value.int IntKind.i64 lm :: Value.bool false :: Value.bool false :: Value.bool false :: Value.int IntKind.i64 lm :: Value.bool false :: Value.bool false :: Value.tuple #[Value.pointer (some { block := b, off := 0 }), Value.int IntKind.i64 0] :: Value.int IntKind.i64 g :: Value.int IntKind.i64 lm :: Value.tuple #[Value.pointer (some { block := b, off := 0 }), Value.int IntKind.i64 0] :: Value.pointer (some { block := b, off := 0 }) :: Value.int IntKind.i64 0 :: Value.pointer (some { block := b, off := 0 }) :: Value.bool false :: Value.bool false :: Value.int IntKind.i64 0 :: Value.bool false :: Value.bool false :: u55 :: u56 :: u57 :: u58 :: u59 :: u60 :: u61 :: u62 :: u63 :: u64 :: u65 :: u66 :: u67 :: u68 :: u69 :: u70 :: u71 :: u72 :: u73 :: u74 :: u75 :: u76 :: u77 :: u78 :: u79 :: u80 :: u81 :: u82 :: u83 :: u84 :: u85 :: u86 :: u87 :: u88 :: u89 :: u90 :: u91 :: u92 :: u93 :: u94 :: u95 :: u96 :: u97 :: u98 :: u99 :: u100 :: u101 :: u102 :: u103 :: u104 :: u105 :: u106 :: u107 :: u108 :: u109 :: u110 :: u111 :: u112 :: u113 :: u114 :: u115 :: u116 :: u117 :: u118 :: u119 :: u120 :: u121 :: u122 :: u123 :: u124 :: u125 :: u126 :: u127 :: u128 :: u129 :: u130 :: u131 :: u132 :: u133 :: u134 :: u135 :: u136 :: u137 :: u138 :: u139 :: u140 :: u141 :: u142 :: u143 :: u144 :: u145 :: u146 :: u147 :: u148 :: u149 :: u150 :: u151 :: u152 :: u153 :: u154 :: u155 :: u156 :: u157 :: u158 :: u159 :: u160 :: u161 :: u162 :: u163 :: u164 :: u165 :: u166 :: u167 :: u168 :: u169 :: u170 :: u171 :: u172 :: u173 :: u174 :: u175 :: u176 :: u177 :: u178 :: u179 :: u180 :: u181 :: u182 :: u183 :: u184 :: u185 :: u186 :: u187 :: u188 :: u189 :: u190 :: u191 :: u192 :: u193 :: u194 :: u195 :: u196 :: u197 :: u198 :: u199 :: u200 :: u201 :: u202 :: u203 :: u204 :: u205 :: u206 :: u207 :: u208 :: u209 :: u210 :: u211 :: u212 :: u213 :: u214 :: u215 :: u216 :: u217 :: u218 :: u219 :: u220 :: u221 :: u222 :: u223 :: u224 :: u225 :: u226 :: u227 :: u228 :: u229 :: u230 :: u231 :: u232 :: u233 :: u234 :: u235 :: u236 :: u237 :: u238 :: u239 :: u240 :: u241 :: u242 :: u243 :: [])),
                  defers := [] }) ∧
          M - (intOf (a'.tmps.getD 10 undef)).toNat <
            M -
              (intOf
                  ((List.toArray (Value.int IntKind.i64 g :: Value.int IntKind.i64 lm :: Value.slice (some A) M cap :: undef :: undef :: undef :: u6 :: Value.pointer (some { block := b, off := 0 }) :: Value.int IntKind.i64 0 :: Value.slice Ar N cr :: Value.int IntKind.i64 ↑k :: u11 :: u12 :: u13 :: u14 :: u15 :: u16 :: u17 :: u18 :: u19 :: u20 :: u21 :: Value.bool true :: Value.bool false :: Value.slice (some A) M cap :: Value.bool true :: Value.bool false :: Value.bool false :: Value.int IntKind.i64 g :: Value.bool false :: Value.bool false :: Value.bool false :: Value.int IntKind.i64 g :: Value.bool false :: Value.bool false :: Value.bool false :: Value.int IntKind.i64 lm :: Value.bool false :: Value.bool false :: Value.bool false :: Value.int IntKind.i64 lm :: Value.bool false :: Value.bool false :: Value.tuple #[Value.pointer (some { block := b, off := 0 }), Value.int IntKind.i64 0] :: Value.int IntKind.i64 g :: Value.int IntKind.i64 lm :: Value.tuple #[Value.pointer (some { block := b, off := 0 }), Value.int IntKind.i64 0] :: Value.pointer (some { block := b, off := 0 }) :: Value.int IntKind.i64 0 :: Value.pointer (some { block := b, off := 0 }) :: Value.bool false :: Value.bool false :: Value.int IntKind.i64 0 :: Value.bool false :: Value.bool false :: u55 :: u56 :: u57 :: u58 :: u59 :: u60 :: u61 :: u62 :: u63 :: u64 :: u65 :: u66 :: u67 :: u68 :: u69 :: u70 :: u71 :: u72 :: u73 :: u74 :: u75 :: u76 :: u77 :: u78 :: u79 :: u80 :: u81 :: u82 :: u83 :: u84 :: u85 :: u86 :: u87 :: u88 :: u89 :: u90 :: u91 :: u92 :: u93 :: u94 :: u95 :: u96 :: u97 :: u98 :: u99 :: u100 :: u101 :: u102 :: u103 :: u104 :: u105 :: u106 :: u107 :: u108 :: u109 :: u110 :: u111 :: u112 :: u113 :: u114 :: u115 :: u116 :: u117 :: u118 :: u119 :: u120 :: u121 :: u122 :: u123 :: u124 :: u125 :: u126 :: u127 :: u128 :: u129 :: u130 :: u131 :: u132 :: u133 :: u134 :: u135 :: u136 :: u137 :: u138 :: u139 :: u140 :: u141 :: u142 :: u143 :: u144 :: u145 :: u146 :: u147 :: u148 :: u149 :: u150 :: u151 :: u152 :: u153 :: u154 :: u155 :: u156 :: u157 :: u158 :: u159 :: u160 :: u161 :: u162 :: u163 :: u164 :: u165 :: u166 :: u167 :: u168 :: u169 :: u170 :: u171 :: u172 :: u173 :: u174 :: u175 :: u176 :: u177 :: u178 :: u179 :: u180 :: u181 :: u182 :: u183 :: u184 :: u185 :: u186 :: u187 :: u188 :: u189 :: u190 :: u191 :: u192 :: u193 :: u194 :: u195 :: u196 :: u197 :: u198 :: u199 :: u200 :: u201 :: u202 :: u203 :: u204 :: u205 :: u206 :: u207 :: u208 :: u209 :: u210 :: u211 :: u212 :: u213 :: u214 :: u215 :: u216 :: u217 :: u218 :: u219 :: u220 :: u221 :: u222 :: u223 :: u224 :: u225 :: u226 :: u227 :: u228 :: u229 :: u230 :: u231 :: u232 :: u233 :: u234 :: u235 :: u236 :: u237 :: u238 :: u239 :: u240 :: u241 :: u242 :: u243 :: [])).getD
                    10 undef)).toNat)
      (Exit.inBlock 0 (Exit.then KK (bodyPost Try.prog Try.f4 R))))
    {
      tmps :=
        (List.toArray (Value.int IntKind.i64 g :: Value.int IntKind.i64 lm :: Value.slice (some A) M cap :: undef :: undef :: undef :: u6 :: Value.pointer (some { block := b, off := 0 }) :: Value.int IntKind.i64 0 :: Value.slice Ar N cr :: Value.int IntKind.i64 ↑k :: u11 :: u12 :: u13 :: u14 :: u15 :: u16 :: u17 :: u18 :: u19 :: u20 :: u21 :: Value.bool true :: Value.bool false :: Value.slice (some A) M cap :: Value.bool true :: Value.bool false :: Value.bool false :: Value.int IntKind.i64 g :: Value.bool false :: Value.bool false :: Value.bool false :: Value.int IntKind.i64 g :: Value.bool false :: Value.bool false :: Value.bool false :: Value.int IntKind.i64 lm :: Value.bool false :: Value.bool false :: Value.bool false :: Value.int IntKind.i64 lm :: Value.bool false :: Value.bool false :: Value.tuple #[Value.pointer (some { block := b, off := 0 }), Value.int IntKind.i64 0] :: Value.int IntKind.i64 g :: Value.int IntKind.i64 lm :: Value.tuple #[Value.pointer (some { block := b, off := 0 }), Value.int IntKind.i64 0] :: Value.pointer (some { block := b, off := 0 }) :: Value.int IntKind.i64 0 :: Value.pointer (some { block := b, off := 0 }) :: Value.bool false :: Value.bool false :: Value.int IntKind.i64 0 :: Value.bool false :: Value.bool false :: u55 :: u56 :: u57 :: u58 :: u59 :: u60 :: u61 :: u62 :: u63 :: u64 :: u65 :: u66 :: u67 :: u68 :: u69 :: u70 :: u71 :: u72 :: u73 :: u74 :: u75 :: u76 :: u77 :: u78 :: u79 :: u80 :: u81 :: u82 :: u83 :: u84 :: u85 :: u86 :: u87 :: u88 :: u89 :: u90 :: u91 :: u92 :: u93 :: u94 :: u95 :: u96 :: u97 :: u98 :: u99 :: u100 :: u101 :: u102 :: u103 :: u104 :: u105 :: u106 :: u107 :: u108 :: u109 :: u110 :: u111 :: u112 :: u113 :: u114 :: u115 :: u116 :: u117 :: u118 :: u119 :: u120 :: u121 :: u122 :: u123 :: u124 :: u125 :: u126 :: u127 :: u128 :: u129 :: u130 :: u131 :: u132 :: u133 :: u134 :: u135 :: u136 :: u137 :: u138 :: u139 :: u140 :: u141 :: u142 :: u143 :: u144 :: u145 :: u146 :: u147 :: u148 :: u149 :: u150 :: u151 :: u152 :: u153 :: u154 :: u155 :: u156 :: u157 :: u158 :: u159 :: u160 :: u161 :: u162 :: u163 :: u164 :: u165 :: u166 :: u167 :: u168 :: u169 :: u170 :: u171 :: u172 :: u173 :: u174 :: u175 :: u176 :: u177 :: u178 :: u179 :: u180 :: u181 :: u182 :: u183 :: u184 :: u185 :: u186 :: u187 :: u188 :: u189 :: u190 :: u191 :: u192 :: u193 :: u194 :: u195 :: u196 :: u197 :: u198 :: u199 :: u200 :: u201 :: u202 :: u203 :: u204 :: u205 :: u206 :: u207 :: u208 :: u209 :: u210 :: u211 :: u212 :: u213 :: u214 :: u215 :: u216 :: u217 :: u218 :: u219 :: u220 :: u221 :: u222 :: u223 :: u224 :: u225 :: u226 :: u227 :: u228 :: u229 :: u230 :: u231 :: u232 :: u233 :: u234 :: u235 :: u236 :: u237 :: u238 :: u239 :: u240 :: u241 :: u242 :: u243 :: [])),
      defers := [] }
    wr := by
  conv => arg 2; whnf
  have f0 : ((3 : Int) == 0) = false := rfl
  have f1 : ((3 : Int) == 1) = false := rfl
  have f2 : ((3 : Int) == 2) = false := rfl
  go_wp2_with fail
  generalize wr.alloc (.cells #[.int .i64 3, .int .i64 ai, .int .i64 nw, .int .i64 xi, .string (mkS xd), .int .i64 xp, .int .i64 xa] 36) = w4 at HY
  generalize wr.heap.size = X at HY HGX
  refine (remove_h HY.out.1.q ai).mono ?_
  rintro e wc ⟨rfl, hq3, hs3⟩
  have HP3 := Lib.hid (And.intro (HY.out.2.remove ai) (And.intro (HY.out.2.ids HY.out.1.q.ok) (HY.out.2.okl HY.out.1.q.ok)))
  have HY3 := Lib.hid (HY.out.1.step hq3 hs3)
  clear hq3 hs3 c0 c1 c2 c3 c4 c5 c6
  go_wp2_with fail
  go_loopw [9, 21] (fun sv si wx => ∃ (j N' : Nat) (Aj : Option Addr) (cj : Nat), N' ≤ N ∧ j ≤ N ∧ sv = .slice Aj N' cj ∧ si = .int .i64 j ∧ Hid (∃ L, L.length = N' ∧ FY w O2 b [(X, .cells #[.int .i64 3, .int .i64 ai, .int .i64 nw, .int .i64 xi, .string (mkS xd), .int .i64 xp, .int .i64 xa] 36 (0, 0))] (removeQ S2 ai) (.slice Aj N' cj) L wx ∧ (∀ gg, (Value.slice Aj N' cj).ownBlock = some gg → gg ≠ X) ∧ ((L = L2 ∧ ∀ (i : Nat) (y : Et), i < j → L2[i]? = some y → y.id ≠ ai) ∨ L = L2.filter fun y => y.id != ai))) (fun _ si _ => N - (intOf si).toNat)
  case atStart => exact ⟨0, N, Ar, cr, Nat.le_refl _, Nat.zero_le _, rfl, rfl, Lib.hid ⟨L2, HN.out, HY3.out, fun gg hg => by have := HGX.out gg hg; omega, .inl ⟨rfl, fun i y h => by omega⟩⟩⟩
  case round =>
    obtain ⟨j, N', Aj, cj, hN', hjN, rfl, rfl, HJ⟩ := hrel
    have hN60 : N' ≤ 60 := by omega
    have hj60 : j ≤ 60 := by omega
    by_cases hjl : j < N'
    · have HJL := Lib.hid hjl
      obtain ⟨L, hL, hY, hnX, hor⟩ := HJ.out
      obtain ⟨y, hy⟩ : ∃ y, L[j]? = some y := ⟨_, List.getElem?_eq_getElem (by omega)⟩
      obtain ⟨gB, cap', cur, hv, _, _, hcap2, _⟩ := hY.row.form (by omega)
      rw [hL] at hv hcap2
      injection hv with hv1 _ hv3
      subst hv1
      subst hv3
      have hrow := hY.row
      rw [← hL] at hrow
      have y0 : wr.cell? ⟨gB, j * 4, none⟩ = some (.int .i64 y.id) := hrow.get hy (c := 0) (by omega)
      have a1 := cellOf (hY.kp _ (List.mem_cons_self ..)).1 1
      have hjI : (j : Int) < (N' : Int) := by omega
      have hcc : N' ≤ cj := hcap2
      by_cases hid : y.id = ai
      · have hib : (y.id == ai) = true := beq_iff_eq.2 hid
        have HE := Lib.hid hid
        clear hid
        go_wp2_with fail
        go_quiet (fail)
        have hYq := hY.below (below_drewN (Below.refl wr.heap.size wr) (nq + 1))
        rw [show wr.drewN (nq + 1) = (wr.drewN nq).drew from rfl] at hYq
        generalize wr.drewN nq = wq at hYq
        go_wp2_with fail
        have hrq := hYq.row
        rw [← hL] at hrq
        obtain ⟨A2, v1, w1, v2, w2, hA2, r1, r2, e2, b2⟩ := cut_et hrq (k := j) (by omega) (by omega) 56
        rw [hL] at r2
        have hj1 : j ≤ cj := by omega
        have hj2 : j + 1 ≤ N' := by omega
        have hj3 : j + 1 ≤ cj := by omega
        have hj4 : IntKind.i64.wrap ((j : Int) + 1) = (j : Int) + 1 := by simp [IntKind.wrap, IntKind.bits, IntKind.signed]; omega
        have hj5 : (0 : Int) ≤ (j : Int) + 1 := by omega
        have hj6 : (j : Int) + 1 ≤ (N' : Int) := by omega
        have hj7 : ((j : Int) + 1).toNat = j + 1 := by omega
        have hyi : (L.map Et.id).Nodup ∧ L.eraseIdx j = L2.filter fun z => z.id != ai := by
          rcases hor with h | h
          · have hn := HP3.out.2.1
            rw [← h.1] at hn
            refine ⟨hn, ?_⟩
            rw [erase_ent hn hy, HE.out, h.1]
          · exfalso
            have := List.mem_of_getElem? hy
            rw [h] at this
            have := (List.mem_filter.1 this).2
            rw [HE.out] at this
            simp at this
        obtain ⟨N2, hN2⟩ : ∃ n, (L.eraseIdx j).length = n := ⟨_, rfl⟩
        have hN3 : N2 + 1 = N' := by rw [← hN2, List.length_eraseIdx_of_lt (by omega), hL]; omega
        obtain ⟨Aw, cw, hv2⟩ := e2.slice
        rw [hN2] at hv2
        subst hv2
        have hlX := hlt (hYq.kp _ (List.mem_cons_self ..)).1
        have HYn := Lib.hid (And.intro (hYq.cut b2 e2) (And.intro (show ∀ gg, (Value.slice Aw N2 cw).ownBlock = some gg → gg ≠ X from fun gg hg e => by have := (e2.lt hg).1; omega) (And.intro hyi.2 hN2)))
        have HN3 := Lib.hid hN3
        clear hyi hN2 hN3 hlX e2 b2 hYq hrq hor hnX hY hrow hL hy y0 a1 hib
        go_region_law (first
          | (refine step_app_run rfl (.tmp 229) (.tmp 232) 56 rfl _ _ _ (by simp [Act.eval]) (by simp [Act.eval]) r1 ?_)
          | (refine step_app_run rfl (.tmp 233) (.tmp 237) 56 rfl _ _ _ (by simp [Act.eval]) (by simp [Act.eval]) r2 ?_))
        go_wp2_with fail
        go_roundw
        case rel => exact ⟨j + 1, N2, Aw, cw, by have := HN3.out; omega, by omega, rfl, by go_num, Lib.hid ⟨_, HYn.out.2.2.2, HYn.out.1, HYn.out.2.1, .inr HYn.out.2.2.1⟩⟩
        case measure => have := HJL.out; simp [intOf]; omega
      · have hib : (y.id == ai) = false := beq_eq_false_iff_ne.2 hid
        have HE := Lib.hid hid
        clear hid
        have HJY := Lib.hid (And.intro hY (And.intro hnX hor))
        have HLy := Lib.hid (And.intro hL hy)
        clear hY hnX hor hrow hL hy
        go_wp2_with fail
        go_quiet (fail)
        go_wp2_with fail
        go_roundw
        case rel => exact ⟨j + 1, N', _, cj, hN', by omega, rfl, by go_num, Lib.hid ⟨L, HLy.out.1, HJY.out.1.below (below_drewN (Below.refl wr.heap.size wr) _), HJY.out.2.1, HJY.out.2.2.elim (fun h => .inl ⟨h.1, fun i z hi hz => by
          by_cases e : i = j
          · subst e
            have := HLy.out.2
            rw [h.1, hz] at this
            cases this
            exact HE.out
          · exact h.2 i z (by omega) hz⟩) .inr⟩⟩
        case measure => have := HJL.out; simp [intOf]; omega
    · obtain ⟨L, hL, hY, hnX, hor⟩ := HJ.out
      have hLf : L = L2.filter fun y => y.id != ai := hor.elim (fun h => by
        rw [h.1]
        symm
        rw [List.filter_eq_self]
        intro z hz
        obtain ⟨i, hi⟩ := List.mem_iff_getElem?.1 hz
        have hil := (List.getElem?_eq_some_iff.1 hi).1
        have := h.2 i z (by rw [h.1] at hL; omega) hi
        simpa using this) id
      subst hLf
      have HYn := Lib.hid (And.intro hY.less (And.intro HP3.out.1 hL))
      clear hY hnX hor hL
      go_wp2_with fail
      refine (HYn.out.1.lenN HYn.out.2.1 HYn.out.2.2).mono ?_
      rintro e w7 ⟨rfl, rfl⟩
      go_wp2_with fail
      go_roundw
      case rel => exact ⟨k + 1, by have := HLT.out; omega, by go_num, Lib.hid ⟨_, _, _, HYn.out.1, HYn.out.2.1⟩⟩
      case measure => have := HLT.out; simp [intOf]; omega
end Go.Proofs.Ytjjndndhmccflaa
