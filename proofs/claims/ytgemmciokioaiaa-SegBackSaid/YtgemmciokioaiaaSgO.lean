/- How a segment of layer 17 comes in. Conditions: those that each states. -/
import Derived.Test.YtgemmciokioaiaaGen
import Derived.Deep.Slices
import Derived.ChangeSame
namespace Go.Proofs.Ytgemmciokioaiaa.Sg
open Go.ChangeShapes Go.WideShapes Go.ChangeAt Go.RowKit Go.Deep
set_option linter.unusedVariables false

theorem open_sg_gen {H : Type} {enc : TypeId × Value → H} {P : Program} {w : World} {b0 : Nat} {t : TypeId} {f0 f1 f2 f3 f4 f5 f6 f7 : Field} {v : Value} {d : DataW H} {p : List MemPlace} (hs : P.underlying t = some (.struct #[f0, f1, f2, f3, f4, f5, f6, f7])) (hone : oneCellFields P #[f0, f1, f2, f3, f4, f5, f6, f7] = true) (hC : P.cellsOf t = 8)
    (u0 : P.underlying f0.type = some (.int .u16)) (u1 : P.underlying f1.type = some (.int .u16)) (u2 : P.underlying f2.type = some (.int .u32)) (u3 : P.underlying f3.type = some (.int .u32)) (u4 : P.underlying f4.type = some (.int .i64)) (u5 : P.underlying f5.type = some (.int .u16)) (u6 : P.underlying f6.type = some (.int .i64)) (u7 : P.underlying f7.type = some .string)
    (hv : Value.okWide P w .any b0 t v) (h : DataW.Trod enc P w 0 (fun _ => true) true t v d p) : ∃ (a0 : Nat) (a1 : Nat) (a2 : Nat) (a3 : Nat) (a4 : Int) (a5 : Nat) (a6 : Int) (a7 : List UInt8), v = .agg #[.int .u16 (a0 : Int), .int .u16 (a1 : Int), .int .u32 (a2 : Int), .int .u32 (a3 : Int), .int .i64 a4, .int .u16 (a5 : Int), .int .i64 a6, .string ⟨a7.toArray⟩] ∧ (a0 ≤ 65535) ∧ (a1 ≤ 65535) ∧ (a2 ≤ 4294967295) ∧ (a3 ≤ 4294967295) ∧ (-9223372036854775808 ≤ a4 ∧ a4 ≤ 9223372036854775807) ∧ (a5 ≤ 65535) ∧ (-9223372036854775808 ≤ a6 ∧ a6 ≤ 9223372036854775807) ∧ (a7.length ≤ maxLen) := by
  obtain ⟨cs, rfl, hsz⟩ := okWide_struct hs hv
  obtain ⟨l⟩ := cs
  match l, hsz.trans hC with
  | [c0, c1, c2, c3, c4, c5, c6, c7], _ =>
    obtain ⟨fuel, hf⟩ := h
    obtain ⟨xs, n, _, _, _, hlen, hg⟩ := DataW.trod_struct hs hf
    obtain ⟨o0, k0⟩ := hone_of hone 0 f0 rfl
    obtain ⟨o1, k1⟩ := hone_of hone 1 f1 rfl
    obtain ⟨o2, k2⟩ := hone_of hone 2 f2 rfl
    obtain ⟨o3, k3⟩ := hone_of hone 3 f3 rfl
    obtain ⟨o4, k4⟩ := hone_of hone 4 f4 rfl
    obtain ⟨o5, k5⟩ := hone_of hone 5 f5 rfl
    obtain ⟨o6, k6⟩ := hone_of hone 6 f6 rfl
    obtain ⟨o7, k7⟩ := hone_of hone 7 f7 rfl
    match xs, hlen with
    | [y0, y1, y2, y3, y4, y5, y6, y7], _ =>
      have g0 : DataW.trod enc P w 0 (fun _ => true) true n f0.type [c0] = some y0 := by simpa [Value.cells, o0, k0] using hg 0 f0 rfl
      have g1 : DataW.trod enc P w 0 (fun _ => true) true n f1.type [c1] = some y1 := by simpa [Value.cells, o1, k1] using hg 1 f1 rfl
      have g2 : DataW.trod enc P w 0 (fun _ => true) true n f2.type [c2] = some y2 := by simpa [Value.cells, o2, k2] using hg 2 f2 rfl
      have g3 : DataW.trod enc P w 0 (fun _ => true) true n f3.type [c3] = some y3 := by simpa [Value.cells, o3, k3] using hg 3 f3 rfl
      have g4 : DataW.trod enc P w 0 (fun _ => true) true n f4.type [c4] = some y4 := by simpa [Value.cells, o4, k4] using hg 4 f4 rfl
      have g5 : DataW.trod enc P w 0 (fun _ => true) true n f5.type [c5] = some y5 := by simpa [Value.cells, o5, k5] using hg 5 f5 rfl
      have g6 : DataW.trod enc P w 0 (fun _ => true) true n f6.type [c6] = some y6 := by simpa [Value.cells, o6, k6] using hg 6 f6 rfl
      have g7 : DataW.trod enc P w 0 (fun _ => true) true n f7.type [c7] = some y7 := by simpa [Value.cells, o7, k7] using hg 7 f7 rfl
      obtain ⟨b0, z0, _, x0⟩ := DataW.trod_int u0 g0
      obtain ⟨b1, z1, _, x1⟩ := DataW.trod_int u1 g1
      obtain ⟨b2, z2, _, x2⟩ := DataW.trod_int u2 g2
      obtain ⟨b3, z3, _, x3⟩ := DataW.trod_int u3 g3
      obtain ⟨b4, z4, _, x4⟩ := DataW.trod_int u4 g4
      obtain ⟨b5, z5, _, x5⟩ := DataW.trod_int u5 g5
      obtain ⟨b6, z6, _, x6⟩ := DataW.trod_int u6 g6
      obtain ⟨b7, z7, _, x7⟩ := DataW.trod_string u7 g7
      simp at z0 z1 z2 z3 z4 z5 z6 z7
      subst z0 z1 z2 z3 z4 z5 z6 z7
      obtain ⟨m0, rfl, r0⟩ := wf_u16 x0
      obtain ⟨m1, rfl, r1⟩ := wf_u16 x1
      obtain ⟨m2, rfl, r2⟩ := wf_u32 x2
      obtain ⟨m3, rfl, r3⟩ := wf_u32 x3
      obtain ⟨m5, rfl, r5⟩ := wf_u16 x5
      exact ⟨m0, m1, m2, m3, b4, m5, b6, b7.data.toList, rfl, r0, r1, r2, r3, wf_i64 x4, r5, wf_i64 x6, by simpa using x7⟩
theorem open_sg {H : Type} {enc : TypeId × Value → H} {w : World} {b0 : Nat} {v : Value} {d : DataW H} {p : List MemPlace} (hv : Value.okWide Try.prog w .any b0 25 v) (h : DataW.Trod enc Try.prog w 0 (fun _ => true) true 25 v d p) : ∃ (a0 : Nat) (a1 : Nat) (a2 : Nat) (a3 : Nat) (a4 : Int) (a5 : Nat) (a6 : Int) (a7 : List UInt8), v = .agg #[.int .u16 (a0 : Int), .int .u16 (a1 : Int), .int .u32 (a2 : Int), .int .u32 (a3 : Int), .int .i64 a4, .int .u16 (a5 : Int), .int .i64 a6, .string ⟨a7.toArray⟩] ∧ (a0 ≤ 65535) ∧ (a1 ≤ 65535) ∧ (a2 ≤ 4294967295) ∧ (a3 ≤ 4294967295) ∧ (-9223372036854775808 ≤ a4 ∧ a4 ≤ 9223372036854775807) ∧ (a5 ≤ 65535) ∧ (-9223372036854775808 ≤ a6 ∧ a6 ≤ 9223372036854775807) ∧ (a7.length ≤ maxLen) :=
  open_sg_gen Try.underlying25 (by kernel_rfl) (by kernel_rfl) Try.underlying22 Try.underlying22 Try.underlying23 Try.underlying23 Try.underlying3 Try.underlying22 Try.underlying3 Try.underlying9 hv h
end Go.Proofs.Ytgemmciokioaiaa.Sg
