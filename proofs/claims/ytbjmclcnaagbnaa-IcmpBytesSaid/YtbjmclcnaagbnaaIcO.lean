/- How an echo of layer 16 comes in. Conditions: those that each states. -/
import Derived.Test.YtbjmclcnaagbnaaGen
import Derived.Deep.Slices
import Derived.ChangeSame
namespace Go.Proofs.Ytbjmclcnaagbnaa.Ic
open Go.ChangeShapes Go.WideShapes Go.ChangeAt Go.RowKit Go.Deep
set_option linter.unusedVariables false

theorem open_ec_gen {H : Type} {enc : TypeId × Value → H} {P : Program} {w : World} {b0 : Nat} {t : TypeId} {f0 f1 f2 f3 : Field} {v : Value} {d : DataW H} {p : List MemPlace} (hs : P.underlying t = some (.struct #[f0, f1, f2, f3])) (hone : oneCellFields P #[f0, f1, f2, f3] = true) (hC : P.cellsOf t = 4)
    (u0 : P.underlying f0.type = some (.int .i64)) (u1 : P.underlying f1.type = some (.int .u16)) (u2 : P.underlying f2.type = some (.int .u16)) (u3 : P.underlying f3.type = some .string)
    (hv : Value.okWide P w .any b0 t v) (h : DataW.Trod enc P w 0 (fun _ => true) true t v d p) : ∃ (a0 : Int) (a1 : Nat) (a2 : Nat) (a3 : List UInt8), v = .agg #[.int .i64 a0, .int .u16 (a1 : Int), .int .u16 (a2 : Int), .string ⟨a3.toArray⟩] ∧ (-9223372036854775808 ≤ a0 ∧ a0 ≤ 9223372036854775807) ∧ (a1 ≤ 65535) ∧ (a2 ≤ 65535) ∧ (a3.length ≤ maxLen) := by
  obtain ⟨cs, rfl, hsz⟩ := okWide_struct hs hv
  obtain ⟨l⟩ := cs
  match l, hsz.trans hC with
  | [c0, c1, c2, c3], _ =>
    obtain ⟨fuel, hf⟩ := h
    obtain ⟨xs, n, _, _, _, hlen, hg⟩ := DataW.trod_struct hs hf
    obtain ⟨o0, k0⟩ := hone_of hone 0 f0 rfl
    obtain ⟨o1, k1⟩ := hone_of hone 1 f1 rfl
    obtain ⟨o2, k2⟩ := hone_of hone 2 f2 rfl
    obtain ⟨o3, k3⟩ := hone_of hone 3 f3 rfl
    match xs, hlen with
    | [y0, y1, y2, y3], _ =>
      have g0 : DataW.trod enc P w 0 (fun _ => true) true n f0.type [c0] = some y0 := by simpa [Value.cells, o0, k0] using hg 0 f0 rfl
      have g1 : DataW.trod enc P w 0 (fun _ => true) true n f1.type [c1] = some y1 := by simpa [Value.cells, o1, k1] using hg 1 f1 rfl
      have g2 : DataW.trod enc P w 0 (fun _ => true) true n f2.type [c2] = some y2 := by simpa [Value.cells, o2, k2] using hg 2 f2 rfl
      have g3 : DataW.trod enc P w 0 (fun _ => true) true n f3.type [c3] = some y3 := by simpa [Value.cells, o3, k3] using hg 3 f3 rfl
      obtain ⟨b0, z0, _, x0⟩ := DataW.trod_int u0 g0
      obtain ⟨b1, z1, _, x1⟩ := DataW.trod_int u1 g1
      obtain ⟨b2, z2, _, x2⟩ := DataW.trod_int u2 g2
      obtain ⟨b3, z3, _, x3⟩ := DataW.trod_string u3 g3
      simp at z0 z1 z2 z3
      subst z0 z1 z2 z3
      obtain ⟨m1, rfl, r1⟩ := wf_u16 x1
      obtain ⟨m2, rfl, r2⟩ := wf_u16 x2
      exact ⟨b0, m1, m2, b3.data.toList, rfl, wf_i64 x0, r1, r2, by simpa using x3⟩
theorem open_ec {H : Type} {enc : TypeId × Value → H} {w : World} {b0 : Nat} {v : Value} {d : DataW H} {p : List MemPlace} (hv : Value.okWide Try.prog w .any b0 24 v) (h : DataW.Trod enc Try.prog w 0 (fun _ => true) true 24 v d p) : ∃ (a0 : Int) (a1 : Nat) (a2 : Nat) (a3 : List UInt8), v = .agg #[.int .i64 a0, .int .u16 (a1 : Int), .int .u16 (a2 : Int), .string ⟨a3.toArray⟩] ∧ (-9223372036854775808 ≤ a0 ∧ a0 ≤ 9223372036854775807) ∧ (a1 ≤ 65535) ∧ (a2 ≤ 65535) ∧ (a3.length ≤ maxLen) :=
  open_ec_gen Try.underlying24 (by kernel_rfl) (by kernel_rfl) Try.underlying3 Try.underlying22 Try.underlying22 Try.underlying9 hv h
end Go.Proofs.Ytbjmclcnaagbnaa.Ic
