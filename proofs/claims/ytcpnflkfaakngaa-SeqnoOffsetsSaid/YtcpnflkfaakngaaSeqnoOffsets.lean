/- SeqnoOffsets: Offset tells the place of any number near any place from -2^40 to 2^40 that the document tells. Conditions: none beside the row's own. -/
import Derived.Test.YtcpnflkfaakngaaSq
import Derived.Test.YtcpnflkfaakngaaSq
namespace Go.Proofs.Ytcpnflkfaakngaa.seqnoOffsets
open Go.ChangeShapes Go.WideShapes Go.ChangeAt Go.RowKit Go.Deep Sq
set_option linter.unusedVariables false


set_option maxRecDepth 100000 in
set_option maxHeartbeats 8000000 in
theorem walk (w : World) (f : Int) (wf : (Lit.int .u32 f).wf = true) (x : Int) (wx : (Lit.int .u32 x).wf = true) (n : Int) (wn : (Lit.int .i64 n).wf = true) :
    Calls Try.prog 4 #[.int .u32 f, .int .u32 x, .int .i64 n] w fun e w' => e = .returned (.bool true) ∧ Below w.heap.size w w' := by
  have hf : 0 ≤ f ∧ f ≤ 4294967295 := by obtain ⟨x, rfl, h⟩ := wf_u32 wf; omega
  have hx : 0 ≤ x ∧ x ≤ 4294967295 := by obtain ⟨x, rfl, h⟩ := wf_u32 wx; omega
  have BB := Below.refl w.heap.size w
  clear wf wx wn
  go_enter Try.func4, Try.ntmps4
  go_wp2_with fail
  refine (alive_any w).mono ?_; rintro e w' ⟨rfl, rfl⟩
  by_cases h1 : n > 1099511627776
  · go_wp2
    go_ret
    exact ⟨rfl, BB⟩
  by_cases h2 : n < -1099511627776
  · go_wp2
    go_ret
    exact ⟨rfl, BB⟩
  go_wp2_with fail
  refine (offset_any f x n (by omega) (by omega) _).mono ?_; rintro e w' ⟨rfl, rfl⟩
  go_wp2_with fail
  refine (roffset_any f x n hf hx (by omega) (by omega) _).mono ?_; rintro e w' ⟨rfl, rfl⟩
  generalize off f x n = q at *
  go_wp2
  go_ret
  exact ⟨by simp, BB⟩

set_option maxRecDepth 100000 in
theorem lifted (os : Os) (started : os.Started) (H : Type) (enc : TypeId × Value → H) :
    ReturnsInHanded {} Try.checked os 4 .any (Rows.seqnoOffsetsSpec.pre6 enc Try.prog Try.f4 Rows.seqnoOffsetsRow.domain false) (Rows.seqnoOffsetsSpec.post enc Try.prog Try.f4 false true false false) := by
  refine returnsInHanded_of_change (C := Try.checked) own started (by kernel_rfl) Try.func4
    (ChangeSpec.witness6 (enc := enc) (C := Try.checked) false ⟨#[], #[.int .u32 0, .int .u32 0, .int .i64 0], []⟩ 8 (by kernel_rfl) (by kernel_rfl) (by kernel_rfl) (by kernel_rfl)) ?_
  intro W base args ds gs before hval0 hW hcnd _
  have hval : ∀ (j : Nat) t v, Try.f4.params[j]? = some t → args[j]? = some v → Value.okWide Try.prog W .any base t v := hval0
  have hW' := hW
  obtain ⟨p, q, hA0, hV, rfl, hfz, hnd⟩ := hW
  have hA : DataW.TrodAll enc Try.prog W 0 (fun _ => true) true Try.f4.params.toList args.toList ds p := hA0
  rw [Try.params4] at hA hval
  obtain ⟨v0, vs0, d0, ds0, p0, q0, hargs, rfl, rfl, h0, r0⟩ := trodAll_cons hA
  obtain ⟨v1, vs1, d1, ds1, p1, q1, rfl, rfl, rfl, h1, r1⟩ := trodAll_cons r0
  obtain ⟨v2, vs2, d2, ds2, p2, q2, rfl, rfl, rfl, h2, r2⟩ := trodAll_cons r1
  obtain ⟨rfl, rfl, rfl⟩ := trodAll_nil r2
  obtain rfl : args = #[v0, v1, v2] := by cases args; simp_all
  obtain ⟨a0, rfl, _, _, w0⟩ := open_int Try.underlying22 (hval 0 22 v0 rfl rfl) h0
  obtain ⟨a1, rfl, _, _, w1⟩ := open_int Try.underlying22 (hval 1 22 v1 rfl rfl) h1
  obtain ⟨a2, rfl, _, _, w2⟩ := open_int Try.underlying3 (hval 2 3 v2 rfl rfl) h2
  clear hA0 hval0
  exact law_close hW' laidOut (by kernel_rfl) rfl Try.underlying4 rfl ⟨rfl, rfl, rfl⟩ (walk W a0 w0 a1 w1 a2 w2)

theorem over : Rows.seqnoOffsetsRow.holds Try.pinned (OpenSpec.ofChange Rows.seqnoOffsetsSpec) :=
  OpenClaim.holds_of_wide 4 Try.f4 rfl rfl rfl rfl rfl rfl rfl ⟨rfl, rfl, rfl, rfl, rfl⟩ rfl rfl rfl rfl rfl (by kernel_rfl) Try.func4 (by kernel_rfl)
    (of_decide_eq_true (by kernel_rfl)) (by unfold Func.isWrapper; first | (rw [if_pos (by decide +kernel)]; kernel_rfl) | (rw [if_neg (by decide +kernel)]; exact ⟨rfl, rfl⟩))
    (fun os started H enc _ => lifted os started H enc)

theorem proved : Rows.SeqnoOffsetsSaid := over

end Go.Proofs.Ytcpnflkfaakngaa.seqnoOffsets
