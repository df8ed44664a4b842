/- SeqnoSpan: just the numbers from a first one on are within; of two unlike numbers one is before the other, or each is half a round away. Conditions: none beside the row's own. -/
import Derived.Test.YtcpnflkfaakngaaSq
import Derived.Test.YtcpnflkfaakngaaSq
namespace Go.Proofs.Ytcpnflkfaakngaa.seqnoSpan
open Go.ChangeShapes Go.WideShapes Go.ChangeAt Go.RowKit Go.Deep Sq
set_option linter.unusedVariables false


set_option maxRecDepth 100000 in
set_option maxHeartbeats 8000000 in
theorem walk (w : World) (f : Int) (wf : (Lit.int .u32 f).wf = true) (n : Int) (wn : (Lit.int .u32 n).wf = true) (k : Int) (wk : (Lit.int .u32 k).wf = true) (b : Int) (wb : (Lit.int .u32 b).wf = true) :
    Calls Try.prog 6 #[.int .u32 f, .int .u32 n, .int .u32 k, .int .u32 b] w fun e w' => e = .returned (.bool true) ∧ Below w.heap.size w w' := by
  have hf : 0 ≤ f ∧ f ≤ 4294967295 := by obtain ⟨x, rfl, h⟩ := wf_u32 wf; omega
  have hn : 0 ≤ n ∧ n ≤ 4294967295 := by obtain ⟨x, rfl, h⟩ := wf_u32 wn; omega
  have hk : 0 ≤ k ∧ k ≤ 4294967295 := by obtain ⟨x, rfl, h⟩ := wf_u32 wk; omega
  have hb : 0 ≤ b ∧ b ≤ 4294967295 := by obtain ⟨x, rfl, h⟩ := wf_u32 wb; omega
  have BB := Below.refl w.heap.size w
  obtain ⟨m, hm⟩ : ∃ m : Int, m = n / 2 := ⟨_, rfl⟩
  have M := Lib.hid hm.symm
  have m1 : 0 ≤ m ∧ m ≤ 2147483647 := by omega
  have E1 := Lib.hid (show wi (rd (f + k)) f m = decide (k < m) by unfold wi; rw [decide_eq_decide]; unfold fr rd; omega)
  have E2 := Lib.hid (show f = b → fr f b = 0 by unfold fr; omega)
  have E3 := Lib.hid (show f ≠ b → fr f b ≠ -2147483648 → decide (0 < fr f b) = !decide (0 < fr b f) by intro h1 h2; rw [← decide_not, decide_eq_decide]; unfold fr at h2 ⊢; omega)
  clear wf wn wk wb hm
  go_enter Try.func6, Try.ntmps6
  go_wp2_with fail
  refine (alive_any w).mono ?_; rintro e w' ⟨rfl, rfl⟩
  go_upto_region 4 with fail
  try rw [M.out]
  go_wp2_with fail
  refine (add_any f k _).mono ?_; rintro e w' ⟨rfl, rfl⟩
  go_wp2_with fail
  refine (within_any (rd (f + k)) f m _).mono ?_; rintro e w' ⟨rfl, rfl⟩
  rw [E1.out]
  by_cases h : f = b
  · subst h
    have E4 := Lib.hid (E2.out rfl)
    go_wp2_with fail
    refine (before_any f f _).mono ?_; rintro e w' ⟨rfl, rfl⟩
    rw [E4.out]
    go_wp2
    go_ret
    exact ⟨by simp, BB⟩
  go_wp2_with fail
  refine (before_any f b _).mono ?_; rintro e w' ⟨rfl, rfl⟩
  go_wp2_with fail
  refine (before_any b f _).mono ?_; rintro e w' ⟨rfl, rfl⟩
  have E5 := Lib.hid (E3.out h)
  clear E2 E3
  generalize decide (0 < fr f b) = x at *
  generalize decide (0 < fr b f) = y at *
  by_cases hx : x = !y
  · subst hx
    go_wp2
    go_ret
    exact ⟨by simp, BB⟩
  have E6 := Lib.hid (show fr f b = -2147483648 from Decidable.byContradiction fun h2 => hx (E5.out h2))
  obtain rfl : x = y := by revert hx; cases x <;> cases y <;> simp
  clear hx E5
  go_wp2_with fail
  refine (far_any f b _).mono ?_; rintro e w' ⟨rfl, rfl⟩
  rw [E6.out]
  go_wp2
  go_ret
  exact ⟨by simp, BB⟩

set_option maxRecDepth 100000 in
theorem lifted (os : Os) (started : os.Started) (H : Type) (enc : TypeId × Value → H) :
    ReturnsInHanded {} Try.checked os 6 .any (Rows.seqnoSpanSpec.pre6 enc Try.prog Try.f6 Rows.seqnoSpanRow.domain false) (Rows.seqnoSpanSpec.post enc Try.prog Try.f6 false true false false) := by
  refine returnsInHanded_of_change (C := Try.checked) own started (by kernel_rfl) Try.func6
    (ChangeSpec.witness6 (enc := enc) (C := Try.checked) false ⟨#[], #[.int .u32 0, .int .u32 0, .int .u32 0, .int .u32 0], []⟩ 8 (by kernel_rfl) (by kernel_rfl) (by kernel_rfl) (by kernel_rfl)) ?_
  intro W base args ds gs before hval0 hW hcnd _
  have hval : ∀ (j : Nat) t v, Try.f6.params[j]? = some t → args[j]? = some v → Value.okWide Try.prog W .any base t v := hval0
  have hW' := hW
  obtain ⟨p, q, hA0, hV, rfl, hfz, hnd⟩ := hW
  have hA : DataW.TrodAll enc Try.prog W 0 (fun _ => true) true Try.f6.params.toList args.toList ds p := hA0
  rw [Try.params6] at hA hval
  obtain ⟨v0, vs0, d0, ds0, p0, q0, hargs, rfl, rfl, h0, r0⟩ := trodAll_cons hA
  obtain ⟨v1, vs1, d1, ds1, p1, q1, rfl, rfl, rfl, h1, r1⟩ := trodAll_cons r0
  obtain ⟨v2, vs2, d2, ds2, p2, q2, rfl, rfl, rfl, h2, r2⟩ := trodAll_cons r1
  obtain ⟨v3, vs3, d3, ds3, p3, q3, rfl, rfl, rfl, h3, r3⟩ := trodAll_cons r2
  obtain ⟨rfl, rfl, rfl⟩ := trodAll_nil r3
  obtain rfl : args = #[v0, v1, v2, v3] := by cases args; simp_all
  obtain ⟨a0, rfl, _, _, w0⟩ := open_int Try.underlying22 (hval 0 22 v0 rfl rfl) h0
  obtain ⟨a1, rfl, _, _, w1⟩ := open_int Try.underlying22 (hval 1 22 v1 rfl rfl) h1
  obtain ⟨a2, rfl, _, _, w2⟩ := open_int Try.underlying22 (hval 2 22 v2 rfl rfl) h2
  obtain ⟨a3, rfl, _, _, w3⟩ := open_int Try.underlying22 (hval 3 22 v3 rfl rfl) h3
  clear hA0 hval0
  exact law_close hW' laidOut (by kernel_rfl) rfl Try.underlying4 rfl ⟨rfl, rfl, rfl⟩ (walk W a0 w0 a1 w1 a2 w2 a3 w3)

theorem over : Rows.seqnoSpanRow.holds Try.pinned (OpenSpec.ofChange Rows.seqnoSpanSpec) :=
  OpenClaim.holds_of_wide 6 Try.f6 rfl rfl rfl rfl rfl rfl rfl ⟨rfl, rfl, rfl, rfl, rfl⟩ rfl rfl rfl rfl rfl (by kernel_rfl) Try.func6 (by kernel_rfl)
    (of_decide_eq_true (by kernel_rfl)) (by unfold Func.isWrapper; first | (rw [if_pos (by decide +kernel)]; kernel_rfl) | (rw [if_neg (by decide +kernel)]; exact ⟨rfl, rfl⟩))
    (fun os started H enc _ => lifted os started H enc)

theorem proved : Rows.SeqnoSpanSaid := over

end Go.Proofs.Ytcpnflkfaakngaa.seqnoSpan
