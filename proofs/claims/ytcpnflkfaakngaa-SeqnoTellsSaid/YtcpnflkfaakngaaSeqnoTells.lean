/- SeqnoTells: Add, Far, Before, Within and Later tell of any two numbers and any whole one what the document tells. Conditions: none beside the row's own. -/
import Derived.Test.YtcpnflkfaakngaaSq
import Derived.Test.YtcpnflkfaakngaaSq
namespace Go.Proofs.Ytcpnflkfaakngaa.seqnoTells
open Go.ChangeShapes Go.WideShapes Go.ChangeAt Go.RowKit Go.Deep Sq
set_option linter.unusedVariables false


set_option maxRecDepth 100000 in
set_option maxHeartbeats 8000000 in
theorem walk (w : World) (a : Int) (wa : (Lit.int .u32 a).wf = true) (b : Int) (wb : (Lit.int .u32 b).wf = true) (n : Int) (wn : (Lit.int .i64 n).wf = true) :
    Calls Try.prog 3 #[.int .u32 a, .int .u32 b, .int .i64 n] w fun e w' => e = .returned (.bool true) ∧ Below w.heap.size w w' := by
  have ha : 0 ≤ a ∧ a ≤ 4294967295 := by obtain ⟨x, rfl, h⟩ := wf_u32 wa; omega
  have hb : 0 ≤ b ∧ b ≤ 4294967295 := by obtain ⟨x, rfl, h⟩ := wf_u32 wb; omega
  have BB := Below.refl w.heap.size w
  go_enter Try.func3, Try.ntmps3
  go_wp2_with fail
  refine (alive_any w).mono ?_; rintro e w' ⟨rfl, rfl⟩
  go_wp2_with fail
  refine (rfar_any a b ha hb _).mono ?_; rintro e w' ⟨rfl, rfl⟩
  have L := Lib.hid (show lt a b = if 0 < fr a b then b else a from rfl)
  obtain ⟨g, hg⟩ : ∃ g, g = fr a b := ⟨_, rfl⟩
  have G := Lib.hid hg.symm
  rw [← hg] at L ⊢
  clear hg
  by_cases h : 0 < g
  · have L2 := Lib.hid (L.out.trans (if_pos h))
    go_wp2_with fail
    refine (add_any a n _).mono ?_; rintro e w' ⟨rfl, rfl⟩
    go_wp2_with fail
    refine (radd_any a n ha _).mono ?_; rintro e w' ⟨rfl, rfl⟩
    generalize rd (a + n) = z at *
    go_wp2_with fail
    refine (far_any a b _).mono ?_; rintro e w' ⟨rfl, rfl⟩
    rw [G.out]
    go_wp2_with fail
    refine (before_any a b _).mono ?_; rintro e w' ⟨rfl, rfl⟩
    rw [G.out]
    go_wp2_with fail
    refine (within_any b a n _).mono ?_; rintro e w' ⟨rfl, rfl⟩
    go_wp2_with fail
    refine (rwithin_any b a n hb ha _).mono ?_; rintro e w' ⟨rfl, rfl⟩
    generalize wi b a n = bb at *
    go_wp2_with fail
    refine (later_any a b _).mono ?_; rintro e w' ⟨rfl, rfl⟩
    rw [L2.out]
    go_wp2
    go_ret
    exact ⟨by simp, BB⟩
  · have L2 := Lib.hid (L.out.trans (if_neg h))
    go_wp2_with fail
    refine (add_any a n _).mono ?_; rintro e w' ⟨rfl, rfl⟩
    go_wp2_with fail
    refine (radd_any a n ha _).mono ?_; rintro e w' ⟨rfl, rfl⟩
    generalize rd (a + n) = z at *
    go_wp2_with fail
    refine (far_any a b _).mono ?_; rintro e w' ⟨rfl, rfl⟩
    rw [G.out]
    go_wp2_with fail
    refine (before_any a b _).mono ?_; rintro e w' ⟨rfl, rfl⟩
    rw [G.out]
    go_wp2_with fail
    refine (within_any b a n _).mono ?_; rintro e w' ⟨rfl, rfl⟩
    go_wp2_with fail
    refine (rwithin_any b a n hb ha _).mono ?_; rintro e w' ⟨rfl, rfl⟩
    generalize wi b a n = bb at *
    go_wp2_with fail
    refine (later_any a b _).mono ?_; rintro e w' ⟨rfl, rfl⟩
    rw [L2.out]
    go_wp2
    go_ret
    exact ⟨by simp, BB⟩

set_option maxRecDepth 100000 in
theorem lifted (os : Os) (started : os.Started) (H : Type) (enc : TypeId × Value → H) :
    ReturnsInHanded {} Try.checked os 3 .any (Rows.seqnoTellsSpec.pre6 enc Try.prog Try.f3 Rows.seqnoTellsRow.domain false) (Rows.seqnoTellsSpec.post enc Try.prog Try.f3 false true false false) := by
  refine returnsInHanded_of_change (C := Try.checked) own started (by kernel_rfl) Try.func3
    (ChangeSpec.witness6 (enc := enc) (C := Try.checked) false ⟨#[], #[.int .u32 0, .int .u32 0, .int .i64 0], []⟩ 8 (by kernel_rfl) (by kernel_rfl) (by kernel_rfl) (by kernel_rfl)) ?_
  intro W base args ds gs before hval0 hW hcnd _
  have hval : ∀ (j : Nat) t v, Try.f3.params[j]? = some t → args[j]? = some v → Value.okWide Try.prog W .any base t v := hval0
  have hW' := hW
  obtain ⟨p, q, hA0, hV, rfl, hfz, hnd⟩ := hW
  have hA : DataW.TrodAll enc Try.prog W 0 (fun _ => true) true Try.f3.params.toList args.toList ds p := hA0
  rw [Try.params3] at hA hval
  obtain ⟨v0, vs0, d0, ds0, p0, q0, hargs, rfl, rfl, h0, r0⟩ := trodAll_cons hA
  obtain ⟨v1, vs1, d1, ds1, p1, q1, rfl, rfl, rfl, h1, r1⟩ := trodAll_cons r0
  obtain ⟨v2, vs2, d2, ds2, p2, q2, rfl, rfl, rfl, h2, r2⟩ := trodAll_cons r1
  obtain ⟨rfl, rfl, rfl⟩ := trodAll_nil r2
  obtain rfl : args = #[v0, v1, v2] := by cases args; simp_all
  obtain ⟨a0, rfl, _, _, w0⟩ := open_int Try.underlying22 (hval 0 22 v0 rfl rfl) h0
  obtain ⟨a1, rfl, _, _, w1⟩ := open_int Try.underlying22 (hval 1 22 v1 rfl rfl) h1
  obtain ⟨a2, rfl, _, _, w2⟩ := open_int Try.underlying3 (hval 2 3 v2 rfl rfl) h2
  clear hA0 hval0
  exact law_close hW' laidOut (by kernel_rfl) rfl Try.underlying4 rfl ⟨rfl, rfl, rfl⟩ (walk W a0 w0 a1 w1 a2 w2)

theorem over : Rows.seqnoTellsRow.holds Try.pinned (OpenSpec.ofChange Rows.seqnoTellsSpec) :=
  OpenClaim.holds_of_wide 3 Try.f3 rfl rfl rfl rfl rfl rfl rfl ⟨rfl, rfl, rfl, rfl, rfl⟩ rfl rfl rfl rfl rfl (by kernel_rfl) Try.func3 (by kernel_rfl)
    (of_decide_eq_true (by kernel_rfl)) (by unfold Func.isWrapper; first | (rw [if_pos (by decide +kernel)]; kernel_rfl) | (rw [if_neg (by decide +kernel)]; exact ⟨rfl, rfl⟩))
    (fun os started H enc _ => lifted os started H enc)

theorem proved : Rows.SeqnoTellsSaid := over

end Go.Proofs.Ytcpnflkfaakngaa.seqnoTells
