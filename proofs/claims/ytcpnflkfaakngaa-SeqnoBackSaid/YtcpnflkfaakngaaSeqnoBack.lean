/- SeqnoBack: what is added is how far it is and is taken off again, and a place is told again near any one within 2^31. Conditions: none beside the row's own. -/
import Derived.Test.YtcpnflkfaakngaaSq
import Derived.Test.YtcpnflkfaakngaaSq
namespace Go.Proofs.Ytcpnflkfaakngaa.seqnoBack
open Go.ChangeShapes Go.WideShapes Go.ChangeAt Go.RowKit Go.Deep Sq
set_option linter.unusedVariables false


set_option maxRecDepth 100000 in
set_option maxHeartbeats 8000000 in
theorem walk (w : World) (a : Int) (wa : (Lit.int .u32 a).wf = true) (n : Int) (wn : (Lit.int .i32 n).wf = true) (p : Int) (wp : (Lit.int .i32 p).wf = true) (s : Int) (ws : (Lit.int .i32 s).wf = true) :
    Calls Try.prog 5 #[.int .u32 a, .int .i32 n, .int .i32 p, .int .i32 s] w fun e w' => e = .returned (.bool true) ∧ Below w.heap.size w w' := by
  have ha : 0 ≤ a ∧ a ≤ 4294967295 := by obtain ⟨x, rfl, h⟩ := wf_u32 wa; omega
  obtain ⟨n1, n2⟩ := wf_i32 wn
  obtain ⟨p1, p2⟩ := wf_i32 wp
  obtain ⟨s1, s2⟩ := wf_i32 ws
  have BB := Below.refl w.heap.size w
  have wr : ∀ z : Int, -2147483648 ≤ z → z ≤ 2147483647 → wrap64 z = z := by intro z h1 h2; unfold wrap64; omega
  have N := Lib.hid (wr n n1 n2)
  have P := Lib.hid (wr p p1 p2)
  have S := Lib.hid (wr s s1 s2)
  clear wa wn wp ws wr
  have E1 := Lib.hid (show fr a (rd (a + n)) = n by unfold fr rd; omega)
  have E2 := Lib.hid (show rd (rd (a + n) + -n) = a by unfold rd; omega)
  have E3 := Lib.hid (show off a (rd (a + p)) (p + s) = p ∨ s = -2147483648 by unfold off fr rd; omega)
  go_enter Try.func5, Try.ntmps5
  go_wp2_with fail
  refine (alive_any w).mono ?_; rintro e w' ⟨rfl, rfl⟩
  go_wp2_with fail
  try rw [N.out]
  refine (add_any a n _).mono ?_; rintro e w' ⟨rfl, rfl⟩
  obtain ⟨b, hb⟩ : ∃ b, b = rd (a + n) := ⟨_, rfl⟩
  rw [← hb] at E1 E2 ⊢
  clear hb
  go_wp2_with fail
  refine (far_any a b _).mono ?_; rintro e w' ⟨rfl, rfl⟩
  rw [E1.out]
  go_wp2_with fail
  try rw [N.out]
  refine (add_any b (-n) _).mono ?_; rintro e w' ⟨rfl, rfl⟩
  rw [E2.out]
  go_wp2_with fail
  try rw [P.out]
  refine (add_any a p _).mono ?_; rintro e w' ⟨rfl, rfl⟩
  obtain ⟨c, hc⟩ : ∃ c, c = rd (a + p) := ⟨_, rfl⟩
  rw [← hc] at E3 ⊢
  clear hc
  go_wp2_with fail
  refine (offset_any a c (p + s) (by omega) (by omega) _).mono ?_; rintro e w' ⟨rfl, rfl⟩
  obtain ⟨o, ho⟩ : ∃ o, o = off a c (p + s) := ⟨_, rfl⟩
  rw [← ho] at E3 ⊢
  clear ho
  rcases E3.out with rfl | rfl
  · go_wp2
    go_ret
    exact ⟨by simp, BB⟩
  · by_cases h : o = p
    · subst h
      go_wp2
      go_ret
      exact ⟨by simp, BB⟩
    · go_wp2
      go_ret
      exact ⟨by simp, BB⟩

set_option maxRecDepth 100000 in
theorem lifted (os : Os) (started : os.Started) (H : Type) (enc : TypeId × Value → H) :
    ReturnsInHanded {} Try.checked os 5 .any (Rows.seqnoBackSpec.pre6 enc Try.prog Try.f5 Rows.seqnoBackRow.domain false) (Rows.seqnoBackSpec.post enc Try.prog Try.f5 false true false false) := by
  refine returnsInHanded_of_change (C := Try.checked) own started (by kernel_rfl) Try.func5
    (ChangeSpec.witness6 (enc := enc) (C := Try.checked) false ⟨#[], #[.int .u32 0, .int .i32 0, .int .i32 0, .int .i32 0], []⟩ 8 (by kernel_rfl) (by kernel_rfl) (by kernel_rfl) (by kernel_rfl)) ?_
  intro W base args ds gs before hval0 hW hcnd _
  have hval : ∀ (j : Nat) t v, Try.f5.params[j]? = some t → args[j]? = some v → Value.okWide Try.prog W .any base t v := hval0
  have hW' := hW
  obtain ⟨p, q, hA0, hV, rfl, hfz, hnd⟩ := hW
  have hA : DataW.TrodAll enc Try.prog W 0 (fun _ => true) true Try.f5.params.toList args.toList ds p := hA0
  rw [Try.params5] at hA hval
  obtain ⟨v0, vs0, d0, ds0, p0, q0, hargs, rfl, rfl, h0, r0⟩ := trodAll_cons hA
  obtain ⟨v1, vs1, d1, ds1, p1, q1, rfl, rfl, rfl, h1, r1⟩ := trodAll_cons r0
  obtain ⟨v2, vs2, d2, ds2, p2, q2, rfl, rfl, rfl, h2, r2⟩ := trodAll_cons r1
  obtain ⟨v3, vs3, d3, ds3, p3, q3, rfl, rfl, rfl, h3, r3⟩ := trodAll_cons r2
  obtain ⟨rfl, rfl, rfl⟩ := trodAll_nil r3
  obtain rfl : args = #[v0, v1, v2, v3] := by cases args; simp_all
  obtain ⟨a0, rfl, _, _, w0⟩ := open_int Try.underlying22 (hval 0 22 v0 rfl rfl) h0
  obtain ⟨a1, rfl, _, _, w1⟩ := open_int Try.underlying21 (hval 1 21 v1 rfl rfl) h1
  obtain ⟨a2, rfl, _, _, w2⟩ := open_int Try.underlying21 (hval 2 21 v2 rfl rfl) h2
  obtain ⟨a3, rfl, _, _, w3⟩ := open_int Try.underlying21 (hval 3 21 v3 rfl rfl) h3
  clear hA0 hval0
  exact law_close hW' laidOut (by kernel_rfl) rfl Try.underlying4 rfl ⟨rfl, rfl, rfl⟩ (walk W a0 w0 a1 w1 a2 w2 a3 w3)

theorem over : Rows.seqnoBackRow.holds Try.pinned (OpenSpec.ofChange Rows.seqnoBackSpec) :=
  OpenClaim.holds_of_wide 5 Try.f5 rfl rfl rfl rfl rfl rfl rfl ⟨rfl, rfl, rfl, rfl, rfl⟩ rfl rfl rfl rfl rfl (by kernel_rfl) Try.func5 (by kernel_rfl)
    (of_decide_eq_true (by kernel_rfl)) (by unfold Func.isWrapper; first | (rw [if_pos (by decide +kernel)]; kernel_rfl) | (rw [if_neg (by decide +kernel)]; exact ⟨rfl, rfl⟩))
    (fun os started H enc _ => lifted os started H enc)

theorem proved : Rows.SeqnoBackSaid := over

end Go.Proofs.Ytcpnflkfaakngaa.seqnoBack
