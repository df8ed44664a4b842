/- Whatever list comes in, 'pantlerlaw08.GatherNil' returns true and leaves it as it was. No condition. -/
import Derived.Test.YtplmabnmkkkehaaGaN
namespace Go.Proofs.Ytplmabnmkkkehaa.gatherNil
open Go.ChangeShapes Go.WideShapes Go.ChangeAt Go.RowKit Go.Deep
set_option linter.unusedVariables false


set_option maxRecDepth 100000 in
set_option maxHeartbeats 2000000 in
theorem walk (w : World) (A0 : Option Addr) (c0 : Nat) (l : List Pc) (h0 : Pcs w A0 l ∧ (∀ q ∈ l, q.Ok) ∧ (A0 = none → l = [] ∧ c0 = 0)) :
    Calls Try.prog 5 #[.slice A0 l.length c0] w fun e w' => e = .returned (.bool true) ∧ Below w.heap.size w w' := by
  obtain ⟨hp, _, _⟩ := h0
  have HP := Lib.hid hp
  clear hp
  by_cases l1 : (l.length : Int) > 100
  · go_enter Try.func5, Try.ntmps5
    go_wp2_with fail
    refine (alive_any _).mono ?_; rintro e w0 ⟨rfl, b0⟩
    have B0 := Lib.hid b0
    clear b0
    go_wp2
    go_ret
    exact ⟨rfl, B0.out⟩
  have OF0 := Lib.hid (fun W (hb : Below w.heap.size w W) => of_any A0 c0 l W (HP.out.new hb) (by omega))
  have HN := Lib.hid hold_nil
  have FN := Lib.hid fetch_nil
  have CN := Lib.hid check_nil
  have DN := Lib.hid drop_nil
  go_enter Try.func5, Try.ntmps5
  go_wp2_with fail
  refine (alive_any _).mono ?_; rintro e w0 ⟨rfl, b0⟩
  have B0 := Lib.hid b0
  clear b0
  go_wp2_with fail
  refine (OF0.out _ B0.out).mono ?_; rintro e w1 ⟨Aw1, cw1, rfl, _, bw1⟩
  have B1 := Lib.hid (B0.out.trans (bw1.mono B0.out.size))
  clear bw1
  go_wp2_with fail
  refine (FN.out _ _).mono ?_; rintro e w2 ⟨rfl, rfl⟩
  go_wp2_with fail
  refine (OF0.out _ B1.out).mono ?_; rintro e w3 ⟨Aw3, cw3, rfl, _, bw3⟩
  have B3 := Lib.hid (B1.out.trans (bw3.mono B1.out.size))
  clear bw3
  go_wp2_with fail
  refine (CN.out 1 _ _).mono ?_; rintro e w4 ⟨rfl, rfl⟩
  go_wp2_with fail
  refine (OF0.out _ B3.out).mono ?_; rintro e w5 ⟨Aw5, cw5, rfl, _, bw5⟩
  have B5 := Lib.hid (B3.out.trans (bw5.mono B3.out.size))
  clear bw5
  go_wp2_with fail
  refine (HN.out 1 _ _ _ _).mono ?_; rintro e w6 ⟨rfl, b6⟩
  have B6 := Lib.hid (B5.out.trans (b6.mono B5.out.size))
  clear b6
  go_wp2_with fail
  refine (OF0.out _ B6.out).mono ?_; rintro e w7 ⟨Aw7, cw7, rfl, _, bw7⟩
  have B7 := Lib.hid (B6.out.trans (bw7.mono B6.out.size))
  clear bw7
  go_wp2_with fail
  refine (DN.out _ _).mono ?_; rintro e w8 ⟨rfl, rfl⟩
  go_wp2
  go_ret
  exact ⟨rfl, B7.out⟩

set_option maxRecDepth 100000 in
theorem lifted (os : Os) (started : os.Started) (H : Type) (enc : TypeId × Value → H) :
    ReturnsInHanded {} Try.checked os 5 .any (Rows.gatherNilSpec.pre6 enc Try.prog Try.f5 Rows.gatherNilRow.domain false) (Rows.gatherNilSpec.post enc Try.prog Try.f5 false true false false) := by
  refine returnsInHanded_of_change (C := Try.checked) own started (by kernel_rfl) Try.func5
    (ChangeSpec.witness6 (enc := enc) (C := Try.checked) false ⟨#[], #[.slice none 0 0], []⟩ 8 (by kernel_rfl) (by kernel_rfl) (by kernel_rfl) (by kernel_rfl)) ?_
  intro W base args ds gs before hval0 hW hcnd _
  have hval : ∀ (j : Nat) t v, Try.f5.params[j]? = some t → args[j]? = some v → Value.okWide Try.prog W .any base t v := hval0
  have hW' := hW
  obtain ⟨p, q, hA0, hV, rfl, hfz, hnd⟩ := hW
  have hA : DataW.TrodAll enc Try.prog W 0 (fun _ => true) true Try.f5.params.toList args.toList ds p := hA0
  rw [Try.params5] at hA hval
  obtain ⟨v0, vs0, d0, ds0, p0, q0, hargs, rfl, rfl, h0, r0⟩ := trodAll_cons hA
  obtain ⟨rfl, rfl, rfl⟩ := trodAll_nil r0
  obtain rfl : args = #[v0] := by cases args; simp_all
  obtain ⟨A0, c0, f0, rfl, b0⟩ := open_pcs Try.underlying37 Try.underlying79 (by kernel_rfl) rfl rfl rfl (by kernel_rfl) (by kernel_rfl) (by kernel_rfl) Try.underlying3 Try.underlying3 Try.underlying3 (hval 0 37 v0 rfl rfl) h0
  clear hA0 hval0
  exact law_close hW' laidOut (by kernel_rfl) rfl Try.underlying4 rfl ⟨rfl, rfl, rfl⟩ (walk W A0 c0 f0 b0)

theorem over : Rows.gatherNilRow.holds Try.pinned (OpenSpec.ofChange Rows.gatherNilSpec) :=
  OpenClaim.holds_of_wide 5 Try.f5 rfl rfl rfl rfl rfl rfl rfl ⟨rfl, rfl, rfl, rfl, rfl⟩ rfl rfl rfl rfl rfl (by kernel_rfl) Try.func5 (by kernel_rfl)
    (of_decide_eq_true (by kernel_rfl)) (by unfold Func.isWrapper; first | (rw [if_pos (by decide +kernel)]; kernel_rfl) | (rw [if_neg (by decide +kernel)]; exact ⟨rfl, rfl⟩))
    (fun os started H enc _ => lifted os started H enc)

theorem proved : Rows.GatherNilSaid := over

end Go.Proofs.Ytplmabnmkkkehaa.gatherNil
