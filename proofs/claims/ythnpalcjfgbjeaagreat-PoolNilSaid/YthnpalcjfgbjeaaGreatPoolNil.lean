/- Whatever number comes in, 'pantlerlaw13.PoolNil' returns true. No condition. -/
import Derived.Test.YthnpalcjfgbjeaaGreatPoZ
import Derived.Test.YthnpalcjfgbjeaaGreatPoNil
namespace Go.Proofs.YthnpalcjfgbjeaaGreat.poolNil
open Go.ChangeShapes Go.WideShapes Go.ChangeAt Go.RowKit Go.Deep Fr Di Ke Po
set_option linter.unusedVariables false


set_option maxRecDepth 100000 in
set_option maxHeartbeats 8000000 in
theorem walk (w : World) (n : Int) (wn : (Lit.int .i64 n).wf = true) :
    Calls Tryz.prog 4 #[.int .i64 n] w fun e w' => e = .returned (.bool true) ∧ Below w.heap.size w w' := by
  go_enter Tryz.func4, Tryz.ntmps4
  go_wp2_with fail
  refine (Po.alive_any w).mono ?_; rintro e w1 ⟨rfl, b1⟩
  have B1 := Lib.hid b1
  clear b1
  have B2 := Lib.hid (B1.out.alloc B1.out.size (.cells #[.int .i64 n] 3))
  go_wp2_with fail
  refine (forget_nil _ _).mono ?_; rintro e wq ⟨rfl, rfl⟩
  go_wp2_with fail
  refine (get_nil n 0 0 0 _).mono ?_; rintro e wq ⟨rfl, rfl⟩
  go_wp2_with fail
  refine (head_nil _ _).mono ?_; rintro e wq ⟨rfl, rfl⟩
  have B3 := Lib.hid (B2.out.alloc B2.out.size (.cells #[] 90))
  go_wp2_with fail
  refine (part_nil _ _).mono ?_; rintro e wq ⟨rfl, rfl⟩
  go_wp2_with fail
  refine (new_none n _).mono ?_; rintro e wq ⟨rfl, rfl⟩
  go_wp2_with fail
  refine (pin_nil n _).mono ?_; rintro e wq ⟨rfl, rfl⟩
  go_wp2_with fail
  refine (unpin_nil n _).mono ?_; rintro e wq ⟨rfl, rfl⟩
  go_wp2_with fail
  refine (pins_nil n _).mono ?_; rintro e w4 ⟨rfl, b4⟩
  have B4 := Lib.hid (B3.out.trans (b4.mono B3.out.size))
  clear b4 B3
  go_wp2_with fail
  refine (fills_nil _).mono ?_; rintro e wq ⟨rfl, rfl⟩
  go_wp2_with fail
  refine (has_nil n _).mono ?_; rintro e w5 ⟨rfl, b5⟩
  have B5 := Lib.hid (B4.out.trans (b5.mono B4.out.size))
  clear b5 B4
  go_wp2
  go_ret
  exact ⟨rfl, B5.out⟩

set_option maxRecDepth 100000 in
theorem lifted (os : Os) (started : os.Started) (H : Type) (enc : TypeId × Value → H) :
    ReturnsInHanded {} Tryz.checked os 4 .any (Rows.poolNilSpec.pre6 enc Tryz.prog Tryz.f4 Rows.poolNilRow.domain false) (Rows.poolNilSpec.post enc Tryz.prog Tryz.f4 false true false false) := by
  refine returnsInHanded_of_change (C := Tryz.checked) own started (by kernel_rfl) Tryz.func4
    (ChangeSpec.witness6 (enc := enc) (C := Tryz.checked) false ⟨#[], #[.int .i64 0], []⟩ 8 (by kernel_rfl) (by kernel_rfl) (by kernel_rfl) (by kernel_rfl)) ?_
  intro W base args ds gs before hval0 hW hcnd _
  have hval : ∀ (j : Nat) t v, Tryz.f4.params[j]? = some t → args[j]? = some v → Value.okWide Tryz.prog W .any base t v := hval0
  have hW' := hW
  obtain ⟨p, q, hA0, hV, rfl, hfz, hnd⟩ := hW
  have hA : DataW.TrodAll enc Tryz.prog W 0 (fun _ => true) true Tryz.f4.params.toList args.toList ds p := hA0
  rw [Tryz.params4] at hA hval
  obtain ⟨v0, vs0, d0, ds0, p0, q0, hargs, rfl, rfl, h0, r0⟩ := trodAll_cons hA
  obtain ⟨rfl, rfl, rfl⟩ := trodAll_nil r0
  obtain rfl : args = #[v0] := by cases args; simp_all
  obtain ⟨a0, rfl, _, _, w0⟩ := open_int Tryz.underlying3 (hval 0 3 v0 rfl rfl) h0
  clear hA0 hval0
  exact law_close hW' laidOut (by kernel_rfl) rfl Tryz.underlying4 rfl ⟨rfl, rfl, rfl⟩ (walk W a0 w0)

theorem over : Rows.poolNilRow.holds Tryz.pinned (OpenSpec.ofChange Rows.poolNilSpec) :=
  OpenClaim.holds_of_wide 4 Tryz.f4 rfl rfl rfl rfl rfl rfl rfl ⟨rfl, rfl, rfl, rfl, rfl⟩ rfl rfl rfl rfl rfl (by kernel_rfl) Tryz.func4 (by kernel_rfl)
    (of_decide_eq_true (by kernel_rfl)) (by unfold Func.isWrapper; first | (rw [if_pos (by decide +kernel)]; kernel_rfl) | (rw [if_neg (by decide +kernel)]; exact ⟨rfl, rfl⟩))
    (fun os started H enc _ => lifted os started H enc)

theorem proved : Rows.PoolNilSaid := over

end Go.Proofs.YthnpalcjfgbjeaaGreat.poolNil
