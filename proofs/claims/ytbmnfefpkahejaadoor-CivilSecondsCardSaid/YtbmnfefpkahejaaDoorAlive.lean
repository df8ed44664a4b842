/- The chapter's example, and structs of seven numbers held against each other. Conditions: those that each states. -/
import Derived.Test.YtbmnfefpkahejaaDoorPars
namespace Go.Proofs.YtbmnfefpkahejaaDoor
open Go.ChangeShapes Go.WideShapes Go.ChangeAt Go.RowKit Go.Deep

theorem dat_one : Dat 784111777 1994 11 6 8 49 37 0 :=
  ⟨by decide, by decide, ⟨by decide, by decide, by decide, by decide, by decide, by decide, by decide⟩, by decide, by decide, by decide, by decide⟩
def sunText : List UInt8 := [83, 117, 110, 44, 32, 48, 54, 32, 78, 111, 118, 32, 49, 57, 57, 52, 32, 48, 56, 58, 52, 57, 58, 51, 55, 32, 71, 77, 84]
def monText : List UInt8 := [77, 111, 110, 44, 32, 48, 54, 32, 78, 111, 118, 32, 49, 57, 57, 52, 32, 48, 56, 58, 52, 57, 58, 51, 55, 32, 71, 77, 84]
theorem text_one : text 1994 11 6 8 49 37 0 = sunText := by decide
theorem mon_none : ∀ n, ¬ Tells monText n := by
  rintro n ⟨Y, M, D, H, I, S, W, hd, e⟩
  have hs := (says_text hd).2
  rw [← e] at hs
  have hy : Y = 1994 := hs.y.symm.trans (by decide)
  have hm : M = 11 := hs.m.symm.trans (by decide)
  have hdd : D = 6 := hs.d.symm.trans (by decide)
  have hw : W = 1 := hs.w.symm.trans (by decide)
  have h1 := hd.day.eq
  have h2 := hd.w
  have e1 : bef 1994 = 8766 := by decide
  have e2 : cum 1994 11 = 304 := by decide
  rw [hy, hm, e1, e2] at h1
  omega

set_option maxRecDepth 100000 in
set_option maxHeartbeats 1000000 in
theorem alive_any (w : World) (hv : Vars w) : Calls Tryd.prog 7 #[] w fun e w' => e = .returned (.bool true) ∧ Below w.heap.size w w' := by
  have K1 := fun w hv => print_ok 784111777 1994 11 6 8 49 37 0 dat_one w hv
  rw [text_one] at K1
  have K2 := fun w hv => parse_ok sunText 784111777 ⟨_, _, _, _, _, _, _, dat_one, text_one.symm⟩ w hv
  have K3 := fun w hv => parse_no monText mon_none w hv
  unfold sunText at K1 K2
  unfold monText at K3
  have K1 := Lib.hid K1
  have K2 := Lib.hid K2
  have K3 := Lib.hid K3
  go_enter Tryd.func7, Tryd.ntmps7
  go_wp2_with fail
  refine (K1.out _ hv).mono ?_; rintro e w1 ⟨rfl, b1⟩
  have V1 := Lib.hid (hv.below b1)
  have B1 := Lib.hid b1
  clear b1
  go_wp2_with fail
  refine (K2.out _ V1.out).mono ?_; rintro e w2 ⟨rfl, b2⟩
  have V2 := Lib.hid (V1.out.below b2)
  have B2 := Lib.hid (B1.out.trans (b2.mono B1.out.size))
  clear b2
  go_wp2_with fail
  refine (K3.out _ V2.out).mono ?_; rintro e w3 ⟨rfl, b3⟩
  have B3 := Lib.hid (B2.out.trans (b3.mono B2.out.size))
  clear b3
  go_wp2
  go_ret
  exact ⟨rfl, B3.out⟩

/-- '==' of two dates that are one; of two that aren't. -/
theorem run_eq7 (a b c d e f g : Int) (w : World) :
    (binOp .eql 24 (.agg #[.int .i64 a, .int .i64 b, .int .i64 c, .int .i64 d, .int .i64 e, .int .i64 f, .int .i64 g]) (.agg #[.int .i64 a, .int .i64 b, .int .i64 c, .int .i64 d, .int .i64 e, .int .i64 f, .int .i64 g])).run Tryd.prog w = .ok (.bool true) w := by
  go_simp
end Go.Proofs.YtbmnfefpkahejaaDoor
