/- The document's answer to 'which date has this second'. Conditions: those that each states. -/
import Derived.Test.YtbmnfefpkahejaaDoorOf
namespace Go.Proofs.YtbmnfefpkahejaaDoor
open Go.ChangeShapes Go.WideShapes Go.ChangeAt Go.RowKit Go.Deep

/-- The closed forms of a second's day, as one fact of plain bounds. -/
theorem Dat.closed {n Y M D H I S W : Int} (h : Dat n Y M D H I S W) : Y = yr (n / 86400) ∧ M = mo (n / 86400) ∧ D = da (n / 86400) :=
  h.day.same (isDay_of _ h.kbd.1 h.kbd.2)
theorem yoe_parts (e : Int) (h0 : 0 ≤ e) (h1 : e < 146097) : 0 ≤ e - e / 1460 + e / 36524 - e / 146096 ∧ e - e / 1460 + e / 36524 - e / 146096 ≤ 146097 := by omega

theorem dinfoR : (Tryd.prog.info? 32).map (·.size) = some 7 := by kernel_rfl

set_option maxRecDepth 100000 in
set_option maxHeartbeats 4000000 in
theorem refOf_any (n Y M D H I S W : Int) (h : Dat n Y M D H I S W) (w : World) :
    Calls Tryd.prog 13 #[.int .i64 n] w fun e w' => e = .returned (.agg #[.int .i64 Y, .int .i64 M, .int .i64 D, .int .i64 H, .int .i64 I, .int .i64 S, .int .i64 W]) ∧ Below w.heap.size w w' := by
  have n0 := h.n0
  have n1 := h.n1
  have kb := h.kbd
  have hc := h.closed
  unfold yr mo da at hc
  have H4 := Lib.hid (show H = n % 86400 / 3600 from h.h)
  have H5 := Lib.hid (show I = n % 86400 % 3600 / 60 from h.i)
  have H6 := Lib.hid (show S = n % 86400 % 60 from h.s)
  have H7 := Lib.hid (show W = (n / 86400 + 4) % 7 from h.w)
  have b0 : 0 ≤ doeOf (n / 86400) := by unfold doeOf; omega
  have b1 : doeOf (n / 86400) < 146097 := by unfold doeOf; omega
  have yb := doy_bd _ b0 b1
  have mb := mp_bd _ b0 b1
  have pb := yoe_parts _ b0 b1
  have eb : 0 ≤ eraOf (n / 86400) ∧ eraOf (n / 86400) ≤ 30 := by unfold eraOf; omega
  have lb := lp_01 (yoe (doeOf (n / 86400)) + 1)
  have qb : doy (doeOf (n / 86400)) ≤ 365 := by omega
  have q0 := yb.2.2.1
  have yb1 := yb.2.1
  have yb0 := yb.1
  have HE := Lib.hid (show eraOf (n / 86400) = (n / 86400 + 719468) / 146097 from rfl)
  have He := Lib.hid (show doeOf (n / 86400) = (n / 86400 + 719468) % 146097 from rfl)
  have HY := Lib.hid (show yoe (doeOf (n / 86400)) = (doeOf (n / 86400) - doeOf (n / 86400) / 1460 + doeOf (n / 86400) / 36524 - doeOf (n / 86400) / 146096) / 365 from rfl)
  have HQ := Lib.hid (show doy (doeOf (n / 86400)) = doeOf (n / 86400) - (365 * yoe (doeOf (n / 86400)) + yoe (doeOf (n / 86400)) / 4 - yoe (doeOf (n / 86400)) / 100) from rfl)
  have HP := Lib.hid (show mp (doeOf (n / 86400)) = (5 * doy (doeOf (n / 86400)) + 2) / 153 from rfl)
  have HC := Lib.hid hc
  clear h hc lb yb
  generalize mp (doeOf (n / 86400)) = p at *
  generalize doy (doeOf (n / 86400)) = q at *
  generalize yoe (doeOf (n / 86400)) = y at *
  generalize doeOf (n / 86400) = e at *
  generalize eraOf (n / 86400) = E at *
  go_enter Tryd.func13, Tryd.ntmps13
  go_upto_region 4 with fail
  rw [← HE.out, ← He.out]
  go_upto_region 5 with fail
  rw [← HY.out]
  go_upto_region 6 with fail
  rw [← HQ.out]
  go_upto_region 7 with fail
  rw [← HP.out]
  clear HE He HY HQ HP pb
  by_cases hp : p < 10
  · have hc := HC.out
    rw [if_pos hp, if_pos hp, Int.add_zero] at hc
    obtain ⟨hY, hM, hD⟩ := hc
    have HYY := Lib.hid hY
    have HMM := Lib.hid hM
    have HDD := Lib.hid hD
    clear hY hM hD HC
    go_upto_region 17 with fail
    rw [← HYY.out, ← HMM.out, ← HDD.out, ← H4.out, show n % 3600 / 60 = I by rw [H5.out]; omega, show n % 60 = S by rw [H6.out]; omega, ← H7.out]
    have K6 := Lib.hid (Blk.new (w.alloc (.cells #[.int .i64 0, .int .i64 0, .int .i64 0, .int .i64 0, .int .i64 0, .int .i64 0, .int .i64 0] 32)) 32 #[.int .i64 Y, .int .i64 M, .int .i64 D, .int .i64 H, .int .i64 I, .int .i64 S, .int .i64 W])
    rw [show (w.alloc (.cells #[.int .i64 0, .int .i64 0, .int .i64 0, .int .i64 0, .int .i64 0, .int .i64 0, .int .i64 0] 32)).heap.size = w.heap.size + 1 by simp] at K6
    have K7 := Lib.hid ((Blk.new w 32 #[.int .i64 0, .int .i64 0, .int .i64 0, .int .i64 0, .int .i64 0, .int .i64 0, .int .i64 0]).alloc (.cells #[.int .i64 Y, .int .i64 M, .int .i64 D, .int .i64 H, .int .i64 I, .int .i64 S, .int .i64 W] 32))
    have B7 := Lib.hid (((Below.refl w.heap.size w).alloc (Nat.le_refl _) (.cells #[.int .i64 0, .int .i64 0, .int .i64 0, .int .i64 0, .int .i64 0, .int .i64 0, .int .i64 0] 32)).alloc (by simp) (.cells #[.int .i64 Y, .int .i64 M, .int .i64 D, .int .i64 H, .int .i64 I, .int .i64 S, .int .i64 W] 32))
    generalize (w.alloc (.cells #[.int .i64 0, .int .i64 0, .int .i64 0, .int .i64 0, .int .i64 0, .int .i64 0, .int .i64 0] 32)).alloc (.cells #[.int .i64 Y, .int .i64 M, .int .i64 D, .int .i64 H, .int .i64 I, .int .i64 S, .int .i64 W] 32) = w5 at *
    go_wp2_with (first
      | (refine wpList_load_row rfl 32 (.tmp 9) rfl (w.heap.size + 1) rfl 32 _ (0, 0) _ K6.out Tryd.underlying32 rfl dinfoR ?_)
      | (refine wpList_store_row rfl 32 (.tmp 2) (.tmp 84) rfl w.heap.size #[.int .i64 Y, .int .i64 M, .int .i64 D, .int .i64 H, .int .i64 I, .int .i64 S, .int .i64 W] rfl rfl 32 _ K7.out dinfoR rfl (one7 _ _ _ _ _ _ _) ?_))
    refine bodyPost_ret (v := .agg #[.int .i64 Y, .int .i64 M, .int .i64 D, .int .i64 H, .int .i64 I, .int .i64 S, .int .i64 W]) ?_ rfl ?_
    · exact results_cell_row Tryd.results13 _ _ w.heap.size 32 _ (0, 0) _ rfl (K7.out.setRow _) Tryd.underlying32 rfl dinfoR
    · exact ⟨rfl, below_setRow B7.out (Nat.le_refl _) _⟩
  · have hc := HC.out
    rw [if_neg hp, if_neg hp] at hc
    obtain ⟨hY, hM, hD⟩ := hc
    have HYY := Lib.hid hY
    have HMM := Lib.hid hM
    have HDD := Lib.hid hD
    clear hY hM hD HC
    go_upto_region 17 with fail
    rw [← HYY.out, ← HMM.out, ← HDD.out, ← H4.out, show n % 3600 / 60 = I by rw [H5.out]; omega, show n % 60 = S by rw [H6.out]; omega, ← H7.out]
    have K6 := Lib.hid (Blk.new (w.alloc (.cells #[.int .i64 0, .int .i64 0, .int .i64 0, .int .i64 0, .int .i64 0, .int .i64 0, .int .i64 0] 32)) 32 #[.int .i64 Y, .int .i64 M, .int .i64 D, .int .i64 H, .int .i64 I, .int .i64 S, .int .i64 W])
    rw [show (w.alloc (.cells #[.int .i64 0, .int .i64 0, .int .i64 0, .int .i64 0, .int .i64 0, .int .i64 0, .int .i64 0] 32)).heap.size = w.heap.size + 1 by simp] at K6
    have K7 := Lib.hid ((Blk.new w 32 #[.int .i64 0, .int .i64 0, .int .i64 0, .int .i64 0, .int .i64 0, .int .i64 0, .int .i64 0]).alloc (.cells #[.int .i64 Y, .int .i64 M, .int .i64 D, .int .i64 H, .int .i64 I, .int .i64 S, .int .i64 W] 32))
    have B7 := Lib.hid (((Below.refl w.heap.size w).alloc (Nat.le_refl _) (.cells #[.int .i64 0, .int .i64 0, .int .i64 0, .int .i64 0, .int .i64 0, .int .i64 0, .int .i64 0] 32)).alloc (by simp) (.cells #[.int .i64 Y, .int .i64 M, .int .i64 D, .int .i64 H, .int .i64 I, .int .i64 S, .int .i64 W] 32))
    generalize (w.alloc (.cells #[.int .i64 0, .int .i64 0, .int .i64 0, .int .i64 0, .int .i64 0, .int .i64 0, .int .i64 0] 32)).alloc (.cells #[.int .i64 Y, .int .i64 M, .int .i64 D, .int .i64 H, .int .i64 I, .int .i64 S, .int .i64 W] 32) = w5 at *
    go_wp2_with (first
      | (refine wpList_load_row rfl 32 (.tmp 9) rfl (w.heap.size + 1) rfl 32 _ (0, 0) _ K6.out Tryd.underlying32 rfl dinfoR ?_)
      | (refine wpList_store_row rfl 32 (.tmp 2) (.tmp 84) rfl w.heap.size #[.int .i64 Y, .int .i64 M, .int .i64 D, .int .i64 H, .int .i64 I, .int .i64 S, .int .i64 W] rfl rfl 32 _ K7.out dinfoR rfl (one7 _ _ _ _ _ _ _) ?_))
    refine bodyPost_ret (v := .agg #[.int .i64 Y, .int .i64 M, .int .i64 D, .int .i64 H, .int .i64 I, .int .i64 S, .int .i64 W]) ?_ rfl ?_
    · exact results_cell_row Tryd.results13 _ _ w.heap.size 32 _ (0, 0) _ rfl (K7.out.setRow _) Tryd.underlying32 rfl dinfoR
    · exact ⟨rfl, below_setRow B7.out (Nat.le_refl _) _⟩
end Go.Proofs.YtbmnfefpkahejaaDoor
