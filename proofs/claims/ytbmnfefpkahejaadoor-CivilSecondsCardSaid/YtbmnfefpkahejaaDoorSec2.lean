/- Package civil's Seconds: the second of a date, and that there is none. Conditions: those that each states. -/
import Derived.Test.YtbmnfefpkahejaaDoorSec
namespace Go.Proofs.YtbmnfefpkahejaaDoor
open Go.ChangeShapes Go.WideShapes Go.ChangeAt Go.RowKit Go.Deep

set_option maxRecDepth 100000 in
set_option maxHeartbeats 2000000 in
/-- Up to the weekday's test. -/
theorem sec_good (Y M D H I S W : Int) (h : good Y M D H I S W) (w : World) (hv : Vars w) :
    Calls Tryd.prog 15 #[.agg #[.int .i64 Y, .int .i64 M, .int .i64 D, .int .i64 H, .int .i64 I, .int .i64 S, .int .i64 W]] w fun e w' => e = .returned (.tuple #[.int .i64 ((bef Y + cum Y M + (D - 1)) * 86400 + (H * 3600 + I * 60 + S)), .int .i64 0]) ∧ Below w.heap.size w w' := by
  have hb := hv.alloc (.cells #[.int .i64 Y, .int .i64 M, .int .i64 D, .int .i64 H, .int .i64 I, .int .i64 S, .int .i64 W] 24)
  have hV := Lib.hid hb
  have hB := Lib.hid ((Below.refl w.heap.size w).alloc (Nat.le_refl _) (.cells #[.int .i64 Y, .int .i64 M, .int .i64 D, .int .i64 H, .int .i64 I, .int .i64 S, .int .i64 W] 24))
  have hK := Lib.hid (Blk.new w 24 #[.int .i64 Y, .int .i64 M, .int .i64 D, .int .i64 H, .int .i64 I, .int .i64 S, .int .i64 W])
  have hd := dat_of h
  have kb := hd.kbd
  have bd := hd.bd
  have he := hd.day.eq
  have hw := h.2.2
  obtain ⟨h1, h2, h3⟩ := h
  clear h3
  have G1 := Lib.hid (show dayOk Y M D from h1)
  have G2 := Lib.hid (show timeOk H I S from h2)
  have kd : 0 ≤ bef Y + cum Y M + (D - 1) ∧ bef Y + cum Y M + (D - 1) ≤ 2932896 := by omega
  have HW := Lib.hid hw
  have HDT := Lib.hid (fun W' hW => daysTo_any Y M D H I S W bd.1 bd.2.1 bd.2.2.1 bd.2.2.2.1 bd.2.2.2.2.1 bd.2.2.2.2.2.1 (w := W') (hv := hW))
  have HKD := Lib.hid kd
  clear hw he h1 h2 hd hv hb kb
  generalize hk : bef Y + cum Y M + (D - 1) = k at *
  clear hk
  obtain ⟨y0, y1, m0, m1, d0, d1, a0, a1, i0, i1, s0, s1, ww0, ww1⟩ := bd
  go_enter Tryd.func15, Tryd.ntmps15
  go_wp2_with fail
  refine (isDay_yes Y M D H I S W G1.out _ hV.out).mono ?_; rintro e w2 ⟨rfl, b2⟩
  have V2 := Lib.hid (hV.out.below b2)
  have B2 := Lib.hid (hB.out.trans (b2.mono hB.out.size))
  have K2 := Lib.hid (hK.out.older (older_below b2))
  have k0 := K2.out.cell 0
  have k1 := K2.out.cell 1
  have k2 := K2.out.cell 2
  have k3 := K2.out.cell 3
  have k4 := K2.out.cell 4
  have k5 := K2.out.cell 5
  have k6 := K2.out.cell 6
  simp only [List.getElem?_toArray, List.getElem?_cons_zero, List.getElem?_cons_succ] at k0 k1 k2 k3 k4 k5 k6
  clear b2
  go_wp2_with fail
  refine (isTime_yes Y M D H I S W G2.out _).mono ?_; rintro e w3 ⟨rfl, b3⟩
  have V3 := Lib.hid (V2.out.below b3)
  have B3 := Lib.hid (B2.out.trans (b3.mono B2.out.size))
  have K3 := Lib.hid (K2.out.older (older_below b3))
  have k0 := K3.out.cell 0
  have k1 := K3.out.cell 1
  have k2 := K3.out.cell 2
  have k3 := K3.out.cell 3
  have k4 := K3.out.cell 4
  have k5 := K3.out.cell 5
  have k6 := K3.out.cell 6
  simp only [List.getElem?_toArray, List.getElem?_cons_zero, List.getElem?_cons_succ] at k0 k1 k2 k3 k4 k5 k6
  clear b3 B2 V2 K2
  go_wp2_with fail
  refine (HDT.out _ V3.out).mono ?_; rintro e w4 ⟨rfl, b4⟩
  have V4 := Lib.hid (V3.out.below b4)
  have B4 := Lib.hid (B3.out.trans (b4.mono B3.out.size))
  have K4 := Lib.hid (K3.out.older (older_below b4))
  have k0 := K4.out.cell 0
  have k1 := K4.out.cell 1
  have k2 := K4.out.cell 2
  have k3 := K4.out.cell 3
  have k4 := K4.out.cell 4
  have k5 := K4.out.cell 5
  have k6 := K4.out.cell 6
  simp only [List.getElem?_toArray, List.getElem?_cons_zero, List.getElem?_cons_succ] at k0 k1 k2 k3 k4 k5 k6
  clear b4 B3 V3 K3 HDT
  obtain ⟨kd0, kd1⟩ := HKD.out
  have WD := Lib.hid (fun w => wday_any k kd0 kd1 w)
  go_wp2_with fail
  go_quiet ((go_at_call 20; exact Calls.quiet_of_same (WD.out _)))
  have e : (k + 4) % 7 = W := HW.out.symm
  rw [e]
  clear e
  go_wp2
  go_ret2
  exact ⟨rfl, below_drewN B4.out _⟩

theorem sec_ok (n Y M D H I S W : Int) (h : Dat n Y M D H I S W) (w : World) (hv : Vars w) :
    Calls Tryd.prog 15 #[.agg #[.int .i64 Y, .int .i64 M, .int .i64 D, .int .i64 H, .int .i64 I, .int .i64 S, .int .i64 W]] w fun e w' => e = .returned (.tuple #[.int .i64 n, .int .i64 0]) ∧ Below w.heap.size w w' := by
  have := sec_good Y M D H I S W h.good w hv
  rw [← h.back] at this
  exact this

set_option maxRecDepth 100000 in
set_option maxHeartbeats 4000000 in
theorem sec_no (Y M D H I S W : Int) (h : ¬ good Y M D H I S W) (w : World) (hv : Vars w) :
    Calls Tryd.prog 15 #[.agg #[.int .i64 Y, .int .i64 M, .int .i64 D, .int .i64 H, .int .i64 I, .int .i64 S, .int .i64 W]] w fun e w' => e = .returned (.tuple #[.int .i64 0, .int .i64 60]) ∧ Below w.heap.size w w' := by
  have hb := hv.alloc (.cells #[.int .i64 Y, .int .i64 M, .int .i64 D, .int .i64 H, .int .i64 I, .int .i64 S, .int .i64 W] 24)
  have hV := Lib.hid hb
  have hB := Lib.hid ((Below.refl w.heap.size w).alloc (Nat.le_refl _) (.cells #[.int .i64 Y, .int .i64 M, .int .i64 D, .int .i64 H, .int .i64 I, .int .i64 S, .int .i64 W] 24))
  have hK := Lib.hid (Blk.new w 24 #[.int .i64 Y, .int .i64 M, .int .i64 D, .int .i64 H, .int .i64 I, .int .i64 S, .int .i64 W])
  clear hv hb
  by_cases h1 : dayOk Y M D
  · have G1 := Lib.hid h1
    by_cases h2 : timeOk H I S
    · have h3 : ¬ W = (bef Y + cum Y M + (D - 1) + 4) % 7 := fun e => h ⟨h1, h2, e⟩
      have G2 := Lib.hid h2
      have hk : IsDay (bef Y + cum Y M + (D - 1)) Y M D := ⟨h1.1, h1.2.1, h1.2.2.1, h1.2.2.2.1, h1.2.2.2.2.1, h1.2.2.2.2.2, rfl⟩
      have kd := hk.bd
      have d31 := dm_bd Y M
      have HDT := Lib.hid (fun W' hW => daysTo_any Y M D H I S W h1.1 h1.2.1 h1.2.2.1 h1.2.2.2.1 h1.2.2.2.2.1 (by have := h1.2.2.2.2.2; omega) (w := W') (hv := hW))
      have HKD := Lib.hid (show 0 ≤ bef Y + cum Y M + (D - 1) ∧ bef Y + cum Y M + (D - 1) ≤ 2932896 from ⟨kd.1, kd.2.1⟩)
      clear h h1 h2 hk kd d31
      generalize hk : bef Y + cum Y M + (D - 1) = k at *
      clear hk
      have e3 : (W != (k + 4) % 7) = true := by simpa using h3
      have E3 := Lib.hid e3
      clear h3 e3
      go_enter Tryd.func15, Tryd.ntmps15
      go_wp2_with fail
      refine (isDay_yes Y M D H I S W G1.out _ hV.out).mono ?_; rintro e w2 ⟨rfl, b2⟩
      have V2 := Lib.hid (hV.out.below b2)
      have B2 := Lib.hid (hB.out.trans (b2.mono hB.out.size))
      have K2 := Lib.hid (hK.out.older (older_below b2))
      have k0 := K2.out.cell 0
      have k1 := K2.out.cell 1
      have k2 := K2.out.cell 2
      have k3 := K2.out.cell 3
      have k4 := K2.out.cell 4
      have k5 := K2.out.cell 5
      have k6 := K2.out.cell 6
      simp only [List.getElem?_toArray, List.getElem?_cons_zero, List.getElem?_cons_succ] at k0 k1 k2 k3 k4 k5 k6
      clear b2
      go_wp2_with fail
      refine (isTime_yes Y M D H I S W G2.out _).mono ?_; rintro e w3 ⟨rfl, b3⟩
      have V3 := Lib.hid (V2.out.below b3)
      have B3 := Lib.hid (B2.out.trans (b3.mono B2.out.size))
      have K3 := Lib.hid (K2.out.older (older_below b3))
      have k0 := K3.out.cell 0
      have k1 := K3.out.cell 1
      have k2 := K3.out.cell 2
      have k3 := K3.out.cell 3
      have k4 := K3.out.cell 4
      have k5 := K3.out.cell 5
      have k6 := K3.out.cell 6
      simp only [List.getElem?_toArray, List.getElem?_cons_zero, List.getElem?_cons_succ] at k0 k1 k2 k3 k4 k5 k6
      clear b3 B2 V2 K2
      go_wp2_with fail
      refine (HDT.out _ V3.out).mono ?_; rintro e w4 ⟨rfl, b4⟩
      have B4 := Lib.hid (B3.out.trans (b4.mono B3.out.size))
      have K4 := Lib.hid (K3.out.older (older_below b4))
      have k6 := K4.out.cell 6
      simp only [List.getElem?_toArray, List.getElem?_cons_zero, List.getElem?_cons_succ] at k6
      clear b4 B3 V3 K3 HDT
      obtain ⟨kd0, kd1⟩ := HKD.out
      have WD := Lib.hid (fun w => wday_any k kd0 kd1 w)
      go_wp2_with fail
      go_quiet ((go_at_call 20; exact Calls.quiet_of_same (WD.out _)))
      have e3 := E3.out
      generalize (k + 4) % 7 = X at *
      go_wp2
      go_ret2
      exact ⟨rfl, below_drewN B4.out _⟩
    · go_enter Tryd.func15, Tryd.ntmps15
      go_wp2_with fail
      refine (isDay_yes Y M D H I S W G1.out _ hV.out).mono ?_; rintro e w2 ⟨rfl, b2⟩
      have B2 := Lib.hid (hB.out.trans (b2.mono hB.out.size))
      have K2 := Lib.hid (hK.out.older (older_below b2))
      have k0 := K2.out.cell 0
      have k1 := K2.out.cell 1
      have k2 := K2.out.cell 2
      have k3 := K2.out.cell 3
      have k4 := K2.out.cell 4
      have k5 := K2.out.cell 5
      have k6 := K2.out.cell 6
      simp only [List.getElem?_toArray, List.getElem?_cons_zero, List.getElem?_cons_succ] at k0 k1 k2 k3 k4 k5 k6
      clear b2
      go_wp2_with fail
      refine (isTime_no Y M D H I S W h2 _).mono ?_; rintro e w3 ⟨rfl, b3⟩
      have B3 := Lib.hid (B2.out.trans (b3.mono B2.out.size))
      clear b3
      go_wp2
      go_ret2
      exact ⟨rfl, B3.out⟩
  · go_enter Tryd.func15, Tryd.ntmps15
    go_wp2_with fail
    refine (isDay_no Y M D H I S W h1 _ hV.out).mono ?_; rintro e w2 ⟨rfl, b2⟩
    have B2 := Lib.hid (hB.out.trans (b2.mono hB.out.size))
    clear b2
    go_wp2
    go_ret2
    exact ⟨rfl, B2.out⟩
end Go.Proofs.YtbmnfefpkahejaaDoor
