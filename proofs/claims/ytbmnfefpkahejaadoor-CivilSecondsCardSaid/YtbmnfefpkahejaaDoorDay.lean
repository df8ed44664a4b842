/- Package civil's days: the date of a day, the days ahead of a date. Conditions: those that each states. -/
import Derived.Test.YtbmnfefpkahejaaDoorLeap
namespace Go.Proofs.YtbmnfefpkahejaaDoor
open Go.ChangeShapes Go.WideShapes Go.ChangeAt Go.RowKit Go.Deep

set_option maxRecDepth 100000 in
set_option maxHeartbeats 2000000 in
theorem dayAt_any (k y m d : Int) (h : IsDay k y m d) (w : World) (hv : Vars w) :
    Calls Tryd.prog 19 #[.int .i64 k] w fun e w' => e = .returned (.agg #[.int .i64 y, .int .i64 m, .int .i64 d, .int .i64 0, .int .i64 0, .int .i64 0, .int .i64 0]) ∧ Below w.heap.size w w' := by
  have hV := Lib.hid (hv.alloc (.cells #[.int .i64 0, .int .i64 0, .int .i64 0, .int .i64 0, .int .i64 0, .int .i64 0, .int .i64 0] 24))
  have hB := Lib.hid ((Below.refl w.heap.size w).alloc (Nat.le_refl _) (.cells #[.int .i64 0, .int .i64 0, .int .i64 0, .int .i64 0, .int .i64 0, .int .i64 0, .int .i64 0] 24))
  have hd : d = k - bef y - cum y m + 1 := by have := h.eq; omega
  have HD := Lib.hid hd
  have bd := h.bd
  have y0 := h.y0
  have y1 := h.y1
  have m0 := h.m0
  have m1 := h.m1
  have H := Lib.hid h
  have z0 := bef_zero
  have Z := Lib.hid z0
  clear h hd z0 hv
  go_enter Tryd.func19, Tryd.ntmps19
  go_wp2
  go_step3
  go_wp2
  go_step3
  go_wp2
  go_loopg [0, 3, 4] (y - 1970).toNat (fun g s0 s3 s4 wr => ∃ Y : Int, 1970 ≤ Y ∧ Y ≤ y ∧ Y + (g : Int) = y ∧ s0 = .int .i64 (k - bef Y) ∧ s3 = .int .i64 Y ∧ s4 = .int .i64 1 ∧ wr = w.alloc (.cells #[.int .i64 0, .int .i64 0, .int .i64 0, .int .i64 0, .int .i64 0, .int .i64 0, .int .i64 0] 24))
  case atStart => exact ⟨1970, by omega, by omega, by omega, by rw [Z.out]; simp, rfl, rfl, rfl⟩
  case round =>
    obtain ⟨Y, hY0, hY1, hg, rfl, rfl, rfl, rfl⟩ := hrel
    have s1 := bef_step Y
    have S1 := Lib.hid s1
    have b0 := bef_mono hY0
    have lpb := lp_01 Y
    have b1 : 0 ≤ bef Y := by have := Z.out; omega
    by_cases hlt : Y < y
    · have b2 := bef_mono (show Y + 1 ≤ y by omega)
      have t1 : k - bef Y ≥ 365 + lp Y := by omega
      obtain ⟨g', rfl⟩ : ∃ g', gk = g' + 1 := ⟨gk - 1, by omega⟩
      clear s1 b2 b0
      go_wp2_with fail
      refine (dy_any Y _).mono ?_; rintro e w' ⟨rfl, rfl⟩
      go_wp2
      go_roundg g'
      case rel => exact ⟨Y + 1, by omega, by omega, by omega, congrArg _ (by have := S1.out; omega), rfl, rfl, rfl⟩
      case measure => omega
    · obtain rfl : Y = y := by omega
      have t1 : ¬ (k - bef Y ≥ 365 + lp Y) := by omega
      have cz := cum_one Y
      have CZ := Lib.hid cz
      clear s1 b0 cz
      go_wp2_with fail
      refine (dy_any Y _).mono ?_; rintro e w' ⟨rfl, rfl⟩
      go_wp2
      go_loopg [0, 4] (m - 1).toNat (fun g2 s0 s4 wr => ∃ M : Int, 1 ≤ M ∧ M ≤ m ∧ M + (g2 : Int) = m ∧ s0 = .int .i64 (k - bef Y - cum Y M) ∧ s4 = .int .i64 M ∧ wr = w.alloc (.cells #[.int .i64 0, .int .i64 0, .int .i64 0, .int .i64 0, .int .i64 0, .int .i64 0, .int .i64 0] 24))
      case atStart => exact ⟨1, by omega, by omega, by omega, by rw [CZ.out]; simp, rfl, rfl⟩
      case round =>
        obtain ⟨M, hM0, hM1, hg2, rfl, rfl, rfl⟩ := hrel
        have c1 := cum_step Y M hM0 (by omega)
        have C1 := Lib.hid c1
        have c2 := cum_bd Y M hM0 (by omega)
        have c3 := dm_bd Y M
        have c4 : M ≤ 12 := by omega
        by_cases hml : M < m
        · have c5 := cum_mono Y (show M + 1 ≤ m by omega) (by omega) (by omega)
          have t2 : ¬ (k - bef Y - cum Y M < dm Y M) := by omega
          obtain ⟨g', rfl⟩ : ∃ g', gk = g' + 1 := ⟨gk - 1, by omega⟩
          clear c1 c5
          go_wp2_with fail
          refine (dm_any Y M hM0 c4 _ hV.out).mono ?_; rintro e w' ⟨rfl, rfl⟩
          go_wp2
          go_roundg g'
          case rel => exact ⟨M + 1, by omega, by omega, by omega, congrArg _ (by have := C1.out; omega), rfl, rfl⟩
          case measure => omega
        · obtain rfl : M = m := by omega
          have t2 : k - bef Y - cum Y M < dm Y M := by omega
          clear c1
          go_wp2_with fail
          refine (dm_any Y M hM0 c4 _ hV.out).mono ?_; rintro e w' ⟨rfl, rfl⟩
          go_wp2
          rw [Exit.noGoto_ret]
          exact bodyPost_ret (v := .agg #[.int .i64 Y, .int .i64 M, .int .i64 (k - bef Y - cum Y M + 1), .int .i64 0, .int .i64 0, .int .i64 0, .int .i64 0]) (by simp [results, Tryd.results19, go_sem]) rfl ⟨by rw [HD.out], (Below.refl _ _).alloc (Nat.le_refl _) _⟩

set_option maxRecDepth 100000 in
set_option maxHeartbeats 2000000 in
theorem daysTo_any (y m d h i s wd : Int) (y0 : 1970 ≤ y) (y1 : y ≤ 9999) (m0 : 1 ≤ m) (m1 : m ≤ 12) (d0 : 1 ≤ d) (d1 : d ≤ 31) (w : World) (hv : Vars w) :
    Calls Tryd.prog 25 #[.agg #[.int .i64 y, .int .i64 m, .int .i64 d, .int .i64 h, .int .i64 i, .int .i64 s, .int .i64 wd]] w fun e w' => e = .returned (.int .i64 (bef y + cum y m + (d - 1))) ∧ Below w.heap.size w w' := by
  have hV := Lib.hid (hv.alloc (.cells #[.int .i64 y, .int .i64 m, .int .i64 d, .int .i64 h, .int .i64 i, .int .i64 s, .int .i64 wd] 24))
  have hB := Lib.hid ((Below.refl w.heap.size w).alloc (Nat.le_refl _) (.cells #[.int .i64 y, .int .i64 m, .int .i64 d, .int .i64 h, .int .i64 i, .int .i64 s, .int .i64 wd] 24))
  have z0 := bef_zero
  have Z := Lib.hid z0
  have bm := bef_mono y1
  have bz : bef 9999 = 2932532 := by decide
  have bY : bef y ≤ 2932532 := by omega
  clear z0 hv bm bz
  go_enter Tryd.func25, Tryd.ntmps25
  go_wp2
  go_loop [3, 4] (fun s3 s4 => ∃ Y : Int, 1970 ≤ Y ∧ Y ≤ y ∧ s3 = .int .i64 (bef Y + (d - 1)) ∧ s4 = .int .i64 Y) (fun _ s4 => (y - intOf s4).toNat)
  case atStart => exact ⟨1970, by omega, by omega, by rw [Z.out]; simp, rfl⟩
  case round =>
    obtain ⟨Y, hY0, hY1, rfl, rfl⟩ := hrel
    have s1 := bef_step Y
    have S1 := Lib.hid s1
    have b0 := bef_mono hY0
    have lpb := lp_01 Y
    have b1 : 0 ≤ bef Y := by have := Z.out; omega
    have b3 := bef_mono hY1
    clear b0 s1
    by_cases hlt : Y < y
    · go_wp2_with fail
      refine (dy_any Y _).mono ?_; rintro e w' ⟨rfl, rfl⟩
      go_wp2
      go_round
      case rel => exact ⟨Y + 1, by omega, by omega, congrArg _ (by have := S1.out; omega), rfl⟩
      case measure => simp [intOf]; omega
    · obtain rfl : Y = y := by omega
      have cz := cum_one Y
      have CZ := Lib.hid cz
      clear cz
      go_wp2
      go_loop [3, 5] (fun s3 s5 => ∃ M : Int, 1 ≤ M ∧ M ≤ m ∧ s3 = .int .i64 (bef Y + cum Y M + (d - 1)) ∧ s5 = .int .i64 M) (fun _ s5 => (m - intOf s5).toNat)
      case atStart => exact ⟨1, by omega, by omega, by rw [CZ.out]; simp, rfl⟩
      case round =>
        obtain ⟨M, hM0, hM1, rfl, rfl⟩ := hrel
        have c1 := cum_step Y M hM0 (by omega)
        have C1 := Lib.hid c1
        have c2 := cum_bd Y M hM0 (by omega)
        have c3 := dm_bd Y M
        have c4 : M ≤ 12 := by omega
        clear c1
        by_cases hml : M < m
        · go_wp2_with fail
          refine (dm_any Y M hM0 c4 _ hV.out).mono ?_; rintro e w' ⟨rfl, rfl⟩
          go_wp2
          go_round
          case rel => exact ⟨M + 1, by omega, by omega, congrArg _ (by have := C1.out; omega), rfl⟩
          case measure => simp [intOf]; omega
        · obtain rfl : M = m := by omega
          go_wp2
          go_ret
          exact ⟨rfl, hB.out⟩
end Go.Proofs.YtbmnfefpkahejaaDoor
