/- The document's answer to 'which second has this date', where the numbers are within their coarse bounds. Conditions: those that each states. -/
import Derived.Test.YtbmnfefpkahejaaDoorRefSec
namespace Go.Proofs.YtbmnfefpkahejaaDoor
open Go.ChangeShapes Go.WideShapes Go.ChangeAt Go.RowKit Go.Deep

theorem reads5_of {w0 w : World} {d : Nat} {Y M D H I S W : Int} (h : Now w0 d 32 #[.int .i64 Y, .int .i64 M, .int .i64 D, .int .i64 H, .int .i64 I, .int .i64 S, .int .i64 W] w) :
    (w.cell? ⟨d, 0, none⟩ = some (.int .i64 Y) ∧ w.cell? ⟨d, 1, none⟩ = some (.int .i64 M) ∧ w.cell? ⟨d, 2, none⟩ = some (.int .i64 D) ∧ w.cell? ⟨d, 3, none⟩ = some (.int .i64 H) ∧ w.cell? ⟨d, 4, none⟩ = some (.int .i64 I) ∧ w.cell? ⟨d, 5, none⟩ = some (.int .i64 S) ∧ w.cell? ⟨d, 6, none⟩ = some (.int .i64 W)) ∧ Hid (Now w0 d 32 #[.int .i64 Y, .int .i64 M, .int .i64 D, .int .i64 H, .int .i64 I, .int .i64 S, .int .i64 W] w) := by
  refine ⟨⟨?_, ?_, ?_, ?_, ?_, ?_, ?_⟩, Lib.hid h⟩
  · rw [h.blk.cell]; rfl
  · rw [h.blk.cell]; rfl
  · rw [h.blk.cell]; rfl
  · rw [h.blk.cell]; rfl
  · rw [h.blk.cell]; rfl
  · rw [h.blk.cell]; rfl
  · rw [h.blk.cell]; rfl

set_option maxRecDepth 100000 in
set_option maxHeartbeats 4000000 in
theorem refSec_same_a (n Y M D H I S W : Int) (hc : coarse Y M D) (ht : timeOk H I S) (hn : n = (bef Y + cum Y M + (D - 1)) * 86400 + (H * 3600 + I * 60 + S)) (hd : Dat n Y M D H I S W) (hm : M ≤ 2)  (w : World) (hv : Vars w) :
    Calls Tryd.prog 16 #[.agg #[.int .i64 Y, .int .i64 M, .int .i64 D, .int .i64 H, .int .i64 I, .int .i64 S, .int .i64 W]] w fun e w' => e = .returned (.tuple #[.int .i64 n, .bool true]) ∧ Below w.heap.size w w' := by
  obtain ⟨z1, z2, z3, z4, z5, z6⟩ := hc
  obtain ⟨y1, y2, y3, y4, y5, y6⟩ := ht
  have a1 : decide (Y < 1970) = false := by simpa using z1
  have a2 : decide (9999 < Y) = false := by simpa using z2
  have a3 : decide (M < 1) = false := by simp; omega
  have a4 : decide (12 < M) = false := by simpa using z4
  have a5 : decide (D < 1) = false := by simp; omega
  have a6 : decide (31 < D) = false := by simpa using z6
  have b1 : decide (H < 0) = false := by simpa using y1
  have b2 : decide (23 < H) = false := by simp; omega
  have b3 : decide (I < 0) = false := by simpa using y3
  have b4 : decide (59 < I) = false := by simp; omega
  have b5 : decide (S < 0) = false := by simpa using y5
  have b6 : decide (59 < S) = false := by simp; omega
  have km := kmax Y M D z1 z2 z3 z4 z5 z6
  have ek := refDays_eq Y M D z3 z4
  unfold refDays at ek
  rw [if_pos hm] at ek
  have EK := Lib.hid ek
  have NE := Lib.hid (fun w => run_same7 Y M D H I S W w)
  have MY := Lib.hid (fun w => may_yes n hd.n0 hd.n1 w)
  have RO := Lib.hid (fun w => refOf_any n Y M D H I S W hd w)
  have NOW := Lib.hid (show Now w w.heap.size 32 #[.int .i64 Y, .int .i64 M, .int .i64 D, .int .i64 H, .int .i64 I, .int .i64 S, .int .i64 W] (w.alloc (.cells #[.int .i64 Y, .int .i64 M, .int .i64 D, .int .i64 H, .int .i64 I, .int .i64 S, .int .i64 W] 32)) from ⟨hv.alloc _, (Below.refl _ _).alloc (Nat.le_refl _) _, Blk.new w _ _⟩)
  have HN := Lib.hid hn
  clear ek hd hn hv
  generalize bef Y + cum Y M + (D - 1) = k at *
  go_enter Tryd.func16, Tryd.ntmps16
  go_upto_region 11 with fail
  rw [EK.out]
  clear EK
  go_upto_region 12 with fail
  rw [← HN.out]
  clear a1 a2 a3 a4 a5 a6 b1 b2 b3 b4 b5 b6 z1 z2 z3 z4 z5 z6 y1 y2 y3 y4 y5 y6 hm km HN
  generalize w.alloc (.cells #[.int .i64 Y, .int .i64 M, .int .i64 D, .int .i64 H, .int .i64 I, .int .i64 S, .int .i64 W] 32) = w4 at *
  generalize w.heap.size = d at NOW ⊢
  have ne := NE.out
  go_region_held3 (fun w' => (w'.cell? ⟨d, 0, none⟩ = some (.int .i64 Y) ∧ w'.cell? ⟨d, 1, none⟩ = some (.int .i64 M) ∧ w'.cell? ⟨d, 2, none⟩ = some (.int .i64 D) ∧ w'.cell? ⟨d, 3, none⟩ = some (.int .i64 H) ∧ w'.cell? ⟨d, 4, none⟩ = some (.int .i64 I) ∧ w'.cell? ⟨d, 5, none⟩ = some (.int .i64 S) ∧ w'.cell? ⟨d, 6, none⟩ = some (.int .i64 W)) ∧ Hid (Now w d 32 #[.int .i64 Y, .int .i64 M, .int .i64 D, .int .i64 H, .int .i64 I, .int .i64 S, .int .i64 W] w'))
    (first
      | exact reads5_of (Now.drew NOW)
      | assumption
      | (go_split_ands; first | exact reads5_of (Hid.out (by assumption)) | exact reads5_of (Now.step (by assumption) (by assumption))))
    (first
      | ((with_reducible refine (MY.out _).mono ?_); rintro e w5 ⟨rfl, rfl⟩)
      | ((with_reducible refine (RO.out _).mono ?_); rintro e w5 ⟨rfl, b5⟩))
  have NOW5 : Hid (Now w d 32 #[.int .i64 Y, .int .i64 M, .int .i64 D, .int .i64 H, .int .i64 I, .int .i64 S, .int .i64 W] w5) := by go_split_ands; assumption
  clear ne NE MY RO
  go_wp2
  go_ret2
  exact ⟨rfl, NOW5.out.bel⟩

set_option maxRecDepth 100000 in
set_option maxHeartbeats 4000000 in
theorem refSec_diff_a (n Y M D H I S W Y' M' D' W' : Int) (hc : coarse Y M D) (ht : timeOk H I S) (hn : n = (bef Y + cum Y M + (D - 1)) * 86400 + (H * 3600 + I * 60 + S)) (hd : Dat n Y' M' D' H I S W') (hm : M ≤ 2) (hne : ¬ (Y' = Y ∧ M' = M ∧ D' = D ∧ H = H ∧ I = I ∧ S = S ∧ W' = W)) (w : World) (hv : Vars w) :
    Calls Tryd.prog 16 #[.agg #[.int .i64 Y, .int .i64 M, .int .i64 D, .int .i64 H, .int .i64 I, .int .i64 S, .int .i64 W]] w fun e w' => e = .returned (.tuple #[.int .i64 0, .bool false]) ∧ Below w.heap.size w w' := by
  obtain ⟨z1, z2, z3, z4, z5, z6⟩ := hc
  obtain ⟨y1, y2, y3, y4, y5, y6⟩ := ht
  have a1 : decide (Y < 1970) = false := by simpa using z1
  have a2 : decide (9999 < Y) = false := by simpa using z2
  have a3 : decide (M < 1) = false := by simp; omega
  have a4 : decide (12 < M) = false := by simpa using z4
  have a5 : decide (D < 1) = false := by simp; omega
  have a6 : decide (31 < D) = false := by simpa using z6
  have b1 : decide (H < 0) = false := by simpa using y1
  have b2 : decide (23 < H) = false := by simp; omega
  have b3 : decide (I < 0) = false := by simpa using y3
  have b4 : decide (59 < I) = false := by simp; omega
  have b5 : decide (S < 0) = false := by simpa using y5
  have b6 : decide (59 < S) = false := by simp; omega
  have km := kmax Y M D z1 z2 z3 z4 z5 z6
  have ek := refDays_eq Y M D z3 z4
  unfold refDays at ek
  rw [if_pos hm] at ek
  have EK := Lib.hid ek
  have NE := Lib.hid (fun w => run_diff7 Y M D H I S W Y' M' D' H I S W' hne w)
  have MY := Lib.hid (fun w => may_yes n hd.n0 hd.n1 w)
  have RO := Lib.hid (fun w => refOf_any n Y' M' D' H I S W' hd w)
  have NOW := Lib.hid (show Now w w.heap.size 32 #[.int .i64 Y, .int .i64 M, .int .i64 D, .int .i64 H, .int .i64 I, .int .i64 S, .int .i64 W] (w.alloc (.cells #[.int .i64 Y, .int .i64 M, .int .i64 D, .int .i64 H, .int .i64 I, .int .i64 S, .int .i64 W] 32)) from ⟨hv.alloc _, (Below.refl _ _).alloc (Nat.le_refl _) _, Blk.new w _ _⟩)
  have HN := Lib.hid hn
  clear ek hd hn hv
  generalize bef Y + cum Y M + (D - 1) = k at *
  go_enter Tryd.func16, Tryd.ntmps16
  go_upto_region 11 with fail
  rw [EK.out]
  clear EK
  go_upto_region 12 with fail
  rw [← HN.out]
  clear a1 a2 a3 a4 a5 a6 b1 b2 b3 b4 b5 b6 z1 z2 z3 z4 z5 z6 y1 y2 y3 y4 y5 y6 hm km HN
  generalize w.alloc (.cells #[.int .i64 Y, .int .i64 M, .int .i64 D, .int .i64 H, .int .i64 I, .int .i64 S, .int .i64 W] 32) = w4 at *
  generalize w.heap.size = d at NOW ⊢
  have ne := NE.out
  go_region_held3 (fun w' => (w'.cell? ⟨d, 0, none⟩ = some (.int .i64 Y) ∧ w'.cell? ⟨d, 1, none⟩ = some (.int .i64 M) ∧ w'.cell? ⟨d, 2, none⟩ = some (.int .i64 D) ∧ w'.cell? ⟨d, 3, none⟩ = some (.int .i64 H) ∧ w'.cell? ⟨d, 4, none⟩ = some (.int .i64 I) ∧ w'.cell? ⟨d, 5, none⟩ = some (.int .i64 S) ∧ w'.cell? ⟨d, 6, none⟩ = some (.int .i64 W)) ∧ Hid (Now w d 32 #[.int .i64 Y, .int .i64 M, .int .i64 D, .int .i64 H, .int .i64 I, .int .i64 S, .int .i64 W] w'))
    (first
      | exact reads5_of (Now.drew NOW)
      | assumption
      | (go_split_ands; first | exact reads5_of (Hid.out (by assumption)) | exact reads5_of (Now.step (by assumption) (by assumption))))
    (first
      | ((with_reducible refine (MY.out _).mono ?_); rintro e w5 ⟨rfl, rfl⟩)
      | ((with_reducible refine (RO.out _).mono ?_); rintro e w5 ⟨rfl, b5⟩))
  have NOW5 : Hid (Now w d 32 #[.int .i64 Y, .int .i64 M, .int .i64 D, .int .i64 H, .int .i64 I, .int .i64 S, .int .i64 W] w5) := by go_split_ands; assumption
  clear ne NE MY RO
  go_wp2
  go_ret2
  exact ⟨rfl, NOW5.out.bel⟩

set_option maxRecDepth 100000 in
set_option maxHeartbeats 4000000 in
theorem refSec_same_b (n Y M D H I S W : Int) (hc : coarse Y M D) (ht : timeOk H I S) (hn : n = (bef Y + cum Y M + (D - 1)) * 86400 + (H * 3600 + I * 60 + S)) (hd : Dat n Y M D H I S W) (hm : 2 < M)  (w : World) (hv : Vars w) :
    Calls Tryd.prog 16 #[.agg #[.int .i64 Y, .int .i64 M, .int .i64 D, .int .i64 H, .int .i64 I, .int .i64 S, .int .i64 W]] w fun e w' => e = .returned (.tuple #[.int .i64 n, .bool true]) ∧ Below w.heap.size w w' := by
  obtain ⟨z1, z2, z3, z4, z5, z6⟩ := hc
  obtain ⟨y1, y2, y3, y4, y5, y6⟩ := ht
  have a1 : decide (Y < 1970) = false := by simpa using z1
  have a2 : decide (9999 < Y) = false := by simpa using z2
  have a3 : decide (M < 1) = false := by simp; omega
  have a4 : decide (12 < M) = false := by simpa using z4
  have a5 : decide (D < 1) = false := by simp; omega
  have a6 : decide (31 < D) = false := by simpa using z6
  have b1 : decide (H < 0) = false := by simpa using y1
  have b2 : decide (23 < H) = false := by simp; omega
  have b3 : decide (I < 0) = false := by simpa using y3
  have b4 : decide (59 < I) = false := by simp; omega
  have b5 : decide (S < 0) = false := by simpa using y5
  have b6 : decide (59 < S) = false := by simp; omega
  have km := kmax Y M D z1 z2 z3 z4 z5 z6
  have ek := refDays_eq Y M D z3 z4
  unfold refDays at ek
  rw [if_neg (by omega)] at ek
  have EK := Lib.hid ek
  have NE := Lib.hid (fun w => run_same7 Y M D H I S W w)
  have MY := Lib.hid (fun w => may_yes n hd.n0 hd.n1 w)
  have RO := Lib.hid (fun w => refOf_any n Y M D H I S W hd w)
  have NOW := Lib.hid (show Now w w.heap.size 32 #[.int .i64 Y, .int .i64 M, .int .i64 D, .int .i64 H, .int .i64 I, .int .i64 S, .int .i64 W] (w.alloc (.cells #[.int .i64 Y, .int .i64 M, .int .i64 D, .int .i64 H, .int .i64 I, .int .i64 S, .int .i64 W] 32)) from ⟨hv.alloc _, (Below.refl _ _).alloc (Nat.le_refl _) _, Blk.new w _ _⟩)
  have HN := Lib.hid hn
  clear ek hd hn hv
  generalize bef Y + cum Y M + (D - 1) = k at *
  go_enter Tryd.func16, Tryd.ntmps16
  go_upto_region 11 with fail
  rw [EK.out]
  clear EK
  go_upto_region 12 with fail
  rw [← HN.out]
  clear a1 a2 a3 a4 a5 a6 b1 b2 b3 b4 b5 b6 z1 z2 z3 z4 z5 z6 y1 y2 y3 y4 y5 y6 hm km HN
  generalize w.alloc (.cells #[.int .i64 Y, .int .i64 M, .int .i64 D, .int .i64 H, .int .i64 I, .int .i64 S, .int .i64 W] 32) = w4 at *
  generalize w.heap.size = d at NOW ⊢
  have ne := NE.out
  go_region_held3 (fun w' => (w'.cell? ⟨d, 0, none⟩ = some (.int .i64 Y) ∧ w'.cell? ⟨d, 1, none⟩ = some (.int .i64 M) ∧ w'.cell? ⟨d, 2, none⟩ = some (.int .i64 D) ∧ w'.cell? ⟨d, 3, none⟩ = some (.int .i64 H) ∧ w'.cell? ⟨d, 4, none⟩ = some (.int .i64 I) ∧ w'.cell? ⟨d, 5, none⟩ = some (.int .i64 S) ∧ w'.cell? ⟨d, 6, none⟩ = some (.int .i64 W)) ∧ Hid (Now w d 32 #[.int .i64 Y, .int .i64 M, .int .i64 D, .int .i64 H, .int .i64 I, .int .i64 S, .int .i64 W] w'))
    (first
      | exact reads5_of (Now.drew NOW)
      | assumption
      | (go_split_ands; first | exact reads5_of (Hid.out (by assumption)) | exact reads5_of (Now.step (by assumption) (by assumption))))
    (first
      | ((with_reducible refine (MY.out _).mono ?_); rintro e w5 ⟨rfl, rfl⟩)
      | ((with_reducible refine (RO.out _).mono ?_); rintro e w5 ⟨rfl, b5⟩))
  have NOW5 : Hid (Now w d 32 #[.int .i64 Y, .int .i64 M, .int .i64 D, .int .i64 H, .int .i64 I, .int .i64 S, .int .i64 W] w5) := by go_split_ands; assumption
  clear ne NE MY RO
  go_wp2
  go_ret2
  exact ⟨rfl, NOW5.out.bel⟩

set_option maxRecDepth 100000 in
set_option maxHeartbeats 4000000 in
theorem refSec_diff_b (n Y M D H I S W Y' M' D' W' : Int) (hc : coarse Y M D) (ht : timeOk H I S) (hn : n = (bef Y + cum Y M + (D - 1)) * 86400 + (H * 3600 + I * 60 + S)) (hd : Dat n Y' M' D' H I S W') (hm : 2 < M) (hne : ¬ (Y' = Y ∧ M' = M ∧ D' = D ∧ H = H ∧ I = I ∧ S = S ∧ W' = W)) (w : World) (hv : Vars w) :
    Calls Tryd.prog 16 #[.agg #[.int .i64 Y, .int .i64 M, .int .i64 D, .int .i64 H, .int .i64 I, .int .i64 S, .int .i64 W]] w fun e w' => e = .returned (.tuple #[.int .i64 0, .bool false]) ∧ Below w.heap.size w w' := by
  obtain ⟨z1, z2, z3, z4, z5, z6⟩ := hc
  obtain ⟨y1, y2, y3, y4, y5, y6⟩ := ht
  have a1 : decide (Y < 1970) = false := by simpa using z1
  have a2 : decide (9999 < Y) = false := by simpa using z2
  have a3 : decide (M < 1) = false := by simp; omega
  have a4 : decide (12 < M) = false := by simpa using z4
  have a5 : decide (D < 1) = false := by simp; omega
  have a6 : decide (31 < D) = false := by simpa using z6
  have b1 : decide (H < 0) = false := by simpa using y1
  have b2 : decide (23 < H) = false := by simp; omega
  have b3 : decide (I < 0) = false := by simpa using y3
  have b4 : decide (59 < I) = false := by simp; omega
  have b5 : decide (S < 0) = false := by simpa using y5
  have b6 : decide (59 < S) = false := by simp; omega
  have km := kmax Y M D z1 z2 z3 z4 z5 z6
  have ek := refDays_eq Y M D z3 z4
  unfold refDays at ek
  rw [if_neg (by omega)] at ek
  have EK := Lib.hid ek
  have NE := Lib.hid (fun w => run_diff7 Y M D H I S W Y' M' D' H I S W' hne w)
  have MY := Lib.hid (fun w => may_yes n hd.n0 hd.n1 w)
  have RO := Lib.hid (fun w => refOf_any n Y' M' D' H I S W' hd w)
  have NOW := Lib.hid (show Now w w.heap.size 32 #[.int .i64 Y, .int .i64 M, .int .i64 D, .int .i64 H, .int .i64 I, .int .i64 S, .int .i64 W] (w.alloc (.cells #[.int .i64 Y, .int .i64 M, .int .i64 D, .int .i64 H, .int .i64 I, .int .i64 S, .int .i64 W] 32)) from ⟨hv.alloc _, (Below.refl _ _).alloc (Nat.le_refl _) _, Blk.new w _ _⟩)
  have HN := Lib.hid hn
  clear ek hd hn hv
  generalize bef Y + cum Y M + (D - 1) = k at *
  go_enter Tryd.func16, Tryd.ntmps16
  go_upto_region 11 with fail
  rw [EK.out]
  clear EK
  go_upto_region 12 with fail
  rw [← HN.out]
  clear a1 a2 a3 a4 a5 a6 b1 b2 b3 b4 b5 b6 z1 z2 z3 z4 z5 z6 y1 y2 y3 y4 y5 y6 hm km HN
  generalize w.alloc (.cells #[.int .i64 Y, .int .i64 M, .int .i64 D, .int .i64 H, .int .i64 I, .int .i64 S, .int .i64 W] 32) = w4 at *
  generalize w.heap.size = d at NOW ⊢
  have ne := NE.out
  go_region_held3 (fun w' => (w'.cell? ⟨d, 0, none⟩ = some (.int .i64 Y) ∧ w'.cell? ⟨d, 1, none⟩ = some (.int .i64 M) ∧ w'.cell? ⟨d, 2, none⟩ = some (.int .i64 D) ∧ w'.cell? ⟨d, 3, none⟩ = some (.int .i64 H) ∧ w'.cell? ⟨d, 4, none⟩ = some (.int .i64 I) ∧ w'.cell? ⟨d, 5, none⟩ = some (.int .i64 S) ∧ w'.cell? ⟨d, 6, none⟩ = some (.int .i64 W)) ∧ Hid (Now w d 32 #[.int .i64 Y, .int .i64 M, .int .i64 D, .int .i64 H, .int .i64 I, .int .i64 S, .int .i64 W] w'))
    (first
      | exact reads5_of (Now.drew NOW)
      | assumption
      | (go_split_ands; first | exact reads5_of (Hid.out (by assumption)) | exact reads5_of (Now.step (by assumption) (by assumption))))
    (first
      | ((with_reducible refine (MY.out _).mono ?_); rintro e w5 ⟨rfl, rfl⟩)
      | ((with_reducible refine (RO.out _).mono ?_); rintro e w5 ⟨rfl, b5⟩))
  have NOW5 : Hid (Now w d 32 #[.int .i64 Y, .int .i64 M, .int .i64 D, .int .i64 H, .int .i64 I, .int .i64 S, .int .i64 W] w5) := by go_split_ands; assumption
  clear ne NE MY RO
  go_wp2
  go_ret2
  exact ⟨rfl, NOW5.out.bel⟩

theorem refSec_ok (n Y M D H I S W : Int) (h : Dat n Y M D H I S W) (w : World) (hv : Vars w) :
    Calls Tryd.prog 16 #[.agg #[.int .i64 Y, .int .i64 M, .int .i64 D, .int .i64 H, .int .i64 I, .int .i64 S, .int .i64 W]] w fun e w' => e = .returned (.tuple #[.int .i64 n, .bool true]) ∧ Below w.heap.size w w' := by
  have b := h.bd
  have hc : coarse Y M D := ⟨by omega, by omega, by omega, by omega, by omega, by omega⟩
  have ht : timeOk H I S := ⟨by omega, by omega, by omega, by omega, by omega, by omega⟩
  by_cases hm : M ≤ 2
  · exact refSec_same_a n Y M D H I S W hc ht h.back h hm w hv
  · exact refSec_same_b n Y M D H I S W hc ht h.back h (by omega) w hv
theorem refSec_no (Y M D H I S W : Int) (h : ¬ good Y M D H I S W) (w : World) (hv : Vars w) :
    Calls Tryd.prog 16 #[.agg #[.int .i64 Y, .int .i64 M, .int .i64 D, .int .i64 H, .int .i64 I, .int .i64 S, .int .i64 W]] w fun e w' => e = .returned (.tuple #[.int .i64 0, .bool false]) ∧ Below w.heap.size w w' := by
  by_cases hc : coarse Y M D
  · by_cases ht : timeOk H I S
    · obtain ⟨z1, z2, z3, z4, z5, z6⟩ := hc
      obtain ⟨y1, y2, y3, y4, y5, y6⟩ := ht
      have km := kmax Y M D z1 z2 z3 z4 z5 z6
      obtain ⟨Y', M', D', H', I', S', W', hd⟩ := dat_ex ((bef Y + cum Y M + (D - 1)) * 86400 + (H * 3600 + I * 60 + S)) (by omega) (by omega)
      have e1 := hd.h
      have e2 := hd.i
      have e3 := hd.s
      obtain rfl : H = H' := by omega
      obtain rfl : I = I' := by omega
      obtain rfl : S = S' := by omega
      have hne : ¬ (Y' = Y ∧ M' = M ∧ D' = D ∧ H = H ∧ I = I ∧ S = S ∧ W' = W) := by
        rintro ⟨rfl, rfl, rfl, _, _, _, rfl⟩
        exact h hd.good
      by_cases hm : M ≤ 2
      · exact refSec_diff_a _ Y M D H I S W Y' M' D' W' ⟨z1, z2, z3, z4, z5, z6⟩ ⟨y1, y2, y3, y4, y5, y6⟩ rfl hd hm hne w hv
      · exact refSec_diff_b _ Y M D H I S W Y' M' D' W' ⟨z1, z2, z3, z4, z5, z6⟩ ⟨y1, y2, y3, y4, y5, y6⟩ rfl hd (by omega) hne w hv
    · exact refSec_far Y M D H I S W (.inr ⟨hc, ht⟩) w
  · exact refSec_far Y M D H I S W (.inl hc) w
end Go.Proofs.YtbmnfefpkahejaaDoor
