/- Package civil's Parse: the second of a text. Conditions: those that each states. -/
import Derived.Test.YtbmnfefpkahejaaDoorPrint
namespace Go.Proofs.YtbmnfefpkahejaaDoor
open Go.ChangeShapes Go.WideShapes Go.ChangeAt Go.RowKit Go.Deep

/-- l tells second n. -/
def Tells (l : List UInt8) (n : Int) : Prop := ∃ Y M D H I S W, Dat n Y M D H I S W ∧ l = text Y M D H I S W
/-- The parts of a text of 29 bytes. -/
def part (l : List UInt8) (a k : Nat) : List UInt8 := (l.drop a).take k
theorem three {l : List UInt8} (h : l.length = 3) : ∃ a b c, l = [a, b, c] := by
  match l, h with
  | [a, b, c], _ => exact ⟨a, b, c, rfl⟩
theorem text_parts (Y M D H I S W : Int) (hW : 0 ≤ W ∧ W ≤ 6) (hM : 1 ≤ M ∧ M ≤ 12) :
    (text Y M D H I S W).length = 29 ∧ part (text Y M D H I S W) 12 4 = four Y ∧ part (text Y M D H I S W) 8 3 = moNames.getD (M - 1).toNat [] ∧ part (text Y M D H I S W) 5 2 = two D ∧ part (text Y M D H I S W) 17 2 = two H ∧
      part (text Y M D H I S W) 20 2 = two I ∧ part (text Y M D H I S W) 23 2 = two S ∧ part (text Y M D H I S W) 0 3 = wdNames.getD W.toNat [] := by
  obtain ⟨a, b, c, h1⟩ := three (wd_len W.toNat (by omega))
  obtain ⟨d, e, f, h2⟩ := three (mo_len (M - 1).toNat (by omega))
  unfold text part
  rw [h1, h2]
  simp [two, four]
/-- What the parts say. -/
structure Says (l : List UInt8) (Y M D H I S W : Int) : Prop where
  y : numOf (part l 12 4) = Y
  m : mnum (part l 8 3) = M
  d : numOf (part l 5 2) = D
  h : numOf (part l 17 2) = H
  i : numOf (part l 20 2) = I
  s : numOf (part l 23 2) = S
  w : wnum (part l 0 3) = W
theorem says_text {n Y M D H I S W : Int} (h : Dat n Y M D H I S W) : (text Y M D H I S W).length = 29 ∧ Says (text Y M D H I S W) Y M D H I S W := by
  have b := h.bd
  obtain ⟨h0, h1, h2, h3, h4, h5, h6, h7⟩ := text_parts Y M D H I S W (by omega) (by omega)
  refine ⟨h0, ?_, ?_, ?_, ?_, ?_, ?_, ?_⟩
  · rw [h1]; exact num_four (by omega) (by omega)
  · rw [h2]; unfold mnum; rw [mo_idx _ (by omega), if_pos (by omega)]; omega
  · rw [h3]; exact num_two (by omega) (by omega)
  · rw [h4]; exact num_two (by omega) (by omega)
  · rw [h5]; exact num_two (by omega) (by omega)
  · rw [h6]; exact num_two (by omega) (by omega)
  · rw [h7]; unfold wnum; rw [wd_idx _ (by omega), if_pos (by omega)]; omega

theorem cut_str (l : List UInt8) (a b : Nat) : (⟨l.toArray⟩ : ByteArray).extract a b = ⟨((l.drop a).take (b - a)).toArray⟩ := by
  apply ByteArray.ext
  apply Array.toList_inj.1
  exact Lib.extract_data ⟨l.toArray⟩ a b
theorem run_part (l : List UInt8) (a k : Nat) (h : a + k ≤ l.length) (x y : Int) (hx : x = a) (hy : y = a + k) (w : World) :
    (Instr.slice 9 (.string ⟨l.toArray⟩) (some (.int .i64 x)) (some (.int .i64 y)) none).run Tryd.prog w = .ok (.string ⟨(part l a k).toArray⟩) w := by
  have hs : (⟨l.toArray⟩ : ByteArray).size = l.length := rfl
  have := run_slice_string (P := Tryd.prog) w 9 ⟨l.toArray⟩ .i64 .i64 x y Tryd.underlying9 (by omega) (by omega) (by rw [hs]; omega)
  rw [this, cut_str]
  have e1 : x.toNat = a := by omega
  have e2 : y.toNat - x.toNat = k := by omega
  rw [e2, e1]
  rfl
theorem run_front (l : List UInt8) (k : Nat) (h : k ≤ l.length) (y : Int) (hy : y = k) (w : World) :
    (Instr.slice 9 (.string ⟨l.toArray⟩) none (some (.int .i64 y)) none).run Tryd.prog w = .ok (.string ⟨(part l 0 k).toArray⟩) w := by
  have hs : (⟨l.toArray⟩ : ByteArray).size = l.length := rfl
  have := run_slice_string_h (P := Tryd.prog) w 9 ⟨l.toArray⟩ Tryd.underlying9 .i64 y (by omega) (by rw [hs]; omega)
  rw [this, cut_str]
  have e2 : y.toNat - 0 = k := by omega
  rw [e2]
  rfl
theorem part_len (l : List UInt8) (a k : Nat) (h : k ≤ 4) : (part l a k).length ≤ 4 := by unfold part; rw [List.length_take]; omega

/-- What stands while a text is read: the variables; what was there when the call began. -/
structure Std (w0 : World) (w : World) : Prop where
  vars : Vars w
  bel : Below w0.heap.size w0 w
theorem Std.step {w0 W w1 : World} (b : Below W.heap.size W w1) (h : Hid (Std w0 W)) : Std w0 w1 := ⟨h.out.vars.below b, h.out.bel.trans (b.mono h.out.bel.size)⟩
theorem Std.drew {w0 W : World} (h : Hid (Std w0 W)) : Std w0 W.drew := ⟨h.out.vars.drew, ⟨h.out.bel.os, h.out.bel.tape, h.out.bel.output, h.out.bel.size, h.out.bel.block⟩⟩
theorem Std.vars_of {w0 W : World} (h : Hid (Std w0 W)) : Vars W := h.out.vars

theorem parse_len (l : List UInt8) (h : l.length ≠ 29) (w : World) :
    Calls Tryd.prog 17 #[.string ⟨l.toArray⟩] w fun e w' => e = .returned (.tuple #[.int .i64 0, .int .i64 60]) ∧ w' = w := by
  have h' : ((l.length : Int) != 29) = true := by simp; omega
  clear h
  go_enter Tryd.func17, Tryd.ntmps17
  go_wp2
  go_ret2
  exact ⟨rfl, rfl⟩

set_option maxRecDepth 100000 in
set_option maxHeartbeats 4000000 in
theorem parse_bad (l : List UInt8) (hl : l.length = 29) (Y M D H I S W : Int) (hs : Says l Y M D H I S W) (hg : ¬ good Y M D H I S W) (w : World) (hv : Vars w) :
    Calls Tryd.prog 17 #[.string ⟨l.toArray⟩] w fun e w' => e = .returned (.tuple #[.int .i64 0, .int .i64 60]) ∧ Below w.heap.size w w' := by
  have A12 := Lib.hid (fun w => run_part l 12 4 (by omega) 12 16 (by omega) (by omega) w)
  have A8 := Lib.hid (fun w => run_part l 8 3 (by omega) 8 11 (by omega) (by omega) w)
  have A5 := Lib.hid (fun w => run_part l 5 2 (by omega) 5 7 (by omega) (by omega) w)
  have A17 := Lib.hid (fun w => run_part l 17 2 (by omega) 17 19 (by omega) (by omega) w)
  have A20 := Lib.hid (fun w => run_part l 20 2 (by omega) 20 22 (by omega) (by omega) w)
  have A23 := Lib.hid (fun w => run_part l 23 2 (by omega) 23 25 (by omega) (by omega) w)
  have A0 := Lib.hid (fun w => run_front l 3 (by omega) 3 (by omega) w)
  have N12 := Lib.hid (fun w => number_any (part l 12 4) (part_len l 12 4 (by omega)) w)
  have N8 := Lib.hid (fun w hv => monthOf_any (part l 8 3) w hv)
  have N5 := Lib.hid (fun w => number_any (part l 5 2) (part_len l 5 2 (by omega)) w)
  have N17 := Lib.hid (fun w => number_any (part l 17 2) (part_len l 17 2 (by omega)) w)
  have N20 := Lib.hid (fun w => number_any (part l 20 2) (part_len l 20 2 (by omega)) w)
  have N23 := Lib.hid (fun w => number_any (part l 23 2) (part_len l 23 2 (by omega)) w)
  have N0 := Lib.hid (fun w hv => weekdayOf_any (part l 0 3) w hv)
  rw [hs.y] at N12
  rw [hs.m] at N8
  rw [hs.d] at N5
  rw [hs.h] at N17
  rw [hs.i] at N20
  rw [hs.s] at N23
  rw [hs.w] at N0
  have SEC := Lib.hid (fun w hv => sec_no Y M D H I S W hg w hv)
  clear hg
  have STD := Lib.hid (show Std w w from ⟨hv, Below.refl _ _⟩)
  clear hs hv
  generalize part l 12 4 = p12 at *
  generalize part l 8 3 = p8 at *
  generalize part l 5 2 = p5 at *
  generalize part l 17 2 = p17 at *
  generalize part l 20 2 = p20 at *
  generalize part l 23 2 = p23 at *
  generalize part l 0 3 = p0 at *
  go_enter Tryd.func17, Tryd.ntmps17
  go_upto_region 3 with fail
  have a12 := A12.out
  have a8 := A8.out
  have a5 := A5.out
  have a17 := A17.out
  have a20 := A20.out
  have a23 := A23.out
  have a0 := A0.out
  go_region_held3 (fun w' => Hid (Std w w'))
    (first
      | exact Lib.hid (Std.drew STD)
      | assumption
      | exact Lib.hid (Std.step (by assumption) (by assumption)))
    (first
      | ((with_reducible refine (N12.out _).mono ?_); rintro e w2 ⟨rfl, rfl⟩)
      | ((with_reducible refine (N8.out _ (Std.vars_of (by assumption))).mono ?_); rintro e w2 ⟨rfl, rfl⟩)
      | ((with_reducible refine (N5.out _).mono ?_); rintro e w2 ⟨rfl, rfl⟩)
      | ((with_reducible refine (N17.out _).mono ?_); rintro e w2 ⟨rfl, rfl⟩)
      | ((with_reducible refine (N20.out _).mono ?_); rintro e w2 ⟨rfl, rfl⟩)
      | ((with_reducible refine (N23.out _).mono ?_); rintro e w2 ⟨rfl, rfl⟩)
      | ((with_reducible refine (N0.out _ (Std.vars_of (by assumption))).mono ?_); rintro e w2 ⟨rfl, rfl⟩)
      | ((with_reducible refine (SEC.out _ (Std.vars_of (by assumption))).mono ?_); rintro e w3 ⟨rfl, b3⟩))
  have ST3 : Hid (Std w w3) := by first | assumption | exact Lib.hid (Std.step (by assumption) (by assumption))
  clear a12 a8 a5 a17 a20 a23 a0
  go_wp2
  go_ret2
  exact ⟨rfl, ST3.out.bel⟩

set_option maxRecDepth 100000 in
set_option maxHeartbeats 4000000 in
theorem parse_is (l : List UInt8) (hl : l.length = 29) (Y M D H I S W : Int) (hs : Says l Y M D H I S W) (n : Int) (hd : Dat n Y M D H I S W) (ht : text Y M D H I S W = l) (w : World) (hv : Vars w) :
    Calls Tryd.prog 17 #[.string ⟨l.toArray⟩] w fun e w' => e = .returned (.tuple #[.int .i64 n, .int .i64 0]) ∧ Below w.heap.size w w' := by
  have A12 := Lib.hid (fun w => run_part l 12 4 (by omega) 12 16 (by omega) (by omega) w)
  have A8 := Lib.hid (fun w => run_part l 8 3 (by omega) 8 11 (by omega) (by omega) w)
  have A5 := Lib.hid (fun w => run_part l 5 2 (by omega) 5 7 (by omega) (by omega) w)
  have A17 := Lib.hid (fun w => run_part l 17 2 (by omega) 17 19 (by omega) (by omega) w)
  have A20 := Lib.hid (fun w => run_part l 20 2 (by omega) 20 22 (by omega) (by omega) w)
  have A23 := Lib.hid (fun w => run_part l 23 2 (by omega) 23 25 (by omega) (by omega) w)
  have A0 := Lib.hid (fun w => run_front l 3 (by omega) 3 (by omega) w)
  have N12 := Lib.hid (fun w => number_any (part l 12 4) (part_len l 12 4 (by omega)) w)
  have N8 := Lib.hid (fun w hv => monthOf_any (part l 8 3) w hv)
  have N5 := Lib.hid (fun w => number_any (part l 5 2) (part_len l 5 2 (by omega)) w)
  have N17 := Lib.hid (fun w => number_any (part l 17 2) (part_len l 17 2 (by omega)) w)
  have N20 := Lib.hid (fun w => number_any (part l 20 2) (part_len l 20 2 (by omega)) w)
  have N23 := Lib.hid (fun w => number_any (part l 23 2) (part_len l 23 2 (by omega)) w)
  have N0 := Lib.hid (fun w hv => weekdayOf_any (part l 0 3) w hv)
  rw [hs.y] at N12
  rw [hs.m] at N8
  rw [hs.d] at N5
  rw [hs.h] at N17
  rw [hs.i] at N20
  rw [hs.s] at N23
  rw [hs.w] at N0
  have SEC := Lib.hid (fun w hv => sec_ok n Y M D H I S W hd w hv)
  have PR := Lib.hid (fun w hv => print_ok n Y M D H I S W hd w hv)
  rw [ht] at PR
  clear hd ht
  have STD := Lib.hid (show Std w w from ⟨hv, Below.refl _ _⟩)
  clear hs hv
  generalize part l 12 4 = p12 at *
  generalize part l 8 3 = p8 at *
  generalize part l 5 2 = p5 at *
  generalize part l 17 2 = p17 at *
  generalize part l 20 2 = p20 at *
  generalize part l 23 2 = p23 at *
  generalize part l 0 3 = p0 at *
  go_enter Tryd.func17, Tryd.ntmps17
  go_upto_region 3 with fail
  have a12 := A12.out
  have a8 := A8.out
  have a5 := A5.out
  have a17 := A17.out
  have a20 := A20.out
  have a23 := A23.out
  have a0 := A0.out
  go_region_held3 (fun w' => Hid (Std w w'))
    (first
      | exact Lib.hid (Std.drew STD)
      | assumption
      | exact Lib.hid (Std.step (by assumption) (by assumption)))
    (first
      | ((with_reducible refine (N12.out _).mono ?_); rintro e w2 ⟨rfl, rfl⟩)
      | ((with_reducible refine (N8.out _ (Std.vars_of (by assumption))).mono ?_); rintro e w2 ⟨rfl, rfl⟩)
      | ((with_reducible refine (N5.out _).mono ?_); rintro e w2 ⟨rfl, rfl⟩)
      | ((with_reducible refine (N17.out _).mono ?_); rintro e w2 ⟨rfl, rfl⟩)
      | ((with_reducible refine (N20.out _).mono ?_); rintro e w2 ⟨rfl, rfl⟩)
      | ((with_reducible refine (N23.out _).mono ?_); rintro e w2 ⟨rfl, rfl⟩)
      | ((with_reducible refine (N0.out _ (Std.vars_of (by assumption))).mono ?_); rintro e w2 ⟨rfl, rfl⟩)
      | ((with_reducible refine (SEC.out _ (Std.vars_of (by assumption))).mono ?_); rintro e w3 ⟨rfl, b3⟩))
  have ST3 : Hid (Std w w3) := by first | assumption | exact Lib.hid (Std.step (by assumption) (by assumption))
  clear a12 a8 a5 a17 a20 a23 a0
  go_wp2_with fail
  refine (PR.out _ ST3.out.vars).mono ?_; rintro e w4 ⟨rfl, b4⟩
  have ST4 := Lib.hid (Std.step b4 ST3)
  clear b4
  go_wp2
  go_ret2
  exact ⟨rfl, ST4.out.bel⟩

set_option maxRecDepth 100000 in
set_option maxHeartbeats 4000000 in
theorem parse_other (l : List UInt8) (hl : l.length = 29) (Y M D H I S W : Int) (hs : Says l Y M D H I S W) (n : Int) (hd : Dat n Y M D H I S W) (ht : text Y M D H I S W ≠ l) (w : World) (hv : Vars w) :
    Calls Tryd.prog 17 #[.string ⟨l.toArray⟩] w fun e w' => e = .returned (.tuple #[.int .i64 0, .int .i64 60]) ∧ Below w.heap.size w w' := by
  have A12 := Lib.hid (fun w => run_part l 12 4 (by omega) 12 16 (by omega) (by omega) w)
  have A8 := Lib.hid (fun w => run_part l 8 3 (by omega) 8 11 (by omega) (by omega) w)
  have A5 := Lib.hid (fun w => run_part l 5 2 (by omega) 5 7 (by omega) (by omega) w)
  have A17 := Lib.hid (fun w => run_part l 17 2 (by omega) 17 19 (by omega) (by omega) w)
  have A20 := Lib.hid (fun w => run_part l 20 2 (by omega) 20 22 (by omega) (by omega) w)
  have A23 := Lib.hid (fun w => run_part l 23 2 (by omega) 23 25 (by omega) (by omega) w)
  have A0 := Lib.hid (fun w => run_front l 3 (by omega) 3 (by omega) w)
  have N12 := Lib.hid (fun w => number_any (part l 12 4) (part_len l 12 4 (by omega)) w)
  have N8 := Lib.hid (fun w hv => monthOf_any (part l 8 3) w hv)
  have N5 := Lib.hid (fun w => number_any (part l 5 2) (part_len l 5 2 (by omega)) w)
  have N17 := Lib.hid (fun w => number_any (part l 17 2) (part_len l 17 2 (by omega)) w)
  have N20 := Lib.hid (fun w => number_any (part l 20 2) (part_len l 20 2 (by omega)) w)
  have N23 := Lib.hid (fun w => number_any (part l 23 2) (part_len l 23 2 (by omega)) w)
  have N0 := Lib.hid (fun w hv => weekdayOf_any (part l 0 3) w hv)
  rw [hs.y] at N12
  rw [hs.m] at N8
  rw [hs.d] at N5
  rw [hs.h] at N17
  rw [hs.i] at N20
  rw [hs.s] at N23
  rw [hs.w] at N0
  have SEC := Lib.hid (fun w hv => sec_ok n Y M D H I S W hd w hv)
  have PR := Lib.hid (fun w hv => print_ok n Y M D H I S W hd w hv)
  have hb : (text Y M D H I S W == l) = false := by simpa using ht
  clear hd ht
  generalize text Y M D H I S W = t at *
  have STD := Lib.hid (show Std w w from ⟨hv, Below.refl _ _⟩)
  clear hs hv
  generalize part l 12 4 = p12 at *
  generalize part l 8 3 = p8 at *
  generalize part l 5 2 = p5 at *
  generalize part l 17 2 = p17 at *
  generalize part l 20 2 = p20 at *
  generalize part l 23 2 = p23 at *
  generalize part l 0 3 = p0 at *
  go_enter Tryd.func17, Tryd.ntmps17
  go_upto_region 3 with fail
  have a12 := A12.out
  have a8 := A8.out
  have a5 := A5.out
  have a17 := A17.out
  have a20 := A20.out
  have a23 := A23.out
  have a0 := A0.out
  go_region_held3 (fun w' => Hid (Std w w'))
    (first
      | exact Lib.hid (Std.drew STD)
      | assumption
      | exact Lib.hid (Std.step (by assumption) (by assumption)))
    (first
      | ((with_reducible refine (N12.out _).mono ?_); rintro e w2 ⟨rfl, rfl⟩)
      | ((with_reducible refine (N8.out _ (Std.vars_of (by assumption))).mono ?_); rintro e w2 ⟨rfl, rfl⟩)
      | ((with_reducible refine (N5.out _).mono ?_); rintro e w2 ⟨rfl, rfl⟩)
      | ((with_reducible refine (N17.out _).mono ?_); rintro e w2 ⟨rfl, rfl⟩)
      | ((with_reducible refine (N20.out _).mono ?_); rintro e w2 ⟨rfl, rfl⟩)
      | ((with_reducible refine (N23.out _).mono ?_); rintro e w2 ⟨rfl, rfl⟩)
      | ((with_reducible refine (N0.out _ (Std.vars_of (by assumption))).mono ?_); rintro e w2 ⟨rfl, rfl⟩)
      | ((with_reducible refine (SEC.out _ (Std.vars_of (by assumption))).mono ?_); rintro e w3 ⟨rfl, b3⟩))
  have ST3 : Hid (Std w w3) := by first | assumption | exact Lib.hid (Std.step (by assumption) (by assumption))
  clear a12 a8 a5 a17 a20 a23 a0
  go_wp2_with fail
  refine (PR.out _ ST3.out.vars).mono ?_; rintro e w4 ⟨rfl, b4⟩
  have ST4 := Lib.hid (Std.step b4 ST3)
  clear b4
  go_wp2
  go_ret2
  exact ⟨rfl, ST4.out.bel⟩

/-- Parse, of a text that tells a second. -/
theorem parse_ok (l : List UInt8) (n : Int) (h : Tells l n) (w : World) (hv : Vars w) :
    Calls Tryd.prog 17 #[.string ⟨l.toArray⟩] w fun e w' => e = .returned (.tuple #[.int .i64 n, .int .i64 0]) ∧ Below w.heap.size w w' := by
  obtain ⟨Y, M, D, H, I, S, W, hd, rfl⟩ := h
  obtain ⟨hl, hs⟩ := says_text hd
  exact parse_is _ hl Y M D H I S W hs n hd rfl w hv
/-- Parse, of any other. -/
theorem parse_no (l : List UInt8) (h : ∀ n, ¬ Tells l n) (w : World) (hv : Vars w) :
    Calls Tryd.prog 17 #[.string ⟨l.toArray⟩] w fun e w' => e = .returned (.tuple #[.int .i64 0, .int .i64 60]) ∧ Below w.heap.size w w' := by
  by_cases hl : l.length = 29
  · have hs : Says l _ _ _ _ _ _ _ := ⟨rfl, rfl, rfl, rfl, rfl, rfl, rfl⟩
    by_cases hg : good (numOf (part l 12 4)) (mnum (part l 8 3)) (numOf (part l 5 2)) (numOf (part l 17 2)) (numOf (part l 20 2)) (numOf (part l 23 2)) (wnum (part l 0 3))
    · exact parse_other l hl _ _ _ _ _ _ _ hs _ (dat_of hg) (fun e => h _ ⟨_, _, _, _, _, _, _, dat_of hg, e.symm⟩) w hv
    · exact parse_bad l hl _ _ _ _ _ _ _ hs hg w hv
  · exact (parse_len l hl w).mono fun e w' ⟨h1, h2⟩ => ⟨h1, h2 ▸ Below.refl _ _⟩
end Go.Proofs.YtbmnfefpkahejaaDoor
