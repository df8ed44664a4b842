/- Package rasm: spot, New, Ready, Next, Held. Conditions: those that each states. -/
import Derived.Test.YtldmcoagjgeeoaaRaM
import Derived.RegionTactic
import Derived.BigRegion
import Derived.WalkMore
import Derived.StillTailTactics
import Derived.Deep.QuietTactic
import Derived.BigQuiet
import Derived.Deep.OwnRows
namespace Go.Proofs.Ytldmcoagjgeeoaa.Ra
open Go.ChangeShapes Go.WideShapes Go.ChangeAt Go.RowKit Go.Deep
set_option linter.unusedVariables false
set_option linter.unusedSimpArgs false

theorem spot_any {w : World} {gt gm g R N : Nat} {xs : Bs} (h : Buf w gt gm g R N xs) (p : Nat) :
    Calls Try.prog 54 #[.pointer (some ⟨g, 0, none⟩), .int .i64 (p : Int)] w fun e w' => e = .returned (.int .i64 ((p % R : Nat) : Int)) ∧ w' = w := by
  have c2 := h.c2
  have r1 := h.r1
  have r2 := h.r2
  have hr0 : (R : Int) ≠ 0 := by omega
  have x0 : Int.tmod (p : Int) (R : Int) = ((p % R : Nat) : Int) := by rw [Int.tmod_eq_emod_of_nonneg (by omega)]; omega
  have X0 := Lib.hid x0
  clear h x0
  go_enter Try.func54, Try.ntmps54
  go_wp2
  go_ret
  exact ⟨by first | rfl | (rw [← X0.out]) | simp, rfl⟩

theorem next_any {w : World} {gt gm g R N : Nat} {xs : Bs} (h : Buf w gt gm g R N xs) :
    Calls Try.prog 56 #[.pointer (some ⟨g, 0, none⟩)] w fun e w' => e = .returned (.int .i64 (N : Int)) ∧ w' = w := by
  have c0 := h.c0
  clear h
  go_enter Try.func56, Try.ntmps56
  go_wp2
  go_ret
  exact ⟨rfl, rfl⟩
theorem next_nil (w : World) : Calls Try.prog 56 #[.pointer none] w fun e w' => e = .returned (.int .i64 0) ∧ w' = w := by
  go_enter Try.func56, Try.ntmps56
  go_wp2
  go_ret
  exact ⟨rfl, rfl⟩
theorem ready_nil (w : World) : Calls Try.prog 53 #[.pointer none] w fun e w' => e = .returned (.int .i64 0) ∧ w' = w := by
  go_enter Try.func53, Try.ntmps53
  go_wp2
  go_ret
  exact ⟨rfl, rfl⟩
theorem held_nil (w : World) : Calls Try.prog 58 #[.pointer none] w fun e w' => e = .returned (.int .i64 0) ∧ w' = w := by
  go_enter Try.func58, Try.ntmps58
  go_wp2
  go_ret
  exact ⟨rfl, rfl⟩
theorem take_nil (w : World) : Calls Try.prog 35 #[.pointer none] w fun e w' => e = .returned (.slice none 0 0) ∧ w' = w := by
  go_enter Try.func35, Try.ntmps35
  go_wp2
  go_ret
  exact ⟨rfl, rfl⟩
theorem put_nil (a : Int) (b : Value) (w : World) : Calls Try.prog 57 #[.pointer none, .int .i64 a, b] w fun e w' => e = .returned (.int .i64 0) ∧ w' = w := by
  go_enter Try.func57, Try.ntmps57
  go_wp2
  go_ret
  exact ⟨rfl, rfl⟩

theorem mk_u8 (n : Nat) (hn : n ≤ 2048) (W : World) :
    (Instr.makeSlice 33 (.int .i64 (n : Int)) (.int .i64 (n : Int))).run Try.prog W = .ok (.slice (some ⟨W.heap.size, 0, none⟩) n n) (W.alloc (.cells (madeCells #[.int .u8 0] n) 5)) := by
  obtain ⟨i0, hi, hz0, hz1, hz2⟩ := u8_info
  have hr := run_make (P := Try.prog) W 33 5 i0 (.int .u8 0) Try.underlying33 hi hz0 .i64 .i64 n n (by omega) (by omega) (by rw [hz2]; omega) (by omega)
  simp only [hz1, Nat.mul_one] at hr
  exact hr
theorem bool_info : ∃ i0, Try.prog.info? 4 = some i0 ∧ i0.zero = some (.bool false) ∧ i0.size = 1 ∧ i0.bytes = 1 := by
  obtain ⟨i, hi, hs⟩ := Option.map_eq_some_iff.1 (show (Try.prog.info? 4).map (fun i => (i.zero, i.size, i.bytes)) = some (some (.bool false), 1, 1) by kernel_rfl)
  simp at hs
  exact ⟨i, hi, hs.1, hs.2.1, hs.2.2⟩
theorem mk_bool (n : Nat) (hn : n ≤ 2048) (W : World) :
    (Instr.makeSlice 72 (.int .i64 (n : Int)) (.int .i64 (n : Int))).run Try.prog W = .ok (.slice (some ⟨W.heap.size, 0, none⟩) n n) (W.alloc (.cells (madeCells #[.bool false] n) 4)) := by
  obtain ⟨i0, hi, hz0, hz1, hz2⟩ := bool_info
  have hr := run_make (P := Try.prog) W 72 4 i0 (.bool false) Try.underlying72 hi hz0 .i64 .i64 n n (by omega) (by omega) (by rw [hz2]; omega) (by omega)
  simp only [hz1, Nat.mul_one] at hr
  exact hr
theorem made_at (z : Value) (n i : Nat) (hi : i < n) : (madeCells #[z] n)[i]? = some z := by
  unfold madeCells
  rw [Array.getElem?_map, Array.getElem?_range, if_pos (by simpa using hi)]
  have e : i % (#[z] : Array Value).size = 0 := Nat.mod_one i
  simp only [Option.map_some, e]
  rfl
theorem made_size (z : Value) (n : Nat) : (madeCells #[z] n).size = n := by simp [madeCells]
/-- A buffer that was just made. -/
theorem Buf.of_made {W : World} {gt gm g R : Nat} (r1 : 1 ≤ R) (r2 : R ≤ 2048) (h1 : gt ≠ gm) (h2 : gt ≠ g) (h3 : gm ≠ g) (t : Blk W gt 5 (madeCells #[.int .u8 0] R)) (m : Blk W gm 4 (madeCells #[.bool false] R))
    (k : Blk W g 74 #[.int .i64 0, .slice (some ⟨gt, 0, none⟩) R R, .slice (some ⟨gm, 0, none⟩) R R]) : Buf W gt gm g R 0 (List.replicate R none) := by
  refine ⟨k, h1, h2, h3, r1, r2, by simp, by omega, ⟨_, t, made_size _ _, fun i hi => ⟨0, made_at _ _ _ hi⟩, fun k c hk => ?_⟩, ⟨_, m, made_size _ _, fun k o hk => ?_⟩⟩
  · rw [List.getElem?_replicate] at hk; split at hk <;> cases hk
  · rw [List.getElem?_replicate] at hk
    split at hk
    · cases hk; rw [made_at _ _ _ (Nat.mod_lt _ r1)]; rfl
    · cases hk

set_option maxRecDepth 100000 in
theorem new_ok (R : Nat) (w : World) (h1 : 1 ≤ R) (h2 : R ≤ 2048) :
    Calls Try.prog 20 #[.int .i64 (R : Int)] w fun e w' => ∃ gt gm g, e = .returned (.tuple #[.pointer (some ⟨g, 0, none⟩), .int .i64 0]) ∧ Buf w' gt gm g R 0 (List.replicate R none) ∧ Below w.heap.size w w' ∧ w.heap.size ≤ gt ∧ w.heap.size ≤ gm ∧ w.heap.size ≤ g := by
  have g1 : ¬ (R : Int) < 1 := by omega
  have g2 : ¬ (R : Int) > 2048 := by omega
  have fin1 : ∀ W1 W2 W3 : World, W1 = w.drew.alloc (.cells (madeCells #[.int .u8 0] R) 5) → W2 = W1.alloc (.cells (madeCells #[.bool false] R) 4) → W3 = W2.alloc (.cells #[.int .i64 0, .slice (some ⟨w.heap.size, 0, none⟩) R R, .slice (some ⟨w.heap.size + 1, 0, none⟩) R R] 74) → Buf W3 w.heap.size (w.heap.size + 1) (w.heap.size + 2) R 0 (List.replicate R none) ∧ Below w.heap.size w W3 := by
    rintro W1 W2 W3 rfl rfl rfl
    refine ⟨Buf.of_made h1 h2 (by omega) (by omega) (by omega) (((Blk.new _ _ _).alloc _).alloc _) ?_ ?_, ((((Below.refl _ w).drew).alloc (Nat.le_refl _) _).alloc (by simp) _).alloc (by simp; omega) _⟩
    · have := (Blk.new (w.drew.alloc (.cells (madeCells #[.int .u8 0] R) 5)) 4 (madeCells #[.bool false] R)).alloc (.cells #[.int .i64 0, .slice (some ⟨w.heap.size, 0, none⟩) R R, .slice (some ⟨w.heap.size + 1, 0, none⟩) R R] 74)
      simpa using this
    · have := Blk.new ((w.drew.alloc (.cells (madeCells #[.int .u8 0] R) 5)).alloc (.cells (madeCells #[.bool false] R) 4)) 74 #[.int .i64 0, .slice (some ⟨w.heap.size, 0, none⟩) R R, .slice (some ⟨w.heap.size + 1, 0, none⟩) R R]
      simpa using this
  have fin2 : ∀ W1 W2 W3 : World, W1 = w.drew.alloc (.cells (madeCells #[.bool false] R) 4) → W2 = W1.alloc (.cells (madeCells #[.int .u8 0] R) 5) → W3 = W2.alloc (.cells #[.int .i64 0, .slice (some ⟨w.heap.size + 1, 0, none⟩) R R, .slice (some ⟨w.heap.size, 0, none⟩) R R] 74) → Buf W3 (w.heap.size + 1) w.heap.size (w.heap.size + 2) R 0 (List.replicate R none) ∧ Below w.heap.size w W3 := by
    rintro W1 W2 W3 rfl rfl rfl
    refine ⟨Buf.of_made h1 h2 (by omega) (by omega) (by omega) ?_ (((Blk.new _ _ _).alloc _).alloc _) ?_, ((((Below.refl _ w).drew).alloc (Nat.le_refl _) _).alloc (by simp) _).alloc (by simp; omega) _⟩
    · have := (Blk.new (w.drew.alloc (.cells (madeCells #[.bool false] R) 4)) 5 (madeCells #[.int .u8 0] R)).alloc (.cells #[.int .i64 0, .slice (some ⟨w.heap.size + 1, 0, none⟩) R R, .slice (some ⟨w.heap.size, 0, none⟩) R R] 74)
      simpa using this
    · have := Blk.new ((w.drew.alloc (.cells (madeCells #[.bool false] R) 4)).alloc (.cells (madeCells #[.int .u8 0] R) 5)) 74 #[.int .i64 0, .slice (some ⟨w.heap.size + 1, 0, none⟩) R R, .slice (some ⟨w.heap.size, 0, none⟩) R R]
      simpa using this
  have F1 := Lib.hid fin1
  have F2 := Lib.hid fin2
  have hm := fun W => mk_u8 R h2 W
  have hb := fun W => mk_bool R h2 W
  clear fin1 fin2
  go_enter Try.func20, Try.ntmps20
  go_wp2_with fail
  go_region
  all_goals go_wp2
  all_goals go_ret2
  all_goals (first
    | exact ⟨_, _, _, rfl, (F1.out _ _ _ rfl rfl rfl).1, (F1.out _ _ _ rfl rfl rfl).2, by omega, by omega, by omega⟩
    | exact ⟨_, _, _, rfl, (F2.out _ _ _ rfl rfl rfl).1, (F2.out _ _ _ rfl rfl rfl).2, by omega, by omega, by omega⟩)
end Go.Proofs.Ytldmcoagjgeeoaa.Ra
