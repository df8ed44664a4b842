/- Package ring at []byte: what its functions do. Conditions: those that each states. -/
import Derived.Test.YthnpalcjfgbjeaaGreatBase
import Derived.RegionTactic
import Derived.BigRegion
import Derived.WalkMore
import Derived.StillTailTactics
import Derived.Deep.QuietTactic
import Derived.BigQuiet
import Derived.Deep.OwnRows
namespace Go.Proofs.YthnpalcjfgbjeaaGreat.RgP
open Go.ChangeShapes Go.WideShapes Go.ChangeAt Go.RowKit Go.Deep
set_option linter.unusedVariables false

abbrev Ring (w : World) (gs g room first : Nat) (xs : List Value) : Prop := RingAt 34 136 w gs g room first xs

theorem info : (Tryz.prog.info? 34).map (fun i => (i.zero, i.size, i.bytes)) = some (some (.slice none 0 0), 1, 24) := by kernel_rfl
theorem make_things (n : Nat) (hn : n ≤ 32) (W : World) :
    (Instr.makeSlice 134 (.int .i64 (n : Int)) (.int .i64 (n : Int))).run Tryz.prog W = .ok (.slice (some ⟨W.heap.size, 0, none⟩) n n) (W.alloc (.cells (madeCells #[.slice none 0 0] n) 34)) :=
  run_make_row' (P := Tryz.prog) 134 34 (.slice none 0 0) 24 Tryz.underlying134 info rfl .i64 .i64 n (by omega) (by omega) W

set_option maxRecDepth 100000 in
theorem new_ok (room : Nat) (w : World) (h1 : 1 ≤ room) (h2 : room ≤ 32) :
    Calls Tryz.prog 41 #[.int .i64 (room : Int)] w fun e w' => e = .returned (.tuple #[.pointer (some ⟨w.heap.size + 1, 0, none⟩), .int .i64 0]) ∧ Ring w' w.heap.size (w.heap.size + 1) room 0 [] ∧ Below w.heap.size w w' ∧ w'.heap.size = w.heap.size + 2 := by
  have g1 : ¬ (room : Int) < 1 := by omega
  have g2 : ¬ (room : Int) > 32 := by omega
  have fin : ∀ W1 W2 : World, W1 = w.alloc (.cells (madeCells #[.slice none 0 0] room) 34) → W2 = W1.alloc (.cells #[.slice (some ⟨w.heap.size, 0, none⟩) room room, .int .i64 0, .int .i64 0] 136) → Ring W2 w.heap.size (w.heap.size + 1) room 0 [] ∧ Below w.heap.size w W2 ∧ W2.heap.size = w.heap.size + 2 := by
    rintro W1 W2 rfl rfl
    refine ⟨⟨by omega, h1, h2, by simp, by simp, ?_, madeCells #[.slice none 0 0] room, (Blk.new w _ _).alloc _, size_madeCells _ _, fun j h => absurd h (by simp)⟩, ((Below.refl _ w).alloc (Nat.le_refl _) _).alloc (by simp) _, by simp⟩
    have := Blk.new (w.alloc (.cells (madeCells #[.slice none 0 0] room) 34)) 136 #[.slice (some ⟨w.heap.size, 0, none⟩) room room, .int .i64 0, .int .i64 0]
    simpa using this
  have FIN := Lib.hid fin
  have hm := fun W => make_things room h2 W
  clear fin
  go_enter Tryz.func41, Tryz.ntmps41
  go_wp2
  go_ret2
  exact ⟨rfl, FIN.out _ _ rfl rfl⟩
theorem new_no (room : Int) (w : World) (h : room < 1 ∨ 32 < room) :
    Calls Tryz.prog 41 #[.int .i64 room] w fun e w' => e = .returned (.tuple #[.pointer none, .int .i64 1]) ∧ w' = w := by
  by_cases h1 : room < 1
  · clear h
    go_enter Tryz.func41, Tryz.ntmps41
    go_wp2
    go_ret2
    exact ⟨rfl, rfl⟩
  · have h2 : room > 32 := by omega
    clear h
    go_enter Tryz.func41, Tryz.ntmps41
    go_wp2
    go_ret2
    exact ⟨rfl, rfl⟩

theorem place_any (gs g room first : Nat) (xs : List Value) (t : Nat) (w : World) (h : Ring w gs g room first xs) :
    Calls Tryz.prog 81 #[.pointer (some ⟨g, 0, none⟩), .int .i64 (t : Int)] w fun e w' => e = .returned (.int .i64 ((t % room : Nat) : Int)) ∧ w' = w := by
  have c0 := h.head.cell 0
  simp only [List.getElem?_toArray, List.getElem?_cons_zero] at c0
  have r1 := h.r1
  have r2 := h.r2
  have hr0 : (room : Int) ≠ 0 := by omega
  have x0 : Int.tmod (t : Int) (room : Int) = ((t % room : Nat) : Int) := by rw [Int.tmod_eq_emod_of_nonneg (by omega)]; omega
  have X0 := Lib.hid x0
  clear h x0
  go_enter Tryz.func81, Tryz.ntmps81
  go_wp2
  go_ret
  exact ⟨by first | rfl | (rw [← X0.out]) | simp, rfl⟩

set_option maxRecDepth 100000 in
theorem at_ok (gs g room first : Nat) (xs : List Value) (t : Nat) (xA : Option Addr) (xn xc : Nat) (w : World) (h : Ring w gs g room first xs) (h1 : first ≤ t) (hx : xs[t - first]? = some (.slice xA xn xc)) :
    Calls Tryz.prog 80 #[.pointer (some ⟨g, 0, none⟩), .int .i64 (t : Int)] w fun e w' => e = .returned (.tuple #[.slice xA xn xc, .int .i64 0]) ∧ ∃ m, w' = w.drewN m := by
  obtain ⟨hlt, hxe⟩ := List.getElem?_eq_some_iff.1 hx
  have cc := h.cell hlt
  rw [hxe, show first + (t - first) = t by omega] at cc
  have c0 := h.head.cell 0
  have c1 := h.head.cell 1
  have c2 := h.head.cell 2
  simp only [List.getElem?_toArray, List.getElem?_cons_succ, List.getElem?_cons_zero] at c0 c1 c2
  have g1 : ¬ (t : Int) < (first : Int) := by omega
  have g2 : ¬ (t : Int) ≥ (first : Int) + (xs.length : Int) := by omega
  have hm : t % room < room := Nat.mod_lt _ h.r1
  have r2 := h.r2
  have pl := fun W hW => place_any gs g room first xs t W hW
  have PL := Lib.hid pl
  have H := Lib.hid h
  generalize hp : t % room = p at *
  have hpr : (p : Int) < (room : Int) := by omega
  have hp0 : (0 : Int) ≤ (p : Int) := by omega
  generalize hn : (first : Int) + (xs.length : Int) = nx at *
  clear h hp pl hx hxe hlt hn
  go_enter Tryz.func80, Tryz.ntmps80
  go_wp2_with fail
  go_quiet ((go_at_call 81; exact Calls.quiet_of_same (PL.out _ (H.out.drewN _))))
  go_wp2
  go_ret2
  exact ⟨rfl, _, rfl⟩
theorem at_no (gs g room first : Nat) (xs : List Value) (t : Int) (w : World) (h : Ring w gs g room first xs) (ht : t < (first : Int) ∨ (first : Int) + (xs.length : Int) ≤ t) :
    Calls Tryz.prog 80 #[.pointer (some ⟨g, 0, none⟩), .int .i64 t] w fun e w' => e = .returned (.tuple #[.slice none 0 0, .int .i64 11]) ∧ w' = w := by
  have c1 := h.head.cell 1
  have c2 := h.head.cell 2
  simp only [List.getElem?_toArray, List.getElem?_cons_succ, List.getElem?_cons_zero] at c1 c2
  generalize hn : (first : Int) + (xs.length : Int) = nx at *
  clear h hn
  by_cases g1 : t < (first : Int)
  · clear ht
    go_enter Tryz.func80, Tryz.ntmps80
    go_wp2
    go_ret2
    exact ⟨rfl, rfl⟩
  · have g2 : t ≥ nx := by omega
    clear ht
    go_enter Tryz.func80, Tryz.ntmps80
    go_wp2
    go_ret2
    exact ⟨rfl, rfl⟩
theorem at_nil (t : Int) (w : World) :
    Calls Tryz.prog 80 #[.pointer none, .int .i64 t] w fun e w' => e = .returned (.tuple #[.slice none 0 0, .int .i64 3]) ∧ w' = w := by
  go_enter Tryz.func80, Tryz.ntmps80
  go_wp2
  go_ret2
  exact ⟨rfl, rfl⟩

set_option maxRecDepth 100000 in
set_option maxHeartbeats 1000000 in
theorem take_ok (gs g room first : Nat) (xs : List Value) (xA : Option Addr) (xn xc : Nat) (w : World) (h : Ring w gs g room first (.slice xA xn xc :: xs)) :
    Calls Tryz.prog 55 #[.pointer (some ⟨g, 0, none⟩)] w fun e w' => e = .returned (.tuple #[.slice xA xn xc, .int .i64 0]) ∧ Ring w' gs g room (first + 1) xs ∧ Chg w w' (fun k => k = gs ∨ k = g) := by
  have fin : ∀ n m : Nat, ∃ W, W = ((w.drewN n).setCell ⟨gs, first % room, none⟩ (.slice none 0 0)).setCell ⟨g, 1, none⟩ (.int .i64 ((first : Int) + 1)) ∧ Ring (W.drewN m) gs g room (first + 1) xs ∧ Chg w (W.drewN m) (fun k => k = gs ∨ k = g) := by
    intro n m
    refine ⟨_, rfl, (h.take (.slice none 0 0) n).drewN m, Chg.drewN ?_ m⟩
    exact (((Chg.refl w _).drewN n).trans (Chg.set _ _ _ (.inl rfl))).trans (Chg.set _ _ _ (.inr rfl))
  have FIN := Lib.hid fin
  have c0 := h.head.cell 0
  have c1 := h.head.cell 1
  simp only [List.getElem?_toArray, List.getElem?_cons_succ, List.getElem?_cons_zero] at c0 c1
  have hne : gs ≠ g := Nat.ne_of_lt h.lt
  obtain ⟨u, cu⟩ := h.place first
  have ft := h.thaw (first % room)
  have fg := h.head.frozen 1
  have hm : first % room < room := Nat.mod_lt _ h.r1
  have r2 := h.r2
  have sm := h.small
  have AT := Lib.hid (fun W hW => at_ok gs g room first (.slice xA xn xc :: xs) first xA xn xc W hW (Nat.le_refl _) (by simp))
  have PL := Lib.hid (fun W hW => place_any gs g room first (.slice xA xn xc :: xs) first W hW)
  have H := Lib.hid h
  generalize hp : first % room = p at *
  have hpr : (p : Int) < (room : Int) := by omega
  have hp0 : (0 : Int) ≤ (p : Int) := by omega
  clear fin h hp
  go_enter Tryz.func55, Tryz.ntmps55
  go_wp2_with fail
  refine (AT.out _ H.out).mono ?_; rintro e w1 ⟨rfl, m1, rfl⟩
  go_wp2_with fail
  refine wp_region_still_tail 12 (by kernel_rfl) (by kernel_rfl) ?_
  change wpStill _ _ (w.drewN m1).drew (fun a' => wpList _ _ _ _ a' (w.drewN m1).drew) _ _
  simp only [List.take_succ_cons, List.take_zero, List.drop_succ_cons, List.drop_zero]
  repeat still_step
  still_call (PL.out _ ((H.out.drewN m1).drewN 1))
  repeat still_step
  refine wpStill_nil ?_
  go_wp2
  go_ret2
  obtain ⟨W, rfl, r1, r2⟩ := FIN.out m1 1
  exact ⟨rfl, r1, r2⟩
theorem take_empty (gs g room first : Nat) (w : World) (h : Ring w gs g room first []) :
    Calls Tryz.prog 55 #[.pointer (some ⟨g, 0, none⟩)] w fun e w' => e = .returned (.tuple #[.slice none 0 0, .int .i64 11]) ∧ w' = w := by
  have c1 := h.head.cell 1
  simp only [List.getElem?_toArray, List.getElem?_cons_succ, List.getElem?_cons_zero] at c1
  have AT := Lib.hid (fun W hW => at_no gs g room first [] (first : Int) W hW (.inr (by simp)))
  have H := Lib.hid h
  clear h
  go_enter Tryz.func55, Tryz.ntmps55
  go_wp2_with fail
  refine (AT.out _ H.out).mono ?_; rintro e w1 ⟨rfl, rfl⟩
  go_wp2
  go_ret2
  exact ⟨rfl, rfl⟩
theorem take_nil (w : World) :
    Calls Tryz.prog 55 #[.pointer none] w fun e w' => e = .returned (.tuple #[.slice none 0 0, .int .i64 3]) ∧ w' = w := by
  go_enter Tryz.func55, Tryz.ntmps55
  go_wp2
  go_ret2
  exact ⟨rfl, rfl⟩

end Go.Proofs.YthnpalcjfgbjeaaGreat.RgP
