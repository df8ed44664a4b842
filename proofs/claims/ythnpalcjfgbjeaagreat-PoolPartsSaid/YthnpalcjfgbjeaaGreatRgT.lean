/- Package ring at a transfer: what its functions do. Conditions: those that each states. -/
import Derived.Test.YthnpalcjfgbjeaaGreatRgW
import Derived.Test.YthnpalcjfgbjeaaGreatRow
import Derived.Deep.Cut
import Derived.Deep.CutBlock
import Derived.RegionTactic
import Derived.BigRegion
import Derived.WalkMore
import Derived.StillTailTactics
import Derived.Deep.QuietTactic
import Derived.BigQuiet
import Derived.Deep.OwnRows
namespace Go.Proofs.YthnpalcjfgbjeaaGreat.RgT
open Go.ChangeShapes Go.WideShapes Go.ChangeAt Go.RowKit Go.Deep
set_option linter.unusedVariables false

abbrev Ring (w : World) (gs g room first : Nat) (xs : List (Value × Value)) : Prop := RingW 115 139 w gs g room first xs

theorem infos : (Tryz.prog.info? 115).map (fun i => (i.zero.map (·.cells), i.size, i.bytes)) = some (some #[.int .i64 0, .slice none 0 0], 2, 32) := by kernel_rfl
theorem make_things (n : Nat) (hn : n ≤ 32) (W : World) :
    (Instr.makeSlice 137 (.int .i64 (n : Int)) (.int .i64 (n : Int))).run Tryz.prog W = .ok (.slice (some ⟨W.heap.size, 0, none⟩) n n) (W.alloc (.cells (madeCells #[.int .i64 0, .slice none 0 0] (n * 2)) 115)) := by
  obtain ⟨i, hi, hs⟩ := Option.map_eq_some_iff.1 infos
  simp only [Prod.mk.injEq] at hs
  obtain ⟨h0, h1, h2⟩ := hs
  obtain ⟨z, hz, hzc⟩ := Option.map_eq_some_iff.1 h0
  have hr := run_make (P := Tryz.prog) W 137 115 i z Tryz.underlying137 hi hz .i64 .i64 (n : Int) (n : Int) (by omega) (by omega) (by rw [h2]; omega) (by omega)
  simp only [h1, hzc, Int.toNat_natCast] at hr
  exact hr

set_option maxRecDepth 100000 in
theorem new_ok (room : Nat) (w : World) (h1 : 1 ≤ room) (h2 : room ≤ 32) :
    Calls Tryz.prog 42 #[.int .i64 (room : Int)] w fun e w' => e = .returned (.tuple #[.pointer (some ⟨w.heap.size + 1, 0, none⟩), .int .i64 0]) ∧ Ring w' w.heap.size (w.heap.size + 1) room 0 [] ∧ Below w.heap.size w w' ∧ w'.heap.size = w.heap.size + 2 := by
  have g1 : ¬ (room : Int) < 1 := by omega
  have g2 : ¬ (room : Int) > 32 := by omega
  have fin : ∀ W1 W2 : World, W1 = w.alloc (.cells (madeCells #[.int .i64 0, .slice none 0 0] (room * 2)) 115) → W2 = W1.alloc (.cells #[.slice (some ⟨w.heap.size, 0, none⟩) room room, .int .i64 0, .int .i64 0] 139) → Ring W2 w.heap.size (w.heap.size + 1) room 0 [] ∧ Below w.heap.size w W2 ∧ W2.heap.size = w.heap.size + 2 := by
    rintro W1 W2 rfl rfl
    refine ⟨⟨by omega, h1, h2, by simp, by simp, ?_, madeCells #[.int .i64 0, .slice none 0 0] (room * 2), (Blk.new w _ _).alloc _, size_madeCells _ _, fun j h => absurd h (by simp)⟩, ((Below.refl _ w).alloc (Nat.le_refl _) _).alloc (by simp) _, by simp⟩
    have := Blk.new (w.alloc (.cells (madeCells #[.int .i64 0, .slice none 0 0] (room * 2)) 115)) 139 #[.slice (some ⟨w.heap.size, 0, none⟩) room room, .int .i64 0, .int .i64 0]
    simpa using this
  have FIN := Lib.hid fin
  have hm := fun W => make_things room h2 W
  clear fin
  go_enter Tryz.func42, Tryz.ntmps42
  go_wp2
  go_ret2
  exact ⟨rfl, FIN.out _ _ rfl rfl⟩
theorem new_no (room : Int) (w : World) (h : room < 1 ∨ 32 < room) :
    Calls Tryz.prog 42 #[.int .i64 room] w fun e w' => e = .returned (.tuple #[.pointer none, .int .i64 1]) ∧ w' = w := by
  by_cases h1 : room < 1
  · clear h
    go_enter Tryz.func42, Tryz.ntmps42
    go_wp2
    go_ret2
    exact ⟨rfl, rfl⟩
  · have h2 : room > 32 := by omega
    clear h
    go_enter Tryz.func42, Tryz.ntmps42
    go_wp2
    go_ret2
    exact ⟨rfl, rfl⟩

theorem place_any (gs g room first : Nat) (xs : List (Value × Value)) (t : Nat) (w : World) (h : Ring w gs g room first xs) :
    Calls Tryz.prog 91 #[.pointer (some ⟨g, 0, none⟩), .int .i64 (t : Int)] w fun e w' => e = .returned (.int .i64 ((t % room : Nat) : Int)) ∧ w' = w := by
  have c0 := h.head.cell 0
  simp only [List.getElem?_toArray, List.getElem?_cons_zero] at c0
  have r1 := h.r1
  have r2 := h.r2
  have hr0 : (room : Int) ≠ 0 := by omega
  have x0 : Int.tmod (t : Int) (room : Int) = ((t % room : Nat) : Int) := by rw [Int.tmod_eq_emod_of_nonneg (by omega)]; omega
  have X0 := Lib.hid x0
  clear h x0
  go_enter Tryz.func91, Tryz.ntmps91
  go_wp2
  go_ret
  exact ⟨by first | rfl | (rw [← X0.out]) | simp, rfl⟩

theorem len_any (gs g room first : Nat) (xs : List (Value × Value)) (w : World) (h : Ring w gs g room first xs) :
    Calls Tryz.prog 86 #[.pointer (some ⟨g, 0, none⟩)] w fun e w' => e = .returned (.int .i64 (xs.length : Int)) ∧ ∃ m, w' = w.drewN m := by
  have c1 := h.head.cell 1
  have c2 := h.head.cell 2
  simp only [List.getElem?_toArray, List.getElem?_cons_succ, List.getElem?_cons_zero] at c1 c2
  have hs := h.small
  generalize hn : (first : Int) + (xs.length : Int) = nx at *
  have x0 : IntKind.i64.wrap (nx - (first : Int)) = (xs.length : Int) := by
    rw [IntWalk.i64_in _ (by omega)]; omega
  clear h hn
  go_enter Tryz.func86, Tryz.ntmps86
  go_wp2_with fail
  go_quiet (fail)
  go_wp2
  go_ret
  exact ⟨rfl, _, rfl⟩
theorem room_any (gs g room first : Nat) (xs : List (Value × Value)) (w : World) (h : Ring w gs g room first xs) :
    Calls Tryz.prog 76 #[.pointer (some ⟨g, 0, none⟩)] w fun e w' => e = .returned (.int .i64 ((room : Int) - (xs.length : Int))) ∧ ∃ m, w' = w.drewN m := by
  have c0 := h.head.cell 0
  simp only [List.getElem?_toArray, List.getElem?_cons_zero] at c0
  have hl := h.len
  have h2 := h.r2
  have x0 : IntKind.i64.wrap ((room : Int) - (xs.length : Int)) = (room : Int) - (xs.length : Int) := IntWalk.i64_in _ (by omega)
  have H := Lib.hid h
  clear h
  go_enter Tryz.func76, Tryz.ntmps76
  go_wp2_with fail
  go_quiet ((go_at_call 86; exact Calls.quiet_of (len_any gs g room first xs _ (H.out.drewN _))))
  go_wp2
  go_ret
  exact ⟨rfl, _, rfl⟩


theorem tinfo : (Tryz.prog.info? 115).map (·.size) = some 2 := by kernel_rfl
/-- The block that a struct of a transfer's kind lies in, new. -/
abbrev box (w : World) (te : Int) (tA : Option Addr) (tn tc : Nat) : World := w.alloc (.cells #[.int .i64 te, .slice tA tn tc] 115)

set_option maxRecDepth 100000 in
set_option maxHeartbeats 1000000 in
theorem put_ok (gs g room first : Nat) (xs : List (Value × Value)) (te : Int) (tA : Option Addr) (tn tc : Nat) (w : World) (h : Ring w gs g room first xs) (hl : xs.length < room) (hs : first + xs.length < 1000000) :
    Calls Tryz.prog 78 #[.pointer (some ⟨g, 0, none⟩), .agg #[.int .i64 te, .slice tA tn tc]] w fun e w' => e = .returned (.tuple #[.int .i64 ((first : Int) + (xs.length : Int)), .int .i64 0]) ∧ Ring w' gs g room first (xs ++ [(.int .i64 te, .slice tA tn tc)]) ∧ Chg w w' (fun k => k = gs ∨ k = g) := by
  have hb1 : Below w.heap.size w (box w te tA tn tc) := (Below.refl _ w).alloc (Nat.le_refl _) _
  have h1 := h.new hb1
  have bb := Blk.new w 115 #[.int .i64 te, .slice tA tn tc]
  obtain ⟨W, hW⟩ : ∃ W, W = box w te tA tn tc := ⟨_, rfl⟩
  rw [← hW] at h1 hb1
  have fin : ∀ n m : Nat, ∃ W2, W2 = (((W.drewN n).setCell ⟨gs, (first + xs.length) % room * 2, none⟩ (.int .i64 te)).setCell ⟨gs, (first + xs.length) % room * 2 + 1, none⟩ (.slice tA tn tc)).setCell ⟨g, 2, none⟩ (.int .i64 ((first : Int) + (xs.length : Int) + 1)) ∧ Ring (W2.drewN m) gs g room first (xs ++ [(.int .i64 te, .slice tA tn tc)]) ∧ Chg w (W2.drewN m) (fun k => k = gs ∨ k = g) := by
    intro n m
    refine ⟨_, rfl, (h1.put hl hs (.int .i64 te) (.slice tA tn tc) n).drewN m, Chg.drewN ?_ m⟩
    exact ((((Chg.of_new hb1 _).drewN n).trans (Chg.set _ _ _ (.inl rfl))).trans (Chg.set _ _ _ (.inl rfl))).trans (Chg.set _ _ _ (.inr rfl))
  have FIN := Lib.hid fin
  have d0 : W.cell? ⟨w.heap.size, 0, none⟩ = some (.int .i64 te) := by rw [hW]; exact (bb.cell 0).trans rfl
  have d1 : W.cell? ⟨w.heap.size, 1, none⟩ = some (.slice tA tn tc) := by rw [hW]; exact (bb.cell 1).trans rfl
  have c0 := h1.head.cell 0
  have c2 := h1.head.cell 2
  simp only [List.getElem?_toArray, List.getElem?_cons_succ, List.getElem?_cons_zero] at c0 c2
  have hne : gs ≠ g := Nat.ne_of_lt h.lt
  obtain ⟨u, v, cu, cv⟩ := h1.place (first + xs.length)
  have ft := h1.thaw ((first + xs.length) % room * 2)
  have ft2 := h1.thaw ((first + xs.length) % room * 2 + 1)
  have fg := h1.head.frozen 2
  have hm : (first + xs.length) % room < room := Nat.mod_lt _ h.r1
  have r2 := h.r2
  have rm := fun W hW => room_any gs g room first xs W hW
  obtain ⟨q, hq, hq0⟩ : ∃ q : Int, q = (room : Int) - (xs.length : Int) ∧ ¬ q = 0 := ⟨_, rfl, by have := h.r1; omega⟩
  rw [← hq] at rm
  have RM := Lib.hid rm
  have pl := fun W hW => place_any gs g room first xs (first + xs.length) W hW
  rw [Int.natCast_add] at pl
  have PL := Lib.hid pl
  have H := Lib.hid h1
  generalize hp : (first + xs.length) % room = p at *
  have hpr : (p : Int) < (room : Int) := by omega
  have hp0 : (0 : Int) ≤ (p : Int) := by omega
  have HW := Lib.hid hW
  clear fin h hq rm hp pl h1 hb1 hW bb
  go_enter Tryz.func78, Tryz.ntmps78
  go_wp2_with fail
  rw [show w.alloc (.cells #[.int .i64 te, .slice tA tn tc] 115) = W from HW.out.symm]
  refine (RM.out _ H.out).mono ?_; rintro e w1 ⟨rfl, m1, rfl⟩
  go_wp2_with fail
  refine wp_region_still_tail 9 (by kernel_rfl) (by kernel_rfl) ?_
  change wpStill _ _ (W.drewN m1).drew (fun a' => wpList _ _ _ _ a' (W.drewN m1).drew) _ _
  simp only [List.take_succ_cons, List.take_zero, List.drop_succ_cons, List.drop_zero]
  repeat still_step
  still_call (PL.out _ ((H.out.drewN m1).drewN 1))
  repeat still_step
  refine wpStill_nil ?_
  go_wp2
  go_ret2
  obtain ⟨W, rfl, r1, r2⟩ := FIN.out m1 1
  exact ⟨rfl, r1, r2⟩

set_option maxRecDepth 100000 in
theorem put_full (gs g room first : Nat) (xs : List (Value × Value)) (te : Int) (tA : Option Addr) (tn tc : Nat) (w : World) (h : Ring w gs g room first xs) (hl : xs.length = room) :
    Calls Tryz.prog 78 #[.pointer (some ⟨g, 0, none⟩), .agg #[.int .i64 te, .slice tA tn tc]] w fun e w' => e = .returned (.tuple #[.int .i64 0, .int .i64 10]) ∧ Below w.heap.size w w' := by
  have hb1 : Below w.heap.size w (box w te tA tn tc) := (Below.refl _ w).alloc (Nat.le_refl _) _
  have h1 := h.new hb1
  have rm := fun W hW => room_any gs g room first xs W hW
  have e0 : (room : Int) - (xs.length : Int) = 0 := by omega
  rw [e0] at rm
  have RM := Lib.hid rm
  have H := Lib.hid h1
  have HB := Lib.hid hb1
  clear h rm e0 hl h1 hb1
  go_enter Tryz.func78, Tryz.ntmps78
  go_wp2_with fail
  refine (RM.out _ H.out).mono ?_; rintro e w1 ⟨rfl, m1, rfl⟩
  go_wp2
  go_ret2
  exact ⟨rfl, below_drewN HB.out m1⟩

end Go.Proofs.YthnpalcjfgbjeaaGreat.RgT
