/- Package ring at a transfer: what its functions do. Conditions: those that each states. -/
import Derived.Test.YtbkjjakkihbcdaaGreatMAG
import Derived.Deep.Cut
import Derived.Deep.CutBlock
import Derived.RegionTactic
import Derived.BigRegion
import Derived.WalkMore
import Derived.StillTailTactics
import Derived.Deep.QuietTactic
import Derived.BigQuiet
import Derived.Deep.OwnRows
import Derived.Test.YtbkjjakkihbcdaaGreatMAD
import Derived.Test.YtbkjjakkihbcdaaGreatMAF
namespace Go.Proofs.YtbkjjakkihbcdaaGreat.RgT
open Go.ChangeShapes Go.WideShapes Go.ChangeAt Go.RowKit Go.Deep
set_option linter.unusedVariables false

abbrev Ring (w : World) (gs g room first : Nat) (xs : List (Value × Value)) : Prop := RingW 130 192 w gs g room first xs

theorem infos : (Tryz.prog.info? 130).map (fun i => (i.zero.map (·.cells), i.size, i.bytes)) = some (some #[.int .i64 0, .slice none 0 0], 2, 32) := by kernel_rfl
theorem make_things (n : Nat) (hn : n ≤ 32) (W : World) :
  (Instr.makeSlice 190 (.int .i64 (n : Int)) (.int .i64 (n : Int))).run Tryz.prog W = .ok (.slice (some ⟨W.heap.size, 0, none⟩) n n) (W.alloc (.cells (madeCells #[.int .i64 0, .slice none 0 0] (n * 2)) 130)) := by
 obtain ⟨i, hi, hs⟩ := Option.map_eq_some_iff.1 infos
 simp only [Prod.mk.injEq] at hs
 obtain ⟨h0, h1, h2⟩ := hs
 obtain ⟨z, hz, hzc⟩ := Option.map_eq_some_iff.1 h0
 have hr := run_make (P := Tryz.prog) W 190 130 i z Tryz.underlying190 hi hz .i64 .i64 (n : Int) (n : Int) (by omega) (by omega) (by rw [h2]; omega) (by omega)
 simp only [h1, hzc, Int.toNat_natCast] at hr
 exact hr

set_option maxRecDepth 100000 in
theorem new_ok (room : Nat) (w : World) (h1 : 1 ≤ room) (h2 : room ≤ 32) :
  Calls Tryz.prog 62 #[.int .i64 (room : Int)] w fun e w' => e = .returned (.tuple #[.pointer (some ⟨w.heap.size + 1, 0, none⟩), .int .i64 0]) ∧ Ring w' w.heap.size (w.heap.size + 1) room 0 [] ∧ Below w.heap.size w w' ∧ w'.heap.size = w.heap.size + 2 := by
 have g1 : ¬ (room : Int) < 1 := by omega
 have g2 : ¬ (room : Int) > 32 := by omega
 have fin : ∀ W1 W2 : World, W1 = w.alloc (.cells (madeCells #[.int .i64 0, .slice none 0 0] (room * 2)) 130) → W2 = W1.alloc (.cells #[.slice (some ⟨w.heap.size, 0, none⟩) room room, .int .i64 0, .int .i64 0] 192) → Ring W2 w.heap.size (w.heap.size + 1) room 0 [] ∧ Below w.heap.size w W2 ∧ W2.heap.size = w.heap.size + 2 := by
  rintro W1 W2 rfl rfl
  refine ⟨⟨by omega, h1, h2, by simp, by simp, ?_, madeCells #[.int .i64 0, .slice none 0 0] (room * 2), (Blk.new w _ _).alloc _, size_madeCells _ _, fun j h => absurd h (by simp)⟩, ((Below.refl _ w).alloc (Nat.le_refl _) _).alloc (by simp) _, by simp⟩
  have := Blk.new (w.alloc (.cells (madeCells #[.int .i64 0, .slice none 0 0] (room * 2)) 130)) 192 #[.slice (some ⟨w.heap.size, 0, none⟩) room room, .int .i64 0, .int .i64 0]
  simpa using this
 have FIN := Lib.hid fin
 have hm := fun W => make_things room h2 W
 clear fin
 go_enter Tryz.func62, Tryz.ntmps62
 go_wp2
 go_ret2
 exact ⟨rfl, FIN.out _ _ rfl rfl⟩
theorem place_any (gs g room first : Nat) (xs : List (Value × Value)) (t : Nat) (w : World) (h : Ring w gs g room first xs) :
  Calls Tryz.prog 92 #[.pointer (some ⟨g, 0, none⟩), .int .i64 (t : Int)] w fun e w' => e = .returned (.int .i64 ((t % room : Nat) : Int)) ∧ w' = w := by
 have c0 := h.head.cell 0
 simp only [List.getElem?_toArray, List.getElem?_cons_zero] at c0
 have r1 := h.r1
 have r2 := h.r2
 have hr0 : (room : Int) ≠ 0 := by omega
 have x0 : Int.tmod (t : Int) (room : Int) = ((t % room : Nat) : Int) := by rw [Int.tmod_eq_emod_of_nonneg (by omega)]; omega
 have X0 := Lib.hid x0
 clear h x0
 go_enter Tryz.func92, Tryz.ntmps92
 go_wp2
 go_ret
 exact ⟨by first | rfl | (rw [← X0.out]) | simp, rfl⟩

theorem len_any (gs g room first : Nat) (xs : List (Value × Value)) (w : World) (h : Ring w gs g room first xs) :
  Calls Tryz.prog 99 #[.pointer (some ⟨g, 0, none⟩)] w fun e w' => e = .returned (.int .i64 (xs.length : Int)) ∧ ∃ m, w' = w.drewN m := by
 have c1 := h.head.cell 1
 have c2 := h.head.cell 2
 simp only [List.getElem?_toArray, List.getElem?_cons_succ, List.getElem?_cons_zero] at c1 c2
 have hs := h.small
 generalize hn : (first : Int) + (xs.length : Int) = nx at *
 have x0 : IntKind.i64.wrap (nx - (first : Int)) = (xs.length : Int) := by
  rw [IntWalk.i64_in _ (by omega)]; omega
 clear h hn
 go_enter Tryz.func99, Tryz.ntmps99
 go_wp2_with fail
 go_quiet (fail)
 go_wp2
 go_ret
 exact ⟨rfl, _, rfl⟩
theorem room_any (gs g room first : Nat) (xs : List (Value × Value)) (w : World) (h : Ring w gs g room first xs) :
  Calls Tryz.prog 76 #[.pointer (some ⟨g, 0, none⟩)] w fun e w' => e = .returned (.int .i64 ((room : Int) - (xs.length : Int))) ∧ ∃ m, w' = w.drewN m := by
 have c0 := h.head.cell 0
 simp only [List.getElem?_toArray, List.getElem?_cons_zero] at c0
 have hl := h.len
 have h2 := h.r2
 have x0 : IntKind.i64.wrap ((room : Int) - (xs.length : Int)) = (room : Int) - (xs.length : Int) := IntWalk.i64_in _ (by omega)
 have H := Lib.hid h
 clear h
 go_enter Tryz.func76, Tryz.ntmps76
 go_wp2_with fail
 go_quiet ((go_at_call 99; exact Calls.quiet_of (len_any gs g room first xs _ (H.out.drewN _))))
 go_wp2
 go_ret
 exact ⟨rfl, _, rfl⟩


theorem tinfo : (Tryz.prog.info? 130).map (·.size) = some 2 := by kernel_rfl
abbrev box (w : World) (te : Int) (tA : Option Addr) (tn tc : Nat) : World := w.alloc (.cells #[.int .i64 te, .slice tA tn tc] 130)

set_option maxRecDepth 100000 in
set_option maxHeartbeats 1000000 in
theorem put_ok (gs g room first : Nat) (xs : List (Value × Value)) (te : Int) (tA : Option Addr) (tn tc : Nat) (w : World) (h : Ring w gs g room first xs) (hl : xs.length < room) (hs : first + xs.length < 1000000) :
  Calls Tryz.prog 78 #[.pointer (some ⟨g, 0, none⟩), .agg #[.int .i64 te, .slice tA tn tc]] w fun e w' => e = .returned (.tuple #[.int .i64 ((first : Int) + (xs.length : Int)), .int .i64 0]) ∧ Ring w' gs g room first (xs ++ [(.int .i64 te, .slice tA tn tc)]) ∧ Chg w w' (fun k => k = gs ∨ k = g) := by
 have hb1 : Below w.heap.size w (box w te tA tn tc) := (Below.refl _ w).alloc (Nat.le_refl _) _
 have h1 := h.new hb1
 have bb := Blk.new w 130 #[.int .i64 te, .slice tA tn tc]
 obtain ⟨W, hW⟩ : ∃ W, W = box w te tA tn tc := ⟨_, rfl⟩
 rw [← hW] at h1 hb1
 have fin : ∀ n m : Nat, ∃ W2, W2 = (((W.drewN n).setCell ⟨gs, (first + xs.length) % room * 2, none⟩ (.int .i64 te)).setCell ⟨gs, (first + xs.length) % room * 2 + 1, none⟩ (.slice tA tn tc)).setCell ⟨g, 2, none⟩ (.int .i64 ((first : Int) + (xs.length : Int) + 1)) ∧ Ring (W2.drewN m) gs g room first (xs ++ [(.int .i64 te, .slice tA tn tc)]) ∧ Chg w (W2.drewN m) (fun k => k = gs ∨ k = g) := by
  intro n m
  refine ⟨_, rfl, (h1.put hl hs (.int .i64 te) (.slice tA tn tc) n).drewN m, Chg.drewN ?_ m⟩
  exact ((((Chg.of_new hb1 _).drewN n).trans (Chg.set _ _ _ (.inl rfl))).trans (Chg.set _ _ _ (.inl rfl))).trans (Chg.set _ _ _ (.inr rfl))
 have FIN := Lib.hid fin
 have d0 : W.cell? ⟨w.heap.size, 0, none⟩ = some (.int .i64 te) := by rw [hW]; exact (bb.cell 0).trans rfl
 have d1 : W.cell? ⟨w.heap.size, 1, none⟩ = some (.slice tA tn tc) := by rw [hW]; exact (bb.cell 1).trans rfl
 have c0 := h1.head.cell 0
 have c2 := h1.head.cell 2
 simp only [List.getElem?_toArray, List.getElem?_cons_succ, List.getElem?_cons_zero] at c0 c2
 have hne : gs ≠ g := Nat.ne_of_lt h.lt
 obtain ⟨u, v, cu, cv⟩ := h1.place (first + xs.length)
 have ft := h1.thaw ((first + xs.length) % room * 2)
 have ft2 := h1.thaw ((first + xs.length) % room * 2 + 1)
 have fg := h1.head.frozen 2
 have hm : (first + xs.length) % room < room := Nat.mod_lt _ h.r1
 have r2 := h.r2
 have rm := fun W hW => room_any gs g room first xs W hW
 obtain ⟨q, hq, hq0⟩ : ∃ q : Int, q = (room : Int) - (xs.length : Int) ∧ ¬ q = 0 := ⟨_, rfl, by have := h.r1; omega⟩
 rw [← hq] at rm
 have RM := Lib.hid rm
 have pl := fun W hW => place_any gs g room first xs (first + xs.length) W hW
 rw [Int.natCast_add] at pl
 have PL := Lib.hid pl
 have H := Lib.hid h1
 generalize hp : (first + xs.length) % room = p at *
 have hpr : (p : Int) < (room : Int) := by omega
 have hp0 : (0 : Int) ≤ (p : Int) := by omega
 have HW := Lib.hid hW
 clear fin h hq rm hp pl h1 hb1 hW bb
 go_enter Tryz.func78, Tryz.ntmps78
 go_wp2_with fail
 rw [show w.alloc (.cells #[.int .i64 te, .slice tA tn tc] 130) = W from HW.out.symm]
 refine (RM.out _ H.out).mono ?_; rintro e w1 ⟨rfl, m1, rfl⟩
 go_wp2_with fail
 refine wp_region_still_tail 9 (by kernel_rfl) (by kernel_rfl) ?_
 change wpStill _ _ (W.drewN m1).drew (fun a' => wpList _ _ _ _ a' (W.drewN m1).drew) _ _
 simp only [List.take_succ_cons, List.take_zero, List.drop_succ_cons, List.drop_zero]
 repeat still_step
 still_call (PL.out _ ((H.out.drewN m1).drewN 1))
 repeat still_step
 refine wpStill_nil ?_
 go_wp2
 go_ret2
 obtain ⟨W, rfl, r1, r2⟩ := FIN.out m1 1
 exact ⟨rfl, r1, r2⟩

set_option maxRecDepth 100000 in
set_option maxHeartbeats 1000000 in
theorem at_ok (gs g room first : Nat) (xs : List (Value × Value)) (t : Nat) (te : Int) (tA : Option Addr) (tn tc : Nat) (w : World) (h : Ring w gs g room first xs) (h1 : first ≤ t) (hx : xs[t - first]? = some (.int .i64 te, .slice tA tn tc)) :
  Calls Tryz.prog 91 #[.pointer (some ⟨g, 0, none⟩), .int .i64 (t : Int)] w fun e w' => e = .returned (.tuple #[.agg #[.int .i64 te, .slice tA tn tc], .int .i64 0]) ∧ Below w.heap.size w w' := by
 obtain ⟨W1, hW1⟩ : ∃ W1, W1 = box w 0 none 0 0 := ⟨_, rfl⟩
 obtain ⟨W, hW⟩ : ∃ W, W = box W1 0 none 0 0 := ⟨_, rfl⟩
 have hz1 : W1.heap.size = w.heap.size + 1 := by rw [hW1]; simp
 have hb1 : Below w.heap.size w W1 := by rw [hW1]; exact (Below.refl _ w).alloc (Nat.le_refl _) _
 have hb : Below w.heap.size w W := by rw [hW]; exact hb1.alloc (by omega) _
 have bb : Blk W w.heap.size 130 #[.int .i64 0, .slice none 0 0] := by rw [hW, hW1]; exact (Blk.new w _ _).alloc _
 replace h := h.new hb
 obtain ⟨hlt, hxe⟩ := List.getElem?_eq_some_iff.1 hx
 obtain ⟨cc, cc2⟩ := h.cell hlt
 rw [hxe, show first + (t - first) = t by omega] at cc cc2
 replace cc : W.cell? ⟨gs, t % room * 2, none⟩ = some (.int .i64 te) := cc
 replace cc2 : W.cell? ⟨gs, t % room * 2 + 1, none⟩ = some (.slice tA tn tc) := cc2
 have c0 := h.head.cell 0
 have c1 := h.head.cell 1
 have c2 := h.head.cell 2
 simp only [List.getElem?_toArray, List.getElem?_cons_succ, List.getElem?_cons_zero] at c0 c1 c2
 have d0 := bb.cell 0
 have d1 := bb.cell 1
 simp only [List.getElem?_toArray, List.getElem?_cons_succ, List.getElem?_cons_zero] at d0 d1
 have f0 := bb.frozen 0
 have f1 := bb.frozen 1
 have g1 : ¬ (t : Int) < (first : Int) := by omega
 have g2 : ¬ (t : Int) ≥ (first : Int) + (xs.length : Int) := by omega
 have hm : t % room < room := Nat.mod_lt _ h.r1
 have r2 := h.r2
 have pl := fun W hW => place_any gs g room first xs t W hW
 have PL := Lib.hid pl
 have H := Lib.hid h
 have FIN := Lib.hid (show ∀ m, Below w.heap.size w (((W.drewN m).setCell ⟨w.heap.size, 0, none⟩ (.int .i64 te)).setCell ⟨w.heap.size, 1, none⟩ (.slice tA tn tc)) from fun m => ((below_drewN hb m).setCell (Nat.le_refl _) _).setCell (Nat.le_refl _) _)
 have R0 := Lib.hid (show ∀ m, Blk (((W.drewN m).setCell ⟨w.heap.size, 0, none⟩ (.int .i64 te)).setCell ⟨w.heap.size, 1, none⟩ (.slice tA tn tc)) w.heap.size 130 #[.int .i64 te, .slice tA tn tc] from fun m => ((bb.drewN m).put 0 _).put 1 _)
 generalize hp : t % room = p at *
 have hpr : (p : Int) < (room : Int) := by omega
 have hp0 : (0 : Int) ≤ (p : Int) := by omega
 generalize hn : (first : Int) + (xs.length : Int) = nx at *
 have HW := Lib.hid (And.intro hW hW1)
 clear h hp pl hx hxe hlt hn hW hW1 hb hb1 hz1 bb
 go_enter Tryz.func91, Tryz.ntmps91
 go_upto_region 4 with fail
 rw [show (w.alloc (.cells #[.int .i64 0, .slice none 0 0] 130)).alloc (.cells #[.int .i64 0, .slice none 0 0] 130) = W by rw [HW.out.1, HW.out.2]]
 go_upto_region 6 with fail
 refine wp_region_still_tail 9 (by kernel_rfl) (by kernel_rfl) ?_
 change wpStill _ _ (W).drew (fun a' => wpList _ _ _ _ a' (W).drew) _ _
 simp only [List.take_succ_cons, List.take_zero, List.drop_succ_cons, List.drop_zero]
 repeat still_step
 still_call (PL.out _ (H.out.drewN 1))
 repeat still_step
 refine wpStill_nil ?_
 go_wp2
 refine bodyPost_ret (v := .tuple #[.agg #[.int .i64 te, .slice tA tn tc], .int .i64 0]) ?_ rfl ?_
 ·exact results_cell_tmp Tryz.results91 _ _ w.heap.size 130 _ (0, 0) _ rfl (R0.out 1) Tryz.underlying130 rfl tinfo
 ·exact ⟨rfl, FIN.out 1⟩

set_option maxRecDepth 100000 in
set_option maxHeartbeats 1000000 in
theorem at_empty (gs g room first : Nat) (w : World) (h : Ring w gs g room first []) :
  Calls Tryz.prog 91 #[.pointer (some ⟨g, 0, none⟩), .int .i64 (first : Int)] w fun e w' => e = .returned (.tuple #[.agg #[.int .i64 0, .slice none 0 0], .int .i64 11]) ∧ Below w.heap.size w w' := by
 obtain ⟨W1, hW1⟩ : ∃ W1, W1 = box w 0 none 0 0 := ⟨_, rfl⟩
 obtain ⟨W, hW⟩ : ∃ W, W = box W1 0 none 0 0 := ⟨_, rfl⟩
 have hz1 : W1.heap.size = w.heap.size + 1 := by rw [hW1]; simp
 have hb1 : Below w.heap.size w W1 := by rw [hW1]; exact (Below.refl _ w).alloc (Nat.le_refl _) _
 have hb : Below w.heap.size w W := by rw [hW]; exact hb1.alloc (by omega) _
 have bb : Blk W w.heap.size 130 #[.int .i64 0, .slice none 0 0] := by rw [hW, hW1]; exact (Blk.new w _ _).alloc _
 have b2 : Blk W (w.heap.size + 1) 130 #[.int .i64 0, .slice none 0 0] := by rw [hW, ← hz1]; exact Blk.new W1 _ _
 replace h := h.new hb
 have c1 := h.head.cell 1
 have c2 := h.head.cell 2
 simp only [List.getElem?_toArray, List.getElem?_cons_succ, List.getElem?_cons_zero] at c1 c2
 have d0 := bb.cell 0
 have d1 := bb.cell 1
 have d2 := b2.cell 0
 have d3 := b2.cell 1
 simp only [List.getElem?_toArray, List.getElem?_cons_succ, List.getElem?_cons_zero] at d0 d1 d2 d3
 have f0 := bb.frozen 0
 have f1 := bb.frozen 1
 have FIN := Lib.hid (show Below w.heap.size w ((W.setCell ⟨w.heap.size, 0, none⟩ (.int .i64 0)).setCell ⟨w.heap.size, 1, none⟩ (.slice none 0 0)) from (hb.setCell (Nat.le_refl _) _).setCell (Nat.le_refl _) _)
 have R0 := Lib.hid (show Blk ((W.setCell ⟨w.heap.size, 0, none⟩ (.int .i64 0)).setCell ⟨w.heap.size, 1, none⟩ (.slice none 0 0)) w.heap.size 130 #[.int .i64 0, .slice none 0 0] from (bb.put 0 _).put 1 _)
 have g2 : (first : Int) ≥ (first : Int) + (([] : List (Value × Value)).length : Int) := by simp
 have g1 : ¬ (first : Int) < (first : Int) := by omega
 generalize hn : (first : Int) + (([] : List (Value × Value)).length : Int) = nx at *
 have HW := Lib.hid (And.intro hW hW1)
 clear h hn hW hW1 hb hb1 hz1 bb b2
 go_enter Tryz.func91, Tryz.ntmps91
 go_upto_region 4 with fail
 rw [show (w.alloc (.cells #[.int .i64 0, .slice none 0 0] 130)).alloc (.cells #[.int .i64 0, .slice none 0 0] 130) = W by rw [HW.out.1, HW.out.2]]
 go_wp2
 refine bodyPost_ret (v := .tuple #[.agg #[.int .i64 0, .slice none 0 0], .int .i64 11]) ?_ rfl ?_
 ·exact results_cell_tmp Tryz.results91 _ _ w.heap.size 130 _ (0, 0) _ rfl R0.out Tryz.underlying130 rfl tinfo
 ·exact ⟨rfl, FIN.out⟩

set_option maxRecDepth 100000 in
set_option maxHeartbeats 1000000 in
theorem take_empty (gs g room first : Nat) (w : World) (h : Ring w gs g room first []) :
  Calls Tryz.prog 49 #[.pointer (some ⟨g, 0, none⟩)] w fun e w' => e = .returned (.tuple #[.agg #[.int .i64 0, .slice none 0 0], .int .i64 11]) ∧ Below w.heap.size w w' := by
 obtain ⟨W1, hW1⟩ : ∃ W1, W1 = box w 0 none 0 0 := ⟨_, rfl⟩
 obtain ⟨W, hW⟩ : ∃ W, W = box W1 0 none 0 0 := ⟨_, rfl⟩
 have hz1 : W1.heap.size = w.heap.size + 1 := by rw [hW1]; simp
 have hz : W.heap.size = w.heap.size + 1 + 1 := by rw [hW]; simp [hz1]
 have hb1 : Below w.heap.size w W1 := by rw [hW1]; exact (Below.refl _ w).alloc (Nat.le_refl _) _
 have hb : Below w.heap.size w W := by rw [hW]; exact hb1.alloc (by omega) _
 have bb : Blk W w.heap.size 130 #[.int .i64 0, .slice none 0 0] := by rw [hW, hW1]; exact (Blk.new w _ _).alloc _
 have b2 : Blk W (w.heap.size + 1) 130 #[.int .i64 0, .slice none 0 0] := by rw [hW, ← hz1]; exact Blk.new W1 _ _
 replace h := h.new hb
 have c1 := h.head.cell 1
 simp only [List.getElem?_toArray, List.getElem?_cons_succ, List.getElem?_cons_zero] at c1
 have AT := Lib.hid (at_empty gs g room first W h)
 have BB := Lib.hid bb
 have B2 := Lib.hid b2
 have HB := Lib.hid hb
 have HZ := Lib.hid hz
 have HW := Lib.hid (And.intro hW hW1)
 clear h hW hW1 hb hb1 hz1 hz bb b2
 go_enter Tryz.func49, Tryz.ntmps49
 go_upto_region 2 with fail
 rw [show (w.alloc (.cells #[.int .i64 0, .slice none 0 0] 130)).alloc (.cells #[.int .i64 0, .slice none 0 0] 130) = W by rw [HW.out.1, HW.out.2]]
 go_wp2_with fail
 refine AT.out.mono ?_; rintro e w1 ⟨rfl, b1⟩
 obtain ⟨W3, hW3⟩ : ∃ W3, W3 = box w1 0 none 0 0 := ⟨_, rfl⟩
 have hbW : Below W.heap.size W W3 := by
  have hs := b1.size
  rw [hW3]
  exact b1.alloc hs _
 have bb3 := BB.out.older (older_below hbW)
 have b23 := B2.out.older (older_below hbW)
 have d0 := bb3.cell 0
 have d1 := bb3.cell 1
 have d2 := b23.cell 0
 have d3 := b23.cell 1
 simp only [List.getElem?_toArray, List.getElem?_cons_succ, List.getElem?_cons_zero] at d0 d1 d2 d3
 have f0 := bb3.frozen 0
 have f1 := bb3.frozen 1
 have hb3 : Below w.heap.size w W3 := HB.out.trans (hbW.mono HB.out.size)
 have FIN := Lib.hid (show Below w.heap.size w ((W3.setCell ⟨w.heap.size, 0, none⟩ (.int .i64 0)).setCell ⟨w.heap.size, 1, none⟩ (.slice none 0 0)) from (hb3.setCell (Nat.le_refl _) _).setCell (Nat.le_refl _) _)
 have R0 := Lib.hid (show Blk ((W3.setCell ⟨w.heap.size, 0, none⟩ (.int .i64 0)).setCell ⟨w.heap.size, 1, none⟩ (.slice none 0 0)) w.heap.size 130 #[.int .i64 0, .slice none 0 0] from (bb3.put 0 _).put 1 _)
 have HW3 := Lib.hid hW3
 clear hbW hb3 bb3 b23 b1 hW3
 go_upto_region 5 with fail
 rw [show w1.alloc (.cells #[.int .i64 0, .slice none 0 0] 130) = W3 from HW3.out.symm]
 go_wp2
 refine bodyPost_ret (v := .tuple #[.agg #[.int .i64 0, .slice none 0 0], .int .i64 11]) ?_ rfl ?_
 ·exact results_cell_tmp Tryz.results49 _ _ w.heap.size 130 _ (0, 0) _ rfl R0.out Tryz.underlying130 rfl tinfo
 ·exact ⟨rfl, FIN.out⟩

set_option maxRecDepth 100000 in
set_option maxHeartbeats 2000000 in
theorem take_ok (gs g room first : Nat) (xs : List (Value × Value)) (te : Int) (tA : Option Addr) (tn tc : Nat) (w : World) (h : Ring w gs g room first ((.int .i64 te, .slice tA tn tc) :: xs)) :
  Calls Tryz.prog 49 #[.pointer (some ⟨g, 0, none⟩)] w fun e w' => e = .returned (.tuple #[.agg #[.int .i64 te, .slice tA tn tc], .int .i64 0]) ∧ Ring w' gs g room (first + 1) xs ∧ Chg w w' (fun k => k = gs ∨ k = g) := by
 obtain ⟨W1, hW1⟩ : ∃ W1, W1 = box w 0 none 0 0 := ⟨_, rfl⟩
 obtain ⟨W, hW⟩ : ∃ W, W = box W1 0 none 0 0 := ⟨_, rfl⟩
 have hz1 : W1.heap.size = w.heap.size + 1 := by rw [hW1]; simp
 have hb1 : Below w.heap.size w W1 := by rw [hW1]; exact (Below.refl _ w).alloc (Nat.le_refl _) _
 have hb : Below w.heap.size w W := by rw [hW]; exact hb1.alloc (by omega) _
 have bb : Blk W w.heap.size 130 #[.int .i64 0, .slice none 0 0] := by rw [hW, hW1]; exact (Blk.new w _ _).alloc _
 have b2 : Blk W (w.heap.size + 1) 130 #[.int .i64 0, .slice none 0 0] := by rw [hW, ← hz1]; exact Blk.new W1 _ _
 have hgw : g < w.heap.size := h.head.lt
 have hgsw : gs < w.heap.size := by have := h.lt; omega
 replace h := h.new hb
 have c1 := h.head.cell 1
 simp only [List.getElem?_toArray, List.getElem?_cons_succ, List.getElem?_cons_zero] at c1
 have AT := Lib.hid (at_ok gs g room first _ first te tA tn tc W h (Nat.le_refl _) (by simp))
 have BB := Lib.hid bb
 have B2 := Lib.hid b2
 have HB := Lib.hid hb
 have H := Lib.hid h
 have HG := Lib.hid (And.intro hgw hgsw)
 have HW := Lib.hid (And.intro hW hW1)
 clear h hW hW1 hb hb1 hz1 bb b2 hgw hgsw
 go_enter Tryz.func49, Tryz.ntmps49
 go_upto_region 2 with fail
 rw [show (w.alloc (.cells #[.int .i64 0, .slice none 0 0] 130)).alloc (.cells #[.int .i64 0, .slice none 0 0] 130) = W by rw [HW.out.1, HW.out.2]]
 go_wp2_with fail
 refine AT.out.mono ?_; rintro e w1 ⟨rfl, b1⟩
 have hs1 := b1.size
 have hszW : w.heap.size + 1 < w1.heap.size := by have := B2.out.lt; omega
 obtain ⟨W3, hW3⟩ : ∃ W3, W3 = box w1 te tA tn tc := ⟨_, rfl⟩
 have hbW : Below W.heap.size W W3 := by
  rw [hW3]
  exact b1.alloc hs1 _
 have b53 : Blk W3 w1.heap.size 130 #[.int .i64 te, .slice tA tn tc] := by
  rw [hW3]; exact Blk.new w1 _ _
 have bb3 := BB.out.older (older_below hbW)
 have b23 := B2.out.older (older_below hbW)
 have h3 := H.out.new hbW
 have hb3 : Below w.heap.size w W3 := HB.out.trans (hbW.mono HB.out.size)
 have d2 := b23.cell 0
 have d3 := b23.cell 1
 have c0 := h3.head.cell 0
 have c1 := h3.head.cell 1
 simp only [List.getElem?_toArray, List.getElem?_cons_succ, List.getElem?_cons_zero] at d2 d3 c0 c1
 obtain ⟨u, v, cu, cv⟩ := h3.place first
 have ft := h3.thaw (first % room * 2)
 have ft2 := h3.thaw (first % room * 2 + 1)
 have fg := h3.head.frozen 1
 have hne : gs ≠ g := Nat.ne_of_lt h3.lt
 have hm : first % room < room := Nat.mod_lt _ h3.r1
 have r2 := h3.r2
 have sm := h3.small
 have HG' := HG.out
 have fin : ∃ W4, W4 = (((W3.drewN 1).setCell ⟨gs, first % room * 2, none⟩ (.int .i64 0)).setCell ⟨gs, first % room * 2 + 1, none⟩ (.slice none 0 0)).setCell ⟨g, 1, none⟩ (.int .i64 ((first : Int) + 1)) ∧ Blk W4 w1.heap.size 130 #[.int .i64 te, .slice tA tn tc] ∧ Blk W4 w.heap.size 130 #[.int .i64 0, .slice none 0 0] ∧ Ring W4 gs g room (first + 1) xs ∧ Chg w W4 (fun k => k = gs ∨ k = g) := by
  refine ⟨_, rfl, ?_, ?_, h3.take (.int .i64 0) (.slice none 0 0) 1, ?_⟩
  ·exact (((b53.drewN 1).far (p := ⟨gs, _, none⟩) (by show w1.heap.size ≠ gs; omega) _).far (p := ⟨gs, _, none⟩) (by show w1.heap.size ≠ gs; omega) _).far (p := ⟨g, _, none⟩) (by show w1.heap.size ≠ g; omega) _
  ·exact (((bb3.drewN 1).far (p := ⟨gs, _, none⟩) (by show w.heap.size ≠ gs; omega) _).far (p := ⟨gs, _, none⟩) (by show w.heap.size ≠ gs; omega) _).far (p := ⟨g, _, none⟩) (by show w.heap.size ≠ g; omega) _
  ·exact ((((Chg.of_new hb3 _).drewN 1).trans (Chg.set _ _ _ (.inl rfl))).trans (Chg.set _ _ _ (.inl rfl))).trans (Chg.set _ _ _ (.inr rfl))
 obtain ⟨W4, hW4, q5, q0, q3, q4⟩ := fin
 have e0 := q5.cell 0
 have e1 := q5.cell 1
 have e2 := q0.cell 0
 have e3 := q0.cell 1
 simp only [List.getElem?_toArray, List.getElem?_cons_succ, List.getElem?_cons_zero] at e0 e1 e2 e3
 have k0 := q0.frozen 0
 have k1 := q0.frozen 1
 have hgz : ¬ (w.heap.size = gs ∨ w.heap.size = g) := by omega
 have FIN := Lib.hid (show Chg w ((W4.setCell ⟨w.heap.size, 0, none⟩ (.int .i64 te)).setCell ⟨w.heap.size, 1, none⟩ (.slice tA tn tc)) (fun k => k = gs ∨ k = g) ∧ Ring ((W4.setCell ⟨w.heap.size, 0, none⟩ (.int .i64 te)).setCell ⟨w.heap.size, 1, none⟩ (.slice tA tn tc)) gs g room (first + 1) xs from by
  have kk : Chg W4 ((W4.setCell ⟨w.heap.size, 0, none⟩ (.int .i64 te)).setCell ⟨w.heap.size, 1, none⟩ (.slice tA tn tc)) (fun k => k = w.heap.size) := Chg.trans (w' := W4.setCell ⟨w.heap.size, 0, none⟩ (.int .i64 te)) (Chg.set W4 0 _ rfl) (Chg.set _ 1 _ rfl)
  refine ⟨⟨kk.os.trans q4.os, kk.tape.trans q4.tape, kk.output.trans q4.output, Nat.le_trans q4.size kk.size, fun i hi hn => (kk.block i (Nat.lt_of_lt_of_le hi q4.size) (fun e => by have e' : i = w.heap.size := e; omega)).trans (q4.block i hi hn)⟩, q3.chg kk (by show ¬ gs = w.heap.size; omega) (by show ¬ g = w.heap.size; omega)⟩)
 have R0 := Lib.hid (show Blk ((W4.setCell ⟨w.heap.size, 0, none⟩ (.int .i64 te)).setCell ⟨w.heap.size, 1, none⟩ (.slice tA tn tc)) w.heap.size 130 #[.int .i64 te, .slice tA tn tc] from (q0.put 0 _).put 1 _)
 have PL := Lib.hid (fun W hW => place_any gs g room first ((.int .i64 te, .slice tA tn tc) :: xs) first W hW)
 have H3 := Lib.hid h3
 generalize hp : first % room = p at *
 have hpr : (p : Int) < (room : Int) := by omega
 have hp0 : (0 : Int) ≤ (p : Int) := by omega
 have HW3 := Lib.hid hW3
 have HW4 := Lib.hid hW4
 clear hbW hb3 bb3 b23 b53 b1 hW3 h3 hs1 hszW HG' hW4 q5 q0 q3 q4 hgz
 go_upto_region 5 with fail
 rw [show w1.alloc (.cells #[.int .i64 te, .slice tA tn tc] 130) = W3 from HW3.out.symm]
 go_upto_region 7 with fail
 refine wp_region_still_tail 12 (by kernel_rfl) (by kernel_rfl) ?_
 change wpStill _ _ (W3).drew (fun a' => wpList _ _ _ _ a' (W3).drew) _ _
 simp only [List.take_succ_cons, List.take_zero, List.drop_succ_cons, List.drop_zero]
 repeat still_step
 still_call (PL.out _ (H3.out.drewN 1))
 repeat still_step
 refine wpStill_nil ?_
 go_upto_region 9 with fail
 rw [show (((W3.setCell ⟨gs, p * 2, none⟩ (.int .i64 0)).setCell ⟨gs, p * 2 + 1, none⟩ (.slice none 0 0)).setCell ⟨g, 1, none⟩ (.int .i64 ((first : Int) + 1))).drew = W4 from HW4.out.symm]
 go_wp2
 refine bodyPost_ret (v := .tuple #[.agg #[.int .i64 te, .slice tA tn tc], .int .i64 0]) ?_ rfl ?_
 ·exact results_cell_tmp Tryz.results49 _ _ w.heap.size 130 _ (0, 0) _ rfl R0.out Tryz.underlying130 rfl tinfo
 ·exact ⟨rfl, FIN.out.2, FIN.out.1⟩

end Go.Proofs.YtbkjjakkihbcdaaGreat.RgT

/- A kernel in plain words, what each call does to it, and how it lies in memory. Conditions: those that each states. -/
namespace Go.Proofs.YtbkjjakkihbcdaaGreat.Ke
open Go.ChangeShapes Go.WideShapes Go.ChangeAt Go.RowKit Go.Deep Fr Di
set_option linter.unusedVariables false

structure Fil where
 id : Nat
 env : Nat
 p : List Ins
structure Tr where
 env : Nat
 l : List Pc
structure Kn where
 ps : List Pg
 dk : Dk
 fs : List Fil
 next : Nat
 i1 : List (List UInt8)
 f1 : Nat
 i2 : List (List UInt8)
 f2 : Nat
 out : List Tr
 f3 : Nat
 done : Nat
structure KQ where
 op : Int
 env : Int
 a : Int
 b : Int
 c : Int
 s : List UInt8
 p : List Ins
 l : List Pc

def lastB (p : List Ins) : Bool := match p[p.length - 1]? with | some q => q.code == 7 || q.code == 8 | none => true
def chkB (p : List Ins) : Bool := decide (1 ≤ p.length) && decide (p.length ≤ 64) && ((List.range p.length).all fun i => match p[i]? with | some q => mayB q ((p.length : Int) - 1 - i) | none => true) && lastB p
theorem lastB_iff (p : List Ins) : lastB p = true ↔ ∀ (h : p.length - 1 < p.length), p[p.length - 1].code = 7 ∨ p[p.length - 1].code = 8 := by
 unfold lastB
 by_cases h : p.length - 1 < p.length
 ·rw [List.getElem?_eq_getElem h]
  simp [h]
 ·rw [List.getElem?_eq_none (by omega)]
  simp [h]
theorem chkB_iff (p : List Ins) : chkB p = true ↔ Chk p := by
 unfold chkB
 simp only [Bool.and_eq_true, decide_eq_true_eq, List.all_eq_true, List.mem_range, lastB_iff]
 constructor
 ·rintro ⟨⟨⟨h1, h2⟩, h3⟩, h4⟩
  refine ⟨h1, h2, fun i hi => ?_, h4⟩
  have := h3 i hi
  rw [List.getElem?_eq_getElem hi] at this
  exact this
 ·rintro ⟨h1, h2, h3, h4⟩
  refine ⟨⟨⟨h1, h2⟩, fun i hi => ?_⟩, h4⟩
  rw [List.getElem?_eq_getElem hi]
  exact h3 i hi

def isFil (id env : Int) (f : Fil) : Bool := decide ((f.id : Int) = id) && decide ((f.env : Int) = env)
def bindR (K : Kn) (env : Int) (p : List Ins) : Kn × Int × Int :=
 if 8 ≤ K.fs.length then (K, 0, 10) else if chkB p = true then ({ K with fs := K.fs ++ [⟨K.next, env.toNat, p⟩], next := K.next + 1 }, (K.next : Int), 0) else (K, 0, 40)
def unbindR (K : Kn) (env id : Int) : Kn × Int :=
 match K.fs.findIdx? (isFil id env) with | some i => ({ K with fs := K.fs.eraseIdx i }, 0) | none => (K, 11)
def submitR (K : Kn) (env : Int) (l : List Pc) : Kn × Int × Int :=
 if 16 ≤ K.out.length then (K, 0, 10) else
 if (holdG K.ps env l).2 = 0 then ({ K with ps := (holdG K.ps env l).1, out := K.out ++ [⟨env.toNat, l⟩] }, (K.f3 : Int) + (K.out.length : Int), 0) else (K, 0, (holdG K.ps env l).2)
def takeR (K : Kn) (env : Int) : Kn × List UInt8 × Int :=
 if env = 1 then (match K.i1 with | s :: r => ({ K with i1 := r, f1 := K.f1 + 1 }, s, 0) | [] => (K, [], 11))
 else (match K.i2 with | s :: r => ({ K with i2 := r, f2 := K.f2 + 1 }, s, 0) | [] => (K, [], 11))
def callR (K : Kn) (q : KQ) : Kn × Int × List UInt8 × Int :=
 if ¬ (q.env = 1 ∨ q.env = 2) then (K, 0, [], 1)
 else if q.op = 1 then ({ K with ps := (Fr.allocR K.ps q.env).1 }, (Fr.allocR K.ps q.env).2.1, [], (Fr.allocR K.ps q.env).2.2)
 else if q.op = 2 then ({ K with ps := (Fr.freeR K.ps q.env q.a).1 }, 0, [], (Fr.freeR K.ps q.env q.a).2)
 else if q.op = 3 then ({ K with ps := (Fr.giveR K.ps q.env q.a q.b).1 }, 0, [], (Fr.giveR K.ps q.env q.a q.b).2)
 else if q.op = 4 then (K, 0, (Fr.readR K.ps q.env q.a q.b q.c).1, (Fr.readR K.ps q.env q.a q.b q.c).2)
 else if q.op = 5 then ({ K with ps := (Fr.writeR K.ps q.env q.a q.b q.s).1 }, 0, [], (Fr.writeR K.ps q.env q.a q.b q.s).2)
 else if q.op = 6 then (K, 0, (readR K.dk q.env q.a).1, (readR K.dk q.env q.a).2)
 else if q.op = 7 then ({ K with dk := (writeR K.dk q.env q.a q.s).1 }, 0, [], (writeR K.dk q.env q.a q.s).2)
 else if q.op = 8 then ({ K with dk := (syncR K.dk).1 }, 0, [], (syncR K.dk).2)
 else if q.op = 9 then ((bindR K q.env q.p).1, (bindR K q.env q.p).2.1, [], (bindR K q.env q.p).2.2)
 else if q.op = 10 then ((unbindR K q.env q.a).1, 0, [], (unbindR K q.env q.a).2)
 else if q.op = 11 then ((submitR K q.env q.l).1, (submitR K q.env q.l).2.1, [], (submitR K q.env q.l).2.2)
 else if q.op = 12 then ((takeR K q.env).1, 0, (takeR K q.env).2.1, (takeR K q.env).2.2)
 else if q.op = 13 then (K, (K.done : Int), [], 0)
 else (K, 0, [], 1)
def wants (s : List UInt8) (f : Fil) : Bool := decide (runP f.p s ≠ 0)
def arriveR (K : Kn) (s : List UInt8) : Kn × Int × Int :=
 if 1024 < s.length then (K, 0, 2) else
 match K.fs.find? (wants s) with
 | none => (K, 0, 11)
 | some f => if f.env = 1 then (if 16 ≤ K.i1.length then (K, 0, 10) else ({ K with i1 := K.i1 ++ [s] }, 1, 0))
  else (if 16 ≤ K.i2.length then (K, 0, 10) else ({ K with i2 := K.i2 ++ [s] }, 2, 0))
def departR (K : Kn) : Kn × List UInt8 × Int × Int :=
 match K.out with
 | [] => (K, [], 0, 11)
 | t :: r => ({ K with ps := (dropG K.ps t.l).1, out := r, f3 := K.f3 + 1, done := K.done + 1 }, gatherB (txt K.ps) t.l, (t.env : Int), 0)

def heldN (o : List Tr) (f : Int) : Nat := (o.map fun t => cnt t.l f).sum
structure Tr.Ok (ps : List Pg) (t : Tr) : Prop where
 ne : t.l ≠ []
 n : t.l.length ≤ 16
 ok : ∀ p ∈ t.l, p.Ok
 fits : ∀ p ∈ t.l, p.Fits ps.length
 own : ∀ p ∈ t.l, (pg ps p.frame).owner = t.env
 e1 : 1 ≤ t.env
 e2 : t.env ≤ 2
structure Fil.Ok (f : Fil) : Prop where
 chk : Chk f.p
 ok : ∀ q ∈ f.p, q.Ok
 e1 : 1 ≤ f.env
 e2 : f.env ≤ 2
structure Kn.Ok (K : Kn) : Prop where
 f8 : K.fs.length ≤ 8
 fs : ∀ f ∈ K.fs, f.Ok
 n1 : K.i1.length ≤ 16
 n2 : K.i2.length ≤ 16
 no : K.out.length ≤ 16
 s1 : ∀ s ∈ K.i1, s.length ≤ 1024
 s2 : ∀ s ∈ K.i2, s.length ≤ 1024
 out : ∀ t ∈ K.out, t.Ok K.ps
 holds : ∀ k (h : k < K.ps.length), K.ps[k].holds = heldN K.out (k : Int)
 on : K.dk.on = true
 arm : K.dk.armed = -1
 pok : ∀ p ∈ K.ps, p.Ok
 dok : K.dk.Ok
 f3 : K.f3 = K.done
structure Kn.Small (K : Kn) (n : Nat) : Prop where
 next : K.next ≤ n
 a1 : K.f1 + K.i1.length ≤ n
 a2 : K.f2 + K.i2.length ≤ n
 out : K.f3 + K.out.length ≤ n
 done : K.done ≤ n
 line : K.dk.line.length ≤ n
theorem cnt_le_len (l : List Pc) (f : Int) : cnt l f ≤ l.length := cnt_len l f
theorem heldN_le {ps : List Pg} {o : List Tr} (h : ∀ t ∈ o, t.Ok ps) (f : Int) : heldN o f ≤ o.length * 16 := by
 induction o with
 | nil => simp [heldN]
 | cons t o ih =>
  have h1 := ih (fun t ht => h t (by simp [ht]))
  have h2 := cnt_le_len t.l f
  have h3 := (h t (by simp)).n
  unfold heldN at *
  rw [List.map_cons, List.sum_cons, List.length_cons]
  omega
theorem Kn.Ok.hm {K : Kn} (h : K.Ok) : ∀ p ∈ K.ps, p.holds + 16 < 1000000 := by
 intro p hp
 obtain ⟨k, hk, rfl⟩ := List.mem_iff_getElem.1 hp
 have h1 := h.holds k hk
 have h2 := heldN_le h.out (k : Int)
 have h3 := h.no
 omega

/-! In memory. -/
def Off (F : Nat → Prop) (A : Option Addr) (n : Nat) : Prop := 0 < n → ∀ b o, A = some ⟨b, o, none⟩ → ¬ F b
section
variable {w w' : World} {F F' : Nat → Prop} {A : Option Addr} {n c : Nat}
theorem Fresh.off (h : Fresh w A n) (hF : ∀ k, F k → k < w.heap.size) : Off F A n := fun h0 b o e hf => by
 have := h h0 b o e
 have := hF b hf
 omega
theorem Src.lt_ {s : List UInt8} (h : Src w A n c s) (hn : 0 < n) : ∃ b o, A = some ⟨b, o, none⟩ ∧ b < w.heap.size := by
 have hl := h.len
 obtain ⟨b, o, e, hb, _⟩ := h.lies (by rw [bys_length]; omega)
 exact ⟨b, o, e, hb⟩
theorem Src.step {s : List UInt8} (h : Src w A n c s) (k : Step w w' F F') (ho : Off F A n) : Src w' A n c s := by
 refine ⟨⟨fun hp => ?_, h.len, h.cap, h.max⟩, h.none_⟩
 obtain ⟨b, o, e, hb, hc⟩ := h.lies hp
 have hn : 0 < n := by rw [bys_length, h.len] at hp; exact hp
 refine ⟨b, o, e, Nat.lt_of_lt_of_le hb k.1.size, fun j hj => ?_⟩
 rw [World.cell?_of_block (w := w) (w' := w') (a := ⟨b, o + j, none⟩) (k.1.block b hb (ho hn b o e))]
 exact hc j hj
theorem Off.step {b0 o0 : Nat} (ho : Off F A n) (k : Step w w' F F') (hl : 0 < n → ∃ b o, A = some ⟨b, o, none⟩ ∧ b < w.heap.size) : Off F' A n := fun h0 b o e hf => by
 obtain ⟨b', o', e', hb⟩ := hl h0
 rw [e] at e'
 cases e'
 rcases k.2 b hf with h1 | h1
 ·exact ho h0 b o e h1
 ·omega
theorem Prg.step {p : List Ins} (h : Prg w A p) (k : Step w w' F F') (ho : Off F A p.length) : Prg w' A p := by
 intro i hi
 obtain ⟨b, o, e, hb, h1⟩ := h i hi
 refine ⟨b, o, e, Nat.lt_of_lt_of_le hb k.1.size, fun j v hj => ?_⟩
 rw [World.cell?_of_block (w := w) (w' := w') (a := ⟨b, o + i * 4 + j, none⟩) (k.1.block b hb (ho (by omega) b o e))]
 exact h1 j v hj
theorem Pcs.step {p : List Pc} (h : Pcs w A p) (k : Step w w' F F') (ho : Off F A p.length) : Pcs w' A p := by
 intro i hi
 obtain ⟨b, o, e, hb, h1⟩ := h i hi
 refine ⟨b, o, e, Nat.lt_of_lt_of_le hb k.1.size, fun j v hj => ?_⟩
 rw [World.cell?_of_block (w := w) (w' := w') (a := ⟨b, o + i * 3 + j, none⟩) (k.1.block b hb (ho (by omega) b o e))]
 exact h1 j v hj
theorem Prg.lt_ {p : List Ins} (h : Prg w A p) : 0 < p.length → ∃ b o, A = some ⟨b, o, none⟩ ∧ b < w.heap.size := fun h0 => by
 obtain ⟨b, o, e, hb, _⟩ := h 0 h0
 exact ⟨b, o, e, hb⟩
theorem Pcs.lt_ {p : List Pc} (h : Pcs w A p) : 0 < p.length → ∃ b o, A = some ⟨b, o, none⟩ ∧ b < w.heap.size := fun h0 => by
 obtain ⟨b, o, e, hb, _⟩ := h 0 h0
 exact ⟨b, o, e, hb⟩
end
def PkAt (w : World) (F : Nat → Prop) (v : Value) (s : List UInt8) : Prop := ∃ A c, v = .slice A s.length c ∧ Src w A s.length c s ∧ Off F A s.length
def FilAt (w : World) (F : Nat → Prop) (q : FM) (f : Fil) : Prop := q.id = (f.id : Int) ∧ q.env = (f.env : Int) ∧ q.n = f.p.length ∧ Prg w q.A f.p ∧ Off F q.A f.p.length
def TrAt (w : World) (F : Nat → Prop) (u : Value × Value) (t : Tr) : Prop := ∃ A c, u = (.int .i64 (t.env : Int), .slice A t.l.length c) ∧ Pcs w A t.l ∧ Off F A t.l.length ∧ t.l.length ≤ c
def Pair {α β : Type} (R : α → β → Prop) (l : List α) (r : List β) : Prop := l.length = r.length ∧ ∀ i (h : i < l.length) (h' : i < r.length), R l[i] r[i]
section
variable {α β : Type} {R R' : α → β → Prop} {l : List α} {r : List β}
theorem Pair.nil : Pair R [] [] := ⟨rfl, fun i h => absurd h (by simp)⟩
theorem Pair.weak (h : Pair R l r) (k : ∀ x y, y ∈ r → R x y → R' x y) : Pair R' l r := ⟨h.1, fun i h1 h2 => k _ _ (List.getElem_mem h2) (h.2 i h1 h2)⟩
theorem Pair.snoc (h : Pair R l r) {x : α} {y : β} (hx : R x y) : Pair R (l ++ [x]) (r ++ [y]) := by
 refine ⟨by simp [h.1], fun i h1 h2 => ?_⟩
 by_cases e : i < l.length
 ·rw [List.getElem_append_left e, List.getElem_append_left (by have := h.1; omega)]
  exact h.2 i e _
 ·have h3 : i = l.length := by simp at h1; omega
  subst h3
  have e2 : (r ++ [y])[l.length]'h2 = y := by
   rw [List.getElem_append_right (by have := h.1; omega)]; simp [h.1]
  rw [e2]
  simpa using hx
theorem Pair.cons_inv {y : β} (h : Pair R l (y :: r)) : ∃ x l', l = x :: l' ∧ R x y ∧ Pair R l' r := by
 cases l with
 | nil => have := h.1; simp at this
 | cons x l' => exact ⟨x, l', rfl, h.2 0 (by simp) (by simp), by have := h.1; simpa using this, fun i h1 h2 => h.2 (i + 1) (by simp; omega) (by simp; omega)⟩
theorem Pair.nil_inv (h : Pair R l ([] : List β)) : l = [] := List.length_eq_zero_iff.1 h.1
theorem Pair.erase (h : Pair R l r) (i : Nat) : Pair R (l.eraseIdx i) (r.eraseIdx i) := by
 refine ⟨by rw [List.length_eraseIdx, List.length_eraseIdx, h.1], fun j h1 h2 => ?_⟩
 rw [List.getElem_eraseIdx, List.getElem_eraseIdx]
 split
 ·exact h.2 _ _ _
 ·exact h.2 _ _ _
theorem Pair.findIdx {p : α → Bool} {q : β → Bool} (h : Pair R l r) (hpq : ∀ x y, R x y → p x = q y) : l.findIdx? p = r.findIdx? q := by
 induction l generalizing r with
 | nil =>
  have : r = [] := List.length_eq_zero_iff.1 h.1.symm
  rw [this]; rfl
 | cons x l ih =>
  cases r with
  | nil => have := h.1; simp at this
  | cons y r =>
   have hxy : p x = q y := hpq _ _ (h.2 0 (by simp) (by simp))
   have hi := ih (r := r) ⟨by have := h.1; simpa using this, fun i h1 h2 => h.2 (i + 1) (by simp; omega) (by simp; omega)⟩
   rw [List.findIdx?_cons, List.findIdx?_cons, hxy, hi]
end
theorem PkAt.step {w w' : World} {F F' : Nat → Prop} {v : Value} {s : List UInt8} (h : PkAt w F v s) (k : Step w w' F F') : PkAt w' F' v s := by
 obtain ⟨A, c, e, h1, h2⟩ := h
 exact ⟨A, c, e, Src.step h1 k h2, Off.step (b0 := 0) (o0 := 0) h2 k fun h0 => Src.lt_ h1 h0⟩
theorem FilAt.step {w w' : World} {F F' : Nat → Prop} {q : FM} {f : Fil} (h : FilAt w F q f) (k : Step w w' F F') : FilAt w' F' q f := by
 obtain ⟨e1, e2, e3, h1, h2⟩ := h
 exact ⟨e1, e2, e3, Prg.step h1 k h2, Off.step (b0 := 0) (o0 := 0) h2 k (Prg.lt_ h1)⟩
theorem TrAt.step {w w' : World} {F F' : Nat → Prop} {u : Value × Value} {t : Tr} (h : TrAt w F u t) (k : Step w w' F F') : TrAt w' F' u t := by
 obtain ⟨A, c, e, h1, h2, h3⟩ := h
 exact ⟨A, c, e, Pcs.step h1 k h2, Off.step (b0 := 0) (o0 := 0) h2 k (Pcs.lt_ h1), h3⟩

structure Ad where
 gs : Nat
 gt : Nat
 gd : Nat
 A : Option Addr
 c : Nat
 fm : List FM
 a1 : Nat
 b1 : Nat
 x1 : List Value
 a2 : Nat
 b2 : Nat
 x2 : List Value
 a3 : Nat
 b3 : Nat
 x3 : List (Value × Value)
def on (lab : Nat → Nat) : Nat → Prop := fun k => lab k ≠ 0
structure KAt (w : World) (lab : Nat → Nat) (g : Nat) (K : Kn) (a : Ad) : Prop where
 head : Blk w g 88 #[.pointer (some ⟨a.gt, 0, none⟩), .pointer (some ⟨a.gd, 0, none⟩), .slice a.A K.fs.length a.c, .int .i64 (K.next : Int), .pointer (some ⟨a.b1, 0, none⟩), .pointer (some ⟨a.b2, 0, none⟩), .pointer (some ⟨a.b3, 0, none⟩), .int .i64 (K.done : Int)]
 tab : Fr.Tab w a.gs a.gt K.ps
 dk : DA w (fun k => lab k = 3) a.gd K.dk
 row : FRow w a.A a.c a.fm
 fil : Pair (FilAt w (on lab)) a.fm K.fs
 r1 : RgP.Ring w a.a1 a.b1 16 K.f1 a.x1
 p1 : Pair (PkAt w (on lab)) a.x1 K.i1
 r2 : RgP.Ring w a.a2 a.b2 16 K.f2 a.x2
 p2 : Pair (PkAt w (on lab)) a.x2 K.i2
 r3 : RgT.Ring w a.a3 a.b3 16 K.f3 a.x3
 p3 : Pair (TrAt w (on lab)) a.x3 K.out
 lg : lab g = 1
 lt1 : lab a.gs = 2
 lt2 : lab a.gt = 2
 lr : ∀ b, inB a.A b → lab b = 4
 l11 : lab a.a1 = 5
 l12 : lab a.b1 = 5
 l21 : lab a.a2 = 6
 l22 : lab a.b2 = 6
 l31 : lab a.a3 = 7
 l32 : lab a.b3 = 7
 all : ∀ k, lab k ≠ 0 → k < w.heap.size
def KA (w : World) (lab : Nat → Nat) (g : Nat) (K : Kn) : Prop := ∃ a, KAt w lab g K a
theorem Step.of_chg {w w' : World} {F S : Nat → Prop} (h : Chg w w' S) (hs : ∀ k, S k → F k) : Step w w' F F := ⟨h.weak hs, fun k hk => .inl hk⟩
theorem Step.news {w w' : World} {F : Nat → Prop} (h : Below w.heap.size w w') : Step w w' F F := ⟨Chg.of_new h _, fun k hk => .inl hk⟩
structure LStep (w w' : World) (lab lab' : Nat → Nat) : Prop where
 chg : Chg w w' (fun k => lab k ≠ 0 ∧ lab k ≤ 7)
 old : ∀ k, lab' k ≠ 0 → lab k ≠ 0 ∨ w.heap.size ≤ k
 keep : ∀ k, 8 ≤ lab k → lab' k = lab k
theorem LStep.step {w w' : World} {lab lab' : Nat → Nat} (h : LStep w w' lab lab') : Step w w' (on lab) (on lab') := ⟨h.chg.weak fun i hi => hi.1, h.old⟩
theorem LStep.of {w w' : World} {lab : Nat → Nat} {m : Nat} (k : Chg w w' (fun i => lab i = m)) (h0 : m ≠ 0) (h7 : m ≤ 7) : LStep w w' lab lab :=
 ⟨k.weak fun i hi => by rw [hi]; exact ⟨h0, h7⟩, fun k hk => .inl hk, fun k _ => rfl⟩
theorem LStep.news {w w' : World} (lab : Nat → Nat) (h : Below w.heap.size w w') : LStep w w' lab lab := ⟨Chg.of_new h _, fun k hk => .inl hk, fun k _ => rfl⟩
theorem LStep.drawn {w : World} (lab : Nat → Nat) (n : Nat) : LStep w (w.drewN n) lab lab := ⟨⟨rfl, rfl, rfl, Nat.le_refl _, fun _ _ _ => rfl⟩, fun _ h => .inl h, fun k _ => rfl⟩
theorem LStep.trans {w w' w2 : World} {lab lab' lab2 : Nat → Nat} (h : LStep w w' lab lab') (k : LStep w' w2 lab' lab2) : LStep w w2 lab lab2 := by
 refine ⟨⟨k.chg.os.trans h.chg.os, k.chg.tape.trans h.chg.tape, k.chg.output.trans h.chg.output, Nat.le_trans h.chg.size k.chg.size, fun i hi hn => ?_⟩, fun i hi => ?_, fun i hi => (k.keep i (by rw [h.keep i hi]; exact hi)).trans (h.keep i hi)⟩
 ·refine (k.chg.block i (Nat.lt_of_lt_of_le hi h.chg.size) fun hf => ?_).trans (h.chg.block i hi hn)
  rcases h.old i hf.1 with h1 | h1
  ·by_cases h8 : 8 ≤ lab i
   ·have := h.keep i h8
    omega
   ·exact hn ⟨h1, by omega⟩
  ·omega
 ·rcases k.old i hi with h1 | h1
  ·exact h.old i h1
  ·exact .inr (Nat.le_trans h.chg.size h1)
section
variable {w w' : World} {lab : Nat → Nat} {g m : Nat} {K : Kn} {a : Ad} {S : Nat → Prop}
theorem KAt.new (h : KAt w lab g K a) (k : Below w.heap.size w w') : KAt w' lab g K a := by
 have hs : Step w w' (on lab) (on lab) := Step.news k
 exact ⟨h.head.older (older_below k), h.tab.new k, h.dk.new k, RowW.new h.row k, h.fil.weak (fun _ _ _ h => h.step hs), h.r1.new k, h.p1.weak (fun _ _ _ h => h.step hs), h.r2.new k, h.p2.weak (fun _ _ _ h => h.step hs), h.r3.new k, h.p3.weak (fun _ _ _ h => h.step hs),
  h.lg, h.lt1, h.lt2, h.lr, h.l11, h.l12, h.l21, h.l22, h.l31, h.l32, fun i hi => Nat.lt_of_lt_of_le (h.all i hi) k.size⟩
theorem KAt.drewN (h : KAt w lab g K a) (n : Nat) : KAt (w.drewN n) lab g K a := h.new ⟨rfl, rfl, rfl, Nat.le_refl _, fun _ _ => rfl⟩
theorem KAt.keep (h : KAt w lab g K a) (k : Chg w w' (fun i => lab i = m)) (hm : m ≠ 0) :
  (m ≠ 1 → Blk w' g 88 #[.pointer (some ⟨a.gt, 0, none⟩), .pointer (some ⟨a.gd, 0, none⟩), .slice a.A K.fs.length a.c, .int .i64 (K.next : Int), .pointer (some ⟨a.b1, 0, none⟩), .pointer (some ⟨a.b2, 0, none⟩), .pointer (some ⟨a.b3, 0, none⟩), .int .i64 (K.done : Int)]) ∧
  (m ≠ 2 → Fr.Tab w' a.gs a.gt K.ps) ∧ (m ≠ 3 → DA w' (fun k => lab k = 3) a.gd K.dk) ∧ (m ≠ 4 → FRow w' a.A a.c a.fm) ∧
  (m ≠ 5 → RgP.Ring w' a.a1 a.b1 16 K.f1 a.x1) ∧ (m ≠ 6 → RgP.Ring w' a.a2 a.b2 16 K.f2 a.x2) ∧ (m ≠ 7 → RgT.Ring w' a.a3 a.b3 16 K.f3 a.x3) ∧
  Pair (FilAt w' (on lab)) a.fm K.fs ∧ Pair (PkAt w' (on lab)) a.x1 K.i1 ∧ Pair (PkAt w' (on lab)) a.x2 K.i2 ∧ Pair (TrAt w' (on lab)) a.x3 K.out ∧ Step w w' (on lab) (on lab) := by
 have hs : Step w w' (on lab) (on lab) := Step.of_chg k (fun i hi => by show lab i ≠ 0; rw [hi]; exact hm)
 refine ⟨fun h1 => h.head.chg k (by show ¬ lab g = m; rw [h.lg]; omega), fun h1 => h.tab.chg k (by show ¬ lab a.gs = m; rw [h.lt1]; omega) (by show ¬ lab a.gt = m; rw [h.lt2]; omega),
  fun h1 => h.dk.chg k (fun i (hi : lab i = m) (hj : lab i = 3) => by omega), fun h1 => RowW.chg h.row k (fun b hb (hi : lab b = m) => by have := h.lr b hb; omega),
  fun h1 => h.r1.chg k (by show ¬ lab a.a1 = m; rw [h.l11]; omega) (by show ¬ lab a.b1 = m; rw [h.l12]; omega), fun h1 => h.r2.chg k (by show ¬ lab a.a2 = m; rw [h.l21]; omega) (by show ¬ lab a.b2 = m; rw [h.l22]; omega),
  fun h1 => h.r3.chg k (by show ¬ lab a.a3 = m; rw [h.l31]; omega) (by show ¬ lab a.b3 = m; rw [h.l32]; omega),
  h.fil.weak (fun _ _ _ h => h.step hs), h.p1.weak (fun _ _ _ h => h.step hs), h.p2.weak (fun _ _ _ h => h.step hs), h.p3.weak (fun _ _ _ h => h.step hs), hs⟩
end
end Go.Proofs.YtbkjjakkihbcdaaGreat.Ke

/- A kernel in memory: what stands where a part of it turns. Conditions: those that each states. -/
namespace Go.Proofs.YtbkjjakkihbcdaaGreat.Ke
open Go.ChangeShapes Go.WideShapes Go.ChangeAt Go.RowKit Go.Deep Fr Di
set_option linter.unusedVariables false
section
variable {w w' : World} {lab : Nat → Nat} {g : Nat} {K : Kn} {a : Ad}
theorem KAt.setPs (h : KAt w lab g K a) {ps' : List Pg} (k : Chg w w' (fun i => i = a.gs)) (t : Fr.Tab w' a.gs a.gt ps') : KAt w' lab g { K with ps := ps' } a ∧ LStep w w' lab lab := by
 have kk : Chg w _ (fun i => lab i = 2) := k.weak fun i (hi : i = a.gs) => by show lab i = 2; rw [hi, h.lt1]
 obtain ⟨q1, q2, q3, q4, q5, q6, q7, q8, q9, q10, q11, q12⟩ := h.keep (m := 2) kk (by omega)
 exact ⟨⟨q1 (by omega), t, q3 (by omega), q4 (by omega), q8, q5 (by omega), q9, q6 (by omega), q10, q7 (by omega), q11, h.lg, h.lt1, h.lt2, h.lr, h.l11, h.l12, h.l21, h.l22, h.l31, h.l32, fun i hi => Nat.lt_of_lt_of_le (h.all i hi) k.size⟩, LStep.of kk (by omega) (by omega)⟩
theorem KAt.setRing1 (h : KAt w lab g K a) {x' : List Value} {f' : Nat} {i' : List (List UInt8)} (k : Chg w w' (fun i => i = a.a1 ∨ i = a.b1)) (r : RgP.Ring w' a.a1 a.b1 16 f' x') (p : Pair (PkAt w (on lab)) x' i') :
  KAt w' lab g { K with i1 := i', f1 := f' } { a with x1 := x' } ∧ LStep w w' lab lab := by
 have kk : Chg w _ (fun i => lab i = 5) := k.weak fun i hi => by show lab i = 5; rcases hi with e | e; (rw [e, h.l11]); (rw [e, h.l12])
 obtain ⟨q1, q2, q3, q4, q5, q6, q7, q8, q9, q10, q11, q12⟩ := h.keep (m := 5) kk (by omega)
 exact ⟨⟨q1 (by omega), q2 (by omega), q3 (by omega), q4 (by omega), q8, r, p.weak (fun _ _ _ h => h.step q12), q6 (by omega), q10, q7 (by omega), q11, h.lg, h.lt1, h.lt2, h.lr, h.l11, h.l12, h.l21, h.l22, h.l31, h.l32, fun i hi => Nat.lt_of_lt_of_le (h.all i hi) k.size⟩, LStep.of kk (by omega) (by omega)⟩
theorem KAt.setRing2 (h : KAt w lab g K a) {x' : List Value} {f' : Nat} {i' : List (List UInt8)} (k : Chg w w' (fun i => i = a.a2 ∨ i = a.b2)) (r : RgP.Ring w' a.a2 a.b2 16 f' x') (p : Pair (PkAt w (on lab)) x' i') :
  KAt w' lab g { K with i2 := i', f2 := f' } { a with x2 := x' } ∧ LStep w w' lab lab := by
 have kk : Chg w _ (fun i => lab i = 6) := k.weak fun i hi => by show lab i = 6; rcases hi with e | e; (rw [e, h.l21]); (rw [e, h.l22])
 obtain ⟨q1, q2, q3, q4, q5, q6, q7, q8, q9, q10, q11, q12⟩ := h.keep (m := 6) kk (by omega)
 exact ⟨⟨q1 (by omega), q2 (by omega), q3 (by omega), q4 (by omega), q8, q5 (by omega), q9, r, p.weak (fun _ _ _ h => h.step q12), q7 (by omega), q11, h.lg, h.lt1, h.lt2, h.lr, h.l11, h.l12, h.l21, h.l22, h.l31, h.l32, fun i hi => Nat.lt_of_lt_of_le (h.all i hi) k.size⟩, LStep.of kk (by omega) (by omega)⟩
theorem KAt.setRing3 (h : KAt w lab g K a) {x' : List (Value × Value)} {f' : Nat} {o' : List Tr} (k : Chg w w' (fun i => i = a.a3 ∨ i = a.b3)) (r : RgT.Ring w' a.a3 a.b3 16 f' x') (p : Pair (TrAt w (on lab)) x' o') :
  KAt w' lab g { K with out := o', f3 := f' } { a with x3 := x' } ∧ LStep w w' lab lab := by
 have kk : Chg w _ (fun i => lab i = 7) := k.weak fun i hi => by show lab i = 7; rcases hi with e | e; (rw [e, h.l31]); (rw [e, h.l32])
 obtain ⟨q1, q2, q3, q4, q5, q6, q7, q8, q9, q10, q11, q12⟩ := h.keep (m := 7) kk (by omega)
 exact ⟨⟨q1 (by omega), q2 (by omega), q3 (by omega), q4 (by omega), q8, q5 (by omega), q9, q6 (by omega), q10, r, p.weak (fun _ _ _ h => h.step q12), h.lg, h.lt1, h.lt2, h.lr, h.l11, h.l12, h.l21, h.l22, h.l31, h.l32, fun i hi => Nat.lt_of_lt_of_le (h.all i hi) k.size⟩, LStep.of kk (by omega) (by omega)⟩
theorem KAt.setDone (h : KAt w lab g K a) (d : Nat) : KAt (w.setCell ⟨g, 7, none⟩ (.int .i64 (d : Int))) lab g { K with done := d } a ∧ LStep w (w.setCell ⟨g, 7, none⟩ (.int .i64 (d : Int))) lab lab := by
 have k : Chg w (w.setCell ⟨g, 7, none⟩ (.int .i64 (d : Int))) (fun i => i = g) := Chg.set _ _ _ rfl
 have kk : Chg w _ (fun i => lab i = 1) := k.weak fun i (hi : i = g) => by show lab i = 1; rw [hi, h.lg]
 obtain ⟨q1, q2, q3, q4, q5, q6, q7, q8, q9, q10, q11, q12⟩ := h.keep (m := 1) kk (by omega)
 exact ⟨⟨h.head.put 7 (.int .i64 (d : Int)), q2 (by omega), q3 (by omega), q4 (by omega), q8, q5 (by omega), q9, q6 (by omega), q10, q7 (by omega), q11, h.lg, h.lt1, h.lt2, h.lr, h.l11, h.l12, h.l21, h.l22, h.l31, h.l32, fun i hi => Nat.lt_of_lt_of_le (h.all i hi) k.size⟩, LStep.of kk (by omega) (by omega)⟩
theorem da_iff {F F' : Nat → Prop} {d : Dk} {g : Nat} (h : DA w F g d) (e : ∀ k, F k ↔ F' k) : DA w F' g d := by
 obtain ⟨gb, Al, cl, Ae, ce, D, hF⟩ := h
 exact ⟨gb, Al, cl, Ae, ce, D, fun k => (e k).symm.trans (hF k)⟩
structure Relab (lab L : Nat → Nat) (m : Nat) (F : Nat → Prop) : Prop where
 yes : ∀ k, F k → L k = m
 no : ∀ k, ¬ F k → L k = if lab k = m then 0 else lab k
theorem relab_ex (lab : Nat → Nat) (m : Nat) (F : Nat → Prop) : ∃ L, Relab lab L m F :=
 ⟨fun k => @ite _ (F k) (Classical.propDecidable _) m (if lab k = m then 0 else lab k), fun k h => if_pos h, fun k h => if_neg h⟩
theorem Relab.far {L : Nat → Nat} {m : Nat} {F : Nat → Prop} (r : Relab lab L m F) {k : Nat} (hF : ∀ k, F k → lab k = m ∨ w.heap.size ≤ k) (h1 : lab k ≠ m) (h2 : k < w.heap.size) : L k = lab k := by
 rw [r.no, if_neg h1]
 intro hk
 rcases hF k hk with h3 | h3
 ·exact h1 h3
 ·omega
theorem Relab.iff {L : Nat → Nat} {m : Nat} {F : Nat → Prop} (r : Relab lab L m F) (hm : m ≠ 0) (k : Nat) : L k = m ↔ F k := by
 constructor
 ·intro h
  by_cases hk : F k
  ·exact hk
  ·rw [r.no k hk] at h
   split at h <;> omega
 ·exact r.yes k
theorem Relab.back {L : Nat → Nat} {m : Nat} {F : Nat → Prop} (r : Relab lab L m F) {k : Nat} (hk : ¬ F k) (h : L k ≠ 0) : lab k ≠ 0 ∧ L k = lab k ∧ lab k ≠ m := by
 rw [r.no k hk] at h ⊢
 split at h
 ·omega
 ·rename_i h1
  exact ⟨h, by rw [if_neg h1], h1⟩
theorem Relab.on {L : Nat → Nat} {m : Nat} {F : Nat → Prop} (r : Relab lab L m F) (hm : m ≠ 0) (hF : ∀ k, F k → lab k = m ∨ w.heap.size ≤ k) : ∀ k, Ke.on L k → Ke.on lab k ∨ w.heap.size ≤ k := by
 intro k hk
 by_cases h : F k
 ·rcases hF k h with h1 | h1
  ·left; show lab k ≠ 0; omega
  ·exact .inr h1
 ·exact .inl (r.back h hk).1
theorem KAt.setDk (h : KAt w lab g K a) {F' : Nat → Prop} {d' : Dk} (k : Step w w' (fun i => lab i = 3) F') (t : DA w' F' a.gd d') : ∃ lab', KAt w' lab' g { K with dk := d' } a ∧ LStep w w' lab lab' := by
 obtain ⟨q1, q2, q3, q4, q5, q6, q7, q8, q9, q10, q11, q12⟩ := h.keep (m := 3) k.1 (by omega)
 obtain ⟨L, r⟩ := relab_ex lab 3 F'
 have far : ∀ i m, lab i = m → m ≠ 3 → m ≠ 0 → L i = m := fun i m e h3 h0 => by
  rw [r.far k.2 (by omega) (h.all i (by omega))]; exact e
 have hs : Step w w' (on lab) (on L) := ⟨q12.1, r.on (by omega) k.2⟩
 refine ⟨L, ⟨q1 (by omega), q2 (by omega), da_iff t (fun i => (r.iff (by omega) i).symm), q4 (by omega), h.fil.weak (fun _ _ _ h => h.step hs), q5 (by omega), h.p1.weak (fun _ _ _ h => h.step hs), q6 (by omega), h.p2.weak (fun _ _ _ h => h.step hs), q7 (by omega), h.p3.weak (fun _ _ _ h => h.step hs),
  far _ _ h.lg (by omega) (by omega), far _ _ h.lt1 (by omega) (by omega), far _ _ h.lt2 (by omega) (by omega), fun b hb => far _ _ (h.lr b hb) (by omega) (by omega), far _ _ h.l11 (by omega) (by omega), far _ _ h.l12 (by omega) (by omega), far _ _ h.l21 (by omega) (by omega), far _ _ h.l22 (by omega) (by omega), far _ _ h.l31 (by omega) (by omega), far _ _ h.l32 (by omega) (by omega), fun i hi => ?_⟩, ⟨k.1.weak fun i (hi : lab i = 3) => by rw [hi]; omega, hs.2, fun i hi => far i _ rfl (by omega) (by omega)⟩⟩
 by_cases hf : F' i
 ·exact t.lt hf
 ·exact Nat.lt_of_lt_of_le (h.all i (r.back hf hi).1) k.1.size
theorem KAt.setRow (h : KAt w lab g K a) {A' : Option Addr} {c' : Nat} {fm' : List FM} {fs' : List Fil} {nx : Nat} (k : Chg w w' (fun i => i = g ∨ inB a.A i))
  (hd : Blk w' g 88 #[.pointer (some ⟨a.gt, 0, none⟩), .pointer (some ⟨a.gd, 0, none⟩), .slice A' fs'.length c', .int .i64 (nx : Int), .pointer (some ⟨a.b1, 0, none⟩), .pointer (some ⟨a.b2, 0, none⟩), .pointer (some ⟨a.b3, 0, none⟩), .int .i64 (K.done : Int)])
  (row : FRow w' A' c' fm') (hat : ∀ b, inB A' b → inB a.A b ∨ w.heap.size ≤ b) (pr : Pair (FilAt w (on lab)) fm' fs') :
  ∃ lab', KAt w' lab' g { K with fs := fs', next := nx } { a with A := A', c := c', fm := fm' } ∧ LStep w w' lab lab' := by
 have hF : ∀ b, inB A' b → lab b = 4 ∨ w.heap.size ≤ b := fun b hb => (hat b hb).imp (h.lr b) id
 have kk : Chg w w' (fun i => lab i = 1 ∨ lab i = 4) := k.weak fun i hi => by
  rcases hi with e | e
  ·left; rw [e]; exact h.lg
  ·right; exact h.lr i e
 obtain ⟨L, r⟩ := relab_ex lab 4 (inB A')
 have hs : Step w w' (on lab) (on L) := ⟨kk.weak fun i hi => by show lab i ≠ 0; rcases hi with e | e <;> omega, r.on (by omega) hF⟩
 have far : ∀ i m, lab i = m → m ≠ 4 → m ≠ 0 → L i = m := fun i m e h3 h0 => by
  rw [r.far hF (by omega) (h.all i (by omega))]; exact e
 have nt : ∀ i m, lab i = m → m ≠ 1 → m ≠ 4 → ¬ (lab i = 1 ∨ lab i = 4) := fun i m e h1 h2 => by omega
 refine ⟨L, ⟨hd, h.tab.chg kk (nt _ _ h.lt1 (by omega) (by omega)) (nt _ _ h.lt2 (by omega) (by omega)), da_iff (h.dk.chg kk (fun i hi (hj : lab i = 3) => by omega)) (fun i => ?_), row, pr.weak (fun _ _ _ h => h.step hs),
  h.r1.chg kk (nt _ _ h.l11 (by omega) (by omega)) (nt _ _ h.l12 (by omega) (by omega)), h.p1.weak (fun _ _ _ h => h.step hs), h.r2.chg kk (nt _ _ h.l21 (by omega) (by omega)) (nt _ _ h.l22 (by omega) (by omega)), h.p2.weak (fun _ _ _ h => h.step hs), h.r3.chg kk (nt _ _ h.l31 (by omega) (by omega)) (nt _ _ h.l32 (by omega) (by omega)), h.p3.weak (fun _ _ _ h => h.step hs),
  far _ _ h.lg (by omega) (by omega), far _ _ h.lt1 (by omega) (by omega), far _ _ h.lt2 (by omega) (by omega), fun b hb => r.yes b hb, far _ _ h.l11 (by omega) (by omega), far _ _ h.l12 (by omega) (by omega), far _ _ h.l21 (by omega) (by omega), far _ _ h.l22 (by omega) (by omega), far _ _ h.l31 (by omega) (by omega), far _ _ h.l32 (by omega) (by omega), fun i hi => ?_⟩, ⟨kk.weak fun i hi => by rcases hi with e | e <;> omega, hs.2, fun i hi => far i _ rfl (by omega) (by omega)⟩⟩
 ·constructor
  ·intro e; exact far i 3 e (by omega) (by omega)
  ·intro e
   have e' : L i = 3 := e
   by_cases hf : inB A' i
   ·rw [r.yes i hf] at e'; omega
   ·have := r.back hf (by omega)
    show lab i = 3
    omega
 ·by_cases hf : inB A' i
  ·exact RowW.lt row i hf
  ·exact Nat.lt_of_lt_of_le (h.all i (r.back hf hi).1) k.size
end
end Go.Proofs.YtbkjjakkihbcdaaGreat.Ke

/- Package kern: New. Conditions: those that each states. -/
namespace Go.Proofs.YtbkjjakkihbcdaaGreat.Ke
open Go.ChangeShapes Go.WideShapes Go.ChangeAt Go.RowKit Go.Deep Fr Di
set_option linter.unusedVariables false

abbrev KHead (w : World) (g gt gd : Nat) (p1 p2 p3 : Option Addr) : Prop := Blk w g 88 #[.pointer (some ⟨gt, 0, none⟩), .pointer (some ⟨gd, 0, none⟩), .slice none 0 0, .int .i64 0, .pointer p1, .pointer p2, .pointer p3, .int .i64 0]
structure WR (w : World) (g gt gd : Nat) (j : Nat) (wr : World) : Prop where
 chg : Chg w wr (fun k => k = g)
 size : wr.heap.size = w.heap.size + 2 * j
 head : KHead wr g gt gd (if 1 ≤ j then some ⟨w.heap.size + 1, 0, none⟩ else none) (if 2 ≤ j then some ⟨w.heap.size + 3, 0, none⟩ else none) none
 r1 : 1 ≤ j → RgP.Ring wr w.heap.size (w.heap.size + 1) 16 0 []
 r2 : 2 ≤ j → RgP.Ring wr (w.heap.size + 2) (w.heap.size + 3) 16 0 []
structure Rings (w : World) (g gt gd : Nat) (w' : World) : Prop where
 chg : Chg w w' (fun k => k = g)
 head : KHead w' g gt gd (some ⟨w.heap.size + 1, 0, none⟩) (some ⟨w.heap.size + 3, 0, none⟩) (some ⟨w.heap.size + 5, 0, none⟩)
 r1 : RgP.Ring w' w.heap.size (w.heap.size + 1) 16 0 []
 r2 : RgP.Ring w' (w.heap.size + 2) (w.heap.size + 3) 16 0 []
 r3 : RgT.Ring w' (w.heap.size + 4) (w.heap.size + 5) 16 0 []
 size : w'.heap.size = w.heap.size + 6
set_option maxRecDepth 100000 in
set_option maxHeartbeats 2000000 in
theorem rings_any (g gt gd : Nat) (w : World) (h : KHead w g gt gd none none none) :
  Calls Tryz.prog 23 #[.pointer (some ⟨g, 0, none⟩)] w fun e w' => e = .returned (.tuple #[.pointer (some ⟨g, 0, none⟩), .int .i64 0]) ∧ Rings w g gt gd w' := by
 have hg : g < w.heap.size := h.lt
 have W0 := Lib.hid (show WR w g gt gd 0 w from ⟨Chg.refl _ _, by omega, h, fun h => absurd h (by omega), fun h => absurd h (by omega)⟩)
 clear h
 go_enter Tryz.func23, Tryz.ntmps23
 go_wp2
 go_loopw [4, 6] (fun e i wr => ∃ (j : Nat), j ≤ 2 ∧ i = .int .i64 (j : Int) ∧ e = .int .i64 0 ∧ Hid (WR w g gt gd j wr)) (fun _ i _ => 2 - (intOf i).toNat)
 case atStart => exact ⟨0, by omega, rfl, rfl, W0⟩
 case round =>
  clear W0
  obtain ⟨j, hj, rfl, rfl, HR⟩ := hrel
  have hj3 : j = 0 ∨ j = 1 ∨ j = 2 := by omega
  rcases hj3 with rfl | rfl | rfl
  ·have HD := Lib.hid (show KHead wr g gt gd none none none from HR.out.head)
   go_upto_region 5 with fail
   refine wp_region_held_drew (S := fun w' => Hid (wr.heap.size ≤ w'.heap.size)) (by kernel_rfl) (Lib.hid (Nat.le_refl _)) (fun hS => ?_)
   refine ht 0 (some 10) (v := ?_) rfl rfl ?_ hS ?_
   rotate_left
   ·intro w' hSw; go_simp <;> with_reducible rfl
   refine ht 1 (some 11) (v := ?_) rfl rfl ?_ hS ?_
   rotate_left
   ·intro w' hSw; go_simp <;> with_reducible rfl
   simp only [Act.put, List.setIfInBounds_toArray, List.set_cons_zero, List.set_cons_succ]
   refine ht 6 (some 15) (v := ?_) rfl rfl ?_ hS ?_
   rotate_left
   ·intro w' hSw; go_simp <;> with_reducible rfl
   refine ht 7 (some 16) (v := ?_) rfl rfl ?_ hS ?_
   rotate_left
   ·intro w' hSw; go_simp <;> with_reducible rfl
   simp only [Act.put, List.setIfInBounds_toArray, List.set_cons_zero, List.set_cons_succ]
   refine held_one (i := 2) (by kernel_rfl) rfl (by rfl) ?_
   go_simp
   refine (RgP.new_ok 16 _ (by omega) (by omega)).mono ?_; rintro e w5 ⟨rfl, r5, b5, z5⟩
   have HD5 := Lib.hid (HD.out.older (older_below (show Below wr.heap.size wr w5 from ⟨b5.os, b5.tape, b5.output, b5.size, b5.block⟩)))
   have c5 := HD5.out.cell 4
   have f5 := HD5.out.frozen 4
   simp only [List.getElem?_toArray, List.getElem?_cons_succ, List.getElem?_cons_zero] at c5
   have R5 := Lib.hid r5
   have B5 := Lib.hid (show Below wr.heap.size wr w5 from ⟨b5.os, b5.tape, b5.output, b5.size, b5.block⟩)
   have Z5 := Lib.hid (show w5.heap.size = wr.heap.size + 2 from z5)
   have HW5 := Lib.hid (show wr.drew.heap.size = wr.heap.size from rfl)
   clear r5 b5 z5
   have hS : Hid (wr.heap.size ≤ w5.heap.size) := Lib.hid B5.out.size
   refine ⟨hS, ?_⟩
   (try simp only [Act.put, List.setIfInBounds_toArray, List.set_cons_zero, List.set_cons_succ])
   refine ht 3 (some 9) (v := ?_) rfl rfl ?_ hS ?_
   rotate_left
   ·intro w' hSw; go_simp <;> with_reducible rfl
   refine ht 4 (some 13) (v := ?_) rfl rfl ?_ hS ?_
   rotate_left
   ·intro w' hSw; go_simp <;> with_reducible rfl
   simp only [Act.put, List.setIfInBounds_toArray, List.set_cons_zero, List.set_cons_succ]
   refine ht 5 (some 14) (v := ?_) rfl rfl ?_ hS ?_
   rotate_left
   ·intro w' hSw; go_simp <;> with_reducible rfl
   refine ht 8 (some 17) (v := ?_) rfl rfl ?_ hS ?_
   rotate_left
   ·intro w' hSw; go_simp <;> with_reducible rfl
   simp only [Act.put, List.setIfInBounds_toArray, List.set_cons_zero, List.set_cons_succ]
   refine held_one (i := 9) (by kernel_rfl) rfl (by rfl) ?_
   go_simp
   have hS : Hid (wr.heap.size ≤ (w5.setCell ⟨g, 4, none⟩ (.pointer (some ⟨wr.heap.size + 1, 0, none⟩))).heap.size) := Lib.hid (by simpa [World.setCell] using B5.out.size)
   (first | refine ⟨hS, ?_⟩ | skip)
   (try simp only [Act.put, List.setIfInBounds_toArray, List.set_cons_zero, List.set_cons_succ])
   refine ht 10 (some 4) (v := ?_) rfl rfl ?_ hS ?_
   rotate_left
   ·intro w' hSw; go_simp <;> with_reducible rfl
   simp only [Act.put, List.setIfInBounds_toArray, List.set_cons_zero, List.set_cons_succ]
   refine wpAnyH_done (by kernel_rfl) ?_ _
   have W5 := Lib.hid (show WR w g gt gd 1 (w5.setCell ⟨g, 4, none⟩ (.pointer (some ⟨wr.heap.size + 1, 0, none⟩))) from by
    have hz := HR.out.size
    have z5 := Z5.out
    have e0 : wr.heap.size = w.heap.size := by omega
    have kk : Chg w5 (w5.setCell ⟨g, 4, none⟩ (.pointer (some ⟨wr.heap.size + 1, 0, none⟩))) (fun k => k = g) := Chg.set _ _ _ rfl
    refine ⟨(HR.out.chg.trans (Chg.of_new B5.out _)).trans kk, by simp [World.setCell]; omega, ?_, fun _ => ?_, fun h => absurd h (by omega)⟩
    ·rw [e0]; exact HD5.out.put 4 _
    ·have r5 : RgP.Ring w5 wr.heap.size (wr.heap.size + 1) 16 0 [] := R5.out
     have r5 := r5.chg kk (by show ¬ wr.heap.size = g; omega) (by show ¬ wr.heap.size + 1 = g; omega)
     rw [e0] at r5 ⊢
     exact r5)
   go_wp2
   go_roundw
   case rel => exact ⟨1, by omega, rfl, rfl, W5⟩
   case measure => simp [intOf]
  ·have HD := Lib.hid (show KHead wr g gt gd (some ⟨w.heap.size + 1, 0, none⟩) none none from HR.out.head)
   go_upto_region 5 with fail
   refine wp_region_held_drew (S := fun w' => Hid (wr.heap.size ≤ w'.heap.size)) (by kernel_rfl) (Lib.hid (Nat.le_refl _)) (fun hS => ?_)
   refine ht 0 (some 10) (v := ?_) rfl rfl ?_ hS ?_
   rotate_left
   ·intro w' hSw; go_simp <;> with_reducible rfl
   refine ht 1 (some 11) (v := ?_) rfl rfl ?_ hS ?_
   rotate_left
   ·intro w' hSw; go_simp <;> with_reducible rfl
   simp only [Act.put, List.setIfInBounds_toArray, List.set_cons_zero, List.set_cons_succ]
   refine ht 6 (some 15) (v := ?_) rfl rfl ?_ hS ?_
   rotate_left
   ·intro w' hSw; go_simp <;> with_reducible rfl
   refine ht 7 (some 16) (v := ?_) rfl rfl ?_ hS ?_
   rotate_left
   ·intro w' hSw; go_simp <;> with_reducible rfl
   simp only [Act.put, List.setIfInBounds_toArray, List.set_cons_zero, List.set_cons_succ]
   refine held_one (i := 2) (by kernel_rfl) rfl (by rfl) ?_
   go_simp
   refine (RgP.new_ok 16 _ (by omega) (by omega)).mono ?_; rintro e w5 ⟨rfl, r5, b5, z5⟩
   have HD5 := Lib.hid (HD.out.older (older_below (show Below wr.heap.size wr w5 from ⟨b5.os, b5.tape, b5.output, b5.size, b5.block⟩)))
   have c5 := HD5.out.cell 5
   have f5 := HD5.out.frozen 5
   simp only [List.getElem?_toArray, List.getElem?_cons_succ, List.getElem?_cons_zero] at c5
   have R5 := Lib.hid r5
   have B5 := Lib.hid (show Below wr.heap.size wr w5 from ⟨b5.os, b5.tape, b5.output, b5.size, b5.block⟩)
   have Z5 := Lib.hid (show w5.heap.size = wr.heap.size + 2 from z5)
   have HW5 := Lib.hid (show wr.drew.heap.size = wr.heap.size from rfl)
   clear r5 b5 z5
   have hS : Hid (wr.heap.size ≤ w5.heap.size) := Lib.hid B5.out.size
   refine ⟨hS, ?_⟩
   (try simp only [Act.put, List.setIfInBounds_toArray, List.set_cons_zero, List.set_cons_succ])
   refine ht 3 (some 9) (v := ?_) rfl rfl ?_ hS ?_
   rotate_left
   ·intro w' hSw; go_simp <;> with_reducible rfl
   refine ht 4 (some 13) (v := ?_) rfl rfl ?_ hS ?_
   rotate_left
   ·intro w' hSw; go_simp <;> with_reducible rfl
   simp only [Act.put, List.setIfInBounds_toArray, List.set_cons_zero, List.set_cons_succ]
   refine ht 5 (some 14) (v := ?_) rfl rfl ?_ hS ?_
   rotate_left
   ·intro w' hSw; go_simp <;> with_reducible rfl
   refine ht 8 (some 17) (v := ?_) rfl rfl ?_ hS ?_
   rotate_left
   ·intro w' hSw; go_simp <;> with_reducible rfl
   simp only [Act.put, List.setIfInBounds_toArray, List.set_cons_zero, List.set_cons_succ]
   refine held_one (i := 9) (by kernel_rfl) rfl (by rfl) ?_
   go_simp
   have hS : Hid (wr.heap.size ≤ (w5.setCell ⟨g, 5, none⟩ (.pointer (some ⟨wr.heap.size + 1, 0, none⟩))).heap.size) := Lib.hid (by simpa [World.setCell] using B5.out.size)
   (first | refine ⟨hS, ?_⟩ | skip)
   (try simp only [Act.put, List.setIfInBounds_toArray, List.set_cons_zero, List.set_cons_succ])
   refine ht 10 (some 4) (v := ?_) rfl rfl ?_ hS ?_
   rotate_left
   ·intro w' hSw; go_simp <;> with_reducible rfl
   simp only [Act.put, List.setIfInBounds_toArray, List.set_cons_zero, List.set_cons_succ]
   refine wpAnyH_done (by kernel_rfl) ?_ _
   have W5 := Lib.hid (show WR w g gt gd 2 (w5.setCell ⟨g, 5, none⟩ (.pointer (some ⟨wr.heap.size + 1, 0, none⟩))) from by
    have hz := HR.out.size
    have z5 := Z5.out
    have e0 : wr.heap.size = w.heap.size + 2 := by omega
    have kk : Chg w5 (w5.setCell ⟨g, 5, none⟩ (.pointer (some ⟨wr.heap.size + 1, 0, none⟩))) (fun k => k = g) := Chg.set _ _ _ rfl
    refine ⟨(HR.out.chg.trans (Chg.of_new B5.out _)).trans kk, by simp [World.setCell]; omega, ?_, fun _ => ?_, fun _ => ?_⟩
    ·rw [e0]; exact HD5.out.put 5 _
    ·exact ((HR.out.r1 (by omega)).new B5.out).chg kk (by show ¬ w.heap.size = g; omega) (by show ¬ w.heap.size + 1 = g; omega)
    ·have r5 : RgP.Ring w5 wr.heap.size (wr.heap.size + 1) 16 0 [] := R5.out
     have r5 := r5.chg kk (by show ¬ wr.heap.size = g; omega) (by show ¬ wr.heap.size + 1 = g; omega)
     rw [e0] at r5 ⊢
     exact r5)
   go_wp2
   go_roundw
   case rel => exact ⟨2, by omega, rfl, rfl, W5⟩
   case measure => simp [intOf]
  ·have HD := Lib.hid (show KHead wr g gt gd (some ⟨w.heap.size + 1, 0, none⟩) (some ⟨w.heap.size + 3, 0, none⟩) none from HR.out.head)
   go_wp2_with fail
   refine (RgT.new_ok 16 _ (by omega) (by omega)).mono ?_; rintro e w5 ⟨rfl, r5, b5, z5⟩
   have HD5 := Lib.hid (HD.out.older (older_below b5))
   have c5 := HD5.out.cell 6
   have f5 := HD5.out.frozen 6
   simp only [List.getElem?_toArray, List.getElem?_cons_succ, List.getElem?_cons_zero] at c5
   have W5 := Lib.hid (show Rings w g gt gd (w5.setCell ⟨g, 6, none⟩ (.pointer (some ⟨wr.heap.size + 1, 0, none⟩))) from by
    have hz := HR.out.size
    have e0 : wr.heap.size = w.heap.size + 4 := by omega
    have kk : Chg w5 (w5.setCell ⟨g, 6, none⟩ (.pointer (some ⟨wr.heap.size + 1, 0, none⟩))) (fun k => k = g) := Chg.set _ _ _ rfl
    refine ⟨(HR.out.chg.trans (Chg.of_new b5 _)).trans kk, ?_, ?_, ?_, ?_, by simp [World.setCell]; omega⟩
    ·rw [e0]; exact HD5.out.put 6 _
    ·exact ((HR.out.r1 (by omega)).new b5).chg kk (by show ¬ w.heap.size = g; omega) (by show ¬ w.heap.size + 1 = g; omega)
    ·exact ((HR.out.r2 (by omega)).new b5).chg kk (by show ¬ w.heap.size + 2 = g; omega) (by show ¬ w.heap.size + 3 = g; omega)
    ·have r6 := r5.chg kk (by show ¬ wr.heap.size = g; omega) (by show ¬ wr.heap.size + 1 = g; omega)
     rw [e0] at r6 ⊢
     exact r6)
   clear r5 b5 z5
   go_wp2
   go_ret2
   exact ⟨rfl, W5.out⟩
end Go.Proofs.YtbkjjakkihbcdaaGreat.Ke
