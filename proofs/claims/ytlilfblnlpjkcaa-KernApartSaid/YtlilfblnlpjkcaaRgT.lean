/- Package ring at a transfer: what its functions do. Conditions: those that each states. -/
import Derived.Test.YtlilfblnlpjkcaaRgW
import Derived.Test.YtlilfblnlpjkcaaRow
import Derived.Deep.Cut
import Derived.Deep.CutBlock
import Derived.RegionTactic
import Derived.BigRegion
import Derived.WalkMore
import Derived.StillTailTactics
import Derived.Deep.QuietTactic
import Derived.BigQuiet
import Derived.Deep.OwnRows
namespace Go.Proofs.Ytlilfblnlpjkcaa.RgT
open Go.ChangeShapes Go.WideShapes Go.ChangeAt Go.RowKit Go.Deep
set_option linter.unusedVariables false

abbrev Ring (w : World) (gs g room first : Nat) (xs : List (Value × Value)) : Prop := RingW 92 144 w gs g room first xs

theorem infos : (Try.prog.info? 92).map (fun i => (i.zero.map (·.cells), i.size, i.bytes)) = some (some #[.int .i64 0, .slice none 0 0], 2, 32) := by kernel_rfl
theorem make_things (n : Nat) (hn : n ≤ 32) (W : World) :
    (Instr.makeSlice 142 (.int .i64 (n : Int)) (.int .i64 (n : Int))).run Try.prog W = .ok (.slice (some ⟨W.heap.size, 0, none⟩) n n) (W.alloc (.cells (madeCells #[.int .i64 0, .slice none 0 0] (n * 2)) 92)) := by
  obtain ⟨i, hi, hs⟩ := Option.map_eq_some_iff.1 infos
  simp only [Prod.mk.injEq] at hs
  obtain ⟨h0, h1, h2⟩ := hs
  obtain ⟨z, hz, hzc⟩ := Option.map_eq_some_iff.1 h0
  have hr := run_make (P := Try.prog) W 142 92 i z Try.underlying142 hi hz .i64 .i64 (n : Int) (n : Int) (by omega) (by omega) (by rw [h2]; omega) (by omega)
  simp only [h1, hzc, Int.toNat_natCast] at hr
  exact hr

set_option maxRecDepth 100000 in
theorem new_ok (room : Nat) (w : World) (h1 : 1 ≤ room) (h2 : room ≤ 32) :
    Calls Try.prog 50 #[.int .i64 (room : Int)] w fun e w' => e = .returned (.tuple #[.pointer (some ⟨w.heap.size + 1, 0, none⟩), .int .i64 0]) ∧ Ring w' w.heap.size (w.heap.size + 1) room 0 [] ∧ Below w.heap.size w w' ∧ w'.heap.size = w.heap.size + 2 := by
  have g1 : ¬ (room : Int) < 1 := by omega
  have g2 : ¬ (room : Int) > 32 := by omega
  have fin : ∀ W1 W2 : World, W1 = w.alloc (.cells (madeCells #[.int .i64 0, .slice none 0 0] (room * 2)) 92) → W2 = W1.alloc (.cells #[.slice (some ⟨w.heap.size, 0, none⟩) room room, .int .i64 0, .int .i64 0] 144) → Ring W2 w.heap.size (w.heap.size + 1) room 0 [] ∧ Below w.heap.size w W2 ∧ W2.heap.size = w.heap.size + 2 := by
    rintro W1 W2 rfl rfl
    refine ⟨⟨by omega, h1, h2, by simp, by simp, ?_, madeCells #[.int .i64 0, .slice none 0 0] (room * 2), (Blk.new w _ _).alloc _, size_madeCells _ _, fun j h => absurd h (by simp)⟩, ((Below.refl _ w).alloc (Nat.le_refl _) _).alloc (by simp) _, by simp⟩
    have := Blk.new (w.alloc (.cells (madeCells #[.int .i64 0, .slice none 0 0] (room * 2)) 92)) 144 #[.slice (some ⟨w.heap.size, 0, none⟩) room room, .int .i64 0, .int .i64 0]
    simpa using this
  have FIN := Lib.hid fin
  have hm := fun W => make_things room h2 W
  clear fin
  go_enter Try.func50, Try.ntmps50
  go_wp2
  go_ret2
  exact ⟨rfl, FIN.out _ _ rfl rfl⟩
theorem new_no (room : Int) (w : World) (h : room < 1 ∨ 32 < room) :
    Calls Try.prog 50 #[.int .i64 room] w fun e w' => e = .returned (.tuple #[.pointer none, .int .i64 1]) ∧ w' = w := by
  by_cases h1 : room < 1
  · clear h
    go_enter Try.func50, Try.ntmps50
    go_wp2
    go_ret2
    exact ⟨rfl, rfl⟩
  · have h2 : room > 32 := by omega
    clear h
    go_enter Try.func50, Try.ntmps50
    go_wp2
    go_ret2
    exact ⟨rfl, rfl⟩

theorem place_any (gs g room first : Nat) (xs : List (Value × Value)) (t : Nat) (w : World) (h : Ring w gs g room first xs) :
    Calls Try.prog 70 #[.pointer (some ⟨g, 0, none⟩), .int .i64 (t : Int)] w fun e w' => e = .returned (.int .i64 ((t % room : Nat) : Int)) ∧ w' = w := by
  have c0 := h.head.cell 0
  simp only [List.getElem?_toArray, List.getElem?_cons_zero] at c0
  have r1 := h.r1
  have r2 := h.r2
  have hr0 : (room : Int) ≠ 0 := by omega
  have x0 : Int.tmod (t : Int) (room : Int) = ((t % room : Nat) : Int) := by rw [Int.tmod_eq_emod_of_nonneg (by omega)]; omega
  have X0 := Lib.hid x0
  clear h x0
  go_enter Try.func70, Try.ntmps70
  go_wp2
  go_ret
  exact ⟨by first | rfl | (rw [← X0.out]) | simp, rfl⟩

theorem len_any (gs g room first : Nat) (xs : List (Value × Value)) (w : World) (h : Ring w gs g room first xs) :
    Calls Try.prog 79 #[.pointer (some ⟨g, 0, none⟩)] w fun e w' => e = .returned (.int .i64 (xs.length : Int)) ∧ ∃ m, w' = w.drewN m := by
  have c1 := h.head.cell 1
  have c2 := h.head.cell 2
  simp only [List.getElem?_toArray, List.getElem?_cons_succ, List.getElem?_cons_zero] at c1 c2
  have hs := h.small
  generalize hn : (first : Int) + (xs.length : Int) = nx at *
  have x0 : IntKind.i64.wrap (nx - (first : Int)) = (xs.length : Int) := by
    rw [IntWalk.i64_in _ (by omega)]; omega
  clear h hn
  go_enter Try.func79, Try.ntmps79
  go_wp2_with fail
  go_quiet (fail)
  go_wp2
  go_ret
  exact ⟨rfl, _, rfl⟩
theorem room_any (gs g room first : Nat) (xs : List (Value × Value)) (w : World) (h : Ring w gs g room first xs) :
    Calls Try.prog 63 #[.pointer (some ⟨g, 0, none⟩)] w fun e w' => e = .returned (.int .i64 ((room : Int) - (xs.length : Int))) ∧ ∃ m, w' = w.drewN m := by
  have c0 := h.head.cell 0
  simp only [List.getElem?_toArray, List.getElem?_cons_zero] at c0
  have hl := h.len
  have h2 := h.r2
  have x0 : IntKind.i64.wrap ((room : Int) - (xs.length : Int)) = (room : Int) - (xs.length : Int) := IntWalk.i64_in _ (by omega)
  have H := Lib.hid h
  clear h
  go_enter Try.func63, Try.ntmps63
  go_wp2_with fail
  go_quiet ((go_at_call 79; exact Calls.quiet_of (len_any gs g room first xs _ (H.out.drewN _))))
  go_wp2
  go_ret
  exact ⟨rfl, _, rfl⟩


theorem tinfo : (Try.prog.info? 92).map (·.size) = some 2 := by kernel_rfl
/-- The block that a struct of a transfer's kind lies in, new. -/
abbrev box (w : World) (te : Int) (tA : Option Addr) (tn tc : Nat) : World := w.alloc (.cells #[.int .i64 te, .slice tA tn tc] 92)

set_option maxRecDepth 100000 in
set_option maxHeartbeats 1000000 in
theorem put_ok (gs g room first : Nat) (xs : List (Value × Value)) (te : Int) (tA : Option Addr) (tn tc : Nat) (w : World) (h : Ring w gs g room first xs) (hl : xs.length < room) (hs : first + xs.length < 1000000) :
    Calls Try.prog 65 #[.pointer (some ⟨g, 0, none⟩), .agg #[.int .i64 te, .slice tA tn tc]] w fun e w' => e = .returned (.tuple #[.int .i64 ((first : Int) + (xs.length : Int)), .int .i64 0]) ∧ Ring w' gs g room first (xs ++ [(.int .i64 te, .slice tA tn tc)]) ∧ Chg w w' (fun k => k = gs ∨ k = g) := by
  have hb1 : Below w.heap.size w (box w te tA tn tc) := (Below.refl _ w).alloc (Nat.le_refl _) _
  have h1 := h.new hb1
  have bb := Blk.new w 92 #[.int .i64 te, .slice tA tn tc]
  obtain ⟨W, hW⟩ : ∃ W, W = box w te tA tn tc := ⟨_, rfl⟩
  rw [← hW] at h1 hb1
  have fin : ∀ n m : Nat, ∃ W2, W2 = (((W.drewN n).setCell ⟨gs, (first + xs.length) % room * 2, none⟩ (.int .i64 te)).setCell ⟨gs, (first + xs.length) % room * 2 + 1, none⟩ (.slice tA tn tc)).setCell ⟨g, 2, none⟩ (.int .i64 ((first : Int) + (xs.length : Int) + 1)) ∧ Ring (W2.drewN m) gs g room first (xs ++ [(.int .i64 te, .slice tA tn tc)]) ∧ Chg w (W2.drewN m) (fun k => k = gs ∨ k = g) := by
    intro n m
    refine ⟨_, rfl, (h1.put hl hs (.int .i64 te) (.slice tA tn tc) n).drewN m, Chg.drewN ?_ m⟩
    exact ((((Chg.of_new hb1 _).drewN n).trans (Chg.set _ _ _ (.inl rfl))).trans (Chg.set _ _ _ (.inl rfl))).trans (Chg.set _ _ _ (.inr rfl))
  have FIN := Lib.hid fin
  have d0 : W.cell? ⟨w.heap.size, 0, none⟩ = some (.int .i64 te) := by rw [hW]; exact (bb.cell 0).trans rfl
  have d1 : W.cell? ⟨w.heap.size, 1, none⟩ = some (.slice tA tn tc) := by rw [hW]; exact (bb.cell 1).trans rfl
  have c0 := h1.head.cell 0
  have c2 := h1.head.cell 2
  simp only [List.getElem?_toArray, List.getElem?_cons_succ, List.getElem?_cons_zero] at c0 c2
  have hne : gs ≠ g := Nat.ne_of_lt h.lt
  obtain ⟨u, v, cu, cv⟩ := h1.place (first + xs.length)
  have ft := h1.thaw ((first + xs.length) % room * 2)
  have ft2 := h1.thaw ((first + xs.length) % room * 2 + 1)
  have fg := h1.head.frozen 2
  have hm : (first + xs.length) % room < room := Nat.mod_lt _ h.r1
  have r2 := h.r2
  have rm := fun W hW => room_any gs g room first xs W hW
  obtain ⟨q, hq, hq0⟩ : ∃ q : Int, q = (room : Int) - (xs.length : Int) ∧ ¬ q = 0 := ⟨_, rfl, by have := h.r1; omega⟩
  rw [← hq] at rm
  have RM := Lib.hid rm
  have pl := fun W hW => place_any gs g room first xs (first + xs.length) W hW
  rw [Int.natCast_add] at pl
  have PL := Lib.hid pl
  have H := Lib.hid h1
  generalize hp : (first + xs.length) % room = p at *
  have hpr : (p : Int) < (room : Int) := by omega
  have hp0 : (0 : Int) ≤ (p : Int) := by omega
  have HW := Lib.hid hW
  clear fin h hq rm hp pl h1 hb1 hW bb
  go_enter Try.func65, Try.ntmps65
  go_wp2_with fail
  rw [show w.alloc (.cells #[.int .i64 te, .slice tA tn tc] 92) = W from HW.out.symm]
  refine (RM.out _ H.out).mono ?_; rintro e w1 ⟨rfl, m1, rfl⟩
  go_wp2_with fail
  refine wp_region_still_tail 9 (by kernel_rfl) (by kernel_rfl) ?_
  change wpStill _ _ (W.drewN m1).drew (fun a' => wpList _ _ _ _ a' (W.drewN m1).drew) _ _
  simp only [List.take_succ_cons, List.take_zero, List.drop_succ_cons, List.drop_zero]
  repeat still_step
  still_call (PL.out _ ((H.out.drewN m1).drewN 1))
  repeat still_step
  refine wpStill_nil ?_
  go_wp2
  go_ret2
  obtain ⟨W, rfl, r1, r2⟩ := FIN.out m1 1
  exact ⟨rfl, r1, r2⟩

set_option maxRecDepth 100000 in
theorem put_full (gs g room first : Nat) (xs : List (Value × Value)) (te : Int) (tA : Option Addr) (tn tc : Nat) (w : World) (h : Ring w gs g room first xs) (hl : xs.length = room) :
    Calls Try.prog 65 #[.pointer (some ⟨g, 0, none⟩), .agg #[.int .i64 te, .slice tA tn tc]] w fun e w' => e = .returned (.tuple #[.int .i64 0, .int .i64 10]) ∧ Below w.heap.size w w' := by
  have hb1 : Below w.heap.size w (box w te tA tn tc) := (Below.refl _ w).alloc (Nat.le_refl _) _
  have h1 := h.new hb1
  have rm := fun W hW => room_any gs g room first xs W hW
  have e0 : (room : Int) - (xs.length : Int) = 0 := by omega
  rw [e0] at rm
  have RM := Lib.hid rm
  have H := Lib.hid h1
  have HB := Lib.hid hb1
  clear h rm e0 hl h1 hb1
  go_enter Try.func65, Try.ntmps65
  go_wp2_with fail
  refine (RM.out _ H.out).mono ?_; rintro e w1 ⟨rfl, m1, rfl⟩
  go_wp2
  go_ret2
  exact ⟨rfl, below_drewN HB.out m1⟩

set_option maxRecDepth 100000 in
set_option maxHeartbeats 1000000 in
theorem at_ok (gs g room first : Nat) (xs : List (Value × Value)) (t : Nat) (te : Int) (tA : Option Addr) (tn tc : Nat) (w : World) (h : Ring w gs g room first xs) (h1 : first ≤ t) (hx : xs[t - first]? = some (.int .i64 te, .slice tA tn tc)) :
    Calls Try.prog 69 #[.pointer (some ⟨g, 0, none⟩), .int .i64 (t : Int)] w fun e w' => e = .returned (.tuple #[.agg #[.int .i64 te, .slice tA tn tc], .int .i64 0]) ∧ Below w.heap.size w w' := by
  obtain ⟨W1, hW1⟩ : ∃ W1, W1 = box w 0 none 0 0 := ⟨_, rfl⟩
  obtain ⟨W, hW⟩ : ∃ W, W = box W1 0 none 0 0 := ⟨_, rfl⟩
  have hz1 : W1.heap.size = w.heap.size + 1 := by rw [hW1]; simp
  have hb1 : Below w.heap.size w W1 := by rw [hW1]; exact (Below.refl _ w).alloc (Nat.le_refl _) _
  have hb : Below w.heap.size w W := by rw [hW]; exact hb1.alloc (by omega) _
  have bb : Blk W w.heap.size 92 #[.int .i64 0, .slice none 0 0] := by rw [hW, hW1]; exact (Blk.new w _ _).alloc _
  replace h := h.new hb
  obtain ⟨hlt, hxe⟩ := List.getElem?_eq_some_iff.1 hx
  obtain ⟨cc, cc2⟩ := h.cell hlt
  rw [hxe, show first + (t - first) = t by omega] at cc cc2
  replace cc : W.cell? ⟨gs, t % room * 2, none⟩ = some (.int .i64 te) := cc
  replace cc2 : W.cell? ⟨gs, t % room * 2 + 1, none⟩ = some (.slice tA tn tc) := cc2
  have c0 := h.head.cell 0
  have c1 := h.head.cell 1
  have c2 := h.head.cell 2
  simp only [List.getElem?_toArray, List.getElem?_cons_succ, List.getElem?_cons_zero] at c0 c1 c2
  have d0 := bb.cell 0
  have d1 := bb.cell 1
  simp only [List.getElem?_toArray, List.getElem?_cons_succ, List.getElem?_cons_zero] at d0 d1
  have f0 := bb.frozen 0
  have f1 := bb.frozen 1
  have g1 : ¬ (t : Int) < (first : Int) := by omega
  have g2 : ¬ (t : Int) ≥ (first : Int) + (xs.length : Int) := by omega
  have hm : t % room < room := Nat.mod_lt _ h.r1
  have r2 := h.r2
  have pl := fun W hW => place_any gs g room first xs t W hW
  have PL := Lib.hid pl
  have H := Lib.hid h
  have FIN := Lib.hid (show ∀ m, Below w.heap.size w (((W.drewN m).setCell ⟨w.heap.size, 0, none⟩ (.int .i64 te)).setCell ⟨w.heap.size, 1, none⟩ (.slice tA tn tc)) from fun m => ((below_drewN hb m).setCell (Nat.le_refl _) _).setCell (Nat.le_refl _) _)
  have R0 := Lib.hid (show ∀ m, Blk (((W.drewN m).setCell ⟨w.heap.size, 0, none⟩ (.int .i64 te)).setCell ⟨w.heap.size, 1, none⟩ (.slice tA tn tc)) w.heap.size 92 #[.int .i64 te, .slice tA tn tc] from fun m => ((bb.drewN m).put 0 _).put 1 _)
  generalize hp : t % room = p at *
  have hpr : (p : Int) < (room : Int) := by omega
  have hp0 : (0 : Int) ≤ (p : Int) := by omega
  generalize hn : (first : Int) + (xs.length : Int) = nx at *
  have HW := Lib.hid (And.intro hW hW1)
  clear h hp pl hx hxe hlt hn hW hW1 hb hb1 hz1 bb
  go_enter Try.func69, Try.ntmps69
  go_upto_region 4 with fail
  rw [show (w.alloc (.cells #[.int .i64 0, .slice none 0 0] 92)).alloc (.cells #[.int .i64 0, .slice none 0 0] 92) = W by rw [HW.out.1, HW.out.2]]
  go_upto_region 6 with fail
  refine wp_region_still_tail 9 (by kernel_rfl) (by kernel_rfl) ?_
  change wpStill _ _ (W).drew (fun a' => wpList _ _ _ _ a' (W).drew) _ _
  simp only [List.take_succ_cons, List.take_zero, List.drop_succ_cons, List.drop_zero]
  repeat still_step
  still_call (PL.out _ (H.out.drewN 1))
  repeat still_step
  refine wpStill_nil ?_
  go_wp2
  refine bodyPost_ret (v := .tuple #[.agg #[.int .i64 te, .slice tA tn tc], .int .i64 0]) ?_ rfl ?_
  · exact results_cell_tmp Try.results69 _ _ w.heap.size 92 _ (0, 0) _ rfl (R0.out 1) Try.underlying92 rfl tinfo
  · exact ⟨rfl, FIN.out 1⟩

set_option maxRecDepth 100000 in
set_option maxHeartbeats 1000000 in
theorem at_empty (gs g room first : Nat) (w : World) (h : Ring w gs g room first []) :
    Calls Try.prog 69 #[.pointer (some ⟨g, 0, none⟩), .int .i64 (first : Int)] w fun e w' => e = .returned (.tuple #[.agg #[.int .i64 0, .slice none 0 0], .int .i64 11]) ∧ Below w.heap.size w w' := by
  obtain ⟨W1, hW1⟩ : ∃ W1, W1 = box w 0 none 0 0 := ⟨_, rfl⟩
  obtain ⟨W, hW⟩ : ∃ W, W = box W1 0 none 0 0 := ⟨_, rfl⟩
  have hz1 : W1.heap.size = w.heap.size + 1 := by rw [hW1]; simp
  have hb1 : Below w.heap.size w W1 := by rw [hW1]; exact (Below.refl _ w).alloc (Nat.le_refl _) _
  have hb : Below w.heap.size w W := by rw [hW]; exact hb1.alloc (by omega) _
  have bb : Blk W w.heap.size 92 #[.int .i64 0, .slice none 0 0] := by rw [hW, hW1]; exact (Blk.new w _ _).alloc _
  have b2 : Blk W (w.heap.size + 1) 92 #[.int .i64 0, .slice none 0 0] := by rw [hW, ← hz1]; exact Blk.new W1 _ _
  replace h := h.new hb
  have c1 := h.head.cell 1
  have c2 := h.head.cell 2
  simp only [List.getElem?_toArray, List.getElem?_cons_succ, List.getElem?_cons_zero] at c1 c2
  have d0 := bb.cell 0
  have d1 := bb.cell 1
  have d2 := b2.cell 0
  have d3 := b2.cell 1
  simp only [List.getElem?_toArray, List.getElem?_cons_succ, List.getElem?_cons_zero] at d0 d1 d2 d3
  have f0 := bb.frozen 0
  have f1 := bb.frozen 1
  have FIN := Lib.hid (show Below w.heap.size w ((W.setCell ⟨w.heap.size, 0, none⟩ (.int .i64 0)).setCell ⟨w.heap.size, 1, none⟩ (.slice none 0 0)) from (hb.setCell (Nat.le_refl _) _).setCell (Nat.le_refl _) _)
  have R0 := Lib.hid (show Blk ((W.setCell ⟨w.heap.size, 0, none⟩ (.int .i64 0)).setCell ⟨w.heap.size, 1, none⟩ (.slice none 0 0)) w.heap.size 92 #[.int .i64 0, .slice none 0 0] from (bb.put 0 _).put 1 _)
  have g2 : (first : Int) ≥ (first : Int) + (([] : List (Value × Value)).length : Int) := by simp
  have g1 : ¬ (first : Int) < (first : Int) := by omega
  generalize hn : (first : Int) + (([] : List (Value × Value)).length : Int) = nx at *
  have HW := Lib.hid (And.intro hW hW1)
  clear h hn hW hW1 hb hb1 hz1 bb b2
  go_enter Try.func69, Try.ntmps69
  go_upto_region 4 with fail
  rw [show (w.alloc (.cells #[.int .i64 0, .slice none 0 0] 92)).alloc (.cells #[.int .i64 0, .slice none 0 0] 92) = W by rw [HW.out.1, HW.out.2]]
  go_wp2
  refine bodyPost_ret (v := .tuple #[.agg #[.int .i64 0, .slice none 0 0], .int .i64 11]) ?_ rfl ?_
  · exact results_cell_tmp Try.results69 _ _ w.heap.size 92 _ (0, 0) _ rfl R0.out Try.underlying92 rfl tinfo
  · exact ⟨rfl, FIN.out⟩

set_option maxRecDepth 100000 in
set_option maxHeartbeats 1000000 in
theorem take_empty (gs g room first : Nat) (w : World) (h : Ring w gs g room first []) :
    Calls Try.prog 38 #[.pointer (some ⟨g, 0, none⟩)] w fun e w' => e = .returned (.tuple #[.agg #[.int .i64 0, .slice none 0 0], .int .i64 11]) ∧ Below w.heap.size w w' := by
  obtain ⟨W1, hW1⟩ : ∃ W1, W1 = box w 0 none 0 0 := ⟨_, rfl⟩
  obtain ⟨W, hW⟩ : ∃ W, W = box W1 0 none 0 0 := ⟨_, rfl⟩
  have hz1 : W1.heap.size = w.heap.size + 1 := by rw [hW1]; simp
  have hz : W.heap.size = w.heap.size + 1 + 1 := by rw [hW]; simp [hz1]
  have hb1 : Below w.heap.size w W1 := by rw [hW1]; exact (Below.refl _ w).alloc (Nat.le_refl _) _
  have hb : Below w.heap.size w W := by rw [hW]; exact hb1.alloc (by omega) _
  have bb : Blk W w.heap.size 92 #[.int .i64 0, .slice none 0 0] := by rw [hW, hW1]; exact (Blk.new w _ _).alloc _
  have b2 : Blk W (w.heap.size + 1) 92 #[.int .i64 0, .slice none 0 0] := by rw [hW, ← hz1]; exact Blk.new W1 _ _
  replace h := h.new hb
  have c1 := h.head.cell 1
  simp only [List.getElem?_toArray, List.getElem?_cons_succ, List.getElem?_cons_zero] at c1
  have AT := Lib.hid (at_empty gs g room first W h)
  have BB := Lib.hid bb
  have B2 := Lib.hid b2
  have HB := Lib.hid hb
  have HZ := Lib.hid hz
  have HW := Lib.hid (And.intro hW hW1)
  clear h hW hW1 hb hb1 hz1 hz bb b2
  go_enter Try.func38, Try.ntmps38
  go_upto_region 2 with fail
  rw [show (w.alloc (.cells #[.int .i64 0, .slice none 0 0] 92)).alloc (.cells #[.int .i64 0, .slice none 0 0] 92) = W by rw [HW.out.1, HW.out.2]]
  go_wp2_with fail
  refine AT.out.mono ?_; rintro e w1 ⟨rfl, b1⟩
  obtain ⟨W3, hW3⟩ : ∃ W3, W3 = box w1 0 none 0 0 := ⟨_, rfl⟩
  have hbW : Below W.heap.size W W3 := by
    have hs := b1.size
    rw [hW3]
    exact b1.alloc hs _
  have bb3 := BB.out.older (older_below hbW)
  have b23 := B2.out.older (older_below hbW)
  have d0 := bb3.cell 0
  have d1 := bb3.cell 1
  have d2 := b23.cell 0
  have d3 := b23.cell 1
  simp only [List.getElem?_toArray, List.getElem?_cons_succ, List.getElem?_cons_zero] at d0 d1 d2 d3
  have f0 := bb3.frozen 0
  have f1 := bb3.frozen 1
  have hb3 : Below w.heap.size w W3 := HB.out.trans (hbW.mono HB.out.size)
  have FIN := Lib.hid (show Below w.heap.size w ((W3.setCell ⟨w.heap.size, 0, none⟩ (.int .i64 0)).setCell ⟨w.heap.size, 1, none⟩ (.slice none 0 0)) from (hb3.setCell (Nat.le_refl _) _).setCell (Nat.le_refl _) _)
  have R0 := Lib.hid (show Blk ((W3.setCell ⟨w.heap.size, 0, none⟩ (.int .i64 0)).setCell ⟨w.heap.size, 1, none⟩ (.slice none 0 0)) w.heap.size 92 #[.int .i64 0, .slice none 0 0] from (bb3.put 0 _).put 1 _)
  have HW3 := Lib.hid hW3
  clear hbW hb3 bb3 b23 b1 hW3
  go_upto_region 5 with fail
  rw [show w1.alloc (.cells #[.int .i64 0, .slice none 0 0] 92) = W3 from HW3.out.symm]
  go_wp2
  refine bodyPost_ret (v := .tuple #[.agg #[.int .i64 0, .slice none 0 0], .int .i64 11]) ?_ rfl ?_
  · exact results_cell_tmp Try.results38 _ _ w.heap.size 92 _ (0, 0) _ rfl R0.out Try.underlying92 rfl tinfo
  · exact ⟨rfl, FIN.out⟩

set_option maxRecDepth 100000 in
set_option maxHeartbeats 2000000 in
theorem take_ok (gs g room first : Nat) (xs : List (Value × Value)) (te : Int) (tA : Option Addr) (tn tc : Nat) (w : World) (h : Ring w gs g room first ((.int .i64 te, .slice tA tn tc) :: xs)) :
    Calls Try.prog 38 #[.pointer (some ⟨g, 0, none⟩)] w fun e w' => e = .returned (.tuple #[.agg #[.int .i64 te, .slice tA tn tc], .int .i64 0]) ∧ Ring w' gs g room (first + 1) xs ∧ Chg w w' (fun k => k = gs ∨ k = g) := by
  obtain ⟨W1, hW1⟩ : ∃ W1, W1 = box w 0 none 0 0 := ⟨_, rfl⟩
  obtain ⟨W, hW⟩ : ∃ W, W = box W1 0 none 0 0 := ⟨_, rfl⟩
  have hz1 : W1.heap.size = w.heap.size + 1 := by rw [hW1]; simp
  have hb1 : Below w.heap.size w W1 := by rw [hW1]; exact (Below.refl _ w).alloc (Nat.le_refl _) _
  have hb : Below w.heap.size w W := by rw [hW]; exact hb1.alloc (by omega) _
  have bb : Blk W w.heap.size 92 #[.int .i64 0, .slice none 0 0] := by rw [hW, hW1]; exact (Blk.new w _ _).alloc _
  have b2 : Blk W (w.heap.size + 1) 92 #[.int .i64 0, .slice none 0 0] := by rw [hW, ← hz1]; exact Blk.new W1 _ _
  have hgw : g < w.heap.size := h.head.lt
  have hgsw : gs < w.heap.size := by have := h.lt; omega
  replace h := h.new hb
  have c1 := h.head.cell 1
  simp only [List.getElem?_toArray, List.getElem?_cons_succ, List.getElem?_cons_zero] at c1
  have AT := Lib.hid (at_ok gs g room first _ first te tA tn tc W h (Nat.le_refl _) (by simp))
  have BB := Lib.hid bb
  have B2 := Lib.hid b2
  have HB := Lib.hid hb
  have H := Lib.hid h
  have HG := Lib.hid (And.intro hgw hgsw)
  have HW := Lib.hid (And.intro hW hW1)
  clear h hW hW1 hb hb1 hz1 bb b2 hgw hgsw
  go_enter Try.func38, Try.ntmps38
  go_upto_region 2 with fail
  rw [show (w.alloc (.cells #[.int .i64 0, .slice none 0 0] 92)).alloc (.cells #[.int .i64 0, .slice none 0 0] 92) = W by rw [HW.out.1, HW.out.2]]
  go_wp2_with fail
  refine AT.out.mono ?_; rintro e w1 ⟨rfl, b1⟩
  have hs1 := b1.size
  have hszW : w.heap.size + 1 < w1.heap.size := by have := B2.out.lt; omega
  obtain ⟨W3, hW3⟩ : ∃ W3, W3 = box w1 te tA tn tc := ⟨_, rfl⟩
  have hbW : Below W.heap.size W W3 := by
    rw [hW3]
    exact b1.alloc hs1 _
  have b53 : Blk W3 w1.heap.size 92 #[.int .i64 te, .slice tA tn tc] := by
    rw [hW3]; exact Blk.new w1 _ _
  have bb3 := BB.out.older (older_below hbW)
  have b23 := B2.out.older (older_below hbW)
  have h3 := H.out.new hbW
  have hb3 : Below w.heap.size w W3 := HB.out.trans (hbW.mono HB.out.size)
  have d2 := b23.cell 0
  have d3 := b23.cell 1
  have c0 := h3.head.cell 0
  have c1 := h3.head.cell 1
  simp only [List.getElem?_toArray, List.getElem?_cons_succ, List.getElem?_cons_zero] at d2 d3 c0 c1
  obtain ⟨u, v, cu, cv⟩ := h3.place first
  have ft := h3.thaw (first % room * 2)
  have ft2 := h3.thaw (first % room * 2 + 1)
  have fg := h3.head.frozen 1
  have hne : gs ≠ g := Nat.ne_of_lt h3.lt
  have hm : first % room < room := Nat.mod_lt _ h3.r1
  have r2 := h3.r2
  have sm := h3.small
  have HG' := HG.out
  have fin : ∃ W4, W4 = (((W3.drewN 1).setCell ⟨gs, first % room * 2, none⟩ (.int .i64 0)).setCell ⟨gs, first % room * 2 + 1, none⟩ (.slice none 0 0)).setCell ⟨g, 1, none⟩ (.int .i64 ((first : Int) + 1)) ∧ Blk W4 w1.heap.size 92 #[.int .i64 te, .slice tA tn tc] ∧ Blk W4 w.heap.size 92 #[.int .i64 0, .slice none 0 0] ∧ Ring W4 gs g room (first + 1) xs ∧ Chg w W4 (fun k => k = gs ∨ k = g) := by
    refine ⟨_, rfl, ?_, ?_, h3.take (.int .i64 0) (.slice none 0 0) 1, ?_⟩
    · exact (((b53.drewN 1).far (p := ⟨gs, _, none⟩) (by show w1.heap.size ≠ gs; omega) _).far (p := ⟨gs, _, none⟩) (by show w1.heap.size ≠ gs; omega) _).far (p := ⟨g, _, none⟩) (by show w1.heap.size ≠ g; omega) _
    · exact (((bb3.drewN 1).far (p := ⟨gs, _, none⟩) (by show w.heap.size ≠ gs; omega) _).far (p := ⟨gs, _, none⟩) (by show w.heap.size ≠ gs; omega) _).far (p := ⟨g, _, none⟩) (by show w.heap.size ≠ g; omega) _
    · exact ((((Chg.of_new hb3 _).drewN 1).trans (Chg.set _ _ _ (.inl rfl))).trans (Chg.set _ _ _ (.inl rfl))).trans (Chg.set _ _ _ (.inr rfl))
  obtain ⟨W4, hW4, q5, q0, q3, q4⟩ := fin
  have e0 := q5.cell 0
  have e1 := q5.cell 1
  have e2 := q0.cell 0
  have e3 := q0.cell 1
  simp only [List.getElem?_toArray, List.getElem?_cons_succ, List.getElem?_cons_zero] at e0 e1 e2 e3
  have k0 := q0.frozen 0
  have k1 := q0.frozen 1
  have hgz : ¬ (w.heap.size = gs ∨ w.heap.size = g) := by omega
  have FIN := Lib.hid (show Chg w ((W4.setCell ⟨w.heap.size, 0, none⟩ (.int .i64 te)).setCell ⟨w.heap.size, 1, none⟩ (.slice tA tn tc)) (fun k => k = gs ∨ k = g) ∧ Ring ((W4.setCell ⟨w.heap.size, 0, none⟩ (.int .i64 te)).setCell ⟨w.heap.size, 1, none⟩ (.slice tA tn tc)) gs g room (first + 1) xs from by
    have kk : Chg W4 ((W4.setCell ⟨w.heap.size, 0, none⟩ (.int .i64 te)).setCell ⟨w.heap.size, 1, none⟩ (.slice tA tn tc)) (fun k => k = w.heap.size) := Chg.trans (w' := W4.setCell ⟨w.heap.size, 0, none⟩ (.int .i64 te)) (Chg.set W4 0 _ rfl) (Chg.set _ 1 _ rfl)
    refine ⟨⟨kk.os.trans q4.os, kk.tape.trans q4.tape, kk.output.trans q4.output, Nat.le_trans q4.size kk.size, fun i hi hn => (kk.block i (Nat.lt_of_lt_of_le hi q4.size) (fun e => by have e' : i = w.heap.size := e; omega)).trans (q4.block i hi hn)⟩, q3.chg kk (by show ¬ gs = w.heap.size; omega) (by show ¬ g = w.heap.size; omega)⟩)
  have R0 := Lib.hid (show Blk ((W4.setCell ⟨w.heap.size, 0, none⟩ (.int .i64 te)).setCell ⟨w.heap.size, 1, none⟩ (.slice tA tn tc)) w.heap.size 92 #[.int .i64 te, .slice tA tn tc] from (q0.put 0 _).put 1 _)
  have PL := Lib.hid (fun W hW => place_any gs g room first ((.int .i64 te, .slice tA tn tc) :: xs) first W hW)
  have H3 := Lib.hid h3
  generalize hp : first % room = p at *
  have hpr : (p : Int) < (room : Int) := by omega
  have hp0 : (0 : Int) ≤ (p : Int) := by omega
  have HW3 := Lib.hid hW3
  have HW4 := Lib.hid hW4
  clear hbW hb3 bb3 b23 b53 b1 hW3 h3 hs1 hszW HG' hW4 q5 q0 q3 q4 hgz
  go_upto_region 5 with fail
  rw [show w1.alloc (.cells #[.int .i64 te, .slice tA tn tc] 92) = W3 from HW3.out.symm]
  go_upto_region 7 with fail
  refine wp_region_still_tail 12 (by kernel_rfl) (by kernel_rfl) ?_
  change wpStill _ _ (W3).drew (fun a' => wpList _ _ _ _ a' (W3).drew) _ _
  simp only [List.take_succ_cons, List.take_zero, List.drop_succ_cons, List.drop_zero]
  repeat still_step
  still_call (PL.out _ (H3.out.drewN 1))
  repeat still_step
  refine wpStill_nil ?_
  go_upto_region 9 with fail
  rw [show (((W3.setCell ⟨gs, p * 2, none⟩ (.int .i64 0)).setCell ⟨gs, p * 2 + 1, none⟩ (.slice none 0 0)).setCell ⟨g, 1, none⟩ (.int .i64 ((first : Int) + 1))).drew = W4 from HW4.out.symm]
  go_wp2
  refine bodyPost_ret (v := .tuple #[.agg #[.int .i64 te, .slice tA tn tc], .int .i64 0]) ?_ rfl ?_
  · exact results_cell_tmp Try.results38 _ _ w.heap.size 92 _ (0, 0) _ rfl R0.out Try.underlying92 rfl tinfo
  · exact ⟨rfl, FIN.out.2, FIN.out.1⟩

end Go.Proofs.Ytlilfblnlpjkcaa.RgT
