/- Package tcb: number, next, expected, window, plain, arm, wake, send, withBytes, pay. Conditions: those that each states. -/
import Derived.Test.YtldmcoagjgeeoaaTc
import Derived.Test.YtldmcoagjgeeoaaRa1
import Derived.Test.YtldmcoagjgeeoaaTail
import Derived.RegionTactic
import Derived.BigRegion
import Derived.WalkMore
import Derived.StillTailTactics
import Derived.Deep.QuietTactic
import Derived.BigQuiet
import Derived.Deep.OwnRows
namespace Go.Proofs.Ytldmcoagjgeeoaa.Tc
open Go.ChangeShapes Go.WideShapes Go.ChangeAt Go.RowKit Go.Deep Rk Rv
set_option linter.unusedVariables false
set_option linter.unusedSimpArgs false

section
variable {w0 w w' : World} {P : Pl} {T : TC} {A : Option Addr} {c : Nat} {l : List OutV}

theorem number_any (h : CA w P T) (p : Int) : Calls Try.prog 39 #[.pointer (some ⟨P.g, 0, none⟩), .int .i64 p] w fun e w' => e = .returned (.int .u32 (numR T p)) ∧ w' = w := by
  have c1 := h.c1
  have E := Lib.hid (show Sq.rd (T.own + p) = numR T p from rfl)
  clear h
  go_enter Try.func39, Try.ntmps39
  go_wp2_with fail
  refine (Sq.add_any _ p w).mono ?_; rintro e w' ⟨rfl, rfl⟩
  rw [E.out]
  go_wp2
  go_ret
  exact ⟨rfl, rfl⟩

theorem rdy_R (h : CA w P T) : (Ra.rdy T.xs : Int) ≤ T.room ∧ T.room ≤ 2048 ∧ 1 ≤ T.room ∧ (T.N : Int) ≤ 1099511627776 := by
  have h1 := Ra.rdy_le T.xs
  have h2 := h.buf.len
  have h3 := h.buf.r1
  have h4 := h.buf.r2
  have h5 := h.room
  have h6 := h.buf.small
  omega

theorem next_any (h : CA w P T) (hd : T.done = false) : Calls Try.prog 46 #[.pointer (some ⟨P.g, 0, none⟩)] w fun e w' => e = .returned (.int .i64 (nextR T)) ∧ ∃ m, w' = w.drewN m := by
  have c11 := h.c11
  have c12 := h.c12
  rw [hd] at c12
  obtain ⟨r1, r2, r3, r4⟩ := rdy_R h
  have N1 := Lib.hid (fun n => Ra.next_any (h.buf.drewN n))
  have R1 := Lib.hid (fun n => Ra.ready_any (h.buf.drewN n))
  obtain ⟨q, hq⟩ : ∃ q : Int, q = nextR T := ⟨_, rfl⟩
  have x1 : IntKind.i64.wrap ((T.N : Int) + (Ra.rdy T.xs : Int)) = q := by rw [hq]; exact IntWalk.i64_in _ (by omega)
  rw [← hq]
  clear h hq
  go_enter Try.func46, Try.ntmps46
  go_wp2_with fail
  go_quiet (first
    | (go_at_call 56; exact Calls.quiet_of_same (N1.out _))
    | (go_at_call 53; exact Calls.quiet_of (R1.out _)))
  go_wp2
  go_ret
  exact ⟨rfl, _, rfl⟩

theorem expected_any (h : CA w P T) (hd : T.done = false) : Calls Try.prog 42 #[.pointer (some ⟨P.g, 0, none⟩)] w fun e w' => e = .returned (.int .u32 (expR T)) ∧ ∃ m, w' = w.drewN m := by
  have c2 := h.c2
  have N1 := Lib.hid (fun n => next_any (h.drewN n) hd)
  have S1 := Lib.hid (fun W => Sq.add_any T.peer (nextR T) W)
  obtain ⟨q, hq⟩ : ∃ q, expR T = q := ⟨_, rfl⟩
  rw [show Sq.rd (T.peer + nextR T) = q from hq] at S1
  rw [hq]
  clear h hq
  go_enter Try.func42, Try.ntmps42
  go_wp2_with fail
  go_quiet (first
    | (go_at_call 46; exact Calls.quiet_of (N1.out _))
    | (go_at_call 10; exact Calls.quiet_of_same (S1.out _)))
  go_wp2
  go_ret
  exact ⟨rfl, _, rfl⟩

theorem window_any (h : CA w P T) : Calls Try.prog 34 #[.pointer (some ⟨P.g, 0, none⟩)] w fun e w' => e = .returned (.int .i64 (winR T)) ∧ ∃ m, w' = w.drewN m := by
  have c10 := h.c10
  have c11 := h.c11
  obtain ⟨r1, r2, r3, r4⟩ := rdy_R h
  have R1 := Lib.hid (fun n => Ra.ready_any (h.buf.drewN n))
  obtain ⟨q, hq⟩ : ∃ q : Int, q = winR T := ⟨_, rfl⟩
  have x1 : IntKind.i64.wrap (T.room - (Ra.rdy T.xs : Int)) = q := by rw [hq]; exact IntWalk.i64_in _ (by omega)
  rw [← hq]
  clear h hq
  go_enter Try.func34, Try.ntmps34
  go_wp2_with fail
  go_quiet (first
    | (go_at_call 53; exact Calls.quiet_of (R1.out _)))
  go_wp2
  go_ret
  exact ⟨rfl, _, rfl⟩

theorem out_info : (Try.prog.info? 55).map (·.size) = some 7 := by kernel_rfl

set_option maxRecDepth 100000 in
theorem plain_any (h : CA w P T) (hd : T.done = false) : Calls Try.prog 36 #[.pointer (some ⟨P.g, 0, none⟩)] w fun e w' => e = .returned (.agg (outA (plainR T))) ∧ Below w.heap.size w w' := by
  obtain ⟨W, hW⟩ : ∃ W, w.alloc (.cells (outA ⟨0, 0, 0, 0, 0, 0, 0⟩) 55) = W := ⟨_, rfl⟩
  have b0 : Below w.heap.size w W := by rw [← hW]; exact (Below.refl w.heap.size w).alloc (Nat.le_refl _) _
  have RB := Lib.hid (show Blk W w.heap.size 55 (outA ⟨0, 0, 0, 0, 0, 0, 0⟩) from by rw [← hW]; exact Blk.new w _ _)
  have h1 := h.new b0
  have B0 := Lib.hid b0
  have c4 := h1.c4
  have HW := Lib.hid hW
  have N1 := Lib.hid (number_any h1 T.nxt)
  have E1 := Lib.hid (expected_any h1 hd)
  have W1 := Lib.hid (fun n => window_any (h1.drewN n))
  have EQ := Lib.hid (show plainR T = ⟨16, numR T T.nxt, expR T, winR T, 0, 0, 0⟩ from rfl)
  have KZ := Lib.hid (fun m cs => below_setRow (below_drewN B0.out m) (Nat.le_refl _) cs)
  obtain ⟨q, hq⟩ : ∃ q, plainR T = q := ⟨_, rfl⟩
  rw [hq] at EQ ⊢
  generalize numR T T.nxt = qn at *
  generalize expR T = qe at *
  generalize winR T = qw at *
  clear h h1 hW b0 hq
  rw [EQ.out]
  go_enter Try.func36, Try.ntmps36
  go_upto_region 1 with fail
  rw [HW.out]
  go_wp2_with fail
  refine N1.out.mono ?_; rintro e w' ⟨rfl, rfl⟩
  go_wp2_with fail
  refine E1.out.mono ?_; rintro e w' ⟨rfl, m1, rfl⟩
  go_wp2_with fail
  refine (W1.out m1).mono ?_; rintro e w' ⟨rfl, m2, rfl⟩
  rw [World.drewN_drewN]
  generalize m1 + m2 = m at *
  go_wp2_with (first
    | (refine wpList_store_row rfl 55 (.tmp 2) (.tmp 13) rfl w.heap.size (outA ⟨16, qn, qe, qw, 0, 0, 0⟩) rfl rfl 55 _ (RB.out.drewN m) out_info rfl (by simp [Value.oneCell']) ?_)
    | fail)
  refine bodyPost_ret (v := .agg (outA ⟨16, qn, qe, qw, 0, 0, 0⟩)) ?_ rfl ?_
  · exact results_cell_row Try.results36 _ _ w.heap.size 55 _ (0, 0) _ rfl ((RB.out.drewN m).row _) Try.underlying55 rfl out_info
  exact ⟨rfl, KZ.out m _⟩

theorem wait_at {g : Nat} {k : Rt.Clk} (h : Rt.At w g k) :
    Calls Try.prog 38 #[.pointer (some ⟨g, 0, none⟩)] w fun e w' => e = .returned (.int .i64 k.w) ∧ w' = w := by
  have c3 := (Blk.cell h 3).trans (show _ = some (.int .i64 k.w) from rfl)
  clear h
  go_enter Try.func38, Try.ntmps38
  go_wp2
  go_ret
  exact ⟨rfl, rfl⟩

theorem arm_any (h : CA w P T) : Calls Try.prog 22 #[.pointer (some ⟨P.g, 0, none⟩)] w fun e w' => e = .returned (.tuple #[]) ∧ CA w' P (armR T) ∧ Chg w w' P.In := by
  have c17 := h.c17
  have c14 := h.c14
  have f14 := h.fz 14
  have W1 := Lib.hid (wait_at h.clk)
  have F := Lib.hid (show CA (w.setCell ⟨P.g, 14, none⟩ (.int .i64 T.c.w)) P (armR T) ∧ Chg w (w.setCell ⟨P.g, 14, none⟩ (.int .i64 T.c.w)) P.In from ⟨h.set 14 _ rfl rfl rfl rfl rfl, set_in _ _ _ _⟩)
  clear h
  go_enter Try.func22, Try.ntmps22
  go_wp2_with fail
  refine W1.out.mono ?_; rintro e w' ⟨rfl, rfl⟩
  go_wp2
  go_end0
  exact ⟨rfl, F.out⟩

theorem wake_any (h : CA w P T) : Calls Try.prog 50 #[.pointer (some ⟨P.g, 0, none⟩)] w fun e w' => e = .returned (.tuple #[]) ∧ CA w' P (wakeR T) ∧ Chg w w' P.In := by
  have c14 := h.c14
  have A1 := Lib.hid (arm_any h)
  have H := Lib.hid h
  by_cases h0 : T.tm = 0
  · have E := Lib.hid (show wakeR T = armR T from if_pos h0)
    rw [h0] at c14
    rw [E.out]
    clear h
    go_enter Try.func50, Try.ntmps50
    go_wp2_with fail
    refine A1.out.mono ?_; rintro e w' ⟨rfl, h1⟩
    have H1 := Lib.hid h1
    clear h1
    go_wp2
    go_end0
    exact ⟨rfl, H1.out⟩
  · have E := Lib.hid (show wakeR T = T from if_neg h0)
    rw [E.out]
    clear h
    go_enter Try.func50, Try.ntmps50
    go_wp2
    go_end0
    exact ⟨rfl, H.out, Chg.refl _ _⟩
end
end Go.Proofs.Ytldmcoagjgeeoaa.Tc
