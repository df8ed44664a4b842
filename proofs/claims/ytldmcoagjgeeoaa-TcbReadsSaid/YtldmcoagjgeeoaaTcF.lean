/- Package tcb: fits, turnAway, keep, take, of segments with no flag but ACK. Conditions: those that each states. -/
import Derived.Test.YtldmcoagjgeeoaaTcP
import Derived.Test.YtldmcoagjgeeoaaRa2
import Derived.Deep.DeepCutAuto
namespace Go.Proofs.Ytldmcoagjgeeoaa.Tc
open Go.ChangeShapes Go.WideShapes Go.ChangeAt Go.RowKit Go.Deep Rk Rv
set_option linter.unusedVariables false
set_option linter.unusedSimpArgs false

/-- A segment with no flag but ACK, as a value. -/
abbrev sv (q a wi : Int) (A : Option Addr) (n c : Nat) : Array Value := #[.int .u16 0, .int .u16 0, .int .u32 q, .int .u32 a, .int .i64 16, .int .u16 wi, .int .i64 0, .slice A n c]
theorem seg_info : (Try.prog.info? 35).map (·.size) = some 8 := by kernel_rfl

section
variable {w : World} {P : Pl} {T : TC}
theorem room_16 (q a wi : Int) (A : Option Addr) (n c : Nat) (hn : n ≤ 1000000) (w : World) :
    Calls Try.prog 41 #[.agg (sv q a wi A n c)] w fun e w' => e = .returned (.int .i64 (n : Int)) ∧ Below w.heap.size w w' := by
  have B1 := Lib.hid ((Below.refl w.heap.size w).alloc (Nat.le_refl _) (.cells (sv q a wi A n c) 35))
  have K1 := Lib.hid (Blk.new w 35 (sv q a wi A n c))
  have b2 : bits .and .i64 16 2 = 0 := by decide +kernel
  have b1 : bits .and .i64 16 1 = 0 := by decide +kernel
  go_enter Try.func41, Try.ntmps41
  go_upto_region 1 with fail
  generalize w.alloc (.cells (sv q a wi A n c) 35) = W at *
  have z4 := (K1.out.cell 4).trans (show _ = some (.int .i64 16) from rfl)
  have z7 := (K1.out.cell 7).trans (show _ = some (.slice A n c) from rfl)
  go_wp2
  go_ret
  exact ⟨rfl, B1.out⟩

def fitsR (T : TC) (q : Int) (n : Nat) : Bool :=
  if n = 0 ∧ winR T = 0 then decide (q = expR T) else Sq.wi q (expR T) (winR T) || (decide (0 < n) && Sq.wi (Sq.rd (q + ((n : Int) - 1))) (expR T) (winR T))

theorem seg_load {w : World} {g : Nat} {cs : Array Value} (h : Blk w g 35 cs) (hs : cs.size = 8) : (Instr.loadAt 35 (.pointer (some ⟨g, 0, none⟩))).run Try.prog w = .ok (.agg cs) w := by
  have := run_loadVar_row (P := Try.prog) w g 35 35 cs (0, 0) _ h Try.underlying35 rfl (by rw [hs]; exact seg_info)
  simp only [Instr.loadAt, Instr.sureAddr, Sem.run_bind, Sem.run_pure, Result.andThen_ok]
  exact this

set_option maxRecDepth 100000 in
theorem fits_any (h : CA w P T) (hd : T.done = false) (q a wi : Int) (A : Option Addr) (n c : Nat) (hn : n ≤ 1000000) :
    Calls Try.prog 25 #[.pointer (some ⟨P.g, 0, none⟩), .agg (sv q a wi A n c)] w fun e w' => e = .returned (.bool (fitsR T q n)) ∧ Below w.heap.size w w' := by
  obtain ⟨W, hW⟩ : ∃ W, w.alloc (.cells (sv q a wi A n c) 35) = W := ⟨_, rfl⟩
  have b0 : Below w.heap.size w W := by rw [← hW]; exact (Below.refl w.heap.size w).alloc (Nat.le_refl _) _
  have KB := Lib.hid (show Blk W w.heap.size 35 (sv q a wi A n c) from by rw [← hW]; exact Blk.new w _ _)
  have B0 := Lib.hid b0
  have HW := Lib.hid hW
  have RM := Lib.hid (fun X => room_16 q a wi A n c hn X)
  have h1 := h.new b0
  have EX := Lib.hid (fun X (k : Below W.heap.size W X) => expected_any (h1.new k) hd)
  have WN := Lib.hid (fun X (k : Below W.heap.size W X) => window_any (h1.new k))
  have HN := Lib.hid hn
  have E := Lib.hid (show fitsR T q n = if n = 0 ∧ winR T = 0 then decide (q = expR T) else Sq.wi q (expR T) (winR T) || (decide (0 < n) && Sq.wi (Sq.rd (q + ((n : Int) - 1))) (expR T) (winR T)) from rfl)
  obtain ⟨r, hr⟩ : ∃ r, fitsR T q n = r := ⟨_, rfl⟩
  rw [hr] at E ⊢
  generalize expR T = qe at *
  generalize winR T = qw at *
  clear h h1 hW b0 hr
  go_enter Try.func25, Try.ntmps25
  go_upto_region 1 with fail
  rw [HW.out]
  go_wp2_with (first
    | (refine wpList_load_row rfl 35 (.tmp 3) rfl w.heap.size rfl 35 _ (0, 0) _ KB.out Try.underlying35 rfl seg_info ?_)
    | fail)
  refine (RM.out W).mono ?_; rintro e w1 ⟨rfl, k1⟩
  have K1 := Lib.hid k1
  clear k1
  go_wp2_with fail
  refine (EX.out w1 K1.out).mono ?_; rintro e w2 ⟨rfl, m1, rfl⟩
  go_wp2_with fail
  refine (WN.out _ (below_drewN K1.out m1)).mono ?_; rintro e w3 ⟨rfl, m2, rfl⟩
  rw [World.drewN_drewN]
  have K2 := Lib.hid (below_drewN K1.out (m1 + m2))
  generalize w1.drewN (m1 + m2) = w3 at *
  have KB3 := Lib.hid (KB.out.below K2.out KB.out.lt)
  have B3 := Lib.hid (B0.out.trans (K2.out.mono B0.out.size))
  have z2 := (KB3.out.cell 2).trans (show _ = some (.int .u32 q) from rfl)
  clear K1 K2 KB B0 RM EX WN
  by_cases h0 : n = 0
  · subst h0
    by_cases h1 : qw = 0
    · rw [if_pos ⟨rfl, h1⟩] at E
      subst h1
      go_wp2
      go_ret
      exact ⟨by rw [E.out]; rfl, B3.out⟩
    · rw [if_neg (fun x => h1 x.2), show decide (0 < 0) = false from rfl, Bool.false_and, Bool.or_false] at E
      go_wp2_with fail
      refine (Sq.within_any q qe qw w3).mono ?_; rintro e w4 ⟨rfl, rfl⟩
      generalize Sq.wi q qe qw = b1 at *
      cases b1 with
      | true =>
        go_wp2
        go_ret
        exact ⟨by rw [E.out]; rfl, B3.out⟩
      | false =>
        go_wp2
        go_ret
        exact ⟨by rw [E.out]; rfl, B3.out⟩
  · have h0' : 0 < n := by omega
    have h0'' : (0 : Int) < (n : Int) := by omega
    have x1 := IntWalk.i64_in ((n : Int) - 1) (by omega)
    rw [if_neg (fun x => h0 x.1), decide_eq_true h0', Bool.true_and] at E
    clear HN
    go_wp2_with fail
    refine (Sq.within_any q qe qw w3).mono ?_; rintro e w4 ⟨rfl, rfl⟩
    generalize Sq.wi q qe qw = b1 at *
    cases b1 with
    | true =>
      go_wp2
      go_ret
      exact ⟨by rw [E.out]; rfl, B3.out⟩
    | false =>
      go_wp2_with fail
      refine (Sq.add_any q ((n : Int) - 1) w4).mono ?_; rintro e w5 ⟨rfl, rfl⟩
      generalize Sq.rd (q + ((n : Int) - 1)) = qq at *
      go_wp2_with fail
      refine (Sq.within_any qq qe qw w5).mono ?_; rintro e w6 ⟨rfl, rfl⟩
      generalize Sq.wi qq qe qw = bb at *
      go_wp2
      go_ret
      exact ⟨by rw [E.out]; rfl, B3.out⟩

def dueR (T : TC) (d : Int) : TC := { T with due := d }
set_option maxRecDepth 100000 in
theorem turn_any (h : CA w P T) (hst : T.st = 1 ∨ T.st = 2) (q a wi : Int) (A : Option Addr) (n c : Nat) :
    Calls Try.prog 26 #[.pointer (some ⟨P.g, 0, none⟩), .agg (sv q a wi A n c)] w fun e w' => e = .returned (.tuple #[]) ∧ CA w' P (dueR T 0) ∧ Chg w w' P.In := by
  obtain ⟨W, hW⟩ : ∃ W, w.alloc (.cells (sv q a wi A n c) 35) = W := ⟨_, rfl⟩
  have b0 : Below w.heap.size w W := by rw [← hW]; exact (Below.refl w.heap.size w).alloc (Nat.le_refl _) _
  have KB := Lib.hid (show Blk W w.heap.size 35 (sv q a wi A n c) from by rw [← hW]; exact Blk.new w _ _)
  have HW := Lib.hid hW
  have h1 := h.new b0
  have c0 := h1.c0
  have c20 := h1.c20
  have f20 := h1.fz 20
  have st8 : ¬ T.st = 8 := by omega
  have FF := Lib.hid (show CA (W.setCell ⟨P.g, 20, none⟩ (.int .i64 0)) P (dueR T 0) ∧ Chg w (W.setCell ⟨P.g, 20, none⟩ (.int .i64 0)) P.In from ⟨h1.set 20 _ rfl rfl rfl rfl rfl, (Chg.of_new b0 _).trans (set_in _ _ _ _)⟩)
  have z4 := (KB.out.cell 4).trans (show _ = some (.int .i64 16) from rfl)
  have e4 : bits .and .i64 16 4 = 0 := by decide +kernel
  clear h h1 hW b0
  go_enter Try.func26, Try.ntmps26
  go_upto_region 1 with fail
  rw [HW.out]
  go_wp2
  go_end0
  exact ⟨rfl, FF.out⟩
end
end Go.Proofs.Ytldmcoagjgeeoaa.Tc
