/- Package tcb: greet, State, Abort. Conditions: those that each states. -/
import Derived.Test.YtldmcoagjgeeoaaTc2
namespace Go.Proofs.Ytldmcoagjgeeoaa.Tc
open Go.ChangeShapes Go.WideShapes Go.ChangeAt Go.RowKit Go.Deep Rk Rv
set_option linter.unusedVariables false
set_option linter.unusedSimpArgs false

/-- A struct of the call's own. -/
structure Fr (w W : World) (g : Nat) (o : OutV) : Prop where
  blk : Blk W g 55 (outA o)
  below : Below w.heap.size w W
  ge : w.heap.size ≤ g
theorem Fr.set {w W : World} {g : Nat} {o o' : OutV} (h : Fr w W g o) (i : Nat) (u : Value) (hv : (outA o).setIfInBounds i u = outA o') : Fr w (W.setCell ⟨g, i, none⟩ u) g o' :=
  ⟨by have := h.blk.put i u; rw [hv] at this; exact this, h.below.trans ((Chg.set W (S := fun k => k = g) i u rfl).below h.below.size (fun k e => by have := h.ge; omega)), h.ge⟩
theorem Fr.new {w W : World} (hb : Below w.heap.size w W) (o z : OutV) : Fr w ((W.alloc (.cells (outA z) 55)).setRow W.heap.size (outA o)) W.heap.size o :=
  ⟨(Blk.new W 55 (outA z)).row _, (hb.alloc hb.size _).trans ((Chg.setRow _ _ (g := W.heap.size) (S := fun k => k = W.heap.size) rfl).below (by have := hb.size; simp; omega) (fun k e => by have := hb.size; omega)), hb.size⟩
abbrev oz : OutV := ⟨0, 0, 0, 0, 0, 0, 0⟩
def greetR (T : TC) : OutV := { plainR T with f := 18, s := numR T (-1), m := T.om }
def abortR (T : TC) : OutV := { plainR T with f := 20 }

section
variable {w0 w w' : World} {P : Pl} {T : TC} {A : Option Addr} {c : Nat} {l : List OutV}

theorem state_any (h : CA w P T) : Calls Try.prog 18 #[.pointer (some ⟨P.g, 0, none⟩)] w fun e w' => e = .returned (.int .i64 T.st) ∧ w' = w := by
  have c0 := h.c0
  clear h
  go_enter Try.func18, Try.ntmps18
  go_wp2
  go_ret
  exact ⟨rfl, rfl⟩
theorem state_nil (w : World) : Calls Try.prog 18 #[.pointer none] w fun e w' => e = .returned (.int .i64 0) ∧ w' = w := by
  go_enter Try.func18, Try.ntmps18
  go_wp2
  go_ret
  exact ⟨rfl, rfl⟩

set_option maxRecDepth 100000 in
theorem greet_any (h : CO w0 w P T A c l) (hd : T.done = false) (hl : l.length ≤ 900000) : Calls Try.prog 23 #[.pointer (some ⟨P.g, 0, none⟩), .slice A l.length c] w fun e w' => ∃ A' c', e = .returned (.slice A' (l ++ [greetR T]).length c') ∧ CO w0 w' P (sentR T) A' c' (l ++ [greetR T]) ∧ Ap w w' P A A' := by
  have P1 := Lib.hid (plain_any h.con hd)
  have H := Lib.hid h
  have E := Lib.hid (show greetR T = ⟨18, numR T (-1), expR T, winR T, 0, 0, T.om⟩ from rfl)
  have E2 := Lib.hid (show plainR T = ⟨16, numR T T.nxt, expR T, winR T, 0, 0, 0⟩ from rfl)
  have S1 := Lib.hid (fun W (k : Below w.heap.size w W) => show Calls _ _ _ _ _ from send_any (h.new k) (greetR T) hl)
  have AP := Lib.hid (fun W (k : Below w.heap.size w W) => show Ap w W P A A from Ap.of (Chg.of_new k _))
  have NU := Lib.hid (fun W (k : Below w.heap.size w W) => number_any (h.con.new k) (-1))
  have C8 := Lib.hid (fun W (k : Below w.heap.size w W) => (h.con.new k).c8)
  obtain ⟨l2, hl2⟩ : ∃ l2, l ++ [greetR T] = l2 := ⟨_, rfl⟩
  rw [hl2] at S1 ⊢
  clear hl2
  rw [E.out] at S1
  rw [E2.out] at P1
  generalize numR T (-1) = qm at *
  generalize numR T T.nxt = qn at *
  generalize expR T = qe at *
  generalize winR T = qw at *
  clear h E E2
  go_enter Try.func23, Try.ntmps23
  go_wp2_with fail
  refine P1.out.mono ?_; rintro e w1 ⟨rfl, b1⟩
  have NB := Lib.hid (Blk.new w1 55 (outA oz))
  have F1 := Lib.hid (Fr.new b1 ⟨16, qn, qe, qw, 0, 0, 0⟩ oz)
  clear b1
  go_wp2_with (first
    | (refine wpList_store_row rfl 55 (.tmp 5) (.tmp 7) rfl w1.heap.size (outA ⟨16, qn, qe, qw, 0, 0, 0⟩) rfl rfl 55 _ NB.out out_info rfl (by simp [Value.oneCell']) ?_; refine Hid.out ?_)
    | fail)
  unfold Hid
  generalize (w1.alloc (.cells (outA oz) 55)).setRow w1.heap.size (outA ⟨16, qn, qe, qw, 0, 0, 0⟩) = W1 at *
  clear NB
  have p0 := (F1.out.blk.cell 0).trans (show _ = some (.int .i64 16) from rfl)
  have f0 := F1.out.blk.frozen 0
  go_upto_region 3 with fail
  rw [show bits .or .i64 16 2 = 18 from by decide +kernel]
  have F2 := Lib.hid (F1.out.set (o' := ⟨18, qn, qe, qw, 0, 0, 0⟩) 0 (.int .i64 18) rfl)
  generalize W1.setCell ⟨w1.heap.size, 0, none⟩ (.int .i64 18) = W2 at *
  clear p0 f0 F1
  have p1 := (F2.out.blk.cell 1).trans (show _ = some (.int .u32 qn) from rfl)
  have f1 := F2.out.blk.frozen 1
  go_wp2_with fail
  refine (NU.out _ F2.out.below).mono ?_; rintro e w2 ⟨rfl, rfl⟩
  go_upto_region 4 with fail
  have F3 := Lib.hid (F2.out.set (o' := ⟨18, qm, qe, qw, 0, 0, 0⟩) 1 (.int .u32 qm) rfl)
  generalize w2.setCell ⟨w1.heap.size, 1, none⟩ (.int .u32 qm) = W3 at *
  clear p1 f1 F2
  have p6 := (F3.out.blk.cell 6).trans (show _ = some (.int .i64 0) from rfl)
  have f6 := F3.out.blk.frozen 6
  have c8 := C8.out _ F3.out.below
  go_upto_region 5 with fail
  have F4 := Lib.hid (F3.out.set (o' := ⟨18, qm, qe, qw, 0, 0, T.om⟩) 6 (.int .i64 T.om) rfl)
  generalize W3.setCell ⟨w1.heap.size, 6, none⟩ (.int .i64 T.om) = W4 at *
  clear p6 f6 F3 c8
  go_wp2_with (first
    | (refine wpList_load_row rfl 55 (.tmp 5) rfl w1.heap.size rfl 55 _ (0, 0) _ F4.out.blk Try.underlying55 rfl out_info ?_)
    | fail)
  refine (S1.out _ F4.out.below).mono ?_; rintro e w5 ⟨A2, c2, rfl, h2, a2⟩
  have FF := Lib.hid (show CO w0 w5 P (sentR T) A2 c2 l2 ∧ Ap w w5 P A A2 from ⟨h2, (AP.out _ F4.out.below).trans a2⟩)
  clear h2 a2
  go_wp2
  go_ret
  exact ⟨A2, c2, rfl, FF.out⟩

set_option maxRecDepth 100000 in
theorem abort_any (h : CA w P T) (hd : T.done = false) (hst : T.st ≠ 0) : Calls Try.prog 17 #[.pointer (some ⟨P.g, 0, none⟩)] w fun e w' => ∃ A' c', e = .returned (.slice A' 1 c') ∧ CO w w' P { T with st := 0, due := -1 } A' c' [abortR T] := by
  have P1 := Lib.hid (plain_any h hd)
  have SA := Lib.hid (state_any h)
  have E := Lib.hid (show abortR T = ⟨20, numR T T.nxt, expR T, winR T, 0, 0, 0⟩ from rfl)
  have E2 := Lib.hid (show plainR T = ⟨16, numR T T.nxt, expR T, winR T, 0, 0, 0⟩ from rfl)
  have S1 := Lib.hid (fun W (k : CO w W P { T with st := 0 } none 0 []) => show Calls _ _ _ _ _ from send_any k (abortR T) (by simp))
  have ST := Lib.hid (fun W (k : Below w.heap.size w W) => show CO w (W.setCell ⟨P.g, 0, none⟩ (.int .i64 0)) P { T with st := 0 } none 0 [] from ((CO.start h).new k).step ((h.new k).set 0 _ rfl rfl rfl rfl rfl) (set_in _ _ _ _))
  have CS := Lib.hid (fun W (k : Below w.heap.size w W) => And.intro (h.new k).c0 ((h.new k).fz 0))
  have LT := h.lt P.g (.inl rfl)
  obtain ⟨q, hq⟩ : ∃ q, [abortR T] = q := ⟨_, rfl⟩
  rw [E.out, List.nil_append] at S1
  rw [E.out] at hq
  rw [E.out]
  rw [E2.out] at P1
  generalize numR T T.nxt = qn at *
  generalize expR T = qe at *
  generalize winR T = qw at *
  clear h E E2 hq
  go_enter Try.func17, Try.ntmps17
  go_wp2_with fail
  refine SA.out.mono ?_; rintro e w' ⟨rfl, rfl⟩
  go_wp2_with fail
  refine P1.out.mono ?_; rintro e w1 ⟨rfl, b1⟩
  have NB := Lib.hid (Blk.new w1 55 (outA oz))
  have F1 := Lib.hid (Fr.new b1 ⟨16, qn, qe, qw, 0, 0, 0⟩ oz)
  clear b1
  go_wp2_with (first
    | (refine wpList_store_row rfl 55 (.tmp 3) (.tmp 8) rfl w1.heap.size (outA ⟨16, qn, qe, qw, 0, 0, 0⟩) rfl rfl 55 _ NB.out out_info rfl (by simp [Value.oneCell']) ?_; refine Hid.out ?_)
    | fail)
  unfold Hid
  generalize (w1.alloc (.cells (outA oz) 55)).setRow w1.heap.size (outA ⟨16, qn, qe, qw, 0, 0, 0⟩) = W1 at *
  clear NB
  have p0 := (F1.out.blk.cell 0).trans (show _ = some (.int .i64 16) from rfl)
  have f0 := F1.out.blk.frozen 0
  go_upto_region 5 with fail
  rw [show bits .or .i64 16 4 = 20 from by decide +kernel]
  have F2 := Lib.hid (F1.out.set (o' := ⟨20, qn, qe, qw, 0, 0, 0⟩) 0 (.int .i64 20) rfl)
  generalize W1.setCell ⟨w1.heap.size, 0, none⟩ (.int .i64 20) = W2 at *
  clear p0 f0 F1
  obtain ⟨c0, f0⟩ := CS.out _ F2.out.below
  go_upto_region 6 with fail
  have PB := Lib.hid (F2.out.blk.chg (Chg.set W2 (S := fun k => k = P.g) 0 (.int .i64 0) rfl) (by have := F2.out.ge; omega))
  have CC := Lib.hid (ST.out _ F2.out.below)
  generalize W2.setCell ⟨P.g, 0, none⟩ (.int .i64 0) = W3 at *
  clear c0 f0 F2
  go_wp2_with (first
    | (refine wpList_load_row rfl 55 (.tmp 3) rfl w1.heap.size rfl 55 _ (0, 0) _ PB.out Try.underlying55 rfl out_info ?_)
    | fail)
  refine (S1.out _ CC.out).mono ?_; rintro e w5 ⟨A2, c2, rfl, h2, a2⟩
  have FF := Lib.hid h2
  clear h2 a2
  go_wp2
  go_ret
  exact ⟨A2, c2, rfl, FF.out⟩
end
end Go.Proofs.Ytldmcoagjgeeoaa.Tc
