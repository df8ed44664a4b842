/- Package civil's Print: how a second's date is told. Conditions: those that each states. -/
import Derived.Test.YtbmnfefpkahejaaDoorNum
namespace Go.Proofs.YtbmnfefpkahejaaDoor
open Go.ChangeShapes Go.WideShapes Go.ChangeAt Go.RowKit Go.Deep

/-- What stands while a text is put together: the variables; what was there when the call began; one block of the call's own. -/
structure Now (w0 : World) (d : Nat) (t : TypeId) (cs : Array Value) (w : World) : Prop where
  vars : Vars w
  bel : Below w0.heap.size w0 w
  blk : Blk w d t cs
theorem Now.step {w0 W w1 : World} {d : Nat} {t : TypeId} {cs : Array Value} (b : Below W.heap.size W w1) (h : Hid (Now w0 d t cs W)) : Now w0 d t cs w1 :=
  ⟨h.out.vars.below b, h.out.bel.trans (b.mono h.out.bel.size), h.out.blk.older (older_below b)⟩
theorem Now.vars_of {w0 W : World} {d : Nat} {t : TypeId} {cs : Array Value} (h : Hid (Now w0 d t cs W)) : Vars W := h.out.vars
theorem Now.drew {w0 W : World} {d : Nat} {t : TypeId} {cs : Array Value} (h : Hid (Now w0 d t cs W)) : Now w0 d t cs W.drew :=
  ⟨h.out.vars.drew, ⟨h.out.bel.os, h.out.bel.tape, h.out.bel.output, h.out.bel.size, h.out.bel.block⟩, h.out.blk⟩

/-- What the first half of Print reads. -/
def Reads1 (w0 : World) (d : Nat) (Y : Int) (mo : Nat) (D H I S : Int) (wd : Nat) (lw lm : List UInt8) (w : World) : Prop :=
  (w.cell? ⟨d, 6, none⟩ = some (.int .i64 (wd : Int)) ∧ w.cell? ⟨d, 2, none⟩ = some (.int .i64 D) ∧ w.cell? ⟨d, 1, none⟩ = some (.int .i64 ((mo : Int) + 1)) ∧ w.cell? ⟨d, 0, none⟩ = some (.int .i64 Y) ∧
    w.cell? ⟨0, wd, none⟩ = some (.string ⟨lw.toArray⟩) ∧ w.cell? ⟨1, mo, none⟩ = some (.string ⟨lm.toArray⟩)) ∧
  Hid (Now w0 d 24 #[.int .i64 Y, .int .i64 ((mo : Int) + 1), .int .i64 D, .int .i64 H, .int .i64 I, .int .i64 S, .int .i64 (wd : Int)] w)
theorem reads1_of {w0 w : World} {d : Nat} {Y : Int} {mo : Nat} {D H I S : Int} {wd : Nat} {lw lm : List UInt8} (hw : wd < 7) (hm : mo < 12) (elw : Hid (wdNames.getD wd [] = lw)) (elm : Hid (moNames.getD mo [] = lm))
    (h : Now w0 d 24 #[.int .i64 Y, .int .i64 ((mo : Int) + 1), .int .i64 D, .int .i64 H, .int .i64 I, .int .i64 S, .int .i64 (wd : Int)] w) : Reads1 w0 d Y mo D H I S wd lw lm w := by
  refine ⟨⟨?_, ?_, ?_, ?_, ?_, ?_⟩, Lib.hid h⟩
  · rw [h.blk.cell]; rfl
  · rw [h.blk.cell]; rfl
  · rw [h.blk.cell]; rfl
  · rw [h.blk.cell]; rfl
  · rw [h.vars.wd wd hw, elw.out]
  · rw [h.vars.mo mo hm, elm.out]
def Reads2 (w0 : World) (d : Nat) (Y M D H I S W : Int) (w : World) : Prop :=
  (w.cell? ⟨d, 3, none⟩ = some (.int .i64 H) ∧ w.cell? ⟨d, 4, none⟩ = some (.int .i64 I) ∧ w.cell? ⟨d, 5, none⟩ = some (.int .i64 S)) ∧
  Hid (Now w0 d 24 #[.int .i64 Y, .int .i64 M, .int .i64 D, .int .i64 H, .int .i64 I, .int .i64 S, .int .i64 W] w)
theorem reads2_of {w0 w : World} {d : Nat} {Y M D H I S W : Int} (h : Now w0 d 24 #[.int .i64 Y, .int .i64 M, .int .i64 D, .int .i64 H, .int .i64 I, .int .i64 S, .int .i64 W] w) : Reads2 w0 d Y M D H I S W w := by
  refine ⟨⟨?_, ?_, ?_⟩, Lib.hid h⟩
  · rw [h.blk.cell]; rfl
  · rw [h.blk.cell]; rfl
  · rw [h.blk.cell]; rfl

theorem ret_strerr {a b : ByteArray} (h : a = b) : Ending.returned (.tuple #[.string a, .int .i64 0]) = .returned (.tuple #[.string b, .int .i64 0]) := by rw [h]
set_option maxRecDepth 100000 in
set_option maxHeartbeats 4000000 in
theorem print_ok (n Y M D H I S W : Int) (h : Dat n Y M D H I S W) (w : World) (hv : Vars w) :
    Calls Tryd.prog 9 #[.int .i64 n] w fun e w' => e = .returned (.tuple #[.string ⟨(text Y M D H I S W).toArray⟩, .int .i64 0]) ∧ Below w.heap.size w w' := by
  have bd := h.bd
  obtain ⟨wd, rfl⟩ : ∃ k : Nat, W = k := ⟨W.toNat, by omega⟩
  obtain ⟨mo, rfl⟩ : ∃ k : Nat, M = (k : Int) + 1 := ⟨(M - 1).toNat, by omega⟩
  have hw7 : wd < 7 := by omega
  have hm12 : mo < 12 := by omega
  have hw7' : (wd : Int) < 7 := by omega
  have hm12' : (mo : Int) < 12 := by omega
  have hlw := wd_len wd hw7
  have hlm := mo_len mo hm12
  have PD := Lib.hid (fun w hv => padTwo_any D (by omega) (by omega) w hv)
  have PH := Lib.hid (fun w hv => padTwo_any H (by omega) (by omega) w hv)
  have PI := Lib.hid (fun w hv => padTwo_any I (by omega) (by omega) w hv)
  have PS := Lib.hid (fun w hv => padTwo_any S (by omega) (by omega) w hv)
  have PY := Lib.hid (fun w hv => padFour_any Y (by omega) (by omega) w hv)
  have DD := Lib.hid h
  have etext : text Y ((mo : Int) + 1) D H I S (wd : Int) = wdNames.getD wd [] ++ [44, 32] ++ two D ++ [32] ++ moNames.getD mo [] ++ [32] ++ four Y ++ [32] ++ (two H ++ [58] ++ two I ++ [58] ++ two S) ++ [32, 71, 77, 84] := by
    unfold text
    rw [show (((mo : Int) + 1) - 1).toNat = mo by omega, Int.toNat_natCast]
  rw [etext]
  have lD := two_len D
  have lH := two_len H
  have lI := two_len I
  have lS := two_len S
  have lY := four_len Y
  clear etext h bd
  generalize elw : wdNames.getD wd [] = lw at *
  generalize elm : moNames.getD mo [] = lm at *
  have ELW := Lib.hid elw
  have ELM := Lib.hid elm
  clear elw elm
  generalize two D = xD at *
  generalize two H = xH at *
  generalize two I = xI at *
  generalize two S = xS at *
  generalize four Y = xY at *
  go_enter Tryd.func9, Tryd.ntmps9
  go_wp2_with fail
  refine (of_ok n Y _ D H I S _ DD.out _ hv).mono ?_; rintro e w2 ⟨rfl, b2⟩
  have NOW := Lib.hid (show Now w w2.heap.size 24 #[.int .i64 Y, .int .i64 ((mo : Int) + 1), .int .i64 D, .int .i64 H, .int .i64 I, .int .i64 S, .int .i64 (wd : Int)] (w2.alloc (.cells #[.int .i64 Y, .int .i64 ((mo : Int) + 1), .int .i64 D, .int .i64 H, .int .i64 I, .int .i64 S, .int .i64 (wd : Int)] 24)) from
    ⟨(hv.below b2).alloc _, b2.alloc b2.size _, Blk.new w2 _ _⟩)
  clear b2 hv
  go_upto_region 4 with fail
  generalize w2.alloc (.cells #[.int .i64 Y, .int .i64 ((mo : Int) + 1), .int .i64 D, .int .i64 H, .int .i64 I, .int .i64 S, .int .i64 (wd : Int)] 24) = w4 at *
  generalize w2.heap.size = d at *
  have x1 := IntWalk.i64_in ((mo : Int) + 1 - 1) (by omega)
  have x2 := IntWalk.i64_in (mo : Int) (by omega)
  have x3 : (0 : Int) ≤ (mo : Int) := by omega
  have x4 : (0 : Int) ≤ (wd : Int) := by omega
  go_region_held3 (fun w' => (w'.cell? ⟨d, 6, none⟩ = some (.int .i64 (wd : Int)) ∧ w'.cell? ⟨d, 2, none⟩ = some (.int .i64 D) ∧ w'.cell? ⟨d, 1, none⟩ = some (.int .i64 ((mo : Int) + 1)) ∧ w'.cell? ⟨d, 0, none⟩ = some (.int .i64 Y) ∧ w'.cell? ⟨0, wd, none⟩ = some (.string ⟨lw.toArray⟩) ∧ w'.cell? ⟨1, mo, none⟩ = some (.string ⟨lm.toArray⟩)) ∧ Hid (Now w d 24 #[.int .i64 Y, .int .i64 ((mo : Int) + 1), .int .i64 D, .int .i64 H, .int .i64 I, .int .i64 S, .int .i64 (wd : Int)] w'))
    (first
      | exact reads1_of hw7 hm12 ELW ELM (Now.drew NOW)
      | (go_split_ands; exact reads1_of hw7 hm12 ELW ELM (Now.step (by assumption) (by assumption))))
    (first
      | ((with_reducible refine (PD.out _ ?_).mono ?_); (go_split_ands; exact Now.vars_of (by assumption)); rintro e w5 ⟨rfl, b5⟩)
      | ((with_reducible refine (PY.out _ ?_).mono ?_); (go_split_ands; exact Now.vars_of (by assumption)); rintro e w5 ⟨rfl, b5⟩))
  have NOW5 : Hid (Now w d 24 #[.int .i64 Y, .int .i64 ((mo : Int) + 1), .int .i64 D, .int .i64 H, .int .i64 I, .int .i64 S, .int .i64 (wd : Int)] w5) := by go_split_ands; assumption
  clear PD PY
  go_upto_region 5 with fail
  go_region_held3 (fun w' => (w'.cell? ⟨d, 3, none⟩ = some (.int .i64 H) ∧ w'.cell? ⟨d, 4, none⟩ = some (.int .i64 I) ∧ w'.cell? ⟨d, 5, none⟩ = some (.int .i64 S)) ∧ Hid (Now w d 24 #[.int .i64 Y, .int .i64 ((mo : Int) + 1), .int .i64 D, .int .i64 H, .int .i64 I, .int .i64 S, .int .i64 (wd : Int)] w'))
    (first
      | exact reads2_of (Now.drew NOW5)
      | (go_split_ands; exact reads2_of (Now.step (by assumption) (by assumption))))
    (first
      | ((with_reducible refine (PH.out _ ?_).mono ?_); (go_split_ands; exact Now.vars_of (by assumption)); rintro e w6 ⟨rfl, b6⟩)
      | ((with_reducible refine (PI.out _ ?_).mono ?_); (go_split_ands; exact Now.vars_of (by assumption)); rintro e w6 ⟨rfl, b6⟩)
      | ((with_reducible refine (PS.out _ ?_).mono ?_); (go_split_ands; exact Now.vars_of (by assumption)); rintro e w6 ⟨rfl, b6⟩))
  have NOW6 : Hid (Now w d 24 #[.int .i64 Y, .int .i64 ((mo : Int) + 1), .int .i64 D, .int .i64 H, .int .i64 I, .int .i64 S, .int .i64 (wd : Int)] w6) := by go_split_ands; assumption
  clear PH PI PS
  go_wp2
  go_ret2
  exact ⟨ret_strerr (by simp only [ByteArray.mk_append_mk]), NOW6.out.bel⟩

theorem print_no (n : Int) (h : n < 0 ∨ 253402300799 < n) (w : World) :
    Calls Tryd.prog 9 #[.int .i64 n] w fun e w' => e = .returned (.tuple #[.string ⟨#[]⟩, .int .i64 1]) ∧ Below w.heap.size w w' := by
  go_enter Tryd.func9, Tryd.ntmps9
  go_wp2_with fail
  refine (of_no n h _).mono ?_; rintro e w2 ⟨rfl, b2⟩
  have B2 := Lib.hid (b2.alloc b2.size (.cells #[.int .i64 0, .int .i64 0, .int .i64 0, .int .i64 0, .int .i64 0, .int .i64 0, .int .i64 0] 24))
  clear b2
  go_wp2
  go_ret2
  exact ⟨rfl, B2.out⟩
end Go.Proofs.YtbmnfefpkahejaaDoor
