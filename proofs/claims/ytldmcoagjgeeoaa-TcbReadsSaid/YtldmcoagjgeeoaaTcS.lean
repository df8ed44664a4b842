/- Package tcb: In of a connection that begins. Conditions: those that each states. -/
import Derived.Test.YtldmcoagjgeeoaaTsF
import Derived.Test.YtldmcoagjgeeoaaTcI
namespace Go.Proofs.Ytldmcoagjgeeoaa.Tc
open Go.ChangeShapes Go.WideShapes Go.ChangeAt Go.RowKit Go.Deep Rk Rv
set_option linter.unusedVariables false
set_option linter.unusedSimpArgs false

def opR (T : TC) : TC := { T with st := 2, tm := 0, tr := 0 }
/-- A connection that begins. -/
structure Beg (T : TC) : Prop where
  ok : Ok T
  st : T.st = 1
  una : T.una = 0
  nxt : T.nxt = 0
  en : T.en = 0
  due : T.due = -1
theorem op_ok {T : TC} (h : Beg T) : Ok (opR T) := ⟨h.ok.done, h.ok.shut, h.ok.fin, h.ok.una, h.ok.nxt, h.ok.en, h.ok.big, h.ok.win, h.ok.mss, by show (0 : Int) ≤ 0 ∧ (0 : Int) ≤ 64; decide, trivial, h.ok.due, h.ok.sm⟩
def openR (T : TC) (wi : Int) : TC := winT (trR (opR T) 0) wi
theorem push_open {T : TC} (h : Beg T) {wi : Int} (hw : 0 ≤ wi) : pushT (openR T wi) = openR T wi := by
  have h1 : (openR T wi).nxt = 0 := h.nxt
  have h2 : (openR T wi).en = 0 := h.en
  have h3 : (openR T wi).una = 0 := h.una
  have h4 : (openR T wi).win = wi := rfl
  have hl : limR (openR T wi) = 0 := by unfold limR; rw [h2, h3, h4]; omega
  unfold pushT
  rw [hl, h1, h2, if_neg (by omega), if_neg (by omega)]
theorem pushed_open {T : TC} (h : Beg T) {wi : Int} (hw : 0 ≤ wi) {l : List OutV} (hp : Pushed (openR T wi) l) : l = [] := by
  have h1 : (openR T wi).nxt = 0 := h.nxt
  have h2 : (openR T wi).en = 0 := h.en
  have h3 : (openR T wi).una = 0 := h.una
  have h4 : (openR T wi).win = wi := rfl
  have hl : limR (openR T wi) = 0 := by unfold limR; rw [h2, h3, h4]; omega
  rcases hp with ⟨_, e⟩ | ⟨hlt, _⟩
  · exact e
  · rw [hl, h1] at hlt; omega

set_option maxRecDepth 100000 in
set_option maxHeartbeats 2000000 in
theorem in_open {w : World} {P : Pl} {T : TC} (h : CA w P T) (bg : Beg T) (q a wi : Int) (hwi : 0 ≤ wi ∧ wi ≤ 65535) (hpl : Sq.off T.own a 0 = 0) (hf : fitsR T q 0 = true) :
    Calls Try.prog 9 #[.pointer (some ⟨P.g, 0, none⟩), .agg (sv q a wi none 0 0)] w fun e w' => ∃ A' c', e = .returned (.slice A' 0 c') ∧ CO w w' P (openR T wi) A' c' [] := by
  obtain ⟨W, hW⟩ : ∃ W, w.alloc (.cells (sv q a wi none 0 0) 35) = W := ⟨_, rfl⟩
  have b0 : Below w.heap.size w W := by rw [← hW]; exact (Below.refl w.heap.size w).alloc (Nat.le_refl _) _
  have kb0 : Blk W w.heap.size 35 (sv q a wi none 0 0) := by rw [← hW]; exact Blk.new w _ _
  have LT := h.lt
  have nP : ¬ P.In w.heap.size := fun e => by have := LT _ e; omega
  have h1 := h.new b0
  have D0 := Lib.hid ((CO.start h).new b0)
  have KB0 := Lib.hid kb0
  have HW := Lib.hid hW
  have ok := bg.ok
  have OKO := Lib.hid (op_ok bg)
  have SA := Lib.hid (state_any h1)
  rw [bg.st] at SA
  have c1 := h1.c1
  have c3 := h1.c3
  rw [bg.una] at c3
  have OFF := Lib.hid (fun X => Sq.offset_any T.own a 0 (by omega) (by omega) X)
  rw [hpl] at OFF
  have NP := Lib.hid nP
  have z3 := (kb0.cell 3).trans (show _ = some (.int .u32 a) from rfl)
  have e16 : bits .and .i64 16 16 = 16 := by decide +kernel
  have e4 : bits .and .i64 16 4 = 0 := by decide +kernel
  have e2 : bits .and .i64 16 2 = 0 := by decide +kernel
  have FT := Lib.hid (fun m => fits_any (D0.out.con.drewN m) ok.done q a wi none 0 0 (by decide))
  rw [hf] at FT
  have BG := Lib.hid bg
  clear h b0 kb0 LT nP h1 hW hpl hf
  obtain ⟨gs, hgs⟩ : ∃ gs, w.heap.size = gs := ⟨_, rfl⟩
  have HGS := Lib.hid hgs
  rw [hgs] at KB0 NP z3
  clear hgs
  go_enter Try.func9, Try.ntmps9
  go_wp2_with fail
  rw [HW.out, HGS.out]
  go_step3
  go_wp2_with fail
  refine SA.out.mono ?_; rintro e w1 ⟨rfl, rfl⟩
  go_wp2_with fail
  go_quiet ((go_at_call 24; exact Calls.quiet_of_same (OFF.out _)))
  have D1 := Lib.hid (D0.out.drewN nq)
  have KB1 := Lib.hid (KB0.out.drewN nq)
  have FT1 := Lib.hid (FT.out nq)
  clear FT D0 KB0 SA c1 c3 z3
  generalize w1.drewN nq = w2 at *
  go_wp2_with (first
    | (refine wpList_load_row rfl 35 (.tmp 3) rfl gs rfl 35 _ (0, 0) _ KB1.out Try.underlying35 rfl seg_info ?_)
    | fail)
  refine FT1.out.mono ?_; rintro e w3 ⟨rfl, k3⟩
  have D3 := Lib.hid (D1.out.new k3)
  have KB3 := Lib.hid (KB1.out.below k3 KB1.out.lt)
  clear k3 D1 KB1 FT1
  have z4 := (KB3.out.cell 4).trans (show _ = some (.int .i64 16) from rfl)
  have c0 := D3.out.con.c0
  rw [BG.out.st] at c0
  have c14 := D3.out.con.c14
  have c15 := D3.out.con.c15
  have f0 := D3.out.con.fz 0
  have f14 := D3.out.con.fz 14
  have f15 := D3.out.con.fz 15
  obtain ⟨w4, hw4⟩ : ∃ w4, ((w3.setCell ⟨P.g, 0, none⟩ (.int .i64 2)).setCell ⟨P.g, 14, none⟩ (.int .i64 0)).setCell ⟨P.g, 15, none⟩ (.int .i64 0) = w4 := ⟨_, rfl⟩
  have q4 : CA w4 P (opR T) := by
    rw [← hw4]
    have q1 : CA (w3.setCell ⟨P.g, 0, none⟩ (.int .i64 2)) P { T with st := 2 } := D3.out.con.set 0 _ rfl rfl rfl rfl rfl
    have q2 : CA ((w3.setCell ⟨P.g, 0, none⟩ (.int .i64 2)).setCell ⟨P.g, 14, none⟩ (.int .i64 0)) P { T with st := 2, tm := 0 } := q1.set 14 _ rfl rfl rfl rfl rfl
    exact q2.set 15 _ rfl rfl rfl rfl rfl
  have k4 : Chg w3 w4 P.In := by rw [← hw4]; exact ((set_in _ _ _ _).trans (set_in _ _ _ _)).trans (set_in _ _ _ _)
  have D4 := Lib.hid (D3.out.step q4 k4)
  have KB4 := Lib.hid (KB3.out.chg k4 NP.out)
  have HW4 := Lib.hid hw4
  have HE := Lib.hid (heed_any D4.out.con OKO.out rfl q a wi hwi none 0 0 (by decide))
  rw [show (opR T).una = 0 from BG.out.una] at HE
  clear hw4 q4 k4
  go_upto_region 18 with fail
  rw [HW4.out]
  clear c0 c14 c15 f0 f14 f15 z4 D3 KB3 HW4
  go_wp2_with (first
    | (refine wpList_load_row rfl 35 (.tmp 3) rfl gs rfl 35 _ (0, 0) _ KB4.out Try.underlying35 rfl seg_info ?_)
    | fail)
  refine HE.out.mono ?_; rintro e w5 ⟨A5, c5', l5, T5, rfl, co5, kp5, _, ln5, ex5⟩
  obtain ⟨rfl, rfl⟩ := ex5 (show (0 : Int) = T.nxt from BG.out.nxt.symm)
  have D5 := Lib.hid (show CO w w5 P (openR T wi) A5 c5' [] from D4.out.base co5)
  have OK5 := Lib.hid (show Ok (openR T wi) from kp5.1)
  have KB5 := Lib.hid (KB4.out.chg co5.chg NP.out)
  clear co5 kp5 ln5 ex5 HE D4 KB4
  have st5 : (openR T wi).st = 2 := rfl
  have c0 := show w5.cell? ⟨P.g, 0, none⟩ = some (.int .i64 2) from D5.out.con.c0
  have TK := Lib.hid (take_any D5.out.con OK5.out st5 q a wi none 0 0 [] (Src.nil w5) (by decide) (fun h => absurd h (by decide)))
  go_wp2_with (first
    | (refine wpList_load_row rfl 35 (.tmp 3) rfl gs rfl 35 _ (0, 0) _ KB5.out Try.underlying35 rfl seg_info ?_)
    | fail)
  refine TK.out.mono ?_; rintro e w6 ⟨rfl, T6, ti6, h6, k6⟩
  obtain rfl : T6 = openR T wi := by
    rcases ti6 with ⟨_, e⟩ | ⟨e, _⟩
    · exact e
    · exact absurd rfl e
  have D6 := Lib.hid (D5.out.step h6 k6)
  have PU := Lib.hid (push_any D6.out OK5.out st5 (by simp))
  rw [push_open BG.out hwi.1] at PU
  clear h6 k6 ti6 TK D5 KB5 c0
  go_wp2_with fail
  refine PU.out.mono ?_; rintro e w7 ⟨A7, c7', l', l7, rfl, HL7, co7, _, pp7⟩
  obtain rfl := pushed_open BG.out hwi.1 pp7
  obtain rfl : l7 = [] := HL7.out
  have D7 := Lib.hid co7
  have PY := Lib.hid (pay_any D7.out OK5.out.done (by simp))
  have hne : ¬ (openR T wi).due = 0 := by show ¬ T.due = 0; rw [BG.out.due]; decide
  rw [show payL (openR T wi) [] = [] from if_neg hne, show payT (openR T wi) = openR T wi from if_neg hne] at PY
  clear co7 pp7 PU D6
  go_wp2_with fail
  go_step3
  go_wp2_with fail
  refine PY.out.mono ?_; rintro e w8 ⟨A8, c8', rfl, co8, _⟩
  have D8 := Lib.hid co8
  clear co8 PY D7
  go_wp2
  rw [Exit.noGoto_ret]
  go_ret
  exact ⟨A8, c8', rfl, D8.out⟩

set_option maxRecDepth 100000 in
set_option maxHeartbeats 2000000 in
theorem in_refuse {w : World} {P : Pl} {T : TC} (h : CA w P T) (bg : Beg T) (q a wi : Int) (hpl : ¬ Sq.off T.own a 0 = 0) (hf : fitsR T q 0 = true) :
    Calls Try.prog 9 #[.pointer (some ⟨P.g, 0, none⟩), .agg (sv q a wi none 0 0)] w fun e w' => ∃ A' c', e = .returned (.slice A' 1 c') ∧ CO w w' P T A' c' [⟨4, a, 0, 0, 0, 0, 0⟩] := by
  obtain ⟨W, hW⟩ : ∃ W, w.alloc (.cells (sv q a wi none 0 0) 35) = W := ⟨_, rfl⟩
  have b0 : Below w.heap.size w W := by rw [← hW]; exact (Below.refl w.heap.size w).alloc (Nat.le_refl _) _
  have kb0 : Blk W w.heap.size 35 (sv q a wi none 0 0) := by rw [← hW]; exact Blk.new w _ _
  have LT := h.lt
  have nP : ¬ P.In w.heap.size := fun e => by have := LT _ e; omega
  have h1 := h.new b0
  have D0 := Lib.hid ((CO.start h).new b0)
  have KB0 := Lib.hid kb0
  have HW := Lib.hid hW
  have ok := bg.ok
  have SA := Lib.hid (state_any h1)
  rw [bg.st] at SA
  have c1 := h1.c1
  have c3 := h1.c3
  rw [bg.una] at c3
  have OFF := Lib.hid (fun X => Sq.offset_any T.own a 0 (by omega) (by omega) X)
  generalize Sq.off T.own a 0 = pl at *
  have NP := Lib.hid nP
  have z3 := (kb0.cell 3).trans (show _ = some (.int .u32 a) from rfl)
  have e16 : bits .and .i64 16 16 = 16 := by decide +kernel
  have e4 : bits .and .i64 16 4 = 0 := by decide +kernel
  have e2 : bits .and .i64 16 2 = 0 := by decide +kernel
  have hpl' : (pl != 0) = true := by simpa using hpl
  have FT := Lib.hid (fun m => fits_any (D0.out.con.drewN m) ok.done q a wi none 0 0 (by decide))
  rw [hf] at FT
  have BG := Lib.hid bg
  clear h b0 kb0 LT nP h1 hW hf
  obtain ⟨gs, hgs⟩ : ∃ gs, w.heap.size = gs := ⟨_, rfl⟩
  have HGS := Lib.hid hgs
  rw [hgs] at KB0 NP z3
  clear hgs
  go_enter Try.func9, Try.ntmps9
  go_wp2_with fail
  rw [HW.out, HGS.out]
  refine scope_once 0 rfl ?_
  go_wp2_with fail
  refine SA.out.mono ?_; rintro e w1 ⟨rfl, rfl⟩
  go_wp2_with fail
  go_quiet ((go_at_call 24; exact Calls.quiet_of_same (OFF.out _)))
  have D1 := Lib.hid (D0.out.drewN nq)
  have KB1 := Lib.hid (KB0.out.drewN nq)
  have FT1 := Lib.hid (FT.out nq)
  clear FT D0 KB0 SA c1 c3 z3
  generalize w1.drewN nq = w2 at *
  go_wp2_with (first
    | (refine wpList_load_row rfl 35 (.tmp 3) rfl gs rfl 35 _ (0, 0) _ KB1.out Try.underlying35 rfl seg_info ?_)
    | fail)
  refine FT1.out.mono ?_; rintro e w3 ⟨rfl, k3⟩
  have D3 := Lib.hid (D1.out.new k3)
  have KB3 := Lib.hid (KB1.out.below k3 KB1.out.lt)
  clear k3 D1 KB1 FT1
  have z4 := (KB3.out.cell 4).trans (show _ = some (.int .i64 16) from rfl)
  have z3 := (KB3.out.cell 3).trans (show _ = some (.int .u32 a) from rfl)
  have c0 := D3.out.con.c0
  rw [BG.out.st] at c0
  obtain ⟨q1, i, z, q2, q3, q4, q5, q6⟩ := out_shape
  have NB := (Below.refl w3.heap.size w3).alloc (Nat.le_refl _) (.cells (outA ⟨4, a, 0, 0, 0, 0, 0⟩) 55)
  go_wp2_with (first
    | (at_builtin; refine Hid.out ?_)
    | fail)
  unfold Hid
  refine wpList_append_V rfl (.tmp 60) (.tmp 64) 28 rfl 55 i z 7 i.bytes q1 q2 q3 q4 rfl q5 (by decide) q6 none 0 0 [] rfl (RowV.nil _ _ _) (some ⟨w3.heap.size, 0, none⟩) 1 1 (outC ⟨4, a, 0, 0, 0, 0, 0⟩) rfl (G_one w3 55 (outC ⟨4, a, 0, 0, 0, 0, 0⟩) 7 rfl) (by simp [outC, Value.oneCell']) (by omega) ?_
  intro A2 c2 w4 r2 k2 n2
  have D4 := Lib.hid (show CO w w4 P T A2 c2 [⟨4, a, 0, 0, 0, 0, 0⟩] from by
    have HC := D3.out
    have cn : CA w4 P T := (HC.con.new NB).chg k2 (fun i hi hh => by obtain ⟨x, e, _⟩ := hh; cases e)
    have ap : Ap (w3.alloc (.cells (outA ⟨4, a, 0, 0, 0, 0, 0⟩) 55)) w4 P none A2 := ⟨k2.weak fun _ => .inr, n2⟩
    have rr : RowV w4 55 7 A2 ([⟨4, a, 0, 0, 0, 0, 0⟩] : List OutV).length c2 (outsC [⟨4, a, 0, 0, 0, 0, 0⟩]) := by
      have e : outsC [⟨4, a, 0, 0, 0, 0, 0⟩] = [] ++ outC ⟨4, a, 0, 0, 0, 0, 0⟩ := by simp [outsC]
      rw [e]; exact r2
    exact (HC.new NB).ap ap cn rr)
  have PY := Lib.hid (pay_any D4.out BG.out.ok.done (by simp))
  have hne : ¬ T.due = 0 := by rw [BG.out.due]; decide
  rw [show payL T [⟨4, a, 0, 0, 0, 0, 0⟩] = [⟨4, a, 0, 0, 0, 0, 0⟩] from if_neg hne, show payT T = T from if_neg hne] at PY
  clear r2 k2 n2 NB D3 KB3 z4 z3 c0
  go_wp2
  go_step3
  refine ⟨rfl, ?_⟩
  go_wp2_with fail
  refine PY.out.mono ?_; rintro e w5 ⟨A5, c5', rfl, co5, ap5⟩
  have D5 := Lib.hid co5
  clear PY co5 ap5 D4
  go_wp2
  rw [Exit.noGoto_ret]
  go_ret
  exact ⟨A5, c5', rfl, D5.out⟩
end Go.Proofs.Ytldmcoagjgeeoaa.Tc
