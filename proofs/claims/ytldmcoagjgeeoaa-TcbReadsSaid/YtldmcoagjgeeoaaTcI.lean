/- Package tcb: In, of an open connection, of segments with no flag but ACK that acknowledge nothing anew. Conditions: those that each states. -/
import Derived.Test.YtldmcoagjgeeoaaTcO
namespace Go.Proofs.Ytldmcoagjgeeoaa.Tc
open Go.ChangeShapes Go.WideShapes Go.ChangeAt Go.RowKit Go.Deep Rk Rv
set_option linter.unusedVariables false
set_option linter.unusedSimpArgs false

set_option maxRecDepth 100000 in
set_option maxHeartbeats 2000000 in
theorem in_any {w : World} {P : Pl} {T : TC} (h : CA w P T) (ok : Ok T) (hst : T.st = 2) (q a wi : Int) (hwi : 0 ≤ wi ∧ wi ≤ 65535) (A : Option Addr) (n c : Nat) (b : List UInt8) (hb : Src w A n c b) (hn : n ≤ 1000000) (hA : 0 < n → ∀ x, A = some x → ¬ P.In x.block) (hpl : Sq.off T.own a T.una = T.una) :
    Calls Try.prog 9 #[.pointer (some ⟨P.g, 0, none⟩), .agg (sv q a wi A n c)] w fun e w' => ∃ A' c' ll, e = .returned (.slice A' ll.length c') ∧ ∃ T', CO w w' P T' A' c' ll ∧ Rd T T' ∧ (T'.xs = T.xs ∨ T'.xs = Ra.putR T.xs (Sq.off T.peer q (nextR T) - T.N) b) := by
  obtain ⟨W, hW⟩ : ∃ W, w.alloc (.cells (sv q a wi A n c) 35) = W := ⟨_, rfl⟩
  have b0 : Below w.heap.size w W := by rw [← hW]; exact (Below.refl w.heap.size w).alloc (Nat.le_refl _) _
  have kb0 : Blk W w.heap.size 35 (sv q a wi A n c) := by rw [← hW]; exact Blk.new w _ _
  have LT := h.lt
  have nP : ¬ P.In w.heap.size := fun e => by have := LT _ e; omega
  have h1 := h.new b0
  have HB := Lib.hid (hb.below b0)
  have D0 := Lib.hid ((CO.start h).new b0)
  have KB0 := Lib.hid kb0
  have HW := Lib.hid hW
  have OK := Lib.hid ok
  have SA := Lib.hid (state_any h1)
  rw [hst] at SA
  have c1 := h1.c1
  have c3 := h1.c3
  have u1 := ok.una
  have u2 := ok.nxt
  have u3 := ok.en
  have u4 := ok.big
  have OFF := Lib.hid (fun X => Sq.offset_any T.own a T.una (by omega) (by omega) X)
  rw [hpl] at OFF
  have NP := Lib.hid nP
  have HA := Lib.hid hA
  have z3 := (kb0.cell 3).trans (show _ = some (.int .u32 a) from rfl)
  have e16 : bits .and .i64 16 16 = 16 := by decide +kernel
  have e4 : bits .and .i64 16 4 = 0 := by decide +kernel
  have e2 : bits .and .i64 16 2 = 0 := by decide +kernel
  have E16 := Lib.hid e16
  clear h b0 kb0 LT nP h1 hb hW hpl hA
  obtain ⟨gs, hgs⟩ : ∃ gs, w.heap.size = gs := ⟨_, rfl⟩
  have HGS := Lib.hid hgs
  rw [hgs] at KB0 NP z3
  clear hgs
  go_enter Try.func9, Try.ntmps9
  go_wp2_with fail
  rw [HW.out, HGS.out]
  have FT := Lib.hid (fun m => fits_any (D0.out.con.drewN m) OK.out.done q a wi A n c hn)
  obtain ⟨fb, hfb⟩ : ∃ fb, fitsR T q n = fb := ⟨_, rfl⟩
  rw [hfb] at FT
  clear hfb
  cases fb with
  | false =>
    refine scope_once 0 rfl ?_
    go_wp2_with fail
    refine SA.out.mono ?_; rintro e w1 ⟨rfl, rfl⟩
    go_wp2_with fail
    go_quiet ((go_at_call 24; exact Calls.quiet_of_same (OFF.out _)))
    have D1 := Lib.hid (D0.out.drewN nq)
    have KB1 := Lib.hid (KB0.out.drewN nq)
    have FT1 := Lib.hid (FT.out nq)
    clear FT D0 KB0 SA c1 c3 z3 HB
    generalize w1.drewN nq = w2 at *
    go_wp2_with (first
      | (refine wpList_load_row rfl 35 (.tmp 3) rfl gs rfl 35 _ (0, 0) _ KB1.out Try.underlying35 rfl seg_info ?_)
      | fail)
    refine FT1.out.mono ?_; rintro e w3 ⟨rfl, k3⟩
    have D3 := Lib.hid (D1.out.new k3)
    have KB3 := Lib.hid (KB1.out.below k3 KB1.out.lt)
    have TN := Lib.hid (turn_any D3.out.con (.inr hst) q a wi A n c)
    clear k3 D1 KB1 FT1
    go_wp2_with (first
      | (refine wpList_load_row rfl 35 (.tmp 3) rfl gs rfl 35 _ (0, 0) _ KB3.out Try.underlying35 rfl seg_info ?_)
      | fail)
    refine TN.out.mono ?_; rintro e w4 ⟨rfl, h4, k4⟩
    have D4 := Lib.hid (D3.out.step h4 k4)
    have OK4 := Lib.hid (due_ok OK.out (d := 0) (by decide))
    have PY := Lib.hid (pay_any D4.out OK4.out.1.done (by simp))
    have R4 := Lib.hid (OK4.out.trans (pay_ok OK4.out.1))
    have X4 := Lib.hid (R4.out.2.xs)
    clear h4 k4 D3 KB3 TN
    generalize payL (dueR T 0) [] = l4 at *
    generalize payT (dueR T 0) = T4 at *
    go_wp2
    go_step3
    refine ⟨rfl, ?_⟩
    go_wp2_with fail
    refine PY.out.mono ?_; rintro e w5 ⟨A5, c5', rfl, co5, ap5⟩
    have D5 := Lib.hid co5
    clear PY co5 ap5 D4
    go_wp2
    rw [Exit.noGoto_ret]
    go_ret
    exact ⟨A5, c5', l4, rfl, T4, D5.out, R4.out.rd, .inl X4.out⟩
  | true =>
    go_step3
    go_wp2_with fail
    refine SA.out.mono ?_; rintro e w1 ⟨rfl, rfl⟩
    go_wp2_with fail
    go_quiet ((go_at_call 24; exact Calls.quiet_of_same (OFF.out _)))
    have D1 := Lib.hid (D0.out.drewN nq)
    have KB1 := Lib.hid (KB0.out.drewN nq)
    have HB1 := Lib.hid (HB.out.drewN nq)
    have FT1 := Lib.hid (FT.out nq)
    clear FT D0 KB0 SA c1 c3 z3 HB
    generalize w1.drewN nq = w2 at *
    go_wp2_with (first
      | (refine wpList_load_row rfl 35 (.tmp 3) rfl gs rfl 35 _ (0, 0) _ KB1.out Try.underlying35 rfl seg_info ?_)
      | fail)
    refine FT1.out.mono ?_; rintro e w3 ⟨rfl, k3⟩
    have D3 := Lib.hid (D1.out.new k3)
    have KB3 := Lib.hid (KB1.out.below k3 KB1.out.lt)
    have HB3 := Lib.hid (HB1.out.below k3)
    clear k3 D1 KB1 FT1 HB1
    have z4 := (KB3.out.cell 4).trans (show _ = some (.int .i64 16) from rfl)
    have c0 := D3.out.con.c0
    rw [hst] at c0
    have c4 := D3.out.con.c4
    have HE := Lib.hid (heed_any D3.out.con OK.out hst q a wi hwi A n c hn)
    have nlt : ¬ T.una > T.nxt := by omega
    go_wp2_with (first
      | (refine wpList_load_row rfl 35 (.tmp 3) rfl gs rfl 35 _ (0, 0) _ KB3.out Try.underlying35 rfl seg_info ?_)
      | fail)
    refine HE.out.mono ?_; rintro e w4 ⟨A4, c4', l4, T4, rfl, co4, kp4, _, ln4, _⟩
    have D4 := Lib.hid (D3.out.base co4)
    have KB4 := Lib.hid (KB3.out.chg co4.chg NP.out)
    have HB4 := Lib.hid (Ra.src_chg HB3.out co4.chg (fun h0 x hx => HA.out h0 x hx))
    have R4 := Lib.hid kp4.rd
    have X4 := Lib.hid kp4.2.xs
    have st4 : T4.st = 2 := by rw [kp4.2.st]; exact hst
    have OK4 := Lib.hid kp4.1
    have NQ := Lib.hid (show nextR T4 = nextR T ∧ T4.peer = T.peer ∧ T4.N = T.N from ⟨by unfold nextR; rw [kp4.2.xs, kp4.2.N], kp4.2.peer, kp4.2.N⟩)
    have LN4 := Lib.hid ln4
    clear co4 kp4 ln4 HE c0 c4 z4 D3 KB3 HB3 nlt
    have c0 := D4.out.con.c0
    rw [st4] at c0
    have TK := Lib.hid (take_any D4.out.con OK4.out st4 q a wi A n c b HB4.out hn HA.out)
    go_wp2_with (first
      | (refine wpList_load_row rfl 35 (.tmp 3) rfl gs rfl 35 _ (0, 0) _ KB4.out Try.underlying35 rfl seg_info ?_)
      | fail)
    refine TK.out.mono ?_; rintro e w5 ⟨rfl, T5, ti5, h5, k5⟩
    have D5 := Lib.hid (D4.out.step h5 k5)
    obtain ⟨r5, x5⟩ := take_ok OK4.out ti5
    have X5 := Lib.hid (show T5.xs = T.xs ∨ T5.xs = Ra.putR T.xs (Sq.off T.peer q (nextR T) - T.N) b from by rw [NQ.out.1, NQ.out.2.1, NQ.out.2.2, X4.out] at x5; exact x5)
    have R5 := Lib.hid (R4.out.trans r5)
    have st5 : T5.st = 2 := by rw [r5.st]; exact st4
    have PU := Lib.hid (push_any D5.out r5.ok st5 (by have := LN4.out; omega))
    have KP5 := Lib.hid (push_ok r5.ok)
    have OK5 := Lib.hid r5.ok
    clear h5 k5 r5 x5 ti5 TK D4 KB4 HB4 R4 X4 c0
    generalize hT6 : pushT T5 = T6 at *
    clear hT6
    go_wp2_with fail
    refine PU.out.mono ?_; rintro e w6 ⟨A6, c6', l', l6, rfl, HL6, co6, _, pp6⟩
    have D6 := Lib.hid co6
    have LN6 : l6.length ≤ 900000 := by
      have q1 := pushed_len OK5.out pp6
      have q2 := LN4.out
      rw [HL6.out, List.length_append]
      omega
    have PY := Lib.hid (pay_any D6.out KP5.out.1.done LN6)
    have KP6 := Lib.hid (KP5.out.trans (pay_ok KP5.out.1))
    clear co6 pp6 PU HL6 LN6 D5 KP5
    generalize payL T6 l6 = l7 at *
    generalize payT T6 = T7 at *
    go_wp2_with fail
    go_step3
    go_wp2_with fail
    refine PY.out.mono ?_; rintro e w7 ⟨A7, c7', rfl, co7, _⟩
    have D7 := Lib.hid co7
    clear co7 PY D6
    go_wp2
    rw [Exit.noGoto_ret]
    go_ret
    exact ⟨A7, c7', l7, rfl, T7, D7.out, R5.out.trans KP6.out.rd, by rw [KP6.out.2.xs]; exact X5.out⟩
end Go.Proofs.Ytldmcoagjgeeoaa.Tc
