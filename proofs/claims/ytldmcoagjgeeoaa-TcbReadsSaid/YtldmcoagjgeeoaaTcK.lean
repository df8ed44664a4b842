/- Package tcb: keep and take, of segments with no flag but ACK. Conditions: those that each states. -/
import Derived.Test.YtldmcoagjgeeoaaTcF
namespace Go.Proofs.Ytldmcoagjgeeoaa.Tc
open Go.ChangeShapes Go.WideShapes Go.ChangeAt Go.RowKit Go.Deep Rk Rv
set_option linter.unusedVariables false
set_option linter.unusedSimpArgs false

section
variable {w w' : World} {P : Pl} {T : TC}
theorem CA.put (h : CA w P T) {N : Nat} {xs : Ra.Bs} (hb : Ra.Buf w' P.gt P.gm P.gb P.R N xs) (k : Chg w w' (fun k => k = P.gt ∨ k = P.gm ∨ k = P.gb)) : CA w' P { T with N := N, xs := xs } ∧ Chg w w' P.In := by
  obtain ⟨a1, a2, a3, a4, a5, a6, a7⟩ := h.apart
  refine ⟨⟨h.head.chg k (by omega), hb, Blk.chg h.clk k (by omega), h.apart, h.room⟩, k.weak fun i hi => ?_⟩
  rcases hi with e | e | e
  · exact .inr (.inl e)
  · exact .inr (.inr (.inl e))
  · exact .inr (.inr (.inr (.inl e)))

def putT (T : TC) (at_ : Int) (b : List UInt8) (d : Int) : TC := { T with xs := Ra.putR T.xs (at_ - T.N) b, due := d }

set_option maxRecDepth 100000 in
theorem keep_any (h : CA w P T) (at_ : Int) (ha : -9223372036854775808 ≤ at_ ∧ at_ ≤ 9223372036854775807) (A : Option Addr) (n c : Nat) (b : List UInt8) (hb : Src w A n c b) (hn : n ≤ 1000000) (hA : 0 < n → ∀ x, A = some x → ¬ P.In x.block) :
    Calls Try.prog 47 #[.pointer (some ⟨P.g, 0, none⟩), .int .i64 at_, .slice A n c] w fun e w' => e = .returned (.tuple #[]) ∧ ∃ d, (d = 0 ∨ d = 2) ∧ CA w' P (putT T at_ b d) ∧ Chg w w' P.In := by
  have c11 := h.c11
  have PU := Lib.hid (Ra.put_any h.buf at_ ha A n c b hb (by omega) (fun h0 x hx => ⟨fun e => hA h0 x hx (.inr (.inl e)), fun e => hA h0 x hx (.inr (.inr (.inl e))), fun e => hA h0 x hx (.inr (.inr (.inr (.inl e))))⟩))
  have H := Lib.hid h
  obtain ⟨ys, hys⟩ : ∃ ys, Ra.putR T.xs (at_ - T.N) b = ys := ⟨_, rfl⟩
  have EY := Lib.hid (show ∀ d, putT T at_ b d = { T with xs := ys, due := d } from fun d => by rw [← hys]; rfl)
  rw [hys] at PU
  obtain ⟨k, hk⟩ : ∃ k : Int, (Ra.held ys : Int) - Ra.held T.xs = k := ⟨_, rfl⟩
  rw [hk] at PU
  clear h hb hA hys hk
  go_enter Try.func47, Try.ntmps47
  go_wp2_with fail
  refine PU.out.mono ?_; rintro e w1 ⟨rfl, h1, k1⟩
  obtain ⟨ca, kc⟩ := H.out.put h1 k1
  have CC := Lib.hid ca
  have KC := Lib.hid kc
  clear h1 k1 PU ca kc H c11
  have c11 := CC.out.c11
  have c20 := CC.out.c20
  have f20 := CC.out.fz 20
  obtain ⟨hq, hhq⟩ : ∃ hq : Int, hq = (Ra.held ys : Int) := ⟨_, rfl⟩
  obtain ⟨rq, hrq⟩ : ∃ rq : Int, rq = (Ra.rdy ys : Int) := ⟨_, rfl⟩
  have HD := Lib.hid (fun m => show Calls Try.prog 58 #[.pointer (some ⟨P.gb, 0, none⟩)] (w1.drewN m) (fun e w' => e = .returned (.int .i64 hq) ∧ w' = w1.drewN m) from by rw [hhq]; exact Ra.held_any (CC.out.buf.drewN m))
  have RD := Lib.hid (fun m => show Calls Try.prog 53 #[.pointer (some ⟨P.gb, 0, none⟩)] (w1.drewN m) (fun e w' => e = .returned (.int .i64 rq) ∧ ∃ m2, w' = (w1.drewN m).drewN m2) from by rw [hrq]; exact Ra.ready_any (CC.out.buf.drewN m))
  have FIN := Lib.hid (fun m (d : Int) (hd : d = 0 ∨ d = 2) => show ∃ d', (d' = 0 ∨ d' = 2) ∧ CA ((w1.drewN m).setCell ⟨P.g, 20, none⟩ (.int .i64 d)) P (putT T at_ b d') ∧ Chg w ((w1.drewN m).setCell ⟨P.g, 20, none⟩ (.int .i64 d)) P.In from ⟨d, hd, by rw [EY.out]; exact (CC.out.drewN m).set 20 _ rfl rfl rfl rfl rfl, (KC.out.drewN m).trans (set_in _ _ _ _)⟩)
  clear CC KC EY hhq hrq
  by_cases h1 : k < (n : Int)
  · have hd := decide_eq_true h1
    go_wp2_with fail
    go_quiet (first
      | (go_at_call 58; exact Calls.quiet_of_same (HD.out _))
      | (go_at_call 53; exact Calls.quiet_of (RD.out _)))
    go_wp2
    go_end0
    exact ⟨rfl, FIN.out _ 0 (.inl rfl)⟩
  · have hd := decide_eq_false h1
    by_cases h2 : hq > rq
    · have hd2 := decide_eq_true h2
      go_wp2_with fail
      go_quiet (first
        | (go_at_call 58; exact Calls.quiet_of_same (HD.out _))
        | (go_at_call 53; exact Calls.quiet_of (RD.out _)))
      go_wp2
      go_end0
      exact ⟨rfl, FIN.out _ 0 (.inl rfl)⟩
    · have hd2 := decide_eq_false h2
      by_cases h3 : T.due = -1
      · go_wp2_with fail
        go_quiet (first
          | (go_at_call 58; exact Calls.quiet_of_same (HD.out _))
          | (go_at_call 53; exact Calls.quiet_of (RD.out _)))
        go_wp2
        go_end0
        exact ⟨rfl, FIN.out _ 2 (.inr rfl)⟩
      · go_wp2_with fail
        go_quiet (first
          | (go_at_call 58; exact Calls.quiet_of_same (HD.out _))
          | (go_at_call 53; exact Calls.quiet_of (RD.out _)))
        go_wp2
        go_end0
        exact ⟨rfl, FIN.out _ 0 (.inl rfl)⟩

/-- What take makes of a connection. -/
def TakeIs (T : TC) (q : Int) (b : List UInt8) (T' : TC) : Prop := (b = [] ∧ T' = T) ∨ (b ≠ [] ∧ ∃ d, (d = 0 ∨ d = 2) ∧ T' = putT T (Sq.off T.peer q (nextR T)) b d)

set_option maxRecDepth 100000 in
theorem take_any (h : CA w P T) (ok : Ok T) (hst : T.st = 2) (q a wi : Int) (A : Option Addr) (n c : Nat) (b : List UInt8) (hb : Src w A n c b) (hn : n ≤ 1000000) (hA : 0 < n → ∀ x, A = some x → ¬ P.In x.block) :
    Calls Try.prog 29 #[.pointer (some ⟨P.g, 0, none⟩), .agg (sv q a wi A n c)] w fun e w' => e = .returned (.tuple #[]) ∧ ∃ T', TakeIs T q b T' ∧ CA w' P T' ∧ Chg w w' P.In := by
  obtain ⟨W, hW⟩ : ∃ W, w.alloc (.cells (sv q a wi A n c) 35) = W := ⟨_, rfl⟩
  have b0 : Below w.heap.size w W := by rw [← hW]; exact (Below.refl w.heap.size w).alloc (Nat.le_refl _) _
  have KB := Lib.hid (show Blk W w.heap.size 35 (sv q a wi A n c) from by rw [← hW]; exact Blk.new w _ _)
  have HW := Lib.hid hW
  have h1 := h.new b0
  have LT := h.lt
  have nP : ¬ P.In w.heap.size := fun e => by have := LT _ e; omega
  have NP := Lib.hid nP
  have hb1 := hb.below b0
  have K0 := Lib.hid (Chg.of_new b0 P.In)
  have HC := Lib.hid h1
  have HB := Lib.hid hb1
  have HA := Lib.hid hA
  have c0 := h1.c0
  rw [hst] at c0
  have c2 := h1.c2
  have c13 := h1.c13
  rw [ok.fin] at c13
  have NX := Lib.hid (fun m => next_any (h1.drewN m) ok.done)
  obtain ⟨r1, r2, r3, r4⟩ := rdy_R h
  have OFF := Lib.hid (fun X => Sq.offset_any T.peer q (nextR T) (by unfold nextR; omega) (by unfold nextR; omega) X)
  obtain ⟨at_, hat⟩ : ∃ at_, Sq.off T.peer q (nextR T) = at_ := ⟨_, rfl⟩
  have hat2 : -9223372036854775808 ≤ at_ ∧ at_ ≤ 9223372036854775807 := by
    rw [← hat]; unfold Sq.off
    have := Sq.fr_in (Sq.rd (T.peer + nextR T)) q
    unfold nextR at *; omega
  have N0 := Lib.hid (show ∀ d, ¬ (-1 : Int) = nextR (putT T at_ b d) from fun d => by show ¬ (-1 : Int) = (T.N : Int) + _; omega)
  have N1 := Lib.hid (show ¬ (-1 : Int) = nextR T from by unfold nextR; omega)
  have TI := Lib.hid (show ∀ T', TakeIs T q b T' = ((b = [] ∧ T' = T) ∨ (b ≠ [] ∧ ∃ d, (d = 0 ∨ d = 2) ∧ T' = putT T at_ b d)) from fun T' => by rw [← hat]; rfl)
  rw [hat] at OFF
  have OKD := Lib.hid ok.done
  have FI := Lib.hid ok.fin
  have z2 := (KB.out.cell 2).trans (show _ = some (.int .u32 q) from rfl)
  have z4 := (KB.out.cell 4).trans (show _ = some (.int .i64 16) from rfl)
  have z7 := (KB.out.cell 7).trans (show _ = some (.slice A n c) from rfl)
  have e1 : bits .and .i64 16 1 = 0 := by decide +kernel
  have LEN := Lib.hid hb.len
  clear h h1 hW b0 hat hb hb1 hA nP LT r1 r2 r3 r4 ok
  generalize hnx : nextR T = nx at *
  have HNX := Lib.hid hnx
  clear hnx
  go_enter Try.func29, Try.ntmps29
  go_upto_region 1 with fail
  rw [HW.out]
  go_wp2_with fail
  go_quiet (first
    | (go_at_call 46; exact Calls.quiet_of (NX.out _))
    | (go_at_call 24; exact Calls.quiet_of_same (OFF.out _)))
  have HC1 := Lib.hid (HC.out.drewN nq)
  have HB1 := Lib.hid (HB.out.drewN nq)
  have K1 := Lib.hid (K0.out.drewN nq)
  have KB1 := Lib.hid (KB.out.drewN nq)
  clear HC HB K0 NX c0 c2 c13 z2 z4 z7 KB
  generalize W.drewN nq = w1 at *
  have z4 := (KB1.out.cell 4).trans (show _ = some (.int .i64 16) from rfl)
  have z7 := (KB1.out.cell 7).trans (show _ = some (.slice A n c) from rfl)
  by_cases h0 : n = 0
  · subst h0
    have c13 := HC1.out.c13
    rw [FI.out] at c13
    have NX := Lib.hid (fun m => next_any (HC1.out.drewN m) OKD.out)
    have FF := Lib.hid (fun m => show ∃ T', TakeIs T q b T' ∧ CA (w1.drewN m) P T' ∧ Chg w (w1.drewN m) P.In from ⟨T, by rw [TI.out]; exact .inl ⟨List.length_eq_zero_iff.1 LEN.out, rfl⟩, HC1.out.drewN m, K1.out.drewN m⟩)
    have n1 := N1.out
    rw [HNX.out] at NX
    clear HC1 HB1 K1 KB1 TI HA OFF
    go_wp2_with fail
    go_quiet (first
      | (go_at_call 46; exact Calls.quiet_of (NX.out _)))
    go_wp2
    go_end0
    exact ⟨rfl, FF.out _⟩
  · have h0' : (n : Int) > 0 := by omega
    have KE := Lib.hid (keep_any HC1.out at_ hat2 A n c b HB1.out hn HA.out)
    have FI2 := Lib.hid (show ∀ d, (putT T at_ b d).fin = -1 ∧ (putT T at_ b d).done = false from fun d => ⟨FI.out, OKD.out⟩)
    clear HB1 HA
    go_wp2_with fail
    refine KE.out.mono ?_; rintro e w2 ⟨rfl, d, hd, h2, k2⟩
    have KB2 := Lib.hid (KB1.out.chg k2 NP.out)
    have HC2 := Lib.hid h2
    have K2 := Lib.hid (K1.out.trans k2)
    have TI2 := Lib.hid (show TakeIs T q b (putT T at_ b d) from by rw [TI.out]; exact .inr ⟨fun e => h0 (by rw [← LEN.out, e]; rfl), d, hd, rfl⟩)
    have n1 := N0.out d
    have NX := Lib.hid (fun m => next_any (HC2.out.drewN m) (FI2.out d).2)
    clear h2 k2 KE HC1 KB1 K1 hd z4 z7
    have c13 := HC2.out.c13
    rw [(FI2.out d).1] at c13
    generalize putT T at_ b d = T2 at *
    generalize nextR T2 = nx2 at *
    have z4 := (KB2.out.cell 4).trans (show _ = some (.int .i64 16) from rfl)
    go_wp2_with fail
    go_quiet (first
      | (go_at_call 46; exact Calls.quiet_of (NX.out _)))
    go_wp2
    go_end0
    exact ⟨rfl, T2, TI2.out, HC2.out.drewN _, K2.out.drewN _⟩
end
end Go.Proofs.Ytldmcoagjgeeoaa.Tc
