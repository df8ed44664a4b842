/- Package tcb: Read, Tick. Conditions: those that each states. -/
import Derived.Test.YtldmcoagjgeeoaaTcJ
namespace Go.Proofs.Ytldmcoagjgeeoaa.Tc
open Go.ChangeShapes Go.WideShapes Go.ChangeAt Go.RowKit Go.Deep Rk Rv
set_option linter.unusedVariables false
set_option linter.unusedSimpArgs false

section
variable {w w' : World} {P : Pl} {T : TC}
theorem CA.clock (h : CA w P T) {k : Rt.Clk} (hk : Rt.At w' P.gc k) (hc : Chg w w' (fun i => i = P.gc)) : CA w' P { T with c := k } ∧ Chg w w' P.In := by
  obtain ⟨a1, a2, a3, a4, a5, a6, a7⟩ := h.apart
  exact ⟨⟨h.head.chg hc a4, h.buf.chg hc (fun e => a5 e.symm) (fun e => a6 e.symm) (fun e => a7 e.symm), hk, h.apart, h.room⟩, hc.weak fun i e => .inr (.inr (.inr (.inr e)))⟩

def tkR (T : TC) : TC := { T with N := T.N + Ra.rdy T.xs, xs := Ra.aft T.xs }
theorem tk_ok {T : TC} (h : Ok T) : Ok (tkR T) := ⟨h.done, h.shut, h.fin, h.una, h.nxt, h.en, h.big, h.win, h.mss, h.tm, h.tr, h.due, h.sm⟩

set_option maxRecDepth 100000 in
theorem read_any (h : CA w P T) (ok : Ok T) (hs : T.N + P.R ≤ 1099511627776) : Calls Try.prog 13 #[.pointer (some ⟨P.g, 0, none⟩)] w fun e w' => ∃ gn A' c' ll, e = .returned (.tuple #[.slice (some ⟨gn, 0, none⟩) (Ra.rdy T.xs) (Ra.rdy T.xs), .slice A' ll.length c']) ∧ ∃ T', CO w w' P T' A' c' ll ∧ Kp (tkR T) T' ∧ Src w' (some ⟨gn, 0, none⟩) (Ra.rdy T.xs) (Ra.rdy T.xs) (Ra.tk T.xs) ∧ w.heap.size ≤ gn := by
  have H := Lib.hid h
  have OK := Lib.hid ok
  have OK1 := Lib.hid (tk_ok ok)
  have WN := Lib.hid (window_any h)
  have TK := Lib.hid (fun m => Ra.take_any (h.drewN m).buf hs)
  have C11 := Lib.hid (fun m => (h.drewN m).c11)
  obtain ⟨rn, hrn⟩ : ∃ rn, Ra.rdy T.xs = rn := ⟨_, rfl⟩
  obtain ⟨tb, htb⟩ : ∃ tb, Ra.tk T.xs = tb := ⟨_, rfl⟩
  have PUT := Lib.hid (fun m W (hb : Ra.Buf W P.gt P.gm P.gb P.R (T.N + Ra.rdy T.xs) (Ra.aft T.xs)) (k : Chg (w.drewN m) W (fun k => k = P.gt ∨ k = P.gm ∨ k = P.gb)) => show CA W P (tkR T) ∧ Chg (w.drewN m) W P.In from (h.drewN m).put hb k)
  rw [hrn, htb] at TK
  rw [hrn] at PUT
  rw [hrn, htb]
  have LT := Lib.hid h.lt
  clear h hrn htb
  generalize winR T = w0 at *
  generalize hX : tkR T = X at *
  clear hX
  go_enter Try.func13, Try.ntmps13
  go_wp2_with fail
  refine WN.out.mono ?_; rintro e w1 ⟨rfl, m, rfl⟩
  have c11 := C11.out m
  go_wp2_with fail
  refine (TK.out m).mono ?_; rintro e w2 ⟨gn, rfl, s2, g2, l2, b2, k2⟩
  obtain ⟨ca2, kc2⟩ := PUT.out m w2 b2 k2
  have D2 := Lib.hid ((CO.drewN (CO.start H.out) m).step ca2 kc2)
  have NG := Lib.hid (show ¬ P.In gn from fun e => by have := LT.out gn e; have : (w.drewN m).heap.size = w.heap.size := rfl; omega)
  have GN := Lib.hid (show w.heap.size ≤ gn from g2)
  have S2 := Lib.hid s2
  clear b2 k2 ca2 kc2 s2 g2 l2 TK WN PUT C11 c11
  have WN := Lib.hid (window_any D2.out.con)
  have ENDS := Lib.hid (fun W (Y : TC) (hc : CA W P Y) (k : Chg w2 W P.In) (kp : Kp X Y) => show Calls Try.prog 31 #[.pointer (some ⟨P.g, 0, none⟩), .slice none 0 0] W (fun e w' => ∃ A' c' ll, e = .returned (.slice A' ll.length c') ∧ ∃ T', CO w w' P T' A' c' ll ∧ Kp X T' ∧ Src w' (some ⟨gn, 0, none⟩) rn rn tb ∧ w.heap.size ≤ gn) from by
    have p := pay_any (D2.out.step hc k) kp.1.done (by simp)
    refine p.mono ?_
    rintro e w' ⟨A', c', rfl, co, ap⟩
    refine ⟨A', c', _, rfl, _, co, kp.trans (pay_ok kp.1), ?_, GN.out⟩
    have q1 : Src W (some ⟨gn, 0, none⟩) rn rn tb := Ra.src_chg S2.out k (fun _ a e => by cases e; exact NG.out)
    exact Ra.src_chg q1 ap.chg (fun _ a e => by
      cases e
      rintro (e | ⟨_, e, _⟩)
      · exact NG.out e
      · cases e))
  have c0 := D2.out.con.c0
  have c20 := D2.out.con.c20
  have f20 := D2.out.con.fz 20
  have SET := Lib.hid (fun m => show CA ((w2.drewN m).setCell ⟨P.g, 20, none⟩ (.int .i64 0)) P (dueR X 0) ∧ Chg w2 ((w2.drewN m).setCell ⟨P.g, 20, none⟩ (.int .i64 0)) P.In from ⟨(D2.out.con.drewN m).set 20 _ rfl rfl rfl rfl rfl, ((Chg.refl w2 _).drewN m).trans (set_in _ _ _ _)⟩)
  have STAY := Lib.hid (fun m => show CA (w2.drewN m) P X ∧ Chg w2 (w2.drewN m) P.In from ⟨D2.out.con.drewN m, (Chg.refl w2 _).drewN m⟩)
  have KX := Lib.hid (Kp.refl OK1.out)
  have KD := Lib.hid (due_ok OK1.out (d := 0) (by decide))
  clear D2 S2 H
  generalize winR X = wv at *
  by_cases h1 : w0 = 0
  · subst h1
    go_wp2_with fail
    refine WN.out.mono ?_; rintro e w3 ⟨rfl, m3, rfl⟩
    by_cases h2 : wv = 0
    · subst h2
      obtain ⟨y1, y2⟩ := STAY.out m3
      have PY := Lib.hid (ENDS.out _ X y1 y2 KX.out)
      clear ENDS SET STAY y1 y2
      go_wp2_with fail
      refine PY.out.mono ?_; rintro e w4 ⟨A', c', ll, rfl, T', r⟩
      have R := Lib.hid r
      clear r PY
      go_wp2
      go_ret2
      exact ⟨gn, A', c', ll, rfl, T', R.out⟩
    · have h2' : (wv != 0) = true := by simpa using h2
      by_cases h3 : X.st = 0
      · rw [h3] at c0
        obtain ⟨y1, y2⟩ := STAY.out m3
        have PY := Lib.hid (ENDS.out _ X y1 y2 KX.out)
        clear ENDS SET STAY y1 y2
        go_wp2_with fail
        refine PY.out.mono ?_; rintro e w4 ⟨A', c', ll, rfl, T', r⟩
        have R := Lib.hid r
        clear r PY
        go_wp2
        go_ret2
        exact ⟨gn, A', c', ll, rfl, T', R.out⟩
      · have h3' : (X.st != 0) = true := by simpa using h3
        obtain ⟨y1, y2⟩ := SET.out m3
        have PY := Lib.hid (ENDS.out _ _ y1 y2 KD.out)
        clear ENDS SET STAY y1 y2
        go_wp2_with fail
        refine PY.out.mono ?_; rintro e w4 ⟨A', c', ll, rfl, T', r⟩
        have R := Lib.hid r
        clear r PY
        go_wp2
        go_ret2
        exact ⟨gn, A', c', ll, rfl, T', R.out⟩
  · obtain ⟨y1, y2⟩ := STAY.out 0
    have PY := Lib.hid (ENDS.out _ X y1 y2 KX.out)
    clear ENDS SET STAY y1 y2
    go_wp2_with fail
    refine PY.out.mono ?_; rintro e w4 ⟨A', c', ll, rfl, T', r⟩
    have R := Lib.hid r
    clear r PY
    go_wp2
    go_ret2
    exact ⟨gn, A', c', ll, rfl, T', R.out⟩

def tmR (T : TC) (k : Int) : TC := { T with tm := k }
def tookR (T : TC) (k : Int) : TC := { T with took := k }
def ckR (T : TC) : TC := { T with c := Rt.backR T.c }
theorem tm_ok {T : TC} (h : Ok T) {k : Int} (hk : 0 ≤ k ∧ k ≤ 64) : Kp T (tmR T k) := ⟨⟨h.done, h.shut, h.fin, h.una, h.nxt, h.en, h.big, h.win, h.mss, hk, h.tr, h.due, h.sm⟩, ⟨rfl, rfl, rfl, rfl, rfl, rfl, rfl, rfl⟩⟩
theorem took_ok {T : TC} (h : Ok T) (k : Int) : Kp T (tookR T k) := ⟨⟨h.done, h.shut, h.fin, h.una, h.nxt, h.en, h.big, h.win, h.mss, h.tm, h.tr, h.due, h.sm⟩, ⟨rfl, rfl, rfl, rfl, rfl, rfl, rfl, rfl⟩⟩
theorem ck_ok {T : TC} (h : Ok T) : Kp T (ckR T) := ⟨⟨h.done, h.shut, h.fin, h.una, h.nxt, h.en, h.big, h.win, h.mss, h.tm, h.tr, h.due, Rt.sm_back h.sm⟩, ⟨rfl, rfl, rfl, rfl, rfl, rfl, rfl, rfl⟩⟩
/-- What a tick leaves: the connection may be gone. -/
structure Tk (T T' : TC) : Prop where
  ok : Ok T'
  st : T'.st = 2 ∨ T'.st = 0
  own : T'.own = T.own
  peer : T'.peer = T.peer
  una : T'.una = T.una
  en : T'.en = T.en
  N : T'.N = T.N
  xs : T'.xs = T.xs
theorem Kp.tk {T T' : TC} (h : Kp T T') (hs : T.st = 2) : Tk T T' := ⟨h.1, .inl (h.2.st.trans hs), h.2.own, h.2.peer, h.2.una, h.2.en, h.2.N, h.2.xs⟩

set_option maxRecDepth 100000 in
set_option maxHeartbeats 2000000 in
theorem tick_any (h : CA w P T) (ok : Ok T) (hst : T.st = 2) : Calls Try.prog 11 #[.pointer (some ⟨P.g, 0, none⟩)] w fun e w' => ∃ A' c' ll, e = .returned (.slice A' ll.length c') ∧ ∃ T', CO w w' P T' A' c' ll ∧ Tk T T' := by
  have SA := Lib.hid (state_any h)
  have c0 := h.c0
  have c20 := h.c20
  have f20 := h.fz 20
  rw [hst] at c0 SA
  obtain ⟨d1, d2⟩ := ok.due
  have D0 := Lib.hid (CO.start h)
  have K0 := Lib.hid (Kp.refl ok)
  have PAY := Lib.hid (fun W (Y : TC) (A : Option Addr) (c : Nat) (l : List OutV) (hc : CO w W P Y A c l) (kp : Tk T Y) (hl : l.length ≤ 900000) => show Calls Try.prog 31 #[.pointer (some ⟨P.g, 0, none⟩), .slice A l.length c] W (fun e w' => ∃ A' c' ll, e = .returned (.slice A' ll.length c') ∧ ∃ T', CO w w' P T' A' c' ll ∧ Tk T T') from by
    refine (pay_any hc kp.ok.done hl).mono ?_
    rintro e w' ⟨A', c', rfl, co, _⟩
    have q := pay_ok kp.ok
    exact ⟨A', c', _, rfl, _, co, ⟨q.1, by rw [q.2.st]; exact kp.st, q.2.own.trans kp.own, q.2.peer.trans kp.peer, q.2.una.trans kp.una, q.2.en.trans kp.en, q.2.N.trans kp.N, q.2.xs.trans kp.xs⟩⟩)
  clear h
  go_enter Try.func11, Try.ntmps11
  go_wp2_with fail
  refine scope_once 0 rfl ?_
  go_wp2_with fail
  refine SA.out.mono ?_; rintro e w1 ⟨rfl, rfl⟩
  go_upto_if 31 with fail
  go_cut [] (fun wx => ∃ Y, Hid (CO w1 wx P Y none 0 []) ∧ Hid (Kp T Y))
  · by_cases h1 : T.due > 0
    · have x1 := IntWalk.i64_in (T.due - 1) (by omega)
      have q1 : CA (w1.setCell ⟨P.g, 20, none⟩ (.int .i64 (T.due - 1))) P (dueR T (T.due - 1)) := D0.out.con.set 20 _ rfl rfl rfl rfl rfl
      have D1 := Lib.hid (D0.out.step q1 (set_in _ _ _ _))
      have K1 := Lib.hid (due_ok ok (d := T.due - 1) (by omega))
      clear D0 q1
      go_wp2_with fail
      go_meet
      exact ⟨_, D1, K1⟩
    · go_wp2_with fail
      go_meet
      exact ⟨_, D0, K0⟩
  obtain ⟨T1, D1, K1⟩ := hcut
  clear D0 K0 c0 c20 f20
  have c18 := D1.out.con.c18
  go_upto_if 43 with fail
  go_cut [] (fun wx => ∃ Y, Hid (CO w1 wx P Y none 0 []) ∧ Hid (Kp T Y))
  · by_cases h1 : T1.timed = -1
    · rw [h1] at c18
      go_wp2_with fail
      go_meet
      exact ⟨_, D1, K1⟩
    · have h1' : (T1.timed != -1) = true := by simpa using h1
      have c19 := D1.out.con.c19
      have f19 := D1.out.con.fz 19
      have q1 : CA (wc.setCell ⟨P.g, 19, none⟩ (.int .i64 (wrap64 (T1.took + 1)))) P (tookR T1 (wrap64 (T1.took + 1))) := D1.out.con.set 19 _ rfl rfl rfl rfl rfl
      have D2 := Lib.hid (D1.out.step q1 (set_in _ _ _ _))
      have K2 := Lib.hid (K1.out.trans (took_ok K1.out.1 (wrap64 (T1.took + 1))))
      clear D1 q1
      go_wp2_with fail
      go_meet
      exact ⟨_, D2, K2⟩
  obtain ⟨T2, D2, K2⟩ := hcut
  clear D1 K1 c18
  obtain ⟨t1, t2⟩ := K2.out.1.tm
  have c14 := D2.out.con.c14
  have f14 := D2.out.con.fz 14
  by_cases h1 : T2.tm = 0
  · rw [h1] at c14
    have PY := Lib.hid (PAY.out _ T2 none 0 [] D2.out (K2.out.tk hst) (by simp))
    clear D2 K2 PAY
    go_wp2_with fail
    go_step3
    refine ⟨rfl, ?_⟩
    go_wp2_with fail
    refine PY.out.mono ?_; rintro e w5 ⟨A5, c5', ll, rfl, T5, r5⟩
    have R5 := Lib.hid r5
    clear PY r5
    go_wp2
    rw [Exit.noGoto_ret]
    go_ret
    exact ⟨A5, c5', ll, rfl, T5, R5.out⟩
  have h1' : (T2.tm == 0) = false := by simpa using h1
  have x1 := IntWalk.i64_in (T2.tm - 1) (by omega)
  have q1 : CA (wc.setCell ⟨P.g, 14, none⟩ (.int .i64 (T2.tm - 1))) P (tmR T2 (T2.tm - 1)) := D2.out.con.set 14 _ rfl rfl rfl rfl rfl
  have D3 := Lib.hid (D2.out.step q1 (set_in _ _ _ _))
  have K3 := Lib.hid (K2.out.trans (tm_ok K2.out.1 (k := T2.tm - 1) (by omega)))
  have e3 : (tmR T2 (T2.tm - 1)).tm = T2.tm - 1 := rfl
  clear q1 D2
  go_upto_region 14 with fail
  generalize wc.setCell ⟨P.g, 14, none⟩ (.int .i64 (T2.tm - 1)) = w3 at *
  generalize tmR T2 (T2.tm - 1) = T3 at *
  clear c14 f14
  have c14 := D3.out.con.c14
  rw [e3] at c14
  by_cases h2 : T2.tm - 1 > 0
  · have PY := Lib.hid (PAY.out _ T3 none 0 [] D3.out (K3.out.tk hst) (by simp))
    clear D3 K3 PAY
    go_wp2_with fail
    go_step3
    refine ⟨rfl, ?_⟩
    go_wp2_with fail
    refine PY.out.mono ?_; rintro e w5 ⟨A5, c5', ll, rfl, T5, r5⟩
    have R5 := Lib.hid r5
    clear PY r5
    go_wp2
    rw [Exit.noGoto_ret]
    go_ret
    exact ⟨A5, c5', ll, rfl, T5, R5.out⟩
  have c15 := D3.out.con.c15
  have f15 := D3.out.con.fz 15
  obtain ⟨k, hk⟩ : ∃ k, wrap64 (T3.tr + 1) = k := ⟨_, rfl⟩
  have q4 : CA (w3.setCell ⟨P.g, 15, none⟩ (.int .i64 k)) P (trR T3 k) := D3.out.con.set 15 _ rfl rfl rfl rfl rfl
  have D4 := Lib.hid (D3.out.step q4 (set_in _ _ _ _))
  have K4 := Lib.hid (K3.out.trans (tr_ok K3.out.1 k))
  clear q4 D3 K3
  go_upto_region 16 with fail
  rw [hk]
  generalize w3.setCell ⟨P.g, 15, none⟩ (.int .i64 k) = w4 at *
  have e4 : (trR T3 k).tr = k := rfl
  generalize trR T3 k = T4 at *
  clear c14 c15 f15 hk
  have c15 := D4.out.con.c15
  rw [e4] at c15
  have st4 : T4.st = 2 := by rw [K4.out.2.st]; exact hst
  by_cases h3 : k > 6
  · have AB := Lib.hid (abort_any D4.out.con K4.out.1.done (by rw [st4]; decide))
    have KA := Lib.hid (show Tk T { T4 with st := 0, due := -1 } from by
      have q := K4.out
      exact ⟨⟨q.1.done, q.1.shut, q.1.fin, q.1.una, q.1.nxt, q.1.en, q.1.big, q.1.win, q.1.mss, q.1.tm, q.1.tr, by show -1 ≤ (-1 : Int) ∧ (-1 : Int) ≤ 2; decide, q.1.sm⟩, .inr rfl, q.2.own, q.2.peer, q.2.una, q.2.en, q.2.N, q.2.xs⟩)
    go_wp2_with fail
    refine AB.out.mono ?_; rintro e w5 ⟨A5, c5', rfl, co5⟩
    have D5 := Lib.hid (D4.out.base co5)
    have PY := Lib.hid (PAY.out _ _ A5 c5' _ D5.out KA.out (by simp))
    clear D4 AB co5 KA PAY K4 D5
    go_wp2_with fail
    go_step3
    refine ⟨rfl, ?_⟩
    go_wp2_with fail
    refine PY.out.mono ?_; rintro e w6 ⟨A6, c6', ll, rfl, T6, r6⟩
    have R6 := Lib.hid r6
    clear PY r6
    go_wp2
    rw [Exit.noGoto_ret]
    go_ret
    exact ⟨A6, c6', ll, rfl, T6, R6.out⟩
  have c17 := D4.out.con.c17
  have BK := Lib.hid (Rt.back_mv (w0 := w4) (w := w4) ⟨D4.out.con.clk, Chg.refl _ _⟩ K4.out.1.sm)
  go_wp2_with fail
  refine BK.out.mono ?_; rintro e w5 ⟨rfl, m5⟩
  obtain ⟨ca5, k5⟩ := D4.out.con.clock m5.at_ m5.chg
  have D5 := Lib.hid (show CO w1 w5 P (ckR T4) none 0 [] from D4.out.step ca5 k5)
  have K5 := Lib.hid (K4.out.trans (ck_ok K4.out.1))
  have st5 : (ckR T4).st = 2 := st4
  clear D4 K4 BK ca5 k5 m5 c15 c17
  generalize ckR T4 = T5 at *
  have AG := Lib.hid (again_any D5.out K5.out.1 st5 (by simp))
  have K6 := Lib.hid (K5.out.trans (again_ok K5.out.1))
  generalize againT T5 = T6 at *
  go_wp2_with fail
  refine AG.out.mono ?_; rintro e w6 ⟨A6, c6', l6, rfl, co6, _, ln6⟩
  have D6 := Lib.hid co6
  have LN6 := Lib.hid ln6
  have AR := Lib.hid (arm_any D6.out.con)
  clear AG co6 ln6 D5 K5
  go_wp2_with fail
  refine AR.out.mono ?_; rintro e w7 ⟨rfl, h7, k7⟩
  have D7 := Lib.hid (D6.out.step h7 k7)
  have K7 := Lib.hid (K6.out.trans (arm_ok K6.out.1))
  have PY := Lib.hid (PAY.out _ _ A6 c6' l6 D7.out (K7.out.tk hst) (by have := LN6.out; simp at this; omega))
  clear AR h7 k7 D6 K6 PAY D7 K7
  go_wp2_with fail
  go_step3
  go_wp2_with fail
  refine PY.out.mono ?_; rintro e w8 ⟨A8, c8', ll, rfl, T8, r8⟩
  have R8 := Lib.hid r8
  clear PY r8
  go_wp2
  unfold Exit.jump
  go_ret
  exact ⟨A8, c8', ll, rfl, T8, R8.out⟩
end
end Go.Proofs.Ytldmcoagjgeeoaa.Tc
