/- TcbShakes says true for every input: a connection that begins is open by just the ack of its own number, and what is sent begins behind that number. Conditions: none beyond the given statement's. -/
import Derived.Test.YtldmcoagjgeeoaaTcS
namespace Go.Proofs.Ytldmcoagjgeeoaa.tcbShakes
open Go.ChangeShapes Go.WideShapes Go.ChangeAt Go.RowKit Tc Rk Rv Gx
set_option linter.unusedVariables false


theorem rdy_none : ∀ R : Nat, Ra.rdy (List.replicate R none) = 0
  | 0 => rfl
  | _ + 1 => rfl
theorem acc_beg (iss irs wi : Int) (hwi : 0 ≤ wi ∧ wi ≤ 65535) : Beg (accR iss irs wi 100 500) :=
  ⟨⟨rfl, rfl, rfl, by show (0 : Int) ≤ 0; decide, by show (0 : Int) ≤ 0; decide, by show (0 : Int) ≤ 0; decide, by show (0 : Int) ≤ 1099511627776; decide, hwi, by show (1 : Int) ≤ 100 ∧ (100 : Int) ≤ 900; decide, by show (0 : Int) ≤ 4 ∧ (4 : Int) ≤ 64; decide, trivial, by show (-1 : Int) ≤ -1 ∧ (-1 : Int) ≤ 2; decide, Rt.sm_0⟩, rfl, rfl, rfl, rfl, rfl⟩
def sumL (l : List OutV) : Int := (l.map (·.l)).sum
theorem sum_snoc (l : List OutV) (o : OutV) : sumL (l ++ [o]) = sumL l + o.l := by unfold sumL; rw [List.map_append, List.sum_append]; simp
theorem ch_facts {X : TC} {o : OutV} {p : Int} {l : List OutV} (hm : 1 ≤ X.mss) (h : Ch X o p l) : p = X.nxt + sumL l ∧ ∀ i (hi : i < l.length), (l[i].s = numR X l[i].fr ∧ l[i].fr = X.nxt + sumL (l.take i)) ∧ X.nxt ≤ l[i].fr ∧ 0 ≤ l[i].l ∧ l[i].fr + l[i].l ≤ limR X := by
  induction h with
  | nil => exact ⟨by simp [sumL], fun i hi => absurd hi (by simp)⟩
  | snoc h hp ih =>
    rename_i p l
    have i1 := ih.1
    have h1 := (h.le hm).1
    refine ⟨by rw [sum_snoc]; show p + min X.mss (limR X - p) = X.nxt + (sumL l + min X.mss (limR X - p)); omega, fun i hi => ?_⟩
    by_cases e : i < l.length
    · rw [List.getElem_append_left e, List.take_append_of_le_length (by omega)]
      exact ih.2 i e
    · have hi' : i = l.length := by simp at hi; omega
      subst hi'
      rw [List.getElem_append_right (by omega), List.take_left]
      simp only [Nat.sub_self, List.getElem_cons_zero]
      refine ⟨⟨rfl, i1⟩, ?_, ?_, ?_⟩
      · show X.nxt ≤ p; omega
      · show 0 ≤ min X.mss (limR X - p); omega
      · show p + min X.mss (limR X - p) ≤ limR X; omega
theorem push_due {T : TC} (h : T.due = -1) : (pushT T).due = -1 := by
  unfold pushT Tc.loopT Tc.stepT wakeR armR
  split
  · split
    · exact h
    · rfl
  · split
    · split
      · exact h
      · exact h
    · exact h
theorem outC_len (o : OutV) : (outC o).length = 7 := rfl
theorem out_at {w : World} {A : Option Addr} {c : Nat} {l : List OutV} (h : RowV w 55 7 A l.length c (outsC l)) {i : Nat} (hi : i < l.length) : ∃ b o, A = some ⟨b, o, none⟩ ∧ w.cell? ⟨b, o + i * 7 + 1, none⟩ = some (.int .u32 l[i].s) ∧ w.cell? ⟨b, o + i * 7 + 4, none⟩ = some (.int .i64 l[i].fr) ∧ w.cell? ⟨b, o + i * 7 + 5, none⟩ = some (.int .i64 l[i].l) := by
  have g : RowG w 7 A l.length c (l.flatMap outC) := h.toG
  obtain ⟨b, o, e, _, c1⟩ := rowG_at outC_len g hi (j := 1) (by decide)
  obtain ⟨b4, o4, e4, _, c4⟩ := rowG_at outC_len g hi (j := 4) (by decide)
  obtain ⟨b5, o5, e5, _, c5⟩ := rowG_at outC_len g hi (j := 5) (by decide)
  rw [e] at e4 e5
  cases e4
  cases e5
  exact ⟨b, o, e, c1, c4, c5⟩
theorem rd_rd (a x : Int) : Sq.rd (Sq.rd (a + 1) + x) = Sq.rd (a + (1 + x)) := by unfold Sq.rd; omega

set_option maxRecDepth 100000 in
set_option maxHeartbeats 4000000 in
theorem walk (w : World) (a : Int) (wa : (Lit.int .u32 a).wf = true) (b : Int) (wb : (Lit.int .u32 b).wf = true) (k : Int) (wk : (Lit.int .u32 k).wf = true) (d : Int) (wd : (Lit.int .u16 d).wf = true) (n : Int) (wn : (Lit.int .u16 n).wf = true) :
    Calls Try.prog 5 #[.int .u32 a, .int .u32 b, .int .u32 k, .int .u16 d, .int .u16 n] w fun e w' => e = .returned (.bool true) ∧ Below w.heap.size w w' := by
  have ha : 0 ≤ a ∧ a ≤ 4294967295 := by obtain ⟨x, rfl, h⟩ := wf_u32 wa; omega
  have hb : 0 ≤ b ∧ b ≤ 4294967295 := by obtain ⟨x, rfl, h⟩ := wf_u32 wb; omega
  have hk : 0 ≤ k ∧ k ≤ 4294967295 := by obtain ⟨x, rfl, h⟩ := wf_u32 wk; omega
  have hd : 0 ≤ d ∧ d ≤ 65535 := by obtain ⟨x, rfl, h⟩ := wf_u16 wd; omega
  have hn : 0 ≤ n ∧ n ≤ 65535 := by obtain ⟨x, rfl, h⟩ := wf_u16 wn; omega
  clear wa wb wk wd wn
  have AC := Lib.hid (fun W => show Calls Try.prog 8 #[.int .u32 a, .agg (yn b d), .int .i64 100, .int .i64 500] W _ from accept_any a b d 100 500 hd (by decide) (by decide) W)
  have BG := Lib.hid (acc_beg a b d hd)
  have GR := Lib.hid (show greetR (armR (T0 a b d 100 500)) = ⟨18, a, Sq.rd (b + 1), 500, 0, 0, 100⟩ from by
    show (⟨18, Sq.rd (Sq.rd (a + 1) + -1), Sq.rd (Sq.rd (b + 1) + ((0 : Nat) + (Ra.rdy (List.replicate 500 none) : Nat) : Int)), ((500 : Nat) : Int) - (Ra.rdy (List.replicate 500 none) : Nat), 0, 0, 100⟩ : OutV) = _
    rw [rdy_none]
    have e1 : Sq.rd (Sq.rd (a + 1) + -1) = a := by unfold Sq.rd; omega
    have e2 : Sq.rd (Sq.rd (b + 1) + ((0 : Nat) + (0 : Nat) : Int)) = Sq.rd (b + 1) := by unfold Sq.rd; omega
    rw [e1, e2]; rfl)
  have EXP := Lib.hid (show expR (accR a b d 100 500) = Sq.rd (b + 1) from by
    show Sq.rd (Sq.rd (b + 1) + ((0 : Nat) + (Ra.rdy (List.replicate 500 none) : Nat) : Int)) = _
    rw [rdy_none]; unfold Sq.rd; omega)
  have FIT := Lib.hid (show fitsR (accR a b d 100 500) (Sq.rd (b + 1)) 0 = true from by
    have hw : winR (accR a b d 100 500) = 500 := by
      show ((500 : Nat) : Int) - (Ra.rdy (List.replicate 500 none) : Nat) = 500
      rw [rdy_none]; rfl
    unfold fitsR
    rw [hw, EXP.out, if_neg (by omega)]
    have : Sq.wi (Sq.rd (b + 1)) (Sq.rd (b + 1)) 500 = true := by
      unfold Sq.wi Sq.fr
      exact decide_eq_true (by omega)
    rw [this]; rfl)
  have PLC := Lib.hid (show Sq.off (accR a b d 100 500).own k 0 = 0 ↔ k = Sq.rd (a + 1) from by
    show Sq.off (Sq.rd (a + 1)) k 0 = 0 ↔ _
    unfold Sq.off Sq.fr Sq.rd
    omega)
  have AB := Lib.hid (fun W => Sq.add_any b 1 W)
  have AA := Lib.hid (fun W => Sq.add_any a 1 W)
  obtain ⟨rb, hrb⟩ : ∃ rb, Sq.rd (b + 1) = rb := ⟨_, rfl⟩
  obtain ⟨ra, hra⟩ : ∃ ra, Sq.rd (a + 1) = ra := ⟨_, rfl⟩
  rw [hrb] at GR EXP FIT AB
  rw [hra] at PLC AA
  have HRA := Lib.hid hra
  have TF := Lib.hid (show (accR a b d 100 500).own = ra ∧ (accR a b d 100 500).mss = 100 from ⟨hra, rfl⟩)
  clear hra hrb EXP
  go_enter Try.func5, Try.ntmps5
  go_wp2_with fail
  refine (alive_any w).mono ?_; rintro e w1 ⟨rfl, b1⟩
  have B1 := Lib.hid b1
  clear b1
  go_wp2_with fail
  refine (AC.out w1).mono ?_; rintro e w2 ⟨P, A2, c2, ll, rfl, h2, hl⟩
  rw [GR.out] at hl
  subst hl
  have B2 := Lib.hid (B1.out.trans (h2.below.mono B1.out.size))
  have CN := Lib.hid h2.con
  have OWN := Lib.hid (show ∀ i, P.In i → w.heap.size ≤ i from fun i hi => Nat.le_trans B1.out.size (h2.own i hi))
  obtain ⟨b0, o0, hA, _, z1⟩ := h2.out.cell (j := 1) (by show 1 < 7; decide)
  obtain ⟨b0', o0', hA', _, z2⟩ := h2.out.cell (j := 2) (by show 2 < 7; decide)
  obtain ⟨b0'', o0'', hA'', _, z6⟩ := h2.out.cell (j := 6) (by show 6 < 7; decide)
  subst hA
  cases hA'
  cases hA''
  replace z1 : w2.cell? ⟨b0, o0 + 1, none⟩ = some (.int .u32 a) := z1
  replace z2 : w2.cell? ⟨b0, o0 + 2, none⟩ = some (.int .u32 rb) := z2
  replace z6 : w2.cell? ⟨b0, o0 + 6, none⟩ = some (.int .i64 100) := z6
  clear h2 AC GR B1
  generalize accR a b d 100 500 = T1 at *
  go_wp2_with fail
  go_quiet ((go_at_call 10; exact Calls.quiet_of_same (AB.out _)))
  have CN1 := Lib.hid (CN.out.drewN nq)
  have B3 := Lib.hid (below_drewN B2.out nq)
  clear CN B2 z1 z2 z6
  generalize w2.drewN nq = w3 at *
  go_wp2_with fail
  refine (AB.out w3).mono ?_; rintro e w4 ⟨rfl, rfl⟩
  by_cases hk2 : k = ra
  · subst hk2
    have IO := Lib.hid (in_open CN1.out BG.out rb k d hd (PLC.out.2 rfl) FIT.out)
    go_wp2_with fail
    refine IO.out.mono ?_; rintro e w5 ⟨A5, c5', rfl, co5⟩
    have B5 := Lib.hid (B3.out.trans (co5.chg.below B3.out.size OWN.out))
    have C5 := Lib.hid co5.con
    have OK5 := Lib.hid (win_ok (tr_ok (op_ok BG.out) 0).1 hd).1
    have SA := Lib.hid (state_any co5.con)
    rw [show (openR T1 d).st = 2 from rfl] at SA
    have F5 := Lib.hid (show (openR T1 d).own = k ∧ (openR T1 d).mss = 100 ∧ (openR T1 d).st = 2 ∧ (openR T1 d).una = 0 ∧ (openR T1 d).nxt = 0 ∧ (openR T1 d).en = 0 ∧ (openR T1 d).win = d ∧ (openR T1 d).due = -1 from ⟨TF.out.1, TF.out.2, rfl, BG.out.una, BG.out.nxt, BG.out.en, rfl, BG.out.due⟩)
    have OK5 := Lib.hid (show Ok (openR T1 d) from OK5.out)
    clear co5 IO CN1 B3 FIT PLC
    generalize openR T1 d = T5 at *
    go_wp2_with fail
    refine (AA.out w5).mono ?_; rintro e w6 ⟨rfl, rfl⟩
    go_wp2_with fail
    refine SA.out.mono ?_; rintro e w7 ⟨rfl, rfl⟩
    obtain ⟨m, hm⟩ : ∃ m : Int, m = 1 + n % 300 := ⟨_, rfl⟩
    have m1 : 1 ≤ m ∧ m ≤ 300 := by omega
    have xn0 : n.tmod 300 = n % 300 := Int.tmod_eq_emod_of_nonneg (by omega)
    have tmod1 : n.tmod 300 = m - 1 := by rw [xn0]; omega
    have xm0 := IntWalk.i64_in (m - 1) (by omega)
    clear hm xn0
    have WR := Lib.hid (write_any C5.out OK5.out F5.out.2.2.1 m (by omega) (by have := F5.out; omega))
    have xn := IntWalk.i64_in n (by omega)
    have xd := IntWalk.i64_in d (by omega)
    have xm := IntWalk.i64_in m (by omega)
    have xm2 : 1 + (m - 1) = m := by omega
    go_wp2_with fail
    refine WR.out.mono ?_; rintro e w8 ⟨A8, c8, ll, rfl, l', co8, pp, hll⟩
    obtain ⟨X, hX⟩ : ∃ X, enR T5 m = X := ⟨_, rfl⟩
    rw [hX] at co8 pp hll
    obtain ⟨f1, f2, f3, f4, f5, f6, f7, f8⟩ := F5.out
    have g1 : X.nxt = 0 := by rw [← hX]; exact f5
    have g2 : limR X = min m d := by
      have e1 : X.en = 0 + m := by rw [← hX]; show T5.en + m = _; rw [f6]
      have e2 : X.una = 0 := by rw [← hX]; exact f4
      have e3 : X.win = d := by rw [← hX]; exact f7
      unfold limR
      rw [e1, e2, e3]; omega
    have g3 : X.own = k := by rw [← hX]; exact f1
    have hpd : ¬ (pushT X).due = 0 := by rw [push_due (by rw [← hX]; exact f8)]; decide
    have hl2 : ll = l' := by rw [hll]; exact if_neg hpd
    subst hl2
    have g4 : X.mss = 100 := by rw [← hX]; exact f2
    have okX : Ok X := by rw [← hX]; exact en_ok OK5.out (by omega) (by rw [f6]; omega)
    have LL := Lib.hid (pushed_len okX pp)
    have FACT : sumL ll = min m d ∧ ∀ i (hi : i < ll.length), (ll[i].s = Sq.rd (k + sumL (ll.take i)) ∧ ll[i].fr = sumL (ll.take i)) ∧ 0 ≤ ll[i].fr ∧ 0 ≤ ll[i].l ∧ ll[i].fr + ll[i].l ≤ 300 := by
      rcases pp with ⟨hlt, rfl⟩ | ⟨hlt, hc⟩
      · rw [g1, g2] at hlt
        exact ⟨by show (0 : Int) = _; omega, fun i hi => absurd hi (by simp)⟩
      · obtain ⟨p1, p2⟩ := ch_facts (by omega) hc
        rw [g1, g2] at p1
        refine ⟨by omega, fun i hi => ?_⟩
        obtain ⟨⟨q1, q2⟩, q3, q4, q5⟩ := p2 i hi
        rw [g1, Int.zero_add] at q2
        rw [g1] at q3
        rw [g2] at q5
        refine ⟨⟨?_, q2⟩, q3, q4, by omega⟩
        rw [q1, q2]; unfold numR; rw [g3]
    have SUM := Lib.hid FACT.1
    have FACT2 := Lib.hid FACT.2
    have RO := Lib.hid co8.out
    have B8 := Lib.hid (B5.out.trans (co8.chg.below B5.out.size OWN.out))
    clear co8 pp hll hX g1 g2 g3 g4 okX hpd FACT f1 f2 f3 f4 f5 f6 f7 f8 WR SA C5 B5 F5 OK5
    obtain ⟨nl, hnl⟩ : ∃ nl, ll.length = nl := ⟨_, rfl⟩
    have HNL := Lib.hid hnl
    have nl1 : nl ≤ 65535 := by rw [← hnl]; exact LL.out
    rw [hnl] at RO ⊢
    clear hnl
    go_wp2_with fail
    go_loopw [17, 18] (fun sv iv wr => ∃ (j : Nat) (sm : Int), j ≤ nl ∧ iv = .int .i64 (j : Int) ∧ sv = .int .i64 sm ∧ Hid (sm = sumL (ll.take j)) ∧ Hid (RowV wr 55 7 A8 nl c8 (outsC ll)) ∧ Hid (Below w.heap.size w wr)) (fun _ iv _ => nl - (intOf iv).toNat)
    case atStart => exact ⟨0, 0, by omega, rfl, rfl, Lib.hid rfl, RO, B8⟩
    case round =>
      clear RO B8
      obtain ⟨j, sm, hj, rfl, rfl, HS, RO, B8⟩ := hrel
      by_cases hlt : j < nl
      · have hlt' : (j : Int) < (nl : Int) := by omega
        have xj := IntWalk.i64_in ((j : Int) + 1) (by omega)
        have hlt2 : j < ll.length := by rw [HNL.out]; exact hlt
        obtain ⟨bo, oo, hA8, y1, y4, y5⟩ := out_at (by rw [HNL.out]; exact RO.out) hlt2
        obtain ⟨⟨q1, q2⟩, q3, q4, q5⟩ := FACT2.out j hlt2
        rw [q1] at y1
        rw [← q2] at y1
        have hs : sm = ll[j].fr := by rw [q2]; exact HS.out
        have SN := Lib.hid (show sm + ll[j].l = sumL (ll.take (j + 1)) from by
          rw [List.take_succ_eq_append_getElem hlt2, sum_snoc, ← HS.out])
        rw [← hs] at y1 y4 q3 q5
        have ADD := Lib.hid (fun W => Sq.add_any a (1 + sm) W)
        rw [show Sq.rd (a + (1 + sm)) = Sq.rd (k + sm) from by rw [← HRA.out, rd_rd]] at ADD
        generalize Sq.rd (k + sm) = sq at *
        generalize ll[j].l = ln at *
        have x1 := IntWalk.i64_in (1 + sm) (by omega)
        have x2 := IntWalk.i64_in (sm + ln) (by omega)
        subst hA8
        clear q1 q2 hs HS hlt2
        go_wp2_with fail
        go_quiet ((go_at_call 10; exact Calls.quiet_of_same (ADD.out _)))
        have RO2 := Lib.hid (RO.out.drewN nq)
        have B82 := Lib.hid (below_drewN B8.out nq)
        clear RO B8
        go_wp2
        go_roundw
        case rel => exact ⟨j + 1, sm + ln, by omega, by go_num, rfl, SN, RO2, B82⟩
        case measure => simp [intOf]; omega
      · have hge : ¬ (j : Int) < (nl : Int) := by omega
        have hs : sm = min m d := by rw [HS.out, ← SUM.out, List.take_of_length_le (by rw [HNL.out]; omega)]
        have y2 : (if d < m then d else m) = sm := by rw [hs]; split <;> omega
        have BF := B8
        clear hs HS
        go_wp2
        go_ret
        exact ⟨rfl, BF.out⟩
  · have hne : (k != ra) = true := by simpa using hk2
    have IR := Lib.hid (in_refuse CN1.out BG.out rb k d (fun e => hk2 (PLC.out.1 e)) FIT.out)
    go_wp2_with fail
    refine IR.out.mono ?_; rintro e w5 ⟨A5, c5', rfl, co5⟩
    have B5 := Lib.hid (B3.out.trans (co5.chg.below B3.out.size OWN.out))
    have SA := Lib.hid (state_any co5.con)
    rw [BG.out.st] at SA
    obtain ⟨b5, o5, hA5, _, y0⟩ := co5.out.cell (j := 0) (by show 0 < 7; decide)
    obtain ⟨b5', o5', hA5', _, y1⟩ := co5.out.cell (j := 1) (by show 1 < 7; decide)
    subst hA5
    cases hA5'
    replace y0 : w5.cell? ⟨b5, o5, none⟩ = some (.int .i64 4) := y0
    replace y1 : w5.cell? ⟨b5, o5 + 1, none⟩ = some (.int .u32 k) := y1
    clear co5 IR CN1 B3 FIT PLC
    go_wp2_with fail
    refine (AA.out w5).mono ?_; rintro e w6 ⟨rfl, rfl⟩
    go_wp2_with fail
    refine SA.out.mono ?_; rintro e w7 ⟨rfl, rfl⟩
    go_wp2
    go_ret
    exact ⟨rfl, B5.out⟩

set_option maxRecDepth 100000 in
theorem lifted (os : Os) (started : os.Started) (H : Type) (enc : TypeId × Value → H) :
    ReturnsInHanded {} Try.checked os 5 .any (Rows.tcbShakesSpec.pre6 enc Try.prog Try.f5 Rows.tcbShakesRow.domain false) (Rows.tcbShakesSpec.post enc Try.prog Try.f5 false true false false) := by
  refine returnsInHanded_of_change (C := Try.checked) own started (by kernel_rfl) Try.func5
    (ChangeSpec.witness6 (enc := enc) (C := Try.checked) false ⟨#[], #[.int .u32 0, .int .u32 0, .int .u32 0, .int .u16 0, .int .u16 0], []⟩ 8 (by kernel_rfl) (by kernel_rfl) (by kernel_rfl) (by kernel_rfl)) ?_
  intro W base args ds gs before hval0 hW hcnd _
  have hval : ∀ (j : Nat) t v, Try.f5.params[j]? = some t → args[j]? = some v → Value.okWide Try.prog W .any base t v := hval0
  have hW' := hW
  obtain ⟨p, q, hA0, hV, rfl, hfz, hnd⟩ := hW
  have hA : DataW.TrodAll enc Try.prog W 0 (fun _ => true) true Try.f5.params.toList args.toList ds p := hA0
  rw [Try.params5] at hA hval
  obtain ⟨v0, vs0, d0, ds0, p0, q0, hargs, rfl, rfl, h0, r0⟩ := trodAll_cons hA
  obtain ⟨v1, vs1, d1, ds1, p1, q1, rfl, rfl, rfl, h1, r1⟩ := trodAll_cons r0
  obtain ⟨v2, vs2, d2, ds2, p2, q2, rfl, rfl, rfl, h2, r2⟩ := trodAll_cons r1
  obtain ⟨v3, vs3, d3, ds3, p3, q3, rfl, rfl, rfl, h3, r3⟩ := trodAll_cons r2
  obtain ⟨v4, vs4, d4, ds4, p4, q4, rfl, rfl, rfl, h4, r4⟩ := trodAll_cons r3
  obtain ⟨rfl, rfl, rfl⟩ := trodAll_nil r4
  obtain rfl : args = #[v0, v1, v2, v3, v4] := by cases args; simp_all
  obtain ⟨a0, rfl, _, _, w0⟩ := open_int Try.underlying22 (hval 0 22 v0 rfl rfl) h0
  obtain ⟨a1, rfl, _, _, w1⟩ := open_int Try.underlying22 (hval 1 22 v1 rfl rfl) h1
  obtain ⟨a2, rfl, _, _, w2⟩ := open_int Try.underlying22 (hval 2 22 v2 rfl rfl) h2
  obtain ⟨a3, rfl, _, _, w3⟩ := open_int Try.underlying32 (hval 3 32 v3 rfl rfl) h3
  obtain ⟨a4, rfl, _, _, w4⟩ := open_int Try.underlying32 (hval 4 32 v4 rfl rfl) h4
  clear hA0 hval0
  exact law_close hW' laidOut (by kernel_rfl) rfl Try.underlying4 rfl ⟨rfl, rfl, rfl⟩ (walk W a0 w0 a1 w1 a2 w2 a3 w3 a4 w4)

theorem over : Rows.tcbShakesRow.holds Try.pinned (OpenSpec.ofChange Rows.tcbShakesSpec) :=
  OpenClaim.holds_of_wide 5 Try.f5 rfl rfl rfl rfl rfl rfl rfl ⟨rfl, rfl, rfl, rfl, rfl⟩ rfl rfl rfl rfl rfl (by kernel_rfl) Try.func5 (by kernel_rfl)
    (of_decide_eq_true (by kernel_rfl)) (by unfold Func.isWrapper; first | (rw [if_pos (by decide +kernel)]; kernel_rfl) | (rw [if_neg (by decide +kernel)]; exact ⟨rfl, rfl⟩))
    (fun os started H enc _ => lifted os started H enc)

theorem proved : Rows.TcbShakesSaid := over

end Go.Proofs.Ytldmcoagjgeeoaa.tcbShakes
