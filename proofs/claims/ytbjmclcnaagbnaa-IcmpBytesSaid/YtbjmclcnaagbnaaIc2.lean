/- Package icmp: Parse, Answer. Conditions: those that each states. -/
import Derived.Test.YtbjmclcnaagbnaaIc1
namespace Go.Proofs.Ytbjmclcnaagbnaa.Ic
open Go.ChangeShapes Go.WideShapes Go.ChangeAt Go.RowKit Go.Deep Rk Fl Gx
open Es hiding src_chg chg_below chg_of_row src_apart
set_option linter.unusedVariables false
set_option linter.unusedSimpArgs false

/-- What Parse tells of bytes l. -/
def Parsed (w' : World) (e : Ending) (l : List UInt8) : Prop :=
  ∃ A c, e = .returned (.tuple #[.agg (ecV (icP l).1 (icP l).2.1 (icP l).2.2.1 A (icP l).2.2.2.length c), .int .i64 (icErr l)]) ∧ Src w' A (icP l).2.2.2.length c (icP l).2.2.2
theorem parsed_no {w' : World} {e : Ending} {l : List UInt8} (h : icErr l ≠ 0) (he : e = .returned (.tuple #[.agg ec0, .int .i64 (icErr l)])) : Parsed w' e l := by
  unfold Parsed
  rw [icP_no h]
  exact ⟨none, 0, he, Src.nil _⟩

set_option maxRecDepth 100000 in
set_option maxHeartbeats 4000000 in
theorem parse_any (A : Option Addr) (n c : Nat) (l : List UInt8) (w : World) (hs : Src w A n c l) (hn : n ≤ 1000000) :
    Calls Try.prog 10 #[.slice A n c] w fun e w' => Parsed w' e l ∧ Below w.heap.size w w' := by
  have b1 : Below w.heap.size w (w.alloc (.cells ec0 31)) := (Below.refl _ w).alloc (Nat.le_refl _) _
  have B1 := Lib.hid b1
  have K1 := Lib.hid (Blk.new w 31 ec0)
  have S1 := Lib.hid (hs.alloc (.cells ec0 31))
  have hl := hs.len
  subst hl
  clear b1 hs
  obtain ⟨W, hW⟩ : ∃ W, w.alloc (.cells ec0 31) = W := ⟨_, rfl⟩
  rw [hW] at K1 S1 B1
  have HW := Lib.hid hW
  clear hW
  by_cases h1 : (l.length : Int) < 8
  · have E := Lib.hid (show icErr l = 50 from by unfold icErr; rw [if_pos (.inl (by omega))])
    go_enter Try.func10, Try.ntmps10
    go_upto_region 1 with fail
    rw [HW.out]
    have KZ := Lib.hid (below_setRow B1.out (Nat.le_refl w.heap.size) ec0)
    go_wp2_with (first
      | (refine wpList_store_row rfl 31 (.tmp 2) (.tmp 15) rfl w.heap.size ec0 rfl rfl 31 _ K1.out ec_info rfl (by simp [Value.oneCell']) ?_)
      | fail)
    refine bodyPost_ret (v := .tuple #[.agg ec0, .int .i64 50]) ?_ rfl ?_
    · exact results_cell_tmp Try.results10 _ _ w.heap.size 31 _ (0, 0) _ rfl (K1.out.row _) Try.underlying31 rfl ec_info
    exact ⟨parsed_no (by rw [E.out]; decide) (by rw [E.out]), KZ.out⟩

  by_cases h2 : (l.length : Int) > 990
  · have E := Lib.hid (show icErr l = 50 from by unfold icErr; rw [if_pos (.inr (by omega))])
    go_enter Try.func10, Try.ntmps10
    go_upto_region 1 with fail
    rw [HW.out]
    have KZ := Lib.hid (below_setRow B1.out (Nat.le_refl w.heap.size) ec0)
    go_wp2_with (first
      | (refine wpList_store_row rfl 31 (.tmp 2) (.tmp 15) rfl w.heap.size ec0 rfl rfl 31 _ K1.out ec_info rfl (by simp [Value.oneCell']) ?_)
      | fail)
    refine bodyPost_ret (v := .tuple #[.agg ec0, .int .i64 50]) ?_ rfl ?_
    · exact results_cell_tmp Try.results10 _ _ w.heap.size 31 _ (0, 0) _ rfl (K1.out.row _) Try.underlying31 rfl ec_info
    exact ⟨parsed_no (by rw [E.out]; decide) (by rw [E.out]), KZ.out⟩

  have P1 := Lib.hid (show ¬ (l.length < 8 ∨ 990 < l.length) from by omega)
  have hl8 : 8 ≤ l.length := by omega
  have GD := Lib.hid (good_ok A l.length c l W S1.out.toBytes (by omega))
  have NW := Lib.hid (fun W' (h : Src W' A l.length c l) => newS_any A l.length c l W' h (by omega))
  go_enter Try.func10, Try.ntmps10
  go_upto_region 1 with fail
  rw [HW.out]
  clear HW
  go_wp2_with fail
  refine GD.out.mono ?_
  rintro e w2 ⟨rfl, nn, hw2⟩
  have b2 : Below W.heap.size W w2 := by rw [hw2]; exact below_drewN (Below.refl _ _) nn
  have B2 := Lib.hid (B1.out.trans (b2.mono B1.out.size))
  have K2 := Lib.hid (K1.out.older (older_below b2))
  have S2 := Lib.hid (S1.out.below b2)
  clear hw2 b2 GD B1 K1 S1
  by_cases h5 : fo (256 * evs l + ods l) = 65535
  rotate_left
  · have E := Lib.hid (show icErr l = 51 from by unfold icErr; rw [if_neg P1.out, if_pos (show fo (tot l) ≠ 65535 from h5)])
    rw [decide_eq_false h5]
    have KZ := Lib.hid (below_setRow B2.out (Nat.le_refl w.heap.size) ec0)
    go_wp2_with (first
      | (refine wpList_store_row rfl 31 (.tmp 2) (.tmp 19) rfl w.heap.size ec0 rfl rfl 31 _ K2.out ec_info rfl (by simp [Value.oneCell']) ?_)
      | fail)
    refine bodyPost_ret (v := .tuple #[.agg ec0, .int .i64 51]) ?_ rfl ?_
    · exact results_cell_tmp Try.results10 _ _ w.heap.size 31 _ (0, 0) _ rfl (K2.out.row _) Try.underlying31 rfl ec_info
    exact ⟨parsed_no (by rw [E.out]; decide) (by rw [E.out]), KZ.out⟩

  rw [decide_eq_true h5]
  have P2 := Lib.hid (show ¬ fo (tot l) ≠ 65535 from fun h => h h5)
  clear h5
  go_wp2_with fail
  refine (NW.out w2 S2.out).mono ?_
  rintro e w3 ⟨g, rfl, e3, hg, b3⟩
  have B3 := Lib.hid (B2.out.trans (b3.mono B2.out.size))
  have K3 := Lib.hid (K2.out.older (older_below b3))
  have NG := Lib.hid (show ¬ w.heap.size = g from by have := K2.out.lt; omega)
  have WG := Lib.hid (show w.heap.size ≤ g from by have := K2.out.lt; omega)
  have E3 := Lib.hid (show EyeS w3 g (l.drop 0, 0) from e3)
  clear b3 e3 hg B2 K2 S2 NW
  have a0 := at2_lt l 0 1
  have a1 := at2_lt l 1 1
  have a4 := at2_lt l 4 2
  have a6 := at2_lt l 6 2
  have x0 := IntWalk.i64_in (at2 l 0 1 : Int) (by omega)
  have x4 := IntWalk.u16_in (at2 l 4 2 : Int) (by omega)
  have x6 := IntWalk.u16_in (at2 l 6 2 : Int) (by omega)
  have IT := Lib.hid (fun W => isType_any (at2 l 0 1 : Int) W)
  have N3 := Lib.hid (show numS (l.drop 0, 0) 1 = (at2 l 0 1, (l.drop 1, 0)) from eye_num l 0 1 (by omega) (by omega) (by omega))
  go_wp2_with fail
  refine (numS_any g _ 1 _ E3.out).mono ?_
  (try dsimp only)
  rw [N3.out]
  (try dsimp only)
  rintro e w4 ⟨rfl, e4, k4⟩
  have B4 := Lib.hid (chg_below B3.out k4 WG.out)
  have E4 := Lib.hid e4
  have K4 := Lib.hid (K3.out.chg k4 NG.out)
  clear e4 k4 E3 B3 N3 K3
  have N4 := Lib.hid (show numS (l.drop 1, 0) 1 = (at2 l 1 1, (l.drop 2, 0)) from eye_num l 1 1 (by omega) (by omega) (by omega))
  go_wp2_with fail
  refine (numS_any g _ 1 _ E4.out).mono ?_
  (try dsimp only)
  rw [N4.out]
  (try dsimp only)
  rintro e w5 ⟨rfl, e5, k5⟩
  have B5 := Lib.hid (chg_below B4.out k5 WG.out)
  have E5 := Lib.hid e5
  have K5 := Lib.hid (K4.out.chg k5 NG.out)
  clear e5 k5 E4 B4 N4 K4
  have EV := Lib.hid (show icErr l = if ¬ ((at2 l 0 1 = 0 ∨ at2 l 0 1 = 8) ∧ at2 l 1 1 = 0) then 50 else 0 from by
    unfold icErr
    rw [if_neg P1.out, if_neg P2.out])
  have CD := Lib.hid (show tyB (at2 l 0 1 : Int) = true ↔ (at2 l 0 1 = 0 ∨ at2 l 0 1 = 8) from by unfold tyB; rw [decide_eq_true_iff]; omega)
  go_wp2_with fail
  refine (IT.out _).mono ?_; rintro e wq ⟨rfl, rfl⟩
  cases hty : tyB (at2 l 0 1 : Int) with
  | false =>
    have E := Lib.hid (show icErr l = 50 from by rw [EV.out, if_pos]; intro h; rw [CD.out.2 h.1] at hty; cases hty)
    clear IT CD hty EV
    have KZ := Lib.hid (below_setRow B5.out (Nat.le_refl w.heap.size) ec0)
    go_wp2_with (first
      | (refine wpList_store_row rfl 31 (.tmp 2) (.tmp 34) rfl w.heap.size ec0 rfl rfl 31 _ K5.out ec_info rfl (by simp [Value.oneCell']) ?_)
      | fail)
    refine bodyPost_ret (v := .tuple #[.agg ec0, .int .i64 50]) ?_ rfl ?_
    · exact results_cell_tmp Try.results10 _ _ w.heap.size 31 _ (0, 0) _ rfl (K5.out.row _) Try.underlying31 rfl ec_info
    exact ⟨parsed_no (by rw [E.out]; decide) (by rw [E.out]), KZ.out⟩
  | true =>
    by_cases h6 : at2 l 1 1 = 0
    rotate_left
    · have E := Lib.hid (show icErr l = 50 from by rw [EV.out, if_pos (fun h => h6 h.2)])
      have h6' : ¬ (at2 l 1 1 : Int) = 0 := by omega
      clear IT CD hty EV
      have KZ := Lib.hid (below_setRow B5.out (Nat.le_refl w.heap.size) ec0)
      go_wp2_with (first
        | (refine wpList_store_row rfl 31 (.tmp 2) (.tmp 34) rfl w.heap.size ec0 rfl rfl 31 _ K5.out ec_info rfl (by simp [Value.oneCell']) ?_)
        | fail)
      refine bodyPost_ret (v := .tuple #[.agg ec0, .int .i64 50]) ?_ rfl ?_
      · exact results_cell_tmp Try.results10 _ _ w.heap.size 31 _ (0, 0) _ rfl (K5.out.row _) Try.underlying31 rfl ec_info
      exact ⟨parsed_no (by rw [E.out]; decide) (by rw [E.out]), KZ.out⟩

    have E := Lib.hid (show icErr l = 0 from by rw [EV.out, if_neg (fun h => h ⟨CD.out.1 hty, h6⟩)])
    have h6' : (at2 l 1 1 : Int) = 0 := by omega
    clear IT CD hty EV h6
    have N5 := Lib.hid (show numS (l.drop 2, 0) 2 = (at2 l 2 2, (l.drop 4, 0)) from eye_num l 2 2 (by omega) (by omega) (by omega))
    go_wp2_with fail
    refine (numS_any g _ 2 _ E5.out).mono ?_
    (try dsimp only)
    rw [N5.out]
    (try dsimp only)
    rintro e w6 ⟨rfl, e6, k6⟩
    have B6 := Lib.hid (chg_below B5.out k6 WG.out)
    have E6 := Lib.hid e6
    have K6 := Lib.hid (K5.out.chg k6 NG.out)
    clear e6 k6 E5 B5 N5 K5
    have N6 := Lib.hid (show numS (l.drop 4, 0) 2 = (at2 l 4 2, (l.drop 6, 0)) from eye_num l 4 2 (by omega) (by omega) (by omega))
    go_wp2_with fail
    refine (numS_any g _ 2 _ E6.out).mono ?_
    (try dsimp only)
    rw [N6.out]
    (try dsimp only)
    rintro e w7 ⟨rfl, e7, k7⟩
    have B7 := Lib.hid (chg_below B6.out k7 WG.out)
    have E7 := Lib.hid e7
    have K7 := Lib.hid (K6.out.chg k7 NG.out)
    clear e7 k7 E6 B6 N6 K6
    obtain ⟨d, hd⟩ : ∃ d, l.drop 8 = d := ⟨_, rfl⟩
    have N7 := Lib.hid (show numS (l.drop 6, 0) 2 = (at2 l 6 2, (d, 0)) from by rw [← hd]; exact eye_num l 6 2 (by omega) (by omega) (by omega))
    have HD := Lib.hid hd
    clear hd
    go_wp2_with fail
    refine (numS_any g _ 2 _ E7.out).mono ?_
    (try dsimp only)
    rw [N7.out]
    (try dsimp only)
    rintro e w8 ⟨rfl, e8, k8⟩
    have B8 := Lib.hid (chg_below B7.out k8 WG.out)
    have E8 := Lib.hid e8
    have K8 := Lib.hid (K7.out.chg k8 NG.out)
    clear e8 k8 E7 B7 N7 K7
    go_wp2_with fail
    refine (restS_any g _ _ E8.out).mono ?_
    (try dsimp only)
    rintro e wq ⟨rfl, rfl⟩
    go_wp2_with fail
    refine (bytesS_any g _ _ _ E8.out).mono ?_
    (try dsimp only)
    rw [bytS_ok d d.length (Nat.le_refl _), List.take_length]
    (try dsimp only)
    rintro e w9 ⟨A9, c9, rfl, s9, e9, k9⟩
    have B9 := Lib.hid (chg_below B8.out k9 WG.out)
    have K9 := Lib.hid (K8.out.chg k9 NG.out)
    have S9 := Lib.hid s9
    clear e9 k9 s9 E8 B8 K8
    have AP := Lib.hid (src_apart S9.out K9.out (by simp))
    have KZ := Lib.hid (below_setRow B9.out (Nat.le_refl w.heap.size) (ecV (at2 l 0 1 : Nat) (at2 l 4 2) (at2 l 6 2) A9 d.length c9))
    go_wp2_with (first
      | (refine wpList_store_row rfl 31 (.tmp 2) (.tmp 48) rfl w.heap.size (ecV (at2 l 0 1 : Nat) (at2 l 4 2) (at2 l 6 2) A9 d.length c9) rfl rfl 31 _ K9.out ec_info rfl (by simp [Value.oneCell']) ?_)
      | fail)
    refine bodyPost_ret (v := .tuple #[.agg (ecV (at2 l 0 1 : Nat) (at2 l 4 2) (at2 l 6 2) A9 d.length c9), .int .i64 0]) ?_ rfl ?_
    · exact results_cell_tmp Try.results10 _ _ w.heap.size 31 _ (0, 0) _ rfl (K9.out.row _) Try.underlying31 rfl ec_info
    refine ⟨?_, KZ.out⟩
    unfold Parsed
    rw [icP_ok E.out, E.out, HD.out]
    exact ⟨A9, c9, rfl, src_chg S9.out (Chg.setRow _ _ (g := w.heap.size) (S := fun b => b = w.heap.size) rfl) AP.out⟩
theorem icA_no {l : List UInt8} (h : ¬ (icErr l = 0 ∧ (icP l).1 = 8)) : icA l = [] ∧ icIs l = false := ⟨by unfold icA; rw [if_neg h], decide_eq_false h⟩
theorem icA_yes {l : List UInt8} {i q : Nat} {d : List UInt8} (h : icErr l = 0) (hp : icP l = (8, i, q, d)) : icA l = icB 0 i q d ∧ icIs l = true := by
  have h8 : icErr l = 0 ∧ (icP l).1 = 8 := ⟨h, by rw [hp]⟩
  exact ⟨by unfold icA; rw [if_pos h8, hp], decide_eq_true h8⟩
/-- What Answer tells of bytes l. -/
def Answered (w' : World) (e : Ending) (l : List UInt8) : Prop := ∃ A c, e = .returned (.tuple #[.slice A (icA l).length c, .bool (icIs l)]) ∧ Src w' A (icA l).length c (icA l)
theorem answered_no {w' : World} {e : Ending} {l : List UInt8} (h : ¬ (icErr l = 0 ∧ (icP l).1 = 8)) (he : e = .returned (.tuple #[.slice none 0 0, .bool false])) : Answered w' e l := by
  unfold Answered
  rw [(icA_no h).1, (icA_no h).2]
  exact ⟨none, 0, he, Src.nil _⟩

set_option maxRecDepth 100000 in
set_option maxHeartbeats 2000000 in
theorem answer_any (A : Option Addr) (n c : Nat) (l : List UInt8) (w : World) (hs : Src w A n c l) (hn : n ≤ 1000000) :
    Calls Try.prog 13 #[.slice A n c] w fun e w' => Answered w' e l ∧ Below w.heap.size w w' := by
  have PA := Lib.hid (parse_any A n c l w hs hn)
  have SM := Lib.hid (icP_small l)
  clear hs
  go_enter Try.func13, Try.ntmps13
  go_wp2_with fail
  refine PA.out.mono ?_; rintro e w1 ⟨⟨A1, c1, rfl, s1⟩, b1⟩
  clear PA
  obtain ⟨p, hp⟩ : ∃ p, icP l = p := ⟨_, rfl⟩
  obtain ⟨t, i, q, d⟩ := p
  rw [hp] at s1 SM ⊢
  (try dsimp only at s1 SM ⊢)
  have HP := Lib.hid hp
  obtain ⟨er, her⟩ : ∃ er, icErr l = er := ⟨_, rfl⟩
  rw [her]
  have HE := Lib.hid her
  have b2 : Below w1.heap.size w1 (w1.alloc (.cells (ecV t i q A1 d.length c1) 31)) := (Below.refl _ w1).alloc (Nat.le_refl _) _
  have B2 := Lib.hid (b1.trans (b2.mono b1.size))
  have S2 := Lib.hid (s1.below b2)
  have K2 := Lib.hid (Blk.new w1 31 (ecV t i q A1 d.length c1))
  clear s1 b1 b2 hp her
  go_upto_region 2 with fail
  generalize w1.alloc (.cells (ecV t i q A1 d.length c1) 31) = w2 at *
  by_cases h0 : er = 0
  rotate_left
  · have h0' : (er == 0) = false := by simpa using h0
    have N := Lib.hid (show ¬ (icErr l = 0 ∧ (icP l).1 = 8) from fun h => h0 (by rw [← HE.out]; exact h.1))
    go_wp2
    go_ret2
    exact ⟨answered_no N.out rfl, B2.out⟩
  subst h0
  have x0 := (K2.out.cell 0).trans (show _ = some (.int .i64 (t : Int)) from rfl)
  by_cases h8 : t = 8
  rotate_left
  · have h8' : ¬ (t : Int) = 8 := by omega
    have N := Lib.hid (show ¬ (icErr l = 0 ∧ (icP l).1 = 8) from fun h => h8 (by rw [← h.2, HP.out]))
    go_wp2
    go_ret2
    exact ⟨answered_no N.out rfl, B2.out⟩
  subst h8
  have x1 := (K2.out.cell 1).trans (show _ = some (.int .u16 (i : Int)) from rfl)
  have x2 := (K2.out.cell 2).trans (show _ = some (.int .u16 (q : Int)) from rfl)
  have x3 := (K2.out.cell 3).trans (show _ = some (.slice A1 d.length c1) from rfl)
  have BY := Lib.hid (show Calls Try.prog 7 #[.agg #[.int .i64 0, .int .u16 (i : Int), .int .u16 (q : Int), .slice A1 d.length c1]] w2 _ from bytes_ok 0 i q (.inl rfl) SM.out.2.1 SM.out.2.2.1 A1 c1 d w2 S2.out SM.out.2.2.2)
  have Y := Lib.hid (icA_yes HE.out HP.out)
  clear SM HE HP
  go_wp2_with fail
  refine BY.out.mono ?_; rintro e w3 ⟨⟨g, c3, rfl, o3⟩, b3⟩
  have B3 := Lib.hid (B2.out.trans (b3.mono B2.out.size))
  have O3 := Lib.hid o3
  have LN := Lib.hid (icB_length 0 i q d)
  clear BY o3 b3 x0 x1 x2 x3 K2
  go_wp2
  go_ret2
  refine ⟨?_, B3.out⟩
  unfold Answered
  rw [Y.out.1, Y.out.2, LN.out]
  exact ⟨_, _, rfl, O3.out.src⟩
end Go.Proofs.Ytbjmclcnaagbnaa.Ic
