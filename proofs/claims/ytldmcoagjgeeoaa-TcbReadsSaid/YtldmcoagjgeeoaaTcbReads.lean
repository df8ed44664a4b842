/- TcbReads says true for every input: what is read is a beginning of the peer's stream, whatever of its segments come, in whatever order, and what else comes. Conditions: none beyond the given statement's. -/
import Derived.Test.YtldmcoagjgeeoaaTcV
namespace Go.Proofs.Ytldmcoagjgeeoaa.tcbReads
open Go.ChangeShapes Go.WideShapes Go.ChangeAt Go.RowKit Tc Rk Rv Gx
set_option linter.unusedVariables false


set_option maxRecDepth 100000 in
set_option maxHeartbeats 4000000 in
theorem walk (w : World) (r : Int) (wr0 : (Lit.int .u32 r).wf = true) (rm : Int) (wrm : (Lit.int .u8 rm).wf = true) (S : ByteArray) (wS : S.size ≤ maxLen) (A3 : Option Addr) (c3 : Nat) (cu : List Nat) (b3 : Rk.RowG w 1 A3 cu.length c3 (cu.flatMap U16sC)) (k3 : ∀ a ∈ cu, (fun (x : Nat) => x ≤ 65535) a) (A4 : Option Addr) (c4 : Nat) (ac : List Tc.Act) (b4 : Rk.RowG w 10 A4 ac.length c4 (ac.flatMap Tc.Act.cells)) (k4 : ∀ a ∈ ac, Tc.Act.In a) :
    Calls Try.prog 3 #[.int .u32 r, .int .u8 rm, .string S, .slice A3 cu.length c3, .slice A4 ac.length c4] w fun e w' => e = .returned (.bool true) ∧ Below w.heap.size w w' := by
  have hr : 0 ≤ r ∧ r ≤ 4294967295 := by obtain ⟨x, rfl, h⟩ := wf_u32 wr0; omega
  obtain ⟨m, rfl, hm⟩ := wf_u8 wrm
  clear wr0 wrm wS k4
  have K3 := Lib.hid (show ∀ i (hi : i < cu.length), cu[i] ≤ 65535 from fun i hi => k3 _ (List.getElem_mem hi))
  have BC := Lib.hid b3
  have BT := Lib.hid b4
  obtain ⟨l, hl⟩ : ∃ l : List UInt8, l = S.data.toList := ⟨_, rfl⟩
  have SE := Lib.hid (show S = ⟨l.toArray⟩ from by rw [hl])
  obtain ⟨ns, hns⟩ : ∃ ns : Nat, S.size = ns := ⟨_, rfl⟩
  have LN := Lib.hid (show l.length = ns from by rw [hl, ← hns]; rfl)
  have CT := Lib.hid (show ∀ i j : Nat, i ≤ j → j ≤ ns → ns ≤ 1000000 → ∃ t : ByteArray, t.data.toList = (l.drop i).take (j - i) ∧ t.size = j - i ∧ ∀ W, (Instr.slice 9 (.string S) (some (.int .i64 (i : Int))) (some (.int .i64 (j : Int))) none).run Try.prog W = .ok (.string t) W from fun i j h1 h2 h3 =>
    ⟨⟨((l.drop i).take (j - i)).toArray⟩, by simp, by show ((l.drop i).take (j - i)).length = _; rw [List.length_take, List.length_drop, LN.out]; omega, fun W => by rw [SE.out]; exact Gx.run_cut_text l i j h1 (by rw [LN.out]; exact h2) (by rw [LN.out]; exact h3) W⟩)
  clear hl k3
  have FAR := Lib.hid (fun W (b : Below w.heap.size w W) => far_any A4 c4 ac W (b4.new b) (by have h1 := b4.cap; have h2 := b4.max; unfold maxLen at h2; omega))
  obtain ⟨nc, hnc⟩ : ∃ nc, cu.length = nc := ⟨_, rfl⟩
  obtain ⟨nt, hnt⟩ : ∃ nt, ac.length = nt := ⟨_, rfl⟩
  have NC := Lib.hid hnc
  have NT := Lib.hid hnt
  have NT2 := Lib.hid (show nt ≤ 9223372036854775807 from by have h1 := b4.cap; have h2 := b4.max; unfold maxLen at h2; omega)
  rw [hnt] at FAR
  rw [hnc, hnt]
  clear b3 b4 hnc hnt
  obtain ⟨R, hR⟩ : ∃ R : Nat, R = 1 + m := ⟨_, rfl⟩
  have hR1 : 1 ≤ R ∧ R ≤ 2048 := by omega
  have u1 : IntKind.i64.wrap (1 + (m : Int)) = (R : Int) := by rw [IntWalk.i64_in _ (by omega)]; omega
  have u2 := IntWalk.i64_in (m : Int) (by omega)
  clear hR
  by_cases hl1 : (600 : Int) < ns
  · go_enter Try.func3, Try.ntmps3
    go_wp2_with fail
    refine (alive_any w).mono ?_; rintro e w1 ⟨rfl, b1⟩
    have B1 := Lib.hid b1
    have FR := Lib.hid (FAR.out w1 b1)
    clear b1 FAR
    go_wp2_with fail
    refine FR.out.mono ?_; rintro e w2 ⟨⟨fb, rfl, _⟩, rfl⟩
    cases fb with
    | true =>
      go_wp2
      go_ret
      exact ⟨rfl, B1.out⟩
    | false =>
      go_wp2
      go_ret
      exact ⟨rfl, B1.out⟩
  by_cases hl2 : (100 : Int) < nc
  · go_enter Try.func3, Try.ntmps3
    go_wp2_with fail
    refine (alive_any w).mono ?_; rintro e w1 ⟨rfl, b1⟩
    have B1 := Lib.hid b1
    have FR := Lib.hid (FAR.out w1 b1)
    clear b1 FAR
    go_wp2_with fail
    refine FR.out.mono ?_; rintro e w2 ⟨⟨fb, rfl, _⟩, rfl⟩
    cases fb with
    | true =>
      go_wp2
      go_ret
      exact ⟨rfl, B1.out⟩
    | false =>
      go_wp2
      go_ret
      exact ⟨rfl, B1.out⟩
  have NB := Lib.hid (show ns ≤ 600 ∧ nc ≤ 100 from by omega)
  have AC := Lib.hid (fun W => show Calls Try.prog 8 #[.int .u32 99, .agg (yn r 900), .int .i64 200, .int .i64 (R : Int)] W _ from accept_any 99 r 900 200 R (by decide) (by decide) hR1 W)
  have BG := Lib.hid (acc_reads r R)
  have FIT := Lib.hid (fit_reads r R hR1)
  have AB := Lib.hid (fun W => Sq.add_any r 1 W)
  have PL := Lib.hid (show Sq.off (accR 99 r 900 200 R).own 100 0 = 0 from by show Sq.off (Sq.rd (99 + 1)) 100 0 = 0; decide)
  have SI := Lib.hid (start_inv r R l)
  have rd1 := Lib.hid (show Sq.rd (r + 1) = Sq.rd (r + 1) from rfl)
  obtain ⟨r1, hr1⟩ : ∃ r1, Sq.rd (r + 1) = r1 := ⟨_, rfl⟩
  rw [hr1] at FIT AB
  clear hr1 rd1
  go_enter Try.func3, Try.ntmps3
  go_wp2_with fail
  refine (alive_any w).mono ?_; rintro e w1 ⟨rfl, b1⟩
  have B1 := Lib.hid b1
  have FR := Lib.hid (FAR.out w1 b1)
  clear b1 FAR
  go_wp2_with fail
  refine FR.out.mono ?_; rintro e w2 ⟨⟨fb, rfl, _⟩, rfl⟩
  cases fb with
  | true =>
    go_wp2
    go_ret
    exact ⟨rfl, B1.out⟩
  | false =>
    go_wp2_with fail
    refine (AC.out w2).mono ?_; rintro e w3 ⟨P, A3', c3', ll, rfl, h3, _⟩
    have B3 := Lib.hid (B1.out.trans (h3.below.mono B1.out.size))
    have CN := Lib.hid h3.con
    have OWN := Lib.hid (show ∀ i, P.In i → w.heap.size ≤ i from fun i hi => Nat.le_trans B1.out.size (h3.own i hi))
    clear h3 AC FR B1
    go_wp2_with fail
    refine (AB.out w3).mono ?_; rintro e w4 ⟨rfl, rfl⟩
    have IO := Lib.hid (in_open CN.out BG.out r1 100 900 (by decide) PL.out FIT.out)
    go_wp2_with fail
    refine IO.out.mono ?_; rintro e w5 ⟨A5, c5', rfl, co5⟩
    have C5 := Lib.hid (show Con w w5 P l r 0 (openR (accR 99 r 900 200 R) 900) from ⟨co5.con, SI.out, B3.out.trans (co5.chg.below B3.out.size OWN.out), OWN.out⟩)
    have N5 := Lib.hid (show (openR (accR 99 r 900 200 R) 900).N = 0 from rfl)
    clear co5 IO CN BG FIT PL SI B3 AB
    generalize openR (accR 99 r 900 200 R) 900 = T5 at *
    go_wp2_with fail
    go_loopw [14, 15] (fun ov i wr => ∃ (iv : Nat) (o : ByteArray) (T : TC), iv ≤ nc + 2 ∧ i = .int .i64 (iv : Int) ∧ ov = .string o ∧ Hid (o = ⟨(l.take T.N).toArray⟩) ∧ Hid (Con w wr P l r iv T)) (fun _ i _ => nc + 2 - (intOf i).toNat)
    case atStart => exact ⟨0, ⟨#[]⟩, T5, by omega, rfl, rfl, Lib.hid (by rw [N5.out]; rfl), C5⟩
    case round =>
      clear C5 N5
      obtain ⟨iv, o, T, hiv, rfl, rfl, EO, CX⟩ := hrel
      have NN := NB.out
      have xi := IntWalk.i64_in ((iv : Int) + 1) (by omega)
      have xi2 := IntWalk.i64_in ((iv : Int) + 2) (by omega)
      by_cases hgo : iv + 1 < nc
      rotate_left
      · have hgo' : ¬ (iv : Int) + 1 < (nc : Int) := by omega
        go_wp2
        go_ret
        exact ⟨rfl, CX.out.below⟩
      have hgo' : (iv : Int) + 1 < (nc : Int) := by omega
      by_cases h0 : ns = 0
      · subst h0
        go_wp2
        go_ret
        exact ⟨rfl, CX.out.below⟩
      have h0' : (ns : Int) > 0 := by omega
      have h0'' : (ns : Int) ≠ 0 := by omega
      have i1 : iv < cu.length := by rw [NC.out]; omega
      have i2 : iv + 1 < cu.length := by rw [NC.out]; omega
      obtain ⟨bc, oc, hA3, z1⟩ := u16_at (BC.out.new CX.out.below) i1
      obtain ⟨bc', oc', hA3', z2⟩ := u16_at (BC.out.new CX.out.below) i2
      have kx := K3.out iv i1
      have ky := K3.out (iv + 1) i2
      subst hA3
      cases hA3'
      generalize cu[iv] = x at *
      generalize cu[iv + 1] = y at *
      clear i1 i2
      obtain ⟨a0, ha0⟩ : ∃ a0, x % ns = a0 := ⟨_, rfl⟩
      have la0 : a0 < ns := by rw [← ha0]; exact Nat.mod_lt _ (by omega)
      have q1 : (x : Int).tmod (ns : Int) = (a0 : Int) := by rw [Int.tmod_eq_emod_of_nonneg (by omega), ← ha0]; omega
      obtain ⟨mn, hmn⟩ : ∃ mn : Nat, mn = min (ns - a0) 300 := ⟨_, rfl⟩
      obtain ⟨m1, hm1⟩ : ∃ m1 : Nat, m1 = mn + 1 := ⟨_, rfl⟩
      obtain ⟨d, hd⟩ : ∃ d, y % m1 = d := ⟨_, rfl⟩
      have ld : d < m1 := by rw [← hd]; exact Nat.mod_lt _ (by omega)
      have q2 : (y : Int).tmod (m1 : Int) = (d : Int) := by rw [Int.tmod_eq_emod_of_nonneg (by omega), ← hd]; omega
      have m1ne : (m1 : Int) ≠ 0 := by omega
      have y1 : (if (300 : Int) < (ns : Int) - (a0 : Int) then (300 : Int) else (ns : Int) - (a0 : Int)) = (mn : Int) := by split <;> omega
      have xs1 := IntWalk.i64_in ((ns : Int) - (a0 : Int)) (by omega)
      have xm1 : IntKind.i64.wrap ((mn : Int) + 1) = (m1 : Int) := by rw [IntWalk.i64_in _ (by omega)]; omega
      obtain ⟨b1, hb1⟩ : ∃ b1, b1 = a0 + d := ⟨_, rfl⟩
      have xb1 : IntKind.i64.wrap ((a0 : Int) + (d : Int)) = (b1 : Int) := by rw [IntWalk.i64_in _ (by omega)]; omega
      have lab : a0 ≤ b1 ∧ b1 ≤ ns ∧ b1 - a0 ≤ 300 := by omega
      have xx := IntWalk.i64_in (x : Int) (by omega)
      have xy := IntWalk.i64_in (y : Int) (by omega)
      have xa := IntWalk.i64_in (1 + (a0 : Int)) (by omega)
      clear ha0 hd hmn hm1 hb1 ld
      obtain ⟨t, ht1, ht2, ht3⟩ := CT.out a0 b1 lab.1 lab.2.1 (by omega)
      obtain ⟨A9, c9, wcv, hcv, sc9, bc9, fr9⟩ := Di.conv_src t (by omega) wr.drew
      have CC := Lib.hid ((CX.out.drewN 1).new bc9)
      have BCV := Lib.hid (show Below wr.heap.size wr wcv from (below_drewN (Below.refl wr.heap.size wr) 1).trans bc9)
      have IN := Lib.hid (in_inv CC.out (by rw [LN.out]; omega) a0 (b1 - a0) (by omega) A9 t.size c9 (by rw [← ht1]; exact sc9) (by omega) (fun h0 x hx hP => by
        have h1 := CX.out.con.lt _ hP
        obtain ⟨b, o, e, _, _⟩ := sc9.lies (by rw [bys_length]; have := sc9.len; omega)
        rw [e] at hx
        cases hx
        have h2 := fr9 b o e
        have h3 : wr.drew.heap.size = wr.heap.size := rfl
        have h4 : b < wr.heap.size := h1
        omega))
      have AD := Lib.hid (fun W => Sq.add_any r (1 + (a0 : Int)) W)
      generalize Sq.rd (r + (1 + (a0 : Int))) = rq at *
      clear sc9 bc9 fr9 ht1 ht2
      go_upto_region 15 with fail
      go_cut [] (fun wx => ∃ T5, Hid (Con w wx P l r iv T5) ∧ Hid (T5.N = T.N))
      · clear CC
        have hS := Lib.hid ((Below.refl wr.heap.size wr).drew)
        refine wp_head_held (S := fun w' => Hid (Below wr.heap.size wr w')) 11 (by kernel_rfl) rfl rfl (by kernel_rfl) ?_
        simp only [List.take_succ_cons, List.take_zero, List.drop_succ_cons, List.drop_zero]
        refine held_take (i := 0) (d := (some 86)) (v := ?_) rfl rfl (by kernel_rfl) (by kernel_rfl) (by kernel_rfl) (fun _ _ _ h => h) (by rfl) ?_ hS ?_
        rotate_left
        · intro w' hSw; (try dsimp only at hSw); go_simp <;> with_reducible rfl
        simp only [Act.put, List.setIfInBounds_toArray, List.set_cons_zero, List.set_cons_succ]
        refine held_take (i := 1) (d := (some 87)) (v := ?_) rfl rfl (by kernel_rfl) (by kernel_rfl) (by kernel_rfl) (fun _ _ _ h => h) (by rfl) ?_ hS ?_
        rotate_left
        · intro w' hSw; (try dsimp only at hSw); go_simp <;> with_reducible rfl
        simp only [Act.put, List.setIfInBounds_toArray, List.set_cons_zero, List.set_cons_succ]
        refine held_take (i := 2) (d := (some 88)) (v := ?_) rfl rfl (by kernel_rfl) (by kernel_rfl) (by kernel_rfl) (fun _ _ _ h => h) (by rfl) ?_ hS ?_
        rotate_left
        · intro w' hSw; (try dsimp only at hSw); go_simp <;> with_reducible rfl
        simp only [Act.put, List.setIfInBounds_toArray, List.set_cons_zero, List.set_cons_succ]
        refine held_take (i := 3) (d := (some 89)) (v := ?_) rfl rfl (by kernel_rfl) (by kernel_rfl) (by kernel_rfl) (fun _ _ _ h => h) (by rfl) ?_ hS ?_
        rotate_left
        · intro w' hSw; (try dsimp only at hSw); go_simp <;> with_reducible rfl
        simp only [Act.put, List.setIfInBounds_toArray, List.set_cons_zero, List.set_cons_succ]
        refine held_take (i := 5) (d := (some 91)) (v := ?_) rfl rfl (by kernel_rfl) (by kernel_rfl) (by kernel_rfl) (fun _ _ _ h => h) (by rfl) ?_ hS ?_
        rotate_left
        · intro w' hSw; (try dsimp only at hSw); go_simp <;> with_reducible rfl
        simp only [Act.put, List.setIfInBounds_toArray, List.set_cons_zero, List.set_cons_succ]
        refine held_take (i := 6) (d := (some 92)) (v := ?_) rfl rfl (by kernel_rfl) (by kernel_rfl) (by kernel_rfl) (fun _ _ _ h => h) (by rfl) ?_ hS ?_
        rotate_left
        · intro w' hSw; (try dsimp only at hSw); go_simp <;> with_reducible rfl
        simp only [Act.put, List.setIfInBounds_toArray, List.set_cons_zero, List.set_cons_succ]
        refine held_take (i := 7) (d := (some 93)) (v := ?_) rfl rfl (by kernel_rfl) (by kernel_rfl) (by kernel_rfl) (fun _ _ _ h => h) (by rfl) ?_ hS ?_
        rotate_left
        · intro w' hSw; (try dsimp only at hSw); go_simp <;> with_reducible rfl
        simp only [Act.put, List.setIfInBounds_toArray, List.set_cons_zero, List.set_cons_succ]
        refine held_take (i := 8) (d := (some 94)) (v := ?_) rfl rfl (by kernel_rfl) (by kernel_rfl) (by kernel_rfl) (fun _ _ _ h => h) (by rfl) ?_ hS ?_
        rotate_left
        · intro w' hSw; (try dsimp only at hSw); go_simp <;> with_reducible rfl
        simp only [Act.put, List.setIfInBounds_toArray, List.set_cons_zero, List.set_cons_succ]
        refine held_two (i := 4) (j := 9) (by kernel_rfl) rfl rfl (by rfl) (by rfl) ?_ ?_
        · go_simp
          refine ((AD.out _).mono ?_); rintro e wq ⟨rfl, rfl⟩
          refine ⟨hS, ?_⟩
          (try simp only [Act.put, List.setIfInBounds_toArray, List.set_cons_zero, List.set_cons_succ])
          refine held_one (i := 9) (by kernel_rfl) rfl (by rfl) ?_
          refine wp_conv_d (d := some 95) rfl rfl rfl hcv ?_
          have hS : Hid (Below wr.heap.size wr wcv) := BCV
          refine ⟨hS, ?_⟩
          (try simp only [Act.put, List.setIfInBounds_toArray, List.set_cons_zero, List.set_cons_succ])
          refine held_take (i := 10) (d := (some 96)) (v := ?_) rfl rfl (by kernel_rfl) (by kernel_rfl) (by kernel_rfl) (fun _ _ _ h => h) (by rfl) ?_ hS ?_
          rotate_left
          · intro w' hSw; (try dsimp only at hSw); go_simp <;> with_reducible rfl
          simp only [Act.put, List.setIfInBounds_toArray, List.set_cons_zero, List.set_cons_succ]
          refine wpAnyH_done (by kernel_rfl) ?_ _
          show wpList _ _ _ _ _ _
          go_wp2_with fail
          refine IN.out.mono ?_; rintro e w5 ⟨v5, rfl, T5, h5, n5⟩
          have H5 := Lib.hid h5
          have N5 := Lib.hid n5
          clear h5 n5
          go_wp2_with fail
          go_meet
          exact ⟨T5, H5, N5⟩
        · refine wp_conv_d (d := some 95) rfl rfl rfl hcv ?_
          have hS : Hid (Below wr.heap.size wr wcv) := BCV
          refine ⟨hS, ?_⟩
          (try simp only [Act.put, List.setIfInBounds_toArray, List.set_cons_zero, List.set_cons_succ])
          refine held_one (i := 4) (by kernel_rfl) rfl (by rfl) ?_
          go_simp
          refine ((AD.out _).mono ?_); rintro e wq ⟨rfl, rfl⟩
          refine ⟨hS, ?_⟩
          (try simp only [Act.put, List.setIfInBounds_toArray, List.set_cons_zero, List.set_cons_succ])
          refine held_take (i := 10) (d := (some 96)) (v := ?_) rfl rfl (by kernel_rfl) (by kernel_rfl) (by kernel_rfl) (fun _ _ _ h => h) (by rfl) ?_ hS ?_
          rotate_left
          · intro w' hSw; (try dsimp only at hSw); go_simp <;> with_reducible rfl
          simp only [Act.put, List.setIfInBounds_toArray, List.set_cons_zero, List.set_cons_succ]
          refine wpAnyH_done (by kernel_rfl) ?_ _
          show wpList _ _ _ _ _ _
          go_wp2_with fail
          refine IN.out.mono ?_; rintro e w5 ⟨v5, rfl, T5, h5, n5⟩
          have H5 := Lib.hid h5
          have N5 := Lib.hid n5
          clear h5 n5
          go_wp2_with fail
          go_meet
          exact ⟨T5, H5, N5⟩
      obtain ⟨T5, H5, N5⟩ := hcut
      clear CC IN hcv BCV AD CX ht3 z1 z2 q1 q2 y1 xs1 xm1 xb1 xx xy xa m1ne la0 lab kx ky
      obtain ⟨h, hh⟩ : ∃ h, iv / 2 = h := ⟨_, rfl⟩
      have qt : (iv : Int).tdiv 2 = (h : Int) := by rw [Int.tdiv_eq_ediv_of_nonneg (by omega)]; omega
      have xq := IntWalk.i64_in (h : Int) (by omega)
      clear hh
      go_upto_region 16 with fail
      go_cut [111] (fun s wx => ∃ b, s = .bool b ∧ Hid (Con w wx P l r iv T5) ∧ (b = true → h < nt))
      · by_cases h1 : h < nt
        rotate_left
        · have h1' : ¬ (h : Int) < (nt : Int) := by omega
          go_wp2_with fail
          go_meet
          exact ⟨_, rfl, H5, fun e => by cases e⟩
        have h1' : (h : Int) < (nt : Int) := by omega
        have h1'' : h < ac.length := by rw [NT.out]; exact h1
        obtain ⟨ba, oa, hA4, _, z0, z1, z9⟩ := act_at (BT.out.new H5.out.below) h1''
        subst hA4
        generalize ac[h].k = k at *
        clear z9 z1 h1''
        by_cases e0 : k = 0
        · subst e0
          go_wp2_with fail
          go_meet
          exact ⟨_, rfl, H5, fun _ => h1⟩
        have e0' : (k != 0) = true := by simpa using e0
        go_wp2_with fail
        go_meet
        exact ⟨_, rfl, H5, fun _ => h1⟩
      obtain ⟨bb, rfl, H5, hbb⟩ := hcut
      go_upto_if 111 with fail
      go_cut [] (fun wx => ∃ T6, Hid (Con w wx P l r (iv + 1) T6) ∧ Hid (T6.N = T.N))
      · have STAY := Lib.hid (H5.out.more (show iv ≤ iv + 1 by omega))
        cases bb with
        | false =>
          go_wp2_with fail
          go_meet
          exact ⟨T5, STAY, N5⟩
        | true =>
        have h1 := hbb rfl
        have h1' : (h : Int) < (nt : Int) := by omega
        have h1'' : h < ac.length := by rw [NT.out]; exact h1
        obtain ⟨ba, oa, hA4, _, z0, z1, z9⟩ := act_at (BT.out.new H5.out.below) h1''
        subst hA4
        generalize ac[h].k = k at *
        generalize ac[h].n = n at *
        have TI := Lib.hid (tick_inv H5.out)
        have WI := Lib.hid (write_inv H5.out (by have := NB.out; omega) n)
        clear z9 h1'' hbb
        by_cases e1 : k = 1
        · subst e1
          clear STAY WI
          go_wp2_with fail
          refine TI.out.mono ?_; rintro e w6 ⟨v6, rfl, T6, h6, n6⟩
          have H6 := Lib.hid (h6.more (show iv ≤ iv + 1 by omega))
          have N6 := Lib.hid (n6.trans N5.out)
          clear h6 n6 TI
          go_wp2_with fail
          go_meet
          exact ⟨T6, H6, N6⟩
        have e1' : (k == 1) = false := by simpa using e1
        by_cases e2 : k = 2
        · subst e2
          clear STAY TI
          go_wp2_with fail
          refine WI.out.mono ?_; rintro e w6 ⟨v6, rfl, T6, h6, n6⟩
          have H6 := Lib.hid h6
          have N6 := Lib.hid (n6.trans N5.out)
          clear h6 n6 WI
          go_wp2_with fail
          go_meet
          exact ⟨T6, H6, N6⟩
        have e2' : (k == 2) = false := by simpa using e2
        go_wp2_with fail
        go_meet
        exact ⟨T5, STAY, N5⟩
      obtain ⟨T6, H6, N6⟩ := hcut
      clear H5 N5 qt xq
      have RD := Lib.hid (read_inv H6.out (by rw [LN.out]; omega))
      obtain ⟨s1, s2⟩ := H6.out.inv.s.take
      have ST := Lib.hid s2
      have SX := Lib.hid s1.1
      obtain ⟨rn, hrn⟩ : ∃ rn, Ra.rdy T6.xs = rn := ⟨_, rfl⟩
      have TKL := Lib.hid (show (Ra.tk T6.xs).length = rn from by rw [Ra.tk_length, hrn])
      rw [hrn] at RD ST SX
      rw [N6.out] at ST SX RD
      generalize Ra.tk T6.xs = tk at *
      clear s1 s2 hrn
      go_wp2_with fail
      refine RD.out.mono ?_; rintro e w7 ⟨gn, A7, c7, l7, rfl, hs7, T7, h7, n7⟩
      have H7 := Lib.hid (h7.more (show iv + 1 ≤ iv + 2 by omega))
      have N7 := Lib.hid n7
      have tl := Di.told_str hs7
      obtain ⟨tt, htt⟩ : ∃ tt : ByteArray, tt = ⟨tk.toArray⟩ := ⟨_, rfl⟩
      rw [← htt] at tl
      have OS : o.size = T.N := by rw [EO.out]; show (l.take T.N).length = T.N; rw [List.length_take]; have := SX.out; omega
      have TS : tt.size = rn := by rw [htt]; exact TKL.out
      have hbig : ¬ 9223372036854775807 < o.size + tt.size := by rw [OS, TS]; have := SX.out; rw [LN.out] at this; omega
      obtain ⟨M, hM⟩ : ∃ M, M = T.N + rn := ⟨_, rfl⟩
      have E0 : o ++ tt = ⟨(l.take M).toArray⟩ := by rw [EO.out, htt, ByteArray.mk_append_mk, hM, ← ST.out]
      obtain ⟨o2, ho2⟩ : ∃ o2, o ++ tt = o2 := ⟨_, rfl⟩
      have E2 := Lib.hid (show o2 = ⟨(l.take M).toArray⟩ from by rw [← ho2]; exact E0)
      have ML : M ≤ l.length := by rw [hM]; exact SX.out
      have OE : o2.size = M := by rw [E2.out]; show (l.take M).length = M; rw [List.length_take]; omega
      have hle : decide (ns < M) = false := decide_eq_false (by have := LN.out; omega)
      have FR := fun W => show (Instr.slice 9 (.string S) none (some (.int .i64 (M : Int))) none).run Try.prog W = .ok (.string o2) W from by
        rw [SE.out, E2.out]; exact Gx.run_front_text l M ML W
      have E7 := Lib.hid (show o2 = ⟨(l.take T7.N).toArray⟩ from by rw [E2.out, hM, N7.out])
      clear hs7 h7 n7 htt OS TS E0 hM ML RD ST SX TKL H6 N6 EO E2
      go_wp2
      go_roundw
      case rel => exact ⟨iv + 2, o2, T7, by omega, by go_num, rfl, E7, H7⟩
      case measure => simp [intOf]; omega

set_option maxRecDepth 100000 in
theorem lifted (os : Os) (started : os.Started) (H : Type) (enc : TypeId × Value → H) :
    ReturnsInHanded {} Try.checked os 3 .any (Rows.tcbReadsSpec.pre6 enc Try.prog Try.f3 Rows.tcbReadsRow.domain false) (Rows.tcbReadsSpec.post enc Try.prog Try.f3 false true false false) := by
  refine returnsInHanded_of_change (C := Try.checked) own started (by kernel_rfl) Try.func3
    (ChangeSpec.witness6 (enc := enc) (C := Try.checked) false ⟨#[], #[.int .u32 0, .int .u8 0, .string ⟨#[]⟩, .slice none 0 0, .slice none 0 0], []⟩ 8 (by kernel_rfl) (by kernel_rfl) (by kernel_rfl) (by kernel_rfl)) ?_
  intro W base args ds gs before hval0 hW hcnd _
  have hval : ∀ (j : Nat) t v, Try.f3.params[j]? = some t → args[j]? = some v → Value.okWide Try.prog W .any base t v := hval0
  have hW' := hW
  obtain ⟨p, q, hA0, hV, rfl, hfz, hnd⟩ := hW
  have hA : DataW.TrodAll enc Try.prog W 0 (fun _ => true) true Try.f3.params.toList args.toList ds p := hA0
  rw [Try.params3] at hA hval
  obtain ⟨v0, vs0, d0, ds0, p0, q0, hargs, rfl, rfl, h0, r0⟩ := trodAll_cons hA
  obtain ⟨v1, vs1, d1, ds1, p1, q1, rfl, rfl, rfl, h1, r1⟩ := trodAll_cons r0
  obtain ⟨v2, vs2, d2, ds2, p2, q2, rfl, rfl, rfl, h2, r2⟩ := trodAll_cons r1
  obtain ⟨v3, vs3, d3, ds3, p3, q3, rfl, rfl, rfl, h3, r3⟩ := trodAll_cons r2
  obtain ⟨v4, vs4, d4, ds4, p4, q4, rfl, rfl, rfl, h4, r4⟩ := trodAll_cons r3
  obtain ⟨rfl, rfl, rfl⟩ := trodAll_nil r4
  obtain rfl : args = #[v0, v1, v2, v3, v4] := by cases args; simp_all
  obtain ⟨a0, rfl, _, _, w0⟩ := open_int Try.underlying22 (hval 0 22 v0 rfl rfl) h0
  obtain ⟨a1, rfl, _, _, w1⟩ := open_int Try.underlying5 (hval 1 5 v1 rfl rfl) h1
  obtain ⟨a2, rfl, _, _, w2⟩ := Go.ChangeMaps.open_string Try.underlying9 (hval 2 9 v2 rfl rfl) h2
  obtain ⟨A3, c3, l3, rfl, b3, k3⟩ := open_U16s (hval 3 23 v3 rfl rfl) h3
  obtain ⟨A4, c4, l4, rfl, b4, k4⟩ := open_Act (hval 4 24 v4 rfl rfl) h4
  clear hA0 hval0
  exact law_close hW' laidOut (by kernel_rfl) rfl Try.underlying4 rfl ⟨rfl, rfl, rfl⟩ (walk W a0 w0 a1 w1 a2 w2 A3 c3 l3 b3 k3 A4 c4 l4 b4 k4)

theorem over : Rows.tcbReadsRow.holds Try.pinned (OpenSpec.ofChange Rows.tcbReadsSpec) :=
  OpenClaim.holds_of_wide 3 Try.f3 rfl rfl rfl rfl rfl rfl rfl ⟨rfl, rfl, rfl, rfl, rfl⟩ rfl rfl rfl rfl rfl (by kernel_rfl) Try.func3 (by kernel_rfl)
    (of_decide_eq_true (by kernel_rfl)) (by unfold Func.isWrapper; first | (rw [if_pos (by decide +kernel)]; kernel_rfl) | (rw [if_neg (by decide +kernel)]; exact ⟨rfl, rfl⟩))
    (fun os started H enc _ => lifted os started H enc)

theorem proved : Rows.TcbReadsSaid := over

end Go.Proofs.Ytldmcoagjgeeoaa.tcbReads
