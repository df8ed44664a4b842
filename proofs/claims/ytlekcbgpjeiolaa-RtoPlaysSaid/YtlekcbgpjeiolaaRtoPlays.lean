/- RtoPlays says true for every input: what any samples make of a clock. Conditions: none beyond the given statement's. -/
import Derived.Test.YtlekcbgpjeiolaaRtE
import Derived.Deep.CutBlock
import Derived.Deep.DeepCutAuto
import Derived.BigQuiet
namespace Go.Proofs.Ytlekcbgpjeiolaa.rtoPlays
open Go.ChangeShapes Go.WideShapes Go.ChangeAt Go.RowKit Rt Go.Deep
set_option linter.unusedVariables false


set_option maxRecDepth 100000 in
set_option maxHeartbeats 4000000 in
theorem walk (w : World) (A1 : Option Addr) (c1 : Nat) (l : List Int) (b1 : Rk.RowG w 1 A1 l.length c1 (l.flatMap IntsC)) (k1 : ∀ q ∈ l, (fun (x : Int) => -9223372036854775808 ≤ x ∧ x ≤ 9223372036854775807) q) :
    Calls Try.prog 3 #[.slice A1 l.length c1] w fun e w' => e = .returned (.bool true) ∧ Below w.heap.size w w' := by
  have LR := Lib.hid b1
  obtain ⟨L, hL⟩ : ∃ L, l.length = L := ⟨_, rfl⟩
  have LN := Lib.hid hL
  rw [hL]
  clear b1 k1 hL
  by_cases h300 : (300 : Int) < L
  · go_enter Try.func3, Try.ntmps3
    go_wp2_with fail
    refine (alive_any w).mono ?_; rintro e w1 ⟨rfl, b1⟩
    have B1 := Lib.hid b1
    clear b1
    go_wp2
    go_ret
    exact ⟨rfl, B1.out⟩
  go_enter Try.func3, Try.ntmps3
  go_wp2_with fail
  refine (alive_any w).mono ?_; rintro e w1 ⟨rfl, b1⟩
  have B1 := Lib.hid b1
  clear b1
  go_wp2_with fail
  refine (new_any w1).mono ?_; rintro e w2 ⟨rfl, h2⟩
  have OW2 := Lib.hid (show Own w w2 w1.heap.size k0 from ⟨h2.at_, B1.out.trans (h2.below.mono B1.out.size), B1.out.size⟩)
  clear h2 B1
  generalize w1.heap.size = g at *
  go_wp2_with fail
  refine (rnew_any w2).mono ?_; rintro e w3 ⟨rfl, b3⟩
  have OW3 := Lib.hid (OW2.out.new b3)
  clear b3 OW2
  go_upto_region 7 with (first
    | (refine wpList_store_row rfl 27 (.tmp 4) (.tmp 14) rfl w3.heap.size (dv k0) rfl rfl 27 _ (Blk.new w3 27 _) d_info rfl (by simp [dv, Value.oneCell']) ?_)
    | fail)
  obtain ⟨gm, hgm⟩ : ∃ gm, w3.heap.size = gm := ⟨_, rfl⟩
  have NB := (Below.refl w3.heap.size w3).alloc (Nat.le_refl _) (.cells #[.int .i64 0, .int .i64 0, .int .i64 0, .bool false] 27)
  have MB0 := Lib.hid ((Blk.new w3 27 #[.int .i64 0, .int .i64 0, .int .i64 0, .bool false]).row (dv k0))
  have KS := Chg.setRow (w3.alloc (.cells #[.int .i64 0, .int .i64 0, .int .i64 0, .bool false] 27)) (g := w3.heap.size) (S := fun k => k = w3.heap.size) (dv k0) rfl
  have lt3 := OW3.out.lt
  have sz3 := OW3.out.below.size
  have OW0 := Lib.hid ((OW3.out.new NB).chg KS (fun e => by have e' : g = w3.heap.size := e; omega) (fun i hi => by have hi' : i = w3.heap.size := hi; omega))
  have GB := Lib.hid (show g ≠ gm ∧ w.heap.size ≤ gm from by omega)
  rw [hgm] at MB0 KS OW0
  clear NB KS lt3 sz3 OW3
  rw [hgm]
  generalize (w3.alloc (.cells #[.int .i64 0, .int .i64 0, .int .i64 0, .bool false] 27)).setRow gm (dv k0) = W0 at *
  clear hgm
  go_wp2
  go_loopw [5] (fun i wr => ∃ (j : Nat) (c : Clk), j ≤ L ∧ i = .int .i64 (j : Int) ∧ Sm c ∧ Hid (Own w wr g c) ∧ Hid (Blk wr gm 27 (dv c))) (fun i _ => L - (intOf i).toNat)
  case atStart => exact ⟨0, k0, Nat.zero_le _, rfl, sm_0, OW0, MB0⟩
  case round =>
    clear OW0 MB0
    obtain ⟨j, c, hj, rfl, HS, OW, MB⟩ := hrel
    by_cases hlt : j < L
    · have hlt' : (j : Int) < (L : Int) := by omega
      have j0 : (0 : Int) ≤ (j : Int) := by omega
      have hjl : j < l.length := by rw [LN.out]; exact hlt
      have xj := IntWalk.i64_in ((j : Int) + 1) (by omega)
      obtain ⟨b, o, rfl, hb, c0⟩ := Ints_at0 LR.out hjl
      have c1 := (World.cell?_of_block (w := w) (w' := wr) (a := ⟨b, o + (j * 1 + 0), none⟩) (OW.out.below.block b hb)).trans c0
      rw [show j * 1 + 0 = j by omega] at c1
      have hbg : b ≠ g ∧ b ≠ gm := by have := OW.out.own; have := GB.out; omega
      have hbr : b < wr.heap.size := Nat.lt_of_lt_of_le hb OW.out.below.size
      generalize l[j] = x at *
      clear c0 hjl
      go_upto_if 25 with fail
      go_cut [5] (fun s5 wx => s5 = .int .i64 (j : Int) ∧ ∃ c', Sm c' ∧ Hid (Own w wx g c') ∧ Hid (Blk wx gm 27 (dv c')))
      case first =>
        have hs := HS
        by_cases q : x = -1
        · subst q
          go_wp2_with fail
          refine (back_any OW.out hs).mono ?_; rintro e w5 ⟨rfl, h5, k5⟩
          have OW5 := Lib.hid h5
          have MB5 := Lib.hid (MB.out.chg k5 (fun e => GB.out.1 e.symm))
          clear h5 k5 OW MB
          go_wp2_with (first
            | (refine wpList_load_row rfl 27 (.tmp 4) rfl gm rfl 27 _ (0, 0) _ MB5.out Try.underlying27 rfl d_info ?_)
            | fail)
          refine (rback_any c hs w5).mono ?_; rintro e w6 ⟨rfl, b6⟩
          have MB6 := Lib.hid (MB5.out.older (older_below b6))
          have OW6 := Lib.hid (OW5.out.new b6)
          clear b6 OW5 MB5
          have FN := Lib.hid (show Own w (w6.setRow gm (dv (backR c))) g (backR c) from OW6.out.chg (Chg.setRow w6 (g := gm) (S := fun k => k = gm) (dv (backR c)) rfl) GB.out.1 (fun i hi => by have hi' : i = gm := hi; have := GB.out; omega))
          have FM := Lib.hid (MB6.out.row (dv (backR c)))
          have ST := Lib.hid (sm_back hs)
          generalize backR c = c' at *
          go_wp2_with (first
            | (refine wpList_store_row rfl 27 (.tmp 4) (.tmp 29) rfl gm (dv c') rfl rfl 27 _ MB6.out d_info rfl (by simp [dv, Value.oneCell']) ?_)
            | fail)
          go_meet
          exact ⟨rfl, c', ST.out, FN, FM⟩
        · have q3 : (x == -1) = false := by simpa using q
          clear q
          go_wp2_with fail
          refine (sample_any OW.out hs x).mono ?_; rintro e w5 ⟨rfl, h5, k5⟩
          have OW5 := Lib.hid h5
          have MB5 := Lib.hid (MB.out.chg k5 (fun e => GB.out.1 e.symm))
          have c5 := (World.cell?_of_block (w := wr) (w' := w5) (a := ⟨b, o + j, none⟩) (k5.block b hbr hbg.1)).trans c1
          have hb5 : b < w5.heap.size := Nat.lt_of_lt_of_le hbr k5.size
          clear h5 k5 OW MB
          go_upto_region 14 with fail
          have hH := Lib.hid ((Below.refl w5.heap.size w5).drew)
          refine wp_head_held (S := fun w' => Hid (Below w5.heap.size w5 w')) 6 (by kernel_rfl) rfl rfl (by kernel_rfl) ?_
          simp only [List.take_succ_cons, List.take_zero, List.drop_succ_cons, List.drop_zero]
          refine held_take (i := 1) (d := (some 37)) (v := ?_) rfl rfl (by kernel_rfl) (by kernel_rfl) (by kernel_rfl) (fun _ _ _ h => h) (by rfl) ?_ hH ?_
          rotate_left
          · intro w' hSw; (try dsimp only at hSw); go_simp <;> with_reducible rfl
          simp only [Act.put, List.setIfInBounds_toArray, List.set_cons_zero, List.set_cons_succ]
          refine held_take (i := 2) (d := (some 38)) (v := ?_) rfl rfl (by kernel_rfl) (by kernel_rfl) (by kernel_rfl) (fun _ _ _ h => h) (by rfl) ?_ hH ?_
          rotate_left
          · intro w' hSw; (try dsimp only at hSw); go_simp <;> with_reducible rfl
          simp only [Act.put, List.setIfInBounds_toArray, List.set_cons_zero, List.set_cons_succ]
          refine held_take (i := 3) (d := (some 39)) (v := ?_) rfl rfl (by kernel_rfl) (by kernel_rfl) (by kernel_rfl) (fun _ _ _ h => h) (by rfl) ?_ hH ?_
          rotate_left
          · intro w' hSw; (try dsimp only at hSw); go_simp <;> with_reducible rfl
          simp only [Act.put, List.setIfInBounds_toArray, List.set_cons_zero, List.set_cons_succ]
          refine held_take (i := 4) (d := (some 40)) (v := ?_) rfl rfl (by kernel_rfl) (by kernel_rfl) (by kernel_rfl) (fun _ _ _ h => h) (by rfl) ?_ hH ?_
          rotate_left
          · intro w' hSw; have z := (World.cell?_of_block (w := w5) (w' := w') (hSw.out.block _ hb5)).trans c5; clear hSw; go_simp <;> with_reducible rfl
          simp only [Act.put, List.setIfInBounds_toArray, List.set_cons_zero, List.set_cons_succ]
          refine held_one (i := 0) (by kernel_rfl) rfl (by rfl) ?_
          refine wp_load_d (d := some 36) rfl (y := .pointer (some ⟨gm, 0, none⟩)) rfl rfl (dv_load (MB5.out.older (older_below hH.out))) ?_
          refine ⟨hH, ?_⟩
          (try simp only [Act.put, List.setIfInBounds_toArray, List.set_cons_zero, List.set_cons_succ])
          refine held_one (i := 5) (by kernel_rfl) rfl (by rfl) ?_
          go_simp
          refine (rsample_any c hs x _).mono ?_; rintro e wq ⟨rfl, bq⟩
          have hH2 : Hid (Below w5.heap.size w5 wq) := Lib.hid (hH.out.trans (bq.mono hH.out.size))
          refine ⟨hH2, ?_⟩
          (try simp only [Act.put, List.setIfInBounds_toArray, List.set_cons_zero, List.set_cons_succ])
          refine wpAnyH_done (by kernel_rfl) ?_ _
          show wpList _ _ _ _ _ _
          have MB6 := Lib.hid (MB5.out.older (older_below hH2.out))
          have OW6 := Lib.hid (OW5.out.new hH2.out)
          have FN := Lib.hid (show Own w (wq.setRow gm (dv (sampR c x))) g (sampR c x) from OW6.out.chg (Chg.setRow wq (g := gm) (S := fun k => k = gm) (dv (sampR c x)) rfl) GB.out.1 (fun i hi => by have hi' : i = gm := hi; have := GB.out; omega))
          have FM := Lib.hid (MB6.out.row (dv (sampR c x)))
          have ST := Lib.hid (sm_samp hs x)
          clear hH hH2 bq OW5 MB5 c5 c1
          generalize sampR c x = c' at *
          go_wp2_with (first
            | (refine wpList_store_row rfl 27 (.tmp 4) (.tmp 41) rfl gm (dv c') rfl rfl 27 _ MB6.out d_info rfl (by simp [dv, Value.oneCell']) ?_)
            | fail)
          go_meet
          exact ⟨rfl, c', ST.out, FN, FM⟩
      case rest =>
        obtain ⟨rfl, c', HS', OW', MB'⟩ := hcut
        clear OW MB HS c1
        go_wp2_with fail
        refine (smooth_any OW'.out).mono ?_; rintro e w6 ⟨rfl, m6, rfl⟩
        have OW6 := Lib.hid (OW'.out.drewN m6)
        have MB6 := Lib.hid (MB'.out.drewN m6)
        clear OW' MB'
        go_upto_region 16 with fail
        generalize wc.drewN m6 = w6 at *
        have d0 := (MB6.out.cell 0).trans (show _ = some (.int .i64 c'.s) from rfl)
        have d1 := (MB6.out.cell 1).trans (show _ = some (.int .i64 c'.v) from rfl)
        have d2 := (MB6.out.cell 2).trans (show _ = some (.int .i64 c'.w) from rfl)
        have WA := Lib.hid (fun m => wait_any (OW6.out.drewN m))
        go_quiet ((go_at_call 14; exact Calls.quiet_of_same (WA.out _)))
        go_wp2
        go_roundw
        case rel => exact ⟨j + 1, c', by omega, by go_num, HS', Lib.hid (OW6.out.drewN _), Lib.hid (MB6.out.drewN _)⟩
        case measure => simp [intOf]; omega
    · have hlt' : ¬ (j : Int) < (L : Int) := by omega
      go_wp2
      go_ret
      exact ⟨rfl, OW.out.below⟩


set_option maxRecDepth 100000 in
theorem lifted (os : Os) (started : os.Started) (H : Type) (enc : TypeId × Value → H) :
    ReturnsInHanded {} Try.checked os 3 .any (Rows.rtoPlaysSpec.pre6 enc Try.prog Try.f3 Rows.rtoPlaysRow.domain false) (Rows.rtoPlaysSpec.post enc Try.prog Try.f3 false true false false) := by
  refine returnsInHanded_of_change (C := Try.checked) own started (by kernel_rfl) Try.func3
    (ChangeSpec.witness6 (enc := enc) (C := Try.checked) false ⟨#[], #[.slice none 0 0], []⟩ 8 (by kernel_rfl) (by kernel_rfl) (by kernel_rfl) (by kernel_rfl)) ?_
  intro W base args ds gs before hval0 hW hcnd _
  have hval : ∀ (j : Nat) t v, Try.f3.params[j]? = some t → args[j]? = some v → Value.okWide Try.prog W .any base t v := hval0
  have hW' := hW
  obtain ⟨p, q, hA0, hV, rfl, hfz, hnd⟩ := hW
  have hA : DataW.TrodAll enc Try.prog W 0 (fun _ => true) true Try.f3.params.toList args.toList ds p := hA0
  rw [Try.params3] at hA hval
  obtain ⟨v0, vs0, d0, ds0, p0, q0, hargs, rfl, rfl, h0, r0⟩ := trodAll_cons hA
  obtain ⟨rfl, rfl, rfl⟩ := trodAll_nil r0
  obtain rfl : args = #[v0] := by cases args; simp_all
  obtain ⟨A0, c0, l0, rfl, b0, k0⟩ := open_Ints (hval 0 22 v0 rfl rfl) h0
  clear hA0 hval0
  exact law_close hW' laidOut (by kernel_rfl) rfl Try.underlying4 rfl ⟨rfl, rfl, rfl⟩ (walk W A0 c0 l0 b0 k0)

theorem over : Rows.rtoPlaysRow.holds Try.pinned (OpenSpec.ofChange Rows.rtoPlaysSpec) :=
  OpenClaim.holds_of_wide 3 Try.f3 rfl rfl rfl rfl rfl rfl rfl ⟨rfl, rfl, rfl, rfl, rfl⟩ rfl rfl rfl rfl rfl (by kernel_rfl) Try.func3 (by kernel_rfl)
    (of_decide_eq_true (by kernel_rfl)) (by unfold Func.isWrapper; first | (rw [if_pos (by decide +kernel)]; kernel_rfl) | (rw [if_neg (by decide +kernel)]; exact ⟨rfl, rfl⟩))
    (fun os started H enc _ => lifted os started H enc)

theorem proved : Rows.RtoPlaysSaid := over

end Go.Proofs.Ytlekcbgpjeiolaa.rtoPlays
