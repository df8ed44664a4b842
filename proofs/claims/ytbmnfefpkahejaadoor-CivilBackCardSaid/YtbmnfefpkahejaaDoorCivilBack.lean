/- Whatever second comes in, 'pantlerlaw03.CivilBack' returns true and leaves it as it was. No condition. -/
import Derived.Test.YtbmnfefpkahejaaDoorAlive
import Derived.BigGuardPart
namespace Go.Proofs.YtbmnfefpkahejaaDoor.civilBack
open Go.ChangeShapes Go.WideShapes Go.ChangeAt Go.RowKit Go.Deep
set_option linter.unusedVariables false


/-- The last test's two orders, as Booleans. -/
theorem later_b {Y M D H I S Yy My Dy Hy Iy Sy : Int} (h : Y < Yy ∨ Y = Yy ∧ (M < My ∨ M = My ∧ (D < Dy ∨ D = Dy ∧ 3600 * Hy + 60 * Iy + Sy = 3600 * H + 60 * I + S + 1))) :
    (Y < Yy) ∨ (¬ Y < Yy ∧ Yy = Y ∧ M < My) ∨ (¬ Y < Yy ∧ Yy = Y ∧ ¬ M < My ∧ My = M ∧ D < Dy) ∨ (¬ Y < Yy ∧ Yy = Y ∧ ¬ M < My ∧ My = M ∧ ¬ D < Dy ∧ Dy = D ∧ 3600 * Hy + 60 * Iy + Sy = 3600 * H + 60 * I + S + 1) := by omega

set_option maxRecDepth 100000 in
set_option maxHeartbeats 4000000 in
theorem walk (w : World) (hv : Vars w) (n : Int) (wn : (Lit.int .i64 n).wf = true) :
    Calls Tryd.prog 5 #[.int .i64 n] w fun e w' => e = .returned (.bool true) ∧ Below w.heap.size w w' := by
  have wb := wf_i64 wn
  clear wn
  by_cases hn : n < 0 ∨ 253402300799 < n
  · go_enter Tryd.func5, Tryd.ntmps5
    go_wp2_with fail
    refine (alive_any _ hv).mono ?_; rintro e w1 ⟨rfl, b1⟩
    have B1 := Lib.hid b1
    clear b1
    go_wp2_with fail
    refine (of_no n hn _).mono ?_; rintro e w2 ⟨rfl, b2⟩
    have B2 := Lib.hid ((B1.out.trans (b2.mono B1.out.size)).alloc (Nat.le_trans B1.out.size b2.size) (.cells #[.int .i64 0, .int .i64 0, .int .i64 0, .int .i64 0, .int .i64 0, .int .i64 0, .int .i64 0] 24))
    clear b2
    go_wp2
    go_ret
    exact ⟨rfl, B2.out⟩
  obtain ⟨Y, M, D, H, I, S, W, hd⟩ := dat_ex n (by omega) (by omega)
  by_cases hg : n ≥ 253402214399
  · clear hn wb
    have HD := Lib.hid hd
    have SO := Lib.hid (fun w hv => sec_ok n Y M D H I S W hd w hv)
    have PR := Lib.hid (fun w hv => print_ok n Y M D H I S W hd w hv)
    have PA := Lib.hid (fun w hv => parse_ok (text Y M D H I S W) n ⟨_, _, _, _, _, _, _, hd, rfl⟩ w hv)
    have hlen := (says_text hd).1
    have n0 := hd.n0
    have n1 := hd.n1
    have bd := hd.bd
    clear hd bd
    generalize text Y M D H I S W = t at *
    have hlen' : (t.length : Int) = 29 := by omega
    go_enter Tryd.func5, Tryd.ntmps5
    go_wp2_with fail
    refine (alive_any _ hv).mono ?_; rintro e w1 ⟨rfl, b1⟩
    have B1 := Lib.hid b1
    have V1 := Lib.hid (hv.below b1)
    clear b1
    go_wp2_with fail
    refine (of_ok n Y M D H I S W HD.out _ V1.out).mono ?_; rintro e w2 ⟨rfl, b2⟩
    have NOW2 := Lib.hid (show Now w w2.heap.size 24 #[.int .i64 Y, .int .i64 M, .int .i64 D, .int .i64 H, .int .i64 I, .int .i64 S, .int .i64 W] (w2.alloc (.cells #[.int .i64 Y, .int .i64 M, .int .i64 D, .int .i64 H, .int .i64 I, .int .i64 S, .int .i64 W] 24)) from
      ⟨(V1.out.below b2).alloc _, (B1.out.trans (b2.mono B1.out.size)).alloc (Nat.le_trans B1.out.size b2.size) _, Blk.new w2 _ _⟩)
    have s2 : w.heap.size ≤ w2.heap.size := Nat.le_trans B1.out.size b2.size
    clear b2
    go_wp2_with fail
    refine (SO.out _ NOW2.out.vars).mono ?_; rintro e w3 ⟨rfl, b3⟩
    have NOW3 := Lib.hid (Now.step b3 NOW2)
    clear b3 NOW2
    go_wp2_with fail
    refine (PR.out _ NOW3.out.vars).mono ?_; rintro e w4 ⟨rfl, b4⟩
    have NOW4 := Lib.hid (Now.step b4 NOW3)
    clear b4 NOW3
    go_wp2_with fail
    refine (PA.out _ NOW4.out.vars).mono ?_; rintro e w5 ⟨rfl, b5⟩
    have NOW5 := Lib.hid (Now.step b5 NOW4)
    clear b5 NOW4
    go_wp2
    go_ret
    exact ⟨by first | rfl | simp, NOW5.out.bel⟩
  · have hg' : ¬ n ≥ 253402214399 := hg
    clear hn wb
    have HD := Lib.hid hd
    have SO := Lib.hid (fun w hv => sec_ok n Y M D H I S W hd w hv)
    have PR := Lib.hid (fun w hv => print_ok n Y M D H I S W hd w hv)
    have PA := Lib.hid (fun w hv => parse_ok (text Y M D H I S W) n ⟨_, _, _, _, _, _, _, hd, rfl⟩ w hv)
    have hlen := (says_text hd).1
    have n0 := hd.n0
    have n1 := hd.n1
    have bd := hd.bd
    obtain ⟨Yx, Mx, Dx, Hx, Ix, Sx, Wx, hx⟩ := dat_ex (n + 86400) (by omega) (by omega)
    obtain ⟨Yy, My, Dy, Hy, Iy, Sy, Wy, hy⟩ := dat_ex (n + 1) (by omega) (by omega)
    have HX := Lib.hid hx
    have HY := Lib.hid hy
    have hm := hd.morrow hx
    have hm1 : Wx = (W + 1) % 7 := hm.1
    have hm2 : Hx = H := hm.2.1
    have hm3 : Ix = I := hm.2.2
    subst hm2 hm3
    subst hm1
    have LT := Lib.hid (later_b (hd.next hy))
    have by' := hy.bd
    have BD := Lib.hid bd
    have BY := Lib.hid by'
    clear hd hx hy hm bd by' hg
    generalize text Y M D Hx Ix S W = t at *
    have hlen' : (t.length : Int) = 29 := by omega
    go_enter Tryd.func5, Tryd.ntmps5
    go_wp2_with fail
    refine (alive_any _ hv).mono ?_; rintro e w1 ⟨rfl, b1⟩
    have B1 := Lib.hid b1
    have V1 := Lib.hid (hv.below b1)
    clear b1
    go_wp2_with fail
    refine (of_ok n Y M D Hx Ix S W HD.out _ V1.out).mono ?_; rintro e w2 ⟨rfl, b2⟩
    have NOW2 := Lib.hid (show Now w w2.heap.size 24 #[.int .i64 Y, .int .i64 M, .int .i64 D, .int .i64 Hx, .int .i64 Ix, .int .i64 S, .int .i64 W] (w2.alloc (.cells #[.int .i64 Y, .int .i64 M, .int .i64 D, .int .i64 Hx, .int .i64 Ix, .int .i64 S, .int .i64 W] 24)) from
      ⟨(V1.out.below b2).alloc _, (B1.out.trans (b2.mono B1.out.size)).alloc (Nat.le_trans B1.out.size b2.size) _, Blk.new w2 _ _⟩)
    have s2 : w.heap.size ≤ w2.heap.size := Nat.le_trans B1.out.size b2.size
    clear b2
    go_wp2_with fail
    refine (SO.out _ NOW2.out.vars).mono ?_; rintro e w3 ⟨rfl, b3⟩
    have NOW3 := Lib.hid (Now.step b3 NOW2)
    clear b3 NOW2
    go_wp2_with fail
    refine (PR.out _ NOW3.out.vars).mono ?_; rintro e w4 ⟨rfl, b4⟩
    have NOW4 := Lib.hid (Now.step b4 NOW3)
    clear b4 NOW3
    go_wp2_with fail
    refine (PA.out _ NOW4.out.vars).mono ?_; rintro e w5 ⟨rfl, b5⟩
    have NOW5 := Lib.hid (Now.step b5 NOW4)
    clear b5 NOW4
    go_wp2_with fail
    refine (of_ok (n + 86400) Yx Mx Dx Hx Ix Sx _ HX.out _ NOW5.out.vars).mono ?_; rintro e w6 ⟨rfl, b6⟩
    have NOW6 := Lib.hid (show Now w w2.heap.size 24 #[.int .i64 Y, .int .i64 M, .int .i64 D, .int .i64 Hx, .int .i64 Ix, .int .i64 S, .int .i64 W] (w6.alloc (.cells #[.int .i64 Yx, .int .i64 Mx, .int .i64 Dx, .int .i64 Hx, .int .i64 Ix, .int .i64 Sx, .int .i64 ((W + 1) % 7)] 24)) from
      ⟨(Now.step b6 NOW5).vars.alloc _, (Now.step b6 NOW5).bel.alloc (Now.step b6 NOW5).bel.size _, (Now.step b6 NOW5).blk.alloc _⟩)
    have KX := Lib.hid (Blk.new w6 24 #[.int .i64 Yx, .int .i64 Mx, .int .i64 Dx, .int .i64 Hx, .int .i64 Ix, .int .i64 Sx, .int .i64 ((W + 1) % 7)])
    have s6 : w.heap.size ≤ w6.heap.size := (Now.step b6 NOW5).bel.size
    have l6 : w2.heap.size < w6.heap.size := (Now.step b6 NOW5).blk.lt
    clear b6 NOW5
    go_wp2_with fail
    refine (of_ok (n + 1) Yy My Dy Hy Iy Sy Wy HY.out _ NOW6.out.vars).mono ?_; rintro e w7 ⟨rfl, b7⟩
    have NOW7 := Lib.hid (Now.step b7 NOW6)
    have KX7 := Lib.hid (KX.out.older (older_below b7))
    clear b7 NOW6 KX
    go_wp2_with (refine wpList_store_row rfl 24 (.tmp 13) (.tmp 73) rfl w7.heap.size #[.int .i64 Yy, .int .i64 My, .int .i64 Dy, .int .i64 Hy, .int .i64 Iy, .int .i64 Sy, .int .i64 Wy] rfl rfl 24 _ (Blk.new w7 24 #[.int .i64 0, .int .i64 0, .int .i64 0, .int .i64 0, .int .i64 0, .int .i64 0, .int .i64 0]) dinfo rfl (one7 _ _ _ _ _ _ _) ?_; refine Hid.out ?_)
    have ld := NOW7.out.blk.lt
    have lx := KX7.out.lt
    have KY := Lib.hid ((Blk.new w7 24 #[.int .i64 0, .int .i64 0, .int .i64 0, .int .i64 0, .int .i64 0, .int .i64 0, .int .i64 0]).setRow #[.int .i64 Yy, .int .i64 My, .int .i64 Dy, .int .i64 Hy, .int .i64 Iy, .int .i64 Sy, .int .i64 Wy])
    have KD := Lib.hid ((NOW7.out.blk.alloc (.cells #[.int .i64 0, .int .i64 0, .int .i64 0, .int .i64 0, .int .i64 0, .int .i64 0, .int .i64 0] 24)).setRow_far (Nat.ne_of_lt ld) #[.int .i64 Yy, .int .i64 My, .int .i64 Dy, .int .i64 Hy, .int .i64 Iy, .int .i64 Sy, .int .i64 Wy])
    have KE := Lib.hid ((KX7.out.alloc (.cells #[.int .i64 0, .int .i64 0, .int .i64 0, .int .i64 0, .int .i64 0, .int .i64 0, .int .i64 0] 24)).setRow_far (Nat.ne_of_lt lx) #[.int .i64 Yy, .int .i64 My, .int .i64 Dy, .int .i64 Hy, .int .i64 Iy, .int .i64 Sy, .int .i64 Wy])
    have B8 := Lib.hid (below_setRow (NOW7.out.bel.alloc NOW7.out.bel.size (.cells #[.int .i64 0, .int .i64 0, .int .i64 0, .int .i64 0, .int .i64 0, .int .i64 0, .int .i64 0] 24)) NOW7.out.bel.size #[.int .i64 Yy, .int .i64 My, .int .i64 Dy, .int .i64 Hy, .int .i64 Iy, .int .i64 Sy, .int .i64 Wy])
    clear ld lx
    generalize (w7.alloc (.cells #[.int .i64 0, .int .i64 0, .int .i64 0, .int .i64 0, .int .i64 0, .int .i64 0, .int .i64 0] 24)).setRow w7.heap.size #[.int .i64 Yy, .int .i64 My, .int .i64 Dy, .int .i64 Hy, .int .i64 Iy, .int .i64 Sy, .int .i64 Wy] = w8 at *
    clear SO PR PA HX HY HD V1 B1 NOW7 KX7 hlen hlen' hg' n0 n1 s2 s6 l6
    generalize w2.heap.size = d at *
    generalize w6.heap.size = x at *
    generalize w7.heap.size = yb at *
    have k0 := KD.out.cell 0
    have k1 := KD.out.cell 1
    have k2 := KD.out.cell 2
    have k3 := KD.out.cell 3
    have k4 := KD.out.cell 4
    have k5 := KD.out.cell 5
    have k6 := KD.out.cell 6
    have q3 := KE.out.cell 3
    have q4 := KE.out.cell 4
    have q6 := KE.out.cell 6
    have z0 := KY.out.cell 0
    have z1 := KY.out.cell 1
    have z2 := KY.out.cell 2
    have z3 := KY.out.cell 3
    have z4 := KY.out.cell 4
    have z5 := KY.out.cell 5
    simp only [List.getElem?_toArray, List.getElem?_cons_zero, List.getElem?_cons_succ] at k0 k1 k2 k3 k4 k5 k6 q3 q4 q6 z0 z1 z2 z3 z4 z5
    clear KD KE KY
    unfold Hid
    go_upto_region 15 with fail
    -- a region of more than 64 operations is written in two lists, put together: the walk wants one
    simp only [List.append_eq, List.cons_append, List.nil_append]
    obtain ⟨a0, a1, a2, a3, a4, a5, a6, a7, a8, a9, a10, a11, a12, a13⟩ := BD.out
    obtain ⟨c0, c1, c2, c3, c4, c5, c6, c7, c8, c9, c10, c11, c12, c13⟩ := BY.out
    rcases LT.out with h1 | ⟨h1, rfl, h2⟩ | ⟨h1, rfl, h2, rfl, h3⟩ | ⟨h1, rfl, h2, rfl, h3, rfl, h4⟩
    · clear LT BD BY a0 a1 a2 a3 a4 a5 a6 a7 a8 a9 a10 a11 c0 c1 c2 c3 c4 c5 c6 c7 c8 c9 c10 c11 c12 c13
      go_wp2
      go_ret
      exact ⟨by first | rfl | simp, B8.out⟩
    · clear LT BD BY a0 a1 a2 a3 a4 a5 a6 a7 a8 a9 a10 a11 c0 c1 c2 c3 c4 c5 c6 c7 c8 c9 c10 c11 c12 c13
      go_wp2
      go_ret
      exact ⟨by first | rfl | simp, B8.out⟩
    · clear LT BD BY a0 a1 a2 a3 a4 a5 a6 a7 a8 a9 a10 a11 c0 c1 c2 c3 c4 c5 c6 c7 c8 c9 c10 c11 c12 c13
      go_wp2
      go_ret
      exact ⟨by first | rfl | simp, B8.out⟩
    · clear LT BD BY
      go_wp2
      go_ret
      exact ⟨by first | rfl | simp, B8.out⟩

set_option maxRecDepth 100000 in
theorem reads (os : Os) {H : Type} (enc : TypeId × Value → H) : DataW.whole enc Tryd.prog ((World.laidAll Tryd.prog os Rows.civilBackRow.laid).forCall (fun _ _ => 0) ⟨#[], #[.int .i64 0], []⟩).memory Tryd.f5.params.toList Rows.civilBackSpec.vars false (#[.int .i64 0] : Array Value).toList 8 = some ([.lit (.int .i64 0)], [], []) := by kernel_rfl
set_option maxRecDepth 100000 in
theorem lifted (os : Os) (started : os.Started) (H : Type) (enc : TypeId × Value → H) (F : Stop.Interp) :
    ReturnsInHanded {} Tryd.checked os 5 .any ((OpenSpec.ofChange Rows.civilBackSpec).preRow enc Tryd.prog Tryd.f5 Rows.civilBackRow.domain false Rows.civilBackRow.laid) (((OpenSpec.ofChange Rows.civilBackSpec).at F).post enc Tryd.prog Tryd.f5 false true false false) := by
  refine returnsInHanded_of_row (C := Tryd.checked) (s := OpenSpec.ofChange Rows.civilBackSpec) own started (by kernel_rfl) Tryd.func5
    ⟨World.laidAll Tryd.prog os Rows.civilBackRow.laid, fun _ _ => 0, ⟨#[], #[.int .i64 0], []⟩, World.laidAll_os _ _ _, World.shaped_of_ZipB (by kernel_rfl) (by kernel_rfl), rfl, (Input.okWide_of_okWideB (by kernel_rfl)).2,
      OpenSpec.preRow_of_cond 8 (reads os enc) (by kernel_rfl) (fun k hk => by cases hk) (by kernel_rfl) (by rw [MakeChecks.laidMetH_plain _ _ _ (by kernel_rfl)]; exact laidMet_laidAll _ (by kernel_rfl) (by kernel_rfl)), by simp [Assume.holds]⟩ ?_
  intro W base args ds gs before hval0 hW _ _ _ hL hsh _
  have hval : ∀ (j : Nat) t v, Tryd.f5.params[j]? = some t → args[j]? = some v → Value.okWide Tryd.prog W .any base t v := hval0
  have hvars : Vars W := Vars.of hL
  have hW' := hW
  obtain ⟨p, q, hA0, hV, rfl, hfz, hnd⟩ := hW
  have hA : DataW.TrodAll enc Tryd.prog W 0 (fun _ => true) true Tryd.f5.params.toList args.toList ds p := hA0
  rw [Tryd.params5] at hA hval
  obtain ⟨v0, vs0, d0, ds0, p0, q0, hargs, rfl, rfl, h0, r0⟩ := trodAll_cons hA
  obtain ⟨rfl, rfl, rfl⟩ := trodAll_nil r0
  obtain rfl : args = #[v0] := by cases args; simp_all
  obtain ⟨a0, rfl, _, _, w0⟩ := open_int Tryd.underlying2 (hval 0 2 v0 rfl rfl) h0
  clear hA0 hval0
  exact law_close hW' laidOut (by kernel_rfl) rfl Tryd.underlying4 rfl ⟨rfl, rfl, rfl⟩ (walk W hvars a0 w0)

theorem over : Rows.civilBackRow.holds Tryd.pinned (OpenSpec.ofChange Rows.civilBackSpec) :=
  OpenClaim.holds_of_cond 5 Tryd.f5 rfl rfl rfl rfl rfl rfl rfl ⟨rfl, rfl, rfl, rfl, rfl⟩ rfl rfl rfl rfl rfl (by kernel_rfl) Tryd.func5 (by kernel_rfl)
    (of_decide_eq_true (by kernel_rfl)) (by unfold Func.isWrapper; first | (rw [if_pos (by decide +kernel)]; kernel_rfl) | (rw [if_neg (by decide +kernel)]; exact ⟨rfl, rfl⟩))
    (fun os started H enc _ F => by rw [OpenClaim.pre_eq_preRow]; exact lifted os started H enc F)

theorem plain (f : FuncId) (fn : Func) (hf : Tryd.pinned.checked.prog.funcNamed "pantler/pantlerlaw03.CivilBack" = some f) (hfn : Tryd.pinned.checked.prog.funcs[f]? = some fn) :
    Rows.civilBackCard.stood.looks = Tryd.pinned.checked.prog.looks [] ∧ ∀ (j : Nat) t, fn.params[j]? = some t → Tryd.pinned.checked.prog.wantsStandIn t = false := by
  obtain rfl : f = 5 := Option.some.inj ((show Tryd.prog.funcNamed "pantler/pantlerlaw03.CivilBack" = some 5 by kernel_rfl).symm.trans hf) |>.symm
  obtain rfl : fn = Tryd.f5 := (Option.some.inj (Tryd.func5.symm.trans hfn)).symm
  refine ⟨by kernel_rfl, fun j t ht => ?_⟩
  rw [Tryd.params5] at ht
  have hm : t ∈ [2] := by simpa using Array.mem_of_getElem? ht
  have hall : ([2].all fun u => !Tryd.prog.wantsStandIn u) = true := by kernel_rfl
  exact (show Tryd.prog.wantsStandIn t = false by simpa using List.all_eq_true.1 hall t hm)

theorem proved : Rows.CivilBackCardSaid :=
  Claim7.holds_tied_plain_at .later [] _ _ _ _ over (fun _ h => by cases h) (by kernel_rfl) (fun _ h => by cases h) civilBack_row_tie rfl ⟨rfl, rfl⟩ (by kernel_rfl) rfl plain (by kernel_rfl)

end Go.Proofs.YtbmnfefpkahejaaDoor.civilBack
