/- Whatever second comes in, 'pantlerlaw03.CivilAges' returns true and leaves it as it was. No condition. -/
import Derived.Test.YtbmnfefpkahejaaDoorAlive
namespace Go.Proofs.YtbmnfefpkahejaaDoor.civilAges
open Go.ChangeShapes Go.WideShapes Go.ChangeAt Go.RowKit Go.Deep
set_option linter.unusedVariables false


set_option maxRecDepth 100000 in
set_option maxHeartbeats 2000000 in
theorem walk (w : World) (hv : Vars w) (n : Int) (wn : (Lit.int .i64 n).wf = true) :
    Calls Tryd.prog 6 #[.int .i64 n] w fun e w' => e = .returned (.bool true) ∧ Below w.heap.size w w' := by
  have wb := wf_i64 wn
  clear wn
  by_cases hn : n < 0 ∨ 253402300799 < n
  · go_enter Tryd.func6, Tryd.ntmps6
    go_wp2_with fail
    refine (alive_any _ hv).mono ?_; rintro e w1 ⟨rfl, b1⟩
    have B1 := Lib.hid b1
    clear b1
    go_wp2_with fail
    refine (of_no n hn _).mono ?_; rintro e w2 ⟨rfl, b2⟩
    have B2 := Lib.hid ((B1.out.trans (b2.mono B1.out.size)).alloc (Nat.le_trans B1.out.size b2.size) (.cells #[.int .i64 0, .int .i64 0, .int .i64 0, .int .i64 0, .int .i64 0, .int .i64 0, .int .i64 0] 24))
    clear b2
    go_wp2
    go_ret
    exact ⟨rfl, B2.out⟩
  · obtain ⟨Y, M, D, H, I, S, W, hd⟩ := dat_ex n (by omega) (by omega)
    have n0 := hd.n0
    have n1 := hd.n1
    have bd := hd.bd
    have HD := Lib.hid hd
    have y0 : 1970 ≤ Y := bd.1
    have y1 : Y ≤ 9999 := bd.2.1
    by_cases hg : n > 240779519999
    · clear hd hn bd
      go_enter Tryd.func6, Tryd.ntmps6
      go_wp2_with fail
      refine (alive_any _ hv).mono ?_; rintro e w1 ⟨rfl, b1⟩
      have B1 := Lib.hid b1
      have V1 := Lib.hid (hv.below b1)
      clear b1
      go_wp2_with fail
      refine (of_ok n Y M D H I S W HD.out _ V1.out).mono ?_; rintro e w2 ⟨rfl, b2⟩
      have B2 := Lib.hid ((B1.out.trans (b2.mono B1.out.size)).alloc (Nat.le_trans B1.out.size b2.size) (.cells #[.int .i64 Y, .int .i64 M, .int .i64 D, .int .i64 H, .int .i64 I, .int .i64 S, .int .i64 W] 24))
      clear b2
      go_wp2
      go_ret
      exact ⟨rfl, B2.out⟩
    · have hg' : ¬ n > 240779519999 := hg
      have HA := Lib.hid (hd.age (by omega))
      have hl : leapB (Y + 400) = leapB Y := by unfold leapB; rw [leap_age]
      have HL := Lib.hid hl
      have x1 := IntWalk.i64_in (Y + 400) (by omega)
      have x2 := IntWalk.i64_in (Y + 400 - 400) (by omega)
      have x3 : Y + 400 - 400 = Y := by omega
      have x4 := IntWalk.i64_in Y (by omega)
      have X := Lib.hid (And.intro x1 (And.intro x2 (And.intro x3 x4)))
      clear hd hn bd hl hg x1 x2 x3 x4
      go_enter Tryd.func6, Tryd.ntmps6
      go_wp2_with fail
      refine (alive_any _ hv).mono ?_; rintro e w1 ⟨rfl, b1⟩
      have B1 := Lib.hid b1
      have V1 := Lib.hid (hv.below b1)
      clear b1
      go_wp2_with fail
      refine (of_ok n Y M D H I S W HD.out _ V1.out).mono ?_; rintro e w2 ⟨rfl, b2⟩
      have s2 := Nat.le_trans B1.out.size b2.size
      have B2 := Lib.hid ((B1.out.trans (b2.mono B1.out.size)).alloc s2 (.cells #[.int .i64 Y, .int .i64 M, .int .i64 D, .int .i64 H, .int .i64 I, .int .i64 S, .int .i64 W] 24))
      have V2 := Lib.hid ((V1.out.below b2).alloc (.cells #[.int .i64 Y, .int .i64 M, .int .i64 D, .int .i64 H, .int .i64 I, .int .i64 S, .int .i64 W] 24))
      have K2 := Lib.hid (Blk.new w2 24 #[.int .i64 Y, .int .i64 M, .int .i64 D, .int .i64 H, .int .i64 I, .int .i64 S, .int .i64 W])
      clear b2
      go_wp2_with fail
      refine (of_ok (n + 12622780800) (Y + 400) M D H I S W HA.out _ V2.out).mono ?_; rintro e w3 ⟨rfl, b3⟩
      have B3 := Lib.hid (B2.out.trans (b3.mono B2.out.size))
      have K3 := Lib.hid (K2.out.older (older_below b3))
      have k0 := K3.out.cell 0
      have k1 := K3.out.cell 1
      have k2 := K3.out.cell 2
      have k3 := K3.out.cell 3
      have k4 := K3.out.cell 4
      have k5 := K3.out.cell 5
      have k6 := K3.out.cell 6
      have f0 := K3.out.frozen 0
      have lt3 := K3.out.lt
      simp only [List.getElem?_toArray, List.getElem?_cons_zero, List.getElem?_cons_succ] at k0 k1 k2 k3 k4 k5 k6
      clear b3 B2 V2 K2
      go_upto_region 8 with fail
      have KD := Lib.hid (show Blk ((w3.setCell ⟨w2.heap.size, 0, none⟩ (.int .i64 (Y + 400))).alloc (.cells #[.int .i64 (Y + 400), .int .i64 M, .int .i64 D, .int .i64 H, .int .i64 I, .int .i64 S, .int .i64 W] 24)) w2.heap.size 24 #[.int .i64 (Y + 400), .int .i64 M, .int .i64 D, .int .i64 H, .int .i64 I, .int .i64 S, .int .i64 W] from by
        have := (K3.out.put 0 (.int .i64 (Y + 400))).alloc (.cells #[.int .i64 (Y + 400), .int .i64 M, .int .i64 D, .int .i64 H, .int .i64 I, .int .i64 S, .int .i64 W] 24)
        simpa using this)
      have KX := Lib.hid (show Blk ((w3.setCell ⟨w2.heap.size, 0, none⟩ (.int .i64 (Y + 400))).alloc (.cells #[.int .i64 (Y + 400), .int .i64 M, .int .i64 D, .int .i64 H, .int .i64 I, .int .i64 S, .int .i64 W] 24)) w3.heap.size 24 #[.int .i64 (Y + 400), .int .i64 M, .int .i64 D, .int .i64 H, .int .i64 I, .int .i64 S, .int .i64 W] from by
        have := Blk.new (w3.setCell ⟨w2.heap.size, 0, none⟩ (.int .i64 (Y + 400))) 24 #[.int .i64 (Y + 400), .int .i64 M, .int .i64 D, .int .i64 H, .int .i64 I, .int .i64 S, .int .i64 W]
        rwa [show (w3.setCell ⟨w2.heap.size, 0, none⟩ (.int .i64 (Y + 400))).heap.size = w3.heap.size by simp [World.setCell]] at this)
      have B5 := Lib.hid ((B3.out.setCell (p := ⟨w2.heap.size, 0, none⟩) s2 (.int .i64 (Y + 400))).alloc (by have := B3.out.size; simpa [World.setCell] using this) (.cells #[.int .i64 (Y + 400), .int .i64 M, .int .i64 D, .int .i64 H, .int .i64 I, .int .i64 S, .int .i64 W] 24))
      clear k0 k1 k2 k3 k4 k5 k6 f0
      generalize (w3.setCell ⟨w2.heap.size, 0, none⟩ (.int .i64 (Y + 400))).alloc (.cells #[.int .i64 (Y + 400), .int .i64 M, .int .i64 D, .int .i64 H, .int .i64 I, .int .i64 S, .int .i64 W] 24) = w5 at *
      have k0 := KD.out.cell 0
      have k1 := KD.out.cell 1
      have k2 := KD.out.cell 2
      have k3 := KD.out.cell 3
      have k4 := KD.out.cell 4
      have k5 := KD.out.cell 5
      have k6 := KD.out.cell 6
      have q0 := KX.out.cell 0
      have q1 := KX.out.cell 1
      have q2 := KX.out.cell 2
      have q3 := KX.out.cell 3
      have q4 := KX.out.cell 4
      have q5 := KX.out.cell 5
      have q6 := KX.out.cell 6
      simp only [List.getElem?_toArray, List.getElem?_cons_zero, List.getElem?_cons_succ] at k0 k1 k2 k3 k4 k5 k6 q0 q1 q2 q3 q4 q5 q6
      obtain ⟨x1, x2, x3, x4⟩ := X.out
      have hl := HL.out
      go_quiet ((go_at_call 10; exact Calls.quiet_of_same (leap_any _ _)))
      clear x1 x2 x3 x4
      go_wp2
      go_ret
      exact ⟨by first | rfl | simp, below_drewN B5.out _⟩

set_option maxRecDepth 100000 in
theorem reads (os : Os) {H : Type} (enc : TypeId × Value → H) : DataW.whole enc Tryd.prog ((World.laidAll Tryd.prog os Rows.civilAgesRow.laid).forCall (fun _ _ => 0) ⟨#[], #[.int .i64 0], []⟩).memory Tryd.f6.params.toList Rows.civilAgesSpec.vars false (#[.int .i64 0] : Array Value).toList 8 = some ([.lit (.int .i64 0)], [], []) := by kernel_rfl
set_option maxRecDepth 100000 in
theorem lifted (os : Os) (started : os.Started) (H : Type) (enc : TypeId × Value → H) (F : Stop.Interp) :
    ReturnsInHanded {} Tryd.checked os 6 .any ((OpenSpec.ofChange Rows.civilAgesSpec).preRow enc Tryd.prog Tryd.f6 Rows.civilAgesRow.domain false Rows.civilAgesRow.laid) (((OpenSpec.ofChange Rows.civilAgesSpec).at F).post enc Tryd.prog Tryd.f6 false true false false) := by
  refine returnsInHanded_of_row (C := Tryd.checked) (s := OpenSpec.ofChange Rows.civilAgesSpec) own started (by kernel_rfl) Tryd.func6
    ⟨World.laidAll Tryd.prog os Rows.civilAgesRow.laid, fun _ _ => 0, ⟨#[], #[.int .i64 0], []⟩, World.laidAll_os _ _ _, World.shaped_of_ZipB (by kernel_rfl) (by kernel_rfl), rfl, (Input.okWide_of_okWideB (by kernel_rfl)).2,
      OpenSpec.preRow_of_cond 8 (reads os enc) (by kernel_rfl) (fun k hk => by cases hk) (by kernel_rfl) (by rw [MakeChecks.laidMetH_plain _ _ _ (by kernel_rfl)]; exact laidMet_laidAll _ (by kernel_rfl) (by kernel_rfl)), by simp [Assume.holds]⟩ ?_
  intro W base args ds gs before hval0 hW _ _ _ hL hsh _
  have hval : ∀ (j : Nat) t v, Tryd.f6.params[j]? = some t → args[j]? = some v → Value.okWide Tryd.prog W .any base t v := hval0
  have hvars : Vars W := Vars.of hL
  have hW' := hW
  obtain ⟨p, q, hA0, hV, rfl, hfz, hnd⟩ := hW
  have hA : DataW.TrodAll enc Tryd.prog W 0 (fun _ => true) true Tryd.f6.params.toList args.toList ds p := hA0
  rw [Tryd.params6] at hA hval
  obtain ⟨v0, vs0, d0, ds0, p0, q0, hargs, rfl, rfl, h0, r0⟩ := trodAll_cons hA
  obtain ⟨rfl, rfl, rfl⟩ := trodAll_nil r0
  obtain rfl : args = #[v0] := by cases args; simp_all
  obtain ⟨a0, rfl, _, _, w0⟩ := open_int Tryd.underlying2 (hval 0 2 v0 rfl rfl) h0
  clear hA0 hval0
  exact law_close hW' laidOut (by kernel_rfl) rfl Tryd.underlying4 rfl ⟨rfl, rfl, rfl⟩ (walk W hvars a0 w0)

theorem over : Rows.civilAgesRow.holds Tryd.pinned (OpenSpec.ofChange Rows.civilAgesSpec) :=
  OpenClaim.holds_of_cond 6 Tryd.f6 rfl rfl rfl rfl rfl rfl rfl ⟨rfl, rfl, rfl, rfl, rfl⟩ rfl rfl rfl rfl rfl (by kernel_rfl) Tryd.func6 (by kernel_rfl)
    (of_decide_eq_true (by kernel_rfl)) (by unfold Func.isWrapper; first | (rw [if_pos (by decide +kernel)]; kernel_rfl) | (rw [if_neg (by decide +kernel)]; exact ⟨rfl, rfl⟩))
    (fun os started H enc _ F => by rw [OpenClaim.pre_eq_preRow]; exact lifted os started H enc F)

theorem plain (f : FuncId) (fn : Func) (hf : Tryd.pinned.checked.prog.funcNamed "pantler/pantlerlaw03.CivilAges" = some f) (hfn : Tryd.pinned.checked.prog.funcs[f]? = some fn) :
    Rows.civilAgesCard.stood.looks = Tryd.pinned.checked.prog.looks [] ∧ ∀ (j : Nat) t, fn.params[j]? = some t → Tryd.pinned.checked.prog.wantsStandIn t = false := by
  obtain rfl : f = 6 := Option.some.inj ((show Tryd.prog.funcNamed "pantler/pantlerlaw03.CivilAges" = some 6 by kernel_rfl).symm.trans hf) |>.symm
  obtain rfl : fn = Tryd.f6 := (Option.some.inj (Tryd.func6.symm.trans hfn)).symm
  refine ⟨by kernel_rfl, fun j t ht => ?_⟩
  rw [Tryd.params6] at ht
  have hm : t ∈ [2] := by simpa using Array.mem_of_getElem? ht
  have hall : ([2].all fun u => !Tryd.prog.wantsStandIn u) = true := by kernel_rfl
  exact (show Tryd.prog.wantsStandIn t = false by simpa using List.all_eq_true.1 hall t hm)

theorem proved : Rows.CivilAgesCardSaid :=
  Claim7.holds_tied_plain_at .later [] _ _ _ _ over (fun _ h => by cases h) (by kernel_rfl) (fun _ h => by cases h) civilAges_row_tie rfl ⟨rfl, rfl⟩ (by kernel_rfl) rfl plain (by kernel_rfl)

end Go.Proofs.YtbmnfefpkahejaaDoor.civilAges
