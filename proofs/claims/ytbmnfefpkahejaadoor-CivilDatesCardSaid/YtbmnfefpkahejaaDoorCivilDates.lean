/- Whatever second and year come in, 'pantlerlaw03.CivilDates' returns true and leaves them as they were. No condition. -/
import Derived.Test.YtbmnfefpkahejaaDoorAlive
import Derived.Test.YtbmnfefpkahejaaDoorRefPr
namespace Go.Proofs.YtbmnfefpkahejaaDoor.civilDates
open Go.ChangeShapes Go.WideShapes Go.ChangeAt Go.RowKit Go.Deep
set_option linter.unusedVariables false


theorem reads4_of {w0 w : World} {d : Nat} {Y M D H I S W : Int} (h : Now w0 d 24 #[.int .i64 Y, .int .i64 M, .int .i64 D, .int .i64 H, .int .i64 I, .int .i64 S, .int .i64 W] w) :
    (w.cell? ⟨d, 0, none⟩ = some (.int .i64 Y) ∧ w.cell? ⟨d, 1, none⟩ = some (.int .i64 M) ∧ w.cell? ⟨d, 2, none⟩ = some (.int .i64 D) ∧ w.cell? ⟨d, 3, none⟩ = some (.int .i64 H) ∧ w.cell? ⟨d, 4, none⟩ = some (.int .i64 I) ∧ w.cell? ⟨d, 5, none⟩ = some (.int .i64 S) ∧ w.cell? ⟨d, 6, none⟩ = some (.int .i64 W)) ∧ Hid (Now w0 d 24 #[.int .i64 Y, .int .i64 M, .int .i64 D, .int .i64 H, .int .i64 I, .int .i64 S, .int .i64 W] w) := by
  refine ⟨⟨?_, ?_, ?_, ?_, ?_, ?_, ?_⟩, Lib.hid h⟩
  · rw [h.blk.cell]; rfl
  · rw [h.blk.cell]; rfl
  · rw [h.blk.cell]; rfl
  · rw [h.blk.cell]; rfl
  · rw [h.blk.cell]; rfl
  · rw [h.blk.cell]; rfl
  · rw [h.blk.cell]; rfl

set_option maxRecDepth 100000 in
set_option maxHeartbeats 4000000 in
theorem walk (w : World) (hv : Vars w) (n : Int) (wn : (Lit.int .i64 n).wf = true) (y : Int) (wy : (Lit.int .i64 y).wf = true) :
    Calls Tryd.prog 3 #[.int .i64 n, .int .i64 y] w fun e w' => e = .returned (.bool true) ∧ Below w.heap.size w w' := by
  have wb := wf_i64 wn
  clear wn wy
  by_cases hn : n < 0 ∨ 253402300799 < n
  · have LP := Lib.hid (fun w => leap_any y w)
    have LR := Lib.hid (fun w => refLeap_any y w)
    generalize leapB y = lb at *
    go_enter Tryd.func3, Tryd.ntmps3
    go_wp2_with fail
    refine (alive_any _ hv).mono ?_; rintro e w1 ⟨rfl, b1⟩
    have B1 := Lib.hid b1
    clear b1
    go_wp2_with fail
    refine (of_no n hn _).mono ?_; rintro e w2 ⟨rfl, b2⟩
    have s2 := Nat.le_trans B1.out.size b2.size
    have B2 := Lib.hid ((B1.out.trans (b2.mono B1.out.size)).alloc s2 (.cells #[.int .i64 0, .int .i64 0, .int .i64 0, .int .i64 0, .int .i64 0, .int .i64 0, .int .i64 0] 24))
    have K2 := Lib.hid (Blk.new w2 24 #[.int .i64 0, .int .i64 0, .int .i64 0, .int .i64 0, .int .i64 0, .int .i64 0, .int .i64 0])
    clear b2
    go_wp2_with fail
    refine (print_no n hn _).mono ?_; rintro e w3 ⟨rfl, b3⟩
    have B3 := Lib.hid (B2.out.trans (b3.mono B2.out.size))
    have K3 := Lib.hid (K2.out.older (older_below b3))
    have k0 := K3.out.cell 0
    have k1 := K3.out.cell 1
    have k2 := K3.out.cell 2
    have k3 := K3.out.cell 3
    have k4 := K3.out.cell 4
    have k5 := K3.out.cell 5
    have k6 := K3.out.cell 6
    simp only [List.getElem?_toArray, List.getElem?_cons_zero, List.getElem?_cons_succ] at k0 k1 k2 k3 k4 k5 k6
    clear b3 B2 K2
    go_wp2_with fail
    refine (LP.out _).mono ?_; rintro e wq ⟨rfl, rfl⟩
    go_wp2_with fail
    refine (LR.out _).mono ?_; rintro e wq ⟨rfl, rfl⟩
    go_wp2_with fail
    refine (may_no n hn _).mono ?_; rintro e wq ⟨rfl, rfl⟩
    go_wp2
    go_ret
    exact ⟨by first | rfl | simp, B3.out⟩
  · obtain ⟨Y, M, D, H, I, S, W, hd⟩ := dat_ex n (by omega) (by omega)
    have n0 := hd.n0
    have n1 := hd.n1
    have HD := Lib.hid hd
    have LP := Lib.hid (fun w => leap_any y w)
    have LR := Lib.hid (fun w => refLeap_any y w)
    have PR := Lib.hid (fun w hv => print_ok n Y M D H I S W hd w hv)
    have RP := Lib.hid (fun w hv => refPrint_any n Y M D H I S W hd w hv)
    have RO := Lib.hid (fun w => refOf_any n Y M D H I S W hd w)
    clear hd hn
    generalize text Y M D H I S W = t at *
    generalize leapB y = lb at *
    go_enter Tryd.func3, Tryd.ntmps3
    go_wp2_with fail
    refine (alive_any _ hv).mono ?_; rintro e w1 ⟨rfl, b1⟩
    have B1 := Lib.hid b1
    have V1 := Lib.hid (hv.below b1)
    clear b1
    go_wp2_with fail
    refine (of_ok n Y M D H I S W HD.out _ V1.out).mono ?_; rintro e w2 ⟨rfl, b2⟩
    have NOW := Lib.hid (show Now w w2.heap.size 24 #[.int .i64 Y, .int .i64 M, .int .i64 D, .int .i64 H, .int .i64 I, .int .i64 S, .int .i64 W] (w2.alloc (.cells #[.int .i64 Y, .int .i64 M, .int .i64 D, .int .i64 H, .int .i64 I, .int .i64 S, .int .i64 W] 24)) from
      ⟨(V1.out.below b2).alloc _, (B1.out.trans (b2.mono B1.out.size)).alloc (Nat.le_trans B1.out.size b2.size) _, Blk.new w2 _ _⟩)
    clear b2
    go_wp2_with fail
    refine (PR.out _ NOW.out.vars).mono ?_; rintro e w3 ⟨rfl, b3⟩
    have NOW3 := Lib.hid (Now.step b3 NOW)
    clear b3 NOW
    go_wp2_with fail
    refine (LP.out _).mono ?_; rintro e wq ⟨rfl, rfl⟩
    go_wp2_with fail
    refine (LR.out _).mono ?_; rintro e wq ⟨rfl, rfl⟩
    go_wp2_with fail
    refine (may_yes n n0 n1 _).mono ?_; rintro e wq ⟨rfl, rfl⟩
    go_upto_region 9 with fail
    generalize w2.heap.size = d at *
    go_region_held3 (fun w' => (w'.cell? ⟨d, 0, none⟩ = some (.int .i64 Y) ∧ w'.cell? ⟨d, 1, none⟩ = some (.int .i64 M) ∧ w'.cell? ⟨d, 2, none⟩ = some (.int .i64 D) ∧ w'.cell? ⟨d, 3, none⟩ = some (.int .i64 H) ∧ w'.cell? ⟨d, 4, none⟩ = some (.int .i64 I) ∧ w'.cell? ⟨d, 5, none⟩ = some (.int .i64 S) ∧ w'.cell? ⟨d, 6, none⟩ = some (.int .i64 W)) ∧ Hid (Now w d 24 #[.int .i64 Y, .int .i64 M, .int .i64 D, .int .i64 H, .int .i64 I, .int .i64 S, .int .i64 W] w'))
      (first
        | exact reads4_of (Now.drew NOW3)
        | (go_split_ands; exact reads4_of (Now.step (by assumption) (by assumption))))
      (first
        | ((with_reducible refine (RO.out _).mono ?_); rintro e w5 ⟨rfl, b5⟩)
        | ((with_reducible refine (RP.out _ ?_).mono ?_); (go_split_ands; exact Now.vars_of (by assumption)); rintro e w5 ⟨rfl, b5⟩))
    have NOW5 : Hid (Now w d 24 #[.int .i64 Y, .int .i64 M, .int .i64 D, .int .i64 H, .int .i64 I, .int .i64 S, .int .i64 W] w5) := by go_split_ands; assumption
    go_wp2
    go_ret
    exact ⟨by first | rfl | simp, NOW5.out.bel⟩

set_option maxRecDepth 100000 in
theorem reads (os : Os) {H : Type} (enc : TypeId × Value → H) : DataW.whole enc Tryd.prog ((World.laidAll Tryd.prog os Rows.civilDatesRow.laid).forCall (fun _ _ => 0) ⟨#[], #[.int .i64 0, .int .i64 0], []⟩).memory Tryd.f3.params.toList Rows.civilDatesSpec.vars false (#[.int .i64 0, .int .i64 0] : Array Value).toList 8 = some ([.lit (.int .i64 0), .lit (.int .i64 0)], [], []) := by kernel_rfl
set_option maxRecDepth 100000 in
theorem lifted (os : Os) (started : os.Started) (H : Type) (enc : TypeId × Value → H) (F : Stop.Interp) :
    ReturnsInHanded {} Tryd.checked os 3 .any ((OpenSpec.ofChange Rows.civilDatesSpec).preRow enc Tryd.prog Tryd.f3 Rows.civilDatesRow.domain false Rows.civilDatesRow.laid) (((OpenSpec.ofChange Rows.civilDatesSpec).at F).post enc Tryd.prog Tryd.f3 false true false false) := by
  refine returnsInHanded_of_row (C := Tryd.checked) (s := OpenSpec.ofChange Rows.civilDatesSpec) own started (by kernel_rfl) Tryd.func3
    ⟨World.laidAll Tryd.prog os Rows.civilDatesRow.laid, fun _ _ => 0, ⟨#[], #[.int .i64 0, .int .i64 0], []⟩, World.laidAll_os _ _ _, World.shaped_of_ZipB (by kernel_rfl) (by kernel_rfl), rfl, (Input.okWide_of_okWideB (by kernel_rfl)).2,
      OpenSpec.preRow_of_cond 8 (reads os enc) (by kernel_rfl) (fun k hk => by cases hk) (by kernel_rfl) (by rw [MakeChecks.laidMetH_plain _ _ _ (by kernel_rfl)]; exact laidMet_laidAll _ (by kernel_rfl) (by kernel_rfl)), by simp [Assume.holds]⟩ ?_
  intro W base args ds gs before hval0 hW _ _ _ hL hsh _
  have hval : ∀ (j : Nat) t v, Tryd.f3.params[j]? = some t → args[j]? = some v → Value.okWide Tryd.prog W .any base t v := hval0
  have hvars : Vars W := Vars.of hL
  have hW' := hW
  obtain ⟨p, q, hA0, hV, rfl, hfz, hnd⟩ := hW
  have hA : DataW.TrodAll enc Tryd.prog W 0 (fun _ => true) true Tryd.f3.params.toList args.toList ds p := hA0
  rw [Tryd.params3] at hA hval
  obtain ⟨v0, vs0, d0, ds0, p0, q0, hargs, rfl, rfl, h0, r0⟩ := trodAll_cons hA
  obtain ⟨v1, vs1, d1, ds1, p1, q1, rfl, rfl, rfl, h1, r1⟩ := trodAll_cons r0
  obtain ⟨rfl, rfl, rfl⟩ := trodAll_nil r1
  obtain rfl : args = #[v0, v1] := by cases args; simp_all
  obtain ⟨a0, rfl, _, _, w0⟩ := open_int Tryd.underlying2 (hval 0 2 v0 rfl rfl) h0
  obtain ⟨a1, rfl, _, _, w1⟩ := open_int Tryd.underlying3 (hval 1 3 v1 rfl rfl) h1
  clear hA0 hval0
  exact law_close hW' laidOut (by kernel_rfl) rfl Tryd.underlying4 rfl ⟨rfl, rfl, rfl⟩ (walk W hvars a0 w0 a1 w1)

theorem over : Rows.civilDatesRow.holds Tryd.pinned (OpenSpec.ofChange Rows.civilDatesSpec) :=
  OpenClaim.holds_of_cond 3 Tryd.f3 rfl rfl rfl rfl rfl rfl rfl ⟨rfl, rfl, rfl, rfl, rfl⟩ rfl rfl rfl rfl rfl (by kernel_rfl) Tryd.func3 (by kernel_rfl)
    (of_decide_eq_true (by kernel_rfl)) (by unfold Func.isWrapper; first | (rw [if_pos (by decide +kernel)]; kernel_rfl) | (rw [if_neg (by decide +kernel)]; exact ⟨rfl, rfl⟩))
    (fun os started H enc _ F => by rw [OpenClaim.pre_eq_preRow]; exact lifted os started H enc F)

theorem plain (f : FuncId) (fn : Func) (hf : Tryd.pinned.checked.prog.funcNamed "pantler/pantlerlaw03.CivilDates" = some f) (hfn : Tryd.pinned.checked.prog.funcs[f]? = some fn) :
    Rows.civilDatesCard.stood.looks = Tryd.pinned.checked.prog.looks [] ∧ ∀ (j : Nat) t, fn.params[j]? = some t → Tryd.pinned.checked.prog.wantsStandIn t = false := by
  obtain rfl : f = 3 := Option.some.inj ((show Tryd.prog.funcNamed "pantler/pantlerlaw03.CivilDates" = some 3 by kernel_rfl).symm.trans hf) |>.symm
  obtain rfl : fn = Tryd.f3 := (Option.some.inj (Tryd.func3.symm.trans hfn)).symm
  refine ⟨by kernel_rfl, fun j t ht => ?_⟩
  rw [Tryd.params3] at ht
  have hm : t ∈ [2, 3] := by simpa using Array.mem_of_getElem? ht
  have hall : ([2, 3].all fun u => !Tryd.prog.wantsStandIn u) = true := by kernel_rfl
  exact (show Tryd.prog.wantsStandIn t = false by simpa using List.all_eq_true.1 hall t hm)

theorem proved : Rows.CivilDatesCardSaid :=
  Claim7.holds_tied_plain_at .later [] _ _ _ _ over (fun _ h => by cases h) (by kernel_rfl) (fun _ h => by cases h) civilDates_row_tie rfl ⟨rfl, rfl⟩ (by kernel_rfl) rfl plain (by kernel_rfl)

end Go.Proofs.YtbmnfefpkahejaaDoor.civilDates
