/- Whatever bytes, number and width come in, 'pantlerlaw02.OctetPuts' returns true and leaves them as they were. No condition. -/
import Derived.Test.YtflbckeebmlofaaDoorRef02
namespace Go.Proofs.YtflbckeebmlofaaDoor.octetPuts
open Go.ChangeShapes Go.WideShapes Go.ChangeAt Go.RowKit
set_option linter.unusedVariables false


theorem walk (w : World) (hv : Vars w) (A : Option Addr) (n c : Nat) (l : List UInt8) (hb : Src w A n c l) (a1 : Int) (w1 : (Lit.int .u64 a1).wf = true) (a2 : Int) (w2 : (Lit.int .i64 a2).wf = true) :
    Calls Tryd.prog 3 #[.slice A n c, .int .u64 a1, .int .i64 a2] w fun e w' => e = .returned (.bool true) ∧ Below w.heap.size w w' := by
  obtain ⟨a, rfl, ha⟩ := wf_u64 w1
  clear w1
  by_cases hn : n ≤ 2000
  · have hn' : ¬ (n : Int) > 2000 := by omega
    by_cases hz : a2 < 1 ∨ 8 < a2
    · go_enter Tryd.func3, Tryd.ntmps3
      go_wp2_with fail
      refine (alive_any _ hv).mono ?_; rintro e w1 ⟨rfl, b1⟩
      go_wp2_with fail
      refine (put_wide A n c a a2 _ hz).mono ?_; rintro e w' ⟨rfl, rfl⟩
      go_wp2_with fail
      refine (refPut_wide a a2 _ hz).mono ?_; rintro e w' ⟨rfl, rfl⟩
      go_wp2
      go_ret
      exact ⟨rfl, b1⟩
    · obtain ⟨k, rfl⟩ : ∃ k : Nat, a2 = k := ⟨a2.toNat, by omega⟩
      have k1 : 1 ≤ k := by omega
      have k8 : k ≤ 8 := by omega
      clear hz w2
      by_cases hf : a < 256 ^ k
      · have HF := Lib.hid hf
        have hl := hb.len
        have hbe := be_length a k
        go_enter Tryd.func3, Tryd.ntmps3
        go_wp2_with fail
        refine (alive_any _ hv).mono ?_; rintro e w1 ⟨rfl, b1⟩
        have hb1 := Lib.hid (hb.below b1)
        have B1 := Lib.hid b1
        clear b1 hf
        go_wp2_with fail
        refine (put_ok A n c l a k _ hb1.out (by omega) ha k1 k8 HF.out).mono ?_; rintro e w2 ⟨g, c2, rfl, O, b2⟩
        have hb2 := Lib.hid (hb1.out.below b2)
        have B2 := Lib.hid (B1.out.trans (b2.mono B1.out.size))
        have O2 := Lib.hid O.src
        clear O b2 hb1
        go_wp2_with fail
        refine (refPut_any a k _ ha k1 k8).mono ?_; rintro e w3 ⟨rfl, b3⟩
        rw [if_pos HF.out]
        have t1 := told_str (hb2.out.below b3)
        have t2 := told_str (O2.out.below b3)
        have B3 := Lib.hid (B2.out.trans (b3.mono B2.out.size))
        clear b3
        have hlen : ¬ 9223372036854775807 < l.length + (be a k).length := by omega
        have hcat : (⟨l.toArray⟩ : ByteArray) ++ ⟨(be a k).toArray⟩ = ⟨(l ++ be a k).toArray⟩ := by rw [ByteArray.mk_append_mk]
        go_wp2
        go_ret
        refine ⟨?_, B3.out⟩
        simp
      · have HF := Lib.hid hf
        go_enter Tryd.func3, Tryd.ntmps3
        go_wp2_with fail
        refine (alive_any _ hv).mono ?_; rintro e w1 ⟨rfl, b1⟩
        have B1 := Lib.hid b1
        clear b1 hf
        go_wp2_with fail
        refine (put_big A n c a k _ ha k1 k8 HF.out).mono ?_; rintro e w' ⟨rfl, rfl⟩
        go_wp2_with fail
        refine (refPut_any a k _ ha k1 k8).mono ?_; rintro e w3 ⟨rfl, b3⟩
        rw [if_neg HF.out]
        have B3 := Lib.hid (B1.out.trans (b3.mono B1.out.size))
        clear b3
        go_wp2
        go_ret
        exact ⟨rfl, B3.out⟩
  · have hn' : (n : Int) > 2000 := by omega
    go_enter Tryd.func3, Tryd.ntmps3
    go_wp2_with fail
    refine (alive_any _ hv).mono ?_; rintro e w1 ⟨rfl, b1⟩
    go_wp2
    go_ret
    exact ⟨rfl, b1⟩

set_option maxRecDepth 100000 in
theorem reads (os : Os) {H : Type} (enc : TypeId × Value → H) : DataW.whole enc Tryd.prog ((World.laidAll Tryd.prog os Rows.octetPutsRow.laid).forCall (fun _ _ => 0) ⟨#[], #[.slice none 0 0, .int .u64 0, .int .i64 0], []⟩).memory Tryd.f3.params.toList Rows.octetPutsSpec.vars false (#[.slice none 0 0, .int .u64 0, .int .i64 0] : Array Value).toList 8 = some ([.nil, .lit (.int .u64 0), .lit (.int .i64 0)], [], []) := by kernel_rfl
set_option maxRecDepth 100000 in
theorem lifted (os : Os) (started : os.Started) (H : Type) (enc : TypeId × Value → H) (F : Stop.Interp) :
    ReturnsInHanded {} Tryd.checked os 3 .any ((OpenSpec.ofChange Rows.octetPutsSpec).preRow enc Tryd.prog Tryd.f3 Rows.octetPutsRow.domain false Rows.octetPutsRow.laid) (((OpenSpec.ofChange Rows.octetPutsSpec).at F).post enc Tryd.prog Tryd.f3 false true false false) := by
  refine returnsInHanded_of_row (C := Tryd.checked) (s := OpenSpec.ofChange Rows.octetPutsSpec) own started (by kernel_rfl) Tryd.func3
    ⟨World.laidAll Tryd.prog os Rows.octetPutsRow.laid, fun _ _ => 0, ⟨#[], #[.slice none 0 0, .int .u64 0, .int .i64 0], []⟩, World.laidAll_os _ _ _, World.shaped_of_ZipB (by kernel_rfl) (by kernel_rfl), rfl, (Input.okWide_of_okWideB (by kernel_rfl)).2,
      OpenSpec.preRow_of_cond 8 (reads os enc) (by kernel_rfl) (fun k hk => by cases hk) (by kernel_rfl) (by rw [MakeChecks.laidMetH_plain _ _ _ (by kernel_rfl)]; exact laidMet_laidAll _ (by kernel_rfl) (by kernel_rfl)), by simp [Assume.holds]⟩ ?_
  intro W base args ds gs before hval0 hW _ _ _ hL hsh _
  have hval : ∀ (j : Nat) t v, Tryd.f3.params[j]? = some t → args[j]? = some v → Value.okWide Tryd.prog W .any base t v := hval0
  have hvars : Vars W := Vars.of hL hsh
  have hW' := hW
  obtain ⟨p, q, hA0, hV, rfl, hfz, hnd⟩ := hW
  have hA : DataW.TrodAll enc Tryd.prog W 0 (fun _ => true) true Tryd.f3.params.toList args.toList ds p := hA0
  rw [Tryd.params3] at hA hval
  obtain ⟨v0, vs0, d0, ds0, p0, q0, hargs, rfl, rfl, h0, r0⟩ := trodAll_cons hA
  obtain ⟨v1, vs1, d1, ds1, p1, q1, rfl, rfl, rfl, h1, r1⟩ := trodAll_cons r0
  obtain ⟨v2, vs2, d2, ds2, p2, q2, rfl, rfl, rfl, h2, r2⟩ := trodAll_cons r1
  obtain ⟨rfl, rfl, rfl⟩ := trodAll_nil r2
  obtain rfl : args = #[v0, v1, v2] := by cases args; simp_all
  obtain ⟨A0, n0, c0, l0, rfl, b0⟩ := open_src Tryd.underlying22 Tryd.underlying5 (by kernel_rfl) (hval 0 22 v0 rfl rfl) h0
  obtain ⟨a1, rfl, _, _, w1⟩ := open_int Tryd.underlying23 (hval 1 23 v1 rfl rfl) h1
  obtain ⟨a2, rfl, _, _, w2⟩ := open_int Tryd.underlying3 (hval 2 3 v2 rfl rfl) h2
  clear hA0 hval0
  exact law_close hW' laidOut (by kernel_rfl) rfl Tryd.underlying4 rfl ⟨rfl, rfl, rfl⟩ (walk W hvars A0 n0 c0 l0 b0 a1 w1 a2 w2)

theorem over : Rows.octetPutsRow.holds Tryd.pinned (OpenSpec.ofChange Rows.octetPutsSpec) :=
  OpenClaim.holds_of_cond 3 Tryd.f3 rfl rfl rfl rfl rfl rfl rfl ⟨rfl, rfl, rfl, rfl, rfl⟩ rfl rfl rfl rfl rfl (by kernel_rfl) Tryd.func3 (by kernel_rfl)
    (of_decide_eq_true (by kernel_rfl)) (by unfold Func.isWrapper; first | (rw [if_pos (by decide +kernel)]; kernel_rfl) | (rw [if_neg (by decide +kernel)]; exact ⟨rfl, rfl⟩))
    (fun os started H enc _ F => by rw [OpenClaim.pre_eq_preRow]; exact lifted os started H enc F)

theorem plain (f : FuncId) (fn : Func) (hf : Tryd.pinned.checked.prog.funcNamed "pantler/pantlerlaw02.OctetPuts" = some f) (hfn : Tryd.pinned.checked.prog.funcs[f]? = some fn) :
    Rows.octetPutsCard.stood.looks = Tryd.pinned.checked.prog.looks [] ∧ ∀ (j : Nat) t, fn.params[j]? = some t → Tryd.pinned.checked.prog.wantsStandIn t = false := by
  obtain rfl : f = 3 := Option.some.inj ((show Tryd.prog.funcNamed "pantler/pantlerlaw02.OctetPuts" = some 3 by kernel_rfl).symm.trans hf) |>.symm
  obtain rfl : fn = Tryd.f3 := (Option.some.inj (Tryd.func3.symm.trans hfn)).symm
  refine ⟨by kernel_rfl, fun j t ht => ?_⟩
  rw [Tryd.params3] at ht
  have hm : t ∈ [22, 23, 3] := by simpa using Array.mem_of_getElem? ht
  have hall : ([22, 23, 3].all fun u => !Tryd.prog.wantsStandIn u) = true := by kernel_rfl
  exact (show Tryd.prog.wantsStandIn t = false by simpa using List.all_eq_true.1 hall t hm)

theorem proved : Rows.OctetPutsCardSaid :=
  Claim7.holds_tied_plain_at .later [] _ _ _ _ over (fun _ h => by cases h) (by kernel_rfl) (fun _ h => by cases h) octetPuts_row_tie rfl ⟨rfl, rfl⟩ (by kernel_rfl) rfl plain (by kernel_rfl)

end Go.Proofs.YtflbckeebmlofaaDoor.octetPuts
