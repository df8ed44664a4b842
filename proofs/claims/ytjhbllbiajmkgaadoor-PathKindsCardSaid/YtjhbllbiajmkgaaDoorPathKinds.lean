/- Whatever two texts come in, 'pantlerlaw10.PathKinds' returns true and leaves them as they were. No condition. -/
import Derived.Test.YtjhbllbiajmkgaaDoorVarsP
import Derived.SizedLaws
namespace Go.Proofs.YtjhbllbiajmkgaaDoor.pathKinds
open Go.ChangeShapes Go.WideShapes Go.ChangeAt Go.RowKit Pt
set_option linter.unusedVariables false


set_option maxRecDepth 100000 in
set_option maxHeartbeats 4000000 in
theorem walk (w : World) (hv : Vars w) (a0 : ByteArray) (w0 : a0.size ≤ 140737488351232) (a1 : ByteArray) (w1 : a1.size ≤ 140737488351232) :
    Calls Tryd.prog 7 #[.string a0, .string a1] w fun e w' => e = .returned (.bool true) ∧ Below w.heap.size w w' := by
  obtain ⟨d, rfl⟩ : ∃ d : List UInt8, a0 = ⟨d.toArray⟩ := ⟨a0.data.toList, by cases a0; simp⟩
  obtain ⟨s, rfl⟩ : ∃ d : List UInt8, a1 = ⟨d.toArray⟩ := ⟨a1.data.toList, by cases a1; simp⟩
  have hsd : (⟨d.toArray⟩ : ByteArray).size = d.length := rfl
  have hss : (⟨s.toArray⟩ : ByteArray).size = s.length := rfl
  rw [hsd] at w0
  rw [hss] at w1
  have AL := Lib.hid (alive_any w hv)
  have x0 : IntKind.i64.wrap ((s.length : Int) + (d.length : Int)) = (s.length : Int) + (d.length : Int) := IntWalk.i64_in _ (by omega)
  clear hv
  by_cases hlong : 300 < s.length + d.length
  · have g : (s.length : Int) + (d.length : Int) > 300 := by omega
    go_enter Tryd.func7, Tryd.ntmps7
    go_wp2_with fail
    refine AL.out.mono ?_; rintro e wa ⟨rfl, b1⟩
    go_wp2
    go_ret
    exact ⟨rfl, b1⟩
  have g : ¬ (s.length : Int) + (d.length : Int) > 300 := by omega
  have K1 := Lib.hid (kind_any (d ++ 47 :: s) (by simp; omega))
  have K2 := Lib.hid (kind_any s (by omega))
  have K3 := Lib.hid (kind_any (d ++ 47 :: (s ++ [46, 112, 110, 103])) (by simp; omega))
  have e1 : (⟨d.toArray⟩ : ByteArray) ++ ⟨#[47]⟩ ++ ⟨s.toArray⟩ = ⟨(d ++ 47 :: s).toArray⟩ := by
    rw [show (⟨#[47]⟩ : ByteArray) = ⟨[47].toArray⟩ from rfl, str_add, str_add]; simp
  have e2 : (⟨d.toArray⟩ : ByteArray) ++ ⟨#[47]⟩ ++ ⟨s.toArray⟩ ++ ⟨#[46, 112, 110, 103]⟩ = ⟨(d ++ 47 :: (s ++ [46, 112, 110, 103])).toArray⟩ := by
    rw [e1, show (⟨#[46, 112, 110, 103]⟩ : ByteArray) = ⟨[46, 112, 110, 103].toArray⟩ from rfl, str_add]; simp
  have E1 := Lib.hid e1
  have E2 := Lib.hid e2
  clear e1 e2
  have y1 : ¬ 9223372036854775807 < d.length + 1 := by omega
  have y2 : ¬ 9223372036854775807 < d.length + 1 + s.length := by omega
  have y3 : ¬ 9223372036854775807 < d.length + 1 + s.length + 4 := by omega
  go_enter Tryd.func7, Tryd.ntmps7
  go_wp2_with fail
  refine AL.out.mono ?_; rintro e wa ⟨rfl, b1⟩
  have B1 := Lib.hid b1
  clear b1 AL
  go_wp2
  go_loop [5] (fun i => ∃ j : Nat, j ≤ s.length ∧ i = .int .i64 (j : Int) ∧ Hid (∀ k (h : k < j) (h' : k < s.length), s[k] ≠ 47)) (fun i => s.length - (intOf i).toNat)
  case atStart => exact ⟨0, Nat.zero_le _, rfl, Lib.hid (fun k h => absurd h (by omega))⟩
  case round =>
    obtain ⟨j, hj, rfl, HP⟩ := hrel
    by_cases hlt : j < s.length
    · have hlt' : (j : Int) < (s.length : Int) := by omega
      have j0 : (0 : Int) ≤ (j : Int) := by omega
      have xj := IntWalk.i64_in ((j : Int) + 1) (by omega)
      by_cases hq : s[j] = 47
      · have q : ((((⟨s.toArray⟩ : ByteArray)[j]'(by rw [hss]; exact hlt)).toNat : Int) == 47) = true := by
          show ((s[j].toNat : Int) == 47) = true
          rw [hq]; rfl
        clear hq
        go_wp2
        go_ret
        exact ⟨rfl, B1.out⟩
      · have q : ((((⟨s.toArray⟩ : ByteArray)[j]'(by rw [hss]; exact hlt)).toNat : Int) == 47) = false := by
          show ((s[j].toNat : Int) == 47) = false
          rw [beq_eq_false_iff_ne]
          intro h
          exact hq (UInt8.toNat_inj.1 (by show s[j].toNat = 47; omega))
        have HP2 := Lib.hid (show ∀ k (h : k < j + 1) (h' : k < s.length), s[k] ≠ 47 from fun k h h' => by
          by_cases e : k = j
          · subst e; exact hq
          · exact HP.out k (by omega) h')
        clear hq HP
        go_wp2
        go_round
        case rel => exact ⟨j + 1, by omega, by simp, HP2⟩
        case measure => simp [intOf]; omega
    · have hge : ¬ (j : Int) < (s.length : Int) := by omega
      have hns : (47 : UInt8) ∉ s := by
        intro h
        obtain ⟨k, hk, e⟩ := List.mem_iff_getElem.1 h
        exact HP.out k (by omega) hk e
      have Q1 := kind_end d s hns
      have Q2 := kind_png d s
      rw [Q1] at K1
      rw [Q2] at K3
      clear HP hns Q1 Q2
      go_wp2_with fail
      rw [show (⟨d.toArray⟩ : ByteArray) ++ ⟨#[47]⟩ ++ ⟨s.toArray⟩ = ⟨(d ++ 47 :: s).toArray⟩ from E1.out]
      refine (K1.out _).mono ?_; rintro e wb ⟨rfl, hw⟩; subst hw
      go_wp2_with fail
      refine (K2.out _).mono ?_; rintro e wc ⟨rfl, hw⟩; subst hw
      go_wp2_with fail
      rw [show (⟨d.toArray⟩ : ByteArray) ++ ⟨#[47]⟩ ++ ⟨s.toArray⟩ ++ ⟨#[46, 112, 110, 103]⟩ = ⟨(d ++ 47 :: (s ++ [46, 112, 110, 103])).toArray⟩ from E2.out]
      refine (K3.out _).mono ?_; rintro e wd ⟨rfl, hw⟩; subst hw
      go_wp2
      go_ret
      exact ⟨rfl, B1.out⟩

set_option maxRecDepth 100000 in
theorem reads (os : Os) {H : Type} (enc : TypeId × Value → H) : DataW.whole enc Tryd.prog ((World.laidAll Tryd.prog os Rows.pathKindsRow.laid).forCall (fun _ _ => 0) ⟨#[], #[.string ⟨#[]⟩, .string ⟨#[]⟩], []⟩).memory Tryd.f7.params.toList Rows.pathKindsSpec.vars false (#[.string ⟨#[]⟩, .string ⟨#[]⟩] : Array Value).toList 8 = some ([.lit (.string []), .lit (.string [])], [], []) := by kernel_rfl
set_option maxRecDepth 100000 in
theorem lifted (os : Os) (started : os.Started) (H : Type) (enc : TypeId × Value → H) (F : Stop.Interp) :
    ReturnsInHanded {} Tryd.checked os 7 .any ((OpenSpec.ofChange Rows.pathKindsSpec).preRow enc Tryd.prog Tryd.f7 Rows.pathKindsRow.domain false Rows.pathKindsRow.laid) (((OpenSpec.ofChange Rows.pathKindsSpec).at F).post enc Tryd.prog Tryd.f7 false true false false) := by
  refine returnsInHanded_of_row (C := Tryd.checked) (s := OpenSpec.ofChange Rows.pathKindsSpec) own started (by kernel_rfl) Tryd.func7
    ⟨World.laidAll Tryd.prog os Rows.pathKindsRow.laid, fun _ _ => 0, ⟨#[], #[.string ⟨#[]⟩, .string ⟨#[]⟩], []⟩, World.laidAll_os _ _ _, World.shaped_of_ZipB (by kernel_rfl) (by kernel_rfl), rfl, (Input.okWide_of_okWideB (by kernel_rfl)).2,
      OpenSpec.preRow_of_cond 8 (reads os enc) (by kernel_rfl) (fun k hk => by cases hk) (by kernel_rfl) (by rw [MakeChecks.laidMetH_plain _ _ _ (by kernel_rfl)]; exact laidMet_laidAll _ (by kernel_rfl) (by kernel_rfl)), by simp [Assume.holds]⟩ ?_
  intro W base args ds gs before hval0 hW _ _ hsz hL hsh _
  have hval : ∀ (j : Nat) t v, Tryd.f7.params[j]? = some t → args[j]? = some v → Value.okWide Tryd.prog W .any base t v := hval0
  have hvars : Vars W := Vars.of hL
  have hW' := hW
  obtain ⟨p, q, hA0, hV, rfl, hfz, hnd⟩ := hW
  have hA : DataW.TrodAll enc Tryd.prog W 0 (fun _ => true) true Tryd.f7.params.toList args.toList ds p := hA0
  rw [Tryd.params7] at hA hval
  obtain ⟨v0, vs0, d0, ds0, p0, q0, hargs, rfl, rfl, h0, r0⟩ := trodAll_cons hA
  obtain ⟨v1, vs1, d1, ds1, p1, q1, rfl, rfl, rfl, h1, r1⟩ := trodAll_cons r0
  obtain ⟨rfl, rfl, rfl⟩ := trodAll_nil r1
  obtain rfl : args = #[v0, v1] := by cases args; simp_all
  obtain ⟨a0, rfl, rfl, _, _⟩ := Go.ChangeMaps.open_string Tryd.underlying9 (hval 0 9 v0 rfl rfl) h0
  have w0 : a0.size ≤ 140737488351232 := sized_string hsz (j := 0) (bytes := a0.data.toList) rfl rfl
  obtain ⟨a1, rfl, rfl, _, _⟩ := Go.ChangeMaps.open_string Tryd.underlying9 (hval 1 9 v1 rfl rfl) h1
  have w1 : a1.size ≤ 140737488351232 := sized_string hsz (j := 1) (bytes := a1.data.toList) rfl rfl
  clear hA0 hval0
  exact law_close hW' laidOut (by kernel_rfl) rfl Tryd.underlying4 rfl ⟨rfl, rfl, rfl⟩ (walk W hvars a0 w0 a1 w1)

theorem over : Rows.pathKindsRow.holds Tryd.pinned (OpenSpec.ofChange Rows.pathKindsSpec) :=
  OpenClaim.holds_of_cond 7 Tryd.f7 rfl rfl rfl rfl rfl rfl rfl ⟨rfl, rfl, rfl, rfl, rfl⟩ rfl rfl rfl rfl rfl (by kernel_rfl) Tryd.func7 (by kernel_rfl)
    (of_decide_eq_true (by kernel_rfl)) (by unfold Func.isWrapper; first | (rw [if_pos (by decide +kernel)]; kernel_rfl) | (rw [if_neg (by decide +kernel)]; exact ⟨rfl, rfl⟩))
    (fun os started H enc _ F => by rw [OpenClaim.pre_eq_preRow]; exact lifted os started H enc F)

theorem plain (f : FuncId) (fn : Func) (hf : Tryd.pinned.checked.prog.funcNamed "pantler/pantlerlaw10.PathKinds" = some f) (hfn : Tryd.pinned.checked.prog.funcs[f]? = some fn) :
    Rows.pathKindsCard.stood.looks = Tryd.pinned.checked.prog.looks [] ∧ ∀ (j : Nat) t, fn.params[j]? = some t → Tryd.pinned.checked.prog.wantsStandIn t = false := by
  obtain rfl : f = 7 := Option.some.inj ((show Tryd.prog.funcNamed "pantler/pantlerlaw10.PathKinds" = some 7 by kernel_rfl).symm.trans hf) |>.symm
  obtain rfl : fn = Tryd.f7 := (Option.some.inj (Tryd.func7.symm.trans hfn)).symm
  refine ⟨by kernel_rfl, fun j t ht => ?_⟩
  rw [Tryd.params7] at ht
  have hm : t ∈ [9] := by simpa using Array.mem_of_getElem? ht
  have hall : ([9].all fun u => !Tryd.prog.wantsStandIn u) = true := by kernel_rfl
  exact (show Tryd.prog.wantsStandIn t = false by simpa using List.all_eq_true.1 hall t hm)

theorem proved : Rows.PathKindsCardSaid :=
  Claim7.holds_tied_plain_at .later [] _ _ _ _ over (fun _ h => by cases h) (by kernel_rfl) (fun _ h => by cases h) pathKinds_row_tie rfl ⟨rfl, rfl⟩ (by kernel_rfl) rfl plain (by kernel_rfl)

end Go.Proofs.YtjhbllbiajmkgaaDoor.pathKinds
