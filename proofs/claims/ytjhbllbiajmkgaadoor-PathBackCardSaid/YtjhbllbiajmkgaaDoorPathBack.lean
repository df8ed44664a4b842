/- Whatever two texts come in, 'pantlerlaw10.PathBack' returns true and leaves them as they were. No condition. -/
import Derived.Test.YtjhbllbiajmkgaaDoorVarsP
import Derived.SizedLaws
namespace Go.Proofs.YtjhbllbiajmkgaaDoor.pathBack
open Go.ChangeShapes Go.WideShapes Go.ChangeAt Go.RowKit Pt
set_option linter.unusedVariables false


theorem of_back2 {l q : List UInt8} (h : nameB l = true) (hq : l.length + q.length ≤ 126) : ofR (47 :: l) = (l, 0) ∧ ofR (47 :: (l ++ 63 :: q)) = (l, 0) := by
  have hn := name_len h
  obtain ⟨a1, a2⟩ := asked_name (q := q) h
  have hne := name_ne h
  constructor
  · unfold ofR
    rw [if_neg (by simp; omega), a1]
    show (if (47 : UInt8) = 47 then _ else _) = _
    rw [if_pos rfl, if_neg hne, nameOf_name h]
  · unfold ofR
    rw [if_neg (by simp; omega), a2]
    show (if (47 : UInt8) = 47 then _ else _) = _
    rw [if_pos rfl, if_neg hne, nameOf_name h]
set_option maxRecDepth 100000 in
set_option maxHeartbeats 4000000 in
theorem walk (w : World) (hv : Vars w) (a0 : ByteArray) (w0 : a0.size ≤ 140737488351232) (a1 : ByteArray) (w1 : a1.size ≤ 140737488351232) :
    Calls Tryd.prog 5 #[.string a0, .string a1] w fun e w' => e = .returned (.bool true) ∧ Below w.heap.size w w' := by
  obtain ⟨s, rfl⟩ : ∃ d : List UInt8, a0 = ⟨d.toArray⟩ := ⟨a0.data.toList, by cases a0; simp⟩
  obtain ⟨q, rfl⟩ : ∃ d : List UInt8, a1 = ⟨d.toArray⟩ := ⟨a1.data.toList, by cases a1; simp⟩
  have hsd : (⟨s.toArray⟩ : ByteArray).size = s.length := rfl
  have hss : (⟨q.toArray⟩ : ByteArray).size = q.length := rfl
  rw [hsd] at w0
  rw [hss] at w1
  have AL := Lib.hid (alive_any w hv)
  have x0 : IntKind.i64.wrap ((s.length : Int) + (q.length : Int)) = (s.length : Int) + (q.length : Int) := IntWalk.i64_in _ (by omega)
  have HV := Lib.hid (show VarsP w from hv)
  clear hv
  by_cases hlong : 120 < s.length + q.length
  · have g : (s.length : Int) + (q.length : Int) > 120 := by omega
    go_enter Tryd.func5, Tryd.ntmps5
    go_wp2_with fail
    refine AL.out.mono ?_; rintro e wa ⟨rfl, b1⟩
    go_wp2
    go_ret
    exact ⟨rfl, b1⟩
  have g : ¬ (s.length : Int) + (q.length : Int) > 120 := by omega
  have OF := Lib.hid (fun (W : World) (hW : Below w.heap.size w W) => of_any s (by omega) W (HV.out.below hW))
  have TG := Lib.hid (target_any s (by omega))
  have TL := of_tells s
  have TL1 := Lib.hid TL.1
  have TL2 := Lib.hid TL.2
  clear TL hlong
  go_enter Tryd.func5, Tryd.ntmps5
  go_wp2_with fail
  refine AL.out.mono ?_; rintro e wa ⟨rfl, b1⟩
  have B1 := Lib.hid b1
  clear b1 AL
  go_wp2_with fail
  refine (OF.out wa B1.out).mono ?_; rintro e wb ⟨rfl, b2⟩
  have B2 := Lib.hid (B1.out.trans (b2.mono B1.out.size))
  clear b2 OF
  generalize ho1 : (ofR s).1 = n at *
  generalize ho2 : (ofR s).2 = x at *
  have hnl : n.length ≤ 1000000 := by
    by_cases hx : x = 0
    · have := name_len (TL1.out hx); omega
    · rw [TL2.out hx]; simp
  clear ho1 ho2
  go_upto_region 6 with fail
  go_cut [40] (fun s40 wx => s40 = .bool false ∧ Hid (Below w.heap.size w wx))
  case first =>
    by_cases hx : x = 0
    · subst hx
      have NA := Lib.hid (name_any n (by omega) wb)
      rw [TL1.out rfl] at NA
      go_wp2_with fail
      refine NA.out.mono ?_; rintro e wc ⟨rfl, b3⟩
      have B3 := Lib.hid (B2.out.trans (b3.mono B2.out.size))
      clear b3
      go_wp2
      go_meet
      exact ⟨rfl, B3⟩
    · have hn := TL2.out hx
      subst hn
      have q0 : (x == 0) = false := by simpa using hx
      clear TL1 TL2
      go_wp2
      go_meet
      exact ⟨rfl, B2⟩
  case rest =>
    obtain ⟨rfl, B3⟩ := hcut
    clear TL1 TL2 B2
    cases hb : nameB s with
    | false =>
      have TR : targetR s = ([], 70) := by unfold targetR; rw [if_neg (by rw [hb]; decide)]
      rw [TR] at TG
      clear TR hb
      go_wp2_with fail
      refine (TG.out _).mono ?_; rintro e wd ⟨rfl, b4⟩
      have B4 := Lib.hid (B3.out.trans (b4.mono B3.out.size))
      go_wp2
      go_ret
      exact ⟨rfl, B4.out⟩
    | true =>
      have TR : targetR s = (47 :: s, 0) := by unfold targetR; rw [if_pos hb]
      have hsl := name_len hb
      rw [TR] at TG
      have OB := of_back2 (q := q) hb (by omega)
      have O1 := fun (W : World) (hW : Below w.heap.size w W) => of_any (47 :: s) (by simp; omega) W (HV.out.below hW)
      rw [OB.1] at O1
      have O1 := Lib.hid O1
      have O2 := fun (W : World) (hW : Below w.heap.size w W) => of_any (47 :: (s ++ 63 :: q)) (by simp; omega) W (HV.out.below hW)
      rw [OB.2] at O2
      have O2 := Lib.hid O2
      have e1 : (⟨(47 :: s).toArray⟩ : ByteArray) ++ ⟨#[63]⟩ ++ ⟨q.toArray⟩ = ⟨(47 :: (s ++ 63 :: q)).toArray⟩ := by
        rw [show (⟨#[63]⟩ : ByteArray) = ⟨[63].toArray⟩ from rfl, str_add, str_add]; simp
      have E1 := Lib.hid e1
      have y1 : ¬ 9223372036854775807 < s.length + 1 + 1 := by omega
      have y2 : ¬ 9223372036854775807 < s.length + 1 + 1 + q.length := by omega
      clear TR hb OB e1
      go_wp2_with fail
      refine (TG.out _).mono ?_; rintro e wd ⟨rfl, b4⟩
      have B4 := Lib.hid (B3.out.trans (b4.mono B3.out.size))
      clear b4
      go_wp2_with fail
      refine (O1.out _ B4.out).mono ?_; rintro e we ⟨rfl, b5⟩
      have B5 := Lib.hid (B4.out.trans (b5.mono B4.out.size))
      clear b5
      go_wp2_with fail
      rw [show (⟨(47 :: s).toArray⟩ : ByteArray) ++ ⟨#[63]⟩ ++ ⟨q.toArray⟩ = ⟨(47 :: (s ++ 63 :: q)).toArray⟩ from E1.out]
      refine (O2.out _ B5.out).mono ?_; rintro e wf ⟨rfl, b6⟩
      have B6 := Lib.hid (B5.out.trans (b6.mono B5.out.size))
      clear b6
      go_wp2
      go_ret
      exact ⟨rfl, B6.out⟩

set_option maxRecDepth 100000 in
theorem reads (os : Os) {H : Type} (enc : TypeId × Value → H) : DataW.whole enc Tryd.prog ((World.laidAll Tryd.prog os Rows.pathBackRow.laid).forCall (fun _ _ => 0) ⟨#[], #[.string ⟨#[]⟩, .string ⟨#[]⟩], []⟩).memory Tryd.f5.params.toList Rows.pathBackSpec.vars false (#[.string ⟨#[]⟩, .string ⟨#[]⟩] : Array Value).toList 8 = some ([.lit (.string []), .lit (.string [])], [], []) := by kernel_rfl
set_option maxRecDepth 100000 in
theorem lifted (os : Os) (started : os.Started) (H : Type) (enc : TypeId × Value → H) (F : Stop.Interp) :
    ReturnsInHanded {} Tryd.checked os 5 .any ((OpenSpec.ofChange Rows.pathBackSpec).preRow enc Tryd.prog Tryd.f5 Rows.pathBackRow.domain false Rows.pathBackRow.laid) (((OpenSpec.ofChange Rows.pathBackSpec).at F).post enc Tryd.prog Tryd.f5 false true false false) := by
  refine returnsInHanded_of_row (C := Tryd.checked) (s := OpenSpec.ofChange Rows.pathBackSpec) own started (by kernel_rfl) Tryd.func5
    ⟨World.laidAll Tryd.prog os Rows.pathBackRow.laid, fun _ _ => 0, ⟨#[], #[.string ⟨#[]⟩, .string ⟨#[]⟩], []⟩, World.laidAll_os _ _ _, World.shaped_of_ZipB (by kernel_rfl) (by kernel_rfl), rfl, (Input.okWide_of_okWideB (by kernel_rfl)).2,
      OpenSpec.preRow_of_cond 8 (reads os enc) (by kernel_rfl) (fun k hk => by cases hk) (by kernel_rfl) (by rw [MakeChecks.laidMetH_plain _ _ _ (by kernel_rfl)]; exact laidMet_laidAll _ (by kernel_rfl) (by kernel_rfl)), by simp [Assume.holds]⟩ ?_
  intro W base args ds gs before hval0 hW _ _ hsz hL hsh _
  have hval : ∀ (j : Nat) t v, Tryd.f5.params[j]? = some t → args[j]? = some v → Value.okWide Tryd.prog W .any base t v := hval0
  have hvars : Vars W := Vars.of hL
  have hW' := hW
  obtain ⟨p, q, hA0, hV, rfl, hfz, hnd⟩ := hW
  have hA : DataW.TrodAll enc Tryd.prog W 0 (fun _ => true) true Tryd.f5.params.toList args.toList ds p := hA0
  rw [Tryd.params5] at hA hval
  obtain ⟨v0, vs0, d0, ds0, p0, q0, hargs, rfl, rfl, h0, r0⟩ := trodAll_cons hA
  obtain ⟨v1, vs1, d1, ds1, p1, q1, rfl, rfl, rfl, h1, r1⟩ := trodAll_cons r0
  obtain ⟨rfl, rfl, rfl⟩ := trodAll_nil r1
  obtain rfl : args = #[v0, v1] := by cases args; simp_all
  obtain ⟨a0, rfl, rfl, _, _⟩ := Go.ChangeMaps.open_string Tryd.underlying9 (hval 0 9 v0 rfl rfl) h0
  have w0 : a0.size ≤ 140737488351232 := sized_string hsz (j := 0) (bytes := a0.data.toList) rfl rfl
  obtain ⟨a1, rfl, rfl, _, _⟩ := Go.ChangeMaps.open_string Tryd.underlying9 (hval 1 9 v1 rfl rfl) h1
  have w1 : a1.size ≤ 140737488351232 := sized_string hsz (j := 1) (bytes := a1.data.toList) rfl rfl
  clear hA0 hval0
  exact law_close hW' laidOut (by kernel_rfl) rfl Tryd.underlying4 rfl ⟨rfl, rfl, rfl⟩ (walk W hvars a0 w0 a1 w1)

theorem over : Rows.pathBackRow.holds Tryd.pinned (OpenSpec.ofChange Rows.pathBackSpec) :=
  OpenClaim.holds_of_cond 5 Tryd.f5 rfl rfl rfl rfl rfl rfl rfl ⟨rfl, rfl, rfl, rfl, rfl⟩ rfl rfl rfl rfl rfl (by kernel_rfl) Tryd.func5 (by kernel_rfl)
    (of_decide_eq_true (by kernel_rfl)) (by unfold Func.isWrapper; first | (rw [if_pos (by decide +kernel)]; kernel_rfl) | (rw [if_neg (by decide +kernel)]; exact ⟨rfl, rfl⟩))
    (fun os started H enc _ F => by rw [OpenClaim.pre_eq_preRow]; exact lifted os started H enc F)

theorem plain (f : FuncId) (fn : Func) (hf : Tryd.pinned.checked.prog.funcNamed "pantler/pantlerlaw10.PathBack" = some f) (hfn : Tryd.pinned.checked.prog.funcs[f]? = some fn) :
    Rows.pathBackCard.stood.looks = Tryd.pinned.checked.prog.looks [] ∧ ∀ (j : Nat) t, fn.params[j]? = some t → Tryd.pinned.checked.prog.wantsStandIn t = false := by
  obtain rfl : f = 5 := Option.some.inj ((show Tryd.prog.funcNamed "pantler/pantlerlaw10.PathBack" = some 5 by kernel_rfl).symm.trans hf) |>.symm
  obtain rfl : fn = Tryd.f5 := (Option.some.inj (Tryd.func5.symm.trans hfn)).symm
  refine ⟨by kernel_rfl, fun j t ht => ?_⟩
  rw [Tryd.params5] at ht
  have hm : t ∈ [9] := by simpa using Array.mem_of_getElem? ht
  have hall : ([9].all fun u => !Tryd.prog.wantsStandIn u) = true := by kernel_rfl
  exact (show Tryd.prog.wantsStandIn t = false by simpa using List.all_eq_true.1 hall t hm)

theorem proved : Rows.PathBackCardSaid :=
  Claim7.holds_tied_plain_at .later [] _ _ _ _ over (fun _ h => by cases h) (by kernel_rfl) (fun _ h => by cases h) pathBack_row_tie rfl ⟨rfl, rfl⟩ (by kernel_rfl) rfl plain (by kernel_rfl)

end Go.Proofs.YtjhbllbiajmkgaaDoor.pathBack
