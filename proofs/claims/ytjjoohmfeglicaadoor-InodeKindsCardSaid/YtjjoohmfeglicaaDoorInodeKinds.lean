/- Whatever text comes in, 'pantlerlaw11.InodeKinds' returns true and leaves it as it was. No condition. -/
import Derived.Test.YtjjoohmfeglicaaDoorVarsI
import Derived.SizedLaws
namespace Go.Proofs.YtjjoohmfeglicaaDoor.inodeKinds
open Go.ChangeShapes Go.WideShapes Go.ChangeAt Go.RowKit In Di
set_option linter.unusedVariables false


set_option maxRecDepth 100000 in
set_option maxHeartbeats 4000000 in
theorem walk (w : World) (hv : Vars w) (a0 : ByteArray) (w0 : a0.size ≤ 140737488351232) :
    Calls Tryd.prog 4 #[.string a0] w fun e w' => e = .returned (.bool true) ∧ Below w.heap.size w w' := by
  have AL := Lib.hid (alive_any w)
  clear hv
  by_cases hlong : 1000 < a0.size
  · have g : (a0.size : Int) > 1000 := by omega
    go_enter Tryd.func4, Tryd.ntmps4
    go_wp2_with fail
    refine AL.out.mono ?_; rintro e wa ⟨rfl, b1⟩
    go_wp2
    go_ret
    exact ⟨rfl, b1⟩
  have g : ¬ (a0.size : Int) > 1000 := by omega
  obtain ⟨l, hl⟩ : ∃ l, a0.data.toList = l := ⟨_, rfl⟩
  -- what each of the three tells
  obtain ⟨e1, h1⟩ : ∃ e, errOf l (rootMay (rootR l).1 (rootR l).2) (rootT (rootR l).1 (rootR l).2) = e := ⟨_, rfl⟩
  obtain ⟨e2, h2⟩ : ∃ e, errOf l (dirMay (dirR l)) (dirT (dirR l)) = e := ⟨_, rfl⟩
  obtain ⟨e3, h3⟩ : ∃ e, errOf l (filR l).may (filT (filR l)) = e := ⟨_, rfl⟩
  have k1 : e1 = 0 → l.take 1 = [80] := fun h => head_of (h1.trans h) rfl
  have k2 : e2 = 0 → l.take 1 = [68] := fun h => head_of (h2.trans h) rfl
  have k3 : e3 = 0 → l.take 1 = [70] := fun h => head_of (h3.trans h) rfl
  have n12 : ¬ (e1 = 0 ∧ e2 = 0) := fun ⟨a, b⟩ => by have := (k1 a).symm.trans (k2 b); cases this
  have n13 : ¬ (e1 = 0 ∧ e3 = 0) := fun ⟨a, b⟩ => by have := (k1 a).symm.trans (k3 b); cases this
  have n23 : ¬ (e2 = 0 ∧ e3 = 0) := fun ⟨a, b⟩ => by have := (k2 a).symm.trans (k3 b); cases this
  have N := Lib.hid (And.intro n12 (And.intro n13 n23))
  have H1 := Lib.hid h1
  have H2 := Lib.hid h2
  have H3 := Lib.hid h3
  have HL := Lib.hid hl
  clear k1 k2 k3 n12 n13 n23 h1 h2 h3 hl
  go_enter Tryd.func4, Tryd.ntmps4
  go_wp2_with fail
  refine AL.out.mono ?_; rintro e wa ⟨rfl, b1⟩
  have B1 := Lib.hid b1
  clear b1 AL
  obtain ⟨c1, u1, r1, v1, b1⟩ := conv_any a0 (by omega) wa
  rw [HL.out] at v1
  go_wp2_with fail
  clear r1
  refine (parsedRoot_any _ _ _ l _ v1.src (by omega)).mono ?_
  rintro e x1 ⟨bb, hd⟩
  rw [H1.out] at hd
  obtain ⟨G1, A1, n1, d1, rfl⟩ : ∃ G1  A1  n1  d1, e = .returned (.tuple #[.agg #[.int .i64 G1, .slice A1 n1 d1], .int .i64 e1]) := by
    rcases hd with ⟨_, rfl⟩ | ⟨h0, A', c', rfl, _⟩
    · exact ⟨0, none, 0, 0, rfl⟩
    · exact ⟨_, A', _, c', by rw [h0]⟩
  have X1 := Lib.hid (B1.out.trans ((b1.trans (bb.mono b1.size)).mono B1.out.size))
  clear b1 bb v1 hd
  have Y1 := Lib.hid (X1.out.alloc X1.out.size (.cells #[.int .i64 G1, .slice A1 n1 d1] 34))
  obtain ⟨y1, hy1⟩ : ∃ y, x1.alloc (.cells #[.int .i64 G1, .slice A1 n1 d1] 34) = y := ⟨_, rfl⟩
  rw [hy1] at Y1
  go_upto_region 7 with fail
  try rw [hy1]
  clear hy1
  obtain ⟨c2, u2, r2, v2, b2⟩ := conv_any a0 (by omega) y1
  rw [HL.out] at v2
  go_wp2_with fail
  clear r2
  refine (parsedDir_any _ _ _ l _ v2.src (by omega)).mono ?_
  rintro e x2 ⟨bb, hd⟩
  rw [H2.out] at hd
  obtain ⟨A2, n2, d2, rfl⟩ : ∃ A2  n2  d2, e = .returned (.tuple #[.slice A2 n2 d2, .int .i64 e2]) := by
    rcases hd with ⟨_, rfl⟩ | ⟨h0, A', c', rfl, _⟩
    · exact ⟨none, 0, 0, rfl⟩
    · exact ⟨A', _, c', by rw [h0]⟩
  have X2 := Lib.hid (Y1.out.trans ((b2.trans (bb.mono b2.size)).mono Y1.out.size))
  clear b2 bb v2 hd
  obtain ⟨c3, u3, r3, v3, b3⟩ := conv_any a0 (by omega) x2
  rw [HL.out] at v3
  go_wp2_with fail
  clear r3
  refine (parsedFile_any _ _ _ l _ v3.src (by omega)).mono ?_
  rintro e x3 ⟨bb, hd⟩
  rw [H3.out] at hd
  obtain ⟨G3, M3, L3, A3, n3, d3, Q3, m3, f3, rfl⟩ : ∃ G3  M3  L3  A3  n3  d3  Q3  m3  f3, e = .returned (.tuple #[.agg #[.int .i64 G3, .int .i64 M3, .int .i64 L3, .slice A3 n3 d3, .slice Q3 m3 f3], .int .i64 e3]) := by
    rcases hd with ⟨_, rfl⟩ | ⟨h0, A', c', A2', c2', rfl, _⟩
    · exact ⟨0, 0, 0, none, 0, 0, none, 0, 0, rfl⟩
    · exact ⟨_, _, _, A', _, c', A2', _, c2', by rw [h0]⟩
  have X3 := Lib.hid (X2.out.trans ((b3.trans (bb.mono b3.size)).mono X2.out.size))
  clear b3 bb v3 hd
  have Y3 := Lib.hid (X3.out.alloc X3.out.size (.cells #[.int .i64 G3, .int .i64 M3, .int .i64 L3, .slice A3 n3 d3, .slice Q3 m3 f3] 48))
  have N' := N.out
  clear N H1 H2 H3 HL
  by_cases g1 : e1 = 0
  · have g2 : ¬ e2 = 0 := fun h => N'.1 ⟨g1, h⟩
    have g3 : ¬ e3 = 0 := fun h => N'.2.1 ⟨g1, h⟩
    clear N'
    subst g1
    go_wp2
    go_ret
    exact ⟨rfl, Y3.out⟩
  · by_cases g2 : e2 = 0
    · have g3 : ¬ e3 = 0 := fun h => N'.2.2 ⟨g2, h⟩
      clear N'
      subst g2
      go_wp2
      go_ret
      exact ⟨rfl, Y3.out⟩
    · clear N'
      by_cases g3 : e3 = 0
      · subst g3
        go_wp2
        go_ret
        exact ⟨rfl, Y3.out⟩
      · go_wp2
        go_ret
        exact ⟨rfl, Y3.out⟩

set_option maxRecDepth 100000 in
theorem reads (os : Os) {H : Type} (enc : TypeId × Value → H) : DataW.whole enc Tryd.prog ((World.laidAll Tryd.prog os Rows.inodeKindsRow.laid).forCall (fun _ _ => 0) ⟨#[], #[.string ⟨#[]⟩], []⟩).memory Tryd.f4.params.toList Rows.inodeKindsSpec.vars false (#[.string ⟨#[]⟩] : Array Value).toList 8 = some ([.lit (.string [])], [], []) := by kernel_rfl
set_option maxRecDepth 100000 in
theorem lifted (os : Os) (started : os.Started) (H : Type) (enc : TypeId × Value → H) (F : Stop.Interp) :
    ReturnsInHanded {} Tryd.checked os 4 .any ((OpenSpec.ofChange Rows.inodeKindsSpec).preRow enc Tryd.prog Tryd.f4 Rows.inodeKindsRow.domain false Rows.inodeKindsRow.laid) (((OpenSpec.ofChange Rows.inodeKindsSpec).at F).post enc Tryd.prog Tryd.f4 false true false false) := by
  refine returnsInHanded_of_row (C := Tryd.checked) (s := OpenSpec.ofChange Rows.inodeKindsSpec) own started (by kernel_rfl) Tryd.func4
    ⟨World.laidAll Tryd.prog os Rows.inodeKindsRow.laid, fun _ _ => 0, ⟨#[], #[.string ⟨#[]⟩], []⟩, World.laidAll_os _ _ _, World.shaped_of_ZipB (by kernel_rfl) (by kernel_rfl), rfl, (Input.okWide_of_okWideB (by kernel_rfl)).2,
      OpenSpec.preRow_of_cond 8 (reads os enc) (by kernel_rfl) (fun k hk => by cases hk) (by kernel_rfl) (by rw [MakeChecks.laidMetH_plain _ _ _ (by kernel_rfl)]; exact laidMet_laidAll _ (by kernel_rfl) (by kernel_rfl)), by simp [Assume.holds]⟩ ?_
  intro W base args ds gs before hval0 hW _ _ hsz hL hsh _
  have hval : ∀ (j : Nat) t v, Tryd.f4.params[j]? = some t → args[j]? = some v → Value.okWide Tryd.prog W .any base t v := hval0
  have hvars : Vars W := Vars.of hL
  have hW' := hW
  obtain ⟨p, q, hA0, hV, rfl, hfz, hnd⟩ := hW
  have hA : DataW.TrodAll enc Tryd.prog W 0 (fun _ => true) true Tryd.f4.params.toList args.toList ds p := hA0
  rw [Tryd.params4] at hA hval
  obtain ⟨v0, vs0, d0, ds0, p0, q0, hargs, rfl, rfl, h0, r0⟩ := trodAll_cons hA
  obtain ⟨rfl, rfl, rfl⟩ := trodAll_nil r0
  obtain rfl : args = #[v0] := by cases args; simp_all
  obtain ⟨a0, rfl, rfl, _, _⟩ := Go.ChangeMaps.open_string Tryd.underlying9 (hval 0 9 v0 rfl rfl) h0
  have w0 : a0.size ≤ 140737488351232 := sized_string hsz (j := 0) (bytes := a0.data.toList) rfl rfl
  clear hA0 hval0
  exact law_close hW' laidOut (by kernel_rfl) rfl Tryd.underlying4 rfl ⟨rfl, rfl, rfl⟩ (walk W hvars a0 w0)

theorem over : Rows.inodeKindsRow.holds Tryd.pinned (OpenSpec.ofChange Rows.inodeKindsSpec) :=
  OpenClaim.holds_of_cond 4 Tryd.f4 rfl rfl rfl rfl rfl rfl rfl ⟨rfl, rfl, rfl, rfl, rfl⟩ rfl rfl rfl rfl rfl (by kernel_rfl) Tryd.func4 (by kernel_rfl)
    (of_decide_eq_true (by kernel_rfl)) (by unfold Func.isWrapper; first | (rw [if_pos (by decide +kernel)]; kernel_rfl) | (rw [if_neg (by decide +kernel)]; exact ⟨rfl, rfl⟩))
    (fun os started H enc _ F => by rw [OpenClaim.pre_eq_preRow]; exact lifted os started H enc F)

theorem plain (f : FuncId) (fn : Func) (hf : Tryd.pinned.checked.prog.funcNamed "pantler/pantlerlaw11.InodeKinds" = some f) (hfn : Tryd.pinned.checked.prog.funcs[f]? = some fn) :
    Rows.inodeKindsCard.stood.looks = Tryd.pinned.checked.prog.looks [] ∧ ∀ (j : Nat) t, fn.params[j]? = some t → Tryd.pinned.checked.prog.wantsStandIn t = false := by
  obtain rfl : f = 4 := Option.some.inj ((show Tryd.prog.funcNamed "pantler/pantlerlaw11.InodeKinds" = some 4 by kernel_rfl).symm.trans hf) |>.symm
  obtain rfl : fn = Tryd.f4 := (Option.some.inj (Tryd.func4.symm.trans hfn)).symm
  refine ⟨by kernel_rfl, fun j t ht => ?_⟩
  rw [Tryd.params4] at ht
  have hm : t ∈ [9] := by simpa using Array.mem_of_getElem? ht
  have hall : ([9].all fun u => !Tryd.prog.wantsStandIn u) = true := by kernel_rfl
  exact (show Tryd.prog.wantsStandIn t = false by simpa using List.all_eq_true.1 hall t hm)

theorem proved : Rows.InodeKindsCardSaid :=
  Claim7.holds_tied_plain_at .later [] _ _ _ _ over (fun _ h => by cases h) (by kernel_rfl) (fun _ h => by cases h) inodeKinds_row_tie rfl ⟨rfl, rfl⟩ (by kernel_rfl) rfl plain (by kernel_rfl)

end Go.Proofs.YtjjoohmfeglicaaDoor.inodeKinds
