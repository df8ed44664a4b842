/- Whatever text and number come in, 'pantlerlaw23.LexTells' returns true and leaves them as they were. No condition. -/
import Derived.Test.YtfkfnmoilagahaaLxS
namespace Go.Proofs.Ytfkfnmoilagahaa.lexTells
open Go.ChangeShapes Go.WideShapes Go.ChangeAt Go.RowKit Lx
set_option linter.unusedVariables false


set_option maxRecDepth 100000 in
set_option maxHeartbeats 4000000 in
theorem walk (w : World) (a0 : ByteArray) (w0 : a0.size ≤ maxLen) (most : Int) (wm : (Lit.int .i64 most).wf = true) :
    Calls Try.prog 3 #[.string a0, .int .i64 most] w fun e w' => e = .returned (.bool true) ∧ Below w.heap.size w w' := by
  obtain ⟨l, rfl⟩ : ∃ d : List UInt8, a0 = ⟨d.toArray⟩ := ⟨a0.data.toList, by cases a0; simp⟩
  have hsl : (⟨l.toArray⟩ : ByteArray).size = l.length := rfl
  rw [hsl] at w0
  have hm := wf_i64 wm
  have AL := Lib.hid (alive_any w)
  by_cases hlong : 2000 < l.length
  · have g : (l.length : Int) > 2000 := by omega
    go_enter Try.func3, Try.ntmps3
    go_wp2_with fail
    refine AL.out.mono ?_; rintro e wa ⟨rfl, b1⟩
    go_wp2
    go_ret
    exact ⟨rfl, b1⟩
  have g : ¬ (l.length : Int) > 2000 := by omega
  have N1 := Lib.hid (fun W => number_any l most (by omega) hm W)
  have N2 := Lib.hid (fun W => rnumber_any l most (by omega) hm W)
  have T1 := Lib.hid (fun W => token_any l (by omega) W)
  have T2 := Lib.hid (fun W => rtoken_any l (by omega) W)
  have V1 := Lib.hid (fun W => value_any l (by omega) W)
  have V2 := Lib.hid (fun W => rvalue_any l (by omega) W)
  have R1 := Lib.hid (fun W => trim_any l (by omega) W)
  have R2 := Lib.hid (fun W => rtrim_any l (by omega) W)
  have L1 := Lib.hid (fun W => lower_any l (by omega) W)
  have L2 := Lib.hid (fun W => rlower_any l (by omega) W)
  obtain ⟨x, ok, hnt⟩ : ∃ x ok, numT l most = .tuple #[.int .i64 x, .bool ok] := ⟨_, _, rfl⟩
  rw [hnt] at N1 N2
  obtain ⟨tb, htb⟩ : ∃ tb, tb = tokenB l := ⟨_, rfl⟩
  rw [← htb] at T1 T2
  obtain ⟨vb, hvb⟩ : ∃ vb, vb = valueB l := ⟨_, rfl⟩
  rw [← hvb] at V1 V2
  obtain ⟨r, hr⟩ : ∃ r, r = trimL l := ⟨_, rfl⟩
  rw [← hr] at R1 R2
  obtain ⟨m, hm2⟩ : ∃ m, m = lowL l := ⟨_, rfl⟩
  rw [← hm2] at L1 L2
  have et : (tb == tb) = true := by simp
  have ev : (vb == vb) = true := by simp
  have eo : (ok == ok) = true := by simp
  have ex : (x == x) = true := by simp
  have er : (r == r) = true := by simp
  have em : (m == m) = true := by simp
  clear hnt htb hvb hr hm2 w0 hlong hm wm
  go_enter Try.func3, Try.ntmps3
  go_wp2_with fail
  refine AL.out.mono ?_; rintro e wa ⟨rfl, b1⟩
  have B1 := Lib.hid b1
  clear b1 AL
  go_wp2_with fail
  refine (N1.out _).mono ?_; rintro e wb ⟨rfl, h⟩
  have B2 := Lib.hid (B1.out.trans (h.mono B1.out.size))
  clear h
  go_wp2_with fail
  refine (N2.out _).mono ?_; rintro e wb2 ⟨rfl, hw⟩; subst hw
  go_wp2_with fail
  refine (T1.out _).mono ?_; rintro e wc ⟨rfl, h⟩
  have B3 := Lib.hid (B2.out.trans (h.mono B2.out.size))
  clear h
  go_wp2_with fail
  refine (T2.out _).mono ?_; rintro e wc2 ⟨rfl, hw⟩; subst hw
  go_wp2_with fail
  refine (V1.out _).mono ?_; rintro e wd ⟨rfl, h⟩
  have B4 := Lib.hid (B3.out.trans (h.mono B3.out.size))
  clear h
  go_wp2_with fail
  refine (V2.out _).mono ?_; rintro e wd2 ⟨rfl, hw⟩; subst hw
  go_wp2_with fail
  refine (R1.out _).mono ?_; rintro e we ⟨rfl, h⟩
  have B5 := Lib.hid (B4.out.trans (h.mono B4.out.size))
  clear h
  go_wp2_with fail
  refine (R2.out _).mono ?_; rintro e we2 ⟨rfl, hw⟩; subst hw
  go_wp2_with fail
  refine (L1.out _).mono ?_; rintro e wf ⟨rfl, h⟩
  have B6 := Lib.hid (B5.out.trans (h.mono B5.out.size))
  clear h
  go_wp2_with fail
  refine (L2.out _).mono ?_; rintro e wg ⟨rfl, h⟩
  have B7 := Lib.hid (B6.out.trans (h.mono B6.out.size))
  clear h
  go_wp2
  go_ret
  exact ⟨rfl, B7.out⟩

set_option maxRecDepth 100000 in
theorem lifted (os : Os) (started : os.Started) (H : Type) (enc : TypeId × Value → H) :
    ReturnsInHanded {} Try.checked os 3 .any (Rows.lexTellsSpec.pre6 enc Try.prog Try.f3 Rows.lexTellsRow.domain false) (Rows.lexTellsSpec.post enc Try.prog Try.f3 false true false false) := by
  refine returnsInHanded_of_change (C := Try.checked) own started (by kernel_rfl) Try.func3
    (ChangeSpec.witness6 (enc := enc) (C := Try.checked) false ⟨#[], #[.string ⟨#[]⟩, .int .i64 0], []⟩ 8 (by kernel_rfl) (by kernel_rfl) (by kernel_rfl) (by kernel_rfl)) ?_
  intro W base args ds gs before hval0 hW hcnd _
  have hval : ∀ (j : Nat) t v, Try.f3.params[j]? = some t → args[j]? = some v → Value.okWide Try.prog W .any base t v := hval0
  have hW' := hW
  obtain ⟨p, q, hA0, hV, rfl, hfz, hnd⟩ := hW
  have hA : DataW.TrodAll enc Try.prog W 0 (fun _ => true) true Try.f3.params.toList args.toList ds p := hA0
  rw [Try.params3] at hA hval
  obtain ⟨v0, vs0, d0, ds0, p0, q0, hargs, rfl, rfl, h0, r0⟩ := trodAll_cons hA
  obtain ⟨v1, vs1, d1, ds1, p1, q1, rfl, rfl, rfl, h1, r1⟩ := trodAll_cons r0
  obtain ⟨rfl, rfl, rfl⟩ := trodAll_nil r1
  obtain rfl : args = #[v0, v1] := by cases args; simp_all
  obtain ⟨a0, rfl, _, _, w0⟩ := Go.ChangeMaps.open_string Try.underlying9 (hval 0 9 v0 rfl rfl) h0
  obtain ⟨a1, rfl, _, _, w1⟩ := open_int Try.underlying2 (hval 1 2 v1 rfl rfl) h1
  clear hA0 hval0
  exact law_close hW' laidOut (by kernel_rfl) rfl Try.underlying4 rfl ⟨rfl, rfl, rfl⟩ (walk W a0 w0 a1 w1)

theorem over : Rows.lexTellsRow.holds Try.pinned (OpenSpec.ofChange Rows.lexTellsSpec) :=
  OpenClaim.holds_of_wide 3 Try.f3 rfl rfl rfl rfl rfl rfl rfl ⟨rfl, rfl, rfl, rfl, rfl⟩ rfl rfl rfl rfl rfl (by kernel_rfl) Try.func3 (by kernel_rfl)
    (of_decide_eq_true (by kernel_rfl)) (by unfold Func.isWrapper; first | (rw [if_pos (by decide +kernel)]; kernel_rfl) | (rw [if_neg (by decide +kernel)]; exact ⟨rfl, rfl⟩))
    (fun os started H enc _ => lifted os started H enc)

theorem proved : Rows.LexTellsSaid := over

end Go.Proofs.Ytfkfnmoilagahaa.lexTells
