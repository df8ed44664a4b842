/- RtoEnds says true for every input: a wait is always from 2 to 64, Back never makes it less, equal samples bring it near them. Conditions: none beyond the given statement's. -/
import Derived.Test.YtlekcbgpjeiolaaRtE
import Derived.Deep.CutBlock
import Derived.Deep.DeepCutAuto
import Derived.BigQuiet
namespace Go.Proofs.Ytlekcbgpjeiolaa.rtoEnds
open Go.ChangeShapes Go.WideShapes Go.ChangeAt Go.RowKit Rt Go.Deep
set_option linter.unusedVariables false


set_option maxRecDepth 100000 in
set_option maxHeartbeats 4000000 in
theorem walk (w : World) (A1 : Option Addr) (c1 : Nat) (l : List Int) (b1 : Rk.RowG w 1 A1 l.length c1 (l.flatMap IntsC)) (k1 : ∀ q ∈ l, (fun (x : Int) => -9223372036854775808 ≤ x ∧ x ≤ 9223372036854775807) q) (r0 : Int) (wr0 : (Lit.int .u8 r0).wf = true) :
    Calls Try.prog 4 #[.slice A1 l.length c1, .int .u8 r0] w fun e w' => e = .returned (.bool true) ∧ Below w.heap.size w w' := by
  obtain ⟨r, rfl, hr⟩ := wf_u8 wr0
  have LR := Lib.hid b1
  obtain ⟨L, hL⟩ : ∃ L, l.length = L := ⟨_, rfl⟩
  have LN := Lib.hid hL
  rw [hL]
  clear b1 k1 hL wr0
  by_cases h300 : (300 : Int) < L
  · go_enter Try.func4, Try.ntmps4
    go_wp2_with fail
    refine (alive_any w).mono ?_; rintro e w1 ⟨rfl, b1⟩
    have B1 := Lib.hid b1
    clear b1
    go_wp2
    go_ret
    exact ⟨rfl, B1.out⟩
  go_enter Try.func4, Try.ntmps4
  go_wp2_with fail
  refine (alive_any w).mono ?_; rintro e w1 ⟨rfl, b1⟩
  have B1 := Lib.hid b1
  clear b1
  go_wp2_with fail
  refine (new_any w1).mono ?_; rintro e w2 ⟨rfl, h2⟩
  have OW0 := Lib.hid (show Own w w2 w1.heap.size k0 from ⟨h2.at_, B1.out.trans (h2.below.mono B1.out.size), B1.out.size⟩)
  clear h2 B1
  generalize w1.heap.size = g at *
  go_wp2
  go_loopw [6] (fun i wr => ∃ (j : Nat) (c : Clk), j ≤ L ∧ i = .int .i64 (j : Int) ∧ Sm c ∧ Hid (Own w wr g c)) (fun i _ => L - (intOf i).toNat)
  case atStart => exact ⟨0, k0, Nat.zero_le _, rfl, sm_0, OW0⟩
  case round =>
    clear OW0
    obtain ⟨j, c, hj, rfl, HS, OW⟩ := hrel
    by_cases hlt : j < L
    · have hlt' : (j : Int) < (L : Int) := by omega
      have j0 : (0 : Int) ≤ (j : Int) := by omega
      have hjl : j < l.length := by rw [LN.out]; exact hlt
      have xj := IntWalk.i64_in ((j : Int) + 1) (by omega)
      obtain ⟨b, o, rfl, hb, c0⟩ := Ints_at0 LR.out hjl
      have c1 := (World.cell?_of_block (w := w) (w' := wr) (a := ⟨b, o + (j * 1 + 0), none⟩) (OW.out.below.block b hb)).trans c0
      rw [show j * 1 + 0 = j by omega] at c1
      generalize l[j] = x at *
      clear c0 hjl
      go_wp2_with fail
      refine (wait_any OW.out).mono ?_; rintro e w5 ⟨rfl, rfl⟩
      go_upto_if 29 with fail
      go_cut [6] (fun s6 wx => s6 = .int .i64 (j : Int) ∧ ∃ c', Sm c' ∧ Hid (Own w wx g c'))
      case first =>
        have hs := HS
        have kw := hs.w
        by_cases q : Int.tmod x 3 = 0
        · rw [q]
          clear q
          go_wp2_with fail
          refine (back_any OW.out hs).mono ?_; rintro e w6 ⟨rfl, h6, _⟩
          have OW6 := Lib.hid h6
          have ST := Lib.hid (sm_back hs)
          have ge : ¬ (backR c).w < c.w := by show ¬ min (c.w * 2) 64 < c.w; omega
          clear h6 OW c1
          generalize backR c = c' at *
          go_wp2_with fail
          refine (wait_any OW6.out).mono ?_; rintro e w7 ⟨rfl, rfl⟩
          go_wp2_with fail
          go_meet
          exact ⟨rfl, c', ST.out, OW6⟩
        · have q3 : (Int.tmod x 3 == 0) = false := by simpa using q
          clear q
          go_wp2_with fail
          refine (sample_any OW.out hs x).mono ?_; rintro e w6 ⟨rfl, h6, _⟩
          have OW6 := Lib.hid h6
          have ST := Lib.hid (sm_samp hs x)
          clear h6 OW c1
          generalize sampR c x = c' at *
          go_wp2_with fail
          go_meet
          exact ⟨rfl, c', ST.out, OW6⟩
      case rest =>
        obtain ⟨rfl, c', HS', OW'⟩ := hcut
        have kw := HS'.w
        have k1 : ¬ c'.w < 2 := by omega
        have k2 : ¬ 64 < c'.w := by omega
        clear OW HS c1
        go_wp2_with fail
        refine (wait_any OW'.out).mono ?_; rintro e w7 ⟨rfl, rfl⟩
        go_wp2_with fail
        refine (wait_any OW'.out).mono ?_; rintro e w8 ⟨rfl, rfl⟩
        go_wp2
        go_roundw
        case rel => exact ⟨j + 1, c', by omega, by go_num, HS', OW'⟩
        case measure => simp [intOf]; omega
    · have hlt' : ¬ (j : Int) < (L : Int) := by omega
      have u1 := IntWalk.i64_in (r : Int) (by omega)
      have u2 : Int.tmod (r : Int) 65 = ((r % 65 : Nat) : Int) := by rw [Int.tmod_eq_emod_of_nonneg (by omega)]; omega
      obtain ⟨t, ht⟩ : ∃ t : Int, ((r % 65 : Nat) : Int) = t := ⟨_, rfl⟩
      have T : 0 ≤ t ∧ t ≤ 64 := by omega
      rw [ht] at u2
      clear ht
      go_wp2
      go_loopw [9] (fun i wx => ∃ (k : Nat), k ≤ 200 ∧ i = .int .i64 (k : Int) ∧ Hid (Own w wx g (it t k c))) (fun i _ => 200 - (intOf i).toNat)
      case atStart => exact ⟨0, Nat.zero_le _, rfl, OW⟩
      case round =>
        obtain ⟨k, hk, rfl, OK⟩ := hrel
        by_cases hl2 : k < 200
        · have hl2' : (k : Int) < 200 := by omega
          have xk := IntWalk.i64_in ((k : Int) + 1) (by omega)
          have SK := it_sm (t := t) k HS
          go_wp2_with fail
          refine (sample_any OK.out SK t).mono ?_; rintro e w6 ⟨rfl, h6, _⟩
          have O6 := Lib.hid (show Own w w6 g (it t (k + 1) c) from h6)
          clear h6 OK
          go_wp2
          go_roundw
          case rel => exact ⟨k + 1, by omega, by go_num, O6⟩
          case measure => simp [intOf]; omega
        · have hl2' : ¬ (k : Int) < 200 := by omega
          obtain rfl : k = 200 := by omega
          obtain ⟨e1, e2⟩ := ends_ok T HS
          generalize it t 200 c = d at *
          have z1 := IntWalk.i64_in (t + 5) (by omega)
          go_wp2_with fail
          refine (wait_any OK.out).mono ?_; rintro e w7 ⟨rfl, rfl⟩
          go_wp2_with fail
          all_goals (try (exfalso; omega))
          all_goals (refine (wait_any OK.out).mono ?_; rintro e w8 ⟨rfl, rfl⟩)
          all_goals go_wp2
          all_goals (try (exfalso; omega))
          all_goals go_ret
          all_goals exact ⟨by first | rfl | (simp; omega), OK.out.below⟩


set_option maxRecDepth 100000 in
theorem lifted (os : Os) (started : os.Started) (H : Type) (enc : TypeId × Value → H) :
    ReturnsInHanded {} Try.checked os 4 .any (Rows.rtoEndsSpec.pre6 enc Try.prog Try.f4 Rows.rtoEndsRow.domain false) (Rows.rtoEndsSpec.post enc Try.prog Try.f4 false true false false) := by
  refine returnsInHanded_of_change (C := Try.checked) own started (by kernel_rfl) Try.func4
    (ChangeSpec.witness6 (enc := enc) (C := Try.checked) false ⟨#[], #[.slice none 0 0, .int .u8 0], []⟩ 8 (by kernel_rfl) (by kernel_rfl) (by kernel_rfl) (by kernel_rfl)) ?_
  intro W base args ds gs before hval0 hW hcnd _
  have hval : ∀ (j : Nat) t v, Try.f4.params[j]? = some t → args[j]? = some v → Value.okWide Try.prog W .any base t v := hval0
  have hW' := hW
  obtain ⟨p, q, hA0, hV, rfl, hfz, hnd⟩ := hW
  have hA : DataW.TrodAll enc Try.prog W 0 (fun _ => true) true Try.f4.params.toList args.toList ds p := hA0
  rw [Try.params4] at hA hval
  obtain ⟨v0, vs0, d0, ds0, p0, q0, hargs, rfl, rfl, h0, r0⟩ := trodAll_cons hA
  obtain ⟨v1, vs1, d1, ds1, p1, q1, rfl, rfl, rfl, h1, r1⟩ := trodAll_cons r0
  obtain ⟨rfl, rfl, rfl⟩ := trodAll_nil r1
  obtain rfl : args = #[v0, v1] := by cases args; simp_all
  obtain ⟨A0, c0, l0, rfl, b0, k0⟩ := open_Ints (hval 0 22 v0 rfl rfl) h0
  obtain ⟨a1, rfl, _, _, w1⟩ := open_int Try.underlying5 (hval 1 5 v1 rfl rfl) h1
  clear hA0 hval0
  exact law_close hW' laidOut (by kernel_rfl) rfl Try.underlying4 rfl ⟨rfl, rfl, rfl⟩ (walk W A0 c0 l0 b0 k0 a1 w1)

theorem over : Rows.rtoEndsRow.holds Try.pinned (OpenSpec.ofChange Rows.rtoEndsSpec) :=
  OpenClaim.holds_of_wide 4 Try.f4 rfl rfl rfl rfl rfl rfl rfl ⟨rfl, rfl, rfl, rfl, rfl⟩ rfl rfl rfl rfl rfl (by kernel_rfl) Try.func4 (by kernel_rfl)
    (of_decide_eq_true (by kernel_rfl)) (by unfold Func.isWrapper; first | (rw [if_pos (by decide +kernel)]; kernel_rfl) | (rw [if_neg (by decide +kernel)]; exact ⟨rfl, rfl⟩))
    (fun os started H enc _ => lifted os started H enc)

theorem proved : Rows.RtoEndsSaid := over

end Go.Proofs.Ytlekcbgpjeiolaa.rtoEnds
