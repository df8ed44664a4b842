/- SendqSizes says true for every input: what is cut has as many bytes as were asked for, and what is there is what was added less what went. Conditions: none beyond the given statement's. -/
import Derived.Test.YtgmejifacpefdaaSnV
namespace Go.Proofs.Ytgmejifacpefdaa.sendqSizes
open Go.ChangeShapes Go.WideShapes Go.ChangeAt Go.RowKit Sn
set_option linter.unusedVariables false


set_option maxRecDepth 100000 in
set_option maxHeartbeats 4000000 in
theorem walk (w : World) (A : Option Addr) (c : Nat) (p : List Pc) (hb : Pcs w A p ∧ (∀ q ∈ p, q.Ok) ∧ (A = none → p = [] ∧ c = 0)) (x : Int) (wx : (Lit.int .u16 x).wf = true) (y : Int) (wy : (Lit.int .u16 y).wf = true) (z : Int) (wz : (Lit.int .u16 z).wf = true) :
    Calls Try.prog 6 #[.slice A p.length c, .int .u16 x, .int .u16 y, .int .u16 z] w fun e w' => e = .returned (.bool true) ∧ Below w.heap.size w w' := by
  obtain ⟨x, rfl, hx⟩ := wf_u16 wx
  obtain ⟨y, rfl, hy⟩ := wf_u16 wy
  obtain ⟨z, rfl, hz⟩ := wf_u16 wz
  have P := Lib.hid hb.1
  have OK := Lib.hid hb.2.1
  clear hb wx wy wz
  by_cases h160 : p.length ≤ 160
  case neg =>
    have g0 : (p.length : Int) > 160 := by omega
    go_enter Try.func6, Try.ntmps6
    go_wp2_with fail
    refine (alive_any w).mono ?_; rintro e w1 ⟨rfl, b1⟩
    have B1 := Lib.hid b1
    clear b1
    go_wp2
    go_ret
    exact ⟨rfl, B1.out⟩
  have g0 : ¬ (p.length : Int) > 160 := by omega
  have EMPTY := Lib.hid (Decidable.em (∀ q ∈ p, okP q))
  go_enter Try.func6, Try.ntmps6
  go_wp2_with fail
  refine (alive_any w).mono ?_; rintro e w1 ⟨rfl, b1⟩
  have B1 := Lib.hid b1
  clear b1
  go_wp2_with fail
  refine (new_lb B1.out).mono ?_; rintro e w2 ⟨rfl, h2, b2⟩
  obtain ⟨g, hg⟩ : ∃ g, w1.heap.size = g := ⟨_, rfl⟩
  rw [hg] at h2
  rw [hg]
  have H2 := Lib.hid h2
  clear h2 b2 hg B1
  go_wp2_with fail
  refine (of_row A c p w2 (P.out.new H2.out.below) (by omega)).mono ?_; rintro e w3 ⟨A3, c3, rfl, r3, n3, b3⟩
  have H3 := Lib.hid (H2.out.new b3)
  have R3 := Lib.hid r3
  clear r3 n3 b3 H2
  go_wp2_with fail
  refine (H3.out.add_ A3 c3 p R3.out OK.out (by omega)).mono ?_; rintro e w4 ⟨rfl, F4, h4, s4⟩
  rcases EMPTY.out with hok | hok
  case inr =>
    obtain ⟨e1, e2⟩ := add_bad (l := []) hok
    rw [e2] at h4
    rw [e1]
    have H4 := Lib.hid h4
    clear h4 s4 e1 e2 hok H3 R3
    go_wp2_with fail
    refine H4.out.end_.mono ?_; rintro e w5 ⟨rfl, b5, h5⟩
    have H5 := Lib.hid h5
    clear b5 h5 H4
    go_wp2
    go_ret
    exact ⟨rfl, H5.out.below⟩
  obtain ⟨e1, e2⟩ := add_good (l := []) hok (by simpa using h160)
  rw [e2, List.nil_append] at h4
  rw [e1]
  have H4 := Lib.hid h4
  have GOOD := Lib.hid hok
  have tl := total_ok hok h160
  obtain ⟨T, hT⟩ : ∃ T, total p = T := ⟨_, rfl⟩
  have ET := Lib.hid hT
  rw [hT] at tl
  clear h4 s4 e1 e2 hok H3 R3 EMPTY hT
  go_wp2
  go_loop [10, 11] (fun n i => ∃ j : Nat, j ≤ p.length ∧ i = .int .i64 (j : Int) ∧ n = .int .i64 (total (p.take j) : Int)) (fun _ i => p.length - (intOf i).toNat)
  case atStart => exact ⟨0, Nat.zero_le _, rfl, by simp [total]⟩
  case round =>
    obtain ⟨j, hj, rfl, rfl⟩ := hrel
    by_cases hlt : j < p.length
    · have hlt' : (j : Int) < (p.length : Int) := by omega
      have j0 : (0 : Int) ≤ (j : Int) := by omega
      have xj := IntWalk.i64_in ((j : Int) + 1) (by omega)
      obtain ⟨b, o, rfl, hbl, -, -, c2⟩ := (P.out.new H4.out.below).cells hlt
      have TS := total_take_succ hlt
      have t1 := total_take_le p (j + 1)
      rw [ET.out] at t1
      have q1 := GOOD.out _ (List.getElem_mem hlt)
      unfold okP at q1
      obtain ⟨n, hn⟩ : ∃ n : Nat, p[j].len = (n : Int) := ⟨p[j].len.toNat, by omega⟩
      rw [hn] at c2 TS
      rw [Int.toNat_natCast] at TS
      have TS2 := Lib.hid TS
      obtain ⟨s, hs⟩ : ∃ s, total (p.take j) = s := ⟨_, rfl⟩
      rw [hs] at TS2 TS ⊢
      have xs := IntWalk.i64_in ((s : Int) + (n : Int)) (by omega)
      clear q1 hn TS t1 hs
      go_wp2
      go_round
      case rel => exact ⟨j + 1, by omega, by go_num, by rw [TS2.out]; go_num⟩
      case measure => simp [intOf]; omega
    · have hge : ¬ (j : Int) < (p.length : Int) := by omega
      rw [List.take_of_length_le (by omega : p.length ≤ j), ET.out]
      obtain ⟨k, hk⟩ : ∃ k, x % (T + 1) = k := ⟨_, rfl⟩
      have hkT : k ≤ T := by have := Nat.mod_lt x (show 0 < T + 1 by omega); omega
      have x1 : IntKind.i64.wrap ((T : Int) + 1) = (T : Int) + 1 := IntWalk.i64_in _ (by omega)
      have x2 : ((x : Int)).tmod ((T : Int) + 1) = (k : Int) := by rw [Int.tmod_eq_emod_of_nonneg (by omega), ← hk, show (T : Int) + 1 = ((T + 1 : Nat) : Int) by omega]; omega
      have x3 : IntKind.i64.wrap (x : Int) = (x : Int) := IntWalk.i64_in _ (by omega)
      have y3 : IntKind.i64.wrap (y : Int) = (y : Int) := IntWalk.i64_in _ (by omega)
      have z3 : IntKind.i64.wrap (z : Int) = (z : Int) := IntWalk.i64_in _ (by omega)
      have z0 : ¬ ((T : Int) + 1 = 0) := by omega
      clear hk
      have H5 := Lib.hid (H4.out.ack_ (k : Int) k (by simp) (by rw [ET.out]; exact hkT) (by omega))
      go_wp2_with fail
      refine H5.out.mono ?_; rintro e w6 ⟨A6, c6, rfl, -, -, h6, -⟩
      rw [Nat.zero_add] at h6
      have H6 := Lib.hid h6
      obtain ⟨p6, hp6⟩ : ∃ p6, ackR p k = p6 := ⟨_, rfl⟩
      have T6 := Lib.hid (show total p6 = T - k by rw [← hp6, ackR_total, ET.out])
      rw [hp6] at H6
      obtain ⟨f, hf⟩ : ∃ f, y % (T - k + 1) = f := ⟨_, rfl⟩
      have hfT : f ≤ T - k := by have := Nat.mod_lt y (show 0 < T - k + 1 by omega); omega
      obtain ⟨n, hn⟩ : ∃ n, z % (T - k - f + 1) = n := ⟨_, rfl⟩
      have hnT : n ≤ T - k - f := by have := Nat.mod_lt z (show 0 < T - k - f + 1 by omega); omega
      obtain ⟨a, ha⟩ : ∃ a, k + f = a := ⟨_, rfl⟩
      have y1 : IntKind.i64.wrap ((T : Int) - (k : Int)) = (T : Int) - (k : Int) := IntWalk.i64_in _ (by omega)
      have y2 : IntKind.i64.wrap ((T : Int) - (k : Int) + 1) = (T : Int) - (k : Int) + 1 := IntWalk.i64_in _ (by omega)
      have y0 : ¬ ((T : Int) - (k : Int) + 1 = 0) := by omega
      have y4 : ((y : Int)).tmod ((T : Int) - (k : Int) + 1) = (f : Int) := by rw [Int.tmod_eq_emod_of_nonneg (by omega), ← hf, show (T : Int) - (k : Int) + 1 = ((T - k + 1 : Nat) : Int) by omega]; omega
      have y5 : IntKind.i64.wrap ((k : Int) + (f : Int)) = (a : Int) := by have := IntWalk.i64_in ((k : Int) + (f : Int)) (by omega); omega
      have u1 : IntKind.i64.wrap ((T : Int) - (a : Int)) = (T : Int) - (a : Int) := IntWalk.i64_in _ (by omega)
      have u2 : IntKind.i64.wrap ((T : Int) - (a : Int) + 1) = (T : Int) - (a : Int) + 1 := IntWalk.i64_in _ (by omega)
      have u0 : ¬ ((T : Int) - (a : Int) + 1 = 0) := by omega
      have u4 : ((z : Int)).tmod ((T : Int) - (a : Int) + 1) = (n : Int) := by
        rw [Int.tmod_eq_emod_of_nonneg (by omega), ← hn, show (T : Int) - (a : Int) + 1 = ((T - k - f + 1 : Nat) : Int) by omega]
        omega
      have CU := Lib.hid (cut_ok H6.out.line (a : Int) f n (by omega) (by rw [T6.out]; omega))
      have LC := Lib.hid (show total (cutL p6 f n) = n by rw [total_cutL, T6.out]; omega)
      have IC := Lib.hid (fun q (hq : q ∈ cutL p6 f n) => (cutL_in (fun r hr => (H6.out.line.ok r hr).2.2.2) f n q hq).2.1)
      have LL := Lib.hid (show (cutL p6 f n).length ≤ 160 from Nat.le_trans (cutL_len p6 f n) H6.out.line.n160)
      obtain ⟨L, hL⟩ : ∃ L, cutL p6 f n = L := ⟨_, rfl⟩
      rw [hL] at CU LC IC LL
      clear h6 hp6 hf hn hL H5 H4 x1 x2 x3 z0
      go_wp2_with fail
      refine CU.out.mono ?_; rintro e w7 ⟨⟨A7, c7, rfl, p7⟩, b7⟩
      have H7 := Lib.hid (H6.out.new b7)
      have P7 := Lib.hid p7
      have TE := Lib.hid (show k + total p6 = T by rw [T6.out]; omega)
      have NB := Lib.hid (show n ≤ 40960 by omega)
      clear p7 b7 H6 CU y0 y1 y2 y3 y4 y5 u0 u1 u2 u4 z3 T6 ha hfT hnT
      have l160 := LL.out
      go_wp2
      go_loop [19, 20] (fun n i => ∃ j : Nat, j ≤ L.length ∧ i = .int .i64 (j : Int) ∧ n = .int .i64 (total (L.take j) : Int)) (fun _ i => L.length - (intOf i).toNat)
      case atStart => exact ⟨0, Nat.zero_le _, rfl, by simp [total]⟩
      case round =>
        obtain ⟨j, hj, rfl, rfl⟩ := hrel
        by_cases hlt : j < L.length
        · have hlt' : (j : Int) < (L.length : Int) := by omega
          have j0 : (0 : Int) ≤ (j : Int) := by omega
          have xj := IntWalk.i64_in ((j : Int) + 1) (by omega)
          obtain ⟨b, o, rfl, hbl, -, -, c2⟩ := P7.out.cells hlt
          have TS := total_take_succ hlt
          have t1 := total_take_le L (j + 1)
          rw [LC.out] at t1
          have q1 := IC.out _ (List.getElem_mem hlt)
          obtain ⟨m, hm⟩ : ∃ m : Nat, L[j].len = (m : Int) := ⟨L[j].len.toNat, by omega⟩
          rw [hm] at c2 TS
          rw [Int.toNat_natCast] at TS
          have TS2 := Lib.hid TS
          obtain ⟨s, hs⟩ : ∃ s, total (L.take j) = s := ⟨_, rfl⟩
          rw [hs] at TS2 TS ⊢
          have nb := NB.out
          have xs := IntWalk.i64_in ((s : Int) + (m : Int)) (by omega)
          clear q1 hm TS t1 hs nb
          go_wp2
          go_round
          case rel => exact ⟨j + 1, by omega, by go_num, by rw [TS2.out]; go_num⟩
          case measure => simp [intOf]; omega
        · have hge : ¬ (j : Int) < (L.length : Int) := by omega
          rw [List.take_of_length_le (by omega : L.length ≤ j), LC.out]
          have x9 : IntKind.i64.wrap ((k : Int) - 1) = (k : Int) - 1 := IntWalk.i64_in _ (by omega)
          have CB := Lib.hid (cut_bad H7.out.line ((k : Int) - 1) 0 (by omega) (by omega) (by omega))
          go_wp2_with fail
          refine CB.out.mono ?_; rintro e w8 ⟨rfl, b8⟩
          have H8 := Lib.hid (H7.out.new b8)
          clear b8 CB H7
          go_wp2_with fail
          refine (start_any H8.out.line).mono ?_; rintro e w9 ⟨rfl, rfl⟩
          go_wp2_with fail
          refine H8.out.end_.mono ?_; rintro e w9 ⟨rfl, b9, h9⟩
          rw [TE.out]
          have H9 := Lib.hid h9
          clear b9 h9 H8
          go_wp2
          go_ret
          exact ⟨rfl, H9.out.below⟩

set_option maxRecDepth 100000 in
theorem lifted (os : Os) (started : os.Started) (H : Type) (enc : TypeId × Value → H) :
    ReturnsInHanded {} Try.checked os 6 .any (Rows.sendqSizesSpec.pre6 enc Try.prog Try.f6 Rows.sendqSizesRow.domain false) (Rows.sendqSizesSpec.post enc Try.prog Try.f6 false true false false) := by
  refine returnsInHanded_of_change (C := Try.checked) own started (by kernel_rfl) Try.func6
    (ChangeSpec.witness6 (enc := enc) (C := Try.checked) false ⟨#[], #[.slice none 0 0, .int .u16 0, .int .u16 0, .int .u16 0], []⟩ 8 (by kernel_rfl) (by kernel_rfl) (by kernel_rfl) (by kernel_rfl)) ?_
  intro W base args ds gs before hval0 hW hcnd _
  have hval : ∀ (j : Nat) t v, Try.f6.params[j]? = some t → args[j]? = some v → Value.okWide Try.prog W .any base t v := hval0
  have hW' := hW
  obtain ⟨p, q, hA0, hV, rfl, hfz, hnd⟩ := hW
  have hA : DataW.TrodAll enc Try.prog W 0 (fun _ => true) true Try.f6.params.toList args.toList ds p := hA0
  rw [Try.params6] at hA hval
  obtain ⟨v0, vs0, d0, ds0, p0, q0, hargs, rfl, rfl, h0, r0⟩ := trodAll_cons hA
  obtain ⟨v1, vs1, d1, ds1, p1, q1, rfl, rfl, rfl, h1, r1⟩ := trodAll_cons r0
  obtain ⟨v2, vs2, d2, ds2, p2, q2, rfl, rfl, rfl, h2, r2⟩ := trodAll_cons r1
  obtain ⟨v3, vs3, d3, ds3, p3, q3, rfl, rfl, rfl, h3, r3⟩ := trodAll_cons r2
  obtain ⟨rfl, rfl, rfl⟩ := trodAll_nil r3
  obtain rfl : args = #[v0, v1, v2, v3] := by cases args; simp_all
  obtain ⟨A0, c0, f0, rfl, b0⟩ := open_pcs Try.underlying31 Try.underlying55 (by kernel_rfl) rfl rfl rfl (by kernel_rfl) (by kernel_rfl) (by kernel_rfl) Try.underlying3 Try.underlying3 Try.underlying3 (hval 0 31 v0 rfl rfl) h0
  obtain ⟨a1, rfl, _, _, w1⟩ := open_int Try.underlying58 (hval 1 58 v1 rfl rfl) h1
  obtain ⟨a2, rfl, _, _, w2⟩ := open_int Try.underlying58 (hval 2 58 v2 rfl rfl) h2
  obtain ⟨a3, rfl, _, _, w3⟩ := open_int Try.underlying58 (hval 3 58 v3 rfl rfl) h3
  clear hA0 hval0
  exact law_close hW' laidOut (by kernel_rfl) rfl Try.underlying4 rfl ⟨rfl, rfl, rfl⟩ (walk W A0 c0 f0 b0 a1 w1 a2 w2 a3 w3)

theorem over : Rows.sendqSizesRow.holds Try.pinned (OpenSpec.ofChange Rows.sendqSizesSpec) :=
  OpenClaim.holds_of_wide 6 Try.f6 rfl rfl rfl rfl rfl rfl rfl ⟨rfl, rfl, rfl, rfl, rfl⟩ rfl rfl rfl rfl rfl (by kernel_rfl) Try.func6 (by kernel_rfl)
    (of_decide_eq_true (by kernel_rfl)) (by unfold Func.isWrapper; first | (rw [if_pos (by decide +kernel)]; kernel_rfl) | (rw [if_neg (by decide +kernel)]; exact ⟨rfl, rfl⟩))
    (fun os started H enc _ => lifted os started H enc)

theorem proved : Rows.SendqSizesSaid := over

end Go.Proofs.Ytgmejifacpefdaa.sendqSizes
