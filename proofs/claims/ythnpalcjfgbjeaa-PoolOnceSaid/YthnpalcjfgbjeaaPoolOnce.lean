/- Whatever block, number of times and choice come in, 'pantlerlaw13.PoolOnce' returns true. No condition. -/
import Derived.Test.YthnpalcjfgbjeaaPoZ
import Derived.Test.YthnpalcjfgbjeaaPoO
namespace Go.Proofs.Ythnpalcjfgbjeaa.poolOnce
open Go.ChangeShapes Go.WideShapes Go.ChangeAt Go.RowKit Go.Deep Fr Di Ke Rk Gx Po
set_option linter.unusedVariables false


set_option maxRecDepth 100000 in
set_option maxHeartbeats 8000000 in
theorem walk (w : World) (x : Int) (wx : (Lit.int .u8 x).wf = true) (y : Int) (wy : (Lit.int .u8 y).wf = true) (pn : Bool) :
    Calls Try.prog 4 #[.int .u8 x, .int .u8 y, .bool pn] w fun e w' => e = .returned (.bool true) ∧ Below w.heap.size w w' := by
  obtain ⟨x, rfl, hx⟩ := wf_u8 wx
  obtain ⟨y, rfl, hy⟩ := wf_u8 wy
  obtain ⟨b, hbq⟩ : ∃ b : Nat, x % 9 = b := ⟨_, rfl⟩
  have hq1 : (x : Int) % 9 = (b : Int) := by omega
  have hq2 : (x : Int).tmod 9 = (b : Int) := by rw [Int.tmod_eq_emod_of_nonneg (by omega), hq1]
  have hb : b < 9 := by omega
  obtain ⟨t, htq⟩ : ∃ t : Nat, y % 20 = t := ⟨_, rfl⟩
  have ht1 : (y : Int) % 20 = (t : Int) := by omega
  have ht2 : (y : Int).tmod 20 = (t : Int) := by rw [Int.tmod_eq_emod_of_nonneg (by omega), ht1]
  have ht : t < 20 := by omega
  clear hbq htq
  have AL := Lib.hid (fun W => Po.alive_any W)
  go_enter Try.func4, Try.ntmps4
  go_wp2_with fail
  refine (AL.out w).mono ?_; rintro e w1 ⟨rfl, b1⟩
  have B1 := Lib.hid b1
  clear b1 AL
  have NW := Lib.hid (new_kb 4 12 w1 (by omega) (by omega) (by omega) (by omega))
  go_wp2_with fail
  refine NW.out.mono ?_; rintro e w2 ⟨gk, lab1, rfl, k2, b2⟩
  have NP := Lib.hid (new_any 3 k2 b2.size (by omega) (by omega) (by omega))
  have B2 := Lib.hid b2
  have K2 := Lib.hid k2
  clear NW k2 b2
  go_wp2_with fail
  refine NP.out.mono ?_; rintro e w3 ⟨g, rfl, hg, gs, c, lab2, h3, l3⟩
  have B3 := Lib.hid (B2.out.trans (l3.chg.below B2.out.size (fun i hi => K2.out.ge i hi)))
  have H3 := Lib.hid (show PB w1.heap.size w3 lab2 g gk gs c o0 from h3)
  have CG := Lib.hid (get_any H3.out B3.out.size 0 (newAt_small 4 12 3) (by omega) (by decide +kernel) (by decide +kernel) (b : Int) 256 0 0)
  rw [o0_get b hb] at CG
  (try dsimp only at CG)
  clear NP K2 B2 h3 l3 hg
  go_wp2_with fail
  refine CG.out.mono ?_; rintro e w4 ⟨lab4, rfl, h4, l4⟩
  have B4 := Lib.hid (B3.out.trans (PStep.below H3.out B3.out.size l4))
  have H4 := Lib.hid h4
  clear CG h4 l4 H3 B3
  go_upto_region 8 with fail
  go_loopw [14] (fun i wr => ∃ (j : Nat) (lab' : Nat → Nat), j ≤ t ∧ i = .int .i64 (j : Int) ∧ Hid (PB w1.heap.size wr lab' g gk gs c (o1 b 1)) ∧ Hid (Below w1.heap.size w1 wr)) (fun i _ => t - (intOf i).toNat)
  case atStart => exact ⟨0, lab4, Nat.zero_le _, rfl, H4, B4⟩
  case round =>
    obtain ⟨j, lab', hj, rfl, HR, BR⟩ := hrel
    clear H4 B4
    by_cases hlt : j < t
    · have hlt' : (j : Int) < (t : Int) := by omega
      have xj := IntWalk.i64_in ((j : Int) + 1) (by omega)
      have CG := Lib.hid (get_any HR.out BR.out.size 0 (k1_small b) (by omega) (o1_few b 1 (by omega)) (by show 1 < 1000000; omega) (b : Int) 256 0 0)
      rw [o1_get b 1] at CG
      (try dsimp only at CG)
      go_wp2_with fail
      refine CG.out.mono ?_; rintro e w5 ⟨lab5, rfl, h5, l5⟩
      have B5 := Lib.hid (BR.out.trans (PStep.below HR.out BR.out.size l5))
      have H5 := Lib.hid h5
      have CU := Lib.hid (unpin_any H5.out B5.out.size 0 (o1_few b 2 (by omega)))
      rw [o1_unpin b 1] at CU
      clear CG h5 l5 HR BR
      go_wp2_with fail
      refine CU.out.mono ?_; rintro e w6 ⟨rfl, h6, l6⟩
      have B6 := Lib.hid (B5.out.trans (PStep.below H5.out B5.out.size l6))
      have H6 := Lib.hid h6
      clear CU h6 l6 H5 B5
      go_wp2
      go_roundw
      case rel => exact ⟨j + 1, lab5, by omega, by go_num, H6, B6⟩
      case measure => simp [intOf]; omega
    · have hlt' : ¬ (j : Int) < (t : Int) := by omega
      have CI := Lib.hid (fills_any HR.out.po)
      have CQ := Lib.hid (pins_any HR.out.po 0)
      rw [o1_pins b] at CQ
      have e1 : ((o1 b 1).fills : Int) = 1 := rfl
      rw [e1] at CI
      clear e1
      go_wp2_with fail
      refine CI.out.mono ?_; rintro e wq ⟨rfl, rfl⟩
      clear CI
      go_wp2_with fail
      refine CQ.out.mono ?_; rintro e w6 ⟨rfl, b6⟩
      have H6 := Lib.hid (HR.out.new b6)
      have B6 := Lib.hid (BR.out.trans (b6.mono BR.out.size))
      have CH := Lib.hid (has_any H6.out.po (b : Int))
      rw [o1_has b 1] at CH
      clear CQ b6 HR BR
      go_wp2_with fail
      refine CH.out.mono ?_; rintro e w7 ⟨rfl, b7⟩
      have H7 := Lib.hid (H6.out.new b7)
      have B7 := Lib.hid (B6.out.trans (b7.mono B6.out.size))
      clear CH b7 H6 B6
      cases pn with
      | true =>
        have H8 := H7
        have B8 := B7
        have W8 : w7 = w7 := rfl
        clear H7 B7
        have b9 : Below w7.heap.size w7 (w7.alloc (.cells #[.int .i64 (b : Int)] 3)) := (Below.refl _ _).alloc (Nat.le_refl _) _
        have B9 := Lib.hid (B8.out.trans (b9.mono B8.out.size))
        have H9 := Lib.hid (H8.out.new b9)
        have R9 := Lib.hid (show RowG (w7.alloc (.cells #[.int .i64 (b : Int)] 3)) 1 (some ⟨w7.heap.size, 0, none⟩) 1 1 (vi [(b : Int)]) from rowG_blk (n := 1) (sz := 1) (Blk.new w7 3 #[.int .i64 (b : Int)]) rfl (by decide))
        have A9 := Lib.hid (show ∀ a, (some ⟨w7.heap.size, 0, none⟩ : Option Addr) = some a → a.block < (w7.alloc (.cells #[.int .i64 (b : Int)] 3)).heap.size ∧ lab' a.block = 0 from fun a e => by cases e; exact ⟨by simp, H8.out.kb.lab0 (Nat.le_refl _)⟩)
        have CF := Lib.hid (forget_any H9.out B9.out.size (some ⟨w7.heap.size, 0, none⟩) 1 [(b : Int)] R9.out A9.out (by show 1 ≤ 1000; omega))
        rw [o2_is b] at CF
        clear b9 H8 B8 R9 A9
        go_wp2_with fail
        refine CF.out.mono ?_; rintro e wa ⟨rfl, ha, la⟩
        have Ba := Lib.hid (B9.out.trans (PStep.below H9.out B9.out.size la))
        have Ha := Lib.hid ha
        have CG := Lib.hid (get_any Ha.out Ba.out.size 0 (k1_small b) (by omega) (o2_few b) (by show 1 < 1000000; omega) (b : Int) 256 0 0)
        rw [o2_get b hb] at CG
        (try dsimp only at CG)
        clear CF ha la H9 B9
        go_wp2_with fail
        refine CG.out.mono ?_; rintro e wb ⟨lab3, rfl, hb3, lb3⟩
        have Bb := Lib.hid (Ba.out.trans (PStep.below Ha.out Ba.out.size lb3))
        have Hb := Lib.hid hb3
        have CI := Lib.hid (fills_any Hb.out.po)
        clear CG hb3 lb3 Ha Ba
        go_wp2_with fail
        refine CI.out.mono ?_; rintro e wc ⟨rfl, rfl⟩
        clear CI
        have CQ := Lib.hid (pins_any Hb.out.po 0)
        rw [o4_pins b] at CQ
        rw [show ((o4 b).fills : Int) = 2 from rfl]
        go_wp2_with fail
        refine CQ.out.mono ?_; rintro e wd ⟨rfl, bd⟩
        have Bd := Lib.hid (Bb.out.trans (bd.mono Bb.out.size))
        clear CQ bd Hb Bb
        go_wp2
        go_ret
        exact ⟨rfl, B1.out.trans (Bd.out.mono B1.out.size)⟩
      | false =>
        have CU := Lib.hid (unpin_any H7.out B7.out.size 0 (o1_few b 1 (by omega)))
        rw [o1_unpin b 0] at CU
        go_wp2_with fail
        refine CU.out.mono ?_; rintro e w8 ⟨rfl, h8, l8⟩
        have B8 := Lib.hid (B7.out.trans (PStep.below H7.out B7.out.size l8))
        have H8 := Lib.hid (show PB w1.heap.size w8 lab' g gk gs c (o1 b 0) from h8)
        clear CU h8 l8 H7 B7
        have b9 : Below w8.heap.size w8 (w8.alloc (.cells #[.int .i64 (b : Int)] 3)) := (Below.refl _ _).alloc (Nat.le_refl _) _
        have B9 := Lib.hid (B8.out.trans (b9.mono B8.out.size))
        have H9 := Lib.hid (H8.out.new b9)
        have R9 := Lib.hid (show RowG (w8.alloc (.cells #[.int .i64 (b : Int)] 3)) 1 (some ⟨w8.heap.size, 0, none⟩) 1 1 (vi [(b : Int)]) from rowG_blk (n := 1) (sz := 1) (Blk.new w8 3 #[.int .i64 (b : Int)]) rfl (by decide))
        have A9 := Lib.hid (show ∀ a, (some ⟨w8.heap.size, 0, none⟩ : Option Addr) = some a → a.block < (w8.alloc (.cells #[.int .i64 (b : Int)] 3)).heap.size ∧ lab' a.block = 0 from fun a e => by cases e; exact ⟨by simp, H8.out.kb.lab0 (Nat.le_refl _)⟩)
        have CF := Lib.hid (forget_any H9.out B9.out.size (some ⟨w8.heap.size, 0, none⟩) 1 [(b : Int)] R9.out A9.out (by show 1 ≤ 1000; omega))
        rw [o3_is b] at CF
        clear b9 H8 B8 R9 A9
        go_wp2_with fail
        refine CF.out.mono ?_; rintro e wa ⟨rfl, ha, la⟩
        have Ba := Lib.hid (B9.out.trans (PStep.below H9.out B9.out.size la))
        have Ha := Lib.hid ha
        have CG := Lib.hid (get_any Ha.out Ba.out.size 0 (k1_small b) (by omega) (o3_few b) (by show 1 < 1000000; omega) (b : Int) 256 0 0)
        rw [o3_get b hb] at CG
        (try dsimp only at CG)
        clear CF ha la H9 B9
        go_wp2_with fail
        refine CG.out.mono ?_; rintro e wb ⟨lab3, rfl, hb3, lb3⟩
        have Bb := Lib.hid (Ba.out.trans (PStep.below Ha.out Ba.out.size lb3))
        have Hb := Lib.hid hb3
        have CI := Lib.hid (fills_any Hb.out.po)
        clear CG hb3 lb3 Ha Ba
        go_wp2_with fail
        refine CI.out.mono ?_; rintro e wc ⟨rfl, rfl⟩
        clear CI
        rw [show ((o5 b).fills : Int) = 2 from rfl]
        go_wp2
        go_ret
        exact ⟨rfl, B1.out.trans (Bb.out.mono B1.out.size)⟩

set_option maxRecDepth 100000 in
theorem lifted (os : Os) (started : os.Started) (H : Type) (enc : TypeId × Value → H) :
    ReturnsInHanded {} Try.checked os 4 .any (Rows.poolOnceSpec.pre6 enc Try.prog Try.f4 Rows.poolOnceRow.domain false) (Rows.poolOnceSpec.post enc Try.prog Try.f4 false true false false) := by
  refine returnsInHanded_of_change (C := Try.checked) own started (by kernel_rfl) Try.func4
    (ChangeSpec.witness6 (enc := enc) (C := Try.checked) false ⟨#[], #[.int .u8 0, .int .u8 0, .bool false], []⟩ 8 (by kernel_rfl) (by kernel_rfl) (by kernel_rfl) (by kernel_rfl)) ?_
  intro W base args ds gs before hval0 hW hcnd _
  have hval : ∀ (j : Nat) t v, Try.f4.params[j]? = some t → args[j]? = some v → Value.okWide Try.prog W .any base t v := hval0
  have hW' := hW
  obtain ⟨p, q, hA0, hV, rfl, hfz, hnd⟩ := hW
  have hA : DataW.TrodAll enc Try.prog W 0 (fun _ => true) true Try.f4.params.toList args.toList ds p := hA0
  rw [Try.params4] at hA hval
  obtain ⟨v0, vs0, d0, ds0, p0, q0, hargs, rfl, rfl, h0, r0⟩ := trodAll_cons hA
  obtain ⟨v1, vs1, d1, ds1, p1, q1, rfl, rfl, rfl, h1, r1⟩ := trodAll_cons r0
  obtain ⟨v2, vs2, d2, ds2, p2, q2, rfl, rfl, rfl, h2, r2⟩ := trodAll_cons r1
  obtain ⟨rfl, rfl, rfl⟩ := trodAll_nil r2
  obtain rfl : args = #[v0, v1, v2] := by cases args; simp_all
  obtain ⟨a0, rfl, _, _, w0⟩ := open_int Try.underlying5 (hval 0 5 v0 rfl rfl) h0
  obtain ⟨a1, rfl, _, _, w1⟩ := open_int Try.underlying5 (hval 1 5 v1 rfl rfl) h1
  obtain ⟨a2, rfl, _, _⟩ := open_bool Try.underlying4 (hval 2 4 v2 rfl rfl) h2
  clear hA0 hval0
  exact law_close hW' laidOut (by kernel_rfl) rfl Try.underlying4 rfl ⟨rfl, rfl, rfl⟩ (walk W a0 w0 a1 w1 a2)

theorem over : Rows.poolOnceRow.holds Try.pinned (OpenSpec.ofChange Rows.poolOnceSpec) :=
  OpenClaim.holds_of_wide 4 Try.f4 rfl rfl rfl rfl rfl rfl rfl ⟨rfl, rfl, rfl, rfl, rfl⟩ rfl rfl rfl rfl rfl (by kernel_rfl) Try.func4 (by kernel_rfl)
    (of_decide_eq_true (by kernel_rfl)) (by unfold Func.isWrapper; first | (rw [if_pos (by decide +kernel)]; kernel_rfl) | (rw [if_neg (by decide +kernel)]; exact ⟨rfl, rfl⟩))
    (fun os started H enc _ => lifted os started H enc)

theorem proved : Rows.PoolOnceSaid := over

end Go.Proofs.Ythnpalcjfgbjeaa.poolOnce
