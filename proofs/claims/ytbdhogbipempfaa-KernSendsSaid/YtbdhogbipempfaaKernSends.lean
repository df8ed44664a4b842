/- Whatever text, place and steps come in, 'pantlerlaw09.KernSends' returns true and leaves them as they were. No condition. -/
import Derived.Test.YtbdhogbipempfaaKS
namespace Go.Proofs.Ytbdhogbipempfaa.kernSends
open Go.ChangeShapes Go.WideShapes Go.ChangeAt Go.RowKit Go.Deep Di
set_option linter.unusedVariables false


set_option maxRecDepth 100000 in
set_option maxHeartbeats 4000000 in
theorem walk (w : World) (s : ByteArray) (ws : s.size ≤ maxLen) (off : Int) (wf : (Lit.int .u8 off).wf = true) (A : Option Addr) (n c : Nat) (fn : Nat → KAct) (ha : KActs w A n fn) :
    Calls Try.prog 4 #[.string s, .int .u8 off, .slice A n c] w fun e w' => e = .returned (.bool true) ∧ Below w.heap.size w w' := by
  have wu : 0 ≤ off ∧ off ≤ 255 := by simpa [Lit.wf, IntKind.min, IntKind.max, IntKind.signed, IntKind.bits] using wf
  have HA := Lib.hid ha
  clear ha wf
  have AL := Lib.hid (Ke.alive_any w)
  by_cases hn : Ke.NearL n fn
  · have FA := Lib.hid (fun (W : World) (hw : Below w.heap.size w W) => Ke.far_any W A n c fn (Ke.kacts_new HA.out hw) false ⟨fun h => absurd h (by decide), fun h => absurd hn h⟩)
    have HN := Lib.hid hn
    clear hn
    by_cases h1 : s.size < 1
    · go_enter Try.func4, Try.ntmps4
      go_wp2_with fail
      refine AL.out.mono ?_; rintro e w1 ⟨rfl, b1⟩
      have B1 := Lib.hid b1
      clear b1
      go_wp2_with fail
      refine (FA.out _ B1.out).mono ?_; rintro e w2 ⟨rfl, b2⟩
      have B2 := Lib.hid (B1.out.trans (b2.mono B1.out.size))
      clear b2
      have g1 : (s.size : Int) < 1 := by omega
      go_wp2
      go_ret
      exact ⟨rfl, B2.out⟩
    by_cases h2 : 256 - off < s.size
    · go_enter Try.func4, Try.ntmps4
      go_wp2_with fail
      refine AL.out.mono ?_; rintro e w1 ⟨rfl, b1⟩
      have B1 := Lib.hid b1
      clear b1
      go_wp2_with fail
      refine (FA.out _ B1.out).mono ?_; rintro e w2 ⟨rfl, b2⟩
      have B2 := Lib.hid (B1.out.trans (b2.mono B1.out.size))
      clear b2
      have g1 : ¬ (s.size : Int) < 1 := by omega
      have x1 := IntWalk.i64_in off (by omega)
      have x2 := IntWalk.i64_in (256 - off) (by omega)
      have g2 : (s.size : Int) > 256 - off := by omega
      go_wp2
      go_ret
      exact ⟨rfl, B2.out⟩
    obtain ⟨o, rfl⟩ : ∃ o : Nat, off = (o : Int) := ⟨off.toNat, by omega⟩
    go_enter Try.func4, Try.ntmps4
    go_wp2_with fail
    refine AL.out.mono ?_; rintro e w1 ⟨rfl, b1⟩
    have B1 := Lib.hid b1
    clear b1
    go_wp2_with fail
    refine (FA.out _ B1.out).mono ?_; rintro e w2 ⟨rfl, b2⟩
    have B2 := Lib.hid (B1.out.trans (b2.mono B1.out.size))
    clear b2 FA AL
    have g1 : ¬ (s.size : Int) < 1 := by omega
    have x1 := IntWalk.i64_in (o : Int) (by omega)
    have x2 := IntWalk.i64_in (256 - (o : Int)) (by omega)
    have g2 : ¬ (s.size : Int) > 256 - (o : Int) := by omega
    go_wp2_with fail
    refine (Ke.new_kb 4 8 w2 (by omega) (by omega) (by omega) (by omega)).mono ?_; rintro e w3 ⟨g, lab, rfl, k3, b3⟩
    have K3 := Lib.hid k3
    have B3 := Lib.hid (B2.out.trans (b3.mono B2.out.size))
    have CA := Lib.hid (Ke.call_kb k3 b3.size 0 (Ke.newK_small 4 8) (by omega) (Ke.bare 1 1 0 0 0) Ke.noX (Ke.bare_in _ _ _ _ _ _ _ (by omega)))
    rw [Ke.sK1_call] at CA
    have hz3 := b3.size
    clear b3 k3
    go_wp2_with fail
    refine CA.out.mono ?_; rintro e w4 ⟨A4, c4, rfl, lab4, k4, L4, b4, _, _⟩
    have K4 := Lib.hid k4
    have B4 := Lib.hid (B3.out.trans (b4.mono B2.out.size))
    have hz2 : w2.heap.size ≤ w4.heap.size := Nat.le_trans hz3 b4.size
    clear k4 L4 b4 CA K3
    obtain ⟨W, hW⟩ : ∃ W, W = w4.alloc (.cells #[.int .i64 0, .slice A4 0 c4] 31) := ⟨_, rfl⟩
    have b5 : Below w4.heap.size w4 W := by rw [hW]; exact (Below.refl _ w4).alloc (Nat.le_refl _) _
    have D5 := Lib.hid (show Blk W w4.heap.size 31 #[.int .i64 0, .slice A4 0 c4] by rw [hW]; exact Blk.new w4 _ _)
    have K5 := Lib.hid (K4.out.new b5)
    have B5 := Lib.hid (B4.out.trans (b5.mono B4.out.size))
    have HW := Lib.hid hW
    have l5 : lab4 w4.heap.size = 0 := K4.out.lab0 (Nat.le_refl _)
    have hz5 : w2.heap.size ≤ W.heap.size := Nat.le_trans hz2 b5.size
    have hzw : w4.heap.size < W.heap.size := by rw [hW]; simp
    clear hW b5
    go_upto_region 7 with fail
    rw [show w4.alloc (.cells #[.int .i64 0, .slice A4 0 c4] 31) = W from HW.out.symm]
    clear HW K4
    have d5 := (D5.out.cell 0).trans (show _ = some (.int .i64 0) from rfl)
    obtain ⟨A6, c6, W6, heq, s6, b6', n6⟩ := conv_src s (by omega) W

    have K6 := Lib.hid (K5.out.new b6')
    have D6 := Lib.hid (D5.out.older (older_below b6'))
    have B6 := Lib.hid (B5.out.trans (b6'.mono B5.out.size))
    have hz6 : w2.heap.size ≤ W6.heap.size := Nat.le_trans hz5 b6'.size
    have CW := Lib.hid (Ke.call_kb K6.out hz6 0 Ke.sK1_small (by omega) _ _ (Ke.write_in K5.out s6 (by omega) n6 5 1 0 (o : Int) (by omega)))
    rw [Ke.sK2_call o s.data.toList (by have : s.data.toList.length = s.size := rfl; omega)] at CW
    have hzw6 : w4.heap.size < W6.heap.size := Nat.lt_of_lt_of_le hzw b6'.size
    clear s6 b6' n6 K5 D5 B5
    go_wp2_with fail
    refine CW.out.mono ?_; rintro e w7 ⟨A7, c7, rfl, lab7, k7, L7, b7, _, _⟩
    have K7 := Lib.hid k7
    have D7 := Lib.hid (L7.blk0 D6.out l5)
    have l7 : lab7 w4.heap.size = 0 := L7.zero l5 hzw6
    have B7 := Lib.hid (B6.out.trans (b7.mono B2.out.size))
    have hz7 : w2.heap.size ≤ w7.heap.size := Nat.le_trans hz6 b7.size
    have hzw7 : w4.heap.size < w7.heap.size := D7.out.lt
    clear k7 L7 b7 CW K6 D6
    obtain ⟨W8, hW8⟩ : ∃ W8, W8 = w7.alloc (.cells #[.int .i64 11, .int .i64 1, .int .i64 0, .int .i64 0, .int .i64 0, .string ⟨#[]⟩, .slice none 0 0, .slice none 0 0] 44) := ⟨_, rfl⟩
    have b8 : Below w7.heap.size w7 W8 := by rw [hW8]; exact (Below.refl _ w7).alloc (Nat.le_refl _) _
    have C8 := Lib.hid (show Blk W8 w7.heap.size 44 #[.int .i64 11, .int .i64 1, .int .i64 0, .int .i64 0, .int .i64 0, .string ⟨#[]⟩, .slice none 0 0, .slice none 0 0] by rw [hW8]; exact Blk.new w7 _ _)
    have K8 := Lib.hid (K7.out.new b8)
    have D8 := Lib.hid (D7.out.older (older_below b8))
    have B8 := Lib.hid (B7.out.trans (b8.mono B7.out.size))
    have hz8 : w2.heap.size ≤ W8.heap.size := Nat.le_trans hz7 b8.size
    have hzw8 : w4.heap.size < W8.heap.size := D8.out.lt
    have HW8 := Lib.hid hW8
    have OF := Lib.hid (Ke.of_call ⟨11, 1, 0, 0, 0, ⟨#[]⟩, none, 0, [], none, 0, []⟩ W8 ⟨(by decide), (by decide), (by decide), Nat.zero_le _, fun i hi => absurd hi (by simp), fun x hx => (by cases hx), fun _ => ⟨rfl, rfl⟩, fun i hi => absurd hi (by simp), fun x hx => (by cases hx), fun _ => ⟨rfl, rfl⟩⟩ (Nat.zero_le _) (Nat.zero_le _) (Nat.zero_le _))
    clear hW8 b8 K7 D7
    go_upto_region 9 with fail
    rw [show w7.alloc (.cells #[.int .i64 11, .int .i64 1, .int .i64 0, .int .i64 0, .int .i64 0, .string ⟨#[]⟩, .slice none 0 0, .slice none 0 0] 44) = W8 from HW8.out.symm]
    go_wp2_with (first
      | (refine wpList_load_row rfl 44 (.tmp 11) rfl w7.heap.size rfl 44 _ (0, 0) _ C8.out Try.underlying44 rfl Ke.rcall_info ?_)
      | fail)
    refine OF.out.mono ?_; rintro e w9 ⟨⟨Ab, cb, Ap, cp, Al, cl⟩, he, m⟩
    obtain ⟨hAl, hcl⟩ := m.nl rfl
    have hAl' : Al = none := hAl
    have hcl' : cl = 0 := hcl
    subst hAl' hcl'
    have he' : e = .returned (.agg #[.int .i64 11, .int .i64 1, .int .i64 0, .int .i64 0, .int .i64 0, .slice Ab 0 cb, .slice Ap 0 cp, .slice none 0 0]) := he
    subst he'
    have b9 := m.below
    have M9 := Lib.hid m
    have K9 := Lib.hid (K8.out.new b9)
    have D9 := Lib.hid (D8.out.older (older_below b9))
    have B9 := Lib.hid (B8.out.trans (b9.mono B8.out.size))
    have hz9 : w2.heap.size ≤ w9.heap.size := Nat.le_trans hz8 b9.size
    have hzw9 : w4.heap.size < w9.heap.size := D9.out.lt
    clear he hAl hcl m b9 OF C8 HW8 D8
    obtain ⟨WA, hWA⟩ : ∃ WA, WA = w9.alloc (.cells #[.int .i64 11, .int .i64 1, .int .i64 0, .int .i64 0, .int .i64 0, .slice Ab 0 cb, .slice Ap 0 cp, .slice none 0 0] 37) := ⟨_, rfl⟩
    have bA : Below w9.heap.size w9 WA := by rw [hWA]; exact (Below.refl _ w9).alloc (Nat.le_refl _) _
    have CA := Lib.hid (show Blk WA w9.heap.size 37 #[.int .i64 11, .int .i64 1, .int .i64 0, .int .i64 0, .int .i64 0, .slice Ab 0 cb, .slice Ap 0 cp, .slice none 0 0] by rw [hWA]; exact Blk.new w9 _ _)
    have KA := Lib.hid (K9.out.new bA)
    have DA := Lib.hid (D9.out.older (older_below bA))
    have BA := Lib.hid (B9.out.trans (bA.mono B9.out.size))
    have hzA : w2.heap.size ≤ WA.heap.size := Nat.le_trans hz9 bA.size
    have hb9 := Lib.hid bA
    have HWA := Lib.hid hWA
    clear hWA bA
    go_upto_region 10 with fail
    rw [show w9.alloc (.cells #[.int .i64 11, .int .i64 1, .int .i64 0, .int .i64 0, .int .i64 0, .slice Ab 0 cb, .slice Ap 0 cp, .slice none 0 0] 37) = WA from HWA.out.symm]
    have c7 := (CA.out.cell 7).trans (show _ = some (.slice none 0 0) from rfl)
    have d0 := (DA.out.cell 0).trans (show _ = some (.int .i64 0) from rfl)
    obtain ⟨i0, z0, hi, hz, hzz, hby, hzs⟩ := pcs_info
    have INF := Lib.hid (And.intro hi (And.intro hz (And.intro hzz (And.intro hby hzs))))
    clear hi hz hzz hby hzs HWA
    have hS := (show Hid (WA.drew.cell? ⟨w9.heap.size, 7, none⟩ = some (.slice none 0 0) ∧ WA.drew.cell? ⟨w4.heap.size, 0, none⟩ = some (.int .i64 0)) from Lib.hid ⟨c7, d0⟩)
    refine wp_head_held (S := fun w' => Hid (w'.cell? ⟨w9.heap.size, 7, none⟩ = some (.slice none 0 0) ∧ w'.cell? ⟨w4.heap.size, 0, none⟩ = some (.int .i64 0))) 11 (by kernel_rfl) rfl rfl (by kernel_rfl) ?_
    simp only [List.take_succ_cons, List.take_zero, List.drop_succ_cons, List.drop_zero]
    refine held_take (i := 0) (d := (some 58)) (v := ?_) rfl rfl (by kernel_rfl) (by kernel_rfl) (by kernel_rfl) (fun _ _ _ h => h) (by rfl) ?_ hS ?_
    rotate_left
    · intro w' hSw; (try dsimp only at hSw); go_simp <;> with_reducible rfl
    simp only [Act.put, List.setIfInBounds_toArray, List.set_cons_zero, List.set_cons_succ]
    refine held_take (i := 1) (d := (some 59)) (v := ?_) rfl rfl (by kernel_rfl) (by kernel_rfl) (by kernel_rfl) (fun _ _ _ h => h) (by rfl) ?_ hS ?_
    rotate_left
    · intro w' hSw; have hc := hSw.out.1; clear hSw; go_simp <;> with_reducible rfl
    simp only [Act.put, List.setIfInBounds_toArray, List.set_cons_zero, List.set_cons_succ]
    refine held_take (i := 2) (d := (some 60)) (v := ?_) rfl rfl (by kernel_rfl) (by kernel_rfl) (by kernel_rfl) (fun _ _ _ h => h) (by rfl) ?_ hS ?_
    rotate_left
    · intro w' hSw; (try dsimp only at hSw); go_simp <;> with_reducible rfl
    simp only [Act.put, List.setIfInBounds_toArray, List.set_cons_zero, List.set_cons_succ]
    refine held_take (i := 3) (d := (some 61)) (v := ?_) rfl rfl (by kernel_rfl) (by kernel_rfl) (by kernel_rfl) (fun _ _ _ h => h) (by rfl) ?_ hS ?_
    rotate_left
    · intro w' hSw; have hc := hSw.out.2; clear hSw; go_simp <;> with_reducible rfl
    simp only [Act.put, List.setIfInBounds_toArray, List.set_cons_zero, List.set_cons_succ]
    refine held_take (i := 4) (d := (some 62)) (v := ?_) rfl rfl (by kernel_rfl) (by kernel_rfl) (by kernel_rfl) (fun _ _ _ h => h) (by rfl) ?_ hS ?_
    rotate_left
    · intro w' hSw; (try dsimp only at hSw); go_simp <;> with_reducible rfl
    simp only [Act.put, List.setIfInBounds_toArray, List.set_cons_zero, List.set_cons_succ]
    refine held_take (i := 5) (d := (some 63)) (v := ?_) rfl rfl (by kernel_rfl) (by kernel_rfl) (by kernel_rfl) (fun _ _ _ h => h) (by rfl) ?_ hS ?_
    rotate_left
    · intro w' hSw; (try dsimp only at hSw); go_simp <;> with_reducible rfl
    simp only [Act.put, List.setIfInBounds_toArray, List.set_cons_zero, List.set_cons_succ]
    refine held_take (i := 6) (d := (some 64)) (v := ?_) rfl rfl (by kernel_rfl) (by kernel_rfl) (by kernel_rfl) (fun _ _ _ h => h) (by rfl) ?_ hS ?_
    rotate_left
    · intro w' hSw; (try dsimp only at hSw); go_simp <;> with_reducible rfl
    simp only [Act.put, List.setIfInBounds_toArray, List.set_cons_zero, List.set_cons_succ]
    refine held_take (i := 7) (d := (some 65)) (v := ?_) rfl rfl (by kernel_rfl) (by kernel_rfl) (by kernel_rfl) (fun _ _ _ h => h) (by rfl) ?_ hS ?_
    rotate_left
    · intro w' hSw; (try dsimp only at hSw); go_simp <;> with_reducible rfl
    simp only [Act.put, List.setIfInBounds_toArray, List.set_cons_zero, List.set_cons_succ]
    refine held_one (i := 8) (by kernel_rfl) rfl (by rfl) ?_
    go_simp
    refine (Ke.piece_any _ _ _ _).mono ?_; rintro e wp ⟨rfl, bp⟩
    have bp' : Below WA.heap.size WA wp := ⟨bp.os, bp.tape, bp.output, bp.size, bp.block⟩
    have hzp := bp'.size
    have hS : Hid (wp.cell? ⟨w9.heap.size, 7, none⟩ = some (.slice none 0 0) ∧ wp.cell? ⟨w4.heap.size, 0, none⟩ = some (.int .i64 0)) := Lib.hid ⟨(bp'.cell (p := ⟨w9.heap.size, 7, none⟩) CA.out.lt).trans c7, (bp'.cell (p := ⟨w4.heap.size, 0, none⟩) DA.out.lt).trans d0⟩
    refine ⟨hS, ?_⟩
    clear bp
    (try simp only [Act.put, List.setIfInBounds_toArray, List.set_cons_zero, List.set_cons_succ])
    refine held_one (i := 9) (by kernel_rfl) rfl (by rfl) ?_
    go_simp
    have hb1 : Below WA.heap.size WA (wp.alloc (.cells #[.int .i64 0, .int .i64 (o : Int), .int .i64 (s.size : Int)] 55)) := bp'.alloc hzp _
    have hS : Hid ((wp.alloc (.cells #[.int .i64 0, .int .i64 (o : Int), .int .i64 (s.size : Int)] 55)).cell? ⟨w9.heap.size, 7, none⟩ = some (.slice none 0 0) ∧ (wp.alloc (.cells #[.int .i64 0, .int .i64 (o : Int), .int .i64 (s.size : Int)] 55)).cell? ⟨w4.heap.size, 0, none⟩ = some (.int .i64 0)) := Lib.hid ⟨(hb1.cell (p := ⟨w9.heap.size, 7, none⟩) CA.out.lt).trans c7, (hb1.cell (p := ⟨w4.heap.size, 0, none⟩) DA.out.lt).trans d0⟩
    refine ⟨hS, ?_⟩
    (try simp only [Act.put, List.setIfInBounds_toArray, List.set_cons_zero, List.set_cons_succ])
    refine held_one (i := 10) (by kernel_rfl) rfl (by rfl) ?_
    refine wp_append_d (d := some 68) rfl (.tmp 59) (.tmp 67) 35 rfl WA.heap.size 55 i0 z0 3 24 Try.underlying35 INF.out.1 INF.out.2.1 INF.out.2.2.1 INF.out.2.2.2.1 INF.out.2.2.2.2 (by decide) (.slice none 0 0) 0 [] rfl (World.ownsRow_nil _ _ _ _) ⟨wp.heap.size, 0, none⟩ 1 1 [.int .i64 0, .int .i64 (o : Int), .int .i64 (s.size : Int)] rfl rfl (World.news_of_block (Blk.new wp 55 _)) (one_pc ⟨0, (o : Int), (s.size : Int)⟩) (by decide) (by unfold maxLen; omega) (by omega) (by simp; omega) ?_
    intro g6 cap6 wc o6 k6 at6 l6
    have O6 := Lib.hid o6
    have bC := Lib.hid (hb1.grown k6 (by simp; omega) (fun k e => by cases e))
    have G6 := Lib.hid (show g6 = wp.heap.size + 1 from (at6.resolve_left (fun h => by simp [Value.ownBlock] at h)).trans (by simp))
    have hS : Hid (wc.cell? ⟨w9.heap.size, 7, none⟩ = some (.slice none 0 0) ∧ wc.cell? ⟨w4.heap.size, 0, none⟩ = some (.int .i64 0)) := Lib.hid ⟨(bC.out.cell (p := ⟨w9.heap.size, 7, none⟩) CA.out.lt).trans c7, (bC.out.cell (p := ⟨w4.heap.size, 0, none⟩) DA.out.lt).trans d0⟩
    refine ⟨hS, ?_⟩
    clear o6 k6 at6
    (try simp only [Act.put, List.setIfInBounds_toArray, List.set_cons_zero, List.set_cons_succ])
    refine wpAnyH_done (by kernel_rfl) ?_ _
    show wpList _ _ _ _ _ _

    have CC := Lib.hid (CA.out.older (older_below bC.out))
    have d7 := (CC.out.cell 7).trans (show _ = some (.slice none 0 0) from rfl)
    have f7 := CC.out.frozen 7
    obtain ⟨WD, hWD⟩ : ∃ WD, WD = wc.setCell ⟨w9.heap.size, 7, none⟩ (.slice (some ⟨g6, 0, none⟩) 1 cap6) := ⟨_, rfl⟩
    have HWD := Lib.hid hWD
    have bD : Below w9.heap.size w9 WD := by rw [hWD]; exact (hb9.out.trans (bC.out.mono hb9.out.size)).setCell (Nat.le_refl _) _
    have CD := Lib.hid (show Blk WD w9.heap.size 37 #[.int .i64 11, .int .i64 1, .int .i64 0, .int .i64 0, .int .i64 0, .slice Ab 0 cb, .slice Ap 0 cp, .slice (some ⟨g6, 0, none⟩) 1 cap6] by rw [hWD]; exact CC.out.put 7 _)
    have KD := Lib.hid (K9.out.new bD)
    have DD := Lib.hid (D9.out.older (older_below bD))
    have BD := Lib.hid (B9.out.trans (bD.mono B9.out.size))
    have hzD : w2.heap.size ≤ WD.heap.size := Nat.le_trans hz9 bD.size
    have hgs : WD.heap.size = wc.heap.size := by rw [hWD]; simp [World.setCell]
    have hg9 : w9.heap.size < g6 := by have := G6.out; have := hb9.out.size; have := CA.out.lt; omega
    have lsz : s.data.toList.length = s.size := rfl
    have PD := Lib.hid (show Pcs WD (some ⟨g6, 0, none⟩) (Ke.sL o s.data.toList.length) from by
      obtain ⟨A', c', e', hp'⟩ := pcs_of_owns (p := Ke.sL o s.data.toList.length) (show wc.ownsRow WA.heap.size 55 3 (.slice (some ⟨g6, 0, none⟩) 1 cap6) (Ke.sL o s.data.toList.length).length (flatP (Ke.sL o s.data.toList.length)) from O6.out)
      cases e'
      refine Ke.Pcs.chg2 (S := fun k => k = w9.heap.size) hp' (by rw [hWD]; exact Chg.set wc 7 _ rfl) (fun b o' e _ => by cases e; show ¬ g6 = w9.heap.size; omega))
    have hcap : 1 ≤ cap6 := Ke.owns_cap' O6.out
    have IN := Lib.hid (show (⟨11, 1, 0, 0, 0, [], [], Ke.sL o s.data.toList.length⟩ : Ke.KQ).In WD lab7 ⟨Ab, cb, Ap, cp, some ⟨g6, 0, none⟩, cap6⟩ from
      ⟨(by show _ ≤ (0 : Int) ∧ (0 : Int) ≤ _; omega), M9.out.hs.below bD, fun b o' e => (by have h := M9.out.fb b (by rw [show Ab = some ⟨b, o', none⟩ from e]; rfl); exact ⟨Nat.lt_of_lt_of_le h.2 bD.size, K8.out.lab0 h.1⟩), fun i hi => absurd hi (by simp), M9.out.np, Nat.zero_le _, fun p hp => (by cases hp), PD.out, fun p hp => (by
        have : p = ⟨0, (o : Int), (s.data.toList.length : Int)⟩ := by simpa [Ke.sL] using hp
        subst this
        exact ⟨by show _ ≤ (0 : Int) ∧ (0 : Int) ≤ _; omega, by show _ ≤ (o : Int) ∧ (o : Int) ≤ _; omega, by show _ ≤ (s.data.toList.length : Int) ∧ (s.data.toList.length : Int) ≤ _; omega⟩), fun b o' e => (by cases e; exact ⟨by omega, K9.out.lab0 (by omega)⟩), hcap, by simp [Ke.sL]⟩)
    obtain ⟨K3, e3, S3⟩ := Ke.sK3_call o s.data.toList (by omega) (by omega)
    have CS := Lib.hid (Ke.call_kb KD.out hzD 0 (Ke.sK2_small _ _) (by omega) _ _ IN.out)
    have SM := Ke.small_call (Ke.sK2_small o s.data.toList) ⟨11, 1, 0, 0, 0, [], [], Ke.sL o s.data.toList.length⟩
    rw [e3] at CS SM
    have HS3 := Lib.hid S3
    have HSM := Lib.hid SM
    clear hWD bD hS e3 S3 SM IN PD INF c7 d0 hb1 bp' hzp
    go_upto_region 11 with fail
    rw [show wc.setCell ⟨w9.heap.size, 7, none⟩ (.slice (some ⟨g6, 0, none⟩) 1 cap6) = WD from HWD.out.symm]
    clear HWD d7 f7 CC
    go_wp2_with (first
      | (refine wpList_load_row rfl 37 (.tmp 12) rfl w9.heap.size rfl 37 _ (0, 0) _ CD.out Try.underlying37 rfl Ke.cinfo ?_)
      | fail)
    refine CS.out.mono ?_; rintro e wE ⟨AE, cE, rfl, labE, kE, LE, bE, _, _⟩
    have KE := Lib.hid kE
    have DE := Lib.hid (LE.blk0 DD.out l7)
    have lE : labE w4.heap.size = 0 := LE.zero l7 DD.out.lt
    have BE := Lib.hid (BD.out.trans (bE.mono B2.out.size))
    have hzE : w2.heap.size ≤ wE.heap.size := Nat.le_trans hzD bE.size
    clear kE LE bE CS KD DD CD M9 K8 K9 D9 B9 O6 bC CA KA DA BA
    obtain ⟨WF, hWF⟩ : ∃ WF, WF = wE.alloc (.cells #[.int .i64 0, .slice AE 0 cE] 31) := ⟨_, rfl⟩
    have bF : Below wE.heap.size wE WF := by rw [hWF]; exact (Below.refl _ wE).alloc (Nat.le_refl _) _
    have KF := Lib.hid (KE.out.new bF)
    have DF := Lib.hid (DE.out.older (older_below bF))
    have BF := Lib.hid (BE.out.trans (bF.mono BE.out.size))
    have hzF : w2.heap.size ≤ WF.heap.size := Nat.le_trans hzE bF.size
    have HWF := Lib.hid hWF
    clear hWF bF KE DE
    go_upto_region 12 with fail
    rw [show wE.alloc (.cells #[.int .i64 0, .slice AE 0 cE] 31) = WF from HWF.out.symm]
    clear HWF
    go_wp2
    go_loopw [15] (fun i wr => ∃ (j : Nat) (lab' : Nat → Nat) (K : Ke.Kn), j ≤ n ∧ i = .int .i64 (j : Int) ∧ Hid (Ke.KB w2.heap.size wr lab' g K) ∧ Hid (Ke.Snd (Ke.sT o s.data.toList) ⟨1, Ke.sL o s.data.toList.length⟩ K) ∧ Hid (K.Small (1 + j)) ∧ Hid (Blk wr w4.heap.size 31 #[.int .i64 0, .slice A4 0 c4] ∧ lab' w4.heap.size = 0) ∧ Hid (Below w.heap.size w wr) ∧ Hid (w2.heap.size ≤ wr.heap.size)) (fun i _ => n - (intOf i).toNat)
    case atStart => exact ⟨0, labE, K3, Nat.zero_le _, rfl, KF, HS3, HSM, Lib.hid ⟨DF.out, lE⟩, BF, Lib.hid hzF⟩
    case round =>
      have hn100 : n ≤ 100 := HN.out.1
      clear KF HS3 HSM DF BF hzF lE
      obtain ⟨j, labJ, K, hj, rfl, HK, HS, HM, HD, HB, HZ⟩ := hrel
      by_cases hlt : j < n
      · have hlt' : (j : Int) < (n : Int) := by omega
        have j0 : (0 : Int) ≤ (j : Int) := by omega
        have xj := IntWalk.i64_in ((j : Int) + 1) (by omega)
        obtain ⟨b, oo, rfl, hbl, hr, hin, hs9⟩ := HA.out j hlt
        have near := (HN.out.2 j hlt).1
        have LD := Lib.hid (show wr.rangeAt b (oo + j * 10 + 1) (fn j).q.list from fun i v hi => by
          rw [World.cell?_of_block (w := w) (w' := wr) (a := ⟨b, oo + j * 10 + 1 + i, none⟩) (HB.out.block b hbl)]
          exact Ke.kact_q hr i v hi)
        have IQ := Lib.hid (Ke.kc_new hin HB.out)
        have NQ := Lib.hid near
        generalize (fn j).q = q at *
        clear hr hin hs9 near
        have OF := Lib.hid (Ke.of_call q wr IQ.out (by have := NQ.out.1; omega) (by have := NQ.out.2.1; omega) (by have := NQ.out.2.2; omega))
        go_wp2_with (first
          | (refine wpList_load_mid rfl 44 (.tmp 86) rfl b (oo + j * 10 + 1) rfl _ _ LD.out Try.underlying44 rfl Ke.rcall_info ?_)
          | fail)
        refine OF.out.mono ?_; rintro e wm ⟨x, rfl, m⟩
        have bm := m.below
        have CL := Lib.hid (Ke.call_kb (HK.out.new bm) (Nat.le_trans HZ.out bm.size) (1 + j) HM.out (by omega) (Ke.kq q) x (Ke.made_in HK.out IQ.out NQ.out m))
        have Dm := Lib.hid (HD.out.1.older (older_below bm))
        have Bm := Lib.hid (HB.out.trans (bm.mono HB.out.size))
        have hZm : w2.heap.size ≤ wm.heap.size := Nat.le_trans HZ.out bm.size
        clear m bm OF LD
        go_wp2_with fail
        refine CL.out.mono ?_; rintro e wn ⟨A', c', rfl, labN, kN, LN, bN, _, _⟩
        have KN := Lib.hid kN
        have SN := Lib.hid (Ke.snd_call HK.out.ok HS.out (Ke.snd_cnt _ _) (Ke.kq q))
        have MN := Lib.hid (show ((Ke.callR K (Ke.kq q)).1).Small (1 + (j + 1)) from Ke.small_call HM.out (Ke.kq q))
        have dN := LN.blk0 Dm.out HD.out.2
        have DN := Lib.hid (show Blk wn w4.heap.size 31 #[.int .i64 0, .slice A4 0 c4] ∧ labN w4.heap.size = 0 from ⟨dN, LN.zero HD.out.2 Dm.out.lt⟩)
        have c0 := (dN.cell 0).trans (show _ = some (.int .i64 0) from rfl)
        have BN := Lib.hid (Bm.out.trans (bN.mono B2.out.size))
        have ZN := Lib.hid (Nat.le_trans hZm bN.size)
        clear kN LN bN dN CL Dm Bm HK HS HM HD HB HZ
        generalize (Ke.callR K (Ke.kq q)).1 = K' at *
        generalize (Ke.callR K (Ke.kq q)).2.1 = r1 at *
        generalize (Ke.callR K (Ke.kq q)).2.2.2 = r2 at *
        have bd : Below wn.heap.size wn wn.drew := ⟨rfl, rfl, rfl, Nat.le_refl _, fun _ _ => rfl⟩
        have KN := Lib.hid (KN.out.new bd)
        have DN := Lib.hid (show Blk wn.drew w4.heap.size 31 #[.int .i64 0, .slice A4 0 c4] ∧ labN w4.heap.size = 0 from ⟨DN.out.1.older (older_below bd), DN.out.2⟩)
        have BN := Lib.hid (BN.out.trans (bd.mono BN.out.size))
        have c0 := (DN.out.1.cell 0).trans (show _ = some (.int .i64 0) from rfl)
        have ZN := Lib.hid (show w2.heap.size ≤ wn.drew.heap.size from ZN.out)
        clear bd
        obtain ⟨ad, had⟩ := KN.out.ka
        have TA := Lib.hid (Ke.table_any had)
        obtain ⟨hv, ehv, hv1⟩ : ∃ hv : Int, holdsV K'.ps 0 = hv ∧ ¬ hv < 1 := by
          refine ⟨_, rfl, ?_⟩
          have h1 := Ke.snd_holds KN.out.ok SN.out (Ke.snd_cnt _ _)
          have h2 : holdsV K'.ps ((0 : Nat) : Int) = _ := holdsV_at SN.out.n
          have h3 : holdsV K'.ps 0 = ((K'.ps[0]'SN.out.n).holds : Int) := h2
          omega
        have HO := Lib.hid (by have h := holds_any had.tab 0; rw [ehv] at h; exact h)
        have OW := Lib.hid (Ke.owned_1 had 0 true (by
          have h2 : ownerV K'.ps ((0 : Nat) : Int) = _ := ownerV_at SN.out.n
          have h3 : ownerV K'.ps 0 = ((K'.ps[0]'SN.out.n).owner : Int) := h2
          have h4 := SN.out.own
          rw [Ke.pg_zero SN.out.n] at h4
          rw [h3, h4]; rfl))
        clear ehv had
        go_upto_region 16 with fail
        refine wp_region_held_drew (S := fun w' => Hid (w'.cell? ⟨w4.heap.size, 0, none⟩ = some (.int .i64 0))) (by kernel_rfl) ((show Hid (wn.drew.cell? ⟨w4.heap.size, 0, none⟩ = some (.int .i64 0)) from Lib.hid c0)) (fun hS => ?_)
        refine held_take (i := 0) (d := (some 90)) (v := ?_) rfl rfl (by kernel_rfl) (by kernel_rfl) (by kernel_rfl) (fun _ _ _ h => h) (by rfl) ?_ hS ?_
        rotate_left
        · intro w' hSw; (try dsimp only at hSw); go_simp <;> with_reducible rfl
        simp only [Act.put, List.setIfInBounds_toArray, List.set_cons_zero, List.set_cons_succ]
        refine held_take (i := 2) (d := (some 92)) (v := ?_) rfl rfl (by kernel_rfl) (by kernel_rfl) (by kernel_rfl) (fun _ _ _ h => h) (by rfl) ?_ hS ?_
        rotate_left
        · intro w' hSw; (try dsimp only at hSw); go_simp <;> with_reducible rfl
        simp only [Act.put, List.setIfInBounds_toArray, List.set_cons_zero, List.set_cons_succ]
        refine held_take (i := 3) (d := (some 93)) (v := ?_) rfl rfl (by kernel_rfl) (by kernel_rfl) (by kernel_rfl) (fun _ _ _ h => h) (by rfl) ?_ hS ?_
        rotate_left
        · intro w' hSw; have hc := hSw.out; clear hSw; go_simp <;> with_reducible rfl
        simp only [Act.put, List.setIfInBounds_toArray, List.set_cons_zero, List.set_cons_succ]
        refine held_one (i := 1) (by kernel_rfl) rfl (by rfl) ?_
        go_simp
        refine TA.out.mono ?_; rintro e wq ⟨rfl, hwq⟩; subst wq
        refine ⟨hS, ?_⟩
        (try simp only [Act.put, List.setIfInBounds_toArray, List.set_cons_zero, List.set_cons_succ])
        refine held_one (i := 4) (by kernel_rfl) rfl (by rfl) ?_
        go_simp
        refine HO.out.mono ?_; rintro e wq ⟨rfl, hwq⟩; subst wq
        refine ⟨hS, ?_⟩
        (try simp only [Act.put, List.setIfInBounds_toArray, List.set_cons_zero, List.set_cons_succ])
        refine held_take (i := 5) (d := (some 95)) (v := (.bool false)) rfl rfl (by kernel_rfl) (by kernel_rfl) (by kernel_rfl) (fun _ _ _ h => h) (by rfl) (fun w' _ => by have hd : decide (hv < 1) = false := decide_eq_false (by omega); first | (go_simp; done) | (go_simp; rw [hd]; done) | (go_simp; rw [hd]; rfl) | (go_simp; simp [hd]; done) | (simp [go_sem, execOp, hd]; done)) hS ?_
        simp only [Act.put, List.setIfInBounds_toArray, List.set_cons_zero, List.set_cons_succ]
        refine held_take (i := 6) (d := (some 96)) (v := ?_) rfl rfl (by kernel_rfl) (by kernel_rfl) (by kernel_rfl) (fun _ _ _ h => h) (by rfl) ?_ hS ?_
        rotate_left
        · intro w' hSw; (try dsimp only at hSw); go_simp <;> with_reducible rfl
        simp only [Act.put, List.setIfInBounds_toArray, List.set_cons_zero, List.set_cons_succ]
        refine held_take (i := 7) (d := (some 97)) (v := ?_) rfl rfl (by kernel_rfl) (by kernel_rfl) (by kernel_rfl) (fun _ _ _ h => h) (by rfl) ?_ hS ?_
        rotate_left
        · intro w' hSw; (try dsimp only at hSw); go_simp <;> with_reducible rfl
        simp only [Act.put, List.setIfInBounds_toArray, List.set_cons_zero, List.set_cons_succ]
        refine held_take (i := 8) (d := (some 98)) (v := ?_) rfl rfl (by kernel_rfl) (by kernel_rfl) (by kernel_rfl) (fun _ _ _ h => h) (by rfl) ?_ hS ?_
        rotate_left
        · intro w' hSw; (try dsimp only at hSw); go_simp <;> with_reducible rfl
        simp only [Act.put, List.setIfInBounds_toArray, List.set_cons_zero, List.set_cons_succ]
        refine held_take (i := 9) (d := (some 99)) (v := ?_) rfl rfl (by kernel_rfl) (by kernel_rfl) (by kernel_rfl) (fun _ _ _ h => h) (by rfl) ?_ hS ?_
        rotate_left
        · intro w' hSw; have hc := hSw.out; clear hSw; go_simp <;> with_reducible rfl
        simp only [Act.put, List.setIfInBounds_toArray, List.set_cons_zero, List.set_cons_succ]
        refine held_one (i := 10) (by kernel_rfl) rfl (by rfl) ?_
        go_simp
        refine OW.out.mono ?_; rintro e wq ⟨rfl, hwq⟩; subst wq
        refine ⟨hS, ?_⟩
        (try simp only [Act.put, List.setIfInBounds_toArray, List.set_cons_zero, List.set_cons_succ])
        refine held_take (i := 11) (d := (some 101)) (v := ?_) rfl rfl (by kernel_rfl) (by kernel_rfl) (by kernel_rfl) (fun _ _ _ h => h) (by rfl) ?_ hS ?_
        rotate_left
        · intro w' hSw; (try dsimp only at hSw); go_simp <;> with_reducible rfl
        simp only [Act.put, List.setIfInBounds_toArray, List.set_cons_zero, List.set_cons_succ]
        refine held_take (i := 12) (d := (some 102)) (v := ?_) rfl rfl (by kernel_rfl) (by kernel_rfl) (by kernel_rfl) (fun _ _ _ h => h) (by rfl) ?_ hS ?_
        rotate_left
        · intro w' hSw; (try dsimp only at hSw); go_simp <;> with_reducible rfl
        simp only [Act.put, List.setIfInBounds_toArray, List.set_cons_zero, List.set_cons_succ]
        refine wpAnyH_done (by kernel_rfl) ?_ _
        go_wp2
        go_roundw
        case rel => exact ⟨j + 1, labN, K', by omega, by simp, KN, SN, MN, DN, BN, ZN⟩
        case measure => simp [intOf]; omega
      · have hge : ¬ (j : Int) < (n : Int) := by omega
        obtain ⟨K', eK⟩ := Ke.snd_depart (by omega) HS.out
        have DP := Lib.hid (Ke.depart_any HK.out.ka HK.out.ok (1 + j) HM.out (by omega))
        rw [eK] at DP
        go_wp2_with fail
        refine DP.out.mono ?_; rintro e wz ⟨Az, cz, he, hl, sz⟩
        have he' : e = .returned (.tuple #[.slice Az s.size cz, .int .i64 1, .int .i64 0]) := he
        subst he'
        obtain ⟨labZ, kz, LZ⟩ := hl
        have BZ := Lib.hid (HB.out.trans ((LZ.chg.below (B := w2.heap.size) HZ.out (fun k hk => HK.out.ge k hk.1)).mono B2.out.size))
        have sz' : Src wz Az s.size cz s.data.toList := sz
        have TO := told_str sz'
        rw [show (⟨s.data.toList.toArray⟩ : ByteArray) = s from by cases s; simp] at TO
        clear he sz sz' LZ kz DP eK
        go_wp2
        go_ret
        exact ⟨rfl, BZ.out⟩
  · have FA := Lib.hid (fun (W : World) (hw : Below w.heap.size w W) => Ke.far_any W A n c fn (Ke.kacts_new HA.out hw) true ⟨fun _ => hn, fun _ => rfl⟩)
    clear hn
    go_enter Try.func4, Try.ntmps4
    go_wp2_with fail
    refine AL.out.mono ?_; rintro e w1 ⟨rfl, b1⟩
    have B1 := Lib.hid b1
    clear b1
    go_wp2_with fail
    refine (FA.out _ B1.out).mono ?_; rintro e w2 ⟨rfl, b2⟩
    have B2 := Lib.hid (B1.out.trans (b2.mono B1.out.size))
    clear b2
    go_wp2
    go_ret
    exact ⟨rfl, B2.out⟩

set_option maxRecDepth 100000 in
theorem lifted (os : Os) (started : os.Started) (H : Type) (enc : TypeId × Value → H) :
    ReturnsInHanded {} Try.checked os 4 .any (Rows.kernSendsSpec.pre6 enc Try.prog Try.f4 Rows.kernSendsRow.domain false) (Rows.kernSendsSpec.post enc Try.prog Try.f4 false true false false) := by
  refine returnsInHanded_of_change (C := Try.checked) own started (by kernel_rfl) Try.func4
    (ChangeSpec.witness6 (enc := enc) (C := Try.checked) false ⟨#[], #[.string ⟨#[]⟩, .int .u8 0, .slice none 0 0], []⟩ 8 (by kernel_rfl) (by kernel_rfl) (by kernel_rfl) (by kernel_rfl)) ?_
  intro W base args ds gs before hval0 hW hcnd _
  have hval : ∀ (j : Nat) t v, Try.f4.params[j]? = some t → args[j]? = some v → Value.okWide Try.prog W .any base t v := hval0
  have hW' := hW
  obtain ⟨p, q, hA0, hV, rfl, hfz, hnd⟩ := hW
  have hA : DataW.TrodAll enc Try.prog W 0 (fun _ => true) true Try.f4.params.toList args.toList ds p := hA0
  rw [Try.params4] at hA hval
  obtain ⟨v0, vs0, d0, ds0, p0, q0, hargs, rfl, rfl, h0, r0⟩ := trodAll_cons hA
  obtain ⟨v1, vs1, d1, ds1, p1, q1, rfl, rfl, rfl, h1, r1⟩ := trodAll_cons r0
  obtain ⟨v2, vs2, d2, ds2, p2, q2, rfl, rfl, rfl, h2, r2⟩ := trodAll_cons r1
  obtain ⟨rfl, rfl, rfl⟩ := trodAll_nil r2
  obtain rfl : args = #[v0, v1, v2] := by cases args; simp_all
  obtain ⟨a0, rfl, _, _, w0⟩ := Go.ChangeMaps.open_string Try.underlying9 (hval 0 9 v0 rfl rfl) h0
  obtain ⟨a1, rfl, _, _, w1⟩ := open_int Try.underlying5 (hval 1 5 v1 rfl rfl) h1
  obtain ⟨A2, n2, c2, f2, rfl, b2⟩ := open_kacts (hval 2 22 v2 rfl rfl) h2
  clear hA0 hval0
  exact law_close hW' laidOut (by kernel_rfl) rfl Try.underlying4 rfl ⟨rfl, rfl, rfl⟩ (walk W a0 w0 a1 w1 A2 n2 c2 f2 b2)

theorem over : Rows.kernSendsRow.holds Try.pinned (OpenSpec.ofChange Rows.kernSendsSpec) :=
  OpenClaim.holds_of_wide 4 Try.f4 rfl rfl rfl rfl rfl rfl rfl ⟨rfl, rfl, rfl, rfl, rfl⟩ rfl rfl rfl rfl rfl (by kernel_rfl) Try.func4 (by kernel_rfl)
    (of_decide_eq_true (by kernel_rfl)) (by unfold Func.isWrapper; first | (rw [if_pos (by decide +kernel)]; kernel_rfl) | (rw [if_neg (by decide +kernel)]; exact ⟨rfl, rfl⟩))
    (fun os started H enc _ => lifted os started H enc)

theorem proved : Rows.KernSendsSaid := over

end Go.Proofs.Ytbdhogbipempfaa.kernSends
