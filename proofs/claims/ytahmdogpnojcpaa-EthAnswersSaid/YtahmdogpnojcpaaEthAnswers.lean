/- Whatever host and packet come in, 'pantlerlaw14.EthAnswers' returns true and leaves them as they were. No condition. -/
import Derived.Test.YtahmdogpnojcpaaEtC
namespace Go.Proofs.Ytahmdogpnojcpaa.ethAnswers
open Go.ChangeShapes Go.WideShapes Go.ChangeAt Go.RowKit Go.Deep Rk Es Di Et
set_option linter.unusedVariables false


set_option maxRecDepth 100000 in
set_option maxHeartbeats 8000000 in
theorem walk (w : World) (hm hi : Nat) (hhm : hm ≤ 18446744073709551615) (hhi : hi ≤ 4294967295) (t f y : Nat) (l : List UInt8) (ht : t ≤ 18446744073709551615) (hf : f ≤ 18446744073709551615) (hy : y ≤ 65535) (hl0 : l.length ≤ maxLen) :
    Calls Try.prog 5 #[.agg (hoV hm hi), .agg (dpV t f y l)] w fun e w' => e = .returned (.bool true) ∧ Below w.heap.size w w' := by
  obtain ⟨W, hW⟩ : ∃ W, (w.alloc (.cells (hoV hm hi) 54)).alloc (.cells (dpV t f y l) 25) = W := ⟨_, rfl⟩
  have b0 : Below w.heap.size w W := by rw [← hW]; exact ((Below.refl w.heap.size w).alloc (Nat.le_refl _) _).alloc (by simp) _
  have B0 := Lib.hid b0
  have H0 := Lib.hid (show Blk W w.heap.size 54 (hoV hm hi) from by rw [← hW]; exact (Blk.new w _ _).alloc _)
  have P0 := Lib.hid (show Blk W (w.heap.size + 1) 25 (dpV t f y l) from by rw [← hW]; have := Blk.new (w.alloc (.cells (hoV hm hi) 54)) 25 (dpV t f y l); simpa using this)
  have HW := Lib.hid hW
  clear b0 hW
  have AL := Lib.hid (fun W => alive_any W)
  have hsz : (⟨l.toArray⟩ : ByteArray).size = l.length := rfl
  go_enter Try.func5, Try.ntmps5
  go_upto_region 1 with fail
  rw [HW.out]
  clear HW
  go_wp2_with fail
  refine (AL.out W).mono ?_; rintro e w1 ⟨rfl, b1⟩
  have B1 := Lib.hid (B0.out.trans (b1.mono B0.out.size))
  have P1 := Lib.hid (P0.out.older (older_below b1))
  have H1 := Lib.hid (H0.out.older (older_below b1))
  clear b1 AL B0 P0 H0
  have z3 := (P1.out.cell 3).trans (show _ = some (.string ⟨l.toArray⟩) from rfl)
  by_cases hl : (l.length : Int) > 3000
  · go_wp2
    go_ret
    exact ⟨rfl, B1.out⟩
  have HL := Lib.hid (show l.length ≤ 3000 from by omega)
  have OF := Lib.hid (fun W => of_any t f y l W (by have := HL.out; omega))
  obtain ⟨t', f', y', lb, F1, F2⟩ := ans_form hm hi t f y l
  have F1 := Lib.hid F1
  have F2 := Lib.hid F2
  go_upto_region 5 with fail
  clear z3
  generalize w1 = W at *
  go_cut [5, 6] (fun s5 s6 wx => ∃ (g : Nat) (Ac : Option Addr) (cc : Nat), s5 = .pointer (some ⟨g, 0, none⟩) ∧ s6 = .bool (ansMay hm hi t y l) ∧ Hid (Blk wx g 32 (pkV t' f' y' Ac lb.length cc)) ∧ Hid (Src wx Ac lb.length cc lb) ∧ Hid (Below W.heap.size W wx))
  case first =>
    refine wp_region_held_drew (S := fun w' => Hid (Below W.heap.size W w')) (by kernel_rfl) (Lib.hid ((Below.refl W.heap.size W).drew)) (fun hS => ?_)
    refine held_take (i := 0) (d := (some 16)) (v := ?_) rfl rfl (by kernel_rfl) (by kernel_rfl) (by kernel_rfl) (fun _ _ _ h => h) (by rfl) ?_ hS ?_
    rotate_left
    · intro w' hSw; have kb := hSw.out; clear hSw; have z0 := ((H1.out.older (older_below kb)).cell 0).trans (show _ = some (.int .u64 (hm : Int)) from rfl); have z1 := ((H1.out.older (older_below kb)).cell 1).trans (show _ = some (.int .u32 (hi : Int)) from rfl); clear kb; go_simp <;> with_reducible rfl
    simp only [Act.put, List.setIfInBounds_toArray, List.set_cons_zero, List.set_cons_succ]
    refine held_take (i := 1) (d := (some 17)) (v := ?_) rfl rfl (by kernel_rfl) (by kernel_rfl) (by kernel_rfl) (fun _ _ _ h => h) (by rfl) ?_ hS ?_
    rotate_left
    · intro w' hSw; have kb := hSw.out; clear hSw; have z0 := ((P1.out.older (older_below kb)).cell 0).trans (show _ = some (.int .u64 (t : Int)) from rfl); have z1 := ((P1.out.older (older_below kb)).cell 1).trans (show _ = some (.int .u64 (f : Int)) from rfl); have z2 := ((P1.out.older (older_below kb)).cell 2).trans (show _ = some (.int .u16 (y : Int)) from rfl); have z3 := ((P1.out.older (older_below kb)).cell 3).trans (show _ = some (.string ⟨l.toArray⟩) from rfl); clear kb; go_simp <;> with_reducible rfl
    simp only [Act.put, List.setIfInBounds_toArray, List.set_cons_zero, List.set_cons_succ]
    refine held_two (i := 2) (j := 7) (by kernel_rfl) rfl rfl (by rfl) (by rfl) ?_ ?_
    · go_simp
      refine (OF.out _).mono ?_; rintro e wa ⟨Aa, ca, rfl, sa, ba⟩
      have SA := Lib.hid sa
      have hS := Lib.hid (hS.out.trans (ba.mono hS.out.size))
      refine ⟨hS, ?_⟩
      clear ba sa
      (try simp only [Act.put, List.setIfInBounds_toArray, List.set_cons_zero, List.set_cons_succ])
      refine held_two (i := 3) (j := 7) (by kernel_rfl) rfl rfl (by rfl) (by rfl) ?_ ?_
      · go_simp
        refine (answer_any hm hi t f y hhm hhi Aa l.length ca l _ SA.out (by have := HL.out; omega)).mono ?_; rintro e wb ⟨T, bb⟩
        obtain ⟨Av, cv, rfl, sv⟩ := F1.out _ wb e T
        have SV := Lib.hid sv
        have hS := Lib.hid (hS.out.trans (bb.mono hS.out.size))
        refine ⟨hS, ?_⟩
        clear bb sv T
        (try simp only [Act.put, List.setIfInBounds_toArray, List.set_cons_zero, List.set_cons_succ])
        refine held_take (i := 4) (d := (some 15)) (v := ?_) rfl rfl (by kernel_rfl) (by kernel_rfl) (by kernel_rfl) (fun _ _ _ h => h) (by rfl) ?_ hS ?_
        rotate_left
        · intro w' hSw; (try dsimp only at hSw); go_simp <;> with_reducible rfl
        simp only [Act.put, List.setIfInBounds_toArray, List.set_cons_zero, List.set_cons_succ]
        refine held_take (i := 5) (d := (some 20)) (v := ?_) rfl rfl (by kernel_rfl) (by kernel_rfl) (by kernel_rfl) (fun _ _ _ h => h) (by rfl) ?_ hS ?_
        rotate_left
        · intro w' hSw; (try dsimp only at hSw); go_simp <;> with_reducible rfl
        simp only [Act.put, List.setIfInBounds_toArray, List.set_cons_zero, List.set_cons_succ]
        refine held_take (i := 6) (d := (some 21)) (v := ?_) rfl rfl (by kernel_rfl) (by kernel_rfl) (by kernel_rfl) (fun _ _ _ h => h) (by rfl) ?_ hS ?_
        rotate_left
        · intro w' hSw; (try dsimp only at hSw); go_simp <;> with_reducible rfl
        simp only [Act.put, List.setIfInBounds_toArray, List.set_cons_zero, List.set_cons_succ]
        refine held_one (i := 7) (by kernel_rfl) rfl (by rfl) ?_
        go_simp
        have AB := Lib.hid (blk_of hS.out 32 pk0)
        have SV := Lib.hid (SV.out.alloc (.cells pk0 32))
        have hS := Lib.hid (hS.out.alloc hS.out.size (.cells pk0 32))
        refine ⟨hS, ?_⟩
        (try simp only [Act.put, List.setIfInBounds_toArray, List.set_cons_zero, List.set_cons_succ])
        refine held_one (i := 8) (by kernel_rfl) rfl (by rfl) ?_
        refine wp_store_row_n rfl 32 (.tmp 5) (.tmp 20) rfl _ (pkV t' f' y' Av lb.length cv) rfl rfl 32 _ AB.out.1 pk_info rfl (by simp [Value.oneCell']) ?_
        have AC := Lib.hid (AB.out.1.setRow (pkV t' f' y' Av lb.length cv))
        have SZ := Lib.hid (src_row SV.out AB.out.1 (by simp) (pkV t' f' y' Av lb.length cv))
        have hS := Lib.hid (below_setRow hS.out AB.out.2 (pkV t' f' y' Av lb.length cv))
        refine ⟨hS, ?_⟩
        (try simp only [Act.put, List.setIfInBounds_toArray, List.set_cons_zero, List.set_cons_succ])
        refine held_take (i := 9) (d := (some 6)) (v := ?_) rfl rfl (by kernel_rfl) (by kernel_rfl) (by kernel_rfl) (fun _ _ _ h => h) (by rfl) ?_ hS ?_
        rotate_left
        · intro w' hSw; (try dsimp only at hSw); go_simp <;> with_reducible rfl
        simp only [Act.put, List.setIfInBounds_toArray, List.set_cons_zero, List.set_cons_succ]
        refine wpAnyH_done (by kernel_rfl) ?_ _
        go_wp2
        go_meet
        exact ⟨_, Av, cv, rfl, rfl, AC, SZ, hS⟩
      · go_simp
        have AB := Lib.hid (blk_of hS.out 32 pk0)
        have SA := Lib.hid (SA.out.alloc (.cells pk0 32))
        have hS := Lib.hid (hS.out.alloc hS.out.size (.cells pk0 32))
        refine ⟨hS, ?_⟩
        (try simp only [Act.put, List.setIfInBounds_toArray, List.set_cons_zero, List.set_cons_succ])
        refine held_one (i := 3) (by kernel_rfl) rfl (by rfl) ?_
        go_simp
        refine (answer_any hm hi t f y hhm hhi Aa l.length ca l _ SA.out (by have := HL.out; omega)).mono ?_; rintro e wb ⟨T, bb⟩
        obtain ⟨Av, cv, rfl, sv⟩ := F1.out _ wb e T
        have AB := Lib.hid (And.intro (AB.out.1.older (older_below bb)) AB.out.2)
        have SV := Lib.hid sv
        have hS := Lib.hid (hS.out.trans (bb.mono hS.out.size))
        refine ⟨hS, ?_⟩
        clear bb sv T
        (try simp only [Act.put, List.setIfInBounds_toArray, List.set_cons_zero, List.set_cons_succ])
        refine held_take (i := 4) (d := (some 15)) (v := ?_) rfl rfl (by kernel_rfl) (by kernel_rfl) (by kernel_rfl) (fun _ _ _ h => h) (by rfl) ?_ hS ?_
        rotate_left
        · intro w' hSw; (try dsimp only at hSw); go_simp <;> with_reducible rfl
        simp only [Act.put, List.setIfInBounds_toArray, List.set_cons_zero, List.set_cons_succ]
        refine held_take (i := 5) (d := (some 20)) (v := ?_) rfl rfl (by kernel_rfl) (by kernel_rfl) (by kernel_rfl) (fun _ _ _ h => h) (by rfl) ?_ hS ?_
        rotate_left
        · intro w' hSw; (try dsimp only at hSw); go_simp <;> with_reducible rfl
        simp only [Act.put, List.setIfInBounds_toArray, List.set_cons_zero, List.set_cons_succ]
        refine held_take (i := 6) (d := (some 21)) (v := ?_) rfl rfl (by kernel_rfl) (by kernel_rfl) (by kernel_rfl) (fun _ _ _ h => h) (by rfl) ?_ hS ?_
        rotate_left
        · intro w' hSw; (try dsimp only at hSw); go_simp <;> with_reducible rfl
        simp only [Act.put, List.setIfInBounds_toArray, List.set_cons_zero, List.set_cons_succ]
        refine held_one (i := 8) (by kernel_rfl) rfl (by rfl) ?_
        refine wp_store_row_n rfl 32 (.tmp 5) (.tmp 20) rfl _ (pkV t' f' y' Av lb.length cv) rfl rfl 32 _ AB.out.1 pk_info rfl (by simp [Value.oneCell']) ?_
        have AC := Lib.hid (AB.out.1.setRow (pkV t' f' y' Av lb.length cv))
        have SZ := Lib.hid (src_row SV.out AB.out.1 (by simp) (pkV t' f' y' Av lb.length cv))
        have hS := Lib.hid (below_setRow hS.out AB.out.2 (pkV t' f' y' Av lb.length cv))
        refine ⟨hS, ?_⟩
        (try simp only [Act.put, List.setIfInBounds_toArray, List.set_cons_zero, List.set_cons_succ])
        refine held_take (i := 9) (d := (some 6)) (v := ?_) rfl rfl (by kernel_rfl) (by kernel_rfl) (by kernel_rfl) (fun _ _ _ h => h) (by rfl) ?_ hS ?_
        rotate_left
        · intro w' hSw; (try dsimp only at hSw); go_simp <;> with_reducible rfl
        simp only [Act.put, List.setIfInBounds_toArray, List.set_cons_zero, List.set_cons_succ]
        refine wpAnyH_done (by kernel_rfl) ?_ _
        go_wp2
        go_meet
        exact ⟨_, Av, cv, rfl, rfl, AC, SZ, hS⟩
    · go_simp
      have AB := Lib.hid (blk_of hS.out 32 pk0)
      have hS := Lib.hid (hS.out.alloc hS.out.size (.cells pk0 32))
      refine ⟨hS, ?_⟩
      (try simp only [Act.put, List.setIfInBounds_toArray, List.set_cons_zero, List.set_cons_succ])
      refine held_one (i := 2) (by kernel_rfl) rfl (by rfl) ?_
      go_simp
      refine (OF.out _).mono ?_; rintro e wa ⟨Aa, ca, rfl, sa, ba⟩
      have AB := Lib.hid (And.intro (AB.out.1.older (older_below ba)) AB.out.2)
      have SA := Lib.hid sa
      have hS := Lib.hid (hS.out.trans (ba.mono hS.out.size))
      refine ⟨hS, ?_⟩
      clear ba sa
      (try simp only [Act.put, List.setIfInBounds_toArray, List.set_cons_zero, List.set_cons_succ])
      refine held_one (i := 3) (by kernel_rfl) rfl (by rfl) ?_
      go_simp
      refine (answer_any hm hi t f y hhm hhi Aa l.length ca l _ SA.out (by have := HL.out; omega)).mono ?_; rintro e wb ⟨T, bb⟩
      obtain ⟨Av, cv, rfl, sv⟩ := F1.out _ wb e T
      have AB := Lib.hid (And.intro (AB.out.1.older (older_below bb)) AB.out.2)
      have SV := Lib.hid sv
      have hS := Lib.hid (hS.out.trans (bb.mono hS.out.size))
      refine ⟨hS, ?_⟩
      clear bb sv T
      (try simp only [Act.put, List.setIfInBounds_toArray, List.set_cons_zero, List.set_cons_succ])
      refine held_take (i := 4) (d := (some 15)) (v := ?_) rfl rfl (by kernel_rfl) (by kernel_rfl) (by kernel_rfl) (fun _ _ _ h => h) (by rfl) ?_ hS ?_
      rotate_left
      · intro w' hSw; (try dsimp only at hSw); go_simp <;> with_reducible rfl
      simp only [Act.put, List.setIfInBounds_toArray, List.set_cons_zero, List.set_cons_succ]
      refine held_take (i := 5) (d := (some 20)) (v := ?_) rfl rfl (by kernel_rfl) (by kernel_rfl) (by kernel_rfl) (fun _ _ _ h => h) (by rfl) ?_ hS ?_
      rotate_left
      · intro w' hSw; (try dsimp only at hSw); go_simp <;> with_reducible rfl
      simp only [Act.put, List.setIfInBounds_toArray, List.set_cons_zero, List.set_cons_succ]
      refine held_take (i := 6) (d := (some 21)) (v := ?_) rfl rfl (by kernel_rfl) (by kernel_rfl) (by kernel_rfl) (fun _ _ _ h => h) (by rfl) ?_ hS ?_
      rotate_left
      · intro w' hSw; (try dsimp only at hSw); go_simp <;> with_reducible rfl
      simp only [Act.put, List.setIfInBounds_toArray, List.set_cons_zero, List.set_cons_succ]
      refine held_one (i := 8) (by kernel_rfl) rfl (by rfl) ?_
      refine wp_store_row_n rfl 32 (.tmp 5) (.tmp 20) rfl _ (pkV t' f' y' Av lb.length cv) rfl rfl 32 _ AB.out.1 pk_info rfl (by simp [Value.oneCell']) ?_
      have AC := Lib.hid (AB.out.1.setRow (pkV t' f' y' Av lb.length cv))
      have SZ := Lib.hid (src_row SV.out AB.out.1 (by simp) (pkV t' f' y' Av lb.length cv))
      have hS := Lib.hid (below_setRow hS.out AB.out.2 (pkV t' f' y' Av lb.length cv))
      refine ⟨hS, ?_⟩
      (try simp only [Act.put, List.setIfInBounds_toArray, List.set_cons_zero, List.set_cons_succ])
      refine held_take (i := 9) (d := (some 6)) (v := ?_) rfl rfl (by kernel_rfl) (by kernel_rfl) (by kernel_rfl) (fun _ _ _ h => h) (by rfl) ?_ hS ?_
      rotate_left
      · intro w' hSw; (try dsimp only at hSw); go_simp <;> with_reducible rfl
      simp only [Act.put, List.setIfInBounds_toArray, List.set_cons_zero, List.set_cons_succ]
      refine wpAnyH_done (by kernel_rfl) ?_ _
      go_wp2
      go_meet
      exact ⟨_, Av, cv, rfl, rfl, AC, SZ, hS⟩
  case rest => as_aux_lemma =>
    obtain ⟨g, Ac, cc, rfl, rfl, CA, SA, HA⟩ := hcut
    have B2 := Lib.hid (B1.out.trans (HA.out.mono B1.out.size))
    have P2 := Lib.hid (P1.out.older (older_below HA.out))
    have H2 := Lib.hid (H1.out.older (older_below HA.out))
    clear HA B1 P1 H1 F1
    have z0 := (P2.out.cell 0).trans (show _ = some (.int .u64 (t : Int)) from rfl)
    have z1 := (P2.out.cell 1).trans (show _ = some (.int .u64 (f : Int)) from rfl)
    have z2 := (P2.out.cell 2).trans (show _ = some (.int .u16 (y : Int)) from rfl)
    have z3 := (P2.out.cell 3).trans (show _ = some (.string ⟨l.toArray⟩) from rfl)
    have x0 := (H2.out.cell 0).trans (show _ = some (.int .u64 (hm : Int)) from rfl)
    have x1 := (H2.out.cell 1).trans (show _ = some (.int .u32 (hi : Int)) from rfl)
    go_wp2_with fail
    refine (refAnswer_any hm hi t f y hhm hhi l _ (by have := HL.out; omega)).mono ?_; rintro e w3 ⟨T, b3⟩
    obtain rfl := F2.out e T
    have B3 := Lib.hid (B2.out.trans (b3.mono B2.out.size))
    have P3 := Lib.hid (P2.out.older (older_below b3))
    have H3 := Lib.hid (H2.out.older (older_below b3))
    have CA3 := Lib.hid (CA.out.older (older_below b3))
    have SA3 := Lib.hid (SA.out.below b3)
    clear T b3 B2 P2 H2 CA SA F2 z0 z1 z2 z3 x0 x1
    have b4 : Below w3.heap.size w3 (w3.alloc (.cells (dpV t' f' y' lb) 25)) := (Below.refl _ w3).alloc (Nat.le_refl _) _
    have B4 := Lib.hid (B3.out.trans (b4.mono B3.out.size))
    have PB := Lib.hid (P3.out.older (older_below b4))
    have HB := Lib.hid (H3.out.older (older_below b4))
    have CB := Lib.hid (CA3.out.older (older_below b4))
    have SC := Lib.hid (SA3.out.below b4)
    have DB := Lib.hid (Blk.new w3 25 (dpV t' f' y' lb))
    clear b4 B3 P3 H3 CA3 SA3
    go_upto_region 7 with fail
    generalize w3.alloc (.cells (dpV t' f' y' lb) 25) = W at *
    generalize ansMay hm hi t y l = am at *
    have hS := Lib.hid ((Below.refl W.heap.size W).drew)
    refine wp_head_held (S := fun w' => Hid (Below W.heap.size W w')) 19 (by kernel_rfl) rfl rfl (by kernel_rfl) ?_
    simp only [List.take_succ_cons, List.take_zero, List.drop_succ_cons, List.drop_zero]
    refine held_take (i := 0) (d := (some 28)) (v := ?_) rfl rfl (by kernel_rfl) (by kernel_rfl) (by kernel_rfl) (fun _ _ _ h => h) (by rfl) ?_ hS ?_
    rotate_left
    · intro w' hSw; have kb := hSw.out; clear hSw; have z0 := ((CB.out.older (older_below kb)).cell 0).trans (show _ = some (.int .u64 (t' : Int)) from rfl); have z1 := ((CB.out.older (older_below kb)).cell 1).trans (show _ = some (.int .u64 (f' : Int)) from rfl); have z2 := ((CB.out.older (older_below kb)).cell 2).trans (show _ = some (.int .u16 (y' : Int)) from rfl); have z3 := ((CB.out.older (older_below kb)).cell 3).trans (show _ = some (.slice Ac lb.length cc) from rfl); clear kb; go_simp <;> with_reducible rfl
    simp only [Act.put, List.setIfInBounds_toArray, List.set_cons_zero, List.set_cons_succ]
    refine held_take (i := 2) (d := (some 30)) (v := ?_) rfl rfl (by kernel_rfl) (by kernel_rfl) (by kernel_rfl) (fun _ _ _ h => h) (by rfl) ?_ hS ?_
    rotate_left
    · intro w' hSw; have kb := hSw.out; clear hSw; have z0 := ((DB.out.older (older_below kb)).cell 0).trans (show _ = some (.int .u64 (t' : Int)) from rfl); have z1 := ((DB.out.older (older_below kb)).cell 1).trans (show _ = some (.int .u64 (f' : Int)) from rfl); have z2 := ((DB.out.older (older_below kb)).cell 2).trans (show _ = some (.int .u16 (y' : Int)) from rfl); have z3 := ((DB.out.older (older_below kb)).cell 3).trans (show _ = some (.string ⟨lb.toArray⟩) from rfl); clear kb; go_simp <;> with_reducible rfl
    simp only [Act.put, List.setIfInBounds_toArray, List.set_cons_zero, List.set_cons_succ]
    refine held_one (i := 1) (by kernel_rfl) rfl (by rfl) ?_
    go_simp
    refine (to_any t' f' y' Ac lb.length cc lb _ (SC.out.drewN 1)).mono ?_; rintro e wt ⟨rfl, bt⟩
    have hS : Hid (Below W.heap.size W wt) := Lib.hid (hS.out.trans (bt.mono hS.out.size))
    refine ⟨hS, ?_⟩
    clear bt
    (try simp only [Act.put, List.setIfInBounds_toArray, List.set_cons_zero, List.set_cons_succ])
    refine held_take (i := 3) (d := (some 31)) (v := ?_) rfl rfl (by kernel_rfl) (by kernel_rfl) (by kernel_rfl) (fun _ _ _ h => h) (by rfl) ?_ hS ?_
    rotate_left
    · intro w' hSw; (try dsimp only at hSw); go_simp <;> with_reducible rfl
    simp only [Act.put, List.setIfInBounds_toArray, List.set_cons_zero, List.set_cons_succ]
    refine held_take (i := 4) (d := (some 32)) (v := ?_) rfl rfl (by kernel_rfl) (by kernel_rfl) (by kernel_rfl) (fun _ _ _ h => h) (by rfl) ?_ hS ?_
    rotate_left
    · intro w' hSw; (try dsimp only at hSw); go_simp <;> with_reducible rfl
    simp only [Act.put, List.setIfInBounds_toArray, List.set_cons_zero, List.set_cons_succ]
    refine held_take (i := 5) (d := (some 33)) (v := ?_) rfl rfl (by kernel_rfl) (by kernel_rfl) (by kernel_rfl) (fun _ _ _ h => h) (by rfl) ?_ hS ?_
    rotate_left
    · intro w' hSw; (try dsimp only at hSw); go_simp <;> with_reducible rfl
    simp only [Act.put, List.setIfInBounds_toArray, List.set_cons_zero, List.set_cons_succ]
    refine held_take (i := 6) (d := (some 34)) (v := ?_) rfl rfl (by kernel_rfl) (by kernel_rfl) (by kernel_rfl) (fun _ _ _ h => h) (by rfl) ?_ hS ?_
    rotate_left
    · intro w' hSw; (try dsimp only at hSw); go_simp <;> with_reducible rfl
    simp only [Act.put, List.setIfInBounds_toArray, List.set_cons_zero, List.set_cons_succ]
    refine held_take (i := 7) (d := (some 35)) (v := ?_) rfl rfl (by kernel_rfl) (by kernel_rfl) (by kernel_rfl) (fun _ _ _ h => h) (by rfl) ?_ hS ?_
    rotate_left
    · intro w' hSw; (try dsimp only at hSw); go_simp <;> with_reducible rfl
    simp only [Act.put, List.setIfInBounds_toArray, List.set_cons_zero, List.set_cons_succ]
    refine held_take (i := 8) (d := (some 36)) (v := ?_) rfl rfl (by kernel_rfl) (by kernel_rfl) (by kernel_rfl) (fun _ _ _ h => h) (by rfl) ?_ hS ?_
    rotate_left
    · intro w' hSw; (try dsimp only at hSw); go_simp <;> with_reducible rfl
    simp only [Act.put, List.setIfInBounds_toArray, List.set_cons_zero, List.set_cons_succ]
    refine held_take (i := 9) (d := (some 37)) (v := ?_) rfl rfl (by kernel_rfl) (by kernel_rfl) (by kernel_rfl) (fun _ _ _ h => h) (by rfl) ?_ hS ?_
    rotate_left
    · intro w' hSw; (try dsimp only at hSw); go_simp <;> with_reducible rfl
    simp only [Act.put, List.setIfInBounds_toArray, List.set_cons_zero, List.set_cons_succ]
    refine held_take (i := 10) (d := (some 38)) (v := ?_) rfl rfl (by kernel_rfl) (by kernel_rfl) (by kernel_rfl) (fun _ _ _ h => h) (by rfl) ?_ hS ?_
    rotate_left
    · intro w' hSw; have kb := hSw.out; clear hSw; have z0 := ((HB.out.older (older_below kb)).cell 0).trans (show _ = some (.int .u64 (hm : Int)) from rfl); have z1 := ((HB.out.older (older_below kb)).cell 1).trans (show _ = some (.int .u32 (hi : Int)) from rfl); clear kb; go_simp <;> with_reducible rfl
    simp only [Act.put, List.setIfInBounds_toArray, List.set_cons_zero, List.set_cons_succ]
    refine held_take (i := 11) (d := (some 39)) (v := ?_) rfl rfl (by kernel_rfl) (by kernel_rfl) (by kernel_rfl) (fun _ _ _ h => h) (by rfl) ?_ hS ?_
    rotate_left
    · intro w' hSw; have kb := hSw.out; clear hSw; have z0 := ((PB.out.older (older_below kb)).cell 0).trans (show _ = some (.int .u64 (t : Int)) from rfl); have z1 := ((PB.out.older (older_below kb)).cell 1).trans (show _ = some (.int .u64 (f : Int)) from rfl); have z2 := ((PB.out.older (older_below kb)).cell 2).trans (show _ = some (.int .u16 (y : Int)) from rfl); have z3 := ((PB.out.older (older_below kb)).cell 3).trans (show _ = some (.string ⟨l.toArray⟩) from rfl); clear kb; go_simp <;> with_reducible rfl
    simp only [Act.put, List.setIfInBounds_toArray, List.set_cons_zero, List.set_cons_succ]
    refine held_take (i := 14) (d := (some 42)) (v := ?_) rfl rfl (by kernel_rfl) (by kernel_rfl) (by kernel_rfl) (fun _ _ _ h => h) (by rfl) ?_ hS ?_
    rotate_left
    · intro w' hSw; have kb := hSw.out; clear hSw; have z0 := ((HB.out.older (older_below kb)).cell 0).trans (show _ = some (.int .u64 (hm : Int)) from rfl); have z1 := ((HB.out.older (older_below kb)).cell 1).trans (show _ = some (.int .u32 (hi : Int)) from rfl); clear kb; go_simp <;> with_reducible rfl
    simp only [Act.put, List.setIfInBounds_toArray, List.set_cons_zero, List.set_cons_succ]
    refine held_take (i := 15) (d := (some 43)) (v := ?_) rfl rfl (by kernel_rfl) (by kernel_rfl) (by kernel_rfl) (fun _ _ _ h => h) (by rfl) ?_ hS ?_
    rotate_left
    · intro w' hSw; have kb := hSw.out; clear hSw; have z0 := ((PB.out.older (older_below kb)).cell 0).trans (show _ = some (.int .u64 (t : Int)) from rfl); have z1 := ((PB.out.older (older_below kb)).cell 1).trans (show _ = some (.int .u64 (f : Int)) from rfl); have z2 := ((PB.out.older (older_below kb)).cell 2).trans (show _ = some (.int .u16 (y : Int)) from rfl); have z3 := ((PB.out.older (older_below kb)).cell 3).trans (show _ = some (.string ⟨l.toArray⟩) from rfl); clear kb; go_simp <;> with_reducible rfl
    simp only [Act.put, List.setIfInBounds_toArray, List.set_cons_zero, List.set_cons_succ]
    refine held_one (i := 12) (by kernel_rfl) rfl (by rfl) ?_
    go_simp
    refine (OF.out _).mono ?_; rintro e wu ⟨Au, cu, rfl, -, bu⟩
    have hS : Hid (Below W.heap.size W wu) := Lib.hid (hS.out.trans (bu.mono hS.out.size))
    refine ⟨hS, ?_⟩
    clear bu
    (try simp only [Act.put, List.setIfInBounds_toArray, List.set_cons_zero, List.set_cons_succ])
    refine held_one (i := 13) (by kernel_rfl) rfl (by rfl) ?_
    go_simp
    refine (forMe_any hm hi t f y Au l.length cu _).mono ?_; rintro e wv ⟨rfl, bv⟩
    have hS : Hid (Below W.heap.size W wv) := Lib.hid (hS.out.trans (bv.mono hS.out.size))
    refine ⟨hS, ?_⟩
    clear bv
    (try simp only [Act.put, List.setIfInBounds_toArray, List.set_cons_zero, List.set_cons_succ])
    refine held_one (i := 16) (by kernel_rfl) rfl (by rfl) ?_
    go_simp
    refine (refForMe_any hm hi t f y l _).mono ?_; rintro e wx ⟨rfl, bx⟩
    have hS : Hid (Below W.heap.size W wx) := Lib.hid (hS.out.trans (bx.mono hS.out.size))
    refine ⟨hS, ?_⟩
    clear bx
    (try simp only [Act.put, List.setIfInBounds_toArray, List.set_cons_zero, List.set_cons_succ])
    refine held_take (i := 17) (d := (some 45)) (v := ?_) rfl rfl (by kernel_rfl) (by kernel_rfl) (by kernel_rfl) (fun _ _ _ h => h) (by rfl) ?_ hS ?_
    rotate_left
    · intro w' hSw; (try dsimp only at hSw); go_simp <;> with_reducible rfl
    simp only [Act.put, List.setIfInBounds_toArray, List.set_cons_zero, List.set_cons_succ]
    refine held_take (i := 18) (d := (some 46)) (v := ?_) rfl rfl (by kernel_rfl) (by kernel_rfl) (by kernel_rfl) (fun _ _ _ h => h) (by rfl) ?_ hS ?_
    rotate_left
    · intro w' hSw; (try dsimp only at hSw); go_simp <;> with_reducible rfl
    simp only [Act.put, List.setIfInBounds_toArray, List.set_cons_zero, List.set_cons_succ]
    refine wpAnyH_done (by kernel_rfl) ?_ _
    show wpList _ _ _ _ _ _
    have BZ := Lib.hid (B4.out.trans (hS.out.mono B4.out.size))
    go_wp2
    go_ret
    exact ⟨rfl, BZ.out⟩

set_option maxRecDepth 100000 in
theorem lifted (os : Os) (started : os.Started) (H : Type) (enc : TypeId × Value → H) :
    ReturnsInHanded {} Try.checked os 5 .any (Rows.ethAnswersSpec.pre6 enc Try.prog Try.f5 Rows.ethAnswersRow.domain false) (Rows.ethAnswersSpec.post enc Try.prog Try.f5 false true false false) := by
  refine returnsInHanded_of_change (C := Try.checked) own started (by kernel_rfl) Try.func5
    (ChangeSpec.witness6 (enc := enc) (C := Try.checked) false ⟨#[], #[.agg #[.int .u64 0, .int .u32 0], .agg #[.int .u64 0, .int .u64 0, .int .u16 0, .string ⟨#[]⟩]], []⟩ 8 (by kernel_rfl) (by kernel_rfl) (by kernel_rfl) (by kernel_rfl)) ?_
  intro W base args ds gs before hval0 hW hcnd _
  have hval : ∀ (j : Nat) t v, Try.f5.params[j]? = some t → args[j]? = some v → Value.okWide Try.prog W .any base t v := hval0
  have hW' := hW
  obtain ⟨p, q, hA0, hV, rfl, hfz, hnd⟩ := hW
  have hA : DataW.TrodAll enc Try.prog W 0 (fun _ => true) true Try.f5.params.toList args.toList ds p := hA0
  rw [Try.params5] at hA hval
  obtain ⟨v0, vs0, d0, ds0, p0, q0, hargs, rfl, rfl, h0, r0⟩ := trodAll_cons hA
  obtain ⟨v1, vs1, d1, ds1, p1, q1, rfl, rfl, rfl, h1, r1⟩ := trodAll_cons r0
  obtain ⟨rfl, rfl, rfl⟩ := trodAll_nil r1
  obtain rfl : args = #[v0, v1] := by cases args; simp_all
  obtain ⟨a0_0, a0_1, rfl, w0_0, w0_1⟩ := Et.open_ho (hval 0 54 v0 rfl rfl) h0
  obtain ⟨a1_0, a1_1, a1_2, a1_3, rfl, w1_0, w1_1, w1_2, w1_3⟩ := Et.open_pk (hval 1 25 v1 rfl rfl) h1
  clear hA0 hval0
  exact law_close hW' laidOut (by kernel_rfl) rfl Try.underlying4 rfl ⟨rfl, rfl, rfl⟩ (walk W a0_0 a0_1 w0_0 w0_1 a1_0 a1_1 a1_2 a1_3 w1_0 w1_1 w1_2 w1_3)

theorem over : Rows.ethAnswersRow.holds Try.pinned (OpenSpec.ofChange Rows.ethAnswersSpec) :=
  OpenClaim.holds_of_wide 5 Try.f5 rfl rfl rfl rfl rfl rfl rfl ⟨rfl, rfl, rfl, rfl, rfl⟩ rfl rfl rfl rfl rfl (by kernel_rfl) Try.func5 (by kernel_rfl)
    (of_decide_eq_true (by kernel_rfl)) (by unfold Func.isWrapper; first | (rw [if_pos (by decide +kernel)]; kernel_rfl) | (rw [if_neg (by decide +kernel)]; exact ⟨rfl, rfl⟩))
    (fun os started H enc _ => lifted os started H enc)

theorem proved : Rows.EthAnswersSaid := over

end Go.Proofs.Ytahmdogpnojcpaa.ethAnswers
