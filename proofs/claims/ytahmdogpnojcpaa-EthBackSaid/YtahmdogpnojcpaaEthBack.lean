/- Whatever packet, message and hosts come in, 'pantlerlaw14.EthBack' returns true and leaves them as they were. No condition. -/
import Derived.Test.YtahmdogpnojcpaaEtD
namespace Go.Proofs.Ytahmdogpnojcpaa.ethBack
open Go.ChangeShapes Go.WideShapes Go.ChangeAt Go.RowKit Go.Deep Rk Es Di Et
set_option linter.unusedVariables false


set_option maxRecDepth 100000 in
set_option maxHeartbeats 8000000 in
theorem walk (w : World) (t f y : Nat) (l : List UInt8) (ht : t ≤ 18446744073709551615) (hf : f ≤ 18446744073709551615) (hy : y ≤ 65535) (hl0 : l.length ≤ maxLen)
    (o : Int) (m i m' i' : Nat) (ho : -9223372036854775808 ≤ o ∧ o ≤ 9223372036854775807) (hmm : m ≤ 18446744073709551615) (hii : i ≤ 4294967295) (hmm' : m' ≤ 18446744073709551615) (hii' : i' ≤ 4294967295)
    (hm hi : Nat) (hhm : hm ≤ 18446744073709551615) (hhi : hi ≤ 4294967295) (om oi : Nat) (hom : om ≤ 18446744073709551615) (hoi : oi ≤ 4294967295) :
    Calls Try.prog 6 #[.agg (dpV t f y l), .agg (arV o m i m' i'), .agg (hoV hm hi), .agg (hoV om oi)] w fun e w' => e = .returned (.bool true) ∧ Below w.heap.size w w' := by
  obtain ⟨W, hW⟩ : ∃ W, (((w.alloc (.cells (dpV t f y l) 25)).alloc (.cells (arV o m i m' i') 44)).alloc (.cells (hoV hm hi) 54)).alloc (.cells (hoV om oi) 54) = W := ⟨_, rfl⟩
  have b0 : Below w.heap.size w W := by rw [← hW]; exact ((((Below.refl w.heap.size w).alloc (Nat.le_refl _) _).alloc (by simp) _).alloc (by simp; omega) _).alloc (by simp; omega) _
  have B0 := Lib.hid b0
  have P0 := Lib.hid (show Blk W w.heap.size 25 (dpV t f y l) from by rw [← hW]; exact (((Blk.new w _ _).alloc _).alloc _).alloc _)
  have A0 := Lib.hid (show Blk W (w.heap.size + 1) 44 (arV o m i m' i') from by rw [← hW]; have := ((Blk.new (w.alloc (.cells (dpV t f y l) 25)) 44 (arV o m i m' i')).alloc (.cells (hoV hm hi) 54)).alloc (.cells (hoV om oi) 54); simpa using this)
  have H0 := Lib.hid (show Blk W (w.heap.size + 2) 54 (hoV hm hi) from by rw [← hW]; have := (Blk.new ((w.alloc (.cells (dpV t f y l) 25)).alloc (.cells (arV o m i m' i') 44)) 54 (hoV hm hi)).alloc (.cells (hoV om oi) 54); simpa using this)
  have U0 := Lib.hid (show Blk W (w.heap.size + 3) 54 (hoV om oi) from by rw [← hW]; have := Blk.new (((w.alloc (.cells (dpV t f y l) 25)).alloc (.cells (arV o m i m' i') 44)).alloc (.cells (hoV hm hi) 54)) 54 (hoV om oi); simpa using this)
  have HW := Lib.hid hW
  clear b0 hW
  have AL := Lib.hid (fun W => alive_any W)
  have hsz : (⟨l.toArray⟩ : ByteArray).size = l.length := rfl
  go_enter Try.func6, Try.ntmps6
  go_upto_region 1 with fail
  rw [HW.out]
  clear HW
  go_wp2_with fail
  refine (AL.out W).mono ?_; rintro e w1 ⟨rfl, b1⟩
  have B1 := Lib.hid (B0.out.trans (b1.mono B0.out.size))
  have P1 := Lib.hid (P0.out.older (older_below b1))
  have A1 := Lib.hid (A0.out.older (older_below b1))
  have H1 := Lib.hid (H0.out.older (older_below b1))
  have U1 := Lib.hid (U0.out.older (older_below b1))
  clear B0 P0 A0 H0 U0
  clear b1 AL
  have z0 := (P1.out.cell 0).trans (show _ = some (.int .u64 (t : Int)) from rfl)
  have z1 := (P1.out.cell 1).trans (show _ = some (.int .u64 (f : Int)) from rfl)
  have z2 := (P1.out.cell 2).trans (show _ = some (.int .u16 (y : Int)) from rfl)
  have z3 := (P1.out.cell 3).trans (show _ = some (.string ⟨l.toArray⟩) from rfl)
  by_cases hl : (l.length : Int) > 3000
  · go_wp2
    go_ret
    exact ⟨rfl, B1.out⟩
  have HL := Lib.hid (show l.length ≤ 3000 from by omega)
  have OF := Lib.hid (fun W => of_any t f y l W (by have := HL.out; omega))
  go_wp2_with fail
  refine (OF.out w1).mono ?_; rintro e w2 ⟨Aq, c2, rfl, s2, b2⟩
  have B2 := Lib.hid (B1.out.trans (b2.mono B1.out.size))
  have P2 := Lib.hid (P1.out.older (older_below b2))
  have A2 := Lib.hid (A1.out.older (older_below b2))
  have H2 := Lib.hid (H1.out.older (older_below b2))
  have U2 := Lib.hid (U1.out.older (older_below b2))
  clear B1 P1 A1 H1 U1
  have T2 := Lib.hid s2
  clear b2 z0 z1 z2 z3 s2
  go_wp2_with fail
  refine (bytes_any' t f y ht hf hy Aq l.length c2 l w2 T2.out (by have := HL.out; omega)).mono ?_; rintro e w3 ⟨T, b3⟩
  have B3 := Lib.hid (B2.out.trans (b3.mono B2.out.size))
  have P3 := Lib.hid (P2.out.older (older_below b3))
  have A3 := Lib.hid (A2.out.older (older_below b3))
  have H3 := Lib.hid (H2.out.older (older_below b3))
  have U3 := Lib.hid (U2.out.older (older_below b3))
  clear B2 P2 A2 H2 U2
  have HT := Lib.hid T
  clear b3 T2 T OF
  obtain ⟨b, er, rfl, hber⟩ : ∃ b er, e = .returned (.tuple #[b, .int .i64 er]) ∧ ((pkMay t f l.length = false ∧ ¬ er = 0) ∨ (pkMay t f l.length = true ∧ er = 0 ∧ ∃ g c, b = .slice (some ⟨g, 0, none⟩) (14 + l.length) c ∧ Src w3 (some ⟨g, 0, none⟩) (14 + l.length) c (headL t f y ++ l))) := by
    have e14 : (headL t f y ++ l).length = 14 + l.length := by rw [List.length_append, headL_length]
    rcases HT.out with ⟨h, rfl⟩ | ⟨h, g, c, rfl, O⟩
    · exact ⟨_, _, rfl, .inl ⟨h, by unfold pkErr; split <;> decide⟩⟩
    · have O := O.src
      rw [e14] at O ⊢
      exact ⟨_, _, rfl, .inr ⟨h, rfl, g, c, rfl, O⟩⟩
  have HB := Lib.hid hber
  clear hber HT
  go_upto_if 35 with fail
  go_cut [] (fun wx => Hid (Below w3.heap.size w3 wx))
  case first =>
    rcases HB.out with ⟨h, hn⟩ | ⟨h, rfl, g, c, rfl, sb⟩
    · clear h HB
      have hn' : (er == 0) = false := by simpa using hn
      have HR := Lib.hid (Below.refl w3.heap.size w3)
      go_wp2
      go_meet
      exact HR
    · have PKB := Lib.hid (pk_back (t := t) (f := f) (y := y) (l := l) hy h)
      have PAR := Lib.hid (parse_any (some ⟨g, 0, none⟩) (14 + l.length) c (headL t f y ++ l) w3 sb (by have := HL.out; omega))
      clear h HB sb
      go_wp2_with fail
      refine PAR.out.mono ?_; rintro e w4 ⟨T, b4⟩
      obtain ⟨k1, k2, k3, k4, k5⟩ := PKB.out
      clear PAR PKB
      rcases T with ⟨n, _⟩ | ⟨_, Ac, cc, rfl, sc⟩
      · exact absurd k1 n
      have k6 : (headL t f y ++ l).length - 14 = l.length := by rw [List.length_append, headL_length]; omega
      rw [k5, k6] at sc
      rw [k2, k3, k4, k6]
      clear k1 k2 k3 k4 k5 k6
      have B4 := Lib.hid b4
      have P4 := Lib.hid (P3.out.older (older_below b4))
      have SC4 := Lib.hid sc
      clear b4 sc
      have b5 : Below w4.heap.size w4 (w4.alloc (.cells (pkV t f y Ac l.length cc) 32)) := (Below.refl _ w4).alloc (Nat.le_refl _) _
      have B5 := Lib.hid (B4.out.trans (b5.mono B4.out.size))
      have PB := Lib.hid (P4.out.older (older_below b5))
      have SC := Lib.hid (SC4.out.below b5)
      have CB := Lib.hid (Blk.new w4 32 (pkV t f y Ac l.length cc))
      clear b5 B4 P4 SC4
      go_upto_region 8 with fail
      generalize w4.alloc (.cells (pkV t f y Ac l.length cc) 32) = W at *
      refine wp_region_held_drew (S := fun w' => Hid (Below W.heap.size W w')) (by kernel_rfl) (Lib.hid ((Below.refl W.heap.size W).drew)) (fun hS => ?_)
      refine held_take (i := 0) (d := (some 41)) (v := ?_) rfl rfl (by kernel_rfl) (by kernel_rfl) (by kernel_rfl) (fun _ _ _ h => h) (by rfl) ?_ hS ?_
      rotate_left
      · intro w' hSw; (try dsimp only at hSw); go_simp <;> with_reducible rfl
      simp only [Act.put, List.setIfInBounds_toArray, List.set_cons_zero, List.set_cons_succ]
      refine held_take (i := 1) (d := (some 42)) (v := ?_) rfl rfl (by kernel_rfl) (by kernel_rfl) (by kernel_rfl) (fun _ _ _ h => h) (by rfl) ?_ hS ?_
      rotate_left
      · intro w' hSw; (try dsimp only at hSw); go_simp <;> with_reducible rfl
      simp only [Act.put, List.setIfInBounds_toArray, List.set_cons_zero, List.set_cons_succ]
      refine held_take (i := 2) (d := (some 43)) (v := ?_) rfl rfl (by kernel_rfl) (by kernel_rfl) (by kernel_rfl) (fun _ _ _ h => h) (by rfl) ?_ hS ?_
      rotate_left
      · intro w' hSw; (try dsimp only at hSw); go_simp <;> with_reducible rfl
      simp only [Act.put, List.setIfInBounds_toArray, List.set_cons_zero, List.set_cons_succ]
      refine held_take (i := 3) (d := (some 44)) (v := ?_) rfl rfl (by kernel_rfl) (by kernel_rfl) (by kernel_rfl) (fun _ _ _ h => h) (by rfl) ?_ hS ?_
      rotate_left
      · intro w' hSw; have kb := hSw.out; clear hSw; have z0 := ((CB.out.older (older_below kb)).cell 0).trans (show _ = some (.int .u64 (t : Int)) from rfl); have z1 := ((CB.out.older (older_below kb)).cell 1).trans (show _ = some (.int .u64 (f : Int)) from rfl); have z2 := ((CB.out.older (older_below kb)).cell 2).trans (show _ = some (.int .u16 (y : Int)) from rfl); have z3 := ((CB.out.older (older_below kb)).cell 3).trans (show _ = some (.slice Ac l.length cc) from rfl); clear kb; go_simp <;> with_reducible rfl
      simp only [Act.put, List.setIfInBounds_toArray, List.set_cons_zero, List.set_cons_succ]
      refine held_take (i := 5) (d := (some 46)) (v := ?_) rfl rfl (by kernel_rfl) (by kernel_rfl) (by kernel_rfl) (fun _ _ _ h => h) (by rfl) ?_ hS ?_
      rotate_left
      · intro w' hSw; have kb := hSw.out; clear hSw; have z0 := ((PB.out.older (older_below kb)).cell 0).trans (show _ = some (.int .u64 (t : Int)) from rfl); have z1 := ((PB.out.older (older_below kb)).cell 1).trans (show _ = some (.int .u64 (f : Int)) from rfl); have z2 := ((PB.out.older (older_below kb)).cell 2).trans (show _ = some (.int .u16 (y : Int)) from rfl); have z3 := ((PB.out.older (older_below kb)).cell 3).trans (show _ = some (.string ⟨l.toArray⟩) from rfl); clear kb; go_simp <;> with_reducible rfl
      simp only [Act.put, List.setIfInBounds_toArray, List.set_cons_zero, List.set_cons_succ]
      refine held_one (i := 4) (by kernel_rfl) rfl (by rfl) ?_
      go_simp
      refine (to_any t f y Ac l.length cc l _ (SC.out.drewN 1)).mono ?_; rintro e wt ⟨rfl, bt⟩
      have hS : Hid (Below W.heap.size W wt) := Lib.hid (hS.out.trans (bt.mono hS.out.size))
      refine ⟨hS, ?_⟩
      clear bt
      (try simp only [Act.put, List.setIfInBounds_toArray, List.set_cons_zero, List.set_cons_succ])
      refine held_take (i := 6) (d := (some 47)) (v := ?_) rfl rfl (by kernel_rfl) (by kernel_rfl) (by kernel_rfl) (fun _ _ _ h => h) (by rfl) ?_ hS ?_
      rotate_left
      · intro w' hSw; (try dsimp only at hSw); go_simp <;> with_reducible rfl
      simp only [Act.put, List.setIfInBounds_toArray, List.set_cons_zero, List.set_cons_succ]
      refine held_take (i := 7) (d := (some 48)) (v := ?_) rfl rfl (by kernel_rfl) (by kernel_rfl) (by kernel_rfl) (fun _ _ _ h => h) (by rfl) ?_ hS ?_
      rotate_left
      · intro w' hSw; (try dsimp only at hSw); go_simp <;> with_reducible rfl
      simp only [Act.put, List.setIfInBounds_toArray, List.set_cons_zero, List.set_cons_succ]
      refine wpAnyH_done (by kernel_rfl) ?_ _
      have BM := Lib.hid (B5.out.trans (hS.out.mono B5.out.size))
      go_wp2
      go_meet
      exact BM
  case rest => as_aux_lemma =>
    have hc := hcut.out
    clear HB
    have B4 := Lib.hid (B3.out.trans (hc.mono B3.out.size))
    have P4 := Lib.hid (P3.out.older (older_below hc))
    have A4 := Lib.hid (A3.out.older (older_below hc))
    have H4 := Lib.hid (H3.out.older (older_below hc))
    have U4 := Lib.hid (U3.out.older (older_below hc))
    clear B3 P3 A3 H3 U3
    clear hc hcut
    have AB := Lib.hid (fun W => arBytes_any o m i m' i' hmm hii hmm' hii' W)
    have z0 := (A4.out.cell 0).trans (show _ = some (.int .i64 o) from rfl)
    have z1 := (A4.out.cell 1).trans (show _ = some (.int .u64 (m : Int)) from rfl)
    have z2 := (A4.out.cell 2).trans (show _ = some (.int .u32 (i : Int)) from rfl)
    have z3 := (A4.out.cell 3).trans (show _ = some (.int .u64 (m' : Int)) from rfl)
    have z4 := (A4.out.cell 4).trans (show _ = some (.int .u32 (i' : Int)) from rfl)
    go_wp2_with fail
    refine (AB.out _).mono ?_; rintro e w5 ⟨T, b5⟩
    have B5 := Lib.hid (B4.out.trans (b5.mono B4.out.size))
    have P5 := Lib.hid (P4.out.older (older_below b5))
    have A5 := Lib.hid (A4.out.older (older_below b5))
    have H5 := Lib.hid (H4.out.older (older_below b5))
    have U5 := Lib.hid (U4.out.older (older_below b5))
    clear B4 P4 A4 H4 U4
    clear b5 AB z0 z1 z2 z3 z4
    rcases T with ⟨h, rfl⟩ | ⟨h, g, c, rfl, O⟩
    · clear h
      go_wp2
      go_ret
      exact ⟨rfl, B5.out⟩
    have LN := Lib.hid (arL_length o m i m' i')
    rw [arL_length] at O ⊢
    have MAY := Lib.hid h
    have BK := Lib.hid (ar_back (o := o) (m := m) (i := i) (m' := m') (i' := i') hii hii' h)
    have SC5 := Lib.hid O.src
    clear h O
    generalize hL : arL o m i m' i' = L at *
    clear hL
    have PAR := Lib.hid (fun W (h : Src W (some ⟨g, 0, none⟩) 28 c L) => parseARP_any (some ⟨g, 0, none⟩) 28 c L W h (by omega))
    go_wp2_with fail
    refine (PAR.out _ SC5.out).mono ?_; rintro e w6 ⟨T, b6⟩
    have B6 := Lib.hid (B5.out.trans (b6.mono B5.out.size))
    have A6 := Lib.hid (A5.out.older (older_below b6))
    have H6 := Lib.hid (H5.out.older (older_below b6))
    have U6 := Lib.hid (U5.out.older (older_below b6))
    have SC6 := Lib.hid (SC5.out.below b6)
    clear B5 A5 H5 U5 SC5
    clear b6 PAR
    rcases T with ⟨n, _⟩ | ⟨_, rfl⟩
    · rw [BK.out.1] at n; cases n
    rw [BK.out.2.1, BK.out.2.2.1, BK.out.2.2.2.1, BK.out.2.2.2.2.1, BK.out.2.2.2.2.2]
    have b7 : Below w6.heap.size w6 (w6.alloc (.cells (arV o m i m' i') 45)) := (Below.refl _ w6).alloc (Nat.le_refl _) _
    have D7 := Lib.hid (Blk.new w6 45 (arV o m i m' i'))
    have B7 := Lib.hid (B6.out.trans (b7.mono B6.out.size))
    have A7 := Lib.hid (A6.out.older (older_below b7))
    have H7 := Lib.hid (H6.out.older (older_below b7))
    have U7 := Lib.hid (U6.out.older (older_below b7))
    have SC7 := Lib.hid (SC6.out.below b7)
    clear B6 A6 H6 U6 SC6
    clear b7
    go_upto_region 14 with fail
    generalize w6.alloc (.cells (arV o m i m' i') 45) = w7 at *
    have z0 := (A7.out.cell 0).trans (show _ = some (.int .i64 o) from rfl)
    have z1 := (A7.out.cell 1).trans (show _ = some (.int .u64 (m : Int)) from rfl)
    have z2 := (A7.out.cell 2).trans (show _ = some (.int .u32 (i : Int)) from rfl)
    have z3 := (A7.out.cell 3).trans (show _ = some (.int .u64 (m' : Int)) from rfl)
    have z4 := (A7.out.cell 4).trans (show _ = some (.int .u32 (i' : Int)) from rfl)
    have d0 := (D7.out.cell 0).trans (show _ = some (.int .i64 o) from rfl)
    have d1 := (D7.out.cell 1).trans (show _ = some (.int .u64 (m : Int)) from rfl)
    have d2 := (D7.out.cell 2).trans (show _ = some (.int .u32 (i : Int)) from rfl)
    have d3 := (D7.out.cell 3).trans (show _ = some (.int .u64 (m' : Int)) from rfl)
    have d4 := (D7.out.cell 4).trans (show _ = some (.int .u32 (i' : Int)) from rfl)
    have x0 := (H7.out.cell 0).trans (show _ = some (.int .u64 (hm : Int)) from rfl)
    have x1 := (H7.out.cell 1).trans (show _ = some (.int .u32 (hi : Int)) from rfl)
    have AN := Lib.hid (fun W (h : Src W (some ⟨g, 0, none⟩) 28 c L) => answer_any hm hi 281474976710655 m 2054 hhm hhi (some ⟨g, 0, none⟩) 28 c L W h (by omega))
    go_wp2_with fail
    refine (AN.out _ SC7.out).mono ?_; rintro e w8 ⟨T, b8⟩
    have B8 := Lib.hid (B7.out.trans (b8.mono B7.out.size))
    have A8 := Lib.hid (A7.out.older (older_below b8))
    have H8 := Lib.hid (H7.out.older (older_below b8))
    have U8 := Lib.hid (U7.out.older (older_below b8))
    have SC8 := Lib.hid (SC7.out.below b8)
    clear B7 A7 H7 U7 SC7
    clear b8 AN z0 z1 z2 z3 z4 d0 d1 d2 d3 d4 x0 x1 D7
    have AM := Lib.hid (show ansMay hm hi 281474976710655 2054 L = (decide (o = 1) && (decide (i' = hi) && decide (hm < 256 ^ 6))) from by
      unfold ansMay
      rw [BK.out.1, BK.out.2.1, BK.out.2.2.2.2.2]
      simp [fmR])
    rcases T with ⟨hno, rfl⟩ | ⟨hyes, g2, c2', rfl, sx⟩
    · rw [AM.out] at hno
      have NW := Lib.hid (show ¬ o = 1 ∨ ¬ i' = hi ∨ ¬ hm < 256 ^ 6 from by
        by_cases h1 : o = 1
        · by_cases h2 : i' = hi
          · right; right; intro h3; (simp [h1, h2, h3] at hno); try omega
          · exact .inr (.inl h2)
        · exact .inl h1)
      clear hno
      have b9 : Below w8.heap.size w8 (w8.alloc (.cells pk0 32)) := (Below.refl _ w8).alloc (Nat.le_refl _) _
      have B9 := Lib.hid (B8.out.trans (b9.mono B8.out.size))
      have A9 := Lib.hid (A8.out.older (older_below b9))
      have H9 := Lib.hid (H8.out.older (older_below b9))
      clear B8 A8 H8
      clear b9
      go_upto_region 17 with fail
      generalize w8.alloc (.cells pk0 32) = w9 at *
      have z0 := (A9.out.cell 0).trans (show _ = some (.int .i64 o) from rfl)
      have z1 := (A9.out.cell 1).trans (show _ = some (.int .u64 (m : Int)) from rfl)
      have z2 := (A9.out.cell 2).trans (show _ = some (.int .u32 (i : Int)) from rfl)
      have z3 := (A9.out.cell 3).trans (show _ = some (.int .u64 (m' : Int)) from rfl)
      have z4 := (A9.out.cell 4).trans (show _ = some (.int .u32 (i' : Int)) from rfl)
      have x0 := (H9.out.cell 0).trans (show _ = some (.int .u64 (hm : Int)) from rfl)
      have x1 := (H9.out.cell 1).trans (show _ = some (.int .u32 (hi : Int)) from rfl)
      by_cases h1 : o = 1
      rotate_left
      · have hne : (o != 1) = true := by simpa using h1
        go_wp2
        go_ret
        exact ⟨rfl, B9.out⟩
      subst h1
      by_cases h2 : i' = hi
      rotate_left
      · have hne : ((i' : Int) != (hi : Int)) = true := by simp; omega
        go_wp2
        go_ret
        exact ⟨rfl, B9.out⟩
      subst h2
      have h3 : (hm : Int) ≥ 281474976710656 := by
        rcases NW.out with h | h | h
        · exact absurd rfl h
        · exact absurd rfl h
        · simp at h; omega
      go_wp2
      go_ret
      exact ⟨by simp, B9.out⟩
    · rw [AM.out] at hyes
      simp only [Bool.and_eq_true, decide_eq_true_eq] at hyes
      obtain ⟨h1, h2, h3⟩ := hyes
      have MH := Lib.hid (show m < 256 ^ 6 from by
        have := MAY.out
        unfold arMay at this
        simp only [Bool.and_eq_true, decide_eq_true_eq] at this
        exact this.2.1)
      have AE := Lib.hid (show ansL hm hi L = arL 2 hm hi m i from by unfold ansL; rw [BK.out.2.2.1, BK.out.2.2.2.1])
      have BK2 := Lib.hid (ar_back (o := 2) (m := hm) (i := hi) (m' := m) (i' := i) hhi hii (by unfold arMay; rw [decide_eq_true h3, decide_eq_true MH.out]; decide))
      rw [AE.out] at sx
      have SX8 := Lib.hid sx
      clear sx h1 h2 h3 AM AE SC8
      generalize hL2 : arL 2 hm hi m i = L2 at *
      clear hL2
      have b9 : Below w8.heap.size w8 (w8.alloc (.cells (pkV m hm 2054 (some ⟨g2, 0, none⟩) 28 c2') 32)) := (Below.refl _ w8).alloc (Nat.le_refl _) _
      have X9 := Lib.hid (Blk.new w8 32 (pkV m hm 2054 (some ⟨g2, 0, none⟩) 28 c2'))
      have B9 := Lib.hid (B8.out.trans (b9.mono B8.out.size))
      have A9 := Lib.hid (A8.out.older (older_below b9))
      have H9 := Lib.hid (H8.out.older (older_below b9))
      have U9 := Lib.hid (U8.out.older (older_below b9))
      have SX9 := Lib.hid (SX8.out.below b9)
      clear B8 A8 H8 U8 SX8
      clear b9
      go_upto_region 17 with fail
      generalize w8.alloc (.cells (pkV m hm 2054 (some ⟨g2, 0, none⟩) 28 c2') 32) = w9 at *
      have y3 := (X9.out.cell 3).trans (show _ = some (.slice (some ⟨g2, 0, none⟩) 28 c2') from rfl)
      have PAR := Lib.hid (fun W (h : Src W (some ⟨g2, 0, none⟩) 28 c2' L2) => parseARP_any (some ⟨g2, 0, none⟩) 28 c2' L2 W h (by omega))
      go_wp2_with fail
      refine (PAR.out _ SX9.out).mono ?_; rintro e w10 ⟨T, b10⟩
      have B10 := Lib.hid (B9.out.trans (b10.mono B9.out.size))
      have A10 := Lib.hid (A9.out.older (older_below b10))
      have H10 := Lib.hid (H9.out.older (older_below b10))
      have U10 := Lib.hid (U9.out.older (older_below b10))
      have X10 := Lib.hid (X9.out.older (older_below b10))
      have SX10 := Lib.hid (SX9.out.below b10)
      clear B9 A9 H9 U9 X9 SX9
      clear b10 PAR y3
      rcases T with ⟨n, _⟩ | ⟨_, rfl⟩
      · rw [BK2.out.1] at n; cases n
      rw [BK2.out.2.1, BK2.out.2.2.1, BK2.out.2.2.2.1, BK2.out.2.2.2.2.1, BK2.out.2.2.2.2.2]
      have b11 : Below w10.heap.size w10 (w10.alloc (.cells (arV 2 hm hi m i) 45)) := (Below.refl _ w10).alloc (Nat.le_refl _) _
      have Y11 := Lib.hid (Blk.new w10 45 (arV 2 hm hi m i))
      have B11 := Lib.hid (B10.out.trans (b11.mono B10.out.size))
      have A11 := Lib.hid (A10.out.older (older_below b11))
      have H11 := Lib.hid (H10.out.older (older_below b11))
      have U11 := Lib.hid (U10.out.older (older_below b11))
      have X11 := Lib.hid (X10.out.older (older_below b11))
      have SX11 := Lib.hid (SX10.out.below b11)
      clear B10 A10 H10 U10 X10 SX10
      clear b11
      go_upto_region 20 with fail
      generalize w10.alloc (.cells (arV 2 hm hi m i) 45) = w11 at *
      have y0 := (X11.out.cell 0).trans (show _ = some (.int .u64 (m : Int)) from rfl)
      have y1 := (X11.out.cell 1).trans (show _ = some (.int .u64 (hm : Int)) from rfl)
      have y2 := (X11.out.cell 2).trans (show _ = some (.int .u16 2054) from rfl)
      have y3 := (X11.out.cell 3).trans (show _ = some (.slice (some ⟨g2, 0, none⟩) 28 c2') from rfl)
      have x0 := (U11.out.cell 0).trans (show _ = some (.int .u64 (om : Int)) from rfl)
      have x1 := (U11.out.cell 1).trans (show _ = some (.int .u32 (oi : Int)) from rfl)
      have AN := Lib.hid (fun W (h : Src W (some ⟨g2, 0, none⟩) 28 c2' L2) => answer_any om oi m hm 2054 hom hoi (some ⟨g2, 0, none⟩) 28 c2' L2 W h (by omega))
      go_wp2_with fail
      refine (AN.out _ SX11.out).mono ?_; rintro e w12 ⟨T, b12⟩
      have B12 := Lib.hid (B11.out.trans (b12.mono B11.out.size))
      have A12 := Lib.hid (A11.out.older (older_below b12))
      have H12 := Lib.hid (H11.out.older (older_below b12))
      have X12 := Lib.hid (X11.out.older (older_below b12))
      have Y12 := Lib.hid (Y11.out.older (older_below b12))
      clear B11 A11 H11 X11 Y11
      clear b12 AN
      have AM2 : ansMay om oi m 2054 L2 = false := by
        unfold ansMay
        rw [BK2.out.1, BK2.out.2.1]
        simp
      rcases T with ⟨_, rfl⟩ | ⟨n, _⟩
      rotate_left
      · rw [AM2] at n; cases n
      have b13 : Below w12.heap.size w12 (w12.alloc (.cells pk0 32)) := (Below.refl _ w12).alloc (Nat.le_refl _) _
      have B13 := Lib.hid (B12.out.trans (b13.mono B12.out.size))
      have A13 := Lib.hid (A12.out.older (older_below b13))
      have H13 := Lib.hid (H12.out.older (older_below b13))
      have X13 := Lib.hid (X12.out.older (older_below b13))
      have Y13 := Lib.hid (Y12.out.older (older_below b13))
      clear B12 A12 H12 X12 Y12
      clear b13 AM2 x0 x1 y0 y1 y2 y3
      go_upto_region 21 with fail
      generalize w12.alloc (.cells pk0 32) = w13 at *
      have z0 := (A13.out.cell 0).trans (show _ = some (.int .i64 o) from rfl)
      have z1 := (A13.out.cell 1).trans (show _ = some (.int .u64 (m : Int)) from rfl)
      have z2 := (A13.out.cell 2).trans (show _ = some (.int .u32 (i : Int)) from rfl)
      have z3 := (A13.out.cell 3).trans (show _ = some (.int .u64 (m' : Int)) from rfl)
      have z4 := (A13.out.cell 4).trans (show _ = some (.int .u32 (i' : Int)) from rfl)
      have x0 := (H13.out.cell 0).trans (show _ = some (.int .u64 (hm : Int)) from rfl)
      have x1 := (H13.out.cell 1).trans (show _ = some (.int .u32 (hi : Int)) from rfl)
      have y0 := (X13.out.cell 0).trans (show _ = some (.int .u64 (m : Int)) from rfl)
      have y1 := (X13.out.cell 1).trans (show _ = some (.int .u64 (hm : Int)) from rfl)
      have y2 := (X13.out.cell 2).trans (show _ = some (.int .u16 2054) from rfl)
      have y3 := (X13.out.cell 3).trans (show _ = some (.slice (some ⟨g2, 0, none⟩) 28 c2') from rfl)
      have v0 := (Y13.out.cell 0).trans (show _ = some (.int .i64 2) from rfl)
      have v1 := (Y13.out.cell 1).trans (show _ = some (.int .u64 (hm : Int)) from rfl)
      have v2 := (Y13.out.cell 2).trans (show _ = some (.int .u32 (hi : Int)) from rfl)
      have v3 := (Y13.out.cell 3).trans (show _ = some (.int .u64 (m : Int)) from rfl)
      have v4 := (Y13.out.cell 4).trans (show _ = some (.int .u32 (i : Int)) from rfl)
      go_wp2
      go_ret
      exact ⟨rfl, B13.out⟩

set_option maxRecDepth 100000 in
theorem lifted (os : Os) (started : os.Started) (H : Type) (enc : TypeId × Value → H) :
    ReturnsInHanded {} Try.checked os 6 .any (Rows.ethBackSpec.pre6 enc Try.prog Try.f6 Rows.ethBackRow.domain false) (Rows.ethBackSpec.post enc Try.prog Try.f6 false true false false) := by
  refine returnsInHanded_of_change (C := Try.checked) own started (by kernel_rfl) Try.func6
    (ChangeSpec.witness6 (enc := enc) (C := Try.checked) false ⟨#[], #[.agg #[.int .u64 0, .int .u64 0, .int .u16 0, .string ⟨#[]⟩], .agg #[.int .i64 0, .int .u64 0, .int .u32 0, .int .u64 0, .int .u32 0], .agg #[.int .u64 0, .int .u32 0], .agg #[.int .u64 0, .int .u32 0]], []⟩ 8 (by kernel_rfl) (by kernel_rfl) (by kernel_rfl) (by kernel_rfl)) ?_
  intro W base args ds gs before hval0 hW hcnd _
  have hval : ∀ (j : Nat) t v, Try.f6.params[j]? = some t → args[j]? = some v → Value.okWide Try.prog W .any base t v := hval0
  have hW' := hW
  obtain ⟨p, q, hA0, hV, rfl, hfz, hnd⟩ := hW
  have hA : DataW.TrodAll enc Try.prog W 0 (fun _ => true) true Try.f6.params.toList args.toList ds p := hA0
  rw [Try.params6] at hA hval
  obtain ⟨v0, vs0, d0, ds0, p0, q0, hargs, rfl, rfl, h0, r0⟩ := trodAll_cons hA
  obtain ⟨v1, vs1, d1, ds1, p1, q1, rfl, rfl, rfl, h1, r1⟩ := trodAll_cons r0
  obtain ⟨v2, vs2, d2, ds2, p2, q2, rfl, rfl, rfl, h2, r2⟩ := trodAll_cons r1
  obtain ⟨v3, vs3, d3, ds3, p3, q3, rfl, rfl, rfl, h3, r3⟩ := trodAll_cons r2
  obtain ⟨rfl, rfl, rfl⟩ := trodAll_nil r3
  obtain rfl : args = #[v0, v1, v2, v3] := by cases args; simp_all
  obtain ⟨a0_0, a0_1, a0_2, a0_3, rfl, w0_0, w0_1, w0_2, w0_3⟩ := Et.open_pk (hval 0 25 v0 rfl rfl) h0
  obtain ⟨a1_0, a1_1, a1_2, a1_3, a1_4, rfl, w1_0, w1_1, w1_2, w1_3, w1_4⟩ := Et.open_ar (hval 1 44 v1 rfl rfl) h1
  obtain ⟨a2_0, a2_1, rfl, w2_0, w2_1⟩ := Et.open_ho (hval 2 54 v2 rfl rfl) h2
  obtain ⟨a3_0, a3_1, rfl, w3_0, w3_1⟩ := Et.open_ho (hval 3 54 v3 rfl rfl) h3
  clear hA0 hval0
  exact law_close hW' laidOut (by kernel_rfl) rfl Try.underlying4 rfl ⟨rfl, rfl, rfl⟩ (walk W a0_0 a0_1 a0_2 a0_3 w0_0 w0_1 w0_2 w0_3 a1_0 a1_1 a1_2 a1_3 a1_4 w1_0 w1_1 w1_2 w1_3 w1_4 a2_0 a2_1 w2_0 w2_1 a3_0 a3_1 w3_0 w3_1)

theorem over : Rows.ethBackRow.holds Try.pinned (OpenSpec.ofChange Rows.ethBackSpec) :=
  OpenClaim.holds_of_wide 6 Try.f6 rfl rfl rfl rfl rfl rfl rfl ⟨rfl, rfl, rfl, rfl, rfl⟩ rfl rfl rfl rfl rfl (by kernel_rfl) Try.func6 (by kernel_rfl)
    (of_decide_eq_true (by kernel_rfl)) (by unfold Func.isWrapper; first | (rw [if_pos (by decide +kernel)]; kernel_rfl) | (rw [if_neg (by decide +kernel)]; exact ⟨rfl, rfl⟩))
    (fun os started H enc _ => lifted os started H enc)

theorem proved : Rows.EthBackSaid := over

end Go.Proofs.Ytahmdogpnojcpaa.ethBack
