/- Whatever segment, addresses, place and turn come in, 'pantlerlaw17.SegBack' returns true and leaves them as they were. No condition. -/
import Derived.Test.YtgemmciokioaiaaSgC
import Derived.Test.YtgemmciokioaiaaSgO
namespace Go.Proofs.Ytgemmciokioaiaa.segBack
open Go.ChangeShapes Go.WideShapes Go.ChangeAt Go.RowKit Go.Deep Rk Fl Gx Di Sg
set_option linter.unusedVariables false


set_option maxRecDepth 100000 in
set_option maxHeartbeats 8000000 in
theorem walk (w : World) (f t q a : Nat) (g : Int) (wi : Nat) (m : Int) (l : List UInt8) (hf : f ≤ 65535) (ht : t ≤ 65535) (hq : q ≤ 4294967295) (ha : a ≤ 4294967295) (hg : -9223372036854775808 ≤ g ∧ g ≤ 9223372036854775807) (hwi : wi ≤ 65535) (hm : -9223372036854775808 ≤ m ∧ m ≤ 9223372036854775807) (hl0 : l.length ≤ maxLen) (s : Int) (ws : (Lit.int .u32 s).wf = true) (d : Int) (wd : (Lit.int .u32 d).wf = true) (x : Int) (wx : (Lit.int .u16 x).wf = true) (u : Int) (wu : (Lit.int .u16 u).wf = true) :
    Calls Try.prog 5 #[.agg (dsV f t q a g wi m l), .int .u32 s, .int .u32 d, .int .u16 x, .int .u16 u] w fun e w' => e = .returned (.bool true) ∧ Below w.heap.size w w' := by
  obtain ⟨s, rfl, hs⟩ := wf_u32 ws
  obtain ⟨d, rfl, hd⟩ := wf_u32 wd
  obtain ⟨x, rfl, hx⟩ := wf_u16 wx
  obtain ⟨u, rfl, hu⟩ := wf_u16 wu
  have hsz : (⟨l.toArray⟩ : ByteArray).size = l.length := rfl
  have b0 : Below w.heap.size w (w.alloc (.cells (dsV f t q a g wi m l) 25)) := (Below.refl _ w).alloc (Nat.le_refl _) _
  have B0 := Lib.hid b0
  have P0 := Lib.hid (Blk.new w 25 (dsV f t q a g wi m l))
  have AL := Lib.hid (fun W => Sg.alive_any W)
  clear b0 ws wd wx wu
  go_enter Try.func5, Try.ntmps5
  go_upto_region 1 with fail
  generalize w.alloc (.cells (dsV f t q a g wi m l) 25) = W at *
  go_wp2_with fail
  refine (AL.out W).mono ?_; rintro e w1 ⟨rfl, b1⟩
  have B1 := Lib.hid (B0.out.trans (b1.mono B0.out.size))
  have P1 := Lib.hid (P0.out.older (older_below b1))
  clear B0 P0
  clear b1 AL
  have z0 := (P1.out.cell 0).trans (show _ = some (.int .u16 (f : Int)) from rfl)
  have z1 := (P1.out.cell 1).trans (show _ = some (.int .u16 (t : Int)) from rfl)
  have z2 := (P1.out.cell 2).trans (show _ = some (.int .u32 (q : Int)) from rfl)
  have z3 := (P1.out.cell 3).trans (show _ = some (.int .u32 (a : Int)) from rfl)
  have z4 := (P1.out.cell 4).trans (show _ = some (.int .i64 g) from rfl)
  have z5 := (P1.out.cell 5).trans (show _ = some (.int .u16 (wi : Int)) from rfl)
  have z6 := (P1.out.cell 6).trans (show _ = some (.int .i64 m) from rfl)
  have z7 := (P1.out.cell 7).trans (show _ = some (.string ⟨l.toArray⟩) from rfl)
  by_cases hl : (l.length : Int) > 3000
  · go_wp2
    go_ret
    exact ⟨rfl, B1.out⟩
  have HL := Lib.hid (show l.length ≤ 3000 from by omega)
  have OF := Lib.hid (fun W => Sg.of_any f t q a g wi m l W (by have := HL.out; omega))
  have BY := Lib.hid (fun A c W (h : Src W A l.length c l) => Sg.bytes_any' f t q a g wi m hf ht hq ha hwi A c l s d hs hd W h (by have := HL.out; omega))
  go_wp2_with fail
  refine (OF.out w1).mono ?_; rintro e w2 ⟨A2, c2, rfl, s2, b2⟩
  have S2 := Lib.hid s2
  have B2 := Lib.hid (B1.out.trans (b2.mono B1.out.size))
  have P2 := Lib.hid (P1.out.older (older_below b2))
  clear B1 P1
  clear b2 s2 OF z0 z1 z2 z3 z4 z5 z6 z7
  go_wp2_with fail
  refine (BY.out A2 c2 w2 S2.out).mono ?_; rintro e w3 ⟨T, b3⟩
  have G2 := Lib.hid B2.out.size
  have B3 := Lib.hid (B2.out.trans (b3.mono B2.out.size))
  have P3 := Lib.hid (P2.out.older (older_below b3))
  clear B2 P2
  clear b3 S2 BY
  rcases T with ⟨h, rfl⟩ | ⟨h, gb, cb, rfl, ob⟩
  · have h := of_decide_eq_false h
    generalize ckR g m l.length = er at *
    have h' : (er == 0) = false := by simpa using h
    go_wp2
    go_ret
    exact ⟨rfl, B3.out⟩
  obtain ⟨g, m, n', rfl, rfl, hn', hgg, hmm, h9⟩ := ck_ok (of_decide_eq_true h)
  have h9 : l.length ≤ 900 := by omega
  have hsk : Sk f t q a g wi m := ⟨hf, ht, hq, ha, hgg, hwi, hmm⟩
  rw [Int.toNat_natCast, Int.toNat_natCast] at ob ⊢
  have LB : (sgB s d f t q a g wi m l.length (fo (Ip.tot l)) ++ l).length = sgL m + l.length := by rw [List.length_append, sgB_length]
  have GD := sg_good hsk hs hd l
  have PB1 := Lib.hid (fun A c W h => parse_back hsk hs hd l h9 A c W h)
  have hLm := sgL_le m
  generalize sgB s d f t q a g wi m l.length (fo (Ip.tot l)) ++ l = b at *
  rw [LB] at ob ⊢
  generalize hN : sgL m + l.length = N at *
  have OB3 := Lib.hid (ownB_mono ob G2.out)
  have N1 := Lib.hid (show 20 ≤ N ∧ N ≤ 924 from by omega)
  replace LB := Lib.hid LB
  replace GD := Lib.hid GD
  clear hn' h ob hLm hN hg hm
  have GB := Lib.hid (show w.heap.size ≤ gb from OB3.out.base)
  go_wp2_with fail
  refine (PB1.out _ _ w3 OB3.out.src).mono ?_; rintro e w4 ⟨⟨Ac, cc, rfl, sc⟩, b4⟩
  have SC4 := Lib.hid sc
  have B4 := Lib.hid (B3.out.trans (b4.mono B3.out.size))
  have P4 := Lib.hid (P3.out.older (older_below b4))
  have OB4 := Lib.hid (OB3.out.below b4)
  clear B3 P3 OB3
  clear b4 sc PB1
  have b5 : Below w4.heap.size w4 (w4.alloc (.cells (sgV f t q a (g : Int) wi (m : Int) Ac l.length cc) 32)) := (Below.refl _ w4).alloc (Nat.le_refl _) _
  have CB := Lib.hid (Blk.new w4 32 (sgV f t q a (g : Int) wi (m : Int) Ac l.length cc))
  have B5 := Lib.hid (B4.out.trans (b5.mono B4.out.size))
  have P5 := Lib.hid (P4.out.older (older_below b5))
  have OB5 := Lib.hid (OB4.out.below b5)
  have SC5 := Lib.hid (SC4.out.below b5)
  clear B4 P4 OB4 SC4
  have PB := P5
  have SC := SC5
  have OB := OB5
  clear b5 P5 SC5 OB5
  go_upto_region 9 with fail
  generalize w4.alloc (.cells (sgV f t q a (g : Int) wi (m : Int) Ac l.length cc) 32) = W at *
  refine wp_region_held_drew (S := fun w' => Hid (Below W.heap.size W w')) (by kernel_rfl) (Lib.hid ((Below.refl W.heap.size W).drew)) (fun hS => ?_)
  refine held_take (i := 0) (d := (some 46)) (v := ?_) rfl rfl (by kernel_rfl) (by kernel_rfl) (by kernel_rfl) (fun _ _ _ h => h) (by rfl) ?_ hS ?_
  rotate_left
  · intro w' hSw; (try dsimp only at hSw); go_simp <;> with_reducible rfl
  simp only [Act.put, List.setIfInBounds_toArray, List.set_cons_zero, List.set_cons_succ]
  refine held_take (i := 1) (d := (some 47)) (v := ?_) rfl rfl (by kernel_rfl) (by kernel_rfl) (by kernel_rfl) (fun _ _ _ h => h) (by rfl) ?_ hS ?_
  rotate_left
  · intro w' hSw; (try dsimp only at hSw); go_simp <;> with_reducible rfl
  simp only [Act.put, List.setIfInBounds_toArray, List.set_cons_zero, List.set_cons_succ]
  refine held_take (i := 2) (d := (some 48)) (v := ?_) rfl rfl (by kernel_rfl) (by kernel_rfl) (by kernel_rfl) (fun _ _ _ h => h) (by rfl) ?_ hS ?_
  rotate_left
  · intro w' hSw; (try dsimp only at hSw); go_simp <;> with_reducible rfl
  simp only [Act.put, List.setIfInBounds_toArray, List.set_cons_zero, List.set_cons_succ]
  refine held_take (i := 3) (d := (some 49)) (v := ?_) rfl rfl (by kernel_rfl) (by kernel_rfl) (by kernel_rfl) (fun _ _ _ h => h) (by rfl) ?_ hS ?_
  rotate_left
  · intro w' hSw; have kb := hSw.out; clear hSw; have z0 := ((CB.out.older (older_below kb)).cell 0).trans (show _ = some (.int .u16 (f : Int)) from rfl); have z1 := ((CB.out.older (older_below kb)).cell 1).trans (show _ = some (.int .u16 (t : Int)) from rfl); have z2 := ((CB.out.older (older_below kb)).cell 2).trans (show _ = some (.int .u32 (q : Int)) from rfl); have z3 := ((CB.out.older (older_below kb)).cell 3).trans (show _ = some (.int .u32 (a : Int)) from rfl); have z4 := ((CB.out.older (older_below kb)).cell 4).trans (show _ = some (.int .i64 (g : Int)) from rfl); have z5 := ((CB.out.older (older_below kb)).cell 5).trans (show _ = some (.int .u16 (wi : Int)) from rfl); have z6 := ((CB.out.older (older_below kb)).cell 6).trans (show _ = some (.int .i64 (m : Int)) from rfl); have z7 := ((CB.out.older (older_below kb)).cell 7).trans (show _ = some (.slice Ac l.length cc) from rfl); clear kb; go_simp <;> with_reducible rfl
  simp only [Act.put, List.setIfInBounds_toArray, List.set_cons_zero, List.set_cons_succ]
  refine held_take (i := 5) (d := (some 51)) (v := ?_) rfl rfl (by kernel_rfl) (by kernel_rfl) (by kernel_rfl) (fun _ _ _ h => h) (by rfl) ?_ hS ?_
  rotate_left
  · intro w' hSw; have kb := hSw.out; clear hSw; have z0 := ((PB.out.older (older_below kb)).cell 0).trans (show _ = some (.int .u16 (f : Int)) from rfl); have z1 := ((PB.out.older (older_below kb)).cell 1).trans (show _ = some (.int .u16 (t : Int)) from rfl); have z2 := ((PB.out.older (older_below kb)).cell 2).trans (show _ = some (.int .u32 (q : Int)) from rfl); have z3 := ((PB.out.older (older_below kb)).cell 3).trans (show _ = some (.int .u32 (a : Int)) from rfl); have z4 := ((PB.out.older (older_below kb)).cell 4).trans (show _ = some (.int .i64 (g : Int)) from rfl); have z5 := ((PB.out.older (older_below kb)).cell 5).trans (show _ = some (.int .u16 (wi : Int)) from rfl); have z6 := ((PB.out.older (older_below kb)).cell 6).trans (show _ = some (.int .i64 (m : Int)) from rfl); have z7 := ((PB.out.older (older_below kb)).cell 7).trans (show _ = some (.string ⟨l.toArray⟩) from rfl); clear kb; go_simp <;> with_reducible rfl
  simp only [Act.put, List.setIfInBounds_toArray, List.set_cons_zero, List.set_cons_succ]
  refine held_one (i := 4) (by kernel_rfl) rfl (by rfl) ?_
  go_simp
  refine (to_any f t q a (g : Int) wi (m : Int) Ac l.length cc l _ (SC.out.below hS.out)).mono ?_; rintro e wt ⟨rfl, bt⟩
  have hS : Hid (Below W.heap.size W wt) := Lib.hid (hS.out.trans (bt.mono hS.out.size))
  refine ⟨hS, ?_⟩
  clear bt
  (try simp only [Act.put, List.setIfInBounds_toArray, List.set_cons_zero, List.set_cons_succ])
  refine held_take (i := 6) (d := (some 52)) (v := ?_) rfl rfl (by kernel_rfl) (by kernel_rfl) (by kernel_rfl) (fun _ _ _ h => h) (by rfl) ?_ hS ?_
  rotate_left
  · intro w' hSw; (try dsimp only at hSw); go_simp <;> with_reducible rfl
  simp only [Act.put, List.setIfInBounds_toArray, List.set_cons_zero, List.set_cons_succ]
  refine held_take (i := 7) (d := (some 53)) (v := ?_) rfl rfl (by kernel_rfl) (by kernel_rfl) (by kernel_rfl) (fun _ _ _ h => h) (by rfl) ?_ hS ?_
  rotate_left
  · intro w' hSw; (try dsimp only at hSw); go_simp <;> with_reducible rfl
  simp only [Act.put, List.setIfInBounds_toArray, List.set_cons_zero, List.set_cons_succ]
  refine wpAnyH_done (by kernel_rfl) ?_ _
  have B6 := Lib.hid (B5.out.trans (hS.out.mono B5.out.size))
  have OB6 := Lib.hid (OB.out.below hS.out)
  clear B5 OB CB PB SC hS
  obtain ⟨H, hH⟩ : ∃ H : Nat, N / 2 = H := ⟨_, rfl⟩
  have hH1 : (N : Int) / 2 = (H : Int) := by omega
  have hH2 : (N : Int).tdiv 2 = (H : Int) := by rw [Int.tdiv_eq_ediv_of_nonneg (by omega), hH1]
  have hH0 : ¬ (H : Int) = 0 := by have := N1.out; omega
  have hHw := IntWalk.i64_in (H : Int) (by have := N1.out; omega)
  obtain ⟨k, hk⟩ : ∃ k : Nat, x % H = k := ⟨_, rfl⟩
  have hkH : k < H := by rw [← hk]; exact Nat.mod_lt _ (by omega)
  have hk1 : (x : Int) % (H : Int) = (k : Int) := by rw [← Int.natCast_emod, hk]
  have hk2 : (x : Int).tmod (H : Int) = (k : Int) := by rw [Int.tmod_eq_emod_of_nonneg (by omega), hk1]
  have hkw := IntWalk.i64_in (k : Int) (by have := N1.out; omega)
  obtain ⟨i, hi⟩ : ∃ i : Nat, k * 2 = i := ⟨_, rfl⟩
  have hi1 : (k : Int) * 2 = (i : Int) := by omega
  have hiw := IntWalk.i64_in (i : Int) (by have := N1.out; omega)
  have hiw1 := IntWalk.i64_in ((i : Int) + 1) (by have := N1.out; omega)
  have i0 : (0 : Int) ≤ (i : Int) := by omega
  have iN : (i : Int) < (N : Int) := by omega
  have j0 : (0 : Int) ≤ (i : Int) + 1 := by omega
  have jN : (i : Int) + 1 < (N : Int) := by omega
  have jt : ((i : Int) + 1).toNat = i + 1 := by omega
  have he : i % 2 = 0 := by omega
  have hib : i + 1 < b.length := by rw [LB.out]; omega
  obtain ⟨hi2, ci⟩ := OB6.out.cell (j := i) (by omega)
  obtain ⟨hj2, cj⟩ := OB6.out.cell (j := i + 1) (by omega)
  have hp := b[i].toNat_lt
  have hr := b[i + 1].toNat_lt
  obtain ⟨p, hpe⟩ : ∃ p, b[i].toNat = p := ⟨_, rfl⟩
  obtain ⟨r, hre⟩ : ∃ r, b[i + 1].toNat = r := ⟨_, rfl⟩
  rw [hpe] at ci hp
  rw [hre] at cj hr
  have TU := Lib.hid (fun now hn hw => sg_turned' GD.out i he hib p r (fun _ => hpe) (fun _ => hre) now hn hw)
  have CI := Lib.hid (fun w' (k : Below wt.heap.size wt w') => (OB6.out.below k).cell (j := i) (by omega))
  have CI := Lib.hid (show ∀ w', Below wt.heap.size wt w' → w'.cell? ⟨gb, i, none⟩ = some (.int .u8 (p : Int)) from fun w' k => by obtain ⟨_, c⟩ := CI.out w' k; rw [hpe] at c; exact c)
  have CJ := Lib.hid (fun w' (k : Below wt.heap.size wt w') => (OB6.out.below k).cell (j := i + 1) (by omega))
  have CJ := Lib.hid (show ∀ w', Below wt.heap.size wt w' → w'.cell? ⟨gb, i + 1, none⟩ = some (.int .u8 (r : Int)) from fun w' k => by obtain ⟨_, c⟩ := CJ.out w' k; rw [hre] at c; exact c)
  obtain ⟨was, hwas⟩ : ∃ v : Nat, p * 256 + r = v := ⟨_, rfl⟩
  have hw1 : (p : Int) * 256 + (r : Int) = (was : Int) := by omega
  have hww := IntWalk.i64_in (was : Int) (by omega)
  have hwp := IntWalk.i64_in ((p : Int) * 256) (by omega)
  have hpw := IntWalk.i64_in (p : Int) (by omega)
  have hrw := IntWalk.i64_in (r : Int) (by omega)
  obtain ⟨now, hnow⟩ : ∃ v : Nat, (was + u) % 65535 = v := ⟨_, rfl⟩
  have hnw := IntWalk.i64_in ((was : Int) + (u : Int)) (by omega)
  have hn1 : ((was : Int) + (u : Int)) % 65535 = (now : Int) := by omega
  have hn2 : ((was : Int) + (u : Int)).tmod 65535 = (now : Int) := by rw [Int.tmod_eq_emod_of_nonneg (by omega), hn1]
  have hn9 : now < 65535 := by omega
  obtain ⟨wm, hwm⟩ : ∃ v : Nat, was % 65535 = v := ⟨_, rfl⟩
  have hm1 : (was : Int) % 65535 = (wm : Int) := by omega
  have hm2 : (was : Int).tmod 65535 = (wm : Int) := by rw [Int.tmod_eq_emod_of_nonneg (by omega), hm1]
  have hnu := IntWalk.i64_in (u : Int) (by omega)
  have TU := Lib.hid (show now ≠ wm → _ from fun h => TU.out now hn9 (by rw [hwas, hwm]; exact h))
  clear hpe hre ci cj hH hk hi hwas hwm hnow
  go_upto_region 12 with fail
  generalize wt = W at *
  refine wp_region_held_drew (S := fun w' => Hid (Below W.heap.size W w')) (by kernel_rfl) (Lib.hid ((Below.refl W.heap.size W).drew)) (fun hS => ?_)
  refine held_take (i := 0) (d := (some 61)) (v := ?_) rfl rfl (by kernel_rfl) (by kernel_rfl) (by kernel_rfl) (fun _ _ _ h => h) (by rfl) ?_ hS ?_
  rotate_left
  · intro w' hSw; (try dsimp only at hSw); go_simp <;> with_reducible rfl
  simp only [Act.put, List.setIfInBounds_toArray, List.set_cons_zero, List.set_cons_succ]
  refine held_take (i := 1) (d := (some 62)) (v := ?_) rfl rfl (by kernel_rfl) (by kernel_rfl) (by kernel_rfl) (fun _ _ _ h => h) (by rfl) ?_ hS ?_
  rotate_left
  · intro w' hSw; (try dsimp only at hSw); go_simp <;> with_reducible rfl
  simp only [Act.put, List.setIfInBounds_toArray, List.set_cons_zero, List.set_cons_succ]
  refine held_take (i := 2) (d := (some 63)) (v := ?_) rfl rfl (by kernel_rfl) (by kernel_rfl) (by kernel_rfl) (fun _ _ _ h => h) (by rfl) ?_ hS ?_
  rotate_left
  · intro w' hSw; (try dsimp only at hSw); go_simp <;> with_reducible rfl
  simp only [Act.put, List.setIfInBounds_toArray, List.set_cons_zero, List.set_cons_succ]
  refine held_take (i := 3) (d := (some 64)) (v := ?_) rfl rfl (by kernel_rfl) (by kernel_rfl) (by kernel_rfl) (fun _ _ _ h => h) (by rfl) ?_ hS ?_
  rotate_left
  · intro w' hSw; have y1 := CI.out w' hSw.out; clear hSw; go_simp <;> with_reducible rfl
  simp only [Act.put, List.setIfInBounds_toArray, List.set_cons_zero, List.set_cons_succ]
  refine held_take (i := 4) (d := (some 65)) (v := ?_) rfl rfl (by kernel_rfl) (by kernel_rfl) (by kernel_rfl) (fun _ _ _ h => h) (by rfl) ?_ hS ?_
  rotate_left
  · intro w' hSw; (try dsimp only at hSw); go_simp <;> with_reducible rfl
  simp only [Act.put, List.setIfInBounds_toArray, List.set_cons_zero, List.set_cons_succ]
  refine held_take (i := 5) (d := (some 66)) (v := ?_) rfl rfl (by kernel_rfl) (by kernel_rfl) (by kernel_rfl) (fun _ _ _ h => h) (by rfl) ?_ hS ?_
  rotate_left
  · intro w' hSw; (try dsimp only at hSw); go_simp <;> with_reducible rfl
  simp only [Act.put, List.setIfInBounds_toArray, List.set_cons_zero, List.set_cons_succ]
  refine held_take (i := 6) (d := (some 67)) (v := ?_) rfl rfl (by kernel_rfl) (by kernel_rfl) (by kernel_rfl) (fun _ _ _ h => h) (by rfl) ?_ hS ?_
  rotate_left
  · intro w' hSw; (try dsimp only at hSw); go_simp <;> with_reducible rfl
  simp only [Act.put, List.setIfInBounds_toArray, List.set_cons_zero, List.set_cons_succ]
  refine held_take (i := 7) (d := (some 68)) (v := ?_) rfl rfl (by kernel_rfl) (by kernel_rfl) (by kernel_rfl) (fun _ _ _ h => h) (by rfl) ?_ hS ?_
  rotate_left
  · intro w' hSw; (try dsimp only at hSw); go_simp <;> with_reducible rfl
  simp only [Act.put, List.setIfInBounds_toArray, List.set_cons_zero, List.set_cons_succ]
  refine held_take (i := 8) (d := (some 69)) (v := ?_) rfl rfl (by kernel_rfl) (by kernel_rfl) (by kernel_rfl) (fun _ _ _ h => h) (by rfl) ?_ hS ?_
  rotate_left
  · intro w' hSw; (try dsimp only at hSw); go_simp <;> with_reducible rfl
  simp only [Act.put, List.setIfInBounds_toArray, List.set_cons_zero, List.set_cons_succ]
  refine held_take (i := 9) (d := (some 70)) (v := ?_) rfl rfl (by kernel_rfl) (by kernel_rfl) (by kernel_rfl) (fun _ _ _ h => h) (by rfl) ?_ hS ?_
  rotate_left
  · intro w' hSw; (try dsimp only at hSw); go_simp <;> with_reducible rfl
  simp only [Act.put, List.setIfInBounds_toArray, List.set_cons_zero, List.set_cons_succ]
  refine held_take (i := 10) (d := (some 71)) (v := ?_) rfl rfl (by kernel_rfl) (by kernel_rfl) (by kernel_rfl) (fun _ _ _ h => h) (by rfl) ?_ hS ?_
  rotate_left
  · intro w' hSw; have y1 := CJ.out w' hSw.out; clear hSw; go_simp <;> with_reducible rfl
  simp only [Act.put, List.setIfInBounds_toArray, List.set_cons_zero, List.set_cons_succ]
  refine held_take (i := 11) (d := (some 72)) (v := ?_) rfl rfl (by kernel_rfl) (by kernel_rfl) (by kernel_rfl) (fun _ _ _ h => h) (by rfl) ?_ hS ?_
  rotate_left
  · intro w' hSw; (try dsimp only at hSw); go_simp <;> with_reducible rfl
  simp only [Act.put, List.setIfInBounds_toArray, List.set_cons_zero, List.set_cons_succ]
  refine held_take (i := 12) (d := (some 73)) (v := ?_) rfl rfl (by kernel_rfl) (by kernel_rfl) (by kernel_rfl) (fun _ _ _ h => h) (by rfl) ?_ hS ?_
  rotate_left
  · intro w' hSw; (try dsimp only at hSw); go_simp <;> with_reducible rfl
  simp only [Act.put, List.setIfInBounds_toArray, List.set_cons_zero, List.set_cons_succ]
  refine held_take (i := 13) (d := (some 16)) (v := ?_) rfl rfl (by kernel_rfl) (by kernel_rfl) (by kernel_rfl) (fun _ _ _ h => h) (by rfl) ?_ hS ?_
  rotate_left
  · intro w' hSw; (try dsimp only at hSw); go_simp <;> with_reducible rfl
  simp only [Act.put, List.setIfInBounds_toArray, List.set_cons_zero, List.set_cons_succ]
  refine wpAnyH_done (by kernel_rfl) ?_ _
  have B7 := Lib.hid (B6.out.trans (hS.out.mono B6.out.size))
  have OB7 := Lib.hid (OB6.out.below hS.out)
  clear B6 OB6 CI CJ
  go_upto_region 13 with fail
  generalize W.drew = w7 at *
  have B7' := B7
  obtain ⟨v1, hv1⟩ : ∃ v, UInt8.ofNat (now / 256) = v := ⟨_, rfl⟩
  obtain ⟨v0, hv0⟩ : ∃ v, UInt8.ofNat (now % 256) = v := ⟨_, rfl⟩
  rw [hv1, hv0] at TU
  have nd1 : (now : Int) / 256 = ((v1.toNat : Nat) : Int) := by rw [← hv1, UInt8.toNat_ofNat']; omega
  have nd2 : (now : Int).tdiv 256 = ((v1.toNat : Nat) : Int) := by rw [Int.tdiv_eq_ediv_of_nonneg (by omega), nd1]
  have nr1 : (now : Int) % 256 = ((v0.toNat : Nat) : Int) := by rw [← hv0, UInt8.toNat_ofNat']; omega
  have nr2 : (now : Int).tmod 256 = ((v0.toNat : Nat) : Int) := by rw [Int.tmod_eq_emod_of_nonneg (by omega), nr1]
  have t1 := v1.toNat_lt
  have t0 := v0.toNat_lt
  have u1 := IntWalk.u8_in ((v1.toNat : Nat) : Int) (by omega)
  have u0 := IntWalk.u8_in ((v0.toNat : Nat) : Int) (by omega)
  clear hv1 hv0 B7' hS hib he
  by_cases hnm : now = wm
  · have hnm1 : (now : Int) = (wm : Int) := by omega
    go_wp2
    go_ret
    exact ⟨rfl, B7.out⟩
  have hnm1 : ¬ (now : Int) = (wm : Int) := by omega
  have hnm2 : ((now : Int) == (wm : Int)) = false := by simpa using hnm1
  have hbad := TU.out hnm
  have RF := Lib.hid (fun W => show Calls Try.prog 17 #[.agg #[.int .i64 0, .int .i64 0]] W (fun e w' => e = .returned (.int .i64 0) ∧ Below W.heap.size W w') from rfold_any 0 0 (by omega) (by omega) W)
  have LB2 : ((b.set i v1).set (i + 1) v0).length = N := by rw [List.length_set, List.length_set, LB.out]
  have PS := Lib.hid (fun W h => parse_sum (some ⟨gb, 0, none⟩) cb ((b.set i v1).set (i + 1) v0) s d hs hd W h (by rw [LB2]; exact N1.out.1) (by rw [LB2]; have := N1.out.2; omega) (by rw [LB2]; exact hbad))
  rw [LB2] at PS
  clear TU GD hbad hnm LB2
  obtain ⟨hi3, ci⟩ := OB7.out.cell (j := i) (by omega)
  have fi := OB7.out.frozen i
  obtain ⟨w8, hw8⟩ : ∃ wq, w7.setCell ⟨gb, i, none⟩ (.int .u8 ((v1.toNat : Nat) : Int)) = wq := ⟨_, rfl⟩
  have OB8 := Lib.hid (show OwnB w8 w.heap.size gb N cb (b.set i v1) from by rw [← hw8]; exact OB7.out.set (j := i) v1)
  have B8 := Lib.hid (show Below w.heap.size w w8 from by rw [← hw8]; exact B7.out.setCell (p := ⟨gb, i, none⟩) (by exact GB.out) (.int .u8 ((v1.toNat : Nat) : Int)))
  have HQ := Lib.hid hw8
  clear hw8 B7 OB7
  go_upto_region 17 with fail
  rw [HQ.out]
  clear HQ ci fi
  obtain ⟨hj3, cj⟩ := OB8.out.cell (j := i + 1) (by omega)
  have fj := OB8.out.frozen (i + 1)
  obtain ⟨w9, hw9⟩ : ∃ wq, w8.setCell ⟨gb, i + 1, none⟩ (.int .u8 ((v0.toNat : Nat) : Int)) = wq := ⟨_, rfl⟩
  have OB9 := Lib.hid (show OwnB w9 w.heap.size gb N cb ((b.set i v1).set (i + 1) v0) from by rw [← hw9]; exact OB8.out.set (j := i + 1) v0)
  have B9 := Lib.hid (show Below w.heap.size w w9 from by rw [← hw9]; exact B8.out.setCell (p := ⟨gb, i + 1, none⟩) (by exact GB.out) (.int .u8 ((v0.toNat : Nat) : Int)))
  have HQ := Lib.hid hw9
  clear hw9 B8 OB8
  go_upto_region 18 with fail
  rw [HQ.out]
  clear HQ cj fj
  go_wp2_with fail
  refine (PS.out w9 OB9.out.src).mono ?_; rintro e w10 ⟨rfl, b10⟩
  have B10 := Lib.hid (B9.out.trans (b10.mono B9.out.size))
  have B11 := Lib.hid (B10.out.alloc B10.out.size (.cells sg0 32))
  clear b10 PS OB9 B9
  go_upto_region 19 with fail
  generalize w10.alloc (.cells sg0 32) = w11 at *
  go_wp2_with fail
  refine (RF.out _).mono ?_; rintro e w12 ⟨rfl, b12⟩
  have B12 := Lib.hid (B11.out.trans (b12.mono B11.out.size))
  go_wp2
  go_ret
  exact ⟨rfl, B12.out⟩

set_option maxRecDepth 100000 in
theorem lifted (os : Os) (started : os.Started) (H : Type) (enc : TypeId × Value → H) :
    ReturnsInHanded {} Try.checked os 5 .any (Rows.segBackSpec.pre6 enc Try.prog Try.f5 Rows.segBackRow.domain false) (Rows.segBackSpec.post enc Try.prog Try.f5 false true false false) := by
  refine returnsInHanded_of_change (C := Try.checked) own started (by kernel_rfl) Try.func5
    (ChangeSpec.witness6 (enc := enc) (C := Try.checked) false ⟨#[], #[.agg #[.int .u16 0, .int .u16 0, .int .u32 0, .int .u32 0, .int .i64 0, .int .u16 0, .int .i64 0, .string ⟨#[]⟩], .int .u32 0, .int .u32 0, .int .u16 0, .int .u16 0], []⟩ 8 (by kernel_rfl) (by kernel_rfl) (by kernel_rfl) (by kernel_rfl)) ?_
  intro W base args ds gs before hval0 hW hcnd _
  have hval : ∀ (j : Nat) t v, Try.f5.params[j]? = some t → args[j]? = some v → Value.okWide Try.prog W .any base t v := hval0
  have hW' := hW
  obtain ⟨p, q, hA0, hV, rfl, hfz, hnd⟩ := hW
  have hA : DataW.TrodAll enc Try.prog W 0 (fun _ => true) true Try.f5.params.toList args.toList ds p := hA0
  rw [Try.params5] at hA hval
  obtain ⟨v0, vs0, d0, ds0, p0, q0, hargs, rfl, rfl, h0, r0⟩ := trodAll_cons hA
  obtain ⟨v1, vs1, d1, ds1, p1, q1, rfl, rfl, rfl, h1, r1⟩ := trodAll_cons r0
  obtain ⟨v2, vs2, d2, ds2, p2, q2, rfl, rfl, rfl, h2, r2⟩ := trodAll_cons r1
  obtain ⟨v3, vs3, d3, ds3, p3, q3, rfl, rfl, rfl, h3, r3⟩ := trodAll_cons r2
  obtain ⟨v4, vs4, d4, ds4, p4, q4, rfl, rfl, rfl, h4, r4⟩ := trodAll_cons r3
  obtain ⟨rfl, rfl, rfl⟩ := trodAll_nil r4
  obtain rfl : args = #[v0, v1, v2, v3, v4] := by cases args; simp_all
  obtain ⟨a0_0, a0_1, a0_2, a0_3, a0_4, a0_5, a0_6, a0_7, rfl, w0_0, w0_1, w0_2, w0_3, w0_4, w0_5, w0_6, w0_7⟩ := Sg.open_sg (hval 0 25 v0 rfl rfl) h0
  obtain ⟨a1, rfl, _, _, w1⟩ := open_int Try.underlying23 (hval 1 23 v1 rfl rfl) h1
  obtain ⟨a2, rfl, _, _, w2⟩ := open_int Try.underlying23 (hval 2 23 v2 rfl rfl) h2
  obtain ⟨a3, rfl, _, _, w3⟩ := open_int Try.underlying22 (hval 3 22 v3 rfl rfl) h3
  obtain ⟨a4, rfl, _, _, w4⟩ := open_int Try.underlying22 (hval 4 22 v4 rfl rfl) h4
  clear hA0 hval0
  exact law_close hW' laidOut (by kernel_rfl) rfl Try.underlying4 rfl ⟨rfl, rfl, rfl⟩ (walk W a0_0 a0_1 a0_2 a0_3 a0_4 a0_5 a0_6 a0_7 w0_0 w0_1 w0_2 w0_3 w0_4 w0_5 w0_6 w0_7 a1 w1 a2 w2 a3 w3 a4 w4)

theorem over : Rows.segBackRow.holds Try.pinned (OpenSpec.ofChange Rows.segBackSpec) :=
  OpenClaim.holds_of_wide 5 Try.f5 rfl rfl rfl rfl rfl rfl rfl ⟨rfl, rfl, rfl, rfl, rfl⟩ rfl rfl rfl rfl rfl (by kernel_rfl) Try.func5 (by kernel_rfl)
    (of_decide_eq_true (by kernel_rfl)) (by unfold Func.isWrapper; first | (rw [if_pos (by decide +kernel)]; kernel_rfl) | (rw [if_neg (by decide +kernel)]; exact ⟨rfl, rfl⟩))
    (fun os started H enc _ => lifted os started H enc)

theorem proved : Rows.SegBackSaid := over

end Go.Proofs.Ytgemmciokioaiaa.segBack
