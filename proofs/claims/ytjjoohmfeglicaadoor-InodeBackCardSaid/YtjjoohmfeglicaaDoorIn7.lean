/- Layer 11: files read. Conditions: those that each states. -/
import Derived.Test.YtjjoohmfeglicaaDoorIn6
namespace Go.Proofs.YtjjoohmfeglicaaDoor.In
open Go.ChangeShapes Go.WideShapes Go.ChangeAt Go.RowKit Go.Deep Fl Rk Di
set_option linter.unusedVariables false
set_option linter.unusedSimpArgs false

theorem file_info : (Tryd.prog.info? 48).map (·.size) = some 5 := by kernel_rfl
theorem cpx_info : ∃ i0 z, Tryd.prog.info? 71 = some i0 ∧ i0.zero = some z ∧ z.cells.size = 1 ∧ i0.size = 1 ∧ i0.bytes = 16 := by
  obtain ⟨i, hi, hs⟩ := Option.map_eq_some_iff.1 (show (Tryd.prog.info? 71).map (fun i => (i.zero.map (·.cells.size), i.size, i.bytes)) = some (some 1, 1, 16) by kernel_rfl)
  simp only [Prod.mk.injEq] at hs
  obtain ⟨h0, h1, h2⟩ := hs
  obtain ⟨z, hz, hzs⟩ := Option.map_eq_some_iff.1 h0
  exact ⟨i, z, hi, hz, hzs, h1, h2⟩
theorem vp_snoc (l : List (Nat × Nat)) (p : Nat × Nat) : vp (l ++ [p]) = vp l ++ [.complex .f64 p.1 p.2] := by simp [vp]
theorem one_val (v : Value) (h : v.oneCell' = true) : ∀ u ∈ [v], u.oneCell' = true := by intro u hu; rw [List.mem_singleton.1 hu]; exact h

set_option maxRecDepth 100000 in
set_option maxHeartbeats 4000000 in
theorem readFile_any (g : Nat) (l : List UInt8) (w : World) (h : EyeS w g (l, 0)) :
    Calls Tryd.prog 32 #[.pointer (some ⟨g, 0, none⟩)] w fun e w' => ∃ A c A' c', e = .returned (.agg #[.int .i64 (filR l).ver, .int .i64 (filR l).mtime, .int .i64 (filR l).len, .slice A (filR l).blocks.length c, .slice A' (filR l).parts.length c']) ∧
      RowG w' 1 A (filR l).blocks.length c (vi (filR l).blocks) ∧ RowG w' 1 A' (filR l).parts.length c' (vp (filR l).parts) ∧ (∀ b, inB A b ∨ inB A' b → w.heap.size ≤ b) ∧ Chg w w' (fun b => b = g) := by
  have hg := h.lt
  obtain ⟨s1, hs1⟩ : ∃ s1, (bytS (l, 0) 1).2 = s1 := ⟨_, rfl⟩
  obtain ⟨V, sV, hV⟩ : ∃ V sV, intS s1 4 = (V, sV) := ⟨_, _, rfl⟩
  obtain ⟨M, sM, hM⟩ : ∃ M sM, intS sV 8 = (M, sM) := ⟨_, _, rfl⟩
  obtain ⟨L, sL, hL⟩ : ∃ L sL, intS sM 2 = (L, sL) := ⟨_, _, rfl⟩
  have EQ := Lib.hid (show filR l = ⟨V, M, L, (readTrips (cntB L).toNat sL).1.map (·.1), (readTrips (cntB L).toNat sL).1.map (·.2)⟩ from by unfold filR filL filM filV; rw [hs1, hV, hM, hL])
  have H := Lib.hid h
  obtain ⟨i0, z0, inf⟩ := int_info
  have INF := Lib.hid inf
  obtain ⟨i1, z1, inf1⟩ := cpx_info
  have INC := Lib.hid inf1
  clear inf inf1 h
  have HS1 := Lib.hid hs1
  have HV := Lib.hid hV
  have HM := Lib.hid hM
  have HL := Lib.hid hL
  clear hs1 hV hM hL
  have B0 := Lib.hid ((Below.refl w.heap.size w).alloc (Nat.le_refl _) (.cells #[.int .i64 0, .int .i64 0, .int .i64 0, .slice none 0 0, .slice none 0 0] 48))
  have R0 := Lib.hid (Blk.new w 48 #[.int .i64 0, .int .i64 0, .int .i64 0, .slice none 0 0, .slice none 0 0])
  go_enter Tryd.func32, Tryd.ntmps32
  go_wp2_with fail
  refine (bytesS_any g (l, 0) 1 _ (H.out.new B0.out)).mono ?_; rintro e w1 ⟨A1, c1, rfl, t1, e1, k1⟩
  rw [HS1.out] at e1
  have E1 := Lib.hid e1
  have R1 := Lib.hid (R0.out.chg k1 (by omega))
  have K1 := Lib.hid ((Chg.of_new B0.out _).trans k1)
  clear t1 e1 k1 H B0 R0
  go_wp2_with fail
  have NU := number_any g s1 4 _ E1.out
  rw [HV.out] at NU
  refine NU.mono ?_; rintro e w2 ⟨rfl, e2, k2⟩
  have R2 := Lib.hid (R1.out.chg k2 (by omega))
  have K2 := Lib.hid (K1.out.trans k2)
  have E2 := Lib.hid e2
  clear e2 k2 NU E1 R1 K1
  go_wp2_with fail
  have NU := number_any g sV 8 _ E2.out
  rw [HM.out] at NU
  refine NU.mono ?_; rintro e w3 ⟨rfl, e3, k3⟩
  have R3 := Lib.hid (R2.out.chg k3 (by omega))
  have K3 := Lib.hid (K2.out.trans k3)
  have E3 := Lib.hid e3
  clear e3 k3 NU E2 R2 K2
  go_wp2_with fail
  have NU := number_any g sM 2 _ E3.out
  rw [HL.out] at NU
  refine NU.mono ?_; rintro e w4 ⟨rfl, e4, k4⟩
  have hL0 := intS_le sM 2 (by decide) E3.out.met
  rw [show ((2 : Nat) : Int) = 2 from rfl, HL.out] at hL0
  have l0 : 0 ≤ L := hL0.1
  have l1 : L < 65536 := hL0.2.1
  clear hL0
  have R4 := Lib.hid (R3.out.chg k4 (by omega))
  have K4 := Lib.hid (K3.out.trans k4)
  have E4 := Lib.hid e4
  clear e4 k4 NU E3 R3 K3
  have b2 := Lib.hid ((Below.refl w4.heap.size w4).alloc (Nat.le_refl _) (.cells #[.int .i64 V, .int .i64 M, .int .i64 L, .slice none 0 0, .slice none 0 0] 48))
  have P2 := Lib.hid (Blk.new w4 48 #[.int .i64 V, .int .i64 M, .int .i64 L, .slice none 0 0, .slice none 0 0])
  have z2 := Lib.hid R4.out.lt
  have zg := Lib.hid E4.out.lt
  go_wp2_with fail
  refine (blocksOf_any L _ l0 (by omega)).mono ?_; rintro e w5 ⟨rfl, rfl⟩
  have cn := cntB_eq l0
  have R3 := Lib.hid (R4.out.alloc (.cells #[.int .i64 V, .int .i64 M, .int .i64 L, .slice none 0 0, .slice none 0 0] 48))
  have K3 := Lib.hid (K4.out.trans (Chg.of_new b2.out _))
  have E3 := Lib.hid (E4.out.new b2.out)
  have S3 := Lib.hid (show w4.heap.size < (w4.alloc (.cells #[.int .i64 V, .int .i64 M, .int .i64 L, .slice none 0 0, .slice none 0 0] 48)).heap.size from P2.out.lt)
  generalize w4.alloc (.cells #[.int .i64 V, .int .i64 M, .int .i64 L, .slice none 0 0, .slice none 0 0] 48) = w5 at *
  generalize hgr : w4.heap.size = gr at *
  have hgr' := Lib.hid hgr
  obtain ⟨N, hN⟩ : ∃ N, cntB L = N := ⟨_, rfl⟩
  have n0 : 0 ≤ N := by omega
  have n1 : N ≤ 256 := by omega
  rw [hN] at EQ
  simp only [hN]
  clear hgr hN cn
  go_wp2
  go_loopw [18] (fun i wr => ∃ (j : Nat) (xs : List Int) (ys : List (Nat × Nat)) (s : Rd) (A : Option Addr) (c : Nat) (A' : Option Addr) (c' : Nat), i = .int .i64 (j : Int) ∧ (j : Int) ≤ N ∧ Hid ((readTrips j sL).1.map (·.1) = xs ∧ (readTrips j sL).1.map (·.2) = ys ∧ (readTrips j sL).2 = s ∧ xs.length = j ∧ ys.length = j) ∧ Hid (EyeS wr g s) ∧ Hid (Blk wr gr 48 #[.int .i64 V, .int .i64 M, .int .i64 L, .slice A xs.length c, .slice A' ys.length c']) ∧
      Hid (RowW wr 3 1 A xs.length c (vi xs)) ∧ Hid (RowW wr 71 1 A' ys.length c' (vp ys)) ∧ Hid (∀ b, inB A b → gr < b) ∧ Hid (∀ b, inB A' b → gr < b) ∧ Hid (∀ b, inB A b → inB A' b → False) ∧ Hid (Blk wr w.heap.size 48 #[.int .i64 0, .int .i64 0, .int .i64 0, .slice none 0 0, .slice none 0 0]) ∧ Hid (Chg w wr (fun b => b = g)) ∧ Hid (gr < wr.heap.size)) (fun i _ => (N - intOf i).toNat)
  case atStart =>
    exact ⟨0, [], [], sL, none, 0, none, 0, rfl, n0, Lib.hid ⟨rfl, rfl, rfl, rfl, rfl⟩, E3, P2, Lib.hid (RowW.nil _ _ _), Lib.hid (RowW.nil _ _ _), Lib.hid (fun b e => (inB_none b e).elim), Lib.hid (fun b e => (inB_none b e).elim), Lib.hid (fun b e => (inB_none b e).elim), R3, K3, S3⟩
  case round =>
    obtain ⟨j, xs, ys, s, A, c, A', c', rfl, hj, RI, ES, BK, RW, RV, FR, FV, AP, RC, KC, SZ⟩ := hrel
    have zg' := zg.out
    have NG := Lib.hid (show ¬ gr = g from by omega)
    have RG := Lib.hid (show ∀ b, inB A b → ¬ b = g from fun b e h => by have := FR.out b e; omega)
    by_cases hlt : (j : Int) < N
    · have j0 : (0 : Int) ≤ (j : Int) := by omega
      have xj := IntWalk.i64_in ((j : Int) + 1) (by omega)
      obtain ⟨v, s', hv⟩ : ∃ v s', intS s 2 = (v, s') := ⟨_, _, rfl⟩
      obtain ⟨x, s2, hx⟩ : ∃ x s2, intS s' 2 = (x, s2) := ⟨_, _, rfl⟩
      obtain ⟨y, s3, hy⟩ : ∃ y s3, intS s2 2 = (y, s3) := ⟨_, _, rfl⟩
      have EV := Lib.hid (show tripS s = ((v, (fl x, fl y)), s3) from by unfold tripS; dsimp only; rw [hv, hx, hy])
      have NU := Lib.hid (number_any g s 2 wr.drew (ES.out.drewN 1))
      rw [hv] at NU
      have hl256 : xs.length < 1000 := by have := RI.out.2.2.2.1; omega
      have hl256' : ys.length < 1000 := by have := RI.out.2.2.2.2; omega
      have ca := (BK.out.cell 3).trans (show _ = some (.slice A xs.length c) from rfl)
      have HX := Lib.hid hx
      have HY := Lib.hid hy
      clear hv hx hy
      go_upto_region 5 with fail
      have hS := Lib.hid (show wr.drew.cell? ⟨gr, 3, none⟩ = some (.slice A xs.length c) from ca)
      refine wp_head_held (S := fun w' => Hid (w'.cell? ⟨gr, 3, none⟩ = some (.slice A xs.length c))) 5 (by kernel_rfl) rfl rfl (by kernel_rfl) ?_
      simp only [List.take_succ_cons, List.take_zero, List.drop_succ_cons, List.drop_zero]
      refine held_take (i := 0) (d := (some 20)) (v := ?_) rfl rfl (by kernel_rfl) (by kernel_rfl) (by kernel_rfl) (fun _ _ _ h => h) (by rfl) ?_ hS ?_
      rotate_left
      · intro w' hSw; (try dsimp only at hSw); go_simp <;> with_reducible rfl
      simp only [Act.put, List.setIfInBounds_toArray, List.set_cons_zero, List.set_cons_succ]
      refine held_take (i := 1) (d := (some 21)) (v := ?_) rfl rfl (by kernel_rfl) (by kernel_rfl) (by kernel_rfl) (fun _ _ _ h => h) (by rfl) ?_ hS ?_
      rotate_left
      · intro w' hSw; have hc := hSw.out; clear hSw; go_simp <;> with_reducible rfl
      simp only [Act.put, List.setIfInBounds_toArray, List.set_cons_zero, List.set_cons_succ]
      refine held_take (i := 2) (d := (some 22)) (v := ?_) rfl rfl (by kernel_rfl) (by kernel_rfl) (by kernel_rfl) (fun _ _ _ h => h) (by rfl) ?_ hS ?_
      rotate_left
      · intro w' hSw; (try dsimp only at hSw); go_simp <;> with_reducible rfl
      simp only [Act.put, List.setIfInBounds_toArray, List.set_cons_zero, List.set_cons_succ]
      refine held_one (i := 3) (by kernel_rfl) rfl (by rfl) ?_
      go_simp
      refine (NU.out).mono ?_; rintro e w5 ⟨rfl, e5, k5⟩
      have E5 := Lib.hid e5
      have K5 := Lib.hid (show Chg wr w5 (fun b => b = g) from (Chg.refl wr _).drew.trans k5)
      have hS : Hid (w5.cell? ⟨gr, 3, none⟩ = some (.slice A xs.length c)) := Lib.hid (((BK.out.chg K5.out NG.out).cell 3).trans rfl)
      refine ⟨hS, ?_⟩
      clear e5 k5
      (try simp only [Act.put, List.setIfInBounds_toArray, List.set_cons_zero, List.set_cons_succ])
      refine held_one (i := 4) (by kernel_rfl) rfl (by rfl) ?_
      go_simp
      have hS : Hid ((w5.alloc (.cells #[.int .i64 v] 3)).cell? ⟨gr, 3, none⟩ = some (.slice A xs.length c)) := Lib.hid ((((BK.out.chg K5.out NG.out).alloc _).cell 3).trans rfl)
      refine ⟨hS, ?_⟩
      have RO := Lib.hid (RW.out.chg K5.out RG.out).own
      (try simp only [Act.put, List.setIfInBounds_toArray, List.set_cons_zero, List.set_cons_succ])
      refine wpAnyH_done (by kernel_rfl) ?_ _
      show wpList _ _ _ _ _ _
      go_wp2_with (refine wpList_append_W rfl _ _ 22 3 rfl Tryd.underlying22 i0 z0 1 8 INF.out.1 INF.out.2.1 INF.out.2.2.2.1 INF.out.2.2.2.2 INF.out.2.2.1 (by decide) (by decide) rfl RO.out [.int .i64 v] rfl rfl (one_val _ rfl) (by omega) ?_; refine Hid.out ?_)
      unfold Hid
      intro g6 c6 w6 o6 k6 at6
      have O6 := Lib.hid (show RowW w6 3 1 (some ⟨g6, 0, none⟩) (xs.length + 1) c6 (vi (xs ++ [v])) from ⟨by rw [vi_snoc]; exact o6.own⟩)
      have K6 := Lib.hid k6
      have K06 := Lib.hid (show Chg wr w6 (fun b => b = g ∨ inB A b) from (K5.out.weak (fun _ h => .inl h)).trans (k6.weak (fun _ h => .inr h)))
      have GG := Lib.hid (show gr < g6 from at6.elim (fun h => FR.out _ h) (fun h => by have h1 := K5.out.size; have h2 := SZ.out; omega))
      have GA := Lib.hid (show ¬ inB A' g6 from fun e => at6.elim (fun h => AP.out _ h e) (fun h => by have h1 := K5.out.size; have h2 := RV.out.lt _ e; omega))
      have NG6 := Lib.hid (show ¬ (gr = g ∨ inB A gr) from fun h => h.elim NG.out (fun h => absurd (FR.out _ h) (Nat.lt_irrefl _)))
      have BK6 := Lib.hid (BK.out.chg K06.out NG6.out)
      have E6 := Lib.hid (E5.out.away K6.out (fun b h => Nat.lt_trans zg.out (FR.out b h)))
      have V6 := Lib.hid (RV.out.chg K06.out (fun b e h => h.elim (fun h => by have := FV.out b e; omega) (fun h => AP.out _ h e)))
      have fz := BK6.out.frozen 3
      have ca6 := (BK6.out.cell 3).trans (show _ = some (.slice A xs.length c) from rfl)
      have KS := Lib.hid (Chg.set w6 3 (.slice (some ⟨g6, 0, none⟩) (xs.length + 1) c6) (g := gr) (S := fun b => b = gr) rfl)
      have BK7 := Lib.hid (show Blk (w6.setCell ⟨gr, 3, none⟩ (.slice (some ⟨g6, 0, none⟩) (xs.length + 1) c6)) gr 48 #[.int .i64 V, .int .i64 M, .int .i64 L, .slice (some ⟨g6, 0, none⟩) (xs.length + 1) c6, .slice A' ys.length c'] from by simpa using BK6.out.put 3 (.slice (some ⟨g6, 0, none⟩) (xs.length + 1) c6))
      have E7 := Lib.hid (E6.out.away KS.out (fun b h => by rw [h]; exact zg.out))
      have O7 := Lib.hid (O6.out.chg KS.out (fun b e h => by have := inB_some e; have := GG.out; omega))
      have V7 := Lib.hid (V6.out.chg KS.out (fun b e h => by have := FV.out b e; omega))
      have K07 := Lib.hid (K06.out.weak (S' := fun b => b = g ∨ inB A b ∨ b = gr) (fun b h => h.elim .inl (fun h => .inr (.inl h))) |>.trans (KS.out.weak (fun b h => .inr (.inr h))))
      clear ca at6 k6 o6 hS
      go_wp2_with fail
      clear fz ca6
      generalize w6.setCell ⟨gr, 3, none⟩ (.slice (some ⟨g6, 0, none⟩) (xs.length + 1) c6) = w7 at *
      have NU := number_any g s' 2 _ E7.out
      rw [HX.out] at NU
      refine NU.mono ?_; rintro e w8 ⟨rfl, e8, k8⟩
      have BK8 := Lib.hid (BK7.out.chg k8 NG.out)
      have E8 := Lib.hid e8
      have O8 := Lib.hid (O7.out.chg k8 (fun b e h => by have := inB_some e; have := GG.out; omega))
      have V8 := Lib.hid (V7.out.chg k8 (fun b e h => by have := FV.out b e; omega))
      have K08 := Lib.hid (K07.out.trans (k8.weak (fun b h => .inl h)))
      clear e8 k8 NU BK7 E7 O7 V7 K07
      go_wp2_with fail
      have NU := number_any g s2 2 _ E8.out
      rw [HY.out] at NU
      refine NU.mono ?_; rintro e w9 ⟨rfl, e9, k9⟩
      have BK9 := Lib.hid (BK8.out.chg k9 NG.out)
      have E9 := Lib.hid e9
      have O9 := Lib.hid (O8.out.chg k9 (fun b e h => by have := inB_some e; have := GG.out; omega))
      have V9 := Lib.hid (V8.out.chg k9 (fun b e h => by have := FV.out b e; omega))
      have K09 := Lib.hid (K08.out.trans (k9.weak (fun b h => .inl h)))
      clear e9 k9 NU BK8 E8 O8 V8 K08
      have VO := Lib.hid V9.out.own
      have ca9 := (BK9.out.cell 4).trans (show _ = some (.slice A' ys.length c') from rfl)
      go_wp2_with (refine wpList_append_W rfl _ _ 46 71 rfl Tryd.underlying46 i1 z1 1 16 INC.out.1 INC.out.2.1 INC.out.2.2.2.1 INC.out.2.2.2.2 INC.out.2.2.1 (by decide) (by decide) rfl VO.out [.complex .f64 (floatOfInt .f64 x) (floatOfInt .f64 y)] rfl rfl (one_val _ rfl) (by omega) ?_; refine Hid.out ?_)
      unfold Hid
      intro h6 d6 wA oA kA atA
      have OA := Lib.hid (show RowW wA 71 1 (some ⟨h6, 0, none⟩) (ys.length + 1) d6 (vp (ys ++ [(fl x, fl y)])) from ⟨by rw [vp_snoc]; exact oA.own⟩)
      have KA := Lib.hid kA
      have HH := Lib.hid (show gr < h6 from atA.elim (fun h => FV.out _ h) (fun h => by have h1 := K09.out.size; have h2 := SZ.out; omega))
      have HA := Lib.hid (show g6 ≠ h6 from fun e => atA.elim (fun h => GA.out (by rw [e]; exact h)) (fun h => by have h2 := O9.out.lt _ (inB_self g6 0); omega))
      have NGA := Lib.hid (show ¬ inB A' gr from fun h => absurd (FV.out _ h) (Nat.lt_irrefl _))
      have BKA := Lib.hid (BK9.out.chg KA.out NGA.out)
      have EA := Lib.hid (E9.out.away KA.out (fun b h => Nat.lt_trans zg.out (FV.out b h)))
      have QA := Lib.hid (O9.out.chg KA.out (fun b e h => GA.out (by rw [← inB_some e]; exact h)))
      have K0A := Lib.hid ((K09.out.weak (S' := fun b => b = g ∨ inB A b ∨ b = gr ∨ inB A' b) (fun b h => h.elim .inl (fun h => h.elim (fun h => .inr (.inl h)) (fun h => .inr (.inr (.inl h)))))).trans (KA.out.weak (fun b h => .inr (.inr (.inr h)))))
      have fzA := BKA.out.frozen 4
      have caA := (BKA.out.cell 4).trans (show _ = some (.slice A' ys.length c') from rfl)
      have KT := Lib.hid (Chg.set wA 4 (.slice (some ⟨h6, 0, none⟩) (ys.length + 1) d6) (g := gr) (S := fun b => b = gr) rfl)
      have BKB := Lib.hid (show Blk (wA.setCell ⟨gr, 4, none⟩ (.slice (some ⟨h6, 0, none⟩) (ys.length + 1) d6)) gr 48 #[.int .i64 V, .int .i64 M, .int .i64 L, .slice (some ⟨g6, 0, none⟩) (xs.length + 1) c6, .slice (some ⟨h6, 0, none⟩) (ys.length + 1) d6] from by simpa using BKA.out.put 4 (.slice (some ⟨h6, 0, none⟩) (ys.length + 1) d6))
      have EB := Lib.hid (EA.out.away KT.out (fun b h => by rw [h]; exact zg.out))
      have OB := Lib.hid (OA.out.chg KT.out (fun b e h => by have := inB_some e; have := HH.out; omega))
      have QB := Lib.hid (QA.out.chg KT.out (fun b e h => by have := inB_some e; have := GG.out; omega))
      have K0B := Lib.hid (K0A.out.trans (KT.out.weak (fun b h => .inr (.inr (.inl h)))))
      clear ca9 atA kA oA
      go_wp2
      clear fzA caA
      generalize wA.setCell ⟨gr, 4, none⟩ (.slice (some ⟨h6, 0, none⟩) (ys.length + 1) d6) = wB at *
      go_roundw
      case rel =>
        have hRI := RI.out
        have e1 : (readTrips (j + 1) sL).1 = (readTrips j sL).1 ++ [(v, (fl x, fl y))] ∧ (readTrips (j + 1) sL).2 = s3 := by
          show ((readTrips j sL).1 ++ [(tripS (readTrips j sL).2).1] = _) ∧ (tripS (readTrips j sL).2).2 = _
          rw [hRI.2.2.1, EV.out]
          exact ⟨rfl, rfl⟩
        have ex : (xs ++ [v]).length = xs.length + 1 := by simp
        have ey : (ys ++ [(fl x, fl y)]).length = ys.length + 1 := by simp
        refine ⟨j + 1, xs ++ [v], ys ++ [(fl x, fl y)], s3, some ⟨g6, 0, none⟩, c6, some ⟨h6, 0, none⟩, d6, by go_num, by omega, Lib.hid ⟨?_, ?_, e1.2, ?_, ?_⟩, EB, Lib.hid ?_, Lib.hid ?_, Lib.hid ?_, Lib.hid ?_, Lib.hid ?_, Lib.hid ?_, Lib.hid ?_, Lib.hid ?_, Lib.hid ?_⟩
        · rw [e1.1, List.map_append, hRI.1]; rfl
        · rw [e1.1, List.map_append, hRI.2.1]; rfl
        · rw [ex, hRI.2.2.2.1]
        · rw [ey, hRI.2.2.2.2]
        · rw [ex, ey]; exact BKB.out
        · rw [ex]; exact QB.out
        · rw [ey]; exact OB.out
        · intro b e; rw [inB_some e]; exact GG.out
        · intro b e; rw [inB_some e]; exact HH.out
        · intro b e e'; exact HA.out ((inB_some e).symm.trans (inB_some e'))
        · have := z2.out
          exact RC.out.chg K0B.out (fun h => by
            rcases h with h | h | h | h
            · omega
            · have := FR.out _ h; omega
            · omega
            · have := FV.out _ h; omega)
        · have := z2.out
          exact chg_cut KC.out K0B.out (fun b hb h => by
            rcases h with h | h | h | h
            · exact h
            · have := FR.out _ h; omega
            · omega
            · have := FV.out _ h; omega)
        · exact Nat.lt_of_lt_of_le SZ.out K0B.out.size
      case measure => simp [intOf]; omega
    · have hjN : N.toNat = j := by omega
      have EV := Lib.hid (show filR l = ⟨V, M, L, xs, ys⟩ from by rw [EQ.out, hjN, RI.out.1, RI.out.2.1])
      have ca := (BK.out.cell 0).trans (show _ = some (.int .i64 V) from rfl)
      have cb := (BK.out.cell 1).trans (show _ = some (.int .i64 M) from rfl)
      have cc := (BK.out.cell 2).trans (show _ = some (.int .i64 L) from rfl)
      have cd := (BK.out.cell 3).trans (show _ = some (.slice A xs.length c) from rfl)
      have ce := (BK.out.cell 4).trans (show _ = some (.slice A' ys.length c') from rfl)
      have KE := Lib.hid (Chg.setRow wr #[.int .i64 V, .int .i64 M, .int .i64 L, .slice A xs.length c, .slice A' ys.length c'] (g := w.heap.size) (S := fun b => b = w.heap.size) rfl)
      have z2' := z2.out
      clear hjN
      go_upto_region 9 with fail
      go_wp2_with (refine wpList_store_row rfl 48 (.tmp 2) (.tmp 42) rfl w.heap.size #[.int .i64 V, .int .i64 M, .int .i64 L, .slice A xs.length c, .slice A' ys.length c'] rfl rfl 48 _ RC.out file_info rfl (by simp [Value.oneCell']) ?_; refine Hid.out ?_)
      unfold Hid
      go_wp2
      refine bodyPost_ret (v := .agg #[.int .i64 V, .int .i64 M, .int .i64 L, .slice A xs.length c, .slice A' ys.length c']) (results_cell_row Tryd.results32 _ _ w.heap.size 48 _ (0, 0) _ rfl (RC.out.row _) Tryd.underlying48 rfl file_info) rfl ?_
      refine ⟨A, c, A', c', by rw [EV.out], ?_, ?_, fun b e => e.elim (fun e => by have := FR.out b e; omega) (fun e => by have := FV.out b e; omega), ?_⟩
      · rw [EV.out]
        exact rowG_of (RW.out.chg KE.out (fun b e h => by have := FR.out b e; omega))
      · rw [EV.out]
        exact rowG_of (RV.out.chg KE.out (fun b e h => by have := FV.out b e; omega))
      · exact chg_cut KC.out KE.out (fun b hb h => by omega)
end Go.Proofs.YtjjoohmfeglicaaDoor.In
