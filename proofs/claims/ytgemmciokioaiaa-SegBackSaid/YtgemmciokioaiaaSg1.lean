/- Package seg: wordsOf. Conditions: those that each states. -/
import Derived.Test.YtgemmciokioaiaaSg
namespace Go.Proofs.Ytgemmciokioaiaa.Sg
open Go.ChangeShapes Go.WideShapes Go.ChangeAt Go.RowKit Go.Deep Rk Fl Gx
open Ip (wb vw vw_length vw_get wb_append wb_length be2 nb1 nb0 evs_word evs_snocw or16 tot tot_wb psW psW_small psW_bytes be_two be_four u8_eq)
set_option linter.unusedVariables false
set_option linter.unusedSimpArgs false

/-- A row of words of the call's own. -/
def OwnW (w : World) (B g c : Nat) (ws : List Nat) : Prop := w.ownsRow B 22 1 (.slice (some ⟨g, 0, none⟩) ws.length c) ws.length (vw ws)
theorem u16_info : ∃ i0, Try.prog.info? 22 = some i0 ∧ i0.zero = some (.int .u16 0) ∧ i0.size = 1 ∧ i0.bytes = 2 := by
  obtain ⟨i, hi, hs⟩ := Option.map_eq_some_iff.1 (show (Try.prog.info? 22).map (fun i => (i.zero, i.size, i.bytes)) = some (some (.int .u16 0), 1, 2) by kernel_rfl)
  simp at hs
  exact ⟨i, hi, hs.1, hs.2.1, hs.2.2⟩
theorem cells_of_new (w : World) (cs : Array Value) (t : TypeId) : ∀ j u, cs.toList[j]? = some u → (w.alloc (.cells cs t)).cell? ((⟨w.heap.size, 0, none⟩ : Addr).add j) = some u := by
  intro j u hu
  have ea : (⟨w.heap.size, 0, none⟩ : Addr).add j = ⟨w.heap.size, 0 + j, none⟩ := by unfold Addr.add; split <;> simp_all
  rw [ea, Nat.zero_add, (Blk.new w t cs).cell]
  simpa using hu

set_option maxRecDepth 100000 in
set_option maxHeartbeats 4000000 in
theorem wordsOf_any (f t q a g wi m : Nat) (h : Sk f t q a g wi m) (A : Option Addr) (n c : Nat) (w : World) :
    Calls Try.prog 23 #[.agg (sgV f t q a (g : Int) wi (m : Int) A n c)] w fun e w' => (∃ b c', e = .returned (.slice (some ⟨b, 0, none⟩) (sgW f t q a g wi m 0).length c') ∧ OwnW w' w.heap.size b c' (sgW f t q a g wi m 0)) ∧ Below w.heap.size w w' := by
  have B1 := Lib.hid ((Below.refl w.heap.size w).alloc (Nat.le_refl _) (.cells (sgV f t q a (g : Int) wi (m : Int) A n c) 32))
  have K1 := Lib.hid (Blk.new w 32 (sgV f t q a (g : Int) wi (m : Int) A n c))
  have HQ := Lib.hid (fun W => high_any q h.q W)
  have LQ := Lib.hid (fun W => low_any q h.q W)
  have HA := Lib.hid (fun W => high_any a h.a W)
  have LA := Lib.hid (fun W => low_any a h.a W)
  have WO := Lib.hid (fun W => show Calls Try.prog 36 #[.int .u8 2, .int .u8 4] W (fun e w' => e = .returned (.int .u16 516) ∧ W = w') from word_any' 2 4 (by omega) (by omega) W)
  have ug := IntWalk.u8_in (g : Int) (by have := h.g; omega)
  have um := IntWalk.u16_in (m : Int) (by have := h.m; omega)
  have HH := Lib.hid h
  obtain ⟨l0, hl0⟩ : ∃ l, [f, t, q / 65536, q % 65536, a / 65536, a % 65536, 0, wi, 0, 0] = l := ⟨_, rfl⟩
  have eC := Lib.hid (show #[Value.int .u16 (f : Int), .int .u16 (t : Int), .int .u16 ((q : Int) / 65536), .int .u16 ((q : Int) % 65536), .int .u16 ((a : Int) / 65536), .int .u16 ((a : Int) % 65536), .int .u16 0, .int .u16 (wi : Int), .int .u16 0, .int .u16 0].toList = vw l0 from by rw [← hl0]; simp [vw])
  have BS := Lib.hid (show ∀ X : World, (Instr.buildSlice 59 10 #[(0, Value.int .u16 (f : Int)), (1, .int .u16 (t : Int)), (2, .int .u16 ((q : Int) / 65536)), (3, .int .u16 ((q : Int) % 65536)), (4, .int .u16 ((a : Int) / 65536)), (5, .int .u16 ((a : Int) % 65536)), (6, .int .u16 0), (7, .int .u16 (wi : Int)), (8, .int .u16 0), (9, .int .u16 0)]).run Try.prog X = .ok (.slice (some ⟨X.heap.size, 0, none⟩) 10 10) (X.alloc (.cells #[Value.int .u16 (f : Int), .int .u16 (t : Int), .int .u16 ((q : Int) / 65536), .int .u16 ((q : Int) % 65536), .int .u16 ((a : Int) / 65536), .int .u16 ((a : Int) % 65536), .int .u16 0, .int .u16 (wi : Int), .int .u16 0, .int .u16 0] 22)) from fun X => by go_simp)
  have BT := Lib.hid (show ∀ X : World, (Instr.buildSlice 59 2 #[(0, Value.int .u16 516), (1, .int .u16 (m : Int))]).run Try.prog X = .ok (.slice (some ⟨X.heap.size, 0, none⟩) 2 2) (X.alloc (.cells #[Value.int .u16 516, .int .u16 (m : Int)] 22)) from fun X => by go_simp)
  clear h
  go_enter Try.func23, Try.ntmps23
  go_upto_region 1 with fail
  generalize w.alloc (.cells (sgV f t q a (g : Int) wi (m : Int) A n c) 32) = W at *
  refine wp_region_held_drew (S := fun w' => Hid (Below W.heap.size W w')) (by kernel_rfl) (Lib.hid ((Below.refl W.heap.size W).drew)) (fun hS => ?_)
  refine held_take (i := 0) (d := (some 5)) (v := ?_) rfl rfl (by kernel_rfl) (by kernel_rfl) (by kernel_rfl) (fun _ _ _ h => h) (by rfl) ?_ hS ?_
  rotate_left
  · intro w' hSw; (try dsimp only at hSw); go_simp <;> with_reducible rfl
  simp only [Act.put, List.setIfInBounds_toArray, List.set_cons_zero, List.set_cons_succ]
  refine held_take (i := 1) (d := (some 6)) (v := ?_) rfl rfl (by kernel_rfl) (by kernel_rfl) (by kernel_rfl) (fun _ _ _ h => h) (by rfl) ?_ hS ?_
  rotate_left
  · intro w' hSw; have kb := hSw.out; clear hSw; have z0 := ((K1.out.older (older_below kb)).cell 0).trans (show _ = some (.int .u16 (f : Int)) from rfl); clear kb; go_simp <;> with_reducible rfl
  simp only [Act.put, List.setIfInBounds_toArray, List.set_cons_zero, List.set_cons_succ]
  refine held_take (i := 2) (d := (some 7)) (v := ?_) rfl rfl (by kernel_rfl) (by kernel_rfl) (by kernel_rfl) (fun _ _ _ h => h) (by rfl) ?_ hS ?_
  rotate_left
  · intro w' hSw; (try dsimp only at hSw); go_simp <;> with_reducible rfl
  simp only [Act.put, List.setIfInBounds_toArray, List.set_cons_zero, List.set_cons_succ]
  refine held_take (i := 3) (d := (some 8)) (v := ?_) rfl rfl (by kernel_rfl) (by kernel_rfl) (by kernel_rfl) (fun _ _ _ h => h) (by rfl) ?_ hS ?_
  rotate_left
  · intro w' hSw; have kb := hSw.out; clear hSw; have z1 := ((K1.out.older (older_below kb)).cell 1).trans (show _ = some (.int .u16 (t : Int)) from rfl); clear kb; go_simp <;> with_reducible rfl
  simp only [Act.put, List.setIfInBounds_toArray, List.set_cons_zero, List.set_cons_succ]
  refine held_take (i := 4) (d := (some 9)) (v := ?_) rfl rfl (by kernel_rfl) (by kernel_rfl) (by kernel_rfl) (fun _ _ _ h => h) (by rfl) ?_ hS ?_
  rotate_left
  · intro w' hSw; (try dsimp only at hSw); go_simp <;> with_reducible rfl
  simp only [Act.put, List.setIfInBounds_toArray, List.set_cons_zero, List.set_cons_succ]
  refine held_take (i := 5) (d := (some 10)) (v := ?_) rfl rfl (by kernel_rfl) (by kernel_rfl) (by kernel_rfl) (fun _ _ _ h => h) (by rfl) ?_ hS ?_
  rotate_left
  · intro w' hSw; have kb := hSw.out; clear hSw; have z2 := ((K1.out.older (older_below kb)).cell 2).trans (show _ = some (.int .u32 (q : Int)) from rfl); clear kb; go_simp <;> with_reducible rfl
  simp only [Act.put, List.setIfInBounds_toArray, List.set_cons_zero, List.set_cons_succ]
  refine held_take (i := 7) (d := (some 12)) (v := ?_) rfl rfl (by kernel_rfl) (by kernel_rfl) (by kernel_rfl) (fun _ _ _ h => h) (by rfl) ?_ hS ?_
  rotate_left
  · intro w' hSw; (try dsimp only at hSw); go_simp <;> with_reducible rfl
  simp only [Act.put, List.setIfInBounds_toArray, List.set_cons_zero, List.set_cons_succ]
  refine held_take (i := 8) (d := (some 13)) (v := ?_) rfl rfl (by kernel_rfl) (by kernel_rfl) (by kernel_rfl) (fun _ _ _ h => h) (by rfl) ?_ hS ?_
  rotate_left
  · intro w' hSw; have kb := hSw.out; clear hSw; have z2 := ((K1.out.older (older_below kb)).cell 2).trans (show _ = some (.int .u32 (q : Int)) from rfl); clear kb; go_simp <;> with_reducible rfl
  simp only [Act.put, List.setIfInBounds_toArray, List.set_cons_zero, List.set_cons_succ]
  refine held_take (i := 10) (d := (some 15)) (v := ?_) rfl rfl (by kernel_rfl) (by kernel_rfl) (by kernel_rfl) (fun _ _ _ h => h) (by rfl) ?_ hS ?_
  rotate_left
  · intro w' hSw; (try dsimp only at hSw); go_simp <;> with_reducible rfl
  simp only [Act.put, List.setIfInBounds_toArray, List.set_cons_zero, List.set_cons_succ]
  refine held_take (i := 11) (d := (some 16)) (v := ?_) rfl rfl (by kernel_rfl) (by kernel_rfl) (by kernel_rfl) (fun _ _ _ h => h) (by rfl) ?_ hS ?_
  rotate_left
  · intro w' hSw; have kb := hSw.out; clear hSw; have z3 := ((K1.out.older (older_below kb)).cell 3).trans (show _ = some (.int .u32 (a : Int)) from rfl); clear kb; go_simp <;> with_reducible rfl
  simp only [Act.put, List.setIfInBounds_toArray, List.set_cons_zero, List.set_cons_succ]
  refine held_take (i := 13) (d := (some 18)) (v := ?_) rfl rfl (by kernel_rfl) (by kernel_rfl) (by kernel_rfl) (fun _ _ _ h => h) (by rfl) ?_ hS ?_
  rotate_left
  · intro w' hSw; (try dsimp only at hSw); go_simp <;> with_reducible rfl
  simp only [Act.put, List.setIfInBounds_toArray, List.set_cons_zero, List.set_cons_succ]
  refine held_take (i := 14) (d := (some 19)) (v := ?_) rfl rfl (by kernel_rfl) (by kernel_rfl) (by kernel_rfl) (fun _ _ _ h => h) (by rfl) ?_ hS ?_
  rotate_left
  · intro w' hSw; have kb := hSw.out; clear hSw; have z3 := ((K1.out.older (older_below kb)).cell 3).trans (show _ = some (.int .u32 (a : Int)) from rfl); clear kb; go_simp <;> with_reducible rfl
  simp only [Act.put, List.setIfInBounds_toArray, List.set_cons_zero, List.set_cons_succ]
  refine held_take (i := 16) (d := (some 21)) (v := ?_) rfl rfl (by kernel_rfl) (by kernel_rfl) (by kernel_rfl) (fun _ _ _ h => h) (by rfl) ?_ hS ?_
  rotate_left
  · intro w' hSw; (try dsimp only at hSw); go_simp <;> with_reducible rfl
  simp only [Act.put, List.setIfInBounds_toArray, List.set_cons_zero, List.set_cons_succ]
  refine held_take (i := 17) (d := (some 22)) (v := ?_) rfl rfl (by kernel_rfl) (by kernel_rfl) (by kernel_rfl) (fun _ _ _ h => h) (by rfl) ?_ hS ?_
  rotate_left
  · intro w' hSw; have kb := hSw.out; clear hSw; have z5 := ((K1.out.older (older_below kb)).cell 5).trans (show _ = some (.int .u16 (wi : Int)) from rfl); clear kb; go_simp <;> with_reducible rfl
  simp only [Act.put, List.setIfInBounds_toArray, List.set_cons_zero, List.set_cons_succ]
  refine held_one (i := 6) (by kernel_rfl) rfl (by rfl) ?_
  go_simp
  refine (HQ.out _).mono ?_; rintro e wq ⟨rfl, rfl⟩
  refine ⟨hS, ?_⟩
  (try simp only [Act.put, List.setIfInBounds_toArray, List.set_cons_zero, List.set_cons_succ])
  refine held_one (i := 9) (by kernel_rfl) rfl (by rfl) ?_
  go_simp
  refine (LQ.out _).mono ?_; rintro e wq ⟨rfl, rfl⟩
  refine ⟨hS, ?_⟩
  (try simp only [Act.put, List.setIfInBounds_toArray, List.set_cons_zero, List.set_cons_succ])
  refine held_one (i := 12) (by kernel_rfl) rfl (by rfl) ?_
  go_simp
  refine (HA.out _).mono ?_; rintro e wq ⟨rfl, rfl⟩
  refine ⟨hS, ?_⟩
  (try simp only [Act.put, List.setIfInBounds_toArray, List.set_cons_zero, List.set_cons_succ])
  refine held_one (i := 15) (by kernel_rfl) rfl (by rfl) ?_
  go_simp
  refine (LA.out _).mono ?_; rintro e wq ⟨rfl, rfl⟩
  refine ⟨hS, ?_⟩
  (try simp only [Act.put, List.setIfInBounds_toArray, List.set_cons_zero, List.set_cons_succ])
  refine held_one (i := 18) (by kernel_rfl) rfl (by rfl) ?_
  have hS : Hid (Below W.heap.size W (W.drew.alloc (.cells #[Value.int .u16 (f : Int), .int .u16 (t : Int), .int .u16 ((q : Int) / 65536), .int .u16 ((q : Int) % 65536), .int .u16 ((a : Int) / 65536), .int .u16 ((a : Int) % 65536), .int .u16 0, .int .u16 (wi : Int), .int .u16 0, .int .u16 0] 22))) := Lib.hid (hS.out.alloc hS.out.size _)
  refine wp_slice_d (d := some 23) (ps := #[(0, Value.int .u16 (f : Int)), (1, .int .u16 (t : Int)), (2, .int .u16 ((q : Int) / 65536)), (3, .int .u16 ((q : Int) % 65536)), (4, .int .u16 ((a : Int) / 65536)), (5, .int .u16 ((a : Int) % 65536)), (6, .int .u16 0), (7, .int .u16 (wi : Int)), (8, .int .u16 0), (9, .int .u16 0)]) rfl rfl (by go_simp) (BS.out _) ?_
  refine ⟨hS, ?_⟩
  (try simp only [Act.put, List.setIfInBounds_toArray, List.set_cons_zero, List.set_cons_succ])
  refine held_take (i := 19) (d := (some 3)) (v := ?_) rfl rfl (by kernel_rfl) (by kernel_rfl) (by kernel_rfl) (fun _ _ _ h => h) (by rfl) ?_ hS ?_
  rotate_left
  · intro w' hSw; (try dsimp only at hSw); go_simp <;> with_reducible rfl
  simp only [Act.put, List.setIfInBounds_toArray, List.set_cons_zero, List.set_cons_succ]
  refine wpAnyH_done (by kernel_rfl) ?_ _
  have OW : Hid ((W.drew.alloc (.cells #[Value.int .u16 (f : Int), .int .u16 (t : Int), .int .u16 ((q : Int) / 65536), .int .u16 ((q : Int) % 65536), .int .u16 ((a : Int) / 65536), .int .u16 ((a : Int) % 65536), .int .u16 0, .int .u16 (wi : Int), .int .u16 0, .int .u16 0] 22)).ownsRow w.heap.size 22 1 (.slice (some ⟨W.heap.size, 0, none⟩) 10 10) 10 (vw l0)) := Lib.hid (by
    have := World.ownsRow_lit (base := w.heap.size) (e := 22) (size := 1) W.drew #[Value.int .u16 (f : Int), .int .u16 (t : Int), .int .u16 ((q : Int) / 65536), .int .u16 ((q : Int) % 65536), .int .u16 ((a : Int) / 65536), .int .u16 ((a : Int) % 65536), .int .u16 0, .int .u16 (wi : Int), .int .u16 0, .int .u16 0] 10 B1.out.size (by decide) rfl
    rw [eC.out] at this
    exact this)
  have K3 := Lib.hid (K1.out.older (older_below hS.out))
  have WZ := Lib.hid (show w.heap.size ≤ W.heap.size from B1.out.size)
  clear BS HQ LQ HA LA eC
  generalize (W.drew.alloc (.cells #[Value.int .u16 (f : Int), .int .u16 (t : Int), .int .u16 ((q : Int) / 65536), .int .u16 ((q : Int) % 65536), .int .u16 ((a : Int) / 65536), .int .u16 ((a : Int) % 65536), .int .u16 0, .int .u16 (wi : Int), .int .u16 0, .int .u16 0] 22)) = w2 at *
  have BB := Lib.hid (B1.out.trans (hS.out.mono B1.out.size))
  have z6 := (K3.out.cell 6).trans (show _ = some (.int .i64 (m : Int)) from rfl)
  by_cases hm : (m : Int) = 0
  · have SH := Lib.hid (show sgW f t q a g wi m 0 = [f, t, q / 65536, q % 65536, a / 65536, a % 65536, 80 * 256 + g, wi, 0, 0] from by
      obtain rfl : m = 0 := by omega
      rfl)
    obtain ⟨K, hK⟩ : ∃ K : Nat, 80 * 256 + g = K := ⟨_, rfl⟩
    rw [hK] at SH
    have WK := Lib.hid (fun W => show Calls Try.prog 36 #[.int .u8 80, .int .u8 (g : Int)] W (fun e w' => e = .returned (.int .u16 (K : Int)) ∧ W = w') from by
      rw [← hK]; exact word_any' 80 g (by omega) (by have := HH.out.g; omega) W)
    clear hK BT WO K1 B1 hS
    subst hl0
    have hc6 := OW.out.cellAt 6 (by decide)
    have hf6 := OW.out.frozenAt 6
    have hst := OW.out.stored 6 (.int .u16 (K : Int))
    rw [show (vw [f, t, q / 65536, q % 65536, a / 65536, a % 65536, 0, wi, 0, 0])[6]? = some (.int .u16 0) from rfl] at hc6
    have O5 := Lib.hid hst.1
    have hb5 : w.heap.size ≤ W.heap.size := (OW.out.lt W.heap.size rfl).1
    have B5 := Lib.hid (BB.out.setCell (p := ⟨W.heap.size, 6, none⟩) hb5 (.int .u16 (K : Int)))
    have z4 := (K3.out.cell 4).trans (show _ = some (.int .i64 (g : Int)) from rfl)
    clear hst hb5
    go_wp2_with fail
    refine (WK.out _).mono ?_; rintro e wq ⟨rfl, rfl⟩
    go_wp2
    go_ret
    refine ⟨⟨W.heap.size, 10, ?_, ?_⟩, B5.out⟩
    · rw [SH.out]; rfl
    · rw [SH.out]
      unfold OwnW
      have := O5.out
      rw [show (vw [f, t, q / 65536, q % 65536, a / 65536, a % 65536, 0, wi, 0, 0]).set 6 (.int .u16 (K : Int)) = vw [f, t, q / 65536, q % 65536, a / 65536, a % 65536, K, wi, 0, 0] from by simp [vw]] at this
      exact this
  · have SH := Lib.hid (show sgW f t q a g wi m 0 = [f, t, q / 65536, q % 65536, a / 65536, a % 65536, 96 * 256 + g, wi, 0, 0, 516, m] from by
      unfold sgW sgO sgH
      rw [if_neg (by omega), if_neg (by omega)]
      rfl)
    obtain ⟨K, hK⟩ : ∃ K : Nat, 96 * 256 + g = K := ⟨_, rfl⟩
    rw [hK] at SH
    have WK := Lib.hid (fun W => show Calls Try.prog 36 #[.int .u8 96, .int .u8 (g : Int)] W (fun e w' => e = .returned (.int .u16 (K : Int)) ∧ W = w') from by
      rw [← hK]; exact word_any' 96 g (by omega) (by have := HH.out.g; omega) W)
    clear hK
    obtain ⟨iu, hiu, hzu, hsu, hbu⟩ := u16_info
    go_upto_region 3 with fail
    have hS0 := Lib.hid (show Below W.heap.size W w2.drew from hS.out.drew)
    have OW := Lib.hid (show w2.drew.ownsRow w.heap.size 22 1 (.slice (some ⟨W.heap.size, 0, none⟩) 10 10) 10 (vw l0) from OW.out)
    clear hS K3
    refine wp_region_held_drew (S := fun w' => Hid (Below W.heap.size W w')) (by kernel_rfl) (hS0) (fun hS => ?_)
    refine held_take (i := 0) (d := (some 27)) (v := ?_) rfl rfl (by kernel_rfl) (by kernel_rfl) (by kernel_rfl) (fun _ _ _ h => h) (by rfl) ?_ hS ?_
    rotate_left
    · intro w' hSw; (try dsimp only at hSw); go_simp <;> with_reducible rfl
    simp only [Act.put, List.setIfInBounds_toArray, List.set_cons_zero, List.set_cons_succ]
    refine held_take (i := 2) (d := (some 29)) (v := ?_) rfl rfl (by kernel_rfl) (by kernel_rfl) (by kernel_rfl) (fun _ _ _ h => h) (by rfl) ?_ hS ?_
    rotate_left
    · intro w' hSw; (try dsimp only at hSw); go_simp <;> with_reducible rfl
    simp only [Act.put, List.setIfInBounds_toArray, List.set_cons_zero, List.set_cons_succ]
    refine held_take (i := 3) (d := (some 30)) (v := ?_) rfl rfl (by kernel_rfl) (by kernel_rfl) (by kernel_rfl) (fun _ _ _ h => h) (by rfl) ?_ hS ?_
    rotate_left
    · intro w' hSw; have kb := hSw.out; clear hSw; have z6 := ((K1.out.older (older_below kb)).cell 6).trans (show _ = some (.int .i64 (m : Int)) from rfl); clear kb; go_simp <;> with_reducible rfl
    simp only [Act.put, List.setIfInBounds_toArray, List.set_cons_zero, List.set_cons_succ]
    refine held_take (i := 4) (d := (some 31)) (v := ?_) rfl rfl (by kernel_rfl) (by kernel_rfl) (by kernel_rfl) (fun _ _ _ h => h) (by rfl) ?_ hS ?_
    rotate_left
    · intro w' hSw; (try dsimp only at hSw); go_simp <;> with_reducible rfl
    simp only [Act.put, List.setIfInBounds_toArray, List.set_cons_zero, List.set_cons_succ]
    refine held_one (i := 1) (by kernel_rfl) rfl (by rfl) ?_
    go_simp
    refine (WO.out _).mono ?_; rintro e wq ⟨rfl, rfl⟩
    refine ⟨hS, ?_⟩
    (try simp only [Act.put, List.setIfInBounds_toArray, List.set_cons_zero, List.set_cons_succ])
    refine held_one (i := 5) (by kernel_rfl) rfl (by rfl) ?_
    have hS : Hid (Below W.heap.size W (w2.drew.alloc (.cells #[Value.int .u16 516, .int .u16 (m : Int)] 22))) := Lib.hid (hS.out.alloc hS.out.size _)
    have OW := Lib.hid (OW.out.alloc (.cells #[Value.int .u16 516, .int .u16 (m : Int)] 22))
    have CL := Lib.hid (cells_of_new w2.drew #[Value.int .u16 516, .int .u16 (m : Int)] 22)
    refine wp_slice_d (d := some 32) (ps := #[(0, Value.int .u16 516), (1, .int .u16 (m : Int))]) rfl rfl (by go_simp) (BT.out _) ?_
    refine ⟨hS, ?_⟩
    (try simp only [Act.put, List.setIfInBounds_toArray, List.set_cons_zero, List.set_cons_succ])
    refine held_one (i := 6) (by kernel_rfl) rfl (by rfl) ?_
    refine wp_append_d (d := some 33) rfl (.tmp 27) (.tmp 32) 59 rfl w.heap.size 22 iu (.int .u16 0) 1 2 Try.underlying59 hiu hzu hsu hbu rfl (by decide) (.slice (some ⟨W.heap.size, 0, none⟩) 10 10) 10 (vw l0) rfl OW.out ⟨w2.drew.heap.size, 0, none⟩ 2 2 (#[Value.int .u16 516, .int .u16 (m : Int)]).toList rfl rfl (fun j u hu => CL.out j u hu) (by simp [Value.oneCell']) (by decide) (by decide) (by decide) (Nat.le_trans WZ.out hS.out.size) ?_
    intro b' cg w3 ho hg hat hlt
    have hS : Hid (Below W.heap.size W w3) := Lib.hid (hS.out.grown hg hS.out.size (fun k e => Nat.le_of_eq (by simpa [Value.ownBlock] using e)))
    have O3 := Lib.hid ho
    clear ho hg hat hlt
    refine ⟨hS, ?_⟩
    (try simp only [Act.put, List.setIfInBounds_toArray, List.set_cons_zero, List.set_cons_succ])
    refine held_take (i := 7) (d := (some 3)) (v := ?_) rfl rfl (by kernel_rfl) (by kernel_rfl) (by kernel_rfl) (fun _ _ _ h => h) (by rfl) ?_ hS ?_
    rotate_left
    · intro w' hSw; (try dsimp only at hSw); go_simp <;> with_reducible rfl
    simp only [Act.put, List.setIfInBounds_toArray, List.set_cons_zero, List.set_cons_succ]
    refine wpAnyH_done (by kernel_rfl) ?_ _
    have K3 := Lib.hid (K1.out.older (older_below hS.out))
    have BB := Lib.hid (B1.out.trans (hS.out.mono B1.out.size))
    have O3 := Lib.hid (show w3.ownsRow w.heap.size 22 1 (.slice (some ⟨b', 0, none⟩) 12 cg) 12 (vw (l0 ++ [516, m])) from by
      have := O3.out
      rw [show vw l0 ++ #[Value.int .u16 516, .int .u16 (m : Int)].toList = vw (l0 ++ [516, m]) from by simp [vw]] at this
      exact this)
    clear OW CL BT WO hS0 hS hiu hzu hsu hbu K1 B1 z6 hm
    subst hl0
    have hc6 := O3.out.cellAt 6 (by decide)
    have hf6 := O3.out.frozenAt 6
    have hst := O3.out.stored 6 (.int .u16 (K : Int))
    rw [show (vw ([f, t, q / 65536, q % 65536, a / 65536, a % 65536, 0, wi, 0, 0] ++ [516, m]))[6]? = some (.int .u16 0) from rfl] at hc6
    have O5 := Lib.hid hst.1
    have hb5 : w.heap.size ≤ b' := (O3.out.lt b' rfl).1
    have B5 := Lib.hid (BB.out.setCell (p := ⟨b', 6, none⟩) hb5 (.int .u16 (K : Int)))
    have z4 := (K3.out.cell 4).trans (show _ = some (.int .i64 (g : Int)) from rfl)
    clear hst hb5
    go_wp2_with fail
    refine (WK.out _).mono ?_; rintro e wq ⟨rfl, rfl⟩
    go_wp2
    go_ret
    refine ⟨⟨b', cg, ?_, ?_⟩, B5.out⟩
    · rw [SH.out]; rfl
    · rw [SH.out]
      unfold OwnW
      have := O5.out
      rw [show (vw ([f, t, q / 65536, q % 65536, a / 65536, a % 65536, 0, wi, 0, 0] ++ [516, m])).set 6 (.int .u16 (K : Int)) = vw [f, t, q / 65536, q % 65536, a / 65536, a % 65536, K, wi, 0, 0, 516, m] from by simp [vw]] at this
      exact this
end Go.Proofs.Ytgemmciokioaiaa.Sg
