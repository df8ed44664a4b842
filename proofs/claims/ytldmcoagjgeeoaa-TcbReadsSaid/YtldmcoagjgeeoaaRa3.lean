/- Package rasm: Take. Conditions: those that each states. -/
import Derived.Test.YtldmcoagjgeeoaaRa2
namespace Go.Proofs.Ytldmcoagjgeeoaa.Ra
open Go.ChangeShapes Go.WideShapes Go.ChangeAt Go.RowKit Go.Deep
set_option linter.unusedVariables false
set_option linter.unusedSimpArgs false

def clr (xs : Bs) (j : Nat) : Bs := List.replicate j none ++ xs.drop j
theorem clr_length (xs : Bs) (j : Nat) (hj : j ≤ xs.length) : (clr xs j).length = xs.length := by simp [clr]; omega
theorem clr_at (xs : Bs) (j : Nat) (hj : j < xs.length) : (clr xs j)[j]'(by rw [clr_length _ _ (by omega)]; exact hj) = xs[j] := by
  have e : (clr xs j)[j]? = xs[j]? := by
    unfold clr
    rw [List.getElem?_append_right (by simp), List.length_replicate, Nat.sub_self, List.getElem?_drop, Nat.add_zero]
  rw [List.getElem?_eq_getElem hj, List.getElem?_eq_getElem (by rw [clr_length _ _ (by omega)]; exact hj)] at e
  exact Option.some.inj e
theorem clr_succ (xs : Bs) (j : Nat) (hj : j < xs.length) : (clr xs j).set j none = clr xs (j + 1) := by
  apply List.ext_getElem?
  intro k
  rw [List.getElem?_set]
  unfold clr
  by_cases e : j = k
  · subst e
    rw [if_pos rfl, if_pos (by simp; omega), List.getElem?_append_left (by simp), List.getElem?_replicate, if_pos (by omega)]
  · rw [if_neg e]
    by_cases h : k < j
    · rw [List.getElem?_append_left (by simpa using h), List.getElem?_append_left (by simp; omega), List.getElem?_replicate, List.getElem?_replicate, if_pos h, if_pos (by omega)]
    · rw [List.getElem?_append_right (by simp; omega), List.getElem?_append_right (by simp; omega), List.getElem?_drop, List.getElem?_drop, List.length_replicate, List.length_replicate]
      congr 1
      omega
theorem clr_zero (xs : Bs) : clr xs 0 = xs := by simp [clr]
theorem clr_none (xs : Bs) (n k : Nat) (hk : k < n) : (clr xs n)[k]? = some none := by
  unfold clr
  rw [List.getElem?_append_left (by simpa using hk), List.getElem?_replicate, if_pos hk]
theorem clr_drop (xs : Bs) (n : Nat) : (clr xs n).drop n = xs.drop n := by
  unfold clr
  rw [List.drop_append, List.length_replicate, Nat.sub_self, List.drop_zero, List.drop_eq_nil_of_le (by simp), List.nil_append]
theorem chg_less {w w' : World} {S : Nat → Prop} {gn : Nat} (h : Chg w w' (fun k => S k ∨ k = gn)) (hn : w.heap.size ≤ gn) : Chg w w' S :=
  ⟨h.os, h.tape, h.output, h.size, fun k hk hs => h.block k hk (fun e => by rcases e with e | e; exact hs e; omega)⟩

set_option maxRecDepth 100000 in
set_option maxHeartbeats 1000000 in
theorem take_any {w : World} {gt gm g R N : Nat} {xs : Bs} (h : Buf w gt gm g R N xs) (hs : N + R ≤ 1099511627776) :
    Calls Try.prog 35 #[.pointer (some ⟨g, 0, none⟩)] w fun e w' => ∃ gn, e = .returned (.slice (some ⟨gn, 0, none⟩) (rdy xs) (rdy xs)) ∧ Src w' (some ⟨gn, 0, none⟩) (rdy xs) (rdy xs) (tk xs) ∧ w.heap.size ≤ gn ∧ gn < w'.heap.size ∧ Buf w' gt gm g R (N + rdy xs) (aft xs) ∧ Chg w w' (fun k => k = gt ∨ k = gm ∨ k = g) := by
  have RD := Lib.hid (ready_any h)
  have H := Lib.hid h
  have r1 := h.r1
  have r2 := h.r2
  have hl := Lib.hid h.len
  have TL := Lib.hid (tk_length xs)
  have TG := Lib.hid (show ∀ k (hk : k < (tk xs).length), xs[k]? = some (some (tk xs)[k]) from fun k hk => by rw [List.getElem?_eq_getElem (by have := rdy_le xs; rw [tk_length] at hk; omega), tk_get xs k (by rw [tk_length] at hk; exact hk)])
  have AF := Lib.hid (show aft xs = (clr xs (rdy xs)).drop (rdy xs) ++ List.replicate (rdy xs) none from by rw [clr_drop]; rfl)
  have hn : rdy xs ≤ R := by have := rdy_le xs; rw [h.len] at this; exact this
  clear h
  generalize rdy xs = n at *
  have hm := fun W => mk_u8 n (by omega) W
  go_enter Try.func35, Try.ntmps35
  go_wp2_with fail
  refine RD.out.mono ?_; rintro e w1 ⟨rfl, m1, hw⟩
  have H1 := Lib.hid (show Buf w1 gt gm g R N xs from by rw [hw]; exact H.out.drewN m1)
  have K1 := Lib.hid (show Chg w w1 (fun k => k = gt ∨ k = gm ∨ k = g) from by rw [hw]; exact (Chg.refl w _).drewN m1)
  have Z1 := Lib.hid (show w.heap.size ≤ w1.heap.size from K1.out.size)
  clear hw H RD
  go_upto_region 4 with fail
  have B2 := Lib.hid ((Below.refl w1.heap.size w1).alloc (Nat.le_refl _) (.cells (madeCells #[.int .u8 0] n) 5))
  have H2 := Lib.hid (H1.out.new B2.out)
  have K2 := Lib.hid (show Chg w (w1.alloc (.cells (madeCells #[.int .u8 0] n) 5)) (fun k => (k = gt ∨ k = gm ∨ k = g) ∨ k = w1.heap.size) from (K1.out.trans (Chg.of_new B2.out _)).weak (fun k hk => .inl hk))
  have T2 := Lib.hid (show ∃ ts : Array Value, Blk (w1.alloc (.cells (madeCells #[.int .u8 0] n) 5)) w1.heap.size 5 ts ∧ ts.size = n ∧ ∀ k (hk : k < (tk xs).length), k < 0 → ts[k]? = some (.int .u8 ((tk xs)[k].toNat : Int)) from ⟨_, Blk.new _ _ _, made_size _ _, fun k _ hk => absurd hk (by omega)⟩)
  have NE := Lib.hid (show gt ≠ w1.heap.size ∧ gm ≠ w1.heap.size ∧ g ≠ w1.heap.size from by have := H1.out.lt; omega)
  generalize w1.alloc (.cells (madeCells #[.int .u8 0] n) 5) = w2 at *
  generalize w1.heap.size = gn at *
  clear hm B2 H1 K1
  go_wp2
  go_loopw [13] (fun i wr => ∃ j : Nat, j ≤ n ∧ i = .int .i64 (j : Int) ∧ Hid (Buf wr gt gm g R N (clr xs j)) ∧ Hid (Chg w wr (fun k => (k = gt ∨ k = gm ∨ k = g) ∨ k = gn)) ∧ Hid (∃ ts : Array Value, Blk wr gn 5 ts ∧ ts.size = n ∧ ∀ k (hk : k < (tk xs).length), k < j → ts[k]? = some (.int .u8 ((tk xs)[k].toNat : Int)))) (fun i _ => n - (intOf i).toNat)
  case atStart => exact ⟨0, Nat.zero_le _, rfl, by rw [clr_zero]; exact H2, K2, T2⟩
  case round =>
    obtain ⟨j, hj, rfl, HR, KR, TR⟩ := hrel
    have c0 := HR.out.c0
    have c1 := HR.out.c1
    have c2 := HR.out.c2
    by_cases hlt : j < n
    · have hlt' : (j : Int) < (n : Int) := by omega
      have hjx : j < xs.length := by rw [hl.out]; omega
      have hjc : j < (clr xs j).length := by rw [clr_length _ _ (by omega)]; exact hjx
      have xj := IntWalk.i64_in ((N : Int) + (j : Int)) (by omega)
      have xk := IntWalk.i64_in ((j : Int) + 1) (by omega)
      have j0 : (0 : Int) ≤ (j : Int) := by omega
      have hjt : j < (tk xs).length := by rw [TL.out]; exact hlt
      obtain ⟨bv, cb, hb⟩ := HR.out.byte j hjc
      have hbv : (tk xs)[j] = bv := hb _ (by rw [clr_at _ _ hjx]; have := TG.out j hjt; rw [List.getElem?_eq_getElem hjx] at this; exact Option.some.inj this)
      have cm := HR.out.mark j hjc
      have CL := Lib.hid (HR.out.clear j hjc)
      rw [clr_succ _ _ hjx] at CL
      have hm : (N + j) % R < R := Nat.mod_lt _ r1
      have sp := spot_any HR.out (N + j)
      rw [Int.natCast_add] at sp
      have SP := Lib.hid sp
      have fM := HR.out.thawM ((N + j) % R)
      generalize hp : (N + j) % R = p at *
      have hpr : (p : Int) < (R : Int) := by omega
      have hp0 : (0 : Int) ≤ (p : Int) := by omega
      obtain ⟨ts, ht1, ht2, ht3⟩ := TR.out
      have fN := ht1.frozen j
      obtain ⟨old, co⟩ : ∃ old, wr.cell? ⟨gn, j, none⟩ = some old := ⟨ts[j]'(by omega), by rw [ht1.cell, Array.getElem?_eq_getElem (by omega)]⟩
      have n1 : gn ≠ gt := fun e => NE.out.1 e.symm
      have n2 : gn ≠ gm := fun e => NE.out.2.1 e.symm
      have n3 : gn ≠ g := fun e => NE.out.2.2 e.symm
      have TN := Lib.hid (show ∃ ts : Array Value, Blk ((wr.setCell ⟨gn, j, none⟩ (.int .u8 (bv.toNat : Int))).setCell ⟨gm, p, none⟩ (.bool false)) gn 5 ts ∧ ts.size = n ∧ ∀ k (hk : k < (tk xs).length), k < j + 1 → ts[k]? = some (.int .u8 ((tk xs)[k].toNat : Int)) from
        ⟨_, (ht1.put j _).far (p := ⟨gm, p, none⟩) n2 _, by simpa using ht2, fun k hk hkj => by
          rw [Array.getElem?_setIfInBounds]
          by_cases e : j = k
          · subst e; rw [if_pos rfl, if_pos (by omega), hbv]
          · rw [if_neg e]; exact ht3 k hk (by omega)⟩)
      have CL2 := Lib.hid (show Buf ((wr.setCell ⟨gn, j, none⟩ (.int .u8 (bv.toNat : Int))).setCell ⟨gm, p, none⟩ (.bool false)) gt gm g R N (clr xs (j + 1)) from by
        have hX := HR.out.chg (Chg.set wr (g := gn) (S := fun k => k = gn) j (.int .u8 (bv.toNat : Int)) rfl) (fun e => n1 e.symm) (fun e => n2 e.symm) (fun e => n3 e.symm)
        have := hX.clear j hjc
        rw [clr_succ _ _ hjx, hp] at this
        exact this)
      have KN := Lib.hid (KR.out.trans ((Chg.set wr (g := gn) (S := fun k => (k = gt ∨ k = gm ∨ k = g) ∨ k = gn) j (.int .u8 (bv.toNat : Int)) (.inr rfl)).trans (Chg.set _ (g := gm) p (.bool false) (.inl (.inr (.inl rfl))))))
      have hG := HR.out.lt.2.2
      have hT := HR.out.lt.1
      have nG : ¬ (g = gn ∨ g = gm) := by have h1 := HR.out.tg; have h2 := HR.out.mg; omega
      have nT : ¬ (gt = gn ∨ gt = gm) := by have h1 := HR.out.tm; omega
      clear hp sp hb hbv ht1 ht2 ht3 CL
      go_wp2_with fail
      refine SP.out.mono ?_; rintro e w3 ⟨rfl, hw⟩
      rw [hw]
      clear hw w3
      go_upto_region 8 with fail
      refine wp_region_held_drew (S := fun w' => Hid (Chg wr w' (fun k => k = gn ∨ k = gm))) (by kernel_rfl) (Lib.hid ((Chg.refl wr _).drew)) (fun hH => ?_)
      refine held_take (i := 0) (d := (some 24)) (v := ?_) rfl rfl (by kernel_rfl) (by kernel_rfl) (by kernel_rfl) (fun _ _ _ h => h) (by rfl) ?_ hH ?_
      rotate_left
      · intro w' hSw; (try dsimp only at hSw); go_simp <;> with_reducible rfl
      simp only [Act.put, List.setIfInBounds_toArray, List.set_cons_zero, List.set_cons_succ]
      refine held_take (i := 1) (d := (some 25)) (v := ?_) rfl rfl (by kernel_rfl) (by kernel_rfl) (by kernel_rfl) (fun _ _ _ h => h) (by rfl) ?_ hH ?_
      rotate_left
      · intro w' hSw; (try dsimp only at hSw); go_simp <;> with_reducible rfl
      simp only [Act.put, List.setIfInBounds_toArray, List.set_cons_zero, List.set_cons_succ]
      refine held_take (i := 2) (d := (some 26)) (v := ?_) rfl rfl (by kernel_rfl) (by kernel_rfl) (by kernel_rfl) (fun _ _ _ h => h) (by rfl) ?_ hH ?_
      rotate_left
      · intro w' hSw; (try dsimp only at hSw); go_simp <;> with_reducible rfl
      simp only [Act.put, List.setIfInBounds_toArray, List.set_cons_zero, List.set_cons_succ]
      refine held_take (i := 3) (d := (some 27)) (v := ?_) rfl rfl (by kernel_rfl) (by kernel_rfl) (by kernel_rfl) (fun _ _ _ h => h) (by rfl) ?_ hH ?_
      rotate_left
      · intro w' hSw; (try dsimp only at hSw); go_simp <;> with_reducible rfl
      simp only [Act.put, List.setIfInBounds_toArray, List.set_cons_zero, List.set_cons_succ]
      refine held_take (i := 4) (d := (some 28)) (v := ?_) rfl rfl (by kernel_rfl) (by kernel_rfl) (by kernel_rfl) (fun _ _ _ h => h) (by rfl) ?_ hH ?_
      rotate_left
      · intro w' hSw; (try dsimp only at hSw); go_simp <;> with_reducible rfl
      simp only [Act.put, List.setIfInBounds_toArray, List.set_cons_zero, List.set_cons_succ]
      refine held_take (i := 5) (d := (some 29)) (v := ?_) rfl rfl (by kernel_rfl) (by kernel_rfl) (by kernel_rfl) (fun _ _ _ h => h) (by rfl) ?_ hH ?_
      rotate_left
      · intro w' hSw; have hk := hSw.out.block; clear hSw; have z := ((World.cell?_of_block (w := wr) (w' := w') (hk _ hG nG)).trans c2); clear hk; go_simp <;> with_reducible rfl
      simp only [Act.put, List.setIfInBounds_toArray, List.set_cons_zero, List.set_cons_succ]
      refine held_take (i := 6) (d := (some 30)) (v := ?_) rfl rfl (by kernel_rfl) (by kernel_rfl) (by kernel_rfl) (fun _ _ _ h => h) (by rfl) ?_ hH ?_
      rotate_left
      · intro w' hSw; (try dsimp only at hSw); go_simp <;> with_reducible rfl
      simp only [Act.put, List.setIfInBounds_toArray, List.set_cons_zero, List.set_cons_succ]
      refine held_take (i := 7) (d := (some 31)) (v := ?_) rfl rfl (by kernel_rfl) (by kernel_rfl) (by kernel_rfl) (fun _ _ _ h => h) (by rfl) ?_ hH ?_
      rotate_left
      · intro w' hSw; (try dsimp only at hSw); go_simp <;> with_reducible rfl
      simp only [Act.put, List.setIfInBounds_toArray, List.set_cons_zero, List.set_cons_succ]
      refine held_take (i := 8) (d := (some 32)) (v := ?_) rfl rfl (by kernel_rfl) (by kernel_rfl) (by kernel_rfl) (fun _ _ _ h => h) (by rfl) ?_ hH ?_
      rotate_left
      · intro w' hSw; (try dsimp only at hSw); go_simp <;> with_reducible rfl
      simp only [Act.put, List.setIfInBounds_toArray, List.set_cons_zero, List.set_cons_succ]
      refine held_take (i := 9) (d := (some 33)) (v := ?_) rfl rfl (by kernel_rfl) (by kernel_rfl) (by kernel_rfl) (fun _ _ _ h => h) (by rfl) ?_ hH ?_
      rotate_left
      · intro w' hSw; (try dsimp only at hSw); go_simp <;> with_reducible rfl
      simp only [Act.put, List.setIfInBounds_toArray, List.set_cons_zero, List.set_cons_succ]
      refine held_take (i := 10) (d := (some 34)) (v := ?_) rfl rfl (by kernel_rfl) (by kernel_rfl) (by kernel_rfl) (fun _ _ _ h => h) (by rfl) ?_ hH ?_
      rotate_left
      · intro w' hSw; have hk := hSw.out.block; clear hSw; have z := ((World.cell?_of_block (w := wr) (w' := w') (hk _ hG nG)).trans c1); clear hk; go_simp <;> with_reducible rfl
      simp only [Act.put, List.setIfInBounds_toArray, List.set_cons_zero, List.set_cons_succ]
      refine held_take (i := 11) (d := (some 35)) (v := ?_) rfl rfl (by kernel_rfl) (by kernel_rfl) (by kernel_rfl) (fun _ _ _ h => h) (by rfl) ?_ hH ?_
      rotate_left
      · intro w' hSw; (try dsimp only at hSw); go_simp <;> with_reducible rfl
      simp only [Act.put, List.setIfInBounds_toArray, List.set_cons_zero, List.set_cons_succ]
      refine held_take (i := 12) (d := (some 36)) (v := ?_) rfl rfl (by kernel_rfl) (by kernel_rfl) (by kernel_rfl) (fun _ _ _ h => h) (by rfl) ?_ hH ?_
      rotate_left
      · intro w' hSw; (try dsimp only at hSw); go_simp <;> with_reducible rfl
      simp only [Act.put, List.setIfInBounds_toArray, List.set_cons_zero, List.set_cons_succ]
      refine held_take (i := 13) (d := (some 37)) (v := ?_) rfl rfl (by kernel_rfl) (by kernel_rfl) (by kernel_rfl) (fun _ _ _ h => h) (by rfl) ?_ hH ?_
      rotate_left
      · intro w' hSw; have hk := hSw.out.block; clear hSw; have z := ((World.cell?_of_block (w := wr) (w' := w') (hk _ hT nT)).trans cb); clear hk; go_simp <;> with_reducible rfl
      simp only [Act.put, List.setIfInBounds_toArray, List.set_cons_zero, List.set_cons_succ]
      refine held_take (i := 14) (d := (some 38)) (v := ?_) rfl rfl (by kernel_rfl) (by kernel_rfl) (by kernel_rfl) (fun _ _ _ h => h) (by rfl) ?_ hH ?_
      rotate_left
      · intro w' hSw; (try dsimp only at hSw); go_simp <;> with_reducible rfl
      simp only [Act.put, List.setIfInBounds_toArray, List.set_cons_zero, List.set_cons_succ]
      refine held_one (i := 15) (by kernel_rfl) rfl (by rfl) ?_
      refine Di.wp_store_is (vx := .pointer (some ⟨gn, j, none⟩)) (vy := .int .u8 (bv.toNat : Int)) (w' := (wr.drew.setCell ⟨gn, j, none⟩ (.int .u8 (bv.toNat : Int)))) rfl rfl rfl (by go_simp) ?_
      refine ⟨Lib.hid (hH.out.trans (Chg.set _ _ _ (.inl rfl))), ?_⟩
      have hH : Hid (Chg wr (wr.drew.setCell ⟨gn, j, none⟩ (.int .u8 (bv.toNat : Int))) (fun k => k = gn ∨ k = gm)) := Lib.hid (hH.out.trans (Chg.set _ _ _ (.inl rfl)))
      (try simp only [Act.put, List.setIfInBounds_toArray, List.set_cons_zero, List.set_cons_succ])
      refine held_take (i := 16) (d := (some 39)) (v := ?_) rfl rfl (by kernel_rfl) (by kernel_rfl) (by kernel_rfl) (fun _ _ _ h => h) (by rfl) ?_ hH ?_
      rotate_left
      · intro w' hSw; (try dsimp only at hSw); go_simp <;> with_reducible rfl
      simp only [Act.put, List.setIfInBounds_toArray, List.set_cons_zero, List.set_cons_succ]
      refine held_one (i := 17) (by kernel_rfl) rfl (by rfl) ?_
      refine Di.wp_store_is (vx := .pointer (some ⟨gm, p, none⟩)) (vy := .bool false) (w' := ((wr.drew.setCell ⟨gn, j, none⟩ (.int .u8 (bv.toNat : Int))).setCell ⟨gm, p, none⟩ (.bool false))) rfl rfl rfl (by go_simp) ?_
      refine ⟨Lib.hid (hH.out.trans (Chg.set _ _ _ (.inr rfl))), ?_⟩
      (try simp only [Act.put, List.setIfInBounds_toArray, List.set_cons_zero, List.set_cons_succ])
      refine wpAnyH_done (by kernel_rfl) ?_ _
      go_wp2
      go_roundw
      case rel => exact ⟨j + 1, by omega, by go_num, Lib.hid CL2.out.drew, Lib.hid KN.out.drew, Lib.hid TN.out⟩
      case measure => simp [intOf]; omega
    · have hlt' : ¬ (j : Int) < (n : Int) := by omega
      obtain rfl : j = n := by omega
      have xn := IntWalk.i64_in ((N : Int) + (j : Int)) (by omega)
      have fG := HR.out.thawG 0
      have BT := Lib.hid (HR.out.turn j (by omega) (fun k hk => clr_none xs j k hk) (by omega))
      rw [← AF.out, Int.natCast_add] at BT
      have n3 : gn ≠ g := fun e => NE.out.2.2 e.symm
      have ST := Lib.hid (show Src (wr.setCell ⟨g, 0, none⟩ (.int .i64 ((N : Int) + (j : Int)))) (some ⟨gn, 0, none⟩) j j (tk xs) from by
        obtain ⟨ts, ht1, ht2, ht3⟩ := TR.out
        have ht := ht1.far (p := ⟨g, 0, none⟩) n3 (.int .i64 ((N : Int) + (j : Int)))
        refine ⟨⟨fun hp => ⟨gn, 0, rfl, ht.lt, fun k hk => ?_⟩, TL.out, Nat.le_refl _, by omega⟩, fun e => by cases e⟩
        have hk' : k < (tk xs).length := by rw [bys_length] at hk; exact hk
        rw [Nat.zero_add, ht.cell, ht3 k hk' (by rw [TL.out] at hk'; exact hk')]
        simp [bys])
      have KT := Lib.hid (chg_less (KR.out.trans (Chg.set wr (g := g) (S := fun k => (k = gt ∨ k = gm ∨ k = g) ∨ k = gn) 0 (.int .i64 ((N : Int) + (j : Int))) (.inl (.inr (.inr rfl))))) Z1.out)
      have hgn : gn < (wr.setCell ⟨g, 0, none⟩ (.int .i64 ((N : Int) + (j : Int)))).heap.size := by
        obtain ⟨ts, ht1, _⟩ := TR.out
        simpa [World.setCell] using ht1.lt
      have GN := Lib.hid hgn
      clear hgn
      go_wp2
      go_ret
      exact ⟨gn, rfl, ST.out, Z1.out, GN.out, BT.out, KT.out⟩
end Go.Proofs.Ytldmcoagjgeeoaa.Ra
