/- Package rasm: Put, Take. Conditions: those that each states. -/
import Derived.Test.YtldmcoagjgeeoaaRa1
import Derived.Test.YtldmcoagjgeeoaaTail
import Derived.Test.YtldmcoagjgeeoaaCom
namespace Go.Proofs.Ytldmcoagjgeeoaa.Ra
open Go.ChangeShapes Go.WideShapes Go.ChangeAt Go.RowKit Go.Deep
set_option linter.unusedVariables false
set_option linter.unusedSimpArgs false

theorem held_step (xs : Bs) (d : Int) (b : List UInt8) (j : Nat) (hj : j < xs.length) (hd : d ≤ j) (i : Nat) (hi : (i : Int) = j - d) (hb : i < b.length) :
    (xs[j].isSome = true → putTo xs d b (j + 1) = putTo xs d b j) ∧ (xs[j].isSome = false → putTo xs d b (j + 1) = (putTo xs d b j).set j (some b[i]) ∧ held (putTo xs d b (j + 1)) = held (putTo xs d b j) + 1) := by
  have hs : (putTo xs d b j)[j]'(by rw [putTo_length]; omega) = xs[j] := by rw [putTo_at _ _ _ _ _ hj, if_neg (by omega)]
  have e1 : ((j : Int) - d).toNat = i := by omega
  rw [putTo_succ _ _ _ _ hj]
  unfold cell1
  rw [if_pos hd, e1, List.getElem?_eq_getElem hb]
  constructor
  · intro h
    cases hx : xs[j] with
    | none => rw [hx] at h; cases h
    | some c =>
      show (putTo xs d b j).set j (some c) = _
      rw [← hx, ← hs]; exact List.set_getElem_self _
  · intro h
    cases hx : xs[j] with
    | some c => rw [hx] at h; cases h
    | none =>
      refine ⟨rfl, ?_⟩
      exact held_set _ _ _ _ (by rw [hs, hx])
theorem u8_of_nat (c : UInt8) : (c.toNat : Int) ≤ 255 ∧ 0 ≤ (c.toNat : Int) := by have := UInt8.toNat_lt c; omega

set_option maxRecDepth 100000 in
set_option maxHeartbeats 1000000 in
theorem put_any {w : World} {gt gm g R N : Nat} {xs : Bs} (h : Buf w gt gm g R N xs) (a : Int) (ha : -9223372036854775808 ≤ a ∧ a ≤ 9223372036854775807) (A : Option Addr) (n c : Nat) (b : List UInt8) (hb : Src w A n c b) (hn : n ≤ 1099511627776) (hA : 0 < n → ∀ x, A = some x → x.block ≠ gt ∧ x.block ≠ gm ∧ x.block ≠ g) :
    Calls Try.prog 57 #[.pointer (some ⟨g, 0, none⟩), .int .i64 a, .slice A n c] w fun e w' => e = .returned (.int .i64 ((held (putR xs (a - N) b) : Int) - held xs)) ∧ Buf w' gt gm g R N (putR xs (a - N) b) ∧ Chg w w' (fun k => k = gt ∨ k = gm ∨ k = g) := by
  have H := Lib.hid h
  have r1 := h.r1
  have r2 := h.r2
  have hN := h.small
  have hl := Lib.hid h.len
  have bl := Lib.hid hb.len
  have c0 := h.c0
  have c2 := h.c2
  have HB := Lib.hid hb
  have HA := Lib.hid hA
  have xe := IntWalk.i64_in ((N : Int) + (R : Int)) (by omega)
  clear h hb hA
  by_cases h1 : (N : Int) + (R : Int) ≤ a
  · have E := Lib.hid (show putR xs (a - N) b = xs from putTo_none _ _ _ _ (fun k hk => by rw [hl.out] at hk; omega))
    have E0 := Lib.hid (show (held (putR xs (a - N) b) : Int) - held xs = 0 from by rw [E.out]; omega)
    go_enter Try.func57, Try.ntmps57
    go_wp2_with fail
    go_quiet (fail)
    go_wp2
    go_ret
    rw [E0.out, E.out]
    exact ⟨rfl, H.out.drewN _, (Chg.refl _ _).drewN _⟩
  · have h1' : ¬ (N : Int) + (R : Int) ≤ a := h1
    have xf := IntWalk.i64_in (a + (n : Int)) (by omega)
    obtain ⟨en, hen⟩ : ∃ en : Int, en = min ((N : Int) + R) (a + n) := ⟨_, rfl⟩
    obtain ⟨st, hst⟩ : ∃ st : Int, st = max a (N : Int) := ⟨_, rfl⟩
    have EN := Lib.hid hen
    have ES := Lib.hid hst
    clear hen hst
    go_enter Try.func57, Try.ntmps57
    go_wp2_with fail
    go_quiet (fail)
    go_upto_region 6 with fail
    go_cut [7] (fun e wx => e = .int .i64 en ∧ wx = w.drewN nq)
    case first =>
      go_wp2_with fail
      all_goals go_meet
      all_goals exact ⟨by rw [EN.out]; congr 1; omega, rfl⟩
    case rest =>
      obtain ⟨rfl, rfl⟩ := hcut
      have H1 := Lib.hid (H.out.drewN nq)
      have B1 := Lib.hid (HB.out.drewN nq)
      have K1 := Lib.hid ((Chg.refl w (fun k => k = gt ∨ k = gm ∨ k = g)).drewN nq)
      clear c0 c2 H HB
      generalize w.drewN nq = W at *
      have c0 := H1.out.c0
      go_upto_region 8 with fail
      go_cut [9] (fun e wx => e = .int .i64 st ∧ wx = W)
      case first =>
        go_wp2_with fail
        all_goals go_meet
        all_goals exact ⟨by rw [ES.out]; congr 1; omega, rfl⟩
      case rest =>
        obtain ⟨rfl, rfl⟩ := hcut
        obtain ⟨j0, hj0⟩ : ∃ j0 : Nat, st = (N : Int) + (j0 : Int) := ⟨(st - N).toNat, by have := ES.out; omega⟩
        have D := Lib.hid (show a - (N : Int) ≤ j0 ∧ (j0 : Int) < R ∧ ∀ k, k < j0 → ¬ a - (N : Int) ≤ (k : Int) from ⟨by have := ES.out; omega, by have := ES.out; omega, fun k hk => by have := ES.out; omega⟩)
        clear h1 h1' ES
        subst hj0
        go_wp2
        go_loopw [8, 9] (fun kp pl wr => ∃ j : Nat, j0 ≤ j ∧ j ≤ R ∧ pl = .int .i64 ((N : Int) + (j : Int)) ∧ kp = .int .i64 ((held (putTo xs (a - N) b j) : Int) - held xs) ∧ Hid (Buf wr gt gm g R N (putTo xs (a - N) b j)) ∧ Hid (Chg w wr (fun k => k = gt ∨ k = gm ∨ k = g)) ∧ Hid (Src wr A n c b)) (fun _ i _ => N + R - (intOf i).toNat)
        case atStart => 
          have e0 := putTo_none xs (a - N) b j0 (fun k hk => by have := D.out.2.2 k hk; omega)
          exact ⟨j0, Nat.le_refl _, by have := D.out; omega, rfl, by rw [e0]; simp, by rw [e0]; exact H1, K1, B1⟩
        case round =>
          obtain ⟨j, hj1, hj2, rfl, rfl, HR, KR, BR⟩ := hrel
          by_cases hlt : (N : Int) + (j : Int) < en
          · have hjR : j < R := by have := EN.out; omega
            have hjx : j < xs.length := by rw [hl.out]; exact hjR
            obtain ⟨i, hi⟩ : ∃ i : Nat, (i : Int) = j - (a - N) := ⟨((j : Int) - (a - N)).toNat, by have := D.out; omega⟩
            have hin : i < n := by have := EN.out; omega
            obtain ⟨bb, o, hbl, rfl, hBb, hbc⟩ := BR.out.byte hin
            have ST := Lib.hid (held_step xs (a - N) b j hjx (by omega) i hi hbl)
            have LE := Lib.hid (held_to_le xs (a - N) b j (by omega))
            have LE2 := Lib.hid (show held (putTo xs (a - N) b j) ≤ R from by have := held_le (putTo xs (a - N) b j); rw [putTo_length, hl.out] at this; exact this)
            have xi : IntKind.i64.wrap ((N : Int) + (j : Int) - a) = (i : Int) := by rw [IntWalk.i64_in _ (by omega)]; omega
            have xj := IntWalk.i64_in ((N : Int) + (j : Int) + 1) (by omega)
            have i0 : (0 : Int) ≤ (i : Int) := by omega
            have iN : (i : Int) < (n : Int) := by omega
            have c1 := HR.out.c1
            have c2 := HR.out.c2
            have cm := HR.out.mark j (by rw [putTo_length]; exact hjx)
            rw [putTo_at _ _ _ _ _ hjx, if_neg (by omega)] at cm
            have KE := Lib.hid (HR.out.keep j (by rw [putTo_length]; exact hjx) b[i])
            obtain ⟨old, cb, _⟩ := HR.out.byte j (by rw [putTo_length]; exact hjx)
            have sp := spot_any HR.out (N + j)
            rw [Int.natCast_add] at sp
            have SP := Lib.hid sp
            have hm : (N + j) % R < R := Nat.mod_lt _ r1
            have fT := HR.out.thawT ((N + j) % R)
            have fM := HR.out.thawM ((N + j) % R)
            have hne := HR.out.tm
            have KN := Lib.hid (KR.out.trans ((Chg.set wr (g := gt) (S := fun k => k = gt ∨ k = gm ∨ k = g) ((N + j) % R) (.int .u8 (b[i].toNat : Int)) (.inl rfl)).trans (Chg.set _ (g := gm) ((N + j) % R) (.bool true) (.inr (.inl rfl)))))
            generalize hp : (N + j) % R = p at *
            have hpr : (p : Int) < (R : Int) := by omega
            have hp0 : (0 : Int) ≤ (p : Int) := by omega
            generalize b[i] = bv at *
            clear hp sp hi hbl
            by_cases hx : xs[j].isSome = true
            · have E1 := Lib.hid (ST.out.1 hx)
              rw [hx] at cm
              clear hx KE KN
              go_wp2_with fail
              refine SP.out.mono ?_; rintro e w1 ⟨rfl, rfl⟩
              go_wp2
              go_roundw
              case rel => exact ⟨j + 1, by omega, by omega, by go_num, by rw [E1.out], by rw [E1.out]; exact HR, KR, BR⟩
              case measure => simp [intOf]; omega
            · have hx' : xs[j].isSome = false := by simpa using hx
              have E1 := Lib.hid (ST.out.2 hx')
              rw [hx'] at cm
              clear hx hx'
              go_wp2_with fail
              refine SP.out.mono ?_; rintro e w1 ⟨rfl, hw⟩
              rw [hw]
              clear hw w1
              go_upto_region 13 with fail
              have hG := HR.out.lt.2.2
              have nG : ¬ (g = gt ∨ g = gm) := by have h1 := HR.out.tg; have h2 := HR.out.mg; omega
              have nBb : ¬ (bb = gt ∨ bb = gm) := by have h := HA.out (by omega) _ rfl; have h1 : bb ≠ gt := h.1; have h2 : bb ≠ gm := h.2.1; omega
              refine wp_region_held_drew (S := fun w' => Hid (Chg wr w' (fun k => k = gt ∨ k = gm))) (by kernel_rfl) (Lib.hid ((Chg.refl wr _).drew)) (fun hH => ?_)
              refine held_take (i := 0) (d := (some 54)) (v := ?_) rfl rfl (by kernel_rfl) (by kernel_rfl) (by kernel_rfl) (fun _ _ _ h => h) (by rfl) ?_ hH ?_
              rotate_left
              · intro w' hSw; (try dsimp only at hSw); go_simp <;> with_reducible rfl
              simp only [Act.put, List.setIfInBounds_toArray, List.set_cons_zero, List.set_cons_succ]
              refine held_take (i := 1) (d := (some 55)) (v := ?_) rfl rfl (by kernel_rfl) (by kernel_rfl) (by kernel_rfl) (fun _ _ _ h => h) (by rfl) ?_ hH ?_
              rotate_left
              · intro w' hSw; (try dsimp only at hSw); go_simp <;> with_reducible rfl
              simp only [Act.put, List.setIfInBounds_toArray, List.set_cons_zero, List.set_cons_succ]
              refine held_take (i := 2) (d := (some 56)) (v := ?_) rfl rfl (by kernel_rfl) (by kernel_rfl) (by kernel_rfl) (fun _ _ _ h => h) (by rfl) ?_ hH ?_
              rotate_left
              · intro w' hSw; (try dsimp only at hSw); go_simp <;> with_reducible rfl
              simp only [Act.put, List.setIfInBounds_toArray, List.set_cons_zero, List.set_cons_succ]
              refine held_take (i := 3) (d := (some 57)) (v := ?_) rfl rfl (by kernel_rfl) (by kernel_rfl) (by kernel_rfl) (fun _ _ _ h => h) (by rfl) ?_ hH ?_
              rotate_left
              · intro w' hSw; have hk := hSw.out.block; clear hSw; have z := ((World.cell?_of_block (w := wr) (w' := w') (hk _ hG nG)).trans c1); clear hk; go_simp <;> with_reducible rfl
              simp only [Act.put, List.setIfInBounds_toArray, List.set_cons_zero, List.set_cons_succ]
              refine held_take (i := 4) (d := (some 58)) (v := ?_) rfl rfl (by kernel_rfl) (by kernel_rfl) (by kernel_rfl) (fun _ _ _ h => h) (by rfl) ?_ hH ?_
              rotate_left
              · intro w' hSw; (try dsimp only at hSw); go_simp <;> with_reducible rfl
              simp only [Act.put, List.setIfInBounds_toArray, List.set_cons_zero, List.set_cons_succ]
              refine held_take (i := 5) (d := (some 59)) (v := ?_) rfl rfl (by kernel_rfl) (by kernel_rfl) (by kernel_rfl) (fun _ _ _ h => h) (by rfl) ?_ hH ?_
              rotate_left
              · intro w' hSw; (try dsimp only at hSw); go_simp <;> with_reducible rfl
              simp only [Act.put, List.setIfInBounds_toArray, List.set_cons_zero, List.set_cons_succ]
              refine held_take (i := 6) (d := (some 60)) (v := ?_) rfl rfl (by kernel_rfl) (by kernel_rfl) (by kernel_rfl) (fun _ _ _ h => h) (by rfl) ?_ hH ?_
              rotate_left
              · intro w' hSw; (try dsimp only at hSw); go_simp <;> with_reducible rfl
              simp only [Act.put, List.setIfInBounds_toArray, List.set_cons_zero, List.set_cons_succ]
              refine held_take (i := 7) (d := (some 61)) (v := ?_) rfl rfl (by kernel_rfl) (by kernel_rfl) (by kernel_rfl) (fun _ _ _ h => h) (by rfl) ?_ hH ?_
              rotate_left
              · intro w' hSw; (try dsimp only at hSw); go_simp <;> with_reducible rfl
              simp only [Act.put, List.setIfInBounds_toArray, List.set_cons_zero, List.set_cons_succ]
              refine held_take (i := 8) (d := (some 62)) (v := ?_) rfl rfl (by kernel_rfl) (by kernel_rfl) (by kernel_rfl) (fun _ _ _ h => h) (by rfl) ?_ hH ?_
              rotate_left
              · intro w' hSw; have hk := hSw.out.block; clear hSw; have z := ((World.cell?_of_block (w := wr) (w' := w') (hk _ hG nG)).trans c2); clear hk; go_simp <;> with_reducible rfl
              simp only [Act.put, List.setIfInBounds_toArray, List.set_cons_zero, List.set_cons_succ]
              refine held_take (i := 9) (d := (some 63)) (v := ?_) rfl rfl (by kernel_rfl) (by kernel_rfl) (by kernel_rfl) (fun _ _ _ h => h) (by rfl) ?_ hH ?_
              rotate_left
              · intro w' hSw; (try dsimp only at hSw); go_simp <;> with_reducible rfl
              simp only [Act.put, List.setIfInBounds_toArray, List.set_cons_zero, List.set_cons_succ]
              refine held_take (i := 10) (d := (some 64)) (v := ?_) rfl rfl (by kernel_rfl) (by kernel_rfl) (by kernel_rfl) (fun _ _ _ h => h) (by rfl) ?_ hH ?_
              rotate_left
              · intro w' hSw; (try dsimp only at hSw); go_simp <;> with_reducible rfl
              simp only [Act.put, List.setIfInBounds_toArray, List.set_cons_zero, List.set_cons_succ]
              refine held_take (i := 11) (d := (some 65)) (v := ?_) rfl rfl (by kernel_rfl) (by kernel_rfl) (by kernel_rfl) (fun _ _ _ h => h) (by rfl) ?_ hH ?_
              rotate_left
              · intro w' hSw; (try dsimp only at hSw); go_simp <;> with_reducible rfl
              simp only [Act.put, List.setIfInBounds_toArray, List.set_cons_zero, List.set_cons_succ]
              refine held_take (i := 12) (d := (some 66)) (v := ?_) rfl rfl (by kernel_rfl) (by kernel_rfl) (by kernel_rfl) (fun _ _ _ h => h) (by rfl) ?_ hH ?_
              rotate_left
              · intro w' hSw; (try dsimp only at hSw); go_simp <;> with_reducible rfl
              simp only [Act.put, List.setIfInBounds_toArray, List.set_cons_zero, List.set_cons_succ]
              refine held_take (i := 13) (d := (some 67)) (v := ?_) rfl rfl (by kernel_rfl) (by kernel_rfl) (by kernel_rfl) (fun _ _ _ h => h) (by rfl) ?_ hH ?_
              rotate_left
              · intro w' hSw; (try dsimp only at hSw); go_simp <;> with_reducible rfl
              simp only [Act.put, List.setIfInBounds_toArray, List.set_cons_zero, List.set_cons_succ]
              refine held_take (i := 14) (d := (some 68)) (v := ?_) rfl rfl (by kernel_rfl) (by kernel_rfl) (by kernel_rfl) (fun _ _ _ h => h) (by rfl) ?_ hH ?_
              rotate_left
              · intro w' hSw; (try dsimp only at hSw); go_simp <;> with_reducible rfl
              simp only [Act.put, List.setIfInBounds_toArray, List.set_cons_zero, List.set_cons_succ]
              refine held_take (i := 15) (d := (some 69)) (v := ?_) rfl rfl (by kernel_rfl) (by kernel_rfl) (by kernel_rfl) (fun _ _ _ h => h) (by rfl) ?_ hH ?_
              rotate_left
              · intro w' hSw; have hk := hSw.out.block; clear hSw; have z := ((World.cell?_of_block (w := wr) (w' := w') (hk _ hBb nBb)).trans hbc); clear hk; go_simp <;> with_reducible rfl
              simp only [Act.put, List.setIfInBounds_toArray, List.set_cons_zero, List.set_cons_succ]
              refine held_take (i := 16) (d := (some 70)) (v := ?_) rfl rfl (by kernel_rfl) (by kernel_rfl) (by kernel_rfl) (fun _ _ _ h => h) (by rfl) ?_ hH ?_
              rotate_left
              · intro w' hSw; (try dsimp only at hSw); go_simp <;> with_reducible rfl
              simp only [Act.put, List.setIfInBounds_toArray, List.set_cons_zero, List.set_cons_succ]
              refine held_one (i := 17) (by kernel_rfl) rfl (by rfl) ?_
              refine Di.wp_store_is (vx := .pointer (some ⟨gt, p, none⟩)) (vy := .int .u8 (bv.toNat : Int)) (w' := (wr.drew.setCell ⟨gt, p, none⟩ (.int .u8 (bv.toNat : Int)))) rfl rfl rfl (by go_simp) ?_
              refine ⟨Lib.hid (hH.out.trans (Chg.set _ _ _ (.inl rfl))), ?_⟩
              have hH : Hid (Chg wr (wr.drew.setCell ⟨gt, p, none⟩ (.int .u8 (bv.toNat : Int))) (fun k => k = gt ∨ k = gm)) := Lib.hid (hH.out.trans (Chg.set _ _ _ (.inl rfl)))
              (try simp only [Act.put, List.setIfInBounds_toArray, List.set_cons_zero, List.set_cons_succ])
              refine held_take (i := 18) (d := (some 71)) (v := ?_) rfl rfl (by kernel_rfl) (by kernel_rfl) (by kernel_rfl) (fun _ _ _ h => h) (by rfl) ?_ hH ?_
              rotate_left
              · intro w' hSw; (try dsimp only at hSw); go_simp <;> with_reducible rfl
              simp only [Act.put, List.setIfInBounds_toArray, List.set_cons_zero, List.set_cons_succ]
              refine held_one (i := 19) (by kernel_rfl) rfl (by rfl) ?_
              refine Di.wp_store_is (vx := .pointer (some ⟨gm, p, none⟩)) (vy := .bool true) (w' := ((wr.drew.setCell ⟨gt, p, none⟩ (.int .u8 (bv.toNat : Int))).setCell ⟨gm, p, none⟩ (.bool true))) rfl rfl rfl (by go_simp) ?_
              refine ⟨Lib.hid (hH.out.trans (Chg.set _ _ _ (.inr rfl))), ?_⟩
              (try simp only [Act.put, List.setIfInBounds_toArray, List.set_cons_zero, List.set_cons_succ])
              refine wpAnyH_done (by kernel_rfl) ?_ _
              go_wp2
              go_roundw
              case rel =>
                have hh := E1.out.2
                have hle := LE.out
                have hl2 := LE2.out
                refine ⟨j + 1, by omega, by omega, by go_num, ?_, Lib.hid ?_, Lib.hid KN.out.drew, Lib.hid (src_chg BR.out (((Chg.set wr (g := gt) (S := fun k => k = gt ∨ k = gm ∨ k = g) p (.int .u8 (bv.toNat : Int)) (.inl rfl)).trans (Chg.set _ (g := gm) p (.bool true) (.inr (.inl rfl)))).drew) (fun h0 x hx hs => by have := HA.out h0 x hx; omega))⟩
                · have e3 := IntWalk.i64_in ((held (putTo xs (a - N) b j) : Int) - held xs + 1) (by omega)
                  have e4 : ((held (putTo xs (a - N) b (j + 1)) : Nat) : Int) - held xs = (held (putTo xs (a - N) b j) : Int) - held xs + 1 := by omega
                  rw [e4]
                  clear e3
                  congr 1
                  unfold wrap64
                  omega
                · rw [E1.out.1]; exact KE.out.drew
              case measure => simp [intOf]; omega
          · have E1 := Lib.hid (show putTo xs (a - N) b j = putR xs (a - N) b from putTo_end _ _ _ _ (by have := EN.out; have := bl.out; rw [hl.out]; omega))
            have hlt' : ¬ (N : Int) + (j : Int) < en := hlt
            rw [E1.out]
            go_wp2
            go_ret
            exact ⟨rfl, by rw [← E1.out]; exact HR.out, KR.out⟩
end Go.Proofs.Ytldmcoagjgeeoaa.Ra
