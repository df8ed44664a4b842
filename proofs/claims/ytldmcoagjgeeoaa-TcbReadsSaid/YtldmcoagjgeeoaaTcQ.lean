/- Package tcb: push. Conditions: those that each states. -/
import Derived.Test.YtldmcoagjgeeoaaTcP
import Derived.Test.YtldmcoagjgeeoaaGx
import Derived.Deep.DeepCutAuto
namespace Go.Proofs.Ytldmcoagjgeeoaa.Tc
open Go.ChangeShapes Go.WideShapes Go.ChangeAt Go.RowKit Go.Deep Rk Rv Gx
set_option linter.unusedVariables false
set_option linter.unusedSimpArgs false

set_option maxRecDepth 100000 in
set_option maxHeartbeats 2000000 in
theorem push_any {w0 w : World} {P : Pl} {T : TC} {A : Option Addr} {c : Nat} {l : List OutV} (h : CO w0 w P T A c l) (ok : Ok T) (hst : T.st = 2) (hl : l.length ≤ 100) :
    Calls Try.prog 30 #[.pointer (some ⟨P.g, 0, none⟩), .slice A l.length c] w fun e w' => ∃ A' c' l' ll, e = .returned (.slice A' ll.length c') ∧ Hid (ll = l ++ l') ∧ CO w0 w' P (pushT T) A' c' ll ∧ Ap w w' P A A' ∧ Pushed T l' := by
  have CN := Lib.hid h.con
  have H := Lib.hid h
  have OK := Lib.hid ok
  have u0 := ok.una
  have u1 := ok.nxt
  have u2 := ok.en
  have u3 := ok.big
  obtain ⟨u4, u5⟩ := ok.win
  obtain ⟨u6, u7⟩ := ok.mss
  have c0 := h.con.c0
  rw [hst] at c0
  obtain ⟨o, ho⟩ : ∃ o, o = plainR T := ⟨_, rfl⟩
  have PL := Lib.hid (fun W (k : Below w.heap.size w W) => show Calls Try.prog 36 #[.pointer (some ⟨P.g, 0, none⟩)] W _ from plain_any (h.con.new k) ok.done)
  rw [← ho] at PL
  have o16 : o.f = 16 := by rw [ho]; rfl
  obtain ⟨lim, hlim⟩ : ∃ lim, lim = limR T := ⟨_, rfl⟩
  have m1 : lim ≤ T.en ∧ lim ≤ T.una + T.win ∧ (lim = T.en ∨ lim = T.una + T.win) := by unfold limR at hlim; omega
  have PU := Lib.hid (show pushT T = if T.nxt < lim then loopT T lim else if T.nxt < T.en ∧ T.una = T.nxt then wakeR T else T from by rw [hlim]; rfl)
  have PS := Lib.hid (show ∀ l', Pushed T l' = ((¬ T.nxt < lim ∧ l' = []) ∨ (T.nxt < lim ∧ Ch T o lim l')) from fun l' => by rw [hlim, ho]; rfl)
  have CS := Lib.hid (show ∀ p l', Ch T o p l' → p < lim → Ch T o (p + min T.mss (lim - p)) (l' ++ [withR T o p (min T.mss (lim - p))]) from fun p l' k kp => by rw [hlim] at *; exact Ch.snoc k kp)
  have CL := Lib.hid (show ∀ p l', Ch T o p l' → (l'.length : Int) ≤ p - T.nxt ∧ (p ≤ lim ∨ p = T.nxt) from fun p l' k => by rw [hlim]; exact k.le u6)
  have C0 := Lib.hid (Ch.nil (T := T) (o := o))
  have x1 := IntWalk.i64_in (T.una + T.win) (by omega)
  have y1 : (if T.una + T.win < T.en then T.una + T.win else T.en) = lim := by split <;> omega
  obtain ⟨gq, hgq⟩ : ∃ gq, pushT T = gq := ⟨_, rfl⟩
  rw [hgq] at PU ⊢
  have FIN := Lib.hid (fun (l' : List OutV) => show Pushed T l' = _ from PS.out l')
  clear h hlim ho hgq
  go_enter Try.func30, Try.ntmps30
  go_upto_region 3 with fail
  go_cut [5, 6] (fun s5 s6 wx => ∃ gb, s5 = .pointer (some ⟨gb, 0, none⟩) ∧ s6 = .int .i64 lim ∧ Hid (Blk wx gb 55 (outA o)) ∧ w.heap.size ≤ gb ∧ Hid (Below w.heap.size w wx))
  · -- o, limit
    refine wp_region_held_drew (S := fun w' => Hid (Below w.heap.size w w')) (by kernel_rfl) (Lib.hid ((Below.refl w.heap.size w).drew)) (fun hS => ?_)
    refine held_take (i := 0) (d := (some 21)) (v := ?_) rfl rfl (by kernel_rfl) (by kernel_rfl) (by kernel_rfl) (fun _ _ _ h => h) (by rfl) ?_ hS ?_
    rotate_left
    · intro w' hSw; (try dsimp only at hSw); go_simp <;> with_reducible rfl
    simp only [Act.put, List.setIfInBounds_toArray, List.set_cons_zero, List.set_cons_succ]
    refine held_take (i := 2) (d := (some 23)) (v := ?_) rfl rfl (by kernel_rfl) (by kernel_rfl) (by kernel_rfl) (fun _ _ _ h => h) (by rfl) ?_ hS ?_
    rotate_left
    · intro w' hSw; (try dsimp only at hSw); go_simp <;> with_reducible rfl
    simp only [Act.put, List.setIfInBounds_toArray, List.set_cons_zero, List.set_cons_succ]
    refine held_take (i := 3) (d := (some 24)) (v := ?_) rfl rfl (by kernel_rfl) (by kernel_rfl) (by kernel_rfl) (fun _ _ _ h => h) (by rfl) ?_ hS ?_
    rotate_left
    · intro w' hSw; (try dsimp only at hSw); go_simp <;> with_reducible rfl
    simp only [Act.put, List.setIfInBounds_toArray, List.set_cons_zero, List.set_cons_succ]
    refine held_take (i := 4) (d := (some 25)) (v := ?_) rfl rfl (by kernel_rfl) (by kernel_rfl) (by kernel_rfl) (fun _ _ _ h => h) (by rfl) ?_ hS ?_
    rotate_left
    · intro w' hSw; (try dsimp only at hSw); go_simp <;> with_reducible rfl
    simp only [Act.put, List.setIfInBounds_toArray, List.set_cons_zero, List.set_cons_succ]
    refine held_take (i := 5) (d := (some 26)) (v := ?_) rfl rfl (by kernel_rfl) (by kernel_rfl) (by kernel_rfl) (fun _ _ _ h => h) (by rfl) ?_ hS ?_
    rotate_left
    · intro w' hSw; have kb := hSw.out; clear hSw; have z := ((CN.out.new kb).c5); clear kb; go_simp <;> with_reducible rfl
    simp only [Act.put, List.setIfInBounds_toArray, List.set_cons_zero, List.set_cons_succ]
    refine held_take (i := 6) (d := (some 27)) (v := ?_) rfl rfl (by kernel_rfl) (by kernel_rfl) (by kernel_rfl) (fun _ _ _ h => h) (by rfl) ?_ hS ?_
    rotate_left
    · intro w' hSw; (try dsimp only at hSw); go_simp <;> with_reducible rfl
    simp only [Act.put, List.setIfInBounds_toArray, List.set_cons_zero, List.set_cons_succ]
    refine held_take (i := 7) (d := (some 28)) (v := ?_) rfl rfl (by kernel_rfl) (by kernel_rfl) (by kernel_rfl) (fun _ _ _ h => h) (by rfl) ?_ hS ?_
    rotate_left
    · intro w' hSw; (try dsimp only at hSw); go_simp <;> with_reducible rfl
    simp only [Act.put, List.setIfInBounds_toArray, List.set_cons_zero, List.set_cons_succ]
    refine held_take (i := 8) (d := (some 29)) (v := ?_) rfl rfl (by kernel_rfl) (by kernel_rfl) (by kernel_rfl) (fun _ _ _ h => h) (by rfl) ?_ hS ?_
    rotate_left
    · intro w' hSw; (try dsimp only at hSw); go_simp <;> with_reducible rfl
    simp only [Act.put, List.setIfInBounds_toArray, List.set_cons_zero, List.set_cons_succ]
    refine held_take (i := 9) (d := (some 30)) (v := ?_) rfl rfl (by kernel_rfl) (by kernel_rfl) (by kernel_rfl) (fun _ _ _ h => h) (by rfl) ?_ hS ?_
    rotate_left
    · intro w' hSw; have kb := hSw.out; clear hSw; have z := ((CN.out.new kb).c3); clear kb; go_simp <;> with_reducible rfl
    simp only [Act.put, List.setIfInBounds_toArray, List.set_cons_zero, List.set_cons_succ]
    refine held_take (i := 10) (d := (some 31)) (v := ?_) rfl rfl (by kernel_rfl) (by kernel_rfl) (by kernel_rfl) (fun _ _ _ h => h) (by rfl) ?_ hS ?_
    rotate_left
    · intro w' hSw; (try dsimp only at hSw); go_simp <;> with_reducible rfl
    simp only [Act.put, List.setIfInBounds_toArray, List.set_cons_zero, List.set_cons_succ]
    refine held_take (i := 11) (d := (some 32)) (v := ?_) rfl rfl (by kernel_rfl) (by kernel_rfl) (by kernel_rfl) (fun _ _ _ h => h) (by rfl) ?_ hS ?_
    rotate_left
    · intro w' hSw; (try dsimp only at hSw); go_simp <;> with_reducible rfl
    simp only [Act.put, List.setIfInBounds_toArray, List.set_cons_zero, List.set_cons_succ]
    refine held_take (i := 12) (d := (some 33)) (v := ?_) rfl rfl (by kernel_rfl) (by kernel_rfl) (by kernel_rfl) (fun _ _ _ h => h) (by rfl) ?_ hS ?_
    rotate_left
    · intro w' hSw; (try dsimp only at hSw); go_simp <;> with_reducible rfl
    simp only [Act.put, List.setIfInBounds_toArray, List.set_cons_zero, List.set_cons_succ]
    refine held_take (i := 13) (d := (some 34)) (v := ?_) rfl rfl (by kernel_rfl) (by kernel_rfl) (by kernel_rfl) (fun _ _ _ h => h) (by rfl) ?_ hS ?_
    rotate_left
    · intro w' hSw; have kb := hSw.out; clear hSw; have z := ((CN.out.new kb).c6); clear kb; go_simp <;> with_reducible rfl
    simp only [Act.put, List.setIfInBounds_toArray, List.set_cons_zero, List.set_cons_succ]
    refine held_take (i := 14) (d := (some 35)) (v := ?_) rfl rfl (by kernel_rfl) (by kernel_rfl) (by kernel_rfl) (fun _ _ _ h => h) (by rfl) ?_ hS ?_
    rotate_left
    · intro w' hSw; (try dsimp only at hSw); go_simp <;> with_reducible rfl
    simp only [Act.put, List.setIfInBounds_toArray, List.set_cons_zero, List.set_cons_succ]
    refine held_take (i := 15) (d := (some 36)) (v := ?_) rfl rfl (by kernel_rfl) (by kernel_rfl) (by kernel_rfl) (fun _ _ _ h => h) (by rfl) ?_ hS ?_
    rotate_left
    · intro w' hSw; (try dsimp only at hSw); go_simp <;> with_reducible rfl
    simp only [Act.put, List.setIfInBounds_toArray, List.set_cons_zero, List.set_cons_succ]
    refine held_two (i := 1) (j := 16) (by kernel_rfl) rfl rfl (by rfl) (by rfl) ?_ ?_
    · go_simp
      refine ((PL.out _ hS.out).mono ?_); rintro e wq ⟨rfl, hb⟩
      have hS : Hid (Below w.heap.size w wq) := Lib.hid (hS.out.trans (hb.mono hS.out.size))
      clear hb
      refine ⟨hS, ?_⟩
      (try simp only [Act.put, List.setIfInBounds_toArray, List.set_cons_zero, List.set_cons_succ])
      refine held_one (i := 16) (by kernel_rfl) rfl (by rfl) ?_
      go_simp
      have AB := Lib.hid (blk_of hS.out 55 (outA oz))
      have hS := Lib.hid (hS.out.alloc hS.out.size (.cells (outA oz) 55))
      refine ⟨hS, ?_⟩
      (try simp only [Act.put, List.setIfInBounds_toArray, List.set_cons_zero, List.set_cons_succ])
      refine held_one (i := 17) (by kernel_rfl) rfl (by rfl) ?_
      refine Gx.wp_store_row_n rfl 55 (.tmp 5) (.tmp 22) rfl _ (outA o) rfl rfl 55 _ AB.out.1 out_info rfl (by simp [Value.oneCell']) ?_
      have AC := Lib.hid (Blk.row AB.out.1 (outA o))
      have hS := Lib.hid (below_setRow hS.out AB.out.2 (outA o))
      refine ⟨hS, ?_⟩
      (try simp only [Act.put, List.setIfInBounds_toArray, List.set_cons_zero, List.set_cons_succ])
      refine held_take (i := 18) (d := (some 6)) (v := ?_) rfl rfl (by kernel_rfl) (by kernel_rfl) (by kernel_rfl) (fun _ _ _ h => h) (by rfl) ?_ hS ?_
      rotate_left
      · intro w' hSw; (try dsimp only at hSw); go_simp <;> with_reducible rfl
      simp only [Act.put, List.setIfInBounds_toArray, List.set_cons_zero, List.set_cons_succ]
      refine wpAnyH_done (by kernel_rfl) ?_ _
      go_wp2_with fail
      go_meet
      exact ⟨_, rfl, rfl, AC, AB.out.2, hS⟩
    · go_simp
      have AB := Lib.hid (blk_of hS.out 55 (outA oz))
      have hS := Lib.hid (hS.out.alloc hS.out.size (.cells (outA oz) 55))
      refine ⟨hS, ?_⟩
      (try simp only [Act.put, List.setIfInBounds_toArray, List.set_cons_zero, List.set_cons_succ])
      refine held_one (i := 1) (by kernel_rfl) rfl (by rfl) ?_
      go_simp
      refine ((PL.out _ hS.out).mono ?_); rintro e wq ⟨rfl, hb⟩
      have hS : Hid (Below w.heap.size w wq) := Lib.hid (hS.out.trans (hb.mono hS.out.size))
      have AB := Lib.hid (And.intro (Blk.below AB.out.1 hb AB.out.1.lt) AB.out.2)
      clear hb
      refine ⟨hS, ?_⟩
      (try simp only [Act.put, List.setIfInBounds_toArray, List.set_cons_zero, List.set_cons_succ])
      refine held_one (i := 17) (by kernel_rfl) rfl (by rfl) ?_
      refine Gx.wp_store_row_n rfl 55 (.tmp 5) (.tmp 22) rfl _ (outA o) rfl rfl 55 _ AB.out.1 out_info rfl (by simp [Value.oneCell']) ?_
      have AC := Lib.hid (Blk.row AB.out.1 (outA o))
      have hS := Lib.hid (below_setRow hS.out AB.out.2 (outA o))
      refine ⟨hS, ?_⟩
      (try simp only [Act.put, List.setIfInBounds_toArray, List.set_cons_zero, List.set_cons_succ])
      refine held_take (i := 18) (d := (some 6)) (v := ?_) rfl rfl (by kernel_rfl) (by kernel_rfl) (by kernel_rfl) (fun _ _ _ h => h) (by rfl) ?_ hS ?_
      rotate_left
      · intro w' hSw; (try dsimp only at hSw); go_simp <;> with_reducible rfl
      simp only [Act.put, List.setIfInBounds_toArray, List.set_cons_zero, List.set_cons_succ]
      refine wpAnyH_done (by kernel_rfl) ?_ _
      go_wp2_with fail
      go_meet
      exact ⟨_, rfl, rfl, AC, AB.out.2, hS⟩
  clear PL y1 x1 c0
  obtain ⟨gb, rfl, rfl, OB0, hgb, BX⟩ := hcut
  have nP : ¬ P.In gb := fun e => by have := CN.out.lt gb e; omega
  have nA : ¬ inR A gb := fun ⟨a, e, e2⟩ => by have := H.out.out.lt a e; omega
  have CO0 := Lib.hid (H.out.new BX.out)
  have AP0 := Lib.hid (show Ap w wc P A A from Ap.of (Chg.of_new BX.out _))
  clear CN
  have R0 := Lib.hid (show CO w0 wc P (loopT T T.nxt) A c l from by rw [loop_0]; exact CO0.out)
  clear CO0 BX H
  go_wp2
  go_loopw [1] (fun s1 wr => ∃ (A' : Option Addr) (c' : Nat) (l' ll : List OutV) (p : Int), s1 = .slice A' ll.length c' ∧ Hid (ll = l ++ l') ∧ T.nxt ≤ p ∧ (p ≤ lim ∨ p = T.nxt) ∧ (ll.length : Int) ≤ 100 + (p - T.nxt) ∧ Hid (Ch T o p l') ∧ Hid (CO w0 wr P (loopT T p) A' c' ll) ∧ Hid (Ap w wr P A A') ∧ Hid (Blk wr gb 55 (outA o)) ∧ ¬ inR A' gb) (fun s1 _ => match s1 with | .slice _ n _ => 1000000 - n | _ => 0)
  case atStart => exact ⟨A, c, [], l, T.nxt, rfl, Lib.hid (List.append_nil l).symm, by omega, .inr rfl, by omega, C0, R0, AP0, OB0, nA⟩
  case round =>
    clear R0 AP0 OB0 C0 nA
    obtain ⟨A', c', l', ll, p, rfl, HL, hp1, hp2, hp3, HC, HR, HA, OB, nA⟩ := hrel
    obtain ⟨f4, f0, f3, f5, f6, f7, f9, f12⟩ := loop_f T p
    have c4 := HR.out.con.c4
    rw [f4] at c4
    by_cases hlt : p < lim
    · have c7 := HR.out.con.c7
      rw [f7] at c7
      obtain ⟨n, hn⟩ : ∃ n, n = min T.mss (lim - p) := ⟨_, rfl⟩
      have n1 : 1 ≤ n ∧ n ≤ 900 ∧ p + n ≤ lim := by omega
      obtain ⟨n1, n2, n3⟩ := n1
      have x2 := IntWalk.i64_in (lim - p) (by omega)
      have x3 := IntWalk.i64_in (p + n) (by omega)
      have y2 : (if lim - p < T.mss then lim - p else T.mss) = n := by split <;> omega
      have CX := Lib.hid (show Ch T o (p + n) (l' ++ [withR T o p n]) from by rw [hn]; exact CS.out p l' HC.out hlt)
      have LS := Lib.hid (loop_step OK.out hp1 n1)
      clear hn
      go_wp2_with fail
      refine wp_region_held_drew (S := fun w' => w'.cell? ⟨P.g, 7, none⟩ = some (.int .i64 T.mss) ∧ w'.cell? ⟨P.g, 4, none⟩ = some (.int .i64 p)) (by kernel_rfl) (⟨c7, c4⟩) (fun hH => ?_)
      refine held_take (i := 0) (d := (some 43)) (v := ?_) rfl rfl (by kernel_rfl) (by kernel_rfl) (by kernel_rfl) (fun _ _ _ h => h) (by rfl) ?_ hH ?_
      rotate_left
      · intro w' hSw; (try dsimp only at hSw); go_simp <;> with_reducible rfl
      simp only [Act.put, List.setIfInBounds_toArray, List.set_cons_zero, List.set_cons_succ]
      refine held_take (i := 1) (d := (some 44)) (v := ?_) rfl rfl (by kernel_rfl) (by kernel_rfl) (by kernel_rfl) (fun _ _ _ h => h) (by rfl) ?_ hH ?_
      rotate_left
      · intro w' hSw; (try dsimp only at hSw); go_simp <;> with_reducible rfl
      simp only [Act.put, List.setIfInBounds_toArray, List.set_cons_zero, List.set_cons_succ]
      refine held_take (i := 2) (d := (some 45)) (v := ?_) rfl rfl (by kernel_rfl) (by kernel_rfl) (by kernel_rfl) (fun _ _ _ h => h) (by rfl) ?_ hH ?_
      rotate_left
      · intro w' hSw; (try dsimp only at hSw); go_simp <;> with_reducible rfl
      simp only [Act.put, List.setIfInBounds_toArray, List.set_cons_zero, List.set_cons_succ]
      refine held_take (i := 3) (d := (some 46)) (v := ?_) rfl rfl (by kernel_rfl) (by kernel_rfl) (by kernel_rfl) (fun _ _ _ h => h) (by rfl) ?_ hH ?_
      rotate_left
      · intro w' hSw; have z1 := hSw.1; have z2 := hSw.2; clear hSw; go_simp <;> with_reducible rfl
      simp only [Act.put, List.setIfInBounds_toArray, List.set_cons_zero, List.set_cons_succ]
      refine held_take (i := 4) (d := (some 47)) (v := ?_) rfl rfl (by kernel_rfl) (by kernel_rfl) (by kernel_rfl) (fun _ _ _ h => h) (by rfl) ?_ hH ?_
      rotate_left
      · intro w' hSw; (try dsimp only at hSw); go_simp <;> with_reducible rfl
      simp only [Act.put, List.setIfInBounds_toArray, List.set_cons_zero, List.set_cons_succ]
      refine held_take (i := 5) (d := (some 48)) (v := ?_) rfl rfl (by kernel_rfl) (by kernel_rfl) (by kernel_rfl) (fun _ _ _ h => h) (by rfl) ?_ hH ?_
      rotate_left
      · intro w' hSw; (try dsimp only at hSw); go_simp <;> with_reducible rfl
      simp only [Act.put, List.setIfInBounds_toArray, List.set_cons_zero, List.set_cons_succ]
      refine held_take (i := 6) (d := (some 49)) (v := ?_) rfl rfl (by kernel_rfl) (by kernel_rfl) (by kernel_rfl) (fun _ _ _ h => h) (by rfl) ?_ hH ?_
      rotate_left
      · intro w' hSw; (try dsimp only at hSw); go_simp <;> with_reducible rfl
      simp only [Act.put, List.setIfInBounds_toArray, List.set_cons_zero, List.set_cons_succ]
      refine held_take (i := 7) (d := (some 50)) (v := ?_) rfl rfl (by kernel_rfl) (by kernel_rfl) (by kernel_rfl) (fun _ _ _ h => h) (by rfl) ?_ hH ?_
      rotate_left
      · intro w' hSw; (try dsimp only at hSw); go_simp <;> with_reducible rfl
      simp only [Act.put, List.setIfInBounds_toArray, List.set_cons_zero, List.set_cons_succ]
      refine held_take (i := 8) (d := (some 51)) (v := ?_) rfl rfl (by kernel_rfl) (by kernel_rfl) (by kernel_rfl) (fun _ _ _ h => h) (by rfl) ?_ hH ?_
      rotate_left
      · intro w' hSw; have z1 := hSw.1; have z2 := hSw.2; clear hSw; go_simp <;> with_reducible rfl
      simp only [Act.put, List.setIfInBounds_toArray, List.set_cons_zero, List.set_cons_succ]
      refine held_take (i := 9) (d := (some 52)) (v := ?_) rfl rfl (by kernel_rfl) (by kernel_rfl) (by kernel_rfl) (fun _ _ _ h => h) (by rfl) ?_ hH ?_
      rotate_left
      · intro w' hSw; (try dsimp only at hSw); go_simp <;> with_reducible rfl
      simp only [Act.put, List.setIfInBounds_toArray, List.set_cons_zero, List.set_cons_succ]
      refine held_take (i := 10) (d := (some 53)) (v := ?_) rfl rfl (by kernel_rfl) (by kernel_rfl) (by kernel_rfl) (fun _ _ _ h => h) (by rfl) ?_ hH ?_
      rotate_left
      · intro w' hSw; (try dsimp only at hSw); go_simp <;> with_reducible rfl
      simp only [Act.put, List.setIfInBounds_toArray, List.set_cons_zero, List.set_cons_succ]
      refine held_take (i := 11) (d := (some 7)) (v := ?_) rfl rfl (by kernel_rfl) (by kernel_rfl) (by kernel_rfl) (fun _ _ _ h => h) (by rfl) ?_ hH ?_
      rotate_left
      · intro w' hSw; (try dsimp only at hSw); go_simp <;> with_reducible rfl
      simp only [Act.put, List.setIfInBounds_toArray, List.set_cons_zero, List.set_cons_succ]
      refine wpAnyH_done (by kernel_rfl) ?_ _
      have HR1 := Lib.hid (show CO w0 wr.drew P (loopT T p) A' c' ll from HR.out.drewN 1)
      have HA1 := Lib.hid (show Ap w wr.drew P A A' from HA.out.trans (Ap.of ((Chg.refl wr P.In).drewN 1)))
      have OB1 := Lib.hid (show Blk wr.drew gb 55 (outA o) from OB.out.drewN 1)
      clear hH
      generalize wr.drew = w1 at *
      clear HR HA OB y2 x2 c4 c7
      have C4 := Lib.hid (fun W (k : Below w1.heap.size w1 W) => show W.cell? ⟨P.g, 4, none⟩ = some (.int .i64 p) from by rw [← f4]; exact (HR1.out.con.new k).c4)
      have WT := Lib.hid (fun W (k : Below w1.heap.size w1 W) => show Calls Try.prog 49 #[.pointer (some ⟨P.g, 0, none⟩), .agg (outA o), .int .i64 p, .int .i64 n] W (fun e w' => e = .returned (.agg (outA (withR T o p n))) ∧ Below W.heap.size W w') from by
        have := with_any (HR1.out.con.new k) o o16 p n (by omega) (by omega)
        rw [with_loop] at this
        exact this)
      have OB := OB1
      go_wp2_with fail
      have hH := Lib.hid ((Below.refl w1.heap.size w1).drew)
      refine wp_head_held (S := fun w' => Hid (Below w1.heap.size w1 w')) 10 (by kernel_rfl) rfl rfl (by kernel_rfl) ?_
      simp only [List.take_succ_cons, List.take_zero, List.drop_succ_cons, List.drop_zero]
      refine held_take (i := 0) (d := (some 54)) (v := ?_) rfl rfl (by kernel_rfl) (by kernel_rfl) (by kernel_rfl) (fun _ _ _ h => h) (by rfl) ?_ hH ?_
      rotate_left
      · intro w' hSw; (try dsimp only at hSw); go_simp <;> with_reducible rfl
      simp only [Act.put, List.setIfInBounds_toArray, List.set_cons_zero, List.set_cons_succ]
      refine held_take (i := 1) (d := (some 55)) (v := ?_) rfl rfl (by kernel_rfl) (by kernel_rfl) (by kernel_rfl) (fun _ _ _ h => h) (by rfl) ?_ hH ?_
      rotate_left
      · intro w' hSw; (try dsimp only at hSw); go_simp <;> with_reducible rfl
      simp only [Act.put, List.setIfInBounds_toArray, List.set_cons_zero, List.set_cons_succ]
      refine held_take (i := 2) (d := (some 56)) (v := ?_) rfl rfl (by kernel_rfl) (by kernel_rfl) (by kernel_rfl) (fun _ _ _ h => h) (by rfl) ?_ hH ?_
      rotate_left
      · intro w' hSw; (try dsimp only at hSw); go_simp <;> with_reducible rfl
      simp only [Act.put, List.setIfInBounds_toArray, List.set_cons_zero, List.set_cons_succ]
      refine held_take (i := 3) (d := (some 57)) (v := .agg (outA o)) rfl rfl (by kernel_rfl) (by kernel_rfl) (by kernel_rfl) (fun _ _ _ h => h) (by rfl) (fun w' hSw => exec_load (y := .pointer (some ⟨gb, 0, none⟩)) rfl rfl (out_load (Blk.below OB.out hSw.out OB.out.lt))) hH ?_
      simp only [Act.put, List.setIfInBounds_toArray, List.set_cons_zero, List.set_cons_succ]
      refine held_take (i := 4) (d := (some 58)) (v := ?_) rfl rfl (by kernel_rfl) (by kernel_rfl) (by kernel_rfl) (fun _ _ _ h => h) (by rfl) ?_ hH ?_
      rotate_left
      · intro w' hSw; (try dsimp only at hSw); go_simp <;> with_reducible rfl
      simp only [Act.put, List.setIfInBounds_toArray, List.set_cons_zero, List.set_cons_succ]
      refine held_take (i := 5) (d := (some 59)) (v := ?_) rfl rfl (by kernel_rfl) (by kernel_rfl) (by kernel_rfl) (fun _ _ _ h => h) (by rfl) ?_ hH ?_
      rotate_left
      · intro w' hSw; (try dsimp only at hSw); go_simp <;> with_reducible rfl
      simp only [Act.put, List.setIfInBounds_toArray, List.set_cons_zero, List.set_cons_succ]
      refine held_take (i := 6) (d := (some 60)) (v := ?_) rfl rfl (by kernel_rfl) (by kernel_rfl) (by kernel_rfl) (fun _ _ _ h => h) (by rfl) ?_ hH ?_
      rotate_left
      · intro w' hSw; (try dsimp only at hSw); go_simp <;> with_reducible rfl
      simp only [Act.put, List.setIfInBounds_toArray, List.set_cons_zero, List.set_cons_succ]
      refine held_take (i := 7) (d := (some 61)) (v := ?_) rfl rfl (by kernel_rfl) (by kernel_rfl) (by kernel_rfl) (fun _ _ _ h => h) (by rfl) ?_ hH ?_
      rotate_left
      · intro w' hSw; have z1 := C4.out w' hSw.out; clear hSw; go_simp <;> with_reducible rfl
      simp only [Act.put, List.setIfInBounds_toArray, List.set_cons_zero, List.set_cons_succ]
      refine held_take (i := 8) (d := (some 62)) (v := ?_) rfl rfl (by kernel_rfl) (by kernel_rfl) (by kernel_rfl) (fun _ _ _ h => h) (by rfl) ?_ hH ?_
      rotate_left
      · intro w' hSw; (try dsimp only at hSw); go_simp <;> with_reducible rfl
      simp only [Act.put, List.setIfInBounds_toArray, List.set_cons_zero, List.set_cons_succ]
      refine held_one (i := 9) (by kernel_rfl) rfl (by rfl) ?_
      go_simp
      refine ((WT.out _ hH.out).mono ?_); rintro e wq ⟨rfl, hb⟩
      have hH : Hid (Below w1.heap.size w1 wq) := Lib.hid (hH.out.trans (hb.mono hH.out.size))
      clear hb
      refine ⟨hH, ?_⟩
      (try simp only [Act.put, List.setIfInBounds_toArray, List.set_cons_zero, List.set_cons_succ])
      refine wpAnyH_done (by kernel_rfl) ?_ _
      show wpList _ _ _ _ _ _
      clear C4 WT
      obtain ⟨l2, hl2⟩ : ∃ l2, ll ++ [withR T o p n] = l2 := ⟨_, rfl⟩
      have SD := Lib.hid (show Calls Try.prog 37 _ _ _ from send_any (HR1.out.new hH.out) (withR T o p n) (by omega))
      have hlen : l2.length = ll.length + 1 := by rw [← hl2]; simp
      have HL2 := Lib.hid (show l2 = l ++ (l' ++ [withR T o p n]) from by rw [← hl2, HL.out, List.append_assoc])
      rw [hl2] at SD
      clear hl2
      have NB2 := Lib.hid (Blk.below OB.out hH.out OB.out.lt)
      have HA2 := Lib.hid (HA1.out.trans (Ap.of (Chg.of_new hH.out _)))
      clear HR1 OB OB1 HA1
      go_wp2_with fail
      refine SD.out.mono ?_; rintro e w2 ⟨A2, c2, rfl, co2, ap2⟩
      have OB2 := ap2.blk NB2.out nP nA
      have NB3 := Lib.hid OB2.1
      have nA2 := OB2.2
      have HA3 := Lib.hid (HA2.out.trans ap2)
      have R2 := Lib.hid co2
      clear co2 ap2 OB2 NB2 HA2 SD hH nA
      obtain ⟨X, hX⟩ : ∃ X, sentR (loopT T p) = X := ⟨_, rfl⟩
      rw [hX] at R2 LS
      have fX : X.nxt = p := by rw [← hX]; exact f4
      have EX := Lib.hid hX
      clear hX
      have c18 := R2.out.con.c18
      have done : ∀ w3, CO w0 w3 P (timeR X) A2 c2 l2 → Chg w2 w3 P.In → Hid (CO w0 w3 P (timeR X) A2 c2 l2) ∧ Hid (Ap w w3 P A A2) ∧ Hid (Blk w3 gb 55 (outA o)) := fun w3 h3 k3 => ⟨Lib.hid h3, Lib.hid (HA3.out.trans (Ap.of k3)), Lib.hid (NB3.out.chg k3 nP)⟩
      have DN := Lib.hid done
      clear done
      have fY : (timeR X).nxt = p := by unfold timeR; split <;> exact fX
      go_upto_if 69 with fail
      go_cut [] (fun wx => Hid (CO w0 wx P (timeR X) A2 c2 l2) ∧ Hid (Ap w wx P A A2) ∧ Hid (Blk wx gb 55 (outA o)))
      · by_cases ht : X.timed = -1
        · have E := Lib.hid (show timeR X = { X with timed := X.nxt, took := 0 } from if_pos ht)
          rw [ht] at c18
          have c4 := R2.out.con.c4
          rw [fX] at c4
          have c19 := R2.out.con.c19
          have f18 := R2.out.con.fz 18
          have f19 := R2.out.con.fz 19
          have D := DN.out ((w2.setCell ⟨P.g, 18, none⟩ (.int .i64 p)).setCell ⟨P.g, 19, none⟩ (.int .i64 0)) (by
            rw [E.out]
            have q1 : CA (w2.setCell ⟨P.g, 18, none⟩ (.int .i64 p)) P { X with timed := X.nxt } := R2.out.con.set 18 _ (by rw [← fX]; rfl) rfl rfl rfl rfl
            exact (R2.out.step q1 (set_in _ _ _ _)).step (q1.set 19 _ rfl rfl rfl rfl rfl) (set_in _ _ _ _)) ((set_in _ _ _ _).trans (set_in _ _ _ _))
          clear DN R2
          go_wp2_with fail
          go_meet
          exact D
        · have E := Lib.hid (show timeR X = X from if_neg ht)
          have D := DN.out w2 (by rw [E.out]; exact R2.out) (Chg.refl _ _)
          clear DN R2
          go_wp2_with fail
          go_meet
          exact D
      obtain ⟨D1, D2, D3⟩ := hcut
      clear DN R2 c18 NB3 HA3
      have c4 := D1.out.con.c4
      rw [fY] at c4
      have f4' := D1.out.con.fz 4
      have q2 : CA (wc.setCell ⟨P.g, 4, none⟩ (.int .i64 (p + n))) P (advR (timeR X) n) := D1.out.con.set 4 _ (by rw [← fY]; rfl) rfl rfl rfl rfl
      have D4 := Lib.hid (D1.out.step q2 (set_in _ _ _ _))
      have D5 := Lib.hid (D2.out.trans (Ap.of (set_in wc P 4 (.int .i64 (p + n)))))
      have D6 := Lib.hid (D3.out.chg (set_in wc P 4 (.int .i64 (p + n))) nP)
      clear q2
      go_upto_region 10 with fail
      generalize wc.setCell ⟨P.g, 4, none⟩ (.int .i64 (p + n)) = w4 at *
      have WK := Lib.hid (wake_any D4.out.con)
      rw [LS.out] at WK
      clear D1 D2 D3 c4 f4'
      go_wp2_with fail
      refine WK.out.mono ?_; rintro e w5 ⟨rfl, k5, g5⟩
      have D7 := Lib.hid (D4.out.step k5 g5)
      have D8 := Lib.hid (D5.out.trans (Ap.of g5))
      have D9 := Lib.hid (D6.out.chg g5 nP)
      clear k5 g5 WK D4 D5 D6
      go_wp2_with fail
      go_roundw
      case rel => exact ⟨A2, c2, _, l2, p + n, by rw [hlen], HL2, by omega, .inl n3, by omega, CX, D7, D8, D9, nA2⟩
      case measure => simp only [hlen]; omega
    · obtain ⟨j1, j2⟩ := CL.out p l' HC.out
      obtain ⟨X, hX⟩ : ∃ X, loopT T p = X := ⟨_, rfl⟩
      have EX := Lib.hid hX
      rw [hX] at HR f0 f3 f4 f5 f6 f7 f9 f12
      have c3 := HR.out.con.c3
      have c5 := HR.out.con.c5
      have c9 := HR.out.con.c9
      rw [f3] at c3
      rw [f5] at c5
      rw [f9, OK.out.shut] at c9
      clear hX
      have ENDS := Lib.hid (fun w' (h1 : CO w0 w' P gq A' c' ll) (h2 : Chg wr w' P.In) (h3 : Pushed T l') => show CO w0 w' P gq A' c' ll ∧ Ap w w' P A A' ∧ Pushed T l' from ⟨h1, HA.out.trans (Ap.of h2), h3⟩)
      by_cases hA : T.nxt < lim
      · have hp : p = lim := by omega
        have E := Lib.hid (show gq = X from by rw [PU.out, if_pos hA, ← hp]; exact EX.out)
        have PP := Lib.hid (show Pushed T l' from by rw [FIN.out]; exact .inr ⟨hA, hp ▸ HC.out⟩)
        have hne : ¬ T.una = p := by omega
        have FF := Lib.hid (fun m => ENDS.out (wr.drewN m) (by rw [E.out]; exact HR.out.drewN m) ((Chg.refl _ _).drewN m) PP.out)
        clear ENDS PU PS FIN HC EX PP HR HA OB
        subst hp
        go_wp2_with fail
        go_quiet (fail)
        go_wp2_with fail
        by_cases h1 : p < T.en
        · have hd := decide_eq_true h1
          go_quiet (fail)
          go_wp2
          go_ret
          exact ⟨A', c', l', ll, rfl, HL, (by first | exact FF.out _ | (rw [World.drewN_drewN]; exact FF.out _))⟩
        · have hd := decide_eq_false h1
          go_quiet (fail)
          go_wp2
          go_ret
          exact ⟨A', c', l', ll, rfl, HL, (by first | exact FF.out _ | (rw [World.drewN_drewN]; exact FF.out _))⟩
      · have hp : p = T.nxt := by omega
        have hl0 : l' = [] := List.length_eq_zero_iff.1 (by omega)
        have PP := Lib.hid (show Pushed T l' from by rw [FIN.out]; exact .inl ⟨by omega, hl0⟩)
        have EX1 := Lib.hid (show X = T from by rw [← EX.out, hp, loop_0])
        subst hp
        by_cases h1 : T.nxt < T.en
        · have hd := decide_eq_true h1
          by_cases h2 : T.una = T.nxt
          · have E := Lib.hid (show gq = wakeR X from by rw [PU.out, if_neg hA, if_pos ⟨by omega, by omega⟩, EX1.out])
            have WK := Lib.hid (fun m => wake_any (HR.out.con.drewN m))
            have FF := Lib.hid (fun m w' (h1 : CA w' P (wakeR X)) (h2 : Chg (wr.drewN m) w' P.In) => ENDS.out w' (by rw [E.out]; exact (HR.out.drewN m).step h1 h2) h2.of_drewN PP.out)
            rw [h2] at c3
            clear ENDS PU PS FIN HC EX PP HR HA OB EX1 h2
            go_wp2_with fail
            go_quiet (fail)
            go_wp2_with fail
            go_quiet (fail)
            go_wp2_with fail
            refine (WK.out _).mono ?_; rintro e w5 ⟨rfl, k5, g5⟩
            have F2 := Lib.hid (FF.out _ _ k5 g5)
            clear k5 g5 FF WK
            go_wp2
            go_ret
            exact ⟨A', c', l', ll, rfl, HL, F2.out⟩
          · have E := Lib.hid (show gq = X from by rw [PU.out, if_neg hA, if_neg (by omega), EX1.out])
            have FF := Lib.hid (fun m => ENDS.out (wr.drewN m) (by rw [E.out]; exact HR.out.drewN m) ((Chg.refl _ _).drewN m) PP.out)
            clear ENDS PU PS FIN HC EX PP HR HA OB EX1
            go_wp2_with fail
            go_quiet (fail)
            go_wp2_with fail
            go_quiet (fail)
            go_wp2
            go_ret
            exact ⟨A', c', l', ll, rfl, HL, (by first | exact FF.out _ | (rw [World.drewN_drewN]; exact FF.out _))⟩
        · have hd := decide_eq_false h1
          have E := Lib.hid (show gq = X from by rw [PU.out, if_neg hA, if_neg (by omega), EX1.out])
          have FF := Lib.hid (fun m => ENDS.out (wr.drewN m) (by rw [E.out]; exact HR.out.drewN m) ((Chg.refl _ _).drewN m) PP.out)
          clear ENDS PU PS FIN HC EX PP HR HA OB EX1
          go_wp2_with fail
          go_quiet (fail)
          go_wp2_with fail
          go_quiet (fail)
          go_wp2
          go_ret
          exact ⟨A', c', l', ll, rfl, HL, (by first | exact FF.out _ | (rw [World.drewN_drewN]; exact FF.out _))⟩
end Go.Proofs.Ytldmcoagjgeeoaa.Tc
