/- Package tcb: again, of an open connection. Conditions: those that each states. -/
import Derived.Test.YtldmcoagjgeeoaaTcP
import Derived.Deep.DeepCutAuto
namespace Go.Proofs.Ytldmcoagjgeeoaa.Tc
open Go.ChangeShapes Go.WideShapes Go.ChangeAt Go.RowKit Go.Deep Rk Rv Gx
set_option linter.unusedVariables false
set_option linter.unusedSimpArgs false

def untR (T : TC) : TC := { T with timed := -1 }
def againT (T : TC) : TC := if T.una < T.nxt then sentR (untR T) else if T.nxt < T.en then advR (sentR (untR T)) 1 else untR T

set_option maxRecDepth 100000 in
theorem finSent_any {w : World} {P : Pl} {T : TC} (h : CA w P T) : Calls Try.prog 52 #[.pointer (some ⟨P.g, 0, none⟩)] w fun e w' => e = .returned (.bool (decide (T.nxt > T.en))) ∧ ∃ m, w' = w.drewN m := by
  have c4 := h.c4
  have c5 := h.c5
  clear h
  go_enter Try.func52, Try.ntmps52
  go_wp2_with fail
  go_quiet (fail)
  go_wp2
  go_ret
  exact ⟨rfl, _, rfl⟩

set_option maxRecDepth 100000 in
set_option maxHeartbeats 2000000 in
theorem again_any {w0 w : World} {P : Pl} {T : TC} {A : Option Addr} {c : Nat} {l : List OutV} (h : CO w0 w P T A c l) (ok : Ok T) (hst : T.st = 2) (hl : l.length ≤ 100) :
    Calls Try.prog 33 #[.pointer (some ⟨P.g, 0, none⟩), .slice A l.length c] w fun e w' => ∃ A' c' ll, e = .returned (.slice A' ll.length c') ∧ CO w0 w' P (againT T) A' c' ll ∧ Ap w w' P A A' ∧ ll.length ≤ l.length + 1 := by
  have u0 := ok.una
  have u1 := ok.nxt
  have u2 := ok.en
  have u3 := ok.big
  obtain ⟨u6, u7⟩ := ok.mss
  have c18 := h.con.c18
  have f18 := h.con.fz 18
  obtain ⟨X, hX⟩ : ∃ X, untR T = X := ⟨_, rfl⟩
  obtain ⟨W, hW⟩ : ∃ W, (w.setCell ⟨P.g, 18, none⟩ (.int .i64 (-1))).drew = W := ⟨_, rfl⟩
  have q1 : CA (w.setCell ⟨P.g, 18, none⟩ (.int .i64 (-1))) P (untR T) := h.con.set 18 _ rfl rfl rfl rfl rfl
  have D1 := Lib.hid (show CO w0 W P X A c l from by rw [← hW, ← hX]; exact (h.step q1 (set_in _ _ _ _)).drewN 1)
  have D2 := Lib.hid (show Chg w W P.In from by rw [← hW]; exact (set_in _ _ _ _).drewN 1)
  have HW := Lib.hid hW
  have q4 := q1.c4
  have q5 := q1.c5
  have e0 : X.st = 2 := by rw [← hX]; exact hst
  have e3 : X.una = T.una := by rw [← hX]; rfl
  have e4 : X.nxt = T.nxt := by rw [← hX]; rfl
  have e5 : X.en = T.en := by rw [← hX]; rfl
  have e7 : X.mss = T.mss := by rw [← hX]; rfl
  have e12 : X.done = false := by rw [← hX]; exact ok.done
  have GO := Lib.hid (show againT T = if T.una < T.nxt then sentR X else if T.nxt < T.en then advR (sentR X) 1 else X from by rw [← hX]; rfl)
  obtain ⟨gq, hgq⟩ : ∃ gq, againT T = gq := ⟨_, rfl⟩
  rw [hgq] at GO ⊢
  clear h hX hW q1 hgq
  go_enter Try.func33, Try.ntmps33
  go_upto_region 2 with fail
  have y1 : (if T.en < T.nxt then T.en else T.nxt) = T.nxt := by split <;> omega
  have c4 := show World.cell? (w.setCell ⟨P.g, 18, none⟩ (.int .i64 (-1))) ⟨P.g, 4, none⟩ = some (.int .i64 T.nxt) from q4
  have c5 := show World.cell? (w.setCell ⟨P.g, 18, none⟩ (.int .i64 (-1))) ⟨P.g, 5, none⟩ = some (.int .i64 T.en) from q5
  refine wp_region_held_drew (S := fun w' => w'.cell? ⟨P.g, 4, none⟩ = some (.int .i64 T.nxt) ∧ w'.cell? ⟨P.g, 5, none⟩ = some (.int .i64 T.en)) (by kernel_rfl) (⟨c4, c5⟩) (fun hH => ?_)
  refine held_take (i := 0) (d := (some 9)) (v := ?_) rfl rfl (by kernel_rfl) (by kernel_rfl) (by kernel_rfl) (fun _ _ _ h => h) (by rfl) ?_ hH ?_
  rotate_left
  · intro w' hSw; (try dsimp only at hSw); go_simp <;> with_reducible rfl
  simp only [Act.put, List.setIfInBounds_toArray, List.set_cons_zero, List.set_cons_succ]
  refine held_take (i := 1) (d := (some 10)) (v := ?_) rfl rfl (by kernel_rfl) (by kernel_rfl) (by kernel_rfl) (fun _ _ _ h => h) (by rfl) ?_ hH ?_
  rotate_left
  · intro w' hSw; (try dsimp only at hSw); go_simp <;> with_reducible rfl
  simp only [Act.put, List.setIfInBounds_toArray, List.set_cons_zero, List.set_cons_succ]
  refine held_take (i := 2) (d := (some 11)) (v := ?_) rfl rfl (by kernel_rfl) (by kernel_rfl) (by kernel_rfl) (fun _ _ _ h => h) (by rfl) ?_ hH ?_
  rotate_left
  · intro w' hSw; (try dsimp only at hSw); go_simp <;> with_reducible rfl
  simp only [Act.put, List.setIfInBounds_toArray, List.set_cons_zero, List.set_cons_succ]
  refine held_take (i := 3) (d := (some 12)) (v := ?_) rfl rfl (by kernel_rfl) (by kernel_rfl) (by kernel_rfl) (fun _ _ _ h => h) (by rfl) ?_ hH ?_
  rotate_left
  · intro w' hSw; have z1 := hSw.1; have z2 := hSw.2; clear hSw; go_simp <;> with_reducible rfl
  simp only [Act.put, List.setIfInBounds_toArray, List.set_cons_zero, List.set_cons_succ]
  refine held_take (i := 4) (d := (some 13)) (v := ?_) rfl rfl (by kernel_rfl) (by kernel_rfl) (by kernel_rfl) (fun _ _ _ h => h) (by rfl) ?_ hH ?_
  rotate_left
  · intro w' hSw; (try dsimp only at hSw); go_simp <;> with_reducible rfl
  simp only [Act.put, List.setIfInBounds_toArray, List.set_cons_zero, List.set_cons_succ]
  refine held_take (i := 5) (d := (some 14)) (v := ?_) rfl rfl (by kernel_rfl) (by kernel_rfl) (by kernel_rfl) (fun _ _ _ h => h) (by rfl) ?_ hH ?_
  rotate_left
  · intro w' hSw; (try dsimp only at hSw); go_simp <;> with_reducible rfl
  simp only [Act.put, List.setIfInBounds_toArray, List.set_cons_zero, List.set_cons_succ]
  refine held_take (i := 6) (d := (some 15)) (v := ?_) rfl rfl (by kernel_rfl) (by kernel_rfl) (by kernel_rfl) (fun _ _ _ h => h) (by rfl) ?_ hH ?_
  rotate_left
  · intro w' hSw; (try dsimp only at hSw); go_simp <;> with_reducible rfl
  simp only [Act.put, List.setIfInBounds_toArray, List.set_cons_zero, List.set_cons_succ]
  refine held_take (i := 7) (d := (some 16)) (v := ?_) rfl rfl (by kernel_rfl) (by kernel_rfl) (by kernel_rfl) (fun _ _ _ h => h) (by rfl) ?_ hH ?_
  rotate_left
  · intro w' hSw; have z1 := hSw.1; have z2 := hSw.2; clear hSw; go_simp <;> with_reducible rfl
  simp only [Act.put, List.setIfInBounds_toArray, List.set_cons_zero, List.set_cons_succ]
  refine held_take (i := 8) (d := (some 17)) (v := ?_) rfl rfl (by kernel_rfl) (by kernel_rfl) (by kernel_rfl) (fun _ _ _ h => h) (by rfl) ?_ hH ?_
  rotate_left
  · intro w' hSw; (try dsimp only at hSw); go_simp <;> with_reducible rfl
  simp only [Act.put, List.setIfInBounds_toArray, List.set_cons_zero, List.set_cons_succ]
  refine held_take (i := 9) (d := (some 5)) (v := ?_) rfl rfl (by kernel_rfl) (by kernel_rfl) (by kernel_rfl) (fun _ _ _ h => h) (by rfl) ?_ hH ?_
  rotate_left
  · intro w' hSw; (try dsimp only at hSw); go_simp <;> with_reducible rfl
  simp only [Act.put, List.setIfInBounds_toArray, List.set_cons_zero, List.set_cons_succ]
  refine wpAnyH_done (by kernel_rfl) ?_ _
  rw [HW.out]
  clear hH HW q4 q5 c4 c5 c18 f18 y1
  have c0 := D1.out.con.c0
  rw [e0] at c0
  have c3 := D1.out.con.c3
  rw [e3] at c3
  have LN := Lib.hid hl
  have PL := Lib.hid (fun V (k : Below W.heap.size W V) => show Calls Try.prog 36 #[.pointer (some ⟨P.g, 0, none⟩)] V _ from plain_any (D1.out.con.new k) e12)
  have C3 := Lib.hid (fun V (k : Below W.heap.size W V) => show V.cell? ⟨P.g, 3, none⟩ = some (.int .i64 T.una) from by rw [← e3]; exact (D1.out.con.new k).c3)
  have C4 := Lib.hid (fun V (k : Below W.heap.size W V) => show V.cell? ⟨P.g, 4, none⟩ = some (.int .i64 T.nxt) from by rw [← e4]; exact (D1.out.con.new k).c4)
  have C7 := Lib.hid (fun V (k : Below W.heap.size W V) => show V.cell? ⟨P.g, 7, none⟩ = some (.int .i64 T.mss) from by rw [← e7]; exact (D1.out.con.new k).c7)
  by_cases h1 : T.una < T.nxt
  · have E := Lib.hid (show gq = sentR X from by rw [GO.out, if_pos h1])
    obtain ⟨n, hn⟩ : ∃ n, n = min T.mss (T.nxt - T.una) := ⟨_, rfl⟩
    have n1 : 0 ≤ n ∧ n ≤ 900 := by omega
    have x1 := IntWalk.i64_in (T.nxt - T.una) (by omega)
    have y2 : (if T.nxt - T.una < T.mss then T.nxt - T.una else T.mss) = n := by split <;> omega
    have WT := Lib.hid (fun V (k : Below W.heap.size W V) => show Calls Try.prog 49 #[.pointer (some ⟨P.g, 0, none⟩), .agg (outA (plainR X)), .int .i64 T.una, .int .i64 n] V _ from with_any (D1.out.con.new k) (plainR X) rfl T.una n (by omega) (by omega))
    obtain ⟨v, hv⟩ : ∃ v, withR X (plainR X) T.una n = v := ⟨_, rfl⟩
    rw [hv] at WT
    generalize plainR X = pl at *
    clear hn GO hv
    go_wp2_with fail
    have w1eq : True := trivial
    have hH := Lib.hid ((Below.refl W.heap.size W).drew)
    refine wp_head_held (S := fun w' => Hid (Below W.heap.size W w')) 21 (by kernel_rfl) rfl rfl (by kernel_rfl) ?_
    simp only [List.take_succ_cons, List.take_zero, List.drop_succ_cons, List.drop_zero]
    refine held_take (i := 0) (d := (some 34)) (v := ?_) rfl rfl (by kernel_rfl) (by kernel_rfl) (by kernel_rfl) (fun _ _ _ h => h) (by rfl) ?_ hH ?_
    rotate_left
    · intro w' hSw; (try dsimp only at hSw); go_simp <;> with_reducible rfl
    simp only [Act.put, List.setIfInBounds_toArray, List.set_cons_zero, List.set_cons_succ]
    refine held_take (i := 1) (d := (some 35)) (v := ?_) rfl rfl (by kernel_rfl) (by kernel_rfl) (by kernel_rfl) (fun _ _ _ h => h) (by rfl) ?_ hH ?_
    rotate_left
    · intro w' hSw; (try dsimp only at hSw); go_simp <;> with_reducible rfl
    simp only [Act.put, List.setIfInBounds_toArray, List.set_cons_zero, List.set_cons_succ]
    refine held_take (i := 2) (d := (some 36)) (v := ?_) rfl rfl (by kernel_rfl) (by kernel_rfl) (by kernel_rfl) (fun _ _ _ h => h) (by rfl) ?_ hH ?_
    rotate_left
    · intro w' hSw; (try dsimp only at hSw); go_simp <;> with_reducible rfl
    simp only [Act.put, List.setIfInBounds_toArray, List.set_cons_zero, List.set_cons_succ]
    refine held_take (i := 3) (d := (some 37)) (v := ?_) rfl rfl (by kernel_rfl) (by kernel_rfl) (by kernel_rfl) (fun _ _ _ h => h) (by rfl) ?_ hH ?_
    rotate_left
    · intro w' hSw; (try dsimp only at hSw); go_simp <;> with_reducible rfl
    simp only [Act.put, List.setIfInBounds_toArray, List.set_cons_zero, List.set_cons_succ]
    refine held_take (i := 5) (d := (some 39)) (v := ?_) rfl rfl (by kernel_rfl) (by kernel_rfl) (by kernel_rfl) (fun _ _ _ h => h) (by rfl) ?_ hH ?_
    rotate_left
    · intro w' hSw; (try dsimp only at hSw); go_simp <;> with_reducible rfl
    simp only [Act.put, List.setIfInBounds_toArray, List.set_cons_zero, List.set_cons_succ]
    refine held_take (i := 6) (d := (some 40)) (v := ?_) rfl rfl (by kernel_rfl) (by kernel_rfl) (by kernel_rfl) (fun _ _ _ h => h) (by rfl) ?_ hH ?_
    rotate_left
    · intro w' hSw; (try dsimp only at hSw); go_simp <;> with_reducible rfl
    simp only [Act.put, List.setIfInBounds_toArray, List.set_cons_zero, List.set_cons_succ]
    refine held_take (i := 7) (d := (some 41)) (v := ?_) rfl rfl (by kernel_rfl) (by kernel_rfl) (by kernel_rfl) (fun _ _ _ h => h) (by rfl) ?_ hH ?_
    rotate_left
    · intro w' hSw; (try dsimp only at hSw); go_simp <;> with_reducible rfl
    simp only [Act.put, List.setIfInBounds_toArray, List.set_cons_zero, List.set_cons_succ]
    refine held_take (i := 8) (d := (some 42)) (v := ?_) rfl rfl (by kernel_rfl) (by kernel_rfl) (by kernel_rfl) (fun _ _ _ h => h) (by rfl) ?_ hH ?_
    rotate_left
    · intro w' hSw; have z1 := C3.out w' hSw.out; clear hSw; go_simp <;> with_reducible rfl
    simp only [Act.put, List.setIfInBounds_toArray, List.set_cons_zero, List.set_cons_succ]
    refine held_take (i := 9) (d := (some 43)) (v := ?_) rfl rfl (by kernel_rfl) (by kernel_rfl) (by kernel_rfl) (fun _ _ _ h => h) (by rfl) ?_ hH ?_
    rotate_left
    · intro w' hSw; (try dsimp only at hSw); go_simp <;> with_reducible rfl
    simp only [Act.put, List.setIfInBounds_toArray, List.set_cons_zero, List.set_cons_succ]
    refine held_take (i := 10) (d := (some 44)) (v := ?_) rfl rfl (by kernel_rfl) (by kernel_rfl) (by kernel_rfl) (fun _ _ _ h => h) (by rfl) ?_ hH ?_
    rotate_left
    · intro w' hSw; (try dsimp only at hSw); go_simp <;> with_reducible rfl
    simp only [Act.put, List.setIfInBounds_toArray, List.set_cons_zero, List.set_cons_succ]
    refine held_take (i := 11) (d := (some 45)) (v := ?_) rfl rfl (by kernel_rfl) (by kernel_rfl) (by kernel_rfl) (fun _ _ _ h => h) (by rfl) ?_ hH ?_
    rotate_left
    · intro w' hSw; (try dsimp only at hSw); go_simp <;> with_reducible rfl
    simp only [Act.put, List.setIfInBounds_toArray, List.set_cons_zero, List.set_cons_succ]
    refine held_take (i := 12) (d := (some 46)) (v := ?_) rfl rfl (by kernel_rfl) (by kernel_rfl) (by kernel_rfl) (fun _ _ _ h => h) (by rfl) ?_ hH ?_
    rotate_left
    · intro w' hSw; have z1 := C7.out w' hSw.out; clear hSw; go_simp <;> with_reducible rfl
    simp only [Act.put, List.setIfInBounds_toArray, List.set_cons_zero, List.set_cons_succ]
    refine held_take (i := 13) (d := (some 47)) (v := ?_) rfl rfl (by kernel_rfl) (by kernel_rfl) (by kernel_rfl) (fun _ _ _ h => h) (by rfl) ?_ hH ?_
    rotate_left
    · intro w' hSw; (try dsimp only at hSw); go_simp <;> with_reducible rfl
    simp only [Act.put, List.setIfInBounds_toArray, List.set_cons_zero, List.set_cons_succ]
    refine held_take (i := 14) (d := (some 48)) (v := ?_) rfl rfl (by kernel_rfl) (by kernel_rfl) (by kernel_rfl) (fun _ _ _ h => h) (by rfl) ?_ hH ?_
    rotate_left
    · intro w' hSw; (try dsimp only at hSw); go_simp <;> with_reducible rfl
    simp only [Act.put, List.setIfInBounds_toArray, List.set_cons_zero, List.set_cons_succ]
    refine held_take (i := 15) (d := (some 49)) (v := ?_) rfl rfl (by kernel_rfl) (by kernel_rfl) (by kernel_rfl) (fun _ _ _ h => h) (by rfl) ?_ hH ?_
    rotate_left
    · intro w' hSw; (try dsimp only at hSw); go_simp <;> with_reducible rfl
    simp only [Act.put, List.setIfInBounds_toArray, List.set_cons_zero, List.set_cons_succ]
    refine held_take (i := 16) (d := (some 50)) (v := ?_) rfl rfl (by kernel_rfl) (by kernel_rfl) (by kernel_rfl) (fun _ _ _ h => h) (by rfl) ?_ hH ?_
    rotate_left
    · intro w' hSw; (try dsimp only at hSw); go_simp <;> with_reducible rfl
    simp only [Act.put, List.setIfInBounds_toArray, List.set_cons_zero, List.set_cons_succ]
    refine held_take (i := 17) (d := (some 51)) (v := ?_) rfl rfl (by kernel_rfl) (by kernel_rfl) (by kernel_rfl) (fun _ _ _ h => h) (by rfl) ?_ hH ?_
    rotate_left
    · intro w' hSw; have z1 := C3.out w' hSw.out; clear hSw; go_simp <;> with_reducible rfl
    simp only [Act.put, List.setIfInBounds_toArray, List.set_cons_zero, List.set_cons_succ]
    refine held_take (i := 18) (d := (some 52)) (v := ?_) rfl rfl (by kernel_rfl) (by kernel_rfl) (by kernel_rfl) (fun _ _ _ h => h) (by rfl) ?_ hH ?_
    rotate_left
    · intro w' hSw; (try dsimp only at hSw); go_simp <;> with_reducible rfl
    simp only [Act.put, List.setIfInBounds_toArray, List.set_cons_zero, List.set_cons_succ]
    refine held_take (i := 19) (d := (some 53)) (v := ?_) rfl rfl (by kernel_rfl) (by kernel_rfl) (by kernel_rfl) (fun _ _ _ h => h) (by rfl) ?_ hH ?_
    rotate_left
    · intro w' hSw; (try dsimp only at hSw); go_simp <;> with_reducible rfl
    simp only [Act.put, List.setIfInBounds_toArray, List.set_cons_zero, List.set_cons_succ]
    refine held_one (i := 4) (by kernel_rfl) rfl (by rfl) ?_
    go_simp
    refine ((PL.out _ hH.out).mono ?_); rintro e wq ⟨rfl, hb⟩
    have hH : Hid (Below W.heap.size W wq) := Lib.hid (hH.out.trans (hb.mono hH.out.size))
    clear hb
    refine ⟨hH, ?_⟩
    (try simp only [Act.put, List.setIfInBounds_toArray, List.set_cons_zero, List.set_cons_succ])
    refine held_one (i := 20) (by kernel_rfl) rfl (by rfl) ?_
    go_simp
    refine ((WT.out _ hH.out).mono ?_); rintro e wq ⟨rfl, hb⟩
    have hH : Hid (Below W.heap.size W wq) := Lib.hid (hH.out.trans (hb.mono hH.out.size))
    clear hb
    refine ⟨hH, ?_⟩
    (try simp only [Act.put, List.setIfInBounds_toArray, List.set_cons_zero, List.set_cons_succ])
    refine wpAnyH_done (by kernel_rfl) ?_ _
    show wpList _ _ _ _ _ _
    have SD := Lib.hid (show Calls Try.prog 37 _ _ _ from send_any (D1.out.new hH.out) v (by omega))
    obtain ⟨l2, hl2⟩ : ∃ l2, l ++ [v] = l2 := ⟨_, rfl⟩
    have L2 := Lib.hid (show l2.length ≤ l.length + 1 from by rw [← hl2]; simp)
    have K2 := Lib.hid (Ap.of (A := A) (D2.out.trans (Chg.of_new hH.out _)))
    rw [hl2] at SD
    clear hl2 PL WT C3 C4 C7 D1 D2
    go_wp2_with fail
    refine SD.out.mono ?_; rintro e w2 ⟨A2, c2, rfl, co2, ap2⟩
    have FF := Lib.hid (show CO w0 w2 P gq A2 c2 l2 ∧ Ap w w2 P A A2 ∧ l2.length ≤ l.length + 1 from ⟨by rw [E.out]; exact co2, K2.out.trans ap2, L2.out⟩)
    clear co2 ap2 SD K2 L2
    go_wp2
    go_ret
    exact ⟨A2, c2, l2, rfl, FF.out⟩
  · have h1' : T.una = T.nxt := by omega
    have FS := Lib.hid (fun m => finSent_any (D1.out.con.drewN m))
    rw [e4, e5, show decide (T.nxt > T.en) = false from decide_eq_false (by omega)] at FS
    have c4 := C4.out W (Below.refl _ _)
    have c5 := D1.out.con.c5
    rw [e5] at c5
    by_cases h2 : T.nxt < T.en
    · have E := Lib.hid (show gq = advR (sentR X) 1 from by rw [GO.out, if_neg h1, if_pos h2])
      clear GO
      go_wp2_with fail
      go_quiet ((go_at_call 52; exact Calls.quiet_of (FS.out _)))
      have R1 := Lib.hid (D1.out.drewN nq)
      have R2 := Lib.hid (D2.out.drewN nq)
      clear c3 c4 c5 c0
      generalize W.drewN nq = W1 at *
      have c4 := R1.out.con.c4
      have c5 := R1.out.con.c5
      rw [e4] at c4
      rw [e5] at c5
      go_wp2_with fail
      have hd := decide_eq_true h2
      go_quiet (fail)
      have R3 := Lib.hid (R1.out.drewN nq)
      have R4 := Lib.hid (R2.out.drewN nq)
      clear c4 c5 PL C3 C4 C7 R1 R2 FS D1 D2
      generalize W1.drewN nq = w1 at *
      have PL := Lib.hid (fun V (k : Below w1.heap.size w1 V) => show Calls Try.prog 36 #[.pointer (some ⟨P.g, 0, none⟩)] V _ from plain_any (R3.out.con.new k) e12)
      have C4 := Lib.hid (fun V (k : Below w1.heap.size w1 V) => show V.cell? ⟨P.g, 4, none⟩ = some (.int .i64 T.nxt) from by rw [← e4]; exact (R3.out.con.new k).c4)
      have WT := Lib.hid (fun V (k : Below w1.heap.size w1 V) => show Calls Try.prog 49 #[.pointer (some ⟨P.g, 0, none⟩), .agg (outA (plainR X)), .int .i64 T.nxt, .int .i64 1] V _ from with_any (R3.out.con.new k) (plainR X) rfl T.nxt 1 (by omega) (by omega))
      obtain ⟨v, hv⟩ : ∃ v, withR X (plainR X) T.nxt 1 = v := ⟨_, rfl⟩
      rw [hv] at WT
      generalize plainR X = pl at *
      clear hv hd
      go_wp2_with fail
      have hH := Lib.hid ((Below.refl w1.heap.size w1).drew)
      refine wp_head_held (S := fun w' => Hid (Below w1.heap.size w1 w')) 10 (by kernel_rfl) rfl rfl (by kernel_rfl) ?_
      simp only [List.take_succ_cons, List.take_zero, List.drop_succ_cons, List.drop_zero]
      refine held_take (i := 0) (d := (some 83)) (v := ?_) rfl rfl (by kernel_rfl) (by kernel_rfl) (by kernel_rfl) (fun _ _ _ h => h) (by rfl) ?_ hH ?_
      rotate_left
      · intro w' hSw; (try dsimp only at hSw); go_simp <;> with_reducible rfl
      simp only [Act.put, List.setIfInBounds_toArray, List.set_cons_zero, List.set_cons_succ]
      refine held_take (i := 1) (d := (some 84)) (v := ?_) rfl rfl (by kernel_rfl) (by kernel_rfl) (by kernel_rfl) (fun _ _ _ h => h) (by rfl) ?_ hH ?_
      rotate_left
      · intro w' hSw; (try dsimp only at hSw); go_simp <;> with_reducible rfl
      simp only [Act.put, List.setIfInBounds_toArray, List.set_cons_zero, List.set_cons_succ]
      refine held_take (i := 2) (d := (some 85)) (v := ?_) rfl rfl (by kernel_rfl) (by kernel_rfl) (by kernel_rfl) (fun _ _ _ h => h) (by rfl) ?_ hH ?_
      rotate_left
      · intro w' hSw; (try dsimp only at hSw); go_simp <;> with_reducible rfl
      simp only [Act.put, List.setIfInBounds_toArray, List.set_cons_zero, List.set_cons_succ]
      refine held_take (i := 3) (d := (some 86)) (v := ?_) rfl rfl (by kernel_rfl) (by kernel_rfl) (by kernel_rfl) (fun _ _ _ h => h) (by rfl) ?_ hH ?_
      rotate_left
      · intro w' hSw; (try dsimp only at hSw); go_simp <;> with_reducible rfl
      simp only [Act.put, List.setIfInBounds_toArray, List.set_cons_zero, List.set_cons_succ]
      refine held_take (i := 5) (d := (some 88)) (v := ?_) rfl rfl (by kernel_rfl) (by kernel_rfl) (by kernel_rfl) (fun _ _ _ h => h) (by rfl) ?_ hH ?_
      rotate_left
      · intro w' hSw; (try dsimp only at hSw); go_simp <;> with_reducible rfl
      simp only [Act.put, List.setIfInBounds_toArray, List.set_cons_zero, List.set_cons_succ]
      refine held_take (i := 6) (d := (some 89)) (v := ?_) rfl rfl (by kernel_rfl) (by kernel_rfl) (by kernel_rfl) (fun _ _ _ h => h) (by rfl) ?_ hH ?_
      rotate_left
      · intro w' hSw; (try dsimp only at hSw); go_simp <;> with_reducible rfl
      simp only [Act.put, List.setIfInBounds_toArray, List.set_cons_zero, List.set_cons_succ]
      refine held_take (i := 7) (d := (some 90)) (v := ?_) rfl rfl (by kernel_rfl) (by kernel_rfl) (by kernel_rfl) (fun _ _ _ h => h) (by rfl) ?_ hH ?_
      rotate_left
      · intro w' hSw; (try dsimp only at hSw); go_simp <;> with_reducible rfl
      simp only [Act.put, List.setIfInBounds_toArray, List.set_cons_zero, List.set_cons_succ]
      refine held_take (i := 8) (d := (some 91)) (v := ?_) rfl rfl (by kernel_rfl) (by kernel_rfl) (by kernel_rfl) (fun _ _ _ h => h) (by rfl) ?_ hH ?_
      rotate_left
      · intro w' hSw; have z1 := C4.out w' hSw.out; clear hSw; go_simp <;> with_reducible rfl
      simp only [Act.put, List.setIfInBounds_toArray, List.set_cons_zero, List.set_cons_succ]
      refine held_one (i := 4) (by kernel_rfl) rfl (by rfl) ?_
      go_simp
      refine ((PL.out _ hH.out).mono ?_); rintro e wq ⟨rfl, hb⟩
      have hH : Hid (Below w1.heap.size w1 wq) := Lib.hid (hH.out.trans (hb.mono hH.out.size))
      clear hb
      refine ⟨hH, ?_⟩
      (try simp only [Act.put, List.setIfInBounds_toArray, List.set_cons_zero, List.set_cons_succ])
      refine held_one (i := 9) (by kernel_rfl) rfl (by rfl) ?_
      go_simp
      refine ((WT.out _ hH.out).mono ?_); rintro e wq ⟨rfl, hb⟩
      have hH : Hid (Below w1.heap.size w1 wq) := Lib.hid (hH.out.trans (hb.mono hH.out.size))
      clear hb
      refine ⟨hH, ?_⟩
      (try simp only [Act.put, List.setIfInBounds_toArray, List.set_cons_zero, List.set_cons_succ])
      refine wpAnyH_done (by kernel_rfl) ?_ _
      show wpList _ _ _ _ _ _
      have SD := Lib.hid (show Calls Try.prog 37 _ _ _ from send_any (R3.out.new hH.out) v (by omega))
      obtain ⟨l2, hl2⟩ : ∃ l2, l ++ [v] = l2 := ⟨_, rfl⟩
      have L2 := Lib.hid (show l2.length ≤ l.length + 1 from by rw [← hl2]; simp)
      have K2 := Lib.hid (Ap.of (A := A) (R4.out.trans (Chg.of_new hH.out _)))
      rw [hl2] at SD
      clear hl2 PL WT C4 R3 R4
      go_wp2_with fail
      refine SD.out.mono ?_; rintro e w2 ⟨A2, c2, rfl, co2, ap2⟩
      have c4 := co2.con.c4
      have f4 := co2.con.fz 4
      have e4' : (sentR X).nxt = T.nxt := e4
      rw [e4'] at c4
      have x9 := IntWalk.i64_in (T.nxt + 1) (by omega)
      have q9 : CA (w2.setCell ⟨P.g, 4, none⟩ (.int .i64 (T.nxt + 1))) P (advR (sentR X) 1) := co2.con.set 4 _ (by rw [← e4]; rfl) rfl rfl rfl rfl
      have FF := Lib.hid (show CO w0 (w2.setCell ⟨P.g, 4, none⟩ (.int .i64 (T.nxt + 1))) P gq A2 c2 l2 ∧ Ap w (w2.setCell ⟨P.g, 4, none⟩ (.int .i64 (T.nxt + 1))) P A A2 ∧ l2.length ≤ l.length + 1 from ⟨by rw [E.out]; exact co2.step q9 (set_in _ _ _ _), (K2.out.trans ap2).trans (Ap.of (set_in _ _ _ _)), L2.out⟩)
      clear co2 ap2 SD K2 L2 q9
      go_wp2
      go_ret
      exact ⟨A2, c2, l2, rfl, FF.out⟩
    · have E := Lib.hid (show gq = X from by rw [GO.out, if_neg h1, if_neg h2])
      clear GO
      go_wp2_with fail
      go_quiet ((go_at_call 52; exact Calls.quiet_of (FS.out _)))
      have R1 := Lib.hid (D1.out.drewN nq)
      have R2 := Lib.hid (D2.out.drewN nq)
      clear c3 c4 c5 c0
      generalize W.drewN nq = W1 at *
      have c4 := R1.out.con.c4
      have c5 := R1.out.con.c5
      rw [e4] at c4
      rw [e5] at c5
      go_wp2_with fail
      have hd := decide_eq_false (show ¬ T.nxt < T.en by omega)
      go_quiet (fail)
      have FF := Lib.hid (show CO w0 (W1.drewN nq) P gq A c l ∧ Ap w (W1.drewN nq) P A A ∧ l.length ≤ l.length + 1 from ⟨by rw [E.out]; exact R1.out.drewN nq, Ap.of (R2.out.drewN nq), by omega⟩)
      clear c4 c5 PL C3 C4 C7 R1 R2 FS D1 D2
      generalize W1.drewN nq = w1 at *
      go_wp2
      go_ret
      exact ⟨A, c, l, rfl, FF.out⟩
end Go.Proofs.Ytldmcoagjgeeoaa.Tc
