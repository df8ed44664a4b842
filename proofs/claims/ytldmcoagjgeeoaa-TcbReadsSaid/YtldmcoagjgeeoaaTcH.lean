/- Package tcb: heed, of segments that acknowledge nothing anew. Conditions: those that each states. -/
import Derived.Test.YtldmcoagjgeeoaaTcA
import Derived.Test.YtldmcoagjgeeoaaTcK
namespace Go.Proofs.Ytldmcoagjgeeoaa.Tc
open Go.ChangeShapes Go.WideShapes Go.ChangeAt Go.RowKit Go.Deep Rk Rv Gx
set_option linter.unusedVariables false
set_option linter.unusedSimpArgs false

/-- What stays as it was. -/
structure Sa (T T' : TC) : Prop where
  st : T'.st = T.st
  own : T'.own = T.own
  peer : T'.peer = T.peer
  una : T'.una = T.una
  en : T'.en = T.en
  N : T'.N = T.N
  xs : T'.xs = T.xs
  room : T'.room = T.room
theorem Sa.refl (T : TC) : Sa T T := ⟨rfl, rfl, rfl, rfl, rfl, rfl, rfl, rfl⟩
theorem Sa.trans {T T1 T2 : TC} (h : Sa T T1) (k : Sa T1 T2) : Sa T T2 :=
  ⟨k.st.trans h.st, k.own.trans h.own, k.peer.trans h.peer, k.una.trans h.una, k.en.trans h.en, k.N.trans h.N, k.xs.trans h.xs, k.room.trans h.room⟩
def Kp (T T' : TC) : Prop := Ok T' ∧ Sa T T'
theorem sent_ok {T : TC} (h : Ok T) : Kp T (sentR T) := ⟨⟨h.done, h.shut, h.fin, h.una, h.nxt, h.en, h.big, h.win, h.mss, h.tm, h.tr, by show -1 ≤ (-1 : Int) ∧ (-1 : Int) ≤ 2; decide, h.sm⟩, ⟨rfl, rfl, rfl, rfl, rfl, rfl, rfl, rfl⟩⟩
theorem unt_ok {T : TC} (h : Ok T) : Kp T (untR T) := ⟨⟨h.done, h.shut, h.fin, h.una, h.nxt, h.en, h.big, h.win, h.mss, h.tm, h.tr, h.due, h.sm⟩, ⟨rfl, rfl, rfl, rfl, rfl, rfl, rfl, rfl⟩⟩
theorem Kp.trans {T T1 T2 : TC} (h : Kp T T1) (k : Kp T1 T2) : Kp T T2 := ⟨k.1, h.2.trans k.2⟩
theorem Kp.refl {T : TC} (h : Ok T) : Kp T T := ⟨h, Sa.refl T⟩
theorem adv_ok {T : TC} (h : Ok T) {n : Int} (h0 : 0 ≤ n) (h1 : T.nxt + n ≤ T.en) : Kp T (advR T n) := ⟨⟨h.done, h.shut, h.fin, h.una, by have := h.nxt; show T.una ≤ T.nxt + n; omega, h1, h.big, h.win, h.mss, h.tm, h.tr, h.due, h.sm⟩, ⟨rfl, rfl, rfl, rfl, rfl, rfl, rfl, rfl⟩⟩
theorem again_ok {T : TC} (h : Ok T) : Kp T (againT T) := by
  unfold againT
  split
  · exact (unt_ok h).trans (sent_ok (unt_ok h).1)
  · split
    · rename_i h2
      exact ((unt_ok h).trans (sent_ok (unt_ok h).1)).trans (adv_ok (sent_ok (unt_ok h).1).1 (by decide) (by show T.nxt + 1 ≤ T.en; omega))
    · exact unt_ok h
def trR (T : TC) (k : Int) : TC := { T with tr := k }
def duR (T : TC) (k : Int) : TC := { T with du := k }
def winT (T : TC) (k : Int) : TC := { T with win := k }
theorem tr_ok {T : TC} (h : Ok T) (k : Int) : Kp T (trR T k) := ⟨⟨h.done, h.shut, h.fin, h.una, h.nxt, h.en, h.big, h.win, h.mss, h.tm, trivial, h.due, h.sm⟩, ⟨rfl, rfl, rfl, rfl, rfl, rfl, rfl, rfl⟩⟩
theorem du_ok {T : TC} (h : Ok T) (k : Int) : Kp T (duR T k) := ⟨⟨h.done, h.shut, h.fin, h.una, h.nxt, h.en, h.big, h.win, h.mss, h.tm, h.tr, h.due, h.sm⟩, ⟨rfl, rfl, rfl, rfl, rfl, rfl, rfl, rfl⟩⟩
theorem win_ok {T : TC} (h : Ok T) {k : Int} (hk : 0 ≤ k ∧ k ≤ 65535) : Kp T (winT T k) := ⟨⟨h.done, h.shut, h.fin, h.una, h.nxt, h.en, h.big, hk, h.mss, h.tm, h.tr, h.due, h.sm⟩, ⟨rfl, rfl, rfl, rfl, rfl, rfl, rfl, rfl⟩⟩

set_option maxRecDepth 100000 in
set_option maxHeartbeats 2000000 in
/-- An ack of the place that stands unacknowledged. -/
theorem heed_any {w : World} {P : Pl} {T : TC} (h : CA w P T) (ok : Ok T) (hst : T.st = 2) (q a wi : Int) (hwi : 0 ≤ wi ∧ wi ≤ 65535) (A : Option Addr) (n c : Nat) (hn : n ≤ 1000000) :
    Calls Try.prog 28 #[.pointer (some ⟨P.g, 0, none⟩), .agg (sv q a wi A n c), .int .i64 T.una] w fun e w' => ∃ A' c' ll T', e = .returned (.slice A' ll.length c') ∧ CO w w' P T' A' c' ll ∧ Kp T T' ∧ T'.win = wi ∧ ll.length ≤ 1 ∧ (T.una = T.nxt → ll = [] ∧ T' = winT (trR T 0) wi) := by
  obtain ⟨W, hW⟩ : ∃ W, (w.alloc (.cells (sv q a wi A n c) 35)).setCell ⟨P.g, 15, none⟩ (.int .i64 0) = W := ⟨_, rfl⟩
  obtain ⟨W0, hW0⟩ : ∃ W0, w.alloc (.cells (sv q a wi A n c) 35) = W0 := ⟨_, rfl⟩
  rw [hW0] at hW
  have b0 : Below w.heap.size w W0 := by rw [← hW0]; exact (Below.refl w.heap.size w).alloc (Nat.le_refl _) _
  have kb0 : Blk W0 w.heap.size 35 (sv q a wi A n c) := by rw [← hW0]; exact Blk.new w _ _
  have LT := h.lt
  obtain ⟨gs, hgs⟩ : ∃ gs, w.heap.size = gs := ⟨_, rfl⟩
  have HGS := Lib.hid hgs
  rw [hgs] at kb0 LT
  have nP : ¬ P.In gs := fun e => by have := LT _ e; omega
  have h1 := h.new b0
  have c3 := h1.c3
  have c15 := h1.c15
  have f15 := h1.fz 15
  have q1 : CA W P (trR T 0) := by rw [← hW]; exact h1.set 15 _ rfl rfl rfl rfl rfl
  have k1 : Chg W0 W P.In := by rw [← hW]; exact set_in _ _ _ _
  have KB1 := Lib.hid (kb0.chg k1 nP)
  have D1 := Lib.hid (((CO.start h).new b0).step q1 k1)
  have OK1 := Lib.hid (tr_ok ok 0)
  have TR := Lib.hid (show (trR T 0).una = T.una ∧ (trR T 0).nxt = T.nxt ∧ (trR T 0).en = T.en ∧ (trR T 0).st = 2 ∧ (trR T 0).win = T.win ∧ (trR T 0).du = T.du from ⟨rfl, rfl, rfl, hst, rfl, rfl⟩)
  have HW := Lib.hid hW
  have HW0 := Lib.hid hW0
  have u1 := ok.nxt
  have u2 := ok.en
  have NP := Lib.hid nP
  have irr : ¬ T.una < T.una := by omega
  have xwi := IntWalk.i64_in wi (by omega)
  clear h hW hW0 b0 h1 q1 k1 kb0 LT nP hgs
  have EXA := Lib.hid (show ∀ X, X = trR T 0 → T.una = T.nxt → X = trR T 0 from fun X e _ => e)
  generalize hX : trR T 0 = X at *
  have HX := Lib.hid hX
  clear hX
  obtain ⟨e3, e4, e5, e0, e6, e16⟩ := TR.out
  go_enter Try.func28, Try.ntmps28
  go_upto_region 1 with fail
  rw [HW0.out, HGS.out]
  go_upto_region 5 with fail
  rw [HW.out]
  clear c3 c15 f15 HW HW0
  have c3 := D1.out.con.c3
  rw [e3] at c3
  go_upto_region 7 with fail
  obtain ⟨ni, hni⟩ : ∃ ni : Int, (n : Int) = ni := ⟨_, rfl⟩
  have RM := Lib.hid (fun V => room_16 q a wi A n c hn V)
  rw [hni] at RM
  clear hni
  have C3 := Lib.hid (fun V (k : Below W.heap.size W V) => show V.cell? ⟨P.g, 3, none⟩ = some (.int .i64 T.una) from by rw [← e3]; exact (D1.out.con.new k).c3)
  have C4 := Lib.hid (fun V (k : Below W.heap.size W V) => show V.cell? ⟨P.g, 4, none⟩ = some (.int .i64 T.nxt) from by rw [← e4]; exact (D1.out.con.new k).c4)
  have C6 := Lib.hid (fun V (k : Below W.heap.size W V) => show V.cell? ⟨P.g, 6, none⟩ = some (.int .i64 T.win) from by rw [← e6]; exact (D1.out.con.new k).c6)
  have Z5 := Lib.hid (fun V (k : Below W.heap.size W V) => show V.cell? ⟨gs, 5, none⟩ = some (.int .u16 wi) from ((KB1.out.below k KB1.out.lt).cell 5).trans rfl)
  go_cut [49] (fun s wx => ∃ b, s = .bool b ∧ Hid (Below W.heap.size W wx) ∧ (T.una = T.nxt → b = false))
  · by_cases h1 : T.una < T.nxt
    · have hd := decide_eq_true h1
      by_cases h2 : ni = 0
      · skip
        refine wp_region_held_drew (S := fun w' => Hid (Below W.heap.size W w')) (by kernel_rfl) (Lib.hid ((Below.refl W.heap.size W).drew)) (fun hH => ?_)
        refine held_take (i := 0) (d := (some 26)) (v := ?_) rfl rfl (by kernel_rfl) (by kernel_rfl) (by kernel_rfl) (fun _ _ _ h => h) (by rfl) ?_ hH ?_
        rotate_left
        · intro w' hSw; (try dsimp only at hSw); go_simp <;> with_reducible rfl
        simp only [Act.put, List.setIfInBounds_toArray, List.set_cons_zero, List.set_cons_succ]
        refine held_take (i := 1) (d := (some 27)) (v := ?_) rfl rfl (by kernel_rfl) (by kernel_rfl) (by kernel_rfl) (fun _ _ _ h => h) (by rfl) ?_ hH ?_
        rotate_left
        · intro w' hSw; (try dsimp only at hSw); go_simp <;> with_reducible rfl
        simp only [Act.put, List.setIfInBounds_toArray, List.set_cons_zero, List.set_cons_succ]
        refine held_take (i := 2) (d := (some 28)) (v := ?_) rfl rfl (by kernel_rfl) (by kernel_rfl) (by kernel_rfl) (fun _ _ _ h => h) (by rfl) ?_ hH ?_
        rotate_left
        · intro w' hSw; (try dsimp only at hSw); go_simp <;> with_reducible rfl
        simp only [Act.put, List.setIfInBounds_toArray, List.set_cons_zero, List.set_cons_succ]
        refine held_take (i := 3) (d := (some 29)) (v := ?_) rfl rfl (by kernel_rfl) (by kernel_rfl) (by kernel_rfl) (fun _ _ _ h => h) (by rfl) ?_ hH ?_
        rotate_left
        · intro w' hSw; have z1 := C3.out w' hSw.out; clear hSw; go_simp <;> with_reducible rfl
        simp only [Act.put, List.setIfInBounds_toArray, List.set_cons_zero, List.set_cons_succ]
        refine held_take (i := 4) (d := (some 30)) (v := ?_) rfl rfl (by kernel_rfl) (by kernel_rfl) (by kernel_rfl) (fun _ _ _ h => h) (by rfl) ?_ hH ?_
        rotate_left
        · intro w' hSw; (try dsimp only at hSw); go_simp <;> with_reducible rfl
        simp only [Act.put, List.setIfInBounds_toArray, List.set_cons_zero, List.set_cons_succ]
        refine held_take (i := 5) (d := (some 31)) (v := ?_) rfl rfl (by kernel_rfl) (by kernel_rfl) (by kernel_rfl) (fun _ _ _ h => h) (by rfl) ?_ hH ?_
        rotate_left
        · intro w' hSw; (try dsimp only at hSw); go_simp <;> with_reducible rfl
        simp only [Act.put, List.setIfInBounds_toArray, List.set_cons_zero, List.set_cons_succ]
        refine held_take (i := 6) (d := (some 32)) (v := ?_) rfl rfl (by kernel_rfl) (by kernel_rfl) (by kernel_rfl) (fun _ _ _ h => h) (by rfl) ?_ hH ?_
        rotate_left
        · intro w' hSw; (try dsimp only at hSw); go_simp <;> with_reducible rfl
        simp only [Act.put, List.setIfInBounds_toArray, List.set_cons_zero, List.set_cons_succ]
        refine held_take (i := 7) (d := (some 33)) (v := ?_) rfl rfl (by kernel_rfl) (by kernel_rfl) (by kernel_rfl) (fun _ _ _ h => h) (by rfl) ?_ hH ?_
        rotate_left
        · intro w' hSw; have z1 := C4.out w' hSw.out; clear hSw; go_simp <;> with_reducible rfl
        simp only [Act.put, List.setIfInBounds_toArray, List.set_cons_zero, List.set_cons_succ]
        refine held_take (i := 8) (d := (some 34)) (v := ?_) rfl rfl (by kernel_rfl) (by kernel_rfl) (by kernel_rfl) (fun _ _ _ h => h) (by rfl) ?_ hH ?_
        rotate_left
        · intro w' hSw; (try dsimp only at hSw); go_simp <;> with_reducible rfl
        simp only [Act.put, List.setIfInBounds_toArray, List.set_cons_zero, List.set_cons_succ]
        refine held_take (i := 9) (d := (some 35)) (v := ?_) rfl rfl (by kernel_rfl) (by kernel_rfl) (by kernel_rfl) (fun _ _ _ h => h) (by rfl) ?_ hH ?_
        rotate_left
        · intro w' hSw; (try dsimp only at hSw); go_simp <;> with_reducible rfl
        simp only [Act.put, List.setIfInBounds_toArray, List.set_cons_zero, List.set_cons_succ]
        refine held_take (i := 10) (d := (some 36)) (v := .agg (sv q a wi A n c)) rfl rfl (by kernel_rfl) (by kernel_rfl) (by kernel_rfl) (fun _ _ _ h => h) (by rfl) (fun w' hSw => exec_load (y := .pointer (some ⟨gs, 0, none⟩)) rfl rfl (seg_load (Blk.below KB1.out hSw.out KB1.out.lt) rfl)) hH ?_
        simp only [Act.put, List.setIfInBounds_toArray, List.set_cons_zero, List.set_cons_succ]
        refine held_one (i := 11) (by kernel_rfl) rfl (by rfl) ?_
        go_simp
        refine ((RM.out _).mono ?_); rintro e wq ⟨rfl, hb⟩
        have hH : Hid (Below W.heap.size W wq) := Lib.hid (hH.out.trans (hb.mono hH.out.size))
        clear hb
        refine ⟨hH, ?_⟩
        (try simp only [Act.put, List.setIfInBounds_toArray, List.set_cons_zero, List.set_cons_succ])
        refine held_take (i := 12) (d := (some 38)) (v := .bool true) rfl rfl (by kernel_rfl) (by kernel_rfl) (by kernel_rfl) (fun _ _ _ h => h) (by rfl) (by intro w' hSw; clear hSw; go_simp) hH ?_
        simp only [Act.put, List.setIfInBounds_toArray, List.set_cons_zero, List.set_cons_succ]
        refine held_take (i := 13) (d := (some 39)) (v := ?_) rfl rfl (by kernel_rfl) (by kernel_rfl) (by kernel_rfl) (fun _ _ _ h => h) (by rfl) ?_ hH ?_
        rotate_left
        · intro w' hSw; (try dsimp only at hSw); go_simp <;> with_reducible rfl
        simp only [Act.put, List.setIfInBounds_toArray, List.set_cons_zero, List.set_cons_succ]
        refine held_take (i := 14) (d := (some 40)) (v := ?_) rfl rfl (by kernel_rfl) (by kernel_rfl) (by kernel_rfl) (fun _ _ _ h => h) (by rfl) ?_ hH ?_
        rotate_left
        · intro w' hSw; (try dsimp only at hSw); go_simp <;> with_reducible rfl
        simp only [Act.put, List.setIfInBounds_toArray, List.set_cons_zero, List.set_cons_succ]
        refine held_take (i := 15) (d := (some 41)) (v := ?_) rfl rfl (by kernel_rfl) (by kernel_rfl) (by kernel_rfl) (fun _ _ _ h => h) (by rfl) ?_ hH ?_
        rotate_left
        · intro w' hSw; (try dsimp only at hSw); go_simp <;> with_reducible rfl
        simp only [Act.put, List.setIfInBounds_toArray, List.set_cons_zero, List.set_cons_succ]
        refine held_take (i := 16) (d := (some 42)) (v := ?_) rfl rfl (by kernel_rfl) (by kernel_rfl) (by kernel_rfl) (fun _ _ _ h => h) (by rfl) ?_ hH ?_
        rotate_left
        · intro w' hSw; have z1 := Z5.out w' hSw.out; clear hSw; go_simp <;> with_reducible rfl
        simp only [Act.put, List.setIfInBounds_toArray, List.set_cons_zero, List.set_cons_succ]
        refine held_take (i := 17) (d := (some 43)) (v := ?_) rfl rfl (by kernel_rfl) (by kernel_rfl) (by kernel_rfl) (fun _ _ _ h => h) (by rfl) ?_ hH ?_
        rotate_left
        · intro w' hSw; (try dsimp only at hSw); go_simp <;> with_reducible rfl
        simp only [Act.put, List.setIfInBounds_toArray, List.set_cons_zero, List.set_cons_succ]
        refine held_take (i := 18) (d := (some 44)) (v := ?_) rfl rfl (by kernel_rfl) (by kernel_rfl) (by kernel_rfl) (fun _ _ _ h => h) (by rfl) ?_ hH ?_
        rotate_left
        · intro w' hSw; (try dsimp only at hSw); go_simp <;> with_reducible rfl
        simp only [Act.put, List.setIfInBounds_toArray, List.set_cons_zero, List.set_cons_succ]
        refine held_take (i := 19) (d := (some 45)) (v := ?_) rfl rfl (by kernel_rfl) (by kernel_rfl) (by kernel_rfl) (fun _ _ _ h => h) (by rfl) ?_ hH ?_
        rotate_left
        · intro w' hSw; (try dsimp only at hSw); go_simp <;> with_reducible rfl
        simp only [Act.put, List.setIfInBounds_toArray, List.set_cons_zero, List.set_cons_succ]
        refine held_take (i := 20) (d := (some 46)) (v := ?_) rfl rfl (by kernel_rfl) (by kernel_rfl) (by kernel_rfl) (fun _ _ _ h => h) (by rfl) ?_ hH ?_
        rotate_left
        · intro w' hSw; (try dsimp only at hSw); go_simp <;> with_reducible rfl
        simp only [Act.put, List.setIfInBounds_toArray, List.set_cons_zero, List.set_cons_succ]
        refine held_take (i := 21) (d := (some 47)) (v := ?_) rfl rfl (by kernel_rfl) (by kernel_rfl) (by kernel_rfl) (fun _ _ _ h => h) (by rfl) ?_ hH ?_
        rotate_left
        · intro w' hSw; have z1 := C6.out w' hSw.out; clear hSw; go_simp <;> with_reducible rfl
        simp only [Act.put, List.setIfInBounds_toArray, List.set_cons_zero, List.set_cons_succ]
        refine held_take (i := 22) (d := (some 48)) (v := ?_) rfl rfl (by kernel_rfl) (by kernel_rfl) (by kernel_rfl) (fun _ _ _ h => h) (by rfl) ?_ hH ?_
        rotate_left
        · intro w' hSw; (try dsimp only at hSw); go_simp <;> with_reducible rfl
        simp only [Act.put, List.setIfInBounds_toArray, List.set_cons_zero, List.set_cons_succ]
        refine held_take (i := 23) (d := (some 49)) (v := ?_) rfl rfl (by kernel_rfl) (by kernel_rfl) (by kernel_rfl) (fun _ _ _ h => h) (by rfl) ?_ hH ?_
        rotate_left
        · intro w' hSw; (try dsimp only at hSw); go_simp <;> with_reducible rfl
        simp only [Act.put, List.setIfInBounds_toArray, List.set_cons_zero, List.set_cons_succ]
        refine wpAnyH_done (by kernel_rfl) ?_ _
        go_wp2_with fail
        go_meet
        exact ⟨_, rfl, hH, fun e => absurd h1 (by omega)⟩
      · skip
        refine wp_region_held_drew (S := fun w' => Hid (Below W.heap.size W w')) (by kernel_rfl) (Lib.hid ((Below.refl W.heap.size W).drew)) (fun hH => ?_)
        refine held_take (i := 0) (d := (some 26)) (v := ?_) rfl rfl (by kernel_rfl) (by kernel_rfl) (by kernel_rfl) (fun _ _ _ h => h) (by rfl) ?_ hH ?_
        rotate_left
        · intro w' hSw; (try dsimp only at hSw); go_simp <;> with_reducible rfl
        simp only [Act.put, List.setIfInBounds_toArray, List.set_cons_zero, List.set_cons_succ]
        refine held_take (i := 1) (d := (some 27)) (v := ?_) rfl rfl (by kernel_rfl) (by kernel_rfl) (by kernel_rfl) (fun _ _ _ h => h) (by rfl) ?_ hH ?_
        rotate_left
        · intro w' hSw; (try dsimp only at hSw); go_simp <;> with_reducible rfl
        simp only [Act.put, List.setIfInBounds_toArray, List.set_cons_zero, List.set_cons_succ]
        refine held_take (i := 2) (d := (some 28)) (v := ?_) rfl rfl (by kernel_rfl) (by kernel_rfl) (by kernel_rfl) (fun _ _ _ h => h) (by rfl) ?_ hH ?_
        rotate_left
        · intro w' hSw; (try dsimp only at hSw); go_simp <;> with_reducible rfl
        simp only [Act.put, List.setIfInBounds_toArray, List.set_cons_zero, List.set_cons_succ]
        refine held_take (i := 3) (d := (some 29)) (v := ?_) rfl rfl (by kernel_rfl) (by kernel_rfl) (by kernel_rfl) (fun _ _ _ h => h) (by rfl) ?_ hH ?_
        rotate_left
        · intro w' hSw; have z1 := C3.out w' hSw.out; clear hSw; go_simp <;> with_reducible rfl
        simp only [Act.put, List.setIfInBounds_toArray, List.set_cons_zero, List.set_cons_succ]
        refine held_take (i := 4) (d := (some 30)) (v := ?_) rfl rfl (by kernel_rfl) (by kernel_rfl) (by kernel_rfl) (fun _ _ _ h => h) (by rfl) ?_ hH ?_
        rotate_left
        · intro w' hSw; (try dsimp only at hSw); go_simp <;> with_reducible rfl
        simp only [Act.put, List.setIfInBounds_toArray, List.set_cons_zero, List.set_cons_succ]
        refine held_take (i := 5) (d := (some 31)) (v := ?_) rfl rfl (by kernel_rfl) (by kernel_rfl) (by kernel_rfl) (fun _ _ _ h => h) (by rfl) ?_ hH ?_
        rotate_left
        · intro w' hSw; (try dsimp only at hSw); go_simp <;> with_reducible rfl
        simp only [Act.put, List.setIfInBounds_toArray, List.set_cons_zero, List.set_cons_succ]
        refine held_take (i := 6) (d := (some 32)) (v := ?_) rfl rfl (by kernel_rfl) (by kernel_rfl) (by kernel_rfl) (fun _ _ _ h => h) (by rfl) ?_ hH ?_
        rotate_left
        · intro w' hSw; (try dsimp only at hSw); go_simp <;> with_reducible rfl
        simp only [Act.put, List.setIfInBounds_toArray, List.set_cons_zero, List.set_cons_succ]
        refine held_take (i := 7) (d := (some 33)) (v := ?_) rfl rfl (by kernel_rfl) (by kernel_rfl) (by kernel_rfl) (fun _ _ _ h => h) (by rfl) ?_ hH ?_
        rotate_left
        · intro w' hSw; have z1 := C4.out w' hSw.out; clear hSw; go_simp <;> with_reducible rfl
        simp only [Act.put, List.setIfInBounds_toArray, List.set_cons_zero, List.set_cons_succ]
        refine held_take (i := 8) (d := (some 34)) (v := ?_) rfl rfl (by kernel_rfl) (by kernel_rfl) (by kernel_rfl) (fun _ _ _ h => h) (by rfl) ?_ hH ?_
        rotate_left
        · intro w' hSw; (try dsimp only at hSw); go_simp <;> with_reducible rfl
        simp only [Act.put, List.setIfInBounds_toArray, List.set_cons_zero, List.set_cons_succ]
        refine held_take (i := 9) (d := (some 35)) (v := ?_) rfl rfl (by kernel_rfl) (by kernel_rfl) (by kernel_rfl) (fun _ _ _ h => h) (by rfl) ?_ hH ?_
        rotate_left
        · intro w' hSw; (try dsimp only at hSw); go_simp <;> with_reducible rfl
        simp only [Act.put, List.setIfInBounds_toArray, List.set_cons_zero, List.set_cons_succ]
        refine held_take (i := 10) (d := (some 36)) (v := .agg (sv q a wi A n c)) rfl rfl (by kernel_rfl) (by kernel_rfl) (by kernel_rfl) (fun _ _ _ h => h) (by rfl) (fun w' hSw => exec_load (y := .pointer (some ⟨gs, 0, none⟩)) rfl rfl (seg_load (Blk.below KB1.out hSw.out KB1.out.lt) rfl)) hH ?_
        simp only [Act.put, List.setIfInBounds_toArray, List.set_cons_zero, List.set_cons_succ]
        refine held_one (i := 11) (by kernel_rfl) rfl (by rfl) ?_
        go_simp
        refine ((RM.out _).mono ?_); rintro e wq ⟨rfl, hb⟩
        have hH : Hid (Below W.heap.size W wq) := Lib.hid (hH.out.trans (hb.mono hH.out.size))
        clear hb
        refine ⟨hH, ?_⟩
        (try simp only [Act.put, List.setIfInBounds_toArray, List.set_cons_zero, List.set_cons_succ])
        refine held_take (i := 12) (d := (some 38)) (v := .bool false) rfl rfl (by kernel_rfl) (by kernel_rfl) (by kernel_rfl) (fun _ _ _ h => h) (by rfl) (by intro w' hSw; clear hSw; go_simp) hH ?_
        simp only [Act.put, List.setIfInBounds_toArray, List.set_cons_zero, List.set_cons_succ]
        refine held_take (i := 13) (d := (some 39)) (v := ?_) rfl rfl (by kernel_rfl) (by kernel_rfl) (by kernel_rfl) (fun _ _ _ h => h) (by rfl) ?_ hH ?_
        rotate_left
        · intro w' hSw; (try dsimp only at hSw); go_simp <;> with_reducible rfl
        simp only [Act.put, List.setIfInBounds_toArray, List.set_cons_zero, List.set_cons_succ]
        refine held_take (i := 14) (d := (some 40)) (v := ?_) rfl rfl (by kernel_rfl) (by kernel_rfl) (by kernel_rfl) (fun _ _ _ h => h) (by rfl) ?_ hH ?_
        rotate_left
        · intro w' hSw; (try dsimp only at hSw); go_simp <;> with_reducible rfl
        simp only [Act.put, List.setIfInBounds_toArray, List.set_cons_zero, List.set_cons_succ]
        refine held_skip (i := 15) (d := (some 41)) rfl rfl (by kernel_rfl) (by kernel_rfl) (by kernel_rfl) (fun _ _ _ h => h) (by rfl) hH ?_
        simp only [Act.put, List.setIfInBounds_toArray, List.set_cons_zero, List.set_cons_succ]
        refine held_skip (i := 16) (d := (some 42)) rfl rfl (by kernel_rfl) (by kernel_rfl) (by kernel_rfl) (fun _ _ _ h => h) (by rfl) hH ?_
        simp only [Act.put, List.setIfInBounds_toArray, List.set_cons_zero, List.set_cons_succ]
        refine held_skip (i := 17) (d := (some 43)) rfl rfl (by kernel_rfl) (by kernel_rfl) (by kernel_rfl) (fun _ _ _ h => h) (by rfl) hH ?_
        simp only [Act.put, List.setIfInBounds_toArray, List.set_cons_zero, List.set_cons_succ]
        refine held_skip (i := 18) (d := (some 44)) rfl rfl (by kernel_rfl) (by kernel_rfl) (by kernel_rfl) (fun _ _ _ h => h) (by rfl) hH ?_
        simp only [Act.put, List.setIfInBounds_toArray, List.set_cons_zero, List.set_cons_succ]
        refine held_skip (i := 19) (d := (some 45)) rfl rfl (by kernel_rfl) (by kernel_rfl) (by kernel_rfl) (fun _ _ _ h => h) (by rfl) hH ?_
        simp only [Act.put, List.setIfInBounds_toArray, List.set_cons_zero, List.set_cons_succ]
        refine held_skip (i := 20) (d := (some 46)) rfl rfl (by kernel_rfl) (by kernel_rfl) (by kernel_rfl) (fun _ _ _ h => h) (by rfl) hH ?_
        simp only [Act.put, List.setIfInBounds_toArray, List.set_cons_zero, List.set_cons_succ]
        refine held_skip (i := 21) (d := (some 47)) rfl rfl (by kernel_rfl) (by kernel_rfl) (by kernel_rfl) (fun _ _ _ h => h) (by rfl) hH ?_
        simp only [Act.put, List.setIfInBounds_toArray, List.set_cons_zero, List.set_cons_succ]
        refine held_skip (i := 22) (d := (some 48)) rfl rfl (by kernel_rfl) (by kernel_rfl) (by kernel_rfl) (fun _ _ _ h => h) (by rfl) hH ?_
        simp only [Act.put, List.setIfInBounds_toArray, List.set_cons_zero, List.set_cons_succ]
        refine held_take (i := 23) (d := (some 49)) (v := ?_) rfl rfl (by kernel_rfl) (by kernel_rfl) (by kernel_rfl) (fun _ _ _ h => h) (by rfl) ?_ hH ?_
        rotate_left
        · intro w' hSw; (try dsimp only at hSw); go_simp <;> with_reducible rfl
        simp only [Act.put, List.setIfInBounds_toArray, List.set_cons_zero, List.set_cons_succ]
        refine wpAnyH_done (by kernel_rfl) ?_ _
        go_wp2_with fail
        go_meet
        exact ⟨_, rfl, hH, fun e => absurd h1 (by omega)⟩
    · have hd := decide_eq_false h1
      have c3 := C3.out W (Below.refl _ _)
      have c4 := C4.out W (Below.refl _ _)
      go_quiet (fail)
      have B1 := Lib.hid (below_drewN (Below.refl W.heap.size W) nq)
      go_wp2_with fail
      go_meet
      exact ⟨_, rfl, B1, fun _ => rfl⟩
  obtain ⟨b, rfl, BX, hb0⟩ := hcut
  have D2 := Lib.hid (D1.out.new BX.out)
  have KB2 := Lib.hid (KB1.out.below BX.out KB1.out.lt)
  have OKX := Lib.hid OK1.out
  have nl : (0 : Nat) ≤ 1 := by decide
  clear BX D1 KB1 RM C3 C4 C6 Z5 c3 OK1 irr
  go_upto_if 49 with fail
  go_cut [7] (fun s7 wx => ∃ A' c' ll X', s7 = .slice A' ll.length c' ∧ Hid (CO w wx P X' A' c' ll) ∧ Hid (Kp T X') ∧ ll.length ≤ 1 ∧ Hid (T.una = T.nxt → ll = [] ∧ X' = X) ∧ Hid (Blk wx gs 35 (sv q a wi A n c)))
  · cases b with
    | false =>
      go_wp2_with fail
      go_meet
      exact ⟨none, 0, [], X, rfl, D2, OKX, nl, Lib.hid (fun _ => ⟨rfl, rfl⟩), KB2⟩
    | true =>
      have hne : Hid (T.una = T.nxt → False) := Lib.hid (fun e => absurd (hb0 e) (by decide))
      have c16 := D2.out.con.c16
      have f16 := D2.out.con.fz 16
      obtain ⟨k, hk⟩ : ∃ k, wrap64 (X.du + 1) = k := ⟨_, rfl⟩
      have q1 : CA (wc.setCell ⟨P.g, 16, none⟩ (.int .i64 k)) P (duR X k) := D2.out.con.set 16 _ rfl rfl rfl rfl rfl
      have D3 := Lib.hid (D2.out.step q1 (set_in _ _ _ _))
      have KB3 := Lib.hid (KB2.out.chg (set_in wc P 16 (.int .i64 k)) NP.out)
      have OK3 := Lib.hid (OKX.out.trans (du_ok OKX.out.1 k))
      have st3 : (duR X k).st = 2 := e0
      clear q1 hb0 e16 TR
      go_upto_region 9 with fail
      rw [hk]
      generalize wc.setCell ⟨P.g, 16, none⟩ (.int .i64 k) = w3 at *
      clear c16 f16 D2 KB2 OKX
      have c16 := show w3.cell? ⟨P.g, 16, none⟩ = some (.int .i64 k) from D3.out.con.c16
      have AG := Lib.hid (again_any D3.out OK3.out.1 st3 (by simp))
      have OK4 := Lib.hid (OK3.out.trans (again_ok OK3.out.1))
      generalize againT (duR X k) = Y at *
      generalize duR X k = Y0 at *
      by_cases h3 : k = 3
      · subst h3
        go_wp2_with fail
        refine AG.out.mono ?_; rintro e w4 ⟨A4, c4', l4, rfl, co4, ap4, ln4⟩
        have D4 := Lib.hid co4
        have KB4 := Lib.hid (ap4.blk KB3.out NP.out (fun ⟨x, e, _⟩ => by cases e)).1
        clear AG co4 ap4 D3 KB3
        go_wp2_with fail
        go_meet
        exact ⟨A4, c4', l4, Y, rfl, D4, OK4, by simpa using ln4, Lib.hid (fun e => (hne.out e).elim), KB4⟩
      · go_wp2_with fail
        go_meet
        exact ⟨none, 0, [], Y0, rfl, D3, OK3, nl, Lib.hid (fun e => (hne.out e).elim), KB3⟩
  obtain ⟨A4, c4', l4, Y, rfl, D4, OK4, ln4, NE, KB4⟩ := hcut
  clear D2 OKX KB2 hb0
  have z5 := (KB4.out.cell 5).trans (show _ = some (.int .u16 wi) from rfl)
  have c6 := D4.out.con.c6
  have f6 := D4.out.con.fz 6
  have q6 : CA (wc.setCell ⟨P.g, 6, none⟩ (.int .i64 wi)) P (winT Y wi) := D4.out.con.set 6 _ rfl rfl rfl rfl rfl
  have D5 := Lib.hid (D4.out.step q6 (set_in _ _ _ _))
  have OK5 := Lib.hid (OK4.out.trans (win_ok OK4.out.1 hwi))
  have NE5 := Lib.hid (show T.una = T.nxt → l4 = [] ∧ winT Y wi = winT X wi from fun e => ⟨(NE.out e).1, by rw [(NE.out e).2]⟩)
  have hw5 : (winT Y wi).win = wi := rfl
  have f3' : (winT Y wi).una = T.una := OK5.out.2.una
  have f5' : (winT Y wi).en = T.en := OK5.out.2.en
  have hgt : decide (T.una > T.en) = false := decide_eq_false (by omega)
  have hgt2 : ¬ T.una > T.en := by omega
  clear q6 D4 OK4 NE KB4
  go_upto_region 12 with fail
  generalize wc.setCell ⟨P.g, 6, none⟩ (.int .i64 wi) = w5 at *
  generalize winT Y wi = Z at *
  clear z5 c6 f6
  have c3 := D5.out.con.c3
  have c5 := D5.out.con.c5
  rw [f3'] at c3
  rw [f5'] at c5
  go_quiet (fail)
  go_wp2
  go_ret
  exact ⟨A4, c4', l4, rfl, Z, D5.out.drewN _, OK5.out, hw5, ln4, NE5.out⟩
end Go.Proofs.Ytldmcoagjgeeoaa.Tc
