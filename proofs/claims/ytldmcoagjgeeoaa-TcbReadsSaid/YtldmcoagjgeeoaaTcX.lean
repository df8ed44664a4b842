/- Package tcb: Accept, of a SYN without an MSS. Conditions: those that each states. -/
import Derived.Test.YtldmcoagjgeeoaaTcR
import Derived.Test.YtldmcoagjgeeoaaRa
namespace Go.Proofs.Ytldmcoagjgeeoaa.Tc
open Go.ChangeShapes Go.WideShapes Go.ChangeAt Go.RowKit Go.Deep Rk Rv
set_option linter.unusedVariables false
set_option linter.unusedSimpArgs false

/-- A SYN, as a value. -/
abbrev yn (q wi : Int) : Array Value := #[.int .u16 0, .int .u16 0, .int .u32 q, .int .u32 0, .int .i64 2, .int .u16 wi, .int .i64 0, .slice none 0 0]
/-- A connection that begins. -/
def T0 (iss irs wi m : Int) (R : Nat) : TC := ⟨1, Sq.rd (iss + 1), Sq.rd (irs + 1), 0, 0, 0, wi, m, m, false, (R : Int), false, -1, 0, 0, 0, -1, 0, -1, 0, 0, List.replicate R none, Rt.k0⟩
def accR (iss irs wi m : Int) (R : Nat) : TC := sentR (armR (T0 iss irs wi m R))
/-- A connection of the call's own, and a list. -/
structure New (w w' : World) (P : Pl) (T : TC) (A : Option Addr) (c : Nat) (l : List OutV) : Prop where
  con : CA w' P T
  out : RowV w' 55 7 A l.length c (outsC l)
  below : Below w.heap.size w w'
  own : ∀ k, P.In k → w.heap.size ≤ k

set_option maxRecDepth 100000 in
set_option maxHeartbeats 2000000 in
theorem accept_any (iss irs wi m : Int) (R : Nat) (hwi : 0 ≤ wi ∧ wi ≤ 65535) (hm : 1 ≤ m ∧ m ≤ 500) (hR : 1 ≤ R ∧ R ≤ 2048) (w : World) :
    Calls Try.prog 8 #[.int .u32 iss, .agg (yn irs wi), .int .i64 m, .int .i64 (R : Int)] w fun e w' => ∃ P A' c' ll, e = .returned (.tuple #[.pointer (some ⟨P.g, 0, none⟩), .slice A' ll.length c', .int .i64 0]) ∧ New w w' P (accR iss irs wi m R) A' c' ll ∧ ll = [greetR (armR (T0 iss irs wi m R))] := by
  obtain ⟨W, hW⟩ : ∃ W, w.alloc (.cells (yn irs wi) 35) = W := ⟨_, rfl⟩
  have b0 : Below w.heap.size w W := by rw [← hW]; exact (Below.refl w.heap.size w).alloc (Nat.le_refl _) _
  have KB0 := Lib.hid (show Blk W w.heap.size 35 (yn irs wi) from by rw [← hW]; exact Blk.new w _ _)
  have B0 := Lib.hid b0
  have HW := Lib.hid hW
  have NW := Lib.hid (Ra.new_ok R W hR.1 hR.2)
  have A1 := Lib.hid (fun X => Sq.add_any iss 1 X)
  have A2 := Lib.hid (fun X => Sq.add_any irs 1 X)
  have ET := Lib.hid (show T0 iss irs wi m R = ⟨1, Sq.rd (iss + 1), Sq.rd (irs + 1), 0, 0, 0, wi, m, m, false, (R : Int), false, -1, 0, 0, 0, -1, 0, -1, 0, 0, List.replicate R none, Rt.k0⟩ from rfl)
  have z4 := (KB0.out.cell 4).trans (show _ = some (.int .i64 2) from rfl)
  have e1 : bits .and .i64 2 2 = 2 := by decide +kernel
  have e2 : bits .and .i64 2 21 = 0 := by decide +kernel
  obtain ⟨m1, m2⟩ := hm
  have xwi := IntWalk.i64_in wi (by omega)
  have y1 : (if 536 < m then (536 : Int) else m) = m := by split <;> omega
  have g1 : ¬ m < 1 := by omega
  have g2 : ¬ m > 900 := by omega
  clear b0 hW
  generalize Sq.rd (iss + 1) = qo at *
  generalize Sq.rd (irs + 1) = qp at *
  have EA := Lib.hid (show accR iss irs wi m R = sentR (armR (T0 iss irs wi m R)) from rfl)
  rw [EA.out]
  obtain ⟨X0, hX0⟩ : ∃ X0, T0 iss irs wi m R = X0 := ⟨_, rfl⟩
  rw [hX0] at ET ⊢
  clear hX0 EA
  go_enter Try.func8, Try.ntmps8
  go_upto_region 1 with fail
  rw [HW.out]
  go_wp2_with fail
  refine NW.out.mono ?_; rintro e W1 ⟨gt, gm, gb, rfl, bf, bb, t1, t2, t3⟩
  have BF := Lib.hid bf
  have BB := Lib.hid bb
  have KB1 := Lib.hid (KB0.out.below bb KB0.out.lt)
  have TG := Lib.hid (show w.heap.size ≤ gt ∧ w.heap.size ≤ gm ∧ w.heap.size ≤ gb from ⟨Nat.le_trans B0.out.size t1, Nat.le_trans B0.out.size t2, Nat.le_trans B0.out.size t3⟩)
  have LG := Lib.hid bf.lt
  clear bf bb NW KB0 z4 t1 t2 t3
  have z6 := (KB1.out.cell 6).trans (show _ = some (.int .i64 0) from rfl)
  have Z2 := Lib.hid (fun V (k : Below W1.heap.size W1 V) => show V.cell? ⟨w.heap.size, 2, none⟩ = some (.int .u32 irs) from ((KB1.out.below k KB1.out.lt).cell 2).trans rfl)
  have Z5 := Lib.hid (fun V (k : Below W1.heap.size W1 V) => show V.cell? ⟨w.heap.size, 5, none⟩ = some (.int .u16 wi) from ((KB1.out.below k KB1.out.lt).cell 5).trans rfl)
  go_wp2_with fail
  have hH := Lib.hid ((Below.refl W1.heap.size W1).drew)
  refine wp_head_held (S := fun w' => Hid (Below W1.heap.size W1 w')) 15 (by kernel_rfl) rfl rfl (by kernel_rfl) ?_
  simp only [List.take_succ_cons, List.take_zero, List.drop_succ_cons, List.drop_zero]
  refine held_take (i := 0) (d := (some 45)) (v := ?_) rfl rfl (by kernel_rfl) (by kernel_rfl) (by kernel_rfl) (fun _ _ _ h => h) (by rfl) ?_ hH ?_
  rotate_left
  · intro w' hSw; (try dsimp only at hSw); go_simp <;> with_reducible rfl
  simp only [Act.put, List.setIfInBounds_toArray, List.set_cons_zero, List.set_cons_succ]
  refine held_take (i := 2) (d := (some 47)) (v := ?_) rfl rfl (by kernel_rfl) (by kernel_rfl) (by kernel_rfl) (fun _ _ _ h => h) (by rfl) ?_ hH ?_
  rotate_left
  · intro w' hSw; (try dsimp only at hSw); go_simp <;> with_reducible rfl
  simp only [Act.put, List.setIfInBounds_toArray, List.set_cons_zero, List.set_cons_succ]
  refine held_take (i := 3) (d := (some 48)) (v := ?_) rfl rfl (by kernel_rfl) (by kernel_rfl) (by kernel_rfl) (fun _ _ _ h => h) (by rfl) ?_ hH ?_
  rotate_left
  · intro w' hSw; have z1 := Z2.out w' hSw.out; clear hSw; go_simp <;> with_reducible rfl
  simp only [Act.put, List.setIfInBounds_toArray, List.set_cons_zero, List.set_cons_succ]
  refine held_take (i := 5) (d := (some 50)) (v := ?_) rfl rfl (by kernel_rfl) (by kernel_rfl) (by kernel_rfl) (fun _ _ _ h => h) (by rfl) ?_ hH ?_
  rotate_left
  · intro w' hSw; (try dsimp only at hSw); go_simp <;> with_reducible rfl
  simp only [Act.put, List.setIfInBounds_toArray, List.set_cons_zero, List.set_cons_succ]
  refine held_take (i := 6) (d := (some 51)) (v := ?_) rfl rfl (by kernel_rfl) (by kernel_rfl) (by kernel_rfl) (fun _ _ _ h => h) (by rfl) ?_ hH ?_
  rotate_left
  · intro w' hSw; have z1 := Z5.out w' hSw.out; clear hSw; go_simp <;> with_reducible rfl
  simp only [Act.put, List.setIfInBounds_toArray, List.set_cons_zero, List.set_cons_succ]
  refine held_take (i := 7) (d := (some 52)) (v := ?_) rfl rfl (by kernel_rfl) (by kernel_rfl) (by kernel_rfl) (fun _ _ _ h => h) (by rfl) ?_ hH ?_
  rotate_left
  · intro w' hSw; (try dsimp only at hSw); go_simp <;> with_reducible rfl
  simp only [Act.put, List.setIfInBounds_toArray, List.set_cons_zero, List.set_cons_succ]
  refine held_take (i := 8) (d := (some 53)) (v := ?_) rfl rfl (by kernel_rfl) (by kernel_rfl) (by kernel_rfl) (fun _ _ _ h => h) (by rfl) ?_ hH ?_
  rotate_left
  · intro w' hSw; (try dsimp only at hSw); go_simp <;> with_reducible rfl
  simp only [Act.put, List.setIfInBounds_toArray, List.set_cons_zero, List.set_cons_succ]
  refine held_take (i := 9) (d := (some 54)) (v := ?_) rfl rfl (by kernel_rfl) (by kernel_rfl) (by kernel_rfl) (fun _ _ _ h => h) (by rfl) ?_ hH ?_
  rotate_left
  · intro w' hSw; (try dsimp only at hSw); go_simp <;> with_reducible rfl
  simp only [Act.put, List.setIfInBounds_toArray, List.set_cons_zero, List.set_cons_succ]
  refine held_take (i := 10) (d := (some 55)) (v := ?_) rfl rfl (by kernel_rfl) (by kernel_rfl) (by kernel_rfl) (fun _ _ _ h => h) (by rfl) ?_ hH ?_
  rotate_left
  · intro w' hSw; (try dsimp only at hSw); go_simp <;> with_reducible rfl
  simp only [Act.put, List.setIfInBounds_toArray, List.set_cons_zero, List.set_cons_succ]
  refine held_take (i := 11) (d := (some 56)) (v := ?_) rfl rfl (by kernel_rfl) (by kernel_rfl) (by kernel_rfl) (fun _ _ _ h => h) (by rfl) ?_ hH ?_
  rotate_left
  · intro w' hSw; (try dsimp only at hSw); go_simp <;> with_reducible rfl
  simp only [Act.put, List.setIfInBounds_toArray, List.set_cons_zero, List.set_cons_succ]
  refine held_take (i := 12) (d := (some 57)) (v := ?_) rfl rfl (by kernel_rfl) (by kernel_rfl) (by kernel_rfl) (fun _ _ _ h => h) (by rfl) ?_ hH ?_
  rotate_left
  · intro w' hSw; (try dsimp only at hSw); go_simp <;> with_reducible rfl
  simp only [Act.put, List.setIfInBounds_toArray, List.set_cons_zero, List.set_cons_succ]
  refine held_take (i := 13) (d := (some 58)) (v := ?_) rfl rfl (by kernel_rfl) (by kernel_rfl) (by kernel_rfl) (fun _ _ _ h => h) (by rfl) ?_ hH ?_
  rotate_left
  · intro w' hSw; (try dsimp only at hSw); go_simp <;> with_reducible rfl
  simp only [Act.put, List.setIfInBounds_toArray, List.set_cons_zero, List.set_cons_succ]
  refine held_one (i := 1) (by kernel_rfl) rfl (by rfl) ?_
  go_simp
  refine (A1.out _).mono ?_; rintro e wq ⟨rfl, rfl⟩
  refine ⟨hH, ?_⟩
  (try simp only [Act.put, List.setIfInBounds_toArray, List.set_cons_zero, List.set_cons_succ])
  refine held_one (i := 4) (by kernel_rfl) rfl (by rfl) ?_
  go_simp
  refine (A2.out _).mono ?_; rintro e wq ⟨rfl, rfl⟩
  refine ⟨hH, ?_⟩
  (try simp only [Act.put, List.setIfInBounds_toArray, List.set_cons_zero, List.set_cons_succ])
  refine held_one (i := 14) (by kernel_rfl) rfl (by rfl) ?_
  go_simp
  refine (Rt.new_any _).mono ?_; rintro e w4 ⟨rfl, o4⟩
  have CK := Lib.hid (Rt.Own.at_ o4)
  have CG := Lib.hid (show W1.heap.size ≤ _ from hH.out.size)
  have hH : Hid (Below W1.heap.size W1 w4) := Lib.hid (hH.out.trans ((Rt.Own.below o4).mono hH.out.size))
  clear o4
  refine ⟨hH, ?_⟩
  (try simp only [Act.put, List.setIfInBounds_toArray, List.set_cons_zero, List.set_cons_succ])
  refine wpAnyH_done (by kernel_rfl) ?_ _
  show wpList _ _ _ _ _ _
  go_wp2_with fail
  obtain ⟨P, hP⟩ : ∃ P : Pl, P = ⟨w4.heap.size, gt, gm, gb, W1.heap.size, R⟩ := ⟨_, rfl⟩
  have bA := (Below.refl w4.heap.size w4).alloc (Nat.le_refl _) (.cells (vals P X0) 63)
  have ck4 : Rt.At w4 W1.heap.size Rt.k0 := CK.out
  have lc4 := Blk.lt ck4
  obtain ⟨tg1, tg2, tg3⟩ := TG.out
  obtain ⟨lg1, lg2, lg3⟩ := LG.out
  have bw : Below w.heap.size w w4 := by
    have h1 := B0.out
    have h2 := h1.trans (BB.out.mono h1.size)
    exact h2.trans (hH.out.mono h2.size)
  have sW : w.heap.size ≤ W1.heap.size := Nat.le_trans B0.out.size BB.out.size
  have CN : CA (w4.alloc (.cells (vals P X0) 63)) P X0 := by
    refine ⟨?_, ?_, ?_, ?_, ?_⟩
    · rw [hP]; exact Blk.new w4 _ _
    · rw [hP, ET.out]; exact (BF.out.new hH.out).new (by rw [hP, ET.out] at bA; exact bA)
    · rw [hP, ET.out]; exact Blk.alloc ck4 _
    · rw [hP]; show w4.heap.size ≠ gt ∧ w4.heap.size ≠ gm ∧ w4.heap.size ≠ gb ∧ w4.heap.size ≠ W1.heap.size ∧ W1.heap.size ≠ gt ∧ W1.heap.size ≠ gm ∧ W1.heap.size ≠ gb; omega
    · rw [hP, ET.out]
  have OWN := Lib.hid (show ∀ k, P.In k → w.heap.size ≤ k from fun k hk => by
    rw [hP] at hk
    unfold Pl.In at hk
    dsimp only at hk
    omega)
  have BW := Lib.hid (bw.trans (bA.mono bw.size))
  have hg : w4.heap.size = P.g := by rw [hP]
  obtain ⟨W6, hW6⟩ : ∃ W6, w4.alloc (.cells (vals P X0) 63) = W6 := ⟨_, rfl⟩
  rw [hW6] at CN BW
  have HV := Lib.hid (show w4.alloc (.cells #[.int .i64 1, .int .u32 qo, .int .u32 qp, .int .i64 0, .int .i64 0, .int .i64 0, .int .i64 wi, .int .i64 m, .int .i64 m, .bool false, .int .i64 (R : Int), .pointer (some ⟨gb, 0, none⟩), .bool false, .int .i64 (-1), .int .i64 0, .int .i64 0, .int .i64 0, .pointer (some ⟨W1.heap.size, 0, none⟩), .int .i64 (-1), .int .i64 0, .int .i64 (-1), .int .i64 0] 63) = W6 from by rw [← hW6, hP, ET.out]; rfl)
  have D6 := Lib.hid (CO.start CN)
  have hd0 : X0.done = false := by rw [ET.out]
  rw [HV.out, hg]
  clear hW6 HV bA ck4 lc4 bw CN BF BB KB1 TG LG z6 Z2 Z5 CK CG hH A1 A2 ET sW tg1 tg2 tg3 lg1 lg2 lg3 hP B0
  have AR := Lib.hid (arm_any D6.out.con)
  refine AR.out.mono ?_; rintro e w7 ⟨rfl, h7, k7⟩
  have D7 := Lib.hid (D6.out.step h7 k7)
  have GR := Lib.hid (greet_any D7.out hd0 (by simp))
  clear AR h7 k7 D6
  obtain ⟨l2, hl2⟩ : ∃ l2, ([] : List OutV) ++ [greetR (armR X0)] = l2 := ⟨_, rfl⟩
  rw [hl2] at GR
  have HL := Lib.hid hl2.symm
  clear hl2
  go_wp2_with fail
  refine GR.out.mono ?_; rintro e w8 ⟨A8, c8, rfl, co8, _⟩
  have FF := Lib.hid (show New w w8 P (sentR (armR X0)) A8 c8 l2 from ⟨co8.con, co8.out, BW.out.trans (co8.chg.below BW.out.size OWN.out), OWN.out⟩)
  clear co8 GR D7
  go_wp2
  go_ret3
  exact ⟨P, A8, c8, l2, rfl, FF.out, HL.out⟩
end Go.Proofs.Ytldmcoagjgeeoaa.Tc
