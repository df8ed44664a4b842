/- Package icmp: Bytes. Conditions: those that each states. -/
import Derived.Test.YtbjmclcnaagbnaaIc
namespace Go.Proofs.Ytbjmclcnaagbnaa.Ic
open Go.ChangeShapes Go.WideShapes Go.ChangeAt Go.RowKit Go.Deep Rk Fl Gx
set_option linter.unusedVariables false
set_option linter.unusedSimpArgs false

set_option maxRecDepth 100000 in
set_option maxHeartbeats 4000000 in
theorem bytes_ok (t i q : Nat) (ht : t = 0 ∨ t = 8) (hi : i ≤ 65535) (hq : q ≤ 65535) (A : Option Addr) (c : Nat) (l : List UInt8) (w : World) (hs : Src w A l.length c l) (hn : l.length ≤ 982) :
    Calls Try.prog 7 #[.agg (ecV t i q A l.length c)] w fun e w' => (∃ g c', e = .returned (.tuple #[.slice (some ⟨g, 0, none⟩) (8 + l.length) c', .int .i64 0]) ∧ OwnB w' w.heap.size g (8 + l.length) c' (icB t i q l)) ∧ Below w.heap.size w w' := by
  have b1 : Below w.heap.size w (w.alloc (.cells (ecV t i q A l.length c) 31)) := (Below.refl _ w).alloc (Nat.le_refl _) _
  have B1 := Lib.hid b1
  have K1 := Lib.hid (Blk.new w 31 (ecV t i q A l.length c))
  have S1 := Lib.hid (hs.alloc (.cells (ecV t i q A l.length c) 31))
  have IT := Lib.hid (fun W => show Calls Try.prog 14 #[.int .i64 (t : Int)] W (fun e w' => e = .returned (.bool true) ∧ W = w') from by have := isType_any (t : Int) W; rwa [show tyB (t : Int) = true from decide_eq_true (by omega)] at this)
  have HI := Lib.hid (fun W => high_any i hi W)
  have LI := Lib.hid (fun W => low_any i hi W)
  have HQ := Lib.hid (fun W => high_any q hq W)
  have LQ := Lib.hid (fun W => low_any q hq W)
  have ht2 : t ≤ 255 := by omega
  have t8 := IntWalk.u8_in (t : Int) (by omega)
  have TN := Lib.hid (show (nb t 0).toNat = t from by rw [nb0]; omega)
  clear b1 hs ht
  go_enter Try.func7, Try.ntmps7
  go_upto_region 1 with fail
  generalize w.alloc (.cells (ecV t i q A l.length c) 31) = W at *
  have z0 := (K1.out.cell 0).trans (show _ = some (.int .i64 (t : Int)) from rfl)
  have z1 := (K1.out.cell 1).trans (show _ = some (.int .u16 (i : Int)) from rfl)
  have z2 := (K1.out.cell 2).trans (show _ = some (.int .u16 (q : Int)) from rfl)
  have z3 := (K1.out.cell 3).trans (show _ = some (.slice A l.length c) from rfl)
  go_wp2_with fail
  refine (IT.out W).mono ?_; rintro e w1 ⟨rfl, rfl⟩
  have hn9 : ¬ (l.length : Int) > 982 := by omega
  have mk := make_bytes (8 + l.length) (by omega) W
  rw [show ((8 + l.length : Nat) : Int) = 8 + (l.length : Int) from by omega] at mk
  have OW := Lib.hid (World.ownsRow_made (base := W.heap.size) (e := 5) (size := 1) W (madeCells #[.int .u8 0] (8 + l.length)) (8 + l.length) (Nat.le_refl _) (by unfold maxLen; omega) (by rw [size_madeCells]; simp))
  have h2 := Lib.hid ((Below.refl W.heap.size W).alloc (Nat.le_refl _) (.cells (madeCells #[.int .u8 0] (8 + l.length)) 5))
  go_upto_region 6 with fail
  generalize hW2 : W.alloc (.cells (madeCells #[.int .u8 0] (8 + l.length)) 5) = W2 at *
  have OW := Lib.hid (show W2.drew.ownsRow W.heap.size 5 1 (.slice (some ⟨W.heap.size, 0, none⟩) 0 (8 + l.length)) 0 [] from OW.out)
  have hS0 := Lib.hid (show Below W.heap.size W W2.drew from h2.out.drew)
  clear z0 z1 z2 z3 mk IT hn9 h2
  have E8 := Lib.hid (show #[Value.int .u8 (t : Int), .int .u8 0, .int .u8 0, .int .u8 0, .int .u8 ((nb i 1).toNat : Int), .int .u8 ((nb i 0).toNat : Int), .int .u8 ((nb q 1).toNat : Int), .int .u8 ((nb q 0).toNat : Int)] = (bys [nb t 0, 0, 0, 0, nb i 1, nb i 0, nb q 1, nb q 0]).toArray from by simp [bys, TN.out])
  obtain ⟨iu, hiu, hzu, hsu, hbu⟩ := u8_info
  have BS := Lib.hid (show ∀ X : World, (Instr.buildSlice 26 8 #[(0, Value.int .u8 (t : Int)), (1, .int .u8 0), (2, .int .u8 0), (3, .int .u8 0), (4, .int .u8 ((nb i 1).toNat : Int)), (5, .int .u8 ((nb i 0).toNat : Int)), (6, .int .u8 ((nb q 1).toNat : Int)), (7, .int .u8 ((nb q 0).toNat : Int))]).run Try.prog X = .ok (.slice (some ⟨X.heap.size, 0, none⟩) 8 8) (X.alloc (.cells #[Value.int .u8 (t : Int), .int .u8 0, .int .u8 0, .int .u8 0, .int .u8 ((nb i 1).toNat : Int), .int .u8 ((nb i 0).toNat : Int), .int .u8 ((nb q 1).toNat : Int), .int .u8 ((nb q 0).toNat : Int)] 5)) from fun X => by go_simp)
  refine wp_region_held_drew (S := fun w' => Hid (Below W.heap.size W w')) (by kernel_rfl) (hS0) (fun hS => ?_)
  refine held_take (i := 0) (d := (some 18)) (v := ?_) rfl rfl (by kernel_rfl) (by kernel_rfl) (by kernel_rfl) (fun _ _ _ h => h) (by rfl) ?_ hS ?_
  rotate_left
  · intro w' hSw; (try dsimp only at hSw); go_simp <;> with_reducible rfl
  simp only [Act.put, List.setIfInBounds_toArray, List.set_cons_zero, List.set_cons_succ]
  refine held_take (i := 1) (d := (some 19)) (v := ?_) rfl rfl (by kernel_rfl) (by kernel_rfl) (by kernel_rfl) (fun _ _ _ h => h) (by rfl) ?_ hS ?_
  rotate_left
  · intro w' hSw; (try dsimp only at hSw); go_simp <;> with_reducible rfl
  simp only [Act.put, List.setIfInBounds_toArray, List.set_cons_zero, List.set_cons_succ]
  refine held_take (i := 2) (d := (some 20)) (v := ?_) rfl rfl (by kernel_rfl) (by kernel_rfl) (by kernel_rfl) (fun _ _ _ h => h) (by rfl) ?_ hS ?_
  rotate_left
  · intro w' hSw; have kb := hSw.out; clear hSw; have z0 := ((K1.out.older (older_below kb)).cell 0).trans (show _ = some (.int .i64 (t : Int)) from rfl); clear kb; go_simp <;> with_reducible rfl
  simp only [Act.put, List.setIfInBounds_toArray, List.set_cons_zero, List.set_cons_succ]
  refine held_take (i := 3) (d := (some 21)) (v := ?_) rfl rfl (by kernel_rfl) (by kernel_rfl) (by kernel_rfl) (fun _ _ _ h => h) (by rfl) ?_ hS ?_
  rotate_left
  · intro w' hSw; (try dsimp only at hSw); go_simp <;> with_reducible rfl
  simp only [Act.put, List.setIfInBounds_toArray, List.set_cons_zero, List.set_cons_succ]
  refine held_take (i := 4) (d := (some 22)) (v := ?_) rfl rfl (by kernel_rfl) (by kernel_rfl) (by kernel_rfl) (fun _ _ _ h => h) (by rfl) ?_ hS ?_
  rotate_left
  · intro w' hSw; (try dsimp only at hSw); go_simp <;> with_reducible rfl
  simp only [Act.put, List.setIfInBounds_toArray, List.set_cons_zero, List.set_cons_succ]
  refine held_take (i := 5) (d := (some 23)) (v := ?_) rfl rfl (by kernel_rfl) (by kernel_rfl) (by kernel_rfl) (fun _ _ _ h => h) (by rfl) ?_ hS ?_
  rotate_left
  · intro w' hSw; have kb := hSw.out; clear hSw; have z1 := ((K1.out.older (older_below kb)).cell 1).trans (show _ = some (.int .u16 (i : Int)) from rfl); clear kb; go_simp <;> with_reducible rfl
  simp only [Act.put, List.setIfInBounds_toArray, List.set_cons_zero, List.set_cons_succ]
  refine held_take (i := 7) (d := (some 25)) (v := ?_) rfl rfl (by kernel_rfl) (by kernel_rfl) (by kernel_rfl) (fun _ _ _ h => h) (by rfl) ?_ hS ?_
  rotate_left
  · intro w' hSw; (try dsimp only at hSw); go_simp <;> with_reducible rfl
  simp only [Act.put, List.setIfInBounds_toArray, List.set_cons_zero, List.set_cons_succ]
  refine held_take (i := 8) (d := (some 26)) (v := ?_) rfl rfl (by kernel_rfl) (by kernel_rfl) (by kernel_rfl) (fun _ _ _ h => h) (by rfl) ?_ hS ?_
  rotate_left
  · intro w' hSw; have kb := hSw.out; clear hSw; have z1 := ((K1.out.older (older_below kb)).cell 1).trans (show _ = some (.int .u16 (i : Int)) from rfl); clear kb; go_simp <;> with_reducible rfl
  simp only [Act.put, List.setIfInBounds_toArray, List.set_cons_zero, List.set_cons_succ]
  refine held_take (i := 10) (d := (some 28)) (v := ?_) rfl rfl (by kernel_rfl) (by kernel_rfl) (by kernel_rfl) (fun _ _ _ h => h) (by rfl) ?_ hS ?_
  rotate_left
  · intro w' hSw; (try dsimp only at hSw); go_simp <;> with_reducible rfl
  simp only [Act.put, List.setIfInBounds_toArray, List.set_cons_zero, List.set_cons_succ]
  refine held_take (i := 11) (d := (some 29)) (v := ?_) rfl rfl (by kernel_rfl) (by kernel_rfl) (by kernel_rfl) (fun _ _ _ h => h) (by rfl) ?_ hS ?_
  rotate_left
  · intro w' hSw; have kb := hSw.out; clear hSw; have z2 := ((K1.out.older (older_below kb)).cell 2).trans (show _ = some (.int .u16 (q : Int)) from rfl); clear kb; go_simp <;> with_reducible rfl
  simp only [Act.put, List.setIfInBounds_toArray, List.set_cons_zero, List.set_cons_succ]
  refine held_take (i := 13) (d := (some 31)) (v := ?_) rfl rfl (by kernel_rfl) (by kernel_rfl) (by kernel_rfl) (fun _ _ _ h => h) (by rfl) ?_ hS ?_
  rotate_left
  · intro w' hSw; (try dsimp only at hSw); go_simp <;> with_reducible rfl
  simp only [Act.put, List.setIfInBounds_toArray, List.set_cons_zero, List.set_cons_succ]
  refine held_take (i := 14) (d := (some 32)) (v := ?_) rfl rfl (by kernel_rfl) (by kernel_rfl) (by kernel_rfl) (fun _ _ _ h => h) (by rfl) ?_ hS ?_
  rotate_left
  · intro w' hSw; have kb := hSw.out; clear hSw; have z2 := ((K1.out.older (older_below kb)).cell 2).trans (show _ = some (.int .u16 (q : Int)) from rfl); clear kb; go_simp <;> with_reducible rfl
  simp only [Act.put, List.setIfInBounds_toArray, List.set_cons_zero, List.set_cons_succ]
  refine held_one (i := 6) (by kernel_rfl) rfl (by rfl) ?_
  go_simp
  refine (HI.out _).mono ?_; rintro e wq ⟨rfl, rfl⟩
  refine ⟨hS, ?_⟩
  (try simp only [Act.put, List.setIfInBounds_toArray, List.set_cons_zero, List.set_cons_succ])
  refine held_one (i := 9) (by kernel_rfl) rfl (by rfl) ?_
  go_simp
  refine (LI.out _).mono ?_; rintro e wq ⟨rfl, rfl⟩
  refine ⟨hS, ?_⟩
  (try simp only [Act.put, List.setIfInBounds_toArray, List.set_cons_zero, List.set_cons_succ])
  refine held_one (i := 12) (by kernel_rfl) rfl (by rfl) ?_
  go_simp
  refine (HQ.out _).mono ?_; rintro e wq ⟨rfl, rfl⟩
  refine ⟨hS, ?_⟩
  (try simp only [Act.put, List.setIfInBounds_toArray, List.set_cons_zero, List.set_cons_succ])
  refine held_one (i := 15) (by kernel_rfl) rfl (by rfl) ?_
  go_simp
  refine (LQ.out _).mono ?_; rintro e wq ⟨rfl, rfl⟩
  refine ⟨hS, ?_⟩
  (try simp only [Act.put, List.setIfInBounds_toArray, List.set_cons_zero, List.set_cons_succ])
  refine held_one (i := 16) (by kernel_rfl) rfl (by rfl) ?_
  have hS : Hid (Below W.heap.size W (W2.drew.alloc (.cells #[Value.int .u8 (t : Int), .int .u8 0, .int .u8 0, .int .u8 0, .int .u8 ((nb i 1).toNat : Int), .int .u8 ((nb i 0).toNat : Int), .int .u8 ((nb q 1).toNat : Int), .int .u8 ((nb q 0).toNat : Int)] 5))) := Lib.hid (hS.out.alloc hS.out.size _)
  have OW := Lib.hid (OW.out.alloc (.cells #[Value.int .u8 (t : Int), .int .u8 0, .int .u8 0, .int .u8 0, .int .u8 ((nb i 1).toNat : Int), .int .u8 ((nb i 0).toNat : Int), .int .u8 ((nb q 1).toNat : Int), .int .u8 ((nb q 0).toNat : Int)] 5))
  have SN := Lib.hid (show Src (W2.drew.alloc (.cells #[Value.int .u8 (t : Int), .int .u8 0, .int .u8 0, .int .u8 0, .int .u8 ((nb i 1).toNat : Int), .int .u8 ((nb i 0).toNat : Int), .int .u8 ((nb q 1).toNat : Int), .int .u8 ((nb q 0).toNat : Int)] 5)) (some ⟨W2.drew.heap.size, 0, none⟩) 8 8 [nb t 0, 0, 0, 0, nb i 1, nb i 0, nb q 1, nb q 0] from by rw [E8.out]; exact src_new W2.drew [nb t 0, 0, 0, 0, nb i 1, nb i 0, nb q 1, nb q 0] (by show 8 ≤ 1000000; omega))
  refine wp_slice_d (d := some 34) (ps := #[(0, Value.int .u8 (t : Int)), (1, .int .u8 0), (2, .int .u8 0), (3, .int .u8 0), (4, .int .u8 ((nb i 1).toNat : Int)), (5, .int .u8 ((nb i 0).toNat : Int)), (6, .int .u8 ((nb q 1).toNat : Int)), (7, .int .u8 ((nb q 0).toNat : Int))]) rfl rfl (by go_simp) (BS.out _) ?_
  refine ⟨hS, ?_⟩
  (try simp only [Act.put, List.setIfInBounds_toArray, List.set_cons_zero, List.set_cons_succ])
  refine held_one (i := 17) (by kernel_rfl) rfl (by rfl) ?_
  refine wp_append_d (d := some 35) rfl (.tmp 18) (.tmp 34) 26 rfl W.heap.size 5 iu (.int .u8 0) 1 1 Try.underlying26 hiu hzu hsu hbu rfl (by decide) _ 0 [] rfl OW.out ⟨W2.drew.heap.size, 0, none⟩ 8 8 (bys [nb t 0, 0, 0, 0, nb i 1, nb i 0, nb q 1, nb q 0]) rfl rfl (fun j u hu => Bytes.at_ _ SN.out.toBytes j u hu) (fun u hu => bys_one hu) (by decide) (by decide) (by decide) hS.out.size ?_
  intro g cg w3 ho hg hat hlt
  rw [List.nil_append, Nat.zero_add] at ho
  rw [Nat.zero_add]
  have hS : Hid (Below W.heap.size W w3) := Lib.hid (hS.out.grown hg hS.out.size (fun k e => (OW.out.lt k e).1))
  have O3 := Lib.hid ho
  clear ho hg hat hlt
  refine ⟨hS, ?_⟩
  (try simp only [Act.put, List.setIfInBounds_toArray, List.set_cons_zero, List.set_cons_succ])
  refine held_take (i := 18) (d := (some 4)) (v := ?_) rfl rfl (by kernel_rfl) (by kernel_rfl) (by kernel_rfl) (fun _ _ _ h => h) (by rfl) ?_ hS ?_
  rotate_left
  · intro w' hSw; (try dsimp only at hSw); go_simp <;> with_reducible rfl
  simp only [Act.put, List.setIfInBounds_toArray, List.set_cons_zero, List.set_cons_succ]
  refine wpAnyH_done (by kernel_rfl) ?_ _
  have B3 := Lib.hid (B1.out.trans (hS.out.mono B1.out.size))
  have S3 := Lib.hid (S1.out.below hS.out)
  have K3 := Lib.hid (K1.out.older (older_below hS.out))
  have WZ := Lib.hid (show w.heap.size ≤ W.heap.size from B1.out.size)
  clear OW E8 BS SN hiu hzu hsu hbu B1 S1 K1 hS HI LI HQ LQ hS0
  have z3 := (K3.out.cell 3).trans (show _ = some (.slice A l.length c) from rfl)
  go_wp2_with (at_builtin; refine Hid.out ?_)
  unfold Hid
  refine wpList_append_src rfl _ _ rfl w.heap.size _ 8 [nb t 0, 0, 0, 0, nb i 1, nb i 0, nb q 1, nb q 0] rfl (owns_mono O3.out WZ.out) A l.length c l rfl S3.out (by omega) B3.out.size ?_
  intro v' w4 h1 h2
  obtain ⟨g4, c4, rfl, O4⟩ := OwnB.of h1 (by omega)
  have B4 := Lib.hid (B3.out.trans h2)
  have SE := Lib.hid (seal_any w.heap.size g4 (8 + l.length) c4 (icL t i q 0 l) w4 O4 (by omega) (by omega))
  have G4 := Lib.hid O4.base
  clear h1 h2 O4 O3 B3 S3 K3 z3
  go_wp2_with fail
  refine SE.out.mono ?_; rintro e w5 ⟨rfl, O5, k5⟩
  have B5 := Lib.hid (chg_below B4.out k5 G4.out)
  have O5 := Lib.hid (show OwnB w5 w.heap.size g4 (8 + l.length) c4 (icB t i q l) from O5)
  clear k5
  go_wp2
  go_ret2
  exact ⟨⟨g4, c4, rfl, O5.out⟩, B5.out⟩

set_option maxRecDepth 100000 in
set_option maxHeartbeats 1000000 in
theorem bytes_bad (t : Int) (i q : Nat) (ht : tyB t = false) (A : Option Addr) (n c : Nat) (w : World) :
    Calls Try.prog 7 #[.agg (ecV t i q A n c)] w fun e w' => e = .returned (.tuple #[.slice none 0 0, .int .i64 1]) ∧ Below w.heap.size w w' := by
  have B1 := Lib.hid ((Below.refl w.heap.size w).alloc (Nat.le_refl _) (.cells (ecV t i q A n c) 31))
  have K1 := Lib.hid (Blk.new w 31 (ecV t i q A n c))
  have IT := Lib.hid (fun W => show Calls Try.prog 14 #[.int .i64 t] W (fun e w' => e = .returned (.bool false) ∧ W = w') from by have := isType_any t W; rwa [ht] at this)
  clear ht
  go_enter Try.func7, Try.ntmps7
  go_upto_region 1 with fail
  generalize w.alloc (.cells (ecV t i q A n c) 31) = W at *
  have z0 := (K1.out.cell 0).trans (show _ = some (.int .i64 t) from rfl)
  go_wp2_with fail
  refine (IT.out W).mono ?_; rintro e w1 ⟨rfl, rfl⟩
  go_wp2
  go_ret2
  exact ⟨rfl, B1.out⟩

set_option maxRecDepth 100000 in
set_option maxHeartbeats 1000000 in
theorem bytes_long (t : Int) (i q : Nat) (ht : tyB t = true) (A : Option Addr) (n c : Nat) (hn : 982 < n) (w : World) :
    Calls Try.prog 7 #[.agg (ecV t i q A n c)] w fun e w' => e = .returned (.tuple #[.slice none 0 0, .int .i64 2]) ∧ Below w.heap.size w w' := by
  have B1 := Lib.hid ((Below.refl w.heap.size w).alloc (Nat.le_refl _) (.cells (ecV t i q A n c) 31))
  have K1 := Lib.hid (Blk.new w 31 (ecV t i q A n c))
  have IT := Lib.hid (fun W => show Calls Try.prog 14 #[.int .i64 t] W (fun e w' => e = .returned (.bool true) ∧ W = w') from by have := isType_any t W; rwa [ht] at this)
  have hn9 : (n : Int) > 982 := by omega
  clear ht
  go_enter Try.func7, Try.ntmps7
  go_upto_region 1 with fail
  generalize w.alloc (.cells (ecV t i q A n c) 31) = W at *
  have z0 := (K1.out.cell 0).trans (show _ = some (.int .i64 t) from rfl)
  have z3 := (K1.out.cell 3).trans (show _ = some (.slice A n c) from rfl)
  go_wp2_with fail
  refine (IT.out W).mono ?_; rintro e w1 ⟨rfl, rfl⟩
  go_wp2
  go_ret2
  exact ⟨rfl, B1.out⟩

/-- Which echoes have bytes, and the error of the others. -/
def icMay (t : Int) (n : Nat) : Bool := tyB t && decide (n ≤ 982)
def icEr (t : Int) : Int := if tyB t then 2 else 1
theorem icMay_type {t : Int} {n : Nat} (h : icMay t n = true) : ∃ k : Nat, t = (k : Int) ∧ (k = 0 ∨ k = 8) ∧ n ≤ 982 := by
  unfold icMay tyB at h
  simp at h
  exact ⟨t.toNat, by omega, by omega, h.2⟩
theorem bytes_any (t : Int) (i q : Nat) (hi : i ≤ 65535) (hq : q ≤ 65535) (A : Option Addr) (c : Nat) (l : List UInt8) (w : World) (hs : Src w A l.length c l) :
    Calls Try.prog 7 #[.agg (ecV t i q A l.length c)] w fun e w' => Tells w w' e (icMay t l.length) (icB t.toNat i q l) (icEr t) ∧ Below w.heap.size w w' := by
  by_cases hm : icMay t l.length = true
  · obtain ⟨k, rfl, hk, hn⟩ := icMay_type hm
    refine (bytes_ok k i q hk hi hq A c l w hs hn).mono ?_
    rintro e w' ⟨⟨g, c', rfl, O⟩, b⟩
    refine ⟨.inr ⟨hm, g, c', ?_, ?_⟩, b⟩
    · rw [Int.toNat_natCast, icB_length]
    · rw [Int.toNat_natCast, icB_length]; exact O
  · have hm := Bool.eq_false_iff.2 hm
    cases ht : tyB t with
    | false =>
      refine (bytes_bad t i q ht A l.length c w).mono ?_
      rintro e w' ⟨rfl, b⟩
      exact ⟨.inl ⟨hm, by unfold icEr; rw [ht]; rfl⟩, b⟩
    | true =>
      unfold icMay at hm
      rw [ht, Bool.true_and, decide_eq_false_iff_not] at hm
      refine (bytes_long t i q ht A l.length c (by omega) w).mono ?_
      rintro e w' ⟨rfl, b⟩
      exact ⟨.inl ⟨by unfold icMay; rw [ht, Bool.true_and]; exact decide_eq_false hm, by unfold icEr; rw [ht]; rfl⟩, b⟩
end Go.Proofs.Ytbjmclcnaagbnaa.Ic
