/- Package ipv4: Head. Conditions: those that each states. -/
import Derived.Test.YtpnfmohejcdgfaaIpM
import Derived.Test.YtpnfmohejcdgfaaGx
import Derived.BigQuiet
namespace Go.Proofs.Ytpnfmohejcdgfaa.Ip
open Go.ChangeShapes Go.WideShapes Go.ChangeAt Go.RowKit Go.Deep Rk Fl Gx
set_option linter.unusedVariables false
set_option linter.unusedSimpArgs false

theorem arr_info : (Try.prog.info? 57).map (·.size) = some 10 := by kernel_rfl
theorem idx10 (W : World) (vs : List Value) (q : Nat) (x : Value) (hq : q < 10) (hv : vs[q]? = some x) : (Instr.index 57 (.agg vs.toArray) (.int .i64 (q : Int))).run Try.prog W = .ok x W := by
  obtain ⟨i0, hi⟩ := Option.isSome_iff_exists.1 (show (Try.prog.info? 22).isSome = true from by kernel_rfl)
  exact run_index_arr W Try.underlying57 hi (by kernel_rfl) (by unfold isAgg; simp [run_underlying Try.underlying22]) hq (by simpa using hv)
/-- A packet, as a value. -/
abbrev pkV (i t p s d : Nat) (A : Option Addr) (n c : Nat) : Array Value := #[.int .u16 (i : Int), .int .u8 (t : Int), .int .u8 (p : Int), .int .u32 (s : Int), .int .u32 (d : Int), .slice A n c]

set_option maxRecDepth 100000 in
theorem head_no (i t p s d : Nat) (A : Option Addr) (n c : Nat) (m : Int) (hm : m < 0 ∨ 990 < m) (w : World) :
    Calls Try.prog 9 #[.agg (pkV i t p s d A n c), .int .i64 m] w fun e w' => e = .returned (.tuple #[.slice none 0 0, .int .i64 2]) ∧ Below w.heap.size w w' := by
  have b1 : Below w.heap.size w (w.alloc (.cells (pkV i t p s d A n c) 32)) := (Below.refl _ w).alloc (Nat.le_refl _) _
  have B1 := Lib.hid b1
  clear b1
  by_cases h0 : m < 0
  · go_enter Try.func9, Try.ntmps9
    go_upto_region 1 with fail
    generalize w.alloc (.cells (pkV i t p s d A n c) 32) = W at *
    go_wp2
    go_ret2
    exact ⟨rfl, B1.out⟩
  · have h9 : m > 990 := by omega
    go_enter Try.func9, Try.ntmps9
    go_upto_region 1 with fail
    generalize w.alloc (.cells (pkV i t p s d A n c) 32) = W at *
    go_wp2
    go_ret2
    exact ⟨rfl, B1.out⟩

set_option maxRecDepth 100000 in
set_option maxHeartbeats 8000000 in
theorem head_ok (i t p s d : Nat) (hp : Pk i t p s d) (A : Option Addr) (n c : Nat) (m : Nat) (hm : m ≤ 990) (w : World) :
    Calls Try.prog 9 #[.agg (pkV i t p s d A n c), .int .i64 (m : Int)] w fun e w' => (∃ g c', e = .returned (.tuple #[.slice (some ⟨g, 0, none⟩) 20 c', .int .i64 0]) ∧ OwnB w' w.heap.size g 20 c' (ipHead i t p s d m)) ∧ Below w.heap.size w w' := by
  have b1 : Below w.heap.size w (w.alloc (.cells (pkV i t p s d A n c) 32)) := (Below.refl _ w).alloc (Nat.le_refl _) _
  have B1 := Lib.hid b1
  have KB := Lib.hid (Blk.new w 32 (pkV i t p s d A n c))
  have HP := Lib.hid hp
  clear b1
  have C0 := Lib.hid (fun W => word_any' 69 0 (by omega) (by omega) W)
  have C1 := Lib.hid (fun W => word_any' t p hp.t hp.p W)
  have C2 := Lib.hid (fun W => high_any s hp.s W)
  have C3 := Lib.hid (fun W => low_any s hp.s W)
  have C4 := Lib.hid (fun W => high_any d hp.d W)
  have C5 := Lib.hid (fun W => low_any d hp.d W)
  have hm1 : ¬ (m : Int) < 0 := by omega
  have hm2 : ¬ (m : Int) > 990 := by omega
  have wn := IntWalk.i64_in (20 + (m : Int)) (by omega)
  have wm := IntWalk.u16_in (20 + (m : Int)) (by omega)
  clear hp
  go_enter Try.func9, Try.ntmps9
  go_upto_region 1 with fail
  generalize w.alloc (.cells (pkV i t p s d A n c) 32) = W at *
  go_upto_region 3 with fail
  go_cut [6] (fun x wx => ∃ g, x = .pointer (some ⟨g, 0, none⟩) ∧ Hid (Blk wx g 57 #[.int .u16 17664, .int .u16 (20 + (m : Int)), .int .u16 (i : Int), .int .u16 16384, .int .u16 ((t : Int) * 256 + (p : Int)), .int .u16 0, .int .u16 ((s : Int) / 65536), .int .u16 ((s : Int) % 65536), .int .u16 ((d : Int) / 65536), .int .u16 ((d : Int) % 65536)]) ∧ W.heap.size ≤ g ∧ Hid (Below W.heap.size W wx))
  case first =>
    refine wp_region_held_drew (S := fun w' => Hid (Below W.heap.size W w')) (by kernel_rfl) (Lib.hid ((Below.refl W.heap.size W).drew)) (fun hS => ?_)
    refine held_take (i := 1) (d := (some 19)) (v := ?_) rfl rfl (by kernel_rfl) (by kernel_rfl) (by kernel_rfl) (fun _ _ _ h => h) (by rfl) ?_ hS ?_
    rotate_left
    · intro w' hSw; (try dsimp only at hSw); go_simp <;> with_reducible rfl
    simp only [Act.put, List.setIfInBounds_toArray, List.set_cons_zero, List.set_cons_succ]
    refine held_take (i := 2) (d := (some 20)) (v := ?_) rfl rfl (by kernel_rfl) (by kernel_rfl) (by kernel_rfl) (fun _ _ _ h => h) (by rfl) ?_ hS ?_
    rotate_left
    · intro w' hSw; (try dsimp only at hSw); go_simp <;> with_reducible rfl
    simp only [Act.put, List.setIfInBounds_toArray, List.set_cons_zero, List.set_cons_succ]
    refine held_take (i := 3) (d := (some 21)) (v := ?_) rfl rfl (by kernel_rfl) (by kernel_rfl) (by kernel_rfl) (fun _ _ _ h => h) (by rfl) ?_ hS ?_
    rotate_left
    · intro w' hSw; (try dsimp only at hSw); go_simp <;> with_reducible rfl
    simp only [Act.put, List.setIfInBounds_toArray, List.set_cons_zero, List.set_cons_succ]
    refine held_take (i := 4) (d := (some 22)) (v := ?_) rfl rfl (by kernel_rfl) (by kernel_rfl) (by kernel_rfl) (fun _ _ _ h => h) (by rfl) ?_ hS ?_
    rotate_left
    · intro w' hSw; (try dsimp only at hSw); go_simp <;> with_reducible rfl
    simp only [Act.put, List.setIfInBounds_toArray, List.set_cons_zero, List.set_cons_succ]
    refine held_take (i := 5) (d := (some 23)) (v := ?_) rfl rfl (by kernel_rfl) (by kernel_rfl) (by kernel_rfl) (fun _ _ _ h => h) (by rfl) ?_ hS ?_
    rotate_left
    · intro w' hSw; have kb := hSw.out; clear hSw; have z0 := ((KB.out.older (older_below kb)).cell 0).trans (show _ = some (.int .u16 (i : Int)) from rfl); have z1 := ((KB.out.older (older_below kb)).cell 1).trans (show _ = some (.int .u8 (t : Int)) from rfl); have z2 := ((KB.out.older (older_below kb)).cell 2).trans (show _ = some (.int .u8 (p : Int)) from rfl); have z3 := ((KB.out.older (older_below kb)).cell 3).trans (show _ = some (.int .u32 (s : Int)) from rfl); have z4 := ((KB.out.older (older_below kb)).cell 4).trans (show _ = some (.int .u32 (d : Int)) from rfl); have z5 := ((KB.out.older (older_below kb)).cell 5).trans (show _ = some (.slice A n c) from rfl); clear kb; go_simp <;> with_reducible rfl
    simp only [Act.put, List.setIfInBounds_toArray, List.set_cons_zero, List.set_cons_succ]
    refine held_take (i := 6) (d := (some 24)) (v := ?_) rfl rfl (by kernel_rfl) (by kernel_rfl) (by kernel_rfl) (fun _ _ _ h => h) (by rfl) ?_ hS ?_
    rotate_left
    · intro w' hSw; (try dsimp only at hSw); go_simp <;> with_reducible rfl
    simp only [Act.put, List.setIfInBounds_toArray, List.set_cons_zero, List.set_cons_succ]
    refine held_take (i := 7) (d := (some 25)) (v := ?_) rfl rfl (by kernel_rfl) (by kernel_rfl) (by kernel_rfl) (fun _ _ _ h => h) (by rfl) ?_ hS ?_
    rotate_left
    · intro w' hSw; have kb := hSw.out; clear hSw; have z0 := ((KB.out.older (older_below kb)).cell 0).trans (show _ = some (.int .u16 (i : Int)) from rfl); have z1 := ((KB.out.older (older_below kb)).cell 1).trans (show _ = some (.int .u8 (t : Int)) from rfl); have z2 := ((KB.out.older (older_below kb)).cell 2).trans (show _ = some (.int .u8 (p : Int)) from rfl); have z3 := ((KB.out.older (older_below kb)).cell 3).trans (show _ = some (.int .u32 (s : Int)) from rfl); have z4 := ((KB.out.older (older_below kb)).cell 4).trans (show _ = some (.int .u32 (d : Int)) from rfl); have z5 := ((KB.out.older (older_below kb)).cell 5).trans (show _ = some (.slice A n c) from rfl); clear kb; go_simp <;> with_reducible rfl
    simp only [Act.put, List.setIfInBounds_toArray, List.set_cons_zero, List.set_cons_succ]
    refine held_take (i := 8) (d := (some 26)) (v := ?_) rfl rfl (by kernel_rfl) (by kernel_rfl) (by kernel_rfl) (fun _ _ _ h => h) (by rfl) ?_ hS ?_
    rotate_left
    · intro w' hSw; (try dsimp only at hSw); go_simp <;> with_reducible rfl
    simp only [Act.put, List.setIfInBounds_toArray, List.set_cons_zero, List.set_cons_succ]
    refine held_take (i := 9) (d := (some 27)) (v := ?_) rfl rfl (by kernel_rfl) (by kernel_rfl) (by kernel_rfl) (fun _ _ _ h => h) (by rfl) ?_ hS ?_
    rotate_left
    · intro w' hSw; have kb := hSw.out; clear hSw; have z0 := ((KB.out.older (older_below kb)).cell 0).trans (show _ = some (.int .u16 (i : Int)) from rfl); have z1 := ((KB.out.older (older_below kb)).cell 1).trans (show _ = some (.int .u8 (t : Int)) from rfl); have z2 := ((KB.out.older (older_below kb)).cell 2).trans (show _ = some (.int .u8 (p : Int)) from rfl); have z3 := ((KB.out.older (older_below kb)).cell 3).trans (show _ = some (.int .u32 (s : Int)) from rfl); have z4 := ((KB.out.older (older_below kb)).cell 4).trans (show _ = some (.int .u32 (d : Int)) from rfl); have z5 := ((KB.out.older (older_below kb)).cell 5).trans (show _ = some (.slice A n c) from rfl); clear kb; go_simp <;> with_reducible rfl
    simp only [Act.put, List.setIfInBounds_toArray, List.set_cons_zero, List.set_cons_succ]
    refine held_take (i := 11) (d := (some 29)) (v := ?_) rfl rfl (by kernel_rfl) (by kernel_rfl) (by kernel_rfl) (fun _ _ _ h => h) (by rfl) ?_ hS ?_
    rotate_left
    · intro w' hSw; (try dsimp only at hSw); go_simp <;> with_reducible rfl
    simp only [Act.put, List.setIfInBounds_toArray, List.set_cons_zero, List.set_cons_succ]
    refine held_take (i := 12) (d := (some 30)) (v := ?_) rfl rfl (by kernel_rfl) (by kernel_rfl) (by kernel_rfl) (fun _ _ _ h => h) (by rfl) ?_ hS ?_
    rotate_left
    · intro w' hSw; have kb := hSw.out; clear hSw; have z0 := ((KB.out.older (older_below kb)).cell 0).trans (show _ = some (.int .u16 (i : Int)) from rfl); have z1 := ((KB.out.older (older_below kb)).cell 1).trans (show _ = some (.int .u8 (t : Int)) from rfl); have z2 := ((KB.out.older (older_below kb)).cell 2).trans (show _ = some (.int .u8 (p : Int)) from rfl); have z3 := ((KB.out.older (older_below kb)).cell 3).trans (show _ = some (.int .u32 (s : Int)) from rfl); have z4 := ((KB.out.older (older_below kb)).cell 4).trans (show _ = some (.int .u32 (d : Int)) from rfl); have z5 := ((KB.out.older (older_below kb)).cell 5).trans (show _ = some (.slice A n c) from rfl); clear kb; go_simp <;> with_reducible rfl
    simp only [Act.put, List.setIfInBounds_toArray, List.set_cons_zero, List.set_cons_succ]
    refine held_take (i := 14) (d := (some 32)) (v := ?_) rfl rfl (by kernel_rfl) (by kernel_rfl) (by kernel_rfl) (fun _ _ _ h => h) (by rfl) ?_ hS ?_
    rotate_left
    · intro w' hSw; (try dsimp only at hSw); go_simp <;> with_reducible rfl
    simp only [Act.put, List.setIfInBounds_toArray, List.set_cons_zero, List.set_cons_succ]
    refine held_take (i := 15) (d := (some 33)) (v := ?_) rfl rfl (by kernel_rfl) (by kernel_rfl) (by kernel_rfl) (fun _ _ _ h => h) (by rfl) ?_ hS ?_
    rotate_left
    · intro w' hSw; have kb := hSw.out; clear hSw; have z0 := ((KB.out.older (older_below kb)).cell 0).trans (show _ = some (.int .u16 (i : Int)) from rfl); have z1 := ((KB.out.older (older_below kb)).cell 1).trans (show _ = some (.int .u8 (t : Int)) from rfl); have z2 := ((KB.out.older (older_below kb)).cell 2).trans (show _ = some (.int .u8 (p : Int)) from rfl); have z3 := ((KB.out.older (older_below kb)).cell 3).trans (show _ = some (.int .u32 (s : Int)) from rfl); have z4 := ((KB.out.older (older_below kb)).cell 4).trans (show _ = some (.int .u32 (d : Int)) from rfl); have z5 := ((KB.out.older (older_below kb)).cell 5).trans (show _ = some (.slice A n c) from rfl); clear kb; go_simp <;> with_reducible rfl
    simp only [Act.put, List.setIfInBounds_toArray, List.set_cons_zero, List.set_cons_succ]
    refine held_take (i := 17) (d := (some 35)) (v := ?_) rfl rfl (by kernel_rfl) (by kernel_rfl) (by kernel_rfl) (fun _ _ _ h => h) (by rfl) ?_ hS ?_
    rotate_left
    · intro w' hSw; (try dsimp only at hSw); go_simp <;> with_reducible rfl
    simp only [Act.put, List.setIfInBounds_toArray, List.set_cons_zero, List.set_cons_succ]
    refine held_take (i := 18) (d := (some 36)) (v := ?_) rfl rfl (by kernel_rfl) (by kernel_rfl) (by kernel_rfl) (fun _ _ _ h => h) (by rfl) ?_ hS ?_
    rotate_left
    · intro w' hSw; have kb := hSw.out; clear hSw; have z0 := ((KB.out.older (older_below kb)).cell 0).trans (show _ = some (.int .u16 (i : Int)) from rfl); have z1 := ((KB.out.older (older_below kb)).cell 1).trans (show _ = some (.int .u8 (t : Int)) from rfl); have z2 := ((KB.out.older (older_below kb)).cell 2).trans (show _ = some (.int .u8 (p : Int)) from rfl); have z3 := ((KB.out.older (older_below kb)).cell 3).trans (show _ = some (.int .u32 (s : Int)) from rfl); have z4 := ((KB.out.older (older_below kb)).cell 4).trans (show _ = some (.int .u32 (d : Int)) from rfl); have z5 := ((KB.out.older (older_below kb)).cell 5).trans (show _ = some (.slice A n c) from rfl); clear kb; go_simp <;> with_reducible rfl
    simp only [Act.put, List.setIfInBounds_toArray, List.set_cons_zero, List.set_cons_succ]
    refine held_take (i := 20) (d := (some 38)) (v := ?_) rfl rfl (by kernel_rfl) (by kernel_rfl) (by kernel_rfl) (fun _ _ _ h => h) (by rfl) ?_ hS ?_
    rotate_left
    · intro w' hSw; (try dsimp only at hSw); go_simp <;> with_reducible rfl
    simp only [Act.put, List.setIfInBounds_toArray, List.set_cons_zero, List.set_cons_succ]
    refine held_take (i := 21) (d := (some 39)) (v := ?_) rfl rfl (by kernel_rfl) (by kernel_rfl) (by kernel_rfl) (fun _ _ _ h => h) (by rfl) ?_ hS ?_
    rotate_left
    · intro w' hSw; have kb := hSw.out; clear hSw; have z0 := ((KB.out.older (older_below kb)).cell 0).trans (show _ = some (.int .u16 (i : Int)) from rfl); have z1 := ((KB.out.older (older_below kb)).cell 1).trans (show _ = some (.int .u8 (t : Int)) from rfl); have z2 := ((KB.out.older (older_below kb)).cell 2).trans (show _ = some (.int .u8 (p : Int)) from rfl); have z3 := ((KB.out.older (older_below kb)).cell 3).trans (show _ = some (.int .u32 (s : Int)) from rfl); have z4 := ((KB.out.older (older_below kb)).cell 4).trans (show _ = some (.int .u32 (d : Int)) from rfl); have z5 := ((KB.out.older (older_below kb)).cell 5).trans (show _ = some (.slice A n c) from rfl); clear kb; go_simp <;> with_reducible rfl
    simp only [Act.put, List.setIfInBounds_toArray, List.set_cons_zero, List.set_cons_succ]
    refine held_two (i := 0) (j := 24) (by kernel_rfl) rfl rfl (by rfl) (by rfl) ?_ ?_
    · go_simp
      refine (C0.out _).mono ?_; rintro e wq ⟨rfl, rfl⟩
      refine ⟨hS, ?_⟩
      (try simp only [Act.put, List.setIfInBounds_toArray, List.set_cons_zero, List.set_cons_succ])
      refine held_two (i := 10) (j := 24) (by kernel_rfl) rfl rfl (by rfl) (by rfl) ?_ ?_
      · go_simp
        refine (C1.out _).mono ?_; rintro e wq ⟨rfl, rfl⟩
        refine ⟨hS, ?_⟩
        (try simp only [Act.put, List.setIfInBounds_toArray, List.set_cons_zero, List.set_cons_succ])
        refine held_two (i := 13) (j := 24) (by kernel_rfl) rfl rfl (by rfl) (by rfl) ?_ ?_
        · go_simp
          refine (C2.out _).mono ?_; rintro e wq ⟨rfl, rfl⟩
          refine ⟨hS, ?_⟩
          (try simp only [Act.put, List.setIfInBounds_toArray, List.set_cons_zero, List.set_cons_succ])
          refine held_two (i := 16) (j := 24) (by kernel_rfl) rfl rfl (by rfl) (by rfl) ?_ ?_
          · go_simp
            refine (C3.out _).mono ?_; rintro e wq ⟨rfl, rfl⟩
            refine ⟨hS, ?_⟩
            (try simp only [Act.put, List.setIfInBounds_toArray, List.set_cons_zero, List.set_cons_succ])
            refine held_two (i := 19) (j := 24) (by kernel_rfl) rfl rfl (by rfl) (by rfl) ?_ ?_
            · go_simp
              refine (C4.out _).mono ?_; rintro e wq ⟨rfl, rfl⟩
              refine ⟨hS, ?_⟩
              (try simp only [Act.put, List.setIfInBounds_toArray, List.set_cons_zero, List.set_cons_succ])
              refine held_two (i := 22) (j := 24) (by kernel_rfl) rfl rfl (by rfl) (by rfl) ?_ ?_
              · go_simp
                refine (C5.out _).mono ?_; rintro e wq ⟨rfl, rfl⟩
                refine ⟨hS, ?_⟩
                (try simp only [Act.put, List.setIfInBounds_toArray, List.set_cons_zero, List.set_cons_succ])
                refine held_take (i := 23) (d := (some 41)) (v := ?_) rfl rfl (by kernel_rfl) (by kernel_rfl) (by kernel_rfl) (fun _ _ _ h => h) (by rfl) ?_ hS ?_
                rotate_left
                · intro w' hSw; (try dsimp only at hSw); go_simp <;> with_reducible rfl
                simp only [Act.put, List.setIfInBounds_toArray, List.set_cons_zero, List.set_cons_succ]
                refine held_one (i := 24) (by kernel_rfl) rfl (by rfl) ?_
                go_simp
                have AB := Lib.hid (blk_of hS.out 57 #[.int .u16 0, .int .u16 0, .int .u16 0, .int .u16 0, .int .u16 0, .int .u16 0, .int .u16 0, .int .u16 0, .int .u16 0, .int .u16 0])
                have hS := Lib.hid (hS.out.alloc hS.out.size (.cells #[.int .u16 0, .int .u16 0, .int .u16 0, .int .u16 0, .int .u16 0, .int .u16 0, .int .u16 0, .int .u16 0, .int .u16 0, .int .u16 0] 57))
                refine ⟨hS, ?_⟩
                (try simp only [Act.put, List.setIfInBounds_toArray, List.set_cons_zero, List.set_cons_succ])
                refine held_one (i := 25) (by kernel_rfl) rfl (by rfl) ?_
                refine wp_store_row_n rfl 57 (.tmp 6) (.tmp 41) rfl _ #[.int .u16 17664, .int .u16 (20 + (m : Int)), .int .u16 (i : Int), .int .u16 16384, .int .u16 ((t : Int) * 256 + (p : Int)), .int .u16 0, .int .u16 ((s : Int) / 65536), .int .u16 ((s : Int) % 65536), .int .u16 ((d : Int) / 65536), .int .u16 ((d : Int) % 65536)] rfl rfl 57 _ AB.out.1 arr_info rfl (by simp [Value.oneCell']) ?_
                have AC := Lib.hid (AB.out.1.setRow #[.int .u16 17664, .int .u16 (20 + (m : Int)), .int .u16 (i : Int), .int .u16 16384, .int .u16 ((t : Int) * 256 + (p : Int)), .int .u16 0, .int .u16 ((s : Int) / 65536), .int .u16 ((s : Int) % 65536), .int .u16 ((d : Int) / 65536), .int .u16 ((d : Int) % 65536)])
                have hS := Lib.hid (below_setRow hS.out AB.out.2 #[.int .u16 17664, .int .u16 (20 + (m : Int)), .int .u16 (i : Int), .int .u16 16384, .int .u16 ((t : Int) * 256 + (p : Int)), .int .u16 0, .int .u16 ((s : Int) / 65536), .int .u16 ((s : Int) % 65536), .int .u16 ((d : Int) / 65536), .int .u16 ((d : Int) % 65536)])
                refine ⟨hS, ?_⟩
                (try simp only [Act.put, List.setIfInBounds_toArray, List.set_cons_zero, List.set_cons_succ])
                refine wpAnyH_done (by kernel_rfl) ?_ _
                go_wp2
                go_meet
                exact ⟨_, rfl, AC, AB.out.2, hS⟩
              · go_simp
                have AB := Lib.hid (blk_of hS.out 57 #[.int .u16 0, .int .u16 0, .int .u16 0, .int .u16 0, .int .u16 0, .int .u16 0, .int .u16 0, .int .u16 0, .int .u16 0, .int .u16 0])
                have hS := Lib.hid (hS.out.alloc hS.out.size (.cells #[.int .u16 0, .int .u16 0, .int .u16 0, .int .u16 0, .int .u16 0, .int .u16 0, .int .u16 0, .int .u16 0, .int .u16 0, .int .u16 0] 57))
                refine ⟨hS, ?_⟩
                (try simp only [Act.put, List.setIfInBounds_toArray, List.set_cons_zero, List.set_cons_succ])
                refine held_one (i := 22) (by kernel_rfl) rfl (by rfl) ?_
                go_simp
                refine (C5.out _).mono ?_; rintro e wq ⟨rfl, rfl⟩
                refine ⟨hS, ?_⟩
                (try simp only [Act.put, List.setIfInBounds_toArray, List.set_cons_zero, List.set_cons_succ])
                refine held_take (i := 23) (d := (some 41)) (v := ?_) rfl rfl (by kernel_rfl) (by kernel_rfl) (by kernel_rfl) (fun _ _ _ h => h) (by rfl) ?_ hS ?_
                rotate_left
                · intro w' hSw; (try dsimp only at hSw); go_simp <;> with_reducible rfl
                simp only [Act.put, List.setIfInBounds_toArray, List.set_cons_zero, List.set_cons_succ]
                refine held_one (i := 25) (by kernel_rfl) rfl (by rfl) ?_
                refine wp_store_row_n rfl 57 (.tmp 6) (.tmp 41) rfl _ #[.int .u16 17664, .int .u16 (20 + (m : Int)), .int .u16 (i : Int), .int .u16 16384, .int .u16 ((t : Int) * 256 + (p : Int)), .int .u16 0, .int .u16 ((s : Int) / 65536), .int .u16 ((s : Int) % 65536), .int .u16 ((d : Int) / 65536), .int .u16 ((d : Int) % 65536)] rfl rfl 57 _ AB.out.1 arr_info rfl (by simp [Value.oneCell']) ?_
                have AC := Lib.hid (AB.out.1.setRow #[.int .u16 17664, .int .u16 (20 + (m : Int)), .int .u16 (i : Int), .int .u16 16384, .int .u16 ((t : Int) * 256 + (p : Int)), .int .u16 0, .int .u16 ((s : Int) / 65536), .int .u16 ((s : Int) % 65536), .int .u16 ((d : Int) / 65536), .int .u16 ((d : Int) % 65536)])
                have hS := Lib.hid (below_setRow hS.out AB.out.2 #[.int .u16 17664, .int .u16 (20 + (m : Int)), .int .u16 (i : Int), .int .u16 16384, .int .u16 ((t : Int) * 256 + (p : Int)), .int .u16 0, .int .u16 ((s : Int) / 65536), .int .u16 ((s : Int) % 65536), .int .u16 ((d : Int) / 65536), .int .u16 ((d : Int) % 65536)])
                refine ⟨hS, ?_⟩
                (try simp only [Act.put, List.setIfInBounds_toArray, List.set_cons_zero, List.set_cons_succ])
                refine wpAnyH_done (by kernel_rfl) ?_ _
                go_wp2
                go_meet
                exact ⟨_, rfl, AC, AB.out.2, hS⟩
            · go_simp
              have AB := Lib.hid (blk_of hS.out 57 #[.int .u16 0, .int .u16 0, .int .u16 0, .int .u16 0, .int .u16 0, .int .u16 0, .int .u16 0, .int .u16 0, .int .u16 0, .int .u16 0])
              have hS := Lib.hid (hS.out.alloc hS.out.size (.cells #[.int .u16 0, .int .u16 0, .int .u16 0, .int .u16 0, .int .u16 0, .int .u16 0, .int .u16 0, .int .u16 0, .int .u16 0, .int .u16 0] 57))
              refine ⟨hS, ?_⟩
              (try simp only [Act.put, List.setIfInBounds_toArray, List.set_cons_zero, List.set_cons_succ])
              refine held_one (i := 19) (by kernel_rfl) rfl (by rfl) ?_
              go_simp
              refine (C4.out _).mono ?_; rintro e wq ⟨rfl, rfl⟩
              refine ⟨hS, ?_⟩
              (try simp only [Act.put, List.setIfInBounds_toArray, List.set_cons_zero, List.set_cons_succ])
              refine held_one (i := 22) (by kernel_rfl) rfl (by rfl) ?_
              go_simp
              refine (C5.out _).mono ?_; rintro e wq ⟨rfl, rfl⟩
              refine ⟨hS, ?_⟩
              (try simp only [Act.put, List.setIfInBounds_toArray, List.set_cons_zero, List.set_cons_succ])
              refine held_take (i := 23) (d := (some 41)) (v := ?_) rfl rfl (by kernel_rfl) (by kernel_rfl) (by kernel_rfl) (fun _ _ _ h => h) (by rfl) ?_ hS ?_
              rotate_left
              · intro w' hSw; (try dsimp only at hSw); go_simp <;> with_reducible rfl
              simp only [Act.put, List.setIfInBounds_toArray, List.set_cons_zero, List.set_cons_succ]
              refine held_one (i := 25) (by kernel_rfl) rfl (by rfl) ?_
              refine wp_store_row_n rfl 57 (.tmp 6) (.tmp 41) rfl _ #[.int .u16 17664, .int .u16 (20 + (m : Int)), .int .u16 (i : Int), .int .u16 16384, .int .u16 ((t : Int) * 256 + (p : Int)), .int .u16 0, .int .u16 ((s : Int) / 65536), .int .u16 ((s : Int) % 65536), .int .u16 ((d : Int) / 65536), .int .u16 ((d : Int) % 65536)] rfl rfl 57 _ AB.out.1 arr_info rfl (by simp [Value.oneCell']) ?_
              have AC := Lib.hid (AB.out.1.setRow #[.int .u16 17664, .int .u16 (20 + (m : Int)), .int .u16 (i : Int), .int .u16 16384, .int .u16 ((t : Int) * 256 + (p : Int)), .int .u16 0, .int .u16 ((s : Int) / 65536), .int .u16 ((s : Int) % 65536), .int .u16 ((d : Int) / 65536), .int .u16 ((d : Int) % 65536)])
              have hS := Lib.hid (below_setRow hS.out AB.out.2 #[.int .u16 17664, .int .u16 (20 + (m : Int)), .int .u16 (i : Int), .int .u16 16384, .int .u16 ((t : Int) * 256 + (p : Int)), .int .u16 0, .int .u16 ((s : Int) / 65536), .int .u16 ((s : Int) % 65536), .int .u16 ((d : Int) / 65536), .int .u16 ((d : Int) % 65536)])
              refine ⟨hS, ?_⟩
              (try simp only [Act.put, List.setIfInBounds_toArray, List.set_cons_zero, List.set_cons_succ])
              refine wpAnyH_done (by kernel_rfl) ?_ _
              go_wp2
              go_meet
              exact ⟨_, rfl, AC, AB.out.2, hS⟩
          · go_simp
            have AB := Lib.hid (blk_of hS.out 57 #[.int .u16 0, .int .u16 0, .int .u16 0, .int .u16 0, .int .u16 0, .int .u16 0, .int .u16 0, .int .u16 0, .int .u16 0, .int .u16 0])
            have hS := Lib.hid (hS.out.alloc hS.out.size (.cells #[.int .u16 0, .int .u16 0, .int .u16 0, .int .u16 0, .int .u16 0, .int .u16 0, .int .u16 0, .int .u16 0, .int .u16 0, .int .u16 0] 57))
            refine ⟨hS, ?_⟩
            (try simp only [Act.put, List.setIfInBounds_toArray, List.set_cons_zero, List.set_cons_succ])
            refine held_one (i := 16) (by kernel_rfl) rfl (by rfl) ?_
            go_simp
            refine (C3.out _).mono ?_; rintro e wq ⟨rfl, rfl⟩
            refine ⟨hS, ?_⟩
            (try simp only [Act.put, List.setIfInBounds_toArray, List.set_cons_zero, List.set_cons_succ])
            refine held_one (i := 19) (by kernel_rfl) rfl (by rfl) ?_
            go_simp
            refine (C4.out _).mono ?_; rintro e wq ⟨rfl, rfl⟩
            refine ⟨hS, ?_⟩
            (try simp only [Act.put, List.setIfInBounds_toArray, List.set_cons_zero, List.set_cons_succ])
            refine held_one (i := 22) (by kernel_rfl) rfl (by rfl) ?_
            go_simp
            refine (C5.out _).mono ?_; rintro e wq ⟨rfl, rfl⟩
            refine ⟨hS, ?_⟩
            (try simp only [Act.put, List.setIfInBounds_toArray, List.set_cons_zero, List.set_cons_succ])
            refine held_take (i := 23) (d := (some 41)) (v := ?_) rfl rfl (by kernel_rfl) (by kernel_rfl) (by kernel_rfl) (fun _ _ _ h => h) (by rfl) ?_ hS ?_
            rotate_left
            · intro w' hSw; (try dsimp only at hSw); go_simp <;> with_reducible rfl
            simp only [Act.put, List.setIfInBounds_toArray, List.set_cons_zero, List.set_cons_succ]
            refine held_one (i := 25) (by kernel_rfl) rfl (by rfl) ?_
            refine wp_store_row_n rfl 57 (.tmp 6) (.tmp 41) rfl _ #[.int .u16 17664, .int .u16 (20 + (m : Int)), .int .u16 (i : Int), .int .u16 16384, .int .u16 ((t : Int) * 256 + (p : Int)), .int .u16 0, .int .u16 ((s : Int) / 65536), .int .u16 ((s : Int) % 65536), .int .u16 ((d : Int) / 65536), .int .u16 ((d : Int) % 65536)] rfl rfl 57 _ AB.out.1 arr_info rfl (by simp [Value.oneCell']) ?_
            have AC := Lib.hid (AB.out.1.setRow #[.int .u16 17664, .int .u16 (20 + (m : Int)), .int .u16 (i : Int), .int .u16 16384, .int .u16 ((t : Int) * 256 + (p : Int)), .int .u16 0, .int .u16 ((s : Int) / 65536), .int .u16 ((s : Int) % 65536), .int .u16 ((d : Int) / 65536), .int .u16 ((d : Int) % 65536)])
            have hS := Lib.hid (below_setRow hS.out AB.out.2 #[.int .u16 17664, .int .u16 (20 + (m : Int)), .int .u16 (i : Int), .int .u16 16384, .int .u16 ((t : Int) * 256 + (p : Int)), .int .u16 0, .int .u16 ((s : Int) / 65536), .int .u16 ((s : Int) % 65536), .int .u16 ((d : Int) / 65536), .int .u16 ((d : Int) % 65536)])
            refine ⟨hS, ?_⟩
            (try simp only [Act.put, List.setIfInBounds_toArray, List.set_cons_zero, List.set_cons_succ])
            refine wpAnyH_done (by kernel_rfl) ?_ _
            go_wp2
            go_meet
            exact ⟨_, rfl, AC, AB.out.2, hS⟩
        · go_simp
          have AB := Lib.hid (blk_of hS.out 57 #[.int .u16 0, .int .u16 0, .int .u16 0, .int .u16 0, .int .u16 0, .int .u16 0, .int .u16 0, .int .u16 0, .int .u16 0, .int .u16 0])
          have hS := Lib.hid (hS.out.alloc hS.out.size (.cells #[.int .u16 0, .int .u16 0, .int .u16 0, .int .u16 0, .int .u16 0, .int .u16 0, .int .u16 0, .int .u16 0, .int .u16 0, .int .u16 0] 57))
          refine ⟨hS, ?_⟩
          (try simp only [Act.put, List.setIfInBounds_toArray, List.set_cons_zero, List.set_cons_succ])
          refine held_one (i := 13) (by kernel_rfl) rfl (by rfl) ?_
          go_simp
          refine (C2.out _).mono ?_; rintro e wq ⟨rfl, rfl⟩
          refine ⟨hS, ?_⟩
          (try simp only [Act.put, List.setIfInBounds_toArray, List.set_cons_zero, List.set_cons_succ])
          refine held_one (i := 16) (by kernel_rfl) rfl (by rfl) ?_
          go_simp
          refine (C3.out _).mono ?_; rintro e wq ⟨rfl, rfl⟩
          refine ⟨hS, ?_⟩
          (try simp only [Act.put, List.setIfInBounds_toArray, List.set_cons_zero, List.set_cons_succ])
          refine held_one (i := 19) (by kernel_rfl) rfl (by rfl) ?_
          go_simp
          refine (C4.out _).mono ?_; rintro e wq ⟨rfl, rfl⟩
          refine ⟨hS, ?_⟩
          (try simp only [Act.put, List.setIfInBounds_toArray, List.set_cons_zero, List.set_cons_succ])
          refine held_one (i := 22) (by kernel_rfl) rfl (by rfl) ?_
          go_simp
          refine (C5.out _).mono ?_; rintro e wq ⟨rfl, rfl⟩
          refine ⟨hS, ?_⟩
          (try simp only [Act.put, List.setIfInBounds_toArray, List.set_cons_zero, List.set_cons_succ])
          refine held_take (i := 23) (d := (some 41)) (v := ?_) rfl rfl (by kernel_rfl) (by kernel_rfl) (by kernel_rfl) (fun _ _ _ h => h) (by rfl) ?_ hS ?_
          rotate_left
          · intro w' hSw; (try dsimp only at hSw); go_simp <;> with_reducible rfl
          simp only [Act.put, List.setIfInBounds_toArray, List.set_cons_zero, List.set_cons_succ]
          refine held_one (i := 25) (by kernel_rfl) rfl (by rfl) ?_
          refine wp_store_row_n rfl 57 (.tmp 6) (.tmp 41) rfl _ #[.int .u16 17664, .int .u16 (20 + (m : Int)), .int .u16 (i : Int), .int .u16 16384, .int .u16 ((t : Int) * 256 + (p : Int)), .int .u16 0, .int .u16 ((s : Int) / 65536), .int .u16 ((s : Int) % 65536), .int .u16 ((d : Int) / 65536), .int .u16 ((d : Int) % 65536)] rfl rfl 57 _ AB.out.1 arr_info rfl (by simp [Value.oneCell']) ?_
          have AC := Lib.hid (AB.out.1.setRow #[.int .u16 17664, .int .u16 (20 + (m : Int)), .int .u16 (i : Int), .int .u16 16384, .int .u16 ((t : Int) * 256 + (p : Int)), .int .u16 0, .int .u16 ((s : Int) / 65536), .int .u16 ((s : Int) % 65536), .int .u16 ((d : Int) / 65536), .int .u16 ((d : Int) % 65536)])
          have hS := Lib.hid (below_setRow hS.out AB.out.2 #[.int .u16 17664, .int .u16 (20 + (m : Int)), .int .u16 (i : Int), .int .u16 16384, .int .u16 ((t : Int) * 256 + (p : Int)), .int .u16 0, .int .u16 ((s : Int) / 65536), .int .u16 ((s : Int) % 65536), .int .u16 ((d : Int) / 65536), .int .u16 ((d : Int) % 65536)])
          refine ⟨hS, ?_⟩
          (try simp only [Act.put, List.setIfInBounds_toArray, List.set_cons_zero, List.set_cons_succ])
          refine wpAnyH_done (by kernel_rfl) ?_ _
          go_wp2
          go_meet
          exact ⟨_, rfl, AC, AB.out.2, hS⟩
      · go_simp
        have AB := Lib.hid (blk_of hS.out 57 #[.int .u16 0, .int .u16 0, .int .u16 0, .int .u16 0, .int .u16 0, .int .u16 0, .int .u16 0, .int .u16 0, .int .u16 0, .int .u16 0])
        have hS := Lib.hid (hS.out.alloc hS.out.size (.cells #[.int .u16 0, .int .u16 0, .int .u16 0, .int .u16 0, .int .u16 0, .int .u16 0, .int .u16 0, .int .u16 0, .int .u16 0, .int .u16 0] 57))
        refine ⟨hS, ?_⟩
        (try simp only [Act.put, List.setIfInBounds_toArray, List.set_cons_zero, List.set_cons_succ])
        refine held_one (i := 10) (by kernel_rfl) rfl (by rfl) ?_
        go_simp
        refine (C1.out _).mono ?_; rintro e wq ⟨rfl, rfl⟩
        refine ⟨hS, ?_⟩
        (try simp only [Act.put, List.setIfInBounds_toArray, List.set_cons_zero, List.set_cons_succ])
        refine held_one (i := 13) (by kernel_rfl) rfl (by rfl) ?_
        go_simp
        refine (C2.out _).mono ?_; rintro e wq ⟨rfl, rfl⟩
        refine ⟨hS, ?_⟩
        (try simp only [Act.put, List.setIfInBounds_toArray, List.set_cons_zero, List.set_cons_succ])
        refine held_one (i := 16) (by kernel_rfl) rfl (by rfl) ?_
        go_simp
        refine (C3.out _).mono ?_; rintro e wq ⟨rfl, rfl⟩
        refine ⟨hS, ?_⟩
        (try simp only [Act.put, List.setIfInBounds_toArray, List.set_cons_zero, List.set_cons_succ])
        refine held_one (i := 19) (by kernel_rfl) rfl (by rfl) ?_
        go_simp
        refine (C4.out _).mono ?_; rintro e wq ⟨rfl, rfl⟩
        refine ⟨hS, ?_⟩
        (try simp only [Act.put, List.setIfInBounds_toArray, List.set_cons_zero, List.set_cons_succ])
        refine held_one (i := 22) (by kernel_rfl) rfl (by rfl) ?_
        go_simp
        refine (C5.out _).mono ?_; rintro e wq ⟨rfl, rfl⟩
        refine ⟨hS, ?_⟩
        (try simp only [Act.put, List.setIfInBounds_toArray, List.set_cons_zero, List.set_cons_succ])
        refine held_take (i := 23) (d := (some 41)) (v := ?_) rfl rfl (by kernel_rfl) (by kernel_rfl) (by kernel_rfl) (fun _ _ _ h => h) (by rfl) ?_ hS ?_
        rotate_left
        · intro w' hSw; (try dsimp only at hSw); go_simp <;> with_reducible rfl
        simp only [Act.put, List.setIfInBounds_toArray, List.set_cons_zero, List.set_cons_succ]
        refine held_one (i := 25) (by kernel_rfl) rfl (by rfl) ?_
        refine wp_store_row_n rfl 57 (.tmp 6) (.tmp 41) rfl _ #[.int .u16 17664, .int .u16 (20 + (m : Int)), .int .u16 (i : Int), .int .u16 16384, .int .u16 ((t : Int) * 256 + (p : Int)), .int .u16 0, .int .u16 ((s : Int) / 65536), .int .u16 ((s : Int) % 65536), .int .u16 ((d : Int) / 65536), .int .u16 ((d : Int) % 65536)] rfl rfl 57 _ AB.out.1 arr_info rfl (by simp [Value.oneCell']) ?_
        have AC := Lib.hid (AB.out.1.setRow #[.int .u16 17664, .int .u16 (20 + (m : Int)), .int .u16 (i : Int), .int .u16 16384, .int .u16 ((t : Int) * 256 + (p : Int)), .int .u16 0, .int .u16 ((s : Int) / 65536), .int .u16 ((s : Int) % 65536), .int .u16 ((d : Int) / 65536), .int .u16 ((d : Int) % 65536)])
        have hS := Lib.hid (below_setRow hS.out AB.out.2 #[.int .u16 17664, .int .u16 (20 + (m : Int)), .int .u16 (i : Int), .int .u16 16384, .int .u16 ((t : Int) * 256 + (p : Int)), .int .u16 0, .int .u16 ((s : Int) / 65536), .int .u16 ((s : Int) % 65536), .int .u16 ((d : Int) / 65536), .int .u16 ((d : Int) % 65536)])
        refine ⟨hS, ?_⟩
        (try simp only [Act.put, List.setIfInBounds_toArray, List.set_cons_zero, List.set_cons_succ])
        refine wpAnyH_done (by kernel_rfl) ?_ _
        go_wp2
        go_meet
        exact ⟨_, rfl, AC, AB.out.2, hS⟩
    · go_simp
      have AB := Lib.hid (blk_of hS.out 57 #[.int .u16 0, .int .u16 0, .int .u16 0, .int .u16 0, .int .u16 0, .int .u16 0, .int .u16 0, .int .u16 0, .int .u16 0, .int .u16 0])
      have hS := Lib.hid (hS.out.alloc hS.out.size (.cells #[.int .u16 0, .int .u16 0, .int .u16 0, .int .u16 0, .int .u16 0, .int .u16 0, .int .u16 0, .int .u16 0, .int .u16 0, .int .u16 0] 57))
      refine ⟨hS, ?_⟩
      (try simp only [Act.put, List.setIfInBounds_toArray, List.set_cons_zero, List.set_cons_succ])
      refine held_one (i := 0) (by kernel_rfl) rfl (by rfl) ?_
      go_simp
      refine (C0.out _).mono ?_; rintro e wq ⟨rfl, rfl⟩
      refine ⟨hS, ?_⟩
      (try simp only [Act.put, List.setIfInBounds_toArray, List.set_cons_zero, List.set_cons_succ])
      refine held_one (i := 10) (by kernel_rfl) rfl (by rfl) ?_
      go_simp
      refine (C1.out _).mono ?_; rintro e wq ⟨rfl, rfl⟩
      refine ⟨hS, ?_⟩
      (try simp only [Act.put, List.setIfInBounds_toArray, List.set_cons_zero, List.set_cons_succ])
      refine held_one (i := 13) (by kernel_rfl) rfl (by rfl) ?_
      go_simp
      refine (C2.out _).mono ?_; rintro e wq ⟨rfl, rfl⟩
      refine ⟨hS, ?_⟩
      (try simp only [Act.put, List.setIfInBounds_toArray, List.set_cons_zero, List.set_cons_succ])
      refine held_one (i := 16) (by kernel_rfl) rfl (by rfl) ?_
      go_simp
      refine (C3.out _).mono ?_; rintro e wq ⟨rfl, rfl⟩
      refine ⟨hS, ?_⟩
      (try simp only [Act.put, List.setIfInBounds_toArray, List.set_cons_zero, List.set_cons_succ])
      refine held_one (i := 19) (by kernel_rfl) rfl (by rfl) ?_
      go_simp
      refine (C4.out _).mono ?_; rintro e wq ⟨rfl, rfl⟩
      refine ⟨hS, ?_⟩
      (try simp only [Act.put, List.setIfInBounds_toArray, List.set_cons_zero, List.set_cons_succ])
      refine held_one (i := 22) (by kernel_rfl) rfl (by rfl) ?_
      go_simp
      refine (C5.out _).mono ?_; rintro e wq ⟨rfl, rfl⟩
      refine ⟨hS, ?_⟩
      (try simp only [Act.put, List.setIfInBounds_toArray, List.set_cons_zero, List.set_cons_succ])
      refine held_take (i := 23) (d := (some 41)) (v := ?_) rfl rfl (by kernel_rfl) (by kernel_rfl) (by kernel_rfl) (fun _ _ _ h => h) (by rfl) ?_ hS ?_
      rotate_left
      · intro w' hSw; (try dsimp only at hSw); go_simp <;> with_reducible rfl
      simp only [Act.put, List.setIfInBounds_toArray, List.set_cons_zero, List.set_cons_succ]
      refine held_one (i := 25) (by kernel_rfl) rfl (by rfl) ?_
      refine wp_store_row_n rfl 57 (.tmp 6) (.tmp 41) rfl _ #[.int .u16 17664, .int .u16 (20 + (m : Int)), .int .u16 (i : Int), .int .u16 16384, .int .u16 ((t : Int) * 256 + (p : Int)), .int .u16 0, .int .u16 ((s : Int) / 65536), .int .u16 ((s : Int) % 65536), .int .u16 ((d : Int) / 65536), .int .u16 ((d : Int) % 65536)] rfl rfl 57 _ AB.out.1 arr_info rfl (by simp [Value.oneCell']) ?_
      have AC := Lib.hid (AB.out.1.setRow #[.int .u16 17664, .int .u16 (20 + (m : Int)), .int .u16 (i : Int), .int .u16 16384, .int .u16 ((t : Int) * 256 + (p : Int)), .int .u16 0, .int .u16 ((s : Int) / 65536), .int .u16 ((s : Int) % 65536), .int .u16 ((d : Int) / 65536), .int .u16 ((d : Int) % 65536)])
      have hS := Lib.hid (below_setRow hS.out AB.out.2 #[.int .u16 17664, .int .u16 (20 + (m : Int)), .int .u16 (i : Int), .int .u16 16384, .int .u16 ((t : Int) * 256 + (p : Int)), .int .u16 0, .int .u16 ((s : Int) / 65536), .int .u16 ((s : Int) % 65536), .int .u16 ((d : Int) / 65536), .int .u16 ((d : Int) % 65536)])
      refine ⟨hS, ?_⟩
      (try simp only [Act.put, List.setIfInBounds_toArray, List.set_cons_zero, List.set_cons_succ])
      refine wpAnyH_done (by kernel_rfl) ?_ _
      go_wp2
      go_meet
      exact ⟨_, rfl, AC, AB.out.2, hS⟩
  case rest =>
    obtain ⟨g, rfl, AC, hg, BW⟩ := hcut
    have B2 := Lib.hid (B1.out.trans (BW.out.mono B1.out.size))
    have HG := Lib.hid (show w.heap.size ≤ g from Nat.le_trans B1.out.size hg)
    clear C0 C1 C2 C3 C4 C5 KB BW hg B1 hm1 hm2
    have eC : #[.int .u16 17664, .int .u16 (20 + (m : Int)), .int .u16 (i : Int), .int .u16 16384, .int .u16 ((t : Int) * 256 + (p : Int)), .int .u16 0, .int .u16 ((s : Int) / 65536), .int .u16 ((s : Int) % 65536), .int .u16 ((d : Int) / 65536), .int .u16 ((d : Int) % 65536)].toList = vw (hW i t p s d m 0) := by simp [vw, hW]
    have RG := rowG_blk (n := 10) (sz := 1) AC.out rfl (by decide)
    rw [eC] at RG
    have hs0 := hW_small HP.out hm (Nat.zero_le _)
    have PO := Lib.hid (show Calls Try.prog 25 #[.slice (some ⟨g, 0, none⟩) 10 10] wc (fun e w' => e = .returned (.complex .f64 (fl (evs (wb (hW i t p s d m 0)))) (fl (ods (wb (hW i t p s d m 0))))) ∧ wc = w') from partOf_any (some ⟨g, 0, none⟩) 10 (hW i t p s d m 0) wc RG hs0 (by show 10 ≤ 1000; omega))
    have hle := evs_le (wb (hW i t p s d m 0))
    rw [wb_length] at hle
    have hle : evs (wb (hW i t p s d m 0)) + ods (wb (hW i t p s d m 0)) ≤ 255 * 20 := hle
    have SU := Lib.hid (fun W => show Calls Try.prog 24 #[.complex .f64 (fl (evs (wb (hW i t p s d m 0)))) (fl (ods (wb (hW i t p s d m 0))))] W (fun e w' => e = .returned (.tuple #[.int .u16 (hSum i t p s d m : Nat), .int .i64 0]) ∧ W = w') from sum_ok _ _ (evs (wb (hW i t p s d m 0))) (ods (wb (hW i t p s d m 0))) W (read_fl (by omega)).rep (read_fl (by omega)).rep (by omega) (by omega))
    have AP := Lib.hid (show ∀ k : Nat, Blk (wc.setCell ⟨g, 5, none⟩ (.int .u16 (k : Int))) g 57 (vw (hW i t p s d m k)).toArray from fun k => by
      have := AC.out.put 5 (.int .u16 (k : Int))
      have e : #[.int .u16 17664, .int .u16 (20 + (m : Int)), .int .u16 (i : Int), .int .u16 16384, .int .u16 ((t : Int) * 256 + (p : Int)), .int .u16 (k : Int), .int .u16 ((s : Int) / 65536), .int .u16 ((s : Int) % 65536), .int .u16 ((d : Int) / 65536), .int .u16 ((d : Int) % 65536)] = (vw (hW i t p s d m k)).toArray := by simp [vw, hW]
      rw [← e]
      exact this)
    have IH := Lib.hid (show ipHead i t p s d m = wb (hW i t p s d m (hSum i t p s d m)) from rfl)
    have hk := hSum_le i t p s d m
    generalize hSum i t p s d m = k at *
    have HS := Lib.hid (hW_small HP.out hm hk)
    have c5 := (AC.out.cell 5).trans (show _ = some (.int .u16 0) from rfl)
    have f5 := AC.out.frozen 5
    clear eC RG hs0 hle hk AC
    go_wp2_with fail
    refine PO.out.mono ?_; rintro e wq ⟨rfl, rfl⟩
    go_wp2_with fail
    refine (SU.out _).mono ?_; rintro e wq ⟨rfl, rfl⟩
    have A5 := Lib.hid (AP.out k)
    have B3 := Lib.hid (B2.out.setCell (p := ⟨g, 5, none⟩) HG.out (.int .u16 (k : Int)))
    clear PO SU AP
    go_upto_region 8 with fail
    generalize wc.setCell ⟨g, 5, none⟩ (.int .u16 (k : Int)) = w3 at *
    have hmk : ∀ W, (Instr.makeSlice 27 (.int .i64 0) (.int .i64 20)).run Try.prog W = .ok (.slice (some ⟨W.heap.size, 0, none⟩) 0 20) (W.alloc (.cells (madeCells #[.int .u8 0] 20) 5)) := fun W => make_bytes 20 (by omega) W
    have hown := Lib.hid (World.ownsRow_made (base := w.heap.size) (e := 5) (size := 1) w3 (madeCells #[.int .u8 0] 20) 20 B3.out.size (by decide) (by rw [size_madeCells]))
    have B4 := Lib.hid (B3.out.alloc B3.out.size (.cells (madeCells #[.int .u8 0] 20) 5))
    have A6 := Lib.hid (A5.out.alloc (.cells (madeCells #[.int .u8 0] 20) 5))
    clear c5 f5
    go_upto_region 9 with fail
    generalize w3.alloc (.cells (madeCells #[.int .u8 0] 20) 5) = w4 at *
    clear hmk B3 A5
    obtain ⟨ws, hws⟩ : ∃ ws, hW i t p s d m k = ws := ⟨_, rfl⟩
    have hw10 : ws.length = 10 := by rw [← hws]; rfl
    rw [hws] at HS IH A6
    clear hws B2
    go_wp2_with (refine wpList_load_row rfl 57 (.tmp 6) rfl g rfl 57 _ (0, 0) _ A6.out Try.underlying57 rfl (by simp [vw, hw10, arr_info]) ?_)
    go_loopw [9, 55] (fun v j wr => ∃ q : Nat, q ≤ 10 ∧ j = .int .i64 (q : Int) ∧ Hid (wr.ownsRow w.heap.size 5 1 v (2 * q) (bys (wb (ws.take q)))) ∧ Hid (Below w.heap.size w wr)) (fun _ j _ => 10 - (intOf j).toNat)
    case atStart => exact ⟨0, Nat.zero_le _, rfl, hown, B4⟩
    case round =>
      obtain ⟨q, hq, rfl, OW, BL⟩ := hrel
      clear hown B4
      by_cases hlt : q < 10
      · have hlt' : (q : Int) < 10 := by omega
        have q0 : (0 : Int) ≤ (q : Int) := by omega
        have hql : q < ws.length := by omega
        have hx := HS.out ws[q] (List.getElem_mem hql)
        have TK := Lib.hid (show wb (ws.take (q + 1)) = wb (ws.take q) ++ [nb ws[q] 1, nb ws[q] 0] from by rw [List.take_succ_eq_append_getElem hql, wb_append]; rfl)
        have hix : (vw ws)[q]? = some (.int .u16 (ws[q] : Int)) := by simp [vw, hql]
        have IX := fun W => idx10 W (vw ws) q _ hlt hix
        generalize ws[q] = x at *
        have xj := IntWalk.i64_in ((q : Int) + 1) (by omega)
        have u1 := IntWalk.u8_in ((x : Int) / 256) (by omega)
        have hc1 : (x : Int) / 256 = ((nb x 1).toNat : Int) := by rw [nb1 hx]; omega
        have hc0 : (x : Int) % 256 = ((nb x 0).toNat : Int) := by rw [nb0]; omega
        clear hix
        generalize nb x 1 = y1 at *
        generalize nb x 0 = y0 at *
        have hs1 := Lib.hid (show Src (wr.alloc (.cells #[.int .u8 (y1.toNat : Int), .int .u8 (y0.toNat : Int)] 5)) (some ⟨wr.heap.size, 0, none⟩) 2 2 [y1, y0] from src_new wr [y1, y0] (by simp))
        have ho1 := Lib.hid (OW.out.alloc (.cells #[.int .u8 (y1.toNat : Int), .int .u8 (y0.toNat : Int)] 5))
        have B5 := Lib.hid (BL.out.alloc BL.out.size (.cells #[.int .u8 (y1.toNat : Int), .int .u8 (y0.toNat : Int)] 5))
        have S5 := Lib.hid B5.out.size
        go_wp2_with (at_builtin; refine Hid.out ?_)
        unfold Hid
        refine wpList_append_src rfl _ _ rfl w.heap.size _ (2 * q) (wb (ws.take q)) rfl ho1.out _ 2 2 [y1, y0] rfl hs1.out (by omega) S5.out ?_
        intro v3 w5 h31 h32
        have B6 := Lib.hid (B5.out.trans h32)
        have h31 := Lib.hid h31
        clear h32 hs1 ho1 BL OW B5 IX hc1 hc0 u1
        go_wp2
        go_roundw
        case rel => exact ⟨q + 1, by omega, by go_num, Lib.hid (by rw [TK.out]; exact h31.out), B6⟩
        case measure => simp [intOf]; omega
      · have hlt' : ¬ (q : Int) < 10 := by omega
        obtain rfl : q = 10 := by omega
        have ht : ws.take 10 = ws := List.take_of_length_le (by omega)
        have OW := OW.out
        rw [ht] at OW
        obtain ⟨g2, c2, rfl, O⟩ := OwnB.of OW (by omega)
        have O := Lib.hid O
        clear OW ht
        go_wp2
        go_ret2
        exact ⟨⟨g2, c2, rfl, by rw [IH.out]; exact O.out⟩, BL.out⟩
end Go.Proofs.Ytpnfmohejcdgfaa.Ip
