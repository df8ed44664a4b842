/- Whatever call comes in, 'pantlerlaw06.DiskNil' returns true and leaves it as it was. No condition. -/
import Derived.Test.YtdnlhfoninhcaaaDkDo
namespace Go.Proofs.Ytdnlhfoninhcaaa.diskNil
open Go.ChangeShapes Go.WideShapes Go.ChangeAt Go.RowKit Go.Deep Di
set_option linter.unusedVariables false


set_option maxRecDepth 100000 in
set_option maxHeartbeats 2000000 in
theorem nil0 (w : World) (env a b : Int) (s : ByteArray)  :
    Calls Try.prog 12 #[.pointer none, .agg #[.int .i64 0, .int .i64 env, .int .i64 a, .int .i64 b, .string s]] w fun e w' => e = .returned (.tuple #[.string ⟨#[]⟩, .int .i64 3]) ∧ Below w.heap.size w w' := by
  have B := Lib.hid ((Below.refl w.heap.size w).alloc (Nat.le_refl _) (.cells #[.int .i64 0, .int .i64 env, .int .i64 a, .int .i64 b, .string s] 34))
  have nil := fun k (W : World) => told_str (Src.nil (W.drewN k))
  have nil0 := fun (W : World) => told_str (Src.nil W)
  go_enter Try.func12, Try.ntmps12
  go_wp2_with fail
  refine (grant_nil _ _ _ _).mono ?_; rintro e w3 ⟨rfl, rfl⟩
  go_wp2
  go_ret2
  exact ⟨rfl, B.out⟩

set_option maxRecDepth 100000 in
set_option maxHeartbeats 2000000 in
theorem nil1 (w : World) (env a b : Int) (s : ByteArray)  :
    Calls Try.prog 12 #[.pointer none, .agg #[.int .i64 1, .int .i64 env, .int .i64 a, .int .i64 b, .string s]] w fun e w' => e = .returned (.tuple #[.string ⟨#[]⟩, .int .i64 3]) ∧ Below w.heap.size w w' := by
  have B := Lib.hid ((Below.refl w.heap.size w).alloc (Nat.le_refl _) (.cells #[.int .i64 1, .int .i64 env, .int .i64 a, .int .i64 b, .string s] 34))
  have nil := fun k (W : World) => told_str (Src.nil (W.drewN k))
  have nil0 := fun (W : World) => told_str (Src.nil W)
  go_enter Try.func12, Try.ntmps12
  go_wp2_with fail
  refine (read_nil _ _ _).mono ?_; rintro e w3 ⟨rfl, rfl⟩
  go_wp2
  go_ret2
  exact ⟨rfl, B.out⟩

set_option maxRecDepth 100000 in
set_option maxHeartbeats 2000000 in
theorem nil2 (w : World) (env a b : Int) (s : ByteArray) (hs : s.size ≤ 1000000) :
    Calls Try.prog 12 #[.pointer none, .agg #[.int .i64 2, .int .i64 env, .int .i64 a, .int .i64 b, .string s]] w fun e w' => e = .returned (.tuple #[.string ⟨#[]⟩, .int .i64 3]) ∧ Below w.heap.size w w' := by
  have B := Lib.hid ((Below.refl w.heap.size w).alloc (Nat.le_refl _) (.cells #[.int .i64 2, .int .i64 env, .int .i64 a, .int .i64 b, .string s] 34))
  have nil := fun k (W : World) => told_str (Src.nil (W.drewN k))
  have nil0 := fun (W : World) => told_str (Src.nil W)
  obtain ⟨A, c, w2, heq, hsrc, b2, _⟩ := conv_src s hs (w.alloc (.cells #[.int .i64 2, .int .i64 env, .int .i64 a, .int .i64 b, .string s] 34))
  have B2 := Lib.hid (B.out.trans (b2.mono B.out.size))
  clear hsrc b2
  go_enter Try.func12, Try.ntmps12
  go_wp2_with fail
  refine (write_nil _ _ _ _ _ _).mono ?_; rintro e w3 ⟨rfl, rfl⟩
  go_wp2
  go_ret2
  exact ⟨rfl, B2.out⟩

set_option maxRecDepth 100000 in
set_option maxHeartbeats 2000000 in
theorem nil3 (w : World) (env a b : Int) (s : ByteArray)  :
    Calls Try.prog 12 #[.pointer none, .agg #[.int .i64 3, .int .i64 env, .int .i64 a, .int .i64 b, .string s]] w fun e w' => e = .returned (.tuple #[.string ⟨#[]⟩, .int .i64 3]) ∧ Below w.heap.size w w' := by
  have B := Lib.hid ((Below.refl w.heap.size w).alloc (Nat.le_refl _) (.cells #[.int .i64 3, .int .i64 env, .int .i64 a, .int .i64 b, .string s] 34))
  have nil := fun k (W : World) => told_str (Src.nil (W.drewN k))
  have nil0 := fun (W : World) => told_str (Src.nil W)
  go_enter Try.func12, Try.ntmps12
  go_wp2_with fail
  refine (sync_nil _).mono ?_; rintro e w3 ⟨rfl, rfl⟩
  go_wp2
  go_ret2
  exact ⟨rfl, B.out⟩

set_option maxRecDepth 100000 in
set_option maxHeartbeats 2000000 in
theorem nil4 (w : World) (env a b : Int) (s : ByteArray)  :
    Calls Try.prog 12 #[.pointer none, .agg #[.int .i64 4, .int .i64 env, .int .i64 a, .int .i64 b, .string s]] w fun e w' => e = .returned (.tuple #[.string ⟨#[]⟩, .int .i64 0]) ∧ Below w.heap.size w w' := by
  have B := Lib.hid ((Below.refl w.heap.size w).alloc (Nat.le_refl _) (.cells #[.int .i64 4, .int .i64 env, .int .i64 a, .int .i64 b, .string s] 34))
  have nil := fun k (W : World) => told_str (Src.nil (W.drewN k))
  have nil0 := fun (W : World) => told_str (Src.nil W)
  go_enter Try.func12, Try.ntmps12
  go_wp2_with fail
  refine (arm_nil _ _).mono ?_; rintro e w3 ⟨rfl, rfl⟩
  go_wp2
  go_ret2
  exact ⟨rfl, B.out⟩

set_option maxRecDepth 100000 in
set_option maxHeartbeats 2000000 in
theorem nil5 (w : World) (env a b : Int) (s : ByteArray)  :
    Calls Try.prog 12 #[.pointer none, .agg #[.int .i64 5, .int .i64 env, .int .i64 a, .int .i64 b, .string s]] w fun e w' => e = .returned (.tuple #[.string ⟨#[]⟩, .int .i64 0]) ∧ Below w.heap.size w w' := by
  have B := Lib.hid ((Below.refl w.heap.size w).alloc (Nat.le_refl _) (.cells #[.int .i64 5, .int .i64 env, .int .i64 a, .int .i64 b, .string s] 34))
  have nil := fun k (W : World) => told_str (Src.nil (W.drewN k))
  have nil0 := fun (W : World) => told_str (Src.nil W)
  go_enter Try.func12, Try.ntmps12
  go_wp2_with fail
  refine (cut_nil _).mono ?_; rintro e w3 ⟨rfl, rfl⟩
  go_wp2
  go_ret2
  exact ⟨rfl, B.out⟩

set_option maxRecDepth 100000 in
set_option maxHeartbeats 2000000 in
theorem nil6 (w : World) (env a b : Int) (s : ByteArray)  :
    Calls Try.prog 12 #[.pointer none, .agg #[.int .i64 6, .int .i64 env, .int .i64 a, .int .i64 b, .string s]] w fun e w' => e = .returned (.tuple #[.string ⟨#[]⟩, .int .i64 3]) ∧ Below w.heap.size w w' := by
  have B := Lib.hid ((Below.refl w.heap.size w).alloc (Nat.le_refl _) (.cells #[.int .i64 6, .int .i64 env, .int .i64 a, .int .i64 b, .string s] 34))
  have nil := fun k (W : World) => told_str (Src.nil (W.drewN k))
  have nil0 := fun (W : World) => told_str (Src.nil W)
  go_enter Try.func12, Try.ntmps12
  go_wp2_with fail
  refine (revive_nil _ _).mono ?_; rintro e w3 ⟨rfl, rfl⟩
  go_wp2
  go_ret2
  exact ⟨rfl, B.out⟩

set_option maxRecDepth 100000 in
set_option maxHeartbeats 2000000 in
theorem nil7 (w : World) (kind : Int) (env a b : Int) (s : ByteArray) (q0 : kind ≠ 0) (q1 : kind ≠ 1) (q2 : kind ≠ 2) (q3 : kind ≠ 3) (q4 : kind ≠ 4) (q5 : kind ≠ 5) (q6 : kind ≠ 6) :
    Calls Try.prog 12 #[.pointer none, .agg #[.int .i64 kind, .int .i64 env, .int .i64 a, .int .i64 b, .string s]] w fun e w' => e = .returned (.tuple #[.string ⟨#[]⟩, .int .i64 0]) ∧ Below w.heap.size w w' := by
  have B := Lib.hid ((Below.refl w.heap.size w).alloc (Nat.le_refl _) (.cells #[.int .i64 kind, .int .i64 env, .int .i64 a, .int .i64 b, .string s] 34))
  have nil := fun k (W : World) => told_str (Src.nil (W.drewN k))
  have nil0 := fun (W : World) => told_str (Src.nil W)
  have d0 : (kind == 0) = false := by simpa using q0
  have d1 : (kind == 1) = false := by simpa using q1
  have d2 : (kind == 2) = false := by simpa using q2
  have d3 : (kind == 3) = false := by simpa using q3
  have d4 : (kind == 4) = false := by simpa using q4
  have d5 : (kind == 5) = false := by simpa using q5
  have d6 : (kind == 6) = false := by simpa using q6
  clear q0 q1 q2 q3 q4 q5 q6
  go_enter Try.func12, Try.ntmps12
  go_wp2
  go_ret2
  exact ⟨rfl, B.out⟩

theorem acts_one (w : World) (kind env a b : Int) (s : ByteArray) (ok : (⟨kind, env, a, b, s⟩ : Cmd).Ok) : Acts (w.alloc (.cells #[.int .i64 kind, .int .i64 env, .int .i64 a, .int .i64 b, .string s] 34)) (some ⟨w.heap.size, 0, none⟩) 1 (fun _ => ⟨kind, env, a, b, s⟩) := by
  intro i hi
  obtain rfl : i = 0 := by omega
  refine ⟨w.heap.size, 0, rfl, by simp, fun j v hj => ?_, ok⟩
  rw [show 0 + 0 * 5 + j = j by omega, (Blk.new w 34 #[.int .i64 kind, .int .i64 env, .int .i64 a, .int .i64 b, .string s]).cell j, List.getElem?_toArray]
  exact hj
set_option maxRecDepth 100000 in
set_option maxHeartbeats 4000000 in
theorem walk (w : World) (q : Cmd) (ok : q.Ok) :
    Calls Try.prog 6 #[.agg #[.int .i64 q.kind, .int .i64 q.env, .int .i64 q.a, .int .i64 q.b, .string q.s]] w fun e w' => e = .returned (.bool true) ∧ Below w.heap.size w w' := by
  obtain ⟨kind, env, a, b, s⟩ := q
  have OK := Lib.hid ok
  clear ok
  have HA := Lib.hid (Blk.new w 34 #[.int .i64 kind, .int .i64 env, .int .i64 a, .int .i64 b, .string s])
  have B1 := Lib.hid ((Below.refl w.heap.size w).alloc (Nat.le_refl _) (.cells #[.int .i64 kind, .int .i64 env, .int .i64 a, .int .i64 b, .string s] 34))
  show Calls Try.prog 6 #[.agg #[.int .i64 kind, .int .i64 env, .int .i64 a, .int .i64 b, .string s]] w _
  by_cases hs : s.size ≤ 1000
  · have HS := Lib.hid (show s.size ≤ 1000000 by omega)
    have HV := Lib.hid (show false = true ↔ isFar 1 (fun _ => (⟨kind, env, a, b, s⟩ : Cmd)) from ⟨fun h => (by cases h), fun h => by
      rcases h with h | ⟨i, hi, h⟩
      · omega
      · have h' : 1000 < s.size := h
        omega⟩)
    clear hs
    by_cases q0 : kind = 0
    · subst q0
      go_enter Try.func6, Try.ntmps6
      go_wp2_with fail
      refine (alive_any _).mono ?_; rintro e w2 ⟨rfl, b2⟩
      have A2 := Lib.hid (HA.out.below b2 (by simp))
      have B2 := Lib.hid (B1.out.trans (b2.mono (by simp)))
      have hl2 : w.heap.size < w2.heap.size := A2.out.lt
      have c0 := A2.out.cell 0
      have c1 := A2.out.cell 1
      have c2 := A2.out.cell 2
      have c3 := A2.out.cell 3
      have c4 := A2.out.cell 4
      simp only [List.getElem?_toArray, List.getElem?_cons_zero, List.getElem?_cons_succ] at c0 c1 c2 c3 c4
      clear b2
      go_wp2_with fail
      refine (far_any _ _ 1 1 (fun _ => ⟨0, env, a, b, s⟩) (acts_one w2 0 env a b s OK.out) false HV.out).mono ?_; rintro e w3 ⟨rfl, rfl⟩
      have B3 := Lib.hid (B2.out.trans (((Below.refl w2.heap.size w2).alloc (Nat.le_refl _) (.cells #[.int .i64 0, .int .i64 env, .int .i64 a, .int .i64 b, .string s] 34)).mono (Nat.le_of_lt hl2)))
      go_wp2_with fail
      refine (nil0 _ env a b s).mono ?_; rintro e w4 ⟨rfl, b4⟩
      have hl4 : w2.heap.size + 1 ≤ w4.heap.size := by have := b4.size; simpa using this
      have B4 := Lib.hid (B3.out.trans (b4.mono (by simp; omega)))
      have d0 : w4.cell? ⟨w.heap.size, 0, none⟩ = some (.int .i64 0) := ((A2.out.alloc (.cells #[.int .i64 0, .int .i64 env, .int .i64 a, .int .i64 b, .string s] 34)).below b4 (by simp; omega)).cell 0
      clear b4 hl4
      go_wp2_with fail
      refine (on_nil _).mono ?_; rintro e w5 ⟨rfl, rfl⟩
      go_wp2_with fail
      refine (waits_nil _).mono ?_; rintro e w5 ⟨rfl, rfl⟩
      go_wp2_with fail
      refine (size_nil _).mono ?_; rintro e w5 ⟨rfl, rfl⟩
      go_wp2_with fail
      refine (image_nil _).mono ?_; rintro e w5 ⟨rfl, rfl⟩
      go_wp2
      go_ret
      exact ⟨rfl, B4.out⟩
    by_cases q1 : kind = 1
    · subst q1
      clear q0
      go_enter Try.func6, Try.ntmps6
      go_wp2_with fail
      refine (alive_any _).mono ?_; rintro e w2 ⟨rfl, b2⟩
      have A2 := Lib.hid (HA.out.below b2 (by simp))
      have B2 := Lib.hid (B1.out.trans (b2.mono (by simp)))
      have hl2 : w.heap.size < w2.heap.size := A2.out.lt
      have c0 := A2.out.cell 0
      have c1 := A2.out.cell 1
      have c2 := A2.out.cell 2
      have c3 := A2.out.cell 3
      have c4 := A2.out.cell 4
      simp only [List.getElem?_toArray, List.getElem?_cons_zero, List.getElem?_cons_succ] at c0 c1 c2 c3 c4
      clear b2
      go_wp2_with fail
      refine (far_any _ _ 1 1 (fun _ => ⟨1, env, a, b, s⟩) (acts_one w2 1 env a b s OK.out) false HV.out).mono ?_; rintro e w3 ⟨rfl, rfl⟩
      have B3 := Lib.hid (B2.out.trans (((Below.refl w2.heap.size w2).alloc (Nat.le_refl _) (.cells #[.int .i64 1, .int .i64 env, .int .i64 a, .int .i64 b, .string s] 34)).mono (Nat.le_of_lt hl2)))
      go_wp2_with fail
      refine (nil1 _ env a b s).mono ?_; rintro e w4 ⟨rfl, b4⟩
      have hl4 : w2.heap.size + 1 ≤ w4.heap.size := by have := b4.size; simpa using this
      have B4 := Lib.hid (B3.out.trans (b4.mono (by simp; omega)))
      have d0 : w4.cell? ⟨w.heap.size, 0, none⟩ = some (.int .i64 1) := ((A2.out.alloc (.cells #[.int .i64 1, .int .i64 env, .int .i64 a, .int .i64 b, .string s] 34)).below b4 (by simp; omega)).cell 0
      clear b4 hl4
      go_wp2_with fail
      refine (on_nil _).mono ?_; rintro e w5 ⟨rfl, rfl⟩
      go_wp2_with fail
      refine (waits_nil _).mono ?_; rintro e w5 ⟨rfl, rfl⟩
      go_wp2_with fail
      refine (size_nil _).mono ?_; rintro e w5 ⟨rfl, rfl⟩
      go_wp2_with fail
      refine (image_nil _).mono ?_; rintro e w5 ⟨rfl, rfl⟩
      go_wp2
      go_ret
      exact ⟨rfl, B4.out⟩
    by_cases q2 : kind = 2
    · subst q2
      clear q0 q1
      go_enter Try.func6, Try.ntmps6
      go_wp2_with fail
      refine (alive_any _).mono ?_; rintro e w2 ⟨rfl, b2⟩
      have A2 := Lib.hid (HA.out.below b2 (by simp))
      have B2 := Lib.hid (B1.out.trans (b2.mono (by simp)))
      have hl2 : w.heap.size < w2.heap.size := A2.out.lt
      have c0 := A2.out.cell 0
      have c1 := A2.out.cell 1
      have c2 := A2.out.cell 2
      have c3 := A2.out.cell 3
      have c4 := A2.out.cell 4
      simp only [List.getElem?_toArray, List.getElem?_cons_zero, List.getElem?_cons_succ] at c0 c1 c2 c3 c4
      clear b2
      go_wp2_with fail
      refine (far_any _ _ 1 1 (fun _ => ⟨2, env, a, b, s⟩) (acts_one w2 2 env a b s OK.out) false HV.out).mono ?_; rintro e w3 ⟨rfl, rfl⟩
      have B3 := Lib.hid (B2.out.trans (((Below.refl w2.heap.size w2).alloc (Nat.le_refl _) (.cells #[.int .i64 2, .int .i64 env, .int .i64 a, .int .i64 b, .string s] 34)).mono (Nat.le_of_lt hl2)))
      go_wp2_with fail
      refine (nil2 _ env a b s HS.out).mono ?_; rintro e w4 ⟨rfl, b4⟩
      have hl4 : w2.heap.size + 1 ≤ w4.heap.size := by have := b4.size; simpa using this
      have B4 := Lib.hid (B3.out.trans (b4.mono (by simp; omega)))
      have d0 : w4.cell? ⟨w.heap.size, 0, none⟩ = some (.int .i64 2) := ((A2.out.alloc (.cells #[.int .i64 2, .int .i64 env, .int .i64 a, .int .i64 b, .string s] 34)).below b4 (by simp; omega)).cell 0
      clear b4 hl4
      go_wp2_with fail
      refine (on_nil _).mono ?_; rintro e w5 ⟨rfl, rfl⟩
      go_wp2_with fail
      refine (waits_nil _).mono ?_; rintro e w5 ⟨rfl, rfl⟩
      go_wp2_with fail
      refine (size_nil _).mono ?_; rintro e w5 ⟨rfl, rfl⟩
      go_wp2_with fail
      refine (image_nil _).mono ?_; rintro e w5 ⟨rfl, rfl⟩
      go_wp2
      go_ret
      exact ⟨rfl, B4.out⟩
    by_cases q3 : kind = 3
    · subst q3
      clear q0 q1 q2
      go_enter Try.func6, Try.ntmps6
      go_wp2_with fail
      refine (alive_any _).mono ?_; rintro e w2 ⟨rfl, b2⟩
      have A2 := Lib.hid (HA.out.below b2 (by simp))
      have B2 := Lib.hid (B1.out.trans (b2.mono (by simp)))
      have hl2 : w.heap.size < w2.heap.size := A2.out.lt
      have c0 := A2.out.cell 0
      have c1 := A2.out.cell 1
      have c2 := A2.out.cell 2
      have c3 := A2.out.cell 3
      have c4 := A2.out.cell 4
      simp only [List.getElem?_toArray, List.getElem?_cons_zero, List.getElem?_cons_succ] at c0 c1 c2 c3 c4
      clear b2
      go_wp2_with fail
      refine (far_any _ _ 1 1 (fun _ => ⟨3, env, a, b, s⟩) (acts_one w2 3 env a b s OK.out) false HV.out).mono ?_; rintro e w3 ⟨rfl, rfl⟩
      have B3 := Lib.hid (B2.out.trans (((Below.refl w2.heap.size w2).alloc (Nat.le_refl _) (.cells #[.int .i64 3, .int .i64 env, .int .i64 a, .int .i64 b, .string s] 34)).mono (Nat.le_of_lt hl2)))
      go_wp2_with fail
      refine (nil3 _ env a b s).mono ?_; rintro e w4 ⟨rfl, b4⟩
      have hl4 : w2.heap.size + 1 ≤ w4.heap.size := by have := b4.size; simpa using this
      have B4 := Lib.hid (B3.out.trans (b4.mono (by simp; omega)))
      have d0 : w4.cell? ⟨w.heap.size, 0, none⟩ = some (.int .i64 3) := ((A2.out.alloc (.cells #[.int .i64 3, .int .i64 env, .int .i64 a, .int .i64 b, .string s] 34)).below b4 (by simp; omega)).cell 0
      clear b4 hl4
      go_wp2_with fail
      refine (on_nil _).mono ?_; rintro e w5 ⟨rfl, rfl⟩
      go_wp2_with fail
      refine (waits_nil _).mono ?_; rintro e w5 ⟨rfl, rfl⟩
      go_wp2_with fail
      refine (size_nil _).mono ?_; rintro e w5 ⟨rfl, rfl⟩
      go_wp2_with fail
      refine (image_nil _).mono ?_; rintro e w5 ⟨rfl, rfl⟩
      go_wp2
      go_ret
      exact ⟨rfl, B4.out⟩
    by_cases q4 : kind = 4
    · subst q4
      clear q0 q1 q2 q3
      go_enter Try.func6, Try.ntmps6
      go_wp2_with fail
      refine (alive_any _).mono ?_; rintro e w2 ⟨rfl, b2⟩
      have A2 := Lib.hid (HA.out.below b2 (by simp))
      have B2 := Lib.hid (B1.out.trans (b2.mono (by simp)))
      have hl2 : w.heap.size < w2.heap.size := A2.out.lt
      have c0 := A2.out.cell 0
      have c1 := A2.out.cell 1
      have c2 := A2.out.cell 2
      have c3 := A2.out.cell 3
      have c4 := A2.out.cell 4
      simp only [List.getElem?_toArray, List.getElem?_cons_zero, List.getElem?_cons_succ] at c0 c1 c2 c3 c4
      clear b2
      go_wp2_with fail
      refine (far_any _ _ 1 1 (fun _ => ⟨4, env, a, b, s⟩) (acts_one w2 4 env a b s OK.out) false HV.out).mono ?_; rintro e w3 ⟨rfl, rfl⟩
      have B3 := Lib.hid (B2.out.trans (((Below.refl w2.heap.size w2).alloc (Nat.le_refl _) (.cells #[.int .i64 4, .int .i64 env, .int .i64 a, .int .i64 b, .string s] 34)).mono (Nat.le_of_lt hl2)))
      go_wp2_with fail
      refine (nil4 _ env a b s).mono ?_; rintro e w4 ⟨rfl, b4⟩
      have hl4 : w2.heap.size + 1 ≤ w4.heap.size := by have := b4.size; simpa using this
      have B4 := Lib.hid (B3.out.trans (b4.mono (by simp; omega)))
      have d0 : w4.cell? ⟨w.heap.size, 0, none⟩ = some (.int .i64 4) := ((A2.out.alloc (.cells #[.int .i64 4, .int .i64 env, .int .i64 a, .int .i64 b, .string s] 34)).below b4 (by simp; omega)).cell 0
      clear b4 hl4
      go_wp2_with fail
      refine (on_nil _).mono ?_; rintro e w5 ⟨rfl, rfl⟩
      go_wp2_with fail
      refine (waits_nil _).mono ?_; rintro e w5 ⟨rfl, rfl⟩
      go_wp2_with fail
      refine (size_nil _).mono ?_; rintro e w5 ⟨rfl, rfl⟩
      go_wp2_with fail
      refine (image_nil _).mono ?_; rintro e w5 ⟨rfl, rfl⟩
      go_wp2
      go_ret
      exact ⟨rfl, B4.out⟩
    by_cases q5 : kind = 5
    · subst q5
      clear q0 q1 q2 q3 q4
      go_enter Try.func6, Try.ntmps6
      go_wp2_with fail
      refine (alive_any _).mono ?_; rintro e w2 ⟨rfl, b2⟩
      have A2 := Lib.hid (HA.out.below b2 (by simp))
      have B2 := Lib.hid (B1.out.trans (b2.mono (by simp)))
      have hl2 : w.heap.size < w2.heap.size := A2.out.lt
      have c0 := A2.out.cell 0
      have c1 := A2.out.cell 1
      have c2 := A2.out.cell 2
      have c3 := A2.out.cell 3
      have c4 := A2.out.cell 4
      simp only [List.getElem?_toArray, List.getElem?_cons_zero, List.getElem?_cons_succ] at c0 c1 c2 c3 c4
      clear b2
      go_wp2_with fail
      refine (far_any _ _ 1 1 (fun _ => ⟨5, env, a, b, s⟩) (acts_one w2 5 env a b s OK.out) false HV.out).mono ?_; rintro e w3 ⟨rfl, rfl⟩
      have B3 := Lib.hid (B2.out.trans (((Below.refl w2.heap.size w2).alloc (Nat.le_refl _) (.cells #[.int .i64 5, .int .i64 env, .int .i64 a, .int .i64 b, .string s] 34)).mono (Nat.le_of_lt hl2)))
      go_wp2_with fail
      refine (nil5 _ env a b s).mono ?_; rintro e w4 ⟨rfl, b4⟩
      have hl4 : w2.heap.size + 1 ≤ w4.heap.size := by have := b4.size; simpa using this
      have B4 := Lib.hid (B3.out.trans (b4.mono (by simp; omega)))
      have d0 : w4.cell? ⟨w.heap.size, 0, none⟩ = some (.int .i64 5) := ((A2.out.alloc (.cells #[.int .i64 5, .int .i64 env, .int .i64 a, .int .i64 b, .string s] 34)).below b4 (by simp; omega)).cell 0
      clear b4 hl4
      go_wp2_with fail
      refine (on_nil _).mono ?_; rintro e w5 ⟨rfl, rfl⟩
      go_wp2_with fail
      refine (waits_nil _).mono ?_; rintro e w5 ⟨rfl, rfl⟩
      go_wp2_with fail
      refine (size_nil _).mono ?_; rintro e w5 ⟨rfl, rfl⟩
      go_wp2_with fail
      refine (image_nil _).mono ?_; rintro e w5 ⟨rfl, rfl⟩
      go_wp2
      go_ret
      exact ⟨rfl, B4.out⟩
    by_cases q6 : kind = 6
    · subst q6
      clear q0 q1 q2 q3 q4 q5
      go_enter Try.func6, Try.ntmps6
      go_wp2_with fail
      refine (alive_any _).mono ?_; rintro e w2 ⟨rfl, b2⟩
      have A2 := Lib.hid (HA.out.below b2 (by simp))
      have B2 := Lib.hid (B1.out.trans (b2.mono (by simp)))
      have hl2 : w.heap.size < w2.heap.size := A2.out.lt
      have c0 := A2.out.cell 0
      have c1 := A2.out.cell 1
      have c2 := A2.out.cell 2
      have c3 := A2.out.cell 3
      have c4 := A2.out.cell 4
      simp only [List.getElem?_toArray, List.getElem?_cons_zero, List.getElem?_cons_succ] at c0 c1 c2 c3 c4
      clear b2
      go_wp2_with fail
      refine (far_any _ _ 1 1 (fun _ => ⟨6, env, a, b, s⟩) (acts_one w2 6 env a b s OK.out) false HV.out).mono ?_; rintro e w3 ⟨rfl, rfl⟩
      have B3 := Lib.hid (B2.out.trans (((Below.refl w2.heap.size w2).alloc (Nat.le_refl _) (.cells #[.int .i64 6, .int .i64 env, .int .i64 a, .int .i64 b, .string s] 34)).mono (Nat.le_of_lt hl2)))
      go_wp2_with fail
      refine (nil6 _ env a b s).mono ?_; rintro e w4 ⟨rfl, b4⟩
      have hl4 : w2.heap.size + 1 ≤ w4.heap.size := by have := b4.size; simpa using this
      have B4 := Lib.hid (B3.out.trans (b4.mono (by simp; omega)))
      have d0 : w4.cell? ⟨w.heap.size, 0, none⟩ = some (.int .i64 6) := ((A2.out.alloc (.cells #[.int .i64 6, .int .i64 env, .int .i64 a, .int .i64 b, .string s] 34)).below b4 (by simp; omega)).cell 0
      clear b4 hl4
      go_wp2_with fail
      refine (on_nil _).mono ?_; rintro e w5 ⟨rfl, rfl⟩
      go_wp2_with fail
      refine (waits_nil _).mono ?_; rintro e w5 ⟨rfl, rfl⟩
      go_wp2_with fail
      refine (size_nil _).mono ?_; rintro e w5 ⟨rfl, rfl⟩
      go_wp2_with fail
      refine (image_nil _).mono ?_; rintro e w5 ⟨rfl, rfl⟩
      go_wp2
      go_ret
      exact ⟨rfl, B4.out⟩
    have x4 : (kind == 4) = false := by simpa using q4
    have x5 : (kind == 5) = false := by simpa using q5
    by_cases x : kind < 0
    · have Q := Lib.hid (And.intro q0 (And.intro q1 (And.intro q2 (And.intro q3 (And.intro q4 (And.intro q5 q6))))))
      clear q0 q1 q2 q3 q4 q5 q6
      go_enter Try.func6, Try.ntmps6
      go_wp2_with fail
      refine (alive_any _).mono ?_; rintro e w2 ⟨rfl, b2⟩
      have A2 := Lib.hid (HA.out.below b2 (by simp))
      have B2 := Lib.hid (B1.out.trans (b2.mono (by simp)))
      have hl2 : w.heap.size < w2.heap.size := A2.out.lt
      have c0 := A2.out.cell 0
      have c1 := A2.out.cell 1
      have c2 := A2.out.cell 2
      have c3 := A2.out.cell 3
      have c4 := A2.out.cell 4
      simp only [List.getElem?_toArray, List.getElem?_cons_zero, List.getElem?_cons_succ] at c0 c1 c2 c3 c4
      clear b2
      go_wp2_with fail
      refine (far_any _ _ 1 1 (fun _ => ⟨kind, env, a, b, s⟩) (acts_one w2 kind env a b s OK.out) false HV.out).mono ?_; rintro e w3 ⟨rfl, rfl⟩
      have B3 := Lib.hid (B2.out.trans (((Below.refl w2.heap.size w2).alloc (Nat.le_refl _) (.cells #[.int .i64 kind, .int .i64 env, .int .i64 a, .int .i64 b, .string s] 34)).mono (Nat.le_of_lt hl2)))
      go_wp2_with fail
      refine (nil7 _ kind env a b s Q.out.1 Q.out.2.1 Q.out.2.2.1 Q.out.2.2.2.1 Q.out.2.2.2.2.1 Q.out.2.2.2.2.2.1 Q.out.2.2.2.2.2.2).mono ?_; rintro e w4 ⟨rfl, b4⟩
      have hl4 : w2.heap.size + 1 ≤ w4.heap.size := by have := b4.size; simpa using this
      have B4 := Lib.hid (B3.out.trans (b4.mono (by simp; omega)))
      have d0 : w4.cell? ⟨w.heap.size, 0, none⟩ = some (.int .i64 kind) := ((A2.out.alloc (.cells #[.int .i64 kind, .int .i64 env, .int .i64 a, .int .i64 b, .string s] 34)).below b4 (by simp; omega)).cell 0
      clear b4 hl4
      go_wp2_with fail
      refine (on_nil _).mono ?_; rintro e w5 ⟨rfl, rfl⟩
      go_wp2_with fail
      refine (waits_nil _).mono ?_; rintro e w5 ⟨rfl, rfl⟩
      go_wp2_with fail
      refine (size_nil _).mono ?_; rintro e w5 ⟨rfl, rfl⟩
      go_wp2_with fail
      refine (image_nil _).mono ?_; rintro e w5 ⟨rfl, rfl⟩
      go_wp2
      go_ret
      exact ⟨rfl, B4.out⟩
    · have x7 : kind > 6 := by omega
      have Q := Lib.hid (And.intro q0 (And.intro q1 (And.intro q2 (And.intro q3 (And.intro q4 (And.intro q5 q6))))))
      clear q0 q1 q2 q3 q4 q5 q6
      go_enter Try.func6, Try.ntmps6
      go_wp2_with fail
      refine (alive_any _).mono ?_; rintro e w2 ⟨rfl, b2⟩
      have A2 := Lib.hid (HA.out.below b2 (by simp))
      have B2 := Lib.hid (B1.out.trans (b2.mono (by simp)))
      have hl2 : w.heap.size < w2.heap.size := A2.out.lt
      have c0 := A2.out.cell 0
      have c1 := A2.out.cell 1
      have c2 := A2.out.cell 2
      have c3 := A2.out.cell 3
      have c4 := A2.out.cell 4
      simp only [List.getElem?_toArray, List.getElem?_cons_zero, List.getElem?_cons_succ] at c0 c1 c2 c3 c4
      clear b2
      go_wp2_with fail
      refine (far_any _ _ 1 1 (fun _ => ⟨kind, env, a, b, s⟩) (acts_one w2 kind env a b s OK.out) false HV.out).mono ?_; rintro e w3 ⟨rfl, rfl⟩
      have B3 := Lib.hid (B2.out.trans (((Below.refl w2.heap.size w2).alloc (Nat.le_refl _) (.cells #[.int .i64 kind, .int .i64 env, .int .i64 a, .int .i64 b, .string s] 34)).mono (Nat.le_of_lt hl2)))
      go_wp2_with fail
      refine (nil7 _ kind env a b s Q.out.1 Q.out.2.1 Q.out.2.2.1 Q.out.2.2.2.1 Q.out.2.2.2.2.1 Q.out.2.2.2.2.2.1 Q.out.2.2.2.2.2.2).mono ?_; rintro e w4 ⟨rfl, b4⟩
      have hl4 : w2.heap.size + 1 ≤ w4.heap.size := by have := b4.size; simpa using this
      have B4 := Lib.hid (B3.out.trans (b4.mono (by simp; omega)))
      have d0 : w4.cell? ⟨w.heap.size, 0, none⟩ = some (.int .i64 kind) := ((A2.out.alloc (.cells #[.int .i64 kind, .int .i64 env, .int .i64 a, .int .i64 b, .string s] 34)).below b4 (by simp; omega)).cell 0
      clear b4 hl4
      go_wp2_with fail
      refine (on_nil _).mono ?_; rintro e w5 ⟨rfl, rfl⟩
      go_wp2_with fail
      refine (waits_nil _).mono ?_; rintro e w5 ⟨rfl, rfl⟩
      go_wp2_with fail
      refine (size_nil _).mono ?_; rintro e w5 ⟨rfl, rfl⟩
      go_wp2_with fail
      refine (image_nil _).mono ?_; rintro e w5 ⟨rfl, rfl⟩
      go_wp2
      go_ret
      exact ⟨rfl, B4.out⟩
  · have HF := Lib.hid (show isFar 1 (fun _ => (⟨kind, env, a, b, s⟩ : Cmd)) from .inr ⟨0, by omega, by show 1000 < s.size; omega⟩)
    clear hs
    go_enter Try.func6, Try.ntmps6
    go_wp2_with fail
    refine (alive_any _).mono ?_; rintro e w2 ⟨rfl, b2⟩
    have A2 := Lib.hid (HA.out.below b2 (by simp))
    have B2 := Lib.hid (B1.out.trans (b2.mono (by simp)))
    have hl2 : w.heap.size < w2.heap.size := A2.out.lt
    have c0 := A2.out.cell 0
    have c1 := A2.out.cell 1
    have c2 := A2.out.cell 2
    have c3 := A2.out.cell 3
    have c4 := A2.out.cell 4
    simp only [List.getElem?_toArray, List.getElem?_cons_zero, List.getElem?_cons_succ] at c0 c1 c2 c3 c4
    clear b2
    go_wp2_with fail
    refine (far_any _ _ 1 1 (fun _ => ⟨kind, env, a, b, s⟩) (acts_one w2 kind env a b s OK.out) true (iff_of_true rfl HF.out)).mono ?_; rintro e w3 ⟨rfl, rfl⟩
    have B3 := Lib.hid (B2.out.trans (((Below.refl w2.heap.size w2).alloc (Nat.le_refl _) (.cells #[.int .i64 kind, .int .i64 env, .int .i64 a, .int .i64 b, .string s] 34)).mono (Nat.le_of_lt hl2)))
    go_wp2
    go_ret
    exact ⟨rfl, B3.out⟩

set_option maxRecDepth 100000 in
theorem lifted (os : Os) (started : os.Started) (H : Type) (enc : TypeId × Value → H) :
    ReturnsInHanded {} Try.checked os 6 .any (Rows.diskNilSpec.pre6 enc Try.prog Try.f6 Rows.diskNilRow.domain false) (Rows.diskNilSpec.post enc Try.prog Try.f6 false true false false) := by
  refine returnsInHanded_of_change (C := Try.checked) own started (by kernel_rfl) Try.func6
    (ChangeSpec.witness6 (enc := enc) (C := Try.checked) false ⟨#[], #[.agg #[.int .i64 0, .int .i64 0, .int .i64 0, .int .i64 0, .string ⟨#[]⟩]], []⟩ 8 (by kernel_rfl) (by kernel_rfl) (by kernel_rfl) (by kernel_rfl)) ?_
  intro W base args ds gs before hval0 hW hcnd _
  have hval : ∀ (j : Nat) t v, Try.f6.params[j]? = some t → args[j]? = some v → Value.okWide Try.prog W .any base t v := hval0
  have hW' := hW
  obtain ⟨p, q, hA0, hV, rfl, hfz, hnd⟩ := hW
  have hA : DataW.TrodAll enc Try.prog W 0 (fun _ => true) true Try.f6.params.toList args.toList ds p := hA0
  rw [Try.params6] at hA hval
  obtain ⟨v0, vs0, d0, ds0, p0, q0, hargs, rfl, rfl, h0, r0⟩ := trodAll_cons hA
  obtain ⟨rfl, rfl, rfl⟩ := trodAll_nil r0
  obtain rfl : args = #[v0] := by cases args; simp_all
  obtain ⟨a0, rfl, w0⟩ := open_act Try.underlying34 (by kernel_rfl) (by kernel_rfl) Try.underlying3 rfl rfl rfl rfl Try.underlying9 (hval 0 34 v0 rfl rfl) h0
  clear hA0 hval0
  exact law_close hW' laidOut (by kernel_rfl) rfl Try.underlying4 rfl ⟨rfl, rfl, rfl⟩ (walk W a0 w0)

theorem over : Rows.diskNilRow.holds Try.pinned (OpenSpec.ofChange Rows.diskNilSpec) :=
  OpenClaim.holds_of_wide 6 Try.f6 rfl rfl rfl rfl rfl rfl rfl ⟨rfl, rfl, rfl, rfl, rfl⟩ rfl rfl rfl rfl rfl (by kernel_rfl) Try.func6 (by kernel_rfl)
    (of_decide_eq_true (by kernel_rfl)) (by unfold Func.isWrapper; first | (rw [if_pos (by decide +kernel)]; kernel_rfl) | (rw [if_neg (by decide +kernel)]; exact ⟨rfl, rfl⟩))
    (fun os started H enc _ => lifted os started H enc)

theorem proved : Rows.DiskNilSaid := over

end Go.Proofs.Ytdnlhfoninhcaaa.diskNil
