/- The document's answers of layer 14 (eth): Bytes, Parse. Conditions: those that each states. -/
import Derived.Test.YtahmdogpnojcpaaEt6
namespace Go.Proofs.Ytahmdogpnojcpaa.Et
open Go.ChangeShapes Go.WideShapes Go.ChangeAt Go.RowKit Go.Deep Rk Es
set_option linter.unusedVariables false
set_option linter.unusedSimpArgs false

set_option maxRecDepth 100000 in
set_option maxHeartbeats 2000000 in
theorem refBytes_any (t f y : Nat) (ht : t ≤ 18446744073709551615) (hf : f ≤ 18446744073709551615) (hy : y ≤ 65535) (l : List UInt8) (w : World) (hl : l.length ≤ 1000000) :
    Calls Try.prog 14 #[.agg (dpV t f y l)] w fun e w' => STold e (pkMay t f l.length) (headL t f y ++ l) (pkErr t f) ∧ Below w.heap.size w w' := by
  have b1 : Below w.heap.size w (w.alloc (.cells (dpV t f y l) 25)) := (Below.refl _ w).alloc (Nat.le_refl _) _
  have B1 := Lib.hid b1
  have K1 := Lib.hid (Blk.new w 25 (dpV t f y l))
  have HA := Lib.hid (fun W => refHead_any t f y ht hf hy l W)
  clear b1
  go_enter Try.func14, Try.ntmps14
  go_upto_region 1 with fail
  generalize hW : w.alloc (.cells (dpV t f y l) 25) = W at *
  have z0 := (K1.out.cell 0).trans (show _ = some (.int .u64 (t : Int)) from rfl)
  have z1 := (K1.out.cell 1).trans (show _ = some (.int .u64 (f : Int)) from rfl)
  have z2 := (K1.out.cell 2).trans (show _ = some (.int .u16 (y : Int)) from rfl)
  have z3 := (K1.out.cell 3).trans (show _ = some (.string ⟨l.toArray⟩) from rfl)
  go_wp2_with fail
  refine (HA.out W).mono ?_
  rintro e w2 ⟨T, b2⟩
  have B2 := Lib.hid (B1.out.trans (b2.mono B1.out.size))
  have y3 := ((K1.out.older (older_below b2)).cell 3).trans (show _ = some (.string ⟨l.toArray⟩) from rfl)
  clear z0 z1 z2 z3 HA b2 K1
  unfold STold at T
  cases hm : headMay t f with
  | false =>
    rw [hm] at T
    obtain rfl := T
    have E1 := Lib.hid (show pkMay t f l.length = false from by simp [pkMay, hm])
    have E2 := Lib.hid (show pkErr t f = 1 from by simp [pkErr, hm])
    clear hm
    go_wp2
    go_ret2
    exact ⟨by unfold STold; rw [E1.out, E2.out]; rfl, B2.out⟩
  | true =>
    rw [hm] at T
    obtain rfl := T
    have E2 := Lib.hid (show pkErr t f = 2 from by simp [pkErr, hm])
    have hs : (⟨(headL t f y).toArray⟩ : ByteArray).size = 14 := headL_length t f y
    have hs2 : (⟨l.toArray⟩ : ByteArray).size = l.length := rfl
    have xj := IntWalk.i64_in (14 + (l.length : Int)) (by omega)
    by_cases hlt : 14 + (l.length : Int) > 1024
    · have E1 := Lib.hid (show pkMay t f l.length = false from by simp [pkMay, hm]; omega)
      clear hm
      go_wp2
      go_ret2
      exact ⟨by unfold STold; rw [E1.out, E2.out]; rfl, B2.out⟩
    · have E1 := Lib.hid (show pkMay t f l.length = true from by simp [pkMay, hm]; omega)
      have la : ¬ 9223372036854775807 < (headL t f y).length + l.length := by rw [headL_length]; omega
      clear hm
      go_wp2
      go_ret2
      refine ⟨?_, B2.out⟩
      unfold STold
      rw [E1.out]
      simp [ByteArray.mk_append_mk]

abbrev dp0 : Array Value := #[.int .u64 0, .int .u64 0, .int .u16 0, .string ⟨#[]⟩]
theorem dp_info : (Try.prog.info? 25).map (·.size) = some 4 := by kernel_rfl
theorem exec_slice {P : Program} {a : Act} {o : Oper} {t : TypeId} {x : Operand} {lo hi : Option Operand} {lo' hi' : Option Value} (ht : P.underlying t = some .string) (ho : o.op = .slice t x lo hi none) {v y : Value} (hx : a.eval x = y) (h1 : lo.map a.eval = lo') (h2 : hi.map a.eval = hi') {w : World} (h : (Instr.slice t y lo' hi' none).run P w = .ok v w) : (execOp a.eval o).run P w = .ok (.value v) w := by
  unfold execOp
  simp only [ho, hx, h1, h2, Option.map_none, Sem.run_bind, run_sliceAt_string _ _ _ _ _ _ ht, h, Result.andThen_ok, Sem.run_pure]
/-- A part of a text. -/
theorem run_cut_text (l : List UInt8) (i j : Nat) (h : i ≤ j) (hj : j ≤ l.length) (hm : l.length ≤ 1000000) (W : World) :
    (Instr.slice 9 (.string ⟨l.toArray⟩) (some (.int .i64 (i : Int))) (some (.int .i64 (j : Int))) none).run Try.prog W = .ok (.string ⟨((l.drop i).take (j - i)).toArray⟩) W := by
  have hs : (⟨l.toArray⟩ : ByteArray).size = l.length := rfl
  rw [run_slice_string W 9 _ .i64 .i64 (i : Int) (j : Int) Try.underlying9 (by omega) (by omega) (by omega), Int.toNat_natCast, Int.toNat_natCast, ByteArray.extract_mk]
theorem run_front_text (l : List UInt8) (j : Nat) (hj : j ≤ l.length) (W : World) :
    (Instr.slice 9 (.string ⟨l.toArray⟩) none (some (.int .i64 (j : Int))) none).run Try.prog W = .ok (.string ⟨(l.take j).toArray⟩) W := by
  have hs : (⟨l.toArray⟩ : ByteArray).size = l.length := rfl
  rw [run_slice_string_h W 9 _ Try.underlying9 .i64 (j : Int) (by omega) (by omega)]
  congr 2
  apply ByteArray.ext
  rw [ByteArray.data_extract]
  simp
theorem run_back_text (l : List UInt8) (j : Nat) (hj : j ≤ l.length) (W : World) :
    (Instr.slice 9 (.string ⟨l.toArray⟩) (some (.int .i64 (j : Int))) none none).run Try.prog W = .ok (.string ⟨(l.drop j).toArray⟩) W := by
  have hs : (⟨l.toArray⟩ : ByteArray).size = l.length := rfl
  rw [run_slice_string_l W 9 _ Try.underlying9 .i64 (j : Int) (by omega) (by omega)]
  congr 2
  apply ByteArray.ext
  rw [ByteArray.data_extract]
  simp [hs]
  rw [List.take_of_length_le (by simp)]

/-- What the document's Parse tells of bytes l. -/
def DParsed (e : Ending) (l : List UInt8) : Prop :=
  (parErr l.length ≠ 0 ∧ e = .returned (.tuple #[.agg dp0, .int .i64 (parErr l.length)])) ∨
  (parErr l.length = 0 ∧ e = .returned (.tuple #[.agg (dpV (numB (l.take 6)) (numB ((l.drop 6).take 6)) (numB ((l.drop 12).take 2)) (l.drop 14)), .int .i64 0]))

set_option maxRecDepth 100000 in
set_option maxHeartbeats 4000000 in
theorem refParse_any (l : List UInt8) (w : World) (hl : l.length ≤ 1000000) :
    Calls Try.prog 15 #[.string ⟨l.toArray⟩] w fun e w' => DParsed e l ∧ Below w.heap.size w w' := by
  have b1 : Below w.heap.size w (w.alloc (.cells dp0 25)) := (Below.refl _ w).alloc (Nat.le_refl _) _
  have B1 := Lib.hid b1
  have K1 := Lib.hid (Blk.new w 25 dp0)
  have hs : (⟨l.toArray⟩ : ByteArray).size = l.length := rfl
  clear b1
  obtain ⟨W, hW⟩ : ∃ W, w.alloc (.cells dp0 25) = W := ⟨_, rfl⟩
  rw [hW] at K1 B1
  have HW := Lib.hid hW
  clear hW
  by_cases h1 : (l.length : Int) > 1024
  · have E := Lib.hid (show parErr l.length = 2 from by unfold parErr; rw [if_pos (by omega)])
    go_enter Try.func15, Try.ntmps15
    go_upto_region 1 with fail
    rw [HW.out]
    have KZ := Lib.hid (below_setRow B1.out (Nat.le_refl w.heap.size) dp0)
    go_wp2_with (first
      | (refine wpList_store_row rfl 25 (.tmp 2) (.tmp 7) rfl w.heap.size dp0 rfl rfl 25 _ K1.out dp_info rfl (by simp [Value.oneCell']) ?_)
      | fail)
    refine bodyPost_ret (v := .tuple #[.agg dp0, .int .i64 2]) ?_ rfl ?_
    · exact results_cell_tmp Try.results15 _ _ w.heap.size 25 _ (0, 0) _ rfl (K1.out.row _) Try.underlying25 rfl dp_info
    exact ⟨.inl ⟨by rw [E.out]; decide, by rw [E.out]⟩, KZ.out⟩
  · by_cases h2 : (l.length : Int) < 14
    · have E := Lib.hid (show parErr l.length = 50 from by unfold parErr; rw [if_neg (by omega), if_pos (by omega)])
      go_enter Try.func15, Try.ntmps15
      go_upto_region 1 with fail
      rw [HW.out]
      have KZ := Lib.hid (below_setRow B1.out (Nat.le_refl w.heap.size) dp0)
      go_wp2_with (first
        | (refine wpList_store_row rfl 25 (.tmp 2) (.tmp 11) rfl w.heap.size dp0 rfl rfl 25 _ K1.out dp_info rfl (by simp [Value.oneCell']) ?_)
        | fail)
      refine bodyPost_ret (v := .tuple #[.agg dp0, .int .i64 50]) ?_ rfl ?_
      · exact results_cell_tmp Try.results15 _ _ w.heap.size 25 _ (0, 0) _ rfl (K1.out.row _) Try.underlying25 rfl dp_info
      exact ⟨.inl ⟨by rw [E.out]; decide, by rw [E.out]⟩, KZ.out⟩
    · have E := Lib.hid (show parErr l.length = 0 from by unfold parErr; rw [if_neg (by omega), if_neg (by omega)])
      have c1 : ∀ W, (Instr.slice 9 (.string ⟨l.toArray⟩) none (some (.int .i64 6)) none).run Try.prog W = .ok (.string ⟨(l.take 6).toArray⟩) W := fun W => run_front_text l 6 (by omega) W
      have c2 : ∀ W, (Instr.slice 9 (.string ⟨l.toArray⟩) (some (.int .i64 6)) (some (.int .i64 12)) none).run Try.prog W = .ok (.string ⟨((l.drop 6).take 6).toArray⟩) W := fun W => run_cut_text l 6 12 (by omega) (by omega) hl W
      have c3 : ∀ W, (Instr.slice 9 (.string ⟨l.toArray⟩) (some (.int .i64 12)) (some (.int .i64 14)) none).run Try.prog W = .ok (.string ⟨((l.drop 12).take 2).toArray⟩) W := fun W => run_cut_text l 12 14 (by omega) (by omega) hl W
      have c4 : ∀ W, (Instr.slice 9 (.string ⟨l.toArray⟩) (some (.int .i64 14)) none none).run Try.prog W = .ok (.string ⟨(l.drop 14).toArray⟩) W := fun W => run_back_text l 14 (by omega) W
      have hy := Lib.hid (numB_lt256 ((l.drop 12).take 2))
      have hy2 : numB ((l.drop 12).take 2) ≤ 65535 := by
        have h : ((l.drop 12).take 2).length ≤ 2 := by simp; omega
        have h3 := Nat.pow_le_pow_right (n := 256) (by omega) h
        have h4 := hy.out
        omega
      have wy := IntWalk.u16_in ((numB ((l.drop 12).take 2) : Nat) : Int) (by omega)
      clear hy
      go_enter Try.func15, Try.ntmps15
      go_upto_region 1 with fail
      rw [HW.out]
      clear HW
      go_upto_region 5 with fail
      have hS := Lib.hid ((Below.refl W.heap.size W).drew)
      refine wp_head_held (S := fun w' => Hid (Below W.heap.size W w')) 13 (by kernel_rfl) rfl rfl (by kernel_rfl) ?_
      simp only [List.take_succ_cons, List.take_zero, List.drop_succ_cons, List.drop_zero]
      refine held_take (i := 0) (d := (some 12)) (v := ?_) rfl rfl (by kernel_rfl) (by kernel_rfl) (by kernel_rfl) (fun _ _ _ h => h) (by rfl) ?_ hS ?_
      rotate_left
      · intro w' hSw; (try dsimp only at hSw); go_simp <;> with_reducible rfl
      simp only [Act.put, List.setIfInBounds_toArray, List.set_cons_zero, List.set_cons_succ]
      refine held_take (i := 1) (d := (some 13)) (v := .string ⟨(l.take 6).toArray⟩) rfl rfl (by kernel_rfl) (by kernel_rfl) (by kernel_rfl) (fun _ _ _ h => h) (by rfl) (fun w' _ => exec_slice Try.underlying9 (y := .string ⟨l.toArray⟩) (lo' := none) (hi' := some (.int .i64 6)) rfl rfl rfl rfl (c1 w')) hS ?_
      simp only [Act.put, List.setIfInBounds_toArray, List.set_cons_zero, List.set_cons_succ]
      refine held_take (i := 3) (d := (some 15)) (v := ?_) rfl rfl (by kernel_rfl) (by kernel_rfl) (by kernel_rfl) (fun _ _ _ h => h) (by rfl) ?_ hS ?_
      rotate_left
      · intro w' hSw; (try dsimp only at hSw); go_simp <;> with_reducible rfl
      simp only [Act.put, List.setIfInBounds_toArray, List.set_cons_zero, List.set_cons_succ]
      refine held_take (i := 4) (d := (some 16)) (v := .string ⟨((l.drop 6).take 6).toArray⟩) rfl rfl (by kernel_rfl) (by kernel_rfl) (by kernel_rfl) (fun _ _ _ h => h) (by rfl) (fun w' _ => exec_slice Try.underlying9 (y := .string ⟨l.toArray⟩) (lo' := some (.int .i64 6)) (hi' := some (.int .i64 12)) rfl rfl rfl rfl (c2 w')) hS ?_
      simp only [Act.put, List.setIfInBounds_toArray, List.set_cons_zero, List.set_cons_succ]
      refine held_take (i := 6) (d := (some 18)) (v := ?_) rfl rfl (by kernel_rfl) (by kernel_rfl) (by kernel_rfl) (fun _ _ _ h => h) (by rfl) ?_ hS ?_
      rotate_left
      · intro w' hSw; (try dsimp only at hSw); go_simp <;> with_reducible rfl
      simp only [Act.put, List.setIfInBounds_toArray, List.set_cons_zero, List.set_cons_succ]
      refine held_take (i := 7) (d := (some 19)) (v := .string ⟨((l.drop 12).take 2).toArray⟩) rfl rfl (by kernel_rfl) (by kernel_rfl) (by kernel_rfl) (fun _ _ _ h => h) (by rfl) (fun w' _ => exec_slice Try.underlying9 (y := .string ⟨l.toArray⟩) (lo' := some (.int .i64 12)) (hi' := some (.int .i64 14)) rfl rfl rfl rfl (c3 w')) hS ?_
      simp only [Act.put, List.setIfInBounds_toArray, List.set_cons_zero, List.set_cons_succ]
      refine held_take (i := 10) (d := (some 22)) (v := ?_) rfl rfl (by kernel_rfl) (by kernel_rfl) (by kernel_rfl) (fun _ _ _ h => h) (by rfl) ?_ hS ?_
      rotate_left
      · intro w' hSw; (try dsimp only at hSw); go_simp <;> with_reducible rfl
      simp only [Act.put, List.setIfInBounds_toArray, List.set_cons_zero, List.set_cons_succ]
      refine held_take (i := 11) (d := (some 23)) (v := .string ⟨(l.drop 14).toArray⟩) rfl rfl (by kernel_rfl) (by kernel_rfl) (by kernel_rfl) (fun _ _ _ h => h) (by rfl) (fun w' _ => exec_slice Try.underlying9 (y := .string ⟨l.toArray⟩) (lo' := some (.int .i64 14)) (hi' := none) rfl rfl rfl rfl (c4 w')) hS ?_
      simp only [Act.put, List.setIfInBounds_toArray, List.set_cons_zero, List.set_cons_succ]
      refine held_one (i := 2) (by kernel_rfl) rfl (by rfl) ?_
      go_simp
      refine (refNum_any _ (by simp <;> omega) _).mono ?_; rintro e wn0 ⟨rfl, rfl⟩
      refine ⟨hS, ?_⟩
      (try simp only [Act.put, List.setIfInBounds_toArray, List.set_cons_zero, List.set_cons_succ])
      refine held_one (i := 5) (by kernel_rfl) rfl (by rfl) ?_
      go_simp
      refine (refNum_any _ (by simp <;> omega) _).mono ?_; rintro e wn1 ⟨rfl, rfl⟩
      refine ⟨hS, ?_⟩
      (try simp only [Act.put, List.setIfInBounds_toArray, List.set_cons_zero, List.set_cons_succ])
      refine held_one (i := 8) (by kernel_rfl) rfl (by rfl) ?_
      go_simp
      refine (refNum_any _ (by simp <;> omega) _).mono ?_; rintro e wn2 ⟨rfl, rfl⟩
      refine ⟨hS, ?_⟩
      (try simp only [Act.put, List.setIfInBounds_toArray, List.set_cons_zero, List.set_cons_succ])
      refine held_take (i := 9) (d := (some 21)) (v := ?_) rfl rfl (by kernel_rfl) (by kernel_rfl) (by kernel_rfl) (fun _ _ _ h => h) (by rfl) ?_ hS ?_
      rotate_left
      · intro w' hSw; (try dsimp only at hSw); go_simp <;> with_reducible rfl
      simp only [Act.put, List.setIfInBounds_toArray, List.set_cons_zero, List.set_cons_succ]
      refine held_take (i := 12) (d := (some 24)) (v := ?_) rfl rfl (by kernel_rfl) (by kernel_rfl) (by kernel_rfl) (fun _ _ _ h => h) (by rfl) ?_ hS ?_
      rotate_left
      · intro w' hSw; (try dsimp only at hSw); go_simp <;> with_reducible rfl
      simp only [Act.put, List.setIfInBounds_toArray, List.set_cons_zero, List.set_cons_succ]
      refine wpAnyH_done (by kernel_rfl) ?_ _
      show wpList _ _ _ _ _ _
      have KD := Lib.hid (K1.out.drewN 1)
      have KZ := Lib.hid (below_setRow (below_drewN B1.out 1) (Nat.le_refl w.heap.size) (dpV (numB (l.take 6)) (numB ((l.drop 6).take 6)) (numB ((l.drop 12).take 2)) (l.drop 14)))
      go_wp2_with (first
        | (refine wpList_store_row rfl 25 (.tmp 2) (.tmp 24) rfl w.heap.size (dpV (numB (l.take 6)) (numB ((l.drop 6).take 6)) (numB ((l.drop 12).take 2)) (l.drop 14)) rfl rfl 25 _ KD.out dp_info rfl (by simp [Value.oneCell']) ?_)
        | fail)
      refine bodyPost_ret (v := .tuple #[.agg (dpV (numB (l.take 6)) (numB ((l.drop 6).take 6)) (numB ((l.drop 12).take 2)) (l.drop 14)), .int .i64 0]) ?_ rfl ?_
      · exact results_cell_tmp Try.results15 _ _ w.heap.size 25 _ (0, 0) _ rfl (KD.out.row _) Try.underlying25 rfl dp_info
      exact ⟨.inr ⟨E.out, rfl⟩, KZ.out⟩
end Go.Proofs.Ytahmdogpnojcpaa.Et
