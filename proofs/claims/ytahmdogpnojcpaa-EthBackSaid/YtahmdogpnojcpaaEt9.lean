/- The document's answers of layer 14 (eth): ParseARP. Conditions: those that each states. -/
import Derived.Test.YtahmdogpnojcpaaEt8
namespace Go.Proofs.Ytahmdogpnojcpaa.Et
open Go.ChangeShapes Go.WideShapes Go.ChangeAt Go.RowKit Go.Deep Rk Es
set_option linter.unusedVariables false
set_option linter.unusedSimpArgs false

theorem dar_info : (Try.prog.info? 44).map (·.size) = some 5 := by kernel_rfl
def DArTold (e : Ending) (l : List UInt8) : Prop :=
  (arOk l = false ∧ e = .returned (.tuple #[.agg ar0, .bool false])) ∨
  (arOk l = true ∧ e = .returned (.tuple #[.agg (arV (arOp l) (at2 l 8 6) (at2 l 14 4) (at2 l 18 6) (at2 l 24 4)), .bool true]))

set_option maxRecDepth 100000 in
set_option maxHeartbeats 4000000 in
theorem refParseARP_any (l : List UInt8) (w : World) (hl : l.length ≤ 1000000) :
    Calls Try.prog 20 #[.string ⟨l.toArray⟩] w fun e w' => DArTold e l ∧ Below w.heap.size w w' := by
  have b1 : Below w.heap.size w (w.alloc (.cells ar0 44)) := (Below.refl _ w).alloc (Nat.le_refl _) _
  have B1 := Lib.hid b1
  have K1 := Lib.hid (Blk.new w 44 ar0)
  have hs : (⟨l.toArray⟩ : ByteArray).size = l.length := rfl
  clear b1
  obtain ⟨W, hW⟩ : ∃ W, w.alloc (.cells ar0 44) = W := ⟨_, rfl⟩
  rw [hW] at K1 B1
  have HW := Lib.hid hW
  clear hW
  by_cases h1 : (l.length : Int) < 28
  · have NO := Lib.hid (show arOk l = false from by unfold arOk; rw [decide_eq_false (by omega)]; rfl)
    go_enter Try.func20, Try.ntmps20
    go_upto_region 1 with fail
    rw [HW.out]
    have KZ := Lib.hid (below_setRow B1.out (Nat.le_refl w.heap.size) ar0)
    go_wp2_with (first
      | (refine wpList_store_row rfl 44 (.tmp 2) (.tmp 13) rfl w.heap.size ar0 rfl rfl 44 _ K1.out dar_info rfl (by simp [Value.oneCell']) ?_)
      | fail)
    refine bodyPost_ret (v := .tuple #[.agg ar0, .bool false]) ?_ rfl ?_
    · exact results_cell_tmp Try.results20 _ _ w.heap.size 44 _ (0, 0) _ rfl (K1.out.row _) Try.underlying44 rfl dar_info
    exact ⟨.inl ⟨NO.out, rfl⟩, KZ.out⟩
  have d0 : ∀ W, (Instr.slice 9 (.string ⟨l.toArray⟩) none (some (.int .i64 6)) none).run Try.prog W = .ok (.string ⟨(l.take 6).toArray⟩) W := fun W => run_front_text l 6 (by omega) W
  by_cases h2 : l.take 6 = arHead
  rotate_left
  · have NO := Lib.hid (show arOk l = false from by unfold arOk; rw [decide_eq_false h2]; simp)
    have hne : (l.take 6 == [0, 1, 8, 0, 6, 4]) = false := by rw [beq_eq_false_iff_ne]; exact h2
    have x6 : (6 : Int) ≤ (l.length : Int) := by omega
    clear h2
    obtain ⟨X, hX⟩ : ∃ X, l.take 6 = X := ⟨_, rfl⟩
    rw [hX] at hne d0
    clear hX
    go_enter Try.func20, Try.ntmps20
    go_upto_region 1 with fail
    rw [HW.out]
    have KZ := Lib.hid (below_setRow B1.out (Nat.le_refl w.heap.size) ar0)
    go_wp2_with (first
      | (refine wpList_store_row rfl 44 (.tmp 2) (.tmp 13) rfl w.heap.size ar0 rfl rfl 44 _ K1.out dar_info rfl (by simp [Value.oneCell']) ?_)
      | fail)
    refine bodyPost_ret (v := .tuple #[.agg ar0, .bool false]) ?_ rfl ?_
    · exact results_cell_tmp Try.results20 _ _ w.heap.size 44 _ (0, 0) _ rfl (K1.out.row _) Try.underlying44 rfl dar_info
    exact ⟨.inl ⟨NO.out, rfl⟩, KZ.out⟩
  · have L28 := Lib.hid (show decide (28 ≤ l.length) = true from by simp; omega)
    have HD := Lib.hid h2
    replace d0 : ∀ W, (Instr.slice 9 (.string ⟨l.toArray⟩) none (some (.int .i64 6)) none).run Try.prog W = .ok (.string ⟨#[0, 1, 8, 0, 6, 4]⟩) W := fun W => by rw [d0 W, h2]; rfl
    have d1 : ∀ W, (Instr.slice 9 (.string ⟨l.toArray⟩) (some (.int .i64 6)) (some (.int .i64 8)) none).run Try.prog W = .ok (.string ⟨((l.drop 6).take 2).toArray⟩) W := fun W => run_cut_text l 6 8 (by omega) (by omega) hl W
    have d5 : ∀ W, (Instr.slice 9 (.string ⟨l.toArray⟩) (some (.int .i64 8)) (some (.int .i64 14)) none).run Try.prog W = .ok (.string ⟨((l.drop 8).take 6).toArray⟩) W := fun W => run_cut_text l 8 14 (by omega) (by omega) hl W
    have d8 : ∀ W, (Instr.slice 9 (.string ⟨l.toArray⟩) (some (.int .i64 14)) (some (.int .i64 18)) none).run Try.prog W = .ok (.string ⟨((l.drop 14).take 4).toArray⟩) W := fun W => run_cut_text l 14 18 (by omega) (by omega) hl W
    have d12 : ∀ W, (Instr.slice 9 (.string ⟨l.toArray⟩) (some (.int .i64 18)) (some (.int .i64 24)) none).run Try.prog W = .ok (.string ⟨((l.drop 18).take 6).toArray⟩) W := fun W => run_cut_text l 18 24 (by omega) (by omega) hl W
    have d15 : ∀ W, (Instr.slice 9 (.string ⟨l.toArray⟩) (some (.int .i64 24)) (some (.int .i64 28)) none).run Try.prog W = .ok (.string ⟨((l.drop 24).take 4).toArray⟩) W := fun W => run_cut_text l 24 28 (by omega) (by omega) hl W
    have lo := Lib.hid (at2_lt l 6 2)
    have l1 := Lib.hid (at2_lt l 14 4)
    have l2 := Lib.hid (at2_lt l 24 4)
    have wo : IntKind.i64.wrap ((numB ((l.drop 6).take 2) : Nat) : Int) = ((numB ((l.drop 6).take 2) : Nat) : Int) := IntWalk.i64_in _ (by have := lo.out; unfold at2 at this; simp at this; omega)
    have wo2 : wrap64 ((numB ((l.drop 6).take 2) : Nat) : Int) = ((numB ((l.drop 6).take 2) : Nat) : Int) := by have := lo.out; unfold at2 at this; simp at this; unfold wrap64; omega
    have wi : IntKind.u32.wrap ((numB ((l.drop 14).take 4) : Nat) : Int) = ((numB ((l.drop 14).take 4) : Nat) : Int) := IntWalk.u32_in _ (by have := l1.out; unfold at2 at this; simp at this; omega)
    have wi2 : ((numB ((l.drop 14).take 4) : Nat) : Int) % 4294967296 = ((numB ((l.drop 14).take 4) : Nat) : Int) := by have := l1.out; unfold at2 at this; simp at this; omega
    have wj : IntKind.u32.wrap ((numB ((l.drop 24).take 4) : Nat) : Int) = ((numB ((l.drop 24).take 4) : Nat) : Int) := IntWalk.u32_in _ (by have := l2.out; unfold at2 at this; simp at this; omega)
    have wj2 : ((numB ((l.drop 24).take 4) : Nat) : Int) % 4294967296 = ((numB ((l.drop 24).take 4) : Nat) : Int) := by have := l2.out; unfold at2 at this; simp at this; omega
    clear lo l1 l2 h2
    go_enter Try.func20, Try.ntmps20
    go_upto_region 1 with fail
    rw [HW.out]
    clear HW
    go_upto_region 3 with fail
    have BW := B1
    have NE := Lib.hid (show ¬ w.heap.size = W.heap.size from by have := K1.out.lt; omega)
    go_cut [4] (fun s4 wx => s4 = .pointer (some ⟨W.heap.size, 0, none⟩) ∧ Hid (Blk wx W.heap.size 44 (arV ((numB ((l.drop 6).take 2) : Nat) : Int) (numB ((l.drop 8).take 6)) (numB ((l.drop 14).take 4)) (numB ((l.drop 18).take 6)) (numB ((l.drop 24).take 4)))) ∧ Hid (Blk wx w.heap.size 44 ar0) ∧ Hid (Below w.heap.size w wx))
    case first =>
      have hS := Lib.hid ((Below.refl W.heap.size W).drew)
      refine wp_head_held (S := fun w' => Hid (Below W.heap.size W w')) 20 (by kernel_rfl) rfl rfl (by kernel_rfl) ?_
      simp only [List.take_succ_cons, List.take_zero, List.drop_succ_cons, List.drop_zero]
      refine held_take (i := 0) (d := (some 14)) (v := ?_) rfl rfl (by kernel_rfl) (by kernel_rfl) (by kernel_rfl) (fun _ _ _ h => h) (by rfl) ?_ hS ?_
      rotate_left
      · intro w' hSw; (try dsimp only at hSw); go_simp <;> with_reducible rfl
      simp only [Act.put, List.setIfInBounds_toArray, List.set_cons_zero, List.set_cons_succ]
      refine held_take (i := 1) (d := (some 15)) (v := .string ⟨((l.drop 6).take 2).toArray⟩) rfl rfl (by kernel_rfl) (by kernel_rfl) (by kernel_rfl) (fun _ _ _ h => h) (by rfl) (fun w' _ => exec_slice Try.underlying9 (y := .string ⟨l.toArray⟩) (lo' := some (.int .i64 6)) (hi' := some (.int .i64 8)) rfl rfl rfl rfl (d1 w')) hS ?_
      simp only [Act.put, List.setIfInBounds_toArray, List.set_cons_zero, List.set_cons_succ]
      refine held_take (i := 4) (d := (some 18)) (v := ?_) rfl rfl (by kernel_rfl) (by kernel_rfl) (by kernel_rfl) (fun _ _ _ h => h) (by rfl) ?_ hS ?_
      rotate_left
      · intro w' hSw; (try dsimp only at hSw); go_simp <;> with_reducible rfl
      simp only [Act.put, List.setIfInBounds_toArray, List.set_cons_zero, List.set_cons_succ]
      refine held_take (i := 5) (d := (some 19)) (v := .string ⟨((l.drop 8).take 6).toArray⟩) rfl rfl (by kernel_rfl) (by kernel_rfl) (by kernel_rfl) (fun _ _ _ h => h) (by rfl) (fun w' _ => exec_slice Try.underlying9 (y := .string ⟨l.toArray⟩) (lo' := some (.int .i64 8)) (hi' := some (.int .i64 14)) rfl rfl rfl rfl (d5 w')) hS ?_
      simp only [Act.put, List.setIfInBounds_toArray, List.set_cons_zero, List.set_cons_succ]
      refine held_take (i := 7) (d := (some 21)) (v := ?_) rfl rfl (by kernel_rfl) (by kernel_rfl) (by kernel_rfl) (fun _ _ _ h => h) (by rfl) ?_ hS ?_
      rotate_left
      · intro w' hSw; (try dsimp only at hSw); go_simp <;> with_reducible rfl
      simp only [Act.put, List.setIfInBounds_toArray, List.set_cons_zero, List.set_cons_succ]
      refine held_take (i := 8) (d := (some 22)) (v := .string ⟨((l.drop 14).take 4).toArray⟩) rfl rfl (by kernel_rfl) (by kernel_rfl) (by kernel_rfl) (fun _ _ _ h => h) (by rfl) (fun w' _ => exec_slice Try.underlying9 (y := .string ⟨l.toArray⟩) (lo' := some (.int .i64 14)) (hi' := some (.int .i64 18)) rfl rfl rfl rfl (d8 w')) hS ?_
      simp only [Act.put, List.setIfInBounds_toArray, List.set_cons_zero, List.set_cons_succ]
      refine held_take (i := 11) (d := (some 25)) (v := ?_) rfl rfl (by kernel_rfl) (by kernel_rfl) (by kernel_rfl) (fun _ _ _ h => h) (by rfl) ?_ hS ?_
      rotate_left
      · intro w' hSw; (try dsimp only at hSw); go_simp <;> with_reducible rfl
      simp only [Act.put, List.setIfInBounds_toArray, List.set_cons_zero, List.set_cons_succ]
      refine held_take (i := 12) (d := (some 26)) (v := .string ⟨((l.drop 18).take 6).toArray⟩) rfl rfl (by kernel_rfl) (by kernel_rfl) (by kernel_rfl) (fun _ _ _ h => h) (by rfl) (fun w' _ => exec_slice Try.underlying9 (y := .string ⟨l.toArray⟩) (lo' := some (.int .i64 18)) (hi' := some (.int .i64 24)) rfl rfl rfl rfl (d12 w')) hS ?_
      simp only [Act.put, List.setIfInBounds_toArray, List.set_cons_zero, List.set_cons_succ]
      refine held_take (i := 14) (d := (some 28)) (v := ?_) rfl rfl (by kernel_rfl) (by kernel_rfl) (by kernel_rfl) (fun _ _ _ h => h) (by rfl) ?_ hS ?_
      rotate_left
      · intro w' hSw; (try dsimp only at hSw); go_simp <;> with_reducible rfl
      simp only [Act.put, List.setIfInBounds_toArray, List.set_cons_zero, List.set_cons_succ]
      refine held_take (i := 15) (d := (some 29)) (v := .string ⟨((l.drop 24).take 4).toArray⟩) rfl rfl (by kernel_rfl) (by kernel_rfl) (by kernel_rfl) (fun _ _ _ h => h) (by rfl) (fun w' _ => exec_slice Try.underlying9 (y := .string ⟨l.toArray⟩) (lo' := some (.int .i64 24)) (hi' := some (.int .i64 28)) rfl rfl rfl rfl (d15 w')) hS ?_
      simp only [Act.put, List.setIfInBounds_toArray, List.set_cons_zero, List.set_cons_succ]
      refine held_two (i := 2) (j := 19) (by kernel_rfl) rfl rfl (by rfl) (by rfl) ?_ ?_
      · go_simp
        refine (refNum_any _ (by simp <;> omega) _).mono ?_; rintro e wn ⟨rfl, rfl⟩
        refine ⟨hS, ?_⟩
        (try simp only [Act.put, List.setIfInBounds_toArray, List.set_cons_zero, List.set_cons_succ])
        refine held_take (i := 3) (d := (some 17)) (v := ?_) rfl rfl (by kernel_rfl) (by kernel_rfl) (by kernel_rfl) (fun _ _ _ h => h) (by rfl) ?_ hS ?_
        rotate_left
        · intro w' hSw; (try dsimp only at hSw); go_simp <;> with_reducible rfl
        simp only [Act.put, List.setIfInBounds_toArray, List.set_cons_zero, List.set_cons_succ]
        refine held_two (i := 6) (j := 19) (by kernel_rfl) rfl rfl (by rfl) (by rfl) ?_ ?_
        · go_simp
          refine (refNum_any _ (by simp <;> omega) _).mono ?_; rintro e wn ⟨rfl, rfl⟩
          refine ⟨hS, ?_⟩
          (try simp only [Act.put, List.setIfInBounds_toArray, List.set_cons_zero, List.set_cons_succ])
          refine held_two (i := 9) (j := 19) (by kernel_rfl) rfl rfl (by rfl) (by rfl) ?_ ?_
          · go_simp
            refine (refNum_any _ (by simp <;> omega) _).mono ?_; rintro e wn ⟨rfl, rfl⟩
            refine ⟨hS, ?_⟩
            (try simp only [Act.put, List.setIfInBounds_toArray, List.set_cons_zero, List.set_cons_succ])
            refine held_take (i := 10) (d := (some 24)) (v := ?_) rfl rfl (by kernel_rfl) (by kernel_rfl) (by kernel_rfl) (fun _ _ _ h => h) (by rfl) ?_ hS ?_
            rotate_left
            · intro w' hSw; (try dsimp only at hSw); go_simp <;> with_reducible rfl
            simp only [Act.put, List.setIfInBounds_toArray, List.set_cons_zero, List.set_cons_succ]
            refine held_two (i := 13) (j := 19) (by kernel_rfl) rfl rfl (by rfl) (by rfl) ?_ ?_
            · go_simp
              refine (refNum_any _ (by simp <;> omega) _).mono ?_; rintro e wn ⟨rfl, rfl⟩
              refine ⟨hS, ?_⟩
              (try simp only [Act.put, List.setIfInBounds_toArray, List.set_cons_zero, List.set_cons_succ])
              refine held_two (i := 16) (j := 19) (by kernel_rfl) rfl rfl (by rfl) (by rfl) ?_ ?_
              · go_simp
                refine (refNum_any _ (by simp <;> omega) _).mono ?_; rintro e wn ⟨rfl, rfl⟩
                refine ⟨hS, ?_⟩
                (try simp only [Act.put, List.setIfInBounds_toArray, List.set_cons_zero, List.set_cons_succ])
                refine held_take (i := 17) (d := (some 31)) (v := ?_) rfl rfl (by kernel_rfl) (by kernel_rfl) (by kernel_rfl) (fun _ _ _ h => h) (by rfl) ?_ hS ?_
                rotate_left
                · intro w' hSw; (try dsimp only at hSw); go_simp <;> with_reducible rfl
                simp only [Act.put, List.setIfInBounds_toArray, List.set_cons_zero, List.set_cons_succ]
                refine held_take (i := 18) (d := (some 32)) (v := ?_) rfl rfl (by kernel_rfl) (by kernel_rfl) (by kernel_rfl) (fun _ _ _ h => h) (by rfl) ?_ hS ?_
                rotate_left
                · intro w' hSw; (try dsimp only at hSw); go_simp <;> with_reducible rfl
                simp only [Act.put, List.setIfInBounds_toArray, List.set_cons_zero, List.set_cons_succ]
                refine held_one (i := 19) (by kernel_rfl) rfl (by rfl) ?_
                go_simp
                have hS : Hid (Below W.heap.size W (W.drew.alloc (.cells ar0 44))) := Lib.hid (((Below.refl W.heap.size W).drew).alloc (Nat.le_refl _) _)
                refine ⟨hS, ?_⟩
                (try simp only [Act.put, List.setIfInBounds_toArray, List.set_cons_zero, List.set_cons_succ])
                refine wpAnyH_done (by kernel_rfl) ?_ _
                show wpList _ _ _ _ _ _
                have BA := Lib.hid ((below_drewN BW.out 1).alloc BW.out.size (.cells ar0 44))
                have QA := Lib.hid (show Blk (W.drew.alloc (.cells ar0 44)) W.heap.size 44 ar0 from Blk.new W.drew 44 ar0)
                have KA := Lib.hid (show Blk (W.drew.alloc (.cells ar0 44)) w.heap.size 44 ar0 from (K1.out.drewN 1).alloc _)
                have QS := Lib.hid (QA.out.setRow (arV ((numB ((l.drop 6).take 2) : Nat) : Int) (numB ((l.drop 8).take 6)) (numB ((l.drop 14).take 4)) (numB ((l.drop 18).take 6)) (numB ((l.drop 24).take 4))))
                have KS := Lib.hid (KA.out.setRow_far (k := W.heap.size) NE.out (arV ((numB ((l.drop 6).take 2) : Nat) : Int) (numB ((l.drop 8).take 6)) (numB ((l.drop 14).take 4)) (numB ((l.drop 18).take 6)) (numB ((l.drop 24).take 4))))
                have BS := Lib.hid (below_setRow BA.out BW.out.size (arV ((numB ((l.drop 6).take 2) : Nat) : Int) (numB ((l.drop 8).take 6)) (numB ((l.drop 14).take 4)) (numB ((l.drop 18).take 6)) (numB ((l.drop 24).take 4))))
                go_wp2_with (first
                  | (refine wpList_store_row rfl 44 (.tmp 4) (.tmp 32) rfl W.heap.size (arV ((numB ((l.drop 6).take 2) : Nat) : Int) (numB ((l.drop 8).take 6)) (numB ((l.drop 14).take 4)) (numB ((l.drop 18).take 6)) (numB ((l.drop 24).take 4))) rfl rfl 44 _ QA.out dar_info rfl (by simp [Value.oneCell']) ?_)
                  | fail)
                go_meet
                exact ⟨rfl, QS, KS, BS⟩
              · go_simp
                have hS : Hid (Below W.heap.size W (W.drew.alloc (.cells ar0 44))) := Lib.hid (((Below.refl W.heap.size W).drew).alloc (Nat.le_refl _) _)
                refine ⟨hS, ?_⟩
                (try simp only [Act.put, List.setIfInBounds_toArray, List.set_cons_zero, List.set_cons_succ])
                refine held_one (i := 16) (by kernel_rfl) rfl (by rfl) ?_
                go_simp
                refine (refNum_any _ (by simp <;> omega) _).mono ?_; rintro e wn ⟨rfl, rfl⟩
                refine ⟨hS, ?_⟩
                (try simp only [Act.put, List.setIfInBounds_toArray, List.set_cons_zero, List.set_cons_succ])
                refine held_take (i := 17) (d := (some 31)) (v := ?_) rfl rfl (by kernel_rfl) (by kernel_rfl) (by kernel_rfl) (fun _ _ _ h => h) (by rfl) ?_ hS ?_
                rotate_left
                · intro w' hSw; (try dsimp only at hSw); go_simp <;> with_reducible rfl
                simp only [Act.put, List.setIfInBounds_toArray, List.set_cons_zero, List.set_cons_succ]
                refine held_take (i := 18) (d := (some 32)) (v := ?_) rfl rfl (by kernel_rfl) (by kernel_rfl) (by kernel_rfl) (fun _ _ _ h => h) (by rfl) ?_ hS ?_
                rotate_left
                · intro w' hSw; (try dsimp only at hSw); go_simp <;> with_reducible rfl
                simp only [Act.put, List.setIfInBounds_toArray, List.set_cons_zero, List.set_cons_succ]
                refine wpAnyH_done (by kernel_rfl) ?_ _
                show wpList _ _ _ _ _ _
                have BA := Lib.hid ((below_drewN BW.out 1).alloc BW.out.size (.cells ar0 44))
                have QA := Lib.hid (show Blk (W.drew.alloc (.cells ar0 44)) W.heap.size 44 ar0 from Blk.new W.drew 44 ar0)
                have KA := Lib.hid (show Blk (W.drew.alloc (.cells ar0 44)) w.heap.size 44 ar0 from (K1.out.drewN 1).alloc _)
                have QS := Lib.hid (QA.out.setRow (arV ((numB ((l.drop 6).take 2) : Nat) : Int) (numB ((l.drop 8).take 6)) (numB ((l.drop 14).take 4)) (numB ((l.drop 18).take 6)) (numB ((l.drop 24).take 4))))
                have KS := Lib.hid (KA.out.setRow_far (k := W.heap.size) NE.out (arV ((numB ((l.drop 6).take 2) : Nat) : Int) (numB ((l.drop 8).take 6)) (numB ((l.drop 14).take 4)) (numB ((l.drop 18).take 6)) (numB ((l.drop 24).take 4))))
                have BS := Lib.hid (below_setRow BA.out BW.out.size (arV ((numB ((l.drop 6).take 2) : Nat) : Int) (numB ((l.drop 8).take 6)) (numB ((l.drop 14).take 4)) (numB ((l.drop 18).take 6)) (numB ((l.drop 24).take 4))))
                go_wp2_with (first
                  | (refine wpList_store_row rfl 44 (.tmp 4) (.tmp 32) rfl W.heap.size (arV ((numB ((l.drop 6).take 2) : Nat) : Int) (numB ((l.drop 8).take 6)) (numB ((l.drop 14).take 4)) (numB ((l.drop 18).take 6)) (numB ((l.drop 24).take 4))) rfl rfl 44 _ QA.out dar_info rfl (by simp [Value.oneCell']) ?_)
                  | fail)
                go_meet
                exact ⟨rfl, QS, KS, BS⟩
            · go_simp
              have hS : Hid (Below W.heap.size W (W.drew.alloc (.cells ar0 44))) := Lib.hid (((Below.refl W.heap.size W).drew).alloc (Nat.le_refl _) _)
              refine ⟨hS, ?_⟩
              (try simp only [Act.put, List.setIfInBounds_toArray, List.set_cons_zero, List.set_cons_succ])
              refine held_one (i := 13) (by kernel_rfl) rfl (by rfl) ?_
              go_simp
              refine (refNum_any _ (by simp <;> omega) _).mono ?_; rintro e wn ⟨rfl, rfl⟩
              refine ⟨hS, ?_⟩
              (try simp only [Act.put, List.setIfInBounds_toArray, List.set_cons_zero, List.set_cons_succ])
              refine held_one (i := 16) (by kernel_rfl) rfl (by rfl) ?_
              go_simp
              refine (refNum_any _ (by simp <;> omega) _).mono ?_; rintro e wn ⟨rfl, rfl⟩
              refine ⟨hS, ?_⟩
              (try simp only [Act.put, List.setIfInBounds_toArray, List.set_cons_zero, List.set_cons_succ])
              refine held_take (i := 17) (d := (some 31)) (v := ?_) rfl rfl (by kernel_rfl) (by kernel_rfl) (by kernel_rfl) (fun _ _ _ h => h) (by rfl) ?_ hS ?_
              rotate_left
              · intro w' hSw; (try dsimp only at hSw); go_simp <;> with_reducible rfl
              simp only [Act.put, List.setIfInBounds_toArray, List.set_cons_zero, List.set_cons_succ]
              refine held_take (i := 18) (d := (some 32)) (v := ?_) rfl rfl (by kernel_rfl) (by kernel_rfl) (by kernel_rfl) (fun _ _ _ h => h) (by rfl) ?_ hS ?_
              rotate_left
              · intro w' hSw; (try dsimp only at hSw); go_simp <;> with_reducible rfl
              simp only [Act.put, List.setIfInBounds_toArray, List.set_cons_zero, List.set_cons_succ]
              refine wpAnyH_done (by kernel_rfl) ?_ _
              show wpList _ _ _ _ _ _
              have BA := Lib.hid ((below_drewN BW.out 1).alloc BW.out.size (.cells ar0 44))
              have QA := Lib.hid (show Blk (W.drew.alloc (.cells ar0 44)) W.heap.size 44 ar0 from Blk.new W.drew 44 ar0)
              have KA := Lib.hid (show Blk (W.drew.alloc (.cells ar0 44)) w.heap.size 44 ar0 from (K1.out.drewN 1).alloc _)
              have QS := Lib.hid (QA.out.setRow (arV ((numB ((l.drop 6).take 2) : Nat) : Int) (numB ((l.drop 8).take 6)) (numB ((l.drop 14).take 4)) (numB ((l.drop 18).take 6)) (numB ((l.drop 24).take 4))))
              have KS := Lib.hid (KA.out.setRow_far (k := W.heap.size) NE.out (arV ((numB ((l.drop 6).take 2) : Nat) : Int) (numB ((l.drop 8).take 6)) (numB ((l.drop 14).take 4)) (numB ((l.drop 18).take 6)) (numB ((l.drop 24).take 4))))
              have BS := Lib.hid (below_setRow BA.out BW.out.size (arV ((numB ((l.drop 6).take 2) : Nat) : Int) (numB ((l.drop 8).take 6)) (numB ((l.drop 14).take 4)) (numB ((l.drop 18).take 6)) (numB ((l.drop 24).take 4))))
              go_wp2_with (first
                | (refine wpList_store_row rfl 44 (.tmp 4) (.tmp 32) rfl W.heap.size (arV ((numB ((l.drop 6).take 2) : Nat) : Int) (numB ((l.drop 8).take 6)) (numB ((l.drop 14).take 4)) (numB ((l.drop 18).take 6)) (numB ((l.drop 24).take 4))) rfl rfl 44 _ QA.out dar_info rfl (by simp [Value.oneCell']) ?_)
                | fail)
              go_meet
              exact ⟨rfl, QS, KS, BS⟩
          · go_simp
            have hS : Hid (Below W.heap.size W (W.drew.alloc (.cells ar0 44))) := Lib.hid (((Below.refl W.heap.size W).drew).alloc (Nat.le_refl _) _)
            refine ⟨hS, ?_⟩
            (try simp only [Act.put, List.setIfInBounds_toArray, List.set_cons_zero, List.set_cons_succ])
            refine held_one (i := 9) (by kernel_rfl) rfl (by rfl) ?_
            go_simp
            refine (refNum_any _ (by simp <;> omega) _).mono ?_; rintro e wn ⟨rfl, rfl⟩
            refine ⟨hS, ?_⟩
            (try simp only [Act.put, List.setIfInBounds_toArray, List.set_cons_zero, List.set_cons_succ])
            refine held_take (i := 10) (d := (some 24)) (v := ?_) rfl rfl (by kernel_rfl) (by kernel_rfl) (by kernel_rfl) (fun _ _ _ h => h) (by rfl) ?_ hS ?_
            rotate_left
            · intro w' hSw; (try dsimp only at hSw); go_simp <;> with_reducible rfl
            simp only [Act.put, List.setIfInBounds_toArray, List.set_cons_zero, List.set_cons_succ]
            refine held_one (i := 13) (by kernel_rfl) rfl (by rfl) ?_
            go_simp
            refine (refNum_any _ (by simp <;> omega) _).mono ?_; rintro e wn ⟨rfl, rfl⟩
            refine ⟨hS, ?_⟩
            (try simp only [Act.put, List.setIfInBounds_toArray, List.set_cons_zero, List.set_cons_succ])
            refine held_one (i := 16) (by kernel_rfl) rfl (by rfl) ?_
            go_simp
            refine (refNum_any _ (by simp <;> omega) _).mono ?_; rintro e wn ⟨rfl, rfl⟩
            refine ⟨hS, ?_⟩
            (try simp only [Act.put, List.setIfInBounds_toArray, List.set_cons_zero, List.set_cons_succ])
            refine held_take (i := 17) (d := (some 31)) (v := ?_) rfl rfl (by kernel_rfl) (by kernel_rfl) (by kernel_rfl) (fun _ _ _ h => h) (by rfl) ?_ hS ?_
            rotate_left
            · intro w' hSw; (try dsimp only at hSw); go_simp <;> with_reducible rfl
            simp only [Act.put, List.setIfInBounds_toArray, List.set_cons_zero, List.set_cons_succ]
            refine held_take (i := 18) (d := (some 32)) (v := ?_) rfl rfl (by kernel_rfl) (by kernel_rfl) (by kernel_rfl) (fun _ _ _ h => h) (by rfl) ?_ hS ?_
            rotate_left
            · intro w' hSw; (try dsimp only at hSw); go_simp <;> with_reducible rfl
            simp only [Act.put, List.setIfInBounds_toArray, List.set_cons_zero, List.set_cons_succ]
            refine wpAnyH_done (by kernel_rfl) ?_ _
            show wpList _ _ _ _ _ _
            have BA := Lib.hid ((below_drewN BW.out 1).alloc BW.out.size (.cells ar0 44))
            have QA := Lib.hid (show Blk (W.drew.alloc (.cells ar0 44)) W.heap.size 44 ar0 from Blk.new W.drew 44 ar0)
            have KA := Lib.hid (show Blk (W.drew.alloc (.cells ar0 44)) w.heap.size 44 ar0 from (K1.out.drewN 1).alloc _)
            have QS := Lib.hid (QA.out.setRow (arV ((numB ((l.drop 6).take 2) : Nat) : Int) (numB ((l.drop 8).take 6)) (numB ((l.drop 14).take 4)) (numB ((l.drop 18).take 6)) (numB ((l.drop 24).take 4))))
            have KS := Lib.hid (KA.out.setRow_far (k := W.heap.size) NE.out (arV ((numB ((l.drop 6).take 2) : Nat) : Int) (numB ((l.drop 8).take 6)) (numB ((l.drop 14).take 4)) (numB ((l.drop 18).take 6)) (numB ((l.drop 24).take 4))))
            have BS := Lib.hid (below_setRow BA.out BW.out.size (arV ((numB ((l.drop 6).take 2) : Nat) : Int) (numB ((l.drop 8).take 6)) (numB ((l.drop 14).take 4)) (numB ((l.drop 18).take 6)) (numB ((l.drop 24).take 4))))
            go_wp2_with (first
              | (refine wpList_store_row rfl 44 (.tmp 4) (.tmp 32) rfl W.heap.size (arV ((numB ((l.drop 6).take 2) : Nat) : Int) (numB ((l.drop 8).take 6)) (numB ((l.drop 14).take 4)) (numB ((l.drop 18).take 6)) (numB ((l.drop 24).take 4))) rfl rfl 44 _ QA.out dar_info rfl (by simp [Value.oneCell']) ?_)
              | fail)
            go_meet
            exact ⟨rfl, QS, KS, BS⟩
        · go_simp
          have hS : Hid (Below W.heap.size W (W.drew.alloc (.cells ar0 44))) := Lib.hid (((Below.refl W.heap.size W).drew).alloc (Nat.le_refl _) _)
          refine ⟨hS, ?_⟩
          (try simp only [Act.put, List.setIfInBounds_toArray, List.set_cons_zero, List.set_cons_succ])
          refine held_one (i := 6) (by kernel_rfl) rfl (by rfl) ?_
          go_simp
          refine (refNum_any _ (by simp <;> omega) _).mono ?_; rintro e wn ⟨rfl, rfl⟩
          refine ⟨hS, ?_⟩
          (try simp only [Act.put, List.setIfInBounds_toArray, List.set_cons_zero, List.set_cons_succ])
          refine held_one (i := 9) (by kernel_rfl) rfl (by rfl) ?_
          go_simp
          refine (refNum_any _ (by simp <;> omega) _).mono ?_; rintro e wn ⟨rfl, rfl⟩
          refine ⟨hS, ?_⟩
          (try simp only [Act.put, List.setIfInBounds_toArray, List.set_cons_zero, List.set_cons_succ])
          refine held_take (i := 10) (d := (some 24)) (v := ?_) rfl rfl (by kernel_rfl) (by kernel_rfl) (by kernel_rfl) (fun _ _ _ h => h) (by rfl) ?_ hS ?_
          rotate_left
          · intro w' hSw; (try dsimp only at hSw); go_simp <;> with_reducible rfl
          simp only [Act.put, List.setIfInBounds_toArray, List.set_cons_zero, List.set_cons_succ]
          refine held_one (i := 13) (by kernel_rfl) rfl (by rfl) ?_
          go_simp
          refine (refNum_any _ (by simp <;> omega) _).mono ?_; rintro e wn ⟨rfl, rfl⟩
          refine ⟨hS, ?_⟩
          (try simp only [Act.put, List.setIfInBounds_toArray, List.set_cons_zero, List.set_cons_succ])
          refine held_one (i := 16) (by kernel_rfl) rfl (by rfl) ?_
          go_simp
          refine (refNum_any _ (by simp <;> omega) _).mono ?_; rintro e wn ⟨rfl, rfl⟩
          refine ⟨hS, ?_⟩
          (try simp only [Act.put, List.setIfInBounds_toArray, List.set_cons_zero, List.set_cons_succ])
          refine held_take (i := 17) (d := (some 31)) (v := ?_) rfl rfl (by kernel_rfl) (by kernel_rfl) (by kernel_rfl) (fun _ _ _ h => h) (by rfl) ?_ hS ?_
          rotate_left
          · intro w' hSw; (try dsimp only at hSw); go_simp <;> with_reducible rfl
          simp only [Act.put, List.setIfInBounds_toArray, List.set_cons_zero, List.set_cons_succ]
          refine held_take (i := 18) (d := (some 32)) (v := ?_) rfl rfl (by kernel_rfl) (by kernel_rfl) (by kernel_rfl) (fun _ _ _ h => h) (by rfl) ?_ hS ?_
          rotate_left
          · intro w' hSw; (try dsimp only at hSw); go_simp <;> with_reducible rfl
          simp only [Act.put, List.setIfInBounds_toArray, List.set_cons_zero, List.set_cons_succ]
          refine wpAnyH_done (by kernel_rfl) ?_ _
          show wpList _ _ _ _ _ _
          have BA := Lib.hid ((below_drewN BW.out 1).alloc BW.out.size (.cells ar0 44))
          have QA := Lib.hid (show Blk (W.drew.alloc (.cells ar0 44)) W.heap.size 44 ar0 from Blk.new W.drew 44 ar0)
          have KA := Lib.hid (show Blk (W.drew.alloc (.cells ar0 44)) w.heap.size 44 ar0 from (K1.out.drewN 1).alloc _)
          have QS := Lib.hid (QA.out.setRow (arV ((numB ((l.drop 6).take 2) : Nat) : Int) (numB ((l.drop 8).take 6)) (numB ((l.drop 14).take 4)) (numB ((l.drop 18).take 6)) (numB ((l.drop 24).take 4))))
          have KS := Lib.hid (KA.out.setRow_far (k := W.heap.size) NE.out (arV ((numB ((l.drop 6).take 2) : Nat) : Int) (numB ((l.drop 8).take 6)) (numB ((l.drop 14).take 4)) (numB ((l.drop 18).take 6)) (numB ((l.drop 24).take 4))))
          have BS := Lib.hid (below_setRow BA.out BW.out.size (arV ((numB ((l.drop 6).take 2) : Nat) : Int) (numB ((l.drop 8).take 6)) (numB ((l.drop 14).take 4)) (numB ((l.drop 18).take 6)) (numB ((l.drop 24).take 4))))
          go_wp2_with (first
            | (refine wpList_store_row rfl 44 (.tmp 4) (.tmp 32) rfl W.heap.size (arV ((numB ((l.drop 6).take 2) : Nat) : Int) (numB ((l.drop 8).take 6)) (numB ((l.drop 14).take 4)) (numB ((l.drop 18).take 6)) (numB ((l.drop 24).take 4))) rfl rfl 44 _ QA.out dar_info rfl (by simp [Value.oneCell']) ?_)
            | fail)
          go_meet
          exact ⟨rfl, QS, KS, BS⟩
      · go_simp
        have hS : Hid (Below W.heap.size W (W.drew.alloc (.cells ar0 44))) := Lib.hid (((Below.refl W.heap.size W).drew).alloc (Nat.le_refl _) _)
        refine ⟨hS, ?_⟩
        (try simp only [Act.put, List.setIfInBounds_toArray, List.set_cons_zero, List.set_cons_succ])
        refine held_one (i := 2) (by kernel_rfl) rfl (by rfl) ?_
        go_simp
        refine (refNum_any _ (by simp <;> omega) _).mono ?_; rintro e wn ⟨rfl, rfl⟩
        refine ⟨hS, ?_⟩
        (try simp only [Act.put, List.setIfInBounds_toArray, List.set_cons_zero, List.set_cons_succ])
        refine held_take (i := 3) (d := (some 17)) (v := ?_) rfl rfl (by kernel_rfl) (by kernel_rfl) (by kernel_rfl) (fun _ _ _ h => h) (by rfl) ?_ hS ?_
        rotate_left
        · intro w' hSw; (try dsimp only at hSw); go_simp <;> with_reducible rfl
        simp only [Act.put, List.setIfInBounds_toArray, List.set_cons_zero, List.set_cons_succ]
        refine held_one (i := 6) (by kernel_rfl) rfl (by rfl) ?_
        go_simp
        refine (refNum_any _ (by simp <;> omega) _).mono ?_; rintro e wn ⟨rfl, rfl⟩
        refine ⟨hS, ?_⟩
        (try simp only [Act.put, List.setIfInBounds_toArray, List.set_cons_zero, List.set_cons_succ])
        refine held_one (i := 9) (by kernel_rfl) rfl (by rfl) ?_
        go_simp
        refine (refNum_any _ (by simp <;> omega) _).mono ?_; rintro e wn ⟨rfl, rfl⟩
        refine ⟨hS, ?_⟩
        (try simp only [Act.put, List.setIfInBounds_toArray, List.set_cons_zero, List.set_cons_succ])
        refine held_take (i := 10) (d := (some 24)) (v := ?_) rfl rfl (by kernel_rfl) (by kernel_rfl) (by kernel_rfl) (fun _ _ _ h => h) (by rfl) ?_ hS ?_
        rotate_left
        · intro w' hSw; (try dsimp only at hSw); go_simp <;> with_reducible rfl
        simp only [Act.put, List.setIfInBounds_toArray, List.set_cons_zero, List.set_cons_succ]
        refine held_one (i := 13) (by kernel_rfl) rfl (by rfl) ?_
        go_simp
        refine (refNum_any _ (by simp <;> omega) _).mono ?_; rintro e wn ⟨rfl, rfl⟩
        refine ⟨hS, ?_⟩
        (try simp only [Act.put, List.setIfInBounds_toArray, List.set_cons_zero, List.set_cons_succ])
        refine held_one (i := 16) (by kernel_rfl) rfl (by rfl) ?_
        go_simp
        refine (refNum_any _ (by simp <;> omega) _).mono ?_; rintro e wn ⟨rfl, rfl⟩
        refine ⟨hS, ?_⟩
        (try simp only [Act.put, List.setIfInBounds_toArray, List.set_cons_zero, List.set_cons_succ])
        refine held_take (i := 17) (d := (some 31)) (v := ?_) rfl rfl (by kernel_rfl) (by kernel_rfl) (by kernel_rfl) (fun _ _ _ h => h) (by rfl) ?_ hS ?_
        rotate_left
        · intro w' hSw; (try dsimp only at hSw); go_simp <;> with_reducible rfl
        simp only [Act.put, List.setIfInBounds_toArray, List.set_cons_zero, List.set_cons_succ]
        refine held_take (i := 18) (d := (some 32)) (v := ?_) rfl rfl (by kernel_rfl) (by kernel_rfl) (by kernel_rfl) (fun _ _ _ h => h) (by rfl) ?_ hS ?_
        rotate_left
        · intro w' hSw; (try dsimp only at hSw); go_simp <;> with_reducible rfl
        simp only [Act.put, List.setIfInBounds_toArray, List.set_cons_zero, List.set_cons_succ]
        refine wpAnyH_done (by kernel_rfl) ?_ _
        show wpList _ _ _ _ _ _
        have BA := Lib.hid ((below_drewN BW.out 1).alloc BW.out.size (.cells ar0 44))
        have QA := Lib.hid (show Blk (W.drew.alloc (.cells ar0 44)) W.heap.size 44 ar0 from Blk.new W.drew 44 ar0)
        have KA := Lib.hid (show Blk (W.drew.alloc (.cells ar0 44)) w.heap.size 44 ar0 from (K1.out.drewN 1).alloc _)
        have QS := Lib.hid (QA.out.setRow (arV ((numB ((l.drop 6).take 2) : Nat) : Int) (numB ((l.drop 8).take 6)) (numB ((l.drop 14).take 4)) (numB ((l.drop 18).take 6)) (numB ((l.drop 24).take 4))))
        have KS := Lib.hid (KA.out.setRow_far (k := W.heap.size) NE.out (arV ((numB ((l.drop 6).take 2) : Nat) : Int) (numB ((l.drop 8).take 6)) (numB ((l.drop 14).take 4)) (numB ((l.drop 18).take 6)) (numB ((l.drop 24).take 4))))
        have BS := Lib.hid (below_setRow BA.out BW.out.size (arV ((numB ((l.drop 6).take 2) : Nat) : Int) (numB ((l.drop 8).take 6)) (numB ((l.drop 14).take 4)) (numB ((l.drop 18).take 6)) (numB ((l.drop 24).take 4))))
        go_wp2_with (first
          | (refine wpList_store_row rfl 44 (.tmp 4) (.tmp 32) rfl W.heap.size (arV ((numB ((l.drop 6).take 2) : Nat) : Int) (numB ((l.drop 8).take 6)) (numB ((l.drop 14).take 4)) (numB ((l.drop 18).take 6)) (numB ((l.drop 24).take 4))) rfl rfl 44 _ QA.out dar_info rfl (by simp [Value.oneCell']) ?_)
          | fail)
        go_meet
        exact ⟨rfl, QS, KS, BS⟩
    case rest => as_aux_lemma =>
      obtain ⟨rfl, QS, KS, BS⟩ := hcut
      have OP := Lib.hid (show arOp l = ((numB ((l.drop 6).take 2) : Nat) : Int) from rfl)
      have MM := Lib.hid (show (arV ((numB ((l.drop 6).take 2) : Nat) : Int) (numB ((l.drop 8).take 6)) (numB ((l.drop 14).take 4)) (numB ((l.drop 18).take 6)) (numB ((l.drop 24).take 4))) = arV (arOp l) (at2 l 8 6) (at2 l 14 4) (at2 l 18 6) (at2 l 24 4) from rfl)
      generalize hMV : (arV ((numB ((l.drop 6).take 2) : Nat) : Int) (numB ((l.drop 8).take 6)) (numB ((l.drop 14).take 4)) (numB ((l.drop 18).take 6)) (numB ((l.drop 24).take 4))) = mv at *
      have q0 := (QS.out.cell 0).trans (show _ = some (.int .i64 ((numB ((l.drop 6).take 2) : Nat) : Int)) from by rw [← hMV]; rfl)
      have sz : mv.size = 5 := by rw [← hMV]; rfl
      have one : (mv.all fun v => v.oneCell') = true := by rw [← hMV]; simp [Value.oneCell']
      generalize ((numB ((l.drop 6).take 2) : Nat) : Int) = o at *
      clear d0 d1 d5 d8 d12 d15 wo wo2 wi wi2 wj wj2 hMV
      by_cases ho : o = 1 ∨ o = 2
      rotate_left
      · have NO := Lib.hid (show arOk l = false from by unfold arOk; rw [OP.out, decide_eq_false ho]; simp)
        have n1 : (o != 1) = true := by simp; omega
        have n2 : (o != 2) = true := by simp; omega
        clear ho
        have KZ := Lib.hid (below_setRow BS.out (Nat.le_refl w.heap.size) ar0)
        go_wp2_with (first
          | (refine wpList_store_row rfl 44 (.tmp 2) (.tmp 41) rfl w.heap.size ar0 rfl rfl 44 _ KS.out dar_info rfl (by simp [Value.oneCell']) ?_)
          | fail)
        refine bodyPost_ret (v := .tuple #[.agg ar0, .bool false]) ?_ rfl ?_
        · exact results_cell_tmp Try.results20 _ _ w.heap.size 44 _ (0, 0) _ rfl (KS.out.row _) Try.underlying44 rfl dar_info
        exact ⟨.inl ⟨NO.out, rfl⟩, KZ.out⟩
      · have YES := Lib.hid (show arOk l = true from by unfold arOk; rw [L28.out, HD.out, OP.out]; simp only [decide_eq_true ho]; rfl)
        have KZ := Lib.hid (below_setRow BS.out (Nat.le_refl w.heap.size) mv)
        have ifo := Lib.hid (show (Try.prog.info? 44).map (·.size) = some mv.size from by rw [sz]; exact dar_info)
        rcases ho with rfl | rfl
        all_goals
          go_wp2_with (first
            | (refine wpList_load_row rfl 44 (.tmp 4) rfl W.heap.size rfl 44 _ (0, 0) _ QS.out Try.underlying44 rfl ifo.out ?_)
            | (refine wpList_store_row rfl 44 (.tmp 2) (.tmp 42) rfl w.heap.size mv rfl rfl 44 _ KS.out ifo.out (by rw [sz]; rfl) one ?_)
            | fail)
          refine bodyPost_ret (v := .tuple #[.agg mv, .bool true]) ?_ rfl ?_
          · exact results_cell_tmp Try.results20 _ _ w.heap.size 44 _ (0, 0) _ rfl (KS.out.row _) Try.underlying44 rfl ifo.out
          exact ⟨.inr ⟨YES.out, by rw [MM.out]⟩, KZ.out⟩
end Go.Proofs.Ytahmdogpnojcpaa.Et
