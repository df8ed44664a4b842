/- Package kern: the calls, one by one. Conditions: those that each states. -/
import Derived.Test.YtefnkednnnlhoaaGreatDoorMAN
namespace Go.Proofs.YtefnkednnnlhoaaGreatDoor.Ke
open Go.ChangeShapes Go.WideShapes Go.ChangeAt Go.RowKit Go.Deep Fr Di
set_option linter.unusedVariables false
theorem ainfo : (Tryz.prog.info? 104).map (·.size) = some 2 := by kernel_rfl
theorem kenv_yes (env : Int) (h : env = 1 ∨ env = 2) (w : World) :
    Calls Tryz.prog 59 #[.int .i64 env] w fun e w' => e = .returned (.bool true) ∧ w' = w := by
  have g1 : env ≥ 1 := by omega
  have g2 : env ≤ 2 := by omega
  clear h
  go_enter Tryz.func59, Tryz.ntmps59
  go_wp2
  go_ret
  exact ⟨rfl, rfl⟩
theorem kenv_no (env : Int) (h : ¬ (env = 1 ∨ env = 2)) (w : World) :
    Calls Tryz.prog 59 #[.int .i64 env] w fun e w' => e = .returned (.bool false) ∧ w' = w := by
  by_cases g1 : env ≥ 1
  · have g2 : ¬ env ≤ 2 := by omega
    clear h
    go_enter Tryz.func59, Tryz.ntmps59
    go_wp2
    go_ret
    exact ⟨rfl, rfl⟩
  · clear h
    go_enter Tryz.func59, Tryz.ntmps59
    go_wp2
    go_ret
    exact ⟨rfl, rfl⟩
section
variable {w : World} {lab : Nat → Nat} {g : Nat} {K : Kn} {a : Ad}

set_option maxRecDepth 100000 in
set_option maxHeartbeats 2000000 in
theorem call_1 (h : KAt w lab g K a) (n8 : ∀ k, lab k ≠ 8) (ok : K.Ok) (env : Int) (he : env = 1 ∨ env = 2) (qa qb qc : Int) (s : List UInt8) (p : List Ins) (l : List Pc) (Ab Ap Al : Option Addr) (cb cp cl : Nat) :
    Calls Tryz.prog 38 #[.pointer (some ⟨g, 0, none⟩), .agg #[.int .i64 1, .int .i64 env, .int .i64 qa, .int .i64 qb, .int .i64 qc, .slice Ab s.length cb, .slice Ap p.length cp, .slice Al l.length cl]] w (Called w lab g ({ K with ps := (Fr.allocR K.ps env).1 }, (Fr.allocR K.ps env).2.1, [], (Fr.allocR K.ps env).2.2)) := by
  have hB := boxed h n8 #[.int .i64 1, .int .i64 env, .int .i64 qa, .int .i64 qb, .int .i64 qc, .slice Ab s.length cb, .slice Ap p.length cp, .slice Al l.length cl]
  obtain ⟨W, hW⟩ : ∃ W, W = (w.alloc (.cells #[.int .i64 1, .int .i64 env, .int .i64 qa, .int .i64 qb, .int .i64 qc, .slice Ab s.length cb, .slice Ap p.length cp, .slice Al l.length cl] 110)).alloc (.cells #[.int .i64 0, .slice none 0 0] 104) := ⟨_, rfl⟩
  rw [← hW] at hB
  generalize mk2 lab w.heap.size = m at hB
  have B := Lib.hid hB
  have b0 := (hB.bc.cell 0).trans (show _ = some (.int .i64 1) from rfl)
  have b1 := (hB.bc.cell 1).trans (show _ = some (.int .i64 env) from rfl)
  have EV := Lib.hid (kenv_yes env he W)
  have HW := Lib.hid hW
  have CA := Lib.hid (Fr.alloc_any (hB.ka.tab.drewN 1) env)
  generalize (Fr.allocR K.ps env).1 = ps2 at *
  generalize (Fr.allocR K.ps env).2.1 = n at *
  generalize (Fr.allocR K.ps env).2.2 = ev at *
  clear h ok hB hW n8
  go_enter Tryz.func38, Tryz.ntmps38
  go_upto_region 1 with fail
  rw [show (w.alloc (.cells #[.int .i64 1, .int .i64 env, .int .i64 qa, .int .i64 qb, .int .i64 qc, .slice Ab s.length cb, .slice Ap p.length cp, .slice Al l.length cl] 110)).alloc (.cells #[.int .i64 0, .slice none 0 0] 104) = W from HW.out.symm]
  go_wp2_with fail
  refine EV.out.mono ?_; rintro e w1 ⟨rfl, hw1⟩; subst w1
  go_upto_region 8 with fail
  refine wp_region_held_drew (S := fun w' => Hid (w'.cell? ⟨g, 0, none⟩ = some (.pointer (some ⟨a.gt, 0, none⟩)) ∧ Blk w' w.heap.size 110 #[.int .i64 1, .int .i64 env, .int .i64 qa, .int .i64 qb, .int .i64 qc, .slice Ab s.length cb, .slice Ap p.length cp, .slice Al l.length cl])) (by kernel_rfl) (Lib.hid (show W.drew.cell? ⟨g, 0, none⟩ = some (.pointer (some ⟨a.gt, 0, none⟩)) ∧ Blk W.drew w.heap.size 110 #[.int .i64 1, .int .i64 env, .int .i64 qa, .int .i64 qb, .int .i64 qc, .slice Ab s.length cb, .slice Ap p.length cp, .slice Al l.length cl] from ⟨(B.out.ka.head.cell 0).trans rfl, B.out.bc⟩)) (fun hS => ?_)
  refine held_take (i := 0) (d := (some 19)) (v := ?_) rfl rfl (by kernel_rfl) (by kernel_rfl) (by kernel_rfl) (fun _ _ _ h => h) (by rfl) ?_ hS ?_
  rotate_left
  · intro w' hSw; (try dsimp only at hSw); go_simp <;> with_reducible rfl
  simp only [Act.put, List.setIfInBounds_toArray, List.set_cons_zero, List.set_cons_succ]
  refine held_take (i := 1) (d := (some 20)) (v := ?_) rfl rfl (by kernel_rfl) (by kernel_rfl) (by kernel_rfl) (fun _ _ _ h => h) (by rfl) ?_ hS ?_
  rotate_left
  · intro w' hSw; (try dsimp only at hSw); go_simp <;> with_reducible rfl
  simp only [Act.put, List.setIfInBounds_toArray, List.set_cons_zero, List.set_cons_succ]
  refine held_take (i := 2) (d := (some 21)) (v := ?_) rfl rfl (by kernel_rfl) (by kernel_rfl) (by kernel_rfl) (fun _ _ _ h => h) (by rfl) ?_ hS ?_
  rotate_left
  · intro w' hSw; (try dsimp only at hSw); go_simp <;> with_reducible rfl
  simp only [Act.put, List.setIfInBounds_toArray, List.set_cons_zero, List.set_cons_succ]
  refine held_take (i := 3) (d := (some 22)) (v := ?_) rfl rfl (by kernel_rfl) (by kernel_rfl) (by kernel_rfl) (fun _ _ _ h => h) (by rfl) ?_ hS ?_
  rotate_left
  · intro w' hSw; have hc := hSw.out.1; clear hSw; go_simp <;> with_reducible rfl
  simp only [Act.put, List.setIfInBounds_toArray, List.set_cons_zero, List.set_cons_succ]
  refine held_take (i := 4) (d := (some 23)) (v := ?_) rfl rfl (by kernel_rfl) (by kernel_rfl) (by kernel_rfl) (fun _ _ _ h => h) (by rfl) ?_ hS ?_
  rotate_left
  · intro w' hSw; (try dsimp only at hSw); go_simp <;> with_reducible rfl
  simp only [Act.put, List.setIfInBounds_toArray, List.set_cons_zero, List.set_cons_succ]
  refine held_take (i := 5) (d := (some 24)) (v := ?_) rfl rfl (by kernel_rfl) (by kernel_rfl) (by kernel_rfl) (fun _ _ _ h => h) (by rfl) ?_ hS ?_
  rotate_left
  · intro w' hSw; have hc := (hSw.out.2.cell 1).trans (show _ = some (.int .i64 env) from rfl); clear hSw; go_simp <;> with_reducible rfl
  simp only [Act.put, List.setIfInBounds_toArray, List.set_cons_zero, List.set_cons_succ]
  refine held_one (i := 6) (by kernel_rfl) rfl (by rfl) ?_
  go_simp
  refine (CA.out).mono ?_; rintro e w5 ⟨rfl, t5, k5⟩
  obtain ⟨h5, l5⟩ := (B.out.ka.drewN 1).setPs k5 t5
  have H5 := Lib.hid h5
  have L5 := Lib.hid (show LStep W w5 m m from (LStep.drawn m 1).trans l5)
  clear t5 k5 h5 l5
  have BA5 := Lib.hid (L5.out.blk8 B.out.ba (by rw [B.out.m2]; omega))
  have hS : Hid (w5.cell? ⟨g, 0, none⟩ = some (.pointer (some ⟨a.gt, 0, none⟩)) ∧ Blk w5 w.heap.size 110 #[.int .i64 1, .int .i64 env, .int .i64 qa, .int .i64 qb, .int .i64 qc, .slice Ab s.length cb, .slice Ap p.length cp, .slice Al l.length cl]) := Lib.hid ⟨(H5.out.head.cell 0).trans rfl, L5.out.blk8 B.out.bc (by rw [B.out.m1]; omega)⟩
  have c5a := (BA5.out.cell 0).trans (show _ = some (.int .i64 0) from rfl)
  have f5a := BA5.out.frozen 0
  have HNE := Lib.hid (show g ≠ w.heap.size + 1 ∧ w.heap.size ≠ w.heap.size + 1 from ⟨by have h1 := H5.out.lg; have h8 := L5.out.keep (w.heap.size + 1) (by rw [B.out.m2]; omega); have h9 := B.out.m2; intro e; rw [e] at h1; omega, by omega⟩)
  refine ⟨hS, ?_⟩
  (try simp only [Act.put, List.setIfInBounds_toArray, List.set_cons_zero, List.set_cons_succ])
  refine held_take (i := 7) (d := (some 18)) (v := ?_) rfl rfl (by kernel_rfl) (by kernel_rfl) (by kernel_rfl) (fun _ _ _ h => h) (by rfl) ?_ hS ?_
  rotate_left
  · intro w' hSw; (try dsimp only at hSw); go_simp <;> with_reducible rfl
  simp only [Act.put, List.setIfInBounds_toArray, List.set_cons_zero, List.set_cons_succ]
  refine held_take (i := 8) (d := (some 26)) (v := ?_) rfl rfl (by kernel_rfl) (by kernel_rfl) (by kernel_rfl) (fun _ _ _ h => h) (by rfl) ?_ hS ?_
  rotate_left
  · intro w' hSw; (try dsimp only at hSw); go_simp <;> with_reducible rfl
  simp only [Act.put, List.setIfInBounds_toArray, List.set_cons_zero, List.set_cons_succ]
  refine held_take (i := 9) (d := (some 27)) (v := ?_) rfl rfl (by kernel_rfl) (by kernel_rfl) (by kernel_rfl) (fun _ _ _ h => h) (by rfl) ?_ hS ?_
  rotate_left
  · intro w' hSw; (try dsimp only at hSw); go_simp <;> with_reducible rfl
  simp only [Act.put, List.setIfInBounds_toArray, List.set_cons_zero, List.set_cons_succ]
  refine held_take (i := 10) (d := (some 28)) (v := ?_) rfl rfl (by kernel_rfl) (by kernel_rfl) (by kernel_rfl) (fun _ _ _ h => h) (by rfl) ?_ hS ?_
  rotate_left
  · intro w' hSw; (try dsimp only at hSw); go_simp <;> with_reducible rfl
  simp only [Act.put, List.setIfInBounds_toArray, List.set_cons_zero, List.set_cons_succ]
  refine held_one (i := 11) (by kernel_rfl) rfl (by rfl) ?_
  go_simp
  have hS : Hid ((w5.setCell ⟨w.heap.size + 1, 0, none⟩ (.int .i64 n)).cell? ⟨g, 0, none⟩ = some (.pointer (some ⟨a.gt, 0, none⟩)) ∧ Blk (w5.setCell ⟨w.heap.size + 1, 0, none⟩ (.int .i64 n)) w.heap.size 110 #[.int .i64 1, .int .i64 env, .int .i64 qa, .int .i64 qb, .int .i64 qc, .slice Ab s.length cb, .slice Ap p.length cp, .slice Al l.length cl]) := Lib.hid ⟨((H5.out.head.far (p := ⟨w.heap.size + 1, 0, none⟩) HNE.out.1 _).cell 0).trans rfl, hS.out.2.far (p := ⟨w.heap.size + 1, 0, none⟩) HNE.out.2 _⟩
  have hT := Lib.hid (And.intro ((H5.out.head.cell 0).trans (show _ = some (.pointer (some ⟨a.gt, 0, none⟩)) from rfl)) hS.out.2)
  refine ⟨by first | exact hS | exact hT, ?_⟩
  (try simp only [Act.put, List.setIfInBounds_toArray, List.set_cons_zero, List.set_cons_succ])
  refine held_take (i := 12) (d := (some 5)) (v := ?_) rfl rfl (by kernel_rfl) (by kernel_rfl) (by kernel_rfl) (fun _ _ _ h => h) (by rfl) ?_ hS ?_
  rotate_left
  · intro w' hSw; (try dsimp only at hSw); go_simp <;> with_reducible rfl
  simp only [Act.put, List.setIfInBounds_toArray, List.set_cons_zero, List.set_cons_succ]
  refine wpAnyH_done (by kernel_rfl) ?_ _
  obtain ⟨W6, hW6⟩ : ∃ W6, W6 = (w5.setCell ⟨w.heap.size + 1, 0, none⟩ (.int .i64 n)) := ⟨_, rfl⟩
  have b6 : Blk W6 (w.heap.size + 1) 104 #[.int .i64 n, .slice none ([] : List UInt8).length 0] := by rw [hW6]; exact (BA5.out.put 0 (.int .i64 n))
  have k6 : Chg w5 W6 (fun i => i = w.heap.size + 1) := by rw [hW6]; exact Chg.set _ _ _ rfl
  have d0 := (b6.cell 0).trans (show _ = some (.int .i64 n) from rfl)
  have d1 := (b6.cell 1).trans (show _ = some (.slice none ([] : List UInt8).length 0) from rfl)
  have e0 := b6.frozen 0
  have e1 := b6.frozen 1
  have FIN := Lib.hid (finish (ev := ev) (s := ([] : List UInt8)) B.out ⟨a, H5.out⟩ L5.out k6 b6 (Src.nil _) (fun h => absurd h (by decide)))
  have HW6 := Lib.hid hW6
  clear b6 k6 hW6
  go_upto_region 33 with fail
  rw [show (w5.setCell ⟨w.heap.size + 1, 0, none⟩ (.int .i64 n)) = W6 from HW6.out.symm]
  go_wp2
  refine bodyPost_ret (v := .tuple #[.agg #[.int .i64 n, .slice none ([] : List UInt8).length 0], .int .i64 ev]) ?_ rfl ?_
  · exact results_cell_tmp Tryz.results38 _ _ (w.heap.size + 1) 104 _ (0, 0) _ rfl FIN.out.2 Tryz.underlying104 rfl ainfo
  · exact FIN.out.1

set_option maxRecDepth 100000 in
set_option maxHeartbeats 2000000 in
theorem call_2 (h : KAt w lab g K a) (n8 : ∀ k, lab k ≠ 8) (ok : K.Ok) (env : Int) (he : env = 1 ∨ env = 2) (qa qb qc : Int) (s : List UInt8) (p : List Ins) (l : List Pc) (Ab Ap Al : Option Addr) (cb cp cl : Nat) :
    Calls Tryz.prog 38 #[.pointer (some ⟨g, 0, none⟩), .agg #[.int .i64 2, .int .i64 env, .int .i64 qa, .int .i64 qb, .int .i64 qc, .slice Ab s.length cb, .slice Ap p.length cp, .slice Al l.length cl]] w (Called w lab g ({ K with ps := (Fr.freeR K.ps env qa).1 }, 0, [], (Fr.freeR K.ps env qa).2)) := by
  have hB := boxed h n8 #[.int .i64 2, .int .i64 env, .int .i64 qa, .int .i64 qb, .int .i64 qc, .slice Ab s.length cb, .slice Ap p.length cp, .slice Al l.length cl]
  obtain ⟨W, hW⟩ : ∃ W, W = (w.alloc (.cells #[.int .i64 2, .int .i64 env, .int .i64 qa, .int .i64 qb, .int .i64 qc, .slice Ab s.length cb, .slice Ap p.length cp, .slice Al l.length cl] 110)).alloc (.cells #[.int .i64 0, .slice none 0 0] 104) := ⟨_, rfl⟩
  rw [← hW] at hB
  generalize mk2 lab w.heap.size = m at hB
  have B := Lib.hid hB
  have b0 := (hB.bc.cell 0).trans (show _ = some (.int .i64 2) from rfl)
  have b1 := (hB.bc.cell 1).trans (show _ = some (.int .i64 env) from rfl)
  have EV := Lib.hid (kenv_yes env he W)
  have HW := Lib.hid hW
  have b2 := (hB.bc.cell 2).trans (show _ = some (.int .i64 qa) from rfl)
  have CA := Lib.hid (Fr.free_any (hB.ka.tab.drewN 1) env qa)
  generalize (Fr.freeR K.ps env qa).1 = ps2 at *
  generalize (Fr.freeR K.ps env qa).2 = ev at *
  clear h ok hB hW n8
  go_enter Tryz.func38, Tryz.ntmps38
  go_upto_region 1 with fail
  rw [show (w.alloc (.cells #[.int .i64 2, .int .i64 env, .int .i64 qa, .int .i64 qb, .int .i64 qc, .slice Ab s.length cb, .slice Ap p.length cp, .slice Al l.length cl] 110)).alloc (.cells #[.int .i64 0, .slice none 0 0] 104) = W from HW.out.symm]
  go_wp2_with fail
  refine EV.out.mono ?_; rintro e w1 ⟨rfl, hw1⟩; subst w1
  go_upto_region 10 with fail
  refine wp_region_held_drew (S := fun w' => Hid (w'.cell? ⟨g, 0, none⟩ = some (.pointer (some ⟨a.gt, 0, none⟩)) ∧ Blk w' w.heap.size 110 #[.int .i64 2, .int .i64 env, .int .i64 qa, .int .i64 qb, .int .i64 qc, .slice Ab s.length cb, .slice Ap p.length cp, .slice Al l.length cl])) (by kernel_rfl) (Lib.hid (show W.drew.cell? ⟨g, 0, none⟩ = some (.pointer (some ⟨a.gt, 0, none⟩)) ∧ Blk W.drew w.heap.size 110 #[.int .i64 2, .int .i64 env, .int .i64 qa, .int .i64 qb, .int .i64 qc, .slice Ab s.length cb, .slice Ap p.length cp, .slice Al l.length cl] from ⟨(B.out.ka.head.cell 0).trans rfl, B.out.bc⟩)) (fun hS => ?_)
  refine held_take (i := 0) (d := (some 31)) (v := ?_) rfl rfl (by kernel_rfl) (by kernel_rfl) (by kernel_rfl) (fun _ _ _ h => h) (by rfl) ?_ hS ?_
  rotate_left
  · intro w' hSw; (try dsimp only at hSw); go_simp <;> with_reducible rfl
  simp only [Act.put, List.setIfInBounds_toArray, List.set_cons_zero, List.set_cons_succ]
  refine held_take (i := 1) (d := (some 32)) (v := ?_) rfl rfl (by kernel_rfl) (by kernel_rfl) (by kernel_rfl) (fun _ _ _ h => h) (by rfl) ?_ hS ?_
  rotate_left
  · intro w' hSw; (try dsimp only at hSw); go_simp <;> with_reducible rfl
  simp only [Act.put, List.setIfInBounds_toArray, List.set_cons_zero, List.set_cons_succ]
  refine held_take (i := 2) (d := (some 33)) (v := ?_) rfl rfl (by kernel_rfl) (by kernel_rfl) (by kernel_rfl) (fun _ _ _ h => h) (by rfl) ?_ hS ?_
  rotate_left
  · intro w' hSw; (try dsimp only at hSw); go_simp <;> with_reducible rfl
  simp only [Act.put, List.setIfInBounds_toArray, List.set_cons_zero, List.set_cons_succ]
  refine held_take (i := 3) (d := (some 34)) (v := ?_) rfl rfl (by kernel_rfl) (by kernel_rfl) (by kernel_rfl) (fun _ _ _ h => h) (by rfl) ?_ hS ?_
  rotate_left
  · intro w' hSw; have hc := hSw.out.1; clear hSw; go_simp <;> with_reducible rfl
  simp only [Act.put, List.setIfInBounds_toArray, List.set_cons_zero, List.set_cons_succ]
  refine held_take (i := 4) (d := (some 35)) (v := ?_) rfl rfl (by kernel_rfl) (by kernel_rfl) (by kernel_rfl) (fun _ _ _ h => h) (by rfl) ?_ hS ?_
  rotate_left
  · intro w' hSw; (try dsimp only at hSw); go_simp <;> with_reducible rfl
  simp only [Act.put, List.setIfInBounds_toArray, List.set_cons_zero, List.set_cons_succ]
  refine held_take (i := 5) (d := (some 36)) (v := ?_) rfl rfl (by kernel_rfl) (by kernel_rfl) (by kernel_rfl) (fun _ _ _ h => h) (by rfl) ?_ hS ?_
  rotate_left
  · intro w' hSw; have hc := (hSw.out.2.cell 1).trans (show _ = some (.int .i64 env) from rfl); clear hSw; go_simp <;> with_reducible rfl
  simp only [Act.put, List.setIfInBounds_toArray, List.set_cons_zero, List.set_cons_succ]
  refine held_take (i := 6) (d := (some 37)) (v := ?_) rfl rfl (by kernel_rfl) (by kernel_rfl) (by kernel_rfl) (fun _ _ _ h => h) (by rfl) ?_ hS ?_
  rotate_left
  · intro w' hSw; (try dsimp only at hSw); go_simp <;> with_reducible rfl
  simp only [Act.put, List.setIfInBounds_toArray, List.set_cons_zero, List.set_cons_succ]
  refine held_take (i := 7) (d := (some 38)) (v := ?_) rfl rfl (by kernel_rfl) (by kernel_rfl) (by kernel_rfl) (fun _ _ _ h => h) (by rfl) ?_ hS ?_
  rotate_left
  · intro w' hSw; have hc := (hSw.out.2.cell 2).trans (show _ = some (.int .i64 qa) from rfl); clear hSw; go_simp <;> with_reducible rfl
  simp only [Act.put, List.setIfInBounds_toArray, List.set_cons_zero, List.set_cons_succ]
  refine held_one (i := 8) (by kernel_rfl) rfl (by rfl) ?_
  go_simp
  refine (CA.out).mono ?_; rintro e w5 ⟨rfl, t5, k5⟩
  obtain ⟨h5, l5⟩ := (B.out.ka.drewN 1).setPs k5 t5
  have H5 := Lib.hid h5
  have L5 := Lib.hid (show LStep W w5 m m from (LStep.drawn m 1).trans l5)
  clear t5 k5 h5 l5
  have BA5 := Lib.hid (L5.out.blk8 B.out.ba (by rw [B.out.m2]; omega))
  have hS : Hid (w5.cell? ⟨g, 0, none⟩ = some (.pointer (some ⟨a.gt, 0, none⟩)) ∧ Blk w5 w.heap.size 110 #[.int .i64 2, .int .i64 env, .int .i64 qa, .int .i64 qb, .int .i64 qc, .slice Ab s.length cb, .slice Ap p.length cp, .slice Al l.length cl]) := Lib.hid ⟨(H5.out.head.cell 0).trans rfl, L5.out.blk8 B.out.bc (by rw [B.out.m1]; omega)⟩
  refine ⟨hS, ?_⟩
  (try simp only [Act.put, List.setIfInBounds_toArray, List.set_cons_zero, List.set_cons_succ])
  refine held_take (i := 9) (d := (some 5)) (v := ?_) rfl rfl (by kernel_rfl) (by kernel_rfl) (by kernel_rfl) (fun _ _ _ h => h) (by rfl) ?_ hS ?_
  rotate_left
  · intro w' hSw; (try dsimp only at hSw); go_simp <;> with_reducible rfl
  simp only [Act.put, List.setIfInBounds_toArray, List.set_cons_zero, List.set_cons_succ]
  refine wpAnyH_done (by kernel_rfl) ?_ _
  obtain ⟨W6, hW6⟩ : ∃ W6, W6 = w5 := ⟨_, rfl⟩
  have b6 : Blk W6 (w.heap.size + 1) 104 #[.int .i64 0, .slice none ([] : List UInt8).length 0] := by rw [hW6]; exact BA5.out
  have k6 : Chg w5 W6 (fun i => i = w.heap.size + 1) := by rw [hW6]; exact Chg.refl _ _
  have d0 := (b6.cell 0).trans (show _ = some (.int .i64 0) from rfl)
  have d1 := (b6.cell 1).trans (show _ = some (.slice none ([] : List UInt8).length 0) from rfl)
  have e0 := b6.frozen 0
  have e1 := b6.frozen 1
  have FIN := Lib.hid (finish (ev := ev) (s := ([] : List UInt8)) B.out ⟨a, H5.out⟩ L5.out k6 b6 (Src.nil _) (fun h => absurd h (by decide)))
  have HW6 := Lib.hid hW6
  clear b6 k6 hW6
  go_upto_region 33 with fail
  obtain rfl : W6 = w5 := HW6.out
  go_wp2
  refine bodyPost_ret (v := .tuple #[.agg #[.int .i64 0, .slice none ([] : List UInt8).length 0], .int .i64 ev]) ?_ rfl ?_
  · exact results_cell_tmp Tryz.results38 _ _ (w.heap.size + 1) 104 _ (0, 0) _ rfl FIN.out.2 Tryz.underlying104 rfl ainfo
  · exact FIN.out.1

set_option maxRecDepth 100000 in
set_option maxHeartbeats 2000000 in
theorem call_3 (h : KAt w lab g K a) (n8 : ∀ k, lab k ≠ 8) (ok : K.Ok) (env : Int) (he : env = 1 ∨ env = 2) (qa qb qc : Int) (s : List UInt8) (p : List Ins) (l : List Pc) (Ab Ap Al : Option Addr) (cb cp cl : Nat) :
    Calls Tryz.prog 38 #[.pointer (some ⟨g, 0, none⟩), .agg #[.int .i64 3, .int .i64 env, .int .i64 qa, .int .i64 qb, .int .i64 qc, .slice Ab s.length cb, .slice Ap p.length cp, .slice Al l.length cl]] w (Called w lab g ({ K with ps := (Fr.giveR K.ps env qa qb).1 }, 0, [], (Fr.giveR K.ps env qa qb).2)) := by
  have hB := boxed h n8 #[.int .i64 3, .int .i64 env, .int .i64 qa, .int .i64 qb, .int .i64 qc, .slice Ab s.length cb, .slice Ap p.length cp, .slice Al l.length cl]
  obtain ⟨W, hW⟩ : ∃ W, W = (w.alloc (.cells #[.int .i64 3, .int .i64 env, .int .i64 qa, .int .i64 qb, .int .i64 qc, .slice Ab s.length cb, .slice Ap p.length cp, .slice Al l.length cl] 110)).alloc (.cells #[.int .i64 0, .slice none 0 0] 104) := ⟨_, rfl⟩
  rw [← hW] at hB
  generalize mk2 lab w.heap.size = m at hB
  have B := Lib.hid hB
  have b0 := (hB.bc.cell 0).trans (show _ = some (.int .i64 3) from rfl)
  have b1 := (hB.bc.cell 1).trans (show _ = some (.int .i64 env) from rfl)
  have EV := Lib.hid (kenv_yes env he W)
  have HW := Lib.hid hW
  have CA := Lib.hid (Fr.give_any (hB.ka.tab.drewN 1) env qa qb)
  generalize (Fr.giveR K.ps env qa qb).1 = ps2 at *
  generalize (Fr.giveR K.ps env qa qb).2 = ev at *
  clear h ok hB hW n8
  go_enter Tryz.func38, Tryz.ntmps38
  go_upto_region 1 with fail
  rw [show (w.alloc (.cells #[.int .i64 3, .int .i64 env, .int .i64 qa, .int .i64 qb, .int .i64 qc, .slice Ab s.length cb, .slice Ap p.length cp, .slice Al l.length cl] 110)).alloc (.cells #[.int .i64 0, .slice none 0 0] 104) = W from HW.out.symm]
  go_wp2_with fail
  refine EV.out.mono ?_; rintro e w1 ⟨rfl, hw1⟩; subst w1
  go_upto_region 12 with fail
  refine wp_region_held_drew (S := fun w' => Hid (w'.cell? ⟨g, 0, none⟩ = some (.pointer (some ⟨a.gt, 0, none⟩)) ∧ Blk w' w.heap.size 110 #[.int .i64 3, .int .i64 env, .int .i64 qa, .int .i64 qb, .int .i64 qc, .slice Ab s.length cb, .slice Ap p.length cp, .slice Al l.length cl])) (by kernel_rfl) (Lib.hid (show W.drew.cell? ⟨g, 0, none⟩ = some (.pointer (some ⟨a.gt, 0, none⟩)) ∧ Blk W.drew w.heap.size 110 #[.int .i64 3, .int .i64 env, .int .i64 qa, .int .i64 qb, .int .i64 qc, .slice Ab s.length cb, .slice Ap p.length cp, .slice Al l.length cl] from ⟨(B.out.ka.head.cell 0).trans rfl, B.out.bc⟩)) (fun hS => ?_)
  refine held_take (i := 0) (d := (some 42)) (v := ?_) rfl rfl (by kernel_rfl) (by kernel_rfl) (by kernel_rfl) (fun _ _ _ h => h) (by rfl) ?_ hS ?_
  rotate_left
  · intro w' hSw; (try dsimp only at hSw); go_simp <;> with_reducible rfl
  simp only [Act.put, List.setIfInBounds_toArray, List.set_cons_zero, List.set_cons_succ]
  refine held_take (i := 1) (d := (some 43)) (v := ?_) rfl rfl (by kernel_rfl) (by kernel_rfl) (by kernel_rfl) (fun _ _ _ h => h) (by rfl) ?_ hS ?_
  rotate_left
  · intro w' hSw; (try dsimp only at hSw); go_simp <;> with_reducible rfl
  simp only [Act.put, List.setIfInBounds_toArray, List.set_cons_zero, List.set_cons_succ]
  refine held_take (i := 2) (d := (some 44)) (v := ?_) rfl rfl (by kernel_rfl) (by kernel_rfl) (by kernel_rfl) (fun _ _ _ h => h) (by rfl) ?_ hS ?_
  rotate_left
  · intro w' hSw; (try dsimp only at hSw); go_simp <;> with_reducible rfl
  simp only [Act.put, List.setIfInBounds_toArray, List.set_cons_zero, List.set_cons_succ]
  refine held_take (i := 3) (d := (some 45)) (v := ?_) rfl rfl (by kernel_rfl) (by kernel_rfl) (by kernel_rfl) (fun _ _ _ h => h) (by rfl) ?_ hS ?_
  rotate_left
  · intro w' hSw; have hc := hSw.out.1; clear hSw; go_simp <;> with_reducible rfl
  simp only [Act.put, List.setIfInBounds_toArray, List.set_cons_zero, List.set_cons_succ]
  refine held_take (i := 4) (d := (some 46)) (v := ?_) rfl rfl (by kernel_rfl) (by kernel_rfl) (by kernel_rfl) (fun _ _ _ h => h) (by rfl) ?_ hS ?_
  rotate_left
  · intro w' hSw; (try dsimp only at hSw); go_simp <;> with_reducible rfl
  simp only [Act.put, List.setIfInBounds_toArray, List.set_cons_zero, List.set_cons_succ]
  refine held_take (i := 5) (d := (some 47)) (v := ?_) rfl rfl (by kernel_rfl) (by kernel_rfl) (by kernel_rfl) (fun _ _ _ h => h) (by rfl) ?_ hS ?_
  rotate_left
  · intro w' hSw; have hc := (hSw.out.2.cell 1).trans (show _ = some (.int .i64 env) from rfl); clear hSw; go_simp <;> with_reducible rfl
  simp only [Act.put, List.setIfInBounds_toArray, List.set_cons_zero, List.set_cons_succ]
  refine held_take (i := 6) (d := (some 48)) (v := ?_) rfl rfl (by kernel_rfl) (by kernel_rfl) (by kernel_rfl) (fun _ _ _ h => h) (by rfl) ?_ hS ?_
  rotate_left
  · intro w' hSw; (try dsimp only at hSw); go_simp <;> with_reducible rfl
  simp only [Act.put, List.setIfInBounds_toArray, List.set_cons_zero, List.set_cons_succ]
  refine held_take (i := 7) (d := (some 49)) (v := ?_) rfl rfl (by kernel_rfl) (by kernel_rfl) (by kernel_rfl) (fun _ _ _ h => h) (by rfl) ?_ hS ?_
  rotate_left
  · intro w' hSw; have hc := (hSw.out.2.cell 2).trans (show _ = some (.int .i64 qa) from rfl); clear hSw; go_simp <;> with_reducible rfl
  simp only [Act.put, List.setIfInBounds_toArray, List.set_cons_zero, List.set_cons_succ]
  refine held_take (i := 8) (d := (some 50)) (v := ?_) rfl rfl (by kernel_rfl) (by kernel_rfl) (by kernel_rfl) (fun _ _ _ h => h) (by rfl) ?_ hS ?_
  rotate_left
  · intro w' hSw; (try dsimp only at hSw); go_simp <;> with_reducible rfl
  simp only [Act.put, List.setIfInBounds_toArray, List.set_cons_zero, List.set_cons_succ]
  refine held_take (i := 9) (d := (some 51)) (v := ?_) rfl rfl (by kernel_rfl) (by kernel_rfl) (by kernel_rfl) (fun _ _ _ h => h) (by rfl) ?_ hS ?_
  rotate_left
  · intro w' hSw; have hc := (hSw.out.2.cell 3).trans (show _ = some (.int .i64 qb) from rfl); clear hSw; go_simp <;> with_reducible rfl
  simp only [Act.put, List.setIfInBounds_toArray, List.set_cons_zero, List.set_cons_succ]
  refine held_one (i := 10) (by kernel_rfl) rfl (by rfl) ?_
  go_simp
  refine (CA.out).mono ?_; rintro e w5 ⟨rfl, t5, k5⟩
  obtain ⟨h5, l5⟩ := (B.out.ka.drewN 1).setPs k5 t5
  have H5 := Lib.hid h5
  have L5 := Lib.hid (show LStep W w5 m m from (LStep.drawn m 1).trans l5)
  clear t5 k5 h5 l5
  have BA5 := Lib.hid (L5.out.blk8 B.out.ba (by rw [B.out.m2]; omega))
  have hS : Hid (w5.cell? ⟨g, 0, none⟩ = some (.pointer (some ⟨a.gt, 0, none⟩)) ∧ Blk w5 w.heap.size 110 #[.int .i64 3, .int .i64 env, .int .i64 qa, .int .i64 qb, .int .i64 qc, .slice Ab s.length cb, .slice Ap p.length cp, .slice Al l.length cl]) := Lib.hid ⟨(H5.out.head.cell 0).trans rfl, L5.out.blk8 B.out.bc (by rw [B.out.m1]; omega)⟩
  refine ⟨hS, ?_⟩
  (try simp only [Act.put, List.setIfInBounds_toArray, List.set_cons_zero, List.set_cons_succ])
  refine held_take (i := 11) (d := (some 5)) (v := ?_) rfl rfl (by kernel_rfl) (by kernel_rfl) (by kernel_rfl) (fun _ _ _ h => h) (by rfl) ?_ hS ?_
  rotate_left
  · intro w' hSw; (try dsimp only at hSw); go_simp <;> with_reducible rfl
  simp only [Act.put, List.setIfInBounds_toArray, List.set_cons_zero, List.set_cons_succ]
  refine wpAnyH_done (by kernel_rfl) ?_ _
  obtain ⟨W6, hW6⟩ : ∃ W6, W6 = w5 := ⟨_, rfl⟩
  have b6 : Blk W6 (w.heap.size + 1) 104 #[.int .i64 0, .slice none ([] : List UInt8).length 0] := by rw [hW6]; exact BA5.out
  have k6 : Chg w5 W6 (fun i => i = w.heap.size + 1) := by rw [hW6]; exact Chg.refl _ _
  have d0 := (b6.cell 0).trans (show _ = some (.int .i64 0) from rfl)
  have d1 := (b6.cell 1).trans (show _ = some (.slice none ([] : List UInt8).length 0) from rfl)
  have e0 := b6.frozen 0
  have e1 := b6.frozen 1
  have FIN := Lib.hid (finish (ev := ev) (s := ([] : List UInt8)) B.out ⟨a, H5.out⟩ L5.out k6 b6 (Src.nil _) (fun h => absurd h (by decide)))
  have HW6 := Lib.hid hW6
  clear b6 k6 hW6
  go_upto_region 33 with fail
  obtain rfl : W6 = w5 := HW6.out
  go_wp2
  refine bodyPost_ret (v := .tuple #[.agg #[.int .i64 0, .slice none ([] : List UInt8).length 0], .int .i64 ev]) ?_ rfl ?_
  · exact results_cell_tmp Tryz.results38 _ _ (w.heap.size + 1) 104 _ (0, 0) _ rfl FIN.out.2 Tryz.underlying104 rfl ainfo
  · exact FIN.out.1

set_option maxRecDepth 100000 in
set_option maxHeartbeats 2000000 in
theorem call_5 (h : KAt w lab g K a) (n8 : ∀ k, lab k ≠ 8) (ok : K.Ok) (env : Int) (he : env = 1 ∨ env = 2) (qa qb qc : Int) (s : List UInt8) (p : List Ins) (l : List Pc) (Ab Ap Al : Option Addr) (cb cp cl : Nat) (wb : -9223372036854775808 ≤ qb ∧ qb ≤ 9223372036854775807) (hs : Src w Ab s.length cb s) :
    Calls Tryz.prog 38 #[.pointer (some ⟨g, 0, none⟩), .agg #[.int .i64 5, .int .i64 env, .int .i64 qa, .int .i64 qb, .int .i64 qc, .slice Ab s.length cb, .slice Ap p.length cp, .slice Al l.length cl]] w (Called w lab g ({ K with ps := (Fr.writeR K.ps env qa qb s).1 }, 0, [], (Fr.writeR K.ps env qa qb s).2)) := by
  have hB := boxed h n8 #[.int .i64 5, .int .i64 env, .int .i64 qa, .int .i64 qb, .int .i64 qc, .slice Ab s.length cb, .slice Ap p.length cp, .slice Al l.length cl]
  obtain ⟨W, hW⟩ : ∃ W, W = (w.alloc (.cells #[.int .i64 5, .int .i64 env, .int .i64 qa, .int .i64 qb, .int .i64 qc, .slice Ab s.length cb, .slice Ap p.length cp, .slice Al l.length cl] 110)).alloc (.cells #[.int .i64 0, .slice none 0 0] 104) := ⟨_, rfl⟩
  rw [← hW] at hB
  generalize mk2 lab w.heap.size = m at hB
  have B := Lib.hid hB
  have b0 := (hB.bc.cell 0).trans (show _ = some (.int .i64 5) from rfl)
  have b1 := (hB.bc.cell 1).trans (show _ = some (.int .i64 env) from rfl)
  have EV := Lib.hid (kenv_yes env he W)
  have HW := Lib.hid hW
  have CA := Lib.hid (Fr.write_any (hB.ka.tab.drewN 1) env qa qb wb Ab s.length cb s ((hs.older (older_below hB.below)).drewN 1))
  generalize (Fr.writeR K.ps env qa qb s).1 = ps2 at *
  generalize (Fr.writeR K.ps env qa qb s).2 = ev at *
  clear hs
  clear h ok hB hW n8
  go_enter Tryz.func38, Tryz.ntmps38
  go_upto_region 1 with fail
  rw [show (w.alloc (.cells #[.int .i64 5, .int .i64 env, .int .i64 qa, .int .i64 qb, .int .i64 qc, .slice Ab s.length cb, .slice Ap p.length cp, .slice Al l.length cl] 110)).alloc (.cells #[.int .i64 0, .slice none 0 0] 104) = W from HW.out.symm]
  go_wp2_with fail
  refine EV.out.mono ?_; rintro e w1 ⟨rfl, hw1⟩; subst w1
  go_upto_region 16 with fail
  refine wp_region_held_drew (S := fun w' => Hid (w'.cell? ⟨g, 0, none⟩ = some (.pointer (some ⟨a.gt, 0, none⟩)) ∧ Blk w' w.heap.size 110 #[.int .i64 5, .int .i64 env, .int .i64 qa, .int .i64 qb, .int .i64 qc, .slice Ab s.length cb, .slice Ap p.length cp, .slice Al l.length cl])) (by kernel_rfl) (Lib.hid (show W.drew.cell? ⟨g, 0, none⟩ = some (.pointer (some ⟨a.gt, 0, none⟩)) ∧ Blk W.drew w.heap.size 110 #[.int .i64 5, .int .i64 env, .int .i64 qa, .int .i64 qb, .int .i64 qc, .slice Ab s.length cb, .slice Ap p.length cp, .slice Al l.length cl] from ⟨(B.out.ka.head.cell 0).trans rfl, B.out.bc⟩)) (fun hS => ?_)
  refine held_take (i := 0) (d := (some 74)) (v := ?_) rfl rfl (by kernel_rfl) (by kernel_rfl) (by kernel_rfl) (fun _ _ _ h => h) (by rfl) ?_ hS ?_
  rotate_left
  · intro w' hSw; (try dsimp only at hSw); go_simp <;> with_reducible rfl
  simp only [Act.put, List.setIfInBounds_toArray, List.set_cons_zero, List.set_cons_succ]
  refine held_take (i := 1) (d := (some 75)) (v := ?_) rfl rfl (by kernel_rfl) (by kernel_rfl) (by kernel_rfl) (fun _ _ _ h => h) (by rfl) ?_ hS ?_
  rotate_left
  · intro w' hSw; (try dsimp only at hSw); go_simp <;> with_reducible rfl
  simp only [Act.put, List.setIfInBounds_toArray, List.set_cons_zero, List.set_cons_succ]
  refine held_take (i := 2) (d := (some 76)) (v := ?_) rfl rfl (by kernel_rfl) (by kernel_rfl) (by kernel_rfl) (fun _ _ _ h => h) (by rfl) ?_ hS ?_
  rotate_left
  · intro w' hSw; (try dsimp only at hSw); go_simp <;> with_reducible rfl
  simp only [Act.put, List.setIfInBounds_toArray, List.set_cons_zero, List.set_cons_succ]
  refine held_take (i := 3) (d := (some 77)) (v := ?_) rfl rfl (by kernel_rfl) (by kernel_rfl) (by kernel_rfl) (fun _ _ _ h => h) (by rfl) ?_ hS ?_
  rotate_left
  · intro w' hSw; have hc := hSw.out.1; clear hSw; go_simp <;> with_reducible rfl
  simp only [Act.put, List.setIfInBounds_toArray, List.set_cons_zero, List.set_cons_succ]
  refine held_take (i := 4) (d := (some 78)) (v := ?_) rfl rfl (by kernel_rfl) (by kernel_rfl) (by kernel_rfl) (fun _ _ _ h => h) (by rfl) ?_ hS ?_
  rotate_left
  · intro w' hSw; (try dsimp only at hSw); go_simp <;> with_reducible rfl
  simp only [Act.put, List.setIfInBounds_toArray, List.set_cons_zero, List.set_cons_succ]
  refine held_take (i := 5) (d := (some 79)) (v := ?_) rfl rfl (by kernel_rfl) (by kernel_rfl) (by kernel_rfl) (fun _ _ _ h => h) (by rfl) ?_ hS ?_
  rotate_left
  · intro w' hSw; have hc := (hSw.out.2.cell 1).trans (show _ = some (.int .i64 env) from rfl); clear hSw; go_simp <;> with_reducible rfl
  simp only [Act.put, List.setIfInBounds_toArray, List.set_cons_zero, List.set_cons_succ]
  refine held_take (i := 6) (d := (some 80)) (v := ?_) rfl rfl (by kernel_rfl) (by kernel_rfl) (by kernel_rfl) (fun _ _ _ h => h) (by rfl) ?_ hS ?_
  rotate_left
  · intro w' hSw; (try dsimp only at hSw); go_simp <;> with_reducible rfl
  simp only [Act.put, List.setIfInBounds_toArray, List.set_cons_zero, List.set_cons_succ]
  refine held_take (i := 7) (d := (some 81)) (v := ?_) rfl rfl (by kernel_rfl) (by kernel_rfl) (by kernel_rfl) (fun _ _ _ h => h) (by rfl) ?_ hS ?_
  rotate_left
  · intro w' hSw; have hc := (hSw.out.2.cell 2).trans (show _ = some (.int .i64 qa) from rfl); clear hSw; go_simp <;> with_reducible rfl
  simp only [Act.put, List.setIfInBounds_toArray, List.set_cons_zero, List.set_cons_succ]
  refine held_take (i := 8) (d := (some 82)) (v := ?_) rfl rfl (by kernel_rfl) (by kernel_rfl) (by kernel_rfl) (fun _ _ _ h => h) (by rfl) ?_ hS ?_
  rotate_left
  · intro w' hSw; (try dsimp only at hSw); go_simp <;> with_reducible rfl
  simp only [Act.put, List.setIfInBounds_toArray, List.set_cons_zero, List.set_cons_succ]
  refine held_take (i := 9) (d := (some 83)) (v := ?_) rfl rfl (by kernel_rfl) (by kernel_rfl) (by kernel_rfl) (fun _ _ _ h => h) (by rfl) ?_ hS ?_
  rotate_left
  · intro w' hSw; have hc := (hSw.out.2.cell 3).trans (show _ = some (.int .i64 qb) from rfl); clear hSw; go_simp <;> with_reducible rfl
  simp only [Act.put, List.setIfInBounds_toArray, List.set_cons_zero, List.set_cons_succ]
  refine held_take (i := 10) (d := (some 84)) (v := ?_) rfl rfl (by kernel_rfl) (by kernel_rfl) (by kernel_rfl) (fun _ _ _ h => h) (by rfl) ?_ hS ?_
  rotate_left
  · intro w' hSw; (try dsimp only at hSw); go_simp <;> with_reducible rfl
  simp only [Act.put, List.setIfInBounds_toArray, List.set_cons_zero, List.set_cons_succ]
  refine held_take (i := 11) (d := (some 85)) (v := ?_) rfl rfl (by kernel_rfl) (by kernel_rfl) (by kernel_rfl) (fun _ _ _ h => h) (by rfl) ?_ hS ?_
  rotate_left
  · intro w' hSw; have hc := (hSw.out.2.cell 5).trans (show _ = some (.slice Ab s.length cb) from rfl); clear hSw; go_simp <;> with_reducible rfl
  simp only [Act.put, List.setIfInBounds_toArray, List.set_cons_zero, List.set_cons_succ]
  refine held_one (i := 12) (by kernel_rfl) rfl (by rfl) ?_
  go_simp
  refine (CA.out).mono ?_; rintro e w5 ⟨rfl, t5, k5⟩
  obtain ⟨h5, l5⟩ := (B.out.ka.drewN 1).setPs k5 t5
  have H5 := Lib.hid h5
  have L5 := Lib.hid (show LStep W w5 m m from (LStep.drawn m 1).trans l5)
  clear t5 k5 h5 l5
  have BA5 := Lib.hid (L5.out.blk8 B.out.ba (by rw [B.out.m2]; omega))
  have hS : Hid (w5.cell? ⟨g, 0, none⟩ = some (.pointer (some ⟨a.gt, 0, none⟩)) ∧ Blk w5 w.heap.size 110 #[.int .i64 5, .int .i64 env, .int .i64 qa, .int .i64 qb, .int .i64 qc, .slice Ab s.length cb, .slice Ap p.length cp, .slice Al l.length cl]) := Lib.hid ⟨(H5.out.head.cell 0).trans rfl, L5.out.blk8 B.out.bc (by rw [B.out.m1]; omega)⟩
  refine ⟨hS, ?_⟩
  (try simp only [Act.put, List.setIfInBounds_toArray, List.set_cons_zero, List.set_cons_succ])
  refine held_take (i := 13) (d := (some 5)) (v := ?_) rfl rfl (by kernel_rfl) (by kernel_rfl) (by kernel_rfl) (fun _ _ _ h => h) (by rfl) ?_ hS ?_
  rotate_left
  · intro w' hSw; (try dsimp only at hSw); go_simp <;> with_reducible rfl
  simp only [Act.put, List.setIfInBounds_toArray, List.set_cons_zero, List.set_cons_succ]
  refine wpAnyH_done (by kernel_rfl) ?_ _
  obtain ⟨W6, hW6⟩ : ∃ W6, W6 = w5 := ⟨_, rfl⟩
  have b6 : Blk W6 (w.heap.size + 1) 104 #[.int .i64 0, .slice none ([] : List UInt8).length 0] := by rw [hW6]; exact BA5.out
  have k6 : Chg w5 W6 (fun i => i = w.heap.size + 1) := by rw [hW6]; exact Chg.refl _ _
  have d0 := (b6.cell 0).trans (show _ = some (.int .i64 0) from rfl)
  have d1 := (b6.cell 1).trans (show _ = some (.slice none ([] : List UInt8).length 0) from rfl)
  have e0 := b6.frozen 0
  have e1 := b6.frozen 1
  have FIN := Lib.hid (finish (ev := ev) (s := ([] : List UInt8)) B.out ⟨a, H5.out⟩ L5.out k6 b6 (Src.nil _) (fun h => absurd h (by decide)))
  have HW6 := Lib.hid hW6
  clear b6 k6 hW6
  go_upto_region 33 with fail
  obtain rfl : W6 = w5 := HW6.out
  go_wp2
  refine bodyPost_ret (v := .tuple #[.agg #[.int .i64 0, .slice none ([] : List UInt8).length 0], .int .i64 ev]) ?_ rfl ?_
  · exact results_cell_tmp Tryz.results38 _ _ (w.heap.size + 1) 104 _ (0, 0) _ rfl FIN.out.2 Tryz.underlying104 rfl ainfo
  · exact FIN.out.1

set_option maxRecDepth 100000 in
set_option maxHeartbeats 2000000 in
theorem call_4 (h : KAt w lab g K a) (n8 : ∀ k, lab k ≠ 8) (ok : K.Ok) (env : Int) (he : env = 1 ∨ env = 2) (qa qb qc : Int) (s : List UInt8) (p : List Ins) (l : List Pc) (Ab Ap Al : Option Addr) (cb cp cl : Nat) (wb : -9223372036854775808 ≤ qb ∧ qb ≤ 9223372036854775807) :
    Calls Tryz.prog 38 #[.pointer (some ⟨g, 0, none⟩), .agg #[.int .i64 4, .int .i64 env, .int .i64 qa, .int .i64 qb, .int .i64 qc, .slice Ab s.length cb, .slice Ap p.length cp, .slice Al l.length cl]] w (Called w lab g (K, 0, (Fr.readR K.ps env qa qb qc).1, (Fr.readR K.ps env qa qb qc).2)) := by
  have hB := boxed h n8 #[.int .i64 4, .int .i64 env, .int .i64 qa, .int .i64 qb, .int .i64 qc, .slice Ab s.length cb, .slice Ap p.length cp, .slice Al l.length cl]
  obtain ⟨W, hW⟩ : ∃ W, W = (w.alloc (.cells #[.int .i64 4, .int .i64 env, .int .i64 qa, .int .i64 qb, .int .i64 qc, .slice Ab s.length cb, .slice Ap p.length cp, .slice Al l.length cl] 110)).alloc (.cells #[.int .i64 0, .slice none 0 0] 104) := ⟨_, rfl⟩
  rw [← hW] at hB
  generalize mk2 lab w.heap.size = m at hB
  have B := Lib.hid hB
  have b0 := (hB.bc.cell 0).trans (show _ = some (.int .i64 4) from rfl)
  have b1 := (hB.bc.cell 1).trans (show _ = some (.int .i64 env) from rfl)
  have EV := Lib.hid (kenv_yes env he W)
  have HW := Lib.hid hW
  have CA := Lib.hid (Rf.read_any (hB.ka.tab.drewN 1) env qa qb qc wb)
  generalize (Fr.readR K.ps env qa qb qc).1 = sl at *
  generalize (Fr.readR K.ps env qa qb qc).2 = ev at *
  clear h ok hB hW n8
  go_enter Tryz.func38, Tryz.ntmps38
  go_upto_region 1 with fail
  rw [show (w.alloc (.cells #[.int .i64 4, .int .i64 env, .int .i64 qa, .int .i64 qb, .int .i64 qc, .slice Ab s.length cb, .slice Ap p.length cp, .slice Al l.length cl] 110)).alloc (.cells #[.int .i64 0, .slice none 0 0] 104) = W from HW.out.symm]
  go_wp2_with fail
  refine EV.out.mono ?_; rintro e w1 ⟨rfl, hw1⟩; subst w1
  go_upto_region 14 with fail
  refine wp_region_held_drew (S := fun w' => Hid (w'.cell? ⟨g, 0, none⟩ = some (.pointer (some ⟨a.gt, 0, none⟩)) ∧ Blk w' w.heap.size 110 #[.int .i64 4, .int .i64 env, .int .i64 qa, .int .i64 qb, .int .i64 qc, .slice Ab s.length cb, .slice Ap p.length cp, .slice Al l.length cl])) (by kernel_rfl) (Lib.hid (show W.drew.cell? ⟨g, 0, none⟩ = some (.pointer (some ⟨a.gt, 0, none⟩)) ∧ Blk W.drew w.heap.size 110 #[.int .i64 4, .int .i64 env, .int .i64 qa, .int .i64 qb, .int .i64 qc, .slice Ab s.length cb, .slice Ap p.length cp, .slice Al l.length cl] from ⟨(B.out.ka.head.cell 0).trans rfl, B.out.bc⟩)) (fun hS => ?_)
  refine held_take (i := 0) (d := (some 56)) (v := ?_) rfl rfl (by kernel_rfl) (by kernel_rfl) (by kernel_rfl) (fun _ _ _ h => h) (by rfl) ?_ hS ?_
  rotate_left
  · intro w' hSw; (try dsimp only at hSw); go_simp <;> with_reducible rfl
  simp only [Act.put, List.setIfInBounds_toArray, List.set_cons_zero, List.set_cons_succ]
  refine held_take (i := 1) (d := (some 57)) (v := ?_) rfl rfl (by kernel_rfl) (by kernel_rfl) (by kernel_rfl) (fun _ _ _ h => h) (by rfl) ?_ hS ?_
  rotate_left
  · intro w' hSw; (try dsimp only at hSw); go_simp <;> with_reducible rfl
  simp only [Act.put, List.setIfInBounds_toArray, List.set_cons_zero, List.set_cons_succ]
  refine held_take (i := 2) (d := (some 58)) (v := ?_) rfl rfl (by kernel_rfl) (by kernel_rfl) (by kernel_rfl) (fun _ _ _ h => h) (by rfl) ?_ hS ?_
  rotate_left
  · intro w' hSw; (try dsimp only at hSw); go_simp <;> with_reducible rfl
  simp only [Act.put, List.setIfInBounds_toArray, List.set_cons_zero, List.set_cons_succ]
  refine held_take (i := 3) (d := (some 59)) (v := ?_) rfl rfl (by kernel_rfl) (by kernel_rfl) (by kernel_rfl) (fun _ _ _ h => h) (by rfl) ?_ hS ?_
  rotate_left
  · intro w' hSw; have hc := hSw.out.1; clear hSw; go_simp <;> with_reducible rfl
  simp only [Act.put, List.setIfInBounds_toArray, List.set_cons_zero, List.set_cons_succ]
  refine held_take (i := 4) (d := (some 60)) (v := ?_) rfl rfl (by kernel_rfl) (by kernel_rfl) (by kernel_rfl) (fun _ _ _ h => h) (by rfl) ?_ hS ?_
  rotate_left
  · intro w' hSw; (try dsimp only at hSw); go_simp <;> with_reducible rfl
  simp only [Act.put, List.setIfInBounds_toArray, List.set_cons_zero, List.set_cons_succ]
  refine held_take (i := 5) (d := (some 61)) (v := ?_) rfl rfl (by kernel_rfl) (by kernel_rfl) (by kernel_rfl) (fun _ _ _ h => h) (by rfl) ?_ hS ?_
  rotate_left
  · intro w' hSw; have hc := (hSw.out.2.cell 1).trans (show _ = some (.int .i64 env) from rfl); clear hSw; go_simp <;> with_reducible rfl
  simp only [Act.put, List.setIfInBounds_toArray, List.set_cons_zero, List.set_cons_succ]
  refine held_take (i := 6) (d := (some 62)) (v := ?_) rfl rfl (by kernel_rfl) (by kernel_rfl) (by kernel_rfl) (fun _ _ _ h => h) (by rfl) ?_ hS ?_
  rotate_left
  · intro w' hSw; (try dsimp only at hSw); go_simp <;> with_reducible rfl
  simp only [Act.put, List.setIfInBounds_toArray, List.set_cons_zero, List.set_cons_succ]
  refine held_take (i := 7) (d := (some 63)) (v := ?_) rfl rfl (by kernel_rfl) (by kernel_rfl) (by kernel_rfl) (fun _ _ _ h => h) (by rfl) ?_ hS ?_
  rotate_left
  · intro w' hSw; have hc := (hSw.out.2.cell 2).trans (show _ = some (.int .i64 qa) from rfl); clear hSw; go_simp <;> with_reducible rfl
  simp only [Act.put, List.setIfInBounds_toArray, List.set_cons_zero, List.set_cons_succ]
  refine held_take (i := 8) (d := (some 64)) (v := ?_) rfl rfl (by kernel_rfl) (by kernel_rfl) (by kernel_rfl) (fun _ _ _ h => h) (by rfl) ?_ hS ?_
  rotate_left
  · intro w' hSw; (try dsimp only at hSw); go_simp <;> with_reducible rfl
  simp only [Act.put, List.setIfInBounds_toArray, List.set_cons_zero, List.set_cons_succ]
  refine held_take (i := 9) (d := (some 65)) (v := ?_) rfl rfl (by kernel_rfl) (by kernel_rfl) (by kernel_rfl) (fun _ _ _ h => h) (by rfl) ?_ hS ?_
  rotate_left
  · intro w' hSw; have hc := (hSw.out.2.cell 3).trans (show _ = some (.int .i64 qb) from rfl); clear hSw; go_simp <;> with_reducible rfl
  simp only [Act.put, List.setIfInBounds_toArray, List.set_cons_zero, List.set_cons_succ]
  refine held_take (i := 10) (d := (some 66)) (v := ?_) rfl rfl (by kernel_rfl) (by kernel_rfl) (by kernel_rfl) (fun _ _ _ h => h) (by rfl) ?_ hS ?_
  rotate_left
  · intro w' hSw; (try dsimp only at hSw); go_simp <;> with_reducible rfl
  simp only [Act.put, List.setIfInBounds_toArray, List.set_cons_zero, List.set_cons_succ]
  refine held_take (i := 11) (d := (some 67)) (v := ?_) rfl rfl (by kernel_rfl) (by kernel_rfl) (by kernel_rfl) (fun _ _ _ h => h) (by rfl) ?_ hS ?_
  rotate_left
  · intro w' hSw; have hc := (hSw.out.2.cell 4).trans (show _ = some (.int .i64 qc) from rfl); clear hSw; go_simp <;> with_reducible rfl
  simp only [Act.put, List.setIfInBounds_toArray, List.set_cons_zero, List.set_cons_succ]
  refine held_one (i := 12) (by kernel_rfl) rfl (by rfl) ?_
  go_simp
  refine CA.out.mono ?_; rintro e w5 ⟨A5, c5, rfl, s5, bl5⟩
  have H5 := Lib.hid (B.out.ka.new (show Below W.heap.size W w5 from ⟨bl5.os, bl5.tape, bl5.output, bl5.size, bl5.block⟩))
  have L5 := Lib.hid (LStep.news m (show Below W.heap.size W w5 from ⟨bl5.os, bl5.tape, bl5.output, bl5.size, bl5.block⟩))
  have S5 := Lib.hid s5.toSrc
  have O5 := Lib.hid (show Off (on m) A5 sl.length from Fresh.off (w := W.drewN 1) s5.fresh B.out.ka.all)
  clear s5 bl5
  have BA5 := Lib.hid (L5.out.blk8 B.out.ba (by rw [B.out.m2]; omega))
  have hS : Hid (w5.cell? ⟨g, 0, none⟩ = some (.pointer (some ⟨a.gt, 0, none⟩)) ∧ Blk w5 w.heap.size 110 #[.int .i64 4, .int .i64 env, .int .i64 qa, .int .i64 qb, .int .i64 qc, .slice Ab s.length cb, .slice Ap p.length cp, .slice Al l.length cl]) := Lib.hid ⟨(H5.out.head.cell 0).trans rfl, L5.out.blk8 B.out.bc (by rw [B.out.m1]; omega)⟩
  have c5a := (BA5.out.cell 1).trans (show _ = some (.slice none 0 0) from rfl)
  have f5a := BA5.out.frozen 1
  have HNE := Lib.hid (show g ≠ w.heap.size + 1 ∧ w.heap.size ≠ w.heap.size + 1 from ⟨by have h1 := H5.out.lg; have h8 := L5.out.keep (w.heap.size + 1) (by rw [B.out.m2]; omega); have h9 := B.out.m2; intro e; rw [e] at h1; omega, by omega⟩)
  refine ⟨hS, ?_⟩
  (try simp only [Act.put, List.setIfInBounds_toArray, List.set_cons_zero, List.set_cons_succ])
  refine held_take (i := 13) (d := (some 55)) (v := ?_) rfl rfl (by kernel_rfl) (by kernel_rfl) (by kernel_rfl) (fun _ _ _ h => h) (by rfl) ?_ hS ?_
  rotate_left
  · intro w' hSw; (try dsimp only at hSw); go_simp <;> with_reducible rfl
  simp only [Act.put, List.setIfInBounds_toArray, List.set_cons_zero, List.set_cons_succ]
  refine held_take (i := 14) (d := (some 69)) (v := ?_) rfl rfl (by kernel_rfl) (by kernel_rfl) (by kernel_rfl) (fun _ _ _ h => h) (by rfl) ?_ hS ?_
  rotate_left
  · intro w' hSw; (try dsimp only at hSw); go_simp <;> with_reducible rfl
  simp only [Act.put, List.setIfInBounds_toArray, List.set_cons_zero, List.set_cons_succ]
  refine held_take (i := 15) (d := (some 70)) (v := ?_) rfl rfl (by kernel_rfl) (by kernel_rfl) (by kernel_rfl) (fun _ _ _ h => h) (by rfl) ?_ hS ?_
  rotate_left
  · intro w' hSw; (try dsimp only at hSw); go_simp <;> with_reducible rfl
  simp only [Act.put, List.setIfInBounds_toArray, List.set_cons_zero, List.set_cons_succ]
  refine held_take (i := 16) (d := (some 71)) (v := ?_) rfl rfl (by kernel_rfl) (by kernel_rfl) (by kernel_rfl) (fun _ _ _ h => h) (by rfl) ?_ hS ?_
  rotate_left
  · intro w' hSw; (try dsimp only at hSw); go_simp <;> with_reducible rfl
  simp only [Act.put, List.setIfInBounds_toArray, List.set_cons_zero, List.set_cons_succ]
  refine held_one (i := 17) (by kernel_rfl) rfl (by rfl) ?_
  go_simp
  have hS : Hid ((w5.setCell ⟨w.heap.size + 1, 1, none⟩ (.slice A5 sl.length c5)).cell? ⟨g, 0, none⟩ = some (.pointer (some ⟨a.gt, 0, none⟩)) ∧ Blk (w5.setCell ⟨w.heap.size + 1, 1, none⟩ (.slice A5 sl.length c5)) w.heap.size 110 #[.int .i64 4, .int .i64 env, .int .i64 qa, .int .i64 qb, .int .i64 qc, .slice Ab s.length cb, .slice Ap p.length cp, .slice Al l.length cl]) := Lib.hid ⟨((H5.out.head.far (p := ⟨w.heap.size + 1, 1, none⟩) HNE.out.1 _).cell 0).trans rfl, hS.out.2.far (p := ⟨w.heap.size + 1, 1, none⟩) HNE.out.2 _⟩
  have hT := Lib.hid (And.intro ((H5.out.head.cell 0).trans (show _ = some (.pointer (some ⟨a.gt, 0, none⟩)) from rfl)) hS.out.2)
  refine ⟨by first | exact hS | exact hT, ?_⟩
  (try simp only [Act.put, List.setIfInBounds_toArray, List.set_cons_zero, List.set_cons_succ])
  refine held_take (i := 18) (d := (some 5)) (v := ?_) rfl rfl (by kernel_rfl) (by kernel_rfl) (by kernel_rfl) (fun _ _ _ h => h) (by rfl) ?_ hS ?_
  rotate_left
  · intro w' hSw; (try dsimp only at hSw); go_simp <;> with_reducible rfl
  simp only [Act.put, List.setIfInBounds_toArray, List.set_cons_zero, List.set_cons_succ]
  refine wpAnyH_done (by kernel_rfl) ?_ _
  obtain ⟨W6, hW6⟩ : ∃ W6, W6 = (w5.setCell ⟨w.heap.size + 1, 1, none⟩ (.slice A5 sl.length c5)) := ⟨_, rfl⟩
  have b6 : Blk W6 (w.heap.size + 1) 104 #[.int .i64 0, .slice A5 sl.length c5] := by rw [hW6]; exact (BA5.out.put 1 (.slice A5 sl.length c5))
  have k6 : Chg w5 W6 (fun i => i = w.heap.size + 1) := by rw [hW6]; exact Chg.set _ _ _ rfl
  have d0 := (b6.cell 0).trans (show _ = some (.int .i64 0) from rfl)
  have d1 := (b6.cell 1).trans (show _ = some (.slice A5 sl.length c5) from rfl)
  have e0 := b6.frozen 0
  have e1 := b6.frozen 1
  have FIN := Lib.hid (finish (ev := ev) (s := sl) B.out ⟨a, H5.out⟩ L5.out k6 b6 S5.out O5.out)
  have HW6 := Lib.hid hW6
  clear b6 k6 hW6
  go_upto_region 33 with fail
  rw [show (w5.setCell ⟨w.heap.size + 1, 1, none⟩ (.slice A5 sl.length c5)) = W6 from HW6.out.symm]
  go_wp2
  refine bodyPost_ret (v := .tuple #[.agg #[.int .i64 0, .slice A5 sl.length c5], .int .i64 ev]) ?_ rfl ?_
  · exact results_cell_tmp Tryz.results38 _ _ (w.heap.size + 1) 104 _ (0, 0) _ rfl FIN.out.2 Tryz.underlying104 rfl ainfo
  · exact FIN.out.1

set_option maxRecDepth 100000 in
set_option maxHeartbeats 2000000 in
theorem call_6 (h : KAt w lab g K a) (n8 : ∀ k, lab k ≠ 8) (ok : K.Ok) (env : Int) (he : env = 1 ∨ env = 2) (qa qb qc : Int) (s : List UInt8) (p : List Ins) (l : List Pc) (Ab Ap Al : Option Addr) (cb cp cl : Nat) :
    Calls Tryz.prog 38 #[.pointer (some ⟨g, 0, none⟩), .agg #[.int .i64 6, .int .i64 env, .int .i64 qa, .int .i64 qb, .int .i64 qc, .slice Ab s.length cb, .slice Ap p.length cp, .slice Al l.length cl]] w (Called w lab g (K, 0, (readR K.dk env qa).1, (readR K.dk env qa).2)) := by
  have hB := boxed h n8 #[.int .i64 6, .int .i64 env, .int .i64 qa, .int .i64 qb, .int .i64 qc, .slice Ab s.length cb, .slice Ap p.length cp, .slice Al l.length cl]
  obtain ⟨W, hW⟩ : ∃ W, W = (w.alloc (.cells #[.int .i64 6, .int .i64 env, .int .i64 qa, .int .i64 qb, .int .i64 qc, .slice Ab s.length cb, .slice Ap p.length cp, .slice Al l.length cl] 110)).alloc (.cells #[.int .i64 0, .slice none 0 0] 104) := ⟨_, rfl⟩
  rw [← hW] at hB
  generalize mk2 lab w.heap.size = m at hB
  have B := Lib.hid hB
  have b0 := (hB.bc.cell 0).trans (show _ = some (.int .i64 6) from rfl)
  have b1 := (hB.bc.cell 1).trans (show _ = some (.int .i64 env) from rfl)
  have EV := Lib.hid (kenv_yes env he W)
  have HW := Lib.hid hW
  have CA := Lib.hid (Rd.read_any (hB.ka.dk.drewN 1) env qa)
  generalize (readR K.dk env qa).1 = sl at *
  generalize (readR K.dk env qa).2 = ev at *
  clear h ok hB hW n8
  go_enter Tryz.func38, Tryz.ntmps38
  go_upto_region 1 with fail
  rw [show (w.alloc (.cells #[.int .i64 6, .int .i64 env, .int .i64 qa, .int .i64 qb, .int .i64 qc, .slice Ab s.length cb, .slice Ap p.length cp, .slice Al l.length cl] 110)).alloc (.cells #[.int .i64 0, .slice none 0 0] 104) = W from HW.out.symm]
  go_wp2_with fail
  refine EV.out.mono ?_; rintro e w1 ⟨rfl, hw1⟩; subst w1
  go_upto_region 18 with fail
  refine wp_region_held_drew (S := fun w' => Hid (w'.cell? ⟨g, 1, none⟩ = some (.pointer (some ⟨a.gd, 0, none⟩)) ∧ Blk w' w.heap.size 110 #[.int .i64 6, .int .i64 env, .int .i64 qa, .int .i64 qb, .int .i64 qc, .slice Ab s.length cb, .slice Ap p.length cp, .slice Al l.length cl])) (by kernel_rfl) (Lib.hid (show W.drew.cell? ⟨g, 1, none⟩ = some (.pointer (some ⟨a.gd, 0, none⟩)) ∧ Blk W.drew w.heap.size 110 #[.int .i64 6, .int .i64 env, .int .i64 qa, .int .i64 qb, .int .i64 qc, .slice Ab s.length cb, .slice Ap p.length cp, .slice Al l.length cl] from ⟨(B.out.ka.head.cell 1).trans rfl, B.out.bc⟩)) (fun hS => ?_)
  refine held_take (i := 0) (d := (some 90)) (v := ?_) rfl rfl (by kernel_rfl) (by kernel_rfl) (by kernel_rfl) (fun _ _ _ h => h) (by rfl) ?_ hS ?_
  rotate_left
  · intro w' hSw; (try dsimp only at hSw); go_simp <;> with_reducible rfl
  simp only [Act.put, List.setIfInBounds_toArray, List.set_cons_zero, List.set_cons_succ]
  refine held_take (i := 1) (d := (some 91)) (v := ?_) rfl rfl (by kernel_rfl) (by kernel_rfl) (by kernel_rfl) (fun _ _ _ h => h) (by rfl) ?_ hS ?_
  rotate_left
  · intro w' hSw; (try dsimp only at hSw); go_simp <;> with_reducible rfl
  simp only [Act.put, List.setIfInBounds_toArray, List.set_cons_zero, List.set_cons_succ]
  refine held_take (i := 2) (d := (some 92)) (v := ?_) rfl rfl (by kernel_rfl) (by kernel_rfl) (by kernel_rfl) (fun _ _ _ h => h) (by rfl) ?_ hS ?_
  rotate_left
  · intro w' hSw; (try dsimp only at hSw); go_simp <;> with_reducible rfl
  simp only [Act.put, List.setIfInBounds_toArray, List.set_cons_zero, List.set_cons_succ]
  refine held_take (i := 3) (d := (some 93)) (v := ?_) rfl rfl (by kernel_rfl) (by kernel_rfl) (by kernel_rfl) (fun _ _ _ h => h) (by rfl) ?_ hS ?_
  rotate_left
  · intro w' hSw; have hc := hSw.out.1; clear hSw; go_simp <;> with_reducible rfl
  simp only [Act.put, List.setIfInBounds_toArray, List.set_cons_zero, List.set_cons_succ]
  refine held_take (i := 4) (d := (some 94)) (v := ?_) rfl rfl (by kernel_rfl) (by kernel_rfl) (by kernel_rfl) (fun _ _ _ h => h) (by rfl) ?_ hS ?_
  rotate_left
  · intro w' hSw; (try dsimp only at hSw); go_simp <;> with_reducible rfl
  simp only [Act.put, List.setIfInBounds_toArray, List.set_cons_zero, List.set_cons_succ]
  refine held_take (i := 5) (d := (some 95)) (v := ?_) rfl rfl (by kernel_rfl) (by kernel_rfl) (by kernel_rfl) (fun _ _ _ h => h) (by rfl) ?_ hS ?_
  rotate_left
  · intro w' hSw; have hc := (hSw.out.2.cell 1).trans (show _ = some (.int .i64 env) from rfl); clear hSw; go_simp <;> with_reducible rfl
  simp only [Act.put, List.setIfInBounds_toArray, List.set_cons_zero, List.set_cons_succ]
  refine held_take (i := 6) (d := (some 96)) (v := ?_) rfl rfl (by kernel_rfl) (by kernel_rfl) (by kernel_rfl) (fun _ _ _ h => h) (by rfl) ?_ hS ?_
  rotate_left
  · intro w' hSw; (try dsimp only at hSw); go_simp <;> with_reducible rfl
  simp only [Act.put, List.setIfInBounds_toArray, List.set_cons_zero, List.set_cons_succ]
  refine held_take (i := 7) (d := (some 97)) (v := ?_) rfl rfl (by kernel_rfl) (by kernel_rfl) (by kernel_rfl) (fun _ _ _ h => h) (by rfl) ?_ hS ?_
  rotate_left
  · intro w' hSw; have hc := (hSw.out.2.cell 2).trans (show _ = some (.int .i64 qa) from rfl); clear hSw; go_simp <;> with_reducible rfl
  simp only [Act.put, List.setIfInBounds_toArray, List.set_cons_zero, List.set_cons_succ]
  refine held_one (i := 8) (by kernel_rfl) rfl (by rfl) ?_
  go_simp
  refine CA.out.mono ?_; rintro e w5 ⟨A5, c5, rfl, s5, bl5⟩
  have H5 := Lib.hid (B.out.ka.new (show Below W.heap.size W w5 from ⟨bl5.os, bl5.tape, bl5.output, bl5.size, bl5.block⟩))
  have L5 := Lib.hid (LStep.news m (show Below W.heap.size W w5 from ⟨bl5.os, bl5.tape, bl5.output, bl5.size, bl5.block⟩))
  have S5 := Lib.hid s5.toSrc
  have O5 := Lib.hid (show Off (on m) A5 sl.length from Fresh.off (w := W.drewN 1) s5.fresh B.out.ka.all)
  clear s5 bl5
  have BA5 := Lib.hid (L5.out.blk8 B.out.ba (by rw [B.out.m2]; omega))
  have hS : Hid (w5.cell? ⟨g, 1, none⟩ = some (.pointer (some ⟨a.gd, 0, none⟩)) ∧ Blk w5 w.heap.size 110 #[.int .i64 6, .int .i64 env, .int .i64 qa, .int .i64 qb, .int .i64 qc, .slice Ab s.length cb, .slice Ap p.length cp, .slice Al l.length cl]) := Lib.hid ⟨(H5.out.head.cell 1).trans rfl, L5.out.blk8 B.out.bc (by rw [B.out.m1]; omega)⟩
  have c5a := (BA5.out.cell 1).trans (show _ = some (.slice none 0 0) from rfl)
  have f5a := BA5.out.frozen 1
  have HNE := Lib.hid (show g ≠ w.heap.size + 1 ∧ w.heap.size ≠ w.heap.size + 1 from ⟨by have h1 := H5.out.lg; have h8 := L5.out.keep (w.heap.size + 1) (by rw [B.out.m2]; omega); have h9 := B.out.m2; intro e; rw [e] at h1; omega, by omega⟩)
  refine ⟨hS, ?_⟩
  (try simp only [Act.put, List.setIfInBounds_toArray, List.set_cons_zero, List.set_cons_succ])
  refine held_take (i := 9) (d := (some 89)) (v := ?_) rfl rfl (by kernel_rfl) (by kernel_rfl) (by kernel_rfl) (fun _ _ _ h => h) (by rfl) ?_ hS ?_
  rotate_left
  · intro w' hSw; (try dsimp only at hSw); go_simp <;> with_reducible rfl
  simp only [Act.put, List.setIfInBounds_toArray, List.set_cons_zero, List.set_cons_succ]
  refine held_take (i := 10) (d := (some 99)) (v := ?_) rfl rfl (by kernel_rfl) (by kernel_rfl) (by kernel_rfl) (fun _ _ _ h => h) (by rfl) ?_ hS ?_
  rotate_left
  · intro w' hSw; (try dsimp only at hSw); go_simp <;> with_reducible rfl
  simp only [Act.put, List.setIfInBounds_toArray, List.set_cons_zero, List.set_cons_succ]
  refine held_take (i := 11) (d := (some 100)) (v := ?_) rfl rfl (by kernel_rfl) (by kernel_rfl) (by kernel_rfl) (fun _ _ _ h => h) (by rfl) ?_ hS ?_
  rotate_left
  · intro w' hSw; (try dsimp only at hSw); go_simp <;> with_reducible rfl
  simp only [Act.put, List.setIfInBounds_toArray, List.set_cons_zero, List.set_cons_succ]
  refine held_take (i := 12) (d := (some 101)) (v := ?_) rfl rfl (by kernel_rfl) (by kernel_rfl) (by kernel_rfl) (fun _ _ _ h => h) (by rfl) ?_ hS ?_
  rotate_left
  · intro w' hSw; (try dsimp only at hSw); go_simp <;> with_reducible rfl
  simp only [Act.put, List.setIfInBounds_toArray, List.set_cons_zero, List.set_cons_succ]
  refine held_one (i := 13) (by kernel_rfl) rfl (by rfl) ?_
  go_simp
  have hS : Hid ((w5.setCell ⟨w.heap.size + 1, 1, none⟩ (.slice A5 sl.length c5)).cell? ⟨g, 1, none⟩ = some (.pointer (some ⟨a.gd, 0, none⟩)) ∧ Blk (w5.setCell ⟨w.heap.size + 1, 1, none⟩ (.slice A5 sl.length c5)) w.heap.size 110 #[.int .i64 6, .int .i64 env, .int .i64 qa, .int .i64 qb, .int .i64 qc, .slice Ab s.length cb, .slice Ap p.length cp, .slice Al l.length cl]) := Lib.hid ⟨((H5.out.head.far (p := ⟨w.heap.size + 1, 1, none⟩) HNE.out.1 _).cell 1).trans rfl, hS.out.2.far (p := ⟨w.heap.size + 1, 1, none⟩) HNE.out.2 _⟩
  have hT := Lib.hid (And.intro ((H5.out.head.cell 1).trans (show _ = some (.pointer (some ⟨a.gd, 0, none⟩)) from rfl)) hS.out.2)
  refine ⟨by first | exact hS | exact hT, ?_⟩
  (try simp only [Act.put, List.setIfInBounds_toArray, List.set_cons_zero, List.set_cons_succ])
  refine held_take (i := 14) (d := (some 5)) (v := ?_) rfl rfl (by kernel_rfl) (by kernel_rfl) (by kernel_rfl) (fun _ _ _ h => h) (by rfl) ?_ hS ?_
  rotate_left
  · intro w' hSw; (try dsimp only at hSw); go_simp <;> with_reducible rfl
  simp only [Act.put, List.setIfInBounds_toArray, List.set_cons_zero, List.set_cons_succ]
  refine wpAnyH_done (by kernel_rfl) ?_ _
  obtain ⟨W6, hW6⟩ : ∃ W6, W6 = (w5.setCell ⟨w.heap.size + 1, 1, none⟩ (.slice A5 sl.length c5)) := ⟨_, rfl⟩
  have b6 : Blk W6 (w.heap.size + 1) 104 #[.int .i64 0, .slice A5 sl.length c5] := by rw [hW6]; exact (BA5.out.put 1 (.slice A5 sl.length c5))
  have k6 : Chg w5 W6 (fun i => i = w.heap.size + 1) := by rw [hW6]; exact Chg.set _ _ _ rfl
  have d0 := (b6.cell 0).trans (show _ = some (.int .i64 0) from rfl)
  have d1 := (b6.cell 1).trans (show _ = some (.slice A5 sl.length c5) from rfl)
  have e0 := b6.frozen 0
  have e1 := b6.frozen 1
  have FIN := Lib.hid (finish (ev := ev) (s := sl) B.out ⟨a, H5.out⟩ L5.out k6 b6 S5.out O5.out)
  have HW6 := Lib.hid hW6
  clear b6 k6 hW6
  go_upto_region 33 with fail
  rw [show (w5.setCell ⟨w.heap.size + 1, 1, none⟩ (.slice A5 sl.length c5)) = W6 from HW6.out.symm]
  go_wp2
  refine bodyPost_ret (v := .tuple #[.agg #[.int .i64 0, .slice A5 sl.length c5], .int .i64 ev]) ?_ rfl ?_
  · exact results_cell_tmp Tryz.results38 _ _ (w.heap.size + 1) 104 _ (0, 0) _ rfl FIN.out.2 Tryz.underlying104 rfl ainfo
  · exact FIN.out.1

set_option maxRecDepth 100000 in
set_option maxHeartbeats 2000000 in
theorem call_7 (h : KAt w lab g K a) (n8 : ∀ k, lab k ≠ 8) (ok : K.Ok) (env : Int) (he : env = 1 ∨ env = 2) (qa qb qc : Int) (s : List UInt8) (p : List Ins) (l : List Pc) (Ab Ap Al : Option Addr) (cb cp cl : Nat) (hs : Src w Ab s.length cb s) (hab : ∀ b o, Ab = some ⟨b, o, none⟩ → b < w.heap.size ∧ lab b = 0) (hln : K.dk.line.length < 1000000) :
    Calls Tryz.prog 38 #[.pointer (some ⟨g, 0, none⟩), .agg #[.int .i64 7, .int .i64 env, .int .i64 qa, .int .i64 qb, .int .i64 qc, .slice Ab s.length cb, .slice Ap p.length cp, .slice Al l.length cl]] w (Called w lab g ({ K with dk := (writeR K.dk env qa s).1 }, 0, [], (writeR K.dk env qa s).2)) := by
  have hB := boxed h n8 #[.int .i64 7, .int .i64 env, .int .i64 qa, .int .i64 qb, .int .i64 qc, .slice Ab s.length cb, .slice Ap p.length cp, .slice Al l.length cl]
  obtain ⟨W, hW⟩ : ∃ W, W = (w.alloc (.cells #[.int .i64 7, .int .i64 env, .int .i64 qa, .int .i64 qb, .int .i64 qc, .slice Ab s.length cb, .slice Ap p.length cp, .slice Al l.length cl] 110)).alloc (.cells #[.int .i64 0, .slice none 0 0] 104) := ⟨_, rfl⟩
  rw [← hW] at hB
  generalize mk2 lab w.heap.size = m at hB
  have B := Lib.hid hB
  have b0 := (hB.bc.cell 0).trans (show _ = some (.int .i64 7) from rfl)
  have b1 := (hB.bc.cell 1).trans (show _ = some (.int .i64 env) from rfl)
  have EV := Lib.hid (kenv_yes env he W)
  have HW := Lib.hid hW
  have CA := Lib.hid (Di.write_any (hB.ka.dk.drewN 1) env qa Ab s.length cb s ((hs.older (older_below hB.below)).drewN 1) (fun b o e hf => by have h1 := hab b o e; have h2 := hB.ml b h1.1; have hf' : m b = 3 := hf; omega) hln)
  generalize (writeR K.dk env qa s).1 = dk2 at *
  generalize (writeR K.dk env qa s).2 = ev at *
  clear h ok hB hW n8 hs hab
  go_enter Tryz.func38, Tryz.ntmps38
  go_upto_region 1 with fail
  rw [show (w.alloc (.cells #[.int .i64 7, .int .i64 env, .int .i64 qa, .int .i64 qb, .int .i64 qc, .slice Ab s.length cb, .slice Ap p.length cp, .slice Al l.length cl] 110)).alloc (.cells #[.int .i64 0, .slice none 0 0] 104) = W from HW.out.symm]
  go_wp2_with fail
  refine EV.out.mono ?_; rintro e w1 ⟨rfl, hw1⟩; subst w1
  go_upto_region 20 with fail
  refine wp_region_held_drew (S := fun w' => Hid (w'.cell? ⟨g, 1, none⟩ = some (.pointer (some ⟨a.gd, 0, none⟩)) ∧ Blk w' w.heap.size 110 #[.int .i64 7, .int .i64 env, .int .i64 qa, .int .i64 qb, .int .i64 qc, .slice Ab s.length cb, .slice Ap p.length cp, .slice Al l.length cl])) (by kernel_rfl) (Lib.hid (show W.drew.cell? ⟨g, 1, none⟩ = some (.pointer (some ⟨a.gd, 0, none⟩)) ∧ Blk W.drew w.heap.size 110 #[.int .i64 7, .int .i64 env, .int .i64 qa, .int .i64 qb, .int .i64 qc, .slice Ab s.length cb, .slice Ap p.length cp, .slice Al l.length cl] from ⟨(B.out.ka.head.cell 1).trans rfl, B.out.bc⟩)) (fun hS => ?_)
  refine held_take (i := 0) (d := (some 104)) (v := ?_) rfl rfl (by kernel_rfl) (by kernel_rfl) (by kernel_rfl) (fun _ _ _ h => h) (by rfl) ?_ hS ?_
  rotate_left
  · intro w' hSw; (try dsimp only at hSw); go_simp <;> with_reducible rfl
  simp only [Act.put, List.setIfInBounds_toArray, List.set_cons_zero, List.set_cons_succ]
  refine held_take (i := 1) (d := (some 105)) (v := ?_) rfl rfl (by kernel_rfl) (by kernel_rfl) (by kernel_rfl) (fun _ _ _ h => h) (by rfl) ?_ hS ?_
  rotate_left
  · intro w' hSw; (try dsimp only at hSw); go_simp <;> with_reducible rfl
  simp only [Act.put, List.setIfInBounds_toArray, List.set_cons_zero, List.set_cons_succ]
  refine held_take (i := 2) (d := (some 106)) (v := ?_) rfl rfl (by kernel_rfl) (by kernel_rfl) (by kernel_rfl) (fun _ _ _ h => h) (by rfl) ?_ hS ?_
  rotate_left
  · intro w' hSw; (try dsimp only at hSw); go_simp <;> with_reducible rfl
  simp only [Act.put, List.setIfInBounds_toArray, List.set_cons_zero, List.set_cons_succ]
  refine held_take (i := 3) (d := (some 107)) (v := ?_) rfl rfl (by kernel_rfl) (by kernel_rfl) (by kernel_rfl) (fun _ _ _ h => h) (by rfl) ?_ hS ?_
  rotate_left
  · intro w' hSw; have hc := hSw.out.1; clear hSw; go_simp <;> with_reducible rfl
  simp only [Act.put, List.setIfInBounds_toArray, List.set_cons_zero, List.set_cons_succ]
  refine held_take (i := 4) (d := (some 108)) (v := ?_) rfl rfl (by kernel_rfl) (by kernel_rfl) (by kernel_rfl) (fun _ _ _ h => h) (by rfl) ?_ hS ?_
  rotate_left
  · intro w' hSw; (try dsimp only at hSw); go_simp <;> with_reducible rfl
  simp only [Act.put, List.setIfInBounds_toArray, List.set_cons_zero, List.set_cons_succ]
  refine held_take (i := 5) (d := (some 109)) (v := ?_) rfl rfl (by kernel_rfl) (by kernel_rfl) (by kernel_rfl) (fun _ _ _ h => h) (by rfl) ?_ hS ?_
  rotate_left
  · intro w' hSw; have hc := (hSw.out.2.cell 1).trans (show _ = some (.int .i64 env) from rfl); clear hSw; go_simp <;> with_reducible rfl
  simp only [Act.put, List.setIfInBounds_toArray, List.set_cons_zero, List.set_cons_succ]
  refine held_take (i := 6) (d := (some 110)) (v := ?_) rfl rfl (by kernel_rfl) (by kernel_rfl) (by kernel_rfl) (fun _ _ _ h => h) (by rfl) ?_ hS ?_
  rotate_left
  · intro w' hSw; (try dsimp only at hSw); go_simp <;> with_reducible rfl
  simp only [Act.put, List.setIfInBounds_toArray, List.set_cons_zero, List.set_cons_succ]
  refine held_take (i := 7) (d := (some 111)) (v := ?_) rfl rfl (by kernel_rfl) (by kernel_rfl) (by kernel_rfl) (fun _ _ _ h => h) (by rfl) ?_ hS ?_
  rotate_left
  · intro w' hSw; have hc := (hSw.out.2.cell 2).trans (show _ = some (.int .i64 qa) from rfl); clear hSw; go_simp <;> with_reducible rfl
  simp only [Act.put, List.setIfInBounds_toArray, List.set_cons_zero, List.set_cons_succ]
  refine held_take (i := 8) (d := (some 112)) (v := ?_) rfl rfl (by kernel_rfl) (by kernel_rfl) (by kernel_rfl) (fun _ _ _ h => h) (by rfl) ?_ hS ?_
  rotate_left
  · intro w' hSw; (try dsimp only at hSw); go_simp <;> with_reducible rfl
  simp only [Act.put, List.setIfInBounds_toArray, List.set_cons_zero, List.set_cons_succ]
  refine held_take (i := 9) (d := (some 113)) (v := ?_) rfl rfl (by kernel_rfl) (by kernel_rfl) (by kernel_rfl) (fun _ _ _ h => h) (by rfl) ?_ hS ?_
  rotate_left
  · intro w' hSw; have hc := (hSw.out.2.cell 5).trans (show _ = some (.slice Ab s.length cb) from rfl); clear hSw; go_simp <;> with_reducible rfl
  simp only [Act.put, List.setIfInBounds_toArray, List.set_cons_zero, List.set_cons_succ]
  refine held_one (i := 10) (by kernel_rfl) rfl (by rfl) ?_
  go_simp
  refine CA.out.mono ?_; rintro e w5 ⟨rfl, F5, d5, s5⟩
  obtain ⟨m5, h5, l5⟩ := (B.out.ka.drewN 1).setDk s5 d5
  have H5 := Lib.hid h5
  have L5 := Lib.hid (show LStep W w5 m m5 from (LStep.drawn m 1).trans l5)
  clear d5 s5 h5 l5
  have BA5 := Lib.hid (L5.out.blk8 B.out.ba (by rw [B.out.m2]; omega))
  have hS : Hid (w5.cell? ⟨g, 1, none⟩ = some (.pointer (some ⟨a.gd, 0, none⟩)) ∧ Blk w5 w.heap.size 110 #[.int .i64 7, .int .i64 env, .int .i64 qa, .int .i64 qb, .int .i64 qc, .slice Ab s.length cb, .slice Ap p.length cp, .slice Al l.length cl]) := Lib.hid ⟨(H5.out.head.cell 1).trans rfl, L5.out.blk8 B.out.bc (by rw [B.out.m1]; omega)⟩
  refine ⟨hS, ?_⟩
  (try simp only [Act.put, List.setIfInBounds_toArray, List.set_cons_zero, List.set_cons_succ])
  refine held_take (i := 11) (d := (some 5)) (v := ?_) rfl rfl (by kernel_rfl) (by kernel_rfl) (by kernel_rfl) (fun _ _ _ h => h) (by rfl) ?_ hS ?_
  rotate_left
  · intro w' hSw; (try dsimp only at hSw); go_simp <;> with_reducible rfl
  simp only [Act.put, List.setIfInBounds_toArray, List.set_cons_zero, List.set_cons_succ]
  refine wpAnyH_done (by kernel_rfl) ?_ _
  obtain ⟨W6, hW6⟩ : ∃ W6, W6 = w5 := ⟨_, rfl⟩
  have b6 : Blk W6 (w.heap.size + 1) 104 #[.int .i64 0, .slice none ([] : List UInt8).length 0] := by rw [hW6]; exact BA5.out
  have k6 : Chg w5 W6 (fun i => i = w.heap.size + 1) := by rw [hW6]; exact Chg.refl _ _
  have d0 := (b6.cell 0).trans (show _ = some (.int .i64 0) from rfl)
  have d1 := (b6.cell 1).trans (show _ = some (.slice none ([] : List UInt8).length 0) from rfl)
  have e0 := b6.frozen 0
  have e1 := b6.frozen 1
  have FIN := Lib.hid (finish (ev := ev) (s := ([] : List UInt8)) B.out ⟨a, H5.out⟩ L5.out k6 b6 (Src.nil _) (fun h => absurd h (by decide)))
  have HW6 := Lib.hid hW6
  clear b6 k6 hW6
  go_upto_region 33 with fail
  obtain rfl : W6 = w5 := HW6.out
  go_wp2
  refine bodyPost_ret (v := .tuple #[.agg #[.int .i64 0, .slice none ([] : List UInt8).length 0], .int .i64 ev]) ?_ rfl ?_
  · exact results_cell_tmp Tryz.results38 _ _ (w.heap.size + 1) 104 _ (0, 0) _ rfl FIN.out.2 Tryz.underlying104 rfl ainfo
  · exact FIN.out.1

set_option maxRecDepth 100000 in
set_option maxHeartbeats 2000000 in
theorem call_8 (h : KAt w lab g K a) (n8 : ∀ k, lab k ≠ 8) (ok : K.Ok) (env : Int) (he : env = 1 ∨ env = 2) (qa qb qc : Int) (s : List UInt8) (p : List Ins) (l : List Pc) (Ab Ap Al : Option Addr) (cb cp cl : Nat) :
    Calls Tryz.prog 38 #[.pointer (some ⟨g, 0, none⟩), .agg #[.int .i64 8, .int .i64 env, .int .i64 qa, .int .i64 qb, .int .i64 qc, .slice Ab s.length cb, .slice Ap p.length cp, .slice Al l.length cl]] w (Called w lab g ({ K with dk := (syncR K.dk).1 }, 0, [], (syncR K.dk).2)) := by
  have hB := boxed h n8 #[.int .i64 8, .int .i64 env, .int .i64 qa, .int .i64 qb, .int .i64 qc, .slice Ab s.length cb, .slice Ap p.length cp, .slice Al l.length cl]
  obtain ⟨W, hW⟩ : ∃ W, W = (w.alloc (.cells #[.int .i64 8, .int .i64 env, .int .i64 qa, .int .i64 qb, .int .i64 qc, .slice Ab s.length cb, .slice Ap p.length cp, .slice Al l.length cl] 110)).alloc (.cells #[.int .i64 0, .slice none 0 0] 104) := ⟨_, rfl⟩
  rw [← hW] at hB
  generalize mk2 lab w.heap.size = m at hB
  have B := Lib.hid hB
  have b0 := (hB.bc.cell 0).trans (show _ = some (.int .i64 8) from rfl)
  have b1 := (hB.bc.cell 1).trans (show _ = some (.int .i64 env) from rfl)
  have EV := Lib.hid (kenv_yes env he W)
  have HW := Lib.hid hW
  have CA := Lib.hid (Di.sync_any hB.ka.dk)
  have cg := (hB.ka.head.cell 1).trans (show _ = some (.pointer (some ⟨a.gd, 0, none⟩)) from rfl)
  generalize (syncR K.dk).1 = dk2 at *
  generalize (syncR K.dk).2 = ev at *
  clear h ok hB hW n8
  go_enter Tryz.func38, Tryz.ntmps38
  go_upto_region 1 with fail
  rw [show (w.alloc (.cells #[.int .i64 8, .int .i64 env, .int .i64 qa, .int .i64 qb, .int .i64 qc, .slice Ab s.length cb, .slice Ap p.length cp, .slice Al l.length cl] 110)).alloc (.cells #[.int .i64 0, .slice none 0 0] 104) = W from HW.out.symm]
  go_wp2_with fail
  refine EV.out.mono ?_; rintro e w1 ⟨rfl, hw1⟩; subst w1
  go_wp2_with fail
  refine CA.out.mono ?_; rintro e w5 ⟨rfl, F5, d5, s5⟩
  obtain ⟨m5, h5, l5⟩ := B.out.ka.setDk s5 d5
  have H5 := Lib.hid h5
  have L5 := Lib.hid l5
  clear d5 s5 h5 l5
  have BA5 := Lib.hid (L5.out.blk8 B.out.ba (by rw [B.out.m2]; omega))
  obtain ⟨W6, hW6⟩ : ∃ W6, W6 = w5 := ⟨_, rfl⟩
  have b6 : Blk W6 (w.heap.size + 1) 104 #[.int .i64 0, .slice none ([] : List UInt8).length 0] := by rw [hW6]; exact BA5.out
  have k6 : Chg w5 W6 (fun i => i = w.heap.size + 1) := by rw [hW6]; exact Chg.refl _ _
  have d0 := (b6.cell 0).trans (show _ = some (.int .i64 0) from rfl)
  have d1 := (b6.cell 1).trans (show _ = some (.slice none ([] : List UInt8).length 0) from rfl)
  have e0 := b6.frozen 0
  have e1 := b6.frozen 1
  have FIN := Lib.hid (finish (ev := ev) (s := ([] : List UInt8)) B.out ⟨a, H5.out⟩ L5.out k6 b6 (Src.nil _) (fun h => absurd h (by decide)))
  have HW6 := Lib.hid hW6
  clear b6 k6 hW6
  go_upto_region 33 with fail
  obtain rfl : W6 = w5 := HW6.out
  go_wp2
  refine bodyPost_ret (v := .tuple #[.agg #[.int .i64 0, .slice none ([] : List UInt8).length 0], .int .i64 ev]) ?_ rfl ?_
  · exact results_cell_tmp Tryz.results38 _ _ (w.heap.size + 1) 104 _ (0, 0) _ rfl FIN.out.2 Tryz.underlying104 rfl ainfo
  · exact FIN.out.1

set_option maxRecDepth 100000 in
set_option maxHeartbeats 2000000 in
theorem call_9 (h : KAt w lab g K a) (n8 : ∀ k, lab k ≠ 8) (ok : K.Ok) (env : Int) (he : env = 1 ∨ env = 2) (qa qb qc : Int) (s : List UInt8) (p : List Ins) (l : List Pc) (Ab Ap Al : Option Addr) (cb cp cl : Nat) (hp : Prg w Ap p) (hn : Ap = none → p = [] ∧ cp = 0) (mp : p.length ≤ 1000000) (hnx : K.next < 1000000) :
    Calls Tryz.prog 38 #[.pointer (some ⟨g, 0, none⟩), .agg #[.int .i64 9, .int .i64 env, .int .i64 qa, .int .i64 qb, .int .i64 qc, .slice Ab s.length cb, .slice Ap p.length cp, .slice Al l.length cl]] w (Called w lab g ((bindR K env p).1, (bindR K env p).2.1, [], (bindR K env p).2.2)) := by
  have hB := boxed h n8 #[.int .i64 9, .int .i64 env, .int .i64 qa, .int .i64 qb, .int .i64 qc, .slice Ab s.length cb, .slice Ap p.length cp, .slice Al l.length cl]
  obtain ⟨W, hW⟩ : ∃ W, W = (w.alloc (.cells #[.int .i64 9, .int .i64 env, .int .i64 qa, .int .i64 qb, .int .i64 qc, .slice Ab s.length cb, .slice Ap p.length cp, .slice Al l.length cl] 110)).alloc (.cells #[.int .i64 0, .slice none 0 0] 104) := ⟨_, rfl⟩
  rw [← hW] at hB
  generalize mk2 lab w.heap.size = m at hB
  have B := Lib.hid hB
  have b0 := (hB.bc.cell 0).trans (show _ = some (.int .i64 9) from rfl)
  have b1 := (hB.bc.cell 1).trans (show _ = some (.int .i64 env) from rfl)
  have EV := Lib.hid (kenv_yes env he W)
  have HW := Lib.hid hW
  have b6 := (hB.bc.cell 6).trans (show _ = some (.slice Ap p.length cp) from rfl)
  have CA := Lib.hid (bind_any hB.ka ok env he Ap cp p (hp.new hB.below) hn mp hnx)
  generalize (bindR K env p).1 = K2 at *
  generalize (bindR K env p).2.1 = n at *
  generalize (bindR K env p).2.2 = ev at *
  clear hp hn
  clear h hB hW n8 ok
  go_enter Tryz.func38, Tryz.ntmps38
  go_upto_region 1 with fail
  rw [show (w.alloc (.cells #[.int .i64 9, .int .i64 env, .int .i64 qa, .int .i64 qb, .int .i64 qc, .slice Ab s.length cb, .slice Ap p.length cp, .slice Al l.length cl] 110)).alloc (.cells #[.int .i64 0, .slice none 0 0] 104) = W from HW.out.symm]
  go_wp2_with fail
  refine EV.out.mono ?_; rintro e w1 ⟨rfl, hw1⟩; subst w1
  go_wp2_with fail
  refine CA.out.mono ?_; rintro e w5 ⟨rfl, m5, h5, l5⟩
  have H5 := Lib.hid h5
  have L5 := Lib.hid l5
  clear h5 l5
  have BA5 := Lib.hid (L5.out.blk8 B.out.ba (by rw [B.out.m2]; omega))
  have c5a := (BA5.out.cell 0).trans (show _ = some (.int .i64 0) from rfl)
  have f5a := BA5.out.frozen 0
  obtain ⟨W6, hW6⟩ : ∃ W6, W6 = (w5.setCell ⟨w.heap.size + 1, 0, none⟩ (.int .i64 n)) := ⟨_, rfl⟩
  have b6 : Blk W6 (w.heap.size + 1) 104 #[.int .i64 n, .slice none ([] : List UInt8).length 0] := by rw [hW6]; exact (BA5.out.put 0 (.int .i64 n))
  have k6 : Chg w5 W6 (fun i => i = w.heap.size + 1) := by rw [hW6]; exact Chg.set _ _ _ rfl
  have d0 := (b6.cell 0).trans (show _ = some (.int .i64 n) from rfl)
  have d1 := (b6.cell 1).trans (show _ = some (.slice none ([] : List UInt8).length 0) from rfl)
  have e0 := b6.frozen 0
  have e1 := b6.frozen 1
  have FIN := Lib.hid (finish (ev := ev) (s := ([] : List UInt8)) B.out H5.out L5.out k6 b6 (Src.nil _) (fun h => absurd h (by decide)))
  have HW6 := Lib.hid hW6
  clear b6 k6 hW6
  go_upto_region 33 with fail
  rw [show (w5.setCell ⟨w.heap.size + 1, 0, none⟩ (.int .i64 n)) = W6 from HW6.out.symm]
  go_wp2
  refine bodyPost_ret (v := .tuple #[.agg #[.int .i64 n, .slice none ([] : List UInt8).length 0], .int .i64 ev]) ?_ rfl ?_
  · exact results_cell_tmp Tryz.results38 _ _ (w.heap.size + 1) 104 _ (0, 0) _ rfl FIN.out.2 Tryz.underlying104 rfl ainfo
  · exact FIN.out.1

set_option maxRecDepth 100000 in
set_option maxHeartbeats 2000000 in
theorem call_10 (h : KAt w lab g K a) (n8 : ∀ k, lab k ≠ 8) (ok : K.Ok) (env : Int) (he : env = 1 ∨ env = 2) (qa qb qc : Int) (s : List UInt8) (p : List Ins) (l : List Pc) (Ab Ap Al : Option Addr) (cb cp cl : Nat) :
    Calls Tryz.prog 38 #[.pointer (some ⟨g, 0, none⟩), .agg #[.int .i64 10, .int .i64 env, .int .i64 qa, .int .i64 qb, .int .i64 qc, .slice Ab s.length cb, .slice Ap p.length cp, .slice Al l.length cl]] w (Called w lab g ((unbindR K env qa).1, 0, [], (unbindR K env qa).2)) := by
  have hB := boxed h n8 #[.int .i64 10, .int .i64 env, .int .i64 qa, .int .i64 qb, .int .i64 qc, .slice Ab s.length cb, .slice Ap p.length cp, .slice Al l.length cl]
  obtain ⟨W, hW⟩ : ∃ W, W = (w.alloc (.cells #[.int .i64 10, .int .i64 env, .int .i64 qa, .int .i64 qb, .int .i64 qc, .slice Ab s.length cb, .slice Ap p.length cp, .slice Al l.length cl] 110)).alloc (.cells #[.int .i64 0, .slice none 0 0] 104) := ⟨_, rfl⟩
  rw [← hW] at hB
  generalize mk2 lab w.heap.size = m at hB
  have B := Lib.hid hB
  have b0 := (hB.bc.cell 0).trans (show _ = some (.int .i64 10) from rfl)
  have b1 := (hB.bc.cell 1).trans (show _ = some (.int .i64 env) from rfl)
  have EV := Lib.hid (kenv_yes env he W)
  have HW := Lib.hid hW
  have b2 := (hB.bc.cell 2).trans (show _ = some (.int .i64 qa) from rfl)
  have CA := Lib.hid (unbind_any hB.ka ok env qa)
  generalize (unbindR K env qa).1 = K2 at *
  generalize (unbindR K env qa).2 = ev at *
  clear h hB hW n8 ok
  go_enter Tryz.func38, Tryz.ntmps38
  go_upto_region 1 with fail
  rw [show (w.alloc (.cells #[.int .i64 10, .int .i64 env, .int .i64 qa, .int .i64 qb, .int .i64 qc, .slice Ab s.length cb, .slice Ap p.length cp, .slice Al l.length cl] 110)).alloc (.cells #[.int .i64 0, .slice none 0 0] 104) = W from HW.out.symm]
  go_wp2_with fail
  refine EV.out.mono ?_; rintro e w1 ⟨rfl, hw1⟩; subst w1
  go_wp2_with fail
  refine CA.out.mono ?_; rintro e w5 ⟨rfl, m5, h5, l5⟩
  have H5 := Lib.hid h5
  have L5 := Lib.hid l5
  clear h5 l5
  have BA5 := Lib.hid (L5.out.blk8 B.out.ba (by rw [B.out.m2]; omega))
  obtain ⟨W6, hW6⟩ : ∃ W6, W6 = w5 := ⟨_, rfl⟩
  have b6 : Blk W6 (w.heap.size + 1) 104 #[.int .i64 0, .slice none ([] : List UInt8).length 0] := by rw [hW6]; exact BA5.out
  have k6 : Chg w5 W6 (fun i => i = w.heap.size + 1) := by rw [hW6]; exact Chg.refl _ _
  have d0 := (b6.cell 0).trans (show _ = some (.int .i64 0) from rfl)
  have d1 := (b6.cell 1).trans (show _ = some (.slice none ([] : List UInt8).length 0) from rfl)
  have e0 := b6.frozen 0
  have e1 := b6.frozen 1
  have FIN := Lib.hid (finish (ev := ev) (s := ([] : List UInt8)) B.out H5.out L5.out k6 b6 (Src.nil _) (fun h => absurd h (by decide)))
  have HW6 := Lib.hid hW6
  clear b6 k6 hW6
  go_upto_region 33 with fail
  obtain rfl : W6 = w5 := HW6.out
  go_wp2
  refine bodyPost_ret (v := .tuple #[.agg #[.int .i64 0, .slice none ([] : List UInt8).length 0], .int .i64 ev]) ?_ rfl ?_
  · exact results_cell_tmp Tryz.results38 _ _ (w.heap.size + 1) 104 _ (0, 0) _ rfl FIN.out.2 Tryz.underlying104 rfl ainfo
  · exact FIN.out.1

set_option maxRecDepth 100000 in
set_option maxHeartbeats 2000000 in
theorem call_11 (h : KAt w lab g K a) (n8 : ∀ k, lab k ≠ 8) (ok : K.Ok) (env : Int) (he : env = 1 ∨ env = 2) (qa qb qc : Int) (s : List UInt8) (p : List Ins) (l : List Pc) (Ab Ap Al : Option Addr) (cb cp cl : Nat) (hl : Pcs w Al l) (lok : ∀ p ∈ l, p.Ok) (hal : ∀ b o, Al = some ⟨b, o, none⟩ → b < w.heap.size ∧ lab b = 0) (hc : l.length ≤ cl) (ml : l.length ≤ 1000000) (hf3 : K.f3 + K.out.length < 1000000) :
    Calls Tryz.prog 38 #[.pointer (some ⟨g, 0, none⟩), .agg #[.int .i64 11, .int .i64 env, .int .i64 qa, .int .i64 qb, .int .i64 qc, .slice Ab s.length cb, .slice Ap p.length cp, .slice Al l.length cl]] w (Called w lab g ((submitR K env l).1, (submitR K env l).2.1, [], (submitR K env l).2.2)) := by
  have hB := boxed h n8 #[.int .i64 11, .int .i64 env, .int .i64 qa, .int .i64 qb, .int .i64 qc, .slice Ab s.length cb, .slice Ap p.length cp, .slice Al l.length cl]
  obtain ⟨W, hW⟩ : ∃ W, W = (w.alloc (.cells #[.int .i64 11, .int .i64 env, .int .i64 qa, .int .i64 qb, .int .i64 qc, .slice Ab s.length cb, .slice Ap p.length cp, .slice Al l.length cl] 110)).alloc (.cells #[.int .i64 0, .slice none 0 0] 104) := ⟨_, rfl⟩
  rw [← hW] at hB
  generalize mk2 lab w.heap.size = m at hB
  have B := Lib.hid hB
  have b0 := (hB.bc.cell 0).trans (show _ = some (.int .i64 11) from rfl)
  have b1 := (hB.bc.cell 1).trans (show _ = some (.int .i64 env) from rfl)
  have EV := Lib.hid (kenv_yes env he W)
  have HW := Lib.hid hW
  have b7 := (hB.bc.cell 7).trans (show _ = some (.slice Al l.length cl) from rfl)
  have CA := Lib.hid (submit_any hB.ka ok env he Al cl l (hl.new hB.below) lok (fun b o e => by have h1 := hal b o e; rw [hB.ml b h1.1]; exact h1.2) hc ml hf3)
  generalize (submitR K env l).1 = K2 at *
  generalize (submitR K env l).2.1 = n at *
  generalize (submitR K env l).2.2 = ev at *
  clear hl lok hal
  clear h hB hW n8 ok
  go_enter Tryz.func38, Tryz.ntmps38
  go_upto_region 1 with fail
  rw [show (w.alloc (.cells #[.int .i64 11, .int .i64 env, .int .i64 qa, .int .i64 qb, .int .i64 qc, .slice Ab s.length cb, .slice Ap p.length cp, .slice Al l.length cl] 110)).alloc (.cells #[.int .i64 0, .slice none 0 0] 104) = W from HW.out.symm]
  go_wp2_with fail
  refine EV.out.mono ?_; rintro e w1 ⟨rfl, hw1⟩; subst w1
  go_wp2_with fail
  refine CA.out.mono ?_; rintro e w5 ⟨rfl, m5, h5, l5⟩
  have H5 := Lib.hid h5
  have L5 := Lib.hid l5
  clear h5 l5
  have BA5 := Lib.hid (L5.out.blk8 B.out.ba (by rw [B.out.m2]; omega))
  have c5a := (BA5.out.cell 0).trans (show _ = some (.int .i64 0) from rfl)
  have f5a := BA5.out.frozen 0
  obtain ⟨W6, hW6⟩ : ∃ W6, W6 = (w5.setCell ⟨w.heap.size + 1, 0, none⟩ (.int .i64 n)) := ⟨_, rfl⟩
  have b6 : Blk W6 (w.heap.size + 1) 104 #[.int .i64 n, .slice none ([] : List UInt8).length 0] := by rw [hW6]; exact (BA5.out.put 0 (.int .i64 n))
  have k6 : Chg w5 W6 (fun i => i = w.heap.size + 1) := by rw [hW6]; exact Chg.set _ _ _ rfl
  have d0 := (b6.cell 0).trans (show _ = some (.int .i64 n) from rfl)
  have d1 := (b6.cell 1).trans (show _ = some (.slice none ([] : List UInt8).length 0) from rfl)
  have e0 := b6.frozen 0
  have e1 := b6.frozen 1
  have FIN := Lib.hid (finish (ev := ev) (s := ([] : List UInt8)) B.out H5.out L5.out k6 b6 (Src.nil _) (fun h => absurd h (by decide)))
  have HW6 := Lib.hid hW6
  clear b6 k6 hW6
  go_upto_region 33 with fail
  rw [show (w5.setCell ⟨w.heap.size + 1, 0, none⟩ (.int .i64 n)) = W6 from HW6.out.symm]
  go_wp2
  refine bodyPost_ret (v := .tuple #[.agg #[.int .i64 n, .slice none ([] : List UInt8).length 0], .int .i64 ev]) ?_ rfl ?_
  · exact results_cell_tmp Tryz.results38 _ _ (w.heap.size + 1) 104 _ (0, 0) _ rfl FIN.out.2 Tryz.underlying104 rfl ainfo
  · exact FIN.out.1

set_option maxRecDepth 100000 in
set_option maxHeartbeats 2000000 in
theorem call_13 (h : KAt w lab g K a) (n8 : ∀ k, lab k ≠ 8) (ok : K.Ok) (env : Int) (he : env = 1 ∨ env = 2) (qa qb qc : Int) (s : List UInt8) (p : List Ins) (l : List Pc) (Ab Ap Al : Option Addr) (cb cp cl : Nat) :
    Calls Tryz.prog 38 #[.pointer (some ⟨g, 0, none⟩), .agg #[.int .i64 13, .int .i64 env, .int .i64 qa, .int .i64 qb, .int .i64 qc, .slice Ab s.length cb, .slice Ap p.length cp, .slice Al l.length cl]] w (Called w lab g (K, (K.done : Int), [], 0)) := by
  have hB := boxed h n8 #[.int .i64 13, .int .i64 env, .int .i64 qa, .int .i64 qb, .int .i64 qc, .slice Ab s.length cb, .slice Ap p.length cp, .slice Al l.length cl]
  obtain ⟨W, hW⟩ : ∃ W, W = (w.alloc (.cells #[.int .i64 13, .int .i64 env, .int .i64 qa, .int .i64 qb, .int .i64 qc, .slice Ab s.length cb, .slice Ap p.length cp, .slice Al l.length cl] 110)).alloc (.cells #[.int .i64 0, .slice none 0 0] 104) := ⟨_, rfl⟩
  rw [← hW] at hB
  generalize mk2 lab w.heap.size = m at hB
  have B := Lib.hid hB
  have b0 := (hB.bc.cell 0).trans (show _ = some (.int .i64 13) from rfl)
  have b1 := (hB.bc.cell 1).trans (show _ = some (.int .i64 env) from rfl)
  have EV := Lib.hid (kenv_yes env he W)
  have HW := Lib.hid hW
  have cg := (hB.ka.head.cell 7).trans (show _ = some (.int .i64 (K.done : Int)) from rfl)
  have L5 := Lib.hid (LStep.news m (Below.refl _ W))
  have BA5 := Lib.hid hB.ba
  have c5a := (hB.ba.cell 0).trans (show _ = some (.int .i64 0) from rfl)
  have f5a := hB.ba.frozen 0
  obtain ⟨w5, hw5⟩ : ∃ w5, w5 = W := ⟨_, rfl⟩
  clear h hB hW n8 ok
  go_enter Tryz.func38, Tryz.ntmps38
  go_upto_region 1 with fail
  rw [show (w.alloc (.cells #[.int .i64 13, .int .i64 env, .int .i64 qa, .int .i64 qb, .int .i64 qc, .slice Ab s.length cb, .slice Ap p.length cp, .slice Al l.length cl] 110)).alloc (.cells #[.int .i64 0, .slice none 0 0] 104) = W from HW.out.symm]
  go_wp2_with fail
  refine EV.out.mono ?_; rintro e w1 ⟨rfl, hw1⟩; subst w1
  subst hw5
  obtain ⟨W6, hW6⟩ : ∃ W6, W6 = (w5.setCell ⟨w.heap.size + 1, 0, none⟩ (.int .i64 (K.done : Int))) := ⟨_, rfl⟩
  have b6 : Blk W6 (w.heap.size + 1) 104 #[.int .i64 (K.done : Int), .slice none ([] : List UInt8).length 0] := by rw [hW6]; exact (BA5.out.put 0 (.int .i64 (K.done : Int)))
  have k6 : Chg w5 W6 (fun i => i = w.heap.size + 1) := by rw [hW6]; exact Chg.set _ _ _ rfl
  have d0 := (b6.cell 0).trans (show _ = some (.int .i64 (K.done : Int)) from rfl)
  have d1 := (b6.cell 1).trans (show _ = some (.slice none ([] : List UInt8).length 0) from rfl)
  have e0 := b6.frozen 0
  have e1 := b6.frozen 1
  have FIN := Lib.hid (finish (ev := 0) (s := ([] : List UInt8)) B.out ⟨a, B.out.ka⟩ L5.out k6 b6 (Src.nil _) (fun h => absurd h (by decide)))
  have HW6 := Lib.hid hW6
  clear b6 k6 hW6
  go_upto_region 33 with fail
  rw [show (w5.setCell ⟨w.heap.size + 1, 0, none⟩ (.int .i64 (K.done : Int))) = W6 from HW6.out.symm]
  go_wp2
  refine bodyPost_ret (v := .tuple #[.agg #[.int .i64 (K.done : Int), .slice none ([] : List UInt8).length 0], .int .i64 0]) ?_ rfl ?_
  · exact results_cell_tmp Tryz.results38 _ _ (w.heap.size + 1) 104 _ (0, 0) _ rfl FIN.out.2 Tryz.underlying104 rfl ainfo
  · exact FIN.out.1
end
end Go.Proofs.YtefnkednnnlhoaaGreatDoor.Ke
