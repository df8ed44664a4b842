/- Package kern: packetsOf, bind, unbind, submit. Conditions: those that each states. -/
import Derived.Test.YtefnkednnnlhoaaGreatDoorKn2
namespace Go.Proofs.YtefnkednnnlhoaaGreatDoor.Ke
open Go.ChangeShapes Go.WideShapes Go.ChangeAt Go.RowKit Go.Deep Fr Di
set_option linter.unusedVariables false
section
variable {w : World} {lab : Nat → Nat} {g : Nat} {K : Kn} {a : Ad}

theorem rings_1 (h : KAt w lab g K a) : Calls Tryz.prog 71 #[.pointer (some ⟨g, 0, none⟩), .int .i64 1] w fun e w' => e = .returned (.pointer (some ⟨a.b1, 0, none⟩)) ∧ w' = w := by
  have c4 := (h.head.cell 4).trans (show _ = some (.pointer (some ⟨a.b1, 0, none⟩)) from rfl)
  clear h
  go_enter Tryz.func71, Tryz.ntmps71
  go_wp2
  go_ret
  exact ⟨rfl, rfl⟩
theorem rings_2 (h : KAt w lab g K a) : Calls Tryz.prog 71 #[.pointer (some ⟨g, 0, none⟩), .int .i64 2] w fun e w' => e = .returned (.pointer (some ⟨a.b2, 0, none⟩)) ∧ w' = w := by
  have c5 := (h.head.cell 5).trans (show _ = some (.pointer (some ⟨a.b2, 0, none⟩)) from rfl)
  clear h
  go_enter Tryz.func71, Tryz.ntmps71
  go_wp2
  go_ret
  exact ⟨rfl, rfl⟩

/-- What a call leaves: the kernel as K' says, changed within its own blocks. -/
def Left (w w' : World) (lab : Nat → Nat) (g : Nat) (K' : Kn) : Prop := ∃ lab', KA w' lab' g K' ∧ LStep w w' lab lab'
theorem Left.same (h : KAt w lab g K a) {w' : World} (k : Below w.heap.size w w') : Left w w' lab g K := ⟨lab, ⟨a, h.new k⟩, LStep.news lab k⟩

set_option maxRecDepth 100000 in
set_option maxHeartbeats 2000000 in
theorem bind_any (h : KAt w lab g K a) (ok : K.Ok) (env : Int) (he : env = 1 ∨ env = 2) (A : Option Addr) (c : Nat) (p : List Ins) (hp : Prg w A p) (hn : A = none → p = [] ∧ c = 0) (hmax : p.length ≤ 1000000) (hnx : K.next < 1000000) :
    Calls Tryz.prog 68 #[.pointer (some ⟨g, 0, none⟩), .int .i64 env, .slice A p.length c] w fun e w' => e = .returned (.tuple #[.int .i64 (bindR K env p).2.1, .int .i64 (bindR K env p).2.2]) ∧ Left w w' lab g (bindR K env p).1 := by
  have c2 := (h.head.cell 2).trans (show _ = some (.slice a.A K.fs.length a.c) from rfl)
  by_cases h8 : 8 ≤ K.fs.length
  · have g8 : (K.fs.length : Int) ≥ 8 := by omega
    have er : bindR K env p = (K, 0, 10) := by unfold bindR; rw [if_pos h8]
    have FIN := Lib.hid (Left.same h (Below.refl _ w))
    rw [er]
    clear h8 er h
    go_enter Tryz.func68, Tryz.ntmps68
    go_wp2
    go_ret2
    exact ⟨rfl, FIN.out⟩
  have g8 : ¬ (K.fs.length : Int) ≥ 8 := by omega
  by_cases hc : chkB p = true
  · have hC := (chkB_iff p).1 hc
    have er : bindR K env p = ({ K with fs := K.fs ++ [⟨K.next, env.toNat, p⟩], next := K.next + 1 }, (K.next : Int), 0) := by unfold bindR; rw [if_neg h8, if_pos hc]
    have CK := Lib.hid (check_v A c p w hp hmax 0 (.inl ⟨hC, rfl⟩))
    have CL := Lib.hid (fun (W : World) (hb : Below w.heap.size w W) => clone_prg A c p W (hp.new hb) hn hmax)
    obtain ⟨i0, z0, hin, hz, hsz, hby, hzs⟩ := bounds_info
    have INF := Lib.hid (And.intro hin (And.intro hz (And.intro hsz (And.intro hby hzs))))
    have c3 := (h.head.cell 3).trans (show _ = some (.int .i64 (K.next : Int)) from rfl)
    have xn := IntWalk.i64_in ((K.next : Int) + 1) (by omega)
    have HG := Lib.hid h.head.lt
    have H := Lib.hid h
    have hfl := h.fil.1
    have HFL := Lib.hid hfl
    have ENV := Lib.hid (show ((env.toNat : Nat) : Int) = env by omega)
    rw [er]
    clear hc er hC h hp hn hin hz hsz hby hzs hfl
    go_enter Tryz.func68, Tryz.ntmps68
    go_wp2_with fail
    refine CK.out.mono ?_; rintro e w1 ⟨rfl, b1⟩
    have HG1 := Lib.hid (show g < w1.heap.size by have := HG.out; have := b1.size; omega)
    have c2' : w1.cell? ⟨g, 2, none⟩ = some (.slice a.A K.fs.length a.c) := (b1.cell (p := ⟨g, 2, none⟩) HG.out).trans c2
    have c3' : w1.cell? ⟨g, 3, none⟩ = some (.int .i64 (K.next : Int)) := (b1.cell (p := ⟨g, 3, none⟩) HG.out).trans c3
    have H1 := Lib.hid (H.out.new b1)
    have B1 := Lib.hid (show Below w.heap.size w w1.drew from ⟨b1.os, b1.tape, b1.output, b1.size, b1.block⟩)
    clear c2 c3 CK b1 HG
    have c2 := c2'
    have c3 := c3'
    have HG := HG1
    clear HG1 c2' c3'
    go_upto_region 7 with fail
    have hS := Lib.hid (show w1.drew.cell? ⟨g, 2, none⟩ = some (.slice a.A K.fs.length a.c) from c2)
    refine wp_head_held (S := fun w' => Hid (w'.cell? ⟨g, 2, none⟩ = some (.slice a.A K.fs.length a.c))) 12 (by kernel_rfl) rfl rfl (by kernel_rfl) ?_
    simp only [List.take_succ_cons, List.take_zero, List.drop_succ_cons, List.drop_zero]
    refine held_take (i := 0) (d := (some 25)) (v := ?_) rfl rfl (by kernel_rfl) (by kernel_rfl) (by kernel_rfl) (fun _ _ _ h => h) (by rfl) ?_ hS ?_
    rotate_left
    · intro w' hSw; (try dsimp only at hSw); go_simp <;> with_reducible rfl
    simp only [Act.put, List.setIfInBounds_toArray, List.set_cons_zero, List.set_cons_succ]
    refine held_take (i := 1) (d := (some 26)) (v := ?_) rfl rfl (by kernel_rfl) (by kernel_rfl) (by kernel_rfl) (fun _ _ _ h => h) (by rfl) ?_ hS ?_
    rotate_left
    · intro w' hSw; (try dsimp only at hSw); go_simp <;> with_reducible rfl
    simp only [Act.put, List.setIfInBounds_toArray, List.set_cons_zero, List.set_cons_succ]
    refine held_take (i := 2) (d := (some 27)) (v := ?_) rfl rfl (by kernel_rfl) (by kernel_rfl) (by kernel_rfl) (fun _ _ _ h => h) (by rfl) ?_ hS ?_
    rotate_left
    · intro w' hSw; (try dsimp only at hSw); go_simp <;> with_reducible rfl
    simp only [Act.put, List.setIfInBounds_toArray, List.set_cons_zero, List.set_cons_succ]
    refine held_take (i := 3) (d := (some 28)) (v := ?_) rfl rfl (by kernel_rfl) (by kernel_rfl) (by kernel_rfl) (fun _ _ _ h => h) (by rfl) ?_ hS ?_
    rotate_left
    · intro w' hSw; (try dsimp only at hSw); go_simp <;> with_reducible rfl
    simp only [Act.put, List.setIfInBounds_toArray, List.set_cons_zero, List.set_cons_succ]
    refine held_take (i := 4) (d := (some 29)) (v := ?_) rfl rfl (by kernel_rfl) (by kernel_rfl) (by kernel_rfl) (fun _ _ _ h => h) (by rfl) ?_ hS ?_
    rotate_left
    · intro w' hSw; have hc := hSw.out; clear hSw; go_simp <;> with_reducible rfl
    simp only [Act.put, List.setIfInBounds_toArray, List.set_cons_zero, List.set_cons_succ]
    refine held_take (i := 5) (d := (some 30)) (v := ?_) rfl rfl (by kernel_rfl) (by kernel_rfl) (by kernel_rfl) (fun _ _ _ h => h) (by rfl) ?_ hS ?_
    rotate_left
    · intro w' hSw; (try dsimp only at hSw); go_simp <;> with_reducible rfl
    simp only [Act.put, List.setIfInBounds_toArray, List.set_cons_zero, List.set_cons_succ]
    refine held_take (i := 6) (d := (some 31)) (v := ?_) rfl rfl (by kernel_rfl) (by kernel_rfl) (by kernel_rfl) (fun _ _ _ h => h) (by rfl) ?_ hS ?_
    rotate_left
    · intro w' hSw; (try dsimp only at hSw); go_simp <;> with_reducible rfl
    simp only [Act.put, List.setIfInBounds_toArray, List.set_cons_zero, List.set_cons_succ]
    refine held_take (i := 7) (d := (some 32)) (v := ?_) rfl rfl (by kernel_rfl) (by kernel_rfl) (by kernel_rfl) (fun _ _ _ h => h) (by rfl) ?_ hS ?_
    rotate_left
    · intro w' hSw; (try dsimp only at hSw); go_simp <;> with_reducible rfl
    simp only [Act.put, List.setIfInBounds_toArray, List.set_cons_zero, List.set_cons_succ]
    refine held_one (i := 8) (by kernel_rfl) rfl (by rfl) ?_
    go_simp
    refine (CL.out _ (B1.out)).mono ?_; rintro e w5 ⟨A5, c5, rfl, p5, f5, b5⟩
    have P5 := Lib.hid p5
    have F5 := Lib.hid f5
    have B5 := Lib.hid (show Below w1.heap.size w1 w5 from ⟨b5.os, b5.tape, b5.output, b5.size, b5.block⟩)
    have hS : Hid (w5.cell? ⟨g, 2, none⟩ = some (.slice a.A K.fs.length a.c)) := Lib.hid ((B5.out.cell (p := ⟨g, 2, none⟩) HG.out).trans c2)
    refine ⟨hS, ?_⟩
    clear p5 f5 b5
    (try simp only [Act.put, List.setIfInBounds_toArray, List.set_cons_zero, List.set_cons_succ])
    refine held_take (i := 9) (d := (some 34)) (v := ?_) rfl rfl (by kernel_rfl) (by kernel_rfl) (by kernel_rfl) (fun _ _ _ h => h) (by rfl) ?_ hS ?_
    rotate_left
    · intro w' hSw; (try dsimp only at hSw); go_simp <;> with_reducible rfl
    simp only [Act.put, List.setIfInBounds_toArray, List.set_cons_zero, List.set_cons_succ]
    refine held_one (i := 10) (by kernel_rfl) rfl (by rfl) ?_
    go_simp
    have hS : Hid ((w5.alloc (.cells #[.int .i64 (K.next : Int), .int .i64 env, .slice A5 p.length c5] 205)).cell? ⟨g, 2, none⟩ = some (.slice a.A K.fs.length a.c)) := Lib.hid ((((Below.refl w1.heap.size w5).alloc B5.out.size _).cell (p := ⟨g, 2, none⟩) HG.out).trans hS.out)
    refine ⟨hS, ?_⟩
    have RO := Lib.hid (show ((w5.alloc (.cells #[.int .i64 (K.next : Int), .int .i64 env, .slice A5 p.length c5] 205)).ownsRow 0 205 3 (.slice a.A K.fs.length a.c) K.fs.length (flatF a.fm)) from by
      have r := (RowW.new H1.out.row ((Below.refl w1.heap.size w1).trans (B5.out.alloc B5.out.size (.cells #[.int .i64 (K.next : Int), .int .i64 env, .slice A5 p.length c5] 205)))).own
      rw [HFL.out] at r
      exact r)
    have NG := Lib.hid (show some g ≠ (Value.slice a.A K.fs.length a.c).ownBlock from fun e => by
      have h4 := H1.out.lr g (inB_own.1 e.symm)
      have h1 := H1.out.lg
      omega)
    (try simp only [Act.put, List.setIfInBounds_toArray, List.set_cons_zero, List.set_cons_succ])
    refine held_one (i := 11) (by kernel_rfl) rfl (by rfl) ?_
    refine wp_append_d (d := some 36) rfl (.tmp 29) (.tmp 35) 86 rfl 0 205 i0 z0 3 40 Tryz.underlying86 INF.out.1 INF.out.2.1 INF.out.2.2.1 INF.out.2.2.2.1 INF.out.2.2.2.2 (by decide) (.slice a.A K.fs.length a.c) K.fs.length (flatF a.fm) rfl RO.out ⟨w5.heap.size, 0, none⟩ 1 1 [.int .i64 (K.next : Int), .int .i64 env, .slice A5 p.length c5] rfl rfl (World.news_of_block (Blk.new w5 205 _)) (one_fm ⟨_, _, _, _, _⟩) (by decide) (by unfold maxLen; omega) (by omega) (Nat.zero_le _) ?_
    intro g6 cap6 w6 o6 k6 at6 l6
    have O6 := Lib.hid o6
    have K6 := Lib.hid k6
    have AT6 := Lib.hid at6
    have hS : Hid (w6.cell? ⟨g, 2, none⟩ = some (.slice a.A K.fs.length a.c)) := Lib.hid ((k6.cell hS.out (NG.out)))
    refine ⟨hS, ?_⟩
    clear o6 k6 at6 l6
    (try simp only [Act.put, List.setIfInBounds_toArray, List.set_cons_zero, List.set_cons_succ])
    refine wpAnyH_done (by kernel_rfl) ?_ _
    show wpList _ _ _ _ _ _
    have hb5 : Below w1.heap.size w1 (w5.alloc (.cells #[.int .i64 (K.next : Int), .int .i64 env, .slice A5 p.length c5] 205)) := B5.out.alloc B5.out.size _
    have h5 := H1.out.new hb5
    have head6 : Blk w6 g 91 _ := (K6.out.block g h5.head.lt NG.out).trans h5.head
    have c26 := hS.out
    have f26 := head6.frozen 2
    have b7 := head6.put 2 (.slice (some ⟨g6, 0, none⟩) (K.fs.length + 1) cap6)
    have c37 := (b7.cell 3).trans (show _ = some (.int .i64 (K.next : Int)) from rfl)
    have f37 := b7.frozen 3
    have b8 := b7.put 3 (.int .i64 ((K.next : Int) + 1))
    obtain ⟨W7, hW7⟩ : ∃ W7, W7 = w6.setCell ⟨g, 2, none⟩ (.slice (some ⟨g6, 0, none⟩) (K.fs.length + 1) cap6) := ⟨_, rfl⟩
    obtain ⟨W8, hW8⟩ : ∃ W8, W8 = W7.setCell ⟨g, 3, none⟩ (.int .i64 ((K.next : Int) + 1)) := ⟨_, rfl⟩
    have hg6 : g6 ≠ g := by
      intro e
      have hlg := h5.lg
      have hgl := h5.head.lt
      rcases AT6.out with h1 | h1
      · have := h5.lr g6 (inB_own.1 h1)
        rw [e] at this
        omega
      · omega
    have kf : Chg (w5.alloc (.cells #[.int .i64 (K.next : Int), .int .i64 env, .slice A5 p.length c5] 205)) w6 (fun i => i = g ∨ inB a.A i) := ⟨K6.out.os, K6.out.tape, K6.out.output, K6.out.size, fun i hi hn => K6.out.block i hi (fun e => hn (.inr (inB_own.1 e.symm)))⟩
    have k8 : Chg w6 W8 (fun i => i = g) := by
      rw [hW8, hW7]
      exact Chg.trans (w' := w6.setCell ⟨g, 2, none⟩ (.slice (some ⟨g6, 0, none⟩) (K.fs.length + 1) cap6)) (Chg.set _ _ _ rfl) (Chg.set _ _ _ rfl)
    have hrow : FRow W8 (some ⟨g6, 0, none⟩) cap6 (a.fm ++ [FM.mk (K.next : Int) env A5 p.length c5]) := by
      have r6 : RowW w6 205 3 (some ⟨g6, 0, none⟩) (a.fm ++ [FM.mk (K.next : Int) env A5 p.length c5]).length cap6 (flatF (a.fm ++ [FM.mk (K.next : Int) env A5 p.length c5])) := by
        rw [flatF_append, List.length_append, HFL.out]
        exact ⟨O6.out⟩
      exact RowW.chg r6 k8 (fun b hb (hi : b = g) => hg6 ((inB_some hb).symm.trans hi))
    have hd8 : Blk W8 g 91 #[.pointer (some ⟨a.gt, 0, none⟩), .pointer (some ⟨a.gd, 0, none⟩), .slice (some ⟨g6, 0, none⟩) (K.fs ++ [Fil.mk K.next env.toNat p]).length cap6, .int .i64 ((K.next + 1 : Nat) : Int), .pointer (some ⟨a.b1, 0, none⟩), .pointer (some ⟨a.b2, 0, none⟩), .pointer (some ⟨a.b3, 0, none⟩), .int .i64 (K.done : Int)] := by
      rw [hW8, hW7, List.length_append]
      exact b8
    have FIN := Lib.hid (show Left w W8 lab g { K with fs := K.fs ++ [Fil.mk K.next env.toNat p], next := K.next + 1 } from by
      obtain ⟨lab', ka, st⟩ := h5.setRow (w' := W8) (A' := some ⟨g6, 0, none⟩) (c' := cap6) (fm' := a.fm ++ [FM.mk (K.next : Int) env A5 p.length c5]) (fs' := K.fs ++ [⟨K.next, env.toNat, p⟩]) (nx := K.next + 1)
        (kf.trans (k8.weak (fun i hi => .inl hi))) hd8 hrow (fun b hb => by
          have e := inB_some hb
          subst e
          rcases AT6.out with h1 | h1
          · exact .inl (inB_own.1 h1)
          · exact .inr (Nat.le_of_eq h1.symm))
        (h5.fil.snoc (x := ⟨(K.next : Int), env, A5, p.length, c5⟩) (y := ⟨K.next, env.toNat, p⟩) ⟨rfl, ENV.out.symm, rfl, P5.out.new ((Below.refl _ w5).alloc (Nat.le_refl _) _), Fresh.off (w := w1.drew) F5.out H1.out.all⟩)
      exact ⟨lab', ⟨_, ka⟩, (LStep.news lab (show Below w.heap.size w (w5.alloc (.cells #[.int .i64 (K.next : Int), .int .i64 env, .slice A5 p.length c5] 205)) from (show Below w.heap.size w w1 from ⟨B1.out.os, B1.out.tape, B1.out.output, B1.out.size, B1.out.block⟩).trans (hb5.mono B1.out.size))).trans st⟩)
    have HW8 := Lib.hid hW8
    have HW7 := Lib.hid hW7
    rw [← hW7] at c37 f37
    clear hb5 h5 head6 b7 b8 hg6 kf k8 hrow hd8 hW8 hW7
    go_upto_region 8 with fail
    rw [show w6.setCell ⟨g, 2, none⟩ (.slice (some ⟨g6, 0, none⟩) (K.fs.length + 1) cap6) = W7 from HW7.out.symm]
    go_wp2
    go_ret2
    rw [show W7.setCell ⟨g, 3, none⟩ (.int .i64 ((K.next : Int) + 1)) = W8 from HW8.out.symm]
    exact ⟨rfl, FIN.out⟩
  · have hC : ¬ Chk p := fun h1 => hc ((chkB_iff p).2 h1)
    have er : bindR K env p = (K, 0, 40) := by unfold bindR; rw [if_neg h8, if_neg hc]
    have CK := Lib.hid (check_v A c p w hp hmax 40 (.inr ⟨hC, rfl⟩))
    have H := Lib.hid h
    rw [er]
    clear hc er hC h hp hn
    go_enter Tryz.func68, Tryz.ntmps68
    go_wp2_with fail
    refine CK.out.mono ?_; rintro e w1 ⟨rfl, b1⟩
    have FIN := Lib.hid (Left.same H.out b1)
    clear b1
    go_wp2
    go_ret2
    exact ⟨rfl, FIN.out⟩

theorem fil_idx (h : KAt w lab g K a) (id env : Int) : a.fm.findIdx? (isB id env) = K.fs.findIdx? (isFil id env) := h.fil.findIdx fun x y hxy => by
  obtain ⟨e1, e2, _⟩ := hxy
  unfold isB isFil
  rw [e1, e2]
set_option maxRecDepth 100000 in
set_option maxHeartbeats 1000000 in
theorem unbind_any (h : KAt w lab g K a) (ok : K.Ok) (env id : Int) :
    Calls Tryz.prog 69 #[.pointer (some ⟨g, 0, none⟩), .int .i64 env, .int .i64 id] w fun e w' => e = .returned (.int .i64 (unbindR K env id).2) ∧ Left w w' lab g (unbindR K env id).1 := by
  obtain ⟨W, hW⟩ : ∃ W, W = (w.alloc (.cells #[.int .i64 env] 3)).alloc (.cells #[.int .i64 id] 3) := ⟨_, rfl⟩
  have hb : Below w.heap.size w W := by rw [hW]; exact ((Below.refl _ w).alloc (Nat.le_refl _) _).alloc (by simp) _
  have be : Blk W w.heap.size 3 #[.int .i64 env] := by rw [hW]; exact (Blk.new w _ _).alloc _
  have bi : Blk W (w.heap.size + 1) 3 #[.int .i64 id] := by
    rw [hW]
    have := Blk.new (w.alloc (.cells #[.int .i64 env] 3)) 3 #[.int .i64 id]
    simpa using this
  have h1 := h.new hb
  have c2 := (h1.head.cell 2).trans (show _ = some (.slice a.A K.fs.length a.c) from rfl)
  have hmf : ∀ (fn : Fn) (first cap : Array Value) (w : World), (Instr.makeFunc fn first cap).run Tryz.prog w = .ok (.func fn first cap) w := fun _ _ _ _ => rfl
  have ix := index_any a.A a.c a.fm (w.heap.size + 1) w.heap.size id env W h1.row (by have := h1.fil.1; have := ok.f8; omega) (bi.cell 0) (be.cell 0)
  rw [h1.fil.1] at ix
  have hfl := h1.fil.1
  have HFL := Lib.hid hfl
  have HB := Lib.hid hb
  have H1 := Lib.hid h1
  have HW := Lib.hid hW
  have hidx := fil_idx h1 id env
  cases hi : K.fs.findIdx? (isFil id env) with
  | none =>
    have er : unbindR K env id = (K, 11) := by unfold unbindR; rw [hi]
    have ei : idxB a.fm id env = -1 := by unfold idxB; rw [hidx, hi]
    rw [ei] at ix
    rw [er]
    have IX := Lib.hid ix
    clear hi er ei ix hidx h1 hb be bi hW hfl h ok
    go_enter Tryz.func69, Tryz.ntmps69
    go_upto_region 1 with fail
    rw [show (w.alloc (.cells #[.int .i64 env] 3)).alloc (.cells #[.int .i64 id] 3) = W from HW.out.symm]
    go_wp2_with fail
    refine IX.out.mono ?_; rintro e w1 ⟨rfl, b1⟩
    have FIN := Lib.hid (Left.same H1.out b1)
    clear b1
    go_wp2
    go_ret
    obtain ⟨lab', k1, k2⟩ := FIN.out
    exact ⟨rfl, lab', k1, (LStep.news lab HB.out).trans k2⟩
  | some i =>
    have er : unbindR K env id = ({ K with fs := K.fs.eraseIdx i }, 0) := by unfold unbindR; rw [hi]
    have ei : idxB a.fm id env = (i : Int) := by unfold idxB; rw [hidx, hi]
    have hil : i < K.fs.length := by
      obtain ⟨h1, _⟩ := List.findIdx?_eq_some_iff_getElem.1 hi
      exact h1
    rw [ei] at ix
    rw [er]
    have IX := Lib.hid ix
    have hmax := ok.f8
    have xi := IntWalk.i64_in ((i : Int) + 1) (by omega)
    have gi : ¬ (i : Int) < 0 := by omega
    have HIL := Lib.hid hil
    have DL := Lib.hid (fun (W' : World) (hr : FRow W' a.A a.c a.fm) => delete_any a.A a.c a.fm i W' hr (by omega) (by omega))
    rw [hfl] at DL
    clear hi er ei ix hidx h1 hb be bi hW hfl h ok hil hmax
    go_enter Tryz.func69, Tryz.ntmps69
    go_upto_region 1 with fail
    rw [show (w.alloc (.cells #[.int .i64 env] 3)).alloc (.cells #[.int .i64 id] 3) = W from HW.out.symm]
    go_wp2_with fail
    refine IX.out.mono ?_; rintro e w1 ⟨rfl, b1⟩
    have h2 := H1.out.new b1
    have H2 := Lib.hid h2
    have B1 := Lib.hid b1
    have c2' := (h2.head.cell 2).trans (show _ = some (.slice a.A K.fs.length a.c) from rfl)
    clear b1 h2 c2
    go_wp2_with fail
    refine (DL.out _ H2.out.row).mono ?_; rintro e w3 ⟨rfl, r3, k3⟩
    have ng : ¬ inB a.A g := fun e => by
      have := H2.out.lr g e
      have := H2.out.lg
      omega
    have head3 := H2.out.head.chg k3 ng
    have c3 := (head3.cell 2).trans (show _ = some (.slice a.A K.fs.length a.c) from rfl)
    have f3 := head3.frozen 2
    obtain ⟨W4, hW4⟩ : ∃ W4, W4 = w3.setCell ⟨g, 2, none⟩ (.slice a.A (K.fs.length - 1) a.c) := ⟨_, rfl⟩
    have k4 : Chg w3 W4 (fun i => i = g) := by rw [hW4]; exact Chg.set _ _ _ rfl
    have FIN := Lib.hid (show Left w W4 lab g { K with fs := K.fs.eraseIdx i } from by
      have hl : (K.fs.eraseIdx i).length = K.fs.length - 1 := by rw [List.length_eraseIdx, if_pos HIL.out]
      obtain ⟨lab', ka, st⟩ := H2.out.setRow (w' := W4) (A' := a.A) (c' := a.c) (fm' := a.fm.eraseIdx i) (fs' := K.fs.eraseIdx i) (nx := K.next)
        ((k3.weak (fun i hi => .inr hi)).trans (k4.weak (fun i hi => .inl hi))) (by rw [hW4, hl]; exact head3.put 2 _) (RowW.chg r3 k4 (fun b hb (e : b = g) => ng (by rw [← e]; exact hb))) (fun b hb => .inl hb) (H2.out.fil.erase i)
      exact ⟨lab', ⟨_, ka⟩, (LStep.news lab (HB.out.trans (B1.out.mono HB.out.size))).trans st⟩)
    have HW4 := Lib.hid hW4
    clear r3 k3 ng head3 k4 hW4
    go_wp2
    go_ret
    rw [show w3.setCell ⟨g, 2, none⟩ (.slice a.A (K.fs.length - 1) a.c) = W4 from HW4.out.symm]
    exact ⟨rfl, FIN.out⟩

set_option maxRecDepth 100000 in
set_option maxHeartbeats 2000000 in
theorem submit_any (h : KAt w lab g K a) (ok : K.Ok) (env : Int) (he : env = 1 ∨ env = 2) (A : Option Addr) (c : Nat) (l : List Pc) (hp : Pcs w A l) (hok : ∀ p ∈ l, p.Ok) (hA : ∀ b o, A = some ⟨b, o, none⟩ → lab b = 0) (hc : l.length ≤ c) (hmax : l.length ≤ 1000000) (hs : K.f3 + K.out.length < 1000000) :
    Calls Tryz.prog 70 #[.pointer (some ⟨g, 0, none⟩), .int .i64 env, .slice A l.length c] w fun e w' => e = .returned (.tuple #[.int .i64 (submitR K env l).2.1, .int .i64 (submitR K env l).2.2]) ∧ Left w w' lab g (submitR K env l).1 := by
  have c6 := (h.head.cell 6).trans (show _ = some (.pointer (some ⟨a.b3, 0, none⟩)) from rfl)
  have c0 := (h.head.cell 0).trans (show _ = some (.pointer (some ⟨a.gt, 0, none⟩)) from rfl)
  have hx := h.p3.1
  have rm := RgT.room_any a.a3 a.b3 16 K.f3 a.x3 w h.r3
  rw [hx] at rm
  have no := ok.no
  by_cases h16 : 16 ≤ K.out.length
  · have er : submitR K env l = (K, 0, 10) := by unfold submitR; rw [if_pos h16]
    have e0 : ((16 : Nat) : Int) - (K.out.length : Int) = 0 := by omega
    rw [e0] at rm
    have RM := Lib.hid rm
    have H := Lib.hid h
    rw [er]
    clear er e0 rm h ok hp hok hA hx h16 no
    go_enter Tryz.func70, Tryz.ntmps70
    go_wp2_with fail
    refine RM.out.mono ?_; rintro e w1 ⟨rfl, m, rfl⟩
    have FIN := Lib.hid (Left.same H.out (w' := w.drewN m) ⟨rfl, rfl, rfl, Nat.le_refl _, fun _ _ => rfl⟩)
    go_wp2
    go_ret2
    exact ⟨rfl, FIN.out⟩
  obtain ⟨q, hq, hq0⟩ : ∃ q : Int, q = ((16 : Nat) : Int) - (K.out.length : Int) ∧ ¬ q = 0 := ⟨_, rfl, by omega⟩
  rw [← hq] at rm
  have RM := Lib.hid rm
  have H := Lib.hid h
  have HO := Lib.hid (fun (W : World) (hT : Fr.Tab W a.gs a.gt K.ps) (hP : Pcs W A l) => hold_list hT env A c l hP hok (fun b o e e2 => by have := hA b o e; have := h.lt1; rw [e2] at *; omega) hc ok.hm hmax)
  have HP := Lib.hid hp
  by_cases h0 : (holdG K.ps env l).2 = 0
  · have er : submitR K env l = ({ K with ps := (holdG K.ps env l).1, out := K.out ++ [⟨env.toNat, l⟩] }, (K.f3 : Int) + (K.out.length : Int), 0) := by unfold submitR; rw [if_neg h16, if_pos h0]
    have hchk : checkR K.ps env l = 0 := by
      unfold holdG at h0
      split at h0
      · assumption
      · exact absurd h0 (by assumption)
    have hne : 0 < l.length := by
      have := (fits_of_zero (check_zero hchk).1).2.1
      exact List.length_pos_iff.2 this
    rw [h0] at HO
    rw [er]
    have HA := Lib.hid hA
    have XL := Lib.hid (show a.x3.length < 16 by omega)
    have XS := Lib.hid (show K.f3 + a.x3.length < 1000000 by omega)
    have HX := Lib.hid hx
    have NE := Lib.hid hne
    have ENV := Lib.hid (show ((env.toNat : Nat) : Int) = env by omega)
    generalize (holdG K.ps env l).1 = ps2 at *
    clear er rm h ok hp hok hA hx h16 no hq h0 hchk hne
    go_enter Tryz.func70, Tryz.ntmps70
    go_wp2_with fail
    refine RM.out.mono ?_; rintro e w1 ⟨rfl, m, rfl⟩
    go_wp2_with fail
    refine (HO.out (w.drewN m) (H.out.tab.drewN m) HP.out).mono ?_; rintro e w2 ⟨rfl, t2, k2⟩
    obtain ⟨h2, s2⟩ := (H.out.drewN m).setPs k2 t2
    have H2 := Lib.hid h2
    have S2 := Lib.hid (show LStep w w2 lab lab from (LStep.drawn lab m).trans s2)
    have P2 := Lib.hid (show Pcs w2 A l from Pcs.step HP.out S2.out.step (fun h0 b o e hf => hf (HA.out b o e)))
    have CL := Lib.hid (clone_pcs A c l w2.drew P2.out NE.out hmax)
    have c6' := (h2.head.cell 6).trans (show _ = some (.pointer (some ⟨a.b3, 0, none⟩)) from rfl)
    clear h2 s2 k2 t2 c6 c0
    have c6 := c6'
    clear c6'
    go_upto_region 6 with fail
    refine wp_region_held_drew (S := fun w' => Hid (w'.cell? ⟨g, 6, none⟩ = some (.pointer (some ⟨a.b3, 0, none⟩)))) (by kernel_rfl) (Lib.hid (show w2.drew.cell? ⟨g, 6, none⟩ = some (.pointer (some ⟨a.b3, 0, none⟩)) from c6)) (fun hS => ?_)
    refine held_take (i := 0) (d := (some 25)) (v := ?_) rfl rfl (by kernel_rfl) (by kernel_rfl) (by kernel_rfl) (fun _ _ _ h => h) (by rfl) ?_ hS ?_
    rotate_left
    · intro w' hSw; (try dsimp only at hSw); go_simp <;> with_reducible rfl
    simp only [Act.put, List.setIfInBounds_toArray, List.set_cons_zero, List.set_cons_succ]
    refine held_take (i := 1) (d := (some 26)) (v := ?_) rfl rfl (by kernel_rfl) (by kernel_rfl) (by kernel_rfl) (fun _ _ _ h => h) (by rfl) ?_ hS ?_
    rotate_left
    · intro w' hSw; (try dsimp only at hSw); go_simp <;> with_reducible rfl
    simp only [Act.put, List.setIfInBounds_toArray, List.set_cons_zero, List.set_cons_succ]
    refine held_take (i := 2) (d := (some 27)) (v := ?_) rfl rfl (by kernel_rfl) (by kernel_rfl) (by kernel_rfl) (fun _ _ _ h => h) (by rfl) ?_ hS ?_
    rotate_left
    · intro w' hSw; (try dsimp only at hSw); go_simp <;> with_reducible rfl
    simp only [Act.put, List.setIfInBounds_toArray, List.set_cons_zero, List.set_cons_succ]
    refine held_take (i := 3) (d := (some 28)) (v := ?_) rfl rfl (by kernel_rfl) (by kernel_rfl) (by kernel_rfl) (fun _ _ _ h => h) (by rfl) ?_ hS ?_
    rotate_left
    · intro w' hSw; have hc := hSw.out; clear hSw; go_simp <;> with_reducible rfl
    simp only [Act.put, List.setIfInBounds_toArray, List.set_cons_zero, List.set_cons_succ]
    refine held_take (i := 4) (d := (some 29)) (v := ?_) rfl rfl (by kernel_rfl) (by kernel_rfl) (by kernel_rfl) (fun _ _ _ h => h) (by rfl) ?_ hS ?_
    rotate_left
    · intro w' hSw; (try dsimp only at hSw); go_simp <;> with_reducible rfl
    simp only [Act.put, List.setIfInBounds_toArray, List.set_cons_zero, List.set_cons_succ]
    refine held_take (i := 5) (d := (some 30)) (v := ?_) rfl rfl (by kernel_rfl) (by kernel_rfl) (by kernel_rfl) (fun _ _ _ h => h) (by rfl) ?_ hS ?_
    rotate_left
    · intro w' hSw; (try dsimp only at hSw); go_simp <;> with_reducible rfl
    simp only [Act.put, List.setIfInBounds_toArray, List.set_cons_zero, List.set_cons_succ]
    refine held_one (i := 6) (by kernel_rfl) rfl (by rfl) ?_
    go_simp
    refine CL.out.mono ?_; rintro e w5 ⟨A5, c5, rfl, p5, f5, n5, b5⟩
    have B5 := Lib.hid (show Below w2.heap.size w2 w5 from ⟨b5.os, b5.tape, b5.output, b5.size, b5.block⟩)
    have hk5 := H2.out.new B5.out
    have H5 := Lib.hid hk5
    have P5 := Lib.hid p5
    have F5 := Lib.hid (show Off (on lab) A5 l.length from Fresh.off (w := w2) f5 H2.out.all)
    have N5 := Lib.hid n5
    have PU := Lib.hid (RgT.put_ok a.a3 a.b3 16 K.f3 a.x3 env A5 l.length c5 w5 hk5.r3 XL.out XS.out)
    have hS : Hid (w5.cell? ⟨g, 6, none⟩ = some (.pointer (some ⟨a.b3, 0, none⟩))) := Lib.hid ((hk5.head.cell 6).trans rfl)
    refine ⟨hS, ?_⟩
    clear p5 f5 n5 b5 hk5
    (try simp only [Act.put, List.setIfInBounds_toArray, List.set_cons_zero, List.set_cons_succ])
    refine held_take (i := 7) (d := (some 32)) (v := ?_) rfl rfl (by kernel_rfl) (by kernel_rfl) (by kernel_rfl) (fun _ _ _ h => h) (by rfl) ?_ hS ?_
    rotate_left
    · intro w' hSw; (try dsimp only at hSw); go_simp <;> with_reducible rfl
    simp only [Act.put, List.setIfInBounds_toArray, List.set_cons_zero, List.set_cons_succ]
    refine held_one (i := 8) (by kernel_rfl) rfl (by rfl) ?_
    go_simp
    refine PU.out.mono ?_; rintro e w6 ⟨rfl, r6, k6⟩
    have R6 := Lib.hid r6
    have K6 := Lib.hid k6
    have hS : Hid (w6.cell? ⟨g, 6, none⟩ = some (.pointer (some ⟨a.b3, 0, none⟩))) := Lib.hid ((World.cell?_of_block (w := w5) (w' := w6) (a := ⟨g, 6, none⟩) (k6.block g H5.out.head.lt (by have := H5.out.lg; have := H5.out.l31; have := H5.out.l32; show ¬ (g = a.a3 ∨ g = a.b3); intro e; rcases e with e | e <;> (subst e; omega)))).trans hS.out)
    refine ⟨hS, ?_⟩
    clear r6 k6
    (try simp only [Act.put, List.setIfInBounds_toArray, List.set_cons_zero, List.set_cons_succ])
    refine held_take (i := 9) (d := (some 34)) (v := ?_) rfl rfl (by kernel_rfl) (by kernel_rfl) (by kernel_rfl) (fun _ _ _ h => h) (by rfl) ?_ hS ?_
    rotate_left
    · intro w' hSw; (try dsimp only at hSw); go_simp <;> with_reducible rfl
    simp only [Act.put, List.setIfInBounds_toArray, List.set_cons_zero, List.set_cons_succ]
    refine held_take (i := 10) (d := (some 35)) (v := ?_) rfl rfl (by kernel_rfl) (by kernel_rfl) (by kernel_rfl) (fun _ _ _ h => h) (by rfl) ?_ hS ?_
    rotate_left
    · intro w' hSw; (try dsimp only at hSw); go_simp <;> with_reducible rfl
    simp only [Act.put, List.setIfInBounds_toArray, List.set_cons_zero, List.set_cons_succ]
    refine held_take (i := 11) (d := (some 6)) (v := ?_) rfl rfl (by kernel_rfl) (by kernel_rfl) (by kernel_rfl) (fun _ _ _ h => h) (by rfl) ?_ hS ?_
    rotate_left
    · intro w' hSw; (try dsimp only at hSw); go_simp <;> with_reducible rfl
    simp only [Act.put, List.setIfInBounds_toArray, List.set_cons_zero, List.set_cons_succ]
    refine held_take (i := 12) (d := (some 7)) (v := ?_) rfl rfl (by kernel_rfl) (by kernel_rfl) (by kernel_rfl) (fun _ _ _ h => h) (by rfl) ?_ hS ?_
    rotate_left
    · intro w' hSw; (try dsimp only at hSw); go_simp <;> with_reducible rfl
    simp only [Act.put, List.setIfInBounds_toArray, List.set_cons_zero, List.set_cons_succ]
    refine wpAnyH_done (by kernel_rfl) ?_ _
    have FIN := Lib.hid (show Left w w6 lab g { K with ps := ps2, out := K.out ++ [Tr.mk env.toNat l] } from by
      obtain ⟨h7, s7⟩ := H5.out.setRing3 (x' := a.x3 ++ [(.int .i64 env, .slice A5 l.length c5)]) (f' := K.f3) (o' := K.out ++ [Tr.mk env.toNat l]) K6.out R6.out (H5.out.p3.snoc (y := Tr.mk env.toNat l) ⟨A5, c5, by show _ = (Value.int .i64 ((env.toNat : Nat) : Int), _); rw [ENV.out], P5.out, F5.out, N5.out⟩)
      exact ⟨lab, ⟨_, h7⟩, (S2.out.trans (LStep.news lab B5.out)).trans s7⟩)
    clear S2 P2 CL H5 P5 F5 N5 PU R6 K6 B5
    go_wp2
    go_ret2
    rw [HX.out]
    exact ⟨rfl, FIN.out⟩
  · have er : submitR K env l = (K, 0, (holdG K.ps env l).2) := by unfold submitR; rw [if_neg h16, if_neg h0]
    have h1 : (holdG K.ps env l).1 = K.ps := by
      unfold holdG at h0 ⊢
      split
      · rename_i hc; rw [if_pos hc] at h0; exact absurd rfl h0
      · rfl
    rw [h1] at HO
    rw [er]
    have h0b : ((holdG K.ps env l).2 == 0) = false := by simpa using h0
    generalize (holdG K.ps env l).2 = ev at *
    clear er rm h ok hp hok hA hx h16 no hq h1
    go_enter Tryz.func70, Tryz.ntmps70
    go_wp2_with fail
    refine RM.out.mono ?_; rintro e w1 ⟨rfl, m, rfl⟩
    go_wp2_with fail
    refine (HO.out (w.drewN m) (H.out.tab.drewN m) HP.out).mono ?_; rintro e w2 ⟨rfl, t2, k2⟩
    obtain ⟨h2, s2⟩ := (H.out.drewN m).setPs k2 t2
    have FIN := Lib.hid (show Left w w2 lab g K from ⟨lab, ⟨a, h2⟩, (LStep.drawn lab m).trans s2⟩)
    clear t2 k2 h2 s2
    go_wp2
    go_ret2
    exact ⟨rfl, FIN.out⟩
end
end Go.Proofs.YtefnkednnnlhoaaGreatDoor.Ke
