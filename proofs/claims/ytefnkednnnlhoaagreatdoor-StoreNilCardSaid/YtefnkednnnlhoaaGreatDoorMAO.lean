/- Package kern: Call. Conditions: those that each states. -/
import Derived.Test.YtefnkednnnlhoaaGreatDoorKn4
import Derived.Test.YtefnkednnnlhoaaGreatDoorMAN
import Derived.Test.YtefnkednnnlhoaaGreatDoorMAB
import Derived.Test.YtefnkednnnlhoaaGreatDoorMAC
import Derived.Deep.Slices
import Derived.ChangeSame
namespace Go.Proofs.YtefnkednnnlhoaaGreatDoor.Ke
open Go.ChangeShapes Go.WideShapes Go.ChangeAt Go.RowKit Go.Deep Fr Di
set_option linter.unusedVariables false
section
variable {w : World} {lab : Nat → Nat} {g : Nat} {K : Kn} {a : Ad}

set_option maxRecDepth 100000 in
set_option maxHeartbeats 2000000 in
theorem take_1 (h : KAt w lab g K a) (n8 : ∀ k, lab k ≠ 8) (ok : K.Ok) (qa qb qc : Int) (s : List UInt8) (p : List Ins) (l : List Pc) (Ab Ap Al : Option Addr) (cb cp cl : Nat) (pk : List UInt8) (r : List (List UInt8)) (hi : K.i1 = pk :: r) :
    Calls Tryz.prog 38 #[.pointer (some ⟨g, 0, none⟩), .agg #[.int .i64 12, .int .i64 1, .int .i64 qa, .int .i64 qb, .int .i64 qc, .slice Ab s.length cb, .slice Ap p.length cp, .slice Al l.length cl]] w (Called w lab g ({ K with i1 := r, f1 := K.f1 + 1 }, 0, pk, 0)) := by
  have hB := boxed h n8 #[.int .i64 12, .int .i64 1, .int .i64 qa, .int .i64 qb, .int .i64 qc, .slice Ab s.length cb, .slice Ap p.length cp, .slice Al l.length cl]
  obtain ⟨W, hW⟩ : ∃ W, W = (w.alloc (.cells #[.int .i64 12, .int .i64 1, .int .i64 qa, .int .i64 qb, .int .i64 qc, .slice Ab s.length cb, .slice Ap p.length cp, .slice Al l.length cl] 110)).alloc (.cells #[.int .i64 0, .slice none 0 0] 104) := ⟨_, rfl⟩
  rw [← hW] at hB
  generalize mk2 lab w.heap.size = m at hB
  have B := Lib.hid hB
  have b0 := (hB.bc.cell 0).trans (show _ = some (.int .i64 12) from rfl)
  have b1 := (hB.bc.cell 1).trans (show _ = some (.int .i64 1) from rfl)
  have EV := Lib.hid (kenv_yes 1 (by omega) W)
  have HW := Lib.hid hW
  have RG := Lib.hid (rings_1 hB.ka)
  have hp := hB.ka.p1
  rw [hi] at hp
  obtain ⟨v, x', hx, ⟨A5, c5, rfl, s5, o5⟩, hp2⟩ := hp.cons_inv
  have hr := hB.ka.r1
  rw [hx] at hr
  have CA := Lib.hid (RgP.take_ok a.a1 a.b1 16 K.f1 x' A5 pk.length c5 W hr)
  have S5 := Lib.hid s5
  have O5 := Lib.hid o5
  have P2 := Lib.hid hp2
  clear h ok hB hW n8 hi hp hx hr s5 o5 hp2
  go_enter Tryz.func38, Tryz.ntmps38
  go_upto_region 1 with fail
  rw [show (w.alloc (.cells #[.int .i64 12, .int .i64 1, .int .i64 qa, .int .i64 qb, .int .i64 qc, .slice Ab s.length cb, .slice Ap p.length cp, .slice Al l.length cl] 110)).alloc (.cells #[.int .i64 0, .slice none 0 0] 104) = W from HW.out.symm]
  go_wp2_with fail
  refine EV.out.mono ?_; rintro e w1 ⟨rfl, hw1⟩; subst w1
  go_wp2_with fail
  refine RG.out.mono ?_; rintro e w2 ⟨rfl, hw2⟩; subst w2
  go_wp2_with fail
  refine CA.out.mono ?_; rintro e w5 ⟨rfl, r5, k5⟩
  obtain ⟨h5, l5⟩ := B.out.ka.setRing1 (i' := r) k5 r5 P2.out
  have H5 := Lib.hid h5
  have L5 := Lib.hid l5
  have S6 := Lib.hid (Src.step S5.out l5.step O5.out)
  clear r5 k5 h5 l5
  have BA5 := Lib.hid (L5.out.blk8 B.out.ba (by rw [B.out.m2]; omega))
  have c5a := (BA5.out.cell 1).trans (show _ = some (.slice none 0 0) from rfl)
  have f5a := BA5.out.frozen 1
  obtain ⟨W6, hW6⟩ : ∃ W6, W6 = (w5.setCell ⟨w.heap.size + 1, 1, none⟩ (.slice A5 pk.length c5)) := ⟨_, rfl⟩
  have b6 : Blk W6 (w.heap.size + 1) 104 #[.int .i64 0, .slice A5 pk.length c5] := by rw [hW6]; exact (BA5.out.put 1 (.slice A5 pk.length c5))
  have k6 : Chg w5 W6 (fun i => i = w.heap.size + 1) := by rw [hW6]; exact Chg.set _ _ _ rfl
  have d0 := (b6.cell 0).trans (show _ = some (.int .i64 0) from rfl)
  have d1 := (b6.cell 1).trans (show _ = some (.slice A5 pk.length c5) from rfl)
  have e0 := b6.frozen 0
  have e1 := b6.frozen 1
  have FIN := Lib.hid (finish (ev := 0) (s := pk) B.out ⟨_, H5.out⟩ L5.out k6 b6 S6.out O5.out)
  have HW6 := Lib.hid hW6
  clear b6 k6 hW6
  go_upto_region 33 with fail
  rw [show (w5.setCell ⟨w.heap.size + 1, 1, none⟩ (.slice A5 pk.length c5)) = W6 from HW6.out.symm]
  go_wp2
  refine bodyPost_ret (v := .tuple #[.agg #[.int .i64 0, .slice A5 pk.length c5], .int .i64 0]) ?_ rfl ?_
  · exact results_cell_tmp Tryz.results38 _ _ (w.heap.size + 1) 104 _ (0, 0) _ rfl FIN.out.2 Tryz.underlying104 rfl ainfo
  · exact FIN.out.1

set_option maxRecDepth 100000 in
set_option maxHeartbeats 2000000 in
theorem take_1e (h : KAt w lab g K a) (n8 : ∀ k, lab k ≠ 8) (ok : K.Ok) (qa qb qc : Int) (s : List UInt8) (p : List Ins) (l : List Pc) (Ab Ap Al : Option Addr) (cb cp cl : Nat) (hi : K.i1 = []) :
    Calls Tryz.prog 38 #[.pointer (some ⟨g, 0, none⟩), .agg #[.int .i64 12, .int .i64 1, .int .i64 qa, .int .i64 qb, .int .i64 qc, .slice Ab s.length cb, .slice Ap p.length cp, .slice Al l.length cl]] w (Called w lab g (K, 0, [], 11)) := by
  have hB := boxed h n8 #[.int .i64 12, .int .i64 1, .int .i64 qa, .int .i64 qb, .int .i64 qc, .slice Ab s.length cb, .slice Ap p.length cp, .slice Al l.length cl]
  obtain ⟨W, hW⟩ : ∃ W, W = (w.alloc (.cells #[.int .i64 12, .int .i64 1, .int .i64 qa, .int .i64 qb, .int .i64 qc, .slice Ab s.length cb, .slice Ap p.length cp, .slice Al l.length cl] 110)).alloc (.cells #[.int .i64 0, .slice none 0 0] 104) := ⟨_, rfl⟩
  rw [← hW] at hB
  generalize mk2 lab w.heap.size = m at hB
  have B := Lib.hid hB
  have b0 := (hB.bc.cell 0).trans (show _ = some (.int .i64 12) from rfl)
  have b1 := (hB.bc.cell 1).trans (show _ = some (.int .i64 1) from rfl)
  have EV := Lib.hid (kenv_yes 1 (by omega) W)
  have HW := Lib.hid hW
  have RG := Lib.hid (rings_1 hB.ka)
  have hp := hB.ka.p1
  rw [hi] at hp
  have hx := hp.nil_inv
  have hr := hB.ka.r1
  rw [hx] at hr
  have CA := Lib.hid (RgP.take_empty a.a1 a.b1 16 K.f1 W hr)
  clear h ok hB hW n8 hi hp hx hr
  go_enter Tryz.func38, Tryz.ntmps38
  go_upto_region 1 with fail
  rw [show (w.alloc (.cells #[.int .i64 12, .int .i64 1, .int .i64 qa, .int .i64 qb, .int .i64 qc, .slice Ab s.length cb, .slice Ap p.length cp, .slice Al l.length cl] 110)).alloc (.cells #[.int .i64 0, .slice none 0 0] 104) = W from HW.out.symm]
  go_wp2_with fail
  refine EV.out.mono ?_; rintro e w1 ⟨rfl, hw1⟩; subst w1
  go_wp2_with fail
  refine RG.out.mono ?_; rintro e w2 ⟨rfl, hw2⟩; subst w2
  go_wp2_with fail
  refine CA.out.mono ?_; rintro e w5 ⟨rfl, hw5⟩
  have L5 := Lib.hid (show LStep W w5 m m from by rw [hw5]; exact LStep.news m (Below.refl _ W))
  have BA5 := Lib.hid (show Blk w5 (w.heap.size + 1) 104 #[.int .i64 0, .slice none 0 0] from by rw [hw5]; exact B.out.ba)
  have H5 := Lib.hid (show KAt w5 m g K a from by rw [hw5]; exact B.out.ka)
  have c5a := (BA5.out.cell 1).trans (show _ = some (.slice none 0 0) from rfl)
  have f5a := BA5.out.frozen 1
  clear hw5
  obtain ⟨W6, hW6⟩ : ∃ W6, W6 = (w5.setCell ⟨w.heap.size + 1, 1, none⟩ (.slice none 0 0)) := ⟨_, rfl⟩
  have b6 : Blk W6 (w.heap.size + 1) 104 #[.int .i64 0, .slice none ([] : List UInt8).length 0] := by rw [hW6]; exact (BA5.out.put 1 (.slice none 0 0))
  have k6 : Chg w5 W6 (fun i => i = w.heap.size + 1) := by rw [hW6]; exact Chg.set _ _ _ rfl
  have d0 := (b6.cell 0).trans (show _ = some (.int .i64 0) from rfl)
  have d1 := (b6.cell 1).trans (show _ = some (.slice none ([] : List UInt8).length 0) from rfl)
  have e0 := b6.frozen 0
  have e1 := b6.frozen 1
  have FIN := Lib.hid (finish (ev := 11) (s := ([] : List UInt8)) B.out ⟨_, H5.out⟩ L5.out k6 b6 (Src.nil _) (fun h => absurd h (by decide)))
  have HW6 := Lib.hid hW6
  clear b6 k6 hW6
  go_upto_region 33 with fail
  rw [show (w5.setCell ⟨w.heap.size + 1, 1, none⟩ (.slice none 0 0)) = W6 from HW6.out.symm]
  go_wp2
  refine bodyPost_ret (v := .tuple #[.agg #[.int .i64 0, .slice none ([] : List UInt8).length 0], .int .i64 11]) ?_ rfl ?_
  · exact results_cell_tmp Tryz.results38 _ _ (w.heap.size + 1) 104 _ (0, 0) _ rfl FIN.out.2 Tryz.underlying104 rfl ainfo
  · exact FIN.out.1

set_option maxRecDepth 100000 in
set_option maxHeartbeats 2000000 in
theorem take_2 (h : KAt w lab g K a) (n8 : ∀ k, lab k ≠ 8) (ok : K.Ok) (qa qb qc : Int) (s : List UInt8) (p : List Ins) (l : List Pc) (Ab Ap Al : Option Addr) (cb cp cl : Nat) (pk : List UInt8) (r : List (List UInt8)) (hi : K.i2 = pk :: r) :
    Calls Tryz.prog 38 #[.pointer (some ⟨g, 0, none⟩), .agg #[.int .i64 12, .int .i64 2, .int .i64 qa, .int .i64 qb, .int .i64 qc, .slice Ab s.length cb, .slice Ap p.length cp, .slice Al l.length cl]] w (Called w lab g ({ K with i2 := r, f2 := K.f2 + 1 }, 0, pk, 0)) := by
  have hB := boxed h n8 #[.int .i64 12, .int .i64 2, .int .i64 qa, .int .i64 qb, .int .i64 qc, .slice Ab s.length cb, .slice Ap p.length cp, .slice Al l.length cl]
  obtain ⟨W, hW⟩ : ∃ W, W = (w.alloc (.cells #[.int .i64 12, .int .i64 2, .int .i64 qa, .int .i64 qb, .int .i64 qc, .slice Ab s.length cb, .slice Ap p.length cp, .slice Al l.length cl] 110)).alloc (.cells #[.int .i64 0, .slice none 0 0] 104) := ⟨_, rfl⟩
  rw [← hW] at hB
  generalize mk2 lab w.heap.size = m at hB
  have B := Lib.hid hB
  have b0 := (hB.bc.cell 0).trans (show _ = some (.int .i64 12) from rfl)
  have b1 := (hB.bc.cell 1).trans (show _ = some (.int .i64 2) from rfl)
  have EV := Lib.hid (kenv_yes 2 (by omega) W)
  have HW := Lib.hid hW
  have RG := Lib.hid (rings_2 hB.ka)
  have hp := hB.ka.p2
  rw [hi] at hp
  obtain ⟨v, x', hx, ⟨A5, c5, rfl, s5, o5⟩, hp2⟩ := hp.cons_inv
  have hr := hB.ka.r2
  rw [hx] at hr
  have CA := Lib.hid (RgP.take_ok a.a2 a.b2 16 K.f2 x' A5 pk.length c5 W hr)
  have S5 := Lib.hid s5
  have O5 := Lib.hid o5
  have P2 := Lib.hid hp2
  clear h ok hB hW n8 hi hp hx hr s5 o5 hp2
  go_enter Tryz.func38, Tryz.ntmps38
  go_upto_region 1 with fail
  rw [show (w.alloc (.cells #[.int .i64 12, .int .i64 2, .int .i64 qa, .int .i64 qb, .int .i64 qc, .slice Ab s.length cb, .slice Ap p.length cp, .slice Al l.length cl] 110)).alloc (.cells #[.int .i64 0, .slice none 0 0] 104) = W from HW.out.symm]
  go_wp2_with fail
  refine EV.out.mono ?_; rintro e w1 ⟨rfl, hw1⟩; subst w1
  go_wp2_with fail
  refine RG.out.mono ?_; rintro e w2 ⟨rfl, hw2⟩; subst w2
  go_wp2_with fail
  refine CA.out.mono ?_; rintro e w5 ⟨rfl, r5, k5⟩
  obtain ⟨h5, l5⟩ := B.out.ka.setRing2 (i' := r) k5 r5 P2.out
  have H5 := Lib.hid h5
  have L5 := Lib.hid l5
  have S6 := Lib.hid (Src.step S5.out l5.step O5.out)
  clear r5 k5 h5 l5
  have BA5 := Lib.hid (L5.out.blk8 B.out.ba (by rw [B.out.m2]; omega))
  have c5a := (BA5.out.cell 1).trans (show _ = some (.slice none 0 0) from rfl)
  have f5a := BA5.out.frozen 1
  obtain ⟨W6, hW6⟩ : ∃ W6, W6 = (w5.setCell ⟨w.heap.size + 1, 1, none⟩ (.slice A5 pk.length c5)) := ⟨_, rfl⟩
  have b6 : Blk W6 (w.heap.size + 1) 104 #[.int .i64 0, .slice A5 pk.length c5] := by rw [hW6]; exact (BA5.out.put 1 (.slice A5 pk.length c5))
  have k6 : Chg w5 W6 (fun i => i = w.heap.size + 1) := by rw [hW6]; exact Chg.set _ _ _ rfl
  have d0 := (b6.cell 0).trans (show _ = some (.int .i64 0) from rfl)
  have d1 := (b6.cell 1).trans (show _ = some (.slice A5 pk.length c5) from rfl)
  have e0 := b6.frozen 0
  have e1 := b6.frozen 1
  have FIN := Lib.hid (finish (ev := 0) (s := pk) B.out ⟨_, H5.out⟩ L5.out k6 b6 S6.out O5.out)
  have HW6 := Lib.hid hW6
  clear b6 k6 hW6
  go_upto_region 33 with fail
  rw [show (w5.setCell ⟨w.heap.size + 1, 1, none⟩ (.slice A5 pk.length c5)) = W6 from HW6.out.symm]
  go_wp2
  refine bodyPost_ret (v := .tuple #[.agg #[.int .i64 0, .slice A5 pk.length c5], .int .i64 0]) ?_ rfl ?_
  · exact results_cell_tmp Tryz.results38 _ _ (w.heap.size + 1) 104 _ (0, 0) _ rfl FIN.out.2 Tryz.underlying104 rfl ainfo
  · exact FIN.out.1

set_option maxRecDepth 100000 in
set_option maxHeartbeats 2000000 in
theorem take_2e (h : KAt w lab g K a) (n8 : ∀ k, lab k ≠ 8) (ok : K.Ok) (qa qb qc : Int) (s : List UInt8) (p : List Ins) (l : List Pc) (Ab Ap Al : Option Addr) (cb cp cl : Nat) (hi : K.i2 = []) :
    Calls Tryz.prog 38 #[.pointer (some ⟨g, 0, none⟩), .agg #[.int .i64 12, .int .i64 2, .int .i64 qa, .int .i64 qb, .int .i64 qc, .slice Ab s.length cb, .slice Ap p.length cp, .slice Al l.length cl]] w (Called w lab g (K, 0, [], 11)) := by
  have hB := boxed h n8 #[.int .i64 12, .int .i64 2, .int .i64 qa, .int .i64 qb, .int .i64 qc, .slice Ab s.length cb, .slice Ap p.length cp, .slice Al l.length cl]
  obtain ⟨W, hW⟩ : ∃ W, W = (w.alloc (.cells #[.int .i64 12, .int .i64 2, .int .i64 qa, .int .i64 qb, .int .i64 qc, .slice Ab s.length cb, .slice Ap p.length cp, .slice Al l.length cl] 110)).alloc (.cells #[.int .i64 0, .slice none 0 0] 104) := ⟨_, rfl⟩
  rw [← hW] at hB
  generalize mk2 lab w.heap.size = m at hB
  have B := Lib.hid hB
  have b0 := (hB.bc.cell 0).trans (show _ = some (.int .i64 12) from rfl)
  have b1 := (hB.bc.cell 1).trans (show _ = some (.int .i64 2) from rfl)
  have EV := Lib.hid (kenv_yes 2 (by omega) W)
  have HW := Lib.hid hW
  have RG := Lib.hid (rings_2 hB.ka)
  have hp := hB.ka.p2
  rw [hi] at hp
  have hx := hp.nil_inv
  have hr := hB.ka.r2
  rw [hx] at hr
  have CA := Lib.hid (RgP.take_empty a.a2 a.b2 16 K.f2 W hr)
  clear h ok hB hW n8 hi hp hx hr
  go_enter Tryz.func38, Tryz.ntmps38
  go_upto_region 1 with fail
  rw [show (w.alloc (.cells #[.int .i64 12, .int .i64 2, .int .i64 qa, .int .i64 qb, .int .i64 qc, .slice Ab s.length cb, .slice Ap p.length cp, .slice Al l.length cl] 110)).alloc (.cells #[.int .i64 0, .slice none 0 0] 104) = W from HW.out.symm]
  go_wp2_with fail
  refine EV.out.mono ?_; rintro e w1 ⟨rfl, hw1⟩; subst w1
  go_wp2_with fail
  refine RG.out.mono ?_; rintro e w2 ⟨rfl, hw2⟩; subst w2
  go_wp2_with fail
  refine CA.out.mono ?_; rintro e w5 ⟨rfl, hw5⟩
  have L5 := Lib.hid (show LStep W w5 m m from by rw [hw5]; exact LStep.news m (Below.refl _ W))
  have BA5 := Lib.hid (show Blk w5 (w.heap.size + 1) 104 #[.int .i64 0, .slice none 0 0] from by rw [hw5]; exact B.out.ba)
  have H5 := Lib.hid (show KAt w5 m g K a from by rw [hw5]; exact B.out.ka)
  have c5a := (BA5.out.cell 1).trans (show _ = some (.slice none 0 0) from rfl)
  have f5a := BA5.out.frozen 1
  clear hw5
  obtain ⟨W6, hW6⟩ : ∃ W6, W6 = (w5.setCell ⟨w.heap.size + 1, 1, none⟩ (.slice none 0 0)) := ⟨_, rfl⟩
  have b6 : Blk W6 (w.heap.size + 1) 104 #[.int .i64 0, .slice none ([] : List UInt8).length 0] := by rw [hW6]; exact (BA5.out.put 1 (.slice none 0 0))
  have k6 : Chg w5 W6 (fun i => i = w.heap.size + 1) := by rw [hW6]; exact Chg.set _ _ _ rfl
  have d0 := (b6.cell 0).trans (show _ = some (.int .i64 0) from rfl)
  have d1 := (b6.cell 1).trans (show _ = some (.slice none ([] : List UInt8).length 0) from rfl)
  have e0 := b6.frozen 0
  have e1 := b6.frozen 1
  have FIN := Lib.hid (finish (ev := 11) (s := ([] : List UInt8)) B.out ⟨_, H5.out⟩ L5.out k6 b6 (Src.nil _) (fun h => absurd h (by decide)))
  have HW6 := Lib.hid hW6
  clear b6 k6 hW6
  go_upto_region 33 with fail
  rw [show (w5.setCell ⟨w.heap.size + 1, 1, none⟩ (.slice none 0 0)) = W6 from HW6.out.symm]
  go_wp2
  refine bodyPost_ret (v := .tuple #[.agg #[.int .i64 0, .slice none ([] : List UInt8).length 0], .int .i64 11]) ?_ rfl ?_
  · exact results_cell_tmp Tryz.results38 _ _ (w.heap.size + 1) 104 _ (0, 0) _ rfl FIN.out.2 Tryz.underlying104 rfl ainfo
  · exact FIN.out.1

set_option maxRecDepth 100000 in
set_option maxHeartbeats 2000000 in
theorem call_other (h : KAt w lab g K a) (n8 : ∀ k, lab k ≠ 8) (ok : K.Ok) (env : Int) (he : env = 1 ∨ env = 2) (qa qb qc : Int) (s : List UInt8) (p : List Ins) (l : List Pc) (Ab Ap Al : Option Addr) (cb cp cl : Nat) (op : Int) (ho : op < 1 ∨ 13 < op) :
    Calls Tryz.prog 38 #[.pointer (some ⟨g, 0, none⟩), .agg #[.int .i64 op, .int .i64 env, .int .i64 qa, .int .i64 qb, .int .i64 qc, .slice Ab s.length cb, .slice Ap p.length cp, .slice Al l.length cl]] w (Called w lab g (K, 0, [], 1)) := by
  have hB := boxed h n8 #[.int .i64 op, .int .i64 env, .int .i64 qa, .int .i64 qb, .int .i64 qc, .slice Ab s.length cb, .slice Ap p.length cp, .slice Al l.length cl]
  obtain ⟨W, hW⟩ : ∃ W, W = (w.alloc (.cells #[.int .i64 op, .int .i64 env, .int .i64 qa, .int .i64 qb, .int .i64 qc, .slice Ab s.length cb, .slice Ap p.length cp, .slice Al l.length cl] 110)).alloc (.cells #[.int .i64 0, .slice none 0 0] 104) := ⟨_, rfl⟩
  rw [← hW] at hB
  generalize mk2 lab w.heap.size = m at hB
  have B := Lib.hid hB
  have b0 := (hB.bc.cell 0).trans (show _ = some (.int .i64 op) from rfl)
  have b1 := (hB.bc.cell 1).trans (show _ = some (.int .i64 env) from rfl)
  have EV := Lib.hid (kenv_yes env he W)
  have HW := Lib.hid hW
  have L5 := Lib.hid (LStep.news m (Below.refl _ W))
  have BA5 := Lib.hid hB.ba
  obtain ⟨w5, hw5⟩ : ∃ w5, w5 = W := ⟨_, rfl⟩
  have ne1 : (op == 1) = false := by simpa using (show ¬ op = 1 by omega)
  have ne2 : (op == 2) = false := by simpa using (show ¬ op = 2 by omega)
  have ne3 : (op == 3) = false := by simpa using (show ¬ op = 3 by omega)
  have ne4 : (op == 4) = false := by simpa using (show ¬ op = 4 by omega)
  have ne5 : (op == 5) = false := by simpa using (show ¬ op = 5 by omega)
  have ne6 : (op == 6) = false := by simpa using (show ¬ op = 6 by omega)
  have ne7 : (op == 7) = false := by simpa using (show ¬ op = 7 by omega)
  have ne8 : (op == 8) = false := by simpa using (show ¬ op = 8 by omega)
  have ne9 : (op == 9) = false := by simpa using (show ¬ op = 9 by omega)
  have ne10 : (op == 10) = false := by simpa using (show ¬ op = 10 by omega)
  have ne11 : (op == 11) = false := by simpa using (show ¬ op = 11 by omega)
  have ne12 : (op == 12) = false := by simpa using (show ¬ op = 12 by omega)
  have ne13 : (op == 13) = false := by simpa using (show ¬ op = 13 by omega)
  clear h hB hW n8 ok ho
  go_enter Tryz.func38, Tryz.ntmps38
  go_upto_region 1 with fail
  rw [show (w.alloc (.cells #[.int .i64 op, .int .i64 env, .int .i64 qa, .int .i64 qb, .int .i64 qc, .slice Ab s.length cb, .slice Ap p.length cp, .slice Al l.length cl] 110)).alloc (.cells #[.int .i64 0, .slice none 0 0] 104) = W from HW.out.symm]
  go_wp2_with fail
  refine EV.out.mono ?_; rintro e w1 ⟨rfl, hw1⟩; subst w1
  subst hw5
  obtain ⟨W6, hW6⟩ : ∃ W6, W6 = w5 := ⟨_, rfl⟩
  have b6 : Blk W6 (w.heap.size + 1) 104 #[.int .i64 0, .slice none ([] : List UInt8).length 0] := by rw [hW6]; exact BA5.out
  have k6 : Chg w5 W6 (fun i => i = w.heap.size + 1) := by rw [hW6]; exact Chg.refl _ _
  have d0 := (b6.cell 0).trans (show _ = some (.int .i64 0) from rfl)
  have d1 := (b6.cell 1).trans (show _ = some (.slice none ([] : List UInt8).length 0) from rfl)
  have e0 := b6.frozen 0
  have e1 := b6.frozen 1
  have FIN := Lib.hid (finish (ev := 1) (s := ([] : List UInt8)) B.out ⟨a, B.out.ka⟩ L5.out k6 b6 (Src.nil _) (fun h => absurd h (by decide)))
  have HW6 := Lib.hid hW6
  clear b6 k6 hW6
  go_upto_region 33 with fail
  obtain rfl : W6 = w5 := HW6.out
  go_wp2
  refine bodyPost_ret (v := .tuple #[.agg #[.int .i64 0, .slice none ([] : List UInt8).length 0], .int .i64 1]) ?_ rfl ?_
  · exact results_cell_tmp Tryz.results38 _ _ (w.heap.size + 1) 104 _ (0, 0) _ rfl FIN.out.2 Tryz.underlying104 rfl ainfo
  · exact FIN.out.1

set_option maxRecDepth 100000 in
set_option maxHeartbeats 2000000 in
theorem call_noenv (h : KAt w lab g K a) (n8 : ∀ k, lab k ≠ 8) (op env : Int) (he : ¬ (env = 1 ∨ env = 2)) (qa qb qc : Int) (s : List UInt8) (p : List Ins) (l : List Pc) (Ab Ap Al : Option Addr) (cb cp cl : Nat) :
    Calls Tryz.prog 38 #[.pointer (some ⟨g, 0, none⟩), .agg #[.int .i64 op, .int .i64 env, .int .i64 qa, .int .i64 qb, .int .i64 qc, .slice Ab s.length cb, .slice Ap p.length cp, .slice Al l.length cl]] w (Called w lab g (K, 0, [], 1)) := by
  have hB := boxed h n8 #[.int .i64 op, .int .i64 env, .int .i64 qa, .int .i64 qb, .int .i64 qc, .slice Ab s.length cb, .slice Ap p.length cp, .slice Al l.length cl]
  obtain ⟨W, hW⟩ : ∃ W, W = (w.alloc (.cells #[.int .i64 op, .int .i64 env, .int .i64 qa, .int .i64 qb, .int .i64 qc, .slice Ab s.length cb, .slice Ap p.length cp, .slice Al l.length cl] 110)).alloc (.cells #[.int .i64 0, .slice none 0 0] 104) := ⟨_, rfl⟩
  rw [← hW] at hB
  generalize mk2 lab w.heap.size = m at hB
  have B := Lib.hid hB
  have b1 := (hB.bc.cell 1).trans (show _ = some (.int .i64 env) from rfl)
  have EV := Lib.hid (kenv_no env he W)
  have HW := Lib.hid hW
  have d0 := (hB.ba.cell 0).trans (show _ = some (.int .i64 0) from rfl)
  have d1 := (hB.ba.cell 1).trans (show _ = some (.slice none 0 0) from rfl)
  have e0 := hB.ba.frozen 0
  have e1 := hB.ba.frozen 1
  have FIN := Lib.hid (finish (ev := 1) (s := ([] : List UInt8)) hB ⟨a, hB.ka⟩ (LStep.news m (Below.refl _ W)) (Chg.refl W _) hB.ba (Src.nil _) (fun h => absurd h (by decide)))
  clear h hB hW n8 he
  go_enter Tryz.func38, Tryz.ntmps38
  go_upto_region 1 with fail
  rw [show (w.alloc (.cells #[.int .i64 op, .int .i64 env, .int .i64 qa, .int .i64 qb, .int .i64 qc, .slice Ab s.length cb, .slice Ap p.length cp, .slice Al l.length cl] 110)).alloc (.cells #[.int .i64 0, .slice none 0 0] 104) = W from HW.out.symm]
  go_wp2_with fail
  refine EV.out.mono ?_; rintro e w1 ⟨rfl, hw1⟩; subst w1
  go_wp2
  refine bodyPost_ret (v := .tuple #[.agg #[.int .i64 0, .slice none 0 0], .int .i64 1]) ?_ rfl ?_
  · exact results_cell_tmp Tryz.results38 _ _ (w.heap.size + 1) 104 _ (0, 0) _ rfl FIN.out.2 Tryz.underlying104 rfl ainfo
  · exact FIN.out.1

/-- Where the parts of a call lie. -/
structure KX where
  Ab : Option Addr
  cb : Nat
  Ap : Option Addr
  cp : Nat
  Al : Option Addr
  cl : Nat
def KQ.cells (q : KQ) (x : KX) : Array Value := #[.int .i64 q.op, .int .i64 q.env, .int .i64 q.a, .int .i64 q.b, .int .i64 q.c, .slice x.Ab q.s.length x.cb, .slice x.Ap q.p.length x.cp, .slice x.Al q.l.length x.cl]
structure KQ.In (w : World) (lab : Nat → Nat) (q : KQ) (x : KX) : Prop where
  wb : -9223372036854775808 ≤ q.b ∧ q.b ≤ 9223372036854775807
  hs : Src w x.Ab q.s.length x.cb q.s
  ab : ∀ b o, x.Ab = some ⟨b, o, none⟩ → b < w.heap.size ∧ lab b = 0
  hp : Prg w x.Ap q.p
  np : x.Ap = none → q.p = [] ∧ x.cp = 0
  mp : q.p.length ≤ 1000000
  pok : ∀ p ∈ q.p, p.Ok
  hl : Pcs w x.Al q.l
  lok : ∀ p ∈ q.l, p.Ok
  al : ∀ b o, x.Al = some ⟨b, o, none⟩ → b < w.heap.size ∧ lab b = 0
  cl : q.l.length ≤ x.cl
  ml : q.l.length ≤ 1000000
theorem call_any (h : KA w lab g K) (n8 : ∀ k, lab k ≠ 8) (ok : K.Ok) (n : Nat) (sm : K.Small n) (hn : n < 1000000) (q : KQ) (x : KX) (hq : q.In w lab x) :
    Calls Tryz.prog 38 #[.pointer (some ⟨g, 0, none⟩), .agg (q.cells x)] w (Called w lab g (callR K q)) := by
  obtain ⟨a, h⟩ := h
  have s1 := sm.next; have s2 := sm.out; have s3 := sm.line
  obtain ⟨op, env, qa, qb, qc, s, p, l⟩ := q
  obtain ⟨Ab, cb, Ap, cp, Al, cl⟩ := x
  obtain ⟨wb, hs, ab, hp, np, mp, pok, hl, lok, al, hcl, ml⟩ := hq
  unfold callR
  by_cases he : env = 1 ∨ env = 2
  · rw [if_neg (fun hne => hne he)]
    dsimp only
    by_cases c1 : op = 1
    · subst c1; rw [if_pos rfl]; exact call_1 h n8 ok env he qa qb qc s p l Ab Ap Al cb cp cl
    rw [if_neg c1]
    by_cases c2 : op = 2
    · subst c2; rw [if_pos rfl]; exact call_2 h n8 ok env he qa qb qc s p l Ab Ap Al cb cp cl
    rw [if_neg c2]
    by_cases c3 : op = 3
    · subst c3; rw [if_pos rfl]; exact call_3 h n8 ok env he qa qb qc s p l Ab Ap Al cb cp cl
    rw [if_neg c3]
    by_cases c4 : op = 4
    · subst c4; rw [if_pos rfl]; exact call_4 h n8 ok env he qa qb qc s p l Ab Ap Al cb cp cl wb
    rw [if_neg c4]
    by_cases c5 : op = 5
    · subst c5; rw [if_pos rfl]; exact call_5 h n8 ok env he qa qb qc s p l Ab Ap Al cb cp cl wb hs
    rw [if_neg c5]
    by_cases c6 : op = 6
    · subst c6; rw [if_pos rfl]; exact call_6 h n8 ok env he qa qb qc s p l Ab Ap Al cb cp cl
    rw [if_neg c6]
    by_cases c7 : op = 7
    · subst c7; rw [if_pos rfl]; exact call_7 h n8 ok env he qa qb qc s p l Ab Ap Al cb cp cl hs ab (by omega)
    rw [if_neg c7]
    by_cases c8 : op = 8
    · subst c8; rw [if_pos rfl]; exact call_8 h n8 ok env he qa qb qc s p l Ab Ap Al cb cp cl
    rw [if_neg c8]
    by_cases c9 : op = 9
    · subst c9; rw [if_pos rfl]; exact call_9 h n8 ok env he qa qb qc s p l Ab Ap Al cb cp cl hp np mp (by omega)
    rw [if_neg c9]
    by_cases c10 : op = 10
    · subst c10; rw [if_pos rfl]; exact call_10 h n8 ok env he qa qb qc s p l Ab Ap Al cb cp cl
    rw [if_neg c10]
    by_cases c11 : op = 11
    · subst c11; rw [if_pos rfl]; exact call_11 h n8 ok env he qa qb qc s p l Ab Ap Al cb cp cl hl lok al hcl ml (by omega)
    rw [if_neg c11]
    by_cases c12 : op = 12
    · subst c12
      rw [if_pos rfl]
      rcases he with rfl | rfl
      · cases hi : K.i1 with
        | nil =>
          have er : takeR K 1 = (K, [], 11) := by unfold takeR; rw [if_pos rfl, hi]
          rw [er]
          exact take_1e h n8 ok qa qb qc s p l Ab Ap Al cb cp cl hi
        | cons pk r =>
          have er : takeR K 1 = ({ K with i1 := r, f1 := K.f1 + 1 }, pk, 0) := by unfold takeR; rw [if_pos rfl, hi]
          rw [er]
          exact take_1 h n8 ok qa qb qc s p l Ab Ap Al cb cp cl pk r hi
      · cases hi : K.i2 with
        | nil =>
          have er : takeR K 2 = (K, [], 11) := by unfold takeR; rw [if_neg (by decide), hi]
          rw [er]
          exact take_2e h n8 ok qa qb qc s p l Ab Ap Al cb cp cl hi
        | cons pk r =>
          have er : takeR K 2 = ({ K with i2 := r, f2 := K.f2 + 1 }, pk, 0) := by unfold takeR; rw [if_neg (by decide), hi]
          rw [er]
          exact take_2 h n8 ok qa qb qc s p l Ab Ap Al cb cp cl pk r hi
    rw [if_neg c12]
    by_cases c13 : op = 13
    · subst c13; rw [if_pos rfl]; exact call_13 h n8 ok env he qa qb qc s p l Ab Ap Al cb cp cl
    rw [if_neg c13]
    exact call_other h n8 ok env he qa qb qc s p l Ab Ap Al cb cp cl op (by omega)
  · rw [if_pos he]
    exact call_noenv h n8 op env he qa qb qc s p l Ab Ap Al cb cp cl
end
end Go.Proofs.YtefnkednnnlhoaaGreatDoor.Ke

/- Package kern: Arrive. Conditions: those that each states. -/
namespace Go.Proofs.YtefnkednnnlhoaaGreatDoor.Ke
open Go.ChangeShapes Go.WideShapes Go.ChangeAt Go.RowKit Go.Deep Fr Di
set_option linter.unusedVariables false
section
variable {w : World} {lab : Nat → Nat} {g : Nat} {K : Kn} {a : Ad}
end
end Go.Proofs.YtefnkednnnlhoaaGreatDoor.Ke

/- gather's Fetch: its bytes lie in a block that was not there. Conditions: those that each states. -/
namespace Go.Proofs.YtefnkednnnlhoaaGreatDoor.Ke.Rg
open Go.ChangeShapes Go.WideShapes Go.ChangeAt Go.RowKit Go.Deep Fr
set_option linter.unusedVariables false
section
variable {gs g : Nat} {ps : List Pg} {w : World}
end
end Go.Proofs.YtefnkednnnlhoaaGreatDoor.Ke.Rg

/- Package kern: Depart, Table, Disk, Owned. Conditions: those that each states. -/
namespace Go.Proofs.YtefnkednnnlhoaaGreatDoor.Ke
open Go.ChangeShapes Go.WideShapes Go.ChangeAt Go.RowKit Go.Deep Fr Di
set_option linter.unusedVariables false
/-- What of a list that waits is asked by Fetch and Drop. -/
theorem cnt_pos {l : List Pc} {p : Pc} (h : p ∈ l) : 0 < cnt l p.frame := List.countP_pos_iff.2 ⟨p, h, by simp⟩
theorem heldN_cons (t : Tr) (o : List Tr) (f : Int) : heldN (t :: o) f = cnt t.l f + heldN o f := by unfold heldN; rw [List.map_cons, List.sum_cons]
theorem heldN_mem {o : List Tr} {t : Tr} (h : t ∈ o) (f : Int) : cnt t.l f ≤ heldN o f := by
  induction o with
  | nil => cases h
  | cons u o ih =>
    rw [heldN_cons]
    rcases List.mem_cons.1 h with rfl | h1
    · omega
    · have := ih h1; omega
theorem Kn.Ok.held {K : Kn} (ok : K.Ok) {t : Tr} (ht : t ∈ K.out) {p : Pc} (hp : p ∈ t.l) : ∃ k, ∃ hk : k < K.ps.length, p.frame = (k : Int) ∧ cnt t.l p.frame ≤ K.ps[k].holds ∧ 0 < cnt t.l p.frame := by
  have hf := (ok.out t ht).fits p hp
  have h1 := hf.2.2.1
  have h2 := hf.2.2.2
  refine ⟨p.frame.toNat, by omega, by omega, ?_, cnt_pos hp⟩
  rw [ok.holds _ (by omega), show ((p.frame.toNat : Nat) : Int) = p.frame by omega]
  exact heldN_mem ht _
section
variable {w : World} {lab : Nat → Nat} {g : Nat} {K : Kn} {a : Ad}
end
end Go.Proofs.YtefnkednnnlhoaaGreatDoor.Ke

/- A call to a kernel, and a slice of steps of one, that came in. Conditions: those that each states. -/
namespace Go.Proofs.YtefnkednnnlhoaaGreatDoor
open Go.ChangeShapes Go.WideShapes Go.ChangeAt Go.RowKit Go.Deep
set_option linter.unusedVariables false

end Go.Proofs.YtefnkednnnlhoaaGreatDoor

/- The law's call as the program's. Conditions: those that each states. -/
namespace Go.Proofs.YtefnkednnnlhoaaGreatDoor.Ke
open Go.ChangeShapes Go.WideShapes Go.ChangeAt Go.RowKit Go.Deep Fr Di
set_option linter.unusedVariables false
section
variable {P : Program} {ops : Array Oper} {Q : Exit → Act → World → Prop} {md : Region.Mode} {S : World → Prop}
end
end Go.Proofs.YtefnkednnnlhoaaGreatDoor.Ke

/- The law's Far and far; the chapter's example. Conditions: those that each states. -/
namespace Go.Proofs.YtefnkednnnlhoaaGreatDoor.Ke
open Go.ChangeShapes Go.WideShapes Go.ChangeAt Go.RowKit Go.Deep Fr Di
set_option linter.unusedVariables false
/-- A call without bytes, program or list. -/
def bare (op env a b c : Int) : KQ := ⟨op, env, a, b, c, [], [], []⟩
def noX : KX := ⟨none, 0, none, 0, none, 0⟩
theorem bare_in (w : World) (lab : Nat → Nat) (op env a b c : Int) (hb : -9223372036854775808 ≤ b ∧ b ≤ 9223372036854775807) : (bare op env a b c).In w lab noX :=
  ⟨hb, Src.nil w, fun b o e => (by cases e), fun i hi => absurd hi (by simp [bare]), fun _ => ⟨rfl, rfl⟩, by simp [bare], fun p hp => (by cases hp), fun i hi => absurd hi (by simp [bare]), fun p hp => (by cases hp), fun b o e => (by cases e), Nat.le_refl _, by simp [bare]⟩
theorem newK_small (n b : Nat) : (newK n b).Small 0 := ⟨Nat.le_refl _, Nat.le_refl _, Nat.le_refl _, Nat.le_refl _, Nat.le_refl _, Nat.le_refl _⟩
end Go.Proofs.YtefnkednnnlhoaaGreatDoor.Ke
