/- The document's Do: some of its ways. Conditions: those that each states. -/
import Derived.Test.YtbkjjakkihbcdaaGreatMAP
import Derived.StillTailTactics
import Derived.Deep.QuietTactic
import Derived.BigQuiet
namespace Go.Proofs.YtbkjjakkihbcdaaGreat.RD
open Go.ChangeShapes Go.WideShapes Go.ChangeAt Go.RowKit Go.Deep Fr
set_option linter.unusedVariables false
section
variable {gm bo bh bb co ch cb : Nat} {ps : List Pg} {w : World}
set_option maxRecDepth 100000 in
set_option maxHeartbeats 2000000 in
theorem give_bad (h : RefT w gm bo bh bb co ch cb ps) (env f off n : Int) (l : List UInt8) (k : Nat) (hk : k < ps.length) (hf : f = (k : Int)) (hE : isE env) (ho : (ps[k].owner : Int) = env) (hto : ¬ isE n) :
  Calls Tryz.prog 41 #[.pointer (some ⟨gm, 0, none⟩), .agg #[.int .i64 2, .int .i64 env, .int .i64 f, .int .i64 off, .int .i64 n, .string ⟨l.toArray⟩]] w fun e w' => e = .returned (.tuple #[.int .i64 0, .string ⟨#[]⟩, .int .i64 1]) ∧ RefT w' gm bo bh bb co ch cb ps ∧ Chg w w' (Three bo bh bb) := by
 have hT := h.alloc (.cells #[.int .i64 2, .int .i64 env, .int .i64 f, .int .i64 off, .int .i64 n, .string ⟨l.toArray⟩] 111)
 have hK := (Chg.refl w (Three bo bh bb)).alloc (.cells #[.int .i64 2, .int .i64 env, .int .i64 f, .int .i64 off, .int .i64 n, .string ⟨l.toArray⟩] 111)
 have hA := Blk.new w 111 #[.int .i64 2, .int .i64 env, .int .i64 f, .int .i64 off, .int .i64 n, .string ⟨l.toArray⟩]
 have hga : gm < w.heap.size := h.head.lt
 have hz1 : (w.alloc (.cells #[.int .i64 2, .int .i64 env, .int .i64 f, .int .i64 off, .int .i64 n, .string ⟨l.toArray⟩] 111)).heap.size = w.heap.size + 1 := by simp
 generalize hw1 : w.alloc (.cells #[.int .i64 2, .int .i64 env, .int .i64 f, .int .i64 off, .int .i64 n, .string ⟨l.toArray⟩] 111) = w1 at *
 have HW1 := Lib.hid hw1
 have T := Lib.hid hT
 have K := Lib.hid hK
 have a0 := hA.cell 0
 have a1 := hA.cell 1
 have a2 := hA.cell 2
 have a3 := hA.cell 3
 have a4 := hA.cell 4
 have a5 := hA.cell 5
 simp only [List.getElem?_toArray, List.getElem?_cons_zero, List.getElem?_cons_succ] at a0 a1 a2 a3 a4 a5
 have hga' : w.heap.size < w1.heap.size := hA.lt
 obtain ⟨c0, c1, c2⟩ := hT.heads
 have hlen := h.len
 subst hf
 have oko := hT.at_ hk
 have o1 := hT.ownC hk
 have h1 := hT.holdC hk
 rw [ho] at o1
 have g1 : decide ((k : Int) < 0) = false := by simp
 have g2 : decide ((ps.length : Int) ≤ (k : Int)) = false := by simp; omega
 have g3 : (0 : Int) ≤ (k : Int) := by omega
 have g4 : (k : Int) < (ps.length : Int) := by omega
 have t1 : ¬ n = 1 := fun e => hto (.inl e)
 have t2 : ¬ n = 2 := fun e => hto (.inr e)
 clear hto
 generalize (ps[k].holds : Int) = hv at *
 clear ho oko
 clear h hT hK hA hw1
 go_enter Tryz.func41, Tryz.ntmps41
 go_upto_region 1 with fail
 rw [HW1.out]
 go_cut [7] (fun s7 wx => s7 = .bool true ∧ wx = w1)
 case first =>
  have HE := Lib.hid hE
  by_cases q1 : env = 1
  ·subst q1
   go_wp2_with fail
   go_meet
   exact ⟨rfl, rfl⟩
  ·have q2 : env = 2 := by rcases HE.out with e | e; exact absurd e q1; exact e
   subst q2
   clear q1
   go_wp2_with fail
   go_meet
   exact ⟨rfl, rfl⟩
 case rest =>
  obtain ⟨rfl, rfl⟩ := hcut
  clear hE
  go_wp2_with fail
  go_quiet (fail)
  generalize nq = nq1 at *
  go_wp2_with fail
  go_quiet (fail)
  generalize nq = nq2 at *
  go_wp2_with fail
  go_quiet (fail)
  generalize nq = nq3 at *
  go_wp2
  go_ret3
  refine ⟨rfl, ?_, ?_⟩
  ·repeat (first | exact T.out | refine RefT.drewN ?_ _)
  ·repeat (first | exact K.out | refine Chg.drewN ?_ _)

set_option maxRecDepth 100000 in
set_option maxHeartbeats 2000000 in
theorem give_busy (h : RefT w gm bo bh bb co ch cb ps) (env f off n : Int) (l : List UInt8) (k : Nat) (hk : k < ps.length) (hf : f = (k : Int)) (hE : isE env) (ho : (ps[k].owner : Int) = env) (hto : isE n) (hh : ps[k].holds ≠ 0) :
  Calls Tryz.prog 41 #[.pointer (some ⟨gm, 0, none⟩), .agg #[.int .i64 2, .int .i64 env, .int .i64 f, .int .i64 off, .int .i64 n, .string ⟨l.toArray⟩]] w fun e w' => e = .returned (.tuple #[.int .i64 0, .string ⟨#[]⟩, .int .i64 21]) ∧ RefT w' gm bo bh bb co ch cb ps ∧ Chg w w' (Three bo bh bb) := by
 have hT := h.alloc (.cells #[.int .i64 2, .int .i64 env, .int .i64 f, .int .i64 off, .int .i64 n, .string ⟨l.toArray⟩] 111)
 have hK := (Chg.refl w (Three bo bh bb)).alloc (.cells #[.int .i64 2, .int .i64 env, .int .i64 f, .int .i64 off, .int .i64 n, .string ⟨l.toArray⟩] 111)
 have hA := Blk.new w 111 #[.int .i64 2, .int .i64 env, .int .i64 f, .int .i64 off, .int .i64 n, .string ⟨l.toArray⟩]
 have hga : gm < w.heap.size := h.head.lt
 have hz1 : (w.alloc (.cells #[.int .i64 2, .int .i64 env, .int .i64 f, .int .i64 off, .int .i64 n, .string ⟨l.toArray⟩] 111)).heap.size = w.heap.size + 1 := by simp
 generalize hw1 : w.alloc (.cells #[.int .i64 2, .int .i64 env, .int .i64 f, .int .i64 off, .int .i64 n, .string ⟨l.toArray⟩] 111) = w1 at *
 have HW1 := Lib.hid hw1
 have T := Lib.hid hT
 have K := Lib.hid hK
 have a0 := hA.cell 0
 have a1 := hA.cell 1
 have a2 := hA.cell 2
 have a3 := hA.cell 3
 have a4 := hA.cell 4
 have a5 := hA.cell 5
 simp only [List.getElem?_toArray, List.getElem?_cons_zero, List.getElem?_cons_succ] at a0 a1 a2 a3 a4 a5
 have hga' : w.heap.size < w1.heap.size := hA.lt
 obtain ⟨c0, c1, c2⟩ := hT.heads
 have hlen := h.len
 subst hf
 have oko := hT.at_ hk
 have o1 := hT.ownC hk
 have h1 := hT.holdC hk
 rw [ho] at o1
 have g1 : decide ((k : Int) < 0) = false := by simp
 have g2 : decide ((ps.length : Int) ≤ (k : Int)) = false := by simp; omega
 have g3 : (0 : Int) ≤ (k : Int) := by omega
 have g4 : (k : Int) < (ps.length : Int) := by omega
 have g5 : (0 : Int) < (ps[k].holds : Int) := by omega
 clear hh
 generalize (ps[k].holds : Int) = hv at *
 clear ho oko
 clear h hT hK hA hw1
 go_enter Tryz.func41, Tryz.ntmps41
 go_upto_region 1 with fail
 rw [HW1.out]
 go_cut [7] (fun s7 wx => s7 = .bool true ∧ wx = w1)
 case first =>
  have HE := Lib.hid hE
  by_cases q1 : env = 1
  ·subst q1
   go_wp2_with fail
   go_meet
   exact ⟨rfl, rfl⟩
  ·have q2 : env = 2 := by rcases HE.out with e | e; exact absurd e q1; exact e
   subst q2
   clear q1
   go_wp2_with fail
   go_meet
   exact ⟨rfl, rfl⟩
 case rest =>
  obtain ⟨rfl, rfl⟩ := hcut
  clear hE
  go_wp2_with fail
  go_quiet (fail)
  generalize nq = nq1 at *
  go_wp2_with fail
  go_quiet (fail)
  generalize nq = nq2 at *
  go_wp2_with fail
  go_quiet (fail)
  generalize nq = nq3 at *
  go_upto_region 18 with fail
  go_cut [141] (fun s wx => s = .bool false ∧ wx = wc.drewN (nq1 + nq2 + nq3))
  case first =>
   have TO := Lib.hid hto
   by_cases t1 : n = 1
   ·subst t1
    clear hto
    go_wp2_with fail
    go_meet
    exact ⟨rfl, rfl⟩
   ·have t2 : n = 2 := by rcases TO.out with e | e; exact absurd e t1; exact e
    subst t2
    clear hto t1
    go_wp2_with fail
    go_meet
    exact ⟨rfl, rfl⟩
  case rest =>
   obtain ⟨rfl, rfl⟩ := hcut
   generalize nq1 + nq2 + nq3 = nqa at *
   clear hto
   go_wp2_with fail
   go_quiet (fail)
   generalize nq = nq4 at *
   go_wp2
   go_ret3
   refine ⟨rfl, ?_, ?_⟩
   ·repeat (first | exact T.out | refine RefT.drewN ?_ _)
   ·repeat (first | exact K.out | refine Chg.drewN ?_ _)

set_option maxRecDepth 100000 in
set_option maxHeartbeats 2000000 in
theorem give_ok (h : RefT w gm bo bh bb co ch cb ps) (env f off n : Int) (l : List UInt8) (k : Nat) (hk : k < ps.length) (hf : f = (k : Int)) (hE : isE env) (ho : (ps[k].owner : Int) = env) (hto : isE n) (hh : ps[k].holds = 0) :
  Calls Tryz.prog 41 #[.pointer (some ⟨gm, 0, none⟩), .agg #[.int .i64 2, .int .i64 env, .int .i64 f, .int .i64 off, .int .i64 n, .string ⟨l.toArray⟩]] w fun e w' => e = .returned (.tuple #[.int .i64 0, .string ⟨#[]⟩, .int .i64 0]) ∧ RefT w' gm bo bh bb co ch cb (ps.set k { ps[k] with owner := n.toNat }) ∧ Chg w w' (Three bo bh bb) := by
 have hT := h.alloc (.cells #[.int .i64 2, .int .i64 env, .int .i64 f, .int .i64 off, .int .i64 n, .string ⟨l.toArray⟩] 111)
 have hK := (Chg.refl w (Three bo bh bb)).alloc (.cells #[.int .i64 2, .int .i64 env, .int .i64 f, .int .i64 off, .int .i64 n, .string ⟨l.toArray⟩] 111)
 have hA := Blk.new w 111 #[.int .i64 2, .int .i64 env, .int .i64 f, .int .i64 off, .int .i64 n, .string ⟨l.toArray⟩]
 have hga : gm < w.heap.size := h.head.lt
 have hz1 : (w.alloc (.cells #[.int .i64 2, .int .i64 env, .int .i64 f, .int .i64 off, .int .i64 n, .string ⟨l.toArray⟩] 111)).heap.size = w.heap.size + 1 := by simp
 generalize hw1 : w.alloc (.cells #[.int .i64 2, .int .i64 env, .int .i64 f, .int .i64 off, .int .i64 n, .string ⟨l.toArray⟩] 111) = w1 at *
 have HW1 := Lib.hid hw1
 have T := Lib.hid hT
 have K := Lib.hid hK
 have a0 := hA.cell 0
 have a1 := hA.cell 1
 have a2 := hA.cell 2
 have a3 := hA.cell 3
 have a4 := hA.cell 4
 have a5 := hA.cell 5
 simp only [List.getElem?_toArray, List.getElem?_cons_zero, List.getElem?_cons_succ] at a0 a1 a2 a3 a4 a5
 have hga' : w.heap.size < w1.heap.size := hA.lt
 obtain ⟨c0, c1, c2⟩ := hT.heads
 have hlen := h.len
 subst hf
 have oko := hT.at_ hk
 have o1 := hT.ownC hk
 have h1 := hT.holdC hk
 rw [ho] at o1
 have g1 : decide ((k : Int) < 0) = false := by simp
 have g2 : decide ((ps.length : Int) ≤ (k : Int)) = false := by simp; omega
 have g3 : (0 : Int) ≤ (k : Int) := by omega
 have g4 : (k : Int) < (ps.length : Int) := by omega
 rw [hh] at h1
 have f1 := hT.own.frozen k
 have oto : n.toNat ≤ 2 := by rcases hto with e | e <;> omega
 have eto : ((n.toNat : Nat) : Int) = n := by rcases hto with e | e <;> rw [e] <;> rfl
 have fin := fin_own hT hK hk n.toNat oto
 rw [eto] at fin
 have FIN := Lib.hid fin
 clear ho oko hh fin oto eto
 clear h hT hK hA hw1
 go_enter Tryz.func41, Tryz.ntmps41
 go_upto_region 1 with fail
 rw [HW1.out]
 go_cut [7] (fun s7 wx => s7 = .bool true ∧ wx = w1)
 case first =>
  have HE := Lib.hid hE
  by_cases q1 : env = 1
  ·subst q1
   go_wp2_with fail
   go_meet
   exact ⟨rfl, rfl⟩
  ·have q2 : env = 2 := by rcases HE.out with e | e; exact absurd e q1; exact e
   subst q2
   clear q1
   go_wp2_with fail
   go_meet
   exact ⟨rfl, rfl⟩
 case rest =>
  obtain ⟨rfl, rfl⟩ := hcut
  clear hE
  go_wp2_with fail
  go_quiet (fail)
  generalize nq = nq1 at *
  go_wp2_with fail
  go_quiet (fail)
  generalize nq = nq2 at *
  go_wp2_with fail
  go_quiet (fail)
  generalize nq = nq3 at *
  go_upto_region 18 with fail
  go_cut [141] (fun s wx => s = .bool false ∧ wx = wc.drewN (nq1 + nq2 + nq3))
  case first =>
   have TO := Lib.hid hto
   by_cases t1 : n = 1
   ·subst t1
    clear hto
    go_wp2_with fail
    go_meet
    exact ⟨rfl, rfl⟩
   ·have t2 : n = 2 := by rcases TO.out with e | e; exact absurd e t1; exact e
    subst t2
    clear hto t1
    go_wp2_with fail
    go_meet
    exact ⟨rfl, rfl⟩
  case rest =>
   obtain ⟨rfl, rfl⟩ := hcut
   generalize nq1 + nq2 + nq3 = nqa at *
   clear hto
   go_wp2_with fail
   go_quiet (fail)
   generalize nq = nq4 at *
   go_wp2_with fail
   generalize nqa + nq4 = dm at *
   refine wp_region_still_tail 9 (by kernel_rfl) (by kernel_rfl) ?_
   change wpStill _ _ (wc.drewN dm).drew (fun a' => wpList _ _ _ _ a' (wc.drewN dm).drew) _ _
   simp only [List.take_succ_cons, List.take_zero, List.drop_succ_cons, List.drop_zero]
   repeat still_step
   refine wpStill_nil ?_
   go_wp2
   go_ret3
   obtain ⟨W, rfl, r1, r2⟩ := FIN.out dm 1
   exact ⟨rfl, r1, r2⟩
end
end Go.Proofs.YtbkjjakkihbcdaaGreat.RD
