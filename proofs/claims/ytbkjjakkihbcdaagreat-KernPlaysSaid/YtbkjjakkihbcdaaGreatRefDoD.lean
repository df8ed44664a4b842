/- The document's Do: some of its ways. Conditions: those that each states. -/
import Derived.Test.YtbkjjakkihbcdaaGreatMAP
import Derived.StillTailTactics
import Derived.Deep.QuietTactic
import Derived.BigQuiet
namespace Go.Proofs.YtbkjjakkihbcdaaGreat.RD
open Go.ChangeShapes Go.WideShapes Go.ChangeAt Go.RowKit Go.Deep Fr
set_option linter.unusedVariables false
section
variable {gm bo bh bb co ch cb : Nat} {ps : List Pg} {w : World}
set_option maxRecDepth 100000 in
set_option maxHeartbeats 2000000 in
theorem read_out (h : RefT w gm bo bh bb co ch cb ps) (env f off n : Int) (l : List UInt8) (k : Nat) (hk : k < ps.length) (hf : f = (k : Int)) (hE : isE env) (ho : (ps[k].owner : Int) = env) (hin : ¬ isIn off n) :
  Calls Tryz.prog 41 #[.pointer (some ⟨gm, 0, none⟩), .agg #[.int .i64 3, .int .i64 env, .int .i64 f, .int .i64 off, .int .i64 n, .string ⟨l.toArray⟩]] w fun e w' => e = .returned (.tuple #[.int .i64 0, .string ⟨#[]⟩, .int .i64 1]) ∧ RefT w' gm bo bh bb co ch cb ps ∧ Chg w w' (Three bo bh bb) := by
 have hT := h.alloc (.cells #[.int .i64 3, .int .i64 env, .int .i64 f, .int .i64 off, .int .i64 n, .string ⟨l.toArray⟩] 111)
 have hK := (Chg.refl w (Three bo bh bb)).alloc (.cells #[.int .i64 3, .int .i64 env, .int .i64 f, .int .i64 off, .int .i64 n, .string ⟨l.toArray⟩] 111)
 have hA := Blk.new w 111 #[.int .i64 3, .int .i64 env, .int .i64 f, .int .i64 off, .int .i64 n, .string ⟨l.toArray⟩]
 have hga : gm < w.heap.size := h.head.lt
 have hz1 : (w.alloc (.cells #[.int .i64 3, .int .i64 env, .int .i64 f, .int .i64 off, .int .i64 n, .string ⟨l.toArray⟩] 111)).heap.size = w.heap.size + 1 := by simp
 generalize hw1 : w.alloc (.cells #[.int .i64 3, .int .i64 env, .int .i64 f, .int .i64 off, .int .i64 n, .string ⟨l.toArray⟩] 111) = w1 at *
 have HW1 := Lib.hid hw1
 have T := Lib.hid hT
 have K := Lib.hid hK
 have a0 := hA.cell 0
 have a1 := hA.cell 1
 have a2 := hA.cell 2
 have a3 := hA.cell 3
 have a4 := hA.cell 4
 have a5 := hA.cell 5
 simp only [List.getElem?_toArray, List.getElem?_cons_zero, List.getElem?_cons_succ] at a0 a1 a2 a3 a4 a5
 have hga' : w.heap.size < w1.heap.size := hA.lt
 obtain ⟨c0, c1, c2⟩ := hT.heads
 have hlen := h.len
 subst hf
 have oko := hT.at_ hk
 have o1 := hT.ownC hk
 have h1 := hT.holdC hk
 rw [ho] at o1
 have g1 : decide ((k : Int) < 0) = false := by simp
 have g2 : decide ((ps.length : Int) ≤ (k : Int)) = false := by simp; omega
 have g3 : (0 : Int) ≤ (k : Int) := by omega
 have g4 : (k : Int) < (ps.length : Int) := by omega
 have WI := Lib.hid (fun (W : World) => rwithin_no off n hin W)
 clear hin
 generalize (ps[k].holds : Int) = hv at *
 clear ho oko
 clear h hT hK hA hw1
 go_enter Tryz.func41, Tryz.ntmps41
 go_upto_region 1 with fail
 rw [HW1.out]
 go_cut [7] (fun s7 wx => s7 = .bool true ∧ wx = w1)
 case first =>
  have HE := Lib.hid hE
  by_cases q1 : env = 1
  ·subst q1
   go_wp2_with fail
   go_meet
   exact ⟨rfl, rfl⟩
  ·have q2 : env = 2 := by rcases HE.out with e | e; exact absurd e q1; exact e
   subst q2
   clear q1
   go_wp2_with fail
   go_meet
   exact ⟨rfl, rfl⟩
 case rest =>
  obtain ⟨rfl, rfl⟩ := hcut
  clear hE
  go_wp2_with fail
  go_quiet (fail)
  generalize nq = nq1 at *
  go_wp2_with fail
  go_quiet (fail)
  generalize nq = nq2 at *
  go_wp2_with fail
  go_quiet (fail)
  generalize nq = nq3 at *
  go_wp2_with fail
  refine (WI.out _).mono ?_; rintro e w9 ⟨rfl, rfl⟩
  go_wp2
  go_ret3
  refine ⟨rfl, ?_, ?_⟩
  ·repeat (first | exact T.out | refine RefT.drewN ?_ _)
  ·repeat (first | exact K.out | refine Chg.drewN ?_ _)

set_option maxRecDepth 100000 in
set_option maxHeartbeats 2000000 in
theorem read_ok (h : RefT w gm bo bh bb co ch cb ps) (env f off n : Int) (l : List UInt8) (k : Nat) (hk : k < ps.length) (hf : f = (k : Int)) (hE : isE env) (ho : (ps[k].owner : Int) = env) (o m : Nat) (eo : off = (o : Int)) (en : n = (m : Int)) (hfit : o + m ≤ 256) :
  Calls Tryz.prog 41 #[.pointer (some ⟨gm, 0, none⟩), .agg #[.int .i64 3, .int .i64 env, .int .i64 f, .int .i64 off, .int .i64 n, .string ⟨l.toArray⟩]] w fun e w' => e = .returned (.tuple #[.int .i64 0, .string ⟨((ps[k].text.drop o).take m).toArray⟩, .int .i64 0]) ∧ RefT w' gm bo bh bb co ch cb ps ∧ Chg w w' (Three bo bh bb) := by
 have hT := h.alloc (.cells #[.int .i64 3, .int .i64 env, .int .i64 f, .int .i64 off, .int .i64 n, .string ⟨l.toArray⟩] 111)
 have hK := (Chg.refl w (Three bo bh bb)).alloc (.cells #[.int .i64 3, .int .i64 env, .int .i64 f, .int .i64 off, .int .i64 n, .string ⟨l.toArray⟩] 111)
 have hA := Blk.new w 111 #[.int .i64 3, .int .i64 env, .int .i64 f, .int .i64 off, .int .i64 n, .string ⟨l.toArray⟩]
 have hga : gm < w.heap.size := h.head.lt
 have hz1 : (w.alloc (.cells #[.int .i64 3, .int .i64 env, .int .i64 f, .int .i64 off, .int .i64 n, .string ⟨l.toArray⟩] 111)).heap.size = w.heap.size + 1 := by simp
 generalize hw1 : w.alloc (.cells #[.int .i64 3, .int .i64 env, .int .i64 f, .int .i64 off, .int .i64 n, .string ⟨l.toArray⟩] 111) = w1 at *
 have HW1 := Lib.hid hw1
 have T := Lib.hid hT
 have K := Lib.hid hK
 have a0 := hA.cell 0
 have a1 := hA.cell 1
 have a2 := hA.cell 2
 have a3 := hA.cell 3
 have a4 := hA.cell 4
 have a5 := hA.cell 5
 simp only [List.getElem?_toArray, List.getElem?_cons_zero, List.getElem?_cons_succ] at a0 a1 a2 a3 a4 a5
 have hga' : w.heap.size < w1.heap.size := hA.lt
 obtain ⟨c0, c1, c2⟩ := hT.heads
 have hlen := h.len
 subst hf
 have oko := hT.at_ hk
 have o1 := hT.ownC hk
 have h1 := hT.holdC hk
 rw [ho] at o1
 have g1 : decide ((k : Int) < 0) = false := by simp
 have g2 : decide ((ps.length : Int) ≤ (k : Int)) = false := by simp; omega
 have g3 : (0 : Int) ≤ (k : Int) := by omega
 have g4 : (k : Int) < (ps.length : Int) := by omega
 subst eo en
 have WI := Lib.hid (fun (W : World) => rwithin_yes (o : Int) (m : Int) ⟨by omega, by omega, by omega⟩ W)
 have sl := fun W => cut_text ps[k].text o m (by rw [oko.t]; exact hfit) W
 have xa := IntWalk.i64_in ((o : Int) + (m : Int)) (by omega)
 have tx := hT.textC hk
 generalize ((ps[k].text.drop o).take m) = tt at *
 generalize ps[k].text = pt at *
 generalize (ps[k].holds : Int) = hv at *
 clear ho oko hfit
 clear h hT hK hA hw1
 go_enter Tryz.func41, Tryz.ntmps41
 go_upto_region 1 with fail
 rw [HW1.out]
 go_cut [7] (fun s7 wx => s7 = .bool true ∧ wx = w1)
 case first =>
  have HE := Lib.hid hE
  by_cases q1 : env = 1
  ·subst q1
   go_wp2_with fail
   go_meet
   exact ⟨rfl, rfl⟩
  ·have q2 : env = 2 := by rcases HE.out with e | e; exact absurd e q1; exact e
   subst q2
   clear q1
   go_wp2_with fail
   go_meet
   exact ⟨rfl, rfl⟩
 case rest =>
  obtain ⟨rfl, rfl⟩ := hcut
  clear hE
  go_wp2_with fail
  go_quiet (fail)
  generalize nq = nq1 at *
  go_wp2_with fail
  go_quiet (fail)
  generalize nq = nq2 at *
  go_wp2_with fail
  go_quiet (fail)
  generalize nq = nq3 at *
  go_wp2_with fail
  refine (WI.out _).mono ?_; rintro e w9 ⟨rfl, rfl⟩
  go_wp2_with fail
  go_quiet (fail)
  generalize nq = nq4 at *
  go_wp2_with fail
  go_quiet (fail)
  generalize nq = nq5 at *
  go_wp2
  go_ret3
  refine ⟨rfl, ?_, ?_⟩
  ·repeat (first | exact T.out | refine RefT.drewN ?_ _)
  ·repeat (first | exact K.out | refine Chg.drewN ?_ _)
end
end Go.Proofs.YtbkjjakkihbcdaaGreat.RD
