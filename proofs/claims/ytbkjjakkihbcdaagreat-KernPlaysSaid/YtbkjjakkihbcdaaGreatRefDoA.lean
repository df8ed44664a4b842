/- The document's Do: some of its ways. Conditions: those that each states. -/
import Derived.Test.YtbkjjakkihbcdaaGreatMAP
import Derived.StillTailTactics
import Derived.Deep.QuietTactic
import Derived.BigQuiet
namespace Go.Proofs.YtbkjjakkihbcdaaGreat.RD
open Go.ChangeShapes Go.WideShapes Go.ChangeAt Go.RowKit Go.Deep Fr
set_option linter.unusedVariables false
section
variable {gm bo bh bb co ch cb : Nat} {ps : List Pg} {w : World}
set_option maxRecDepth 100000 in
set_option maxHeartbeats 2000000 in
theorem env_no (h : RefT w gm bo bh bb co ch cb ps) (kind : Int) (env f off n : Int) (l : List UInt8) (k6 : kind < 6) (hE : ¬ isE env) :
  Calls Tryz.prog 41 #[.pointer (some ⟨gm, 0, none⟩), .agg #[.int .i64 kind, .int .i64 env, .int .i64 f, .int .i64 off, .int .i64 n, .string ⟨l.toArray⟩]] w fun e w' => e = .returned (.tuple #[.int .i64 0, .string ⟨#[]⟩, .int .i64 1]) ∧ RefT w' gm bo bh bb co ch cb ps ∧ Chg w w' (Three bo bh bb) := by
 have hT := h.alloc (.cells #[.int .i64 kind, .int .i64 env, .int .i64 f, .int .i64 off, .int .i64 n, .string ⟨l.toArray⟩] 111)
 have hK := (Chg.refl w (Three bo bh bb)).alloc (.cells #[.int .i64 kind, .int .i64 env, .int .i64 f, .int .i64 off, .int .i64 n, .string ⟨l.toArray⟩] 111)
 have hA := Blk.new w 111 #[.int .i64 kind, .int .i64 env, .int .i64 f, .int .i64 off, .int .i64 n, .string ⟨l.toArray⟩]
 have hga : gm < w.heap.size := h.head.lt
 have hz1 : (w.alloc (.cells #[.int .i64 kind, .int .i64 env, .int .i64 f, .int .i64 off, .int .i64 n, .string ⟨l.toArray⟩] 111)).heap.size = w.heap.size + 1 := by simp
 generalize hw1 : w.alloc (.cells #[.int .i64 kind, .int .i64 env, .int .i64 f, .int .i64 off, .int .i64 n, .string ⟨l.toArray⟩] 111) = w1 at *
 have HW1 := Lib.hid hw1
 have T := Lib.hid hT
 have K := Lib.hid hK
 have a0 := hA.cell 0
 have a1 := hA.cell 1
 have a2 := hA.cell 2
 have a3 := hA.cell 3
 have a4 := hA.cell 4
 have a5 := hA.cell 5
 simp only [List.getElem?_toArray, List.getElem?_cons_zero, List.getElem?_cons_succ] at a0 a1 a2 a3 a4 a5
 have hga' : w.heap.size < w1.heap.size := hA.lt
 obtain ⟨c0, c1, c2⟩ := hT.heads
 have hlen := h.len
 clear h hT hK hA hw1
 go_enter Tryz.func41, Tryz.ntmps41
 go_upto_region 1 with fail
 rw [HW1.out]
 go_cut [7] (fun s7 wx => s7 = .bool false ∧ wx = w1)
 case first =>
  have q1 : (env == 1) = false := by simpa using fun e => hE (.inl e)
  have q2 : (env == 2) = false := by simpa using fun e => hE (.inr e)
  clear hE
  go_wp2_with fail
  go_meet
  exact ⟨rfl, rfl⟩
 case rest =>
  obtain ⟨rfl, rfl⟩ := hcut
  go_wp2
  go_ret3
  exact ⟨rfl, T.out, K.out⟩

set_option maxRecDepth 100000 in
set_option maxHeartbeats 2000000 in
theorem f_neg (h : RefT w gm bo bh bb co ch cb ps) (kind : Int) (env f off n : Int) (l : List UInt8) (k6 : kind < 6) (kn : kind ≠ 0) (hE : isE env) (hf : f < 0) :
  Calls Tryz.prog 41 #[.pointer (some ⟨gm, 0, none⟩), .agg #[.int .i64 kind, .int .i64 env, .int .i64 f, .int .i64 off, .int .i64 n, .string ⟨l.toArray⟩]] w fun e w' => e = .returned (.tuple #[.int .i64 0, .string ⟨#[]⟩, .int .i64 1]) ∧ RefT w' gm bo bh bb co ch cb ps ∧ Chg w w' (Three bo bh bb) := by
 have hT := h.alloc (.cells #[.int .i64 kind, .int .i64 env, .int .i64 f, .int .i64 off, .int .i64 n, .string ⟨l.toArray⟩] 111)
 have hK := (Chg.refl w (Three bo bh bb)).alloc (.cells #[.int .i64 kind, .int .i64 env, .int .i64 f, .int .i64 off, .int .i64 n, .string ⟨l.toArray⟩] 111)
 have hA := Blk.new w 111 #[.int .i64 kind, .int .i64 env, .int .i64 f, .int .i64 off, .int .i64 n, .string ⟨l.toArray⟩]
 have hga : gm < w.heap.size := h.head.lt
 have hz1 : (w.alloc (.cells #[.int .i64 kind, .int .i64 env, .int .i64 f, .int .i64 off, .int .i64 n, .string ⟨l.toArray⟩] 111)).heap.size = w.heap.size + 1 := by simp
 generalize hw1 : w.alloc (.cells #[.int .i64 kind, .int .i64 env, .int .i64 f, .int .i64 off, .int .i64 n, .string ⟨l.toArray⟩] 111) = w1 at *
 have HW1 := Lib.hid hw1
 have T := Lib.hid hT
 have K := Lib.hid hK
 have a0 := hA.cell 0
 have a1 := hA.cell 1
 have a2 := hA.cell 2
 have a3 := hA.cell 3
 have a4 := hA.cell 4
 have a5 := hA.cell 5
 simp only [List.getElem?_toArray, List.getElem?_cons_zero, List.getElem?_cons_succ] at a0 a1 a2 a3 a4 a5
 have hga' : w.heap.size < w1.heap.size := hA.lt
 obtain ⟨c0, c1, c2⟩ := hT.heads
 have hlen := h.len
 have k6' : decide ((6 : Int) ≤ kind) = false := by simp; omega
 have k0 : (kind == 0) = false := by simpa using kn
 clear kn
 clear h hT hK hA hw1
 go_enter Tryz.func41, Tryz.ntmps41
 go_upto_region 1 with fail
 rw [HW1.out]
 go_cut [7] (fun s7 wx => s7 = .bool true ∧ wx = w1)
 case first =>
  have HE := Lib.hid hE
  by_cases q1 : env = 1
  ·subst q1
   go_wp2_with fail
   go_meet
   exact ⟨rfl, rfl⟩
  ·have q2 : env = 2 := by rcases HE.out with e | e; exact absurd e q1; exact e
   subst q2
   clear q1
   go_wp2_with fail
   go_meet
   exact ⟨rfl, rfl⟩
 case rest =>
  obtain ⟨rfl, rfl⟩ := hcut
  clear hE
  go_wp2_with fail
  go_quiet (fail)
  generalize nq = nq1 at *
  go_wp2
  go_ret3
  refine ⟨rfl, ?_, ?_⟩
  ·repeat (first | exact T.out | refine RefT.drewN ?_ _)
  ·repeat (first | exact K.out | refine Chg.drewN ?_ _)

set_option maxRecDepth 100000 in
set_option maxHeartbeats 2000000 in
theorem f_neg7 (h : RefT w gm bo bh bb co ch cb ps) (kind : Int) (env f off n : Int) (l : List UInt8) (k7 : 6 ≤ kind) (hf : f < 0) :
  Calls Tryz.prog 41 #[.pointer (some ⟨gm, 0, none⟩), .agg #[.int .i64 kind, .int .i64 env, .int .i64 f, .int .i64 off, .int .i64 n, .string ⟨l.toArray⟩]] w fun e w' => e = .returned (.tuple #[.int .i64 0, .string ⟨#[]⟩, .int .i64 1]) ∧ RefT w' gm bo bh bb co ch cb ps ∧ Chg w w' (Three bo bh bb) := by
 have hT := h.alloc (.cells #[.int .i64 kind, .int .i64 env, .int .i64 f, .int .i64 off, .int .i64 n, .string ⟨l.toArray⟩] 111)
 have hK := (Chg.refl w (Three bo bh bb)).alloc (.cells #[.int .i64 kind, .int .i64 env, .int .i64 f, .int .i64 off, .int .i64 n, .string ⟨l.toArray⟩] 111)
 have hA := Blk.new w 111 #[.int .i64 kind, .int .i64 env, .int .i64 f, .int .i64 off, .int .i64 n, .string ⟨l.toArray⟩]
 have hga : gm < w.heap.size := h.head.lt
 have hz1 : (w.alloc (.cells #[.int .i64 kind, .int .i64 env, .int .i64 f, .int .i64 off, .int .i64 n, .string ⟨l.toArray⟩] 111)).heap.size = w.heap.size + 1 := by simp
 generalize hw1 : w.alloc (.cells #[.int .i64 kind, .int .i64 env, .int .i64 f, .int .i64 off, .int .i64 n, .string ⟨l.toArray⟩] 111) = w1 at *
 have HW1 := Lib.hid hw1
 have T := Lib.hid hT
 have K := Lib.hid hK
 have a0 := hA.cell 0
 have a1 := hA.cell 1
 have a2 := hA.cell 2
 have a3 := hA.cell 3
 have a4 := hA.cell 4
 have a5 := hA.cell 5
 simp only [List.getElem?_toArray, List.getElem?_cons_zero, List.getElem?_cons_succ] at a0 a1 a2 a3 a4 a5
 have hga' : w.heap.size < w1.heap.size := hA.lt
 obtain ⟨c0, c1, c2⟩ := hT.heads
 have hlen := h.len
 have k0 : (kind == 0) = false := by simp; omega
 have k6a : decide (kind < 6) = false := by simp; omega
 have k6b : (6 : Int) ≤ kind := by omega
 have k6c : ¬ kind < 6 := by omega
 clear k7
 clear h hT hK hA hw1
 go_enter Tryz.func41, Tryz.ntmps41
 go_upto_region 1 with fail
 rw [HW1.out]
 go_cut [7] (fun s7 wx => ∃ bv, s7 = .bool bv ∧ wx = w1)
 case first =>
  by_cases q1 : env = 1
  ·subst q1
   go_wp2_with fail
   go_meet
   exact ⟨_, rfl, rfl⟩
  ·by_cases q2 : env = 2
   ·subst q2
    clear q1
    go_wp2_with fail
    go_meet
    exact ⟨_, rfl, rfl⟩
   ·have q1' : (env == 1) = false := by simpa using q1
    have q2' : (env == 2) = false := by simpa using q2
    clear q1 q2
    go_wp2_with fail
    go_meet
    exact ⟨_, rfl, rfl⟩
 case rest =>
  obtain ⟨bv, rfl, rfl⟩ := hcut
  go_wp2_with fail
  go_quiet (fail)
  generalize nq = nq1 at *
  go_wp2
  go_ret3
  refine ⟨rfl, ?_, ?_⟩
  ·repeat (first | exact T.out | refine RefT.drewN ?_ _)
  ·repeat (first | exact K.out | refine Chg.drewN ?_ _)

set_option maxRecDepth 100000 in
set_option maxHeartbeats 2000000 in
theorem f_big (h : RefT w gm bo bh bb co ch cb ps) (kind : Int) (env f off n : Int) (l : List UInt8) (k6 : kind < 6) (kn : kind ≠ 0) (hE : isE env) (hf : ¬ f < 0) (hf2 : (ps.length : Int) ≤ f) :
  Calls Tryz.prog 41 #[.pointer (some ⟨gm, 0, none⟩), .agg #[.int .i64 kind, .int .i64 env, .int .i64 f, .int .i64 off, .int .i64 n, .string ⟨l.toArray⟩]] w fun e w' => e = .returned (.tuple #[.int .i64 0, .string ⟨#[]⟩, .int .i64 1]) ∧ RefT w' gm bo bh bb co ch cb ps ∧ Chg w w' (Three bo bh bb) := by
 have hT := h.alloc (.cells #[.int .i64 kind, .int .i64 env, .int .i64 f, .int .i64 off, .int .i64 n, .string ⟨l.toArray⟩] 111)
 have hK := (Chg.refl w (Three bo bh bb)).alloc (.cells #[.int .i64 kind, .int .i64 env, .int .i64 f, .int .i64 off, .int .i64 n, .string ⟨l.toArray⟩] 111)
 have hA := Blk.new w 111 #[.int .i64 kind, .int .i64 env, .int .i64 f, .int .i64 off, .int .i64 n, .string ⟨l.toArray⟩]
 have hga : gm < w.heap.size := h.head.lt
 have hz1 : (w.alloc (.cells #[.int .i64 kind, .int .i64 env, .int .i64 f, .int .i64 off, .int .i64 n, .string ⟨l.toArray⟩] 111)).heap.size = w.heap.size + 1 := by simp
 generalize hw1 : w.alloc (.cells #[.int .i64 kind, .int .i64 env, .int .i64 f, .int .i64 off, .int .i64 n, .string ⟨l.toArray⟩] 111) = w1 at *
 have HW1 := Lib.hid hw1
 have T := Lib.hid hT
 have K := Lib.hid hK
 have a0 := hA.cell 0
 have a1 := hA.cell 1
 have a2 := hA.cell 2
 have a3 := hA.cell 3
 have a4 := hA.cell 4
 have a5 := hA.cell 5
 simp only [List.getElem?_toArray, List.getElem?_cons_zero, List.getElem?_cons_succ] at a0 a1 a2 a3 a4 a5
 have hga' : w.heap.size < w1.heap.size := hA.lt
 obtain ⟨c0, c1, c2⟩ := hT.heads
 have hlen := h.len
 have k6' : decide ((6 : Int) ≤ kind) = false := by simp; omega
 have k0 : (kind == 0) = false := by simpa using kn
 have g1 : decide (f < 0) = false := by simp; omega
 clear hf
 clear kn
 clear h hT hK hA hw1
 go_enter Tryz.func41, Tryz.ntmps41
 go_upto_region 1 with fail
 rw [HW1.out]
 go_cut [7] (fun s7 wx => s7 = .bool true ∧ wx = w1)
 case first =>
  have HE := Lib.hid hE
  by_cases q1 : env = 1
  ·subst q1
   go_wp2_with fail
   go_meet
   exact ⟨rfl, rfl⟩
  ·have q2 : env = 2 := by rcases HE.out with e | e; exact absurd e q1; exact e
   subst q2
   clear q1
   go_wp2_with fail
   go_meet
   exact ⟨rfl, rfl⟩
 case rest =>
  obtain ⟨rfl, rfl⟩ := hcut
  clear hE
  go_wp2_with fail
  go_quiet (fail)
  generalize nq = nq1 at *
  go_wp2
  go_ret3
  refine ⟨rfl, ?_, ?_⟩
  ·repeat (first | exact T.out | refine RefT.drewN ?_ _)
  ·repeat (first | exact K.out | refine Chg.drewN ?_ _)

set_option maxRecDepth 100000 in
set_option maxHeartbeats 2000000 in
theorem f_big7 (h : RefT w gm bo bh bb co ch cb ps) (kind : Int) (env f off n : Int) (l : List UInt8) (k7 : 6 ≤ kind) (hf : ¬ f < 0) (hf2 : (ps.length : Int) ≤ f) :
  Calls Tryz.prog 41 #[.pointer (some ⟨gm, 0, none⟩), .agg #[.int .i64 kind, .int .i64 env, .int .i64 f, .int .i64 off, .int .i64 n, .string ⟨l.toArray⟩]] w fun e w' => e = .returned (.tuple #[.int .i64 0, .string ⟨#[]⟩, .int .i64 1]) ∧ RefT w' gm bo bh bb co ch cb ps ∧ Chg w w' (Three bo bh bb) := by
 have hT := h.alloc (.cells #[.int .i64 kind, .int .i64 env, .int .i64 f, .int .i64 off, .int .i64 n, .string ⟨l.toArray⟩] 111)
 have hK := (Chg.refl w (Three bo bh bb)).alloc (.cells #[.int .i64 kind, .int .i64 env, .int .i64 f, .int .i64 off, .int .i64 n, .string ⟨l.toArray⟩] 111)
 have hA := Blk.new w 111 #[.int .i64 kind, .int .i64 env, .int .i64 f, .int .i64 off, .int .i64 n, .string ⟨l.toArray⟩]
 have hga : gm < w.heap.size := h.head.lt
 have hz1 : (w.alloc (.cells #[.int .i64 kind, .int .i64 env, .int .i64 f, .int .i64 off, .int .i64 n, .string ⟨l.toArray⟩] 111)).heap.size = w.heap.size + 1 := by simp
 generalize hw1 : w.alloc (.cells #[.int .i64 kind, .int .i64 env, .int .i64 f, .int .i64 off, .int .i64 n, .string ⟨l.toArray⟩] 111) = w1 at *
 have HW1 := Lib.hid hw1
 have T := Lib.hid hT
 have K := Lib.hid hK
 have a0 := hA.cell 0
 have a1 := hA.cell 1
 have a2 := hA.cell 2
 have a3 := hA.cell 3
 have a4 := hA.cell 4
 have a5 := hA.cell 5
 simp only [List.getElem?_toArray, List.getElem?_cons_zero, List.getElem?_cons_succ] at a0 a1 a2 a3 a4 a5
 have hga' : w.heap.size < w1.heap.size := hA.lt
 obtain ⟨c0, c1, c2⟩ := hT.heads
 have hlen := h.len
 have k0 : (kind == 0) = false := by simp; omega
 have k6a : decide (kind < 6) = false := by simp; omega
 have k6b : (6 : Int) ≤ kind := by omega
 have k6c : ¬ kind < 6 := by omega
 have g1 : decide (f < 0) = false := by simp; omega
 clear hf
 clear k7
 clear h hT hK hA hw1
 go_enter Tryz.func41, Tryz.ntmps41
 go_upto_region 1 with fail
 rw [HW1.out]
 go_cut [7] (fun s7 wx => ∃ bv, s7 = .bool bv ∧ wx = w1)
 case first =>
  by_cases q1 : env = 1
  ·subst q1
   go_wp2_with fail
   go_meet
   exact ⟨_, rfl, rfl⟩
  ·by_cases q2 : env = 2
   ·subst q2
    clear q1
    go_wp2_with fail
    go_meet
    exact ⟨_, rfl, rfl⟩
   ·have q1' : (env == 1) = false := by simpa using q1
    have q2' : (env == 2) = false := by simpa using q2
    clear q1 q2
    go_wp2_with fail
    go_meet
    exact ⟨_, rfl, rfl⟩
 case rest =>
  obtain ⟨bv, rfl, rfl⟩ := hcut
  go_wp2_with fail
  go_quiet (fail)
  generalize nq = nq1 at *
  go_wp2
  go_ret3
  refine ⟨rfl, ?_, ?_⟩
  ·repeat (first | exact T.out | refine RefT.drewN ?_ _)
  ·repeat (first | exact K.out | refine Chg.drewN ?_ _)

set_option maxRecDepth 100000 in
set_option maxHeartbeats 2000000 in
theorem own_no (h : RefT w gm bo bh bb co ch cb ps) (kind : Int) (env f off n : Int) (l : List UInt8) (k6 : kind < 6) (kn : kind ≠ 0) (hE : isE env) (k : Nat) (hk : k < ps.length) (hf : f = (k : Int)) (ho : (ps[k].owner : Int) ≠ env) :
  Calls Tryz.prog 41 #[.pointer (some ⟨gm, 0, none⟩), .agg #[.int .i64 kind, .int .i64 env, .int .i64 f, .int .i64 off, .int .i64 n, .string ⟨l.toArray⟩]] w fun e w' => e = .returned (.tuple #[.int .i64 0, .string ⟨#[]⟩, .int .i64 20]) ∧ RefT w' gm bo bh bb co ch cb ps ∧ Chg w w' (Three bo bh bb) := by
 have hT := h.alloc (.cells #[.int .i64 kind, .int .i64 env, .int .i64 f, .int .i64 off, .int .i64 n, .string ⟨l.toArray⟩] 111)
 have hK := (Chg.refl w (Three bo bh bb)).alloc (.cells #[.int .i64 kind, .int .i64 env, .int .i64 f, .int .i64 off, .int .i64 n, .string ⟨l.toArray⟩] 111)
 have hA := Blk.new w 111 #[.int .i64 kind, .int .i64 env, .int .i64 f, .int .i64 off, .int .i64 n, .string ⟨l.toArray⟩]
 have hga : gm < w.heap.size := h.head.lt
 have hz1 : (w.alloc (.cells #[.int .i64 kind, .int .i64 env, .int .i64 f, .int .i64 off, .int .i64 n, .string ⟨l.toArray⟩] 111)).heap.size = w.heap.size + 1 := by simp
 generalize hw1 : w.alloc (.cells #[.int .i64 kind, .int .i64 env, .int .i64 f, .int .i64 off, .int .i64 n, .string ⟨l.toArray⟩] 111) = w1 at *
 have HW1 := Lib.hid hw1
 have T := Lib.hid hT
 have K := Lib.hid hK
 have a0 := hA.cell 0
 have a1 := hA.cell 1
 have a2 := hA.cell 2
 have a3 := hA.cell 3
 have a4 := hA.cell 4
 have a5 := hA.cell 5
 simp only [List.getElem?_toArray, List.getElem?_cons_zero, List.getElem?_cons_succ] at a0 a1 a2 a3 a4 a5
 have hga' : w.heap.size < w1.heap.size := hA.lt
 obtain ⟨c0, c1, c2⟩ := hT.heads
 have hlen := h.len
 have k6' : decide ((6 : Int) ≤ kind) = false := by simp; omega
 have k0 : (kind == 0) = false := by simpa using kn
 subst hf
 have oko := hT.at_ hk
 have o1 := hT.ownC hk
 have h1 := hT.holdC hk
 have g1 : decide ((k : Int) < 0) = false := by simp
 have g2 : decide ((ps.length : Int) ≤ (k : Int)) = false := by simp; omega
 have g3 : (0 : Int) ≤ (k : Int) := by omega
 have g4 : (k : Int) < (ps.length : Int) := by omega
 have ho' : ((ps[k].owner : Int) == env) = false := by simpa using ho
 generalize (ps[k].owner : Int) = ov at *
 generalize (ps[k].holds : Int) = hv at *
 clear kn ho oko
 clear h hT hK hA hw1
 go_enter Tryz.func41, Tryz.ntmps41
 go_upto_region 1 with fail
 rw [HW1.out]
 go_cut [7] (fun s7 wx => s7 = .bool true ∧ wx = w1)
 case first =>
  have HE := Lib.hid hE
  by_cases q1 : env = 1
  ·subst q1
   go_wp2_with fail
   go_meet
   exact ⟨rfl, rfl⟩
  ·have q2 : env = 2 := by rcases HE.out with e | e; exact absurd e q1; exact e
   subst q2
   clear q1
   go_wp2_with fail
   go_meet
   exact ⟨rfl, rfl⟩
 case rest =>
  obtain ⟨rfl, rfl⟩ := hcut
  clear hE
  go_wp2_with fail
  go_quiet (fail)
  generalize nq = nq1 at *
  go_wp2_with fail
  go_quiet (fail)
  generalize nq = nq2 at *
  go_wp2
  go_ret3
  refine ⟨rfl, ?_, ?_⟩
  ·repeat (first | exact T.out | refine RefT.drewN ?_ _)
  ·repeat (first | exact K.out | refine Chg.drewN ?_ _)

set_option maxRecDepth 100000 in
set_option maxHeartbeats 2000000 in
theorem hold_no (h : RefT w gm bo bh bb co ch cb ps) (kind : Int) (env f off n : Int) (l : List UInt8) (k7 : 6 ≤ kind) (k : Nat) (hk : k < ps.length) (hf : f = (k : Int)) (hh : ps[k].holds = 0) :
  Calls Tryz.prog 41 #[.pointer (some ⟨gm, 0, none⟩), .agg #[.int .i64 kind, .int .i64 env, .int .i64 f, .int .i64 off, .int .i64 n, .string ⟨l.toArray⟩]] w fun e w' => e = .returned (.tuple #[.int .i64 0, .string ⟨#[]⟩, .int .i64 1]) ∧ RefT w' gm bo bh bb co ch cb ps ∧ Chg w w' (Three bo bh bb) := by
 have hT := h.alloc (.cells #[.int .i64 kind, .int .i64 env, .int .i64 f, .int .i64 off, .int .i64 n, .string ⟨l.toArray⟩] 111)
 have hK := (Chg.refl w (Three bo bh bb)).alloc (.cells #[.int .i64 kind, .int .i64 env, .int .i64 f, .int .i64 off, .int .i64 n, .string ⟨l.toArray⟩] 111)
 have hA := Blk.new w 111 #[.int .i64 kind, .int .i64 env, .int .i64 f, .int .i64 off, .int .i64 n, .string ⟨l.toArray⟩]
 have hga : gm < w.heap.size := h.head.lt
 have hz1 : (w.alloc (.cells #[.int .i64 kind, .int .i64 env, .int .i64 f, .int .i64 off, .int .i64 n, .string ⟨l.toArray⟩] 111)).heap.size = w.heap.size + 1 := by simp
 generalize hw1 : w.alloc (.cells #[.int .i64 kind, .int .i64 env, .int .i64 f, .int .i64 off, .int .i64 n, .string ⟨l.toArray⟩] 111) = w1 at *
 have HW1 := Lib.hid hw1
 have T := Lib.hid hT
 have K := Lib.hid hK
 have a0 := hA.cell 0
 have a1 := hA.cell 1
 have a2 := hA.cell 2
 have a3 := hA.cell 3
 have a4 := hA.cell 4
 have a5 := hA.cell 5
 simp only [List.getElem?_toArray, List.getElem?_cons_zero, List.getElem?_cons_succ] at a0 a1 a2 a3 a4 a5
 have hga' : w.heap.size < w1.heap.size := hA.lt
 obtain ⟨c0, c1, c2⟩ := hT.heads
 have hlen := h.len
 have k0 : (kind == 0) = false := by simp; omega
 have k6a : decide (kind < 6) = false := by simp; omega
 have k6b : (6 : Int) ≤ kind := by omega
 have k6c : ¬ kind < 6 := by omega
 subst hf
 have oko := hT.at_ hk
 have o1 := hT.ownC hk
 have h1 := hT.holdC hk
 have g1 : decide ((k : Int) < 0) = false := by simp
 have g2 : decide ((ps.length : Int) ≤ (k : Int)) = false := by simp; omega
 have g3 : (0 : Int) ≤ (k : Int) := by omega
 have g4 : (k : Int) < (ps.length : Int) := by omega
 rw [hh] at h1
 generalize (ps[k].owner : Int) = ov at *
 clear k7 hh oko
 clear h hT hK hA hw1
 go_enter Tryz.func41, Tryz.ntmps41
 go_upto_region 1 with fail
 rw [HW1.out]
 go_cut [7] (fun s7 wx => ∃ bv, s7 = .bool bv ∧ wx = w1)
 case first =>
  by_cases q1 : env = 1
  ·subst q1
   go_wp2_with fail
   go_meet
   exact ⟨_, rfl, rfl⟩
  ·by_cases q2 : env = 2
   ·subst q2
    clear q1
    go_wp2_with fail
    go_meet
    exact ⟨_, rfl, rfl⟩
   ·have q1' : (env == 1) = false := by simpa using q1
    have q2' : (env == 2) = false := by simpa using q2
    clear q1 q2
    go_wp2_with fail
    go_meet
    exact ⟨_, rfl, rfl⟩
 case rest =>
  obtain ⟨bv, rfl, rfl⟩ := hcut
  go_wp2_with fail
  go_quiet (fail)
  generalize nq = nq1 at *
  go_wp2_with fail
  go_quiet (fail)
  generalize nq = nq2 at *
  go_wp2_with fail
  go_quiet (fail)
  generalize nq = nq3 at *
  go_wp2
  go_ret3
  refine ⟨rfl, ?_, ?_⟩
  ·repeat (first | exact T.out | refine RefT.drewN ?_ _)
  ·repeat (first | exact K.out | refine Chg.drewN ?_ _)
end
end Go.Proofs.YtbkjjakkihbcdaaGreat.RD
