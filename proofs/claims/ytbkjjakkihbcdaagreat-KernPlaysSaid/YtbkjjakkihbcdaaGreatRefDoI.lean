/- The document's Do: some of its ways. Conditions: those that each states. -/
import Derived.Test.YtbkjjakkihbcdaaGreatMAP
import Derived.StillTailTactics
import Derived.Deep.QuietTactic
import Derived.BigQuiet
namespace Go.Proofs.YtbkjjakkihbcdaaGreat.RD
open Go.ChangeShapes Go.WideShapes Go.ChangeAt Go.RowKit Go.Deep Fr
set_option linter.unusedVariables false
section
variable {gm bo bh bb co ch cb : Nat} {ps : List Pg} {w : World}
set_option maxRecDepth 100000 in
set_option maxHeartbeats 2000000 in
theorem free_ok (h : RefT w gm bo bh bb co ch cb ps) (env f off n : Int) (l : List UInt8) (k : Nat) (hk : k < ps.length) (hf : f = (k : Int)) (hE : isE env) (ho : (ps[k].owner : Int) = env) (hh : ps[k].holds = 0) :
  Calls Tryz.prog 41 #[.pointer (some ⟨gm, 0, none⟩), .agg #[.int .i64 1, .int .i64 env, .int .i64 f, .int .i64 off, .int .i64 n, .string ⟨l.toArray⟩]] w fun e w' => e = .returned (.tuple #[.int .i64 0, .string ⟨#[]⟩, .int .i64 0]) ∧ RefT w' gm bo bh bb co ch cb (ps.set k .blank) ∧ Chg w w' (Three bo bh bb) := by
 have hT := h.alloc (.cells #[.int .i64 1, .int .i64 env, .int .i64 f, .int .i64 off, .int .i64 n, .string ⟨l.toArray⟩] 111)
 have hK := (Chg.refl w (Three bo bh bb)).alloc (.cells #[.int .i64 1, .int .i64 env, .int .i64 f, .int .i64 off, .int .i64 n, .string ⟨l.toArray⟩] 111)
 have hA := Blk.new w 111 #[.int .i64 1, .int .i64 env, .int .i64 f, .int .i64 off, .int .i64 n, .string ⟨l.toArray⟩]
 have hga : gm < w.heap.size := h.head.lt
 have hz1 : (w.alloc (.cells #[.int .i64 1, .int .i64 env, .int .i64 f, .int .i64 off, .int .i64 n, .string ⟨l.toArray⟩] 111)).heap.size = w.heap.size + 1 := by simp
 generalize hw1 : w.alloc (.cells #[.int .i64 1, .int .i64 env, .int .i64 f, .int .i64 off, .int .i64 n, .string ⟨l.toArray⟩] 111) = w1 at *
 have HW1 := Lib.hid hw1
 have T := Lib.hid hT
 have K := Lib.hid hK
 have a0 := hA.cell 0
 have a1 := hA.cell 1
 have a2 := hA.cell 2
 have a3 := hA.cell 3
 have a4 := hA.cell 4
 have a5 := hA.cell 5
 simp only [List.getElem?_toArray, List.getElem?_cons_zero, List.getElem?_cons_succ] at a0 a1 a2 a3 a4 a5
 have hga' : w.heap.size < w1.heap.size := hA.lt
 obtain ⟨c0, c1, c2⟩ := hT.heads
 have hlen := h.len
 have hbo : bo < w.heap.size := h.own.lt
 subst hf
 have oko := hT.at_ hk
 have o1 := hT.ownC hk
 have h1 := hT.holdC hk
 rw [ho] at o1
 have g1 : decide ((k : Int) < 0) = false := by simp
 have g2 : decide ((ps.length : Int) ≤ (k : Int)) = false := by simp; omega
 have g3 : (0 : Int) ≤ (k : Int) := by omega
 have g4 : (k : Int) < (ps.length : Int) := by omega
 rw [hh] at h1
 have f1 := hT.own.frozen k
 have FIN := Lib.hid (fin_own hT hK hk 0 (by omega))
 have HH := Lib.hid hh
 clear ho oko hh
 clear h hT hK hA hw1
 go_enter Tryz.func41, Tryz.ntmps41
 go_upto_region 1 with fail
 rw [HW1.out]
 go_cut [7] (fun s7 wx => s7 = .bool true ∧ wx = w1)
 case first =>
  have HE := Lib.hid hE
  by_cases q1 : env = 1
  ·subst q1
   go_wp2_with fail
   go_meet
   exact ⟨rfl, rfl⟩
  ·have q2 : env = 2 := by rcases HE.out with e | e; exact absurd e q1; exact e
   subst q2
   clear q1
   go_wp2_with fail
   go_meet
   exact ⟨rfl, rfl⟩
 case rest =>
  obtain ⟨rfl, rfl⟩ := hcut
  clear hE
  go_wp2_with fail
  go_quiet (fail)
  generalize nq = nq1 at *
  go_wp2_with fail
  go_quiet (fail)
  generalize nq = nq2 at *
  go_wp2_with fail
  go_quiet (fail)
  generalize nq = nq3 at *
  go_wp2_with fail
  go_quiet (fail)
  generalize nq = nq4 at *
  go_wp2_with fail
  generalize nq1 + nq2 + nq3 + nq4 = dm at *
  refine wp_region_still_tail 7 (by kernel_rfl) (by kernel_rfl) ?_
  change wpStill _ _ (wc.drewN dm).drew (fun a' => wpList _ _ _ _ a' (wc.drewN dm).drew) _ _
  simp only [List.take_succ_cons, List.take_zero, List.drop_succ_cons, List.drop_zero]
  repeat still_step
  refine wpStill_nil ?_
  go_upto_region 25 with fail

  obtain ⟨W, rfl, r1, r2⟩ := FIN.out (dm + 1) 0
  rw [World.drewN_zero] at r1 r2
  have a2' : ((wc.drewN (dm + 1)).setCell ⟨bo, k, none⟩ (.int .i64 0)).cell? ⟨w.heap.size, 2, none⟩ = some (.int .i64 (k : Int)) := by
   rw [World.cell?_setCell_other _ _ _ _ (by simp <;> omega), World.cell?_drewN]; exact a2
  have hgz : w.heap.size < ((wc.drewN (dm + 1)).setCell ⟨bo, k, none⟩ (.int .i64 0)).heap.size := by simpa [World.setCell] using hga'
  rw [show ((0 : Nat) : Int) = 0 from rfl] at r1 r2
  generalize (wc.drewN (dm + 1)).setCell ⟨bo, k, none⟩ (.int .i64 0) = W0 at *
  have R1 := Lib.hid r1
  have R2 := Lib.hid r2
  have hk' : k < (ps.set k { ps[k] with owner := 0 }).length := by simpa using hk
  have c2' := r1.heads.2.2
  rw [List.length_set] at c2'
  have tx' := r1.textC hk'
  have f1' := r1.text.frozen k
  clear r1 r2 FIN
  go_region_law (first
   | (go_simp; go_at_call 63; refine (blank_any _).mono ?_; rintro e wt ⟨rfl, bt⟩
      have bt' : Below W0.heap.size W0 wt := ⟨bt.os, bt.tape, bt.output, bt.size, bt.block⟩
      have R3 := Lib.hid (R1.out.new bt')
      have R4 := Lib.hid (R2.out.trans (Chg.of_new bt' (Three bo bh bb)))
      have ct := R3.out.heads.2.2
      rw [List.length_set] at ct
      have tt := R3.out.textC hk'
      have ft := R3.out.text.frozen k
      have at2 : wt.cell? ⟨w.heap.size, 2, none⟩ = some (.int .i64 (k : Int)) := (World.cell?_of_block (w := W0) (w' := wt) (a := ⟨w.heap.size, 2, none⟩) (bt'.block _ hgz)).trans a2'))
  all_goals
   go_wp2
   go_ret3
   have hfin := fin_blank R3.out R4.out hk HH.out
   exact ⟨rfl, hfin.1, hfin.2⟩
end
end Go.Proofs.YtbkjjakkihbcdaaGreat.RD
