/- The document's Do: some of its ways. Conditions: those that each states. -/
import Derived.Test.YtbkjjakkihbcdaaGreatMAP
import Derived.StillTailTactics
import Derived.Deep.QuietTactic
import Derived.BigQuiet
namespace Go.Proofs.YtbkjjakkihbcdaaGreat.RD
open Go.ChangeShapes Go.WideShapes Go.ChangeAt Go.RowKit Go.Deep Fr
set_option linter.unusedVariables false
section
variable {gm bo bh bb co ch cb : Nat} {ps : List Pg} {w : World}
set_option maxRecDepth 100000 in
set_option maxHeartbeats 2000000 in
theorem write_ok (h : RefT w gm bo bh bb co ch cb ps) (env f off n : Int) (l : List UInt8) (k : Nat) (hk : k < ps.length) (hf : f = (k : Int)) (hE : isE env) (ho : (ps[k].owner : Int) = env) (hh : ps[k].holds = 0) (o : Nat) (eo : off = (o : Int)) (hfit : o + l.length ≤ 256) :
  Calls Tryz.prog 41 #[.pointer (some ⟨gm, 0, none⟩), .agg #[.int .i64 4, .int .i64 env, .int .i64 f, .int .i64 off, .int .i64 n, .string ⟨l.toArray⟩]] w fun e w' => e = .returned (.tuple #[.int .i64 0, .string ⟨#[]⟩, .int .i64 0]) ∧ RefT w' gm bo bh bb co ch cb (ps.set k { ps[k] with text := ps[k].text.take o ++ l ++ ps[k].text.drop (o + l.length) }) ∧ Chg w w' (Three bo bh bb) := by
 have hT := h.alloc (.cells #[.int .i64 4, .int .i64 env, .int .i64 f, .int .i64 off, .int .i64 n, .string ⟨l.toArray⟩] 111)
 have hK := (Chg.refl w (Three bo bh bb)).alloc (.cells #[.int .i64 4, .int .i64 env, .int .i64 f, .int .i64 off, .int .i64 n, .string ⟨l.toArray⟩] 111)
 have hA := Blk.new w 111 #[.int .i64 4, .int .i64 env, .int .i64 f, .int .i64 off, .int .i64 n, .string ⟨l.toArray⟩]
 have hga : gm < w.heap.size := h.head.lt
 have hz1 : (w.alloc (.cells #[.int .i64 4, .int .i64 env, .int .i64 f, .int .i64 off, .int .i64 n, .string ⟨l.toArray⟩] 111)).heap.size = w.heap.size + 1 := by simp
 generalize hw1 : w.alloc (.cells #[.int .i64 4, .int .i64 env, .int .i64 f, .int .i64 off, .int .i64 n, .string ⟨l.toArray⟩] 111) = w1 at *
 have HW1 := Lib.hid hw1
 have T := Lib.hid hT
 have K := Lib.hid hK
 have a0 := hA.cell 0
 have a1 := hA.cell 1
 have a2 := hA.cell 2
 have a3 := hA.cell 3
 have a4 := hA.cell 4
 have a5 := hA.cell 5
 simp only [List.getElem?_toArray, List.getElem?_cons_zero, List.getElem?_cons_succ] at a0 a1 a2 a3 a4 a5
 have hga' : w.heap.size < w1.heap.size := hA.lt
 obtain ⟨c0, c1, c2⟩ := hT.heads
 have hlen := h.len
 subst hf
 have oko := hT.at_ hk
 have o1 := hT.ownC hk
 have h1 := hT.holdC hk
 rw [ho] at o1
 have g1 : decide ((k : Int) < 0) = false := by simp
 have g2 : decide ((ps.length : Int) ≤ (k : Int)) = false := by simp; omega
 have g3 : (0 : Int) ≤ (k : Int) := by omega
 have g4 : (k : Int) < (ps.length : Int) := by omega
 rw [hh] at h1
 have hls : (⟨l.toArray⟩ : ByteArray).size = l.length := by simp [ByteArray.size]
 subst eo
 have f1 := hT.text.frozen k
 have tx := hT.textC hk
 have WI := Lib.hid (fun (W : World) => rwithin_yes (o : Int) (l.length : Int) ⟨by omega, by omega, by omega⟩ W)
 have fin := fin_text hT hK hk (ps[k].text.take o ++ l ++ ps[k].text.drop (o + l.length)) (by have := oko.t; simp; omega)
 have e0 : (⟨(ps[k].text.take o ++ l ++ ps[k].text.drop (o + l.length)).toArray⟩ : ByteArray) = ⟨(ps[k].text.take o).toArray⟩ ++ ⟨l.toArray⟩ ++ ⟨(ps[k].text.drop (o + l.length)).toArray⟩ := by rw [ByteArray.mk_append_mk, ByteArray.mk_append_mk]
 rw [e0] at fin
 have s1 := fun W => cut_front ps[k].text o (by rw [oko.t]; omega) W
 have s2 := fun W => cut_rest ps[k].text (o + l.length) (by rw [oko.t]; omega) W
 have t1 : (⟨(ps[k].text.take o).toArray⟩ : ByteArray).size ≤ 256 := by show (ps[k].text.take o).toArray.size ≤ 256; have := oko.t; simp; omega
 have t2 : (⟨(ps[k].text.drop (o + l.length)).toArray⟩ : ByteArray).size ≤ 256 := by show (ps[k].text.drop (o + l.length)).toArray.size ≤ 256; have := oko.t; simp; omega
 have xa : IntKind.i64.wrap ((o : Int) + (l.length : Int)) = (o : Int) + (l.length : Int) := IntWalk.i64_in _ (by omega)
 rw [Int.natCast_add] at s2
 have FIN := Lib.hid fin
 generalize (⟨(ps[k].text.take o).toArray⟩ : ByteArray) = ba at *
 generalize (⟨(ps[k].text.drop (o + l.length)).toArray⟩ : ByteArray) = bc at *
 generalize ps[k].text = pt at *
 have q1 : ¬ 9223372036854775807 < ba.size + l.length := by omega
 have q2 : ¬ 9223372036854775807 < ba.size + l.length + bc.size := by omega
 clear ho oko hh t1 t2 hfit fin e0
 clear h hT hK hA hw1
 go_enter Tryz.func41, Tryz.ntmps41
 go_upto_region 1 with fail
 rw [HW1.out]
 go_cut [7] (fun s7 wx => s7 = .bool true ∧ wx = w1)
 case first =>
  have HE := Lib.hid hE
  by_cases q1 : env = 1
  ·subst q1
   go_wp2_with fail
   go_meet
   exact ⟨rfl, rfl⟩
  ·have q2 : env = 2 := by rcases HE.out with e | e; exact absurd e q1; exact e
   subst q2
   clear q1
   go_wp2_with fail
   go_meet
   exact ⟨rfl, rfl⟩
 case rest =>
  obtain ⟨rfl, rfl⟩ := hcut
  clear hE
  go_wp2_with fail
  go_quiet (fail)
  generalize nq = nq1 at *
  go_wp2_with fail
  go_quiet (fail)
  generalize nq = nq2 at *
  go_wp2_with fail
  go_quiet (fail)
  generalize nq = nq3 at *
  go_wp2_with fail
  refine (WI.out _).mono ?_; rintro e w9 ⟨rfl, rfl⟩
  go_wp2_with fail
  go_quiet (fail)
  generalize nq = nq4 at *
  go_wp2_with fail
  go_quiet (fail)
  generalize nq = nq5 at *
  go_wp2_with fail
  simp only [World.drewN_drewN]
  generalize nq1 + nq2 + nq3 + nq4 + nq5 = dm at *
  refine wp_region_still_tail 23 (by kernel_rfl) (by kernel_rfl) ?_
  change wpStill _ _ (wc.drewN dm).drew (fun a' => wpList _ _ _ _ a' (wc.drewN dm).drew) _ _
  simp only [List.take_succ_cons, List.take_zero, List.drop_succ_cons, List.drop_zero]
  repeat still_step
  refine wpStill_nil ?_
  go_wp2
  go_ret3
  obtain ⟨W, rfl, r1, r2⟩ := FIN.out dm 1
  exact ⟨rfl, r1, r2⟩
end
end Go.Proofs.YtbkjjakkihbcdaaGreat.RD
