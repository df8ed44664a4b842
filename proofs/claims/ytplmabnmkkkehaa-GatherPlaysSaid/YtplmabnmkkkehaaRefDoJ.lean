/- The document's Do: some of its ways. Conditions: those that each states. -/
import Derived.Test.YtplmabnmkkkehaaRefDo
import Derived.StillTailTactics
import Derived.Deep.QuietTactic
import Derived.BigQuiet
namespace Go.Proofs.Ytplmabnmkkkehaa.RD
open Go.ChangeShapes Go.WideShapes Go.ChangeAt Go.RowKit Go.Deep Fr
set_option linter.unusedVariables false
section
variable {gm bo bh bb co ch cb : Nat} {ps : List Pg} {w : World}
set_option maxRecDepth 100000 in
set_option maxHeartbeats 2000000 in
theorem alloc_full (h : RefT w gm bo bh bb co ch cb ps) (env f off n : Int) (l : List UInt8) (hE : isE env) (hfull : ∀ x (hx : x < ps.length), ps[x].owner ≠ 0) :
    Calls Try.prog 12 #[.pointer (some ⟨gm, 0, none⟩), .agg #[.int .i64 0, .int .i64 env, .int .i64 f, .int .i64 off, .int .i64 n, .string ⟨l.toArray⟩]] w fun e w' => e = .returned (.tuple #[.int .i64 0, .string ⟨#[]⟩, .int .i64 10]) ∧ RefT w' gm bo bh bb co ch cb ps ∧ Chg w w' (Three bo bh bb) := by
  have hT := h.alloc (.cells #[.int .i64 0, .int .i64 env, .int .i64 f, .int .i64 off, .int .i64 n, .string ⟨l.toArray⟩] 33)
  have hK := (Chg.refl w (Three bo bh bb)).alloc (.cells #[.int .i64 0, .int .i64 env, .int .i64 f, .int .i64 off, .int .i64 n, .string ⟨l.toArray⟩] 33)
  have hA := Blk.new w 33 #[.int .i64 0, .int .i64 env, .int .i64 f, .int .i64 off, .int .i64 n, .string ⟨l.toArray⟩]
  have hga : gm < w.heap.size := h.head.lt
  have hz1 : (w.alloc (.cells #[.int .i64 0, .int .i64 env, .int .i64 f, .int .i64 off, .int .i64 n, .string ⟨l.toArray⟩] 33)).heap.size = w.heap.size + 1 := by simp
  generalize hw1 : w.alloc (.cells #[.int .i64 0, .int .i64 env, .int .i64 f, .int .i64 off, .int .i64 n, .string ⟨l.toArray⟩] 33) = w1 at *
  have HW1 := Lib.hid hw1
  have T := Lib.hid hT
  have K := Lib.hid hK
  have a0 := hA.cell 0
  have a1 := hA.cell 1
  have a2 := hA.cell 2
  have a3 := hA.cell 3
  have a4 := hA.cell 4
  have a5 := hA.cell 5
  simp only [List.getElem?_toArray, List.getElem?_cons_zero, List.getElem?_cons_succ] at a0 a1 a2 a3 a4 a5
  have hga' : w.heap.size < w1.heap.size := hA.lt
  obtain ⟨c0, c1, c2⟩ := hT.heads
  have hlen := h.len
  have HM := Lib.hid hfull
  clear hfull
  clear h hT hK hA hw1
  go_enter Try.func12, Try.ntmps12
  go_upto_region 1 with fail
  rw [HW1.out]
  go_cut [7] (fun s7 wx => s7 = .bool true ∧ wx = w1)
  case first =>
    have HE := Lib.hid hE
    by_cases q1 : env = 1
    · subst q1
      go_wp2_with fail
      go_meet
      exact ⟨rfl, rfl⟩
    · have q2 : env = 2 := by rcases HE.out with e | e; exact absurd e q1; exact e
      subst q2
      clear q1
      go_wp2_with fail
      go_meet
      exact ⟨rfl, rfl⟩
  case rest =>
    obtain ⟨rfl, rfl⟩ := hcut
    clear hE
    go_wp2
    go_loopw [8] (fun i wr => ∃ (j : Nat), j ≤ ps.length ∧ i = .int .i64 (j : Int) ∧ wr = wc) (fun i _ => ps.length - (intOf i).toNat)
    case atStart => exact ⟨0, Nat.zero_le _, rfl, rfl⟩
    case round =>
      obtain ⟨j, hj, rfl, rfl⟩ := hrel
      by_cases hlt : j < ps.length
      · have hlt' : (j : Int) < (ps.length : Int) := by omega
        have j0 : (0 : Int) ≤ (j : Int) := by omega
        have o1 := T.out.ownC hlt
        have ho := HM.out j hlt
        have ho' : ((ps[j].owner : Int) == 0) = false := by simpa using ho
        have x1 := IntWalk.i64_in ((j : Int) + 1) (by omega)
        generalize (ps[j].owner : Int) = v at *
        clear ho
        go_wp2
        go_roundw
        case rel => exact ⟨j + 1, by omega, by simp, by first | rfl | trivial⟩
        case measure => simp [intOf]; omega
      · have hge : ¬ (j : Int) < (ps.length : Int) := by omega
        go_wp2
        go_ret3
        exact ⟨rfl, T.out, K.out⟩

set_option maxRecDepth 100000 in
set_option maxHeartbeats 2000000 in
theorem alloc_ok (h : RefT w gm bo bh bb co ch cb ps) (env f off n : Int) (l : List UInt8) (hE : isE env) (k : Nat) (hk : k < ps.length) (h0 : ps[k].owner = 0) (hfull : ∀ x (hx : x < ps.length), x < k → ps[x].owner ≠ 0) :
    Calls Try.prog 12 #[.pointer (some ⟨gm, 0, none⟩), .agg #[.int .i64 0, .int .i64 env, .int .i64 f, .int .i64 off, .int .i64 n, .string ⟨l.toArray⟩]] w fun e w' => e = .returned (.tuple #[.int .i64 (k : Int), .string ⟨#[]⟩, .int .i64 0]) ∧ RefT w' gm bo bh bb co ch cb (ps.set k { ps[k] with owner := env.toNat }) ∧ Chg w w' (Three bo bh bb) := by
  have hT := h.alloc (.cells #[.int .i64 0, .int .i64 env, .int .i64 f, .int .i64 off, .int .i64 n, .string ⟨l.toArray⟩] 33)
  have hK := (Chg.refl w (Three bo bh bb)).alloc (.cells #[.int .i64 0, .int .i64 env, .int .i64 f, .int .i64 off, .int .i64 n, .string ⟨l.toArray⟩] 33)
  have hA := Blk.new w 33 #[.int .i64 0, .int .i64 env, .int .i64 f, .int .i64 off, .int .i64 n, .string ⟨l.toArray⟩]
  have hga : gm < w.heap.size := h.head.lt
  have hz1 : (w.alloc (.cells #[.int .i64 0, .int .i64 env, .int .i64 f, .int .i64 off, .int .i64 n, .string ⟨l.toArray⟩] 33)).heap.size = w.heap.size + 1 := by simp
  generalize hw1 : w.alloc (.cells #[.int .i64 0, .int .i64 env, .int .i64 f, .int .i64 off, .int .i64 n, .string ⟨l.toArray⟩] 33) = w1 at *
  have HW1 := Lib.hid hw1
  have T := Lib.hid hT
  have K := Lib.hid hK
  have a0 := hA.cell 0
  have a1 := hA.cell 1
  have a2 := hA.cell 2
  have a3 := hA.cell 3
  have a4 := hA.cell 4
  have a5 := hA.cell 5
  simp only [List.getElem?_toArray, List.getElem?_cons_zero, List.getElem?_cons_succ] at a0 a1 a2 a3 a4 a5
  have hga' : w.heap.size < w1.heap.size := hA.lt
  obtain ⟨c0, c1, c2⟩ := hT.heads
  have hlen := h.len
  have HM := Lib.hid hfull
  have f1 := hT.own.frozen k
  have oto : env.toNat ≤ 2 := by rcases hE with e | e <;> omega
  have eto : ((env.toNat : Nat) : Int) = env := by rcases hE with e | e <;> rw [e] <;> rfl
  have fin := fin_own hT hK hk env.toNat oto
  rw [eto] at fin
  have FIN := Lib.hid fin
  have OC := hT.ownC hk
  rw [h0] at OC
  clear hfull fin eto oto
  clear h hT hK hA hw1
  go_enter Try.func12, Try.ntmps12
  go_upto_region 1 with fail
  rw [HW1.out]
  go_cut [7] (fun s7 wx => s7 = .bool true ∧ wx = w1)
  case first =>
    have HE := Lib.hid hE
    by_cases q1 : env = 1
    · subst q1
      go_wp2_with fail
      go_meet
      exact ⟨rfl, rfl⟩
    · have q2 : env = 2 := by rcases HE.out with e | e; exact absurd e q1; exact e
      subst q2
      clear q1
      go_wp2_with fail
      go_meet
      exact ⟨rfl, rfl⟩
  case rest =>
    obtain ⟨rfl, rfl⟩ := hcut
    clear hE
    go_wp2
    go_loopw [8] (fun i wr => ∃ (j : Nat), j ≤ k ∧ i = .int .i64 (j : Int) ∧ wr = wc) (fun i _ => ps.length - (intOf i).toNat)
    case atStart => exact ⟨0, Nat.zero_le _, rfl, rfl⟩
    case round =>
      obtain ⟨j, hj, rfl, rfl⟩ := hrel
      have hlt' : (j : Int) < (ps.length : Int) := by omega
      have j0 : (0 : Int) ≤ (j : Int) := by omega
      by_cases hlt : j < k
      · have o1 := T.out.ownC (k := j) (by omega)
        have ho := HM.out j (by omega) hlt
        have ho' : ((ps[j].owner : Int) == 0) = false := by simpa using ho
        have x1 := IntWalk.i64_in ((j : Int) + 1) (by omega)
        generalize (ps[j].owner : Int) = v at *
        clear ho OC
        go_wp2
        go_roundw
        case rel => exact ⟨j + 1, by omega, by simp, by first | rfl | trivial⟩
        case measure => simp [intOf]; omega
      · obtain rfl : j = k := by omega
        go_upto_region 9 with fail
        refine wp_region_still_tail 8 (by kernel_rfl) (by kernel_rfl) ?_
        change wpStill _ _ wr.drew (fun a' => wpList _ _ _ _ a' wr.drew) _ _
        simp only [List.take_succ_cons, List.take_zero, List.drop_succ_cons, List.drop_zero]
        repeat still_step
        refine wpStill_nil ?_
        go_wp2
        go_ret3
        obtain ⟨W, rfl, r1, r2⟩ := FIN.out 0 1
        exact ⟨rfl, r1, r2⟩
end
end Go.Proofs.Ytplmabnmkkkehaa.RD
