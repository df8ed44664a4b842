/- The document's Do: some of its ways. Conditions: those that each states. -/
import Derived.Test.YtbkjjakkihbcdaaGreatMAP
import Derived.StillTailTactics
import Derived.Deep.QuietTactic
import Derived.BigQuiet
import Derived.Test.YtbkjjakkihbcdaaGreatRefDoA
import Derived.Test.YtbkjjakkihbcdaaGreatRefDoB
import Derived.Test.YtbkjjakkihbcdaaGreatRefDoC
import Derived.Test.YtbkjjakkihbcdaaGreatRefDoD
import Derived.Test.YtbkjjakkihbcdaaGreatRefDoE
import Derived.Test.YtbkjjakkihbcdaaGreatRefDoF
import Derived.Test.YtbkjjakkihbcdaaGreatRefDoG
import Derived.Test.YtbkjjakkihbcdaaGreatRefDoH
import Derived.Test.YtbkjjakkihbcdaaGreatRefDoI
namespace Go.Proofs.YtbkjjakkihbcdaaGreat.RD
open Go.ChangeShapes Go.WideShapes Go.ChangeAt Go.RowKit Go.Deep Fr
set_option linter.unusedVariables false
section
variable {gm bo bh bb co ch cb : Nat} {ps : List Pg} {w : World}
set_option maxRecDepth 100000 in
set_option maxHeartbeats 2000000 in
theorem alloc_full (h : RefT w gm bo bh bb co ch cb ps) (env f off n : Int) (l : List UInt8) (hE : isE env) (hfull : ∀ x (hx : x < ps.length), ps[x].owner ≠ 0) :
  Calls Tryz.prog 41 #[.pointer (some ⟨gm, 0, none⟩), .agg #[.int .i64 0, .int .i64 env, .int .i64 f, .int .i64 off, .int .i64 n, .string ⟨l.toArray⟩]] w fun e w' => e = .returned (.tuple #[.int .i64 0, .string ⟨#[]⟩, .int .i64 10]) ∧ RefT w' gm bo bh bb co ch cb ps ∧ Chg w w' (Three bo bh bb) := by
 have hT := h.alloc (.cells #[.int .i64 0, .int .i64 env, .int .i64 f, .int .i64 off, .int .i64 n, .string ⟨l.toArray⟩] 111)
 have hK := (Chg.refl w (Three bo bh bb)).alloc (.cells #[.int .i64 0, .int .i64 env, .int .i64 f, .int .i64 off, .int .i64 n, .string ⟨l.toArray⟩] 111)
 have hA := Blk.new w 111 #[.int .i64 0, .int .i64 env, .int .i64 f, .int .i64 off, .int .i64 n, .string ⟨l.toArray⟩]
 have hga : gm < w.heap.size := h.head.lt
 have hz1 : (w.alloc (.cells #[.int .i64 0, .int .i64 env, .int .i64 f, .int .i64 off, .int .i64 n, .string ⟨l.toArray⟩] 111)).heap.size = w.heap.size + 1 := by simp
 generalize hw1 : w.alloc (.cells #[.int .i64 0, .int .i64 env, .int .i64 f, .int .i64 off, .int .i64 n, .string ⟨l.toArray⟩] 111) = w1 at *
 have HW1 := Lib.hid hw1
 have T := Lib.hid hT
 have K := Lib.hid hK
 have a0 := hA.cell 0
 have a1 := hA.cell 1
 have a2 := hA.cell 2
 have a3 := hA.cell 3
 have a4 := hA.cell 4
 have a5 := hA.cell 5
 simp only [List.getElem?_toArray, List.getElem?_cons_zero, List.getElem?_cons_succ] at a0 a1 a2 a3 a4 a5
 have hga' : w.heap.size < w1.heap.size := hA.lt
 obtain ⟨c0, c1, c2⟩ := hT.heads
 have hlen := h.len
 have HM := Lib.hid hfull
 clear hfull
 clear h hT hK hA hw1
 go_enter Tryz.func41, Tryz.ntmps41
 go_upto_region 1 with fail
 rw [HW1.out]
 go_cut [7] (fun s7 wx => s7 = .bool true ∧ wx = w1)
 case first =>
  have HE := Lib.hid hE
  by_cases q1 : env = 1
  ·subst q1
   go_wp2_with fail
   go_meet
   exact ⟨rfl, rfl⟩
  ·have q2 : env = 2 := by rcases HE.out with e | e; exact absurd e q1; exact e
   subst q2
   clear q1
   go_wp2_with fail
   go_meet
   exact ⟨rfl, rfl⟩
 case rest =>
  obtain ⟨rfl, rfl⟩ := hcut
  clear hE
  go_wp2
  go_loopw [8] (fun i wr => ∃ (j : Nat), j ≤ ps.length ∧ i = .int .i64 (j : Int) ∧ wr = wc) (fun i _ => ps.length - (intOf i).toNat)
  case atStart => exact ⟨0, Nat.zero_le _, rfl, rfl⟩
  case round =>
   obtain ⟨j, hj, rfl, rfl⟩ := hrel
   by_cases hlt : j < ps.length
   ·have hlt' : (j : Int) < (ps.length : Int) := by omega
    have j0 : (0 : Int) ≤ (j : Int) := by omega
    have o1 := T.out.ownC hlt
    have ho := HM.out j hlt
    have ho' : ((ps[j].owner : Int) == 0) = false := by simpa using ho
    have x1 := IntWalk.i64_in ((j : Int) + 1) (by omega)
    generalize (ps[j].owner : Int) = v at *
    clear ho
    go_wp2
    go_roundw
    case rel => exact ⟨j + 1, by omega, by simp, by first | rfl | trivial⟩
    case measure => simp [intOf]; omega
   ·have hge : ¬ (j : Int) < (ps.length : Int) := by omega
    go_wp2
    go_ret3
    exact ⟨rfl, T.out, K.out⟩

set_option maxRecDepth 100000 in
set_option maxHeartbeats 2000000 in
theorem alloc_ok (h : RefT w gm bo bh bb co ch cb ps) (env f off n : Int) (l : List UInt8) (hE : isE env) (k : Nat) (hk : k < ps.length) (h0 : ps[k].owner = 0) (hfull : ∀ x (hx : x < ps.length), x < k → ps[x].owner ≠ 0) :
  Calls Tryz.prog 41 #[.pointer (some ⟨gm, 0, none⟩), .agg #[.int .i64 0, .int .i64 env, .int .i64 f, .int .i64 off, .int .i64 n, .string ⟨l.toArray⟩]] w fun e w' => e = .returned (.tuple #[.int .i64 (k : Int), .string ⟨#[]⟩, .int .i64 0]) ∧ RefT w' gm bo bh bb co ch cb (ps.set k { ps[k] with owner := env.toNat }) ∧ Chg w w' (Three bo bh bb) := by
 have hT := h.alloc (.cells #[.int .i64 0, .int .i64 env, .int .i64 f, .int .i64 off, .int .i64 n, .string ⟨l.toArray⟩] 111)
 have hK := (Chg.refl w (Three bo bh bb)).alloc (.cells #[.int .i64 0, .int .i64 env, .int .i64 f, .int .i64 off, .int .i64 n, .string ⟨l.toArray⟩] 111)
 have hA := Blk.new w 111 #[.int .i64 0, .int .i64 env, .int .i64 f, .int .i64 off, .int .i64 n, .string ⟨l.toArray⟩]
 have hga : gm < w.heap.size := h.head.lt
 have hz1 : (w.alloc (.cells #[.int .i64 0, .int .i64 env, .int .i64 f, .int .i64 off, .int .i64 n, .string ⟨l.toArray⟩] 111)).heap.size = w.heap.size + 1 := by simp
 generalize hw1 : w.alloc (.cells #[.int .i64 0, .int .i64 env, .int .i64 f, .int .i64 off, .int .i64 n, .string ⟨l.toArray⟩] 111) = w1 at *
 have HW1 := Lib.hid hw1
 have T := Lib.hid hT
 have K := Lib.hid hK
 have a0 := hA.cell 0
 have a1 := hA.cell 1
 have a2 := hA.cell 2
 have a3 := hA.cell 3
 have a4 := hA.cell 4
 have a5 := hA.cell 5
 simp only [List.getElem?_toArray, List.getElem?_cons_zero, List.getElem?_cons_succ] at a0 a1 a2 a3 a4 a5
 have hga' : w.heap.size < w1.heap.size := hA.lt
 obtain ⟨c0, c1, c2⟩ := hT.heads
 have hlen := h.len
 have HM := Lib.hid hfull
 have f1 := hT.own.frozen k
 have oto : env.toNat ≤ 2 := by rcases hE with e | e <;> omega
 have eto : ((env.toNat : Nat) : Int) = env := by rcases hE with e | e <;> rw [e] <;> rfl
 have fin := fin_own hT hK hk env.toNat oto
 rw [eto] at fin
 have FIN := Lib.hid fin
 have OC := hT.ownC hk
 rw [h0] at OC
 clear hfull fin eto oto
 clear h hT hK hA hw1
 go_enter Tryz.func41, Tryz.ntmps41
 go_upto_region 1 with fail
 rw [HW1.out]
 go_cut [7] (fun s7 wx => s7 = .bool true ∧ wx = w1)
 case first =>
  have HE := Lib.hid hE
  by_cases q1 : env = 1
  ·subst q1
   go_wp2_with fail
   go_meet
   exact ⟨rfl, rfl⟩
  ·have q2 : env = 2 := by rcases HE.out with e | e; exact absurd e q1; exact e
   subst q2
   clear q1
   go_wp2_with fail
   go_meet
   exact ⟨rfl, rfl⟩
 case rest =>
  obtain ⟨rfl, rfl⟩ := hcut
  clear hE
  go_wp2
  go_loopw [8] (fun i wr => ∃ (j : Nat), j ≤ k ∧ i = .int .i64 (j : Int) ∧ wr = wc) (fun i _ => ps.length - (intOf i).toNat)
  case atStart => exact ⟨0, Nat.zero_le _, rfl, rfl⟩
  case round =>
   obtain ⟨j, hj, rfl, rfl⟩ := hrel
   have hlt' : (j : Int) < (ps.length : Int) := by omega
   have j0 : (0 : Int) ≤ (j : Int) := by omega
   by_cases hlt : j < k
   ·have o1 := T.out.ownC (k := j) (by omega)
    have ho := HM.out j (by omega) hlt
    have ho' : ((ps[j].owner : Int) == 0) = false := by simpa using ho
    have x1 := IntWalk.i64_in ((j : Int) + 1) (by omega)
    generalize (ps[j].owner : Int) = v at *
    clear ho OC
    go_wp2
    go_roundw
    case rel => exact ⟨j + 1, by omega, by simp, by first | rfl | trivial⟩
    case measure => simp [intOf]; omega
   ·obtain rfl : j = k := by omega
    go_upto_region 9 with fail
    refine wp_region_still_tail 8 (by kernel_rfl) (by kernel_rfl) ?_
    change wpStill _ _ wr.drew (fun a' => wpList _ _ _ _ a' wr.drew) _ _
    simp only [List.take_succ_cons, List.take_zero, List.drop_succ_cons, List.drop_zero]
    repeat still_step
    refine wpStill_nil ?_
    go_wp2
    go_ret3
    obtain ⟨W, rfl, r1, r2⟩ := FIN.out 0 1
    exact ⟨rfl, r1, r2⟩
end
end Go.Proofs.YtbkjjakkihbcdaaGreat.RD

/- The document's Do: what any call answers. Conditions: those that each states. -/
namespace Go.Proofs.YtbkjjakkihbcdaaGreat.RD
open Go.ChangeShapes Go.WideShapes Go.ChangeAt Go.RowKit Go.Deep Fr
set_option linter.unusedVariables false
section
variable {gm bo bh bb co ch cb : Nat} {ps : List Pg} {w : World}
abbrev Did (w : World) (gm bo bh bb co ch cb : Nat) (kind env f off n : Int) (l : List UInt8) (r : List Pg × Int × List UInt8 × Int) : Prop :=
 Calls Tryz.prog 41 #[.pointer (some ⟨gm, 0, none⟩), .agg #[.int .i64 kind, .int .i64 env, .int .i64 f, .int .i64 off, .int .i64 n, .string ⟨l.toArray⟩]] w fun e w' =>
  e = .returned (.tuple #[.int .i64 r.2.1, .string ⟨r.2.2.1.toArray⟩, .int .i64 r.2.2.2]) ∧ RefT w' gm bo bh bb co ch cb r.1 ∧ Chg w w' (Three bo bh bb)
theorem own_err (h : RefT w gm bo bh bb co ch cb ps) (kind env f off n : Int) (l : List UInt8) (k6 : kind < 6) (kn : kind ≠ 0) (he : ownErr ps env f ≠ 0) :
  Did w gm bo bh bb co ch cb kind env f off n l (ps, 0, [], ownErr ps env f) := by
 by_cases hE : isE env
 ·by_cases h1 : f < 0
  ·have e1 : ownErr ps env f = 1 := if_neg (fun x => by have := x.2.1; omega)
   rw [e1]
   exact f_neg h kind env f off n l k6 kn hE h1
  ·by_cases h2 : (ps.length : Int) ≤ f
   ·have e1 : ownErr ps env f = 1 := if_neg (fun x => by have := x.2.2; omega)
    rw [e1]
    exact f_big h kind env f off n l k6 kn hE h1 h2
   ·obtain ⟨k, rfl⟩ : ∃ k : Nat, f = (k : Int) := ⟨f.toNat, by omega⟩
    have hk : k < ps.length := by omega
    have ho : ¬ (ps[k].owner : Int) = env := by
     intro e
     apply he
     unfold ownErr
     rw [if_pos ⟨hE, ⟨by omega, by omega⟩⟩, pg_at hk, if_pos e]
    have e20 : ownErr ps env k = 20 := by
     unfold ownErr
     rw [if_pos ⟨hE, ⟨by omega, by omega⟩⟩, pg_at hk, if_neg ho]
    rw [e20]
    exact own_no h kind env k off n l k6 kn hE k hk rfl ho
 ·have e1 : ownErr ps env f = 1 := if_neg (fun x => hE x.1)
  rw [e1]
  exact env_no h kind env f off n l k6 hE
theorem held_err (h : RefT w gm bo bh bb co ch cb ps) (kind env f off n : Int) (l : List UInt8) (k7 : 6 ≤ kind) (he : ¬ isH ps f) :
  Did w gm bo bh bb co ch cb kind env f off n l (ps, 0, [], 1) := by
 by_cases h1 : f < 0
 ·exact f_neg7 h kind env f off n l k7 h1
 ·by_cases h2 : (ps.length : Int) ≤ f
  ·exact f_big7 h kind env f off n l k7 h1 h2
  ·obtain ⟨k, rfl⟩ : ∃ k : Nat, f = (k : Int) := ⟨f.toNat, by omega⟩
   have hk : k < ps.length := by omega
   have hh : ps[k].holds = 0 := by
    by_cases e : ps[k].holds = 0
    ·exact e
    ·exact absurd ⟨⟨by omega, by omega⟩, by rw [pg_at hk]; exact e⟩ he
   exact hold_no h kind env k off n l k7 k hk rfl hh
theorem isH_nat {f : Int} (he : isH ps f) : ∃ k : Nat, ∃ hk : k < ps.length, f = (k : Int) ∧ ps[k].holds ≠ 0 := by
 obtain ⟨k, rfl⟩ : ∃ k : Nat, f = (k : Int) := ⟨f.toNat, by have := he.1.1; omega⟩
 have hk : k < ps.length := by have := he.1.2; omega
 exact ⟨k, hk, rfl, by have := he.2; rwa [pg_at hk] at this⟩
theorem isIn_nat {off n : Int} (h : isIn off n) : ∃ o m : Nat, off = (o : Int) ∧ n = (m : Int) ∧ o + m ≤ 256 :=
 ⟨off.toNat, n.toNat, by have := h.1; omega, by have := h.2.1; omega, by have := h.2.2; have := h.1; have := h.2.1; omega⟩

theorem refDo_list (h : RefT w gm bo bh bb co ch cb ps) (kind env f off n : Int) (l : List UInt8) (k0 : 0 ≤ kind) (k7 : kind ≤ 7) (hm : ∀ p ∈ ps, p.holds < 1000000) :
  Did w gm bo bh bb co ch cb kind env f off n l (doR ps ⟨kind, env, f, off, n, ⟨l.toArray⟩⟩) := by
 have hl : (⟨l.toArray⟩ : ByteArray).data.toList = l := rfl
 by_cases q0 : kind = 0
 ·subst q0
  show Did _ _ _ _ _ _ _ _ _ _ _ _ _ _ ((allocR ps env).1, (allocR ps env).2.1, [], (allocR ps env).2.2)
  unfold allocR
  by_cases hE : isE env
  ·rw [if_pos hE]
   cases hf : ps.findIdx? (fun p => p.owner == 0) with
   | none =>
    refine alloc_full h env f off n l hE fun x hx => ?_
    have := (List.findIdx?_eq_none_iff.1 hf) ps[x] (List.getElem_mem hx)
    simpa using this
   | some k =>
    obtain ⟨hk, ho, hmin⟩ := List.findIdx?_eq_some_iff_getElem.1 hf
    simp only [pg_at hk]
    exact alloc_ok h env f off n l hE k hk (by simpa using ho) fun x hx hlt => by have := hmin x hlt; simpa using this
  ·rw [if_neg hE]
   exact env_no h 0 env f off n l (by decide) hE
 by_cases q1 : kind = 1
 ·subst q1
  show Did _ _ _ _ _ _ _ _ _ _ _ _ _ _ ((freeR ps env f).1, 0, [], (freeR ps env f).2)
  unfold freeR
  by_cases he : ownErr ps env f = 0
  ·obtain ⟨k, hk, rfl, hE, ho⟩ := ownErr_zero he
   rw [if_pos he, pg_at hk, Int.toNat_natCast]
   by_cases hh : ps[k].holds = 0
   ·rw [if_pos hh]; exact free_ok h env k off n l k hk rfl hE ho hh
   ·rw [if_neg hh]; exact free_busy h env k off n l k hk rfl hE ho hh
  ·rw [if_neg he]; exact own_err h 1 env f off n l (by decide) (by decide) he
 by_cases q2 : kind = 2
 ·subst q2
  show Did _ _ _ _ _ _ _ _ _ _ _ _ _ _ ((giveR ps env f n).1, 0, [], (giveR ps env f n).2)
  unfold giveR
  by_cases he : ownErr ps env f = 0
  ·obtain ⟨k, hk, rfl, hE, ho⟩ := ownErr_zero he
   rw [if_pos he, pg_at hk, Int.toNat_natCast]
   by_cases hto : isE n
   ·rw [if_pos hto]
    by_cases hh : ps[k].holds = 0
    ·rw [if_pos hh]; exact give_ok h env k off n l k hk rfl hE ho hto hh
    ·rw [if_neg hh]; exact give_busy h env k off n l k hk rfl hE ho hto hh
   ·rw [if_neg hto]; exact give_bad h env k off n l k hk rfl hE ho hto
  ·rw [if_neg he]; exact own_err h 2 env f off n l (by decide) (by decide) he
 by_cases q3 : kind = 3
 ·subst q3
  show Did _ _ _ _ _ _ _ _ _ _ _ _ _ _ (ps, 0, (readR ps env f off n).1, (readR ps env f off n).2)
  unfold readR
  by_cases he : ownErr ps env f = 0
  ·obtain ⟨k, hk, rfl, hE, ho⟩ := ownErr_zero he
   rw [if_pos he, pg_at hk]
   by_cases hin : isIn off n
   ·obtain ⟨o, m, rfl, rfl, hfit⟩ := isIn_nat hin
    rw [if_pos hin, Int.toNat_natCast, Int.toNat_natCast]
    exact read_ok h env k o m l k hk rfl hE ho o m rfl rfl hfit
   ·rw [if_neg hin]; exact read_out h env k off n l k hk rfl hE ho hin
  ·rw [if_neg he]; exact own_err h 3 env f off n l (by decide) (by decide) he
 by_cases q4 : kind = 4
 ·subst q4
  show Did _ _ _ _ _ _ _ _ _ _ _ _ _ _ ((writeR ps env f off l).1, 0, [], (writeR ps env f off l).2)
  unfold writeR
  by_cases he : ownErr ps env f = 0
  ·obtain ⟨k, hk, rfl, hE, ho⟩ := ownErr_zero he
   rw [if_pos he, pg_at hk, Int.toNat_natCast]
   by_cases hin : isIn off (l.length : Int)
   ·rw [if_pos hin]
    by_cases hh : ps[k].holds = 0
    ·obtain ⟨o, m, rfl, em, hfit⟩ := isIn_nat hin
     rw [if_pos hh, Int.toNat_natCast]
     exact write_ok h env k o n l k hk rfl hE ho hh o rfl (by omega)
    ·rw [if_neg hh]; exact write_busy h env k off n l k hk rfl hE ho hin hh
   ·rw [if_neg hin]; exact write_out h env k off n l k hk rfl hE ho hin
  ·rw [if_neg he]; exact own_err h 4 env f off n l (by decide) (by decide) he
 by_cases q5 : kind = 5
 ·subst q5
  show Did _ _ _ _ _ _ _ _ _ _ _ _ _ _ ((holdR ps env f).1, 0, [], (holdR ps env f).2)
  unfold holdR
  by_cases he : ownErr ps env f = 0
  ·obtain ⟨k, hk, rfl, hE, ho⟩ := ownErr_zero he
   rw [if_pos he, pg_at hk, Int.toNat_natCast]
   exact hold_ok h env k off n l k hk rfl hE ho (hm _ (List.getElem_mem hk))
  ·rw [if_neg he]; exact own_err h 5 env f off n l (by decide) (by decide) he
 by_cases q6 : kind = 6
 ·subst q6
  show Did _ _ _ _ _ _ _ _ _ _ _ _ _ _ ((dropR ps f).1, 0, [], (dropR ps f).2)
  unfold dropR
  by_cases he : isH ps f
  ·obtain ⟨k, hk, rfl, hh⟩ := isH_nat he
   rw [if_pos he, pg_at hk, Int.toNat_natCast]
   exact drop_ok h env k off n l k hk rfl hh
  ·rw [if_neg he]; exact held_err h 6 env f off n l (by decide) he
 have q7 : kind = 7 := by omega
 subst q7
 show Did _ _ _ _ _ _ _ _ _ _ _ _ _ _ (ps, 0, (fetchR ps f off n).1, (fetchR ps f off n).2)
 unfold fetchR
 by_cases he : isH ps f
 ·obtain ⟨k, hk, rfl, hh⟩ := isH_nat he
  rw [if_pos he, pg_at hk]
  by_cases hin : isIn off n
  ·obtain ⟨o, m, rfl, rfl, hfit⟩ := isIn_nat hin
   rw [if_pos hin, Int.toNat_natCast, Int.toNat_natCast]
   exact fetch_ok h env k o m l k hk rfl hh o m rfl rfl hfit
  ·rw [if_neg hin]; exact fetch_out h env k off n l k hk rfl hh hin
 ·rw [if_neg he]; exact held_err h 7 env f off n l (by decide) he
theorem refDo_any (h : RefT w gm bo bh bb co ch cb ps) (kind env f off n : Int) (s : ByteArray) (k0 : 0 ≤ kind) (k7 : kind ≤ 7) (hm : ∀ p ∈ ps, p.holds < 1000000) :
  Calls Tryz.prog 41 #[.pointer (some ⟨gm, 0, none⟩), .agg #[.int .i64 kind, .int .i64 env, .int .i64 f, .int .i64 off, .int .i64 n, .string s]] w fun e w' =>
   e = .returned (.tuple #[.int .i64 (doR ps ⟨kind, env, f, off, n, s⟩).2.1, .string ⟨(doR ps ⟨kind, env, f, off, n, s⟩).2.2.1.toArray⟩, .int .i64 (doR ps ⟨kind, env, f, off, n, s⟩).2.2.2]) ∧ RefT w' gm bo bh bb co ch cb (doR ps ⟨kind, env, f, off, n, s⟩).1 ∧ Chg w w' (Three bo bh bb) := by
 obtain ⟨l, rfl⟩ : ∃ l : List UInt8, s = ⟨l.toArray⟩ := ⟨s.data.toList, by simp⟩
 exact refDo_list h kind env f off n l k0 k7 hm
end
end Go.Proofs.YtbkjjakkihbcdaaGreat.RD
