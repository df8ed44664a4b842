/- The document's layer 8: Within, Size, Check. Conditions: those that each states. -/
import Derived.Test.YtbkjjakkihbcdaaGreatMAF
import Derived.Test.YtbkjjakkihbcdaaGreatMFD
namespace Go.Proofs.YtbkjjakkihbcdaaGreat
open Go.ChangeShapes Go.WideShapes Go.ChangeAt Go.RowKit Go.Deep Fr
set_option linter.unusedVariables false

set_option maxRecDepth 100000 in
theorem gwithin_any (p : Pc) (hp : p.Ok) (w : World) :
  Calls Tryz.prog 95 #[.agg #[.int .i64 p.frame, .int .i64 p.off, .int .i64 p.len]] w fun e w' => e = .returned (.bool (decide p.In)) ∧ Below w.heap.size w w' := by
 have B0 := Lib.hid ((Below.refl w.heap.size w).alloc (Nat.le_refl _) (.cells #[.int .i64 p.frame, .int .i64 p.off, .int .i64 p.len] 180))
 obtain ⟨o1, o2⟩ := hp.off
 by_cases g0 : p.off ≥ 0
 ·skip
  by_cases g1 : p.off ≤ 256
  ·skip
   by_cases g2 : p.len ≥ 0
   ·skip
    by_cases g3 : p.len ≤ 256
    ·skip
     have x0 : IntKind.i64.wrap (p.off + p.len) = p.off + p.len := IntWalk.i64_in _ (by omega)
     by_cases g4 : p.off + p.len ≤ 256
     ·have e : decide p.In = true := decide_eq_true (by unfold Pc.In; omega)
      rw [e]
      clear o1 o2 hp e
      go_enter Tryz.func95, Tryz.ntmps95
      go_wp2
      go_ret
      exact ⟨rfl, B0.out⟩
     ·have e : decide p.In = false := decide_eq_false (by unfold Pc.In; omega)
      rw [e]
      clear o1 o2 hp e
      go_enter Tryz.func95, Tryz.ntmps95
      go_wp2
      go_ret
      exact ⟨rfl, B0.out⟩
    ·have e : decide p.In = false := decide_eq_false (by unfold Pc.In; omega)
     rw [e]
     clear o1 o2 hp e
     go_enter Tryz.func95, Tryz.ntmps95
     go_wp2
     go_ret
     exact ⟨rfl, B0.out⟩
   ·have e : decide p.In = false := decide_eq_false (by unfold Pc.In; omega)
    rw [e]
    clear o1 o2 hp e
    go_enter Tryz.func95, Tryz.ntmps95
    go_wp2
    go_ret
    exact ⟨rfl, B0.out⟩
  ·have e : decide p.In = false := decide_eq_false (by unfold Pc.In; omega)
   rw [e]
   clear o1 o2 hp e
   go_enter Tryz.func95, Tryz.ntmps95
   go_wp2
   go_ret
   exact ⟨rfl, B0.out⟩
 ·have e : decide p.In = false := decide_eq_false (by unfold Pc.In; omega)
  rw [e]
  clear o1 o2 hp e
  go_enter Tryz.func95, Tryz.ntmps95
  go_wp2
  go_ret
  exact ⟨rfl, B0.out⟩

theorem sizeR_big {l : List Pc} {j : Nat} (hj : j < l.length) (h : 1048576 ≤ total (l.take j) + l[j].len.toNat) : sizeR l = 1048576 := by
 have h1 := total_take_le l (j + 1)
 rw [total_take_succ hj] at h1
 unfold sizeR
 rw [if_pos (by omega)]
set_option maxRecDepth 100000 in
set_option maxHeartbeats 2000000 in
theorem gsize_any (A : Option Addr) (c : Nat) (l : List Pc) (w : World) (hp : Pcs w A l) (hok : ∀ p ∈ l, p.Ok) (hmax : l.length ≤ 1000000) :
  Calls Tryz.prog 103 #[.slice A l.length c] w fun e w' => e = .returned (.int .i64 (sizeR l)) ∧ w' = w := by
 have P := Lib.hid hp
 have OK := Lib.hid hok
 clear hp hok
 go_enter Tryz.func103, Tryz.ntmps103
 go_wp2
 go_loopw [3, 4] (fun s i wr => ∃ (j q : Nat), j ≤ l.length ∧ i = .int .i64 (j : Int) ∧ s = .int .i64 (q : Int) ∧ Hid (q = total (l.take j) ∧ q < 1048576) ∧ wr = w) (fun _ i _ => l.length - (intOf i).toNat)
 case atStart => exact ⟨0, 0, Nat.zero_le _, rfl, rfl, Lib.hid ⟨rfl, by omega⟩, rfl⟩
 case round =>
  obtain ⟨j, q, hj, rfl, rfl, hq, rfl⟩ := hrel
  by_cases hlt : j < l.length
  ·have hlt' : (j : Int) < (l.length : Int) := by omega
   have j0 : (0 : Int) ≤ (j : Int) := by omega
   have xj := IntWalk.i64_in ((j : Int) + 1) (by omega)
   have hq1 := hq.out.2
   have hs := total_take_succ hlt
   have hbig := sizeR_big hlt
   rw [← hq.out.1] at hs hbig
   obtain ⟨b, o, rfl, hbl, c0, c1, c2⟩ := P.out.cells hlt
   have x0 : IntKind.i64.wrap (1048576 - (q : Int)) = 1048576 - (q : Int) := IntWalk.i64_in _ (by omega)
   have HS := Lib.hid hs
   have BIG := Lib.hid hbig
   generalize l[j].frame = qf at *
   generalize l[j].off = qo at *
   generalize l[j].len = qn at *
   clear hs hbig hq
   by_cases g1 : qn > 0
   ·by_cases g2 : qn ≥ 1048576 - (q : Int)
    ·have E := Lib.hid (BIG.out (by omega))
     go_wp2
     go_ret
     exact ⟨by rw [E.out]; rfl, rfl⟩
    ·obtain ⟨k, rfl⟩ : ∃ k : Nat, qn = (k : Int) := ⟨qn.toNat, by omega⟩
     have x1 : IntKind.i64.wrap ((q : Int) + (k : Int)) = (q : Int) + (k : Int) := IntWalk.i64_in _ (by omega)
     have R : Hid (q + k = total (l.take (j + 1)) ∧ q + k < 1048576) := Lib.hid ⟨by rw [HS.out, Int.toNat_natCast], by omega⟩
     go_wp2
     go_roundw
     case rel => exact ⟨j + 1, q + k, by omega, by simp, by simp, R, by first | rfl | trivial⟩
     case measure => simp [intOf]; omega
   ·have R : Hid (q = total (l.take (j + 1)) ∧ q < 1048576) := Lib.hid ⟨by rw [HS.out]; omega, by omega⟩
    go_wp2
    go_roundw
    case rel => exact ⟨j + 1, q, by omega, by simp, by simp, R, by first | rfl | trivial⟩
    case measure => simp [intOf]; omega
  ·have hge : ¬ (j : Int) < (l.length : Int) := by omega
   obtain rfl : j = l.length := by omega
   have e : sizeR l = (q : Int) := by
    have h1 := hq.out.1
    have h2 := hq.out.2
    rw [List.take_length] at h1
    unfold sizeR
    rw [if_neg (by omega), h1]
   have E := Lib.hid e
   clear e hq
   go_wp2
   go_ret
   exact ⟨by rw [E.out]; rfl, rfl⟩

section
variable {gm bo bh bb co ch cb : Nat} {ps : List Pg} {w : World}
theorem fits_iff (n : Nat) (p : Pc) : p.Fits n ↔ p.len ≠ 0 ∧ p.In ∧ 0 ≤ p.frame ∧ p.frame < n := by
 unfold Pc.Fits Pc.In
 constructor
 ·rintro ⟨h1, h2, h3⟩
  exact ⟨by omega, h2, h3⟩
 ·rintro ⟨h1, h2, h3⟩
  exact ⟨by omega, h2, h3⟩
theorem checkR_fits {env : Int} {l : List Pc} (h : fitsR ps.length env l ≠ 0) : checkR ps env l = fitsR ps.length env l := by unfold checkR; rw [if_neg h]
set_option maxRecDepth 100000 in
set_option maxHeartbeats 4000000 in
theorem gcheck_any (h : RefT w gm bo bh bb co ch cb ps) (env : Int) (A : Option Addr) (c : Nat) (l : List Pc) (hp : Pcs w A l) (hok : ∀ p ∈ l, p.Ok) (hmax : l.length ≤ 1000000) :
  Calls Tryz.prog 86 #[.pointer (some ⟨gm, 0, none⟩), .int .i64 env, .slice A l.length c] w fun e w' => e = .returned (.int .i64 (checkR ps env l)) ∧ Below w.heap.size w w' := by
 have T := Lib.hid h
 have n2 := h.len
 have P := Lib.hid hp
 have OK := Lib.hid hok
 have B0 := Lib.hid (Below.refl w.heap.size w)
 have WI := Lib.hid gwithin_any
 clear hp hok h
 by_cases e1 : env < 1
 ·have NB := Lib.hid (show checkR ps env l = 1 by rw [checkR_fits (by rw [fitsR_env (by omega)]; omega)]; exact fitsR_env (by omega))
  go_enter Tryz.func86, Tryz.ntmps86
  go_wp2
  go_ret
  exact ⟨by rw [NB.out]; rfl, B0.out⟩
 by_cases e2 : env > 2
 ·have NB := Lib.hid (show checkR ps env l = 1 by rw [checkR_fits (by rw [fitsR_env (by omega)]; omega)]; exact fitsR_env (by omega))
  go_enter Tryz.func86, Tryz.ntmps86
  go_wp2
  go_ret
  exact ⟨by rw [NB.out]; rfl, B0.out⟩
 have he : env = 1 ∨ env = 2 := by omega
 by_cases e3 : l.length = 0
 ·have el := List.eq_nil_of_length_eq_zero e3
  have NB := Lib.hid (show checkR ps env l = 1 by rw [el, checkR_fits (by rw [fitsR_nil]; omega)]; exact fitsR_nil)
  rw [e3]
  clear he el
  go_enter Tryz.func86, Tryz.ntmps86
  go_wp2
  go_ret
  exact ⟨by rw [NB.out]; rfl, B0.out⟩
 have hne : l ≠ [] := fun e => e3 (by rw [e]; rfl)
 have e4 : ((l.length : Int) == 0) = false := by simpa using e3
 have HE := Lib.hid (And.intro he hne)
 clear he hne
 go_enter Tryz.func86, Tryz.ntmps86
 go_wp2
 go_loopw [7] (fun i wr => ∃ (j : Nat), j ≤ l.length ∧ i = .int .i64 (j : Int) ∧ Hid (∀ x (hx : x < l.length), x < j → l[x].Fits ps.length) ∧ Hid (Below w.heap.size w wr)) (fun i _ => l.length - (intOf i).toNat)
 case atStart => exact ⟨0, Nat.zero_le _, rfl, Lib.hid (fun x hx h => absurd h (by omega)), B0⟩
 case round =>
  clear B0
  obtain ⟨j, hj, rfl, hg, HB⟩ := hrel
  have hgs : w.heap.size ≤ wr.heap.size := HB.out.size
  have P1 := Lib.hid (P.out.new HB.out)
  by_cases hlt : j < l.length
  ·have hlt' : (j : Int) < (l.length : Int) := by omega
   have j0 : (0 : Int) ≤ (j : Int) := by omega
   have xj := IntWalk.i64_in ((j : Int) + 1) (by omega)
   obtain ⟨b, o, rfl, hbl, c0, c1, c2⟩ := P1.out.cells hlt
   have T1 := T.out.new HB.out
   have cg := T1.heads.1
   have STEP := Lib.hid (fun (W : World) (hb : Below wr.heap.size wr W) => show (W.cell? ⟨b, o + j * 3, none⟩ = some (.int .i64 l[j].frame) ∧ W.cell? ⟨b, o + j * 3 + 1, none⟩ = some (.int .i64 l[j].off) ∧ W.cell? ⟨b, o + j * 3 + 2, none⟩ = some (.int .i64 l[j].len) ∧ W.cell? ⟨gm, 0, none⟩ = some (.slice (some ⟨bo, 0, none⟩) ps.length co)) ∧ Hid (Below wr.heap.size wr W) from
    ⟨⟨(hb.cell (p := ⟨b, o + j * 3, none⟩) hbl).trans c0, (hb.cell (p := ⟨b, o + j * 3 + 1, none⟩) hbl).trans c1, (hb.cell (p := ⟨b, o + j * 3 + 2, none⟩) hbl).trans c2, (hb.cell (p := ⟨gm, 0, none⟩) T1.head.lt).trans cg⟩, Lib.hid hb⟩)
   have W2 := Lib.hid (WI.out l[j] (OK.out _ (List.getElem_mem hlt)))
   have BAD := Lib.hid (fun (h1 : ¬ l[j].Fits ps.length) => show checkR ps env l = 1 by
    rw [checkR_fits (by rw [fitsR_bad (List.getElem_mem hlt) h1]; omega)]
    exact fitsR_bad (List.getElem_mem hlt) h1)
   have GD := Lib.hid (show (l[j].len ≠ 0 → l[j].Fits ps.length) → l[j].len ≠ 0 → ∀ x (hx : x < l.length), x < j + 1 → l[x].Fits ps.length from fun h1 h2 x hx h => by
    by_cases e : x = j
    ·subst e; exact h1 h2
    ·exact hg.out x hx (by omega))
   generalize hI : decide l[j].In = I at *
   have hIt : l[j].In ↔ I = true := by rw [← hI]; simp
   have GE := Lib.hid (show l[j].Fits ps.length ↔ l[j].len ≠ 0 ∧ I = true ∧ 0 ≤ l[j].frame ∧ l[j].frame < ps.length from by rw [fits_iff, hIt])
   generalize l[j].Fits ps.length = G at *
   generalize l[j].frame = qf at *
   generalize l[j].off = qo at *
   generalize l[j].len = qn at *
   clear hI hIt hg WI T1
   by_cases g1 : qn = 0
   ·have gd1 : (qn == 0) = true := by simp [g1]
    have NB := Lib.hid (BAD.out (fun h => by have := (GE.out.1 h).1; omega))
    go_upto_region 6 with fail
    refine wp_region_held_drew (S := fun w' => (w'.cell? ⟨b, o + j * 3, none⟩ = some (.int .i64 qf) ∧ w'.cell? ⟨b, o + j * 3 + 1, none⟩ = some (.int .i64 qo) ∧ w'.cell? ⟨b, o + j * 3 + 2, none⟩ = some (.int .i64 qn) ∧ w'.cell? ⟨gm, 0, none⟩ = some (.slice (some ⟨bo, 0, none⟩) ps.length co)) ∧ Hid (Below wr.heap.size wr w')) (by kernel_rfl) (STEP.out _ (show Below wr.heap.size wr wr.drew from ⟨rfl, rfl, rfl, Nat.le_refl _, fun _ _ => rfl⟩)) (fun hH => ?_)
    refine ht 0 (some 26) (v := ?_) rfl rfl ?_ hH ?_
    rotate_left
    ·intro w' hSw; go_simp <;> with_reducible rfl
    refine ht 1 (some 27) (v := ?_) rfl rfl ?_ hH ?_
    rotate_left
    ·intro w' hSw; go_simp <;> with_reducible rfl
    simp only [Act.put, List.setIfInBounds_toArray, List.set_cons_zero, List.set_cons_succ]
    refine ht 2 (some 28) (v := ?_) rfl rfl ?_ hH ?_
    rotate_left
    ·intro w' hSw; go_simp <;> with_reducible rfl
    refine ht 3 (some 29) (v := ?_) rfl rfl ?_ hH ?_
    rotate_left
    ·intro w' hSw; go_simp <;> with_reducible rfl
    simp only [Act.put, List.setIfInBounds_toArray, List.set_cons_zero, List.set_cons_succ]
    refine ht 4 (some 30) (v := ?_) rfl rfl ?_ hH ?_
    rotate_left
    ·intro w' hSw; go_simp <;> with_reducible rfl
    refine ht 5 (some 31) (v := ?_) rfl rfl ?_ hH ?_
    rotate_left
    ·intro w' hSw; go_simp <;> with_reducible rfl
    simp only [Act.put, List.setIfInBounds_toArray, List.set_cons_zero, List.set_cons_succ]
    refine ht 6 (some 32) (v := ?_) rfl rfl ?_ hH ?_
    rotate_left
    ·intro w' hSw; go_simp <;> with_reducible rfl
    simp only [Act.put, List.setIfInBounds_toArray, List.set_cons_zero, List.set_cons_succ]
    refine held_skip (i := 7) (d := (some 33)) rfl rfl (by kernel_rfl) (by kernel_rfl) (by kernel_rfl) (fun _ _ _ h => h) (by rfl) hH ?_
    simp only [Act.put, List.setIfInBounds_toArray, List.set_cons_zero, List.set_cons_succ]
    refine held_skip (i := 8) (d := (some 34)) rfl rfl (by kernel_rfl) (by kernel_rfl) (by kernel_rfl) (fun _ _ _ h => h) (by rfl) hH ?_
    simp only [Act.put, List.setIfInBounds_toArray, List.set_cons_zero, List.set_cons_succ]
    refine held_skip (i := 9) (d := (some 35)) rfl rfl (by kernel_rfl) (by kernel_rfl) (by kernel_rfl) (fun _ _ _ h => h) (by rfl) hH ?_
    simp only [Act.put, List.setIfInBounds_toArray, List.set_cons_zero, List.set_cons_succ]
    refine held_skip (i := 10) (d := (some 36)) rfl rfl (by kernel_rfl) (by kernel_rfl) (by kernel_rfl) (fun _ _ _ h => h) (by rfl) hH ?_
    simp only [Act.put, List.setIfInBounds_toArray, List.set_cons_zero, List.set_cons_succ]
    refine held_skip (i := 11) (d := (some 37)) rfl rfl (by kernel_rfl) (by kernel_rfl) (by kernel_rfl) (fun _ _ _ h => h) (by rfl) hH ?_
    simp only [Act.put, List.setIfInBounds_toArray, List.set_cons_zero, List.set_cons_succ]
    refine held_skip (i := 12) (d := (some 38)) rfl rfl (by kernel_rfl) (by kernel_rfl) (by kernel_rfl) (fun _ _ _ h => h) (by rfl) hH ?_
    refine ht 13 (some 39) (v := ?_) rfl rfl ?_ hH ?_
    rotate_left
    ·intro w' hSw; go_simp <;> with_reducible rfl
    simp only [Act.put, List.setIfInBounds_toArray, List.set_cons_zero, List.set_cons_succ]
    refine ht 14 (some 40) (v := ?_) rfl rfl ?_ hH ?_
    rotate_left
    ·intro w' hSw; go_simp <;> with_reducible rfl
    simp only [Act.put, List.setIfInBounds_toArray, List.set_cons_zero, List.set_cons_succ]
    refine held_skip (i := 15) (d := (some 41)) rfl rfl (by kernel_rfl) (by kernel_rfl) (by kernel_rfl) (fun _ _ _ h => h) (by rfl) hH ?_
    simp only [Act.put, List.setIfInBounds_toArray, List.set_cons_zero, List.set_cons_succ]
    refine held_skip (i := 16) (d := (some 42)) rfl rfl (by kernel_rfl) (by kernel_rfl) (by kernel_rfl) (fun _ _ _ h => h) (by rfl) hH ?_
    simp only [Act.put, List.setIfInBounds_toArray, List.set_cons_zero, List.set_cons_succ]
    refine held_skip (i := 17) (d := (some 43)) rfl rfl (by kernel_rfl) (by kernel_rfl) (by kernel_rfl) (fun _ _ _ h => h) (by rfl) hH ?_
    simp only [Act.put, List.setIfInBounds_toArray, List.set_cons_zero, List.set_cons_succ]
    refine held_skip (i := 18) (d := (some 44)) rfl rfl (by kernel_rfl) (by kernel_rfl) (by kernel_rfl) (fun _ _ _ h => h) (by rfl) hH ?_
    simp only [Act.put, List.setIfInBounds_toArray, List.set_cons_zero, List.set_cons_succ]
    refine held_skip (i := 19) (d := (some 45)) rfl rfl (by kernel_rfl) (by kernel_rfl) (by kernel_rfl) (fun _ _ _ h => h) (by rfl) hH ?_
    simp only [Act.put, List.setIfInBounds_toArray, List.set_cons_zero, List.set_cons_succ]
    refine held_skip (i := 20) (d := (some 46)) rfl rfl (by kernel_rfl) (by kernel_rfl) (by kernel_rfl) (fun _ _ _ h => h) (by rfl) hH ?_
    refine ht 21 (some 47) (v := ?_) rfl rfl ?_ hH ?_
    rotate_left
    ·intro w' hSw; go_simp <;> with_reducible rfl
    simp only [Act.put, List.setIfInBounds_toArray, List.set_cons_zero, List.set_cons_succ]
    refine ht 22 (some 48) (v := ?_) rfl rfl ?_ hH ?_
    rotate_left
    ·intro w' hSw; go_simp <;> with_reducible rfl
    simp only [Act.put, List.setIfInBounds_toArray, List.set_cons_zero, List.set_cons_succ]
    refine held_skip (i := 23) (d := (some 49)) rfl rfl (by kernel_rfl) (by kernel_rfl) (by kernel_rfl) (fun _ _ _ h => h) (by rfl) hH ?_
    simp only [Act.put, List.setIfInBounds_toArray, List.set_cons_zero, List.set_cons_succ]
    refine held_skip (i := 24) (d := (some 50)) rfl rfl (by kernel_rfl) (by kernel_rfl) (by kernel_rfl) (fun _ _ _ h => h) (by rfl) hH ?_
    simp only [Act.put, List.setIfInBounds_toArray, List.set_cons_zero, List.set_cons_succ]
    refine held_skip (i := 25) (d := (some 51)) rfl rfl (by kernel_rfl) (by kernel_rfl) (by kernel_rfl) (fun _ _ _ h => h) (by rfl) hH ?_
    simp only [Act.put, List.setIfInBounds_toArray, List.set_cons_zero, List.set_cons_succ]
    refine held_skip (i := 26) (d := (some 52)) rfl rfl (by kernel_rfl) (by kernel_rfl) (by kernel_rfl) (fun _ _ _ h => h) (by rfl) hH ?_
    simp only [Act.put, List.setIfInBounds_toArray, List.set_cons_zero, List.set_cons_succ]
    refine held_skip (i := 27) (d := (some 53)) rfl rfl (by kernel_rfl) (by kernel_rfl) (by kernel_rfl) (fun _ _ _ h => h) (by rfl) hH ?_
    simp only [Act.put, List.setIfInBounds_toArray, List.set_cons_zero, List.set_cons_succ]
    refine held_skip (i := 28) (d := (some 54)) rfl rfl (by kernel_rfl) (by kernel_rfl) (by kernel_rfl) (fun _ _ _ h => h) (by rfl) hH ?_
    simp only [Act.put, List.setIfInBounds_toArray, List.set_cons_zero, List.set_cons_succ]
    refine held_skip (i := 29) (d := (some 55)) rfl rfl (by kernel_rfl) (by kernel_rfl) (by kernel_rfl) (fun _ _ _ h => h) (by rfl) hH ?_
    simp only [Act.put, List.setIfInBounds_toArray, List.set_cons_zero, List.set_cons_succ]
    refine held_skip (i := 30) (d := (some 56)) rfl rfl (by kernel_rfl) (by kernel_rfl) (by kernel_rfl) (fun _ _ _ h => h) (by rfl) hH ?_
    simp only [Act.put, List.setIfInBounds_toArray, List.set_cons_zero, List.set_cons_succ]
    refine held_skip (i := 31) (d := (some 57)) rfl rfl (by kernel_rfl) (by kernel_rfl) (by kernel_rfl) (fun _ _ _ h => h) (by rfl) hH ?_
    simp only [Act.put, List.setIfInBounds_toArray, List.set_cons_zero, List.set_cons_succ]
    refine held_skip (i := 32) (d := (some 58)) rfl rfl (by kernel_rfl) (by kernel_rfl) (by kernel_rfl) (fun _ _ _ h => h) (by rfl) hH ?_
    simp only [Act.put, List.setIfInBounds_toArray, List.set_cons_zero, List.set_cons_succ]
    refine held_skip (i := 33) (d := (some 59)) rfl rfl (by kernel_rfl) (by kernel_rfl) (by kernel_rfl) (fun _ _ _ h => h) (by rfl) hH ?_
    refine ht 34 (some 60) (v := ?_) rfl rfl ?_ hH ?_
    rotate_left
    ·intro w' hSw; go_simp <;> with_reducible rfl
    simp only [Act.put, List.setIfInBounds_toArray, List.set_cons_zero, List.set_cons_succ]
    refine wpAnyH_done (by kernel_rfl) ?_ _
    have NOW5 := hH.2
    go_wp2
    go_ret
    exact ⟨by rw [NB.out]; rfl, HB.out.trans (NOW5.out.mono hgs)⟩
   have gd1 : (qn == 0) = false := by simpa using g1
   cases I with
   | false =>
    have NB := Lib.hid (BAD.out (fun h => by have := (GE.out.1 h).2.1; cases this))
    go_upto_region 6 with fail
    refine wp_region_held_drew (S := fun w' => (w'.cell? ⟨b, o + j * 3, none⟩ = some (.int .i64 qf) ∧ w'.cell? ⟨b, o + j * 3 + 1, none⟩ = some (.int .i64 qo) ∧ w'.cell? ⟨b, o + j * 3 + 2, none⟩ = some (.int .i64 qn) ∧ w'.cell? ⟨gm, 0, none⟩ = some (.slice (some ⟨bo, 0, none⟩) ps.length co)) ∧ Hid (Below wr.heap.size wr w')) (by kernel_rfl) (STEP.out _ (show Below wr.heap.size wr wr.drew from ⟨rfl, rfl, rfl, Nat.le_refl _, fun _ _ => rfl⟩)) (fun hH => ?_)
    refine ht 0 (some 26) (v := ?_) rfl rfl ?_ hH ?_
    rotate_left
    ·intro w' hSw; go_simp <;> with_reducible rfl
    refine ht 1 (some 27) (v := ?_) rfl rfl ?_ hH ?_
    rotate_left
    ·intro w' hSw; go_simp <;> with_reducible rfl
    simp only [Act.put, List.setIfInBounds_toArray, List.set_cons_zero, List.set_cons_succ]
    refine ht 2 (some 28) (v := ?_) rfl rfl ?_ hH ?_
    rotate_left
    ·intro w' hSw; go_simp <;> with_reducible rfl
    refine ht 3 (some 29) (v := ?_) rfl rfl ?_ hH ?_
    rotate_left
    ·intro w' hSw; go_simp <;> with_reducible rfl
    simp only [Act.put, List.setIfInBounds_toArray, List.set_cons_zero, List.set_cons_succ]
    refine ht 4 (some 30) (v := ?_) rfl rfl ?_ hH ?_
    rotate_left
    ·intro w' hSw; go_simp <;> with_reducible rfl
    refine ht 5 (some 31) (v := ?_) rfl rfl ?_ hH ?_
    rotate_left
    ·intro w' hSw; go_simp <;> with_reducible rfl
    simp only [Act.put, List.setIfInBounds_toArray, List.set_cons_zero, List.set_cons_succ]
    refine ht 6 (some 32) (v := ?_) rfl rfl ?_ hH ?_
    rotate_left
    ·intro w' hSw; go_simp <;> with_reducible rfl
    refine ht 7 (some 33) (v := ?_) rfl rfl ?_ hH ?_
    rotate_left
    ·intro w' hSw; go_simp <;> with_reducible rfl
    simp only [Act.put, List.setIfInBounds_toArray, List.set_cons_zero, List.set_cons_succ]
    refine ht 8 (some 34) (v := ?_) rfl rfl ?_ hH ?_
    rotate_left
    ·intro w' hSw; go_simp <;> with_reducible rfl
    refine ht 9 (some 35) (v := ?_) rfl rfl ?_ hH ?_
    rotate_left
    ·intro w' hSw; go_simp <;> with_reducible rfl
    simp only [Act.put, List.setIfInBounds_toArray, List.set_cons_zero, List.set_cons_succ]
    refine ht 10 (some 36) (v := ?_) rfl rfl ?_ hH ?_
    rotate_left
    ·intro w' hSw; go_simp <;> with_reducible rfl
    simp only [Act.put, List.setIfInBounds_toArray, List.set_cons_zero, List.set_cons_succ]
    refine held_one (i := 11) (by kernel_rfl) rfl (by rfl) ?_
    go_simp
    refine (W2.out _).mono ?_; rintro e w5 ⟨rfl, b5⟩
    have b6 := hH.2.out.trans (b5.mono hH.2.out.size)
    have hH := STEP.out w5 b6
    clear b5 b6
    refine ⟨hH, ?_⟩
    (try simp only [Act.put, List.setIfInBounds_toArray, List.set_cons_zero, List.set_cons_succ])
    refine ht 12 (some 38) (v := ?_) rfl rfl ?_ hH ?_
    rotate_left
    ·intro w' hSw; go_simp <;> with_reducible rfl
    refine ht 13 (some 39) (v := ?_) rfl rfl ?_ hH ?_
    rotate_left
    ·intro w' hSw; go_simp <;> with_reducible rfl
    simp only [Act.put, List.setIfInBounds_toArray, List.set_cons_zero, List.set_cons_succ]
    refine ht 14 (some 40) (v := ?_) rfl rfl ?_ hH ?_
    rotate_left
    ·intro w' hSw; go_simp <;> with_reducible rfl
    simp only [Act.put, List.setIfInBounds_toArray, List.set_cons_zero, List.set_cons_succ]
    refine held_skip (i := 15) (d := (some 41)) rfl rfl (by kernel_rfl) (by kernel_rfl) (by kernel_rfl) (fun _ _ _ h => h) (by rfl) hH ?_
    simp only [Act.put, List.setIfInBounds_toArray, List.set_cons_zero, List.set_cons_succ]
    refine held_skip (i := 16) (d := (some 42)) rfl rfl (by kernel_rfl) (by kernel_rfl) (by kernel_rfl) (fun _ _ _ h => h) (by rfl) hH ?_
    simp only [Act.put, List.setIfInBounds_toArray, List.set_cons_zero, List.set_cons_succ]
    refine held_skip (i := 17) (d := (some 43)) rfl rfl (by kernel_rfl) (by kernel_rfl) (by kernel_rfl) (fun _ _ _ h => h) (by rfl) hH ?_
    simp only [Act.put, List.setIfInBounds_toArray, List.set_cons_zero, List.set_cons_succ]
    refine held_skip (i := 18) (d := (some 44)) rfl rfl (by kernel_rfl) (by kernel_rfl) (by kernel_rfl) (fun _ _ _ h => h) (by rfl) hH ?_
    simp only [Act.put, List.setIfInBounds_toArray, List.set_cons_zero, List.set_cons_succ]
    refine held_skip (i := 19) (d := (some 45)) rfl rfl (by kernel_rfl) (by kernel_rfl) (by kernel_rfl) (fun _ _ _ h => h) (by rfl) hH ?_
    simp only [Act.put, List.setIfInBounds_toArray, List.set_cons_zero, List.set_cons_succ]
    refine held_skip (i := 20) (d := (some 46)) rfl rfl (by kernel_rfl) (by kernel_rfl) (by kernel_rfl) (fun _ _ _ h => h) (by rfl) hH ?_
    refine ht 21 (some 47) (v := ?_) rfl rfl ?_ hH ?_
    rotate_left
    ·intro w' hSw; go_simp <;> with_reducible rfl
    simp only [Act.put, List.setIfInBounds_toArray, List.set_cons_zero, List.set_cons_succ]
    refine ht 22 (some 48) (v := ?_) rfl rfl ?_ hH ?_
    rotate_left
    ·intro w' hSw; go_simp <;> with_reducible rfl
    simp only [Act.put, List.setIfInBounds_toArray, List.set_cons_zero, List.set_cons_succ]
    refine held_skip (i := 23) (d := (some 49)) rfl rfl (by kernel_rfl) (by kernel_rfl) (by kernel_rfl) (fun _ _ _ h => h) (by rfl) hH ?_
    simp only [Act.put, List.setIfInBounds_toArray, List.set_cons_zero, List.set_cons_succ]
    refine held_skip (i := 24) (d := (some 50)) rfl rfl (by kernel_rfl) (by kernel_rfl) (by kernel_rfl) (fun _ _ _ h => h) (by rfl) hH ?_
    simp only [Act.put, List.setIfInBounds_toArray, List.set_cons_zero, List.set_cons_succ]
    refine held_skip (i := 25) (d := (some 51)) rfl rfl (by kernel_rfl) (by kernel_rfl) (by kernel_rfl) (fun _ _ _ h => h) (by rfl) hH ?_
    simp only [Act.put, List.setIfInBounds_toArray, List.set_cons_zero, List.set_cons_succ]
    refine held_skip (i := 26) (d := (some 52)) rfl rfl (by kernel_rfl) (by kernel_rfl) (by kernel_rfl) (fun _ _ _ h => h) (by rfl) hH ?_
    simp only [Act.put, List.setIfInBounds_toArray, List.set_cons_zero, List.set_cons_succ]
    refine held_skip (i := 27) (d := (some 53)) rfl rfl (by kernel_rfl) (by kernel_rfl) (by kernel_rfl) (fun _ _ _ h => h) (by rfl) hH ?_
    simp only [Act.put, List.setIfInBounds_toArray, List.set_cons_zero, List.set_cons_succ]
    refine held_skip (i := 28) (d := (some 54)) rfl rfl (by kernel_rfl) (by kernel_rfl) (by kernel_rfl) (fun _ _ _ h => h) (by rfl) hH ?_
    simp only [Act.put, List.setIfInBounds_toArray, List.set_cons_zero, List.set_cons_succ]
    refine held_skip (i := 29) (d := (some 55)) rfl rfl (by kernel_rfl) (by kernel_rfl) (by kernel_rfl) (fun _ _ _ h => h) (by rfl) hH ?_
    simp only [Act.put, List.setIfInBounds_toArray, List.set_cons_zero, List.set_cons_succ]
    refine held_skip (i := 30) (d := (some 56)) rfl rfl (by kernel_rfl) (by kernel_rfl) (by kernel_rfl) (fun _ _ _ h => h) (by rfl) hH ?_
    simp only [Act.put, List.setIfInBounds_toArray, List.set_cons_zero, List.set_cons_succ]
    refine held_skip (i := 31) (d := (some 57)) rfl rfl (by kernel_rfl) (by kernel_rfl) (by kernel_rfl) (fun _ _ _ h => h) (by rfl) hH ?_
    simp only [Act.put, List.setIfInBounds_toArray, List.set_cons_zero, List.set_cons_succ]
    refine held_skip (i := 32) (d := (some 58)) rfl rfl (by kernel_rfl) (by kernel_rfl) (by kernel_rfl) (fun _ _ _ h => h) (by rfl) hH ?_
    simp only [Act.put, List.setIfInBounds_toArray, List.set_cons_zero, List.set_cons_succ]
    refine held_skip (i := 33) (d := (some 59)) rfl rfl (by kernel_rfl) (by kernel_rfl) (by kernel_rfl) (fun _ _ _ h => h) (by rfl) hH ?_
    refine ht 34 (some 60) (v := ?_) rfl rfl ?_ hH ?_
    rotate_left
    ·intro w' hSw; go_simp <;> with_reducible rfl
    simp only [Act.put, List.setIfInBounds_toArray, List.set_cons_zero, List.set_cons_succ]
    refine wpAnyH_done (by kernel_rfl) ?_ _
    have NOW5 := hH.2
    go_wp2
    go_ret
    exact ⟨by rw [NB.out]; rfl, HB.out.trans (NOW5.out.mono hgs)⟩
   | true =>
    by_cases g2 : qf < 0
    ·have gd2 := decide_eq_true g2
     have NB := Lib.hid (BAD.out (fun h => by have := (GE.out.1 h).2.2.1; omega))
     go_upto_region 6 with fail
     refine wp_region_held_drew (S := fun w' => (w'.cell? ⟨b, o + j * 3, none⟩ = some (.int .i64 qf) ∧ w'.cell? ⟨b, o + j * 3 + 1, none⟩ = some (.int .i64 qo) ∧ w'.cell? ⟨b, o + j * 3 + 2, none⟩ = some (.int .i64 qn) ∧ w'.cell? ⟨gm, 0, none⟩ = some (.slice (some ⟨bo, 0, none⟩) ps.length co)) ∧ Hid (Below wr.heap.size wr w')) (by kernel_rfl) (STEP.out _ (show Below wr.heap.size wr wr.drew from ⟨rfl, rfl, rfl, Nat.le_refl _, fun _ _ => rfl⟩)) (fun hH => ?_)
     refine ht 0 (some 26) (v := ?_) rfl rfl ?_ hH ?_
     rotate_left
     ·intro w' hSw; go_simp <;> with_reducible rfl
     refine ht 1 (some 27) (v := ?_) rfl rfl ?_ hH ?_
     rotate_left
     ·intro w' hSw; go_simp <;> with_reducible rfl
     simp only [Act.put, List.setIfInBounds_toArray, List.set_cons_zero, List.set_cons_succ]
     refine ht 2 (some 28) (v := ?_) rfl rfl ?_ hH ?_
     rotate_left
     ·intro w' hSw; go_simp <;> with_reducible rfl
     refine ht 3 (some 29) (v := ?_) rfl rfl ?_ hH ?_
     rotate_left
     ·intro w' hSw; go_simp <;> with_reducible rfl
     simp only [Act.put, List.setIfInBounds_toArray, List.set_cons_zero, List.set_cons_succ]
     refine ht 4 (some 30) (v := ?_) rfl rfl ?_ hH ?_
     rotate_left
     ·intro w' hSw; go_simp <;> with_reducible rfl
     refine ht 5 (some 31) (v := ?_) rfl rfl ?_ hH ?_
     rotate_left
     ·intro w' hSw; go_simp <;> with_reducible rfl
     simp only [Act.put, List.setIfInBounds_toArray, List.set_cons_zero, List.set_cons_succ]
     refine ht 6 (some 32) (v := ?_) rfl rfl ?_ hH ?_
     rotate_left
     ·intro w' hSw; go_simp <;> with_reducible rfl
     refine ht 7 (some 33) (v := ?_) rfl rfl ?_ hH ?_
     rotate_left
     ·intro w' hSw; go_simp <;> with_reducible rfl
     simp only [Act.put, List.setIfInBounds_toArray, List.set_cons_zero, List.set_cons_succ]
     refine ht 8 (some 34) (v := ?_) rfl rfl ?_ hH ?_
     rotate_left
     ·intro w' hSw; go_simp <;> with_reducible rfl
     refine ht 9 (some 35) (v := ?_) rfl rfl ?_ hH ?_
     rotate_left
     ·intro w' hSw; go_simp <;> with_reducible rfl
     simp only [Act.put, List.setIfInBounds_toArray, List.set_cons_zero, List.set_cons_succ]
     refine ht 10 (some 36) (v := ?_) rfl rfl ?_ hH ?_
     rotate_left
     ·intro w' hSw; go_simp <;> with_reducible rfl
     simp only [Act.put, List.setIfInBounds_toArray, List.set_cons_zero, List.set_cons_succ]
     refine held_one (i := 11) (by kernel_rfl) rfl (by rfl) ?_
     go_simp
     refine (W2.out _).mono ?_; rintro e w5 ⟨rfl, b5⟩
     have b6 := hH.2.out.trans (b5.mono hH.2.out.size)
     have hH := STEP.out w5 b6
     clear b5 b6
     refine ⟨hH, ?_⟩
     (try simp only [Act.put, List.setIfInBounds_toArray, List.set_cons_zero, List.set_cons_succ])
     refine ht 12 (some 38) (v := ?_) rfl rfl ?_ hH ?_
     rotate_left
     ·intro w' hSw; go_simp <;> with_reducible rfl
     refine ht 13 (some 39) (v := ?_) rfl rfl ?_ hH ?_
     rotate_left
     ·intro w' hSw; go_simp <;> with_reducible rfl
     simp only [Act.put, List.setIfInBounds_toArray, List.set_cons_zero, List.set_cons_succ]
     refine ht 14 (some 40) (v := ?_) rfl rfl ?_ hH ?_
     rotate_left
     ·intro w' hSw; go_simp <;> with_reducible rfl
     refine ht 15 (some 41) (v := ?_) rfl rfl ?_ hH ?_
     rotate_left
     ·intro w' hSw; go_simp <;> with_reducible rfl
     simp only [Act.put, List.setIfInBounds_toArray, List.set_cons_zero, List.set_cons_succ]
     refine ht 16 (some 42) (v := ?_) rfl rfl ?_ hH ?_
     rotate_left
     ·intro w' hSw; go_simp <;> with_reducible rfl
     refine ht 17 (some 43) (v := ?_) rfl rfl ?_ hH ?_
     rotate_left
     ·intro w' hSw; go_simp <;> with_reducible rfl
     simp only [Act.put, List.setIfInBounds_toArray, List.set_cons_zero, List.set_cons_succ]
     refine ht 18 (some 44) (v := ?_) rfl rfl ?_ hH ?_
     rotate_left
     ·intro w' hSw; go_simp <;> with_reducible rfl
     refine ht 19 (some 45) (v := ?_) rfl rfl ?_ hH ?_
     rotate_left
     ·intro w' hSw; go_simp <;> with_reducible rfl
     simp only [Act.put, List.setIfInBounds_toArray, List.set_cons_zero, List.set_cons_succ]
     refine ht 20 (some 46) (v := ?_) rfl rfl ?_ hH ?_
     rotate_left
     ·intro w' hSw; go_simp <;> with_reducible rfl
     refine ht 21 (some 47) (v := ?_) rfl rfl ?_ hH ?_
     rotate_left
     ·intro w' hSw; go_simp <;> with_reducible rfl
     simp only [Act.put, List.setIfInBounds_toArray, List.set_cons_zero, List.set_cons_succ]
     refine ht 22 (some 48) (v := ?_) rfl rfl ?_ hH ?_
     rotate_left
     ·intro w' hSw; go_simp <;> with_reducible rfl
     simp only [Act.put, List.setIfInBounds_toArray, List.set_cons_zero, List.set_cons_succ]
     refine held_skip (i := 23) (d := (some 49)) rfl rfl (by kernel_rfl) (by kernel_rfl) (by kernel_rfl) (fun _ _ _ h => h) (by rfl) hH ?_
     simp only [Act.put, List.setIfInBounds_toArray, List.set_cons_zero, List.set_cons_succ]
     refine held_skip (i := 24) (d := (some 50)) rfl rfl (by kernel_rfl) (by kernel_rfl) (by kernel_rfl) (fun _ _ _ h => h) (by rfl) hH ?_
     simp only [Act.put, List.setIfInBounds_toArray, List.set_cons_zero, List.set_cons_succ]
     refine held_skip (i := 25) (d := (some 51)) rfl rfl (by kernel_rfl) (by kernel_rfl) (by kernel_rfl) (fun _ _ _ h => h) (by rfl) hH ?_
     simp only [Act.put, List.setIfInBounds_toArray, List.set_cons_zero, List.set_cons_succ]
     refine held_skip (i := 26) (d := (some 52)) rfl rfl (by kernel_rfl) (by kernel_rfl) (by kernel_rfl) (fun _ _ _ h => h) (by rfl) hH ?_
     simp only [Act.put, List.setIfInBounds_toArray, List.set_cons_zero, List.set_cons_succ]
     refine held_skip (i := 27) (d := (some 53)) rfl rfl (by kernel_rfl) (by kernel_rfl) (by kernel_rfl) (fun _ _ _ h => h) (by rfl) hH ?_
     simp only [Act.put, List.setIfInBounds_toArray, List.set_cons_zero, List.set_cons_succ]
     refine held_skip (i := 28) (d := (some 54)) rfl rfl (by kernel_rfl) (by kernel_rfl) (by kernel_rfl) (fun _ _ _ h => h) (by rfl) hH ?_
     simp only [Act.put, List.setIfInBounds_toArray, List.set_cons_zero, List.set_cons_succ]
     refine held_skip (i := 29) (d := (some 55)) rfl rfl (by kernel_rfl) (by kernel_rfl) (by kernel_rfl) (fun _ _ _ h => h) (by rfl) hH ?_
     simp only [Act.put, List.setIfInBounds_toArray, List.set_cons_zero, List.set_cons_succ]
     refine held_skip (i := 30) (d := (some 56)) rfl rfl (by kernel_rfl) (by kernel_rfl) (by kernel_rfl) (fun _ _ _ h => h) (by rfl) hH ?_
     simp only [Act.put, List.setIfInBounds_toArray, List.set_cons_zero, List.set_cons_succ]
     refine held_skip (i := 31) (d := (some 57)) rfl rfl (by kernel_rfl) (by kernel_rfl) (by kernel_rfl) (fun _ _ _ h => h) (by rfl) hH ?_
     simp only [Act.put, List.setIfInBounds_toArray, List.set_cons_zero, List.set_cons_succ]
     refine held_skip (i := 32) (d := (some 58)) rfl rfl (by kernel_rfl) (by kernel_rfl) (by kernel_rfl) (fun _ _ _ h => h) (by rfl) hH ?_
     simp only [Act.put, List.setIfInBounds_toArray, List.set_cons_zero, List.set_cons_succ]
     refine held_skip (i := 33) (d := (some 59)) rfl rfl (by kernel_rfl) (by kernel_rfl) (by kernel_rfl) (fun _ _ _ h => h) (by rfl) hH ?_
     refine ht 34 (some 60) (v := ?_) rfl rfl ?_ hH ?_
     rotate_left
     ·intro w' hSw; go_simp <;> with_reducible rfl
     simp only [Act.put, List.setIfInBounds_toArray, List.set_cons_zero, List.set_cons_succ]
     refine wpAnyH_done (by kernel_rfl) ?_ _
     have NOW5 := hH.2
     go_wp2
     go_ret
     exact ⟨by rw [NB.out]; rfl, HB.out.trans (NOW5.out.mono hgs)⟩
    have gd2 := decide_eq_false g2
    by_cases g3 : qf ≥ (ps.length : Int)
    ·have gd3 := decide_eq_true g3
     have NB := Lib.hid (BAD.out (fun h => by have := (GE.out.1 h).2.2.2; omega))
     go_upto_region 6 with fail
     refine wp_region_held_drew (S := fun w' => (w'.cell? ⟨b, o + j * 3, none⟩ = some (.int .i64 qf) ∧ w'.cell? ⟨b, o + j * 3 + 1, none⟩ = some (.int .i64 qo) ∧ w'.cell? ⟨b, o + j * 3 + 2, none⟩ = some (.int .i64 qn) ∧ w'.cell? ⟨gm, 0, none⟩ = some (.slice (some ⟨bo, 0, none⟩) ps.length co)) ∧ Hid (Below wr.heap.size wr w')) (by kernel_rfl) (STEP.out _ (show Below wr.heap.size wr wr.drew from ⟨rfl, rfl, rfl, Nat.le_refl _, fun _ _ => rfl⟩)) (fun hH => ?_)
     refine ht 0 (some 26) (v := ?_) rfl rfl ?_ hH ?_
     rotate_left
     ·intro w' hSw; go_simp <;> with_reducible rfl
     refine ht 1 (some 27) (v := ?_) rfl rfl ?_ hH ?_
     rotate_left
     ·intro w' hSw; go_simp <;> with_reducible rfl
     simp only [Act.put, List.setIfInBounds_toArray, List.set_cons_zero, List.set_cons_succ]
     refine ht 2 (some 28) (v := ?_) rfl rfl ?_ hH ?_
     rotate_left
     ·intro w' hSw; go_simp <;> with_reducible rfl
     refine ht 3 (some 29) (v := ?_) rfl rfl ?_ hH ?_
     rotate_left
     ·intro w' hSw; go_simp <;> with_reducible rfl
     simp only [Act.put, List.setIfInBounds_toArray, List.set_cons_zero, List.set_cons_succ]
     refine ht 4 (some 30) (v := ?_) rfl rfl ?_ hH ?_
     rotate_left
     ·intro w' hSw; go_simp <;> with_reducible rfl
     refine ht 5 (some 31) (v := ?_) rfl rfl ?_ hH ?_
     rotate_left
     ·intro w' hSw; go_simp <;> with_reducible rfl
     simp only [Act.put, List.setIfInBounds_toArray, List.set_cons_zero, List.set_cons_succ]
     refine ht 6 (some 32) (v := ?_) rfl rfl ?_ hH ?_
     rotate_left
     ·intro w' hSw; go_simp <;> with_reducible rfl
     refine ht 7 (some 33) (v := ?_) rfl rfl ?_ hH ?_
     rotate_left
     ·intro w' hSw; go_simp <;> with_reducible rfl
     simp only [Act.put, List.setIfInBounds_toArray, List.set_cons_zero, List.set_cons_succ]
     refine ht 8 (some 34) (v := ?_) rfl rfl ?_ hH ?_
     rotate_left
     ·intro w' hSw; go_simp <;> with_reducible rfl
     refine ht 9 (some 35) (v := ?_) rfl rfl ?_ hH ?_
     rotate_left
     ·intro w' hSw; go_simp <;> with_reducible rfl
     simp only [Act.put, List.setIfInBounds_toArray, List.set_cons_zero, List.set_cons_succ]
     refine ht 10 (some 36) (v := ?_) rfl rfl ?_ hH ?_
     rotate_left
     ·intro w' hSw; go_simp <;> with_reducible rfl
     simp only [Act.put, List.setIfInBounds_toArray, List.set_cons_zero, List.set_cons_succ]
     refine held_one (i := 11) (by kernel_rfl) rfl (by rfl) ?_
     go_simp
     refine (W2.out _).mono ?_; rintro e w5 ⟨rfl, b5⟩
     have b6 := hH.2.out.trans (b5.mono hH.2.out.size)
     have hH := STEP.out w5 b6
     clear b5 b6
     refine ⟨hH, ?_⟩
     (try simp only [Act.put, List.setIfInBounds_toArray, List.set_cons_zero, List.set_cons_succ])
     refine ht 12 (some 38) (v := ?_) rfl rfl ?_ hH ?_
     rotate_left
     ·intro w' hSw; go_simp <;> with_reducible rfl
     refine ht 13 (some 39) (v := ?_) rfl rfl ?_ hH ?_
     rotate_left
     ·intro w' hSw; go_simp <;> with_reducible rfl
     simp only [Act.put, List.setIfInBounds_toArray, List.set_cons_zero, List.set_cons_succ]
     refine ht 14 (some 40) (v := ?_) rfl rfl ?_ hH ?_
     rotate_left
     ·intro w' hSw; go_simp <;> with_reducible rfl
     refine ht 15 (some 41) (v := ?_) rfl rfl ?_ hH ?_
     rotate_left
     ·intro w' hSw; go_simp <;> with_reducible rfl
     simp only [Act.put, List.setIfInBounds_toArray, List.set_cons_zero, List.set_cons_succ]
     refine ht 16 (some 42) (v := ?_) rfl rfl ?_ hH ?_
     rotate_left
     ·intro w' hSw; go_simp <;> with_reducible rfl
     refine ht 17 (some 43) (v := ?_) rfl rfl ?_ hH ?_
     rotate_left
     ·intro w' hSw; go_simp <;> with_reducible rfl
     simp only [Act.put, List.setIfInBounds_toArray, List.set_cons_zero, List.set_cons_succ]
     refine ht 18 (some 44) (v := ?_) rfl rfl ?_ hH ?_
     rotate_left
     ·intro w' hSw; go_simp <;> with_reducible rfl
     refine ht 19 (some 45) (v := ?_) rfl rfl ?_ hH ?_
     rotate_left
     ·intro w' hSw; go_simp <;> with_reducible rfl
     simp only [Act.put, List.setIfInBounds_toArray, List.set_cons_zero, List.set_cons_succ]
     refine ht 20 (some 46) (v := ?_) rfl rfl ?_ hH ?_
     rotate_left
     ·intro w' hSw; go_simp <;> with_reducible rfl
     refine ht 21 (some 47) (v := ?_) rfl rfl ?_ hH ?_
     rotate_left
     ·intro w' hSw; go_simp <;> with_reducible rfl
     simp only [Act.put, List.setIfInBounds_toArray, List.set_cons_zero, List.set_cons_succ]
     refine ht 22 (some 48) (v := ?_) rfl rfl ?_ hH ?_
     rotate_left
     ·intro w' hSw; go_simp <;> with_reducible rfl
     refine ht 23 (some 49) (v := ?_) rfl rfl ?_ hH ?_
     rotate_left
     ·intro w' hSw; go_simp <;> with_reducible rfl
     simp only [Act.put, List.setIfInBounds_toArray, List.set_cons_zero, List.set_cons_succ]
     refine ht 24 (some 50) (v := ?_) rfl rfl ?_ hH ?_
     rotate_left
     ·intro w' hSw; go_simp <;> with_reducible rfl
     refine ht 25 (some 51) (v := ?_) rfl rfl ?_ hH ?_
     rotate_left
     ·intro w' hSw; go_simp <;> with_reducible rfl
     simp only [Act.put, List.setIfInBounds_toArray, List.set_cons_zero, List.set_cons_succ]
     refine ht 26 (some 52) (v := ?_) rfl rfl ?_ hH ?_
     rotate_left
     ·intro w' hSw; go_simp <;> with_reducible rfl
     refine ht 27 (some 53) (v := ?_) rfl rfl ?_ hH ?_
     rotate_left
     ·intro w' hSw; go_simp <;> with_reducible rfl
     simp only [Act.put, List.setIfInBounds_toArray, List.set_cons_zero, List.set_cons_succ]
     refine ht 28 (some 54) (v := ?_) rfl rfl ?_ hH ?_
     rotate_left
     ·intro w' hSw; go_simp <;> with_reducible rfl
     refine ht 29 (some 55) (v := ?_) rfl rfl ?_ hH ?_
     rotate_left
     ·intro w' hSw; go_simp <;> with_reducible rfl
     simp only [Act.put, List.setIfInBounds_toArray, List.set_cons_zero, List.set_cons_succ]
     refine ht 30 (some 56) (v := ?_) rfl rfl ?_ hH ?_
     rotate_left
     ·intro w' hSw; go_simp <;> with_reducible rfl
     refine ht 31 (some 57) (v := ?_) rfl rfl ?_ hH ?_
     rotate_left
     ·intro w' hSw; go_simp <;> with_reducible rfl
     simp only [Act.put, List.setIfInBounds_toArray, List.set_cons_zero, List.set_cons_succ]
     refine ht 32 (some 58) (v := ?_) rfl rfl ?_ hH ?_
     rotate_left
     ·intro w' hSw; go_simp <;> with_reducible rfl
     refine ht 33 (some 59) (v := ?_) rfl rfl ?_ hH ?_
     rotate_left
     ·intro w' hSw; go_simp <;> with_reducible rfl
     simp only [Act.put, List.setIfInBounds_toArray, List.set_cons_zero, List.set_cons_succ]
     refine ht 34 (some 60) (v := ?_) rfl rfl ?_ hH ?_
     rotate_left
     ·intro w' hSw; go_simp <;> with_reducible rfl
     simp only [Act.put, List.setIfInBounds_toArray, List.set_cons_zero, List.set_cons_succ]
     refine wpAnyH_done (by kernel_rfl) ?_ _
     have NOW5 := hH.2
     go_wp2
     go_ret
     exact ⟨by rw [NB.out]; rfl, HB.out.trans (NOW5.out.mono hgs)⟩
    have gd3 := decide_eq_false g3
    have G2 := Lib.hid (GD.out (fun hp => GE.out.2 ⟨hp, rfl, by omega, by omega⟩) g1)
    go_upto_region 6 with fail
    refine wp_region_held_drew (S := fun w' => (w'.cell? ⟨b, o + j * 3, none⟩ = some (.int .i64 qf) ∧ w'.cell? ⟨b, o + j * 3 + 1, none⟩ = some (.int .i64 qo) ∧ w'.cell? ⟨b, o + j * 3 + 2, none⟩ = some (.int .i64 qn) ∧ w'.cell? ⟨gm, 0, none⟩ = some (.slice (some ⟨bo, 0, none⟩) ps.length co)) ∧ Hid (Below wr.heap.size wr w')) (by kernel_rfl) (STEP.out _ (show Below wr.heap.size wr wr.drew from ⟨rfl, rfl, rfl, Nat.le_refl _, fun _ _ => rfl⟩)) (fun hH => ?_)
    refine ht 0 (some 26) (v := ?_) rfl rfl ?_ hH ?_
    rotate_left
    ·intro w' hSw; go_simp <;> with_reducible rfl
    refine ht 1 (some 27) (v := ?_) rfl rfl ?_ hH ?_
    rotate_left
    ·intro w' hSw; go_simp <;> with_reducible rfl
    simp only [Act.put, List.setIfInBounds_toArray, List.set_cons_zero, List.set_cons_succ]
    refine ht 2 (some 28) (v := ?_) rfl rfl ?_ hH ?_
    rotate_left
    ·intro w' hSw; go_simp <;> with_reducible rfl
    refine ht 3 (some 29) (v := ?_) rfl rfl ?_ hH ?_
    rotate_left
    ·intro w' hSw; go_simp <;> with_reducible rfl
    simp only [Act.put, List.setIfInBounds_toArray, List.set_cons_zero, List.set_cons_succ]
    refine ht 4 (some 30) (v := ?_) rfl rfl ?_ hH ?_
    rotate_left
    ·intro w' hSw; go_simp <;> with_reducible rfl
    refine ht 5 (some 31) (v := ?_) rfl rfl ?_ hH ?_
    rotate_left
    ·intro w' hSw; go_simp <;> with_reducible rfl
    simp only [Act.put, List.setIfInBounds_toArray, List.set_cons_zero, List.set_cons_succ]
    refine ht 6 (some 32) (v := ?_) rfl rfl ?_ hH ?_
    rotate_left
    ·intro w' hSw; go_simp <;> with_reducible rfl
    refine ht 7 (some 33) (v := ?_) rfl rfl ?_ hH ?_
    rotate_left
    ·intro w' hSw; go_simp <;> with_reducible rfl
    simp only [Act.put, List.setIfInBounds_toArray, List.set_cons_zero, List.set_cons_succ]
    refine ht 8 (some 34) (v := ?_) rfl rfl ?_ hH ?_
    rotate_left
    ·intro w' hSw; go_simp <;> with_reducible rfl
    refine ht 9 (some 35) (v := ?_) rfl rfl ?_ hH ?_
    rotate_left
    ·intro w' hSw; go_simp <;> with_reducible rfl
    simp only [Act.put, List.setIfInBounds_toArray, List.set_cons_zero, List.set_cons_succ]
    refine ht 10 (some 36) (v := ?_) rfl rfl ?_ hH ?_
    rotate_left
    ·intro w' hSw; go_simp <;> with_reducible rfl
    simp only [Act.put, List.setIfInBounds_toArray, List.set_cons_zero, List.set_cons_succ]
    refine held_one (i := 11) (by kernel_rfl) rfl (by rfl) ?_
    go_simp
    refine (W2.out _).mono ?_; rintro e w5 ⟨rfl, b5⟩
    have b6 := hH.2.out.trans (b5.mono hH.2.out.size)
    have hH := STEP.out w5 b6
    clear b5 b6
    refine ⟨hH, ?_⟩
    (try simp only [Act.put, List.setIfInBounds_toArray, List.set_cons_zero, List.set_cons_succ])
    refine ht 12 (some 38) (v := ?_) rfl rfl ?_ hH ?_
    rotate_left
    ·intro w' hSw; go_simp <;> with_reducible rfl
    refine ht 13 (some 39) (v := ?_) rfl rfl ?_ hH ?_
    rotate_left
    ·intro w' hSw; go_simp <;> with_reducible rfl
    simp only [Act.put, List.setIfInBounds_toArray, List.set_cons_zero, List.set_cons_succ]
    refine ht 14 (some 40) (v := ?_) rfl rfl ?_ hH ?_
    rotate_left
    ·intro w' hSw; go_simp <;> with_reducible rfl
    refine ht 15 (some 41) (v := ?_) rfl rfl ?_ hH ?_
    rotate_left
    ·intro w' hSw; go_simp <;> with_reducible rfl
    simp only [Act.put, List.setIfInBounds_toArray, List.set_cons_zero, List.set_cons_succ]
    refine ht 16 (some 42) (v := ?_) rfl rfl ?_ hH ?_
    rotate_left
    ·intro w' hSw; go_simp <;> with_reducible rfl
    refine ht 17 (some 43) (v := ?_) rfl rfl ?_ hH ?_
    rotate_left
    ·intro w' hSw; go_simp <;> with_reducible rfl
    simp only [Act.put, List.setIfInBounds_toArray, List.set_cons_zero, List.set_cons_succ]
    refine ht 18 (some 44) (v := ?_) rfl rfl ?_ hH ?_
    rotate_left
    ·intro w' hSw; go_simp <;> with_reducible rfl
    refine ht 19 (some 45) (v := ?_) rfl rfl ?_ hH ?_
    rotate_left
    ·intro w' hSw; go_simp <;> with_reducible rfl
    simp only [Act.put, List.setIfInBounds_toArray, List.set_cons_zero, List.set_cons_succ]
    refine ht 20 (some 46) (v := ?_) rfl rfl ?_ hH ?_
    rotate_left
    ·intro w' hSw; go_simp <;> with_reducible rfl
    refine ht 21 (some 47) (v := ?_) rfl rfl ?_ hH ?_
    rotate_left
    ·intro w' hSw; go_simp <;> with_reducible rfl
    simp only [Act.put, List.setIfInBounds_toArray, List.set_cons_zero, List.set_cons_succ]
    refine ht 22 (some 48) (v := ?_) rfl rfl ?_ hH ?_
    rotate_left
    ·intro w' hSw; go_simp <;> with_reducible rfl
    refine ht 23 (some 49) (v := ?_) rfl rfl ?_ hH ?_
    rotate_left
    ·intro w' hSw; go_simp <;> with_reducible rfl
    simp only [Act.put, List.setIfInBounds_toArray, List.set_cons_zero, List.set_cons_succ]
    refine ht 24 (some 50) (v := ?_) rfl rfl ?_ hH ?_
    rotate_left
    ·intro w' hSw; go_simp <;> with_reducible rfl
    refine ht 25 (some 51) (v := ?_) rfl rfl ?_ hH ?_
    rotate_left
    ·intro w' hSw; go_simp <;> with_reducible rfl
    simp only [Act.put, List.setIfInBounds_toArray, List.set_cons_zero, List.set_cons_succ]
    refine ht 26 (some 52) (v := ?_) rfl rfl ?_ hH ?_
    rotate_left
    ·intro w' hSw; go_simp <;> with_reducible rfl
    refine ht 27 (some 53) (v := ?_) rfl rfl ?_ hH ?_
    rotate_left
    ·intro w' hSw; go_simp <;> with_reducible rfl
    simp only [Act.put, List.setIfInBounds_toArray, List.set_cons_zero, List.set_cons_succ]
    refine ht 28 (some 54) (v := ?_) rfl rfl ?_ hH ?_
    rotate_left
    ·intro w' hSw; go_simp <;> with_reducible rfl
    refine ht 29 (some 55) (v := ?_) rfl rfl ?_ hH ?_
    rotate_left
    ·intro w' hSw; go_simp <;> with_reducible rfl
    simp only [Act.put, List.setIfInBounds_toArray, List.set_cons_zero, List.set_cons_succ]
    refine ht 30 (some 56) (v := ?_) rfl rfl ?_ hH ?_
    rotate_left
    ·intro w' hSw; go_simp <;> with_reducible rfl
    refine ht 31 (some 57) (v := ?_) rfl rfl ?_ hH ?_
    rotate_left
    ·intro w' hSw; go_simp <;> with_reducible rfl
    simp only [Act.put, List.setIfInBounds_toArray, List.set_cons_zero, List.set_cons_succ]
    refine ht 32 (some 58) (v := ?_) rfl rfl ?_ hH ?_
    rotate_left
    ·intro w' hSw; go_simp <;> with_reducible rfl
    refine ht 33 (some 59) (v := ?_) rfl rfl ?_ hH ?_
    rotate_left
    ·intro w' hSw; go_simp <;> with_reducible rfl
    simp only [Act.put, List.setIfInBounds_toArray, List.set_cons_zero, List.set_cons_succ]
    refine ht 34 (some 60) (v := ?_) rfl rfl ?_ hH ?_
    rotate_left
    ·intro w' hSw; go_simp <;> with_reducible rfl
    simp only [Act.put, List.setIfInBounds_toArray, List.set_cons_zero, List.set_cons_succ]
    refine wpAnyH_done (by kernel_rfl) ?_ _
    have HB5 := Lib.hid (HB.out.trans (hH.2.out.mono hgs))
    go_wp2
    go_roundw
    case rel => exact ⟨j + 1, by omega, by simp, G2, HB5⟩
    case measure => simp [intOf]; omega
  ·have hge : ¬ (j : Int) < (l.length : Int) := by omega
   obtain rfl : j = l.length := by omega
   have ALL := Lib.hid (fun (p : Pc) (hp : p ∈ l) => show p.Fits ps.length by
    obtain ⟨x, hx, rfl⟩ := List.mem_iff_getElem.1 hp
    exact hg.out x hx hx)
   have ER := Lib.hid (fitsR_all HE.out.1 HE.out.2 ALL.out)
   have SZ := Lib.hid (gsize_any A c l wr P1.out OK.out hmax)
   clear hg
   by_cases g1 : (l.length : Int) > 16
   ·have NB := Lib.hid (show checkR ps env l = 2 by
     have e : fitsR ps.length env l = 2 := by rw [ER.out, if_pos (.inl (by omega))]
     rw [checkR_fits (by rw [e]; omega), e])
    go_wp2
    go_ret
    exact ⟨by rw [NB.out]; rfl, HB.out⟩
   by_cases g2 : sizeR l > 1024
   ·have NB := Lib.hid (show checkR ps env l = 2 by
     have e : fitsR ps.length env l = 2 := by rw [ER.out, if_pos (.inr g2)]
     rw [checkR_fits (by rw [e]; omega), e])
    generalize sizeR l = q at *
    go_wp2_with fail
    refine SZ.out.mono ?_; rintro e w2 ⟨rfl, rfl⟩
    go_wp2
    go_ret
    exact ⟨by rw [NB.out]; rfl, HB.out⟩
   have hf : fitsR ps.length env l = 0 := by rw [ER.out, if_neg (by omega)]
   have HF := Lib.hid hf
   generalize sizeR l = q at *
   clear hf ER
   go_wp2_with fail
   refine SZ.out.mono ?_; rintro e w2 ⟨rfl, rfl⟩
   clear SZ
   go_wp2
   go_loopw [8] (fun i wx => ∃ (j : Nat), j ≤ l.length ∧ i = .int .i64 (j : Int) ∧ Hid (∀ x (hx : x < l.length), x < j → ownErr ps env l[x].frame = 0) ∧ Hid (Below w.heap.size w wx)) (fun i _ => l.length - (intOf i).toNat)
   case atStart => exact ⟨0, Nat.zero_le _, rfl, Lib.hid (fun x hx h => absurd h (by omega)), HB⟩
   case round =>
    clear HB P1 hgs
    obtain ⟨j, hj, rfl, hg, HB⟩ := hrel
    have P1 := Lib.hid (P.out.new HB.out)
    by_cases hlt : j < l.length
    ·have hlt' : (j : Int) < (l.length : Int) := by omega
     have j0 : (0 : Int) ≤ (j : Int) := by omega
     have xj := IntWalk.i64_in ((j : Int) + 1) (by omega)
     obtain ⟨b, o, rfl, hbl, c0, _, _⟩ := P1.out.cells hlt
     have T1 := T.out.new HB.out
     have cg := T1.heads.1
     obtain ⟨_, _, h3, h4⟩ := ALL.out _ (List.getElem_mem hlt)
     obtain ⟨k, hk, ek⟩ := isF_nat (show isF ps l[j].frame from ⟨h3, h4⟩)
     have cw := T1.ownC hk
     have k0 : (0 : Int) ≤ (k : Int) := by omega
     have k1 : (k : Int) < (ps.length : Int) := by omega
     have ho := owner_ownErr HE.out.1 (show isF ps l[j].frame from ⟨h3, h4⟩)
     rw [ek, pg_at hk] at ho
     have GD := Lib.hid (show (ps[k].owner : Int) = env → ∀ x (hx : x < l.length), x < j + 1 → ownErr ps env l[x].frame = 0 from fun h1 x hx h => by
      by_cases e : x = j
      ·subst e
       rw [ek, ho, if_pos h1]
      ·exact hg.out x hx (by omega))
     have BADO := Lib.hid (show (ps[k].owner : Int) ≠ env → checkR ps env l = 20 from fun h1 => by
      rw [if_neg h1] at ho
      have := check_bad HF.out (List.getElem_mem hlt) (by rw [ek, ho]; omega)
      rw [this, ek, ho])
     rw [ek] at c0
     have BN := Lib.hid (fun n => show Below w.heap.size w (wr.drewN n) from ⟨HB.out.os, HB.out.tape, HB.out.output, HB.out.size, HB.out.block⟩)
     generalize (ps[k].owner : Int) = ow at *
     clear ho h3 h4 ek hg T1
     by_cases hoe : ow = env
     ·have HG := Lib.hid (GD.out hoe)
      subst hoe
      go_upto_region 13 with fail
      go_quiet (fail)
      go_wp2
      go_roundw
      case rel => exact ⟨j + 1, by omega, by simp, HG, Lib.hid (BN.out _)⟩
      case measure => simp [intOf]; omega
     ·have NB := Lib.hid (BADO.out hoe)
      have hoe1 : (ow != env) = true := by simpa using hoe
      have hoe2 : (ow == env) = false := by simpa using hoe
      go_upto_region 13 with fail
      go_quiet (fail)
      go_wp2
      go_ret
      exact ⟨by rw [NB.out]; rfl, BN.out _⟩
    ·have hge : ¬ (j : Int) < (l.length : Int) := by omega
     obtain rfl : j = l.length := by omega
     have ER := Lib.hid (show checkR ps env l = 0 from check_ok HF.out (fun p hp => by
      obtain ⟨x, hx, rfl⟩ := List.mem_iff_getElem.1 hp
      exact hg.out x hx hx))
     clear hg
     go_wp2
     go_ret
     exact ⟨by rw [ER.out]; rfl, HB.out⟩
end
end Go.Proofs.YtbkjjakkihbcdaaGreat
