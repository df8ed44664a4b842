/- The document's layer 8: Fetch. Conditions: those that each states. -/
import Derived.Test.YtbkjjakkihbcdaaGreatGr1
import Derived.Test.YtbkjjakkihbcdaaGreatMAP
namespace Go.Proofs.YtbkjjakkihbcdaaGreat
open Go.ChangeShapes Go.WideShapes Go.ChangeAt Go.RowKit Go.Deep Fr
set_option linter.unusedVariables false

section
variable {gm bo bh bb co ch cb : Nat} {ps : List Pg} {w : World}
set_option maxRecDepth 100000 in
set_option maxHeartbeats 8000000 in
theorem gfetch_any (h : RefT w gm bo bh bb co ch cb ps) (A : Option Addr) (c : Nat) (l : List Pc) (hp : Pcs w A l) (hok : ∀ p ∈ l, p.Ok) (hmax : l.length ≤ 1000000) :
  Calls Tryz.prog 52 #[.pointer (some ⟨gm, 0, none⟩), .slice A l.length c] w fun e w' => e = .returned (.tuple #[.string ⟨(fetchG ps l).1.toArray⟩, .int .i64 (fetchG ps l).2]) ∧ Below w.heap.size w w' := by
 have T := Lib.hid h
 have n2 := h.len
 have P := Lib.hid hp
 have OK := Lib.hid hok
 have B0 := Lib.hid (Below.refl w.heap.size w)
 have WI := Lib.hid gwithin_any
 clear hp hok h
 go_enter Tryz.func52, Tryz.ntmps52
 go_wp2
 go_loopw [6, 7] (fun s i wr => ∃ (j : Nat) (X : ByteArray), j ≤ l.length ∧ i = .int .i64 (j : Int) ∧ s = .string X ∧ Hid (X = ⟨(gatherB (txt ps) (l.take j)).toArray⟩ ∧ X.size ≤ j * 256) ∧ Hid (∀ x (hx : x < l.length), x < j → l[x].Gets ps) ∧ Hid (Below w.heap.size w wr)) (fun _ i _ => l.length - (intOf i).toNat)
 case atStart => exact ⟨0, _, Nat.zero_le _, rfl, rfl, Lib.hid ⟨rfl, Nat.zero_le _⟩, Lib.hid (fun x hx h => absurd h (by omega)), B0⟩
 case round =>
  clear B0
  obtain ⟨j, X, hj, rfl, rfl, HX, hg, HB⟩ := hrel
  have hgs : w.heap.size ≤ wr.heap.size := HB.out.size
  have P1 := Lib.hid (P.out.new HB.out)
  by_cases hlt : j < l.length
  ·have hlt' : (j : Int) < (l.length : Int) := by omega
   have j0 : (0 : Int) ≤ (j : Int) := by omega
   have xj := IntWalk.i64_in ((j : Int) + 1) (by omega)
   obtain ⟨b, o, rfl, hbl, hr⟩ := P1.out j hlt
   have LD := Lib.hid (show wr.rangeAt b (o + j * 3) [.int .i64 l[j].frame, .int .i64 l[j].off, .int .i64 l[j].len] from hr)
   have W2 := Lib.hid (WI.out l[j] (OK.out _ (List.getElem_mem hlt)))
   have BAD := Lib.hid (fun (h1 : ¬ l[j].Gets ps) => show fetchG ps l = ([], 1) by
    unfold fetchG; rw [if_neg (fun h => h1 (h _ (List.getElem_mem hlt)))])
   have GD := Lib.hid (show l[j].Gets ps → ∀ x (hx : x < l.length), x < j + 1 → l[x].Gets ps from fun h1 x hx h => by
    by_cases e : x = j
    ·subst e; exact h1
    ·exact hg.out x hx (by omega))
   have HT := Lib.hid (show gatherB (txt ps) (l.take (j + 1)) = gatherB (txt ps) (l.take j) ++ ((txt ps l[j].frame).drop l[j].off.toNat).take l[j].len.toNat by
    rw [List.take_succ_eq_append_getElem hlt, gatherB_append, gatherB_cons]
    simp [gatherB])
   obtain ⟨W1, hW1⟩ : ∃ W1, wr.alloc (.cells #[.int .i64 l[j].frame, .int .i64 l[j].off, .int .i64 l[j].len] 180) = W1 := ⟨_, rfl⟩
   have hWB : Below wr.heap.size wr W1 := by rw [← hW1]; exact (Below.refl wr.heap.size wr).alloc (Nat.le_refl _) _
   have hBK : Blk W1 wr.heap.size 180 #[.int .i64 l[j].frame, .int .i64 l[j].off, .int .i64 l[j].len] := by rw [← hW1]; exact Blk.new _ _ _
   have HB2 := Lib.hid (HB.out.trans (hWB.mono hgs))
   have T1 := Lib.hid (T.out.new HB2.out)
   have STEP := Lib.hid (fun (W : World) (hb : Below W1.heap.size W1 W) => show ((W.cell? ⟨wr.heap.size, 0, none⟩ = some (.int .i64 l[j].frame) ∧ W.cell? ⟨wr.heap.size, 1, none⟩ = some (.int .i64 l[j].off) ∧ W.cell? ⟨wr.heap.size, 2, none⟩ = some (.int .i64 l[j].len) ∧ W.cell? ⟨gm, 0, none⟩ = some (.slice (some ⟨bo, 0, none⟩) ps.length co)) ∧ W.cell? ⟨gm, 1, none⟩ = some (.slice (some ⟨bh, 0, none⟩) ps.length ch)) ∧ Hid (Below W1.heap.size W1 W) from
    ⟨⟨⟨(hb.cell (p := ⟨wr.heap.size, 0, none⟩) hBK.lt).trans (hBK.cell 0), (hb.cell (p := ⟨wr.heap.size, 1, none⟩) hBK.lt).trans (hBK.cell 1), (hb.cell (p := ⟨wr.heap.size, 2, none⟩) hBK.lt).trans (hBK.cell 2), (hb.cell (p := ⟨gm, 0, none⟩) T1.out.head.lt).trans T1.out.heads.1⟩, (hb.cell (p := ⟨gm, 1, none⟩) T1.out.head.lt).trans T1.out.heads.2.1⟩, Lib.hid hb⟩)
   have GIN := Lib.hid (show l[j].Gets ps → 0 ≤ l[j].off ∧ (0 ≤ l[j].len ∧ l[j].off + l[j].len ≤ 256) from fun h => h.2)
   generalize hI : decide l[j].In = I at *
   have hIt : l[j].In ↔ I = true := by rw [← hI]; simp
   have GE := Lib.hid (show l[j].Gets ps ↔ I = true ∧ 0 ≤ l[j].frame ∧ l[j].frame < ps.length ∧ (pg ps l[j].frame).holds ≠ 0 from by
    rw [← hIt]
    unfold Pc.Gets isH isF isIn Pc.In
    constructor
    ·rintro ⟨⟨⟨a1, a2⟩, a3⟩, a4, a5, a6⟩
     exact ⟨⟨a4, by omega, a5, by omega, a6⟩, a1, a2, a3⟩
    ·rintro ⟨⟨a1, a2, a3, a4, a5⟩, a6, a7, a8⟩
     exact ⟨⟨⟨a6, a7⟩, a8⟩, a1, a3, a5⟩)
   generalize l[j].Gets ps = Q at *
   generalize l[j].frame = qf at *
   generalize l[j].off = qo at *
   generalize l[j].len = qn at *
   generalize hd : wr.heap.size = d at *
   clear hr hI hIt hg WI hWB hBK
   cases I with
   | false =>
    have NB := Lib.hid (BAD.out (fun h => by have := (GE.out.1 h).1; cases this))
    go_upto_region 6 with (first
     | (refine wpList_load_mid rfl 180 (.tmp 17) rfl b (o + j * 3) rfl _ _ LD.out Tryz.underlying180 rfl rpc_info ?_)
     | fail)
    (try rw [hW1])
    (try rw [hd])
    refine wp_region_held_drew (S := fun w' => ((w'.cell? ⟨d, 0, none⟩ = some (.int .i64 qf) ∧ w'.cell? ⟨d, 1, none⟩ = some (.int .i64 qo) ∧ w'.cell? ⟨d, 2, none⟩ = some (.int .i64 qn) ∧ w'.cell? ⟨gm, 0, none⟩ = some (.slice (some ⟨bo, 0, none⟩) ps.length co)) ∧ w'.cell? ⟨gm, 1, none⟩ = some (.slice (some ⟨bh, 0, none⟩) ps.length ch)) ∧ Hid (Below W1.heap.size W1 w')) (by kernel_rfl) (STEP.out _ (show Below W1.heap.size W1 W1.drew from ⟨rfl, rfl, rfl, Nat.le_refl _, fun _ _ => rfl⟩)) (fun hH => ?_)
    refine ht 0 (some 19) (v := ?_) rfl rfl ?_ hH ?_
    rotate_left
    ·intro w' hSw; go_simp <;> with_reducible rfl
    simp only [Act.put, List.setIfInBounds_toArray, List.set_cons_zero, List.set_cons_succ]
    refine held_one (i := 1) (by kernel_rfl) rfl (by rfl) ?_
    go_simp
    refine (W2.out _).mono ?_; rintro e w5 ⟨rfl, b5⟩
    have b6 := hH.2.out.trans (b5.mono hH.2.out.size)
    have hH := STEP.out w5 b6
    clear b5 b6
    refine ⟨hH, ?_⟩
    (try simp only [Act.put, List.setIfInBounds_toArray, List.set_cons_zero, List.set_cons_succ])
    refine ht 2 (some 21) (v := ?_) rfl rfl ?_ hH ?_
    rotate_left
    ·intro w' hSw; go_simp <;> with_reducible rfl
    refine ht 3 (some 22) (v := ?_) rfl rfl ?_ hH ?_
    rotate_left
    ·intro w' hSw; go_simp <;> with_reducible rfl
    simp only [Act.put, List.setIfInBounds_toArray, List.set_cons_zero, List.set_cons_succ]
    refine held_skip (i := 4) (d := (some 23)) rfl rfl (by kernel_rfl) (by kernel_rfl) (by kernel_rfl) (fun _ _ _ h => h) (by rfl) hH ?_
    simp only [Act.put, List.setIfInBounds_toArray, List.set_cons_zero, List.set_cons_succ]
    refine held_skip (i := 5) (d := (some 24)) rfl rfl (by kernel_rfl) (by kernel_rfl) (by kernel_rfl) (fun _ _ _ h => h) (by rfl) hH ?_
    simp only [Act.put, List.setIfInBounds_toArray, List.set_cons_zero, List.set_cons_succ]
    refine held_skip (i := 6) (d := (some 25)) rfl rfl (by kernel_rfl) (by kernel_rfl) (by kernel_rfl) (fun _ _ _ h => h) (by rfl) hH ?_
    refine ht 7 (some 26) (v := ?_) rfl rfl ?_ hH ?_
    rotate_left
    ·intro w' hSw; go_simp <;> with_reducible rfl
    simp only [Act.put, List.setIfInBounds_toArray, List.set_cons_zero, List.set_cons_succ]
    refine ht 8 (some 27) (v := ?_) rfl rfl ?_ hH ?_
    rotate_left
    ·intro w' hSw; go_simp <;> with_reducible rfl
    simp only [Act.put, List.setIfInBounds_toArray, List.set_cons_zero, List.set_cons_succ]
    refine held_skip (i := 9) (d := (some 28)) rfl rfl (by kernel_rfl) (by kernel_rfl) (by kernel_rfl) (fun _ _ _ h => h) (by rfl) hH ?_
    simp only [Act.put, List.setIfInBounds_toArray, List.set_cons_zero, List.set_cons_succ]
    refine held_skip (i := 10) (d := (some 29)) rfl rfl (by kernel_rfl) (by kernel_rfl) (by kernel_rfl) (fun _ _ _ h => h) (by rfl) hH ?_
    simp only [Act.put, List.setIfInBounds_toArray, List.set_cons_zero, List.set_cons_succ]
    refine held_skip (i := 11) (d := (some 30)) rfl rfl (by kernel_rfl) (by kernel_rfl) (by kernel_rfl) (fun _ _ _ h => h) (by rfl) hH ?_
    simp only [Act.put, List.setIfInBounds_toArray, List.set_cons_zero, List.set_cons_succ]
    refine held_skip (i := 12) (d := (some 31)) rfl rfl (by kernel_rfl) (by kernel_rfl) (by kernel_rfl) (fun _ _ _ h => h) (by rfl) hH ?_
    simp only [Act.put, List.setIfInBounds_toArray, List.set_cons_zero, List.set_cons_succ]
    refine held_skip (i := 13) (d := (some 32)) rfl rfl (by kernel_rfl) (by kernel_rfl) (by kernel_rfl) (fun _ _ _ h => h) (by rfl) hH ?_
    simp only [Act.put, List.setIfInBounds_toArray, List.set_cons_zero, List.set_cons_succ]
    refine held_skip (i := 14) (d := (some 33)) rfl rfl (by kernel_rfl) (by kernel_rfl) (by kernel_rfl) (fun _ _ _ h => h) (by rfl) hH ?_
    simp only [Act.put, List.setIfInBounds_toArray, List.set_cons_zero, List.set_cons_succ]
    refine held_skip (i := 15) (d := (some 34)) rfl rfl (by kernel_rfl) (by kernel_rfl) (by kernel_rfl) (fun _ _ _ h => h) (by rfl) hH ?_
    simp only [Act.put, List.setIfInBounds_toArray, List.set_cons_zero, List.set_cons_succ]
    refine held_skip (i := 16) (d := (some 35)) rfl rfl (by kernel_rfl) (by kernel_rfl) (by kernel_rfl) (fun _ _ _ h => h) (by rfl) hH ?_
    refine ht 17 (some 36) (v := ?_) rfl rfl ?_ hH ?_
    rotate_left
    ·intro w' hSw; go_simp <;> with_reducible rfl
    simp only [Act.put, List.setIfInBounds_toArray, List.set_cons_zero, List.set_cons_succ]
    refine ht 18 (some 37) (v := ?_) rfl rfl ?_ hH ?_
    rotate_left
    ·intro w' hSw; go_simp <;> with_reducible rfl
    simp only [Act.put, List.setIfInBounds_toArray, List.set_cons_zero, List.set_cons_succ]
    refine held_skip (i := 19) (d := (some 38)) rfl rfl (by kernel_rfl) (by kernel_rfl) (by kernel_rfl) (fun _ _ _ h => h) (by rfl) hH ?_
    simp only [Act.put, List.setIfInBounds_toArray, List.set_cons_zero, List.set_cons_succ]
    refine held_skip (i := 20) (d := (some 39)) rfl rfl (by kernel_rfl) (by kernel_rfl) (by kernel_rfl) (fun _ _ _ h => h) (by rfl) hH ?_
    simp only [Act.put, List.setIfInBounds_toArray, List.set_cons_zero, List.set_cons_succ]
    refine held_skip (i := 21) (d := (some 40)) rfl rfl (by kernel_rfl) (by kernel_rfl) (by kernel_rfl) (fun _ _ _ h => h) (by rfl) hH ?_
    simp only [Act.put, List.setIfInBounds_toArray, List.set_cons_zero, List.set_cons_succ]
    refine held_skip (i := 22) (d := (some 41)) rfl rfl (by kernel_rfl) (by kernel_rfl) (by kernel_rfl) (fun _ _ _ h => h) (by rfl) hH ?_
    simp only [Act.put, List.setIfInBounds_toArray, List.set_cons_zero, List.set_cons_succ]
    refine held_skip (i := 23) (d := (some 42)) rfl rfl (by kernel_rfl) (by kernel_rfl) (by kernel_rfl) (fun _ _ _ h => h) (by rfl) hH ?_
    simp only [Act.put, List.setIfInBounds_toArray, List.set_cons_zero, List.set_cons_succ]
    refine held_skip (i := 24) (d := (some 43)) rfl rfl (by kernel_rfl) (by kernel_rfl) (by kernel_rfl) (fun _ _ _ h => h) (by rfl) hH ?_
    simp only [Act.put, List.setIfInBounds_toArray, List.set_cons_zero, List.set_cons_succ]
    refine held_skip (i := 25) (d := (some 44)) rfl rfl (by kernel_rfl) (by kernel_rfl) (by kernel_rfl) (fun _ _ _ h => h) (by rfl) hH ?_
    simp only [Act.put, List.setIfInBounds_toArray, List.set_cons_zero, List.set_cons_succ]
    refine held_skip (i := 26) (d := (some 45)) rfl rfl (by kernel_rfl) (by kernel_rfl) (by kernel_rfl) (fun _ _ _ h => h) (by rfl) hH ?_
    simp only [Act.put, List.setIfInBounds_toArray, List.set_cons_zero, List.set_cons_succ]
    refine held_skip (i := 27) (d := (some 46)) rfl rfl (by kernel_rfl) (by kernel_rfl) (by kernel_rfl) (fun _ _ _ h => h) (by rfl) hH ?_
    refine ht 28 (some 47) (v := ?_) rfl rfl ?_ hH ?_
    rotate_left
    ·intro w' hSw; go_simp <;> with_reducible rfl
    simp only [Act.put, List.setIfInBounds_toArray, List.set_cons_zero, List.set_cons_succ]
    refine wpAnyH_done (by kernel_rfl) ?_ _
    have NOW5 := hH.2
    go_wp2
    go_ret2
    rw [NB.out]
    exact ⟨rfl, HB2.out.trans (NOW5.out.mono HB2.out.size)⟩
   | true =>
    by_cases g2 : qf < 0
    ·have gd2 := decide_eq_true g2
     have NB := Lib.hid (BAD.out (fun h => by have := (GE.out.1 h).2.1; omega))
     go_upto_region 6 with (first
      | (refine wpList_load_mid rfl 180 (.tmp 17) rfl b (o + j * 3) rfl _ _ LD.out Tryz.underlying180 rfl rpc_info ?_)
      | fail)
     (try rw [hW1])
     (try rw [hd])
     refine wp_region_held_drew (S := fun w' => ((w'.cell? ⟨d, 0, none⟩ = some (.int .i64 qf) ∧ w'.cell? ⟨d, 1, none⟩ = some (.int .i64 qo) ∧ w'.cell? ⟨d, 2, none⟩ = some (.int .i64 qn) ∧ w'.cell? ⟨gm, 0, none⟩ = some (.slice (some ⟨bo, 0, none⟩) ps.length co)) ∧ w'.cell? ⟨gm, 1, none⟩ = some (.slice (some ⟨bh, 0, none⟩) ps.length ch)) ∧ Hid (Below W1.heap.size W1 w')) (by kernel_rfl) (STEP.out _ (show Below W1.heap.size W1 W1.drew from ⟨rfl, rfl, rfl, Nat.le_refl _, fun _ _ => rfl⟩)) (fun hH => ?_)
     refine ht 0 (some 19) (v := ?_) rfl rfl ?_ hH ?_
     rotate_left
     ·intro w' hSw; go_simp <;> with_reducible rfl
     simp only [Act.put, List.setIfInBounds_toArray, List.set_cons_zero, List.set_cons_succ]
     refine held_one (i := 1) (by kernel_rfl) rfl (by rfl) ?_
     go_simp
     refine (W2.out _).mono ?_; rintro e w5 ⟨rfl, b5⟩
     have b6 := hH.2.out.trans (b5.mono hH.2.out.size)
     have hH := STEP.out w5 b6
     clear b5 b6
     refine ⟨hH, ?_⟩
     (try simp only [Act.put, List.setIfInBounds_toArray, List.set_cons_zero, List.set_cons_succ])
     refine ht 2 (some 21) (v := ?_) rfl rfl ?_ hH ?_
     rotate_left
     ·intro w' hSw; go_simp <;> with_reducible rfl
     refine ht 3 (some 22) (v := ?_) rfl rfl ?_ hH ?_
     rotate_left
     ·intro w' hSw; go_simp <;> with_reducible rfl
     simp only [Act.put, List.setIfInBounds_toArray, List.set_cons_zero, List.set_cons_succ]
     refine ht 4 (some 23) (v := ?_) rfl rfl ?_ hH ?_
     rotate_left
     ·intro w' hSw; go_simp <;> with_reducible rfl
     refine ht 5 (some 24) (v := ?_) rfl rfl ?_ hH ?_
     rotate_left
     ·intro w' hSw; go_simp <;> with_reducible rfl
     simp only [Act.put, List.setIfInBounds_toArray, List.set_cons_zero, List.set_cons_succ]
     refine ht 6 (some 25) (v := ?_) rfl rfl ?_ hH ?_
     rotate_left
     ·intro w' hSw; go_simp <;> with_reducible rfl
     refine ht 7 (some 26) (v := ?_) rfl rfl ?_ hH ?_
     rotate_left
     ·intro w' hSw; go_simp <;> with_reducible rfl
     simp only [Act.put, List.setIfInBounds_toArray, List.set_cons_zero, List.set_cons_succ]
     refine ht 8 (some 27) (v := ?_) rfl rfl ?_ hH ?_
     rotate_left
     ·intro w' hSw; go_simp <;> with_reducible rfl
     simp only [Act.put, List.setIfInBounds_toArray, List.set_cons_zero, List.set_cons_succ]
     refine held_skip (i := 9) (d := (some 28)) rfl rfl (by kernel_rfl) (by kernel_rfl) (by kernel_rfl) (fun _ _ _ h => h) (by rfl) hH ?_
     simp only [Act.put, List.setIfInBounds_toArray, List.set_cons_zero, List.set_cons_succ]
     refine held_skip (i := 10) (d := (some 29)) rfl rfl (by kernel_rfl) (by kernel_rfl) (by kernel_rfl) (fun _ _ _ h => h) (by rfl) hH ?_
     simp only [Act.put, List.setIfInBounds_toArray, List.set_cons_zero, List.set_cons_succ]
     refine held_skip (i := 11) (d := (some 30)) rfl rfl (by kernel_rfl) (by kernel_rfl) (by kernel_rfl) (fun _ _ _ h => h) (by rfl) hH ?_
     simp only [Act.put, List.setIfInBounds_toArray, List.set_cons_zero, List.set_cons_succ]
     refine held_skip (i := 12) (d := (some 31)) rfl rfl (by kernel_rfl) (by kernel_rfl) (by kernel_rfl) (fun _ _ _ h => h) (by rfl) hH ?_
     simp only [Act.put, List.setIfInBounds_toArray, List.set_cons_zero, List.set_cons_succ]
     refine held_skip (i := 13) (d := (some 32)) rfl rfl (by kernel_rfl) (by kernel_rfl) (by kernel_rfl) (fun _ _ _ h => h) (by rfl) hH ?_
     simp only [Act.put, List.setIfInBounds_toArray, List.set_cons_zero, List.set_cons_succ]
     refine held_skip (i := 14) (d := (some 33)) rfl rfl (by kernel_rfl) (by kernel_rfl) (by kernel_rfl) (fun _ _ _ h => h) (by rfl) hH ?_
     simp only [Act.put, List.setIfInBounds_toArray, List.set_cons_zero, List.set_cons_succ]
     refine held_skip (i := 15) (d := (some 34)) rfl rfl (by kernel_rfl) (by kernel_rfl) (by kernel_rfl) (fun _ _ _ h => h) (by rfl) hH ?_
     simp only [Act.put, List.setIfInBounds_toArray, List.set_cons_zero, List.set_cons_succ]
     refine held_skip (i := 16) (d := (some 35)) rfl rfl (by kernel_rfl) (by kernel_rfl) (by kernel_rfl) (fun _ _ _ h => h) (by rfl) hH ?_
     refine ht 17 (some 36) (v := ?_) rfl rfl ?_ hH ?_
     rotate_left
     ·intro w' hSw; go_simp <;> with_reducible rfl
     simp only [Act.put, List.setIfInBounds_toArray, List.set_cons_zero, List.set_cons_succ]
     refine ht 18 (some 37) (v := ?_) rfl rfl ?_ hH ?_
     rotate_left
     ·intro w' hSw; go_simp <;> with_reducible rfl
     simp only [Act.put, List.setIfInBounds_toArray, List.set_cons_zero, List.set_cons_succ]
     refine held_skip (i := 19) (d := (some 38)) rfl rfl (by kernel_rfl) (by kernel_rfl) (by kernel_rfl) (fun _ _ _ h => h) (by rfl) hH ?_
     simp only [Act.put, List.setIfInBounds_toArray, List.set_cons_zero, List.set_cons_succ]
     refine held_skip (i := 20) (d := (some 39)) rfl rfl (by kernel_rfl) (by kernel_rfl) (by kernel_rfl) (fun _ _ _ h => h) (by rfl) hH ?_
     simp only [Act.put, List.setIfInBounds_toArray, List.set_cons_zero, List.set_cons_succ]
     refine held_skip (i := 21) (d := (some 40)) rfl rfl (by kernel_rfl) (by kernel_rfl) (by kernel_rfl) (fun _ _ _ h => h) (by rfl) hH ?_
     simp only [Act.put, List.setIfInBounds_toArray, List.set_cons_zero, List.set_cons_succ]
     refine held_skip (i := 22) (d := (some 41)) rfl rfl (by kernel_rfl) (by kernel_rfl) (by kernel_rfl) (fun _ _ _ h => h) (by rfl) hH ?_
     simp only [Act.put, List.setIfInBounds_toArray, List.set_cons_zero, List.set_cons_succ]
     refine held_skip (i := 23) (d := (some 42)) rfl rfl (by kernel_rfl) (by kernel_rfl) (by kernel_rfl) (fun _ _ _ h => h) (by rfl) hH ?_
     simp only [Act.put, List.setIfInBounds_toArray, List.set_cons_zero, List.set_cons_succ]
     refine held_skip (i := 24) (d := (some 43)) rfl rfl (by kernel_rfl) (by kernel_rfl) (by kernel_rfl) (fun _ _ _ h => h) (by rfl) hH ?_
     simp only [Act.put, List.setIfInBounds_toArray, List.set_cons_zero, List.set_cons_succ]
     refine held_skip (i := 25) (d := (some 44)) rfl rfl (by kernel_rfl) (by kernel_rfl) (by kernel_rfl) (fun _ _ _ h => h) (by rfl) hH ?_
     simp only [Act.put, List.setIfInBounds_toArray, List.set_cons_zero, List.set_cons_succ]
     refine held_skip (i := 26) (d := (some 45)) rfl rfl (by kernel_rfl) (by kernel_rfl) (by kernel_rfl) (fun _ _ _ h => h) (by rfl) hH ?_
     simp only [Act.put, List.setIfInBounds_toArray, List.set_cons_zero, List.set_cons_succ]
     refine held_skip (i := 27) (d := (some 46)) rfl rfl (by kernel_rfl) (by kernel_rfl) (by kernel_rfl) (fun _ _ _ h => h) (by rfl) hH ?_
     refine ht 28 (some 47) (v := ?_) rfl rfl ?_ hH ?_
     rotate_left
     ·intro w' hSw; go_simp <;> with_reducible rfl
     simp only [Act.put, List.setIfInBounds_toArray, List.set_cons_zero, List.set_cons_succ]
     refine wpAnyH_done (by kernel_rfl) ?_ _
     have NOW5 := hH.2
     go_wp2
     go_ret2
     rw [NB.out]
     exact ⟨rfl, HB2.out.trans (NOW5.out.mono HB2.out.size)⟩
    have gd2 := decide_eq_false g2
    by_cases g3 : qf ≥ (ps.length : Int)
    ·have gd3 := decide_eq_true g3
     have NB := Lib.hid (BAD.out (fun h => by have := (GE.out.1 h).2.2.1; omega))
     go_upto_region 6 with (first
      | (refine wpList_load_mid rfl 180 (.tmp 17) rfl b (o + j * 3) rfl _ _ LD.out Tryz.underlying180 rfl rpc_info ?_)
      | fail)
     (try rw [hW1])
     (try rw [hd])
     refine wp_region_held_drew (S := fun w' => ((w'.cell? ⟨d, 0, none⟩ = some (.int .i64 qf) ∧ w'.cell? ⟨d, 1, none⟩ = some (.int .i64 qo) ∧ w'.cell? ⟨d, 2, none⟩ = some (.int .i64 qn) ∧ w'.cell? ⟨gm, 0, none⟩ = some (.slice (some ⟨bo, 0, none⟩) ps.length co)) ∧ w'.cell? ⟨gm, 1, none⟩ = some (.slice (some ⟨bh, 0, none⟩) ps.length ch)) ∧ Hid (Below W1.heap.size W1 w')) (by kernel_rfl) (STEP.out _ (show Below W1.heap.size W1 W1.drew from ⟨rfl, rfl, rfl, Nat.le_refl _, fun _ _ => rfl⟩)) (fun hH => ?_)
     refine ht 0 (some 19) (v := ?_) rfl rfl ?_ hH ?_
     rotate_left
     ·intro w' hSw; go_simp <;> with_reducible rfl
     simp only [Act.put, List.setIfInBounds_toArray, List.set_cons_zero, List.set_cons_succ]
     refine held_one (i := 1) (by kernel_rfl) rfl (by rfl) ?_
     go_simp
     refine (W2.out _).mono ?_; rintro e w5 ⟨rfl, b5⟩
     have b6 := hH.2.out.trans (b5.mono hH.2.out.size)
     have hH := STEP.out w5 b6
     clear b5 b6
     refine ⟨hH, ?_⟩
     (try simp only [Act.put, List.setIfInBounds_toArray, List.set_cons_zero, List.set_cons_succ])
     refine ht 2 (some 21) (v := ?_) rfl rfl ?_ hH ?_
     rotate_left
     ·intro w' hSw; go_simp <;> with_reducible rfl
     refine ht 3 (some 22) (v := ?_) rfl rfl ?_ hH ?_
     rotate_left
     ·intro w' hSw; go_simp <;> with_reducible rfl
     simp only [Act.put, List.setIfInBounds_toArray, List.set_cons_zero, List.set_cons_succ]
     refine ht 4 (some 23) (v := ?_) rfl rfl ?_ hH ?_
     rotate_left
     ·intro w' hSw; go_simp <;> with_reducible rfl
     refine ht 5 (some 24) (v := ?_) rfl rfl ?_ hH ?_
     rotate_left
     ·intro w' hSw; go_simp <;> with_reducible rfl
     simp only [Act.put, List.setIfInBounds_toArray, List.set_cons_zero, List.set_cons_succ]
     refine ht 6 (some 25) (v := ?_) rfl rfl ?_ hH ?_
     rotate_left
     ·intro w' hSw; go_simp <;> with_reducible rfl
     refine ht 7 (some 26) (v := ?_) rfl rfl ?_ hH ?_
     rotate_left
     ·intro w' hSw; go_simp <;> with_reducible rfl
     simp only [Act.put, List.setIfInBounds_toArray, List.set_cons_zero, List.set_cons_succ]
     refine ht 8 (some 27) (v := ?_) rfl rfl ?_ hH ?_
     rotate_left
     ·intro w' hSw; go_simp <;> with_reducible rfl
     refine ht 9 (some 28) (v := ?_) rfl rfl ?_ hH ?_
     rotate_left
     ·intro w' hSw; go_simp <;> with_reducible rfl
     simp only [Act.put, List.setIfInBounds_toArray, List.set_cons_zero, List.set_cons_succ]
     refine ht 10 (some 29) (v := ?_) rfl rfl ?_ hH ?_
     rotate_left
     ·intro w' hSw; go_simp <;> with_reducible rfl
     refine ht 11 (some 30) (v := ?_) rfl rfl ?_ hH ?_
     rotate_left
     ·intro w' hSw; go_simp <;> with_reducible rfl
     simp only [Act.put, List.setIfInBounds_toArray, List.set_cons_zero, List.set_cons_succ]
     refine ht 12 (some 31) (v := ?_) rfl rfl ?_ hH ?_
     rotate_left
     ·intro w' hSw; go_simp <;> with_reducible rfl
     refine ht 13 (some 32) (v := ?_) rfl rfl ?_ hH ?_
     rotate_left
     ·intro w' hSw; go_simp <;> with_reducible rfl
     simp only [Act.put, List.setIfInBounds_toArray, List.set_cons_zero, List.set_cons_succ]
     refine ht 14 (some 33) (v := ?_) rfl rfl ?_ hH ?_
     rotate_left
     ·intro w' hSw; go_simp <;> with_reducible rfl
     refine ht 15 (some 34) (v := ?_) rfl rfl ?_ hH ?_
     rotate_left
     ·intro w' hSw; go_simp <;> with_reducible rfl
     simp only [Act.put, List.setIfInBounds_toArray, List.set_cons_zero, List.set_cons_succ]
     refine ht 16 (some 35) (v := ?_) rfl rfl ?_ hH ?_
     rotate_left
     ·intro w' hSw; go_simp <;> with_reducible rfl
     refine ht 17 (some 36) (v := ?_) rfl rfl ?_ hH ?_
     rotate_left
     ·intro w' hSw; go_simp <;> with_reducible rfl
     simp only [Act.put, List.setIfInBounds_toArray, List.set_cons_zero, List.set_cons_succ]
     refine ht 18 (some 37) (v := ?_) rfl rfl ?_ hH ?_
     rotate_left
     ·intro w' hSw; go_simp <;> with_reducible rfl
     simp only [Act.put, List.setIfInBounds_toArray, List.set_cons_zero, List.set_cons_succ]
     refine held_skip (i := 19) (d := (some 38)) rfl rfl (by kernel_rfl) (by kernel_rfl) (by kernel_rfl) (fun _ _ _ h => h) (by rfl) hH ?_
     simp only [Act.put, List.setIfInBounds_toArray, List.set_cons_zero, List.set_cons_succ]
     refine held_skip (i := 20) (d := (some 39)) rfl rfl (by kernel_rfl) (by kernel_rfl) (by kernel_rfl) (fun _ _ _ h => h) (by rfl) hH ?_
     simp only [Act.put, List.setIfInBounds_toArray, List.set_cons_zero, List.set_cons_succ]
     refine held_skip (i := 21) (d := (some 40)) rfl rfl (by kernel_rfl) (by kernel_rfl) (by kernel_rfl) (fun _ _ _ h => h) (by rfl) hH ?_
     simp only [Act.put, List.setIfInBounds_toArray, List.set_cons_zero, List.set_cons_succ]
     refine held_skip (i := 22) (d := (some 41)) rfl rfl (by kernel_rfl) (by kernel_rfl) (by kernel_rfl) (fun _ _ _ h => h) (by rfl) hH ?_
     simp only [Act.put, List.setIfInBounds_toArray, List.set_cons_zero, List.set_cons_succ]
     refine held_skip (i := 23) (d := (some 42)) rfl rfl (by kernel_rfl) (by kernel_rfl) (by kernel_rfl) (fun _ _ _ h => h) (by rfl) hH ?_
     simp only [Act.put, List.setIfInBounds_toArray, List.set_cons_zero, List.set_cons_succ]
     refine held_skip (i := 24) (d := (some 43)) rfl rfl (by kernel_rfl) (by kernel_rfl) (by kernel_rfl) (fun _ _ _ h => h) (by rfl) hH ?_
     simp only [Act.put, List.setIfInBounds_toArray, List.set_cons_zero, List.set_cons_succ]
     refine held_skip (i := 25) (d := (some 44)) rfl rfl (by kernel_rfl) (by kernel_rfl) (by kernel_rfl) (fun _ _ _ h => h) (by rfl) hH ?_
     simp only [Act.put, List.setIfInBounds_toArray, List.set_cons_zero, List.set_cons_succ]
     refine held_skip (i := 26) (d := (some 45)) rfl rfl (by kernel_rfl) (by kernel_rfl) (by kernel_rfl) (fun _ _ _ h => h) (by rfl) hH ?_
     simp only [Act.put, List.setIfInBounds_toArray, List.set_cons_zero, List.set_cons_succ]
     refine held_skip (i := 27) (d := (some 46)) rfl rfl (by kernel_rfl) (by kernel_rfl) (by kernel_rfl) (fun _ _ _ h => h) (by rfl) hH ?_
     refine ht 28 (some 47) (v := ?_) rfl rfl ?_ hH ?_
     rotate_left
     ·intro w' hSw; go_simp <;> with_reducible rfl
     simp only [Act.put, List.setIfInBounds_toArray, List.set_cons_zero, List.set_cons_succ]
     refine wpAnyH_done (by kernel_rfl) ?_ _
     have NOW5 := hH.2
     go_wp2
     go_ret2
     rw [NB.out]
     exact ⟨rfl, HB2.out.trans (NOW5.out.mono HB2.out.size)⟩
    have gd3 := decide_eq_false g3
    obtain ⟨k, rfl⟩ : ∃ k : Nat, qf = (k : Int) := ⟨qf.toNat, by omega⟩
    have hk : k < ps.length := by omega
    have k0 : (0 : Int) ≤ (k : Int) := by omega
    have k1 : (k : Int) < (ps.length : Int) := by omega
    have hch := T1.out.holdC hk
    have hlt1 := T1.out.holds.lt
    have HVE := Lib.hid (show (ps[k].holds : Int) = ((pg ps (k : Int)).holds : Int) by rw [pg_at hk])
    have STEP2 := Lib.hid (fun (W : World) (hb : Below W1.heap.size W1 W) => And.intro (And.intro (STEP.out W hb).1 ((hb.cell (p := ⟨bh, k, none⟩) hlt1).trans hch)) (STEP.out W hb).2)
    have TXE := Lib.hid (show txt ps (k : Int) = ps[k].text by unfold txt; rw [pg_at hk])
    have htc := T1.out.textC hk
    have ht256 := (T1.out.at_ hk).t
    generalize (ps[k].holds : Int) = hv at *
    clear hch
    by_cases g4 : hv = 0
    ·subst g4
     have NB := Lib.hid (BAD.out (fun h => by have := (GE.out.1 h).2.2.2; have e := HVE.out; omega))
     go_upto_region 6 with (first
      | (refine wpList_load_mid rfl 180 (.tmp 17) rfl b (o + j * 3) rfl _ _ LD.out Tryz.underlying180 rfl rpc_info ?_)
      | fail)
     (try rw [hW1])
     (try rw [hd])
     refine wp_region_held_drew (S := fun w' => (((w'.cell? ⟨d, 0, none⟩ = some (.int .i64 (k : Int)) ∧ w'.cell? ⟨d, 1, none⟩ = some (.int .i64 qo) ∧ w'.cell? ⟨d, 2, none⟩ = some (.int .i64 qn) ∧ w'.cell? ⟨gm, 0, none⟩ = some (.slice (some ⟨bo, 0, none⟩) ps.length co)) ∧ w'.cell? ⟨gm, 1, none⟩ = some (.slice (some ⟨bh, 0, none⟩) ps.length ch)) ∧ w'.cell? ⟨bh, k, none⟩ = some (.int .i64 0)) ∧ Hid (Below W1.heap.size W1 w')) (by kernel_rfl) (STEP2.out _ (show Below W1.heap.size W1 W1.drew from ⟨rfl, rfl, rfl, Nat.le_refl _, fun _ _ => rfl⟩)) (fun hH => ?_)
     refine ht 0 (some 19) (v := ?_) rfl rfl ?_ hH ?_
     rotate_left
     ·intro w' hSw; go_simp <;> with_reducible rfl
     simp only [Act.put, List.setIfInBounds_toArray, List.set_cons_zero, List.set_cons_succ]
     refine held_one (i := 1) (by kernel_rfl) rfl (by rfl) ?_
     go_simp
     refine (W2.out _).mono ?_; rintro e w5 ⟨rfl, b5⟩
     have b6 := hH.2.out.trans (b5.mono hH.2.out.size)
     have hH := STEP2.out w5 b6
     clear b5 b6
     refine ⟨hH, ?_⟩
     (try simp only [Act.put, List.setIfInBounds_toArray, List.set_cons_zero, List.set_cons_succ])
     refine ht 2 (some 21) (v := ?_) rfl rfl ?_ hH ?_
     rotate_left
     ·intro w' hSw; go_simp <;> with_reducible rfl
     refine ht 3 (some 22) (v := ?_) rfl rfl ?_ hH ?_
     rotate_left
     ·intro w' hSw; go_simp <;> with_reducible rfl
     simp only [Act.put, List.setIfInBounds_toArray, List.set_cons_zero, List.set_cons_succ]
     refine ht 4 (some 23) (v := ?_) rfl rfl ?_ hH ?_
     rotate_left
     ·intro w' hSw; go_simp <;> with_reducible rfl
     refine ht 5 (some 24) (v := ?_) rfl rfl ?_ hH ?_
     rotate_left
     ·intro w' hSw; go_simp <;> with_reducible rfl
     simp only [Act.put, List.setIfInBounds_toArray, List.set_cons_zero, List.set_cons_succ]
     refine ht 6 (some 25) (v := ?_) rfl rfl ?_ hH ?_
     rotate_left
     ·intro w' hSw; go_simp <;> with_reducible rfl
     refine ht 7 (some 26) (v := ?_) rfl rfl ?_ hH ?_
     rotate_left
     ·intro w' hSw; go_simp <;> with_reducible rfl
     simp only [Act.put, List.setIfInBounds_toArray, List.set_cons_zero, List.set_cons_succ]
     refine ht 8 (some 27) (v := ?_) rfl rfl ?_ hH ?_
     rotate_left
     ·intro w' hSw; go_simp <;> with_reducible rfl
     refine ht 9 (some 28) (v := ?_) rfl rfl ?_ hH ?_
     rotate_left
     ·intro w' hSw; go_simp <;> with_reducible rfl
     simp only [Act.put, List.setIfInBounds_toArray, List.set_cons_zero, List.set_cons_succ]
     refine ht 10 (some 29) (v := ?_) rfl rfl ?_ hH ?_
     rotate_left
     ·intro w' hSw; go_simp <;> with_reducible rfl
     refine ht 11 (some 30) (v := ?_) rfl rfl ?_ hH ?_
     rotate_left
     ·intro w' hSw; go_simp <;> with_reducible rfl
     simp only [Act.put, List.setIfInBounds_toArray, List.set_cons_zero, List.set_cons_succ]
     refine ht 12 (some 31) (v := ?_) rfl rfl ?_ hH ?_
     rotate_left
     ·intro w' hSw; go_simp <;> with_reducible rfl
     refine ht 13 (some 32) (v := ?_) rfl rfl ?_ hH ?_
     rotate_left
     ·intro w' hSw; go_simp <;> with_reducible rfl
     simp only [Act.put, List.setIfInBounds_toArray, List.set_cons_zero, List.set_cons_succ]
     refine ht 14 (some 33) (v := ?_) rfl rfl ?_ hH ?_
     rotate_left
     ·intro w' hSw; go_simp <;> with_reducible rfl
     refine ht 15 (some 34) (v := ?_) rfl rfl ?_ hH ?_
     rotate_left
     ·intro w' hSw; go_simp <;> with_reducible rfl
     simp only [Act.put, List.setIfInBounds_toArray, List.set_cons_zero, List.set_cons_succ]
     refine ht 16 (some 35) (v := ?_) rfl rfl ?_ hH ?_
     rotate_left
     ·intro w' hSw; go_simp <;> with_reducible rfl
     refine ht 17 (some 36) (v := ?_) rfl rfl ?_ hH ?_
     rotate_left
     ·intro w' hSw; go_simp <;> with_reducible rfl
     simp only [Act.put, List.setIfInBounds_toArray, List.set_cons_zero, List.set_cons_succ]
     refine ht 18 (some 37) (v := ?_) rfl rfl ?_ hH ?_
     rotate_left
     ·intro w' hSw; go_simp <;> with_reducible rfl
     refine ht 19 (some 38) (v := ?_) rfl rfl ?_ hH ?_
     rotate_left
     ·intro w' hSw; go_simp <;> with_reducible rfl
     simp only [Act.put, List.setIfInBounds_toArray, List.set_cons_zero, List.set_cons_succ]
     refine ht 20 (some 39) (v := ?_) rfl rfl ?_ hH ?_
     rotate_left
     ·intro w' hSw; go_simp <;> with_reducible rfl
     refine ht 21 (some 40) (v := ?_) rfl rfl ?_ hH ?_
     rotate_left
     ·intro w' hSw; go_simp <;> with_reducible rfl
     simp only [Act.put, List.setIfInBounds_toArray, List.set_cons_zero, List.set_cons_succ]
     refine ht 22 (some 41) (v := ?_) rfl rfl ?_ hH ?_
     rotate_left
     ·intro w' hSw; go_simp <;> with_reducible rfl
     refine ht 23 (some 42) (v := ?_) rfl rfl ?_ hH ?_
     rotate_left
     ·intro w' hSw; go_simp <;> with_reducible rfl
     simp only [Act.put, List.setIfInBounds_toArray, List.set_cons_zero, List.set_cons_succ]
     refine ht 24 (some 43) (v := ?_) rfl rfl ?_ hH ?_
     rotate_left
     ·intro w' hSw; go_simp <;> with_reducible rfl
     refine ht 25 (some 44) (v := ?_) rfl rfl ?_ hH ?_
     rotate_left
     ·intro w' hSw; go_simp <;> with_reducible rfl
     simp only [Act.put, List.setIfInBounds_toArray, List.set_cons_zero, List.set_cons_succ]
     refine ht 26 (some 45) (v := ?_) rfl rfl ?_ hH ?_
     rotate_left
     ·intro w' hSw; go_simp <;> with_reducible rfl
     refine ht 27 (some 46) (v := ?_) rfl rfl ?_ hH ?_
     rotate_left
     ·intro w' hSw; go_simp <;> with_reducible rfl
     simp only [Act.put, List.setIfInBounds_toArray, List.set_cons_zero, List.set_cons_succ]
     refine ht 28 (some 47) (v := ?_) rfl rfl ?_ hH ?_
     rotate_left
     ·intro w' hSw; go_simp <;> with_reducible rfl
     simp only [Act.put, List.setIfInBounds_toArray, List.set_cons_zero, List.set_cons_succ]
     refine wpAnyH_done (by kernel_rfl) ?_ _
     have NOW5 := hH.2
     go_wp2
     go_ret2
     rw [NB.out]
     exact ⟨rfl, HB2.out.trans (NOW5.out.mono HB2.out.size)⟩
    have gd4 : (hv == 0) = false := by simpa using g4
    have GO := Lib.hid (GE.out.2 ⟨rfl, by omega, by omega, by have e := HVE.out; omega⟩)
    go_upto_region 6 with (first
     | (refine wpList_load_mid rfl 180 (.tmp 17) rfl b (o + j * 3) rfl _ _ LD.out Tryz.underlying180 rfl rpc_info ?_)
     | fail)
    (try rw [hW1])
    (try rw [hd])
    refine wp_region_held_drew (S := fun w' => (((w'.cell? ⟨d, 0, none⟩ = some (.int .i64 (k : Int)) ∧ w'.cell? ⟨d, 1, none⟩ = some (.int .i64 qo) ∧ w'.cell? ⟨d, 2, none⟩ = some (.int .i64 qn) ∧ w'.cell? ⟨gm, 0, none⟩ = some (.slice (some ⟨bo, 0, none⟩) ps.length co)) ∧ w'.cell? ⟨gm, 1, none⟩ = some (.slice (some ⟨bh, 0, none⟩) ps.length ch)) ∧ w'.cell? ⟨bh, k, none⟩ = some (.int .i64 hv)) ∧ Hid (Below W1.heap.size W1 w')) (by kernel_rfl) (STEP2.out _ (show Below W1.heap.size W1 W1.drew from ⟨rfl, rfl, rfl, Nat.le_refl _, fun _ _ => rfl⟩)) (fun hH => ?_)
    refine ht 0 (some 19) (v := ?_) rfl rfl ?_ hH ?_
    rotate_left
    ·intro w' hSw; go_simp <;> with_reducible rfl
    simp only [Act.put, List.setIfInBounds_toArray, List.set_cons_zero, List.set_cons_succ]
    refine held_one (i := 1) (by kernel_rfl) rfl (by rfl) ?_
    go_simp
    refine (W2.out _).mono ?_; rintro e w5 ⟨rfl, b5⟩
    have b6 := hH.2.out.trans (b5.mono hH.2.out.size)
    have hH := STEP2.out w5 b6
    clear b5 b6
    refine ⟨hH, ?_⟩
    (try simp only [Act.put, List.setIfInBounds_toArray, List.set_cons_zero, List.set_cons_succ])
    refine ht 2 (some 21) (v := ?_) rfl rfl ?_ hH ?_
    rotate_left
    ·intro w' hSw; go_simp <;> with_reducible rfl
    refine ht 3 (some 22) (v := ?_) rfl rfl ?_ hH ?_
    rotate_left
    ·intro w' hSw; go_simp <;> with_reducible rfl
    simp only [Act.put, List.setIfInBounds_toArray, List.set_cons_zero, List.set_cons_succ]
    refine ht 4 (some 23) (v := ?_) rfl rfl ?_ hH ?_
    rotate_left
    ·intro w' hSw; go_simp <;> with_reducible rfl
    refine ht 5 (some 24) (v := ?_) rfl rfl ?_ hH ?_
    rotate_left
    ·intro w' hSw; go_simp <;> with_reducible rfl
    simp only [Act.put, List.setIfInBounds_toArray, List.set_cons_zero, List.set_cons_succ]
    refine ht 6 (some 25) (v := ?_) rfl rfl ?_ hH ?_
    rotate_left
    ·intro w' hSw; go_simp <;> with_reducible rfl
    refine ht 7 (some 26) (v := ?_) rfl rfl ?_ hH ?_
    rotate_left
    ·intro w' hSw; go_simp <;> with_reducible rfl
    simp only [Act.put, List.setIfInBounds_toArray, List.set_cons_zero, List.set_cons_succ]
    refine ht 8 (some 27) (v := ?_) rfl rfl ?_ hH ?_
    rotate_left
    ·intro w' hSw; go_simp <;> with_reducible rfl
    refine ht 9 (some 28) (v := ?_) rfl rfl ?_ hH ?_
    rotate_left
    ·intro w' hSw; go_simp <;> with_reducible rfl
    simp only [Act.put, List.setIfInBounds_toArray, List.set_cons_zero, List.set_cons_succ]
    refine ht 10 (some 29) (v := ?_) rfl rfl ?_ hH ?_
    rotate_left
    ·intro w' hSw; go_simp <;> with_reducible rfl
    refine ht 11 (some 30) (v := ?_) rfl rfl ?_ hH ?_
    rotate_left
    ·intro w' hSw; go_simp <;> with_reducible rfl
    simp only [Act.put, List.setIfInBounds_toArray, List.set_cons_zero, List.set_cons_succ]
    refine ht 12 (some 31) (v := ?_) rfl rfl ?_ hH ?_
    rotate_left
    ·intro w' hSw; go_simp <;> with_reducible rfl
    refine ht 13 (some 32) (v := ?_) rfl rfl ?_ hH ?_
    rotate_left
    ·intro w' hSw; go_simp <;> with_reducible rfl
    simp only [Act.put, List.setIfInBounds_toArray, List.set_cons_zero, List.set_cons_succ]
    refine ht 14 (some 33) (v := ?_) rfl rfl ?_ hH ?_
    rotate_left
    ·intro w' hSw; go_simp <;> with_reducible rfl
    refine ht 15 (some 34) (v := ?_) rfl rfl ?_ hH ?_
    rotate_left
    ·intro w' hSw; go_simp <;> with_reducible rfl
    simp only [Act.put, List.setIfInBounds_toArray, List.set_cons_zero, List.set_cons_succ]
    refine ht 16 (some 35) (v := ?_) rfl rfl ?_ hH ?_
    rotate_left
    ·intro w' hSw; go_simp <;> with_reducible rfl
    refine ht 17 (some 36) (v := ?_) rfl rfl ?_ hH ?_
    rotate_left
    ·intro w' hSw; go_simp <;> with_reducible rfl
    simp only [Act.put, List.setIfInBounds_toArray, List.set_cons_zero, List.set_cons_succ]
    refine ht 18 (some 37) (v := ?_) rfl rfl ?_ hH ?_
    rotate_left
    ·intro w' hSw; go_simp <;> with_reducible rfl
    refine ht 19 (some 38) (v := ?_) rfl rfl ?_ hH ?_
    rotate_left
    ·intro w' hSw; go_simp <;> with_reducible rfl
    simp only [Act.put, List.setIfInBounds_toArray, List.set_cons_zero, List.set_cons_succ]
    refine ht 20 (some 39) (v := ?_) rfl rfl ?_ hH ?_
    rotate_left
    ·intro w' hSw; go_simp <;> with_reducible rfl
    refine ht 21 (some 40) (v := ?_) rfl rfl ?_ hH ?_
    rotate_left
    ·intro w' hSw; go_simp <;> with_reducible rfl
    simp only [Act.put, List.setIfInBounds_toArray, List.set_cons_zero, List.set_cons_succ]
    refine ht 22 (some 41) (v := ?_) rfl rfl ?_ hH ?_
    rotate_left
    ·intro w' hSw; go_simp <;> with_reducible rfl
    refine ht 23 (some 42) (v := ?_) rfl rfl ?_ hH ?_
    rotate_left
    ·intro w' hSw; go_simp <;> with_reducible rfl
    simp only [Act.put, List.setIfInBounds_toArray, List.set_cons_zero, List.set_cons_succ]
    refine ht 24 (some 43) (v := ?_) rfl rfl ?_ hH ?_
    rotate_left
    ·intro w' hSw; go_simp <;> with_reducible rfl
    refine ht 25 (some 44) (v := ?_) rfl rfl ?_ hH ?_
    rotate_left
    ·intro w' hSw; go_simp <;> with_reducible rfl
    simp only [Act.put, List.setIfInBounds_toArray, List.set_cons_zero, List.set_cons_succ]
    refine ht 26 (some 45) (v := ?_) rfl rfl ?_ hH ?_
    rotate_left
    ·intro w' hSw; go_simp <;> with_reducible rfl
    refine ht 27 (some 46) (v := ?_) rfl rfl ?_ hH ?_
    rotate_left
    ·intro w' hSw; go_simp <;> with_reducible rfl
    simp only [Act.put, List.setIfInBounds_toArray, List.set_cons_zero, List.set_cons_succ]
    refine ht 28 (some 47) (v := ?_) rfl rfl ?_ hH ?_
    rotate_left
    ·intro w' hSw; go_simp <;> with_reducible rfl
    simp only [Act.put, List.setIfInBounds_toArray, List.set_cons_zero, List.set_cons_succ]
    refine wpAnyH_done (by kernel_rfl) ?_ _
    have hB5 := hH.2.out
    have hp1 := hH.1.1.1.2.1
    have hp2 := hH.1.1.1.2.2.1
    have hp0 := hH.1.1.1.1
    have T6 := T1.out.new hB5
    have hg2 := T6.heads.2.2
    have htc5 := T6.textC hk
    have BN := Lib.hid (fun n => show Below w.heap.size w (w5.drewN n) from (HB2.out.trans (hB5.mono HB2.out.size)).trans ⟨rfl, rfl, rfl, Nat.le_refl _, fun _ _ => rfl⟩)
    obtain ⟨G1, G2⟩ := GIN.out GO.out
    obtain ⟨off, rfl⟩ : ∃ q : Nat, qo = (q : Int) := ⟨qo.toNat, by omega⟩
    obtain ⟨m, rfl⟩ : ∃ q : Nat, qn = (q : Int) := ⟨qn.toNat, by omega⟩
    have GD2 := Lib.hid (GD.out GO.out)
    have x5 : IntKind.i64.wrap ((off : Int) + (m : Int)) = (off : Int) + (m : Int) := IntWalk.i64_in _ (by omega)
    have SL := fun W => RD.cut_text ps[k].text off m (by omega) W
    have HT2 := Lib.hid (show gatherB (txt ps) (l.take (j + 1)) = gatherB (txt ps) (l.take j) ++ (ps[k].text.drop off).take m from by
     have := HT.out
     rw [TXE.out, Int.toNat_natCast, Int.toNat_natCast] at this
     exact this)
    have hl : ((ps[k].text.drop off).take m).length = m := by rw [List.length_take, List.length_drop]; omega
    have SZ2 := Lib.hid (show X.size + m ≤ (j + 1) * 256 by have := HX.out.2; omega)
    have q1 : ¬ 9223372036854775807 < X.size + m := by have := HX.out.2; omega
    have q2 : ¬ 9223372036854775807 < X.size + ((ps[k].text.drop off).take m).length := by rw [hl]; exact q1
    have XE := Lib.hid HX.out.1
    have XR := Lib.hid (show X ++ (⟨((ps[k].text.drop off).take m).toArray⟩ : ByteArray) = ⟨(gatherB (txt ps) (l.take (j + 1))).toArray⟩ ∧ (X ++ (⟨((ps[k].text.drop off).take m).toArray⟩ : ByteArray)).size ≤ (j + 1) * 256 from
     ⟨by rw [HT2.out, XE.out, ByteArray.mk_append_mk], by
      rw [ByteArray.size_append]
      have e : (⟨((ps[k].text.drop off).take m).toArray⟩ : ByteArray).size = ((ps[k].text.drop off).take m).length := by simp [ByteArray.size]
      have := SZ2.out
      omega⟩)
    generalize ps[k].text = pt at *
    clear hH T6 hB5 G1 G2 hl
    clear HVE TXE
    clear htc
    go_upto_region 8 with fail
    go_quiet (fail)
    go_wp2
    go_roundw
    case rel => exact ⟨j + 1, _, by omega, by simp, rfl, XR, GD2, Lib.hid (BN.out _)⟩
    case measure => simp [intOf]; omega
  ·have hge : ¬ (j : Int) < (l.length : Int) := by omega
   obtain rfl : j = l.length := by omega
   have er : fetchG ps l = (gatherB (txt ps) l, 0) := by
    unfold fetchG; rw [if_pos]
    intro p hp
    obtain ⟨x, hx, rfl⟩ := List.mem_iff_getElem.1 hp
    exact hg.out x hx hx
   have ex := HX.out.1
   rw [List.take_length] at ex
   have ER := Lib.hid er
   have EX := Lib.hid ex
   clear er ex hg
   go_wp2
   go_ret2
   rw [ER.out]
   exact ⟨by rw [EX.out]; rfl, HB.out⟩
end
end Go.Proofs.YtbkjjakkihbcdaaGreat
