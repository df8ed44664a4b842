/- A kernel in memory: what stands where a part of it turns. Conditions: those that each states. -/
import Derived.Test.YtefnkednnnlhoaaGreatDoorMAL
namespace Go.Proofs.YtefnkednnnlhoaaGreatDoor.Ke
open Go.ChangeShapes Go.WideShapes Go.ChangeAt Go.RowKit Go.Deep Fr Di
set_option linter.unusedVariables false
section
variable {w w' : World} {lab : Nat → Nat} {g : Nat} {K : Kn} {a : Ad}
theorem KAt.setPs (h : KAt w lab g K a) {ps' : List Pg} (k : Chg w w' (fun i => i = a.gs)) (t : Fr.Tab w' a.gs a.gt ps') : KAt w' lab g { K with ps := ps' } a ∧ LStep w w' lab lab := by
  have kk : Chg w _ (fun i => lab i = 2) := k.weak fun i (hi : i = a.gs) => by show lab i = 2; rw [hi, h.lt1]
  obtain ⟨q1, q2, q3, q4, q5, q6, q7, q8, q9, q10, q11, q12⟩ := h.keep (m := 2) kk (by omega)
  exact ⟨⟨q1 (by omega), t, q3 (by omega), q4 (by omega), q8, q5 (by omega), q9, q6 (by omega), q10, q7 (by omega), q11, h.lg, h.lt1, h.lt2, h.lr, h.l11, h.l12, h.l21, h.l22, h.l31, h.l32, fun i hi => Nat.lt_of_lt_of_le (h.all i hi) k.size⟩, LStep.of kk (by omega) (by omega) (by omega)⟩
theorem KAt.setRing1 (h : KAt w lab g K a) {x' : List Value} {f' : Nat} {i' : List (List UInt8)} (k : Chg w w' (fun i => i = a.a1 ∨ i = a.b1)) (r : RgP.Ring w' a.a1 a.b1 16 f' x') (p : Pair (PkAt w (on lab)) x' i') :
    KAt w' lab g { K with i1 := i', f1 := f' } { a with x1 := x' } ∧ LStep w w' lab lab := by
  have kk : Chg w _ (fun i => lab i = 5) := k.weak fun i hi => by show lab i = 5; rcases hi with e | e; (rw [e, h.l11]); (rw [e, h.l12])
  obtain ⟨q1, q2, q3, q4, q5, q6, q7, q8, q9, q10, q11, q12⟩ := h.keep (m := 5) kk (by omega)
  exact ⟨⟨q1 (by omega), q2 (by omega), q3 (by omega), q4 (by omega), q8, r, p.weak (fun _ _ _ h => h.step q12), q6 (by omega), q10, q7 (by omega), q11, h.lg, h.lt1, h.lt2, h.lr, h.l11, h.l12, h.l21, h.l22, h.l31, h.l32, fun i hi => Nat.lt_of_lt_of_le (h.all i hi) k.size⟩, LStep.of kk (by omega) (by omega) (by omega)⟩
theorem KAt.setRing2 (h : KAt w lab g K a) {x' : List Value} {f' : Nat} {i' : List (List UInt8)} (k : Chg w w' (fun i => i = a.a2 ∨ i = a.b2)) (r : RgP.Ring w' a.a2 a.b2 16 f' x') (p : Pair (PkAt w (on lab)) x' i') :
    KAt w' lab g { K with i2 := i', f2 := f' } { a with x2 := x' } ∧ LStep w w' lab lab := by
  have kk : Chg w _ (fun i => lab i = 6) := k.weak fun i hi => by show lab i = 6; rcases hi with e | e; (rw [e, h.l21]); (rw [e, h.l22])
  obtain ⟨q1, q2, q3, q4, q5, q6, q7, q8, q9, q10, q11, q12⟩ := h.keep (m := 6) kk (by omega)
  exact ⟨⟨q1 (by omega), q2 (by omega), q3 (by omega), q4 (by omega), q8, q5 (by omega), q9, r, p.weak (fun _ _ _ h => h.step q12), q7 (by omega), q11, h.lg, h.lt1, h.lt2, h.lr, h.l11, h.l12, h.l21, h.l22, h.l31, h.l32, fun i hi => Nat.lt_of_lt_of_le (h.all i hi) k.size⟩, LStep.of kk (by omega) (by omega) (by omega)⟩
theorem KAt.setRing3 (h : KAt w lab g K a) {x' : List (Value × Value)} {f' : Nat} {o' : List Tr} (k : Chg w w' (fun i => i = a.a3 ∨ i = a.b3)) (r : RgT.Ring w' a.a3 a.b3 16 f' x') (p : Pair (TrAt w (on lab)) x' o') :
    KAt w' lab g { K with out := o', f3 := f' } { a with x3 := x' } ∧ LStep w w' lab lab := by
  have kk : Chg w _ (fun i => lab i = 7) := k.weak fun i hi => by show lab i = 7; rcases hi with e | e; (rw [e, h.l31]); (rw [e, h.l32])
  obtain ⟨q1, q2, q3, q4, q5, q6, q7, q8, q9, q10, q11, q12⟩ := h.keep (m := 7) kk (by omega)
  exact ⟨⟨q1 (by omega), q2 (by omega), q3 (by omega), q4 (by omega), q8, q5 (by omega), q9, q6 (by omega), q10, r, p.weak (fun _ _ _ h => h.step q12), h.lg, h.lt1, h.lt2, h.lr, h.l11, h.l12, h.l21, h.l22, h.l31, h.l32, fun i hi => Nat.lt_of_lt_of_le (h.all i hi) k.size⟩, LStep.of kk (by omega) (by omega) (by omega)⟩
theorem KAt.setDone (h : KAt w lab g K a) (d : Nat) : KAt (w.setCell ⟨g, 7, none⟩ (.int .i64 (d : Int))) lab g { K with done := d } a ∧ LStep w (w.setCell ⟨g, 7, none⟩ (.int .i64 (d : Int))) lab lab := by
  have k : Chg w (w.setCell ⟨g, 7, none⟩ (.int .i64 (d : Int))) (fun i => i = g) := Chg.set _ _ _ rfl
  have kk : Chg w _ (fun i => lab i = 1) := k.weak fun i (hi : i = g) => by show lab i = 1; rw [hi, h.lg]
  obtain ⟨q1, q2, q3, q4, q5, q6, q7, q8, q9, q10, q11, q12⟩ := h.keep (m := 1) kk (by omega)
  exact ⟨⟨h.head.put 7 (.int .i64 (d : Int)), q2 (by omega), q3 (by omega), q4 (by omega), q8, q5 (by omega), q9, q6 (by omega), q10, q7 (by omega), q11, h.lg, h.lt1, h.lt2, h.lr, h.l11, h.l12, h.l21, h.l22, h.l31, h.l32, fun i hi => Nat.lt_of_lt_of_le (h.all i hi) k.size⟩, ⟨kk.weak fun i hi => ⟨by have : lab i = 1 := hi; omega, by have : lab i = 1 := hi; omega⟩, fun k hk => .inl hk, fun k _ => rfl, fun i hi hl => ⟨by
    by_cases e : i = g
    · subst e
      exact ((h.head.put 7 (.int .i64 (d : Int))).cell 0).trans (h.head.cell 0).symm
    · exact World.cell?_of_block (k.block i hl e), hi⟩⟩⟩
theorem da_iff {F F' : Nat → Prop} {d : Dk} {g : Nat} (h : DA w F g d) (e : ∀ k, F k ↔ F' k) : DA w F' g d := by
  obtain ⟨gb, Al, cl, Ae, ce, D, hF⟩ := h
  exact ⟨gb, Al, cl, Ae, ce, D, fun k => (e k).symm.trans (hF k)⟩
/-- The labels where part m lies in the blocks F from now on. -/
structure Relab (lab L : Nat → Nat) (m : Nat) (F : Nat → Prop) : Prop where
  yes : ∀ k, F k → L k = m
  no : ∀ k, ¬ F k → L k = if lab k = m then 0 else lab k
theorem relab_ex (lab : Nat → Nat) (m : Nat) (F : Nat → Prop) : ∃ L, Relab lab L m F :=
  ⟨fun k => @ite _ (F k) (Classical.propDecidable _) m (if lab k = m then 0 else lab k), fun k h => if_pos h, fun k h => if_neg h⟩
theorem Relab.far {L : Nat → Nat} {m : Nat} {F : Nat → Prop} (r : Relab lab L m F) {k : Nat} (hF : ∀ k, F k → lab k = m ∨ w.heap.size ≤ k) (h1 : lab k ≠ m) (h2 : k < w.heap.size) : L k = lab k := by
  rw [r.no, if_neg h1]
  intro hk
  rcases hF k hk with h3 | h3
  · exact h1 h3
  · omega
theorem Relab.iff {L : Nat → Nat} {m : Nat} {F : Nat → Prop} (r : Relab lab L m F) (hm : m ≠ 0) (k : Nat) : L k = m ↔ F k := by
  constructor
  · intro h
    by_cases hk : F k
    · exact hk
    · rw [r.no k hk] at h
      split at h <;> omega
  · exact r.yes k
theorem Relab.back {L : Nat → Nat} {m : Nat} {F : Nat → Prop} (r : Relab lab L m F) {k : Nat} (hk : ¬ F k) (h : L k ≠ 0) : lab k ≠ 0 ∧ L k = lab k ∧ lab k ≠ m := by
  rw [r.no k hk] at h ⊢
  split at h
  · omega
  · rename_i h1
    exact ⟨h, by rw [if_neg h1], h1⟩
theorem Relab.on {L : Nat → Nat} {m : Nat} {F : Nat → Prop} (r : Relab lab L m F) (hm : m ≠ 0) (hF : ∀ k, F k → lab k = m ∨ w.heap.size ≤ k) : ∀ k, Ke.on L k → Ke.on lab k ∨ w.heap.size ≤ k := by
  intro k hk
  by_cases h : F k
  · rcases hF k h with h1 | h1
    · left; show lab k ≠ 0; omega
    · exact .inr h1
  · exact .inl (r.back h hk).1
theorem KAt.setDk (h : KAt w lab g K a) {F' : Nat → Prop} {d' : Dk} (k : Step w w' (fun i => lab i = 3) F') (t : DA w' F' a.gd d') : ∃ lab', KAt w' lab' g { K with dk := d' } a ∧ LStep w w' lab lab' := by
  obtain ⟨q1, q2, q3, q4, q5, q6, q7, q8, q9, q10, q11, q12⟩ := h.keep (m := 3) k.1 (by omega)
  obtain ⟨L, r⟩ := relab_ex lab 3 F'
  have far : ∀ i m, lab i = m → m ≠ 3 → m ≠ 0 → L i = m := fun i m e h3 h0 => by
    rw [r.far k.2 (by omega) (h.all i (by omega))]; exact e
  have hs : Step w w' (on lab) (on L) := ⟨q12.1, r.on (by omega) k.2⟩
  refine ⟨L, ⟨q1 (by omega), q2 (by omega), da_iff t (fun i => (r.iff (by omega) i).symm), q4 (by omega), h.fil.weak (fun _ _ _ h => h.step hs), q5 (by omega), h.p1.weak (fun _ _ _ h => h.step hs), q6 (by omega), h.p2.weak (fun _ _ _ h => h.step hs), q7 (by omega), h.p3.weak (fun _ _ _ h => h.step hs),
    far _ _ h.lg (by omega) (by omega), far _ _ h.lt1 (by omega) (by omega), far _ _ h.lt2 (by omega) (by omega), fun b hb => far _ _ (h.lr b hb) (by omega) (by omega), far _ _ h.l11 (by omega) (by omega), far _ _ h.l12 (by omega) (by omega), far _ _ h.l21 (by omega) (by omega), far _ _ h.l22 (by omega) (by omega), far _ _ h.l31 (by omega) (by omega), far _ _ h.l32 (by omega) (by omega), fun i hi => ?_⟩, ⟨k.1.weak fun i (hi : lab i = 3) => by rw [hi]; omega, hs.2, fun i hi => far i _ rfl (by omega) (by omega), fun i hi hl => ⟨World.cell?_of_block (k.1.block i hl (fun e : lab i = 3 => by omega)), far i 1 hi (by omega) (by omega)⟩⟩⟩
  by_cases hf : F' i
  · exact t.lt hf
  · exact Nat.lt_of_lt_of_le (h.all i (r.back hf hi).1) k.1.size
theorem KAt.setRow (h : KAt w lab g K a) {A' : Option Addr} {c' : Nat} {fm' : List FM} {fs' : List Fil} {nx : Nat} (k : Chg w w' (fun i => i = g ∨ inB a.A i))
    (hd : Blk w' g 91 #[.pointer (some ⟨a.gt, 0, none⟩), .pointer (some ⟨a.gd, 0, none⟩), .slice A' fs'.length c', .int .i64 (nx : Int), .pointer (some ⟨a.b1, 0, none⟩), .pointer (some ⟨a.b2, 0, none⟩), .pointer (some ⟨a.b3, 0, none⟩), .int .i64 (K.done : Int)])
    (row : FRow w' A' c' fm') (hat : ∀ b, inB A' b → inB a.A b ∨ w.heap.size ≤ b) (pr : Pair (FilAt w (on lab)) fm' fs') :
    ∃ lab', KAt w' lab' g { K with fs := fs', next := nx } { a with A := A', c := c', fm := fm' } ∧ LStep w w' lab lab' := by
  have hF : ∀ b, inB A' b → lab b = 4 ∨ w.heap.size ≤ b := fun b hb => (hat b hb).imp (h.lr b) id
  have kk : Chg w w' (fun i => lab i = 1 ∨ lab i = 4) := k.weak fun i hi => by
    rcases hi with e | e
    · left; rw [e]; exact h.lg
    · right; exact h.lr i e
  obtain ⟨L, r⟩ := relab_ex lab 4 (inB A')
  have hs : Step w w' (on lab) (on L) := ⟨kk.weak fun i hi => by show lab i ≠ 0; rcases hi with e | e <;> omega, r.on (by omega) hF⟩
  have far : ∀ i m, lab i = m → m ≠ 4 → m ≠ 0 → L i = m := fun i m e h3 h0 => by
    rw [r.far hF (by omega) (h.all i (by omega))]; exact e
  have nt : ∀ i m, lab i = m → m ≠ 1 → m ≠ 4 → ¬ (lab i = 1 ∨ lab i = 4) := fun i m e h1 h2 => by omega
  refine ⟨L, ⟨hd, h.tab.chg kk (nt _ _ h.lt1 (by omega) (by omega)) (nt _ _ h.lt2 (by omega) (by omega)), da_iff (h.dk.chg kk (fun i hi (hj : lab i = 3) => by omega)) (fun i => ?_), row, pr.weak (fun _ _ _ h => h.step hs),
    h.r1.chg kk (nt _ _ h.l11 (by omega) (by omega)) (nt _ _ h.l12 (by omega) (by omega)), h.p1.weak (fun _ _ _ h => h.step hs), h.r2.chg kk (nt _ _ h.l21 (by omega) (by omega)) (nt _ _ h.l22 (by omega) (by omega)), h.p2.weak (fun _ _ _ h => h.step hs), h.r3.chg kk (nt _ _ h.l31 (by omega) (by omega)) (nt _ _ h.l32 (by omega) (by omega)), h.p3.weak (fun _ _ _ h => h.step hs),
    far _ _ h.lg (by omega) (by omega), far _ _ h.lt1 (by omega) (by omega), far _ _ h.lt2 (by omega) (by omega), fun b hb => r.yes b hb, far _ _ h.l11 (by omega) (by omega), far _ _ h.l12 (by omega) (by omega), far _ _ h.l21 (by omega) (by omega), far _ _ h.l22 (by omega) (by omega), far _ _ h.l31 (by omega) (by omega), far _ _ h.l32 (by omega) (by omega), fun i hi => ?_⟩, ⟨kk.weak fun i hi => by rcases hi with e | e <;> omega, hs.2, fun i hi => far i _ rfl (by omega) (by omega), fun i hi hl => ⟨by
    by_cases e : i = g
    · subst e
      exact (hd.cell 0).trans (h.head.cell 0).symm
    · exact World.cell?_of_block (k.block i hl (fun e' => e'.elim e (fun e2 => by have := h.lr i e2; omega))), far i 1 hi (by omega) (by omega)⟩⟩⟩
  · constructor
    · intro e; exact far i 3 e (by omega) (by omega)
    · intro e
      have e' : L i = 3 := e
      by_cases hf : inB A' i
      · rw [r.yes i hf] at e'; omega
      · have := r.back hf (by omega)
        show lab i = 3
        omega
  · by_cases hf : inB A' i
    · exact RowW.lt row i hf
    · exact Nat.lt_of_lt_of_le (h.all i (r.back hf hi).1) k.size
end
end Go.Proofs.YtefnkednnnlhoaaGreatDoor.Ke

/- Package kern: New. Conditions: those that each states. -/
namespace Go.Proofs.YtefnkednnnlhoaaGreatDoor.Ke
open Go.ChangeShapes Go.WideShapes Go.ChangeAt Go.RowKit Go.Deep Fr Di
set_option linter.unusedVariables false

abbrev KHead (w : World) (g gt gd : Nat) (p1 p2 p3 : Option Addr) : Prop := Blk w g 91 #[.pointer (some ⟨gt, 0, none⟩), .pointer (some ⟨gd, 0, none⟩), .slice none 0 0, .int .i64 0, .pointer p1, .pointer p2, .pointer p3, .int .i64 0]
/-- So many rings of packets are laid. -/
structure WR (w : World) (g gt gd : Nat) (j : Nat) (wr : World) : Prop where
  chg : Chg w wr (fun k => k = g)
  size : wr.heap.size = w.heap.size + 2 * j
  head : KHead wr g gt gd (if 1 ≤ j then some ⟨w.heap.size + 1, 0, none⟩ else none) (if 2 ≤ j then some ⟨w.heap.size + 3, 0, none⟩ else none) none
  r1 : 1 ≤ j → RgP.Ring wr w.heap.size (w.heap.size + 1) 16 0 []
  r2 : 2 ≤ j → RgP.Ring wr (w.heap.size + 2) (w.heap.size + 3) 16 0 []
structure Rings (w : World) (g gt gd : Nat) (w' : World) : Prop where
  chg : Chg w w' (fun k => k = g)
  head : KHead w' g gt gd (some ⟨w.heap.size + 1, 0, none⟩) (some ⟨w.heap.size + 3, 0, none⟩) (some ⟨w.heap.size + 5, 0, none⟩)
  r1 : RgP.Ring w' w.heap.size (w.heap.size + 1) 16 0 []
  r2 : RgP.Ring w' (w.heap.size + 2) (w.heap.size + 3) 16 0 []
  r3 : RgT.Ring w' (w.heap.size + 4) (w.heap.size + 5) 16 0 []
  size : w'.heap.size = w.heap.size + 6
set_option maxRecDepth 100000 in
set_option maxHeartbeats 2000000 in
theorem rings_any (g gt gd : Nat) (w : World) (h : KHead w g gt gd none none none) :
    Calls Tryz.prog 32 #[.pointer (some ⟨g, 0, none⟩)] w fun e w' => e = .returned (.tuple #[.pointer (some ⟨g, 0, none⟩), .int .i64 0]) ∧ Rings w g gt gd w' := by
  have hg : g < w.heap.size := h.lt
  have W0 := Lib.hid (show WR w g gt gd 0 w from ⟨Chg.refl _ _, by omega, h, fun h => absurd h (by omega), fun h => absurd h (by omega)⟩)
  clear h
  go_enter Tryz.func32, Tryz.ntmps32
  go_wp2
  go_loopw [4, 6] (fun e i wr => ∃ (j : Nat), j ≤ 2 ∧ i = .int .i64 (j : Int) ∧ e = .int .i64 0 ∧ Hid (WR w g gt gd j wr)) (fun _ i _ => 2 - (intOf i).toNat)
  case atStart => exact ⟨0, by omega, rfl, rfl, W0⟩
  case round =>
    clear W0
    obtain ⟨j, hj, rfl, rfl, HR⟩ := hrel
    have hj3 : j = 0 ∨ j = 1 ∨ j = 2 := by omega
    rcases hj3 with rfl | rfl | rfl
    · have HD := Lib.hid (show KHead wr g gt gd none none none from HR.out.head)
      go_upto_region 5 with fail
      refine wp_region_held_drew (S := fun w' => Hid (wr.heap.size ≤ w'.heap.size)) (by kernel_rfl) (Lib.hid (Nat.le_refl _)) (fun hS => ?_)
      refine held_take (i := 0) (d := (some 10)) (v := ?_) rfl rfl (by kernel_rfl) (by kernel_rfl) (by kernel_rfl) (fun _ _ _ h => h) (by rfl) ?_ hS ?_
      rotate_left
      · intro w' hSw; (try dsimp only at hSw); go_simp <;> with_reducible rfl
      simp only [Act.put, List.setIfInBounds_toArray, List.set_cons_zero, List.set_cons_succ]
      refine held_take (i := 1) (d := (some 11)) (v := ?_) rfl rfl (by kernel_rfl) (by kernel_rfl) (by kernel_rfl) (fun _ _ _ h => h) (by rfl) ?_ hS ?_
      rotate_left
      · intro w' hSw; (try dsimp only at hSw); go_simp <;> with_reducible rfl
      simp only [Act.put, List.setIfInBounds_toArray, List.set_cons_zero, List.set_cons_succ]
      refine held_take (i := 6) (d := (some 15)) (v := ?_) rfl rfl (by kernel_rfl) (by kernel_rfl) (by kernel_rfl) (fun _ _ _ h => h) (by rfl) ?_ hS ?_
      rotate_left
      · intro w' hSw; (try dsimp only at hSw); go_simp <;> with_reducible rfl
      simp only [Act.put, List.setIfInBounds_toArray, List.set_cons_zero, List.set_cons_succ]
      refine held_take (i := 7) (d := (some 16)) (v := ?_) rfl rfl (by kernel_rfl) (by kernel_rfl) (by kernel_rfl) (fun _ _ _ h => h) (by rfl) ?_ hS ?_
      rotate_left
      · intro w' hSw; (try dsimp only at hSw); go_simp <;> with_reducible rfl
      simp only [Act.put, List.setIfInBounds_toArray, List.set_cons_zero, List.set_cons_succ]
      refine held_one (i := 2) (by kernel_rfl) rfl (by rfl) ?_
      go_simp
      refine (RgP.new_ok 16 _ (by omega) (by omega)).mono ?_; rintro e w5 ⟨rfl, r5, b5, z5⟩
      have HD5 := Lib.hid (HD.out.older (older_below (show Below wr.heap.size wr w5 from ⟨b5.os, b5.tape, b5.output, b5.size, b5.block⟩)))
      have c5 := HD5.out.cell 4
      have f5 := HD5.out.frozen 4
      simp only [List.getElem?_toArray, List.getElem?_cons_succ, List.getElem?_cons_zero] at c5
      have R5 := Lib.hid r5
      have B5 := Lib.hid (show Below wr.heap.size wr w5 from ⟨b5.os, b5.tape, b5.output, b5.size, b5.block⟩)
      have Z5 := Lib.hid (show w5.heap.size = wr.heap.size + 2 from z5)
      have HW5 := Lib.hid (show wr.drew.heap.size = wr.heap.size from rfl)
      clear r5 b5 z5
      have hS : Hid (wr.heap.size ≤ w5.heap.size) := Lib.hid B5.out.size
      refine ⟨hS, ?_⟩
      (try simp only [Act.put, List.setIfInBounds_toArray, List.set_cons_zero, List.set_cons_succ])
      refine held_take (i := 3) (d := (some 9)) (v := ?_) rfl rfl (by kernel_rfl) (by kernel_rfl) (by kernel_rfl) (fun _ _ _ h => h) (by rfl) ?_ hS ?_
      rotate_left
      · intro w' hSw; (try dsimp only at hSw); go_simp <;> with_reducible rfl
      simp only [Act.put, List.setIfInBounds_toArray, List.set_cons_zero, List.set_cons_succ]
      refine held_take (i := 4) (d := (some 13)) (v := ?_) rfl rfl (by kernel_rfl) (by kernel_rfl) (by kernel_rfl) (fun _ _ _ h => h) (by rfl) ?_ hS ?_
      rotate_left
      · intro w' hSw; (try dsimp only at hSw); go_simp <;> with_reducible rfl
      simp only [Act.put, List.setIfInBounds_toArray, List.set_cons_zero, List.set_cons_succ]
      refine held_take (i := 5) (d := (some 14)) (v := ?_) rfl rfl (by kernel_rfl) (by kernel_rfl) (by kernel_rfl) (fun _ _ _ h => h) (by rfl) ?_ hS ?_
      rotate_left
      · intro w' hSw; (try dsimp only at hSw); go_simp <;> with_reducible rfl
      simp only [Act.put, List.setIfInBounds_toArray, List.set_cons_zero, List.set_cons_succ]
      refine held_take (i := 8) (d := (some 17)) (v := ?_) rfl rfl (by kernel_rfl) (by kernel_rfl) (by kernel_rfl) (fun _ _ _ h => h) (by rfl) ?_ hS ?_
      rotate_left
      · intro w' hSw; (try dsimp only at hSw); go_simp <;> with_reducible rfl
      simp only [Act.put, List.setIfInBounds_toArray, List.set_cons_zero, List.set_cons_succ]
      refine held_one (i := 9) (by kernel_rfl) rfl (by rfl) ?_
      go_simp
      have hS : Hid (wr.heap.size ≤ (w5.setCell ⟨g, 4, none⟩ (.pointer (some ⟨wr.heap.size + 1, 0, none⟩))).heap.size) := Lib.hid (by simpa [World.setCell] using B5.out.size)
      (first | refine ⟨hS, ?_⟩ | skip)
      (try simp only [Act.put, List.setIfInBounds_toArray, List.set_cons_zero, List.set_cons_succ])
      refine held_take (i := 10) (d := (some 4)) (v := ?_) rfl rfl (by kernel_rfl) (by kernel_rfl) (by kernel_rfl) (fun _ _ _ h => h) (by rfl) ?_ hS ?_
      rotate_left
      · intro w' hSw; (try dsimp only at hSw); go_simp <;> with_reducible rfl
      simp only [Act.put, List.setIfInBounds_toArray, List.set_cons_zero, List.set_cons_succ]
      refine wpAnyH_done (by kernel_rfl) ?_ _
      have W5 := Lib.hid (show WR w g gt gd 1 (w5.setCell ⟨g, 4, none⟩ (.pointer (some ⟨wr.heap.size + 1, 0, none⟩))) from by
        have hz := HR.out.size
        have z5 := Z5.out
        have e0 : wr.heap.size = w.heap.size := by omega
        have kk : Chg w5 (w5.setCell ⟨g, 4, none⟩ (.pointer (some ⟨wr.heap.size + 1, 0, none⟩))) (fun k => k = g) := Chg.set _ _ _ rfl
        refine ⟨(HR.out.chg.trans (Chg.of_new B5.out _)).trans kk, by simp [World.setCell]; omega, ?_, fun _ => ?_, fun h => absurd h (by omega)⟩
        · rw [e0]; exact HD5.out.put 4 _
        · have r5 : RgP.Ring w5 wr.heap.size (wr.heap.size + 1) 16 0 [] := R5.out
          have r5 := r5.chg kk (by show ¬ wr.heap.size = g; omega) (by show ¬ wr.heap.size + 1 = g; omega)
          rw [e0] at r5 ⊢
          exact r5)
      go_wp2
      go_roundw
      case rel => exact ⟨1, by omega, rfl, rfl, W5⟩
      case measure => simp [intOf]
    · have HD := Lib.hid (show KHead wr g gt gd (some ⟨w.heap.size + 1, 0, none⟩) none none from HR.out.head)
      go_upto_region 5 with fail
      refine wp_region_held_drew (S := fun w' => Hid (wr.heap.size ≤ w'.heap.size)) (by kernel_rfl) (Lib.hid (Nat.le_refl _)) (fun hS => ?_)
      refine held_take (i := 0) (d := (some 10)) (v := ?_) rfl rfl (by kernel_rfl) (by kernel_rfl) (by kernel_rfl) (fun _ _ _ h => h) (by rfl) ?_ hS ?_
      rotate_left
      · intro w' hSw; (try dsimp only at hSw); go_simp <;> with_reducible rfl
      simp only [Act.put, List.setIfInBounds_toArray, List.set_cons_zero, List.set_cons_succ]
      refine held_take (i := 1) (d := (some 11)) (v := ?_) rfl rfl (by kernel_rfl) (by kernel_rfl) (by kernel_rfl) (fun _ _ _ h => h) (by rfl) ?_ hS ?_
      rotate_left
      · intro w' hSw; (try dsimp only at hSw); go_simp <;> with_reducible rfl
      simp only [Act.put, List.setIfInBounds_toArray, List.set_cons_zero, List.set_cons_succ]
      refine held_take (i := 6) (d := (some 15)) (v := ?_) rfl rfl (by kernel_rfl) (by kernel_rfl) (by kernel_rfl) (fun _ _ _ h => h) (by rfl) ?_ hS ?_
      rotate_left
      · intro w' hSw; (try dsimp only at hSw); go_simp <;> with_reducible rfl
      simp only [Act.put, List.setIfInBounds_toArray, List.set_cons_zero, List.set_cons_succ]
      refine held_take (i := 7) (d := (some 16)) (v := ?_) rfl rfl (by kernel_rfl) (by kernel_rfl) (by kernel_rfl) (fun _ _ _ h => h) (by rfl) ?_ hS ?_
      rotate_left
      · intro w' hSw; (try dsimp only at hSw); go_simp <;> with_reducible rfl
      simp only [Act.put, List.setIfInBounds_toArray, List.set_cons_zero, List.set_cons_succ]
      refine held_one (i := 2) (by kernel_rfl) rfl (by rfl) ?_
      go_simp
      refine (RgP.new_ok 16 _ (by omega) (by omega)).mono ?_; rintro e w5 ⟨rfl, r5, b5, z5⟩
      have HD5 := Lib.hid (HD.out.older (older_below (show Below wr.heap.size wr w5 from ⟨b5.os, b5.tape, b5.output, b5.size, b5.block⟩)))
      have c5 := HD5.out.cell 5
      have f5 := HD5.out.frozen 5
      simp only [List.getElem?_toArray, List.getElem?_cons_succ, List.getElem?_cons_zero] at c5
      have R5 := Lib.hid r5
      have B5 := Lib.hid (show Below wr.heap.size wr w5 from ⟨b5.os, b5.tape, b5.output, b5.size, b5.block⟩)
      have Z5 := Lib.hid (show w5.heap.size = wr.heap.size + 2 from z5)
      have HW5 := Lib.hid (show wr.drew.heap.size = wr.heap.size from rfl)
      clear r5 b5 z5
      have hS : Hid (wr.heap.size ≤ w5.heap.size) := Lib.hid B5.out.size
      refine ⟨hS, ?_⟩
      (try simp only [Act.put, List.setIfInBounds_toArray, List.set_cons_zero, List.set_cons_succ])
      refine held_take (i := 3) (d := (some 9)) (v := ?_) rfl rfl (by kernel_rfl) (by kernel_rfl) (by kernel_rfl) (fun _ _ _ h => h) (by rfl) ?_ hS ?_
      rotate_left
      · intro w' hSw; (try dsimp only at hSw); go_simp <;> with_reducible rfl
      simp only [Act.put, List.setIfInBounds_toArray, List.set_cons_zero, List.set_cons_succ]
      refine held_take (i := 4) (d := (some 13)) (v := ?_) rfl rfl (by kernel_rfl) (by kernel_rfl) (by kernel_rfl) (fun _ _ _ h => h) (by rfl) ?_ hS ?_
      rotate_left
      · intro w' hSw; (try dsimp only at hSw); go_simp <;> with_reducible rfl
      simp only [Act.put, List.setIfInBounds_toArray, List.set_cons_zero, List.set_cons_succ]
      refine held_take (i := 5) (d := (some 14)) (v := ?_) rfl rfl (by kernel_rfl) (by kernel_rfl) (by kernel_rfl) (fun _ _ _ h => h) (by rfl) ?_ hS ?_
      rotate_left
      · intro w' hSw; (try dsimp only at hSw); go_simp <;> with_reducible rfl
      simp only [Act.put, List.setIfInBounds_toArray, List.set_cons_zero, List.set_cons_succ]
      refine held_take (i := 8) (d := (some 17)) (v := ?_) rfl rfl (by kernel_rfl) (by kernel_rfl) (by kernel_rfl) (fun _ _ _ h => h) (by rfl) ?_ hS ?_
      rotate_left
      · intro w' hSw; (try dsimp only at hSw); go_simp <;> with_reducible rfl
      simp only [Act.put, List.setIfInBounds_toArray, List.set_cons_zero, List.set_cons_succ]
      refine held_one (i := 9) (by kernel_rfl) rfl (by rfl) ?_
      go_simp
      have hS : Hid (wr.heap.size ≤ (w5.setCell ⟨g, 5, none⟩ (.pointer (some ⟨wr.heap.size + 1, 0, none⟩))).heap.size) := Lib.hid (by simpa [World.setCell] using B5.out.size)
      (first | refine ⟨hS, ?_⟩ | skip)
      (try simp only [Act.put, List.setIfInBounds_toArray, List.set_cons_zero, List.set_cons_succ])
      refine held_take (i := 10) (d := (some 4)) (v := ?_) rfl rfl (by kernel_rfl) (by kernel_rfl) (by kernel_rfl) (fun _ _ _ h => h) (by rfl) ?_ hS ?_
      rotate_left
      · intro w' hSw; (try dsimp only at hSw); go_simp <;> with_reducible rfl
      simp only [Act.put, List.setIfInBounds_toArray, List.set_cons_zero, List.set_cons_succ]
      refine wpAnyH_done (by kernel_rfl) ?_ _
      have W5 := Lib.hid (show WR w g gt gd 2 (w5.setCell ⟨g, 5, none⟩ (.pointer (some ⟨wr.heap.size + 1, 0, none⟩))) from by
        have hz := HR.out.size
        have z5 := Z5.out
        have e0 : wr.heap.size = w.heap.size + 2 := by omega
        have kk : Chg w5 (w5.setCell ⟨g, 5, none⟩ (.pointer (some ⟨wr.heap.size + 1, 0, none⟩))) (fun k => k = g) := Chg.set _ _ _ rfl
        refine ⟨(HR.out.chg.trans (Chg.of_new B5.out _)).trans kk, by simp [World.setCell]; omega, ?_, fun _ => ?_, fun _ => ?_⟩
        · rw [e0]; exact HD5.out.put 5 _
        · exact ((HR.out.r1 (by omega)).new B5.out).chg kk (by show ¬ w.heap.size = g; omega) (by show ¬ w.heap.size + 1 = g; omega)
        · have r5 : RgP.Ring w5 wr.heap.size (wr.heap.size + 1) 16 0 [] := R5.out
          have r5 := r5.chg kk (by show ¬ wr.heap.size = g; omega) (by show ¬ wr.heap.size + 1 = g; omega)
          rw [e0] at r5 ⊢
          exact r5)
      go_wp2
      go_roundw
      case rel => exact ⟨2, by omega, rfl, rfl, W5⟩
      case measure => simp [intOf]
    · have HD := Lib.hid (show KHead wr g gt gd (some ⟨w.heap.size + 1, 0, none⟩) (some ⟨w.heap.size + 3, 0, none⟩) none from HR.out.head)
      go_wp2_with fail
      refine (RgT.new_ok 16 _ (by omega) (by omega)).mono ?_; rintro e w5 ⟨rfl, r5, b5, z5⟩
      have HD5 := Lib.hid (HD.out.older (older_below b5))
      have c5 := HD5.out.cell 6
      have f5 := HD5.out.frozen 6
      simp only [List.getElem?_toArray, List.getElem?_cons_succ, List.getElem?_cons_zero] at c5
      have W5 := Lib.hid (show Rings w g gt gd (w5.setCell ⟨g, 6, none⟩ (.pointer (some ⟨wr.heap.size + 1, 0, none⟩))) from by
        have hz := HR.out.size
        have e0 : wr.heap.size = w.heap.size + 4 := by omega
        have kk : Chg w5 (w5.setCell ⟨g, 6, none⟩ (.pointer (some ⟨wr.heap.size + 1, 0, none⟩))) (fun k => k = g) := Chg.set _ _ _ rfl
        refine ⟨(HR.out.chg.trans (Chg.of_new b5 _)).trans kk, ?_, ?_, ?_, ?_, by simp [World.setCell]; omega⟩
        · rw [e0]; exact HD5.out.put 6 _
        · exact ((HR.out.r1 (by omega)).new b5).chg kk (by show ¬ w.heap.size = g; omega) (by show ¬ w.heap.size + 1 = g; omega)
        · exact ((HR.out.r2 (by omega)).new b5).chg kk (by show ¬ w.heap.size + 2 = g; omega) (by show ¬ w.heap.size + 3 = g; omega)
        · have r6 := r5.chg kk (by show ¬ wr.heap.size = g; omega) (by show ¬ wr.heap.size + 1 = g; omega)
          rw [e0] at r6 ⊢
          exact r6)
      clear r5 b5 z5
      go_wp2
      go_ret2
      exact ⟨rfl, W5.out⟩
end Go.Proofs.YtefnkednnnlhoaaGreatDoor.Ke
