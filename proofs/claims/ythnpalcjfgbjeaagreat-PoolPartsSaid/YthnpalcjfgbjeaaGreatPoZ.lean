/- A pool that New makes of a kernel that New made, in plain words. Conditions: those that each states. -/
import Derived.Test.YthnpalcjfgbjeaaGreatPoY
import Derived.Test.YthnpalcjfgbjeaaGreatGxA
namespace Go.Proofs.YthnpalcjfgbjeaaGreat.Po
open Go.ChangeShapes Go.WideShapes Go.ChangeAt Go.RowKit Go.Deep Fr Di Ke
set_option linter.unusedVariables false

/-- A page of environment 1's, new. -/
def own1 : Pg := { Pg.blank with owner := 1 }
def pagesAt (m j : Nat) : List Pg := List.replicate j own1 ++ List.replicate (m - j) .blank
/-- The kernel of m pages and b blocks of which the first environment has the first j pages. -/
def newAt (m b j : Nat) : Kn := { newK m b with ps := pagesAt m j }
theorem newAt_zero (m b : Nat) : newAt m b 0 = newK m b := by
  unfold newAt pagesAt
  simp [newK]
theorem newAt_small (m b j : Nat) : (newAt m b j).Small 0 := ⟨Nat.le_refl _, Nat.le_refl _, Nat.le_refl _, Nat.le_refl _, Nat.le_refl _, Nat.le_refl _⟩
theorem pagesAt_len {m j : Nat} (h : j ≤ m) : (pagesAt m j).length = m := by simp [pagesAt]; omega
theorem pagesAt_lo {m j i : Nat} (h : i < j) (hj : j ≤ m) : (pagesAt m j)[i]? = some own1 := by
  unfold pagesAt
  rw [List.getElem?_append_left (by rw [List.length_replicate]; exact h), List.getElem?_replicate, if_pos h]
theorem pagesAt_hi {m j i : Nat} (h : j ≤ i) (hi : i < m) : (pagesAt m j)[i]? = some .blank := by
  unfold pagesAt
  rw [List.getElem?_append_right (by rw [List.length_replicate]; exact h), List.length_replicate, List.getElem?_replicate, if_pos (by omega)]
theorem pagesAt_set {m j : Nat} (h : j < m) : (pagesAt m j).set j own1 = pagesAt m (j + 1) := by
  apply List.ext_getElem?
  intro i
  rw [List.getElem?_set, pagesAt_len (by omega)]
  by_cases e : j = i
  · subst e
    rw [if_pos rfl, if_pos h, pagesAt_lo (by omega) (by omega)]
  · rw [if_neg e]
    by_cases h1 : i < j
    · rw [pagesAt_lo h1 (by omega), pagesAt_lo (by omega) (by omega)]
    · by_cases h2 : i < m
      · rw [pagesAt_hi (by omega) h2, pagesAt_hi (by omega) h2]
      · rw [List.getElem?_eq_none (by rw [pagesAt_len (by omega)]; omega), List.getElem?_eq_none (by rw [pagesAt_len (by omega)]; omega)]
theorem alloc_at {m j : Nat} (h : j < m) : Fr.allocR (pagesAt m j) 1 = (pagesAt m (j + 1), (j : Int), 0) := by
  unfold Fr.allocR
  have e : (pagesAt m j).findIdx? (fun p => p.owner == 0) = some j := by
    rw [List.findIdx?_eq_some_iff_getElem]
    refine ⟨by rw [pagesAt_len (by omega)]; exact h, ?_, fun k hk => ?_⟩
    · have := pagesAt_hi (Nat.le_refl j) h
      rw [List.getElem?_eq_getElem (by rw [pagesAt_len (by omega)]; exact h)] at this
      rw [Option.some.inj this]; rfl
    · have := pagesAt_lo hk (show j ≤ m by omega)
      rw [List.getElem?_eq_getElem (by rw [pagesAt_len (by omega)]; omega)] at this
      rw [Option.some.inj this]; decide
  rw [if_pos (.inl rfl), e]
  have e2 : pg (pagesAt m j) (j : Int) = Pg.blank := by
    have := pagesAt_hi (Nat.le_refl j) h
    rw [pg_at (k := j) (by rw [pagesAt_len (by omega)]; exact h)]
    rw [List.getElem?_eq_getElem (by rw [pagesAt_len (by omega)]; exact h)] at this
    exact Option.some.inj this
  show ((pagesAt m j).set j { pg (pagesAt m j) (j : Int) with owner := (1 : Int).toNat }, (j : Int), (0 : Int)) = _
  rw [e2]
  show ((pagesAt m j).set j own1, (j : Int), (0 : Int)) = _
  rw [pagesAt_set h]
theorem call_at {m b j : Nat} (h : j < m) : callR (newAt m b j) (bare 1 1 0 0 0) = (newAt m b (j + 1), (j : Int), [], 0) := by
  have h1 := callR_1 (newAt m b j) 1 (.inl rfl) 0 0 0 [] [] []
  have h2 : Fr.allocR (newAt m b j).ps 1 = (pagesAt m (j + 1), (j : Int), 0) := alloc_at h
  rw [h2] at h1
  exact h1
def bares (n : Nat) : List Sl := (List.range n).map Sl.bare
theorem bares_succ (n : Nat) : bares (n + 1) = bares n ++ [Sl.bare n] := by unfold bares; rw [List.range_succ, List.map_append]; rfl
theorem bares_len (n : Nat) : (bares n).length = n := by simp [bares]
theorem flat_append (l r : List Sl) : flat (l ++ r) = flat l ++ flat r := by unfold flat; rw [List.map_append, List.flatten_append]
/-- The pool of n slots. -/
def newP (m b n : Nat) : Po := ⟨newAt m b n, bares n, 0, 0⟩
end Go.Proofs.YthnpalcjfgbjeaaGreat.Po

/- A pool: New, of a kernel that New made. Conditions: those that each states. -/
namespace Go.Proofs.YthnpalcjfgbjeaaGreat.Po
open Go.ChangeShapes Go.WideShapes Go.ChangeAt Go.RowKit Go.Deep Fr Di Ke Gx
set_option linter.unusedVariables false

theorem slot_all : ∃ i0 z, Tryz.prog.info? 85 = some i0 ∧ i0.zero = some z ∧ z.cells.size = 7 ∧ i0.size = 7 ∧ i0.bytes = 64 := by
  have h : (Tryz.prog.info? 85).map (fun i => (i.zero.map (·.cells.size), i.size, i.bytes)) = some (some 7, 7, 64) := by kernel_rfl
  obtain ⟨i, hi, e⟩ := Option.map_eq_some_iff.1 h
  simp only [Prod.mk.injEq] at e
  obtain ⟨e1, e2, e3⟩ := e
  obtain ⟨z, hz, ez⟩ := Option.map_eq_some_iff.1 e1
  exact ⟨i, z, hi, hz, ez, e2, e3⟩
/-- A pool of which j slots are made. -/
structure NewAt (B : Nat) (w : World) (lab : Nat → Nat) (g gk : Nat) (A : Option Addr) (c m b j : Nat) : Prop where
  kb : KB B w lab gk (newAt m b j)
  head : Blk w g 73 #[.pointer (some ⟨gk, 0, none⟩), .slice A j c, .int .i64 0, .int .i64 0]
  row : RowW w 85 7 A j c (flat (bares j))
  lg : lab g = 9
  lr : ∀ q, inB A q → lab q = 9
  ne : ¬ inB A g
theorem NewAt.done {B : Nat} {w : World} {lab : Nat → Nat} {g gk : Nat} {A : Option Addr} {c m b n : Nat} (h : NewAt B w lab g gk A c m b n) (h1 : 1 ≤ n) (h2 : n ≤ 256) : ∃ gs, PB B w lab g gk gs c (newP m b n) := by
  obtain ⟨gs, rfl, _, _⟩ := h.row.form h1
  have hc := h.row.capMax
  rcases h.row.own.2 with ⟨e, _⟩ | ⟨g', cap, cur, e, _, hh, hn, hm, hs, ht⟩
  · cases e
  · cases e
    have hl : (newP m b n).sl.length = n := bares_len n
    refine ⟨gs, h.kb, ⟨by rw [hl]; exact h.head, ⟨cur, hh, by rw [hl]; omega, fun k hk => ?_⟩, by rw [hl]; exact hc.1, hc.2, by rw [hl]; exact h1, by rw [hl]; exact h2, by rw [hl]; exact h1, h.lg, h.lr gs (inB_self gs 0), fun e => h.ne (by rw [e]; exact inB_self gs 0)⟩⟩
    rw [hl] at hk
    show cur[k]? = (flat (bares n))[k]?
    rw [← ht, List.getElem?_take_of_lt hk]
    simp

set_option maxRecDepth 100000 in
set_option maxHeartbeats 4000000 in
theorem new_any {B : Nat} {w : World} {lab : Nat → Nat} {gk m b : Nat} (n : Nat) (h : KB B w lab gk (newK m b)) (hB : B ≤ w.heap.size) (h1 : 1 ≤ n) (h2 : n ≤ m) (h3 : n ≤ 256) :
    Calls Tryz.prog 7 #[.pointer (some ⟨gk, 0, none⟩), .int .i64 (n : Int)] w fun e w' => ∃ g, e = .returned (.tuple #[.pointer (some ⟨g, 0, none⟩), .int .i64 0]) ∧ w.heap.size ≤ g ∧ ∃ gs c lab', PB B w' lab' g gk gs c (newP m b n) ∧ PStep w w' lab lab' := by
  have a1 : ¬ (n : Int) < 1 := by omega
  have a2 : ¬ (n : Int) > 256 := by omega
  obtain ⟨W1, hW1⟩ : ∃ W1, w.alloc (.cells #[.pointer (some ⟨gk, 0, none⟩), .slice none 0 0, .int .i64 0, .int .i64 0] 73) = W1 := ⟨_, rfl⟩
  have bl : Below w.heap.size w W1 := by rw [← hW1]; exact (Below.refl _ w).alloc (Nat.le_refl _) _
  have H0 := Lib.hid (show NewAt B W1 (mark9 lab w.heap.size) w.heap.size gk none 0 m b 0 from ⟨by rw [newAt_zero]; exact (kb_row9 h hB (Chg.of_new bl _) w.heap.size (.inr (Nat.le_refl _)) (by rw [← hW1]; simp)).1, by rw [← hW1]; exact Blk.new w _ _, RowW.nil _ _ _, by unfold mark9; rw [if_pos rfl], fun q hq => absurd hq (inB_none q), inB_none _⟩)
  have L0 := Lib.hid (show PStep w W1 lab (mark9 lab w.heap.size) from ⟨Chg.of_new bl _, fun k hk => by
    unfold mark9 at hk
    split at hk
    · rename_i e; right; omega
    · exact .inl hk, fun i hi hl => ⟨World.cell?_of_block (bl.block i hl), by unfold mark9; rw [if_neg (by omega)]; exact hi⟩⟩)
  have G1 := Lib.hid (show B ≤ W1.heap.size from Nat.le_trans hB bl.size)
  have GZ := Lib.hid (Nat.le_refl w.heap.size)
  have HW := Lib.hid hW1
  clear h hB bl hW1
  go_enter Tryz.func7, Tryz.ntmps7
  go_upto_region 6 with fail
  rw [HW.out]
  clear HW
  generalize mark9 lab w.heap.size = lab1 at *
  have GZ := Lib.hid (show w.heap.size ≤ w.heap.size from Nat.le_refl _)
  obtain ⟨g, hg⟩ : ∃ g, w.heap.size = g := ⟨_, rfl⟩
  rw [hg] at H0 ⊢
  have HG := Lib.hid (show w.heap.size ≤ g from by omega)
  clear hg GZ
  go_upto_region 7 with fail
  go_loopw [21] (fun i wr => ∃ (j : Nat) (A : Option Addr) (c : Nat) (lab' : Nat → Nat), j ≤ n ∧ i = .int .i64 (j : Int) ∧ Hid (NewAt B wr lab' g gk A c m b j) ∧ Hid (PStep w wr lab lab') ∧ Hid (B ≤ wr.heap.size)) (fun i _ => n - (intOf i).toNat)
  case atStart => exact ⟨0, none, 0, lab1, Nat.zero_le _, rfl, H0, L0, G1⟩
  case round =>
    obtain ⟨j, A, c, lab', hj, rfl, HN, LN, GN⟩ := hrel
    clear H0 L0 G1
    by_cases hlt : j < n
    · have hlt' : (j : Int) < (n : Int) := by omega
      have xj := IntWalk.i64_in ((j : Int) + 1) (by omega)
      have CA := Lib.hid (call_kb HN.out.kb GN.out 0 (newAt_small m b j) (by omega) (bare 1 1 0 0 0) noX (bare_in _ _ _ _ _ _ _ (by omega)))
      rw [call_at (show j < m by omega)] at CA
      go_wp2_with fail
      refine CA.out.mono ?_; rintro e w2 ⟨A2, c2, rfl, lab2, k2, L2, b2, _, _⟩
      have K2 := Lib.hid k2
      have PL2 := Lib.hid (LN.out.trans (PStep.ofL L2))
      have G2 := Lib.hid (Nat.le_trans GN.out b2.size)
      have LG2 := Lib.hid (show lab2 g = 9 from by rw [L2.keep g (by rw [HN.out.lg]; omega)]; exact HN.out.lg)
      have LR2 := Lib.hid (show ∀ q, inB A q → lab2 q = 9 from fun q hq => by rw [L2.keep q (by rw [HN.out.lr q hq]; omega)]; exact HN.out.lr q hq)
      have HD2 := Lib.hid (HN.out.head.chg L2.chg (by rw [HN.out.lg]; omega))
      have RW2 := Lib.hid (HN.out.row.chg L2.chg (fun q hq => by rw [HN.out.lr q hq]; omega))
      have NE := Lib.hid HN.out.ne
      have CM := Lib.hid HN.out.row.capMax
      clear CA k2 L2 b2 HN LN GN
      obtain ⟨W3, hW3⟩ : ∃ W3, w2.alloc (.cells #[.int .i64 (j : Int), .slice A2 0 c2] 75) = W3 := ⟨_, rfl⟩
      have b3 : Below w2.heap.size w2 W3 := by rw [← hW3]; exact (Below.refl _ w2).alloc (Nat.le_refl _) _
      have AN := Lib.hid (show Blk W3 w2.heap.size 75 #[.int .i64 (j : Int), .slice A2 0 c2] from by rw [← hW3]; exact Blk.new w2 _ _)
      have HD := Lib.hid (HD2.out.older (older_below b3))
      have RW := Lib.hid (show RowW W3.drew 85 7 A j c (flat (bares j)) from (RW2.out.new b3).drewN 1)
      have NA := Lib.hid (show ¬ inB A w2.heap.size from fun hq => by have := RW2.out.lt _ hq; omega)
      have B3 := Lib.hid b3
      have GLT := Lib.hid (show g < W3.heap.size from Nat.lt_of_lt_of_le HD2.out.lt b3.size)
      have HW3 := Lib.hid hW3
      clear b3 hW3 HD2 RW2
      go_upto_region 12 with fail
      rw [HW3.out]
      clear HW3
      generalize hga : w2.heap.size = ga at *
      have HGA := Lib.hid hga
      clear hga
      obtain ⟨iw, zw, hiw, hzw, hcw, hsw, hbw⟩ := slot_all
      have BS := Lib.hid (show ∀ X : World, (Instr.buildSlice 71 1 #[(0, .agg #[Value.int .i64 0, .int .i64 0, .int .i64 0, .complex .f64 0 0, .int .i64 (j : Int), .int .i64 0, .bool false])]).run Tryz.prog X = .ok (.slice (some ⟨X.heap.size, 0, none⟩) 1 1) (X.alloc (.cells #[Value.int .i64 0, .int .i64 0, .int .i64 0, .complex .f64 0 0, .int .i64 (j : Int), .int .i64 0, .bool false] 85)) from fun X => by go_simp)
      have hS := Lib.hid ((Chg.refl W3 (fun b => inB A b)).drewN 1)
      refine wp_head_held (S := fun w' => Hid (Chg W3 w' (fun b => inB A b))) 12 (by kernel_rfl) rfl rfl (by kernel_rfl) ?_
      simp only [List.take_succ_cons, List.take_zero, List.drop_succ_cons, List.drop_zero]
      refine held_take (i := 0) (d := (some 34)) (v := ?_) rfl rfl (by kernel_rfl) (by kernel_rfl) (by kernel_rfl) (fun _ _ _ h => h) (by rfl) ?_ hS ?_
      rotate_left
      · intro w' hSw; (try dsimp only at hSw); go_simp <;> with_reducible rfl
      simp only [Act.put, List.setIfInBounds_toArray, List.set_cons_zero, List.set_cons_succ]
      refine held_take (i := 1) (d := (some 35)) (v := ?_) rfl rfl (by kernel_rfl) (by kernel_rfl) (by kernel_rfl) (fun _ _ _ h => h) (by rfl) ?_ hS ?_
      rotate_left
      · intro w' hSw; (try dsimp only at hSw); go_simp <;> with_reducible rfl
      simp only [Act.put, List.setIfInBounds_toArray, List.set_cons_zero, List.set_cons_succ]
      refine held_take (i := 2) (d := (some 36)) (v := ?_) rfl rfl (by kernel_rfl) (by kernel_rfl) (by kernel_rfl) (fun _ _ _ h => h) (by rfl) ?_ hS ?_
      rotate_left
      · intro w' hSw; (try dsimp only at hSw); go_simp <;> with_reducible rfl
      simp only [Act.put, List.setIfInBounds_toArray, List.set_cons_zero, List.set_cons_succ]
      refine held_take (i := 3) (d := (some 37)) (v := ?_) rfl rfl (by kernel_rfl) (by kernel_rfl) (by kernel_rfl) (fun _ _ _ h => h) (by rfl) ?_ hS ?_
      rotate_left
      · intro w' hSw; (try dsimp only at hSw); go_simp <;> with_reducible rfl
      simp only [Act.put, List.setIfInBounds_toArray, List.set_cons_zero, List.set_cons_succ]
      refine held_take (i := 4) (d := (some 38)) (v := ?_) rfl rfl (by kernel_rfl) (by kernel_rfl) (by kernel_rfl) (fun _ _ _ h => h) (by rfl) ?_ hS ?_
      rotate_left
      · intro w' hSw; have z := ((HD.out.chg hSw.out NE.out).cell 1).trans (show _ = some (.slice A j c) from rfl); clear hSw; go_simp <;> with_reducible rfl
      simp only [Act.put, List.setIfInBounds_toArray, List.set_cons_zero, List.set_cons_succ]
      refine held_take (i := 5) (d := (some 39)) (v := ?_) rfl rfl (by kernel_rfl) (by kernel_rfl) (by kernel_rfl) (fun _ _ _ h => h) (by rfl) ?_ hS ?_
      rotate_left
      · intro w' hSw; (try dsimp only at hSw); go_simp <;> with_reducible rfl
      simp only [Act.put, List.setIfInBounds_toArray, List.set_cons_zero, List.set_cons_succ]
      refine held_take (i := 6) (d := (some 40)) (v := ?_) rfl rfl (by kernel_rfl) (by kernel_rfl) (by kernel_rfl) (fun _ _ _ h => h) (by rfl) ?_ hS ?_
      rotate_left
      · intro w' hSw; have z := ((AN.out.chg hSw.out NA.out).cell 0).trans (show _ = some (.int .i64 (j : Int)) from rfl); clear hSw; go_simp <;> with_reducible rfl
      simp only [Act.put, List.setIfInBounds_toArray, List.set_cons_zero, List.set_cons_succ]
      refine held_take (i := 7) (d := (some 41)) (v := ?_) rfl rfl (by kernel_rfl) (by kernel_rfl) (by kernel_rfl) (fun _ _ _ h => h) (by rfl) ?_ hS ?_
      rotate_left
      · intro w' hSw; (try dsimp only at hSw); go_simp <;> with_reducible rfl
      simp only [Act.put, List.setIfInBounds_toArray, List.set_cons_zero, List.set_cons_succ]
      refine held_one (i := 8) (by kernel_rfl) rfl (by rfl) ?_
      have NB := Lib.hid (show Blk (W3.drew.alloc (.cells #[Value.int .i64 0, .int .i64 0, .int .i64 0, .complex .f64 0 0, .int .i64 (j : Int), .int .i64 0, .bool false] 85)) W3.drew.heap.size 85 #[Value.int .i64 0, .int .i64 0, .int .i64 0, .complex .f64 0 0, .int .i64 (j : Int), .int .i64 0, .bool false] from Blk.new W3.drew 85 #[Value.int .i64 0, .int .i64 0, .int .i64 0, .complex .f64 0 0, .int .i64 (j : Int), .int .i64 0, .bool false])
      have RW := Lib.hid (RowW.new RW.out ((Below.refl W3.drew.heap.size W3.drew).alloc (Nat.le_refl _) (.cells #[Value.int .i64 0, .int .i64 0, .int .i64 0, .complex .f64 0 0, .int .i64 (j : Int), .int .i64 0, .bool false] 85)))
      have hS : Hid (Chg W3 (W3.drew.alloc (.cells #[Value.int .i64 0, .int .i64 0, .int .i64 0, .complex .f64 0 0, .int .i64 (j : Int), .int .i64 0, .bool false] 85)) (fun b => inB A b)) := Lib.hid (hS.out.trans (Chg.of_new ((Below.refl W3.drew.heap.size W3.drew).alloc (Nat.le_refl _) (.cells #[Value.int .i64 0, .int .i64 0, .int .i64 0, .complex .f64 0 0, .int .i64 (j : Int), .int .i64 0, .bool false] 85)) _))
      refine wp_slice_d (d := some 42) (ps := #[(0, .agg #[Value.int .i64 0, .int .i64 0, .int .i64 0, .complex .f64 0 0, .int .i64 (j : Int), .int .i64 0, .bool false])]) rfl rfl (by go_simp) (BS.out _) ?_
      refine ⟨hS, ?_⟩
      (try simp only [Act.put, List.setIfInBounds_toArray, List.set_cons_zero, List.set_cons_succ])
      refine held_one (i := 9) (by kernel_rfl) rfl (by rfl) ?_
      refine wp_append_d (d := some 43) rfl (.tmp 38) (.tmp 42) 71 rfl 0 85 iw zw 7 64 Tryz.underlying71 hiw hzw hsw hbw hcw (by decide) _ j (flat (bares j)) rfl RW.out.own ⟨W3.drew.heap.size, 0, none⟩ 1 1 (Sl.bare j).cells rfl rfl (World.news_of_block NB.out) (by simp [Sl.bare, Sl.cells, Value.oneCell']) (by decide) (by unfold maxLen; omega) (by omega) (Nat.zero_le _) ?_
      intro g4 cap w4 ho hg hat hlt
      have hS : Hid (Chg W3 w4 (fun b => inB A b)) := Lib.hid (hS.out.trans ⟨hg.os, hg.tape, hg.output, hg.size, fun i hi hn => hg.block i hi (fun e => hn (inB_own.1 e.symm))⟩)
      have RW4 := Lib.hid (RowW.mk ho)
      have AT := Lib.hid (show inB A g4 ∨ W3.heap.size ≤ g4 from by
        rcases hat with h | h
        · exact .inl (inB_own.1 h)
        · right; rw [h]; simp)
      have LT4 := Lib.hid hlt
      clear ho hg hat hlt
      refine ⟨hS, ?_⟩
      (try simp only [Act.put, List.setIfInBounds_toArray, List.set_cons_zero, List.set_cons_succ])
      refine held_take (i := 10) (d := (some 44)) (v := ?_) rfl rfl (by kernel_rfl) (by kernel_rfl) (by kernel_rfl) (fun _ _ _ h => h) (by rfl) ?_ hS ?_
      rotate_left
      · intro w' hSw; (try dsimp only at hSw); go_simp <;> with_reducible rfl
      simp only [Act.put, List.setIfInBounds_toArray, List.set_cons_zero, List.set_cons_succ]
      refine held_take (i := 11) (d := (some 45)) (v := ?_) rfl rfl (by kernel_rfl) (by kernel_rfl) (by kernel_rfl) (fun _ _ _ h => h) (by rfl) ?_ hS ?_
      rotate_left
      · intro w' hSw; (try dsimp only at hSw); go_simp <;> with_reducible rfl
      simp only [Act.put, List.setIfInBounds_toArray, List.set_cons_zero, List.set_cons_succ]
      refine wpAnyH_done (by kernel_rfl) ?_ _
      show wpList _ _ _ _ _ _
      have B3 := Lib.hid (show Below w2.heap.size w2 W3 from by rw [HGA.out]; exact B3.out)
      have G2 := Lib.hid (show B ≤ w2.heap.size from by rw [HGA.out]; exact G2.out)
      have HD4 := Lib.hid (HD.out.chg hS.out NE.out)
      have G4 := Lib.hid (show g4 ≠ g from by
        rintro rfl
        rcases AT.out with h | h
        · exact NE.out h
        · have := GLT.out; omega)
      have c1 := (HD4.out.cell 1).trans (show _ = some (.slice A j c) from rfl)
      have f1 := HD4.out.frozen 1
      obtain ⟨w5, hw5⟩ : ∃ w5, w4.setCell ⟨g, 1, none⟩ (.slice (some ⟨g4, 0, none⟩) (j + 1) cap) = w5 := ⟨_, rfl⟩
      have k5 : Chg w4 w5 (fun b => b = g) := by rw [← hw5]; exact Chg.set w4 1 _ (g := g) (S := fun b => b = g) rfl
      have HD5 := Lib.hid (show Blk w5 g 73 #[.pointer (some ⟨gk, 0, none⟩), .slice (some ⟨g4, 0, none⟩) (j + 1) cap, .int .i64 0, .int .i64 0] from by rw [← hw5]; exact HD4.out.put 1 _)
      have RW5 := Lib.hid (show RowW w5 85 7 (some ⟨g4, 0, none⟩) (j + 1) cap (flat (bares (j + 1))) from by
        rw [bares_succ, flat_append]
        exact RW4.out.chg k5 (fun q hq e => G4.out (by rw [← inB_some hq, e])))
      have C5 := (Chg.of_new B3.out (fun i => lab2 i = 9)).trans ((hS.out.weak (fun i hi => LR2.out i hi)).trans (k5.weak (fun i hi => by rw [hi]; exact LG2.out)))
      have R9 : lab2 g4 = 9 ∨ w2.heap.size ≤ g4 := by
        rcases AT.out with h | h
        · exact .inl (LR2.out _ h)
        · exact .inr (Nat.le_trans B3.out.size h)
      have KK := kb_row9 K2.out G2.out C5 g4 R9 (Nat.lt_of_lt_of_le LT4.out k5.size)
      have H5 := Lib.hid (show NewAt B w5 (mark9 lab2 g4) g gk (some ⟨g4, 0, none⟩) cap m b (j + 1) from ⟨KK.1, HD5.out, RW5.out, by unfold mark9; rw [if_neg (fun e => G4.out e.symm)]; exact LG2.out, fun q hq => by rw [inB_some hq]; unfold mark9; rw [if_pos rfl], fun hq => G4.out (inB_some hq).symm⟩)
      have L5 := Lib.hid (PL2.out.trans (show PStep w2 w5 lab2 (mark9 lab2 g4) from ⟨C5.weak (fun i hi => by rw [hi]; omega), fun k hk => by
        unfold mark9 at hk
        split at hk
        · rename_i e
          subst e
          rcases R9 with h | h
          · left; omega
          · exact .inr h
        · exact .inl hk, fun i hi hl => ⟨World.cell?_of_block (C5.block i hl (by omega)), by unfold mark9; rw [if_neg (by rintro rfl; rcases R9 with h | h <;> omega)]; exact hi⟩⟩))
      have G5 := Lib.hid (Nat.le_trans G2.out (Nat.le_trans B3.out.size (Nat.le_trans hS.out.size k5.size)))
      have HW5 := Lib.hid hw5
      clear k5 C5 R9 KK hw5 HD5 RW5 HD4 HD RW RW4 hS K2 PL2 G2 B3 LG2 LR2 NE AT GLT AN NA LT4 G4
      go_wp2_with fail
      rw [HW5.out]
      go_wp2
      go_roundw
      case rel => exact ⟨j + 1, _, _, _, by omega, by go_num, H5, L5, G5⟩
      case measure => simp [intOf]; omega
    · have hlt' : ¬ (j : Int) < (n : Int) := by omega
      obtain rfl : j = n := by omega
      obtain ⟨gs, hp⟩ := HN.out.done h1 h3
      have HP := Lib.hid hp
      clear hp HN
      go_wp2
      go_ret2
      exact ⟨g, rfl, HG.out, gs, c, lab', HP.out, LN.out⟩

theorem new_none (n : Int) (w : World) : Calls Tryz.prog 7 #[.pointer none, .int .i64 n] w fun e w' => e = .returned (.tuple #[.pointer none, .int .i64 3]) ∧ w' = w := by
  go_enter Tryz.func7, Tryz.ntmps7
  go_wp2
  go_ret2
  exact ⟨rfl, rfl⟩
end Go.Proofs.YthnpalcjfgbjeaaGreat.Po

/- The chapter's example of layer 13. No condition. -/
namespace Go.Proofs.YthnpalcjfgbjeaaGreat.Po
open Go.ChangeShapes Go.WideShapes Go.ChangeAt Go.RowKit Go.Deep Fr Di Ke Gx
set_option linter.unusedVariables false

def v1 : Po := (headR (newP 2 8 1) [120]).1
def v2 : Po := (getR v1 2 0 0 0).1
def v3 : Po := (unpinR v2 0).1
theorem v1_told : (headR (newP 2 8 1) [120]).2 = (0, 0) := by decide +kernel
theorem v2_told : (getR v1 2 0 0 0).2 = (0, 80) := by decide +kernel
theorem v3_told : (unpinR v2 0).2 = 0 := by decide +kernel
theorem v2_pins : pinsR v2 0 = 1 := by decide +kernel
theorem v3_pins : pinsR v3 0 = 0 := by decide +kernel
theorem v1_small : v1.K.Small 0 := ⟨by decide +kernel, by decide +kernel, by decide +kernel, by decide +kernel, by decide +kernel, by decide +kernel⟩
theorem v1_few : (∀ s ∈ v1.sl, s.pins < 1000000) ∧ v1.fills < 1000000 := by decide +kernel
theorem v2_few : ∀ s ∈ v2.sl, s.pins < 1000000 := by decide +kernel

set_option maxRecDepth 100000 in
set_option maxHeartbeats 1000000 in
theorem alive_any (w : World) : Calls Tryz.prog 5 #[] w fun e w' => e = .returned (.bool true) ∧ Below w.heap.size w w' := by
  have NW := Lib.hid (new_kb 2 8 w (by omega) (by omega) (by omega) (by omega))
  go_enter Tryz.func5, Tryz.ntmps5
  go_wp2_with fail
  refine NW.out.mono ?_; rintro e w1 ⟨gk, lab1, rfl, k1, b1⟩
  have NP := Lib.hid (new_any 1 k1 b1.size (by omega) (by omega) (by omega))
  have B1 := Lib.hid b1
  have K1 := Lib.hid k1
  clear NW k1 b1
  go_wp2_with fail
  refine NP.out.mono ?_; rintro e w2 ⟨g, rfl, hg, gs, c, lab2, h2, l2⟩
  have B2 := Lib.hid (B1.out.trans (l2.chg.below B1.out.size (fun i hi => K1.out.ge i hi)))
  have H2 := Lib.hid h2
  clear NP K1 h2 l2 hg B1
  have b3 : Below w2.heap.size w2 (w2.alloc (.cells #[.int .u8 120] 5 (1, 2))) := (Below.refl _ w2).alloc (Nat.le_refl _) _
  have S3 := Lib.hid (show Src (w2.alloc (.cells #[.int .u8 120] 5 (1, 2))) (some ⟨w2.heap.size, 0, none⟩) 1 1 [120] from marked w2 [120] (by decide))
  have B3 := Lib.hid (B2.out.trans (b3.mono B2.out.size))
  have H3 := Lib.hid (H2.out.new b3)
  have Z3 := Lib.hid (show w2.heap.size < (w2.alloc (.cells #[.int .u8 120] 5 (1, 2))).heap.size ∧ lab2 w2.heap.size = 0 from ⟨by simp, H2.out.kb.lab0 (Nat.le_refl _)⟩)
  have CH := Lib.hid (head_any H3.out B3.out.size 0 (newAt_small 2 8 1) (by omega) (some ⟨w2.heap.size, 0, none⟩) 1 1 [120] S3.out (fun b o e => by cases e; exact Z3.out) (by omega))
  rw [v1_told] at CH
  (try dsimp only at CH)
  have hcv : (convert 34 34 (.slice (some ⟨w2.heap.size, 0, none⟩) 1 1)).run Tryz.prog (w2.alloc (.cells #[.int .u8 120] 5)) = .ok (.slice (some ⟨w2.heap.size, 0, none⟩) 1 1) (w2.alloc (.cells #[.int .u8 120] 5 (1, 2))) := conv_fresh #[.int .u8 120] 1 1 w2
  clear b3 H2 B2
  go_wp2_with fail
  refine CH.out.mono ?_; rintro e w4 ⟨lab4, rfl, h4, l4⟩
  have B4 := Lib.hid (B3.out.trans (PStep.below H3.out B3.out.size l4))
  have H4 := Lib.hid (show PB w.heap.size w4 lab4 g gk gs c v1 from h4)
  have CG := Lib.hid (get_any H4.out B4.out.size 0 v1_small (by omega) v1_few.1 v1_few.2 2 0 0 0)
  rw [v2_told] at CG
  (try dsimp only at CG)
  clear CH h4 l4 H3 B3 S3 Z3
  go_wp2_with fail
  refine CG.out.mono ?_; rintro e w5 ⟨lab5, rfl, h5, l5⟩
  have B5 := Lib.hid (B4.out.trans (PStep.below H4.out B4.out.size l5))
  have H5 := Lib.hid (show PB w.heap.size w5 lab5 g gk gs c v2 from h5)
  have CP := Lib.hid (pins_any H5.out.po 0)
  rw [v2_pins] at CP
  clear CG h5 l5 H4 B4
  go_wp2_with fail
  refine CP.out.mono ?_; rintro e w6 ⟨rfl, b6⟩
  have B6 := Lib.hid (B5.out.trans (b6.mono B5.out.size))
  have H6 := Lib.hid (H5.out.new b6)
  have CU := Lib.hid (unpin_any H6.out B6.out.size 0 v2_few)
  rw [v3_told] at CU
  clear CP b6 H5 B5
  go_wp2_with fail
  refine CU.out.mono ?_; rintro e w7 ⟨rfl, h7, l7⟩
  have B7 := Lib.hid (B6.out.trans (PStep.below H6.out B6.out.size l7))
  have CQ := Lib.hid (pins_any (show PB w.heap.size w7 lab5 g gk gs c v3 from h7).po 0)
  rw [v3_pins] at CQ
  clear CU h7 l7 H6 B6
  go_wp2_with fail
  refine CQ.out.mono ?_; rintro e w8 ⟨rfl, b8⟩
  have B8 := Lib.hid (B7.out.trans (b8.mono B7.out.size))
  clear CQ b8 B7
  go_wp2
  go_ret
  exact ⟨rfl, B8.out⟩
end Go.Proofs.YthnpalcjfgbjeaaGreat.Po

/- A pool's Get, by its ways. Conditions: those that each states. -/
namespace Go.Proofs.YthnpalcjfgbjeaaGreat.Po
open Go.ChangeShapes Go.WideShapes Go.ChangeAt Go.RowKit Go.Deep Fr Di Ke
set_option linter.unusedVariables false

/-- The kernel behind the bytes b written to frame f. -/
def wroteK (K : Kn) (f : Nat) (b : List UInt8) : Kn := (callR K ⟨5, 1, (f : Int), 0, 0, b, [], []⟩).1
def wroteE (K : Kn) (f : Nat) (b : List UInt8) : Int := (callR K ⟨5, 1, (f : Int), 0, 0, b, [], []⟩).2.2.2
theorem fill_is {P : Po} {i : Nat} {s : Sl} (hs : P.sl[i]? = some s) (b : List UInt8) (kind : Nat) (block n : Int) (x y : Nat) :
    fillR P i b kind block n x y = if wroteE P.K s.frame b = 0 then ({ P with K := wroteK P.K s.frame b, sl := P.sl.set i ⟨kind, block, n, x, y, s.frame, 1, s.mark⟩ }, 0) else ({ P with K := wroteK P.K s.frame b }, wroteE P.K s.frame b) := by
  unfold fillR wroteE wroteK
  rw [hs]
/-- A slot taken and filled with a block. -/
theorem get_taken {P : Po} {block n : Int} (x y : Nat) {i : Nat} {s : Sl} (hn : ¬ (n < 0 ∨ 256 < n)) (hh : having P block = none) (ht : (takeR P).2 = some i) (hs : (takeR P).1.sl[i]? = some s) (hr : askE P.K.dk 1 block = 0) (hw : wroteE P.K s.frame (see P.K.dk block.toNat) = 0) :
    getR P block n x y = ({ (takeR P).1 with K := wroteK P.K s.frame (see P.K.dk block.toNat), fills := P.fills + 1, sl := (takeR P).1.sl.set i ⟨1, block, n, x, y, s.frame, 1, true⟩ }, (s.frame : Int), 0) := by
  have hK := take_K P
  have hF := take_fills P
  have h6 : callR (takeR P).1.K ⟨6, 1, block, 0, 0, [], [], []⟩ = ((takeR P).1.K, 0, see P.K.dk block.toNat, 0) := by
    rw [callR_6 _ 1 (.inl rfl), hK]
    unfold readR
    rw [if_pos hr]
  unfold getR
  rw [if_neg hn, hh, ht]
  dsimp only
  rw [h6]
  dsimp only
  rw [if_neg (by simp)]
  generalize hT : (takeR P).1 = T at *
  have hil : i < T.sl.length := (List.getElem?_eq_some_iff.1 hs).1
  have hfi := fill_is (P := { T with K := T.K, fills := T.fills + 1 }) (i := i) (s := s) hs (see P.K.dk block.toNat) 1 block n x y
  rw [hfi]
  dsimp only
  rw [hK, if_pos hw, hF]
  dsimp only
  rw [if_neg (by simp)]
  unfold setMark frameOf
  dsimp only
  rw [List.getElem?_set_self hil]
  dsimp only
  unfold Po.put
  dsimp only
  rw [List.set_set]
/-- A slot taken, the block is none that may be read. -/
theorem get_unread {P : Po} {block n : Int} (x y : Nat) {i : Nat} (hn : ¬ (n < 0 ∨ 256 < n)) (hh : having P block = none) (ht : (takeR P).2 = some i) (hr : askE P.K.dk 1 block ≠ 0) :
    getR P block n x y = ((takeR P).1, 0, askE P.K.dk 1 block) := by
  have hK := take_K P
  have h6 : callR (takeR P).1.K ⟨6, 1, block, 0, 0, [], [], []⟩ = ((takeR P).1.K, 0, [], askE P.K.dk 1 block) := by
    rw [callR_6 _ 1 (.inl rfl), hK]
    unfold readR
    rw [if_neg hr]
  unfold getR
  rw [if_neg hn, hh, ht]
  dsimp only
  rw [h6]
  dsimp only
  rw [if_pos hr]
theorem get_full {P : Po} {block n : Int} (x y : Nat) (hn : ¬ (n < 0 ∨ 256 < n)) (hh : having P block = none) (ht : (takeR P).2 = none) : getR P block n x y = ((takeR P).1, 0, 80) := by
  unfold getR
  rw [if_neg hn, hh, ht]
theorem get_bad {P : Po} {block n : Int} (x y : Nat) (hn : n < 0 ∨ 256 < n) : getR P block n x y = (P, 0, 1) := by
  unfold getR
  rw [if_pos hn]
theorem get_had {P : Po} {block n : Int} (x y : Nat) {i : Nat} {s : Sl} (hn : ¬ (n < 0 ∨ 256 < n)) (hh : having P block = some i) (hs : P.sl[i]? = some s) :
    getR P block n x y = (P.put i { s with pins := s.pins + 1, mark := true }, (s.frame : Int), 0) := by
  unfold getR
  rw [if_neg hn, hh]
  dsimp only
  rw [hs]
theorem take_free {P : Po} {i : Nat} (h : P.sl.findIdx? (isFree P.K) = some i) : takeR P = (P, some i) := by
  unfold takeR
  rw [h]
end Go.Proofs.YthnpalcjfgbjeaaGreat.Po
