/- Layer 11: blocks parsed. Conditions: those that each states. -/
import Derived.Test.YtjjoohmfeglicaaDoorIn7
import Derived.Test.YtjjoohmfeglicaaDoorRow
namespace Go.Proofs.YtjjoohmfeglicaaDoor.In
open Go.ChangeShapes Go.WideShapes Go.ChangeAt Go.RowKit Go.Deep Fl Rk Di
set_option linter.unusedVariables false
set_option linter.unusedSimpArgs false

theorem equal_any (A : Option Addr) (n c : Nat) (l : List UInt8) (A' : Option Addr) (n' c' : Nat) (l' : List UInt8) (w : World) (h : Src w A n c l) (h' : Src w A' n' c' l') :
    Calls Tryd.prog 40 #[.slice A n c, .slice A' n' c'] w fun e w' => e = .returned (.bool (decide (l = l'))) ∧ w' = w := by
  have h1 := told_str h
  have h2 := told_str h'
  by_cases hl : l = l'
  · subst hl
    rw [decide_eq_true rfl]
    go_enter Tryd.func40, Tryd.ntmps40
    go_wp2
    go_ret
    exact ⟨by simp, rfl⟩
  · have hne : (l == l') = false := by rw [beq_eq_false_iff_ne]; exact hl
    rw [decide_eq_false hl]
    go_enter Tryd.func40, Tryd.ntmps40
    go_wp2
    go_ret
    exact ⟨by first | rfl | (rw [hne]; rfl), rfl⟩
theorem newS_any (A : Option Addr) (n c : Nat) (l : List UInt8) (w : World) (hb : Src w A n c l) (hn : n ≤ 1000000) :
    Calls Tryd.prog 39 #[.slice A n c] w fun e w' => ∃ g, e = .returned (.pointer (some ⟨g, 0, none⟩)) ∧ EyeS w' g (l, 0) ∧ w.heap.size ≤ g ∧ Below w.heap.size w w' := by
  refine (new_any A n c l w hb hn).mono ?_
  rintro e w' ⟨g, rfl, ⟨h0, h1, h2⟩, h3, h4⟩
  exact ⟨g, rfl, ⟨⟨Nat.zero_le _, h1, h2⟩, fun h => absurd rfl h⟩, h0, h4⟩
theorem chg_below {w w1 w2 : World} {g : Nat} (h : Below w.heap.size w w1) (k : Chg w1 w2 (fun b => b = g)) (hg : w.heap.size ≤ g) : Below w.heap.size w w2 :=
  ⟨k.os.trans h.os, k.tape.trans h.tape, k.output.trans h.output, Nat.le_trans h.size k.size, fun i hi => (k.block i (Nat.lt_of_lt_of_le hi h.size) (by omega)).trans (h.block i hi)⟩
theorem good_src (A : Option Addr) (n c : Nat) (l : List UInt8) (w : World) (hb : Src w A n c l) (hn : n ≤ 16777216) :
    Calls Tryd.prog 38 #[.slice A n c] w fun e w' => e = .returned (.bool (goodL l)) ∧ Below w.heap.size w w' :=
  (good_ok A n c l w hb.toBytes hn).mono fun _ _ ⟨he, m, hm⟩ => ⟨he, by rw [hm]; exact below_drewN (Below.refl _ _) m⟩
theorem errOf_len {l t : List UInt8} {m : Bool} (h : l.length ≠ 256) : errOf l m t = 50 := by unfold errOf; rw [if_pos h]
theorem errOf_sum {l t : List UInt8} {m : Bool} (h : ¬ l.length ≠ 256) (g : goodL l = false) : errOf l m t = 51 := by unfold errOf; rw [if_neg h, if_pos g]
theorem errOf_no {l t : List UInt8} {m : Bool} (h : ¬ l.length ≠ 256) (g : goodL l = true) (k : ¬ (m = true ∧ sealL t = l)) : errOf l m t = 50 := by unfold errOf; rw [if_neg h, if_neg (by rw [g]; simp), if_neg k]
theorem errOf_ok {l t : List UInt8} {m : Bool} (h : ¬ l.length ≠ 256) (g : goodL l = true) (k : m = true ∧ sealL t = l) : errOf l m t = 0 := by unfold errOf; rw [if_neg h, if_neg (by rw [g]; simp), if_pos k]

/-- What a Parse tells. -/
def ParsedRoot (w w' : World) (e : Ending) (l : List UInt8) : Prop :=
  Below w.heap.size w w' ∧ ((errOf l (rootMay (rootR l).1 (rootR l).2) (rootT (rootR l).1 (rootR l).2) ≠ 0 ∧ e = .returned (.tuple #[.agg #[.int .i64 0, .slice none 0 0], .int .i64 (errOf l (rootMay (rootR l).1 (rootR l).2) (rootT (rootR l).1 (rootR l).2))])) ∨
    (errOf l (rootMay (rootR l).1 (rootR l).2) (rootT (rootR l).1 (rootR l).2) = 0 ∧ ∃ A' c', e = .returned (.tuple #[.agg #[.int .i64 (rootR l).1, .slice A' (rootR l).2.length c'], .int .i64 0]) ∧ RowG w' 1 A' (rootR l).2.length c' (vi (rootR l).2) ∧ ∀ b, inB A' b → w.heap.size ≤ b))

/-- What a Parse tells. -/
def ParsedFile (w w' : World) (e : Ending) (l : List UInt8) : Prop :=
  Below w.heap.size w w' ∧ ((errOf l ((filR l).may) (filT (filR l)) ≠ 0 ∧ e = .returned (.tuple #[.agg #[.int .i64 0, .int .i64 0, .int .i64 0, .slice none 0 0, .slice none 0 0], .int .i64 (errOf l ((filR l).may) (filT (filR l)))])) ∨
    (errOf l ((filR l).may) (filT (filR l)) = 0 ∧ ∃ A' c' A2 c2, e = .returned (.tuple #[.agg #[.int .i64 (filR l).ver, .int .i64 (filR l).mtime, .int .i64 (filR l).len, .slice A' (filR l).blocks.length c', .slice A2 (filR l).parts.length c2], .int .i64 0]) ∧ RowG w' 1 A' (filR l).blocks.length c' (vi (filR l).blocks) ∧ RowG w' 1 A2 (filR l).parts.length c2 (vp (filR l).parts) ∧ ∀ b, inB A' b ∨ inB A2 b → w.heap.size ≤ b))

/-- What a Parse tells. -/
def ParsedDir (w w' : World) (e : Ending) (l : List UInt8) : Prop :=
  Below w.heap.size w w' ∧ ((errOf l (dirMay (dirR l)) (dirT (dirR l)) ≠ 0 ∧ e = .returned (.tuple #[.slice none 0 0, .int .i64 (errOf l (dirMay (dirR l)) (dirT (dirR l)))])) ∨
    (errOf l (dirMay (dirR l)) (dirT (dirR l)) = 0 ∧ ∃ A' c', e = .returned (.tuple #[.slice A' (dirR l).length c', .int .i64 0]) ∧ RowG w' 2 A' (dirR l).length c' (ve (dirR l)) ∧ ∀ b, inB A' b → w.heap.size ≤ b))

set_option maxRecDepth 100000 in
set_option maxHeartbeats 2000000 in
theorem parse_root (A : Option Addr) (n c : Nat) (l : List UInt8) (w : World) (hb : Src w A n c l) (hn : n ≤ 1000000) :
    Calls Tryd.prog 23 #[.slice A n c, .func (.func 24) #[] #[], .func (.func 6) #[] #[]] w (fun e w' => ParsedRoot w w' e l) := by
  have H := Lib.hid hb
  have hlen := hb.len
  clear hb
  have b0 : Below w.heap.size w ((w.alloc (.cells #[.int .i64 0, .slice none 0 0] 34)).alloc (.cells #[.int .i64 0, .slice none 0 0] 34)) := ((Below.refl w.heap.size w).alloc (Nat.le_refl _) _).alloc (by simp) _
  have R0 := Lib.hid ((Blk.new w 34 #[.int .i64 0, .slice none 0 0]).alloc (.cells #[.int .i64 0, .slice none 0 0] 34))
  have N0 := Lib.hid (show Blk ((w.alloc (.cells #[.int .i64 0, .slice none 0 0] 34)).alloc (.cells #[.int .i64 0, .slice none 0 0] 34)) (w.heap.size + 1) 34 #[.int .i64 0, .slice none 0 0] from by simpa using Blk.new (w.alloc (.cells #[.int .i64 0, .slice none 0 0] 34)) 34 #[.int .i64 0, .slice none 0 0])
  have z0 := Lib.hid (show ((w.alloc (.cells #[.int .i64 0, .slice none 0 0] 34)).alloc (.cells #[.int .i64 0, .slice none 0 0] 34)).heap.size = w.heap.size + 2 from by simp)
  have H0 := Lib.hid (H.out.below b0)
  have B0 := Lib.hid b0
  obtain ⟨W, hW⟩ : ∃ W, (w.alloc (.cells #[.int .i64 0, .slice none 0 0] 34)).alloc (.cells #[.int .i64 0, .slice none 0 0] 34) = W := ⟨_, rfl⟩
  rw [hW] at R0 N0 z0 H0 B0
  have HW := Lib.hid hW
  clear b0 hW
  by_cases h256 : n = 256
  · subst h256
    have hl256 : ¬ l.length ≠ 256 := fun h => h hlen
    clear hlen
    cases hg : goodL l with
    | false =>
      go_enter Tryd.func23, Tryd.ntmps23
      go_upto_region 2 with fail
      rw [HW.out]
      go_wp2_with fail
      refine (good_src A 256 c l _ H0.out (by omega)).mono ?_; rintro e w1 ⟨rfl, b1⟩; rw [hg]
      have B1 := Lib.hid (B0.out.trans (b1.mono B0.out.size))
      have R1 := Lib.hid (R0.out.older (older_below b1))
      have N1 := Lib.hid (N0.out.older (older_below b1))
      clear b1
      have RB := R1
      have NB := N1
      have KZ := Lib.hid (below_setRow B1.out (Nat.le_refl w.heap.size) #[.int .i64 0, .slice none 0 0])
      go_wp2_with (first
        | (refine wpList_load_row rfl 34 (.tmp 8) rfl (w.heap.size + 1) rfl 34 _ (0, 0) _ NB.out Tryd.underlying34 rfl root_info ?_)
        | (refine wpList_store_row rfl 34 (.tmp 6) (.tmp 19) rfl w.heap.size #[.int .i64 0, .slice none 0 0] rfl rfl 34 _ RB.out root_info rfl (by simp [Value.oneCell']) ?_)
        | fail)
      refine bodyPost_ret (v := .tuple #[.agg #[.int .i64 0, .slice none 0 0], .int .i64 51]) ?_ rfl ?_
      · exact results_cell_tmp Tryd.results23 _ _ w.heap.size 34 _ (0, 0) _ rfl (RB.out.row _) Tryd.underlying34 rfl root_info
      exact ⟨KZ.out, .inl ⟨by rw [errOf_sum hl256 hg]; decide, by rw [errOf_sum hl256 hg]⟩⟩
    | true =>
      go_enter Tryd.func23, Tryd.ntmps23
      go_upto_region 2 with fail
      rw [HW.out]
      go_wp2_with fail
      refine (good_src A 256 c l _ H0.out (by omega)).mono ?_; rintro e w1 ⟨rfl, b1⟩; rw [hg]
      have B1 := Lib.hid (B0.out.trans (b1.mono B0.out.size))
      have R1 := Lib.hid (R0.out.older (older_below b1))
      have N1 := Lib.hid (N0.out.older (older_below b1))
      have H1 := Lib.hid (H0.out.below b1)
      clear b1 R0 N0 H0 B0
      go_wp2_with fail
      refine (newS_any A 256 c l _ H1.out (by omega)).mono ?_; rintro e w2 ⟨g, rfl, e2, hg2, b2⟩
      have R2 := Lib.hid (R1.out.older (older_below b2))
      have N2 := Lib.hid (N1.out.older (older_below b2))
      have z1 := N1.out.lt
      have B2 := Lib.hid (B1.out.trans (b2.mono B1.out.size))
      have H2 := Lib.hid (H1.out.below b2)
      have E2 := Lib.hid e2
      have hg3 := Nat.le_trans B1.out.size hg2
      clear b2 e2 H1 B1 R1 N1
      go_wp2_with fail
      refine (readRoot_any g l _ E2.out).mono ?_; rintro e w3 ⟨A', c', rfl, rg, fr, k3⟩
      have B3 := Lib.hid (chg_below B2.out k3 hg3)
      have H3 := Lib.hid (src_chg H2.out k3 (src_eye H2.out E2.out))
      have RG := Lib.hid rg
      have FR := Lib.hid fr
      have z2 := Lib.hid (show w.heap.size < w2.heap.size from by have := N2.out.lt; omega)
      clear fr
      have R3 := Lib.hid (R2.out.chg k3 (by omega))
      have N3 := Lib.hid (N2.out.chg k3 (by omega))
      clear rg k3 H2 E2 B2 R2 N2 z1
      have b4 : Below w3.heap.size w3 (w3.alloc (.cells #[.int .i64 (rootR l).1, .slice A' (rootR l).2.length c'] 34)) := (Below.refl w3.heap.size w3).alloc (Nat.le_refl _) _
      have V4 := Lib.hid (Blk.new w3 34 #[.int .i64 (rootR l).1, .slice A' (rootR l).2.length c'])
      have R4 := Lib.hid (R3.out.alloc (.cells #[.int .i64 (rootR l).1, .slice A' (rootR l).2.length c'] 34))
      have N4 := Lib.hid (N3.out.alloc (.cells #[.int .i64 (rootR l).1, .slice A' (rootR l).2.length c'] 34))
      have H4 := Lib.hid (H3.out.alloc (.cells #[.int .i64 (rootR l).1, .slice A' (rootR l).2.length c'] 34))
      have G4 := Lib.hid (RG.out.new b4)
      have B4 := Lib.hid (B3.out.trans (b4.mono B3.out.size))
      have s34 := Lib.hid B3.out.size
      clear b4 R3 N3 H3 RG B3
      go_wp2_with fail
      generalize w3.alloc (.cells #[.int .i64 (rootR l).1, .slice A' (rootR l).2.length c'] 34) = w4 at *
      refine (packRoot_any _ A' c' _ _ G4.out).mono ?_; rintro e w5 ⟨b5, p1, p2⟩
      have B5 := Lib.hid (B4.out.trans (b5.mono B4.out.size))
      have H5 := Lib.hid (H4.out.below b5)
      have G5 := Lib.hid (G4.out.new b5)
      have R5 := Lib.hid (R4.out.older (older_below b5))
      have N5 := Lib.hid (N4.out.older (older_below b5))
      have V5 := Lib.hid (V4.out.older (older_below b5))
      clear R4 N4 V4
      clear b5 H4 G4 B4
      cases hm : rootMay (rootR l).1 (rootR l).2 with
      | false =>
        obtain rfl := p1 hm
        clear p1 p2
        have RB := R5
        have NB := N5
        have KZ := Lib.hid (below_setRow B5.out (Nat.le_refl w.heap.size) #[.int .i64 0, .slice none 0 0])
        go_wp2_with (first
          | (refine wpList_load_row rfl 34 (.tmp 8) rfl (w.heap.size + 1) rfl 34 _ (0, 0) _ NB.out Tryd.underlying34 rfl root_info ?_)
          | (refine wpList_store_row rfl 34 (.tmp 6) (.tmp 38) rfl w.heap.size #[.int .i64 0, .slice none 0 0] rfl rfl 34 _ RB.out root_info rfl (by simp [Value.oneCell']) ?_)
          | fail)
        refine bodyPost_ret (v := .tuple #[.agg #[.int .i64 0, .slice none 0 0], .int .i64 50]) ?_ rfl ?_
        · exact results_cell_tmp Tryd.results23 _ _ w.heap.size 34 _ (0, 0) _ rfl (RB.out.row _) Tryd.underlying34 rfl root_info
        exact ⟨KZ.out, .inl ⟨by rw [errOf_no hl256 hg (fun h => by rw [hm] at h; cases h.1)]; decide, by rw [errOf_no hl256 hg (fun h => by rw [hm] at h; cases h.1)]⟩⟩
      | true =>
        obtain ⟨g6, c6, rfl, o6⟩ := p2 hm
        have O6 := Lib.hid o6
        clear p1 p2 o6
        by_cases he : sealL (rootT (rootR l).1 (rootR l).2) = l
        · have hd : decide (sealL (rootT (rootR l).1 (rootR l).2) = l) = true := decide_eq_true he
          have ER := Lib.hid (errOf_ok hl256 hg (m := rootMay (rootR l).1 (rootR l).2) (t := rootT (rootR l).1 (rootR l).2) ⟨hm, he⟩)
          go_wp2_with fail
          refine (equal_any _ _ _ _ _ _ _ _ _ O6.out.src H5.out).mono ?_; rintro e w7 ⟨rfl, rfl⟩; rw [hd]
          have KZ := Lib.hid (below_setRow B5.out (Nat.le_refl w.heap.size) #[.int .i64 (rootR l).1, .slice A' (rootR l).2.length c'])
          have KC := Lib.hid (Chg.setRow w7 #[.int .i64 (rootR l).1, .slice A' (rootR l).2.length c'] (g := w.heap.size) (S := fun b => b = w.heap.size) rfl)
          go_wp2_with (first
            | (refine wpList_load_row rfl 34 (.tmp 9) rfl w3.heap.size rfl 34 _ (0, 0) _ V5.out Tryd.underlying34 rfl root_info ?_)
            | (refine wpList_store_row rfl 34 (.tmp 6) (.tmp 39) rfl w.heap.size #[.int .i64 (rootR l).1, .slice A' (rootR l).2.length c'] rfl rfl 34 _ R5.out root_info rfl (by simp [Value.oneCell']) ?_)
            | fail)
          refine bodyPost_ret (v := .tuple #[.agg #[.int .i64 (rootR l).1, .slice A' (rootR l).2.length c'], .int .i64 0]) ?_ rfl ?_
          · exact results_cell_tmp Tryd.results23 _ _ w.heap.size 34 _ (0, 0) _ rfl (R5.out.row _) Tryd.underlying34 rfl root_info
          have fz : ∀ b, inB A' b → b = w.heap.size → False := fun b e h => by have h1 := FR.out b e; have h2 := z2.out; omega
          exact ⟨KZ.out, .inr ⟨ER.out, A', c', rfl, G5.out.chg KC.out (fun a e h => fz a.block (by rw [e]; simp [inB]) h), fun b e => by have h1 := FR.out b e; have h2 := z2.out; omega⟩⟩
        · have hd : decide (sealL (rootT (rootR l).1 (rootR l).2) = l) = false := decide_eq_false he
          go_wp2_with fail
          refine (equal_any _ _ _ _ _ _ _ _ _ O6.out.src H5.out).mono ?_; rintro e w7 ⟨rfl, rfl⟩; rw [hd]
          have RB := R5
          have NB := N5
          have KZ := Lib.hid (below_setRow B5.out (Nat.le_refl w.heap.size) #[.int .i64 0, .slice none 0 0])
          go_wp2_with (first
            | (refine wpList_load_row rfl 34 (.tmp 8) rfl (w.heap.size + 1) rfl 34 _ (0, 0) _ NB.out Tryd.underlying34 rfl root_info ?_)
            | (refine wpList_store_row rfl 34 (.tmp 6) (.tmp 38) rfl w.heap.size #[.int .i64 0, .slice none 0 0] rfl rfl 34 _ RB.out root_info rfl (by simp [Value.oneCell']) ?_)
            | fail)
          refine bodyPost_ret (v := .tuple #[.agg #[.int .i64 0, .slice none 0 0], .int .i64 50]) ?_ rfl ?_
          · exact results_cell_tmp Tryd.results23 _ _ w.heap.size 34 _ (0, 0) _ rfl (RB.out.row _) Tryd.underlying34 rfl root_info
          exact ⟨KZ.out, .inl ⟨by rw [errOf_no hl256 hg (fun h => he h.2)]; decide, by rw [errOf_no hl256 hg (fun h => he h.2)]⟩⟩
  · have hl256 : l.length ≠ 256 := fun h => h256 (hlen.symm.trans h)
    have hne : ((n : Int) != 256) = true := by simp; omega
    go_enter Tryd.func23, Tryd.ntmps23
    go_upto_region 2 with fail
    rw [HW.out]
    have RB := R0
    have NB := N0
    have KZ := Lib.hid (below_setRow B0.out (Nat.le_refl w.heap.size) #[.int .i64 0, .slice none 0 0])
    go_wp2_with (first
      | (refine wpList_load_row rfl 34 (.tmp 8) rfl (w.heap.size + 1) rfl 34 _ (0, 0) _ NB.out Tryd.underlying34 rfl root_info ?_)
      | (refine wpList_store_row rfl 34 (.tmp 6) (.tmp 15) rfl w.heap.size #[.int .i64 0, .slice none 0 0] rfl rfl 34 _ RB.out root_info rfl (by simp [Value.oneCell']) ?_)
      | fail)
    refine bodyPost_ret (v := .tuple #[.agg #[.int .i64 0, .slice none 0 0], .int .i64 50]) ?_ rfl ?_
    · exact results_cell_tmp Tryd.results23 _ _ w.heap.size 34 _ (0, 0) _ rfl (RB.out.row _) Tryd.underlying34 rfl root_info
    exact ⟨KZ.out, .inl ⟨by rw [errOf_len hl256]; decide, by rw [errOf_len hl256]⟩⟩

set_option maxRecDepth 100000 in
set_option maxHeartbeats 2000000 in
theorem parsedRoot_any (A : Option Addr) (n c : Nat) (l : List UInt8) (w : World) (hb : Src w A n c l) (hn : n ≤ 1000000) :
    Calls Tryd.prog 7 #[.slice A n c] w (fun e w' => ParsedRoot w w' e l) := by
  have b0 : Below w.heap.size w (w.alloc (.cells #[.int .i64 0, .slice none 0 0] 34)) := (Below.refl w.heap.size w).alloc (Nat.le_refl _) _
  have R0 := Lib.hid (Blk.new w 34 #[.int .i64 0, .slice none 0 0])
  have H := Lib.hid (hb.below b0)
  have B0 := Lib.hid b0
  have z0 := Lib.hid (show (w.alloc (.cells #[.int .i64 0, .slice none 0 0] 34)).heap.size = w.heap.size + 1 from by simp)
  clear hb b0
  go_enter Tryd.func7, Tryd.ntmps7
  go_wp2_with fail
  generalize w.alloc (.cells #[.int .i64 0, .slice none 0 0] 34) = W at *
  refine (parse_root A n c l _ H.out hn).mono ?_
  rintro e w1 ⟨b1, ⟨h0, rfl⟩ | ⟨h0, A', c', rfl, rg, fr⟩⟩
  · have B1 := Lib.hid (B0.out.trans (b1.mono B0.out.size))
    have R1 := Lib.hid (R0.out.older (older_below b1))
    have H0 := Lib.hid h0
    clear b1 h0
    generalize hq : errOf l (rootMay (rootR l).1 (rootR l).2) (rootT (rootR l).1 (rootR l).2) = q at *
    have HQ := Lib.hid hq
    clear hq
    have KZ := Lib.hid (below_setRow B1.out (Nat.le_refl w.heap.size) #[.int .i64 0, .slice none 0 0])
    go_wp2_with (first
      | (refine wpList_store_row rfl 34 (.tmp 2) (.tmp 6) rfl w.heap.size #[.int .i64 0, .slice none 0 0] rfl rfl 34 _ R1.out root_info rfl (by simp [Value.oneCell']) ?_)
      | fail)
    refine bodyPost_ret (v := .tuple #[.agg #[.int .i64 0, .slice none 0 0], .int .i64 q]) ?_ rfl ?_
    · exact results_cell_tmp Tryd.results7 _ _ w.heap.size 34 _ (0, 0) _ rfl (R1.out.row _) Tryd.underlying34 rfl root_info
    exact ⟨KZ.out, .inl ⟨by rw [HQ.out]; exact H0.out, by rw [HQ.out]⟩⟩
  · have B1 := Lib.hid (B0.out.trans (b1.mono B0.out.size))
    have R1 := Lib.hid (R0.out.older (older_below b1))
    have H0 := Lib.hid h0
    have RG := Lib.hid rg
    have FR := Lib.hid fr
    clear b1 h0 rg fr
    have KZ := Lib.hid (below_setRow B1.out (Nat.le_refl w.heap.size) #[.int .i64 (rootR l).1, .slice A' (rootR l).2.length c'])
    have KC := Lib.hid (Chg.setRow w1 #[.int .i64 (rootR l).1, .slice A' (rootR l).2.length c'] (g := w.heap.size) (S := fun b => b = w.heap.size) rfl)
    go_wp2_with (first
      | (refine wpList_store_row rfl 34 (.tmp 2) (.tmp 6) rfl w.heap.size #[.int .i64 (rootR l).1, .slice A' (rootR l).2.length c'] rfl rfl 34 _ R1.out root_info rfl (by simp [Value.oneCell']) ?_)
      | fail)
    refine bodyPost_ret (v := .tuple #[.agg #[.int .i64 (rootR l).1, .slice A' (rootR l).2.length c'], .int .i64 0]) ?_ rfl ?_
    · exact results_cell_tmp Tryd.results7 _ _ w.heap.size 34 _ (0, 0) _ rfl (R1.out.row _) Tryd.underlying34 rfl root_info
    have fz : ∀ b, inB A' b → b = w.heap.size → False := fun b e h => by have h1 := FR.out b e; have h2 := z0.out; omega
    exact ⟨KZ.out, .inr ⟨H0.out, A', c', rfl, RG.out.chg KC.out (fun a e h => fz a.block (by rw [e]; simp [inB]) h), fun b e => by have h1 := FR.out b e; have h2 := z0.out; omega⟩⟩

set_option maxRecDepth 100000 in
set_option maxHeartbeats 2000000 in
theorem parse_file (A : Option Addr) (n c : Nat) (l : List UInt8) (w : World) (hb : Src w A n c l) (hn : n ≤ 1000000) :
    Calls Tryd.prog 31 #[.slice A n c, .func (.func 32) #[] #[], .func (.func 14) #[] #[]] w (fun e w' => ParsedFile w w' e l) := by
  have H := Lib.hid hb
  have hlen := hb.len
  clear hb
  have b0 : Below w.heap.size w ((w.alloc (.cells #[.int .i64 0, .int .i64 0, .int .i64 0, .slice none 0 0, .slice none 0 0] 48)).alloc (.cells #[.int .i64 0, .int .i64 0, .int .i64 0, .slice none 0 0, .slice none 0 0] 48)) := ((Below.refl w.heap.size w).alloc (Nat.le_refl _) _).alloc (by simp) _
  have R0 := Lib.hid ((Blk.new w 48 #[.int .i64 0, .int .i64 0, .int .i64 0, .slice none 0 0, .slice none 0 0]).alloc (.cells #[.int .i64 0, .int .i64 0, .int .i64 0, .slice none 0 0, .slice none 0 0] 48))
  have N0 := Lib.hid (show Blk ((w.alloc (.cells #[.int .i64 0, .int .i64 0, .int .i64 0, .slice none 0 0, .slice none 0 0] 48)).alloc (.cells #[.int .i64 0, .int .i64 0, .int .i64 0, .slice none 0 0, .slice none 0 0] 48)) (w.heap.size + 1) 48 #[.int .i64 0, .int .i64 0, .int .i64 0, .slice none 0 0, .slice none 0 0] from by simpa using Blk.new (w.alloc (.cells #[.int .i64 0, .int .i64 0, .int .i64 0, .slice none 0 0, .slice none 0 0] 48)) 48 #[.int .i64 0, .int .i64 0, .int .i64 0, .slice none 0 0, .slice none 0 0])
  have z0 := Lib.hid (show ((w.alloc (.cells #[.int .i64 0, .int .i64 0, .int .i64 0, .slice none 0 0, .slice none 0 0] 48)).alloc (.cells #[.int .i64 0, .int .i64 0, .int .i64 0, .slice none 0 0, .slice none 0 0] 48)).heap.size = w.heap.size + 2 from by simp)
  have H0 := Lib.hid (H.out.below b0)
  have B0 := Lib.hid b0
  obtain ⟨W, hW⟩ : ∃ W, (w.alloc (.cells #[.int .i64 0, .int .i64 0, .int .i64 0, .slice none 0 0, .slice none 0 0] 48)).alloc (.cells #[.int .i64 0, .int .i64 0, .int .i64 0, .slice none 0 0, .slice none 0 0] 48) = W := ⟨_, rfl⟩
  rw [hW] at R0 N0 z0 H0 B0
  have HW := Lib.hid hW
  clear b0 hW
  by_cases h256 : n = 256
  · subst h256
    have hl256 : ¬ l.length ≠ 256 := fun h => h hlen
    clear hlen
    cases hg : goodL l with
    | false =>
      go_enter Tryd.func31, Tryd.ntmps31
      go_upto_region 2 with fail
      rw [HW.out]
      go_wp2_with fail
      refine (good_src A 256 c l _ H0.out (by omega)).mono ?_; rintro e w1 ⟨rfl, b1⟩; rw [hg]
      have B1 := Lib.hid (B0.out.trans (b1.mono B0.out.size))
      have R1 := Lib.hid (R0.out.older (older_below b1))
      have N1 := Lib.hid (N0.out.older (older_below b1))
      clear b1
      have RB := R1
      have NB := N1
      have KZ := Lib.hid (below_setRow B1.out (Nat.le_refl w.heap.size) #[.int .i64 0, .int .i64 0, .int .i64 0, .slice none 0 0, .slice none 0 0])
      go_wp2_with (first
        | (refine wpList_load_row rfl 48 (.tmp 8) rfl (w.heap.size + 1) rfl 48 _ (0, 0) _ NB.out Tryd.underlying48 rfl file_info ?_)
        | (refine wpList_store_row rfl 48 (.tmp 6) (.tmp 19) rfl w.heap.size #[.int .i64 0, .int .i64 0, .int .i64 0, .slice none 0 0, .slice none 0 0] rfl rfl 48 _ RB.out file_info rfl (by simp [Value.oneCell']) ?_)
        | fail)
      refine bodyPost_ret (v := .tuple #[.agg #[.int .i64 0, .int .i64 0, .int .i64 0, .slice none 0 0, .slice none 0 0], .int .i64 51]) ?_ rfl ?_
      · exact results_cell_tmp Tryd.results31 _ _ w.heap.size 48 _ (0, 0) _ rfl (RB.out.row _) Tryd.underlying48 rfl file_info
      exact ⟨KZ.out, .inl ⟨by rw [errOf_sum hl256 hg]; decide, by rw [errOf_sum hl256 hg]⟩⟩
    | true =>
      go_enter Tryd.func31, Tryd.ntmps31
      go_upto_region 2 with fail
      rw [HW.out]
      go_wp2_with fail
      refine (good_src A 256 c l _ H0.out (by omega)).mono ?_; rintro e w1 ⟨rfl, b1⟩; rw [hg]
      have B1 := Lib.hid (B0.out.trans (b1.mono B0.out.size))
      have R1 := Lib.hid (R0.out.older (older_below b1))
      have N1 := Lib.hid (N0.out.older (older_below b1))
      have H1 := Lib.hid (H0.out.below b1)
      clear b1 R0 N0 H0 B0
      go_wp2_with fail
      refine (newS_any A 256 c l _ H1.out (by omega)).mono ?_; rintro e w2 ⟨g, rfl, e2, hg2, b2⟩
      have R2 := Lib.hid (R1.out.older (older_below b2))
      have N2 := Lib.hid (N1.out.older (older_below b2))
      have z1 := N1.out.lt
      have B2 := Lib.hid (B1.out.trans (b2.mono B1.out.size))
      have H2 := Lib.hid (H1.out.below b2)
      have E2 := Lib.hid e2
      have hg3 := Nat.le_trans B1.out.size hg2
      clear b2 e2 H1 B1 R1 N1
      go_wp2_with fail
      refine (readFile_any g l _ E2.out).mono ?_; rintro e w3 ⟨A', c', A2, c2, rfl, rg, rh, fr, k3⟩
      have B3 := Lib.hid (chg_below B2.out k3 hg3)
      have H3 := Lib.hid (src_chg H2.out k3 (src_eye H2.out E2.out))
      have RG := Lib.hid rg
      have FR := Lib.hid fr
      have z2 := Lib.hid (show w.heap.size < w2.heap.size from by have := N2.out.lt; omega)
      clear fr
      have RH := Lib.hid rh
      clear rh
      have R3 := Lib.hid (R2.out.chg k3 (by omega))
      have N3 := Lib.hid (N2.out.chg k3 (by omega))
      clear rg k3 H2 E2 B2 R2 N2 z1
      have b4 : Below w3.heap.size w3 (w3.alloc (.cells #[.int .i64 (filR l).ver, .int .i64 (filR l).mtime, .int .i64 (filR l).len, .slice A' (filR l).blocks.length c', .slice A2 (filR l).parts.length c2] 48)) := (Below.refl w3.heap.size w3).alloc (Nat.le_refl _) _
      have V4 := Lib.hid (Blk.new w3 48 #[.int .i64 (filR l).ver, .int .i64 (filR l).mtime, .int .i64 (filR l).len, .slice A' (filR l).blocks.length c', .slice A2 (filR l).parts.length c2])
      have R4 := Lib.hid (R3.out.alloc (.cells #[.int .i64 (filR l).ver, .int .i64 (filR l).mtime, .int .i64 (filR l).len, .slice A' (filR l).blocks.length c', .slice A2 (filR l).parts.length c2] 48))
      have N4 := Lib.hid (N3.out.alloc (.cells #[.int .i64 (filR l).ver, .int .i64 (filR l).mtime, .int .i64 (filR l).len, .slice A' (filR l).blocks.length c', .slice A2 (filR l).parts.length c2] 48))
      have H4 := Lib.hid (H3.out.alloc (.cells #[.int .i64 (filR l).ver, .int .i64 (filR l).mtime, .int .i64 (filR l).len, .slice A' (filR l).blocks.length c', .slice A2 (filR l).parts.length c2] 48))
      have G4 := Lib.hid (RG.out.new b4)
      have B4 := Lib.hid (B3.out.trans (b4.mono B3.out.size))
      have I4 := Lib.hid (RH.out.new b4)
      clear RH
      have s34 := Lib.hid B3.out.size
      clear b4 R3 N3 H3 RG B3
      go_wp2_with fail
      generalize w3.alloc (.cells #[.int .i64 (filR l).ver, .int .i64 (filR l).mtime, .int .i64 (filR l).len, .slice A' (filR l).blocks.length c', .slice A2 (filR l).parts.length c2] 48) = w4 at *
      refine (packFile_any _ _ _ A' c' _ A2 c2 _ _ G4.out I4.out).mono ?_; rintro e w5 ⟨b5, p1, p2⟩
      have B5 := Lib.hid (B4.out.trans (b5.mono B4.out.size))
      have H5 := Lib.hid (H4.out.below b5)
      have G5 := Lib.hid (G4.out.new b5)
      have I5 := Lib.hid (I4.out.new b5)
      clear I4
      have R5 := Lib.hid (R4.out.older (older_below b5))
      have N5 := Lib.hid (N4.out.older (older_below b5))
      have V5 := Lib.hid (V4.out.older (older_below b5))
      clear R4 N4 V4
      clear b5 H4 G4 B4
      cases hm : (filR l).may with
      | false =>
        obtain rfl := p1 hm
        clear p1 p2
        have RB := R5
        have NB := N5
        have KZ := Lib.hid (below_setRow B5.out (Nat.le_refl w.heap.size) #[.int .i64 0, .int .i64 0, .int .i64 0, .slice none 0 0, .slice none 0 0])
        go_wp2_with (first
          | (refine wpList_load_row rfl 48 (.tmp 8) rfl (w.heap.size + 1) rfl 48 _ (0, 0) _ NB.out Tryd.underlying48 rfl file_info ?_)
          | (refine wpList_store_row rfl 48 (.tmp 6) (.tmp 38) rfl w.heap.size #[.int .i64 0, .int .i64 0, .int .i64 0, .slice none 0 0, .slice none 0 0] rfl rfl 48 _ RB.out file_info rfl (by simp [Value.oneCell']) ?_)
          | fail)
        refine bodyPost_ret (v := .tuple #[.agg #[.int .i64 0, .int .i64 0, .int .i64 0, .slice none 0 0, .slice none 0 0], .int .i64 50]) ?_ rfl ?_
        · exact results_cell_tmp Tryd.results31 _ _ w.heap.size 48 _ (0, 0) _ rfl (RB.out.row _) Tryd.underlying48 rfl file_info
        exact ⟨KZ.out, .inl ⟨by rw [errOf_no hl256 hg (fun h => by rw [hm] at h; cases h.1)]; decide, by rw [errOf_no hl256 hg (fun h => by rw [hm] at h; cases h.1)]⟩⟩
      | true =>
        obtain ⟨g6, c6, rfl, o6⟩ := p2 hm
        have O6 := Lib.hid o6
        clear p1 p2 o6
        by_cases he : sealL (filT (filR l)) = l
        · have hd : decide (sealL (filT (filR l)) = l) = true := decide_eq_true he
          have ER := Lib.hid (errOf_ok hl256 hg (m := (filR l).may) (t := filT (filR l)) ⟨hm, he⟩)
          go_wp2_with fail
          refine (equal_any _ _ _ _ _ _ _ _ _ O6.out.src H5.out).mono ?_; rintro e w7 ⟨rfl, rfl⟩; rw [hd]
          have KZ := Lib.hid (below_setRow B5.out (Nat.le_refl w.heap.size) #[.int .i64 (filR l).ver, .int .i64 (filR l).mtime, .int .i64 (filR l).len, .slice A' (filR l).blocks.length c', .slice A2 (filR l).parts.length c2])
          have KC := Lib.hid (Chg.setRow w7 #[.int .i64 (filR l).ver, .int .i64 (filR l).mtime, .int .i64 (filR l).len, .slice A' (filR l).blocks.length c', .slice A2 (filR l).parts.length c2] (g := w.heap.size) (S := fun b => b = w.heap.size) rfl)
          go_wp2_with (first
            | (refine wpList_load_row rfl 48 (.tmp 9) rfl w3.heap.size rfl 48 _ (0, 0) _ V5.out Tryd.underlying48 rfl file_info ?_)
            | (refine wpList_store_row rfl 48 (.tmp 6) (.tmp 39) rfl w.heap.size #[.int .i64 (filR l).ver, .int .i64 (filR l).mtime, .int .i64 (filR l).len, .slice A' (filR l).blocks.length c', .slice A2 (filR l).parts.length c2] rfl rfl 48 _ R5.out file_info rfl (by simp [Value.oneCell']) ?_)
            | fail)
          refine bodyPost_ret (v := .tuple #[.agg #[.int .i64 (filR l).ver, .int .i64 (filR l).mtime, .int .i64 (filR l).len, .slice A' (filR l).blocks.length c', .slice A2 (filR l).parts.length c2], .int .i64 0]) ?_ rfl ?_
          · exact results_cell_tmp Tryd.results31 _ _ w.heap.size 48 _ (0, 0) _ rfl (R5.out.row _) Tryd.underlying48 rfl file_info
          have fz : ∀ b, inB A' b ∨ inB A2 b → b = w.heap.size → False := fun b e h => by have h1 := FR.out b e; have h2 := z2.out; omega
          exact ⟨KZ.out, .inr ⟨ER.out, A', c', A2, c2, rfl, G5.out.chg KC.out (fun a e h => fz a.block (.inl (by rw [e]; simp [inB])) h), I5.out.chg KC.out (fun a e h => fz a.block (.inr (by rw [e]; simp [inB])) h), fun b e => by have h1 := FR.out b e; have h2 := z2.out; omega⟩⟩
        · have hd : decide (sealL (filT (filR l)) = l) = false := decide_eq_false he
          go_wp2_with fail
          refine (equal_any _ _ _ _ _ _ _ _ _ O6.out.src H5.out).mono ?_; rintro e w7 ⟨rfl, rfl⟩; rw [hd]
          have RB := R5
          have NB := N5
          have KZ := Lib.hid (below_setRow B5.out (Nat.le_refl w.heap.size) #[.int .i64 0, .int .i64 0, .int .i64 0, .slice none 0 0, .slice none 0 0])
          go_wp2_with (first
            | (refine wpList_load_row rfl 48 (.tmp 8) rfl (w.heap.size + 1) rfl 48 _ (0, 0) _ NB.out Tryd.underlying48 rfl file_info ?_)
            | (refine wpList_store_row rfl 48 (.tmp 6) (.tmp 38) rfl w.heap.size #[.int .i64 0, .int .i64 0, .int .i64 0, .slice none 0 0, .slice none 0 0] rfl rfl 48 _ RB.out file_info rfl (by simp [Value.oneCell']) ?_)
            | fail)
          refine bodyPost_ret (v := .tuple #[.agg #[.int .i64 0, .int .i64 0, .int .i64 0, .slice none 0 0, .slice none 0 0], .int .i64 50]) ?_ rfl ?_
          · exact results_cell_tmp Tryd.results31 _ _ w.heap.size 48 _ (0, 0) _ rfl (RB.out.row _) Tryd.underlying48 rfl file_info
          exact ⟨KZ.out, .inl ⟨by rw [errOf_no hl256 hg (fun h => he h.2)]; decide, by rw [errOf_no hl256 hg (fun h => he h.2)]⟩⟩
  · have hl256 : l.length ≠ 256 := fun h => h256 (hlen.symm.trans h)
    have hne : ((n : Int) != 256) = true := by simp; omega
    go_enter Tryd.func31, Tryd.ntmps31
    go_upto_region 2 with fail
    rw [HW.out]
    have RB := R0
    have NB := N0
    have KZ := Lib.hid (below_setRow B0.out (Nat.le_refl w.heap.size) #[.int .i64 0, .int .i64 0, .int .i64 0, .slice none 0 0, .slice none 0 0])
    go_wp2_with (first
      | (refine wpList_load_row rfl 48 (.tmp 8) rfl (w.heap.size + 1) rfl 48 _ (0, 0) _ NB.out Tryd.underlying48 rfl file_info ?_)
      | (refine wpList_store_row rfl 48 (.tmp 6) (.tmp 15) rfl w.heap.size #[.int .i64 0, .int .i64 0, .int .i64 0, .slice none 0 0, .slice none 0 0] rfl rfl 48 _ RB.out file_info rfl (by simp [Value.oneCell']) ?_)
      | fail)
    refine bodyPost_ret (v := .tuple #[.agg #[.int .i64 0, .int .i64 0, .int .i64 0, .slice none 0 0, .slice none 0 0], .int .i64 50]) ?_ rfl ?_
    · exact results_cell_tmp Tryd.results31 _ _ w.heap.size 48 _ (0, 0) _ rfl (RB.out.row _) Tryd.underlying48 rfl file_info
    exact ⟨KZ.out, .inl ⟨by rw [errOf_len hl256]; decide, by rw [errOf_len hl256]⟩⟩

set_option maxRecDepth 100000 in
set_option maxHeartbeats 2000000 in
theorem parsedFile_any (A : Option Addr) (n c : Nat) (l : List UInt8) (w : World) (hb : Src w A n c l) (hn : n ≤ 1000000) :
    Calls Tryd.prog 16 #[.slice A n c] w (fun e w' => ParsedFile w w' e l) := by
  have b0 : Below w.heap.size w (w.alloc (.cells #[.int .i64 0, .int .i64 0, .int .i64 0, .slice none 0 0, .slice none 0 0] 48)) := (Below.refl w.heap.size w).alloc (Nat.le_refl _) _
  have R0 := Lib.hid (Blk.new w 48 #[.int .i64 0, .int .i64 0, .int .i64 0, .slice none 0 0, .slice none 0 0])
  have H := Lib.hid (hb.below b0)
  have B0 := Lib.hid b0
  have z0 := Lib.hid (show (w.alloc (.cells #[.int .i64 0, .int .i64 0, .int .i64 0, .slice none 0 0, .slice none 0 0] 48)).heap.size = w.heap.size + 1 from by simp)
  clear hb b0
  go_enter Tryd.func16, Tryd.ntmps16
  go_wp2_with fail
  generalize w.alloc (.cells #[.int .i64 0, .int .i64 0, .int .i64 0, .slice none 0 0, .slice none 0 0] 48) = W at *
  refine (parse_file A n c l _ H.out hn).mono ?_
  rintro e w1 ⟨b1, ⟨h0, rfl⟩ | ⟨h0, A', c', A2, c2, rfl, rg, rh, fr⟩⟩
  · have B1 := Lib.hid (B0.out.trans (b1.mono B0.out.size))
    have R1 := Lib.hid (R0.out.older (older_below b1))
    have H0 := Lib.hid h0
    clear b1 h0
    generalize hq : errOf l ((filR l).may) (filT (filR l)) = q at *
    have HQ := Lib.hid hq
    clear hq
    have KZ := Lib.hid (below_setRow B1.out (Nat.le_refl w.heap.size) #[.int .i64 0, .int .i64 0, .int .i64 0, .slice none 0 0, .slice none 0 0])
    go_wp2_with (first
      | (refine wpList_store_row rfl 48 (.tmp 2) (.tmp 6) rfl w.heap.size #[.int .i64 0, .int .i64 0, .int .i64 0, .slice none 0 0, .slice none 0 0] rfl rfl 48 _ R1.out file_info rfl (by simp [Value.oneCell']) ?_)
      | fail)
    refine bodyPost_ret (v := .tuple #[.agg #[.int .i64 0, .int .i64 0, .int .i64 0, .slice none 0 0, .slice none 0 0], .int .i64 q]) ?_ rfl ?_
    · exact results_cell_tmp Tryd.results16 _ _ w.heap.size 48 _ (0, 0) _ rfl (R1.out.row _) Tryd.underlying48 rfl file_info
    exact ⟨KZ.out, .inl ⟨by rw [HQ.out]; exact H0.out, by rw [HQ.out]⟩⟩
  · have B1 := Lib.hid (B0.out.trans (b1.mono B0.out.size))
    have R1 := Lib.hid (R0.out.older (older_below b1))
    have H0 := Lib.hid h0
    have RG := Lib.hid rg
    have FR := Lib.hid fr
    have RH := Lib.hid rh
    clear rh
    clear b1 h0 rg fr
    have KZ := Lib.hid (below_setRow B1.out (Nat.le_refl w.heap.size) #[.int .i64 (filR l).ver, .int .i64 (filR l).mtime, .int .i64 (filR l).len, .slice A' (filR l).blocks.length c', .slice A2 (filR l).parts.length c2])
    have KC := Lib.hid (Chg.setRow w1 #[.int .i64 (filR l).ver, .int .i64 (filR l).mtime, .int .i64 (filR l).len, .slice A' (filR l).blocks.length c', .slice A2 (filR l).parts.length c2] (g := w.heap.size) (S := fun b => b = w.heap.size) rfl)
    go_wp2_with (first
      | (refine wpList_store_row rfl 48 (.tmp 2) (.tmp 6) rfl w.heap.size #[.int .i64 (filR l).ver, .int .i64 (filR l).mtime, .int .i64 (filR l).len, .slice A' (filR l).blocks.length c', .slice A2 (filR l).parts.length c2] rfl rfl 48 _ R1.out file_info rfl (by simp [Value.oneCell']) ?_)
      | fail)
    refine bodyPost_ret (v := .tuple #[.agg #[.int .i64 (filR l).ver, .int .i64 (filR l).mtime, .int .i64 (filR l).len, .slice A' (filR l).blocks.length c', .slice A2 (filR l).parts.length c2], .int .i64 0]) ?_ rfl ?_
    · exact results_cell_tmp Tryd.results16 _ _ w.heap.size 48 _ (0, 0) _ rfl (R1.out.row _) Tryd.underlying48 rfl file_info
    have fz : ∀ b, inB A' b ∨ inB A2 b → b = w.heap.size → False := fun b e h => by have h1 := FR.out b e; have h2 := z0.out; omega
    exact ⟨KZ.out, .inr ⟨H0.out, A', c', A2, c2, rfl, RG.out.chg KC.out (fun a e h => fz a.block (.inl (by rw [e]; simp [inB])) h), RH.out.chg KC.out (fun a e h => fz a.block (.inr (by rw [e]; simp [inB])) h), fun b e => by have h1 := FR.out b e; have h2 := z0.out; omega⟩⟩

set_option maxRecDepth 100000 in
set_option maxHeartbeats 2000000 in
theorem parse_dir (A : Option Addr) (n c : Nat) (l : List UInt8) (w : World) (hb : Src w A n c l) (hn : n ≤ 1000000) :
    Calls Tryd.prog 27 #[.slice A n c, .func (.func 28) #[] #[], .func (.func 9) #[] #[]] w (fun e w' => ParsedDir w w' e l) := by
  have H := Lib.hid hb
  have hlen := hb.len
  clear hb
  have H0 := H
  have B0 := Lib.hid (Below.refl w.heap.size w)
  by_cases h256 : n = 256
  · subst h256
    have hl256 : ¬ l.length ≠ 256 := fun h => h hlen
    clear hlen
    cases hg : goodL l with
    | false =>
      go_enter Tryd.func27, Tryd.ntmps27
      go_wp2_with fail
      refine (good_src A 256 c l _ H0.out (by omega)).mono ?_; rintro e w1 ⟨rfl, b1⟩; rw [hg]
      have B1 := Lib.hid b1
      clear b1
      go_wp2
      go_ret2
      exact ⟨B1.out, .inl ⟨by rw [errOf_sum hl256 hg]; decide, by rw [errOf_sum hl256 hg]; rfl⟩⟩
    | true =>
      go_enter Tryd.func27, Tryd.ntmps27
      go_wp2_with fail
      refine (good_src A 256 c l _ H0.out (by omega)).mono ?_; rintro e w1 ⟨rfl, b1⟩; rw [hg]
      have B1 := Lib.hid b1
      have H1 := Lib.hid (H0.out.below b1)
      clear b1 H0 B0
      go_wp2_with fail
      refine (newS_any A 256 c l _ H1.out (by omega)).mono ?_; rintro e w2 ⟨g, rfl, e2, hg2, b2⟩
      have B2 := Lib.hid (B1.out.trans (b2.mono B1.out.size))
      have H2 := Lib.hid (H1.out.below b2)
      have E2 := Lib.hid e2
      have hg3 := Nat.le_trans B1.out.size hg2
      clear b2 e2 H1 B1 
      go_wp2_with fail
      refine (readDir_any g l _ E2.out).mono ?_; rintro e w3 ⟨A', c', rfl, rg, fr, k3⟩
      have B3 := Lib.hid (chg_below B2.out k3 hg3)
      have H3 := Lib.hid (src_chg H2.out k3 (src_eye H2.out E2.out))
      have RG := Lib.hid rg
      have FR := Lib.hid fr
      have z2 := Lib.hid (show w.heap.size ≤ w2.heap.size from B2.out.size)
      clear fr
      clear rg k3 H2 E2 B2 
      have H4 := H3
      have G4 := RG
      have B4 := B3
      clear H3 RG B3
      go_wp2_with fail
      refine (packDir_any A' c' _ _ G4.out).mono ?_; rintro e w5 ⟨b5, p1, p2⟩
      have B5 := Lib.hid (B4.out.trans (b5.mono B4.out.size))
      have H5 := Lib.hid (H4.out.below b5)
      have G5 := Lib.hid (G4.out.new b5)
      clear b5 H4 G4 B4
      cases hm : dirMay (dirR l) with
      | false =>
        obtain rfl := p1 hm
        clear p1 p2
        go_wp2
        go_ret2
        exact ⟨B5.out, .inl ⟨by rw [errOf_no hl256 hg (fun h => by rw [hm] at h; cases h.1)]; decide, by rw [errOf_no hl256 hg (fun h => by rw [hm] at h; cases h.1)]; rfl⟩⟩
      | true =>
        obtain ⟨g6, c6, rfl, o6⟩ := p2 hm
        have O6 := Lib.hid o6
        clear p1 p2 o6
        by_cases he : sealL (dirT (dirR l)) = l
        · have hd : decide (sealL (dirT (dirR l)) = l) = true := decide_eq_true he
          have ER := Lib.hid (errOf_ok hl256 hg (m := dirMay (dirR l)) (t := dirT (dirR l)) ⟨hm, he⟩)
          go_wp2_with fail
          refine (equal_any _ _ _ _ _ _ _ _ _ O6.out.src H5.out).mono ?_; rintro e w7 ⟨rfl, rfl⟩; rw [hd]
          go_wp2
          go_ret2
          exact ⟨B5.out, .inr ⟨ER.out, A', c', rfl, G5.out, fun b e => by have h1 := FR.out b e; have h2 := z2.out; omega⟩⟩
        · have hd : decide (sealL (dirT (dirR l)) = l) = false := decide_eq_false he
          go_wp2_with fail
          refine (equal_any _ _ _ _ _ _ _ _ _ O6.out.src H5.out).mono ?_; rintro e w7 ⟨rfl, rfl⟩; rw [hd]
          go_wp2
          go_ret2
          exact ⟨B5.out, .inl ⟨by rw [errOf_no hl256 hg (fun h => he h.2)]; decide, by rw [errOf_no hl256 hg (fun h => he h.2)]; rfl⟩⟩
  · have hl256 : l.length ≠ 256 := fun h => h256 (hlen.symm.trans h)
    have hne : ((n : Int) != 256) = true := by simp; omega
    go_enter Tryd.func27, Tryd.ntmps27
    go_wp2
    go_ret2
    exact ⟨B0.out, .inl ⟨by rw [errOf_len hl256]; decide, by rw [errOf_len hl256]; rfl⟩⟩

set_option maxRecDepth 100000 in
set_option maxHeartbeats 2000000 in
theorem parsedDir_any (A : Option Addr) (n c : Nat) (l : List UInt8) (w : World) (hb : Src w A n c l) (hn : n ≤ 1000000) :
    Calls Tryd.prog 11 #[.slice A n c] w (fun e w' => ParsedDir w w' e l) := by
  have H := Lib.hid hb
  clear hb
  go_enter Tryd.func11, Tryd.ntmps11
  go_wp2_with fail
  refine (parse_dir A n c l _ H.out hn).mono ?_
  rintro e w1 ⟨b1, ⟨h0, rfl⟩ | ⟨h0, A', c', rfl, rg, fr⟩⟩
  · have B1 := Lib.hid b1
    have H0 := Lib.hid h0
    clear b1 h0
    generalize hq : errOf l (dirMay (dirR l)) (dirT (dirR l)) = q at *
    have HQ := Lib.hid hq
    clear hq
    go_wp2
    go_ret2
    exact ⟨B1.out, .inl ⟨by rw [HQ.out]; exact H0.out, by rw [HQ.out]; rfl⟩⟩
  · have B1 := Lib.hid b1
    have H0 := Lib.hid h0
    have RG := Lib.hid rg
    have FR := Lib.hid fr
    clear b1 h0 rg fr
    go_wp2
    go_ret2
    exact ⟨B1.out, .inr ⟨H0.out, A', c', rfl, RG.out, FR.out⟩⟩
end Go.Proofs.YtjjoohmfeglicaaDoor.In
