/- Layer 11: blocks parsed. Conditions: those that each states. -/
import Derived.Test.YtefnkednnnlhoaaGreatDoorMAW
import Derived.Test.YtefnkednnnlhoaaGreatDoorMAK
import Derived.Test.YtefnkednnnlhoaaGreatDoorMAU
namespace Go.Proofs.YtefnkednnnlhoaaGreatDoor.In
open Go.ChangeShapes Go.WideShapes Go.ChangeAt Go.RowKit Go.Deep Fl Rk Di
set_option linter.unusedVariables false
set_option linter.unusedSimpArgs false

theorem equal_any (A : Option Addr) (n c : Nat) (l : List UInt8) (A' : Option Addr) (n' c' : Nat) (l' : List UInt8) (w : World) (h : Src w A n c l) (h' : Src w A' n' c' l') :
    Calls Tryz.prog 125 #[.slice A n c, .slice A' n' c'] w fun e w' => e = .returned (.bool (decide (l = l'))) ∧ w' = w := by
  have h1 := told_str h
  have h2 := told_str h'
  by_cases hl : l = l'
  · subst hl
    rw [decide_eq_true rfl]
    go_enter Tryz.func125, Tryz.ntmps125
    go_wp2
    go_ret
    exact ⟨by simp, rfl⟩
  · have hne : (l == l') = false := by rw [beq_eq_false_iff_ne]; exact hl
    rw [decide_eq_false hl]
    go_enter Tryz.func125, Tryz.ntmps125
    go_wp2
    go_ret
    exact ⟨by first | rfl | (rw [hne]; rfl), rfl⟩
theorem newS_any (A : Option Addr) (n c : Nat) (l : List UInt8) (w : World) (hb : Src w A n c l) (hn : n ≤ 1000000) :
    Calls Tryz.prog 124 #[.slice A n c] w fun e w' => ∃ g, e = .returned (.pointer (some ⟨g, 0, none⟩)) ∧ EyeS w' g (l, 0) ∧ w.heap.size ≤ g ∧ Below w.heap.size w w' := by
  refine (new_any A n c l w hb hn).mono ?_
  rintro e w' ⟨g, rfl, ⟨h0, h1, h2⟩, h3, h4⟩
  exact ⟨g, rfl, ⟨⟨Nat.zero_le _, h1, h2⟩, fun h => absurd rfl h⟩, h0, h4⟩
theorem chg_below {w w1 w2 : World} {g : Nat} (h : Below w.heap.size w w1) (k : Chg w1 w2 (fun b => b = g)) (hg : w.heap.size ≤ g) : Below w.heap.size w w2 :=
  ⟨k.os.trans h.os, k.tape.trans h.tape, k.output.trans h.output, Nat.le_trans h.size k.size, fun i hi => (k.block i (Nat.lt_of_lt_of_le hi h.size) (by omega)).trans (h.block i hi)⟩
theorem good_src (A : Option Addr) (n c : Nat) (l : List UInt8) (w : World) (hb : Src w A n c l) (hn : n ≤ 16777216) :
    Calls Tryz.prog 123 #[.slice A n c] w fun e w' => e = .returned (.bool (goodL l)) ∧ Below w.heap.size w w' :=
  (good_ok A n c l w hb.toBytes hn).mono fun _ _ ⟨he, m, hm⟩ => ⟨he, by rw [hm]; exact below_drewN (Below.refl _ _) m⟩
theorem errOf_len {l t : List UInt8} {m : Bool} (h : l.length ≠ 256) : errOf l m t = 50 := by unfold errOf; rw [if_pos h]
theorem errOf_sum {l t : List UInt8} {m : Bool} (h : ¬ l.length ≠ 256) (g : goodL l = false) : errOf l m t = 51 := by unfold errOf; rw [if_neg h, if_pos g]
theorem errOf_no {l t : List UInt8} {m : Bool} (h : ¬ l.length ≠ 256) (g : goodL l = true) (k : ¬ (m = true ∧ sealL t = l)) : errOf l m t = 50 := by unfold errOf; rw [if_neg h, if_neg (by rw [g]; simp), if_neg k]
theorem errOf_ok {l t : List UInt8} {m : Bool} (h : ¬ l.length ≠ 256) (g : goodL l = true) (k : m = true ∧ sealL t = l) : errOf l m t = 0 := by unfold errOf; rw [if_neg h, if_neg (by rw [g]; simp), if_pos k]

/-- What a Parse tells. -/
def ParsedRoot (w w' : World) (e : Ending) (l : List UInt8) : Prop :=
  Below w.heap.size w w' ∧ ((errOf l (rootMay (rootR l).1 (rootR l).2) (rootT (rootR l).1 (rootR l).2) ≠ 0 ∧ e = .returned (.tuple #[.agg #[.int .i64 0, .slice none 0 0], .int .i64 (errOf l (rootMay (rootR l).1 (rootR l).2) (rootT (rootR l).1 (rootR l).2))])) ∨
    (errOf l (rootMay (rootR l).1 (rootR l).2) (rootT (rootR l).1 (rootR l).2) = 0 ∧ ∃ A' c', e = .returned (.tuple #[.agg #[.int .i64 (rootR l).1, .slice A' (rootR l).2.length c'], .int .i64 0]) ∧ RowG w' 1 A' (rootR l).2.length c' (vi (rootR l).2) ∧ ∀ b, inB A' b → w.heap.size ≤ b))

set_option maxRecDepth 100000 in
set_option maxHeartbeats 2000000 in
theorem parse_root (A : Option Addr) (n c : Nat) (l : List UInt8) (w : World) (hb : Src w A n c l) (hn : n ≤ 1000000) :
    Calls Tryz.prog 84 #[.slice A n c, .func (.func 85) #[] #[], .func (.func 51) #[] #[]] w (fun e w' => ParsedRoot w w' e l) := by
  have H := Lib.hid hb
  have hlen := hb.len
  clear hb
  have b0 : Below w.heap.size w ((w.alloc (.cells #[.int .i64 0, .slice none 0 0] 49)).alloc (.cells #[.int .i64 0, .slice none 0 0] 49)) := ((Below.refl w.heap.size w).alloc (Nat.le_refl _) _).alloc (by simp) _
  have R0 := Lib.hid ((Blk.new w 49 #[.int .i64 0, .slice none 0 0]).alloc (.cells #[.int .i64 0, .slice none 0 0] 49))
  have N0 := Lib.hid (show Blk ((w.alloc (.cells #[.int .i64 0, .slice none 0 0] 49)).alloc (.cells #[.int .i64 0, .slice none 0 0] 49)) (w.heap.size + 1) 49 #[.int .i64 0, .slice none 0 0] from by simpa using Blk.new (w.alloc (.cells #[.int .i64 0, .slice none 0 0] 49)) 49 #[.int .i64 0, .slice none 0 0])
  have z0 := Lib.hid (show ((w.alloc (.cells #[.int .i64 0, .slice none 0 0] 49)).alloc (.cells #[.int .i64 0, .slice none 0 0] 49)).heap.size = w.heap.size + 2 from by simp)
  have H0 := Lib.hid (H.out.below b0)
  have B0 := Lib.hid b0
  obtain ⟨W, hW⟩ : ∃ W, (w.alloc (.cells #[.int .i64 0, .slice none 0 0] 49)).alloc (.cells #[.int .i64 0, .slice none 0 0] 49) = W := ⟨_, rfl⟩
  rw [hW] at R0 N0 z0 H0 B0
  have HW := Lib.hid hW
  clear b0 hW
  by_cases h256 : n = 256
  · subst h256
    have hl256 : ¬ l.length ≠ 256 := fun h => h hlen
    clear hlen
    cases hg : goodL l with
    | false =>
      go_enter Tryz.func84, Tryz.ntmps84
      go_upto_region 2 with fail
      rw [HW.out]
      go_wp2_with fail
      refine (good_src A 256 c l _ H0.out (by omega)).mono ?_; rintro e w1 ⟨rfl, b1⟩; rw [hg]
      have B1 := Lib.hid (B0.out.trans (b1.mono B0.out.size))
      have R1 := Lib.hid (R0.out.older (older_below b1))
      have N1 := Lib.hid (N0.out.older (older_below b1))
      clear b1
      have RB := R1
      have NB := N1
      have KZ := Lib.hid (below_setRow B1.out (Nat.le_refl w.heap.size) #[.int .i64 0, .slice none 0 0])
      go_wp2_with (first
        | (refine wpList_load_row rfl 49 (.tmp 8) rfl (w.heap.size + 1) rfl 49 _ (0, 0) _ NB.out Tryz.underlying49 rfl root_info ?_)
        | (refine wpList_store_row rfl 49 (.tmp 6) (.tmp 19) rfl w.heap.size #[.int .i64 0, .slice none 0 0] rfl rfl 49 _ RB.out root_info rfl (by simp [Value.oneCell']) ?_)
        | fail)
      refine bodyPost_ret (v := .tuple #[.agg #[.int .i64 0, .slice none 0 0], .int .i64 51]) ?_ rfl ?_
      · exact results_cell_tmp Tryz.results84 _ _ w.heap.size 49 _ (0, 0) _ rfl (RB.out.row _) Tryz.underlying49 rfl root_info
      exact ⟨KZ.out, .inl ⟨by rw [errOf_sum hl256 hg]; decide, by rw [errOf_sum hl256 hg]⟩⟩
    | true =>
      go_enter Tryz.func84, Tryz.ntmps84
      go_upto_region 2 with fail
      rw [HW.out]
      go_wp2_with fail
      refine (good_src A 256 c l _ H0.out (by omega)).mono ?_; rintro e w1 ⟨rfl, b1⟩; rw [hg]
      have B1 := Lib.hid (B0.out.trans (b1.mono B0.out.size))
      have R1 := Lib.hid (R0.out.older (older_below b1))
      have N1 := Lib.hid (N0.out.older (older_below b1))
      have H1 := Lib.hid (H0.out.below b1)
      clear b1 R0 N0 H0 B0
      go_wp2_with fail
      refine (newS_any A 256 c l _ H1.out (by omega)).mono ?_; rintro e w2 ⟨g, rfl, e2, hg2, b2⟩
      have R2 := Lib.hid (R1.out.older (older_below b2))
      have N2 := Lib.hid (N1.out.older (older_below b2))
      have z1 := N1.out.lt
      have B2 := Lib.hid (B1.out.trans (b2.mono B1.out.size))
      have H2 := Lib.hid (H1.out.below b2)
      have E2 := Lib.hid e2
      have hg3 := Nat.le_trans B1.out.size hg2
      clear b2 e2 H1 B1 R1 N1
      go_wp2_with fail
      refine (readRoot_any g l _ E2.out).mono ?_; rintro e w3 ⟨A', c', rfl, rg, fr, k3⟩
      have B3 := Lib.hid (chg_below B2.out k3 hg3)
      have H3 := Lib.hid (src_chg H2.out k3 (src_eye H2.out E2.out))
      have RG := Lib.hid rg
      have FR := Lib.hid fr
      have z2 := Lib.hid (show w.heap.size < w2.heap.size from by have := N2.out.lt; omega)
      clear fr
      have R3 := Lib.hid (R2.out.chg k3 (by omega))
      have N3 := Lib.hid (N2.out.chg k3 (by omega))
      clear rg k3 H2 E2 B2 R2 N2 z1
      have b4 : Below w3.heap.size w3 (w3.alloc (.cells #[.int .i64 (rootR l).1, .slice A' (rootR l).2.length c'] 49)) := (Below.refl w3.heap.size w3).alloc (Nat.le_refl _) _
      have V4 := Lib.hid (Blk.new w3 49 #[.int .i64 (rootR l).1, .slice A' (rootR l).2.length c'])
      have R4 := Lib.hid (R3.out.alloc (.cells #[.int .i64 (rootR l).1, .slice A' (rootR l).2.length c'] 49))
      have N4 := Lib.hid (N3.out.alloc (.cells #[.int .i64 (rootR l).1, .slice A' (rootR l).2.length c'] 49))
      have H4 := Lib.hid (H3.out.alloc (.cells #[.int .i64 (rootR l).1, .slice A' (rootR l).2.length c'] 49))
      have G4 := Lib.hid (RG.out.new b4)
      have B4 := Lib.hid (B3.out.trans (b4.mono B3.out.size))
      have s34 := Lib.hid B3.out.size
      clear b4 R3 N3 H3 RG B3
      go_wp2_with fail
      generalize w3.alloc (.cells #[.int .i64 (rootR l).1, .slice A' (rootR l).2.length c'] 49) = w4 at *
      refine (packRoot_any _ A' c' _ _ G4.out).mono ?_; rintro e w5 ⟨b5, p1, p2⟩
      have B5 := Lib.hid (B4.out.trans (b5.mono B4.out.size))
      have H5 := Lib.hid (H4.out.below b5)
      have G5 := Lib.hid (G4.out.new b5)
      have R5 := Lib.hid (R4.out.older (older_below b5))
      have N5 := Lib.hid (N4.out.older (older_below b5))
      have V5 := Lib.hid (V4.out.older (older_below b5))
      clear R4 N4 V4
      clear b5 H4 G4 B4
      cases hm : rootMay (rootR l).1 (rootR l).2 with
      | false =>
        obtain rfl := p1 hm
        clear p1 p2
        have RB := R5
        have NB := N5
        have KZ := Lib.hid (below_setRow B5.out (Nat.le_refl w.heap.size) #[.int .i64 0, .slice none 0 0])
        go_wp2_with (first
          | (refine wpList_load_row rfl 49 (.tmp 8) rfl (w.heap.size + 1) rfl 49 _ (0, 0) _ NB.out Tryz.underlying49 rfl root_info ?_)
          | (refine wpList_store_row rfl 49 (.tmp 6) (.tmp 38) rfl w.heap.size #[.int .i64 0, .slice none 0 0] rfl rfl 49 _ RB.out root_info rfl (by simp [Value.oneCell']) ?_)
          | fail)
        refine bodyPost_ret (v := .tuple #[.agg #[.int .i64 0, .slice none 0 0], .int .i64 50]) ?_ rfl ?_
        · exact results_cell_tmp Tryz.results84 _ _ w.heap.size 49 _ (0, 0) _ rfl (RB.out.row _) Tryz.underlying49 rfl root_info
        exact ⟨KZ.out, .inl ⟨by rw [errOf_no hl256 hg (fun h => by rw [hm] at h; cases h.1)]; decide, by rw [errOf_no hl256 hg (fun h => by rw [hm] at h; cases h.1)]⟩⟩
      | true =>
        obtain ⟨g6, c6, rfl, o6⟩ := p2 hm
        have O6 := Lib.hid o6
        clear p1 p2 o6
        by_cases he : sealL (rootT (rootR l).1 (rootR l).2) = l
        · have hd : decide (sealL (rootT (rootR l).1 (rootR l).2) = l) = true := decide_eq_true he
          have ER := Lib.hid (errOf_ok hl256 hg (m := rootMay (rootR l).1 (rootR l).2) (t := rootT (rootR l).1 (rootR l).2) ⟨hm, he⟩)
          go_wp2_with fail
          refine (equal_any _ _ _ _ _ _ _ _ _ O6.out.src H5.out).mono ?_; rintro e w7 ⟨rfl, rfl⟩; rw [hd]
          have KZ := Lib.hid (below_setRow B5.out (Nat.le_refl w.heap.size) #[.int .i64 (rootR l).1, .slice A' (rootR l).2.length c'])
          have KC := Lib.hid (Chg.setRow w7 #[.int .i64 (rootR l).1, .slice A' (rootR l).2.length c'] (g := w.heap.size) (S := fun b => b = w.heap.size) rfl)
          go_wp2_with (first
            | (refine wpList_load_row rfl 49 (.tmp 9) rfl w3.heap.size rfl 49 _ (0, 0) _ V5.out Tryz.underlying49 rfl root_info ?_)
            | (refine wpList_store_row rfl 49 (.tmp 6) (.tmp 39) rfl w.heap.size #[.int .i64 (rootR l).1, .slice A' (rootR l).2.length c'] rfl rfl 49 _ R5.out root_info rfl (by simp [Value.oneCell']) ?_)
            | fail)
          refine bodyPost_ret (v := .tuple #[.agg #[.int .i64 (rootR l).1, .slice A' (rootR l).2.length c'], .int .i64 0]) ?_ rfl ?_
          · exact results_cell_tmp Tryz.results84 _ _ w.heap.size 49 _ (0, 0) _ rfl (R5.out.row _) Tryz.underlying49 rfl root_info
          have fz : ∀ b, inB A' b → b = w.heap.size → False := fun b e h => by have h1 := FR.out b e; have h2 := z2.out; omega
          exact ⟨KZ.out, .inr ⟨ER.out, A', c', rfl, G5.out.chg KC.out (fun a e h => fz a.block (by rw [e]; simp [inB]) h), fun b e => by have h1 := FR.out b e; have h2 := z2.out; omega⟩⟩
        · have hd : decide (sealL (rootT (rootR l).1 (rootR l).2) = l) = false := decide_eq_false he
          go_wp2_with fail
          refine (equal_any _ _ _ _ _ _ _ _ _ O6.out.src H5.out).mono ?_; rintro e w7 ⟨rfl, rfl⟩; rw [hd]
          have RB := R5
          have NB := N5
          have KZ := Lib.hid (below_setRow B5.out (Nat.le_refl w.heap.size) #[.int .i64 0, .slice none 0 0])
          go_wp2_with (first
            | (refine wpList_load_row rfl 49 (.tmp 8) rfl (w.heap.size + 1) rfl 49 _ (0, 0) _ NB.out Tryz.underlying49 rfl root_info ?_)
            | (refine wpList_store_row rfl 49 (.tmp 6) (.tmp 38) rfl w.heap.size #[.int .i64 0, .slice none 0 0] rfl rfl 49 _ RB.out root_info rfl (by simp [Value.oneCell']) ?_)
            | fail)
          refine bodyPost_ret (v := .tuple #[.agg #[.int .i64 0, .slice none 0 0], .int .i64 50]) ?_ rfl ?_
          · exact results_cell_tmp Tryz.results84 _ _ w.heap.size 49 _ (0, 0) _ rfl (RB.out.row _) Tryz.underlying49 rfl root_info
          exact ⟨KZ.out, .inl ⟨by rw [errOf_no hl256 hg (fun h => he h.2)]; decide, by rw [errOf_no hl256 hg (fun h => he h.2)]⟩⟩
  · have hl256 : l.length ≠ 256 := fun h => h256 (hlen.symm.trans h)
    have hne : ((n : Int) != 256) = true := by simp; omega
    go_enter Tryz.func84, Tryz.ntmps84
    go_upto_region 2 with fail
    rw [HW.out]
    have RB := R0
    have NB := N0
    have KZ := Lib.hid (below_setRow B0.out (Nat.le_refl w.heap.size) #[.int .i64 0, .slice none 0 0])
    go_wp2_with (first
      | (refine wpList_load_row rfl 49 (.tmp 8) rfl (w.heap.size + 1) rfl 49 _ (0, 0) _ NB.out Tryz.underlying49 rfl root_info ?_)
      | (refine wpList_store_row rfl 49 (.tmp 6) (.tmp 15) rfl w.heap.size #[.int .i64 0, .slice none 0 0] rfl rfl 49 _ RB.out root_info rfl (by simp [Value.oneCell']) ?_)
      | fail)
    refine bodyPost_ret (v := .tuple #[.agg #[.int .i64 0, .slice none 0 0], .int .i64 50]) ?_ rfl ?_
    · exact results_cell_tmp Tryz.results84 _ _ w.heap.size 49 _ (0, 0) _ rfl (RB.out.row _) Tryz.underlying49 rfl root_info
    exact ⟨KZ.out, .inl ⟨by rw [errOf_len hl256]; decide, by rw [errOf_len hl256]⟩⟩

set_option maxRecDepth 100000 in
set_option maxHeartbeats 2000000 in
theorem parsedRoot_any (A : Option Addr) (n c : Nat) (l : List UInt8) (w : World) (hb : Src w A n c l) (hn : n ≤ 1000000) :
    Calls Tryz.prog 44 #[.slice A n c] w (fun e w' => ParsedRoot w w' e l) := by
  have b0 : Below w.heap.size w (w.alloc (.cells #[.int .i64 0, .slice none 0 0] 49)) := (Below.refl w.heap.size w).alloc (Nat.le_refl _) _
  have R0 := Lib.hid (Blk.new w 49 #[.int .i64 0, .slice none 0 0])
  have H := Lib.hid (hb.below b0)
  have B0 := Lib.hid b0
  have z0 := Lib.hid (show (w.alloc (.cells #[.int .i64 0, .slice none 0 0] 49)).heap.size = w.heap.size + 1 from by simp)
  clear hb b0
  go_enter Tryz.func44, Tryz.ntmps44
  go_wp2_with fail
  generalize w.alloc (.cells #[.int .i64 0, .slice none 0 0] 49) = W at *
  refine (parse_root A n c l _ H.out hn).mono ?_
  rintro e w1 ⟨b1, ⟨h0, rfl⟩ | ⟨h0, A', c', rfl, rg, fr⟩⟩
  · have B1 := Lib.hid (B0.out.trans (b1.mono B0.out.size))
    have R1 := Lib.hid (R0.out.older (older_below b1))
    have H0 := Lib.hid h0
    clear b1 h0
    generalize hq : errOf l (rootMay (rootR l).1 (rootR l).2) (rootT (rootR l).1 (rootR l).2) = q at *
    have HQ := Lib.hid hq
    clear hq
    have KZ := Lib.hid (below_setRow B1.out (Nat.le_refl w.heap.size) #[.int .i64 0, .slice none 0 0])
    go_wp2_with (first
      | (refine wpList_store_row rfl 49 (.tmp 2) (.tmp 6) rfl w.heap.size #[.int .i64 0, .slice none 0 0] rfl rfl 49 _ R1.out root_info rfl (by simp [Value.oneCell']) ?_)
      | fail)
    refine bodyPost_ret (v := .tuple #[.agg #[.int .i64 0, .slice none 0 0], .int .i64 q]) ?_ rfl ?_
    · exact results_cell_tmp Tryz.results44 _ _ w.heap.size 49 _ (0, 0) _ rfl (R1.out.row _) Tryz.underlying49 rfl root_info
    exact ⟨KZ.out, .inl ⟨by rw [HQ.out]; exact H0.out, by rw [HQ.out]⟩⟩
  · have B1 := Lib.hid (B0.out.trans (b1.mono B0.out.size))
    have R1 := Lib.hid (R0.out.older (older_below b1))
    have H0 := Lib.hid h0
    have RG := Lib.hid rg
    have FR := Lib.hid fr
    clear b1 h0 rg fr
    have KZ := Lib.hid (below_setRow B1.out (Nat.le_refl w.heap.size) #[.int .i64 (rootR l).1, .slice A' (rootR l).2.length c'])
    have KC := Lib.hid (Chg.setRow w1 #[.int .i64 (rootR l).1, .slice A' (rootR l).2.length c'] (g := w.heap.size) (S := fun b => b = w.heap.size) rfl)
    go_wp2_with (first
      | (refine wpList_store_row rfl 49 (.tmp 2) (.tmp 6) rfl w.heap.size #[.int .i64 (rootR l).1, .slice A' (rootR l).2.length c'] rfl rfl 49 _ R1.out root_info rfl (by simp [Value.oneCell']) ?_)
      | fail)
    refine bodyPost_ret (v := .tuple #[.agg #[.int .i64 (rootR l).1, .slice A' (rootR l).2.length c'], .int .i64 0]) ?_ rfl ?_
    · exact results_cell_tmp Tryz.results44 _ _ w.heap.size 49 _ (0, 0) _ rfl (R1.out.row _) Tryz.underlying49 rfl root_info
    have fz : ∀ b, inB A' b → b = w.heap.size → False := fun b e h => by have h1 := FR.out b e; have h2 := z0.out; omega
    exact ⟨KZ.out, .inr ⟨H0.out, A', c', rfl, RG.out.chg KC.out (fun a e h => fz a.block (by rw [e]; simp [inB]) h), fun b e => by have h1 := FR.out b e; have h2 := z0.out; omega⟩⟩

end Go.Proofs.YtefnkednnnlhoaaGreatDoor.In

/- What a store's steps keep; package store: newestRoot. Conditions: those that each states. -/
namespace Go.Proofs.YtefnkednnnlhoaaGreatDoor.Sr
open Go.ChangeShapes Go.WideShapes Go.ChangeAt Go.RowKit Go.Deep Fr Di Ke Rk
set_option linter.unusedVariables false
set_option linter.unusedSimpArgs false

/-- A kernel without filters, packets, transfers: it keeps nothing of others. -/
structure Bare (K : Kn) : Prop where
  fs : K.fs = []
  i1 : K.i1 = []
  i2 : K.i2 = []
  out : K.out = []
theorem Bare.wr {K : Kn} (h : Bare K) (b : Int) (s : List UInt8) : Bare (wrK K b s).1 := ⟨h.fs, h.i1, h.i2, h.out⟩
theorem Bare.sy {K : Kn} (h : Bare K) : Bare (syK K).1 := ⟨h.fs, h.i1, h.i2, h.out⟩
section
variable {B : Nat} {w w' w1 w2 : World} {lab lab' lab1 lab2 : Nat → Nat} {g : Nat} {K K' K1 K2 : Kn} {S : Nat → Prop} {a : Ad}
theorem KAt.chg0 (h : KAt w lab g K a) (b : Bare K) (k : Chg w w' S) (hS : ∀ i, S i → lab i = 0) : KAt w' lab g K a :=
  ⟨h.head.chg k (fun s => by have := hS _ s; rw [h.lg] at this; cases this), h.tab.chg k (fun s => by have := hS _ s; rw [h.lt1] at this; cases this) (fun s => by have := hS _ s; rw [h.lt2] at this; cases this),
    h.dk.chg k (fun i s (hj : lab i = 3) => by have := hS _ s; omega), RowW.chg h.row k (fun x hx s => by have := hS _ s; have := h.lr x hx; omega),
    h.fil.weak (fun _ y hy _ => by rw [b.fs] at hy; cases hy),
    h.r1.chg k (fun s => by have := hS _ s; rw [h.l11] at this; cases this) (fun s => by have := hS _ s; rw [h.l12] at this; cases this), h.p1.weak (fun _ y hy _ => by rw [b.i1] at hy; cases hy),
    h.r2.chg k (fun s => by have := hS _ s; rw [h.l21] at this; cases this) (fun s => by have := hS _ s; rw [h.l22] at this; cases this), h.p2.weak (fun _ y hy _ => by rw [b.i2] at hy; cases hy),
    h.r3.chg k (fun s => by have := hS _ s; rw [h.l31] at this; cases this) (fun s => by have := hS _ s; rw [h.l32] at this; cases this), h.p3.weak (fun _ y hy _ => by rw [b.out] at hy; cases hy),
    h.lg, h.lt1, h.lt2, h.lr, h.l11, h.l12, h.l21, h.l22, h.l31, h.l32, fun i hi => Nat.lt_of_lt_of_le (h.all i hi) k.size⟩
theorem KB.chg0 (h : KB B w lab g K) (b : Bare K) (k : Chg w w' S) (hS : ∀ i, S i → lab i = 0) : KB B w' lab g K := by
  obtain ⟨a, ha⟩ := h.ka
  exact ⟨⟨a, KAt.chg0 ha b k hS⟩, h.n8, h.ge, h.ok⟩

/-- What a step of a store leaves: the kernel, all that was ahead of B, and of the store's own blocks (label 0) those beyond S. -/
structure STo (B : Nat) (S : Nat → Prop) (w w' : World) (lab lab' : Nat → Nat) (g : Nat) (K' : Kn) : Prop where
  kb : KB B w' lab' g K'
  below : Below B w w'
  size : w.heap.size ≤ w'.heap.size
  zero : ∀ i, i < w.heap.size → lab i = 0 → lab' i = 0
  keep : ∀ i, i < w.heap.size → lab i = 0 → ¬ S i → w'.heap[i]? = w.heap[i]?
theorem KTo.sto (h : KTo B w w' lab lab' g K') (S : Nat → Prop) : STo B S w w' lab lab' g K' :=
  ⟨h.1, h.2.2, h.2.1.chg.size, fun i hi h0 => by
    by_cases e : lab' i = 0
    · exact e
    · rcases h.2.1.old i e with h1 | h1
      · exact absurd h0 h1
      · omega, fun i hi h0 _ => h.2.1.chg.block i hi (fun s => s.1 h0)⟩
theorem STo.fresh (h : KB B w lab g K) (hB : B ≤ w.heap.size) (S : Nat → Prop) (k : Below w.heap.size w w') : STo B S w w' lab lab g K := (KTo.fresh h hB k).sto S
theorem STo.trans (h : STo B S w w1 lab lab1 g K1) (k : STo B S w1 w2 lab1 lab2 g K2) : STo B S w w2 lab lab2 g K2 :=
  ⟨k.kb, h.below.trans k.below, Nat.le_trans h.size k.size, fun i hi h0 => k.zero i (Nat.lt_of_lt_of_le hi h.size) (h.zero i hi h0),
    fun i hi h0 hs => (k.keep i (Nat.lt_of_lt_of_le hi h.size) (h.zero i hi h0) hs).trans (h.keep i hi h0 hs)⟩
theorem STo.new (h : STo B S w w1 lab lab1 g K1) (hB : B ≤ w.heap.size) (k : Below w1.heap.size w1 w2) : STo B S w w2 lab lab1 g K1 := h.trans (STo.fresh h.kb (Nat.le_trans hB h.size) S k)
/-- A block of the call's own turns. -/
theorem STo.set (h : STo B S w w1 lab lab1 g K1) (b : Bare K1) {r : Nat} (k : Chg w1 w2 (fun i => i = r)) (hr : S r ∨ w.heap.size ≤ r) (hBw : B ≤ w.heap.size) (hB : B ≤ r) (h0 : lab1 r = 0) : STo B S w w2 lab lab1 g K1 :=
  ⟨KB.chg0 h.kb b k (fun i e => by rw [e]; exact h0), h.below.trans ⟨k.os, k.tape, k.output, k.size, fun i hi => k.block i (by have := h.size; omega) (by omega)⟩, Nat.le_trans h.size k.size, h.zero,
    fun i hi hz hs => (k.block i (Nat.lt_of_lt_of_le hi h.size) (fun e => by
      rcases hr with hr | hr
      · exact hs (by rw [e]; exact hr)
      · omega)).trans (h.keep i hi hz hs)⟩
theorem STo.blk (h : STo B S w w' lab lab' g K') {i : Nat} {t : TypeId} {cs : Array Value} (hb : Blk w i t cs) (h0 : lab i = 0) (hs : ¬ S i) : Blk w' i t cs := (h.keep i hb.lt h0 hs).trans hb
/-- A row of the store's own. -/
def Own0 (w : World) (lab : Nat → Nat) (A : Option Addr) (n : Nat) : Prop := 0 < n → ∀ x, A = some x → x.block < w.heap.size ∧ lab x.block = 0
theorem STo.row (h : STo B S w w' lab lab' g K') {sz n c : Nat} {A : Option Addr} {xs : List Value} (r : RowG w sz A n c xs) (o : Own0 w lab A n) (hs : ∀ x, A = some x → ¬ S x.block) : RowG w' sz A n c xs ∧ Own0 w' lab' A n := by
  refine ⟨⟨r.len, r.cap, r.max, r.none_, fun x e h0 => ?_⟩, fun h0 x e => ⟨Nat.lt_of_lt_of_le (o h0 x e).1 h.size, h.zero _ (o h0 x e).1 (o h0 x e).2⟩⟩
  obtain ⟨h3, h1, h2⟩ := r.at_ x e h0
  refine ⟨h3, Nat.lt_of_lt_of_le h1 h.size, fun j hj => ?_⟩
  rw [World.cell?_of_block (w := w) (w' := w') (a := ⟨x.block, x.off + j, none⟩) (h.keep x.block h1 (o h0 x e).2 (hs x e))]
  exact h2 j hj
end

/-- The error of a block that would be read as a root. -/
def rootE (b : List UInt8) : Int := In.errOf b (In.rootMay (In.rootR b).1 (In.rootR b).2) (In.rootT (In.rootR b).1 (In.rootR b).2)
/-- The newest root of the first j places: Gen, Dirs, whether there is one. -/
def newS (b : List UInt8) (j : Nat) (cur : Int × List Int × Bool) : Int × List Int × Bool :=
  if rootE b = 0 ∧ (In.rootR b).1 % 2 = (j : Int) ∧ cur.1 < (In.rootR b).1 then ((In.rootR b).1, (In.rootR b).2, true) else cur
def newN (K : Kn) : Nat → Int × List Int × Bool
  | 0 => (0, [], false)
  | j + 1 => newS (rdK K j).1 j (newN K j)
theorem rd_len {K : Kn} (ok : K.Ok) (b : Int) : (rdK K b).1.length ≤ 256 := by
  unfold rdK readR
  split
  · rename_i h
    have hb : b.toNat < K.dk.blocks.length := by
      obtain ⟨_, b', e, h', _⟩ := askE_zero h
      rw [e]; exact h'
    exact Nat.le_of_eq (see_len ok.dok hb)
  · exact Nat.zero_le _
theorem rootE_gen {b : List UInt8} (h : rootE b = 0) : ∃ n : Nat, (In.rootR b).1 = (n : Int) ∧ 1 ≤ n ∧ n ≤ 1073741824 := by
  unfold rootE In.errOf at h
  split at h
  · cases h
  · split at h
    · cases h
    · split at h
      · rename_i hm
        have hm := hm.1
        unfold In.rootMay In.mayCnt at hm
        simp only [Bool.and_eq_true, decide_eq_true_eq] at hm
        exact ⟨(In.rootR b).1.toNat, by omega, by omega, by omega⟩
      · cases h
end Go.Proofs.YtefnkednnnlhoaaGreatDoor.Sr
