/- Whatever root, entries and file come in, and whatever byte of a block is turned, 'pantlerlaw11.InodeBack' returns true and leaves them as they were. No condition. -/
import Derived.Test.YtjjoohmfeglicaaDoorVarsI
import Derived.Test.YtjjoohmfeglicaaDoorInC
namespace Go.Proofs.YtjjoohmfeglicaaDoor.inodeBack
open Go.ChangeShapes Go.WideShapes Go.ChangeAt Go.RowKit Go.Deep Fl Rk Di In
set_option linter.unusedVariables false


def Keep (W w : World) : Prop := Below W.heap.size W w
set_option maxRecDepth 100000 in
set_option maxHeartbeats 8000000 in
theorem walk (w : World) (hv : Vars w) (g0 : Int) (A0 : Option Addr) (c0 : Nat) (ds : List Int) (r0 : RowG w 1 A0 ds.length c0 (vi ds)) (A1 : Option Addr) (c1 : Nat) (es : List Ent) (r1 : RowG w 2 A1 es.length c1 (ve es))
    (v m q : Int) (A2 : Option Addr) (c2 : Nat) (bs : List Int) (B2 : Option Addr) (e2 : Nat) (ps : List (Int × Int)) (r2 : RowG w 1 A2 bs.length c2 (vi bs)) (r3 : RowG w 2 B2 ps.length e2 (vq ps)) (hin : ∀ p ∈ ps, In64 p.1 ∧ In64 p.2)
    (a3 : Int) (w3 : (Lit.int .u8 a3).wf = true) (a4 : Int) (w4 : (Lit.int .u8 a4).wf = true) :
    Calls Tryd.prog 3 #[.agg #[.int .i64 g0, .slice A0 ds.length c0], .slice A1 es.length c1, .agg #[.int .i64 v, .int .i64 m, .int .i64 q, .slice A2 bs.length c2, .slice B2 ps.length e2], .int .u8 a3, .int .u8 a4] w fun e w' => e = .returned (.bool true) ∧ Below w.heap.size w w' := by
  have AL := Lib.hid (fun w => alive_any w)
  clear hv
  obtain ⟨n3, rfl, h3⟩ := wf_u8 w3
  obtain ⟨n4, rfl, h4⟩ := wf_u8 w4
  clear w3 w4
  obtain ⟨W2, hW2⟩ : ∃ W, (w.alloc (.cells #[.int .i64 g0, .slice A0 ds.length c0] 24)).alloc (.cells #[.int .i64 v, .int .i64 m, .int .i64 q, .slice A2 bs.length c2, .slice B2 ps.length e2] 28) = W := ⟨_, rfl⟩
  have B2' := Lib.hid (show Below w.heap.size w W2 from by rw [← hW2]; exact ((Below.refl w.heap.size w).alloc (Nat.le_refl _) _).alloc (by simp) _)
  have X2 := Lib.hid (show Blk W2 w.heap.size 24 #[.int .i64 g0, .slice A0 ds.length c0] from by rw [← hW2]; exact (Blk.new w _ _).alloc _)
  have Y2 := Lib.hid (show Blk W2 (w.heap.size + 1) 28 #[.int .i64 v, .int .i64 m, .int .i64 q, .slice A2 bs.length c2, .slice B2 ps.length e2] from by rw [← hW2]; have := Blk.new (w.alloc (.cells #[.int .i64 g0, .slice A0 ds.length c0] 24)) 28 #[.int .i64 v, .int .i64 m, .int .i64 q, .slice A2 bs.length c2, .slice B2 ps.length e2]; simpa using this)
  have R0 := Lib.hid (r0.new B2'.out)
  have R1 := Lib.hid (r1.new B2'.out)
  have R2 := Lib.hid (r2.new B2'.out)
  have R3 := Lib.hid (r3.new B2'.out)
  have HW2 := Lib.hid hW2
  have HIN := Lib.hid hin
  clear r0 r1 r2 r3 hW2 hin
  go_enter Tryd.func3, Tryd.ntmps3
  go_upto_region 1 with fail
  rw [HW2.out]
  clear HW2
  go_wp2_with fail
  refine (AL.out W2).mono ?_; rintro e wa ⟨rfl, b1⟩
  clear AL
  have BA := Lib.hid b1
  have x0 := ((X2.out.older (older_below BA.out)).cell 0).trans (show _ = some (.int .i64 g0) from rfl)
  have x1 := ((X2.out.older (older_below BA.out)).cell 1).trans (show _ = some (.slice A0 ds.length c0) from rfl)
  have y3 := ((Y2.out.older (older_below BA.out)).cell 3).trans (show _ = some (.slice A2 bs.length c2) from rfl)
  have y4 := ((Y2.out.older (older_below BA.out)).cell 4).trans (show _ = some (.slice B2 ps.length e2) from rfl)
  clear b1
  go_upto_region 3 with fail
  by_cases l0 : (ds.length : Int) > 100
  · go_wp2
    go_ret
    exact ⟨rfl, B2'.out.trans (BA.out.mono B2'.out.size)⟩
  by_cases l1 : (es.length : Int) > 100
  · go_wp2
    go_ret
    exact ⟨rfl, B2'.out.trans (BA.out.mono B2'.out.size)⟩
  by_cases l2 : (bs.length : Int) > 100
  · go_wp2
    go_ret
    exact ⟨rfl, B2'.out.trans (BA.out.mono B2'.out.size)⟩
  by_cases l3 : (ps.length : Int) > 100
  · go_wp2
    go_ret
    exact ⟨rfl, B2'.out.trans (BA.out.mono B2'.out.size)⟩
  have PK := Lib.hid (packRoot_any g0 A0 c0 ds wa (R0.out.new BA.out))
  go_wp2_with fail
  refine PK.out.mono ?_; rintro e wb ⟨bb, p1, p2⟩
  clear PK
  have BB := Lib.hid (BA.out.trans (bb.mono BA.out.size))
  obtain ⟨s, er, rfl, hs⟩ : ∃ s er, e = .returned (.tuple #[s, .int .i64 er]) ∧ (er = 0 → rootMay g0 ds = true ∧ ∃ g c', s = .slice (some ⟨g, 0, none⟩) 256 c' ∧ OwnB wb wa.heap.size g 256 c' (sealL (rootT g0 ds))) := by
    cases hm : rootMay g0 ds with
    | false => exact ⟨_, _, p1 hm, fun h => (by cases h)⟩
    | true =>
      obtain ⟨g, c', e1, o1⟩ := p2 hm
      exact ⟨_, _, e1, fun _ => ⟨rfl, g, c', rfl, o1⟩⟩
  have HS := Lib.hid hs
  clear p1 p2 hs bb BA x0 x1 y3 y4
  have L0 := Lib.hid l0
  have L1 := Lib.hid l1
  have L2 := Lib.hid l2
  have L3 := Lib.hid l3
  clear l0 l1 l2 l3
  go_upto_if 54 with fail
  go_cut [] (fun wx => Hid (Below W2.heap.size W2 wx))
  case first =>
    by_cases h0 : er = 0
    · subst h0
      obtain ⟨hm, g, c', rfl, o1⟩ := HS.out rfl
      have BKR := Lib.hid (back_root hm)
      have RS := Lib.hid (rootR_seal hm)
      have PA := Lib.hid (parsedRoot_any (some ⟨g, 0, none⟩) 256 c' _ wb o1.src (by decide))
      clear HS hm o1
      go_wp2_with fail
      refine PA.out.mono ?_; rintro e wc ⟨bc, ⟨n, _⟩ | ⟨_, A5, c5, rfl, rg, _⟩⟩
      · exact absurd BKR.out n
      rw [RS.out] at rg ⊢
      clear BKR PA
      have BC := Lib.hid (BB.out.trans (bc.mono BB.out.size))
      have bd : Below wc.heap.size wc (wc.alloc (.cells #[.int .i64 g0, .slice A5 ds.length c5] 34)) := (Below.refl _ wc).alloc (Nat.le_refl _) _
      have XD := Lib.hid (Blk.new wc 34 #[.int .i64 g0, .slice A5 ds.length c5])
      have BD := Lib.hid (BC.out.trans (bd.mono BC.out.size))
      have rg := Lib.hid (rg.new bd)
      have x0 := ((X2.out.older (older_below BD.out)).cell 0).trans (show _ = some (.int .i64 g0) from rfl)
      have x1 := ((X2.out.older (older_below BD.out)).cell 1).trans (show _ = some (.slice A0 ds.length c0) from rfl)
      have z0 := (XD.out.cell 0).trans (show _ = some (.int .i64 g0) from rfl)
      have z1 := (XD.out.cell 1).trans (show _ = some (.slice A5 ds.length c5) from rfl)
      have R0' := Lib.hid (R0.out.new BD.out)
      clear bc bd XD BC
      go_upto_region 8 with fail
      generalize wc.alloc (.cells #[.int .i64 g0, .slice A5 ds.length c5] 34) = wd at *
      have SR := Lib.hid (sameRoot_same g0 A5 A0 c5 c0 ds wd rg.out R0'.out)
      go_wp2_with fail
      refine SR.out.mono ?_; rintro e wf ⟨rfl, bf⟩
      have BF := Lib.hid (BD.out.trans (bf.mono BD.out.size))
      clear bf SR x0 x1 z0 z1
      go_wp2
      go_meet
      exact BF
    · go_wp2
      go_meet
      exact BB
  case rest => as_aux_lemma =>
    have BB := hcut
    have PD := Lib.hid (dir_any A1 c1 es wc (R1.out.new BB.out) (by have := L1.out; omega))
    clear HS
    go_wp2_with fail
    refine PD.out.mono ?_; rintro e wd ⟨A5, c5, rfl, r5, bd⟩
    have PK := Lib.hid (packDir_any A5 c5 es wd r5)
    have BD := Lib.hid (BB.out.trans (bd.mono BB.out.size))
    clear PD r5 bd
    go_wp2_with fail
    refine PK.out.mono ?_; rintro e we ⟨bb, p1, p2⟩
    clear PK
    have BE := Lib.hid (BD.out.trans (bb.mono BD.out.size))
    obtain ⟨s5, er, rfl, hs⟩ : ∃ s er, e = .returned (.tuple #[s, .int .i64 er]) ∧ (er = 0 → dirMay es = true ∧ ∃ g c', s = .slice (some ⟨g, 0, none⟩) 256 c' ∧ OwnB we wd.heap.size g 256 c' (sealL (dirT es))) := by
      cases hm : dirMay es with
      | false => exact ⟨_, _, p1 hm, fun h => (by cases h)⟩
      | true =>
        obtain ⟨g, c', e1, o1⟩ := p2 hm
        exact ⟨_, _, e1, fun _ => ⟨rfl, g, c', rfl, o1⟩⟩
    have HS := Lib.hid hs
    clear p1 p2 hs bb BB BD
    go_upto_if 75 with fail
    go_cut [] (fun wx => Hid (Below W2.heap.size W2 wx))
    case first =>
      by_cases h0 : er = 0
      · subst h0
        obtain ⟨hm, g, c', rfl, o1⟩ := HS.out rfl
        have BKR := Lib.hid (back_dir hm)
        have RS := Lib.hid (dirR_seal hm)
        have PA := Lib.hid (parsedDir_any (some ⟨g, 0, none⟩) 256 c' _ we o1.src (by decide))
        clear HS hm o1
        go_wp2_with fail
        refine PA.out.mono ?_; rintro e wf ⟨bc, ⟨n, _⟩ | ⟨_, A6, c6, rfl, rg, _⟩⟩
        · exact absurd BKR.out n
        rw [RS.out] at rg ⊢
        clear BKR PA
        have BF := Lib.hid (BE.out.trans (bc.mono BE.out.size))
        have UD := Lib.hid (undir_any A6 c6 es wf rg (by have := L1.out; omega))
        clear bc rg
        go_wp2_with fail
        refine UD.out.mono ?_; rintro e wg ⟨A8, c8, rfl, r8, b8⟩
        have BG := Lib.hid (BF.out.trans (b8.mono BF.out.size))
        have SD := Lib.hid (sameDir_same A8 A1 c8 c1 es wg r8 (R1.out.new BG.out))
        clear UD r8 b8
        go_wp2_with fail
        refine SD.out.mono ?_; rintro e wh ⟨rfl, mm, rfl⟩
        have BH := Lib.hid (below_drewN BG.out mm)
        clear SD
        go_wp2
        go_meet
        exact BH
      · go_wp2
        go_meet
        exact BE
    case rest => as_aux_lemma =>
      have BB := hcut
      have y0 := ((Y2.out.older (older_below BB.out)).cell 0).trans (show _ = some (.int .i64 v) from rfl)
      have y1 := ((Y2.out.older (older_below BB.out)).cell 1).trans (show _ = some (.int .i64 m) from rfl)
      have y2 := ((Y2.out.older (older_below BB.out)).cell 2).trans (show _ = some (.int .i64 q) from rfl)
      have y3 := ((Y2.out.older (older_below BB.out)).cell 3).trans (show _ = some (.slice A2 bs.length c2) from rfl)
      have y4 := ((Y2.out.older (older_below BB.out)).cell 4).trans (show _ = some (.slice B2 ps.length e2) from rfl)
      have OF := Lib.hid (In.of_any v m q A2 c2 bs B2 e2 ps wc (R2.out.new BB.out) (R3.out.new BB.out) (by have := L3.out; omega))
      clear HS BE
      go_wp2_with fail
      refine OF.out.mono ?_; rintro e wd ⟨A5, c5, rfl, r5, bd⟩
      have BD := Lib.hid (BB.out.trans (bd.mono BB.out.size))
      have ZD := Lib.hid (show w.heap.size ≤ wd.heap.size from Nat.le_trans B2'.out.size BD.out.size)
      have PK := Lib.hid (packFile_any v m q A2 c2 bs A5 c5 (fls ps) wd (R2.out.new BD.out) r5)
      clear OF r5 bd y0 y1 y2 y3 y4
      go_wp2_with fail
      refine PK.out.mono ?_; rintro e we ⟨bb, p1, p2⟩
      clear PK
      have BE := Lib.hid (BD.out.trans (bb.mono BD.out.size))
      obtain ⟨s6, er, rfl, hs⟩ : ∃ s er, e = .returned (.tuple #[s, .int .i64 er]) ∧ (er = 0 → Fil.may ⟨v, m, q, bs, fls ps⟩ = true ∧ ∃ g c', s = .slice (some ⟨g, 0, none⟩) 256 c' ∧ OwnB we wd.heap.size g 256 c' (sealL (filT ⟨v, m, q, bs, fls ps⟩))) := by
        cases hm : Fil.may ⟨v, m, q, bs, fls ps⟩ with
        | false => exact ⟨_, _, p1 hm, fun h => (by cases h)⟩
        | true =>
          obtain ⟨g, c', e1, o1⟩ := p2 hm
          exact ⟨_, _, e1, fun _ => ⟨rfl, g, c', rfl, o1⟩⟩
      have HS := Lib.hid hs
      clear p1 p2 hs bb BB BD
      by_cases h0 : er = 0
      · subst h0
        obtain ⟨hm, g, c', rfl, o1⟩ := HS.out rfl
        obtain ⟨-, -, hq, hb1, -, -, h7⟩ := fil_may hm
        obtain ⟨Q, rfl⟩ : ∃ Q : Nat, q = (Q : Int) := ⟨q.toNat, by omega⟩
        have hQ : Q ≤ 8192 := by omega
        have hn : bs.length = (Q + 255) / 256 := by have := cntB_eq hq.1; omega
        have WD := Lib.hid (show ∀ p ∈ ps, Word p.1 ∧ Word p.2 from fun p hp => by
          have := List.all_eq_true.1 h7 (fl p.1, fl p.2) (List.mem_map.2 ⟨p, hp, rfl⟩)
          unfold isP at this
          rw [Bool.and_eq_true] at this
          exact ⟨word_of (HIN.out p hp).1 this.1, word_of (HIN.out p hp).2 this.2⟩)
        have TL := Lib.hid (filT_length hm)
        have BKR := Lib.hid (back_file HIN.out hm)
        have RS := Lib.hid (filR_seal HIN.out hm)
        have PA := Lib.hid (parsedFile_any (some ⟨g, 0, none⟩) 256 c' _ we o1.src (by decide))
        have O1 := Lib.hid o1
        have HQ := Lib.hid hQ
        have HN := Lib.hid hn
        clear HS hm o1 hq hb1 h7 hQ hn
        go_wp2_with fail
        refine PA.out.mono ?_; rintro e wf ⟨bc, ⟨n, _⟩ | ⟨_, A7, c7, B7, e7, rfl, ra, rb, _⟩⟩
        · exact absurd BKR.out n
        rw [RS.out] at ra rb ⊢
        have HD : sealL (filT ⟨v, m, (Q : Int), bs, fls ps⟩) = sealL (filT ⟨v, m, (Q : Int), bs, fls ps⟩) := rfl
        clear BKR PA RS
        have ra : RowG wf 1 A7 bs.length c7 (vi bs) := ra
        have rb : RowG wf 1 B7 (fls ps).length e7 (vp (fls ps)) := rb
        have BF := Lib.hid (BE.out.trans (bc.mono BE.out.size))
        have O2 := Lib.hid (O1.out.below bc)
        have bd : Below wf.heap.size wf (wf.alloc (.cells #[.int .i64 v, .int .i64 m, .int .i64 (Q : Int), .slice A7 bs.length c7, .slice B7 (fls ps).length e7] 48)) := (Below.refl _ wf).alloc (Nat.le_refl _) _
        have XD := Lib.hid (Blk.new wf 48 #[.int .i64 v, .int .i64 m, .int .i64 (Q : Int), .slice A7 bs.length c7, .slice B7 (fls ps).length e7])
        have BD := Lib.hid (BF.out.trans (bd.mono BF.out.size))
        have RA := Lib.hid (ra.new bd)
        have RB := Lib.hid (rb.new bd)
        have O3 := Lib.hid (O2.out.below bd)
        clear bc bd BF O1 O2 ra rb HD
        have YD := Lib.hid (Y2.out.older (older_below BD.out))
        go_upto_region 19 with fail
        generalize wf.alloc (.cells #[.int .i64 v, .int .i64 m, .int .i64 (Q : Int), .slice A7 bs.length c7, .slice B7 (fls ps).length e7] 48) = wh at *
        generalize wf.heap.size = xb at *
        have TO := Lib.hid (to_any v m (Q : Int) A7 c7 bs B7 e7 ps wh.drew (RB.out.drewN 1) (by have := L3.out; omega) WD.out)
        refine wp_region_held_drew (S := fun w' => Hid (Below wh.heap.size wh w')) (by kernel_rfl) (Lib.hid ((Below.refl wh.heap.size wh).drew)) (fun hS => ?_)
        refine held_take (i := 0) (d := (some 103)) (v := ?_) rfl rfl (by kernel_rfl) (by kernel_rfl) (by kernel_rfl) (fun _ _ _ h => h) (by rfl) ?_ hS ?_
        rotate_left
        · intro w' hSw; (try dsimp only at hSw); go_simp <;> with_reducible rfl
        simp only [Act.put, List.setIfInBounds_toArray, List.set_cons_zero, List.set_cons_succ]
        refine held_take (i := 1) (d := (some 104)) (v := ?_) rfl rfl (by kernel_rfl) (by kernel_rfl) (by kernel_rfl) (fun _ _ _ h => h) (by rfl) ?_ hS ?_
        rotate_left
        · intro w' hSw; (try dsimp only at hSw); go_simp <;> with_reducible rfl
        simp only [Act.put, List.setIfInBounds_toArray, List.set_cons_zero, List.set_cons_succ]
        refine held_take (i := 2) (d := (some 105)) (v := ?_) rfl rfl (by kernel_rfl) (by kernel_rfl) (by kernel_rfl) (fun _ _ _ h => h) (by rfl) ?_ hS ?_
        rotate_left
        · intro w' hSw; (try dsimp only at hSw); go_simp <;> with_reducible rfl
        simp only [Act.put, List.setIfInBounds_toArray, List.set_cons_zero, List.set_cons_succ]
        refine held_take (i := 3) (d := (some 106)) (v := ?_) rfl rfl (by kernel_rfl) (by kernel_rfl) (by kernel_rfl) (fun _ _ _ h => h) (by rfl) ?_ hS ?_
        rotate_left
        · intro w' hSw; have kb := hSw.out; clear hSw; have z0 := ((XD.out.older (older_below kb)).cell 0).trans (show _ = some (.int .i64 v) from rfl); have z1 := ((XD.out.older (older_below kb)).cell 1).trans (show _ = some (.int .i64 m) from rfl); have z2 := ((XD.out.older (older_below kb)).cell 2).trans (show _ = some (.int .i64 (Q : Int)) from rfl); have z3 := ((XD.out.older (older_below kb)).cell 3).trans (show _ = some (.slice A7 bs.length c7) from rfl); have z4 := ((XD.out.older (older_below kb)).cell 4).trans (show _ = some (.slice B7 (fls ps).length e7) from rfl); clear kb; go_simp <;> with_reducible rfl
        simp only [Act.put, List.setIfInBounds_toArray, List.set_cons_zero, List.set_cons_succ]
        refine held_take (i := 5) (d := (some 108)) (v := ?_) rfl rfl (by kernel_rfl) (by kernel_rfl) (by kernel_rfl) (fun _ _ _ h => h) (by rfl) ?_ hS ?_
        rotate_left
        · intro w' hSw; have kb := hSw.out; clear hSw; have z0 := ((YD.out.older (older_below kb)).cell 0).trans (show _ = some (.int .i64 v) from rfl); have z1 := ((YD.out.older (older_below kb)).cell 1).trans (show _ = some (.int .i64 m) from rfl); have z2 := ((YD.out.older (older_below kb)).cell 2).trans (show _ = some (.int .i64 (Q : Int)) from rfl); have z3 := ((YD.out.older (older_below kb)).cell 3).trans (show _ = some (.slice A2 bs.length c2) from rfl); have z4 := ((YD.out.older (older_below kb)).cell 4).trans (show _ = some (.slice B2 ps.length e2) from rfl); clear kb; go_simp <;> with_reducible rfl
        simp only [Act.put, List.setIfInBounds_toArray, List.set_cons_zero, List.set_cons_succ]
        refine held_one (i := 4) (by kernel_rfl) rfl (by rfl) ?_
        go_simp
        refine TO.out.mono ?_; rintro e w5 ⟨A9, c9, rfl, r9, b9⟩
        have B9 := Lib.hid ((Below.refl wh.heap.size wh).drew.trans b9)
        have SF := Lib.hid (sameFile_same v m (Q : Int) A7 A9 A2 B2 c7 c9 c2 e2 bs ps w5 (RA.out.new B9.out) ((R2.out.new BD.out).new B9.out) r9 ((R3.out.new BD.out).new B9.out) (by have := L3.out; omega))
        have hS : Hid (Below wh.heap.size wh w5) := B9
        refine ⟨hS, ?_⟩
        clear r9 b9
        (try simp only [Act.put, List.setIfInBounds_toArray, List.set_cons_zero, List.set_cons_succ])
        refine held_one (i := 6) (by kernel_rfl) rfl (by rfl) ?_
        go_simp
        refine SF.out.mono ?_; rintro e w6 ⟨rfl, b6⟩
        have hS : Hid (Below wh.heap.size wh w6) := Lib.hid (B9.out.trans (b6.mono B9.out.size))
        refine ⟨hS, ?_⟩
        clear b6
        (try simp only [Act.put, List.setIfInBounds_toArray, List.set_cons_zero, List.set_cons_succ])
        refine held_take (i := 7) (d := (some 110)) (v := ?_) rfl rfl (by kernel_rfl) (by kernel_rfl) (by kernel_rfl) (fun _ _ _ h => h) (by rfl) ?_ hS ?_
        rotate_left
        · intro w' hSw; (try dsimp only at hSw); go_simp <;> with_reducible rfl
        simp only [Act.put, List.setIfInBounds_toArray, List.set_cons_zero, List.set_cons_succ]
        refine held_take (i := 8) (d := (some 111)) (v := ?_) rfl rfl (by kernel_rfl) (by kernel_rfl) (by kernel_rfl) (fun _ _ _ h => h) (by rfl) ?_ hS ?_
        rotate_left
        · intro w' hSw; (try dsimp only at hSw); go_simp <;> with_reducible rfl
        simp only [Act.put, List.setIfInBounds_toArray, List.set_cons_zero, List.set_cons_succ]
        refine wpAnyH_done (by kernel_rfl) ?_ _
        have B6 := Lib.hid hS.out
        have O6 := Lib.hid (O3.out.below B6.out)
        clear hS TO B9 SF
        go_wp2
        go_loopw [22, 21] (fun i al wr => ∃ (j a : Nat), j ≤ bs.length ∧ i = .int .i64 (j : Int) ∧ al = .int .i64 (a : Int) ∧ Hid (a = min (256 * j) Q) ∧ Hid (Below wh.heap.size wh wr)) (fun i _ _ => bs.length - (intOf i).toNat)
        case atStart => exact ⟨0, 0, Nat.zero_le _, rfl, rfl, Lib.hid (by simp), B6⟩
        case round =>
          obtain ⟨j, a, hj, rfl, rfl, HA, BR⟩ := hrel
          have YR := Lib.hid (YD.out.older (older_below BR.out))
          have y2 := (YR.out.cell 2).trans (show _ = some (.int .i64 (Q : Int)) from rfl)
          have y3 := (YR.out.cell 3).trans (show _ = some (.slice A2 bs.length c2) from rfl)
          by_cases hlt : j < bs.length
          · have hlt' : (j : Int) < (bs.length : Int) := by omega
            have j0 : (0 : Int) ≤ (j : Int) := by omega
            have xj := IntWalk.i64_in ((j : Int) + 1) (by have := L2.out; omega)
            obtain ⟨b, hb⟩ : ∃ b, spanR Q j = b := ⟨_, rfl⟩
            have SP := Lib.hid (fun W => span_any v m Q A7 B7 bs.length c7 (fls ps).length e7 j W HQ.out HN.out hlt)
            rw [hb] at SP
            have ab : a + b = min (256 * (j + 1)) Q := by have h1 := HA.out; unfold spanR at hb; omega
            have hab : a + b ≤ 8192 := by have := HQ.out; omega
            have xa := IntWalk.i64_in ((a : Int) + (b : Int)) (by omega)
            have AB := Lib.hid ab
            have z0 := ((XD.out.older (older_below BR.out)).cell 0).trans (show _ = some (.int .i64 v) from rfl)
            have z1 := ((XD.out.older (older_below BR.out)).cell 1).trans (show _ = some (.int .i64 m) from rfl)
            have z2 := ((XD.out.older (older_below BR.out)).cell 2).trans (show _ = some (.int .i64 (Q : Int)) from rfl)
            have z3 := ((XD.out.older (older_below BR.out)).cell 3).trans (show _ = some (.slice A7 bs.length c7) from rfl)
            have z4 := ((XD.out.older (older_below BR.out)).cell 4).trans (show _ = some (.slice B7 (fls ps).length e7) from rfl)
            clear hb ab hab
            go_wp2_with fail
            refine (SP.out _).mono ?_; rintro e ws ⟨rfl, bs'⟩
            have BS := Lib.hid (BR.out.trans (bs'.mono BR.out.size))
            clear bs' SP z0 z1 z2 z3 z4 y2 y3
            go_wp2
            go_roundw
            case rel => exact ⟨j + 1, a + b, by omega, by go_num, by go_num, AB, BS⟩
            case measure => simp [intOf]; omega
          · have hlt' : ¬ (j : Int) < (bs.length : Int) := by omega
            obtain rfl : j = bs.length := by omega
            obtain rfl : a = Q := by have h1 := HA.out; have h2 := HN.out; omega
            clear HA
            by_cases k0 : n4 = 0
            · subst k0
              go_wp2
              go_ret
              exact ⟨rfl, B2'.out.trans ((BD.out.trans (BR.out.mono BD.out.size)).mono B2'.out.size)⟩
            · have k1 : ¬ (n4 : Int) = 0 := by omega
              have O7 := Lib.hid (O3.out.below BR.out)
              have h3' : n3 < 256 := by omega
              obtain ⟨hl, cn⟩ := O7.out.cell (j := n3) h3'
              have i0 : (0 : Int) ≤ (n3 : Int) := by omega
              have i1 : (n3 : Int) < 256 := by omega
              obtain ⟨L, hL⟩ : ∃ L, sealL (filT ⟨v, m, (a : Int), bs, fls ps⟩) = L := ⟨_, rfl⟩
              obtain ⟨y, hy, hne⟩ : ∃ y : UInt8, bits .xor .u8 ((((sealL (filT ⟨v, m, (a : Int), bs, fls ps⟩))[n3]'hl).toNat : Nat) : Int) (n4 : Int) = (y.toNat : Int) ∧ y ≠ (sealL (filT ⟨v, m, (a : Int), bs, fls ps⟩))[n3]'hl := by
                generalize (sealL (filT ⟨v, m, (a : Int), bs, fls ps⟩))[n3]'hl = x
                have hx := x.toNat_lt
                refine ⟨x ^^^ UInt8.ofNat n4, ?_, fun h => ?_⟩
                · rw [u8_xor_nat _ _ hx (by omega), UInt8.toNat_xor, UInt8.toNat_ofNat', Nat.mod_eq_of_lt (by omega)]
                · have h' := congrArg (fun z => x ^^^ z) h
                  simp only [← UInt8.xor_assoc, UInt8.xor_self, UInt8.zero_xor] at h'
                  have h2 := congrArg UInt8.toNat h'
                  rw [UInt8.toNat_ofNat', Nat.mod_eq_of_lt (by omega)] at h2
                  exact k0 h2
              have TE := Lib.hid (fun (M : Bool) t' => turned_err TL.out hl hne M t')
              have fz := O7.out.frozen n3
              have O8 := Lib.hid (O7.out.set (j := n3) y)
              have K8 := Lib.hid (Chg.set wr n3 (.int .u8 (y.toNat : Int)) (g := g) (S := fun b => b = g) rfl)
              clear hne
              generalize (sealL (filT ⟨v, m, (a : Int), bs, fls ps⟩))[n3]'hl = x at *
              go_wp2_with fail
              have BW := Lib.hid (B2'.out.trans ((BD.out.trans (BR.out.mono BD.out.size)).mono B2'.out.size))
              have BZ := Lib.hid (BW.out.trans (K8.out.below BW.out.size (fun k e => by have := O7.out.base; have := ZD.out; omega)))
              clear fz cn
              generalize wr.setCell ⟨g, n3, none⟩ (.int .u8 (y.toNat : Int)) = wz at *
              refine (parsedFile_any (some ⟨g, 0, none⟩) 256 c' _ wz O8.out.src (by decide)).mono ?_
              rintro e wy ⟨bc, ⟨n, rfl⟩ | ⟨n, _⟩⟩
              · rw [TE.out]
                have BY := Lib.hid ((BZ.out.trans (bc.mono BZ.out.size)).alloc (BZ.out.trans (bc.mono BZ.out.size)).size (.cells #[.int .i64 0, .int .i64 0, .int .i64 0, .slice none 0 0, .slice none 0 0] 48))
                clear n bc
                go_wp2
                go_ret
                exact ⟨rfl, BY.out⟩
              · rw [TE.out] at n
                cases n
      · go_wp2
        go_ret
        exact ⟨rfl, B2'.out.trans (BE.out.mono B2'.out.size)⟩

set_option maxRecDepth 100000 in
theorem reads (os : Os) {H : Type} (enc : TypeId × Value → H) : DataW.whole enc Tryd.prog ((World.laidAll Tryd.prog os Rows.inodeBackRow.laid).forCall (fun _ _ => 0) ⟨#[], #[.agg #[.int .i64 0, .slice none 0 0], .slice none 0 0, .agg #[.int .i64 0, .int .i64 0, .int .i64 0, .slice none 0 0, .slice none 0 0], .int .u8 0, .int .u8 0], []⟩).memory Tryd.f3.params.toList Rows.inodeBackSpec.vars false (#[.agg #[.int .i64 0, .slice none 0 0], .slice none 0 0, .agg #[.int .i64 0, .int .i64 0, .int .i64 0, .slice none 0 0, .slice none 0 0], .int .u8 0, .int .u8 0] : Array Value).toList 8 = some ([.agg [.lit (.int .i64 0), .nil], .nil, .agg [.lit (.int .i64 0), .lit (.int .i64 0), .lit (.int .i64 0), .nil, .nil], .lit (.int .u8 0), .lit (.int .u8 0)], [], []) := by kernel_rfl
set_option maxRecDepth 100000 in
theorem lifted (os : Os) (started : os.Started) (H : Type) (enc : TypeId × Value → H) (F : Stop.Interp) :
    ReturnsInHanded {} Tryd.checked os 3 .any ((OpenSpec.ofChange Rows.inodeBackSpec).preRow enc Tryd.prog Tryd.f3 Rows.inodeBackRow.domain false Rows.inodeBackRow.laid) (((OpenSpec.ofChange Rows.inodeBackSpec).at F).post enc Tryd.prog Tryd.f3 false true false false) := by
  refine returnsInHanded_of_row (C := Tryd.checked) (s := OpenSpec.ofChange Rows.inodeBackSpec) own started (by kernel_rfl) Tryd.func3
    ⟨World.laidAll Tryd.prog os Rows.inodeBackRow.laid, fun _ _ => 0, ⟨#[], #[.agg #[.int .i64 0, .slice none 0 0], .slice none 0 0, .agg #[.int .i64 0, .int .i64 0, .int .i64 0, .slice none 0 0, .slice none 0 0], .int .u8 0, .int .u8 0], []⟩, World.laidAll_os _ _ _, World.shaped_of_ZipB (by kernel_rfl) (by kernel_rfl), rfl, (Input.okWide_of_okWideB (by kernel_rfl)).2,
      OpenSpec.preRow_of_cond 8 (reads os enc) (by kernel_rfl) (fun k hk => by cases hk) (by kernel_rfl) (by rw [MakeChecks.laidMetH_plain _ _ _ (by kernel_rfl)]; exact laidMet_laidAll _ (by kernel_rfl) (by kernel_rfl)), by simp [Assume.holds]⟩ ?_
  intro W base args ds gs before hval0 hW _ _ hsz hL hsh _
  have hval : ∀ (j : Nat) t v, Tryd.f3.params[j]? = some t → args[j]? = some v → Value.okWide Tryd.prog W .any base t v := hval0
  have hvars : Vars W := Vars.of hL
  have hW' := hW
  obtain ⟨p, q, hA0, hV, rfl, hfz, hnd⟩ := hW
  have hA : DataW.TrodAll enc Tryd.prog W 0 (fun _ => true) true Tryd.f3.params.toList args.toList ds p := hA0
  rw [Tryd.params3] at hA hval
  obtain ⟨v0, vs0, d0, ds0, p0, q0, hargs, rfl, rfl, h0, r0⟩ := trodAll_cons hA
  obtain ⟨v1, vs1, d1, ds1, p1, q1, rfl, rfl, rfl, h1, r1⟩ := trodAll_cons r0
  obtain ⟨v2, vs2, d2, ds2, p2, q2, rfl, rfl, rfl, h2, r2⟩ := trodAll_cons r1
  obtain ⟨v3, vs3, d3, ds3, p3, q3, rfl, rfl, rfl, h3, r3⟩ := trodAll_cons r2
  obtain ⟨v4, vs4, d4, ds4, p4, q4, rfl, rfl, rfl, h4, r4⟩ := trodAll_cons r3
  obtain ⟨rfl, rfl, rfl⟩ := trodAll_nil r4
  obtain rfl : args = #[v0, v1, v2, v3, v4] := by cases args; simp_all
  obtain ⟨g0, A0, c0, l0, rfl, b0, k0⟩ := open_root (hval 0 24 v0 rfl rfl) h0
  obtain ⟨A1, c1, l1, rfl, b1⟩ := open_ents (hval 1 25 v1 rfl rfl) h1
  obtain ⟨v2x, m2, q2x, A2, c2, l2, B2, e2, s2, rfl, b2, k2, x2, y2⟩ := open_file (hval 2 28 v2 rfl rfl) h2
  obtain ⟨a3, rfl, _, _, w3⟩ := open_int Tryd.underlying5 (hval 3 5 v3 rfl rfl) h3
  obtain ⟨a4, rfl, _, _, w4⟩ := open_int Tryd.underlying5 (hval 4 5 v4 rfl rfl) h4
  clear hA0 hval0
  exact law_close hW' laidOut (by kernel_rfl) rfl Tryd.underlying4 rfl ⟨rfl, rfl, rfl⟩ (walk W hvars g0 A0 c0 l0 b0 A1 c1 l1 b1 v2x m2 q2x A2 c2 l2 B2 e2 s2 b2 k2 y2 a3 w3 a4 w4)

theorem over : Rows.inodeBackRow.holds Tryd.pinned (OpenSpec.ofChange Rows.inodeBackSpec) :=
  OpenClaim.holds_of_cond 3 Tryd.f3 rfl rfl rfl rfl rfl rfl rfl ⟨rfl, rfl, rfl, rfl, rfl⟩ rfl rfl rfl rfl rfl (by kernel_rfl) Tryd.func3 (by kernel_rfl)
    (of_decide_eq_true (by kernel_rfl)) (by unfold Func.isWrapper; first | (rw [if_pos (by decide +kernel)]; kernel_rfl) | (rw [if_neg (by decide +kernel)]; exact ⟨rfl, rfl⟩))
    (fun os started H enc _ F => by rw [OpenClaim.pre_eq_preRow]; exact lifted os started H enc F)

theorem plain (f : FuncId) (fn : Func) (hf : Tryd.pinned.checked.prog.funcNamed "pantler/pantlerlaw11.InodeBack" = some f) (hfn : Tryd.pinned.checked.prog.funcs[f]? = some fn) :
    Rows.inodeBackCard.stood.looks = Tryd.pinned.checked.prog.looks [] ∧ ∀ (j : Nat) t, fn.params[j]? = some t → Tryd.pinned.checked.prog.wantsStandIn t = false := by
  obtain rfl : f = 3 := Option.some.inj ((show Tryd.prog.funcNamed "pantler/pantlerlaw11.InodeBack" = some 3 by kernel_rfl).symm.trans hf) |>.symm
  obtain rfl : fn = Tryd.f3 := (Option.some.inj (Tryd.func3.symm.trans hfn)).symm
  refine ⟨by kernel_rfl, fun j t ht => ?_⟩
  rw [Tryd.params3] at ht
  have hm : t ∈ [24, 25, 28, 5] := by simpa using Array.mem_of_getElem? ht
  have hall : ([24, 25, 28, 5].all fun u => !Tryd.prog.wantsStandIn u) = true := by kernel_rfl
  exact (show Tryd.prog.wantsStandIn t = false by simpa using List.all_eq_true.1 hall t hm)

theorem proved : Rows.InodeBackCardSaid :=
  Claim7.holds_tied_plain_at .later [] _ _ _ _ over (fun _ h => by cases h) (by kernel_rfl) (fun _ h => by cases h) inodeBack_row_tie rfl ⟨rfl, rfl⟩ (by kernel_rfl) rfl plain (by kernel_rfl)

end Go.Proofs.YtjjoohmfeglicaaDoor.inodeBack
