/- SendqPlays says true for every input: what any calls to a line tell. Conditions: none beyond the given statement's. -/
import Derived.Test.YtgmejifacpefdaaSnG
namespace Go.Proofs.Ytgmejifacpefdaa.sendqPlays
open Go.ChangeShapes Go.WideShapes Go.ChangeAt Go.RowKit Sn Rv Rk Gx Go.Deep
set_option linter.unusedVariables false


set_option maxRecDepth 100000 in
set_option maxHeartbeats 4000000 in
theorem walk (w : World) (A1 : Option Addr) (c1 : Nat) (l : List Sn.Act) (b1 : Rk.RowG w 4 A1 l.length c1 (l.flatMap Act.cells)) (k1 : ∀ q ∈ l, Act.In w q) :
    Calls Try.prog 3 #[.slice A1 l.length c1] w fun e w' => e = .returned (.bool true) ∧ Below w.heap.size w w' := by
  have LR := Lib.hid b1
  have LI := Lib.hid k1
  obtain ⟨LL, hLL⟩ : ∃ LL, LL = l := ⟨_, rfl⟩
  subst hLL
  clear b1 k1
  obtain ⟨fv, hfv⟩ : ∃ fv, farB LL = fv := ⟨_, rfl⟩
  have FV := Lib.hid hfv
  clear hfv
  go_enter Try.func3, Try.ntmps3
  go_wp2_with fail
  refine (alive_any w).mono ?_; rintro e w1 ⟨rfl, b1⟩
  have B1 := Lib.hid b1
  have R1 := Lib.hid (LR.out.new b1)
  clear b1
  go_wp2_with fail
  refine (far_any A1 c1 LL w1 R1.out).mono ?_; rintro e w1' ⟨rfl, hw⟩
  rw [hw, FV.out]
  clear hw w1' R1
  cases fv with
  | true =>
    go_wp2
    go_ret
    exact ⟨rfl, B1.out⟩
  | false =>
  have FO := Lib.hid (far_ok FV.out)
  clear FV
  go_wp2_with fail
  refine (new_lb B1.out).mono ?_; rintro e w2 ⟨rfl, h2, b2⟩
  obtain ⟨g, hg⟩ : ∃ g, w1.heap.size = g := ⟨_, rfl⟩
  rw [hg] at h2
  rw [hg]
  have X2 := Lib.hid h2
  clear h2 b2 B1 hg
  have NB := (Below.refl w2.heap.size w2).alloc (Nat.le_refl _) (.cells #[.int .i64 0, .slice none 0 0] 30)
  have T0 := Lib.hid (show Two w (w2.alloc (.cells #[.int .i64 0, .slice none 0 0] 30)) (fun k => k = g) g (fun k => k = w2.heap.size) w2.heap.size [] 0 (bb []) 0 from
    ⟨X2.out.new NB, ⟨⟨none, 0, Blk.new w2 _ _, RowV.nil _ _ _, fun k ⟨a, e, _⟩ => by cases e⟩, rfl, fun k hk => by rw [hk]; simp, by omega⟩, fun i hi hj => by have h1 := X2.out.line.lt g rfl; have h2 : i = g := hi; have h3 : i = w2.heap.size := hj; omega, fun i hi => by have h3 : i = w2.heap.size := hi; have := X2.out.below.size; omega⟩)
  obtain ⟨gd, hgd⟩ : ∃ gd, w2.heap.size = gd := ⟨_, rfl⟩
  rw [hgd] at T0
  clear NB X2
  go_upto_region 7 with fail
  generalize w2.alloc (.cells #[.int .i64 0, .slice none 0 0] 30) = W0 at *
  clear hgd
  go_wp2
  go_loopw [5] (fun i wr => ∃ (j : Nat) (l : List Pc) (st : Nat) (F G : Nat → Prop), j ≤ LL.length ∧ st ≤ 50000 * j ∧ i = .int .i64 (j : Int) ∧ Hid (Two w wr F g G gd l st (bb l) st)) (fun i _ => LL.length - (intOf i).toNat)
  case atStart => exact ⟨0, [], 0, _, _, Nat.zero_le _, Nat.zero_le _, rfl, T0⟩
  case round =>
    obtain ⟨j, l, st, F, G, hj, hst, rfl, TW⟩ := hrel
    clear T0
    have FOO := FO.out
    by_cases hlt : j < LL.length
    · have hlt' : (j : Int) < (LL.length : Int) := by omega
      have j0 : (0 : Int) ≤ (j : Int) := by omega
      have xj := IntWalk.i64_in ((j : Int) + 1) (by omega)
      have hj60 : j ≤ 60 := by omega
      have ql5 := FOO.2 j hlt
      obtain ⟨b, o, rfl, hbw, yw0, yw1, yw2, yw3⟩ := act_at LR.out hlt
      have IN := LI.out _ (List.getElem_mem hlt)
      have QL := Lib.hid IN.l
      have QOK := Lib.hid IN.ok
      obtain ⟨ha1, ha2⟩ := IN.a
      obtain ⟨hb1, hb2⟩ := IN.b
      have QN := Lib.hid (show ∀ x, LL[j].A = some x → 0 < LL[j].l.length → ¬ w.heap.size ≤ x.block from fun x hx h0 hh => by
        obtain ⟨b', o', e, hb', _⟩ := IN.l 0 h0
        rw [e] at hx
        cases hx
        exact absurd hb' (Nat.not_lt.2 hh))
      generalize LL[j] = q at *
      obtain ⟨qk, qa, qb, qA, qc, ql⟩ := q
      dsimp only at *
      have hr0 := TW.out.x.below
      have y0 := (World.cell?_of_block (w := w) (w' := wr) (hr0.block b hbw)).trans yw0
      have y1 := (World.cell?_of_block (w := w) (w' := wr) (hr0.block b hbw)).trans yw1
      have y2 := (World.cell?_of_block (w := w) (w' := wr) (hr0.block b hbw)).trans yw2
      have y3 := yw3
      replace ql5 : ql.length ≤ 100000 := by omega
      clear IN FOO
      go_upto_block 2 with fail
      go_cut [] (fun wx => ∃ (l : List Pc) (st : Nat) (F G : Nat → Prop), st ≤ 50000 * (j + 1) ∧ Hid (Two w wx F g G gd l st (bb l) st))
      case first =>
        by_cases hk0 : qk = 0
        · subst hk0
          have OF := Lib.hid (fun W (k : Below w.heap.size w W) => of_row qA qc ql W (QL.out.new k) (by omega))
          obtain ⟨v, hv⟩ : ∃ v, addE l ql = v := ⟨_, rfl⟩
          have EV := Lib.hid hv
          have okl := TW.out.x.line.ok
          have n160 := TW.out.x.line.n160
          clear hv
          go_upto_region 16 with fail
          refine wp_region_held_drew (S := fun w' => Hid (Below w.heap.size w w')) (by kernel_rfl) ((Lib.hid (below_drewN TW.out.x.below 1) : Hid (Below w.heap.size w wr.drew))) (fun hH => ?_)
          refine held_take (i := 0) (d := (some 74)) (v := ?_) rfl rfl (by kernel_rfl) (by kernel_rfl) (by kernel_rfl) (fun _ _ _ h => h) (by rfl) ?_ hH ?_
          rotate_left
          · intro w' hSw; (try dsimp only at hSw); go_simp <;> with_reducible rfl
          simp only [Act.put, List.setIfInBounds_toArray, List.set_cons_zero, List.set_cons_succ]
          refine held_take (i := 1) (d := (some 75)) (v := ?_) rfl rfl (by kernel_rfl) (by kernel_rfl) (by kernel_rfl) (fun _ _ _ h => h) (by rfl) ?_ hH ?_
          rotate_left
          · intro w' hSw; (try dsimp only at hSw); go_simp <;> with_reducible rfl
          simp only [Act.put, List.setIfInBounds_toArray, List.set_cons_zero, List.set_cons_succ]
          refine held_take (i := 2) (d := (some 76)) (v := ?_) rfl rfl (by kernel_rfl) (by kernel_rfl) (by kernel_rfl) (fun _ _ _ h => h) (by rfl) ?_ hH ?_
          rotate_left
          · intro w' hSw; (try dsimp only at hSw); go_simp <;> with_reducible rfl
          simp only [Act.put, List.setIfInBounds_toArray, List.set_cons_zero, List.set_cons_succ]
          refine held_take (i := 3) (d := (some 77)) (v := ?_) rfl rfl (by kernel_rfl) (by kernel_rfl) (by kernel_rfl) (fun _ _ _ h => h) (by rfl) ?_ hH ?_
          rotate_left
          · intro w' hSw; (try dsimp only at hSw); go_simp <;> with_reducible rfl
          simp only [Act.put, List.setIfInBounds_toArray, List.set_cons_zero, List.set_cons_succ]
          refine held_take (i := 4) (d := (some 78)) (v := ?_) rfl rfl (by kernel_rfl) (by kernel_rfl) (by kernel_rfl) (fun _ _ _ h => h) (by rfl) ?_ hH ?_
          rotate_left
          · intro w' hSw; (try dsimp only at hSw); go_simp <;> with_reducible rfl
          simp only [Act.put, List.setIfInBounds_toArray, List.set_cons_zero, List.set_cons_succ]
          refine held_take (i := 5) (d := (some 79)) (v := ?_) rfl rfl (by kernel_rfl) (by kernel_rfl) (by kernel_rfl) (fun _ _ _ h => h) (by rfl) ?_ hH ?_
          rotate_left
          · intro w' hSw; have z := (World.cell?_of_block (w := w) (w' := w') (hSw.out.block _ hbw)).trans y3; clear hSw; go_simp <;> with_reducible rfl
          simp only [Act.put, List.setIfInBounds_toArray, List.set_cons_zero, List.set_cons_succ]
          refine held_take (i := 8) (d := (some 82)) (v := ?_) rfl rfl (by kernel_rfl) (by kernel_rfl) (by kernel_rfl) (fun _ _ _ h => h) (by rfl) ?_ hH ?_
          rotate_left
          · intro w' hSw; (try dsimp only at hSw); go_simp <;> with_reducible rfl
          simp only [Act.put, List.setIfInBounds_toArray, List.set_cons_zero, List.set_cons_succ]
          refine held_take (i := 9) (d := (some 83)) (v := ?_) rfl rfl (by kernel_rfl) (by kernel_rfl) (by kernel_rfl) (fun _ _ _ h => h) (by rfl) ?_ hH ?_
          rotate_left
          · intro w' hSw; (try dsimp only at hSw); go_simp <;> with_reducible rfl
          simp only [Act.put, List.setIfInBounds_toArray, List.set_cons_zero, List.set_cons_succ]
          refine held_take (i := 10) (d := (some 84)) (v := ?_) rfl rfl (by kernel_rfl) (by kernel_rfl) (by kernel_rfl) (fun _ _ _ h => h) (by rfl) ?_ hH ?_
          rotate_left
          · intro w' hSw; (try dsimp only at hSw); go_simp <;> with_reducible rfl
          simp only [Act.put, List.setIfInBounds_toArray, List.set_cons_zero, List.set_cons_succ]
          refine held_take (i := 11) (d := (some 85)) (v := ?_) rfl rfl (by kernel_rfl) (by kernel_rfl) (by kernel_rfl) (fun _ _ _ h => h) (by rfl) ?_ hH ?_
          rotate_left
          · intro w' hSw; (try dsimp only at hSw); go_simp <;> with_reducible rfl
          simp only [Act.put, List.setIfInBounds_toArray, List.set_cons_zero, List.set_cons_succ]
          refine held_take (i := 12) (d := (some 86)) (v := ?_) rfl rfl (by kernel_rfl) (by kernel_rfl) (by kernel_rfl) (fun _ _ _ h => h) (by rfl) ?_ hH ?_
          rotate_left
          · intro w' hSw; (try dsimp only at hSw); go_simp <;> with_reducible rfl
          simp only [Act.put, List.setIfInBounds_toArray, List.set_cons_zero, List.set_cons_succ]
          refine held_take (i := 13) (d := (some 87)) (v := ?_) rfl rfl (by kernel_rfl) (by kernel_rfl) (by kernel_rfl) (fun _ _ _ h => h) (by rfl) ?_ hH ?_
          rotate_left
          · intro w' hSw; have z := (World.cell?_of_block (w := w) (w' := w') (hSw.out.block _ hbw)).trans y3; clear hSw; go_simp <;> with_reducible rfl
          simp only [Act.put, List.setIfInBounds_toArray, List.set_cons_zero, List.set_cons_succ]
          refine held_one (i := 6) (by kernel_rfl) rfl (by rfl) ?_
          go_simp
          refine (OF.out _ hH.out).mono ?_; rintro e wq1 ⟨A1, c1, rfl, r1, n1, b1⟩
          have hH2 : Hid (Below w.heap.size w wq1) := Lib.hid (hH.out.trans (b1.mono hH.out.size))
          have TW1 := Lib.hid ((show Two w wr.drew F g G gd l st (bb l) st from ⟨TW.out.x.drewN 1, TW.out.d.drewN 1, TW.out.ap, TW.out.og⟩).new b1)
          have R1 := Lib.hid r1
          clear r1 n1 b1 TW
          refine ⟨hH2, ?_⟩
          replace hH := hH2
          clear hH2
          (try simp only [Act.put, List.setIfInBounds_toArray, List.set_cons_zero, List.set_cons_succ])
          refine held_one (i := 7) (by kernel_rfl) rfl (by rfl) ?_
          go_simp
          refine (TW1.out.x.add_ A1 c1 ql R1.out QOK.out ql5).mono ?_; rintro e wq2 ⟨rfl, F2, x2, s2⟩
          have hH2 : Hid (Below w.heap.size w wq2) := Lib.hid x2.below
          have TW2 := Lib.hid (TW1.out.left x2 s2)
          rw [EV.out]
          clear x2 s2 TW1 R1
          refine ⟨hH2, ?_⟩
          replace hH := hH2
          clear hH2
          (try simp only [Act.put, List.setIfInBounds_toArray, List.set_cons_zero, List.set_cons_succ])
          refine held_one (i := 14) (by kernel_rfl) rfl (by rfl) ?_
          go_simp
          refine (dadd_any TW2.out.d okl n160 qA qc ql (QL.out.new hH.out) QOK.out (fun x hx h0 hg => QN.out x hx h0 (TW2.out.og _ hg)) ql5).mono ?_; rintro e wq3 ⟨rfl, G2, d2, s2⟩
          have TW3 := Lib.hid (TW2.out.right d2 s2)
          have hH2 : Hid (Below w.heap.size w wq3) := Lib.hid TW3.out.x.below
          rw [EV.out]
          clear d2 s2 TW2
          refine ⟨hH2, ?_⟩
          replace hH := hH2
          clear hH2
          (try simp only [Act.put, List.setIfInBounds_toArray, List.set_cons_zero, List.set_cons_succ])
          refine held_take (i := 15) (d := (some 89)) (v := ?_) rfl rfl (by kernel_rfl) (by kernel_rfl) (by kernel_rfl) (fun _ _ _ h => h) (by rfl) ?_ hH ?_
          rotate_left
          · intro w' hSw; (try dsimp only at hSw); go_simp <;> with_reducible rfl
          simp only [Act.put, List.setIfInBounds_toArray, List.set_cons_zero, List.set_cons_succ]
          refine wpAnyH_done (by kernel_rfl) ?_ _
          obtain ⟨l2, hl2⟩ : ∃ l2, addR l ql = l2 := ⟨_, rfl⟩
          rw [hl2] at TW3
          clear okl n160 OF EV hl2 hH y0 y1 y2 y3 hr0
          go_wp2_with fail
          go_meet
          exact ⟨l2, st, F2, G2, by omega, TW3⟩
        by_cases hk1 : qk = 1
        · subst hk1
          clear hk0
          by_cases hin : (st : Int) ≤ qa ∧ qa ≤ (st : Int) + (total l : Int)
          · obtain ⟨hin1, hin2⟩ := hin
            obtain ⟨k, hk⟩ : ∃ k : Nat, qa = ((st + k : Nat) : Int) := ⟨(qa - st).toNat, by omega⟩
            have hkl : k ≤ total l := by omega
            have okl := TW.out.x.line.ok
            have n160 := TW.out.x.line.n160
            have tlo := total_ok okl n160
            have XA := Lib.hid (TW.out.x.ack_ qa k (by omega) hkl (by omega))
            have LT := Lib.hid (lastsV_take l k (fun q hq => (okl q hq).2.2.1))
            have BD := Lib.hid (bb_drop l k (fun q hq => (okl q hq).2.2.1))
            have BL := Lib.hid (show (bb l).length ≤ 100000 ∧ k ≤ (bb l).length by rw [bb_length]; omega)
            have GL := Lib.hid (show (l.take (gone l k)).length = gone l k ∧ gone l k ≤ 100000 by rw [List.length_take]; have := gone_le l k; omega)
            have HK := Lib.hid hk
            have st2b : st + k ≤ 50000 * (j + 1) := by omega
            have stk : st + k ≤ 1000000000 := by omega
            clear okl n160 tlo hkl hk hin1 hin2
            go_wp2_with fail
            refine XA.out.mono ?_; rintro e w2 ⟨A2, c2, rfl, r2, n2, x2, k2⟩
            have NG := Lib.hid (show ∀ a, A2 = some a → ¬ G a.block from fun a ha hg => by have h1 := n2 a ha; have h2 := TW.out.d.lt _ hg; omega)
            have TW2 := Lib.hid (TW.out.left x2 (Stp.same k2))
            have R2 := Lib.hid r2
            have y1 := (World.cell?_of_block (w := w) (w' := w2) (TW2.out.x.below.block b hbw)).trans yw1
            clear r2 n2 x2 k2 XA TW
            go_wp2_with fail
            refine (dack_ok TW2.out.d BL.out.1 qa k HK.out BL.out.2 stk).mono ?_; rintro e w3 ⟨A3, c3, rfl, r3, n3, d3, k3⟩
            have TW3 := Lib.hid (TW2.out.right d3 (Stp.same k3))
            rw [LT.out, frsV_length, GL.out.1] at r3 ⊢
            rw [← BD.out] at TW3
            have R3 := Lib.hid r3
            have R23 := Lib.hid (R2.out.chg k3 NG.out)
            clear r3 n3 d3 k3 R2 TW2 LT BD BL NG
            obtain ⟨m, hm⟩ : ∃ m, gone l k = m := ⟨_, rfl⟩
            rw [hm] at R3 R23 GL ⊢
            clear hm
            go_wp2_with fail
            refine (ints_any A2 A3 m c2 c3 (l.take m) GL.out.1 GL.out.2 w3 R23.out R3.out).mono ?_; rintro e w4 ⟨rfl, b4⟩
            have TW := Lib.hid (TW3.out.new b4)
            obtain ⟨l2, hl2⟩ : ∃ l2, ackR l k = l2 := ⟨_, rfl⟩
            obtain ⟨st2, hst2⟩ : ∃ st2, st + k = st2 := ⟨_, rfl⟩
            rw [hl2, hst2] at TW
            have sb := Lib.hid (show st2 ≤ 50000 * (j + 1) by omega)
            clear hl2 hst2 HK stk hst st2b b4 TW3 R3 R23 GL y1
            go_wp2_with fail
            go_meet
            exact ⟨l2, st2, F, G, sb.out, TW⟩
          · 
            have XA := Lib.hid (ack_bad TW.out.x.line qa hin)
            have BLN := Lib.hid (bb_length l)
            have tlo := total_ok TW.out.x.line.ok TW.out.x.line.n160
            have HIN := Lib.hid hin
            clear hin
            go_wp2_with fail
            refine XA.out.mono ?_; rintro e w2 ⟨rfl, b2⟩
            have TW2 := Lib.hid (TW.out.new b2)
            have y1 := (World.cell?_of_block (w := w) (w' := w2) (TW2.out.x.below.block b hbw)).trans yw1
            clear b2 XA TW
            go_wp2_with fail
            refine (dack_bad TW2.out.d (by rw [BLN.out]; omega) qa (by rw [BLN.out]; exact HIN.out)).mono ?_; rintro e w3 ⟨rfl, b3⟩
            have TW3 := Lib.hid (TW2.out.new b3)
            clear b3 TW2 y1
            go_wp2_with fail
            refine (ints_any none none 0 0 0 [] rfl (by decide) w3 (RowG.nil _ _) (RowG.nil _ _)).mono ?_; rintro e w4 ⟨rfl, b4⟩
            have TW := Lib.hid (TW3.out.new b4)
            clear b4 TW3 HIN BLN tlo
            go_wp2_with fail
            go_meet
            exact ⟨l, st, F, G, by omega, TW⟩
        · have e0 : (qk == 0) = false := by simpa using hk0
          have e1 : (qk == 1) = false := by simpa using hk1
          by_cases hin : (st : Int) ≤ qa ∧ 0 ≤ qb ∧ qb ≤ (st : Int) + (total l : Int) - qa
          · obtain ⟨hin1, hin2, hin3⟩ := hin
            obtain ⟨k, hk⟩ : ∃ k : Nat, qa = (st : Int) + (k : Int) := ⟨(qa - st).toNat, by omega⟩
            obtain ⟨n, rfl⟩ : ∃ n : Nat, qb = (n : Int) := ⟨qb.toNat, by omega⟩
            have hkl : k + n ≤ total l := by omega
            have hbr : b < wr.heap.size := Nat.lt_of_lt_of_le hbw hr0.size
            have XC := Lib.hid (fun W (z : Below wr.heap.size wr W) => cut_ok (TW.out.x.line.new z) qa k n hk hkl)
            have DC := Lib.hid (fun W (z : Below wr.heap.size wr W) => dcut_ok (TW.out.d.new z) TW.out.x.line.ok TW.out.x.line.n160 qa k n hk hkl)
            have CLN := Lib.hid (show (cutL l k n).length ≤ 100000 by have := cutL_len l k n; have := TW.out.x.line.n160; omega)
            obtain ⟨L, hL⟩ : ∃ L, cutL l k n = L := ⟨_, rfl⟩
            rw [hL] at XC DC CLN
            obtain ⟨ln, hln⟩ : ∃ ln, L.length = ln := ⟨_, rfl⟩
            unfold CutsTo at DC
            rw [hln] at XC DC CLN
            have HLN := Lib.hid hln
            clear hk hkl hL hin1 hin2 hin3 hln
            go_upto_region 11 with fail
            refine wp_region_held_drew (S := fun w' => Hid (Below wr.heap.size wr w')) (by kernel_rfl) ((Lib.hid (below_drewN (Below.refl wr.heap.size wr) 1) : Hid (Below wr.heap.size wr wr.drew))) (fun hH => ?_)
            refine held_take (i := 0) (d := (some 33)) (v := ?_) rfl rfl (by kernel_rfl) (by kernel_rfl) (by kernel_rfl) (fun _ _ _ h => h) (by rfl) ?_ hH ?_
            rotate_left
            · intro w' hSw; (try dsimp only at hSw); go_simp <;> with_reducible rfl
            simp only [Act.put, List.setIfInBounds_toArray, List.set_cons_zero, List.set_cons_succ]
            refine held_take (i := 1) (d := (some 34)) (v := ?_) rfl rfl (by kernel_rfl) (by kernel_rfl) (by kernel_rfl) (fun _ _ _ h => h) (by rfl) ?_ hH ?_
            rotate_left
            · intro w' hSw; (try dsimp only at hSw); go_simp <;> with_reducible rfl
            simp only [Act.put, List.setIfInBounds_toArray, List.set_cons_zero, List.set_cons_succ]
            refine held_take (i := 2) (d := (some 35)) (v := ?_) rfl rfl (by kernel_rfl) (by kernel_rfl) (by kernel_rfl) (fun _ _ _ h => h) (by rfl) ?_ hH ?_
            rotate_left
            · intro w' hSw; (try dsimp only at hSw); go_simp <;> with_reducible rfl
            simp only [Act.put, List.setIfInBounds_toArray, List.set_cons_zero, List.set_cons_succ]
            refine held_take (i := 3) (d := (some 36)) (v := ?_) rfl rfl (by kernel_rfl) (by kernel_rfl) (by kernel_rfl) (fun _ _ _ h => h) (by rfl) ?_ hH ?_
            rotate_left
            · intro w' hSw; (try dsimp only at hSw); go_simp <;> with_reducible rfl
            simp only [Act.put, List.setIfInBounds_toArray, List.set_cons_zero, List.set_cons_succ]
            refine held_take (i := 4) (d := (some 37)) (v := ?_) rfl rfl (by kernel_rfl) (by kernel_rfl) (by kernel_rfl) (fun _ _ _ h => h) (by rfl) ?_ hH ?_
            rotate_left
            · intro w' hSw; (try dsimp only at hSw); go_simp <;> with_reducible rfl
            simp only [Act.put, List.setIfInBounds_toArray, List.set_cons_zero, List.set_cons_succ]
            refine held_take (i := 5) (d := (some 38)) (v := ?_) rfl rfl (by kernel_rfl) (by kernel_rfl) (by kernel_rfl) (fun _ _ _ h => h) (by rfl) ?_ hH ?_
            rotate_left
            · intro w' hSw; have z := (World.cell?_of_block (w := wr) (w' := w') (hSw.out.block _ hbr)).trans y1; clear hSw; go_simp <;> with_reducible rfl
            simp only [Act.put, List.setIfInBounds_toArray, List.set_cons_zero, List.set_cons_succ]
            refine held_take (i := 6) (d := (some 39)) (v := ?_) rfl rfl (by kernel_rfl) (by kernel_rfl) (by kernel_rfl) (fun _ _ _ h => h) (by rfl) ?_ hH ?_
            rotate_left
            · intro w' hSw; (try dsimp only at hSw); go_simp <;> with_reducible rfl
            simp only [Act.put, List.setIfInBounds_toArray, List.set_cons_zero, List.set_cons_succ]
            refine held_take (i := 7) (d := (some 40)) (v := ?_) rfl rfl (by kernel_rfl) (by kernel_rfl) (by kernel_rfl) (fun _ _ _ h => h) (by rfl) ?_ hH ?_
            rotate_left
            · intro w' hSw; (try dsimp only at hSw); go_simp <;> with_reducible rfl
            simp only [Act.put, List.setIfInBounds_toArray, List.set_cons_zero, List.set_cons_succ]
            refine held_take (i := 8) (d := (some 41)) (v := ?_) rfl rfl (by kernel_rfl) (by kernel_rfl) (by kernel_rfl) (fun _ _ _ h => h) (by rfl) ?_ hH ?_
            rotate_left
            · intro w' hSw; (try dsimp only at hSw); go_simp <;> with_reducible rfl
            simp only [Act.put, List.setIfInBounds_toArray, List.set_cons_zero, List.set_cons_succ]
            refine held_take (i := 9) (d := (some 42)) (v := ?_) rfl rfl (by kernel_rfl) (by kernel_rfl) (by kernel_rfl) (fun _ _ _ h => h) (by rfl) ?_ hH ?_
            rotate_left
            · intro w' hSw; (try dsimp only at hSw); go_simp <;> with_reducible rfl
            simp only [Act.put, List.setIfInBounds_toArray, List.set_cons_zero, List.set_cons_succ]
            refine held_take (i := 10) (d := (some 43)) (v := ?_) rfl rfl (by kernel_rfl) (by kernel_rfl) (by kernel_rfl) (fun _ _ _ h => h) (by rfl) ?_ hH ?_
            rotate_left
            · intro w' hSw; have z := (World.cell?_of_block (w := wr) (w' := w') (hSw.out.block _ hbr)).trans y2; clear hSw; go_simp <;> with_reducible rfl
            simp only [Act.put, List.setIfInBounds_toArray, List.set_cons_zero, List.set_cons_succ]
            refine held_one (i := 11) (by kernel_rfl) rfl (by rfl) ?_
            go_simp
            refine (XC.out _ hH.out).mono ?_; rintro e wq1 ⟨⟨A2, c2, rfl, p2⟩, hb⟩
            have hH2 : Hid (Below wr.heap.size wr wq1) := Lib.hid (hH.out.trans (hb.mono hH.out.size))
            have HBwq1 := Lib.hid hb
            have PA2 := Lib.hid p2
            clear hb p2
            refine ⟨hH2, ?_⟩
            replace hH := hH2
            clear hH2
            (try simp only [Act.put, List.setIfInBounds_toArray, List.set_cons_zero, List.set_cons_succ])
            refine held_take (i := 12) (d := (some 32)) (v := ?_) rfl rfl (by kernel_rfl) (by kernel_rfl) (by kernel_rfl) (fun _ _ _ h => h) (by rfl) ?_ hH ?_
            rotate_left
            · intro w' hSw; (try dsimp only at hSw); go_simp <;> with_reducible rfl
            simp only [Act.put, List.setIfInBounds_toArray, List.set_cons_zero, List.set_cons_succ]
            refine held_take (i := 13) (d := (some 45)) (v := ?_) rfl rfl (by kernel_rfl) (by kernel_rfl) (by kernel_rfl) (fun _ _ _ h => h) (by rfl) ?_ hH ?_
            rotate_left
            · intro w' hSw; (try dsimp only at hSw); go_simp <;> with_reducible rfl
            simp only [Act.put, List.setIfInBounds_toArray, List.set_cons_zero, List.set_cons_succ]
            refine held_take (i := 14) (d := (some 46)) (v := ?_) rfl rfl (by kernel_rfl) (by kernel_rfl) (by kernel_rfl) (fun _ _ _ h => h) (by rfl) ?_ hH ?_
            rotate_left
            · intro w' hSw; (try dsimp only at hSw); go_simp <;> with_reducible rfl
            simp only [Act.put, List.setIfInBounds_toArray, List.set_cons_zero, List.set_cons_succ]
            refine held_take (i := 15) (d := (some 10)) (v := ?_) rfl rfl (by kernel_rfl) (by kernel_rfl) (by kernel_rfl) (fun _ _ _ h => h) (by rfl) ?_ hH ?_
            rotate_left
            · intro w' hSw; (try dsimp only at hSw); go_simp <;> with_reducible rfl
            simp only [Act.put, List.setIfInBounds_toArray, List.set_cons_zero, List.set_cons_succ]
            refine held_take (i := 16) (d := (some 11)) (v := ?_) rfl rfl (by kernel_rfl) (by kernel_rfl) (by kernel_rfl) (fun _ _ _ h => h) (by rfl) ?_ hH ?_
            rotate_left
            · intro w' hSw; (try dsimp only at hSw); go_simp <;> with_reducible rfl
            simp only [Act.put, List.setIfInBounds_toArray, List.set_cons_zero, List.set_cons_succ]
            refine wpAnyH_done (by kernel_rfl) ?_ _
            go_upto_region 12 with fail
            refine wp_region_held_drew (S := fun w' => Hid (Below wr.heap.size wr w')) (by kernel_rfl) ((Lib.hid (below_drewN hH.out 1) : Hid (Below wr.heap.size wr wq1.drew))) (fun hH => ?_)
            refine held_take (i := 0) (d := (some 48)) (v := ?_) rfl rfl (by kernel_rfl) (by kernel_rfl) (by kernel_rfl) (fun _ _ _ h => h) (by rfl) ?_ hH ?_
            rotate_left
            · intro w' hSw; (try dsimp only at hSw); go_simp <;> with_reducible rfl
            simp only [Act.put, List.setIfInBounds_toArray, List.set_cons_zero, List.set_cons_succ]
            refine held_take (i := 1) (d := (some 49)) (v := ?_) rfl rfl (by kernel_rfl) (by kernel_rfl) (by kernel_rfl) (fun _ _ _ h => h) (by rfl) ?_ hH ?_
            rotate_left
            · intro w' hSw; (try dsimp only at hSw); go_simp <;> with_reducible rfl
            simp only [Act.put, List.setIfInBounds_toArray, List.set_cons_zero, List.set_cons_succ]
            refine held_take (i := 2) (d := (some 50)) (v := ?_) rfl rfl (by kernel_rfl) (by kernel_rfl) (by kernel_rfl) (fun _ _ _ h => h) (by rfl) ?_ hH ?_
            rotate_left
            · intro w' hSw; (try dsimp only at hSw); go_simp <;> with_reducible rfl
            simp only [Act.put, List.setIfInBounds_toArray, List.set_cons_zero, List.set_cons_succ]
            refine held_take (i := 3) (d := (some 51)) (v := ?_) rfl rfl (by kernel_rfl) (by kernel_rfl) (by kernel_rfl) (fun _ _ _ h => h) (by rfl) ?_ hH ?_
            rotate_left
            · intro w' hSw; (try dsimp only at hSw); go_simp <;> with_reducible rfl
            simp only [Act.put, List.setIfInBounds_toArray, List.set_cons_zero, List.set_cons_succ]
            refine held_take (i := 4) (d := (some 52)) (v := ?_) rfl rfl (by kernel_rfl) (by kernel_rfl) (by kernel_rfl) (fun _ _ _ h => h) (by rfl) ?_ hH ?_
            rotate_left
            · intro w' hSw; (try dsimp only at hSw); go_simp <;> with_reducible rfl
            simp only [Act.put, List.setIfInBounds_toArray, List.set_cons_zero, List.set_cons_succ]
            refine held_take (i := 5) (d := (some 53)) (v := ?_) rfl rfl (by kernel_rfl) (by kernel_rfl) (by kernel_rfl) (fun _ _ _ h => h) (by rfl) ?_ hH ?_
            rotate_left
            · intro w' hSw; have z := (World.cell?_of_block (w := wr) (w' := w') (hSw.out.block _ hbr)).trans y1; clear hSw; go_simp <;> with_reducible rfl
            simp only [Act.put, List.setIfInBounds_toArray, List.set_cons_zero, List.set_cons_succ]
            refine held_take (i := 6) (d := (some 54)) (v := ?_) rfl rfl (by kernel_rfl) (by kernel_rfl) (by kernel_rfl) (fun _ _ _ h => h) (by rfl) ?_ hH ?_
            rotate_left
            · intro w' hSw; (try dsimp only at hSw); go_simp <;> with_reducible rfl
            simp only [Act.put, List.setIfInBounds_toArray, List.set_cons_zero, List.set_cons_succ]
            refine held_take (i := 7) (d := (some 55)) (v := ?_) rfl rfl (by kernel_rfl) (by kernel_rfl) (by kernel_rfl) (fun _ _ _ h => h) (by rfl) ?_ hH ?_
            rotate_left
            · intro w' hSw; (try dsimp only at hSw); go_simp <;> with_reducible rfl
            simp only [Act.put, List.setIfInBounds_toArray, List.set_cons_zero, List.set_cons_succ]
            refine held_take (i := 8) (d := (some 56)) (v := ?_) rfl rfl (by kernel_rfl) (by kernel_rfl) (by kernel_rfl) (fun _ _ _ h => h) (by rfl) ?_ hH ?_
            rotate_left
            · intro w' hSw; (try dsimp only at hSw); go_simp <;> with_reducible rfl
            simp only [Act.put, List.setIfInBounds_toArray, List.set_cons_zero, List.set_cons_succ]
            refine held_take (i := 9) (d := (some 57)) (v := ?_) rfl rfl (by kernel_rfl) (by kernel_rfl) (by kernel_rfl) (fun _ _ _ h => h) (by rfl) ?_ hH ?_
            rotate_left
            · intro w' hSw; (try dsimp only at hSw); go_simp <;> with_reducible rfl
            simp only [Act.put, List.setIfInBounds_toArray, List.set_cons_zero, List.set_cons_succ]
            refine held_take (i := 10) (d := (some 58)) (v := ?_) rfl rfl (by kernel_rfl) (by kernel_rfl) (by kernel_rfl) (fun _ _ _ h => h) (by rfl) ?_ hH ?_
            rotate_left
            · intro w' hSw; have z := (World.cell?_of_block (w := wr) (w' := w') (hSw.out.block _ hbr)).trans y2; clear hSw; go_simp <;> with_reducible rfl
            simp only [Act.put, List.setIfInBounds_toArray, List.set_cons_zero, List.set_cons_succ]
            refine held_one (i := 11) (by kernel_rfl) rfl (by rfl) ?_
            go_simp
            refine (DC.out _ hH.out).mono ?_; rintro e wq2 ⟨⟨A3, c3, rfl, p3⟩, hb⟩
            have hH2 : Hid (Below wr.heap.size wr wq2) := Lib.hid (hH.out.trans (hb.mono hH.out.size))
            have HBwq2 := Lib.hid hb
            have PA3 := Lib.hid p3
            clear hb p3
            refine ⟨hH2, ?_⟩
            replace hH := hH2
            clear hH2
            (try simp only [Act.put, List.setIfInBounds_toArray, List.set_cons_zero, List.set_cons_succ])
            refine held_take (i := 12) (d := (some 47)) (v := ?_) rfl rfl (by kernel_rfl) (by kernel_rfl) (by kernel_rfl) (fun _ _ _ h => h) (by rfl) ?_ hH ?_
            rotate_left
            · intro w' hSw; (try dsimp only at hSw); go_simp <;> with_reducible rfl
            simp only [Act.put, List.setIfInBounds_toArray, List.set_cons_zero, List.set_cons_succ]
            refine held_take (i := 13) (d := (some 60)) (v := ?_) rfl rfl (by kernel_rfl) (by kernel_rfl) (by kernel_rfl) (fun _ _ _ h => h) (by rfl) ?_ hH ?_
            rotate_left
            · intro w' hSw; (try dsimp only at hSw); go_simp <;> with_reducible rfl
            simp only [Act.put, List.setIfInBounds_toArray, List.set_cons_zero, List.set_cons_succ]
            refine held_take (i := 14) (d := (some 61)) (v := ?_) rfl rfl (by kernel_rfl) (by kernel_rfl) (by kernel_rfl) (fun _ _ _ h => h) (by rfl) ?_ hH ?_
            rotate_left
            · intro w' hSw; (try dsimp only at hSw); go_simp <;> with_reducible rfl
            simp only [Act.put, List.setIfInBounds_toArray, List.set_cons_zero, List.set_cons_succ]
            refine held_take (i := 15) (d := (some 12)) (v := ?_) rfl rfl (by kernel_rfl) (by kernel_rfl) (by kernel_rfl) (fun _ _ _ h => h) (by rfl) ?_ hH ?_
            rotate_left
            · intro w' hSw; (try dsimp only at hSw); go_simp <;> with_reducible rfl
            simp only [Act.put, List.setIfInBounds_toArray, List.set_cons_zero, List.set_cons_succ]
            refine held_take (i := 16) (d := (some 13)) (v := ?_) rfl rfl (by kernel_rfl) (by kernel_rfl) (by kernel_rfl) (fun _ _ _ h => h) (by rfl) ?_ hH ?_
            rotate_left
            · intro w' hSw; (try dsimp only at hSw); go_simp <;> with_reducible rfl
            simp only [Act.put, List.setIfInBounds_toArray, List.set_cons_zero, List.set_cons_succ]
            refine wpAnyH_done (by kernel_rfl) ?_ _
            have TW2 := Lib.hid (TW.out.new hH.out)
            have P2 := Lib.hid ((show Pcs wq1.drew A2 L from PA2.out.drewN 1).new HBwq2.out)
            have P3 := PA3
            clear TW hH XC DC PA2 PA3 HBwq1 HBwq2 y0 y1 y2 y3
            go_wp2_with fail
            refine (to_any A2 ln c2 L HLN.out CLN.out wq2 P2.out).mono ?_; rintro e w4 ⟨A4, c4, rfl, p4, b4⟩
            have TW3 := Lib.hid (TW2.out.new b4)
            have P4 := Lib.hid p4
            have P34 := Lib.hid (P3.out.new b4)
            clear p4 b4 TW2 P2 P3
            go_wp2_with fail
            refine (same_any A4 A3 ln c4 c3 L HLN.out CLN.out w4 P4.out P34.out).mono ?_; rintro e w5 ⟨rfl, b5⟩
            have TW := Lib.hid (TW3.out.new b5)
            clear b5 TW3 P4 P34
            go_wp2_with fail
            go_meet
            exact ⟨l, st, F, G, by omega, TW⟩
          · 
            have hbr : b < wr.heap.size := Nat.lt_of_lt_of_le hbw hr0.size
            have BLN := Lib.hid (bb_length l)
            have tlo := total_ok TW.out.x.line.ok TW.out.x.line.n160
            have XC := Lib.hid (fun W (z : Below wr.heap.size wr W) => cut_bad (TW.out.x.line.new z) qa qb ⟨ha1, ha2⟩ ⟨hb1, hb2⟩ hin)
            have DC := Lib.hid (fun W (z : Below wr.heap.size wr W) => dcut_bad (TW.out.d.new z) (by rw [BLN.out]; omega) qa qb ⟨ha1, ha2⟩ ⟨hb1, hb2⟩ (by rw [BLN.out]; exact hin))
            clear hin tlo BLN
            go_upto_region 11 with fail
            refine wp_region_held_drew (S := fun w' => Hid (Below wr.heap.size wr w')) (by kernel_rfl) ((Lib.hid (below_drewN (Below.refl wr.heap.size wr) 1) : Hid (Below wr.heap.size wr wr.drew))) (fun hH => ?_)
            refine held_take (i := 0) (d := (some 33)) (v := ?_) rfl rfl (by kernel_rfl) (by kernel_rfl) (by kernel_rfl) (fun _ _ _ h => h) (by rfl) ?_ hH ?_
            rotate_left
            · intro w' hSw; (try dsimp only at hSw); go_simp <;> with_reducible rfl
            simp only [Act.put, List.setIfInBounds_toArray, List.set_cons_zero, List.set_cons_succ]
            refine held_take (i := 1) (d := (some 34)) (v := ?_) rfl rfl (by kernel_rfl) (by kernel_rfl) (by kernel_rfl) (fun _ _ _ h => h) (by rfl) ?_ hH ?_
            rotate_left
            · intro w' hSw; (try dsimp only at hSw); go_simp <;> with_reducible rfl
            simp only [Act.put, List.setIfInBounds_toArray, List.set_cons_zero, List.set_cons_succ]
            refine held_take (i := 2) (d := (some 35)) (v := ?_) rfl rfl (by kernel_rfl) (by kernel_rfl) (by kernel_rfl) (fun _ _ _ h => h) (by rfl) ?_ hH ?_
            rotate_left
            · intro w' hSw; (try dsimp only at hSw); go_simp <;> with_reducible rfl
            simp only [Act.put, List.setIfInBounds_toArray, List.set_cons_zero, List.set_cons_succ]
            refine held_take (i := 3) (d := (some 36)) (v := ?_) rfl rfl (by kernel_rfl) (by kernel_rfl) (by kernel_rfl) (fun _ _ _ h => h) (by rfl) ?_ hH ?_
            rotate_left
            · intro w' hSw; (try dsimp only at hSw); go_simp <;> with_reducible rfl
            simp only [Act.put, List.setIfInBounds_toArray, List.set_cons_zero, List.set_cons_succ]
            refine held_take (i := 4) (d := (some 37)) (v := ?_) rfl rfl (by kernel_rfl) (by kernel_rfl) (by kernel_rfl) (fun _ _ _ h => h) (by rfl) ?_ hH ?_
            rotate_left
            · intro w' hSw; (try dsimp only at hSw); go_simp <;> with_reducible rfl
            simp only [Act.put, List.setIfInBounds_toArray, List.set_cons_zero, List.set_cons_succ]
            refine held_take (i := 5) (d := (some 38)) (v := ?_) rfl rfl (by kernel_rfl) (by kernel_rfl) (by kernel_rfl) (fun _ _ _ h => h) (by rfl) ?_ hH ?_
            rotate_left
            · intro w' hSw; have z := (World.cell?_of_block (w := wr) (w' := w') (hSw.out.block _ hbr)).trans y1; clear hSw; go_simp <;> with_reducible rfl
            simp only [Act.put, List.setIfInBounds_toArray, List.set_cons_zero, List.set_cons_succ]
            refine held_take (i := 6) (d := (some 39)) (v := ?_) rfl rfl (by kernel_rfl) (by kernel_rfl) (by kernel_rfl) (fun _ _ _ h => h) (by rfl) ?_ hH ?_
            rotate_left
            · intro w' hSw; (try dsimp only at hSw); go_simp <;> with_reducible rfl
            simp only [Act.put, List.setIfInBounds_toArray, List.set_cons_zero, List.set_cons_succ]
            refine held_take (i := 7) (d := (some 40)) (v := ?_) rfl rfl (by kernel_rfl) (by kernel_rfl) (by kernel_rfl) (fun _ _ _ h => h) (by rfl) ?_ hH ?_
            rotate_left
            · intro w' hSw; (try dsimp only at hSw); go_simp <;> with_reducible rfl
            simp only [Act.put, List.setIfInBounds_toArray, List.set_cons_zero, List.set_cons_succ]
            refine held_take (i := 8) (d := (some 41)) (v := ?_) rfl rfl (by kernel_rfl) (by kernel_rfl) (by kernel_rfl) (fun _ _ _ h => h) (by rfl) ?_ hH ?_
            rotate_left
            · intro w' hSw; (try dsimp only at hSw); go_simp <;> with_reducible rfl
            simp only [Act.put, List.setIfInBounds_toArray, List.set_cons_zero, List.set_cons_succ]
            refine held_take (i := 9) (d := (some 42)) (v := ?_) rfl rfl (by kernel_rfl) (by kernel_rfl) (by kernel_rfl) (fun _ _ _ h => h) (by rfl) ?_ hH ?_
            rotate_left
            · intro w' hSw; (try dsimp only at hSw); go_simp <;> with_reducible rfl
            simp only [Act.put, List.setIfInBounds_toArray, List.set_cons_zero, List.set_cons_succ]
            refine held_take (i := 10) (d := (some 43)) (v := ?_) rfl rfl (by kernel_rfl) (by kernel_rfl) (by kernel_rfl) (fun _ _ _ h => h) (by rfl) ?_ hH ?_
            rotate_left
            · intro w' hSw; have z := (World.cell?_of_block (w := wr) (w' := w') (hSw.out.block _ hbr)).trans y2; clear hSw; go_simp <;> with_reducible rfl
            simp only [Act.put, List.setIfInBounds_toArray, List.set_cons_zero, List.set_cons_succ]
            refine held_one (i := 11) (by kernel_rfl) rfl (by rfl) ?_
            go_simp
            refine (XC.out _ hH.out).mono ?_; rintro e wq1 ⟨rfl, hb⟩
            have hH2 : Hid (Below wr.heap.size wr wq1) := Lib.hid (hH.out.trans (hb.mono hH.out.size))
            clear hb
            refine ⟨hH2, ?_⟩
            replace hH := hH2
            clear hH2
            (try simp only [Act.put, List.setIfInBounds_toArray, List.set_cons_zero, List.set_cons_succ])
            refine held_take (i := 12) (d := (some 32)) (v := ?_) rfl rfl (by kernel_rfl) (by kernel_rfl) (by kernel_rfl) (fun _ _ _ h => h) (by rfl) ?_ hH ?_
            rotate_left
            · intro w' hSw; (try dsimp only at hSw); go_simp <;> with_reducible rfl
            simp only [Act.put, List.setIfInBounds_toArray, List.set_cons_zero, List.set_cons_succ]
            refine held_take (i := 13) (d := (some 45)) (v := ?_) rfl rfl (by kernel_rfl) (by kernel_rfl) (by kernel_rfl) (fun _ _ _ h => h) (by rfl) ?_ hH ?_
            rotate_left
            · intro w' hSw; (try dsimp only at hSw); go_simp <;> with_reducible rfl
            simp only [Act.put, List.setIfInBounds_toArray, List.set_cons_zero, List.set_cons_succ]
            refine held_take (i := 14) (d := (some 46)) (v := ?_) rfl rfl (by kernel_rfl) (by kernel_rfl) (by kernel_rfl) (fun _ _ _ h => h) (by rfl) ?_ hH ?_
            rotate_left
            · intro w' hSw; (try dsimp only at hSw); go_simp <;> with_reducible rfl
            simp only [Act.put, List.setIfInBounds_toArray, List.set_cons_zero, List.set_cons_succ]
            refine held_take (i := 15) (d := (some 10)) (v := ?_) rfl rfl (by kernel_rfl) (by kernel_rfl) (by kernel_rfl) (fun _ _ _ h => h) (by rfl) ?_ hH ?_
            rotate_left
            · intro w' hSw; (try dsimp only at hSw); go_simp <;> with_reducible rfl
            simp only [Act.put, List.setIfInBounds_toArray, List.set_cons_zero, List.set_cons_succ]
            refine held_take (i := 16) (d := (some 11)) (v := ?_) rfl rfl (by kernel_rfl) (by kernel_rfl) (by kernel_rfl) (fun _ _ _ h => h) (by rfl) ?_ hH ?_
            rotate_left
            · intro w' hSw; (try dsimp only at hSw); go_simp <;> with_reducible rfl
            simp only [Act.put, List.setIfInBounds_toArray, List.set_cons_zero, List.set_cons_succ]
            refine wpAnyH_done (by kernel_rfl) ?_ _
            go_upto_region 12 with fail
            refine wp_region_held_drew (S := fun w' => Hid (Below wr.heap.size wr w')) (by kernel_rfl) ((Lib.hid (below_drewN hH.out 1) : Hid (Below wr.heap.size wr wq1.drew))) (fun hH => ?_)
            refine held_take (i := 0) (d := (some 48)) (v := ?_) rfl rfl (by kernel_rfl) (by kernel_rfl) (by kernel_rfl) (fun _ _ _ h => h) (by rfl) ?_ hH ?_
            rotate_left
            · intro w' hSw; (try dsimp only at hSw); go_simp <;> with_reducible rfl
            simp only [Act.put, List.setIfInBounds_toArray, List.set_cons_zero, List.set_cons_succ]
            refine held_take (i := 1) (d := (some 49)) (v := ?_) rfl rfl (by kernel_rfl) (by kernel_rfl) (by kernel_rfl) (fun _ _ _ h => h) (by rfl) ?_ hH ?_
            rotate_left
            · intro w' hSw; (try dsimp only at hSw); go_simp <;> with_reducible rfl
            simp only [Act.put, List.setIfInBounds_toArray, List.set_cons_zero, List.set_cons_succ]
            refine held_take (i := 2) (d := (some 50)) (v := ?_) rfl rfl (by kernel_rfl) (by kernel_rfl) (by kernel_rfl) (fun _ _ _ h => h) (by rfl) ?_ hH ?_
            rotate_left
            · intro w' hSw; (try dsimp only at hSw); go_simp <;> with_reducible rfl
            simp only [Act.put, List.setIfInBounds_toArray, List.set_cons_zero, List.set_cons_succ]
            refine held_take (i := 3) (d := (some 51)) (v := ?_) rfl rfl (by kernel_rfl) (by kernel_rfl) (by kernel_rfl) (fun _ _ _ h => h) (by rfl) ?_ hH ?_
            rotate_left
            · intro w' hSw; (try dsimp only at hSw); go_simp <;> with_reducible rfl
            simp only [Act.put, List.setIfInBounds_toArray, List.set_cons_zero, List.set_cons_succ]
            refine held_take (i := 4) (d := (some 52)) (v := ?_) rfl rfl (by kernel_rfl) (by kernel_rfl) (by kernel_rfl) (fun _ _ _ h => h) (by rfl) ?_ hH ?_
            rotate_left
            · intro w' hSw; (try dsimp only at hSw); go_simp <;> with_reducible rfl
            simp only [Act.put, List.setIfInBounds_toArray, List.set_cons_zero, List.set_cons_succ]
            refine held_take (i := 5) (d := (some 53)) (v := ?_) rfl rfl (by kernel_rfl) (by kernel_rfl) (by kernel_rfl) (fun _ _ _ h => h) (by rfl) ?_ hH ?_
            rotate_left
            · intro w' hSw; have z := (World.cell?_of_block (w := wr) (w' := w') (hSw.out.block _ hbr)).trans y1; clear hSw; go_simp <;> with_reducible rfl
            simp only [Act.put, List.setIfInBounds_toArray, List.set_cons_zero, List.set_cons_succ]
            refine held_take (i := 6) (d := (some 54)) (v := ?_) rfl rfl (by kernel_rfl) (by kernel_rfl) (by kernel_rfl) (fun _ _ _ h => h) (by rfl) ?_ hH ?_
            rotate_left
            · intro w' hSw; (try dsimp only at hSw); go_simp <;> with_reducible rfl
            simp only [Act.put, List.setIfInBounds_toArray, List.set_cons_zero, List.set_cons_succ]
            refine held_take (i := 7) (d := (some 55)) (v := ?_) rfl rfl (by kernel_rfl) (by kernel_rfl) (by kernel_rfl) (fun _ _ _ h => h) (by rfl) ?_ hH ?_
            rotate_left
            · intro w' hSw; (try dsimp only at hSw); go_simp <;> with_reducible rfl
            simp only [Act.put, List.setIfInBounds_toArray, List.set_cons_zero, List.set_cons_succ]
            refine held_take (i := 8) (d := (some 56)) (v := ?_) rfl rfl (by kernel_rfl) (by kernel_rfl) (by kernel_rfl) (fun _ _ _ h => h) (by rfl) ?_ hH ?_
            rotate_left
            · intro w' hSw; (try dsimp only at hSw); go_simp <;> with_reducible rfl
            simp only [Act.put, List.setIfInBounds_toArray, List.set_cons_zero, List.set_cons_succ]
            refine held_take (i := 9) (d := (some 57)) (v := ?_) rfl rfl (by kernel_rfl) (by kernel_rfl) (by kernel_rfl) (fun _ _ _ h => h) (by rfl) ?_ hH ?_
            rotate_left
            · intro w' hSw; (try dsimp only at hSw); go_simp <;> with_reducible rfl
            simp only [Act.put, List.setIfInBounds_toArray, List.set_cons_zero, List.set_cons_succ]
            refine held_take (i := 10) (d := (some 58)) (v := ?_) rfl rfl (by kernel_rfl) (by kernel_rfl) (by kernel_rfl) (fun _ _ _ h => h) (by rfl) ?_ hH ?_
            rotate_left
            · intro w' hSw; have z := (World.cell?_of_block (w := wr) (w' := w') (hSw.out.block _ hbr)).trans y2; clear hSw; go_simp <;> with_reducible rfl
            simp only [Act.put, List.setIfInBounds_toArray, List.set_cons_zero, List.set_cons_succ]
            refine held_one (i := 11) (by kernel_rfl) rfl (by rfl) ?_
            go_simp
            refine (DC.out _ hH.out).mono ?_; rintro e wq2 ⟨rfl, hb⟩
            have hH2 : Hid (Below wr.heap.size wr wq2) := Lib.hid (hH.out.trans (hb.mono hH.out.size))
            clear hb
            refine ⟨hH2, ?_⟩
            replace hH := hH2
            clear hH2
            (try simp only [Act.put, List.setIfInBounds_toArray, List.set_cons_zero, List.set_cons_succ])
            refine held_take (i := 12) (d := (some 47)) (v := ?_) rfl rfl (by kernel_rfl) (by kernel_rfl) (by kernel_rfl) (fun _ _ _ h => h) (by rfl) ?_ hH ?_
            rotate_left
            · intro w' hSw; (try dsimp only at hSw); go_simp <;> with_reducible rfl
            simp only [Act.put, List.setIfInBounds_toArray, List.set_cons_zero, List.set_cons_succ]
            refine held_take (i := 13) (d := (some 60)) (v := ?_) rfl rfl (by kernel_rfl) (by kernel_rfl) (by kernel_rfl) (fun _ _ _ h => h) (by rfl) ?_ hH ?_
            rotate_left
            · intro w' hSw; (try dsimp only at hSw); go_simp <;> with_reducible rfl
            simp only [Act.put, List.setIfInBounds_toArray, List.set_cons_zero, List.set_cons_succ]
            refine held_take (i := 14) (d := (some 61)) (v := ?_) rfl rfl (by kernel_rfl) (by kernel_rfl) (by kernel_rfl) (fun _ _ _ h => h) (by rfl) ?_ hH ?_
            rotate_left
            · intro w' hSw; (try dsimp only at hSw); go_simp <;> with_reducible rfl
            simp only [Act.put, List.setIfInBounds_toArray, List.set_cons_zero, List.set_cons_succ]
            refine held_take (i := 15) (d := (some 12)) (v := ?_) rfl rfl (by kernel_rfl) (by kernel_rfl) (by kernel_rfl) (fun _ _ _ h => h) (by rfl) ?_ hH ?_
            rotate_left
            · intro w' hSw; (try dsimp only at hSw); go_simp <;> with_reducible rfl
            simp only [Act.put, List.setIfInBounds_toArray, List.set_cons_zero, List.set_cons_succ]
            refine held_take (i := 16) (d := (some 13)) (v := ?_) rfl rfl (by kernel_rfl) (by kernel_rfl) (by kernel_rfl) (fun _ _ _ h => h) (by rfl) ?_ hH ?_
            rotate_left
            · intro w' hSw; (try dsimp only at hSw); go_simp <;> with_reducible rfl
            simp only [Act.put, List.setIfInBounds_toArray, List.set_cons_zero, List.set_cons_succ]
            refine wpAnyH_done (by kernel_rfl) ?_ _
            have TW2 := Lib.hid (TW.out.new hH.out)
            clear TW hH XC DC y0 y1 y2 y3
            go_wp2_with fail
            refine (to_any none 0 0 [] rfl (by decide) wq2 (pcs_of_G (RowG.nil _ _))).mono ?_; rintro e w4 ⟨A4, c4, rfl, p4, b4⟩
            have TW3 := Lib.hid (TW2.out.new b4)
            have P4 := Lib.hid p4
            clear p4 b4 TW2
            go_wp2_with fail
            refine (same_any A4 none 0 c4 0 [] rfl (by decide) w4 P4.out (pcs_of_G (RowG.nil _ _))).mono ?_; rintro e w5 ⟨rfl, b5⟩
            have TW := Lib.hid (TW3.out.new b5)
            clear b5 TW3 P4
            go_wp2_with fail
            go_meet
            exact ⟨l, st, F, G, by omega, TW⟩
      case rest =>
        obtain ⟨l2, st2, F2, G2, hst2, TWc⟩ := hcut
        clear TW y0 y1 y2 y3 yw0 yw1 yw2 yw3 hst hr0
        have TW := TWc
        clear TWc
        have hst := hst2
        clear hst2
        generalize l2 = l at *
        generalize st2 = st at *
        generalize F2 = F at *
        generalize G2 = G at *
        generalize wc = wr at *
        obtain ⟨Ad0, cd0, h1, h2, h3⟩ := TW.out.d.ex
        obtain ⟨nb, hnb⟩ : ∃ nb, (bb l).length = nb := ⟨_, rfl⟩
        rw [hnb] at h1
        have hd0 := (h1.cell 0).trans (show _ = some (.int .i64 (st : Int)) from rfl)
        have hd1 := (h1.cell 1).trans (show _ = some (.slice Ad0 nb cd0) from rfl)
        have hgd := h1.lt
        have okl := TW.out.x.line.ok
        have n160 := TW.out.x.line.n160
        have tlo := total_ok okl n160
        obtain ⟨nl, hnl⟩ : ∃ nl, l.length = nl := ⟨_, rfl⟩
        have NL := Lib.hid hnl
        have nl5 : nl ≤ 100000 := by omega
        obtain ⟨en, hen⟩ : ∃ en, st + total l = en := ⟨_, rfl⟩
        have CS := Lib.hid (fun W (k : Below wr.heap.size wr W) => start_any (TW.out.x.line.new k))
        have CE := Lib.hid (fun W (k : Below wr.heap.size wr W) => end_any (TW.out.x.line.new k))
        have CF := Lib.hid (fun W (k : Below wr.heap.size wr W) => frames_any (TW.out.x.line.new k))
        have CD := Lib.hid (fun W (k : Below wr.heap.size wr W) => dframes_any (TW.out.d.new k) (by rw [bb_length]; omega))
        rw [lastsV_bb l (fun q hq => (okl q hq).2.2.1), frsV_length, hnl] at CD
        rw [hnl] at CF
        rw [hen] at CE
        have sm := TW.out.x.line.small
        have xs : IntKind.i64.wrap ((st : Int) + (nb : Int)) = (en : Int) := by have := bb_length l; have := IntWalk.i64_in ((st : Int) + (nb : Int)) (by omega); omega
        clear h1 h2 h3 hnb okl n160 tlo hnl hen sm
        go_upto_region 23 with fail
        refine wp_region_held_drew (S := fun w' => Hid (Below wr.heap.size wr w')) (by kernel_rfl) ((Lib.hid (below_drewN (Below.refl wr.heap.size wr) 1) : Hid (Below wr.heap.size wr wr.drew))) (fun hH => ?_)
        refine held_take (i := 0) (d := (some 121)) (v := ?_) rfl rfl (by kernel_rfl) (by kernel_rfl) (by kernel_rfl) (fun _ _ _ h => h) (by rfl) ?_ hH ?_
        rotate_left
        · intro w' hSw; (try dsimp only at hSw); go_simp <;> with_reducible rfl
        simp only [Act.put, List.setIfInBounds_toArray, List.set_cons_zero, List.set_cons_succ]
        refine held_take (i := 2) (d := (some 123)) (v := ?_) rfl rfl (by kernel_rfl) (by kernel_rfl) (by kernel_rfl) (fun _ _ _ h => h) (by rfl) ?_ hH ?_
        rotate_left
        · intro w' hSw; (try dsimp only at hSw); go_simp <;> with_reducible rfl
        simp only [Act.put, List.setIfInBounds_toArray, List.set_cons_zero, List.set_cons_succ]
        refine held_take (i := 3) (d := (some 124)) (v := ?_) rfl rfl (by kernel_rfl) (by kernel_rfl) (by kernel_rfl) (fun _ _ _ h => h) (by rfl) ?_ hH ?_
        rotate_left
        · intro w' hSw; (try dsimp only at hSw); go_simp <;> with_reducible rfl
        simp only [Act.put, List.setIfInBounds_toArray, List.set_cons_zero, List.set_cons_succ]
        refine held_take (i := 4) (d := (some 125)) (v := ?_) rfl rfl (by kernel_rfl) (by kernel_rfl) (by kernel_rfl) (fun _ _ _ h => h) (by rfl) ?_ hH ?_
        rotate_left
        · intro w' hSw; (try dsimp only at hSw); go_simp <;> with_reducible rfl
        simp only [Act.put, List.setIfInBounds_toArray, List.set_cons_zero, List.set_cons_succ]
        refine held_take (i := 5) (d := (some 126)) (v := ?_) rfl rfl (by kernel_rfl) (by kernel_rfl) (by kernel_rfl) (fun _ _ _ h => h) (by rfl) ?_ hH ?_
        rotate_left
        · intro w' hSw; have z := (World.cell?_of_block (w := wr) (w' := w') (hSw.out.block _ hgd)).trans hd0; clear hSw; go_simp <;> with_reducible rfl
        simp only [Act.put, List.setIfInBounds_toArray, List.set_cons_zero, List.set_cons_succ]
        refine held_one (i := 1) (by kernel_rfl) rfl (by rfl) ?_
        go_simp
        refine (CS.out _ hH.out).mono ?_; rintro e wq ⟨rfl, hw⟩
        have hH2 : Hid (Below wr.heap.size wr wq) := Lib.hid (by rw [hw]; exact hH.out)
        clear hw
        refine ⟨hH2, ?_⟩
        replace hH := hH2
        clear hH2
        (try simp only [Act.put, List.setIfInBounds_toArray, List.set_cons_zero, List.set_cons_succ])
        refine held_take (i := 6) (d := (some 127)) (v := ?_) rfl rfl (by kernel_rfl) (by kernel_rfl) (by kernel_rfl) (fun _ _ _ h => h) (by rfl) ?_ hH ?_
        rotate_left
        · intro w' hSw; (try dsimp only at hSw); go_simp <;> with_reducible rfl
        simp only [Act.put, List.setIfInBounds_toArray, List.set_cons_zero, List.set_cons_succ]
        refine held_take (i := 7) (d := (some 128)) (v := ?_) rfl rfl (by kernel_rfl) (by kernel_rfl) (by kernel_rfl) (fun _ _ _ h => h) (by rfl) ?_ hH ?_
        rotate_left
        · intro w' hSw; (try dsimp only at hSw); go_simp <;> with_reducible rfl
        simp only [Act.put, List.setIfInBounds_toArray, List.set_cons_zero, List.set_cons_succ]
        refine held_take (i := 8) (d := (some 129)) (v := ?_) rfl rfl (by kernel_rfl) (by kernel_rfl) (by kernel_rfl) (fun _ _ _ h => h) (by rfl) ?_ hH ?_
        rotate_left
        · intro w' hSw; (try dsimp only at hSw); go_simp <;> with_reducible rfl
        simp only [Act.put, List.setIfInBounds_toArray, List.set_cons_zero, List.set_cons_succ]
        refine held_take (i := 10) (d := (some 131)) (v := ?_) rfl rfl (by kernel_rfl) (by kernel_rfl) (by kernel_rfl) (fun _ _ _ h => h) (by rfl) ?_ hH ?_
        rotate_left
        · intro w' hSw; (try dsimp only at hSw); go_simp <;> with_reducible rfl
        simp only [Act.put, List.setIfInBounds_toArray, List.set_cons_zero, List.set_cons_succ]
        refine held_take (i := 11) (d := (some 132)) (v := ?_) rfl rfl (by kernel_rfl) (by kernel_rfl) (by kernel_rfl) (fun _ _ _ h => h) (by rfl) ?_ hH ?_
        rotate_left
        · intro w' hSw; (try dsimp only at hSw); go_simp <;> with_reducible rfl
        simp only [Act.put, List.setIfInBounds_toArray, List.set_cons_zero, List.set_cons_succ]
        refine held_take (i := 12) (d := (some 133)) (v := ?_) rfl rfl (by kernel_rfl) (by kernel_rfl) (by kernel_rfl) (fun _ _ _ h => h) (by rfl) ?_ hH ?_
        rotate_left
        · intro w' hSw; (try dsimp only at hSw); go_simp <;> with_reducible rfl
        simp only [Act.put, List.setIfInBounds_toArray, List.set_cons_zero, List.set_cons_succ]
        refine held_take (i := 13) (d := (some 134)) (v := ?_) rfl rfl (by kernel_rfl) (by kernel_rfl) (by kernel_rfl) (fun _ _ _ h => h) (by rfl) ?_ hH ?_
        rotate_left
        · intro w' hSw; have z := (World.cell?_of_block (w := wr) (w' := w') (hSw.out.block _ hgd)).trans hd0; clear hSw; go_simp <;> with_reducible rfl
        simp only [Act.put, List.setIfInBounds_toArray, List.set_cons_zero, List.set_cons_succ]
        refine held_take (i := 14) (d := (some 135)) (v := ?_) rfl rfl (by kernel_rfl) (by kernel_rfl) (by kernel_rfl) (fun _ _ _ h => h) (by rfl) ?_ hH ?_
        rotate_left
        · intro w' hSw; (try dsimp only at hSw); go_simp <;> with_reducible rfl
        simp only [Act.put, List.setIfInBounds_toArray, List.set_cons_zero, List.set_cons_succ]
        refine held_take (i := 15) (d := (some 136)) (v := ?_) rfl rfl (by kernel_rfl) (by kernel_rfl) (by kernel_rfl) (fun _ _ _ h => h) (by rfl) ?_ hH ?_
        rotate_left
        · intro w' hSw; (try dsimp only at hSw); go_simp <;> with_reducible rfl
        simp only [Act.put, List.setIfInBounds_toArray, List.set_cons_zero, List.set_cons_succ]
        refine held_take (i := 16) (d := (some 137)) (v := ?_) rfl rfl (by kernel_rfl) (by kernel_rfl) (by kernel_rfl) (fun _ _ _ h => h) (by rfl) ?_ hH ?_
        rotate_left
        · intro w' hSw; (try dsimp only at hSw); go_simp <;> with_reducible rfl
        simp only [Act.put, List.setIfInBounds_toArray, List.set_cons_zero, List.set_cons_succ]
        refine held_take (i := 17) (d := (some 138)) (v := ?_) rfl rfl (by kernel_rfl) (by kernel_rfl) (by kernel_rfl) (fun _ _ _ h => h) (by rfl) ?_ hH ?_
        rotate_left
        · intro w' hSw; have z := (World.cell?_of_block (w := wr) (w' := w') (hSw.out.block _ hgd)).trans hd1; clear hSw; go_simp <;> with_reducible rfl
        simp only [Act.put, List.setIfInBounds_toArray, List.set_cons_zero, List.set_cons_succ]
        refine held_take (i := 18) (d := (some 139)) (v := ?_) rfl rfl (by kernel_rfl) (by kernel_rfl) (by kernel_rfl) (fun _ _ _ h => h) (by rfl) ?_ hH ?_
        rotate_left
        · intro w' hSw; (try dsimp only at hSw); go_simp <;> with_reducible rfl
        simp only [Act.put, List.setIfInBounds_toArray, List.set_cons_zero, List.set_cons_succ]
        refine held_take (i := 19) (d := (some 140)) (v := ?_) rfl rfl (by kernel_rfl) (by kernel_rfl) (by kernel_rfl) (fun _ _ _ h => h) (by rfl) ?_ hH ?_
        rotate_left
        · intro w' hSw; (try dsimp only at hSw); go_simp <;> with_reducible rfl
        simp only [Act.put, List.setIfInBounds_toArray, List.set_cons_zero, List.set_cons_succ]
        refine held_one (i := 9) (by kernel_rfl) rfl (by rfl) ?_
        go_simp
        refine (CE.out _ hH.out).mono ?_; rintro e wq1 ⟨rfl, hb⟩
        have hH2 : Hid (Below wr.heap.size wr wq1) := Lib.hid (hH.out.trans (hb.mono hH.out.size))
        clear hb
        refine ⟨hH2, ?_⟩
        replace hH := hH2
        clear hH2
        (try simp only [Act.put, List.setIfInBounds_toArray, List.set_cons_zero, List.set_cons_succ])
        refine held_take (i := 20) (d := (some 141)) (v := ?_) rfl rfl (by kernel_rfl) (by kernel_rfl) (by kernel_rfl) (fun _ _ _ h => h) (by rfl) ?_ hH ?_
        rotate_left
        · intro w' hSw; (try dsimp only at hSw); go_simp <;> with_reducible rfl
        simp only [Act.put, List.setIfInBounds_toArray, List.set_cons_zero, List.set_cons_succ]
        refine held_take (i := 21) (d := (some 142)) (v := ?_) rfl rfl (by kernel_rfl) (by kernel_rfl) (by kernel_rfl) (fun _ _ _ h => h) (by rfl) ?_ hH ?_
        rotate_left
        · intro w' hSw; (try dsimp only at hSw); go_simp <;> with_reducible rfl
        simp only [Act.put, List.setIfInBounds_toArray, List.set_cons_zero, List.set_cons_succ]
        refine held_take (i := 22) (d := (some 143)) (v := ?_) rfl rfl (by kernel_rfl) (by kernel_rfl) (by kernel_rfl) (fun _ _ _ h => h) (by rfl) ?_ hH ?_
        rotate_left
        · intro w' hSw; (try dsimp only at hSw); go_simp <;> with_reducible rfl
        simp only [Act.put, List.setIfInBounds_toArray, List.set_cons_zero, List.set_cons_succ]
        refine held_take (i := 23) (d := (some 144)) (v := ?_) rfl rfl (by kernel_rfl) (by kernel_rfl) (by kernel_rfl) (fun _ _ _ h => h) (by rfl) ?_ hH ?_
        rotate_left
        · intro w' hSw; (try dsimp only at hSw); go_simp <;> with_reducible rfl
        simp only [Act.put, List.setIfInBounds_toArray, List.set_cons_zero, List.set_cons_succ]
        refine held_take (i := 25) (d := (some 146)) (v := ?_) rfl rfl (by kernel_rfl) (by kernel_rfl) (by kernel_rfl) (fun _ _ _ h => h) (by rfl) ?_ hH ?_
        rotate_left
        · intro w' hSw; (try dsimp only at hSw); go_simp <;> with_reducible rfl
        simp only [Act.put, List.setIfInBounds_toArray, List.set_cons_zero, List.set_cons_succ]
        refine held_one (i := 24) (by kernel_rfl) rfl (by rfl) ?_
        go_simp
        refine (CF.out _ hH.out).mono ?_; rintro e wq2 ⟨Af, cf, rfl, rf, -, hb⟩
        have hH2 : Hid (Below wr.heap.size wr wq2) := Lib.hid (hH.out.trans (hb.mono hH.out.size))
        have RF := Lib.hid rf
        clear hb rf
        refine ⟨hH2, ?_⟩
        replace hH := hH2
        clear hH2
        (try simp only [Act.put, List.setIfInBounds_toArray, List.set_cons_zero, List.set_cons_succ])
        refine held_one (i := 26) (by kernel_rfl) rfl (by rfl) ?_
        go_simp
        refine (CD.out _ hH.out).mono ?_; rintro e wq3 ⟨Ad, cd, rfl, rd, -, hb⟩
        have hH2 : Hid (Below wr.heap.size wr wq3) := Lib.hid (hH.out.trans (hb.mono hH.out.size))
        have RD := Lib.hid rd
        have RF3 := Lib.hid (RF.out.new hb)
        clear hb rd RF
        refine ⟨hH2, ?_⟩
        replace hH := hH2
        clear hH2
        (try simp only [Act.put, List.setIfInBounds_toArray, List.set_cons_zero, List.set_cons_succ])
        refine held_one (i := 27) (by kernel_rfl) rfl (by rfl) ?_
        go_simp
        refine (ints_any Af Ad nl cf cd l NL.out nl5 _ RF3.out RD.out).mono ?_; rintro e wq4 ⟨rfl, hb⟩
        have hH2 : Hid (Below wr.heap.size wr wq4) := Lib.hid (hH.out.trans (hb.mono hH.out.size))
        clear hb
        refine ⟨hH2, ?_⟩
        replace hH := hH2
        clear hH2
        (try simp only [Act.put, List.setIfInBounds_toArray, List.set_cons_zero, List.set_cons_succ])
        refine held_take (i := 28) (d := (some 149)) (v := ?_) rfl rfl (by kernel_rfl) (by kernel_rfl) (by kernel_rfl) (fun _ _ _ h => h) (by rfl) ?_ hH ?_
        rotate_left
        · intro w' hSw; (try dsimp only at hSw); go_simp <;> with_reducible rfl
        simp only [Act.put, List.setIfInBounds_toArray, List.set_cons_zero, List.set_cons_succ]
        refine held_take (i := 29) (d := (some 150)) (v := ?_) rfl rfl (by kernel_rfl) (by kernel_rfl) (by kernel_rfl) (fun _ _ _ h => h) (by rfl) ?_ hH ?_
        rotate_left
        · intro w' hSw; (try dsimp only at hSw); go_simp <;> with_reducible rfl
        simp only [Act.put, List.setIfInBounds_toArray, List.set_cons_zero, List.set_cons_succ]
        refine wpAnyH_done (by kernel_rfl) ?_ _
        have TW2 := Lib.hid (TW.out.new hH.out)
        clear TW hH CS CE CF CD xs hd0 hd1 hgd RD RF3 NL nl5
        go_wp2
        go_roundw
        case rel => exact ⟨j + 1, l, st, F, G, by omega, by omega, by go_num, TW2⟩
        case measure => simp [intOf]; omega
    · have hge : ¬ (j : Int) < (LL.length : Int) := by omega
      go_wp2
      go_ret
      exact ⟨rfl, TW.out.x.below⟩

set_option maxRecDepth 100000 in
theorem lifted (os : Os) (started : os.Started) (H : Type) (enc : TypeId × Value → H) :
    ReturnsInHanded {} Try.checked os 3 .any (Rows.sendqPlaysSpec.pre6 enc Try.prog Try.f3 Rows.sendqPlaysRow.domain false) (Rows.sendqPlaysSpec.post enc Try.prog Try.f3 false true false false) := by
  refine returnsInHanded_of_change (C := Try.checked) own started (by kernel_rfl) Try.func3
    (ChangeSpec.witness6 (enc := enc) (C := Try.checked) false ⟨#[], #[.slice none 0 0], []⟩ 8 (by kernel_rfl) (by kernel_rfl) (by kernel_rfl) (by kernel_rfl)) ?_
  intro W base args ds gs before hval0 hW hcnd _
  have hval : ∀ (j : Nat) t v, Try.f3.params[j]? = some t → args[j]? = some v → Value.okWide Try.prog W .any base t v := hval0
  have hW' := hW
  obtain ⟨p, q, hA0, hV, rfl, hfz, hnd⟩ := hW
  have hA : DataW.TrodAll enc Try.prog W 0 (fun _ => true) true Try.f3.params.toList args.toList ds p := hA0
  rw [Try.params3] at hA hval
  obtain ⟨v0, vs0, d0, ds0, p0, q0, hargs, rfl, rfl, h0, r0⟩ := trodAll_cons hA
  obtain ⟨rfl, rfl, rfl⟩ := trodAll_nil r0
  obtain rfl : args = #[v0] := by cases args; simp_all
  obtain ⟨A0, c0, l0, rfl, b0, k0⟩ := open_Act (hval 0 22 v0 rfl rfl) h0
  clear hA0 hval0
  exact law_close hW' laidOut (by kernel_rfl) rfl Try.underlying4 rfl ⟨rfl, rfl, rfl⟩ (walk W A0 c0 l0 b0 k0)

theorem over : Rows.sendqPlaysRow.holds Try.pinned (OpenSpec.ofChange Rows.sendqPlaysSpec) :=
  OpenClaim.holds_of_wide 3 Try.f3 rfl rfl rfl rfl rfl rfl rfl ⟨rfl, rfl, rfl, rfl, rfl⟩ rfl rfl rfl rfl rfl (by kernel_rfl) Try.func3 (by kernel_rfl)
    (of_decide_eq_true (by kernel_rfl)) (by unfold Func.isWrapper; first | (rw [if_pos (by decide +kernel)]; kernel_rfl) | (rw [if_neg (by decide +kernel)]; exact ⟨rfl, rfl⟩))
    (fun os started H enc _ => lifted os started H enc)

theorem proved : Rows.SendqPlaysSaid := over

end Go.Proofs.Ytgmejifacpefdaa.sendqPlays
