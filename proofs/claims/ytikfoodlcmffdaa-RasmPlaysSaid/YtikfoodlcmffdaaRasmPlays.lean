/- RasmPlays says true for every input: what any calls to a buffer of any room tell. Conditions: none beyond the given statement's. -/
import Derived.Test.YtikfoodlcmffdaaRaP
namespace Go.Proofs.Ytikfoodlcmffdaa.rasmPlays
open Go.ChangeShapes Go.WideShapes Go.ChangeAt Go.RowKit Ra Go.Deep
set_option linter.unusedVariables false


set_option maxRecDepth 100000 in
set_option maxHeartbeats 4000000 in
theorem walk (w : World) (a : Int) (wa : (Lit.int .i64 a).wf = true) (A1 : Option Addr) (c1 : Nat) (l : List Ra.Act) (b1 : Rk.RowG w 3 A1 l.length c1 (l.flatMap Act.cells)) (k1 : ∀ q ∈ l, Act.In q) :
    Calls Try.prog 3 #[.int .i64 a, .slice A1 l.length c1] w fun e w' => e = .returned (.bool true) ∧ Below w.heap.size w w' := by
  have LR := Lib.hid b1
  obtain ⟨L, hL⟩ : ∃ L, l.length = L := ⟨_, rfl⟩
  have LN := Lib.hid hL
  rw [hL]
  clear wa b1 k1 hL
  cases hf : farB l with
  | true =>
    go_enter Try.func3, Try.ntmps3
    go_wp2_with fail
    refine (alive_any w).mono ?_; rintro e w1 ⟨rfl, b1⟩
    have B1 := Lib.hid b1
    have R1 := Lib.hid (LR.out.new b1)
    clear b1
    have FR := Lib.hid (far_any A1 c1 l w1 R1.out)
    rw [LN.out] at FR
    go_wp2_with fail
    refine FR.out.mono ?_; rintro e w2 ⟨rfl, hw⟩
    rw [hw]
    clear hw w2 FR
    rw [hf]
    clear hf
    go_wp2
    go_ret
    exact ⟨rfl, B1.out⟩
  | false =>
  by_cases h300 : (300 : Int) < a ∧ a ≤ 2048
  · obtain ⟨h1, h2⟩ := h300
    go_enter Try.func3, Try.ntmps3
    go_wp2_with fail
    refine (alive_any w).mono ?_; rintro e w1 ⟨rfl, b1⟩
    have B1 := Lib.hid b1
    have R1 := Lib.hid (LR.out.new b1)
    clear b1
    have FR := Lib.hid (far_any A1 c1 l w1 R1.out)
    rw [LN.out] at FR
    go_wp2_with fail
    refine FR.out.mono ?_; rintro e w2 ⟨rfl, hw⟩
    rw [hw]
    clear hw w2 FR
    rw [hf]
    clear hf
    go_wp2
    go_ret
    exact ⟨rfl, B1.out⟩
  by_cases hno : a < 1 ∨ 2048 < a
  · have NO := Lib.hid (fun W => new_no a W hno)
    rcases hno with hn | hn
    · have hn2 : ¬ (300 : Int) < a := by omega
      clear h300
      go_enter Try.func3, Try.ntmps3
      go_wp2_with fail
      refine (alive_any w).mono ?_; rintro e w1 ⟨rfl, b1⟩
      have B1 := Lib.hid b1
      have R1 := Lib.hid (LR.out.new b1)
      clear b1
      have FR := Lib.hid (far_any A1 c1 l w1 R1.out)
      rw [LN.out] at FR
      go_wp2_with fail
      refine FR.out.mono ?_; rintro e w2 ⟨rfl, hw⟩
      rw [hw]
      clear hw w2 FR
      rw [hf]
      clear hf
      go_wp2_with fail
      refine (NO.out _).mono ?_; rintro e w3 ⟨rfl, hw⟩
      rw [hw]
      clear hw w3
      go_wp2
      go_ret
      exact ⟨rfl, B1.out⟩
    · have hn2 : (300 : Int) < a := by omega
      have hn3 : ¬ a ≤ 2048 := by omega
      have hn4 : ¬ a < 1 := by omega
      clear h300
      go_enter Try.func3, Try.ntmps3
      go_wp2_with fail
      refine (alive_any w).mono ?_; rintro e w1 ⟨rfl, b1⟩
      have B1 := Lib.hid b1
      have R1 := Lib.hid (LR.out.new b1)
      clear b1
      have FR := Lib.hid (far_any A1 c1 l w1 R1.out)
      rw [LN.out] at FR
      go_wp2_with fail
      refine FR.out.mono ?_; rintro e w2 ⟨rfl, hw⟩
      rw [hw]
      clear hw w2 FR
      rw [hf]
      clear hf
      go_wp2_with fail
      refine (NO.out _).mono ?_; rintro e w3 ⟨rfl, hw⟩
      rw [hw]
      clear hw w3
      go_wp2
      go_ret
      exact ⟨rfl, B1.out⟩
  obtain ⟨R, rfl⟩ : ∃ R : Nat, a = (R : Int) := ⟨a.toNat, by omega⟩
  have hR1 : 1 ≤ R := by omega
  have hR3 : R ≤ 300 := by omega
  have g1 : ¬ (300 : Int) < (R : Int) := by omega
  have g2 : ¬ (R : Int) < 1 := by omega
  have g3 : ¬ (2048 : Int) < (R : Int) := by omega
  have FO := Lib.hid (far_ok hf)
  clear h300 hno
  go_enter Try.func3, Try.ntmps3
  go_wp2_with fail
  refine (alive_any w).mono ?_; rintro e w1 ⟨rfl, b1⟩
  have B1 := Lib.hid b1
  have R1 := Lib.hid (LR.out.new b1)
  clear b1
  have FR := Lib.hid (far_any A1 c1 l w1 R1.out)
  rw [LN.out] at FR
  go_wp2_with fail
  refine FR.out.mono ?_; rintro e w2 ⟨rfl, hw⟩
  rw [hw]
  clear hw w2 FR
  rw [hf]
  clear hf
  go_wp2_with fail
  refine (new_bb R w1 w hR1 (by omega) B1.out).mono ?_; rintro e w2 ⟨gt, gm, g, rfl, h2, b2, _⟩
  have BX2 := Lib.hid h2
  have R2 := Lib.hid (R1.out.new b2)
  clear h2 b2 R1 B1
  go_wp2_with fail
  refine (refNew_any R hR3 w2).mono ?_; rintro e w3 ⟨Am, cm, rfl, rm, b3, fm⟩
  have BX3 := Lib.hid (BX2.out.new b3)
  have R3 := Lib.hid (R2.out.new b3)
  have RM3 := Lib.hid rm
  have FM := Lib.hid (show ∀ x, Am = some x → w2.heap.size ≤ x.block ∧ x.block < w3.heap.size from fun x hx => by
    refine ⟨fm x hx, ?_⟩
    obtain ⟨b, o, e, hb, _⟩ := rg_at rm (i := 0) (by simp; omega)
    rw [e] at hx
    cases hx
    exact hb)
  have L2 := Lib.hid BX2.out.buf.lt
  clear rm b3 fm BX2 R2
  go_upto_region 9 with (first
    | (refine wpList_store_row rfl 31 (.tmp 7) (.tmp 41) rfl w3.heap.size (dbV R 0 Am cm) rfl rfl 31 _ (Blk.new w3 31 _) db_info rfl (by simp [Value.oneCell']) ?_)
    | fail)
  obtain ⟨gb, hgb⟩ : ∃ gb, w3.heap.size = gb := ⟨_, rfl⟩
  have NB := (Below.refl w3.heap.size w3).alloc (Nat.le_refl _) (.cells #[.int .i64 0, .int .i64 0, .slice none 0 0] 31)
  have MB0 := Lib.hid ((Blk.new w3 31 #[.int .i64 0, .int .i64 0, .slice none 0 0]).row (dbV R 0 Am cm))
  have KS := Chg.setRow (w3.alloc (.cells #[.int .i64 0, .int .i64 0, .slice none 0 0] 31)) (g := w3.heap.size) (S := fun k => k = w3.heap.size) (dbV R 0 Am cm) rfl
  have lt3 := BX3.out.buf.lt
  have sz3 := BX3.out.below.size
  have BX0 := Lib.hid ((BX3.out.new NB).chg KS (fun e => by have e' : gt = w3.heap.size := e; omega) (fun e => by have e' : gm = w3.heap.size := e; omega) (fun e => by have e' : g = w3.heap.size := e; omega) (fun i hi => by have hi' : i = w3.heap.size := hi; omega))
  have MR0 := Lib.hid ((RM3.out.new NB).chg KS (fun x hx s => by have := (FM.out x hx).2; have s' : x.block = w3.heap.size := s; omega))
  have GB := Lib.hid (show gb ≠ gt ∧ gb ≠ gm ∧ gb ≠ g ∧ w.heap.size ≤ gb from by omega)
  have MA0 := Lib.hid (show ∀ x, Am = some x → x.block ≠ gt ∧ x.block ≠ gm ∧ x.block ≠ g ∧ x.block ≠ gb from fun x hx => by have h1 := FM.out x hx; have h2 := L2.out; omega)
  rw [hgb] at MB0 KS BX0 MR0
  clear NB KS lt3 sz3 BX3 RM3 FM L2 R3
  rw [hgb]
  generalize (w3.alloc (.cells #[.int .i64 0, .int .i64 0, .slice none 0 0] 31)).setRow gb (dbV R 0 Am cm) = W0 at *
  clear hgb
  go_wp2
  go_loopw [8] (fun i wr => ∃ (j N : Nat) (xs : Bs) (A : Option Addr) (c : Nat), j ≤ L ∧ N ≤ 300 * j ∧ i = .int .i64 (j : Int) ∧ Hid (BB w wr gt gm g R N xs) ∧ Hid (Blk wr gb 31 (dbV R N A c)) ∧ Hid (Rk.RowG wr 1 A R c (ev xs)) ∧ Hid (∀ x, A = some x → x.block ≠ gt ∧ x.block ≠ gm ∧ x.block ≠ g ∧ x.block ≠ gb)) (fun i _ => L - (intOf i).toNat)
  case atStart => exact ⟨0, 0, List.replicate R none, Am, cm, Nat.zero_le _, Nat.le_refl _, rfl, BX0, MB0, MR0, MA0⟩
  case round =>
    obtain ⟨j, N, xs, A, c, hj, hNj, rfl, BX, MB, MR, MA⟩ := hrel
    clear BX0 MB0 MR0 MA0
    have FOO := FO.out
    by_cases hlt : j < L
    · have hlt' : (j : Int) < (L : Int) := by omega
      have j0 : (0 : Int) ≤ (j : Int) := by omega
      have hjl : j < l.length := by rw [LN.out]; exact hlt
      have hL80 : L ≤ 80 := by rw [← LN.out]; exact FOO.1
      have xj := IntWalk.i64_in ((j : Int) + 1) (by omega)
      obtain ⟨b, o, rfl, c0, c1', c2⟩ := act_at (LR.out.new BX.out.below) hjl
      obtain ⟨f1, f2, f3⟩ := FOO.2 j hjl
      have hb : b < wr.heap.size := by
        have h0 := c0
        unfold World.cell? at h0
        cases hh : wr.heap[b]? with
        | none => simp only [hh] at h0; cases h0
        | some ob => exact (Array.getElem?_eq_some_iff.1 hh).1
      have hbw : b < w.heap.size := by
        obtain ⟨b', o', e', c0w, _⟩ := act_at LR.out hjl
        cases e'
        unfold World.cell? at c0w
        cases hh : w.heap[b]? with
        | none => simp only [hh] at c0w; cases c0w
        | some ob => exact (Array.getElem?_eq_some_iff.1 hh).1
      generalize l[j] = q at *
      obtain ⟨pl, s, tkq⟩ := q
      dsimp only at *
      clear FOO hjl
      cases tkq with
      | true =>
        clear c0 c1' f1 f2 f3 hb hbw
        have TK := Lib.hid (refTake_any MR.out BX.out.buf.len hR1 hR3 (show N ≤ 1000000 by omega))
        have XN := Lib.hid (show N + R ≤ 1099511627776 from by omega)
        have rdl := rdy_le xs
        rw [BX.out.buf.len] at rdl
        obtain ⟨M, hM⟩ : ∃ M, N + rdy xs = M := ⟨_, rfl⟩
        have hMb : M ≤ 300 * (j + 1) := by omega
        obtain ⟨zs, hzs⟩ : ∃ zs, aft xs = zs := ⟨_, rfl⟩
        obtain ⟨T, hT⟩ : ∃ T : ByteArray, T = ⟨(tk xs).toArray⟩ := ⟨_, rfl⟩
        rw [hM, hzs, ← hT] at TK
        have EM := Lib.hid hM
        have EZ := Lib.hid hzs
        have ET := Lib.hid hT
        clear hM hzs hT rdl
        go_wp2_with (first
          | (refine wpList_load_row rfl 31 (.tmp 7) rfl gb rfl 31 _ (0, 0) _ MB.out Try.underlying31 rfl db_info ?_)
          | fail)
        refine TK.out.mono ?_; rintro e w3 ⟨Az, cz, rfl, rz, b3, fz⟩
        have MB3 := Lib.hid (MB.out.older (older_below b3))
        have BX3 := Lib.hid (BX.out.new b3)
        have MA3 := Lib.hid (show ∀ a, Az = some a → a.block ≠ gt ∧ a.block ≠ gm ∧ a.block ≠ g ∧ a.block ≠ gb from fun a ha => by have h1 := fz a ha; have h2 := BX.out.buf.lt; have h3 := MB.out.lt; omega)
        have RZ3 := Lib.hid rz
        clear rz b3 fz MB BX MR MA TK
        go_upto_region 15 with (first
          | (refine wpList_store_row rfl 31 (.tmp 7) (.tmp 56) rfl gb (dbV R M Az cz) rfl rfl 31 _ MB3.out db_info rfl (by simp [Value.oneCell']) ?_)
          | fail)
        have KS := Chg.setRow w3 (g := gb) (S := fun k => k = gb) (dbV R M Az cz) rfl
        have MB4 := Lib.hid (MB3.out.row (dbV R M Az cz))
        have BX4 := Lib.hid (BX3.out.chg KS (fun e => GB.out.1 e.symm) (fun e => GB.out.2.1 e.symm) (fun e => GB.out.2.2.1 e.symm) (fun i hi => by have hi' : i = gb := hi; rw [hi']; exact GB.out.2.2.2))
        have MR4 := Lib.hid (RZ3.out.chg KS (fun a ha s => by have := MA3.out a ha; have s' : a.block = gb := s; omega))
        clear KS MB3 BX3 RZ3
        generalize w3.setRow gb (dbV R M Az cz) = w4 at *
        have TA := Lib.hid (take_any BX4.out.buf XN.out)
        rw [EM.out, EZ.out] at TA
        go_wp2_with fail
        refine TA.out.mono ?_; rintro e wz ⟨gn, rfl, hs, z1, z2, hb, k5⟩
        have BX := Lib.hid (show BB w wz gt gm g R M zs from ⟨hb, BX4.out.below.trans (below_chg k5 BX4.out.below.size BX4.out.own), BX4.out.own⟩)
        have MB := Lib.hid (MB4.out.chg k5 (fun s => by have := GB.out; omega))
        have MR := Lib.hid (MR4.out.chg k5 (fun a ha s => by have := MA3.out a ha; omega))
        have MA := MA3
        have tl := Di.told_str hs
        rw [← ET.out] at tl
        clear hb k5 z1 z2 hs TA BX4 MB4 MR4 MA3 EM EZ ET
        obtain ⟨rz, hrz⟩ : ∃ rz, rdy zs = rz := ⟨_, rfl⟩
        obtain ⟨hz, hhz⟩ : ∃ hz, held zs = hz := ⟨_, rfl⟩
        have RZ := Lib.hid hrz
        have HZ := Lib.hid hhz
        have ZL := Lib.hid (show zs.length = R from BX.out.buf.len)
        clear hrz hhz
        go_upto_region 21 with fail
        refine wp_region_held_drew (S := fun w' => Hid (Below wz.heap.size wz w')) (by kernel_rfl) (Lib.hid (below_drewN (Below.refl _ _) 1)) (fun hH => ?_)
        refine held_take (i := 0) (d := (some 93)) (v := ?_) rfl rfl (by kernel_rfl) (by kernel_rfl) (by kernel_rfl) (fun _ _ _ h => h) (by rfl) ?_ hH ?_
        rotate_left
        · intro w' hSw; (try dsimp only at hSw); go_simp <;> with_reducible rfl
        simp only [Act.put, List.setIfInBounds_toArray, List.set_cons_zero, List.set_cons_succ]
        refine held_take (i := 2) (d := (some 95)) (v := (.agg (dbV R M Az cz))) rfl rfl (by kernel_rfl) (by kernel_rfl) (by kernel_rfl) (fun _ _ _ h => h) (by rfl) (fun w' hSw => exec_load (y := .pointer (some ⟨gb, 0, none⟩)) rfl rfl (db_load (MB.out.older (older_below hSw.out)) rfl)) hH ?_
        simp only [Act.put, List.setIfInBounds_toArray, List.set_cons_zero, List.set_cons_succ]
        refine held_one (i := 1) (by kernel_rfl) rfl (by rfl) ?_
        go_simp
        refine (ready_any (BX.out.buf.new hH.out)).mono ?_; rw [RZ.out]; rintro e wq ⟨rfl, mq, hwq⟩
        have hH : Hid (Below wz.heap.size wz wq) := Lib.hid (by rw [hwq]; exact below_drewN hH.out mq)
        clear hwq
        refine ⟨hH, ?_⟩
        (try simp only [Act.put, List.setIfInBounds_toArray, List.set_cons_zero, List.set_cons_succ])
        refine held_one (i := 3) (by kernel_rfl) rfl (by rfl) ?_
        go_simp
        refine (refReady_any (N := M) (MR.out.new hH.out) ZL.out hR3).mono ?_; rw [RZ.out]; rintro e wq ⟨rfl, bq⟩
        have hH : Hid (Below wz.heap.size wz wq) := Lib.hid (hH.out.trans (bq.mono hH.out.size))
        clear bq
        refine ⟨hH, ?_⟩
        (try simp only [Act.put, List.setIfInBounds_toArray, List.set_cons_zero, List.set_cons_succ])
        refine held_take (i := 4) (d := (some 97)) (v := .bool false) rfl rfl (by kernel_rfl) (by kernel_rfl) (by kernel_rfl) (fun _ _ _ h => h) (by rfl) (by intro w' hSw; clear hSw; go_simp) hH ?_
        simp only [Act.put, List.setIfInBounds_toArray, List.set_cons_zero, List.set_cons_succ]
        refine held_take (i := 5) (d := (some 98)) (v := .bool false) rfl rfl (by kernel_rfl) (by kernel_rfl) (by kernel_rfl) (fun _ _ _ h => h) (by rfl) (by intro w' hSw; clear hSw; go_simp) hH ?_
        simp only [Act.put, List.setIfInBounds_toArray, List.set_cons_zero, List.set_cons_succ]
        refine held_take (i := 6) (d := (some 99)) (v := ?_) rfl rfl (by kernel_rfl) (by kernel_rfl) (by kernel_rfl) (fun _ _ _ h => h) (by rfl) ?_ hH ?_
        rotate_left
        · intro w' hSw; (try dsimp only at hSw); go_simp <;> with_reducible rfl
        simp only [Act.put, List.setIfInBounds_toArray, List.set_cons_zero, List.set_cons_succ]
        refine held_take (i := 8) (d := (some 101)) (v := ?_) rfl rfl (by kernel_rfl) (by kernel_rfl) (by kernel_rfl) (fun _ _ _ h => h) (by rfl) ?_ hH ?_
        rotate_left
        · intro w' hSw; (try dsimp only at hSw); go_simp <;> with_reducible rfl
        simp only [Act.put, List.setIfInBounds_toArray, List.set_cons_zero, List.set_cons_succ]
        refine held_take (i := 9) (d := (some 102)) (v := ?_) rfl rfl (by kernel_rfl) (by kernel_rfl) (by kernel_rfl) (fun _ _ _ h => h) (by rfl) ?_ hH ?_
        rotate_left
        · intro w' hSw; have z := ((MB.out.older (older_below hSw.out)).cell 1).trans (show _ = some (.int .i64 (M : Int)) from rfl); clear hSw; go_simp <;> with_reducible rfl
        simp only [Act.put, List.setIfInBounds_toArray, List.set_cons_zero, List.set_cons_succ]
        refine held_one (i := 7) (by kernel_rfl) rfl (by rfl) ?_
        go_simp
        refine (next_any (BX.out.buf.new hH.out)).mono ?_; rintro e wq ⟨rfl, hwq⟩
        have hH : Hid (Below wz.heap.size wz wq) := Lib.hid (by rw [hwq]; exact hH.out)
        clear hwq
        refine ⟨hH, ?_⟩
        (try simp only [Act.put, List.setIfInBounds_toArray, List.set_cons_zero, List.set_cons_succ])
        refine held_take (i := 10) (d := (some 103)) (v := .bool false) rfl rfl (by kernel_rfl) (by kernel_rfl) (by kernel_rfl) (fun _ _ _ h => h) (by rfl) (by intro w' hSw; clear hSw; go_simp) hH ?_
        simp only [Act.put, List.setIfInBounds_toArray, List.set_cons_zero, List.set_cons_succ]
        refine held_take (i := 11) (d := (some 104)) (v := .bool false) rfl rfl (by kernel_rfl) (by kernel_rfl) (by kernel_rfl) (fun _ _ _ h => h) (by rfl) (by intro w' hSw; clear hSw; go_simp) hH ?_
        simp only [Act.put, List.setIfInBounds_toArray, List.set_cons_zero, List.set_cons_succ]
        refine held_take (i := 12) (d := (some 105)) (v := .bool false) rfl rfl (by kernel_rfl) (by kernel_rfl) (by kernel_rfl) (fun _ _ _ h => h) (by rfl) (by intro w' hSw; clear hSw; go_simp) hH ?_
        simp only [Act.put, List.setIfInBounds_toArray, List.set_cons_zero, List.set_cons_succ]
        refine held_take (i := 13) (d := (some 106)) (v := ?_) rfl rfl (by kernel_rfl) (by kernel_rfl) (by kernel_rfl) (fun _ _ _ h => h) (by rfl) ?_ hH ?_
        rotate_left
        · intro w' hSw; (try dsimp only at hSw); go_simp <;> with_reducible rfl
        simp only [Act.put, List.setIfInBounds_toArray, List.set_cons_zero, List.set_cons_succ]
        refine held_take (i := 15) (d := (some 108)) (v := (.agg (dbV R M Az cz))) rfl rfl (by kernel_rfl) (by kernel_rfl) (by kernel_rfl) (fun _ _ _ h => h) (by rfl) (fun w' hSw => exec_load (y := .pointer (some ⟨gb, 0, none⟩)) rfl rfl (db_load (MB.out.older (older_below hSw.out)) rfl)) hH ?_
        simp only [Act.put, List.setIfInBounds_toArray, List.set_cons_zero, List.set_cons_succ]
        refine held_one (i := 14) (by kernel_rfl) rfl (by rfl) ?_
        go_simp
        refine (held_any (BX.out.buf.new hH.out)).mono ?_; rw [HZ.out]; rintro e wq ⟨rfl, hwq⟩
        have hH : Hid (Below wz.heap.size wz wq) := Lib.hid (by rw [hwq]; exact hH.out)
        clear hwq
        refine ⟨hH, ?_⟩
        (try simp only [Act.put, List.setIfInBounds_toArray, List.set_cons_zero, List.set_cons_succ])
        refine held_one (i := 16) (by kernel_rfl) rfl (by rfl) ?_
        go_simp
        refine (refHeld_any (N := M) (MR.out.new hH.out) ZL.out hR3).mono ?_; rw [HZ.out]; rintro e wq ⟨rfl, bq⟩
        have hH : Hid (Below wz.heap.size wz wq) := Lib.hid (hH.out.trans (bq.mono hH.out.size))
        clear bq
        refine ⟨hH, ?_⟩
        (try simp only [Act.put, List.setIfInBounds_toArray, List.set_cons_zero, List.set_cons_succ])
        refine held_take (i := 17) (d := (some 110)) (v := .bool false) rfl rfl (by kernel_rfl) (by kernel_rfl) (by kernel_rfl) (fun _ _ _ h => h) (by rfl) (by intro w' hSw; clear hSw; go_simp) hH ?_
        simp only [Act.put, List.setIfInBounds_toArray, List.set_cons_zero, List.set_cons_succ]
        refine held_take (i := 18) (d := (some 111)) (v := .bool false) rfl rfl (by kernel_rfl) (by kernel_rfl) (by kernel_rfl) (fun _ _ _ h => h) (by rfl) (by intro w' hSw; clear hSw; go_simp) hH ?_
        simp only [Act.put, List.setIfInBounds_toArray, List.set_cons_zero, List.set_cons_succ]
        refine wpAnyH_done (by kernel_rfl) ?_ _
        have BN := Lib.hid (BX.out.new hH.out)
        have MBN := Lib.hid (MB.out.older (older_below hH.out))
        have MRN := Lib.hid (MR.out.new hH.out)
        clear BX MB MR RZ HZ hH
        go_wp2
        go_roundw
        case rel => exact ⟨j + 1, M, zs, Az, cz, by omega, by omega, by go_num, BN, MBN, MRN, MA⟩
        case measure => simp [intOf]; omega
      | false =>
        obtain ⟨Sx, hS⟩ : ∃ S : ByteArray, S = ⟨s.toArray⟩ := ⟨_, rfl⟩
        rw [← hS] at c1'
        have hSn : Sx.size ≤ 3000 := by rw [hS]; exact f1
        have hpl : -1099511627776 ≤ pl ∧ pl ≤ 1099511627776 := ⟨f2, f3⟩
        clear hS f1 f2 f3
        have hbg : ¬ (b = gb) := by have := GB.out.2.2.2; omega
        have PU := Lib.hid (fun W (h : Chg wr W (fun k => k = gb)) => refPut_any (w := W) (N := N) (MR.out.chg h (fun x hx s => by have := MA.out x hx; have s' : x.block = gb := s; omega)) BX.out.buf.len hR1 hR3 (by omega) pl hpl Sx (by omega))
        obtain ⟨zs, hzs⟩ : ∃ zs, putR xs (pl - N) Sx.data.toList = zs := ⟨_, rfl⟩
        obtain ⟨nv, hnv⟩ : ∃ nv : Int, (held zs : Int) - held xs = nv := ⟨_, rfl⟩
        rw [hzs, hnv] at PU
        have EZ := Lib.hid hzs
        have EN := Lib.hid hnv
        clear hzs hnv
        go_upto_region 18 with fail
        refine wp_region_held_drew (S := fun w' => Hid (Chg wr w' (fun k => k = gb))) (by kernel_rfl) (Lib.hid ((Chg.refl wr _).drew)) (fun hH => ?_)
        refine held_take (i := 1) (d := (some 65)) (v := ?_) rfl rfl (by kernel_rfl) (by kernel_rfl) (by kernel_rfl) (fun _ _ _ h => h) (by rfl) ?_ hH ?_
        rotate_left
        · intro w' hSw; (try dsimp only at hSw); go_simp <;> with_reducible rfl
        simp only [Act.put, List.setIfInBounds_toArray, List.set_cons_zero, List.set_cons_succ]
        refine held_take (i := 2) (d := (some 66)) (v := ?_) rfl rfl (by kernel_rfl) (by kernel_rfl) (by kernel_rfl) (fun _ _ _ h => h) (by rfl) ?_ hH ?_
        rotate_left
        · intro w' hSw; (try dsimp only at hSw); go_simp <;> with_reducible rfl
        simp only [Act.put, List.setIfInBounds_toArray, List.set_cons_zero, List.set_cons_succ]
        refine held_take (i := 3) (d := (some 67)) (v := ?_) rfl rfl (by kernel_rfl) (by kernel_rfl) (by kernel_rfl) (fun _ _ _ h => h) (by rfl) ?_ hH ?_
        rotate_left
        · intro w' hSw; (try dsimp only at hSw); go_simp <;> with_reducible rfl
        simp only [Act.put, List.setIfInBounds_toArray, List.set_cons_zero, List.set_cons_succ]
        refine held_take (i := 4) (d := (some 68)) (v := ?_) rfl rfl (by kernel_rfl) (by kernel_rfl) (by kernel_rfl) (fun _ _ _ h => h) (by rfl) ?_ hH ?_
        rotate_left
        · intro w' hSw; (try dsimp only at hSw); go_simp <;> with_reducible rfl
        simp only [Act.put, List.setIfInBounds_toArray, List.set_cons_zero, List.set_cons_succ]
        refine held_take (i := 5) (d := (some 69)) (v := ?_) rfl rfl (by kernel_rfl) (by kernel_rfl) (by kernel_rfl) (fun _ _ _ h => h) (by rfl) ?_ hH ?_
        rotate_left
        · intro w' hSw; have z := (World.cell?_of_block (w := wr) (w' := w') (hSw.out.block _ hb hbg)).trans c0; clear hSw; go_simp <;> with_reducible rfl
        simp only [Act.put, List.setIfInBounds_toArray, List.set_cons_zero, List.set_cons_succ]
        refine held_take (i := 6) (d := (some 70)) (v := ?_) rfl rfl (by kernel_rfl) (by kernel_rfl) (by kernel_rfl) (fun _ _ _ h => h) (by rfl) ?_ hH ?_
        rotate_left
        · intro w' hSw; (try dsimp only at hSw); go_simp <;> with_reducible rfl
        simp only [Act.put, List.setIfInBounds_toArray, List.set_cons_zero, List.set_cons_succ]
        refine held_take (i := 7) (d := (some 71)) (v := ?_) rfl rfl (by kernel_rfl) (by kernel_rfl) (by kernel_rfl) (fun _ _ _ h => h) (by rfl) ?_ hH ?_
        rotate_left
        · intro w' hSw; (try dsimp only at hSw); go_simp <;> with_reducible rfl
        simp only [Act.put, List.setIfInBounds_toArray, List.set_cons_zero, List.set_cons_succ]
        refine held_take (i := 8) (d := (some 72)) (v := ?_) rfl rfl (by kernel_rfl) (by kernel_rfl) (by kernel_rfl) (fun _ _ _ h => h) (by rfl) ?_ hH ?_
        rotate_left
        · intro w' hSw; (try dsimp only at hSw); go_simp <;> with_reducible rfl
        simp only [Act.put, List.setIfInBounds_toArray, List.set_cons_zero, List.set_cons_succ]
        refine held_take (i := 9) (d := (some 73)) (v := ?_) rfl rfl (by kernel_rfl) (by kernel_rfl) (by kernel_rfl) (fun _ _ _ h => h) (by rfl) ?_ hH ?_
        rotate_left
        · intro w' hSw; (try dsimp only at hSw); go_simp <;> with_reducible rfl
        simp only [Act.put, List.setIfInBounds_toArray, List.set_cons_zero, List.set_cons_succ]
        refine held_take (i := 10) (d := (some 74)) (v := ?_) rfl rfl (by kernel_rfl) (by kernel_rfl) (by kernel_rfl) (fun _ _ _ h => h) (by rfl) ?_ hH ?_
        rotate_left
        · intro w' hSw; have z := (World.cell?_of_block (w := wr) (w' := w') (hSw.out.block _ hb hbg)).trans c1'; clear hSw; go_simp <;> with_reducible rfl
        simp only [Act.put, List.setIfInBounds_toArray, List.set_cons_zero, List.set_cons_succ]
        refine held_one (i := 0) (by kernel_rfl) rfl (by rfl) ?_
        refine wp_load_d (d := some 64) rfl (y := .pointer (some ⟨gb, 0, none⟩)) rfl rfl (db_load (show Blk wr.drew gb 31 (dbV R N A c) from MB.out) rfl) ?_
        refine ⟨hH, ?_⟩
        (try simp only [Act.put, List.setIfInBounds_toArray, List.set_cons_zero, List.set_cons_succ])
        refine held_one (i := 11) (by kernel_rfl) rfl (by rfl) ?_
        go_simp
        refine (PU.out _ hH.out).mono ?_; rintro e wq ⟨Az, cz, rfl, rz, bq, fz⟩
        have hH2 : Hid (Chg wr wq (fun k => k = gb)) := Lib.hid (hH.out.trans (Chg.of_new bq _))
        have FZ := Lib.hid (show ∀ a, Az = some a → wr.heap.size ≤ a.block from fun a ha => Nat.le_trans hH.out.size (fz a ha))
        have RZ3 := Lib.hid rz
        have MBq := Lib.hid ((show Blk wr.drew gb 31 (dbV R N A c) from MB.out).older (older_below bq))
        have BXq := Lib.hid ((show BB w wr.drew gt gm g R N xs from BX.out.drewN 1).new bq)
        clear rz bq fz PU
        refine ⟨hH2, ?_⟩
        replace hH := hH2
        clear hH2
        (try simp only [Act.put, List.setIfInBounds_toArray, List.set_cons_zero, List.set_cons_succ])
        refine held_take (i := 12) (d := (some 63)) (v := ?_) rfl rfl (by kernel_rfl) (by kernel_rfl) (by kernel_rfl) (fun _ _ _ h => h) (by rfl) ?_ hH ?_
        rotate_left
        · intro w' hSw; (try dsimp only at hSw); go_simp <;> with_reducible rfl
        simp only [Act.put, List.setIfInBounds_toArray, List.set_cons_zero, List.set_cons_succ]
        refine held_take (i := 13) (d := (some 76)) (v := ?_) rfl rfl (by kernel_rfl) (by kernel_rfl) (by kernel_rfl) (fun _ _ _ h => h) (by rfl) ?_ hH ?_
        rotate_left
        · intro w' hSw; (try dsimp only at hSw); go_simp <;> with_reducible rfl
        simp only [Act.put, List.setIfInBounds_toArray, List.set_cons_zero, List.set_cons_succ]
        refine held_take (i := 14) (d := (some 77)) (v := ?_) rfl rfl (by kernel_rfl) (by kernel_rfl) (by kernel_rfl) (fun _ _ _ h => h) (by rfl) ?_ hH ?_
        rotate_left
        · intro w' hSw; (try dsimp only at hSw); go_simp <;> with_reducible rfl
        simp only [Act.put, List.setIfInBounds_toArray, List.set_cons_zero, List.set_cons_succ]
        refine held_one (i := 15) (by kernel_rfl) rfl (by rfl) ?_
        refine Gx.wp_store_row_n rfl 31 (.tmp 7) (.tmp 76) rfl gb (dbV R N Az cz) rfl rfl 31 _ MBq.out db_info rfl (by simp [Value.oneCell']) ?_
        have hH2 : Hid (Chg wr (wq.setRow gb (dbV R N Az cz)) (fun k => k = gb)) := Lib.hid (hH.out.trans (Chg.setRow _ _ rfl))
        refine ⟨hH2, ?_⟩
        replace hH := hH2
        clear hH2
        (try simp only [Act.put, List.setIfInBounds_toArray, List.set_cons_zero, List.set_cons_succ])
        refine held_take (i := 16) (d := (some 10)) (v := ?_) rfl rfl (by kernel_rfl) (by kernel_rfl) (by kernel_rfl) (fun _ _ _ h => h) (by rfl) ?_ hH ?_
        rotate_left
        · intro w' hSw; (try dsimp only at hSw); go_simp <;> with_reducible rfl
        simp only [Act.put, List.setIfInBounds_toArray, List.set_cons_zero, List.set_cons_succ]
        refine wpAnyH_done (by kernel_rfl) ?_ _
        have KS := Chg.setRow wq (g := gb) (S := fun k => k = gb) (dbV R N Az cz) rfl
        have mlt := MB.out.lt
        have blt := BX.out.buf.lt
        have wsz := hH.out.size
        have MB19 := Lib.hid (MBq.out.row (dbV R N Az cz))
        have BX19 := Lib.hid (BXq.out.chg KS (fun e => GB.out.1 e.symm) (fun e => GB.out.2.1 e.symm) (fun e => GB.out.2.2.1 e.symm) (fun i hi => by have hi' : i = gb := hi; rw [hi']; exact GB.out.2.2.2))
        have MR19 := Lib.hid (RZ3.out.chg KS (fun x hx s => by have := FZ.out x hx; have s' : x.block = gb := s; omega))
        have c019 := (World.cell?_of_block (w := wr) (w' := wq.setRow gb (dbV R N Az cz)) (a := ⟨b, o + j * 3, none⟩) (hH.out.block b hb hbg)).trans c0
        have c119 := (World.cell?_of_block (w := wr) (w' := wq.setRow gb (dbV R N Az cz)) (a := ⟨b, o + j * 3 + 1, none⟩) (hH.out.block b hb hbg)).trans c1'
        have hb19 : b < (wq.setRow gb (dbV R N Az cz)).heap.size := Nat.lt_of_lt_of_le hb wsz
        have nb19 : ¬ (b = gt ∨ b = gm ∨ b = g) := by have := BX.out.own; omega
        have MA := Lib.hid (show ∀ x, Az = some x → x.block ≠ gt ∧ x.block ≠ gm ∧ x.block ≠ g ∧ x.block ≠ gb from fun x hx => by have := FZ.out x hx; omega)
        clear KS mlt blt wsz MB MR BX RZ3 FZ hH c0 c1' hb hbg MBq BXq
        go_upto_region 19 with fail
        generalize wq.setRow gb (dbV R N Az cz) = w19 at *
        have BX19D := Lib.hid (show BB w w19.drew gt gm g R N xs from BX19.out.drewN 1)
        refine wp_region_held_drew (S := fun w' => Hid (Chg w19 w' (fun k => k = gt ∨ k = gm ∨ k = g))) (by kernel_rfl) (Lib.hid ((Chg.refl w19 _).drew)) (fun hH => ?_)
        refine held_take (i := 0) (d := (some 78)) (v := ?_) rfl rfl (by kernel_rfl) (by kernel_rfl) (by kernel_rfl) (fun _ _ _ h => h) (by rfl) ?_ hH ?_
        rotate_left
        · intro w' hSw; (try dsimp only at hSw); go_simp <;> with_reducible rfl
        simp only [Act.put, List.setIfInBounds_toArray, List.set_cons_zero, List.set_cons_succ]
        refine held_take (i := 1) (d := (some 79)) (v := ?_) rfl rfl (by kernel_rfl) (by kernel_rfl) (by kernel_rfl) (fun _ _ _ h => h) (by rfl) ?_ hH ?_
        rotate_left
        · intro w' hSw; (try dsimp only at hSw); go_simp <;> with_reducible rfl
        simp only [Act.put, List.setIfInBounds_toArray, List.set_cons_zero, List.set_cons_succ]
        refine held_take (i := 2) (d := (some 80)) (v := ?_) rfl rfl (by kernel_rfl) (by kernel_rfl) (by kernel_rfl) (fun _ _ _ h => h) (by rfl) ?_ hH ?_
        rotate_left
        · intro w' hSw; (try dsimp only at hSw); go_simp <;> with_reducible rfl
        simp only [Act.put, List.setIfInBounds_toArray, List.set_cons_zero, List.set_cons_succ]
        refine held_take (i := 3) (d := (some 81)) (v := ?_) rfl rfl (by kernel_rfl) (by kernel_rfl) (by kernel_rfl) (fun _ _ _ h => h) (by rfl) ?_ hH ?_
        rotate_left
        · intro w' hSw; (try dsimp only at hSw); go_simp <;> with_reducible rfl
        simp only [Act.put, List.setIfInBounds_toArray, List.set_cons_zero, List.set_cons_succ]
        refine held_take (i := 4) (d := (some 82)) (v := ?_) rfl rfl (by kernel_rfl) (by kernel_rfl) (by kernel_rfl) (fun _ _ _ h => h) (by rfl) ?_ hH ?_
        rotate_left
        · intro w' hSw; (try dsimp only at hSw); go_simp <;> with_reducible rfl
        simp only [Act.put, List.setIfInBounds_toArray, List.set_cons_zero, List.set_cons_succ]
        refine held_take (i := 5) (d := (some 83)) (v := ?_) rfl rfl (by kernel_rfl) (by kernel_rfl) (by kernel_rfl) (fun _ _ _ h => h) (by rfl) ?_ hH ?_
        rotate_left
        · intro w' hSw; have z := (World.cell?_of_block (w := w19) (w' := w') (hSw.out.block _ hb19 nb19)).trans c019; clear hSw; go_simp <;> with_reducible rfl
        simp only [Act.put, List.setIfInBounds_toArray, List.set_cons_zero, List.set_cons_succ]
        refine held_take (i := 6) (d := (some 84)) (v := ?_) rfl rfl (by kernel_rfl) (by kernel_rfl) (by kernel_rfl) (fun _ _ _ h => h) (by rfl) ?_ hH ?_
        rotate_left
        · intro w' hSw; (try dsimp only at hSw); go_simp <;> with_reducible rfl
        simp only [Act.put, List.setIfInBounds_toArray, List.set_cons_zero, List.set_cons_succ]
        refine held_take (i := 7) (d := (some 85)) (v := ?_) rfl rfl (by kernel_rfl) (by kernel_rfl) (by kernel_rfl) (fun _ _ _ h => h) (by rfl) ?_ hH ?_
        rotate_left
        · intro w' hSw; (try dsimp only at hSw); go_simp <;> with_reducible rfl
        simp only [Act.put, List.setIfInBounds_toArray, List.set_cons_zero, List.set_cons_succ]
        refine held_take (i := 8) (d := (some 86)) (v := ?_) rfl rfl (by kernel_rfl) (by kernel_rfl) (by kernel_rfl) (fun _ _ _ h => h) (by rfl) ?_ hH ?_
        rotate_left
        · intro w' hSw; (try dsimp only at hSw); go_simp <;> with_reducible rfl
        simp only [Act.put, List.setIfInBounds_toArray, List.set_cons_zero, List.set_cons_succ]
        refine held_take (i := 9) (d := (some 87)) (v := ?_) rfl rfl (by kernel_rfl) (by kernel_rfl) (by kernel_rfl) (fun _ _ _ h => h) (by rfl) ?_ hH ?_
        rotate_left
        · intro w' hSw; (try dsimp only at hSw); go_simp <;> with_reducible rfl
        simp only [Act.put, List.setIfInBounds_toArray, List.set_cons_zero, List.set_cons_succ]
        refine held_take (i := 10) (d := (some 88)) (v := ?_) rfl rfl (by kernel_rfl) (by kernel_rfl) (by kernel_rfl) (fun _ _ _ h => h) (by rfl) ?_ hH ?_
        rotate_left
        · intro w' hSw; have z := (World.cell?_of_block (w := w19) (w' := w') (hSw.out.block _ hb19 nb19)).trans c119; clear hSw; go_simp <;> with_reducible rfl
        simp only [Act.put, List.setIfInBounds_toArray, List.set_cons_zero, List.set_cons_succ]
        refine held_take (i := 13) (d := (some 91)) (v := ?_) rfl rfl (by kernel_rfl) (by kernel_rfl) (by kernel_rfl) (fun _ _ _ h => h) (by rfl) ?_ hH ?_
        rotate_left
        · intro w' hSw; (try dsimp only at hSw); go_simp <;> with_reducible rfl
        simp only [Act.put, List.setIfInBounds_toArray, List.set_cons_zero, List.set_cons_succ]
        refine held_one (i := 11) (by kernel_rfl) rfl (by rfl) ?_
        obtain ⟨A9, c9, w9, hcv, hb9, hput⟩ := put_conv2 BX19D.out pl (by omega) Sx (by omega)
        rw [EZ.out, EN.out] at hput
        have PU9 := Lib.hid hput
        have B9 := Lib.hid hb9
        clear hput hb9
        refine wp_conv_d (d := some 89) rfl (y := .string Sx) rfl rfl hcv ?_
        have hH : Hid (Chg w19 w9 (fun k => k = gt ∨ k = gm ∨ k = g)) := Lib.hid (hH.out.trans (Chg.of_new B9.out _))
        refine ⟨hH, ?_⟩
        clear hcv
        (try simp only [Act.put, List.setIfInBounds_toArray, List.set_cons_zero, List.set_cons_succ])
        refine held_one (i := 12) (by kernel_rfl) rfl (by rfl) ?_
        go_simp
        refine PU9.out.mono ?_; rintro e w20 ⟨rfl, hb20, k20⟩
        have hH : Hid (Chg w19 w20 (fun k => k = gt ∨ k = gm ∨ k = g)) := Lib.hid (hH.out.trans k20)
        have BX20 := Lib.hid hb20
        clear hb20 k20 PU9
        refine ⟨hH, ?_⟩
        (try simp only [Act.put, List.setIfInBounds_toArray, List.set_cons_zero, List.set_cons_succ])
        refine held_take (i := 14) (d := (some 92)) (v := .bool false) rfl rfl (by kernel_rfl) (by kernel_rfl) (by kernel_rfl) (fun _ _ _ h => h) (by rfl) (by intro w' hSw; clear hSw; go_simp) hH ?_
        simp only [Act.put, List.setIfInBounds_toArray, List.set_cons_zero, List.set_cons_succ]
        refine wpAnyH_done (by kernel_rfl) ?_ _
        have MB := Lib.hid (MB19.out.chg hH.out (fun s => by have := GB.out; omega))
        have MR := Lib.hid (MR19.out.chg hH.out (fun x hx s => by have := MA.out x hx; omega))
        have BX := BX20
        clear hH BX20 MB19 MR19 BX19 BX19D c019 c119 hb19 nb19 EZ EN hpl
        obtain ⟨M, hM⟩ : ∃ M, M = N := ⟨_, rfl⟩
        subst hM
        obtain ⟨wz, hwz⟩ : ∃ wz, wz = w20 := ⟨_, rfl⟩
        subst hwz
        obtain ⟨rz, hrz⟩ : ∃ rz, rdy zs = rz := ⟨_, rfl⟩
        obtain ⟨hz, hhz⟩ : ∃ hz, held zs = hz := ⟨_, rfl⟩
        have RZ := Lib.hid hrz
        have HZ := Lib.hid hhz
        have ZL := Lib.hid (show zs.length = R from BX.out.buf.len)
        clear hrz hhz
        go_upto_region 21 with fail
        refine wp_region_held_drew (S := fun w' => Hid (Below wz.heap.size wz w')) (by kernel_rfl) (Lib.hid (below_drewN (Below.refl _ _) 1)) (fun hH => ?_)
        refine held_take (i := 0) (d := (some 93)) (v := ?_) rfl rfl (by kernel_rfl) (by kernel_rfl) (by kernel_rfl) (fun _ _ _ h => h) (by rfl) ?_ hH ?_
        rotate_left
        · intro w' hSw; (try dsimp only at hSw); go_simp <;> with_reducible rfl
        simp only [Act.put, List.setIfInBounds_toArray, List.set_cons_zero, List.set_cons_succ]
        refine held_take (i := 2) (d := (some 95)) (v := (.agg (dbV R M Az cz))) rfl rfl (by kernel_rfl) (by kernel_rfl) (by kernel_rfl) (fun _ _ _ h => h) (by rfl) (fun w' hSw => exec_load (y := .pointer (some ⟨gb, 0, none⟩)) rfl rfl (db_load (MB.out.older (older_below hSw.out)) rfl)) hH ?_
        simp only [Act.put, List.setIfInBounds_toArray, List.set_cons_zero, List.set_cons_succ]
        refine held_one (i := 1) (by kernel_rfl) rfl (by rfl) ?_
        go_simp
        refine (ready_any (BX.out.buf.new hH.out)).mono ?_; rw [RZ.out]; rintro e wq ⟨rfl, mq, hwq⟩
        have hH : Hid (Below wz.heap.size wz wq) := Lib.hid (by rw [hwq]; exact below_drewN hH.out mq)
        clear hwq
        refine ⟨hH, ?_⟩
        (try simp only [Act.put, List.setIfInBounds_toArray, List.set_cons_zero, List.set_cons_succ])
        refine held_one (i := 3) (by kernel_rfl) rfl (by rfl) ?_
        go_simp
        refine (refReady_any (N := M) (MR.out.new hH.out) ZL.out hR3).mono ?_; rw [RZ.out]; rintro e wq ⟨rfl, bq⟩
        have hH : Hid (Below wz.heap.size wz wq) := Lib.hid (hH.out.trans (bq.mono hH.out.size))
        clear bq
        refine ⟨hH, ?_⟩
        (try simp only [Act.put, List.setIfInBounds_toArray, List.set_cons_zero, List.set_cons_succ])
        refine held_take (i := 4) (d := (some 97)) (v := .bool false) rfl rfl (by kernel_rfl) (by kernel_rfl) (by kernel_rfl) (fun _ _ _ h => h) (by rfl) (by intro w' hSw; clear hSw; go_simp) hH ?_
        simp only [Act.put, List.setIfInBounds_toArray, List.set_cons_zero, List.set_cons_succ]
        refine held_take (i := 5) (d := (some 98)) (v := .bool false) rfl rfl (by kernel_rfl) (by kernel_rfl) (by kernel_rfl) (fun _ _ _ h => h) (by rfl) (by intro w' hSw; clear hSw; go_simp) hH ?_
        simp only [Act.put, List.setIfInBounds_toArray, List.set_cons_zero, List.set_cons_succ]
        refine held_take (i := 6) (d := (some 99)) (v := ?_) rfl rfl (by kernel_rfl) (by kernel_rfl) (by kernel_rfl) (fun _ _ _ h => h) (by rfl) ?_ hH ?_
        rotate_left
        · intro w' hSw; (try dsimp only at hSw); go_simp <;> with_reducible rfl
        simp only [Act.put, List.setIfInBounds_toArray, List.set_cons_zero, List.set_cons_succ]
        refine held_take (i := 8) (d := (some 101)) (v := ?_) rfl rfl (by kernel_rfl) (by kernel_rfl) (by kernel_rfl) (fun _ _ _ h => h) (by rfl) ?_ hH ?_
        rotate_left
        · intro w' hSw; (try dsimp only at hSw); go_simp <;> with_reducible rfl
        simp only [Act.put, List.setIfInBounds_toArray, List.set_cons_zero, List.set_cons_succ]
        refine held_take (i := 9) (d := (some 102)) (v := ?_) rfl rfl (by kernel_rfl) (by kernel_rfl) (by kernel_rfl) (fun _ _ _ h => h) (by rfl) ?_ hH ?_
        rotate_left
        · intro w' hSw; have z := ((MB.out.older (older_below hSw.out)).cell 1).trans (show _ = some (.int .i64 (M : Int)) from rfl); clear hSw; go_simp <;> with_reducible rfl
        simp only [Act.put, List.setIfInBounds_toArray, List.set_cons_zero, List.set_cons_succ]
        refine held_one (i := 7) (by kernel_rfl) rfl (by rfl) ?_
        go_simp
        refine (next_any (BX.out.buf.new hH.out)).mono ?_; rintro e wq ⟨rfl, hwq⟩
        have hH : Hid (Below wz.heap.size wz wq) := Lib.hid (by rw [hwq]; exact hH.out)
        clear hwq
        refine ⟨hH, ?_⟩
        (try simp only [Act.put, List.setIfInBounds_toArray, List.set_cons_zero, List.set_cons_succ])
        refine held_take (i := 10) (d := (some 103)) (v := .bool false) rfl rfl (by kernel_rfl) (by kernel_rfl) (by kernel_rfl) (fun _ _ _ h => h) (by rfl) (by intro w' hSw; clear hSw; go_simp) hH ?_
        simp only [Act.put, List.setIfInBounds_toArray, List.set_cons_zero, List.set_cons_succ]
        refine held_take (i := 11) (d := (some 104)) (v := .bool false) rfl rfl (by kernel_rfl) (by kernel_rfl) (by kernel_rfl) (fun _ _ _ h => h) (by rfl) (by intro w' hSw; clear hSw; go_simp) hH ?_
        simp only [Act.put, List.setIfInBounds_toArray, List.set_cons_zero, List.set_cons_succ]
        refine held_take (i := 12) (d := (some 105)) (v := .bool false) rfl rfl (by kernel_rfl) (by kernel_rfl) (by kernel_rfl) (fun _ _ _ h => h) (by rfl) (by intro w' hSw; clear hSw; go_simp) hH ?_
        simp only [Act.put, List.setIfInBounds_toArray, List.set_cons_zero, List.set_cons_succ]
        refine held_take (i := 13) (d := (some 106)) (v := ?_) rfl rfl (by kernel_rfl) (by kernel_rfl) (by kernel_rfl) (fun _ _ _ h => h) (by rfl) ?_ hH ?_
        rotate_left
        · intro w' hSw; (try dsimp only at hSw); go_simp <;> with_reducible rfl
        simp only [Act.put, List.setIfInBounds_toArray, List.set_cons_zero, List.set_cons_succ]
        refine held_take (i := 15) (d := (some 108)) (v := (.agg (dbV R M Az cz))) rfl rfl (by kernel_rfl) (by kernel_rfl) (by kernel_rfl) (fun _ _ _ h => h) (by rfl) (fun w' hSw => exec_load (y := .pointer (some ⟨gb, 0, none⟩)) rfl rfl (db_load (MB.out.older (older_below hSw.out)) rfl)) hH ?_
        simp only [Act.put, List.setIfInBounds_toArray, List.set_cons_zero, List.set_cons_succ]
        refine held_one (i := 14) (by kernel_rfl) rfl (by rfl) ?_
        go_simp
        refine (held_any (BX.out.buf.new hH.out)).mono ?_; rw [HZ.out]; rintro e wq ⟨rfl, hwq⟩
        have hH : Hid (Below wz.heap.size wz wq) := Lib.hid (by rw [hwq]; exact hH.out)
        clear hwq
        refine ⟨hH, ?_⟩
        (try simp only [Act.put, List.setIfInBounds_toArray, List.set_cons_zero, List.set_cons_succ])
        refine held_one (i := 16) (by kernel_rfl) rfl (by rfl) ?_
        go_simp
        refine (refHeld_any (N := M) (MR.out.new hH.out) ZL.out hR3).mono ?_; rw [HZ.out]; rintro e wq ⟨rfl, bq⟩
        have hH : Hid (Below wz.heap.size wz wq) := Lib.hid (hH.out.trans (bq.mono hH.out.size))
        clear bq
        refine ⟨hH, ?_⟩
        (try simp only [Act.put, List.setIfInBounds_toArray, List.set_cons_zero, List.set_cons_succ])
        refine held_take (i := 17) (d := (some 110)) (v := .bool false) rfl rfl (by kernel_rfl) (by kernel_rfl) (by kernel_rfl) (fun _ _ _ h => h) (by rfl) (by intro w' hSw; clear hSw; go_simp) hH ?_
        simp only [Act.put, List.setIfInBounds_toArray, List.set_cons_zero, List.set_cons_succ]
        refine held_take (i := 18) (d := (some 111)) (v := .bool false) rfl rfl (by kernel_rfl) (by kernel_rfl) (by kernel_rfl) (fun _ _ _ h => h) (by rfl) (by intro w' hSw; clear hSw; go_simp) hH ?_
        simp only [Act.put, List.setIfInBounds_toArray, List.set_cons_zero, List.set_cons_succ]
        refine wpAnyH_done (by kernel_rfl) ?_ _
        have BN := Lib.hid (BX.out.new hH.out)
        have MBN := Lib.hid (MB.out.older (older_below hH.out))
        have MRN := Lib.hid (MR.out.new hH.out)
        clear BX MB MR RZ HZ hH
        go_wp2
        go_roundw
        case rel => exact ⟨j + 1, M, zs, Az, cz, by omega, by omega, by go_num, BN, MBN, MRN, MA⟩
        case measure => simp [intOf]; omega
    · have hlt' : ¬ (j : Int) < (L : Int) := by omega
      go_wp2
      go_ret
      exact ⟨rfl, BX.out.below⟩

set_option maxRecDepth 100000 in
theorem lifted (os : Os) (started : os.Started) (H : Type) (enc : TypeId × Value → H) :
    ReturnsInHanded {} Try.checked os 3 .any (Rows.rasmPlaysSpec.pre6 enc Try.prog Try.f3 Rows.rasmPlaysRow.domain false) (Rows.rasmPlaysSpec.post enc Try.prog Try.f3 false true false false) := by
  refine returnsInHanded_of_change (C := Try.checked) own started (by kernel_rfl) Try.func3
    (ChangeSpec.witness6 (enc := enc) (C := Try.checked) false ⟨#[], #[.int .i64 0, .slice none 0 0], []⟩ 8 (by kernel_rfl) (by kernel_rfl) (by kernel_rfl) (by kernel_rfl)) ?_
  intro W base args ds gs before hval0 hW hcnd _
  have hval : ∀ (j : Nat) t v, Try.f3.params[j]? = some t → args[j]? = some v → Value.okWide Try.prog W .any base t v := hval0
  have hW' := hW
  obtain ⟨p, q, hA0, hV, rfl, hfz, hnd⟩ := hW
  have hA : DataW.TrodAll enc Try.prog W 0 (fun _ => true) true Try.f3.params.toList args.toList ds p := hA0
  rw [Try.params3] at hA hval
  obtain ⟨v0, vs0, d0, ds0, p0, q0, hargs, rfl, rfl, h0, r0⟩ := trodAll_cons hA
  obtain ⟨v1, vs1, d1, ds1, p1, q1, rfl, rfl, rfl, h1, r1⟩ := trodAll_cons r0
  obtain ⟨rfl, rfl, rfl⟩ := trodAll_nil r1
  obtain rfl : args = #[v0, v1] := by cases args; simp_all
  obtain ⟨a0, rfl, _, _, w0⟩ := open_int Try.underlying3 (hval 0 3 v0 rfl rfl) h0
  obtain ⟨A1, c1, l1, rfl, b1, k1⟩ := open_Act (hval 1 22 v1 rfl rfl) h1
  clear hA0 hval0
  exact law_close hW' laidOut (by kernel_rfl) rfl Try.underlying4 rfl ⟨rfl, rfl, rfl⟩ (walk W a0 w0 A1 c1 l1 b1 k1)

theorem over : Rows.rasmPlaysRow.holds Try.pinned (OpenSpec.ofChange Rows.rasmPlaysSpec) :=
  OpenClaim.holds_of_wide 3 Try.f3 rfl rfl rfl rfl rfl rfl rfl ⟨rfl, rfl, rfl, rfl, rfl⟩ rfl rfl rfl rfl rfl (by kernel_rfl) Try.func3 (by kernel_rfl)
    (of_decide_eq_true (by kernel_rfl)) (by unfold Func.isWrapper; first | (rw [if_pos (by decide +kernel)]; kernel_rfl) | (rw [if_neg (by decide +kernel)]; exact ⟨rfl, rfl⟩))
    (fun os started H enc _ => lifted os started H enc)

theorem proved : Rows.RasmPlaysSaid := over

end Go.Proofs.Ytikfoodlcmffdaa.rasmPlays
