/- Package seg: Head. Conditions: those that each states. -/
import Derived.Test.YtgemmciokioaiaaSg1
namespace Go.Proofs.Ytgemmciokioaiaa.Sg
open Go.ChangeShapes Go.WideShapes Go.ChangeAt Go.RowKit Go.Deep Rk Fl Gx
open Ip (wb vw vw_length vw_get wb_append wb_length be2 nb1 nb0 evs_word evs_snocw or16 tot tot_wb psW psW_small psW_bytes be_two be_four u8_eq)
set_option linter.unusedVariables false
set_option linter.unusedSimpArgs false

theorem rowG_own {w : World} {B b n c : Nat} {E : TypeId} {xs : List Value} (h : w.ownsRow B E 1 (.slice (some ⟨b, 0, none⟩) n c) n xs) : RowG w 1 (some ⟨b, 0, none⟩) n c xs := by
  obtain ⟨A, c', e, r, _⟩ := RowG.of_owns h
  cases e
  exact r
set_option maxRecDepth 100000 in
set_option maxHeartbeats 4000000 in
theorem head_bad (f t q a : Nat) (g : Int) (wi : Nat) (m : Int) (A : Option Addr) (n0 c0 : Nat) (s d x y : Nat) (n : Int) (hb : ckR g m n ≠ 0) (w : World) :
    Calls Try.prog 13 #[.agg (sgV f t q a g wi m A n0 c0), .int .u32 (s : Int), .int .u32 (d : Int), .complex .f64 x y, .int .i64 n] w fun e w' => e = .returned (.tuple #[.slice none 0 0, .int .i64 (ckR g m n)]) ∧ Below w.heap.size w w' := by
  have B1 := Lib.hid ((Below.refl w.heap.size w).alloc (Nat.le_refl _) (.cells (sgV f t q a g wi m A n0 c0) 32))
  have K1 := Lib.hid (Blk.new w 32 (sgV f t q a g wi m A n0 c0))
  have CK := Lib.hid (fun W => check_any f t q a g wi m A n0 c0 n W)
  generalize ckR g m n = er at *
  have hb' : (er == 0) = false := by simpa using hb
  go_enter Try.func13, Try.ntmps13
  go_upto_region 1 with fail
  generalize w.alloc (.cells (sgV f t q a g wi m A n0 c0) 32) = W at *
  have z0 := (K1.out.cell 0).trans (show _ = some (.int .u16 (f : Int)) from rfl)
  have z1 := (K1.out.cell 1).trans (show _ = some (.int .u16 (t : Int)) from rfl)
  have z2 := (K1.out.cell 2).trans (show _ = some (.int .u32 (q : Int)) from rfl)
  have z3 := (K1.out.cell 3).trans (show _ = some (.int .u32 (a : Int)) from rfl)
  have z4 := (K1.out.cell 4).trans (show _ = some (.int .i64 g) from rfl)
  have z5 := (K1.out.cell 5).trans (show _ = some (.int .u16 (wi : Int)) from rfl)
  have z6 := (K1.out.cell 6).trans (show _ = some (.int .i64 m) from rfl)
  have z7 := (K1.out.cell 7).trans (show _ = some (.slice A n0 c0) from rfl)
  go_wp2_with fail
  refine (CK.out W).mono ?_; rintro e w1 ⟨rfl, b1⟩
  have B2 := Lib.hid (B1.out.trans (b1.mono B1.out.size))
  go_wp2
  go_ret2
  exact ⟨rfl, B2.out⟩

set_option maxRecDepth 100000 in
set_option maxHeartbeats 4000000 in
theorem head_nopart (f t q a : Nat) (g : Int) (wi : Nat) (m : Int) (A : Option Addr) (n0 c0 : Nat) (s d x y : Nat) (n : Int) (hb : ckR g m n = 0) (hs : smB x y = false) (w : World) :
    Calls Try.prog 13 #[.agg (sgV f t q a g wi m A n0 c0), .int .u32 (s : Int), .int .u32 (d : Int), .complex .f64 x y, .int .i64 n] w fun e w' => e = .returned (.tuple #[.slice none 0 0, .int .i64 1]) ∧ Below w.heap.size w w' := by
  have B1 := Lib.hid ((Below.refl w.heap.size w).alloc (Nat.le_refl _) (.cells (sgV f t q a g wi m A n0 c0) 32))
  have K1 := Lib.hid (Blk.new w 32 (sgV f t q a g wi m A n0 c0))
  have CK := Lib.hid (fun W => check_any f t q a g wi m A n0 c0 n W)
  rw [hb] at CK
  have FO := Lib.hid (fun W => fold_bad x y W hs)
  clear hb hs
  go_enter Try.func13, Try.ntmps13
  go_upto_region 1 with fail
  generalize w.alloc (.cells (sgV f t q a g wi m A n0 c0) 32) = W at *
  have z0 := (K1.out.cell 0).trans (show _ = some (.int .u16 (f : Int)) from rfl)
  have z1 := (K1.out.cell 1).trans (show _ = some (.int .u16 (t : Int)) from rfl)
  have z2 := (K1.out.cell 2).trans (show _ = some (.int .u32 (q : Int)) from rfl)
  have z3 := (K1.out.cell 3).trans (show _ = some (.int .u32 (a : Int)) from rfl)
  have z4 := (K1.out.cell 4).trans (show _ = some (.int .i64 g) from rfl)
  have z5 := (K1.out.cell 5).trans (show _ = some (.int .u16 (wi : Int)) from rfl)
  have z6 := (K1.out.cell 6).trans (show _ = some (.int .i64 m) from rfl)
  have z7 := (K1.out.cell 7).trans (show _ = some (.slice A n0 c0) from rfl)
  go_wp2_with fail
  refine (CK.out W).mono ?_; rintro e w1 ⟨rfl, b1⟩
  have B2 := Lib.hid (B1.out.trans (b1.mono B1.out.size))
  go_wp2_with fail
  refine (FO.out _).mono ?_; rintro e wq ⟨rfl, rfl⟩
  go_wp2
  go_ret2
  exact ⟨rfl, B2.out⟩

set_option maxRecDepth 100000 in
set_option maxHeartbeats 8000000 in
theorem head_ok (f t q a g wi m : Nat) (h : Sk f t q a g wi m) (A : Option Addr) (n0 c0 : Nat) (s d x y : Nat) (hs : s ≤ 4294967295) (hd : d ≤ 4294967295) (n : Nat) (hn : n ≤ 900) (F : Nat) (hF : F ≤ 65535)
    (hfo : ∀ W, Calls Try.prog 22 #[.complex .f64 x y] W fun e w' => e = .returned (.tuple #[.int .u16 (F : Int), .int .i64 0]) ∧ W = w') (w : World) :
    Calls Try.prog 13 #[.agg (sgV f t q a (g : Int) wi (m : Int) A n0 c0), .int .u32 (s : Int), .int .u32 (d : Int), .complex .f64 x y, .int .i64 (n : Int)] w fun e w' => (∃ b c', e = .returned (.tuple #[.slice (some ⟨b, 0, none⟩) (sgL m) c', .int .i64 0]) ∧ OwnB w' w.heap.size b (sgL m) c' (sgB s d f t q a g wi m n F)) ∧ Below w.heap.size w w' := by
  have B1 := Lib.hid ((Below.refl w.heap.size w).alloc (Nat.le_refl _) (.cells (sgV f t q a (g : Int) wi (m : Int) A n0 c0) 32))
  have K1 := Lib.hid (Blk.new w 32 (sgV f t q a (g : Int) wi (m : Int) A n0 c0))
  have CK := Lib.hid (fun W => check_any f t q a (g : Int) wi (m : Int) A n0 c0 (n : Int) W)
  rw [show ckR (g : Int) (m : Int) (n : Int) = 0 from by unfold ckR fmB; rw [decide_eq_true (by have := h.g; have := h.m; omega), if_pos rfl, if_pos (by omega)]] at CK
  have FO := Lib.hid hfo
  have WS := Lib.hid (fun W => wordsOf_any f t q a g wi m h A n0 c0 W)
  have SM := Lib.hid (fun k hk => sgW_small (k := k) h hk)
  have SE := Lib.hid (show ∀ k, (sgW f t q a g wi m 0).set 8 k = sgW f t q a g wi m k from fun k => rfl)
  have hL := sgW_length f t q a g wi m 0
  have E8 := Lib.hid (show (vw (sgW f t q a g wi m 0))[8]? = some (.int .u16 0) from rfl)
  have IH := Lib.hid (show sgB s d f t q a g wi m n F = wb (sgW f t q a g wi m (sgS s d f t q a g wi m n F)) from rfl)
  have hk := sgS_le s d f t q a g wi m n F
  have eS := Lib.hid (show sgS s d f t q a g wi m n F = 65535 - fo (tot (wb (psW s d 6 (sgL m + n))) + tot (wb (sgW f t q a g wi m 0)) + F) from rfl)
  have hll := sgL_le m
  have hlk := fun k => (show (sgW f t q a g wi m k).length = (sgW f t q a g wi m 0).length from rfl)
  generalize sgS s d f t q a g wi m n F = k at *
  have LK := Lib.hid (hlk k)
  have SE := Lib.hid (SE.out k)
  have SK := Lib.hid (SM.out k hk)
  have S0 := Lib.hid (SM.out 0 (Nat.zero_le _))
  generalize sgW f t q a g wi m k = wk at *
  generalize hW0 : sgW f t q a g wi m 0 = ws at *
  generalize sgL m = lm at *
  obtain ⟨L, hL0⟩ : ∃ L, ws.length = L := ⟨_, rfl⟩
  have PC := Lib.hid (fun b c (W : World) (r : RowG W 1 (some ⟨b, 0, none⟩) ws.length c (vw ws)) => partOf_any (some ⟨b, 0, none⟩) c ws W r S0.out (by omega))
  have hpl := evs_le (wb (psW s d 6 (lm + n)))
  rw [wb_length] at hpl
  have hpl : evs (wb (psW s d 6 (lm + n))) + ods (wb (psW s d 6 (lm + n))) ≤ 255 * (2 * 6) := hpl
  have hwl := evs_le (wb ws)
  rw [wb_length] at hwl
  have PS := Lib.hid (fun W => show Calls Try.prog 24 #[.int .u32 (s : Int), .int .u32 (d : Int), .int .u8 6, .int .i64 (2 * (L : Int) + (n : Int))] W (fun e w' => e = .returned (.complex .f64 (fl (evs (wb (psW s d 6 (lm + n))))) (fl (ods (wb (psW s d 6 (lm + n)))))) ∧ Below W.heap.size W w') from by
    have := Ip.pseudo_any s d 6 (lm + n) hs hd (by omega) (by omega) W
    rw [show ((lm + n : Nat) : Int) = 2 * (L : Int) + (n : Int) from by omega] at this
    exact this)
  have eS : k = 65535 - fo (256 * (evs (wb (psW s d 6 (lm + n))) + evs (wb ws) + F / 256) + (ods (wb (psW s d 6 (lm + n))) + ods (wb ws) + F % 256)) := by
    rw [eS.out]
    congr 2
    unfold tot
    omega
  generalize evs (wb (psW s d 6 (lm + n))) = e1 at *
  generalize ods (wb (psW s d 6 (lm + n))) = o1 at *
  generalize evs (wb ws) = e2 at *
  generalize ods (wb ws) = o2 at *
  have hz1 : ∀ w, (binOp .add 40 (.complex .f64 (fl (e1 : Int)) (fl (o1 : Int))) (.complex .f64 (fl (e2 : Int)) (fl (o2 : Int)))).run Try.prog w = .ok (.complex .f64 (fl ((e1 : Int) + e2)) (fl ((o1 : Int) + o2))) w := cadd_fl (a := e1) (b := o1) (c := e2) (d := o2) 40 (by omega) (by omega) (by omega) (by omega) (by omega) (by omega)
  have hz2 : ∀ w, (binOp .add 40 (.complex .f64 (fl ((e1 : Int) + e2)) (fl ((o1 : Int) + o2))) (.complex .f64 (fl ((F / 256 : Nat) : Int)) (fl ((F % 256 : Nat) : Int)))).run Try.prog w = .ok (.complex .f64 (fl ((e1 : Int) + e2 + (F / 256 : Nat))) (fl ((o1 : Int) + o2 + (F % 256 : Nat)))) w := cadd_fl (a := (e1 : Int) + e2) (b := (o1 : Int) + o2) (c := (F / 256 : Nat)) (d := (F % 256 : Nat)) 40 (by omega) (by omega) (by omega) (by omega) (by omega) (by omega)
  have HZ2 := Lib.hid hz2
  have WD := Lib.hid (fun W => word_any F hF W)
  have SU := Lib.hid (fun W => show Calls Try.prog 27 #[.complex .f64 (fl ((e1 : Int) + e2 + (F / 256 : Nat))) (fl ((o1 : Int) + o2 + (F % 256 : Nat)))] W (fun e w' => e = .returned (.tuple #[.int .u16 (k : Int), .int .i64 0]) ∧ W = w') from by
    have hr1 := (read_fl (v := (e1 : Int) + e2 + (F / 256 : Nat)) (by omega)).rep
    have hr2 := (read_fl (v := (o1 : Int) + o2 + (F % 256 : Nat)) (by omega)).rep
    rw [eS]
    exact sum_ok _ _ (e1 + e2 + F / 256) (o1 + o2 + F % 256) W (by rw [show ((e1 + e2 + F / 256 : Nat) : Int) = (e1 : Int) + e2 + (F / 256 : Nat) from by omega]; exact hr1) (by rw [show ((o1 + o2 + F % 256 : Nat) : Int) = (o1 : Int) + o2 + (F % 256 : Nat) from by omega]; exact hr2) (by omega) (by omega))
  obtain ⟨x1, hx1⟩ : ∃ x1, fl ((F / 256 : Nat) : Int) = x1 := ⟨_, rfl⟩
  obtain ⟨y1, hy1⟩ : ∃ y1, fl ((F % 256 : Nat) : Int) = y1 := ⟨_, rfl⟩
  rw [hx1, hy1] at WD hz2 HZ2
  obtain ⟨x2, hx2⟩ : ∃ x2, fl ((e1 : Int) + e2) = x2 := ⟨_, rfl⟩
  obtain ⟨y2, hy2⟩ : ∃ y2, fl ((o1 : Int) + o2) = y2 := ⟨_, rfl⟩
  rw [hx2, hy2] at hz1 hz2
  obtain ⟨x3, hx3⟩ : ∃ x3, fl ((e1 : Int) + e2 + (F / 256 : Nat)) = x3 := ⟨_, rfl⟩
  obtain ⟨y3, hy3⟩ : ∃ y3, fl ((o1 : Int) + o2 + (F % 256 : Nat)) = y3 := ⟨_, rfl⟩
  rw [hx3, hy3] at hz2 SU
  generalize fl (e1 : Int) = x4 at *
  generalize fl (o1 : Int) = y4 at *
  generalize fl (e2 : Int) = x5 at *
  generalize fl (o2 : Int) = y5 at *
  clear HZ2 hx1 hy1 hx2 hy2 hx3 hy3 eS hpl hwl SM hfo hlk E8 hF h
  have E8 := Lib.hid (show (vw ws)[8]? = some (.int .u16 0) from by rw [← hW0]; rfl)
  clear hW0
  have L12 : L ≤ 12 := by omega
  have L8 : 8 < L := by omega
  have xL := IntWalk.i64_in (2 * (L : Int)) (by omega)
  have xN := IntWalk.i64_in (2 * (L : Int) + (n : Int)) (by omega)
  rw [hL0] at hL
  rw [hL0] at WS PC LK
  have HL := Lib.hid hL
  have HL0 := Lib.hid hL0
  clear hL hL0 hll
  go_enter Try.func13, Try.ntmps13
  go_upto_region 1 with fail
  generalize w.alloc (.cells (sgV f t q a (g : Int) wi (m : Int) A n0 c0) 32) = W at *
  have z0 := (K1.out.cell 0).trans (show _ = some (.int .u16 (f : Int)) from rfl)
  have z1 := (K1.out.cell 1).trans (show _ = some (.int .u16 (t : Int)) from rfl)
  have z2 := (K1.out.cell 2).trans (show _ = some (.int .u32 (q : Int)) from rfl)
  have z3 := (K1.out.cell 3).trans (show _ = some (.int .u32 (a : Int)) from rfl)
  have z4 := (K1.out.cell 4).trans (show _ = some (.int .i64 (g : Int)) from rfl)
  have z5 := (K1.out.cell 5).trans (show _ = some (.int .u16 (wi : Int)) from rfl)
  have z6 := (K1.out.cell 6).trans (show _ = some (.int .i64 (m : Int)) from rfl)
  have z7 := (K1.out.cell 7).trans (show _ = some (.slice A n0 c0) from rfl)
  go_wp2_with fail
  refine (CK.out W).mono ?_; rintro e w1 ⟨rfl, b1⟩
  have B2 := Lib.hid (B1.out.trans (b1.mono B1.out.size))
  have K2 := Lib.hid (K1.out.older (older_below b1))
  clear b1 B1 K1 CK z0 z1 z2 z3 z4 z5 z6 z7
  go_wp2_with fail
  refine (FO.out _).mono ?_; rintro e wq ⟨rfl, rfl⟩
  have z0 := (K2.out.cell 0).trans (show _ = some (.int .u16 (f : Int)) from rfl)
  have z1 := (K2.out.cell 1).trans (show _ = some (.int .u16 (t : Int)) from rfl)
  have z2 := (K2.out.cell 2).trans (show _ = some (.int .u32 (q : Int)) from rfl)
  have z3 := (K2.out.cell 3).trans (show _ = some (.int .u32 (a : Int)) from rfl)
  have z4 := (K2.out.cell 4).trans (show _ = some (.int .i64 (g : Int)) from rfl)
  have z5 := (K2.out.cell 5).trans (show _ = some (.int .u16 (wi : Int)) from rfl)
  have z6 := (K2.out.cell 6).trans (show _ = some (.int .i64 (m : Int)) from rfl)
  have z7 := (K2.out.cell 7).trans (show _ = some (.slice A n0 c0) from rfl)
  go_wp2_with fail
  refine (WS.out w1).mono ?_; rintro e w2 ⟨⟨b, c', rfl, ow⟩, b2⟩
  have B3 := Lib.hid (B2.out.trans (b2.mono B2.out.size))
  unfold OwnW at ow
  rw [HL0.out] at ow
  have OW := Lib.hid (show w2.ownsRow w.heap.size 22 1 (.slice (some ⟨b, 0, none⟩) L c') L (vw ws) from owns_mono ow B2.out.size)
  clear b2 B2 K2 WS FO ow z0 z1 z2 z3 z4 z5 z6 z7
  go_wp2_with fail
  refine (PS.out w2).mono ?_; rintro e w3 ⟨rfl, b3⟩
  have B4 := Lib.hid (B3.out.trans (b3.mono B3.out.size))
  have OW3 := Lib.hid (show w3.ownsRow w.heap.size 22 1 (.slice (some ⟨b, 0, none⟩) L c') L (vw ws) from OW.out.kept (grown_of_below b3 none) (.inr (by simp [Value.ownBlock])))
  have HB := Lib.hid (show w.heap.size ≤ b from (OW.out.lt b rfl).1)
  clear b3 B3 OW PS
  have PO := PC.out b c' w3 (rowG_own OW3.out)
  clear PC
  go_wp2_with fail
  refine PO.mono ?_; rintro e wq ⟨rfl, rfl⟩
  clear PO
  go_wp2_with fail
  refine (WD.out _).mono ?_; rintro e wq ⟨rfl, rfl⟩
  go_wp2_with fail
  refine (SU.out _).mono ?_; rintro e wq ⟨rfl, rfl⟩
  clear SU WD hz1 hz2
  have c8 := (OW3.out.cellAt 8 (by omega)).trans E8.out
  have f8 := OW3.out.frozenAt 8
  have O4 := Lib.hid (OW3.out.stored 8 (.int .u16 (k : Int))).1
  rw [show (vw ws).set 8 (.int .u16 (k : Int)) = vw wk from by rw [← SE.out]; simp [vw]] at O4
  have B5 := Lib.hid (B4.out.setCell (p := ⟨b, 8, none⟩) HB.out (.int .u16 (k : Int)))
  clear B4 OW3
  go_upto_region 12 with fail
  generalize w3.setCell ⟨b, 8, none⟩ (.int .u16 (k : Int)) = w4 at *
  clear c8 f8 E8 SE S0
  have hmk : ∀ W, (Instr.makeSlice 27 (.int .i64 0) (.int .i64 (2 * (L : Int) + (n : Int)))).run Try.prog W = .ok (.slice (some ⟨W.heap.size, 0, none⟩) 0 (2 * L + n)) (W.alloc (.cells (madeCells #[.int .u8 0] (2 * L + n)) 5)) := fun W => by
    have := make_bytes (2 * L + n) (by omega) W
    rw [show ((2 * L + n : Nat) : Int) = 2 * (L : Int) + (n : Int) from by omega] at this
    exact this
  have hown := Lib.hid (World.ownsRow_made (base := w4.heap.size) (e := 5) (size := 1) w4 (madeCells #[.int .u8 0] (2 * L + n)) (2 * L + n) (Nat.le_refl _) (by unfold maxLen; omega) (by rw [size_madeCells]; simp))
  have b6 : Below w4.heap.size w4 (w4.alloc (.cells (madeCells #[.int .u8 0] (2 * L + n)) 5)) := (Below.refl _ w4).alloc (Nat.le_refl _) _
  have B6 := Lib.hid b6
  have RG := Lib.hid (show RowG w4 1 (some ⟨b, 0, none⟩) L c' (vw wk) from rowG_own O4.out)
  clear b6 O4
  go_upto_region 13 with fail
  generalize w4.alloc (.cells (madeCells #[.int .u8 0] (2 * L + n)) 5) = w5 at *
  clear hmk xN
  go_wp2_with fail
  go_loopw [17, 68] (fun v j wr => ∃ i : Nat, i ≤ L ∧ j = .int .i64 (i : Int) ∧ Hid (wr.ownsRow w4.heap.size 5 1 v (2 * i) (bys (wb (wk.take i)))) ∧ Hid (Below w4.heap.size w4 wr)) (fun _ j _ => L - (intOf j).toNat)
  case atStart => exact ⟨0, Nat.zero_le _, rfl, hown, B6⟩
  case round =>
    obtain ⟨i, hi, rfl, OW, BL⟩ := hrel
    clear hown B6
    by_cases hlt : i < L
    · have hlt' : (i : Int) < (L : Int) := by omega
      have hil : i < wk.length := by rw [LK.out]; exact hlt
      have hx := SK.out wk[i] (List.getElem_mem hil)
      obtain ⟨bb, oo, hA, hbl, hc⟩ := (RG.out.new BL.out).cell (j := i) (by rw [vw_length]; exact hil)
      rw [vw_get _ hil] at hc
      simp only [Option.some.injEq, Addr.mk.injEq, and_true] at hA
      obtain ⟨rfl, rfl⟩ := hA
      rw [Nat.zero_add] at hc
      clear hbl
      have TK := Lib.hid (show wb (wk.take (i + 1)) = wb (wk.take i) ++ [nb wk[i] 1, nb wk[i] 0] from by rw [List.take_succ_eq_append_getElem hil, wb_append]; rfl)
      generalize wk[i] = xx at *
      have xj := IntWalk.i64_in ((i : Int) + 1) (by omega)
      have u1 := IntWalk.u8_in ((xx : Int) / 256) (by omega)
      have hc1 : (xx : Int) / 256 = ((nb xx 1).toNat : Int) := by rw [nb1 hx]; omega
      have hc0 : (xx : Int) % 256 = ((nb xx 0).toNat : Int) := by rw [nb0]; omega
      generalize nb xx 1 = v1 at *
      generalize nb xx 0 = v0 at *
      have hs1 := Lib.hid (show Src (wr.alloc (.cells #[.int .u8 (v1.toNat : Int), .int .u8 (v0.toNat : Int)] 5)) (some ⟨wr.heap.size, 0, none⟩) 2 2 [v1, v0] from src_new wr [v1, v0] (by simp))
      have ho1 := Lib.hid (OW.out.alloc (.cells #[.int .u8 (v1.toNat : Int), .int .u8 (v0.toNat : Int)] 5))
      have B7 := Lib.hid (BL.out.alloc BL.out.size (.cells #[.int .u8 (v1.toNat : Int), .int .u8 (v0.toNat : Int)] 5))
      have S7 := Lib.hid B7.out.size
      go_wp2_with (at_builtin; refine Hid.out ?_)
      unfold Hid
      refine wpList_append_src rfl _ _ rfl w4.heap.size _ (2 * i) (wb (wk.take i)) rfl ho1.out _ 2 2 [v1, v0] rfl hs1.out (by omega) S7.out ?_
      intro v3 w8 h31 h32
      have B8 := Lib.hid (B7.out.trans h32)
      have h31 := Lib.hid h31
      clear h32 hs1 ho1 BL OW B7 hc1 hc0 u1
      go_wp2
      go_roundw
      case rel => exact ⟨i + 1, by omega, by go_num, Lib.hid (by rw [TK.out]; exact h31.out), B8⟩
      case measure => simp [intOf]; omega
    · have hlt' : ¬ (i : Int) < (L : Int) := by omega
      obtain rfl : i = L := by omega
      have ht : wk.take i = wk := List.take_of_length_le (by rw [LK.out]; exact Nat.le_refl _)
      have OW := OW.out
      rw [ht, HL.out] at OW
      obtain ⟨g2, c2, rfl, O⟩ := OwnB.of OW (by have := HL.out; omega)
      have O := Lib.hid (ownB_mono O B5.out.size)
      have B9 := Lib.hid (B5.out.trans (BL.out.mono B5.out.size))
      clear OW ht
      go_wp2
      go_ret2
      exact ⟨⟨g2, c2, rfl, by rw [IH.out]; exact O.out⟩, B9.out⟩
end Go.Proofs.Ytgemmciokioaiaa.Sg
