/- Package eth: ParseARP. Conditions: those that each states. -/
import Derived.Test.YtahmdogpnojcpaaEt3
namespace Go.Proofs.Ytahmdogpnojcpaa.Et
open Go.ChangeShapes Go.WideShapes Go.ChangeAt Go.RowKit Go.Deep Rk Es
set_option linter.unusedVariables false

/-- A number that stands in bytes. -/
def at2 (l : List UInt8) (i k : Nat) : Nat := numB ((l.drop i).take k)
theorem at2_lt (l : List UInt8) (i k : Nat) : at2 l i k < 256 ^ k := by
  have h := numB_lt256 ((l.drop i).take k)
  exact Nat.lt_of_lt_of_le h (Nat.pow_le_pow_right (by omega) (by simp; omega))
theorem at2_take (l : List UInt8) (i k m : Nat) (h : i + k ≤ m) : at2 (l.take m) i k = at2 l i k := by
  unfold at2
  rw [List.drop_take, List.take_take, Nat.min_eq_left (by omega)]
theorem at2_numS (l : List UInt8) (i k : Nat) (h1 : 1 ≤ k) (h8 : k ≤ 8) (hl : i + k ≤ l.length) : numS (l.drop i, 0) (k : Int) = (at2 l i k, (l.drop (i + k), 0)) := by
  rw [numS_ok (l.drop i) k h1 h8 (by simp only [List.length_drop]; omega), List.drop_drop]; rfl
def arOp (l : List UInt8) : Int := (at2 l 6 2 : Nat)
/-- Whether bytes begin with a message. -/
def arOk (l : List UInt8) : Bool := decide (28 ≤ l.length) && (decide (l.take 6 = arHead) && decide (arOp l = 1 ∨ arOp l = 2))
abbrev ar0 : Array Value := #[.int .i64 0, .int .u64 0, .int .u32 0, .int .u64 0, .int .u32 0]
/-- What ParseARP tells of bytes l. -/
def ArTold (e : Ending) (l : List UInt8) : Prop :=
  (arOk l = false ∧ e = .returned (.tuple #[.agg ar0, .int .i64 50])) ∨
  (arOk l = true ∧ e = .returned (.tuple #[.agg (arV (arOp l) (at2 l 8 6) (at2 l 14 4) (at2 l 18 6) (at2 l 24 4)), .int .i64 0]))
theorem head_iff (l : List UInt8) (h : 28 ≤ l.length) : l.take 6 = arHead ↔ (at2 l 0 2 = 1 ∧ at2 l 2 2 = 2048 ∧ at2 l 4 1 = 6 ∧ at2 l 5 1 = 4) := by
  obtain ⟨a, b, c, d, x, y, r, rfl⟩ : ∃ a b c d x y r, l = a :: b :: c :: d :: x :: y :: r := by
    match l, h with
    | a :: b :: c :: d :: x :: y :: r, _ => exact ⟨a, b, c, d, x, y, r, rfl⟩
  have ha := a.toNat_lt
  have hb := b.toNat_lt
  have hc := c.toNat_lt
  have hd := d.toNat_lt
  have hx := x.toNat_lt
  have hy := y.toNat_lt
  have key : ∀ (u : UInt8) (n : Nat), n < 256 → (u = UInt8.ofNat n ↔ u.toNat = n) := fun u n hn => by
    constructor
    · rintro rfl; rw [UInt8.toNat_ofNat', Nat.mod_eq_of_lt (by omega)]
    · intro e; rw [← e]; simp
  have k0 := key a 0 (by omega)
  have k1 := key b 1 (by omega)
  have k2 := key c 8 (by omega)
  have k3 := key d 0 (by omega)
  have k4 := key x 6 (by omega)
  have k5 := key y 4 (by omega)
  simp only [at2, numB, List.drop_zero, List.take_succ_cons, List.take_zero, List.drop_succ_cons, List.foldl_cons, List.foldl_nil, arHead, List.cons.injEq, and_true]
  rw [show (0 : UInt8) = UInt8.ofNat 0 from rfl, show (1 : UInt8) = UInt8.ofNat 1 from rfl, show (8 : UInt8) = UInt8.ofNat 8 from rfl, show (6 : UInt8) = UInt8.ofNat 6 from rfl, show (4 : UInt8) = UInt8.ofNat 4 from rfl, k0, k1, k2, k3, k4, k5]
  omega

set_option maxRecDepth 100000 in
set_option maxHeartbeats 4000000 in
theorem parseARP_any (A : Option Addr) (n c : Nat) (l : List UInt8) (w : World) (hs : Src w A n c l) (hn : n ≤ 1000000) :
    Calls Try.prog 19 #[.slice A n c] w fun e w' => ArTold e l ∧ Below w.heap.size w w' := by
  have b1 : Below w.heap.size w (w.alloc (.cells ar0 45)) := (Below.refl _ w).alloc (Nat.le_refl _) _
  have BW := Lib.hid b1
  have KW := Lib.hid (Blk.new w 45 ar0)
  have S1 := Lib.hid (hs.alloc (.cells ar0 45))
  have hl := hs.len
  have hcap := hs.cap
  subst hl
  clear b1 hs
  obtain ⟨W, hW⟩ : ∃ W, w.alloc (.cells ar0 45) = W := ⟨_, rfl⟩
  rw [hW] at KW S1 BW
  have HW := Lib.hid hW
  have z1 := Lib.hid (show W.heap.size = w.heap.size + 1 from by rw [← hW]; simp)
  clear hW
  by_cases h1 : (l.length : Int) < 28
  · have NO := Lib.hid (show arOk l = false from by unfold arOk; rw [decide_eq_false (by omega)]; rfl)
    go_enter Try.func19, Try.ntmps19
    go_upto_region 1 with fail
    rw [HW.out]
    have KZ := Lib.hid (below_setRow BW.out (Nat.le_refl w.heap.size) ar0)
    go_wp2_with (first
      | (refine wpList_store_row rfl 45 (.tmp 2) (.tmp 9) rfl w.heap.size ar0 rfl rfl 45 _ KW.out ar_info rfl (by simp [Value.oneCell']) ?_)
      | fail)
    refine bodyPost_ret (v := .tuple #[.agg ar0, .int .i64 50]) ?_ rfl ?_
    · exact results_cell_tmp Try.results19 _ _ w.heap.size 45 _ (0, 0) _ rfl (KW.out.row _) Try.underlying45 rfl ar_info
    exact ⟨.inl ⟨NO.out, rfl⟩, KZ.out⟩
  · obtain ⟨Q, hQ⟩ : ∃ Q, l.take 28 = Q := ⟨_, rfl⟩
    have hQl : Q.length = 28 := by rw [← hQ]; simp; omega
    have EQ := Lib.hid (show ∀ i k, i + k ≤ 28 → at2 Q i k = at2 l i k from fun i k h => by rw [← hQ]; exact at2_take l i k 28 h)
    have S2 := S1.out.toBytes.take (k := 28) (by omega)
    rw [hQ] at S2
    have S2 := Lib.hid (show Src W A 28 c Q from ⟨S2, S1.out.none_⟩)
    have HI := Lib.hid (head_iff l (by omega))
    have L28 := Lib.hid (show decide (28 ≤ l.length) = true from by simp; omega)
    have c28 : (28 : Int) ≤ (c : Int) := by omega
    have n28 : (28 : Int) ≤ (l.length : Int) := by omega
    have F1 := Lib.hid (show numS (Q.drop 0, 0) 2 = (at2 Q 0 2, (Q.drop 2, 0)) from at2_numS Q 0 2 (by omega) (by omega) (by omega))
    have F2 := Lib.hid (show numS (Q.drop 2, 0) 2 = (at2 Q 2 2, (Q.drop 4, 0)) from at2_numS Q 2 2 (by omega) (by omega) (by omega))
    have F3 := Lib.hid (show numS (Q.drop 4, 0) 1 = (at2 Q 4 1, (Q.drop 5, 0)) from at2_numS Q 4 1 (by omega) (by omega) (by omega))
    have F4 := Lib.hid (show numS (Q.drop 5, 0) 1 = (at2 Q 5 1, (Q.drop 6, 0)) from at2_numS Q 5 1 (by omega) (by omega) (by omega))
    have F5 := Lib.hid (show numS (Q.drop 6, 0) 2 = (at2 Q 6 2, (Q.drop 8, 0)) from at2_numS Q 6 2 (by omega) (by omega) (by omega))
    have F6 := Lib.hid (show numS (Q.drop 8, 0) 6 = (at2 Q 8 6, (Q.drop 14, 0)) from at2_numS Q 8 6 (by omega) (by omega) (by omega))
    have F7 := Lib.hid (show numS (Q.drop 14, 0) 4 = (at2 Q 14 4, (Q.drop 18, 0)) from at2_numS Q 14 4 (by omega) (by omega) (by omega))
    have F8 := Lib.hid (show numS (Q.drop 18, 0) 6 = (at2 Q 18 6, (Q.drop 24, 0)) from at2_numS Q 18 6 (by omega) (by omega) (by omega))
    have F9 := Lib.hid (show numS (Q.drop 24, 0) 4 = (at2 Q 24 4, (Q.drop 28, 0)) from at2_numS Q 24 4 (by omega) (by omega) (by omega))
    have V1 := Lib.hid (EQ.out 0 2 (by omega))
    have V2 := Lib.hid (EQ.out 2 2 (by omega))
    have V3 := Lib.hid (EQ.out 4 1 (by omega))
    have V4 := Lib.hid (EQ.out 5 1 (by omega))
    have V5 := Lib.hid (EQ.out 6 2 (by omega))
    have V6 := Lib.hid (EQ.out 8 6 (by omega))
    have V7 := Lib.hid (EQ.out 14 4 (by omega))
    have V8 := Lib.hid (EQ.out 18 6 (by omega))
    have V9 := Lib.hid (EQ.out 24 4 (by omega))
    clear S1 hQ hQl
    go_enter Try.func19, Try.ntmps19
    go_upto_region 1 with fail
    rw [HW.out]
    clear HW
    go_wp2_with fail
    refine (newS_any A 28 c Q W S2.out (by omega)).mono ?_
    rintro e w0 ⟨g, rfl, e2, hg, b2⟩
    have B0 := Lib.hid (BW.out.trans (b2.mono BW.out.size))
    have K0 := Lib.hid (KW.out.older (older_below b2))
    have NG := Lib.hid (show ¬ w.heap.size = g from by have := z1.out; omega)
    have WG := Lib.hid (show w.heap.size ≤ g from by have := z1.out; omega)
    have E0 := Lib.hid (show EyeS w0 g (Q.drop 0, 0) from e2)
    clear b2 e2 S2 BW KW
    go_wp2_with fail
    refine (numS_any g _ 2 _ E0.out).mono ?_
    rw [F1.out]
    rintro e w1 ⟨rfl, e1, k1⟩
    have B1 := Lib.hid (chg_below B0.out k1 WG.out)
    have K1 := Lib.hid (K0.out.chg k1 NG.out)
    have E1 := Lib.hid (show EyeS w1 g (Q.drop 2, 0) from e1)
    clear e1 k1 E0 B0 K0
    by_cases hv : (at2 Q 0 2 : Int) = 1
    rotate_left
    · have NO := Lib.hid (show arOk l = false from by
        unfold arOk
        rw [decide_eq_false (p := l.take 6 = arHead) (fun h => hv (by have := ((HI.out.1 h).1); rw [V1.out]; omega))]
        simp)
      have hne : ((at2 Q 0 2 : Int) != 1) = true := by simpa using hv
      clear hv
      generalize (at2 Q 0 2 : Nat) = v at *
      have KZ := Lib.hid (below_setRow B1.out (Nat.le_refl w.heap.size) ar0)
      go_wp2_with (first
        | (refine wpList_store_row rfl 45 (.tmp 2) (.tmp 31) rfl w.heap.size ar0 rfl rfl 45 _ K1.out ar_info rfl (by simp [Value.oneCell']) ?_)
        | fail)
      refine bodyPost_ret (v := .tuple #[.agg ar0, .int .i64 50]) ?_ rfl ?_
      · exact results_cell_tmp Try.results19 _ _ w.heap.size 45 _ (0, 0) _ rfl (K1.out.row _) Try.underlying45 rfl ar_info
      exact ⟨.inl ⟨NO.out, rfl⟩, KZ.out⟩
    have H1 := Lib.hid hv
    rw [hv]
    clear hv
    go_wp2_with fail
    refine (numS_any g _ 2 _ E1.out).mono ?_
    rw [F2.out]
    rintro e w2 ⟨rfl, e2, k2⟩
    have B2 := Lib.hid (chg_below B1.out k2 WG.out)
    have K2 := Lib.hid (K1.out.chg k2 NG.out)
    have E2 := Lib.hid (show EyeS w2 g (Q.drop 4, 0) from e2)
    clear e2 k2 E1 B1 K1
    by_cases hv : (at2 Q 2 2 : Int) = 2048
    rotate_left
    · have NO := Lib.hid (show arOk l = false from by
        unfold arOk
        rw [decide_eq_false (p := l.take 6 = arHead) (fun h => hv (by have := ((HI.out.1 h).2.1); rw [V2.out]; omega))]
        simp)
      have hne : ((at2 Q 2 2 : Int) != 2048) = true := by simpa using hv
      clear hv
      generalize (at2 Q 2 2 : Nat) = v at *
      have KZ := Lib.hid (below_setRow B2.out (Nat.le_refl w.heap.size) ar0)
      go_wp2_with (first
        | (refine wpList_store_row rfl 45 (.tmp 2) (.tmp 31) rfl w.heap.size ar0 rfl rfl 45 _ K2.out ar_info rfl (by simp [Value.oneCell']) ?_)
        | fail)
      refine bodyPost_ret (v := .tuple #[.agg ar0, .int .i64 50]) ?_ rfl ?_
      · exact results_cell_tmp Try.results19 _ _ w.heap.size 45 _ (0, 0) _ rfl (K2.out.row _) Try.underlying45 rfl ar_info
      exact ⟨.inl ⟨NO.out, rfl⟩, KZ.out⟩
    have H2 := Lib.hid hv
    rw [hv]
    clear hv
    go_wp2_with fail
    refine (numS_any g _ 1 _ E2.out).mono ?_
    rw [F3.out]
    rintro e w3 ⟨rfl, e3, k3⟩
    have B3 := Lib.hid (chg_below B2.out k3 WG.out)
    have K3 := Lib.hid (K2.out.chg k3 NG.out)
    have E3 := Lib.hid (show EyeS w3 g (Q.drop 5, 0) from e3)
    clear e3 k3 E2 B2 K2
    by_cases hv : (at2 Q 4 1 : Int) = 6
    rotate_left
    · have NO := Lib.hid (show arOk l = false from by
        unfold arOk
        rw [decide_eq_false (p := l.take 6 = arHead) (fun h => hv (by have := ((HI.out.1 h).2.2.1); rw [V3.out]; omega))]
        simp)
      have hne : ((at2 Q 4 1 : Int) != 6) = true := by simpa using hv
      clear hv
      generalize (at2 Q 4 1 : Nat) = v at *
      have KZ := Lib.hid (below_setRow B3.out (Nat.le_refl w.heap.size) ar0)
      go_wp2_with (first
        | (refine wpList_store_row rfl 45 (.tmp 2) (.tmp 31) rfl w.heap.size ar0 rfl rfl 45 _ K3.out ar_info rfl (by simp [Value.oneCell']) ?_)
        | fail)
      refine bodyPost_ret (v := .tuple #[.agg ar0, .int .i64 50]) ?_ rfl ?_
      · exact results_cell_tmp Try.results19 _ _ w.heap.size 45 _ (0, 0) _ rfl (K3.out.row _) Try.underlying45 rfl ar_info
      exact ⟨.inl ⟨NO.out, rfl⟩, KZ.out⟩
    have H3 := Lib.hid hv
    rw [hv]
    clear hv
    go_wp2_with fail
    refine (numS_any g _ 1 _ E3.out).mono ?_
    rw [F4.out]
    rintro e w4 ⟨rfl, e4, k4⟩
    have B4 := Lib.hid (chg_below B3.out k4 WG.out)
    have K4 := Lib.hid (K3.out.chg k4 NG.out)
    have E4 := Lib.hid (show EyeS w4 g (Q.drop 6, 0) from e4)
    clear e4 k4 E3 B3 K3
    by_cases hv : (at2 Q 5 1 : Int) = 4
    rotate_left
    · have NO := Lib.hid (show arOk l = false from by
        unfold arOk
        rw [decide_eq_false (p := l.take 6 = arHead) (fun h => hv (by have := ((HI.out.1 h).2.2.2); rw [V4.out]; omega))]
        simp)
      have hne : ((at2 Q 5 1 : Int) != 4) = true := by simpa using hv
      clear hv
      generalize (at2 Q 5 1 : Nat) = v at *
      have KZ := Lib.hid (below_setRow B4.out (Nat.le_refl w.heap.size) ar0)
      go_wp2_with (first
        | (refine wpList_store_row rfl 45 (.tmp 2) (.tmp 31) rfl w.heap.size ar0 rfl rfl 45 _ K4.out ar_info rfl (by simp [Value.oneCell']) ?_)
        | fail)
      refine bodyPost_ret (v := .tuple #[.agg ar0, .int .i64 50]) ?_ rfl ?_
      · exact results_cell_tmp Try.results19 _ _ w.heap.size 45 _ (0, 0) _ rfl (K4.out.row _) Try.underlying45 rfl ar_info
      exact ⟨.inl ⟨NO.out, rfl⟩, KZ.out⟩
    have H4 := Lib.hid hv
    rw [hv]
    clear hv
    go_wp2_with fail
    refine (numS_any g _ 2 _ E4.out).mono ?_
    rw [F5.out]
    rintro e w5 ⟨rfl, e5, k5⟩
    have B5 := Lib.hid (chg_below B4.out k5 WG.out)
    have K5 := Lib.hid (K4.out.chg k5 NG.out)
    have E5 := Lib.hid (show EyeS w5 g (Q.drop 8, 0) from e5)
    clear e5 k5 E4 B4 K4
    go_wp2_with fail
    refine (numS_any g _ 6 _ E5.out).mono ?_
    rw [F6.out]
    rintro e w6 ⟨rfl, e6, k6⟩
    have B6 := Lib.hid (chg_below B5.out k6 WG.out)
    have K6 := Lib.hid (K5.out.chg k6 NG.out)
    have E6 := Lib.hid (show EyeS w6 g (Q.drop 14, 0) from e6)
    clear e6 k6 E5 B5 K5
    go_wp2_with fail
    refine (numS_any g _ 4 _ E6.out).mono ?_
    rw [F7.out]
    rintro e w7 ⟨rfl, e7, k7⟩
    have B7 := Lib.hid (chg_below B6.out k7 WG.out)
    have K7 := Lib.hid (K6.out.chg k7 NG.out)
    have E7 := Lib.hid (show EyeS w7 g (Q.drop 18, 0) from e7)
    clear e7 k7 E6 B6 K6
    go_wp2_with fail
    refine (numS_any g _ 6 _ E7.out).mono ?_
    rw [F8.out]
    rintro e w8 ⟨rfl, e8, k8⟩
    have B8 := Lib.hid (chg_below B7.out k8 WG.out)
    have K8 := Lib.hid (K7.out.chg k8 NG.out)
    have E8 := Lib.hid (show EyeS w8 g (Q.drop 24, 0) from e8)
    clear e8 k8 E7 B7 K7
    go_wp2_with fail
    refine (numS_any g _ 4 _ E8.out).mono ?_
    rw [F9.out]
    rintro e w9 ⟨rfl, e9, k9⟩
    have B9 := Lib.hid (chg_below B8.out k9 WG.out)
    have K9 := Lib.hid (K8.out.chg k9 NG.out)
    have E9 := Lib.hid (show EyeS w9 g (Q.drop 28, 0) from e9)
    clear e9 k9 E8 B8 K8
    have lo := Lib.hid (at2_lt Q 6 2)
    have l1 := Lib.hid (at2_lt Q 14 4)
    have l2 := Lib.hid (at2_lt Q 24 4)
    have HD := Lib.hid (show l.take 6 = arHead from HI.out.2 ⟨by have h := H1.out; have v := V1.out; omega, by have h := H2.out; have v := V2.out; omega, by have h := H3.out; have v := V3.out; omega, by have h := H4.out; have v := V4.out; omega⟩)
    have OP := Lib.hid (show arOp l = ((at2 Q 6 2 : Nat) : Int) from by rw [V5.out]; rfl)
    have X6 := V6
    have X7 := V7
    have X8 := V8
    have X9 := V9
    clear EQ HI F1 F2 F3 F4 F5 F6 F7 F8 F9 V1 V2 V3 V4 V5 V6 V7 V8 V9 H1 H2 H3 H4
    generalize at2 Q 6 2 = o at *
    generalize at2 Q 8 6 = m at *
    generalize at2 Q 14 4 = i at *
    generalize at2 Q 18 6 = m' at *
    generalize at2 Q 24 4 = i' at *
    have wo := IntWalk.i64_in (o : Int) (by have := lo.out; simp at this; omega)
    have wi := IntWalk.u32_in (i : Int) (by have := l1.out; simp at this; omega)
    have wi' := IntWalk.u32_in (i' : Int) (by have := l2.out; simp at this; omega)
    have wo2 : wrap64 (o : Int) = (o : Int) := by have := lo.out; simp at this; unfold wrap64; omega
    have wi2 : (i : Int) % 4294967296 = (i : Int) := by have := l1.out; simp at this; omega
    have wi3 : (i' : Int) % 4294967296 = (i' : Int) := by have := l2.out; simp at this; omega
    have b6 : Below w9.heap.size w9 (w9.alloc (.cells (arV (o : Int) m i m' i') 45)) := (Below.refl w9.heap.size w9).alloc (Nat.le_refl _) _
    have PX := Lib.hid (Blk.new w9 45 (arV (o : Int) m i m' i'))
    have BX := Lib.hid (B9.out.trans (b6.mono B9.out.size))
    have KX := Lib.hid (K9.out.older (older_below b6))
    clear b6 B9 K9 E9
    go_upto_region 7 with fail
    generalize w9.alloc (.cells (arV (o : Int) m i m' i') 45) = wx at *
    have p0 := (PX.out.cell 0).trans (show _ = some (.int .i64 (o : Int)) from rfl)
    go_wp2_with fail
    refine (isOp_any (o : Int) wx).mono ?_
    rintro e wy ⟨rfl, hw⟩
    obtain rfl : wx = wy := hw.symm
    by_cases ho : (o : Int) = 1 ∨ (o : Int) = 2
    · have YES := Lib.hid (show arOk l = true from by unfold arOk; rw [L28.out, HD.out, OP.out]; simp only [decide_eq_true ho]; rfl)
      rw [decide_eq_true ho]
      have KZ := Lib.hid (below_setRow BX.out (Nat.le_refl w.heap.size) (arV (o : Int) m i m' i'))
      clear ho
      go_wp2_with (first
        | (refine wpList_load_row rfl 45 (.tmp 5) rfl w9.heap.size rfl 45 _ (0, 0) _ PX.out Try.underlying45 rfl ar_info ?_)
        | (refine wpList_store_row rfl 45 (.tmp 2) (.tmp 51) rfl w.heap.size (arV (o : Int) m i m' i') rfl rfl 45 _ KX.out ar_info rfl (by simp [Value.oneCell']) ?_)
        | fail)
      refine bodyPost_ret (v := .tuple #[.agg (arV (o : Int) m i m' i'), .int .i64 0]) ?_ rfl ?_
      · exact results_cell_tmp Try.results19 _ _ w.heap.size 45 _ (0, 0) _ rfl (KX.out.row _) Try.underlying45 rfl ar_info
      exact ⟨.inr ⟨YES.out, by rw [OP.out, ← X6.out, ← X7.out, ← X8.out, ← X9.out]⟩, KZ.out⟩
    · have NO := Lib.hid (show arOk l = false from by unfold arOk; rw [OP.out]; simp only [decide_eq_false ho]; simp)
      rw [decide_eq_false ho]
      clear ho
      have KZ := Lib.hid (below_setRow BX.out (Nat.le_refl w.heap.size) ar0)
      go_wp2_with (first
        | (refine wpList_store_row rfl 45 (.tmp 2) (.tmp 50) rfl w.heap.size ar0 rfl rfl 45 _ KX.out ar_info rfl (by simp [Value.oneCell']) ?_)
        | fail)
      refine bodyPost_ret (v := .tuple #[.agg ar0, .int .i64 50]) ?_ rfl ?_
      · exact results_cell_tmp Try.results19 _ _ w.heap.size 45 _ (0, 0) _ rfl (KX.out.row _) Try.underlying45 rfl ar_info
      exact ⟨.inl ⟨NO.out, rfl⟩, KZ.out⟩
end Go.Proofs.Ytahmdogpnojcpaa.Et
