/- Whatever two pairs of whole numbers, a length and a word come in, 'pantlerlaw01.SumsJoins' returns true and leaves them as they were. No condition. -/
import Derived.Test.YtojbpjdppbfkhaaRef01
import Derived.Deep.RegionHeld3
import Derived.Deep.DeepCutAuto
namespace Go.Proofs.Ytojbpjdppbfkhaa.sumsJoins
open Go.ChangeShapes Go.WideShapes Go.ChangeAt Go.RowKit Fl
set_option linter.unusedVariables false


def InB (a : Int) : Prop := -1125899906842624 ≤ a ∧ a ≤ 1125899906842624

theorem early (w : World) (a b : Int) (n : Int) (c d : Int) (m : Int) (H : ¬ (InB a ∧ InB b ∧ InB c ∧ InB d)) :
    Calls Try.prog 4 #[.agg #[.int .i64 a, .int .i64 b], .int .i64 n, .agg #[.int .i64 c, .int .i64 d], .int .u16 m] w fun e w' => e = .returned (.bool true) ∧ Below w.heap.size w w' := by
  unfold InB at H
  have HH := Lib.hid H
  clear H
  go_enter Try.func4, Try.ntmps4
  go_wp2_with fail
  refine (alive_any _).mono ?_; rintro e w1 ⟨rfl, b1⟩
  have k1 := ((Blk.new w 29 #[.int .i64 a, .int .i64 b]).alloc (.cells #[.int .i64 c, .int .i64 d] 29)).below b1 (by simp; omega)
  have k2 := (Blk.new (w.alloc (.cells #[.int .i64 a, .int .i64 b] 29)) 29 #[.int .i64 c, .int .i64 d]).below b1 (by simp)
  have c0 := k1.cell 0
  have c1 := k1.cell 1
  have d0 := k2.cell 0
  have d1 := k2.cell 1
  simp only [List.getElem?_toArray, List.getElem?_cons_zero, List.getElem?_cons_succ, World.size_alloc] at c0 c1 d0 d1
  have B1 : Below w.heap.size w w1 := ((Below.refl _ _).alloc (Nat.le_refl _) _).alloc (by simp) _ |>.trans (b1.mono (by simp; omega))
  clear b1 k1 k2
  go_wp2_with fail
  all_goals first | (go_ret; exact ⟨rfl, B1⟩) | (exfalso; have := HH.out; omega)



theorem cells_of {W : World} {g : Nat} {t : TypeId} {a b : Int} (k : Blk W g t #[.int .i64 a, .int .i64 b]) : W.cell? ⟨g, 0, none⟩ = some (.int .i64 a) ∧ W.cell? ⟨g, 1, none⟩ = some (.int .i64 b) :=
  ⟨k.cell 0, k.cell 1⟩

def Told (a b n c d : Int) (zr zi : Nat) (er : Int) : Prop :=
  ((n < 0 ∨ mayP a b = false ∨ mayP c d = false) ∧ zr = 0 ∧ zi = 0 ∧ er = 1) ∨
  (0 ≤ n ∧ mayP a b = true ∧ mayP c d = true ∧ ∃ p0 p1 : Int, p0.natAbs < 2 ^ 53 ∧ p1.natAbs < 2 ^ 53 ∧ (∀ W, Calls Try.prog 21 #[.agg #[.int .i64 a, .int .i64 b], .int .i64 (n % 2), .agg #[.int .i64 c, .int .i64 d]] W fun e W' => e = .returned (.agg #[.int .i64 p0, .int .i64 p1]) ∧ Below W.heap.size W W') ∧
    ((mayP p0 p1 = true ∧ er = 0 ∧ zr = floatOfInt .f64 p0 ∧ zi = floatOfInt .f64 p1) ∨ (mayP p0 p1 = false ∧ er = 1 ∧ zr = 0 ∧ zi = 0)))

def Folds (a b nf ef : Int) : Prop :=
  (mayP a b = true ∧ ef = 0 ∧ ∀ W, Calls Try.prog 15 #[.agg #[.int .i64 a, .int .i64 b]] W fun e W' => e = .returned (.int .i64 nf) ∧ Below W.heap.size W W') ∨ (mayP a b = false ∧ nf = 0 ∧ ef = 1)

theorem may_b (a b : Int) (w : World) : Calls Try.prog 19 #[.agg #[.int .i64 a, .int .i64 b]] w fun e w' => e = .returned (.bool (mayP a b)) ∧ Below w.heap.size w w' :=
  (may_any a b w).mono fun _ _ ⟨he, o, hw⟩ => ⟨he, by rw [hw]; exact (Below.refl _ _).alloc (Nat.le_refl _) _⟩

set_option maxRecDepth 100000 in
set_option maxHeartbeats 3200000 in
/-- The walk behind the first tests: what Fold and Join tell is handed in. -/
theorem core (w : World) (a b : Int) (n : Int) (c d : Int) (m : Nat) (ha : InB a) (hb : InB b) (hc : InB c) (hd : InB d) (hm : m ≤ 65535) (hn : -9223372036854775808 ≤ n ∧ n ≤ 9223372036854775807)
    (nf ef er : Int) (zr zi : Nat) (hnf : 0 ≤ nf ∧ nf ≤ 65535) (HF : Hid (∀ W, Calls Try.prog 13 #[.complex .f64 (floatOfInt .f64 a) (floatOfInt .f64 b)] W fun e w' => e = .returned (.tuple #[.int .u16 nf, .int .i64 ef]) ∧ W = w'))
    (HJ : Hid (∀ W, Calls Try.prog 20 #[.complex .f64 (floatOfInt .f64 a) (floatOfInt .f64 b), .int .i64 n, .complex .f64 (floatOfInt .f64 c) (floatOfInt .f64 d)] W fun e w' => e = .returned (.tuple #[.complex .f64 zr zi, .int .i64 er]) ∧ W = w'))
    (HA : Hid (Folds a b nf ef)) (HT : Hid (Told a b n c d zr zi er)) :
    Calls Try.prog 4 #[.agg #[.int .i64 a, .int .i64 b], .int .i64 n, .agg #[.int .i64 c, .int .i64 d], .int .u16 m] w fun e w' => e = .returned (.bool true) ∧ Below w.heap.size w w' := by
  unfold InB at ha hb hc hd
  have q1 := eqf ((m / 256 : Nat) : Int) (by omega)
  have q2 := eqf ((m % 256 : Nat) : Int) (by omega)
  have z0 : (FloatKind.f64.format.order 0 0 == some .eq) = true := by decide +kernel
  simp only [Int.natCast_ediv, Int.natCast_emod, Int.cast_ofNat_Int] at q1 q2
  go_enter Try.func4, Try.ntmps4
  go_wp2_with fail
  refine (alive_any _).mono ?_; rintro e w1 ⟨rfl, b1⟩
  have k1 := ((Blk.new w 29 #[.int .i64 a, .int .i64 b]).alloc (.cells #[.int .i64 c, .int .i64 d] 29)).below b1 (by simp; omega)
  have k2 := (Blk.new (w.alloc (.cells #[.int .i64 a, .int .i64 b] 29)) 29 #[.int .i64 c, .int .i64 d]).below b1 (by simp)
  simp only [World.size_alloc] at k2
  obtain ⟨c0, c1⟩ := cells_of k1
  obtain ⟨d0, d1⟩ := cells_of k2
  have B1 : Below w.heap.size w w1 := ((Below.refl _ _).alloc (Nat.le_refl _) _).alloc (by simp) _ |>.trans (b1.mono (by simp; omega))
  have l1 := k1.lt
  have l2 := k2.lt
  have B1 := Lib.hid B1
  have K1 := Lib.hid k1
  have K2 := Lib.hid k2
  clear b1 k1 k2
  go_upto_region 5 with fail
  go_cut [9, 10] (fun s9 s10 wx => s9 = .complex .f64 (floatOfInt .f64 a) (floatOfInt .f64 b) ∧ s10 = .complex .f64 (floatOfInt .f64 c) (floatOfInt .f64 d) ∧ Below w1.heap.size w1 wx)
  case first =>
    go_region_held3 (fun w' => w'.cell? ⟨w.heap.size, 0, none⟩ = some (.int .i64 a) ∧ w'.cell? ⟨w.heap.size, 1, none⟩ = some (.int .i64 b) ∧ w'.cell? ⟨w.heap.size + 1, 0, none⟩ = some (.int .i64 c) ∧ w'.cell? ⟨w.heap.size + 1, 1, none⟩ = some (.int .i64 d)) (go_keep)
      (first | (go_at_call 11; refine (number_w _ _ _).mono ?_; rintro e w' ⟨rfl, rfl⟩))
    all_goals (go_wp2_with fail; go_meet; exact ⟨rfl, rfl, by go_grown⟩)
  case rest =>
    obtain ⟨rfl, rfl, bw⟩ := hcut
    have K3 := Lib.hid (K1.out.below bw l1)
    have K4 := Lib.hid (K2.out.below bw l2)
    have B3 := Lib.hid (B1.out.trans (bw.mono (by omega)))
    clear c0 c1 d0 d1 l1 l2 K1 K2 B1 bw
    obtain ⟨c0, c1⟩ := cells_of K3.out
    obtain ⟨d0, d1⟩ := cells_of K4.out
    go_wp2_with fail
    refine (word_any m hm _).mono ?_; rintro e w' ⟨rfl, rfl⟩
    go_wp2_with fail
    refine (HF.out _).mono ?_; rintro e w' ⟨rfl, rfl⟩
    go_wp2_with fail
    refine (may_b _ _ _).mono ?_; rintro e w4 ⟨rfl, b4⟩
    have K5 := Lib.hid (K3.out.below b4 K3.out.lt)
    have K6 := Lib.hid (K4.out.below b4 K4.out.lt)
    have B4 := Lib.hid (B3.out.trans (b4.mono (by have := K3.out.lt; omega)))
    clear c0 c1 d0 d1 K3 K4 B3 b4
    obtain ⟨c0, c1⟩ := cells_of K5.out
    obtain ⟨d0, d1⟩ := cells_of K6.out
    rcases HA.out with ⟨mA, rfl, hR⟩ | ⟨mA, rfl, rfl⟩
    · have HR := Lib.hid hR
      clear hR
      go_wp2_with fail
      refine (HR.out _).mono ?_; rintro e w5 ⟨rfl, b5⟩
      have K7 := Lib.hid (K5.out.below b5 K5.out.lt)
      have K8 := Lib.hid (K6.out.below b5 K6.out.lt)
      have B5 := Lib.hid (B4.out.trans (b5.mono (by have := K5.out.lt; omega)))
      clear c0 c1 d0 d1 K5 K6 B4 b5
      obtain ⟨c0, c1⟩ := cells_of K7.out
      obtain ⟨d0, d1⟩ := cells_of K8.out
      go_wp2_with fail
      refine (HJ.out _).mono ?_; rintro e w' ⟨rfl, rfl⟩
      rcases HT.out with ⟨hbad, rfl, rfl, rfl⟩ | ⟨hn0, _, mC, p0, p1, hp0, hp1, hJ, hp⟩
      · by_cases hneg : n < 0
        · clear hbad
          go_wp2_with fail
          go_ret
          exact ⟨rfl, B5.out⟩
        · have mC : mayP c d = false := by
            rcases hbad with h | h | h
            · exact absurd h hneg
            · rw [mA] at h; cases h
            · exact h
          clear hbad
          go_wp2_with fail
          refine (may_b _ _ _).mono ?_; rintro e w6 ⟨rfl, b6⟩
          have K9 := Lib.hid (K7.out.below b6 K7.out.lt)
          have K10 := Lib.hid (K8.out.below b6 K8.out.lt)
          have B6 := Lib.hid (B5.out.trans (b6.mono (by have := K7.out.lt; omega)))
          clear c0 c1 d0 d1 K7 K8 B5 b6
          obtain ⟨d0, d1⟩ := cells_of K10.out
          go_wp2_with fail
          refine (may_b _ _ _).mono ?_; rintro e w7 ⟨rfl, b7⟩
          have B7 := Lib.hid (B6.out.trans (b7.mono (by have := K9.out.lt; omega)))
          go_wp2_with fail
          go_ret
          exact ⟨rfl, B7.out⟩
      · have HJR := Lib.hid hJ
        have HP := Lib.hid hp
        clear hJ hp
        have hneg : ¬ n < 0 := by omega
        go_wp2_with fail
        refine (may_b _ _ _).mono ?_; rintro e w6 ⟨rfl, b6⟩
        have K9 := Lib.hid (K7.out.below b6 K7.out.lt)
        have K10 := Lib.hid (K8.out.below b6 K8.out.lt)
        have B6 := Lib.hid (B5.out.trans (b6.mono (by have := K7.out.lt; omega)))
        clear c0 c1 d0 d1 K7 K8 B5 b6
        obtain ⟨d0, d1⟩ := cells_of K10.out
        go_wp2_with fail
        refine (may_b _ _ _).mono ?_; rintro e w7 ⟨rfl, b7⟩
        have K11 := Lib.hid (K9.out.below b7 K9.out.lt)
        have K12 := Lib.hid (K10.out.below b7 K10.out.lt)
        have B7 := Lib.hid (B6.out.trans (b7.mono (by have := K9.out.lt; omega)))
        clear d0 d1 K9 K10 B6 b7
        obtain ⟨c0, c1⟩ := cells_of K11.out
        obtain ⟨d0, d1⟩ := cells_of K12.out
        go_wp2_with fail
        refine (HJR.out _).mono ?_; rintro e w8 ⟨rfl, b8⟩
        have B8 := Lib.hid (B7.out.trans (b8.mono (by have := K11.out.lt; omega)))
        have hs : w.heap.size ≤ w8.heap.size := by have := K11.out.lt; have := b8.size; omega
        clear c0 c1 d0 d1 K11 K12 B7 b8
        go_wp2_with fail
        have KN := Blk.new w8 29 #[.int .i64 p0, .int .i64 p1]
        refine (may_b _ _ _).mono ?_; rintro e w9 ⟨rfl, b9⟩
        have KP := Lib.hid (KN.below b9 (by simp))
        have B9 := Lib.hid (B8.out.trans (((Below.refl w.heap.size w8).alloc hs (.cells #[.int .i64 p0, .int .i64 p1] 29)).trans (b9.mono (by simp; omega))))
        clear KN b9 B8
        obtain ⟨e0, e1⟩ := cells_of KP.out
        rcases HP.out with ⟨mP, rfl, rfl, rfl⟩ | ⟨mP, rfl, rfl, rfl⟩
        · have o0 := eqf0 p0 hp0
          have o1 := eqf0 p1 hp1
          go_wp2_with fail
          refine (number_any _ _ _).mono ?_; rintro e w10 ⟨rfl, b10⟩
          have B10 := Lib.hid (B9.out.trans (b10.mono (by have := KP.out.lt; omega)))
          go_wp2_with fail
          go_ret
          exact ⟨rfl, B10.out⟩
        · go_wp2_with fail
          go_ret
          exact ⟨rfl, B9.out⟩
    · go_wp2_with fail
      refine (HJ.out _).mono ?_; rintro e w' ⟨rfl, rfl⟩
      obtain ⟨rfl, rfl, rfl⟩ : zr = 0 ∧ zi = 0 ∧ er = 1 := by
        rcases HT.out with ⟨_, h⟩ | ⟨_, h, _⟩
        · exact h
        · rw [mA] at h; cases h
      by_cases hneg : n < 0
      · go_wp2_with fail
        go_ret
        exact ⟨rfl, B4.out⟩
      · go_wp2_with fail
        refine (may_b _ _ _).mono ?_; rintro e w6 ⟨rfl, b6⟩
        have B6 := Lib.hid (B4.out.trans (b6.mono (by have := K5.out.lt; omega)))
        go_wp2_with fail
        go_ret
        exact ⟨rfl, B6.out⟩

theorem walk (w : World) (a b : Int) (wa : (Lit.int .i64 a).wf = true) (wb : (Lit.int .i64 b).wf = true) (n : Int) (wn : (Lit.int .i64 n).wf = true) (c d : Int) (wc : (Lit.int .i64 c).wf = true) (wd : (Lit.int .i64 d).wf = true) (m : Int) (wm : (Lit.int .u16 m).wf = true) :
    Calls Try.prog 4 #[.agg #[.int .i64 a, .int .i64 b], .int .i64 n, .agg #[.int .i64 c, .int .i64 d], .int .u16 m] w fun e w' => e = .returned (.bool true) ∧ Below w.heap.size w w' := by
  have ha := wf_i64 wa
  have hb := wf_i64 wb
  have hc := wf_i64 wc
  have hd := wf_i64 wd
  have hn := wf_i64 wn
  obtain ⟨m, rfl, hm⟩ := wf_u16 wm
  by_cases H : InB a ∧ InB b ∧ InB c ∧ InB d
  · obtain ⟨h1, h2, h3, h4⟩ := H
    have g1 := h1
    have g2 := h2
    have g3 := h3
    have g4 := h4
    unfold InB at g1 g2 g3 g4
    have r1 : Rep (Ieee.double.read (floatOfInt .f64 a)) a := (read_fl (v := a) (by omega)).rep
    have r2 : Rep (Ieee.double.read (floatOfInt .f64 b)) b := (read_fl (v := b) (by omega)).rep
    have r3 : Rep (Ieee.double.read (floatOfInt .f64 c)) c := (read_fl (v := c) (by omega)).rep
    have r4 : Rep (Ieee.double.read (floatOfInt .f64 d)) d := (read_fl (v := d) (by omega)).rep
    have m1 : mayB (floatOfInt .f64 a) (floatOfInt .f64 b) = mayP a b := mayB_rep r1 r2
    have m2 : mayB (floatOfInt .f64 c) (floatOfInt .f64 d) = mayP c d := mayB_rep r3 r4
    -- Fold
    have hF : ∃ nf ef : Int, (0 ≤ nf ∧ nf ≤ 65535) ∧ (∀ W, Calls Try.prog 13 #[.complex .f64 (floatOfInt .f64 a) (floatOfInt .f64 b)] W fun e w' => e = .returned (.tuple #[.int .u16 nf, .int .i64 ef]) ∧ W = w') ∧ Folds a b nf ef := by
      cases hA : mayP a b with
      | true =>
        have hA' := hA
        unfold mayP at hA'
        have hA' := of_decide_eq_true hA'
        obtain ⟨x, rfl⟩ := Int.eq_ofNat_of_zero_le hA'.1.1
        obtain ⟨y, rfl⟩ := Int.eq_ofNat_of_zero_le hA'.2.1
        have hle := fo_le (256 * x + y)
        exact ⟨(fo (256 * x + y) : Nat), 0, by omega, fun W => fold_ok _ _ x y W r1 r2 (by omega) (by omega), .inl ⟨hA, rfl, fun W => rfold_any x y (by omega) (by omega) W⟩⟩
      | false => exact ⟨0, 1, by omega, fun W => fold_bad _ _ W (by rw [m1, hA]), .inr ⟨hA, rfl, rfl⟩⟩
    have hJ : ∃ (zr zi : Nat) (er : Int), (∀ W, Calls Try.prog 20 #[.complex .f64 (floatOfInt .f64 a) (floatOfInt .f64 b), .int .i64 n, .complex .f64 (floatOfInt .f64 c) (floatOfInt .f64 d)] W fun e w' => e = .returned (.tuple #[.complex .f64 zr zi, .int .i64 er]) ∧ W = w') ∧ Told a b n c d zr zi er := by
      by_cases hbad : n < 0 ∨ mayP a b = false ∨ mayP c d = false
      · exact ⟨0, 0, 1, fun W => join_bad _ _ _ _ _ W (by rw [m1, m2]; exact hbad), .inl ⟨hbad, rfl, rfl, rfl⟩⟩
      · have hn0 : 0 ≤ n := by
          rcases Int.lt_or_le n 0 with h | h
          · exact absurd (.inl h) hbad
          · exact h
        have hA : mayP a b = true := by
          cases h : mayP a b with
          | true => rfl
          | false => exact absurd (.inr (.inl h)) hbad
        have hC : mayP c d = true := by
          cases h : mayP c d with
          | true => rfl
          | false => exact absurd (.inr (.inr h)) hbad
        have hA' := hA
        have hC' := hC
        unfold mayP at hA' hC'
        have hA' := of_decide_eq_true hA'
        have hC' := of_decide_eq_true hC'
        clear hbad
        obtain ⟨x, rfl⟩ := Int.eq_ofNat_of_zero_le hA'.1.1
        obtain ⟨y, rfl⟩ := Int.eq_ofNat_of_zero_le hA'.2.1
        obtain ⟨u, rfl⟩ := Int.eq_ofNat_of_zero_le hC'.1.1
        obtain ⟨v, rfl⟩ := Int.eq_ofNat_of_zero_le hC'.2.1
        obtain ⟨k, rfl⟩ := Int.eq_ofNat_of_zero_le hn0
        have J := fun W => join_ok x y u v _ _ k W r3 r4 (by omega) (by omega) (by omega) (by omega) (by omega)
        unfold joined at J
        by_cases hp : k % 2 = 1
        · have hk : (k : Int) % 2 = 1 := by omega
          simp only [hp, if_true] at J
          have R := fun W => rjoin_any (x : Int) y u v 1 W (.inr (.inl rfl)) (by omega) (by omega) (by omega) (by omega)
          simp only [show ¬ ((1 : Int) = 0) by decide, if_false] at R
          by_cases hs : x + v ≤ 1099511627776 ∧ y + u ≤ 1099511627776
          · simp only [hs, and_self, if_true] at J
            exact ⟨_, _, 0, J, .inr ⟨hn0, hA, hC, _, _, by omega, by omega, by rw [hk]; exact R, .inl ⟨by unfold mayP; simp; omega, rfl, rfl, rfl⟩⟩⟩
          · simp only [hs, if_false] at J
            exact ⟨0, 0, 1, J, .inr ⟨hn0, hA, hC, (x : Int) + v, (y : Int) + u, by omega, by omega, by rw [hk]; exact R, .inr ⟨by unfold mayP; simp; omega, rfl, rfl, rfl⟩⟩⟩
        · have hk : (k : Int) % 2 = 0 := by omega
          simp only [hp, if_false] at J
          have R := fun W => rjoin_any (x : Int) y u v 0 W (.inl rfl) (by omega) (by omega) (by omega) (by omega)
          simp only [if_true] at R
          by_cases hs : x + u ≤ 1099511627776 ∧ y + v ≤ 1099511627776
          · simp only [hs, and_self, if_true] at J
            exact ⟨_, _, 0, J, .inr ⟨hn0, hA, hC, _, _, by omega, by omega, by rw [hk]; exact R, .inl ⟨by unfold mayP; simp; omega, rfl, rfl, rfl⟩⟩⟩
          · simp only [hs, if_false] at J
            exact ⟨0, 0, 1, J, .inr ⟨hn0, hA, hC, (x : Int) + u, (y : Int) + v, by omega, by omega, by rw [hk]; exact R, .inr ⟨by unfold mayP; simp; omega, rfl, rfl, rfl⟩⟩⟩
    obtain ⟨nf, ef, hnf, f1, f2⟩ := hF
    obtain ⟨zr, zi, er, j1, j2⟩ := hJ
    exact core w a b n c d m h1 h2 h3 h4 hm hn nf ef er zr zi hnf (Lib.hid f1) (Lib.hid j1) (Lib.hid f2) (Lib.hid j2)
  · exact early w a b n c d m H

set_option maxRecDepth 100000 in
theorem lifted (os : Os) (started : os.Started) (H : Type) (enc : TypeId × Value → H) :
    ReturnsInHanded {} Try.checked os 4 .any (Rows.sumsJoinsSpec.pre6 enc Try.prog Try.f4 Rows.sumsJoinsRow.domain false) (Rows.sumsJoinsSpec.post enc Try.prog Try.f4 false true false false) := by
  refine returnsInHanded_of_change (C := Try.checked) own started (by kernel_rfl) Try.func4
    (ChangeSpec.witness6 (enc := enc) (C := Try.checked) false ⟨#[], #[.agg #[.int .i64 0, .int .i64 0], .int .i64 0, .agg #[.int .i64 0, .int .i64 0], .int .u16 0], []⟩ 8 (by kernel_rfl) (by kernel_rfl) (by kernel_rfl) (by kernel_rfl)) ?_
  intro W base args ds gs before hval0 hW hcnd _
  have hval : ∀ (j : Nat) t v, Try.f4.params[j]? = some t → args[j]? = some v → Value.okWide Try.prog W .any base t v := hval0
  have hW' := hW
  obtain ⟨p, q, hA0, hV, rfl, hfz, hnd⟩ := hW
  have hA : DataW.TrodAll enc Try.prog W 0 (fun _ => true) true Try.f4.params.toList args.toList ds p := hA0
  rw [Try.params4] at hA hval
  obtain ⟨v0, vs0, d0, ds0, p0, q0, hargs, rfl, rfl, h0, r0⟩ := trodAll_cons hA
  obtain ⟨v1, vs1, d1, ds1, p1, q1, rfl, rfl, rfl, h1, r1⟩ := trodAll_cons r0
  obtain ⟨v2, vs2, d2, ds2, p2, q2, rfl, rfl, rfl, h2, r2⟩ := trodAll_cons r1
  obtain ⟨v3, vs3, d3, ds3, p3, q3, rfl, rfl, rfl, h3, r3⟩ := trodAll_cons r2
  obtain ⟨rfl, rfl, rfl⟩ := trodAll_nil r3
  obtain rfl : args = #[v0, v1, v2, v3] := by cases args; simp_all
  obtain ⟨a0, e0, rfl, w0, x0⟩ := open_ints2 Try.underlying29 (by kernel_rfl) (by kernel_rfl) Try.underlying2 Try.underlying2 (hval 0 29 v0 rfl rfl) h0
  obtain ⟨a1, rfl, _, _, w1⟩ := open_int Try.underlying3 (hval 1 3 v1 rfl rfl) h1
  obtain ⟨a2, e2, rfl, w2, x2⟩ := open_ints2 Try.underlying29 (by kernel_rfl) (by kernel_rfl) Try.underlying2 Try.underlying2 (hval 2 29 v2 rfl rfl) h2
  obtain ⟨a3, rfl, _, _, w3⟩ := open_int Try.underlying34 (hval 3 34 v3 rfl rfl) h3
  clear hA0 hval0
  exact law_close hW' laidOut (by kernel_rfl) rfl Try.underlying4 rfl ⟨rfl, rfl, rfl⟩ (walk W a0 e0 w0 x0 a1 w1 a2 e2 w2 x2 a3 w3)

theorem over : Rows.sumsJoinsRow.holds Try.pinned (OpenSpec.ofChange Rows.sumsJoinsSpec) :=
  OpenClaim.holds_of_wide 4 Try.f4 rfl rfl rfl rfl rfl rfl rfl ⟨rfl, rfl, rfl, rfl, rfl⟩ rfl rfl rfl rfl rfl (by kernel_rfl) Try.func4 (by kernel_rfl)
    (of_decide_eq_true (by kernel_rfl)) (by unfold Func.isWrapper; first | (rw [if_pos (by decide +kernel)]; kernel_rfl) | (rw [if_neg (by decide +kernel)]; exact ⟨rfl, rfl⟩))
    (fun os started H enc _ => lifted os started H enc)

theorem proved : Rows.SumsJoinsSaid := over

end Go.Proofs.Ytojbpjdppbfkhaa.sumsJoins
