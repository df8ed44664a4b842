/- Package eth: Parse. Conditions: those that each states. -/
import Derived.Test.YtahmdogpnojcpaaEt2
import Derived.Test.YtahmdogpnojcpaaEs
namespace Go.Proofs.Ytahmdogpnojcpaa.Et
open Go.ChangeShapes Go.WideShapes Go.ChangeAt Go.RowKit Go.Deep Rk Es
set_option linter.unusedVariables false

theorem pk_info : (Try.prog.info? 32).map (·.size) = some 4 := by kernel_rfl
theorem ar_info : (Try.prog.info? 45).map (·.size) = some 5 := by kernel_rfl
/-- The error of a Parse of n bytes. -/
def parErr (n : Nat) : Int := if 1024 < n then 2 else if n < 14 then 50 else 0
abbrev pk0 : Array Value := #[.int .u64 0, .int .u64 0, .int .u16 0, .slice none 0 0]
/-- What Parse tells of bytes l. -/
def Parsed (w w' : World) (e : Ending) (l : List UInt8) : Prop :=
  (parErr l.length ≠ 0 ∧ e = .returned (.tuple #[.agg pk0, .int .i64 (parErr l.length)])) ∨
  (parErr l.length = 0 ∧ ∃ A c, e = .returned (.tuple #[.agg (pkV (numB (l.take 6)) (numB ((l.drop 6).take 6)) (numB ((l.drop 12).take 2)) A (l.length - 14) c), .int .i64 0]) ∧ Src w' A (l.length - 14) c (l.drop 14))

/-- Three numbers read of too few bytes. -/
theorem three_few (l : List UInt8) (h : l.length < 14) : (numS (numS (numS (l, 0) 6).2 6).2 2).2 = ([], 50) := by
  by_cases h1 : l.length < 6
  · rw [show (6 : Int) = ((6 : Nat) : Int) from rfl, numS_few l 6 (by omega) (by omega) h1]
    rw [numS_met 50 _ (by decide), numS_met 50 _ (by decide)]
  · rw [show (6 : Int) = ((6 : Nat) : Int) from rfl, numS_ok l 6 (by omega) (by omega) (by omega)]
    by_cases h2 : (l.drop 6).length < 6
    · rw [numS_few _ 6 (by omega) (by omega) h2, numS_met 50 _ (by decide)]
    · rw [numS_ok _ 6 (by omega) (by omega) (by omega)]
      have h3 : ((l.drop 6).drop 6).length < 2 := by simp only [List.length_drop]; omega
      rw [show (2 : Int) = ((2 : Nat) : Int) from rfl]
      show (numS (List.drop 6 (List.drop 6 l), 0) ((2 : Nat) : Int)).2 = _
      rw [numS_few _ 2 (by omega) (by omega) h3]

set_option maxRecDepth 100000 in
set_option maxHeartbeats 2000000 in
theorem parse_any (A : Option Addr) (n c : Nat) (l : List UInt8) (w : World) (hs : Src w A n c l) (hn : n ≤ 1000000) :
    Calls Try.prog 12 #[.slice A n c] w fun e w' => Parsed w w' e l ∧ Below w.heap.size w w' := by
  have b1 : Below w.heap.size w (w.alloc (.cells pk0 32)) := (Below.refl _ w).alloc (Nat.le_refl _) _
  have B1 := Lib.hid b1
  have K1 := Lib.hid (Blk.new w 32 pk0)
  have S1 := Lib.hid (hs.alloc (.cells pk0 32))
  have hl := hs.len
  subst hl
  clear b1 hs
  obtain ⟨W, hW⟩ : ∃ W, w.alloc (.cells pk0 32) = W := ⟨_, rfl⟩
  rw [hW] at K1 S1 B1
  have HW := Lib.hid hW
  have z1 := Lib.hid (show W.heap.size = w.heap.size + 1 from by rw [← hW]; simp)
  clear hW
  by_cases h1 : (l.length : Int) > 1024
  · have E := Lib.hid (show parErr l.length = 2 from by unfold parErr; rw [if_pos (by omega)])
    have KZ := Lib.hid (below_setRow B1.out (Nat.le_refl w.heap.size) pk0)
    have K2 := Lib.hid (K1.out.setRow pk0)
    go_enter Try.func12, Try.ntmps12
    go_upto_region 1 with fail
    rw [HW.out]
    go_wp2_with (first
      | (refine wpList_store_row rfl 32 (.tmp 2) (.tmp 10) rfl w.heap.size pk0 rfl rfl 32 _ K1.out pk_info rfl (by simp [Value.oneCell']) ?_)
      | fail)
    refine bodyPost_ret (v := .tuple #[.agg pk0, .int .i64 2]) ?_ rfl ?_
    · exact results_cell_tmp Try.results12 _ _ w.heap.size 32 _ (0, 0) _ rfl (K1.out.row _) Try.underlying32 rfl pk_info
    exact ⟨.inl ⟨by rw [E.out]; decide, by rw [E.out]⟩, KZ.out⟩
  · go_enter Try.func12, Try.ntmps12
    go_upto_region 1 with fail
    rw [HW.out]
    clear HW
    go_wp2_with fail
    refine (newS_any A l.length c l W S1.out hn).mono ?_
    rintro e w2 ⟨g, rfl, e2, hg, b2⟩
    have B2 := Lib.hid (B1.out.trans (b2.mono B1.out.size))
    have K2 := Lib.hid (K1.out.older (older_below b2))
    have NG := Lib.hid (show ¬ w.heap.size = g from by have := z1.out; omega)
    have WG := Lib.hid (show w.heap.size ≤ g from by have := z1.out; omega)
    have E2 := Lib.hid e2
    clear b2 e2 S1 B1 K1
    go_wp2_with fail
    refine (numS_any g _ 6 _ E2.out).mono ?_
    rintro e w3 ⟨rfl, e3, k3⟩
    have B3 := Lib.hid (chg_below B2.out k3 WG.out)
    have K3 := Lib.hid (K2.out.chg k3 NG.out)
    have E3 := Lib.hid e3
    clear e3 k3 E2 B2 K2
    go_wp2_with fail
    refine (numS_any g _ 6 _ E3.out).mono ?_
    rintro e w4 ⟨rfl, e4, k4⟩
    have B4 := Lib.hid (chg_below B3.out k4 WG.out)
    have K4 := Lib.hid (K3.out.chg k4 NG.out)
    have E4 := Lib.hid e4
    clear e4 k4 E3 B3 K3
    go_wp2_with fail
    refine (numS_any g _ 2 _ E4.out).mono ?_
    rintro e w5 ⟨rfl, e5, k5⟩
    have B5 := Lib.hid (chg_below B4.out k5 WG.out)
    have K5 := Lib.hid (K4.out.chg k5 NG.out)
    have E5 := Lib.hid e5
    have lt5 := Lib.hid (numS_lt (numS (numS (l, 0) 6).2 6).2 2 (by omega))
    have hlen := Lib.hid (show l.length < 14 → (numS (numS (numS (l, 0) 6).2 6).2 2).2 = ([], 50) from three_few l)
    have hok := Lib.hid (show 14 ≤ l.length → (numS (l, 0) 6).1 = numB (l.take 6) ∧ (numS (numS (l, 0) 6).2 6).1 = numB ((l.drop 6).take 6) ∧ (numS (numS (numS (l, 0) 6).2 6).2 2).1 = numB ((l.drop 12).take 2) ∧ (numS (numS (numS (l, 0) 6).2 6).2 2).2 = (l.drop 14, 0) from fun h => by
      have e1 : numS (l, 0) 6 = (numB (l.take 6), (l.drop 6, 0)) := numS_ok l 6 (by omega) (by omega) (by omega)
      have e2 : numS (l.drop 6, 0) 6 = (numB ((l.drop 6).take 6), (l.drop 12, 0)) := by
        have := numS_ok (l.drop 6) 6 (by omega) (by omega) (by simp only [List.length_drop]; omega)
        rw [List.drop_drop] at this; exact this
      have e3 : numS (l.drop 12, 0) 2 = (numB ((l.drop 12).take 2), (l.drop 14, 0)) := by
        have := numS_ok (l.drop 12) 2 (by omega) (by omega) (by simp only [List.length_drop]; omega)
        rw [List.drop_drop] at this; exact this
      simp only [e1, e2, e3]
      exact ⟨trivial, trivial, trivial, trivial⟩)
    clear e5 k5 E4 B4 K4
    generalize (numS (numS (numS (l, 0) 6).2 6).2 2).1 = y at *
    generalize (numS (numS (numS (l, 0) 6).2 6).2 2).2 = s5 at *
    generalize (numS (numS (l, 0) 6).2 6).1 = f at *
    generalize (numS (l, 0) 6).1 = t at *
    have wy := IntWalk.u16_in (y : Int) (by have := lt5.out; simp at this; omega)
    have b6 : Below w5.heap.size w5 (w5.alloc (.cells (pkV t f y none 0 0) 32)) := (Below.refl w5.heap.size w5).alloc (Nat.le_refl _) _
    have P6 := Lib.hid (Blk.new w5 32 (pkV t f y none 0 0))
    have B6 := Lib.hid (B5.out.trans (b6.mono B5.out.size))
    have K6 := Lib.hid (K5.out.older (older_below b6))
    have E6 := Lib.hid (E5.out.new b6)
    have Z5 := Lib.hid B5.out.size
    have N6 := Lib.hid (show ¬ w5.heap.size = g from by have := E5.out.lt; omega)
    have M6 := Lib.hid (show ¬ w5.heap.size = w.heap.size from by have := K5.out.lt; omega)
    clear b6 B5 K5 E5 lt5
    go_upto_region 5 with fail
    generalize w5.alloc (.cells (pkV t f y none 0 0) 32) = w6 at *
    go_wp2_with fail
    refine (errS_any g s5 w6 E6.out).mono ?_
    rintro e w7 ⟨rfl, hw⟩
    obtain rfl : w6 = w7 := hw.symm
    by_cases h2 : l.length < 14
    · have E := Lib.hid (show parErr l.length = 50 from by unfold parErr; rw [if_neg (by omega), if_pos h2])
      obtain rfl := hlen.out (by omega)
      clear hok hlen
      have KZ := Lib.hid (below_setRow B6.out (Nat.le_refl w.heap.size) pk0)
      go_wp2_with (first
        | (refine wpList_store_row rfl 32 (.tmp 2) (.tmp 25) rfl w.heap.size pk0 rfl rfl 32 _ K6.out pk_info rfl (by simp [Value.oneCell']) ?_)
        | fail)
      refine bodyPost_ret (v := .tuple #[.agg pk0, .int .i64 50]) ?_ rfl ?_
      · exact results_cell_tmp Try.results12 _ _ w.heap.size 32 _ (0, 0) _ rfl (K6.out.row _) Try.underlying32 rfl pk_info
      exact ⟨.inl ⟨by rw [E.out]; decide, by rw [E.out]⟩, KZ.out⟩
    · obtain ⟨h3, h4, h5, rfl⟩ := hok.out (by omega)
      have E := Lib.hid (show parErr l.length = 0 from by unfold parErr; rw [if_neg (by omega), if_neg h2])
      have HH := Lib.hid (And.intro h3 (And.intro h4 h5))
      have BO := bytS_ok (l.drop 14) (l.length - 14) (by simp)
      have DL := Lib.hid (show (l.drop 14).length = l.length - 14 from by simp)
      have DT : (l.drop 14).take (l.length - 14) = l.drop 14 := List.take_of_length_le (by simp)
      rw [DT] at BO
      have BO := Lib.hid BO
      clear hok hlen h3 h4 h5 DT
      go_wp2_with fail
      refine (restS_any g _ w6 E6.out).mono ?_
      rintro e w7 ⟨rfl, hw⟩
      obtain rfl : w6 = w7 := hw.symm
      go_wp2_with fail
      refine (bytesS_any g _ _ w6 E6.out).mono ?_
      (try dsimp only)
      rw [BO.out]
      (try dsimp only)
      rw [DL.out]
      rintro e w8 ⟨A8, c8, rfl, s8, -, k8⟩
      have B8 := Lib.hid (chg_below B6.out k8 WG.out)
      have K8 := Lib.hid (K6.out.chg k8 NG.out)
      have P8 := Lib.hid (P6.out.chg k8 N6.out)
      have S8 := Lib.hid s8
      clear k8 s8 B6 K6 P6 E6
      have p0 := (P8.out.cell 0).trans (show _ = some (.int .u64 (t : Int)) from rfl)
      have p3 := (P8.out.cell 3).trans (show _ = some (.slice none 0 0) from rfl)
      have fz := P8.out.frozen 3
      have P9 := Lib.hid (show Blk (w8.setCell ⟨w5.heap.size, 3, none⟩ (.slice A8 (l.length - 14) c8)) w5.heap.size 32 (pkV t f y A8 (l.length - 14) c8) from P8.out.put 3 _)
      have K9 := Lib.hid (K8.out.far (p := ⟨w5.heap.size, 3, none⟩) (fun e => M6.out e.symm) (.slice A8 (l.length - 14) c8))
      go_wp2_with (first
        | (refine wpList_load_row rfl 32 (.tmp 5) rfl w5.heap.size rfl 32 _ (0, 0) _ P9.out Try.underlying32 rfl pk_info ?_)
        | (refine wpList_store_row rfl 32 (.tmp 2) (.tmp 32) rfl w.heap.size (pkV t f y A8 (l.length - 14) c8) rfl rfl 32 _ K9.out pk_info rfl (by simp [Value.oneCell']) ?_)
        | fail)
      refine bodyPost_ret (v := .tuple #[.agg (pkV t f y A8 (l.length - 14) c8), .int .i64 0]) ?_ rfl ?_
      · exact results_cell_tmp Try.results12 _ _ w.heap.size 32 _ (0, 0) _ rfl (K9.out.row _) Try.underlying32 rfl pk_info
      obtain ⟨rfl, rfl, rfl⟩ := HH.out
      refine ⟨.inr ⟨E.out, A8, c8, rfl, ?_⟩, ?_⟩
      · have s9 := S8.out.far (g := w5.heap.size) (src_apart S8.out P8.out (by simp)) 3 (.slice A8 (l.length - 14) c8)
        have kk := Chg.setRow (w8.setCell ⟨w5.heap.size, 3, none⟩ (.slice A8 (l.length - 14) c8)) (pkV (numB (l.take 6)) (numB ((l.drop 6).take 6)) (numB ((l.drop 12).take 2)) A8 (l.length - 14) c8) (g := w.heap.size) (S := fun b => b = w.heap.size) rfl
        exact src_chg s9 kk (src_apart s9 K9.out (by simp))
      · exact below_setRow (B8.out.setCell (p := ⟨w5.heap.size, 3, none⟩) Z5.out _) (Nat.le_refl _) _
end Go.Proofs.Ytahmdogpnojcpaa.Et
