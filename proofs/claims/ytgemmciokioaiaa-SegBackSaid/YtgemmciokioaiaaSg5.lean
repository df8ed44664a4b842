/- Package seg: isGood, tellMSS of what is built, read. Conditions: those that each states. -/
import Derived.Test.YtgemmciokioaiaaSg3
import Derived.Test.YtgemmciokioaiaaEs
namespace Go.Proofs.Ytgemmciokioaiaa.Sg
open Go.ChangeShapes Go.WideShapes Go.ChangeAt Go.RowKit Go.Deep Rk Fl Gx
open Es hiding src_chg chg_below chg_of_row src_apart
open Ip (wb vw vw_length vw_get wb_append wb_length be2 nb1 nb0 evs_word evs_snocw or16 tot tot_wb psW psW_small psW_bytes be_two be_four u8_eq)
set_option linter.unusedVariables false
set_option linter.unusedSimpArgs false

set_option maxRecDepth 100000 in
set_option maxHeartbeats 2000000 in
theorem isGood_any (A : Option Addr) (c : Nat) (l : List UInt8) (s d : Nat) (hs : s ≤ 4294967295) (hd : d ≤ 4294967295) (w : World) (hb : Src w A l.length c l) (hn : l.length ≤ 1000000) :
    Calls Try.prog 28 #[.slice A l.length c, .int .u32 (s : Int), .int .u32 (d : Int)] w fun e w' => e = .returned (.bool (decide (fo (tot (wb (psW s d 6 l.length)) + tot l) = 65535))) ∧ Below w.heap.size w w' := by
  have PA := Lib.hid (part_b A l.length c l w hb.toBytes (by omega))
  have PS := Lib.hid (fun W => show Calls Try.prog 24 #[.int .u32 (s : Int), .int .u32 (d : Int), .int .u8 6, .int .i64 (l.length : Int)] W (fun e w' => e = .returned (.complex .f64 (fl (evs (wb (psW s d 6 l.length)))) (fl (ods (wb (psW s d 6 l.length))))) ∧ Below W.heap.size W w') from Ip.pseudo_any s d 6 l.length hs hd (by omega) (by omega) W)
  have hpl := evs_le (wb (psW s d 6 l.length))
  rw [wb_length] at hpl
  have hpl : evs (wb (psW s d 6 l.length)) + ods (wb (psW s d 6 l.length)) ≤ 255 * (2 * 6) := hpl
  have hll := evs_le l
  have ef : tot (wb (psW s d 6 l.length)) + tot l = 256 * (evs (wb (psW s d 6 l.length)) + evs l) + (ods (wb (psW s d 6 l.length)) + ods l) := by unfold tot; omega
  rw [ef]
  clear ef hb
  generalize evs (wb (psW s d 6 l.length)) = e1 at *
  generalize ods (wb (psW s d 6 l.length)) = o1 at *
  generalize evs l = e2 at *
  generalize ods l = o2 at *
  have hz : ∀ w, (binOp .add 40 (.complex .f64 (fl (e1 : Int)) (fl (o1 : Int))) (.complex .f64 (fl (e2 : Int)) (fl (o2 : Int)))).run Try.prog w = .ok (.complex .f64 (fl ((e1 : Int) + e2)) (fl ((o1 : Int) + o2))) w := cadd_fl (a := e1) (b := o1) (c := e2) (d := o2) 40 (by omega) (by omega) (by omega) (by omega) (by omega) (by omega)
  have FO := Lib.hid (fun W => fold_ok (fl ((e1 : Int) + e2)) (fl ((o1 : Int) + o2)) (e1 + e2) (o1 + o2) W (by have := (read_fl (v := (e1 : Int) + e2) (by omega)).rep; rwa [show ((e1 + e2 : Nat) : Int) = (e1 : Int) + e2 from by omega]) (by have := (read_fl (v := (o1 : Int) + o2) (by omega)).rep; rwa [show ((o1 + o2 : Nat) : Int) = (o1 : Int) + o2 from by omega]) (by omega) (by omega))
  generalize fo (256 * (e1 + e2) + (o1 + o2)) = F at *
  clear hpl hll
  obtain ⟨db, hdb⟩ : ∃ b, decide (F = 65535) = b := ⟨_, rfl⟩
  rw [hdb]
  have HDB := Lib.hid hdb
  clear hdb
  go_enter Try.func28, Try.ntmps28
  go_wp2_with fail
  refine PA.out.mono ?_; rintro e w1 ⟨rfl, b1⟩
  have B1 := Lib.hid b1
  clear b1 PA
  go_wp2_with fail
  refine (PS.out w1).mono ?_; rintro e w2 ⟨rfl, b2⟩
  have B2 := Lib.hid (B1.out.trans (b2.mono B1.out.size))
  clear b2 B1
  go_wp2_with fail
  refine (FO.out _).mono ?_; rintro e wq ⟨rfl, rfl⟩
  by_cases hF : F = 65535
  · have hF' : (F : Int) = 65535 := by omega
    have HT := Lib.hid (HDB.out.symm.trans (decide_eq_true hF))
    clear hF
    go_wp2
    go_ret
    exact ⟨by rw [HT.out]; rfl, B2.out⟩
  · have hF' : ¬ (F : Int) = 65535 := by omega
    have hF2 : ((F : Int) == 65535) = false := by simpa using hF'
    have HT := Lib.hid (HDB.out.symm.trans (decide_eq_false hF))
    clear hF
    go_wp2
    go_ret
    exact ⟨by rw [HT.out]; rfl, B2.out⟩

set_option maxRecDepth 100000 in
theorem tellMSS_nil (A : Option Addr) (c : Nat) (w : World) :
    Calls Try.prog 29 #[.slice A 0 c] w fun e w' => e = .returned (.tuple #[.int .i64 0, .int .i64 0]) ∧ Below w.heap.size w w' := by
  have B := Below.refl w.heap.size w
  go_enter Try.func29, Try.ntmps29
  go_wp2
  go_step3
  go_wp2
  go_step3
  go_wp2
  rw [Exit.noGoto_ret]
  go_ret2
  exact ⟨rfl, B⟩

theorem back_at_u8 (A : Option Addr) (len c a : Nat) (hx : a ≤ len) : ∃ A', (∀ W, (Instr.sliceAt 27 (.slice A len c) (some (.int .i64 (a : Int))) none none).run Try.prog W = .ok (.slice A' (len - a) (c - a)) W) ∧ A' = (if c = a then A else A.map (·.add a)) := by
  refine ⟨_, fun W => (run_sliceAt_slice (P := Try.prog) (w := W) 27 (.slice A len c) (some (.int .i64 (a : Int))) none none u8_under).trans ?_, rfl⟩
  obtain ⟨i, hi, hs⟩ := Option.map_eq_some_iff.1 u8_elem
  rw [run_slice_l W 27 A len c u8_under .i64 (a : Int) (by omega) (by omega)]
  have hz : (sizeOf (Try.prog.elem 27)).run Try.prog W = .ok i.size W := by simp [sizeOf, typeInfo, hi]
  rw [hz]
  simp [sliced, hs]

set_option maxRecDepth 100000 in
set_option maxHeartbeats 2000000 in
theorem tellMSS_four (A : Option Addr) (c x y : Nat) (hx : x ≤ 255) (hy : y ≤ 255) (w : World) (h : Src w A 4 c [2, 4, UInt8.ofNat x, UInt8.ofNat y]) :
    Calls Try.prog 29 #[.slice A 4 c] w fun e w' => e = .returned (.tuple #[.int .i64 ((x * 256 + y : Nat) : Int), .int .i64 0]) ∧ Below w.heap.size w w' := by
  have B := Below.refl w.heap.size w
  obtain ⟨b, o, _, rfl, hb, k0⟩ := h.toBytes.byte (k := 0) (by omega)
  obtain ⟨b1, o1, _, e1, _, k1⟩ := h.toBytes.byte (k := 1) (by omega)
  obtain ⟨b2, o2, _, e2, _, k2⟩ := h.toBytes.byte (k := 2) (by omega)
  obtain ⟨b3, o3, _, e3, _, k3⟩ := h.toBytes.byte (k := 3) (by omega)
  cases e1; cases e2; cases e3
  have k0 : w.cell? ⟨b, o, none⟩ = some (.int .u8 2) := k0
  have k1 : w.cell? ⟨b, o + 1, none⟩ = some (.int .u8 4) := k1
  have k2 : w.cell? ⟨b, o + 2, none⟩ = some (.int .u8 (x : Int)) := by
    rw [k2]
    have e : (([2, 4, UInt8.ofNat x, UInt8.ofNat y] : List UInt8)[2]).toNat = x := by show (UInt8.ofNat x).toNat = x; rw [UInt8.toNat_ofNat']; omega
    rw [e]
  have k3 : w.cell? ⟨b, o + 3, none⟩ = some (.int .u8 (y : Int)) := by
    rw [k3]
    have e : (([2, 4, UInt8.ofNat x, UInt8.ofNat y] : List UInt8)[3]).toNat = y := by show (UInt8.ofNat y).toNat = y; rw [UInt8.toNat_ofNat']; omega
    rw [e]
  have WD := Lib.hid (fun W => word_any' x y hx hy W)
  have xi := IntWalk.i64_in ((x : Int) * 256 + (y : Int)) (by omega)
  obtain ⟨A', SL, _⟩ := back_at_u8 (some ⟨b, o, none⟩) 4 c 4 (by omega)
  replace SL : ∀ W, (Instr.sliceAt 27 (.slice (some ⟨b, o, none⟩) 4 c) (some (.int .i64 4)) none none).run Try.prog W = .ok (.slice A' 0 (c - 4)) W := SL
  have eK : ((x * 256 + y : Nat) : Int) = (x : Int) * 256 + (y : Int) := by omega
  rw [eK]
  clear h eK
  go_enter Try.func29, Try.ntmps29
  go_wp2
  refine scope_once 0 rfl ?_
  go_wp2
  go_step3
  go_wp2_with fail
  have k2' : w.drew.cell? ⟨b, o + 2, none⟩ = some (.int .u8 (x : Int)) := k2
  have k3' : w.drew.cell? ⟨b, o + 3, none⟩ = some (.int .u8 (y : Int)) := k3
  have hS0 := Lib.hid (Eq.refl w.drew)
  refine wp_region_held_drew (S := fun w' => Hid (w' = w.drew)) (by kernel_rfl) (hS0) (fun hS => ?_)
  refine held_take (i := 0) (d := (some 47)) (v := ?_) rfl rfl (by kernel_rfl) (by kernel_rfl) (by kernel_rfl) (fun _ _ _ h => h) (by rfl) ?_ hS ?_
  rotate_left
  · intro w' hSw; (try dsimp only at hSw); go_simp <;> with_reducible rfl
  simp only [Act.put, List.setIfInBounds_toArray, List.set_cons_zero, List.set_cons_succ]
  refine held_take (i := 1) (d := (some 48)) (v := ?_) rfl rfl (by kernel_rfl) (by kernel_rfl) (by kernel_rfl) (fun _ _ _ h => h) (by rfl) ?_ hS ?_
  rotate_left
  · intro w' hSw; (try dsimp only at hSw); go_simp <;> with_reducible rfl
  simp only [Act.put, List.setIfInBounds_toArray, List.set_cons_zero, List.set_cons_succ]
  refine held_take (i := 2) (d := (some 49)) (v := ?_) rfl rfl (by kernel_rfl) (by kernel_rfl) (by kernel_rfl) (fun _ _ _ h => h) (by rfl) ?_ hS ?_
  rotate_left
  · intro w' hSw; have e := hSw.out; subst e; go_simp <;> with_reducible rfl
  simp only [Act.put, List.setIfInBounds_toArray, List.set_cons_zero, List.set_cons_succ]
  refine held_take (i := 3) (d := (some 50)) (v := ?_) rfl rfl (by kernel_rfl) (by kernel_rfl) (by kernel_rfl) (fun _ _ _ h => h) (by rfl) ?_ hS ?_
  rotate_left
  · intro w' hSw; (try dsimp only at hSw); go_simp <;> with_reducible rfl
  simp only [Act.put, List.setIfInBounds_toArray, List.set_cons_zero, List.set_cons_succ]
  refine held_take (i := 4) (d := (some 51)) (v := ?_) rfl rfl (by kernel_rfl) (by kernel_rfl) (by kernel_rfl) (fun _ _ _ h => h) (by rfl) ?_ hS ?_
  rotate_left
  · intro w' hSw; (try dsimp only at hSw); go_simp <;> with_reducible rfl
  simp only [Act.put, List.setIfInBounds_toArray, List.set_cons_zero, List.set_cons_succ]
  refine held_take (i := 5) (d := (some 52)) (v := ?_) rfl rfl (by kernel_rfl) (by kernel_rfl) (by kernel_rfl) (fun _ _ _ h => h) (by rfl) ?_ hS ?_
  rotate_left
  · intro w' hSw; have e := hSw.out; subst e; go_simp <;> with_reducible rfl
  simp only [Act.put, List.setIfInBounds_toArray, List.set_cons_zero, List.set_cons_succ]
  refine held_one (i := 6) (by kernel_rfl) rfl (by rfl) ?_
  go_simp
  refine (WD.out _).mono ?_; rintro e wq ⟨rfl, rfl⟩
  refine ⟨hS, ?_⟩
  (try simp only [Act.put, List.setIfInBounds_toArray, List.set_cons_zero, List.set_cons_succ])
  refine held_take (i := 7) (d := (some 54)) (v := ?_) rfl rfl (by kernel_rfl) (by kernel_rfl) (by kernel_rfl) (fun _ _ _ h => h) (by rfl) ?_ hS ?_
  rotate_left
  · intro w' hSw; (try dsimp only at hSw); go_simp <;> with_reducible rfl
  simp only [Act.put, List.setIfInBounds_toArray, List.set_cons_zero, List.set_cons_succ]
  refine held_take (i := 8) (d := (some 4)) (v := ?_) rfl rfl (by kernel_rfl) (by kernel_rfl) (by kernel_rfl) (fun _ _ _ h => h) (by rfl) ?_ hS ?_
  rotate_left
  · intro w' hSw; (try dsimp only at hSw); go_simp <;> with_reducible rfl
  simp only [Act.put, List.setIfInBounds_toArray, List.set_cons_zero, List.set_cons_succ]
  refine wpAnyH_done (by kernel_rfl) ?_ _
  have B := B.drew
  go_wp2_with fail
  all_goals
    go_step3
    refine ⟨rfl, ?_⟩
    go_wp2
    rw [Exit.noGoto_ret]
    go_ret2
    exact ⟨rfl, B⟩

/-- The number at a place. -/
def at2 (l : List UInt8) (i k : Nat) : Nat := numB ((l.drop i).take k)
theorem at2_lt (l : List UInt8) (i k : Nat) : at2 l i k < 256 ^ k := by
  have h := numB_lt256 ((l.drop i).take k)
  exact Nat.lt_of_lt_of_le h (Nat.pow_le_pow_right (by omega) (List.length_take_le _ _))
theorem eye_num (l : List UInt8) (i k : Nat) (h1 : 1 ≤ k) (h8 : k ≤ 8) (h20 : 20 ≤ l.length) (hi : i + k ≤ 20) : numS ((l.take 20).drop i, 0) (k : Int) = (at2 l i k, ((l.take 20).drop (i + k), 0)) := by
  rw [numS_ok _ k h1 h8 (by rw [List.length_drop, List.length_take]; omega), List.drop_drop]
  refine Prod.ext ?_ rfl
  show numB _ = numB _
  rw [List.drop_take, List.take_take, Nat.min_eq_left (by omega)]
theorem and63 (n : Nat) (hn : n ≤ 255) : bits .and .u64 (n : Int) 63 = ((n % 64 : Nat) : Int) := by
  show IntKind.u64.wrap ((BitVec.ofInt 64 (n : Int) &&& BitVec.ofInt 64 ((63 : Nat) : Int)).toNat : Int) = _
  rw [BitVec.toNat_and, BitVec.ofInt_natCast, BitVec.ofInt_natCast, BitVec.toNat_ofNat, BitVec.toNat_ofNat, IntKind.wrap_u64]
  have h1 : n % 2 ^ 64 = n := Nat.mod_eq_of_lt (by omega)
  have h2 : 63 % 2 ^ 64 = 2 ^ 6 - 1 := by decide
  rw [h1, h2, Nat.and_two_pow_sub_one_eq_mod]
  omega
/-- A block that is new to w may turn beside what turns. -/
theorem chg_past {w w1 w2 : World} {g r : Nat} (h : Chg w w1 (fun b => b = g)) (k : Chg w1 w2 (fun b => b = r)) (hr : w.heap.size ≤ r) : Chg w w2 (fun b => b = g) :=
  ⟨k.os.trans h.os, k.tape.trans h.tape, k.output.trans h.output, Nat.le_trans h.size k.size, fun i hi hn => (k.block i (Nat.lt_of_lt_of_le hi h.size) (by omega)).trans (h.block i hi hn)⟩

set_option maxRecDepth 100000 in
set_option maxHeartbeats 4000000 in
theorem read_any (g : Nat) (l : List UInt8) (hl20 : 20 ≤ l.length) (w : World) (hE : EyeS w g ((l.take 20).drop 0, 0)) :
    Calls Try.prog 30 #[.pointer (some ⟨g, 0, none⟩)] w fun e w' => e = .returned (.agg (sgV (at2 l 0 2) (at2 l 2 2) (at2 l 4 4) (at2 l 8 4) ((at2 l 13 1 % 64 : Nat) : Int) (at2 l 14 2) 0 none 0 0)) ∧ Chg w w' (fun b => b = g) := by
  have b1 : Below w.heap.size w (w.alloc (.cells sg0 32)) := (Below.refl _ w).alloc (Nat.le_refl _) _
  have R1 := Lib.hid (Blk.new w 32 sg0)
  have C1 := Lib.hid (Chg.of_new b1 (fun b => b = g))
  have E1 := Lib.hid (hE.new b1)
  have GW := Lib.hid hE.lt
  have RG := Lib.hid (show ¬ w.heap.size = g from by have := hE.lt; omega)
  have a0 := at2_lt l 0 2
  have a2 := at2_lt l 2 2
  have a4 := at2_lt l 4 4
  have a8 := at2_lt l 8 4
  have a13 := at2_lt l 13 1
  have a14 := at2_lt l 14 2
  have x0 := IntWalk.u16_in (at2 l 0 2 : Int) (by omega)
  have x2 := IntWalk.u16_in (at2 l 2 2 : Int) (by omega)
  have x4 := IntWalk.u32_in (at2 l 4 4 : Int) (by omega)
  have x8 := IntWalk.u32_in (at2 l 8 4 : Int) (by omega)
  have n13 := and63 (at2 l 13 1) (by omega)
  have x13 := IntWalk.i64_in ((at2 l 13 1 % 64 : Nat) : Int) (by omega)
  have x14 := IntWalk.u16_in (at2 l 14 2 : Int) (by omega)
  obtain ⟨gv, hgv⟩ : ∃ v, at2 l 13 1 % 64 = v := ⟨_, rfl⟩
  rw [hgv] at n13 x13 ⊢
  clear b1 hE hgv
  go_enter Try.func30, Try.ntmps30
  go_upto_region 1 with fail
  generalize w.alloc (.cells sg0 32) = w1 at *
  have N1 := Lib.hid (show numS ((l.take 20).drop 0, 0) 2 = (at2 l 0 2, ((l.take 20).drop 2, 0)) from eye_num l 0 2 (by omega) (by omega) hl20 (by omega))
  go_wp2_with fail
  refine (numS_any g _ 2 _ E1.out).mono ?_
  (try dsimp only)
  rw [N1.out]
  (try dsimp only)
  rintro e w2 ⟨rfl, e2, k2⟩
  have C2 := Lib.hid (C1.out.trans k2)
  have E2 := Lib.hid e2
  have R2 := Lib.hid (R1.out.chg k2 RG.out)
  clear e2 k2 E1 C1 N1 R1
  have N2 := Lib.hid (show numS ((l.take 20).drop 2, 0) 2 = (at2 l 2 2, ((l.take 20).drop 4, 0)) from eye_num l 2 2 (by omega) (by omega) hl20 (by omega))
  go_wp2_with fail
  refine (numS_any g _ 2 _ E2.out).mono ?_
  (try dsimp only)
  rw [N2.out]
  (try dsimp only)
  rintro e w3 ⟨rfl, e3, k3⟩
  have C3 := Lib.hid (C2.out.trans k3)
  have E3 := Lib.hid e3
  have R3 := Lib.hid (R2.out.chg k3 RG.out)
  clear e3 k3 E2 C2 N2 R2
  have N3 := Lib.hid (show numS ((l.take 20).drop 4, 0) 4 = (at2 l 4 4, ((l.take 20).drop 8, 0)) from eye_num l 4 4 (by omega) (by omega) hl20 (by omega))
  go_wp2_with fail
  refine (numS_any g _ 4 _ E3.out).mono ?_
  (try dsimp only)
  rw [N3.out]
  (try dsimp only)
  rintro e w4 ⟨rfl, e4, k4⟩
  have C4 := Lib.hid (C3.out.trans k4)
  have E4 := Lib.hid e4
  have R4 := Lib.hid (R3.out.chg k4 RG.out)
  clear e4 k4 E3 C3 N3 R3
  have N4 := Lib.hid (show numS ((l.take 20).drop 8, 0) 4 = (at2 l 8 4, ((l.take 20).drop 12, 0)) from eye_num l 8 4 (by omega) (by omega) hl20 (by omega))
  go_wp2_with fail
  refine (numS_any g _ 4 _ E4.out).mono ?_
  (try dsimp only)
  rw [N4.out]
  (try dsimp only)
  rintro e w5 ⟨rfl, e5, k5⟩
  have C5 := Lib.hid (C4.out.trans k5)
  have E5 := Lib.hid e5
  have R5 := Lib.hid (R4.out.chg k5 RG.out)
  clear e5 k5 E4 C4 N4 R4
  have b6 : Below w5.heap.size w5 (w5.alloc (.cells (sgV (at2 l 0 2) (at2 l 2 2) (at2 l 4 4) (at2 l 8 4) 0 0 0 none 0 0) 32)) := (Below.refl w5.heap.size w5).alloc (Nat.le_refl _) _
  have S6 := Lib.hid (Blk.new w5 32 (sgV (at2 l 0 2) (at2 l 2 2) (at2 l 4 4) (at2 l 8 4) 0 0 0 none 0 0))
  have C6 := Lib.hid (C5.out.trans (Chg.of_new b6 _))
  have R6 := Lib.hid (R5.out.older (older_below b6))
  have E6 := Lib.hid (E5.out.new b6)
  have GL := Lib.hid (show g < w5.heap.size from E5.out.lt)
  have SG := Lib.hid (show ¬ w5.heap.size = g from by have := E5.out.lt; omega)
  have RR := Lib.hid (show ¬ w.heap.size = w5.heap.size from by have := R5.out.lt; omega)
  have RN := Lib.hid (show w.heap.size ≤ w5.heap.size from by have := R5.out.lt; omega)
  clear b6 C5 R5 E5
  go_upto_region 2 with fail
  generalize w5.alloc (.cells (sgV (at2 l 0 2) (at2 l 2 2) (at2 l 4 4) (at2 l 8 4) 0 0 0 none 0 0) 32) = w6 at *
  generalize w5.heap.size = r at *
  have N6 := Lib.hid (show numS ((l.take 20).drop 12, 0) 1 = (at2 l 12 1, ((l.take 20).drop 13, 0)) from eye_num l 12 1 (by omega) (by omega) hl20 (by omega))
  go_wp2_with fail
  refine (numS_any g _ 1 _ E6.out).mono ?_
  (try dsimp only)
  rw [N6.out]
  (try dsimp only)
  rintro e w7 ⟨rfl, e7, k7⟩
  have C7 := Lib.hid (C6.out.trans k7)
  have E7 := Lib.hid e7
  have R7 := Lib.hid (R6.out.chg k7 RG.out)
  have S7 := Lib.hid (S6.out.chg k7 SG.out)
  clear e7 k7 E6 C6 N6 R6 S6
  have N7 := Lib.hid (show numS ((l.take 20).drop 13, 0) 1 = (at2 l 13 1, ((l.take 20).drop 14, 0)) from eye_num l 13 1 (by omega) (by omega) hl20 (by omega))
  go_wp2_with fail
  refine (numS_any g _ 1 _ E7.out).mono ?_
  (try dsimp only)
  rw [N7.out]
  (try dsimp only)
  rintro e w8 ⟨rfl, e8, k8⟩
  have C8 := Lib.hid (C7.out.trans k8)
  have E8 := Lib.hid e8
  have R8 := Lib.hid (R7.out.chg k8 RG.out)
  have S8 := Lib.hid (S7.out.chg k8 SG.out)
  clear e8 k8 E7 C7 N7 R7 S7
  have c1 := (S8.out.cell 4).trans (show _ = some (.int .i64 0) from rfl)
  have g1 := S8.out.frozen 4
  obtain ⟨w9, hw9⟩ : ∃ wq, w8.setCell ⟨r, 4, none⟩ (.int .i64 (gv : Int)) = wq := ⟨_, rfl⟩
  have S9 := Lib.hid (show Blk w9 r 32 (sgV (at2 l 0 2) (at2 l 2 2) (at2 l 4 4) (at2 l 8 4) (gv : Int) 0 0 none 0 0) from by rw [← hw9]; exact S8.out.put 4 (.int .i64 (gv : Int)))
  have kk : Chg w8 w9 (fun b => b = r) := by rw [← hw9]; exact Chg.set w8 4 _ (g := r) (S := fun b => b = r) rfl
  have C9 := Lib.hid (chg_past C8.out (kk) RN.out)
  have R9 := Lib.hid (R8.out.chg kk RR.out)
  have E9 := Lib.hid (E8.out.away kk (fun b e => by rw [e]; exact GL.out))
  have HQ := Lib.hid hw9
  clear kk hw9 C8 R8 E8 S8
  go_upto_region 4 with fail
  rw [HQ.out]
  clear HQ c1 g1
  have N9 := Lib.hid (show numS ((l.take 20).drop 14, 0) 2 = (at2 l 14 2, ((l.take 20).drop 16, 0)) from eye_num l 14 2 (by omega) (by omega) hl20 (by omega))
  go_wp2_with fail
  refine (numS_any g _ 2 _ E9.out).mono ?_
  (try dsimp only)
  rw [N9.out]
  (try dsimp only)
  rintro e w10 ⟨rfl, e10, k10⟩
  have C10 := Lib.hid (C9.out.trans k10)
  have E10 := Lib.hid e10
  have R10 := Lib.hid (R9.out.chg k10 RG.out)
  have S10 := Lib.hid (S9.out.chg k10 SG.out)
  clear e10 k10 E9 C9 N9 R9 S9
  have c1 := (S10.out.cell 5).trans (show _ = some (.int .u16 0) from rfl)
  have g1 := S10.out.frozen 5
  obtain ⟨w11, hw11⟩ : ∃ wq, w10.setCell ⟨r, 5, none⟩ (.int .u16 (at2 l 14 2 : Int)) = wq := ⟨_, rfl⟩
  have S11 := Lib.hid (show Blk w11 r 32 (sgV (at2 l 0 2) (at2 l 2 2) (at2 l 4 4) (at2 l 8 4) (gv : Int) (at2 l 14 2) 0 none 0 0) from by rw [← hw11]; exact S10.out.put 5 (.int .u16 (at2 l 14 2 : Int)))
  have kk : Chg w10 w11 (fun b => b = r) := by rw [← hw11]; exact Chg.set w10 5 _ (g := r) (S := fun b => b = r) rfl
  have C11 := Lib.hid (chg_past C10.out (kk) RN.out)
  have R11 := Lib.hid (R10.out.chg kk RR.out)
  have E11 := Lib.hid (E10.out.away kk (fun b e => by rw [e]; exact GL.out))
  have HQ := Lib.hid hw11
  clear kk hw11 C10 R10 E10 S10
  go_upto_region 5 with fail
  rw [HQ.out]
  clear HQ c1 g1
  go_wp2_with (first
    | (refine wpList_load_row rfl 32 (.tmp 3) rfl r rfl 32 _ (0, 0) _ S11.out Try.underlying32 rfl sg_info ?_)
    | (refine wpList_store_row rfl 32 (.tmp 2) (.tmp 28) rfl w.heap.size (sgV (at2 l 0 2) (at2 l 2 2) (at2 l 4 4) (at2 l 8 4) (gv : Int) (at2 l 14 2) 0 none 0 0) rfl rfl 32 _ R11.out sg_info rfl (by simp [Value.oneCell']) ?_)
    | fail)
  refine bodyPost_ret (v := .agg (sgV (at2 l 0 2) (at2 l 2 2) (at2 l 4 4) (at2 l 8 4) (gv : Int) (at2 l 14 2) 0 none 0 0)) ?_ rfl ?_
  · exact results_cell_row Try.results30 _ _ w.heap.size 32 _ (0, 0) _ rfl (R11.out.row _) Try.underlying32 rfl sg_info
  exact ⟨rfl, chg_past C11.out (Chg.setRow w11 _ (g := w.heap.size) (S := fun b => b = w.heap.size) rfl) (Nat.le_refl _)⟩
end Go.Proofs.Ytgemmciokioaiaa.Sg
