/- The document's answer to 'which second does this text tell': a text that tells one. Conditions: those that each states. -/
import Derived.Test.YtbmnfefpkahejaaDoorRefPars
namespace Go.Proofs.YtbmnfefpkahejaaDoor
open Go.ChangeShapes Go.WideShapes Go.ChangeAt Go.RowKit Go.Deep

theorem mo_apart {i j : Nat} (hi : i < 12) (hj : j < 12) (h : moNames.getD i [] = moNames.getD j []) : i = j := by
  have a := mo_idx i hi
  have b := mo_idx j hj
  rw [h] at a
  omega

set_option maxRecDepth 100000 in
set_option maxHeartbeats 6000000 in
theorem refParse_some (l : List UInt8) (hl : l.length = 29) (n Y D H I S : Int) (mo0 wd0 : Nat) (hm0 : mo0 < 12) (hw0 : wd0 < 7) (hd : Dat n Y ((mo0 : Int) + 1) D H I S (wd0 : Int)) (ht : text Y ((mo0 : Int) + 1) D H I S (wd0 : Int) = l) (h8 : part l 8 3 = moNames.getD mo0 [])
    (hY : numOf (part l 12 4) = Y) (hD : numOf (part l 5 2) = D) (hH : numOf (part l 17 2) = H) (hI : numOf (part l 20 2) = I) (hS : numOf (part l 23 2) = S) (w : World) (hv : Vars w) :
    Calls Tryd.prog 18 #[.string ⟨l.toArray⟩] w fun e w' => e = .returned (.tuple #[.int .i64 n, .bool true]) ∧ Below w.heap.size w w' := by
  have SO := Lib.hid (fun w hv => refSec_ok n Y ((mo0 : Int) + 1) D H I S (wd0 : Int) hd w hv)
  have pr := fun w hv => refPrint_any n Y ((mo0 : Int) + 1) D H I S (wd0 : Int) hd w hv
  rw [ht] at pr
  have PR := Lib.hid pr
  have NG := Lib.hid (show ∀ wd : Nat, wd < wd0 → ¬ good Y ((mo0 : Int) + 1) D H I S (wd : Int) from fun wd hw hg => by
    have a := hg.2.2
    have b := hd.good.2.2
    omega)
  have AP := Lib.hid (show ∀ mo, mo < mo0 → part l 8 3 ≠ moNames.getD mo [] from fun mo hm e => by
    have := mo_apart (by omega) hm0 (e.symm.trans h8)
    omega)
  have H8 := Lib.hid h8
  clear hd ht pr h8
  have A12 := Lib.hid (fun w => run_part l 12 4 (by omega) 12 16 (by omega) (by omega) w)
  have A8 := Lib.hid (fun w => run_part l 8 3 (by omega) 8 11 (by omega) (by omega) w)
  have A5 := Lib.hid (fun w => run_part l 5 2 (by omega) 5 7 (by omega) (by omega) w)
  have A17 := Lib.hid (fun w => run_part l 17 2 (by omega) 17 19 (by omega) (by omega) w)
  have A20 := Lib.hid (fun w => run_part l 20 2 (by omega) 20 22 (by omega) (by omega) w)
  have A23 := Lib.hid (fun w => run_part l 23 2 (by omega) 23 25 (by omega) (by omega) w)
  have N12 := Lib.hid (fun w => read_any (part l 12 4) (part_len l 12 4 (by omega)) w)
  have N5 := Lib.hid (fun w => read_any (part l 5 2) (part_len l 5 2 (by omega)) w)
  have N17 := Lib.hid (fun w => read_any (part l 17 2) (part_len l 17 2 (by omega)) w)
  have N20 := Lib.hid (fun w => read_any (part l 20 2) (part_len l 20 2 (by omega)) w)
  have N23 := Lib.hid (fun w => read_any (part l 23 2) (part_len l 23 2 (by omega)) w)
  rw [hY] at N12
  rw [hD] at N5
  rw [hH] at N17
  rw [hI] at N20
  rw [hS] at N23
  have hl29 : l.length = 29 := hl
  have CM := Lib.hid (fun mo h w => run_mo mo h w)
  have STD := Lib.hid (show Std w w from ⟨hv, Below.refl _ _⟩)
  unfold moAll at CM
  clear hY hD hH hI hS hv hl
  generalize part l 12 4 = p12 at *
  generalize part l 8 3 = p8 at *
  generalize part l 5 2 = p5 at *
  generalize part l 17 2 = p17 at *
  generalize part l 20 2 = p20 at *
  generalize part l 23 2 = p23 at *
  go_enter Tryd.func18, Tryd.ntmps18
  go_wp2
  go_loopg [4] mo0 (fun g s4 wr => ∃ mo : Nat, mo + g = mo0 ∧ s4 = .int .i64 ((mo : Int) + 1) ∧ Hid (Std w wr))
  case atStart => exact ⟨0, by omega, by simp, STD⟩
  case round =>
    obtain ⟨mo, hg, rfl, ST⟩ := hrel
    obtain ⟨wo, rfl⟩ : ∃ wo : World, wo = wr := ⟨_, rfl⟩
    have hlt : mo < 12 := by omega
    have hlt' : (mo : Int) + 1 ≤ 12 := by omega
    have a8 := A8.out
    have cm := CM.out mo hlt
    have x3 := IntWalk.i64_in (3 * ((mo : Int) + 1)) (by omega)
    have x4 := IntWalk.i64_in (3 * ((mo : Int) + 1) - 3) (by omega)
    have x5 := IntWalk.i64_in ((mo : Int) + 1 + 1) (by omega)
    by_cases hlm : mo < mo0
    · obtain ⟨g', rfl⟩ : ∃ g', gk = g' + 1 := ⟨gk - 1, by omega⟩
      have he := AP.out mo hlm
      have hb : (p8 == moNames.getD mo []) = false := by simpa using he
      clear he
      generalize moNames.getD mo [] = nm at *
      go_upto_region 6 with fail
      go_quiet (fail)
      go_wp2
      go_roundg g'
      case rel => exact ⟨mo + 1, by omega, by first | rfl | (simp; done) | go_num, Lib.hid (Std.drewN ST _)⟩
      case measure => omega
    · obtain rfl : mo = mo0 := by omega
      rw [← H8.out] at cm
      clear H8 AP
      go_upto_region 6 with fail
      go_quiet (fail)
      have ST0 := Lib.hid (Std.drewN ST nq)
      clear a8 cm x3 x4
      go_wp2
      go_loopg [5] wd0 (fun g2 s5 wr => ∃ wd : Nat, wd + g2 = wd0 ∧ s5 = .int .i64 (wd : Int) ∧ Hid (Std w wr))
      case atStart => exact ⟨0, by omega, by simp, ST0⟩
      case round =>
        obtain ⟨wd, hg2, rfl, STI⟩ := hrel
        obtain ⟨wi, rfl⟩ : ∃ wi : World, wi = wr := ⟨_, rfl⟩
        clear ST0
        have hw' : (wd : Int) < 7 := by omega
        have x6 := IntWalk.i64_in ((wd : Int) + 1) (by omega)
        by_cases hlw : wd < wd0
        · obtain ⟨g2', rfl⟩ : ∃ g2', gk = g2' + 1 := ⟨gk - 1, by omega⟩
          have a12 := A12.out
          have a5 := A5.out
          have a17 := A17.out
          have a20 := A20.out
          have a23 := A23.out
          have NW := Lib.hid (show Now w wi.heap.size 32 #[.int .i64 Y, .int .i64 ((mo : Int) + 1), .int .i64 D, .int .i64 H, .int .i64 I, .int .i64 S, .int .i64 (wd : Int)] (wi.alloc (.cells #[.int .i64 Y, .int .i64 ((mo : Int) + 1), .int .i64 D, .int .i64 H, .int .i64 I, .int .i64 S, .int .i64 (wd : Int)] 32)).drew from ⟨(STI.out.vars.alloc _).drew, (STI.out.bel.alloc STI.out.bel.size _).drew, Blk.new wi _ _⟩)
          go_upto_region 10 with fail
          go_cut [6] (fun s6 wx => s6 = .pointer (some ⟨wi.heap.size, 0, none⟩) ∧ Hid (Now w wi.heap.size 32 #[.int .i64 Y, .int .i64 ((mo : Int) + 1), .int .i64 D, .int .i64 H, .int .i64 I, .int .i64 S, .int .i64 (wd : Int)] wx))
          case first =>
            go_region_held3 (fun w' => Hid (Std w w'))
              (first
                | exact Lib.hid (Std.drew STI)
                | exact Lib.hid (Std.drew (Lib.hid (Std.allocd STI)))
                | assumption)
              (first
                | ((with_reducible refine (N12.out _).mono ?_); rintro e w2 ⟨rfl, rfl⟩)
                | ((with_reducible refine (N5.out _).mono ?_); rintro e w2 ⟨rfl, rfl⟩)
                | ((with_reducible refine (N17.out _).mono ?_); rintro e w2 ⟨rfl, rfl⟩)
                | ((with_reducible refine (N20.out _).mono ?_); rintro e w2 ⟨rfl, rfl⟩)
                | ((with_reducible refine (N23.out _).mono ?_); rintro e w2 ⟨rfl, rfl⟩))
            all_goals (go_wp2_with fail; go_meet; exact ⟨rfl, NW⟩)
          case rest =>
            obtain ⟨rfl, NOW⟩ := hcut
            clear a12 a5 a17 a20 a23 NW
            have k0 := NOW.out.blk.cell 0
            have k1 := NOW.out.blk.cell 1
            have k2 := NOW.out.blk.cell 2
            have k3 := NOW.out.blk.cell 3
            have k4 := NOW.out.blk.cell 4
            have k5 := NOW.out.blk.cell 5
            have k6 := NOW.out.blk.cell 6
            simp only [List.getElem?_toArray, List.getElem?_cons_zero, List.getElem?_cons_succ] at k0 k1 k2 k3 k4 k5 k6
            have hg := NG.out wd (by omega)
            go_wp2_with fail
            refine (refSec_no Y ((mo : Int) + 1) D H I S (wd : Int) hg _ NOW.out.vars).mono ?_; rintro e w5 ⟨rfl, b5⟩
            have NOW5 := Lib.hid (Now.step b5 NOW)
            clear b5 k0 k1 k2 k3 k4 k5 k6
            go_wp2
            go_roundg g2'
            case rel => exact ⟨wd + 1, by omega, by first | rfl | (simp; done) | go_num, Lib.hid ⟨NOW5.out.vars, NOW5.out.bel⟩⟩
            case measure => omega
        · obtain rfl : wd = wd0 := by omega
          have a12 := A12.out
          have a5 := A5.out
          have a17 := A17.out
          have a20 := A20.out
          have a23 := A23.out
          have NW := Lib.hid (show Now w wi.heap.size 32 #[.int .i64 Y, .int .i64 ((mo : Int) + 1), .int .i64 D, .int .i64 H, .int .i64 I, .int .i64 S, .int .i64 (wd : Int)] (wi.alloc (.cells #[.int .i64 Y, .int .i64 ((mo : Int) + 1), .int .i64 D, .int .i64 H, .int .i64 I, .int .i64 S, .int .i64 (wd : Int)] 32)).drew from ⟨(STI.out.vars.alloc _).drew, (STI.out.bel.alloc STI.out.bel.size _).drew, Blk.new wi _ _⟩)
          go_upto_region 10 with fail
          go_cut [6] (fun s6 wx => s6 = .pointer (some ⟨wi.heap.size, 0, none⟩) ∧ Hid (Now w wi.heap.size 32 #[.int .i64 Y, .int .i64 ((mo : Int) + 1), .int .i64 D, .int .i64 H, .int .i64 I, .int .i64 S, .int .i64 (wd : Int)] wx))
          case first =>
            go_region_held3 (fun w' => Hid (Std w w'))
              (first
                | exact Lib.hid (Std.drew STI)
                | exact Lib.hid (Std.drew (Lib.hid (Std.allocd STI)))
                | assumption)
              (first
                | ((with_reducible refine (N12.out _).mono ?_); rintro e w2 ⟨rfl, rfl⟩)
                | ((with_reducible refine (N5.out _).mono ?_); rintro e w2 ⟨rfl, rfl⟩)
                | ((with_reducible refine (N17.out _).mono ?_); rintro e w2 ⟨rfl, rfl⟩)
                | ((with_reducible refine (N20.out _).mono ?_); rintro e w2 ⟨rfl, rfl⟩)
                | ((with_reducible refine (N23.out _).mono ?_); rintro e w2 ⟨rfl, rfl⟩))
            all_goals (go_wp2_with fail; go_meet; exact ⟨rfl, NW⟩)
          case rest =>
            obtain ⟨rfl, NOW⟩ := hcut
            clear a12 a5 a17 a20 a23 NW
            have k0 := NOW.out.blk.cell 0
            have k1 := NOW.out.blk.cell 1
            have k2 := NOW.out.blk.cell 2
            have k3 := NOW.out.blk.cell 3
            have k4 := NOW.out.blk.cell 4
            have k5 := NOW.out.blk.cell 5
            have k6 := NOW.out.blk.cell 6
            simp only [List.getElem?_toArray, List.getElem?_cons_zero, List.getElem?_cons_succ] at k0 k1 k2 k3 k4 k5 k6
            go_wp2_with fail
            refine (SO.out _ NOW.out.vars).mono ?_; rintro e w5 ⟨rfl, b5⟩
            have NOW5 := Lib.hid (Now.step b5 NOW)
            clear b5 k0 k1 k2 k3 k4 k5 k6
            go_wp2_with fail
            refine (PR.out _ NOW5.out.vars).mono ?_; rintro e w6 ⟨rfl, b6⟩
            have NOW6 := Lib.hid (Now.step b6 NOW5)
            clear b6
            go_wp2
            go_ret2
            exact ⟨rfl, NOW6.out.bel⟩

/-- The document's Parse, of a text that tells a second. -/
theorem refParse_ok (l : List UInt8) (n : Int) (h : Tells l n) (w : World) (hv : Vars w) :
    Calls Tryd.prog 18 #[.string ⟨l.toArray⟩] w fun e w' => e = .returned (.tuple #[.int .i64 n, .bool true]) ∧ Below w.heap.size w w' := by
  obtain ⟨Y, M, D, H, I, S, W, hd, rfl⟩ := h
  have b := hd.bd
  obtain ⟨wd, rfl⟩ : ∃ k : Nat, W = k := ⟨W.toNat, by omega⟩
  obtain ⟨mo, rfl⟩ : ∃ k : Nat, M = (k : Int) + 1 := ⟨(M - 1).toNat, by omega⟩
  obtain ⟨hl, hs⟩ := says_text hd
  have hp := (text_parts Y ((mo : Int) + 1) D H I S (wd : Int) (by omega) (by omega)).2.2.1
  rw [show ((mo : Int) + 1 - 1).toNat = mo by omega] at hp
  exact refParse_some _ hl n Y D H I S mo wd (by omega) (by omega) hd rfl hp hs.y hs.d hs.h hs.i hs.s w hv
/-- The document's Parse, of any other. -/
theorem refParse_no (l : List UInt8) (h : ∀ n, ¬ Tells l n) (w : World) (hv : Vars w) :
    Calls Tryd.prog 18 #[.string ⟨l.toArray⟩] w fun e w' => e = .returned (.tuple #[.int .i64 0, .bool false]) ∧ Below w.heap.size w w' := by
  by_cases hl : l.length = 29
  · exact refParse_none l hl _ _ _ _ _ rfl rfl rfl rfl rfl h w hv
  · exact (refParse_len l hl w).mono fun e w' ⟨h1, h2⟩ => ⟨h1, h2 ▸ Below.refl _ _⟩
end Go.Proofs.YtbmnfefpkahejaaDoor
