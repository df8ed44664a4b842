/- The document's answer to 'which second does this text tell'. Conditions: those that each states. -/
import Derived.Test.YtbmnfefpkahejaaDoorRefSec2
namespace Go.Proofs.YtbmnfefpkahejaaDoor
open Go.ChangeShapes Go.WideShapes Go.ChangeAt Go.RowKit Go.Deep

theorem refParse_len (l : List UInt8) (h : l.length ≠ 29) (w : World) :
    Calls Tryd.prog 18 #[.string ⟨l.toArray⟩] w fun e w' => e = .returned (.tuple #[.int .i64 0, .bool false]) ∧ w' = w := by
  have h' : ((l.length : Int) != 29) = true := by simp; omega
  clear h
  go_enter Tryd.func18, Tryd.ntmps18
  go_wp2
  go_ret2
  exact ⟨rfl, rfl⟩
/-- The names of months, cut out of all: the document's. -/
theorem run_mo (mo : Nat) (h : mo < 12) (w : World) : (Instr.slice 9 (.string ⟨moAll.toArray⟩) (some (.int .i64 (3 * ((mo : Int) + 1) - 3))) (some (.int .i64 (3 * ((mo : Int) + 1)))) none).run Tryd.prog w = .ok (.string ⟨(moNames.getD mo []).toArray⟩) w := by
  have := run_cut3 moAll mo (by show 3 * mo + 3 ≤ 36; omega) (3 * ((mo : Int) + 1) - 3) (3 * ((mo : Int) + 1)) (by omega) (by omega) w
  rwa [mo_cut mo h] at this

theorem Std.drewN {w0 W : World} (h : Hid (Std w0 W)) (k : Nat) : Std w0 (W.drewN k) := ⟨h.out.vars.drewN _, below_drewN h.out.bel _⟩
theorem Std.allocd {w0 W : World} {o : Obj} (h : Hid (Std w0 W)) : Std w0 (W.alloc o) := ⟨h.out.vars.alloc _, h.out.bel.alloc h.out.bel.size _⟩

set_option maxRecDepth 100000 in
set_option maxHeartbeats 4000000 in
theorem refParse_none (l : List UInt8) (hl : l.length = 29) (Y D H I S : Int) (hY : numOf (part l 12 4) = Y) (hD : numOf (part l 5 2) = D) (hH : numOf (part l 17 2) = H) (hI : numOf (part l 20 2) = I) (hS : numOf (part l 23 2) = S) (hno : ∀ n, ¬ Tells l n) (w : World) (hv : Vars w) :
    Calls Tryd.prog 18 #[.string ⟨l.toArray⟩] w fun e w' => e = .returned (.tuple #[.int .i64 0, .bool false]) ∧ Below w.heap.size w w' := by
  have NO := Lib.hid hno
  clear hno
  have A12 := Lib.hid (fun w => run_part l 12 4 (by omega) 12 16 (by omega) (by omega) w)
  have A8 := Lib.hid (fun w => run_part l 8 3 (by omega) 8 11 (by omega) (by omega) w)
  have A5 := Lib.hid (fun w => run_part l 5 2 (by omega) 5 7 (by omega) (by omega) w)
  have A17 := Lib.hid (fun w => run_part l 17 2 (by omega) 17 19 (by omega) (by omega) w)
  have A20 := Lib.hid (fun w => run_part l 20 2 (by omega) 20 22 (by omega) (by omega) w)
  have A23 := Lib.hid (fun w => run_part l 23 2 (by omega) 23 25 (by omega) (by omega) w)
  have N12 := Lib.hid (fun w => read_any (part l 12 4) (part_len l 12 4 (by omega)) w)
  have N5 := Lib.hid (fun w => read_any (part l 5 2) (part_len l 5 2 (by omega)) w)
  have N17 := Lib.hid (fun w => read_any (part l 17 2) (part_len l 17 2 (by omega)) w)
  have N20 := Lib.hid (fun w => read_any (part l 20 2) (part_len l 20 2 (by omega)) w)
  have N23 := Lib.hid (fun w => read_any (part l 23 2) (part_len l 23 2 (by omega)) w)
  rw [hY] at N12
  rw [hD] at N5
  rw [hH] at N17
  rw [hI] at N20
  rw [hS] at N23
  have hl29 : l.length = 29 := hl
  have CM := Lib.hid (fun mo h w => run_mo mo h w)
  have STD := Lib.hid (show Std w w from ⟨hv, Below.refl _ _⟩)
  unfold moAll at CM
  clear hY hD hH hI hS hv hl
  generalize part l 12 4 = p12 at *
  generalize part l 8 3 = p8 at *
  generalize part l 5 2 = p5 at *
  generalize part l 17 2 = p17 at *
  generalize part l 20 2 = p20 at *
  generalize part l 23 2 = p23 at *
  go_enter Tryd.func18, Tryd.ntmps18
  go_wp2
  go_loopg [4] 12 (fun g s4 wr => ∃ mo : Nat, mo + g = 12 ∧ s4 = .int .i64 ((mo : Int) + 1) ∧ Hid (Std w wr))
  case atStart => exact ⟨0, by omega, by simp, STD⟩
  case round =>
    obtain ⟨mo, hg, rfl, ST⟩ := hrel
    obtain ⟨wo, rfl⟩ : ∃ wo : World, wo = wr := ⟨_, rfl⟩
    by_cases hlt : mo < 12
    · have hlt' : (mo : Int) + 1 ≤ 12 := by omega
      obtain ⟨g', rfl⟩ : ∃ g', gk = g' + 1 := ⟨gk - 1, by omega⟩
      have a8 := A8.out
      have cm := CM.out mo hlt
      have x3 := IntWalk.i64_in (3 * ((mo : Int) + 1)) (by omega)
      have x4 := IntWalk.i64_in (3 * ((mo : Int) + 1) - 3) (by omega)
      have x5 := IntWalk.i64_in ((mo : Int) + 1 + 1) (by omega)
      by_cases he : p8 = moNames.getD mo []
      · rw [← he] at cm
        have HE := Lib.hid he
        clear he
        go_upto_region 6 with fail
        go_quiet (fail)
        have ST0 := Lib.hid (Std.drewN ST nq)
        clear a8 cm x3 x4
        go_wp2
        go_loopg [5] 7 (fun g2 s5 wr => ∃ wd : Nat, wd + g2 = 7 ∧ s5 = .int .i64 (wd : Int) ∧ Hid (Std w wr))
        case atStart => exact ⟨0, by omega, by simp, ST0⟩
        case round =>
          obtain ⟨wd, hg2, rfl, STI⟩ := hrel
          obtain ⟨wi, rfl⟩ : ∃ wi : World, wi = wr := ⟨_, rfl⟩
          clear ST0
          by_cases hw : wd < 7
          · have hw' : (wd : Int) < 7 := by omega
            obtain ⟨g2', rfl⟩ : ∃ g2', gk = g2' + 1 := ⟨gk - 1, by omega⟩
            have x6 := IntWalk.i64_in ((wd : Int) + 1) (by omega)
            have a12 := A12.out
            have a5 := A5.out
            have a17 := A17.out
            have a20 := A20.out
            have a23 := A23.out
            have NW := Lib.hid (show Now w wi.heap.size 32 #[.int .i64 Y, .int .i64 ((mo : Int) + 1), .int .i64 D, .int .i64 H, .int .i64 I, .int .i64 S, .int .i64 (wd : Int)] (wi.alloc (.cells #[.int .i64 Y, .int .i64 ((mo : Int) + 1), .int .i64 D, .int .i64 H, .int .i64 I, .int .i64 S, .int .i64 (wd : Int)] 32)).drew from ⟨(STI.out.vars.alloc _).drew, (STI.out.bel.alloc STI.out.bel.size _).drew, Blk.new wi _ _⟩)
            go_upto_region 10 with fail
            go_cut [6] (fun s6 wx => s6 = .pointer (some ⟨wi.heap.size, 0, none⟩) ∧ Hid (Now w wi.heap.size 32 #[.int .i64 Y, .int .i64 ((mo : Int) + 1), .int .i64 D, .int .i64 H, .int .i64 I, .int .i64 S, .int .i64 (wd : Int)] wx))
            case first =>
              go_region_held3 (fun w' => Hid (Std w w'))
                (first
                  | exact Lib.hid (Std.drew STI)
                  | exact Lib.hid (Std.drew (Lib.hid (Std.allocd STI)))
                  | assumption)
                (first
                  | ((with_reducible refine (N12.out _).mono ?_); rintro e w2 ⟨rfl, rfl⟩)
                  | ((with_reducible refine (N5.out _).mono ?_); rintro e w2 ⟨rfl, rfl⟩)
                  | ((with_reducible refine (N17.out _).mono ?_); rintro e w2 ⟨rfl, rfl⟩)
                  | ((with_reducible refine (N20.out _).mono ?_); rintro e w2 ⟨rfl, rfl⟩)
                  | ((with_reducible refine (N23.out _).mono ?_); rintro e w2 ⟨rfl, rfl⟩))
              all_goals (go_wp2_with fail; go_meet; exact ⟨rfl, NW⟩)
            case rest =>
              obtain ⟨rfl, NOW⟩ := hcut
              clear a12 a5 a17 a20 a23 NW
              have k0 := NOW.out.blk.cell 0
              have k1 := NOW.out.blk.cell 1
              have k2 := NOW.out.blk.cell 2
              have k3 := NOW.out.blk.cell 3
              have k4 := NOW.out.blk.cell 4
              have k5 := NOW.out.blk.cell 5
              have k6 := NOW.out.blk.cell 6
              simp only [List.getElem?_toArray, List.getElem?_cons_zero, List.getElem?_cons_succ] at k0 k1 k2 k3 k4 k5 k6
              by_cases hg : good Y ((mo : Int) + 1) D H I S (wd : Int)
              · have hd := dat_of hg
                have hne : text Y ((mo : Int) + 1) D H I S (wd : Int) ≠ l := fun e => NO.out _ ⟨_, _, _, _, _, _, _, hd, e.symm⟩
                generalize (bef Y + cum Y ((mo : Int) + 1) + (D - 1)) * 86400 + (H * 3600 + I * 60 + S) = n at *
                have SO := Lib.hid (fun w hv => refSec_ok n Y ((mo : Int) + 1) D H I S (wd : Int) hd w hv)
                have PR := Lib.hid (fun w hv => refPrint_any n Y ((mo : Int) + 1) D H I S (wd : Int) hd w hv)
                have hb : (text Y ((mo : Int) + 1) D H I S (wd : Int) == l) = false := by simpa using hne
                clear hg hd hne
                generalize text Y ((mo : Int) + 1) D H I S (wd : Int) = t at *
                go_wp2_with fail
                refine (SO.out _ NOW.out.vars).mono ?_; rintro e w5 ⟨rfl, b5⟩
                have NOW5 := Lib.hid (Now.step b5 NOW)
                clear b5 k0 k1 k2 k3 k4 k5 k6
                go_wp2_with fail
                refine (PR.out _ NOW5.out.vars).mono ?_; rintro e w6 ⟨rfl, b6⟩
                have NOW6 := Lib.hid (Now.step b6 NOW5)
                clear b6
                go_wp2
                go_roundg g2'
                case rel => exact ⟨wd + 1, by omega, by first | rfl | (simp; done) | go_num, Lib.hid ⟨NOW6.out.vars, NOW6.out.bel⟩⟩
                case measure => omega
              · go_wp2_with fail
                refine (refSec_no Y ((mo : Int) + 1) D H I S (wd : Int) hg _ NOW.out.vars).mono ?_; rintro e w5 ⟨rfl, b5⟩
                have NOW5 := Lib.hid (Now.step b5 NOW)
                clear b5 k0 k1 k2 k3 k4 k5 k6
                go_wp2
                go_roundg g2'
                case rel => exact ⟨wd + 1, by omega, by first | rfl | (simp; done) | go_num, Lib.hid ⟨NOW5.out.vars, NOW5.out.bel⟩⟩
                case measure => omega
          · have hge : ¬ (wd : Int) < 7 := by omega
            go_wp2
            go_roundg g'
            case rel => exact ⟨mo + 1, by omega, by first | rfl | (simp; done) | go_num, STI⟩
            case measure => omega
      · have hb : (p8 == moNames.getD mo []) = false := by simpa using he
        clear he
        generalize moNames.getD mo [] = nm at *
        go_upto_region 6 with fail
        go_quiet (fail)
        go_wp2
        go_roundg g'
        case rel => exact ⟨mo + 1, by omega, by first | rfl | (simp; done) | go_num, Lib.hid (Std.drewN ST _)⟩
        case measure => omega
    · have hge : ¬ ((mo : Int) + 1 ≤ 12) := by omega
      go_wp2
      go_ret2
      exact ⟨rfl, ST.out.bel⟩
end Go.Proofs.YtbmnfefpkahejaaDoor
