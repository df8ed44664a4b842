/- How the document tells a second's date. Conditions: those that each states. -/
import Derived.Test.YtbmnfefpkahejaaDoorPars
import Derived.Test.YtbmnfefpkahejaaDoorRefOf
import Derived.Laws.BytesString
import Derived.Laws.BytesArg
namespace Go.Proofs.YtbmnfefpkahejaaDoor
open Go.ChangeShapes Go.WideShapes Go.ChangeAt Go.RowKit Go.Deep

theorem reads3_of {w0 w : World} {d : Nat} {Y M D H I S W : Int} (h : Now w0 d 32 #[.int .i64 Y, .int .i64 M, .int .i64 D, .int .i64 H, .int .i64 I, .int .i64 S, .int .i64 W] w) :
    (w.cell? ⟨d, 6, none⟩ = some (.int .i64 W) ∧ w.cell? ⟨d, 2, none⟩ = some (.int .i64 D) ∧ w.cell? ⟨d, 1, none⟩ = some (.int .i64 M) ∧ w.cell? ⟨d, 0, none⟩ = some (.int .i64 Y) ∧ w.cell? ⟨d, 3, none⟩ = some (.int .i64 H) ∧ w.cell? ⟨d, 4, none⟩ = some (.int .i64 I) ∧ w.cell? ⟨d, 5, none⟩ = some (.int .i64 S)) ∧ Hid (Now w0 d 32 #[.int .i64 Y, .int .i64 M, .int .i64 D, .int .i64 H, .int .i64 I, .int .i64 S, .int .i64 W] w) := by
  refine ⟨⟨?_, ?_, ?_, ?_, ?_, ?_, ?_⟩, Lib.hid h⟩
  · rw [h.blk.cell]; rfl
  · rw [h.blk.cell]; rfl
  · rw [h.blk.cell]; rfl
  · rw [h.blk.cell]; rfl
  · rw [h.blk.cell]; rfl
  · rw [h.blk.cell]; rfl
  · rw [h.blk.cell]; rfl
set_option maxRecDepth 100000 in
set_option maxHeartbeats 1000000 in
theorem refTwo_any (n : Int) (h0 : 0 ≤ n) (h1 : n ≤ 9999) (w : World) :
    Calls Tryd.prog 22 #[.int .i64 n] w fun e w' => e = .returned (.string ⟨(two n).toArray⟩) ∧ Below w.heap.size w w' := by
  have a := dgt_nat (show n / 10 % 10 < 10 by omega)
  have b := dgt_nat (show n % 10 < 10 by omega)
  have ha : 48 + n / 10 % 10 = ((dgt (n / 10 % 10)).toNat : Int) := by omega
  have hb : 48 + n % 10 = ((dgt (n % 10)).toNat : Int) := by omega
  have htwo : two n = [dgt (n / 10 % 10), dgt (n % 10)] := rfl
  rw [htwo]
  clear htwo a b
  generalize dgt (n / 10 % 10) = c at *
  generalize dgt (n % 10) = d at *
  have ht : (convert 53 9 (.slice (some ⟨w.heap.size, 0, none⟩) 2 2)).run Tryd.prog (w.alloc (.cells #[.int .u8 (c.toNat : Int), .int .u8 (d.toNat : Int)] 5)) = .ok (.string ⟨[c, d].toArray⟩) (w.alloc (.cells #[.int .u8 (c.toNat : Int), .int .u8 (d.toNat : Int)] 5)) :=
    run_convert_bytes_back (w.alloc (.cells #[.int .u8 (c.toNat : Int), .int .u8 (d.toNat : Int)] 5)) 53 9 5 ⟨w.heap.size, 0, none⟩ 2 [c, d] Tryd.underlying53 Tryd.underlying5 Tryd.underlying9 fun j hj => by
      have hk := Blk.new w 5 #[.int .u8 (c.toNat : Int), .int .u8 (d.toNat : Int)]
      match j, hj with
      | 0, _ => exact hk.cell 0
      | 1, _ => exact hk.cell 1
  have HA := Lib.hid ha
  have HB := Lib.hid hb
  clear ha hb
  go_enter Tryd.func22, Tryd.ntmps22
  go_wp2
  rw [HA.out, HB.out, ht]
  simp only [Result.andThen]
  rw [Oper.upon_value]
  go_wp2
  go_ret
  exact ⟨rfl, (Below.refl _ _).alloc (Nat.le_refl _) _⟩

/-- The document's names, all in one. -/
def wdAll : List UInt8 := [83, 117, 110, 77, 111, 110, 84, 117, 101, 87, 101, 100, 84, 104, 117, 70, 114, 105, 83, 97, 116]
def moAll : List UInt8 := [74, 97, 110, 70, 101, 98, 77, 97, 114, 65, 112, 114, 77, 97, 121, 74, 117, 110, 74, 117, 108, 65, 117, 103, 83, 101, 112, 79, 99, 116, 78, 111, 118, 68, 101, 99]
theorem wd_cut : ∀ i < 7, (wdAll.drop (3 * i)).take 3 = wdNames.getD i [] := by decide
theorem mo_cut : ∀ i < 12, (moAll.drop (3 * i)).take 3 = moNames.getD i [] := by decide
/-- A name of three letters out of all. -/
theorem run_cut3 (l : List UInt8) (i : Nat) (h : 3 * i + 3 ≤ l.length) (a b : Int) (ha : a = 3 * i) (hb : b = 3 * i + 3) (w : World) :
    (Instr.slice 9 (.string ⟨l.toArray⟩) (some (.int .i64 a)) (some (.int .i64 b)) none).run Tryd.prog w = .ok (.string ⟨((l.drop (3 * i)).take 3).toArray⟩) w := by
  have hs : (⟨l.toArray⟩ : ByteArray).size = l.length := rfl
  have := run_slice_string (P := Tryd.prog) w 9 ⟨l.toArray⟩ .i64 .i64 a b Tryd.underlying9 (by omega) (by omega) (by rw [hs]; omega)
  rw [this, cut_str]
  have e1 : a.toNat = 3 * i := by omega
  have e2 : b.toNat - a.toNat = 3 := by omega
  rw [e2, e1]

set_option maxRecDepth 100000 in
set_option maxHeartbeats 8000000 in
theorem refPrint_any (n Y M D H I S W : Int) (h : Dat n Y M D H I S W) (w : World) (hv : Vars w) :
    Calls Tryd.prog 14 #[.int .i64 n] w fun e w' => e = .returned (.string ⟨(text Y M D H I S W).toArray⟩) ∧ Below w.heap.size w w' := by
  have bd := h.bd
  obtain ⟨wd, rfl⟩ : ∃ k : Nat, W = k := ⟨W.toNat, by omega⟩
  obtain ⟨mo, rfl⟩ : ∃ k : Nat, M = (k : Int) + 1 := ⟨(M - 1).toNat, by omega⟩
  have hw7 : wd < 7 := by omega
  have hm12 : mo < 12 := by omega
  have hlw := wd_len wd hw7
  have hlm := mo_len mo hm12
  have y0 : 0 ≤ Y := by omega
  have y1 : Y ≤ 9999 := by omega
  have PD := Lib.hid (fun w => refTwo_any D (by omega) (by omega) w)
  have PH := Lib.hid (fun w => refTwo_any H (by omega) (by omega) w)
  have PI := Lib.hid (fun w => refTwo_any I (by omega) (by omega) w)
  have PS := Lib.hid (fun w => refTwo_any S (by omega) (by omega) w)
  have PY := Lib.hid (fun w => refTwo_any (Y / 100) (by omega) (by omega) w)
  have PZ := Lib.hid (fun w => refTwo_any (Y % 100) (by omega) (by omega) w)
  have DD := Lib.hid h
  have etext : text Y ((mo : Int) + 1) D H I S (wd : Int) = wdNames.getD wd [] ++ [44, 32] ++ two D ++ [32] ++ moNames.getD mo [] ++ [32] ++ (two (Y / 100) ++ two (Y % 100)) ++ [32] ++ (two H ++ [58] ++ two I ++ [58] ++ two S) ++ [32, 71, 77, 84] := by
    unfold text four
    rw [show (((mo : Int) + 1) - 1).toNat = mo by omega, Int.toNat_natCast]
  rw [etext]
  have C1 := fun w => run_cut3 wdAll wd (by show 3 * wd + 3 ≤ 21; omega) (3 * (wd : Int)) (3 * (wd : Int) + 3) rfl rfl w
  have C2 := fun w => run_cut3 moAll mo (by show 3 * mo + 3 ≤ 36; omega) (3 * ((mo : Int) + 1) - 3) (3 * ((mo : Int) + 1)) (by omega) (by omega) w
  rw [wd_cut wd hw7] at C1
  rw [mo_cut mo hm12] at C2
  have x1 := IntWalk.i64_in (3 * (wd : Int)) (by omega)
  have x2 := IntWalk.i64_in (3 * (wd : Int) + 3) (by omega)
  have x3 := IntWalk.i64_in (3 * ((mo : Int) + 1)) (by omega)
  have x4 := IntWalk.i64_in (3 * ((mo : Int) + 1) - 3) (by omega)
  have x5 : Y.tdiv 100 = Y / 100 := Int.tdiv_eq_ediv_of_nonneg y0
  have x6 : Y.tmod 100 = Y % 100 := Int.tmod_eq_emod_of_nonneg y0
  have x7 := IntWalk.i64_in (Y / 100) (by omega)
  have x8 := IntWalk.i64_in (Y % 100) (by omega)
  have lD := two_len D
  have lH := two_len H
  have lI := two_len I
  have lS := two_len S
  have lY := two_len (Y / 100)
  have lZ := two_len (Y % 100)
  clear etext h bd
  unfold wdAll at C1
  unfold moAll at C2
  generalize wdNames.getD wd [] = lw at *
  generalize moNames.getD mo [] = lm at *
  generalize two D = xD at *
  generalize two H = xH at *
  generalize two I = xI at *
  generalize two S = xS at *
  generalize two (Y / 100) = xY at *
  generalize two (Y % 100) = xZ at *
  go_enter Tryd.func14, Tryd.ntmps14
  go_wp2_with fail
  refine (refOf_any n Y _ D H I S _ DD.out _).mono ?_; rintro e w2 ⟨rfl, b2⟩
  have NOW := Lib.hid (show Now w w2.heap.size 32 #[.int .i64 Y, .int .i64 ((mo : Int) + 1), .int .i64 D, .int .i64 H, .int .i64 I, .int .i64 S, .int .i64 (wd : Int)] (w2.alloc (.cells #[.int .i64 Y, .int .i64 ((mo : Int) + 1), .int .i64 D, .int .i64 H, .int .i64 I, .int .i64 S, .int .i64 (wd : Int)] 32)) from
    ⟨(hv.below b2).alloc _, b2.alloc b2.size _, Blk.new w2 _ _⟩)
  clear b2 hv
  go_upto_region 2 with fail
  generalize w2.alloc (.cells #[.int .i64 Y, .int .i64 ((mo : Int) + 1), .int .i64 D, .int .i64 H, .int .i64 I, .int .i64 S, .int .i64 (wd : Int)] 32) = w4 at *
  generalize w2.heap.size = d at *
  go_region_held3 (fun w' => (w'.cell? ⟨d, 6, none⟩ = some (.int .i64 (wd : Int)) ∧ w'.cell? ⟨d, 2, none⟩ = some (.int .i64 D) ∧ w'.cell? ⟨d, 1, none⟩ = some (.int .i64 ((mo : Int) + 1)) ∧ w'.cell? ⟨d, 0, none⟩ = some (.int .i64 Y) ∧ w'.cell? ⟨d, 3, none⟩ = some (.int .i64 H) ∧ w'.cell? ⟨d, 4, none⟩ = some (.int .i64 I) ∧ w'.cell? ⟨d, 5, none⟩ = some (.int .i64 S)) ∧ Hid (Now w d 32 #[.int .i64 Y, .int .i64 ((mo : Int) + 1), .int .i64 D, .int .i64 H, .int .i64 I, .int .i64 S, .int .i64 (wd : Int)] w'))
    (first
      | exact reads3_of (Now.drew NOW)
      | (go_split_ands; exact reads3_of (Now.step (by assumption) (by assumption))))
    (first
      | ((with_reducible refine (PD.out _).mono ?_); rintro e w5 ⟨rfl, b5⟩)
      | ((with_reducible refine (PY.out _).mono ?_); rintro e w5 ⟨rfl, b5⟩)
      | ((with_reducible refine (PZ.out _).mono ?_); rintro e w5 ⟨rfl, b5⟩)
      | ((with_reducible refine (PH.out _).mono ?_); rintro e w5 ⟨rfl, b5⟩)
      | ((with_reducible refine (PI.out _).mono ?_); rintro e w5 ⟨rfl, b5⟩)
      | ((with_reducible refine (PS.out _).mono ?_); rintro e w5 ⟨rfl, b5⟩))
  have NOW5 : Hid (Now w d 32 #[.int .i64 Y, .int .i64 ((mo : Int) + 1), .int .i64 D, .int .i64 H, .int .i64 I, .int .i64 S, .int .i64 (wd : Int)] w5) := by go_split_ands; assumption
  go_wp2
  go_ret
  exact ⟨ret_str (by simp [ByteArray.mk_append_mk]), NOW5.out.bel⟩
end Go.Proofs.YtbmnfefpkahejaaDoor
