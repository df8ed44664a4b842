/- Whatever date and text come in, 'pantlerlaw03.CivilSeconds' returns true and leaves them as they were. No condition. -/
import Derived.Test.YtbmnfefpkahejaaDoorAlive
import Derived.Test.YtbmnfefpkahejaaDoorRefPars2
namespace Go.Proofs.YtbmnfefpkahejaaDoor.civilSeconds
open Go.ChangeShapes Go.WideShapes Go.ChangeAt Go.RowKit Go.Deep Go.Joins
set_option linter.unusedVariables false


section
variable {H : Type} {enc : TypeId × Value → H} {P : Program} {w : World} {base : Nat} {spare : Nat → Bool} {held : Bool}
/-- A struct of seven numbers, by value, opened. -/
theorem open_ints7 {b0 : Nat} {t k : TypeId} {f0 f1 f2 f3 f4 f5 f6 : Field} {v : Value} {d : DataW H} {p : List MemPlace} (hs : P.underlying t = some (.struct #[f0, f1, f2, f3, f4, f5, f6])) (hone : oneCellFields P #[f0, f1, f2, f3, f4, f5, f6] = true) (hC : P.cellsOf t = 7)
    (hk : P.underlying k = some (.int .i64)) (e0 : f0.type = k) (e1 : f1.type = k) (e2 : f2.type = k) (e3 : f3.type = k) (e4 : f4.type = k) (e5 : f5.type = k) (e6 : f6.type = k)
    (hv : Value.okWide P w .any b0 t v) (h : DataW.Trod enc P w base spare held t v d p) :
    ∃ a b c e f g k : Int, v = .agg #[.int .i64 a, .int .i64 b, .int .i64 c, .int .i64 e, .int .i64 f, .int .i64 g, .int .i64 k] ∧ True := by
  obtain ⟨cs, rfl, hsz⟩ := okWide_struct hs hv
  obtain ⟨l⟩ := cs
  match l, hsz.trans hC with
  | [c0, c1, c2, c3, c4, c5, c6], _ =>
    obtain ⟨fuel, hf⟩ := h
    obtain ⟨xs, n, _, _, _, hlen, hg⟩ := DataW.trod_struct hs hf
    obtain ⟨o0, k0⟩ := hone_of hone 0 f0 rfl
    obtain ⟨o1, k1⟩ := hone_of hone 1 f1 rfl
    obtain ⟨o2, k2⟩ := hone_of hone 2 f2 rfl
    obtain ⟨o3, k3⟩ := hone_of hone 3 f3 rfl
    obtain ⟨o4, k4⟩ := hone_of hone 4 f4 rfl
    obtain ⟨o5, k5⟩ := hone_of hone 5 f5 rfl
    obtain ⟨o6, k6⟩ := hone_of hone 6 f6 rfl
    match xs, hlen with
    | [y0, y1, y2, y3, y4, y5, y6], _ =>
      have g0 : DataW.trod enc P w base spare held n f0.type [c0] = some y0 := by simpa [Value.cells, o0, k0] using hg 0 f0 rfl
      have g1 : DataW.trod enc P w base spare held n f1.type [c1] = some y1 := by simpa [Value.cells, o1, k1] using hg 1 f1 rfl
      have g2 : DataW.trod enc P w base spare held n f2.type [c2] = some y2 := by simpa [Value.cells, o2, k2] using hg 2 f2 rfl
      have g3 : DataW.trod enc P w base spare held n f3.type [c3] = some y3 := by simpa [Value.cells, o3, k3] using hg 3 f3 rfl
      have g4 : DataW.trod enc P w base spare held n f4.type [c4] = some y4 := by simpa [Value.cells, o4, k4] using hg 4 f4 rfl
      have g5 : DataW.trod enc P w base spare held n f5.type [c5] = some y5 := by simpa [Value.cells, o5, k5] using hg 5 f5 rfl
      have g6 : DataW.trod enc P w base spare held n f6.type [c6] = some y6 := by simpa [Value.cells, o6, k6] using hg 6 f6 rfl
      obtain ⟨a0, z0, _, _⟩ := DataW.trod_int (by rw [e0]; exact hk) g0
      obtain ⟨a1, z1, _, _⟩ := DataW.trod_int (by rw [e1]; exact hk) g1
      obtain ⟨a2, z2, _, _⟩ := DataW.trod_int (by rw [e2]; exact hk) g2
      obtain ⟨a3, z3, _, _⟩ := DataW.trod_int (by rw [e3]; exact hk) g3
      obtain ⟨a4, z4, _, _⟩ := DataW.trod_int (by rw [e4]; exact hk) g4
      obtain ⟨a5, z5, _, _⟩ := DataW.trod_int (by rw [e5]; exact hk) g5
      obtain ⟨a6, z6, _, _⟩ := DataW.trod_int (by rw [e6]; exact hk) g6
      simp only [List.cons.injEq, and_true] at z0 z1 z2 z3 z4 z5 z6
      subst z0 z1 z2 z3 z4 z5 z6
      exact ⟨a0, a1, a2, a3, a4, a5, a6, rfl, trivial⟩
end

set_option maxRecDepth 100000 in
set_option maxHeartbeats 8000000 in
theorem walk (w : World) (hv : Vars w) (Y M D H I S W : Int) (_t : True) (s : ByteArray) (_ws : s.size ≤ maxLen) :
    Calls Tryd.prog 4 #[.agg #[.int .i64 Y, .int .i64 M, .int .i64 D, .int .i64 H, .int .i64 I, .int .i64 S, .int .i64 W], .string s] w fun e w' => e = .returned (.bool true) ∧ Below w.heap.size w w' := by
  obtain ⟨l, rfl⟩ : ∃ l : List UInt8, s = ⟨l.toArray⟩ := ⟨s.data.toList, by simp⟩
  have NOW := Lib.hid (show Now w w.heap.size 32 #[.int .i64 Y, .int .i64 M, .int .i64 D, .int .i64 H, .int .i64 I, .int .i64 S, .int .i64 W] (w.alloc (.cells #[.int .i64 Y, .int .i64 M, .int .i64 D, .int .i64 H, .int .i64 I, .int .i64 S, .int .i64 W] 32)) from ⟨hv.alloc _, (Below.refl _ _).alloc (Nat.le_refl _) _, Blk.new w _ _⟩)
  clear hv _t _ws
  by_cases hl : 1000 < l.length
  · have hl' : (l.length : Int) > 1000 := by omega
    go_enter Tryd.func4, Tryd.ntmps4
    go_wp2_with fail
    refine (alive_any _ NOW.out.vars).mono ?_; rintro e w1 ⟨rfl, b1⟩
    have NOW1 := Lib.hid (Now.step b1 NOW)
    clear b1 NOW
    go_wp2
    go_ret
    exact ⟨rfl, NOW1.out.bel⟩
  have hl' : ¬ (l.length : Int) > 1000 := by omega
  by_cases hg : good Y M D H I S W
  · by_cases hp : ∃ m, Tells l m
    · obtain ⟨m, hm⟩ := hp
      have C1 := Lib.hid (fun w hv => sec_good Y M D H I S W hg w hv)
      have C2 := Lib.hid (fun w hv => refSec_ok ((bef Y + cum Y M + (D - 1)) * 86400 + (H * 3600 + I * 60 + S)) Y M D H I S W (dat_of hg) w hv)
      have C3 := Lib.hid (fun w hv => parse_ok l m hm w hv)
      have C4 := Lib.hid (fun w hv => refParse_ok l m hm w hv)
      clear hg hm
      generalize (bef Y + cum Y M + (D - 1)) * 86400 + (H * 3600 + I * 60 + S) = n at *
      go_enter Tryd.func4, Tryd.ntmps4
      go_wp2_with fail
      refine (alive_any _ NOW.out.vars).mono ?_; rintro e w1 ⟨rfl, b1⟩
      have NOW1 := Lib.hid (Now.step b1 NOW)
      clear b1 NOW
      have k0 := NOW1.out.blk.cell 0
      have k1 := NOW1.out.blk.cell 1
      have k2 := NOW1.out.blk.cell 2
      have k3 := NOW1.out.blk.cell 3
      have k4 := NOW1.out.blk.cell 4
      have k5 := NOW1.out.blk.cell 5
      have k6 := NOW1.out.blk.cell 6
      simp only [List.getElem?_toArray, List.getElem?_cons_zero, List.getElem?_cons_succ] at k0 k1 k2 k3 k4 k5 k6
      go_wp2_with fail
      refine (C1.out _ NOW1.out.vars).mono ?_; rintro e w2 ⟨rfl, b2⟩
      have NOW2 := Lib.hid (Now.step b2 NOW1)
      clear b2 NOW1 k0 k1 k2 k3 k4 k5 k6
      have k0 := NOW2.out.blk.cell 0
      have k1 := NOW2.out.blk.cell 1
      have k2 := NOW2.out.blk.cell 2
      have k3 := NOW2.out.blk.cell 3
      have k4 := NOW2.out.blk.cell 4
      have k5 := NOW2.out.blk.cell 5
      have k6 := NOW2.out.blk.cell 6
      simp only [List.getElem?_toArray, List.getElem?_cons_zero, List.getElem?_cons_succ] at k0 k1 k2 k3 k4 k5 k6
      go_wp2_with fail
      refine (C2.out _ NOW2.out.vars).mono ?_; rintro e w3 ⟨rfl, b3⟩
      have NOW3 := Lib.hid (Now.step b3 NOW2)
      clear b3 NOW2 k0 k1 k2 k3 k4 k5 k6
      go_wp2_with fail
      refine (C3.out _ NOW3.out.vars).mono ?_; rintro e w4 ⟨rfl, b4⟩
      have NOW4 := Lib.hid (Now.step b4 NOW3)
      clear b4 NOW3
      go_wp2_with fail
      refine (C4.out _ NOW4.out.vars).mono ?_; rintro e w5 ⟨rfl, b5⟩
      have NOW5 := Lib.hid (Now.step b5 NOW4)
      clear b5 NOW4
      go_wp2
      go_ret
      exact ⟨by first | rfl | simp, NOW5.out.bel⟩
    · have hno : ∀ m, ¬ Tells l m := fun m h => hp ⟨m, h⟩
      have C1 := Lib.hid (fun w hv => sec_good Y M D H I S W hg w hv)
      have C2 := Lib.hid (fun w hv => refSec_ok ((bef Y + cum Y M + (D - 1)) * 86400 + (H * 3600 + I * 60 + S)) Y M D H I S W (dat_of hg) w hv)
      have C3 := Lib.hid (fun w hv => parse_no l hno w hv)
      have C4 := Lib.hid (fun w hv => refParse_no l hno w hv)
      clear hg hp hno
      generalize (bef Y + cum Y M + (D - 1)) * 86400 + (H * 3600 + I * 60 + S) = n at *
      go_enter Tryd.func4, Tryd.ntmps4
      go_wp2_with fail
      refine (alive_any _ NOW.out.vars).mono ?_; rintro e w1 ⟨rfl, b1⟩
      have NOW1 := Lib.hid (Now.step b1 NOW)
      clear b1 NOW
      have k0 := NOW1.out.blk.cell 0
      have k1 := NOW1.out.blk.cell 1
      have k2 := NOW1.out.blk.cell 2
      have k3 := NOW1.out.blk.cell 3
      have k4 := NOW1.out.blk.cell 4
      have k5 := NOW1.out.blk.cell 5
      have k6 := NOW1.out.blk.cell 6
      simp only [List.getElem?_toArray, List.getElem?_cons_zero, List.getElem?_cons_succ] at k0 k1 k2 k3 k4 k5 k6
      go_wp2_with fail
      refine (C1.out _ NOW1.out.vars).mono ?_; rintro e w2 ⟨rfl, b2⟩
      have NOW2 := Lib.hid (Now.step b2 NOW1)
      clear b2 NOW1 k0 k1 k2 k3 k4 k5 k6
      have k0 := NOW2.out.blk.cell 0
      have k1 := NOW2.out.blk.cell 1
      have k2 := NOW2.out.blk.cell 2
      have k3 := NOW2.out.blk.cell 3
      have k4 := NOW2.out.blk.cell 4
      have k5 := NOW2.out.blk.cell 5
      have k6 := NOW2.out.blk.cell 6
      simp only [List.getElem?_toArray, List.getElem?_cons_zero, List.getElem?_cons_succ] at k0 k1 k2 k3 k4 k5 k6
      go_wp2_with fail
      refine (C2.out _ NOW2.out.vars).mono ?_; rintro e w3 ⟨rfl, b3⟩
      have NOW3 := Lib.hid (Now.step b3 NOW2)
      clear b3 NOW2 k0 k1 k2 k3 k4 k5 k6
      go_wp2_with fail
      refine (C3.out _ NOW3.out.vars).mono ?_; rintro e w4 ⟨rfl, b4⟩
      have NOW4 := Lib.hid (Now.step b4 NOW3)
      clear b4 NOW3
      go_wp2_with fail
      refine (C4.out _ NOW4.out.vars).mono ?_; rintro e w5 ⟨rfl, b5⟩
      have NOW5 := Lib.hid (Now.step b5 NOW4)
      clear b5 NOW4
      go_wp2
      go_ret
      exact ⟨by first | rfl | simp, NOW5.out.bel⟩
  · by_cases hp : ∃ m, Tells l m
    · obtain ⟨m, hm⟩ := hp
      have C1 := Lib.hid (fun w hv => sec_no Y M D H I S W hg w hv)
      have C2 := Lib.hid (fun w hv => refSec_no Y M D H I S W hg w hv)
      have C3 := Lib.hid (fun w hv => parse_ok l m hm w hv)
      have C4 := Lib.hid (fun w hv => refParse_ok l m hm w hv)
      clear hg hm
      go_enter Tryd.func4, Tryd.ntmps4
      go_wp2_with fail
      refine (alive_any _ NOW.out.vars).mono ?_; rintro e w1 ⟨rfl, b1⟩
      have NOW1 := Lib.hid (Now.step b1 NOW)
      clear b1 NOW
      have k0 := NOW1.out.blk.cell 0
      have k1 := NOW1.out.blk.cell 1
      have k2 := NOW1.out.blk.cell 2
      have k3 := NOW1.out.blk.cell 3
      have k4 := NOW1.out.blk.cell 4
      have k5 := NOW1.out.blk.cell 5
      have k6 := NOW1.out.blk.cell 6
      simp only [List.getElem?_toArray, List.getElem?_cons_zero, List.getElem?_cons_succ] at k0 k1 k2 k3 k4 k5 k6
      go_wp2_with fail
      refine (C1.out _ NOW1.out.vars).mono ?_; rintro e w2 ⟨rfl, b2⟩
      have NOW2 := Lib.hid (Now.step b2 NOW1)
      clear b2 NOW1 k0 k1 k2 k3 k4 k5 k6
      have k0 := NOW2.out.blk.cell 0
      have k1 := NOW2.out.blk.cell 1
      have k2 := NOW2.out.blk.cell 2
      have k3 := NOW2.out.blk.cell 3
      have k4 := NOW2.out.blk.cell 4
      have k5 := NOW2.out.blk.cell 5
      have k6 := NOW2.out.blk.cell 6
      simp only [List.getElem?_toArray, List.getElem?_cons_zero, List.getElem?_cons_succ] at k0 k1 k2 k3 k4 k5 k6
      go_wp2_with fail
      refine (C2.out _ NOW2.out.vars).mono ?_; rintro e w3 ⟨rfl, b3⟩
      have NOW3 := Lib.hid (Now.step b3 NOW2)
      clear b3 NOW2 k0 k1 k2 k3 k4 k5 k6
      go_wp2_with fail
      refine (C3.out _ NOW3.out.vars).mono ?_; rintro e w4 ⟨rfl, b4⟩
      have NOW4 := Lib.hid (Now.step b4 NOW3)
      clear b4 NOW3
      go_wp2_with fail
      refine (C4.out _ NOW4.out.vars).mono ?_; rintro e w5 ⟨rfl, b5⟩
      have NOW5 := Lib.hid (Now.step b5 NOW4)
      clear b5 NOW4
      go_wp2
      go_ret
      exact ⟨by first | rfl | simp, NOW5.out.bel⟩
    · have hno : ∀ m, ¬ Tells l m := fun m h => hp ⟨m, h⟩
      have C1 := Lib.hid (fun w hv => sec_no Y M D H I S W hg w hv)
      have C2 := Lib.hid (fun w hv => refSec_no Y M D H I S W hg w hv)
      have C3 := Lib.hid (fun w hv => parse_no l hno w hv)
      have C4 := Lib.hid (fun w hv => refParse_no l hno w hv)
      clear hg hp hno
      go_enter Tryd.func4, Tryd.ntmps4
      go_wp2_with fail
      refine (alive_any _ NOW.out.vars).mono ?_; rintro e w1 ⟨rfl, b1⟩
      have NOW1 := Lib.hid (Now.step b1 NOW)
      clear b1 NOW
      have k0 := NOW1.out.blk.cell 0
      have k1 := NOW1.out.blk.cell 1
      have k2 := NOW1.out.blk.cell 2
      have k3 := NOW1.out.blk.cell 3
      have k4 := NOW1.out.blk.cell 4
      have k5 := NOW1.out.blk.cell 5
      have k6 := NOW1.out.blk.cell 6
      simp only [List.getElem?_toArray, List.getElem?_cons_zero, List.getElem?_cons_succ] at k0 k1 k2 k3 k4 k5 k6
      go_wp2_with fail
      refine (C1.out _ NOW1.out.vars).mono ?_; rintro e w2 ⟨rfl, b2⟩
      have NOW2 := Lib.hid (Now.step b2 NOW1)
      clear b2 NOW1 k0 k1 k2 k3 k4 k5 k6
      have k0 := NOW2.out.blk.cell 0
      have k1 := NOW2.out.blk.cell 1
      have k2 := NOW2.out.blk.cell 2
      have k3 := NOW2.out.blk.cell 3
      have k4 := NOW2.out.blk.cell 4
      have k5 := NOW2.out.blk.cell 5
      have k6 := NOW2.out.blk.cell 6
      simp only [List.getElem?_toArray, List.getElem?_cons_zero, List.getElem?_cons_succ] at k0 k1 k2 k3 k4 k5 k6
      go_wp2_with fail
      refine (C2.out _ NOW2.out.vars).mono ?_; rintro e w3 ⟨rfl, b3⟩
      have NOW3 := Lib.hid (Now.step b3 NOW2)
      clear b3 NOW2 k0 k1 k2 k3 k4 k5 k6
      go_wp2_with fail
      refine (C3.out _ NOW3.out.vars).mono ?_; rintro e w4 ⟨rfl, b4⟩
      have NOW4 := Lib.hid (Now.step b4 NOW3)
      clear b4 NOW3
      go_wp2_with fail
      refine (C4.out _ NOW4.out.vars).mono ?_; rintro e w5 ⟨rfl, b5⟩
      have NOW5 := Lib.hid (Now.step b5 NOW4)
      clear b5 NOW4
      go_wp2
      go_ret
      exact ⟨by first | rfl | simp, NOW5.out.bel⟩

set_option maxRecDepth 100000 in
theorem reads (os : Os) {H : Type} (enc : TypeId × Value → H) : DataW.whole enc Tryd.prog ((World.laidAll Tryd.prog os Rows.civilSecondsRow.laid).forCall (fun _ _ => 0) ⟨#[], #[.agg #[.int .i64 0, .int .i64 0, .int .i64 0, .int .i64 0, .int .i64 0, .int .i64 0, .int .i64 0], .string ⟨#[]⟩], []⟩).memory Tryd.f4.params.toList Rows.civilSecondsSpec.vars false (#[.agg #[.int .i64 0, .int .i64 0, .int .i64 0, .int .i64 0, .int .i64 0, .int .i64 0, .int .i64 0], .string ⟨#[]⟩] : Array Value).toList 8 = some ([.agg [.lit (.int .i64 0), .lit (.int .i64 0), .lit (.int .i64 0), .lit (.int .i64 0), .lit (.int .i64 0), .lit (.int .i64 0), .lit (.int .i64 0)], .lit (.string [])], [], []) := by kernel_rfl
set_option maxRecDepth 100000 in
theorem lifted (os : Os) (started : os.Started) (H : Type) (enc : TypeId × Value → H) (F : Stop.Interp) :
    ReturnsInHanded {} Tryd.checked os 4 .any ((OpenSpec.ofChange Rows.civilSecondsSpec).preRow enc Tryd.prog Tryd.f4 Rows.civilSecondsRow.domain false Rows.civilSecondsRow.laid) (((OpenSpec.ofChange Rows.civilSecondsSpec).at F).post enc Tryd.prog Tryd.f4 false true false false) := by
  refine returnsInHanded_of_row (C := Tryd.checked) (s := OpenSpec.ofChange Rows.civilSecondsSpec) own started (by kernel_rfl) Tryd.func4
    ⟨World.laidAll Tryd.prog os Rows.civilSecondsRow.laid, fun _ _ => 0, ⟨#[], #[.agg #[.int .i64 0, .int .i64 0, .int .i64 0, .int .i64 0, .int .i64 0, .int .i64 0, .int .i64 0], .string ⟨#[]⟩], []⟩, World.laidAll_os _ _ _, World.shaped_of_ZipB (by kernel_rfl) (by kernel_rfl), rfl, (Input.okWide_of_okWideB (by kernel_rfl)).2,
      OpenSpec.preRow_of_cond 8 (reads os enc) (by kernel_rfl) (fun k hk => by cases hk) (by kernel_rfl) (by rw [MakeChecks.laidMetH_plain _ _ _ (by kernel_rfl)]; exact laidMet_laidAll _ (by kernel_rfl) (by kernel_rfl)), by simp [Assume.holds]⟩ ?_
  intro W base args ds gs before hval0 hW _ _ _ hL hsh _
  have hval : ∀ (j : Nat) t v, Tryd.f4.params[j]? = some t → args[j]? = some v → Value.okWide Tryd.prog W .any base t v := hval0
  have hvars : Vars W := Vars.of hL
  have hW' := hW
  obtain ⟨p, q, hA0, hV, rfl, hfz, hnd⟩ := hW
  have hA : DataW.TrodAll enc Tryd.prog W 0 (fun _ => true) true Tryd.f4.params.toList args.toList ds p := hA0
  rw [Tryd.params4] at hA hval
  obtain ⟨v0, vs0, d0, ds0, p0, q0, hargs, rfl, rfl, h0, r0⟩ := trodAll_cons hA
  obtain ⟨v1, vs1, d1, ds1, p1, q1, rfl, rfl, rfl, h1, r1⟩ := trodAll_cons r0
  obtain ⟨rfl, rfl, rfl⟩ := trodAll_nil r1
  obtain rfl : args = #[v0, v1] := by cases args; simp_all
  obtain ⟨a0, b0, c0, e0, f0, g0, k0, rfl, w0⟩ := open_ints7 Tryd.underlying32 (by kernel_rfl) (by kernel_rfl) Tryd.underlying3 rfl rfl rfl rfl rfl rfl rfl (hval 0 32 v0 rfl rfl) h0
  obtain ⟨a1, rfl, _, _, w1⟩ := Go.ChangeMaps.open_string Tryd.underlying9 (hval 1 9 v1 rfl rfl) h1
  clear hA0 hval0
  exact law_close hW' laidOut (by kernel_rfl) rfl Tryd.underlying4 rfl ⟨rfl, rfl, rfl⟩ (walk W hvars a0 b0 c0 e0 f0 g0 k0 w0 a1 w1)

theorem over : Rows.civilSecondsRow.holds Tryd.pinned (OpenSpec.ofChange Rows.civilSecondsSpec) :=
  OpenClaim.holds_of_cond 4 Tryd.f4 rfl rfl rfl rfl rfl rfl rfl ⟨rfl, rfl, rfl, rfl, rfl⟩ rfl rfl rfl rfl rfl (by kernel_rfl) Tryd.func4 (by kernel_rfl)
    (of_decide_eq_true (by kernel_rfl)) (by unfold Func.isWrapper; first | (rw [if_pos (by decide +kernel)]; kernel_rfl) | (rw [if_neg (by decide +kernel)]; exact ⟨rfl, rfl⟩))
    (fun os started H enc _ F => by rw [OpenClaim.pre_eq_preRow]; exact lifted os started H enc F)

theorem plain (f : FuncId) (fn : Func) (hf : Tryd.pinned.checked.prog.funcNamed "pantler/pantlerlaw03.CivilSeconds" = some f) (hfn : Tryd.pinned.checked.prog.funcs[f]? = some fn) :
    Rows.civilSecondsCard.stood.looks = Tryd.pinned.checked.prog.looks [] ∧ ∀ (j : Nat) t, fn.params[j]? = some t → Tryd.pinned.checked.prog.wantsStandIn t = false := by
  obtain rfl : f = 4 := Option.some.inj ((show Tryd.prog.funcNamed "pantler/pantlerlaw03.CivilSeconds" = some 4 by kernel_rfl).symm.trans hf) |>.symm
  obtain rfl : fn = Tryd.f4 := (Option.some.inj (Tryd.func4.symm.trans hfn)).symm
  refine ⟨by kernel_rfl, fun j t ht => ?_⟩
  rw [Tryd.params4] at ht
  have hm : t ∈ [32, 9] := by simpa using Array.mem_of_getElem? ht
  have hall : ([32, 9].all fun u => !Tryd.prog.wantsStandIn u) = true := by kernel_rfl
  exact (show Tryd.prog.wantsStandIn t = false by simpa using List.all_eq_true.1 hall t hm)

theorem proved : Rows.CivilSecondsCardSaid :=
  Claim7.holds_tied_plain_at .later [] _ _ _ _ over (fun _ h => by cases h) (by kernel_rfl) (fun _ h => by cases h) civilSeconds_row_tie rfl ⟨rfl, rfl⟩ (by kernel_rfl) rfl plain (by kernel_rfl)

end Go.Proofs.YtbmnfefpkahejaaDoor.civilSeconds
