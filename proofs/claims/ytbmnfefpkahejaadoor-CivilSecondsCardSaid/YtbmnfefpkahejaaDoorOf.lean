/- Package civil's Of: the date of a second. Conditions: those that each states. -/
import Derived.Test.YtbmnfefpkahejaaDoorDay
import Derived.Test.YtbmnfefpkahejaaDoorDat
import Derived.Test.YtbmnfefpkahejaaDoorRow
import Derived.Outline
import Derived.Outline
namespace Go.Proofs.YtbmnfefpkahejaaDoor
open Go.ChangeShapes Go.WideShapes Go.ChangeAt Go.RowKit Go.Deep

/-- A date's value. -/
def dagg (Y M D H I S W : Int) : Array Value := #[.int .i64 Y, .int .i64 M, .int .i64 D, .int .i64 H, .int .i64 I, .int .i64 S, .int .i64 W]

theorem one7 (a b c d e f g : Int) : (#[.int .i64 a, .int .i64 b, .int .i64 c, .int .i64 d, .int .i64 e, .int .i64 f, .int .i64 g] : Array Value).all (·.oneCell') = true := by simp [Value.oneCell']
theorem dinfo : (Tryd.prog.info? 24).map (·.size) = some 7 := by kernel_rfl
set_option maxRecDepth 100000 in
set_option maxHeartbeats 2000000 in
theorem of_ok (n Y M D H I S W : Int) (h : Dat n Y M D H I S W) (w : World) (hv : Vars w) :
    Calls Tryd.prog 8 #[.int .i64 n] w fun e w' => e = .returned (.tuple #[.agg #[.int .i64 Y, .int .i64 M, .int .i64 D, .int .i64 H, .int .i64 I, .int .i64 S, .int .i64 W], .int .i64 0]) ∧ Below w.heap.size w w' := by
  have hV := Lib.hid (hv.alloc (.cells #[.int .i64 0, .int .i64 0, .int .i64 0, .int .i64 0, .int .i64 0, .int .i64 0, .int .i64 0] 24))
  have hB := Lib.hid ((Below.refl w.heap.size w).alloc (Nat.le_refl _) (.cells #[.int .i64 0, .int .i64 0, .int .i64 0, .int .i64 0, .int .i64 0, .int .i64 0, .int .i64 0] 24))
  have hK := Lib.hid (Blk.new w 24 #[.int .i64 0, .int .i64 0, .int .i64 0, .int .i64 0, .int .i64 0, .int .i64 0, .int .i64 0])
  have n0 := h.n0
  have n1 := h.n1
  have g1 : ¬ n < 0 := by omega
  have g2 : ¬ n > 253402300799 := by omega
  have kb := h.kbd
  have DD := Lib.hid h.day
  have H4 := Lib.hid (show H = n % 86400 / 3600 from h.h)
  have H5 := Lib.hid (show I = n % 86400 % 3600 / 60 from h.i)
  have H6 := Lib.hid (show S = n % 86400 % 60 from h.s)
  have H7 := Lib.hid (show W = (n / 86400 + 4) % 7 from h.w)
  clear h hv
  go_enter Tryd.func8, Tryd.ntmps8
  go_wp2_with fail
  refine (dayAt_any _ Y M D DD.out _ hV.out).mono ?_; rintro e w2 ⟨rfl, b2⟩
  have K2 := Lib.hid (hK.out.older (older_below b2))
  have B2 := Lib.hid (hB.out.trans (b2.mono hB.out.size))
  have c0 := K2.out.cell 0
  have c1 := K2.out.cell 1
  have c2 := K2.out.cell 2
  have c3 := K2.out.cell 3
  have c4 := K2.out.cell 4
  have c5 := K2.out.cell 5
  have c6 := K2.out.cell 6
  have f0 := K2.out.frozen 0
  have f1 := K2.out.frozen 1
  have f2 := K2.out.frozen 2
  have f3 := K2.out.frozen 3
  have f4 := K2.out.frozen 4
  have f5 := K2.out.frozen 5
  have f6 := K2.out.frozen 6
  simp only [List.getElem?_toArray, List.getElem?_cons_zero, List.getElem?_cons_succ] at c0 c1 c2 c3 c4 c5 c6
  have lt2 := K2.out.lt
  clear b2
  have hk3 := wday_any _ kb.1 kb.2
  have HK3 := Lib.hid hk3
  clear hk3
  go_wp2_with fail
  refine (HK3.out _).mono ?_; rintro e w3 ⟨rfl, rfl⟩
  have e4 : (n / 86400 + 4) % 7 = W := H7.out.symm
  rw [e4]
  clear e4
  go_upto_region 9 with fail
  have e5 : n % 86400 / 3600 = H := H4.out.symm
  have e6 : n % 3600 / 60 = I := by rw [H5.out]; omega
  have e7 : n % 60 = S := by rw [H6.out]; omega
  rw [e5, e6, e7]
  clear e5 e6 e7
  have K6 := Lib.hid (Blk.new w2 24 #[.int .i64 Y, .int .i64 M, .int .i64 D, .int .i64 H, .int .i64 I, .int .i64 S, .int .i64 W])
  have K7 := Lib.hid (K2.out.alloc (.cells #[.int .i64 Y, .int .i64 M, .int .i64 D, .int .i64 H, .int .i64 I, .int .i64 S, .int .i64 W] 24))
  have B7 := Lib.hid (B2.out.alloc B2.out.size (.cells #[.int .i64 Y, .int .i64 M, .int .i64 D, .int .i64 H, .int .i64 I, .int .i64 S, .int .i64 W] 24))
  clear c0 c1 c2 c3 c4 c5 c6 f0 f1 f2 f3 f4 f5 f6
  generalize w2.alloc (.cells #[.int .i64 Y, .int .i64 M, .int .i64 D, .int .i64 H, .int .i64 I, .int .i64 S, .int .i64 W] 24) = w5 at *
  go_wp2_with (first
    | (refine wpList_load_row rfl 24 (.tmp 6) rfl w2.heap.size rfl 24 _ (0, 0) _ K6.out Tryd.underlying24 rfl dinfo ?_)
    | (refine wpList_store_row rfl 24 (.tmp 2) (.tmp 33) rfl w.heap.size #[.int .i64 Y, .int .i64 M, .int .i64 D, .int .i64 H, .int .i64 I, .int .i64 S, .int .i64 W] rfl rfl 24 _ K7.out dinfo rfl (one7 _ _ _ _ _ _ _) ?_))
  refine bodyPost_ret (v := .tuple #[.agg #[.int .i64 Y, .int .i64 M, .int .i64 D, .int .i64 H, .int .i64 I, .int .i64 S, .int .i64 W], .int .i64 0]) ?_ rfl ?_
  · exact results_cell_tmp Tryd.results8 _ _ w.heap.size 24 _ (0, 0) _ rfl (K7.out.setRow _) Tryd.underlying24 rfl dinfo
  · exact ⟨rfl, below_setRow B7.out (Nat.le_refl _) _⟩

theorem of_no (n : Int) (h : n < 0 ∨ 253402300799 < n) (w : World) :
    Calls Tryd.prog 8 #[.int .i64 n] w fun e w' => e = .returned (.tuple #[.agg #[.int .i64 0, .int .i64 0, .int .i64 0, .int .i64 0, .int .i64 0, .int .i64 0, .int .i64 0], .int .i64 1]) ∧ Below w.heap.size w w' := by
  have hB := Lib.hid ((Below.refl w.heap.size w).alloc (Nat.le_refl _) (.cells #[.int .i64 0, .int .i64 0, .int .i64 0, .int .i64 0, .int .i64 0, .int .i64 0, .int .i64 0] 24))
  rcases h with h | h
  · go_enter Tryd.func8, Tryd.ntmps8
    go_wp2
    exact bodyPost_ret (v := .tuple #[.agg #[.int .i64 0, .int .i64 0, .int .i64 0, .int .i64 0, .int .i64 0, .int .i64 0, .int .i64 0], .int .i64 1]) (by simp [results, Tryd.results8, go_sem]) rfl ⟨rfl, hB.out⟩
  · have g1 : ¬ n < 0 := by omega
    have g2 : n > 253402300799 := by omega
    clear h
    go_enter Tryd.func8, Tryd.ntmps8
    go_wp2
    exact bodyPost_ret (v := .tuple #[.agg #[.int .i64 0, .int .i64 0, .int .i64 0, .int .i64 0, .int .i64 0, .int .i64 0, .int .i64 0], .int .i64 1]) (by simp [results, Tryd.results8, go_sem]) rfl ⟨rfl, hB.out⟩
end Go.Proofs.YtbmnfefpkahejaaDoor
