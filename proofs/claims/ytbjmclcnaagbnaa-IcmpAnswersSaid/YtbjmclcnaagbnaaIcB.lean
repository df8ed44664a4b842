/- The laws' own words of layer 16: of, to, the chapter's example. Conditions: those that each states. -/
import Derived.Test.YtbjmclcnaagbnaaIc3
import Derived.Test.YtbjmclcnaagbnaaIcO
namespace Go.Proofs.Ytbjmclcnaagbnaa.Ic
open Go.ChangeShapes Go.WideShapes Go.ChangeAt Go.RowKit Go.Deep Rk Fl Gx Di
set_option linter.unusedVariables false
set_option linter.unusedSimpArgs false

set_option maxRecDepth 100000 in
set_option maxHeartbeats 2000000 in
theorem of_any (t : Int) (i q : Nat) (l : List UInt8) (w : World) (hn : l.length ≤ 1000000) :
    Calls Try.prog 8 #[.agg (dcV t i q l)] w fun e w' => ∃ A c, e = .returned (.agg (ecV t i q A l.length c)) ∧ Src w' A l.length c l ∧ Below w.heap.size w w' := by
  obtain ⟨W, hW⟩ : ∃ W, (w.alloc (.cells (dcV t i q l) 24)).alloc (.cells ec0 31) = W := ⟨_, rfl⟩
  have b0 : Below w.heap.size w W := by rw [← hW]; exact ((Below.refl w.heap.size w).alloc (Nat.le_refl _) _).alloc (by simp) _
  have B0 := Lib.hid b0
  have PB := Lib.hid (show Blk W w.heap.size 24 (dcV t i q l) from by rw [← hW]; exact (Blk.new w _ _).alloc _)
  have RB := Lib.hid (show Blk W (w.heap.size + 1) 31 ec0 from by rw [← hW]; have := Blk.new (w.alloc (.cells (dcV t i q l) 24)) 31 ec0; simpa using this)
  have z2 := Lib.hid (show w.heap.size ≤ w.heap.size + 1 from by omega)
  have HW := Lib.hid hW
  clear b0 hW
  obtain ⟨A, c, W1, hconv, hs, hb, hfresh⟩ := conv_src ⟨l.toArray⟩ hn W
  replace hconv : (convert 9 26 (.string ⟨l.toArray⟩)).run Try.prog W = .ok (.slice A l.length c) W1 := hconv
  replace hs : Src W1 A l.length c l := hs
  have SS := Lib.hid hs
  have HF := Lib.hid hfresh
  have B1 := Lib.hid (B0.out.trans (hb.mono B0.out.size))
  have RB1 := Lib.hid (RB.out.older (older_below hb))
  have LT := Lib.hid (show w.heap.size + 1 < W.heap.size from RB.out.lt)
  clear hs hb hfresh
  have x0 := (PB.out.cell 0).trans (show _ = some (.int .i64 t) from rfl)
  have x1 := (PB.out.cell 1).trans (show _ = some (.int .u16 (i : Int)) from rfl)
  have x2 := (PB.out.cell 2).trans (show _ = some (.int .u16 (q : Int)) from rfl)
  have x3 := (PB.out.cell 3).trans (show _ = some (.string ⟨l.toArray⟩) from rfl)
  have KZ := Lib.hid (below_setRow B1.out z2.out (ecV t i q A l.length c))
  go_enter Try.func8, Try.ntmps8
  go_upto_region 1 with fail
  rw [HW.out]
  go_wp2_with (first
    | (refine wpList_store_row rfl 31 (.tmp 2) (.tmp 12) rfl (w.heap.size + 1) (ecV t i q A l.length c) rfl rfl 31 _ RB1.out ec_info rfl (by simp [Value.oneCell']) ?_)
    | fail)
  refine bodyPost_ret (v := .agg (ecV t i q A l.length c)) ?_ rfl ?_
  · exact results_cell_row Try.results8 _ _ (w.heap.size + 1) 31 _ (0, 0) _ rfl (RB1.out.row _) Try.underlying31 rfl ec_info
  exact ⟨A, c, rfl, src_chg SS.out (Chg.setRow _ _ (g := w.heap.size + 1) (S := fun b => b = w.heap.size + 1) rfl) (fun _ b o e => by have := HF.out b o e; have := LT.out; omega), KZ.out⟩

set_option maxRecDepth 100000 in
set_option maxHeartbeats 2000000 in
theorem to_any (t : Int) (i q : Nat) (A : Option Addr) (n c : Nat) (l : List UInt8) (w : World) (hs : Src w A n c l) :
    Calls Try.prog 12 #[.agg (ecV t i q A n c)] w fun e w' => e = .returned (.agg (dcV t i q l)) ∧ Below w.heap.size w w' := by
  obtain ⟨W, hW⟩ : ∃ W, (w.alloc (.cells (ecV t i q A n c) 31)).alloc (.cells dc0 24) = W := ⟨_, rfl⟩
  have b0 : Below w.heap.size w W := by rw [← hW]; exact ((Below.refl w.heap.size w).alloc (Nat.le_refl _) _).alloc (by simp) _
  have B0 := Lib.hid b0
  have PB := Lib.hid (show Blk W w.heap.size 31 (ecV t i q A n c) from by rw [← hW]; exact (Blk.new w _ _).alloc _)
  have RB := Lib.hid (show Blk W (w.heap.size + 1) 24 dc0 from by rw [← hW]; have := Blk.new (w.alloc (.cells (ecV t i q A n c) 31)) 24 dc0; simpa using this)
  have z2 := Lib.hid (show w.heap.size ≤ w.heap.size + 1 from by omega)
  have HW := Lib.hid hW
  have TS := told_str (hs.below b0)
  clear b0 hW hs
  have x0 := (PB.out.cell 0).trans (show _ = some (.int .i64 t) from rfl)
  have x1 := (PB.out.cell 1).trans (show _ = some (.int .u16 (i : Int)) from rfl)
  have x2 := (PB.out.cell 2).trans (show _ = some (.int .u16 (q : Int)) from rfl)
  have x3 := (PB.out.cell 3).trans (show _ = some (.slice A n c) from rfl)
  have KZ := Lib.hid (below_setRow B0.out z2.out (dcV t i q l))
  go_enter Try.func12, Try.ntmps12
  go_upto_region 1 with fail
  rw [HW.out]
  go_wp2_with (first
    | (refine wpList_store_row rfl 24 (.tmp 2) (.tmp 12) rfl (w.heap.size + 1) (dcV t i q l) rfl rfl 24 _ RB.out dc_info rfl (by simp [Value.oneCell']) ?_)
    | fail)
  refine bodyPost_ret (v := .agg (dcV t i q l)) ?_ rfl ?_
  · exact results_cell_row Try.results12 _ _ (w.heap.size + 1) 24 _ (0, 0) _ rfl (RB.out.row _) Try.underlying24 rfl dc_info
  exact ⟨rfl, KZ.out⟩

set_option maxRecDepth 100000 in
set_option maxHeartbeats 2000000 in
theorem alive_any (w : World) : Calls Try.prog 6 #[] w fun e w' => e = .returned (.bool true) ∧ Below w.heap.size w w' := by
  have HH := Lib.hid (show Calls Try.prog 7 #[.agg #[.int .i64 8, .int .u16 1, .int .u16 2, .slice none 0 0]] w _ from bytes_ok 8 1 2 (.inr rfl) (by omega) (by omega) none 0 [] w (Src.nil w) (by show 0 ≤ 982; omega))
  have PP := Lib.hid (fun W => parse_any none 0 0 [] W (Src.nil W) (by omega))
  have e8 : icB 8 1 2 [] = [8, 0, 247, 252, 0, 1, 0, 2] := by decide +kernel
  go_enter Try.func6, Try.ntmps6
  go_wp2_with fail
  refine HH.out.mono ?_
  rintro e w1 ⟨⟨g, c, rfl, O⟩, b1⟩
  have B1 := Lib.hid b1
  rw [e8] at O
  have OO := Lib.hid O
  clear b1 HH O e8
  go_wp2_with fail
  refine (PP.out w1).mono ?_
  rintro e w2 ⟨⟨Az, cz, rfl, _⟩, b2⟩
  have B2 := Lib.hid (B1.out.trans (b2.mono B1.out.size))
  have O2 := Lib.hid (OO.out.below b2)
  clear b2 PP
  have e50 : icErr ([] : List UInt8) = 50 := by decide
  have ep : icP ([] : List UInt8) = (0, 0, 0, []) := icP_no (by rw [e50]; decide)
  rw [e50, ep]
  (try dsimp only)
  have BX := Lib.hid (B2.out.alloc B2.out.size (.cells #[.int .i64 0, .int .u16 0, .int .u16 0, .slice Az 0 cz] 31))
  have TS : (convert 26 9 (.slice (some ⟨g, 0, none⟩) 8 c)).run Try.prog (w2.alloc (.cells #[.int .i64 0, .int .u16 0, .int .u16 0, .slice Az 0 cz] 31)) = .ok (.string ⟨#[8, 0, 247, 252, 0, 1, 0, 2]⟩) (w2.alloc (.cells #[.int .i64 0, .int .u16 0, .int .u16 0, .slice Az 0 cz] 31)) := told_str (O2.out.alloc (.cells #[.int .i64 0, .int .u16 0, .int .u16 0, .slice Az 0 cz] 31)).src
  go_wp2
  go_ret
  exact ⟨rfl, BX.out⟩
end Go.Proofs.Ytbjmclcnaagbnaa.Ic
