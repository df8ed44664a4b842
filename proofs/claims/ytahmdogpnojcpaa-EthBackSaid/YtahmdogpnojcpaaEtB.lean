/- The laws' own words of layer 14: of, to, the chapter's example; how a packet, a message, a host come in. Conditions: those that each states. -/
import Derived.Test.YtahmdogpnojcpaaEtA
namespace Go.Proofs.Ytahmdogpnojcpaa.Et
open Go.ChangeShapes Go.WideShapes Go.ChangeAt Go.RowKit Go.Deep Rk Es Di
set_option linter.unusedVariables false
set_option linter.unusedSimpArgs false

set_option maxRecDepth 100000 in
set_option maxHeartbeats 2000000 in
theorem of_any (t f y : Nat) (l : List UInt8) (w : World) (hn : l.length ≤ 1000000) :
    Calls Try.prog 10 #[.agg (dpV t f y l)] w fun e w' => ∃ A c, e = .returned (.agg (pkV t f y A l.length c)) ∧ Src w' A l.length c l ∧ Below w.heap.size w w' := by
  obtain ⟨W, hW⟩ : ∃ W, (w.alloc (.cells (dpV t f y l) 25)).alloc (.cells pk0 32) = W := ⟨_, rfl⟩
  have b0 : Below w.heap.size w W := by rw [← hW]; exact ((Below.refl w.heap.size w).alloc (Nat.le_refl _) _).alloc (by simp) _
  have B0 := Lib.hid b0
  have PB := Lib.hid (show Blk W w.heap.size 25 (dpV t f y l) from by rw [← hW]; exact (Blk.new w _ _).alloc _)
  have RB := Lib.hid (show Blk W (w.heap.size + 1) 32 pk0 from by rw [← hW]; have := Blk.new (w.alloc (.cells (dpV t f y l) 25)) 32 pk0; simpa using this)
  have z2 := Lib.hid (show w.heap.size ≤ w.heap.size + 1 from by omega)
  have HW := Lib.hid hW
  clear b0 hW
  obtain ⟨A, c, W1, hconv, hs, hb, hfresh⟩ := conv_src ⟨l.toArray⟩ hn W
  have hconv : (convert 9 27 (.string ⟨l.toArray⟩)).run Try.prog W = .ok (.slice A l.length c) W1 := hconv
  have hs : Src W1 A l.length c l := hs
  have SS := Lib.hid hs
  have B1 := Lib.hid (B0.out.trans (hb.mono B0.out.size))
  have RB1 := Lib.hid (RB.out.older (older_below hb))
  clear hs hb
  have x0 := (PB.out.cell 0).trans (show _ = some (.int .u64 (t : Int)) from rfl)
  have x1 := (PB.out.cell 1).trans (show _ = some (.int .u64 (f : Int)) from rfl)
  have x2 := (PB.out.cell 2).trans (show _ = some (.int .u16 (y : Int)) from rfl)
  have x3 := (PB.out.cell 3).trans (show _ = some (.string ⟨l.toArray⟩) from rfl)
  have KZ := Lib.hid (below_setRow B1.out z2.out (pkV t f y A l.length c))
  go_enter Try.func10, Try.ntmps10
  go_upto_region 1 with fail
  rw [HW.out]
  go_wp2_with (first
    | (refine wpList_store_row rfl 32 (.tmp 2) (.tmp 12) rfl (w.heap.size + 1) (pkV t f y A l.length c) rfl rfl 32 _ RB1.out pk_info rfl (by simp [Value.oneCell']) ?_)
    | fail)
  refine bodyPost_ret (v := .agg (pkV t f y A l.length c)) ?_ rfl ?_
  · exact results_cell_row Try.results10 _ _ (w.heap.size + 1) 32 _ (0, 0) _ rfl (RB1.out.row _) Try.underlying32 rfl pk_info
  exact ⟨A, c, rfl, src_chg SS.out (Chg.setRow _ _ (g := w.heap.size + 1) (S := fun b => b = w.heap.size + 1) rfl) (src_apart SS.out RB1.out (by simp)), KZ.out⟩

set_option maxRecDepth 100000 in
set_option maxHeartbeats 2000000 in
theorem to_any (t f y : Nat) (A : Option Addr) (n c : Nat) (l : List UInt8) (w : World) (hs : Src w A n c l) :
    Calls Try.prog 16 #[.agg (pkV t f y A n c)] w fun e w' => e = .returned (.agg (dpV t f y l)) ∧ Below w.heap.size w w' := by
  obtain ⟨W, hW⟩ : ∃ W, (w.alloc (.cells (pkV t f y A n c) 32)).alloc (.cells dp0 25) = W := ⟨_, rfl⟩
  have b0 : Below w.heap.size w W := by rw [← hW]; exact ((Below.refl w.heap.size w).alloc (Nat.le_refl _) _).alloc (by simp) _
  have B0 := Lib.hid b0
  have PB := Lib.hid (show Blk W w.heap.size 32 (pkV t f y A n c) from by rw [← hW]; exact (Blk.new w _ _).alloc _)
  have RB := Lib.hid (show Blk W (w.heap.size + 1) 25 dp0 from by rw [← hW]; have := Blk.new (w.alloc (.cells (pkV t f y A n c) 32)) 25 dp0; simpa using this)
  have z2 := Lib.hid (show w.heap.size ≤ w.heap.size + 1 from by omega)
  have HW := Lib.hid hW
  have TS := told_str (hs.below b0)
  clear b0 hW hs
  have x0 := (PB.out.cell 0).trans (show _ = some (.int .u64 (t : Int)) from rfl)
  have x1 := (PB.out.cell 1).trans (show _ = some (.int .u64 (f : Int)) from rfl)
  have x2 := (PB.out.cell 2).trans (show _ = some (.int .u16 (y : Int)) from rfl)
  have x3 := (PB.out.cell 3).trans (show _ = some (.slice A n c) from rfl)
  have KZ := Lib.hid (below_setRow B0.out z2.out (dpV t f y l))
  go_enter Try.func16, Try.ntmps16
  go_upto_region 1 with fail
  rw [HW.out]
  go_wp2_with (first
    | (refine wpList_store_row rfl 25 (.tmp 2) (.tmp 12) rfl (w.heap.size + 1) (dpV t f y l) rfl rfl 25 _ RB.out dp_info rfl (by simp [Value.oneCell']) ?_)
    | fail)
  refine bodyPost_ret (v := .agg (dpV t f y l)) ?_ rfl ?_
  · exact results_cell_row Try.results16 _ _ (w.heap.size + 1) 25 _ (0, 0) _ rfl (RB.out.row _) Try.underlying25 rfl dp_info
  exact ⟨rfl, KZ.out⟩

set_option maxRecDepth 100000 in
set_option maxHeartbeats 2000000 in
theorem alive_any (w : World) : Calls Try.prog 8 #[] w fun e w' => e = .returned (.bool true) ∧ Below w.heap.size w w' := by
  have HH := Lib.hid (fun W => head_any 281474976710655 1 2048 (by omega) (by omega) (by omega) none 0 0 W)
  have PP := Lib.hid (fun W => parse_any none 0 0 [] W (Src.nil W) (by omega))
  go_enter Try.func8, Try.ntmps8
  go_wp2_with fail
  refine (HH.out w).mono ?_
  rintro e w1 ⟨T, b1⟩
  have B1 := Lib.hid b1
  clear b1 HH
  rcases T with ⟨h, _⟩ | ⟨_, g, c, rfl, O⟩
  · exact absurd h (by decide)
  have e14 : headL 281474976710655 1 2048 = [255, 255, 255, 255, 255, 255, 0, 0, 0, 0, 0, 1, 8, 0] := by decide
  rw [e14] at O ⊢
  have OO := Lib.hid (show OwnB w1 w.heap.size g 14 c [255, 255, 255, 255, 255, 255, 0, 0, 0, 0, 0, 1, 8, 0] from O)
  clear O e14
  go_wp2_with fail
  refine (PP.out w1).mono ?_
  rintro e w2 ⟨T, b2⟩
  have B2 := Lib.hid (B1.out.trans (b2.mono B1.out.size))
  have O2 := Lib.hid (OO.out.below b2)
  clear b2 PP
  rcases T with ⟨_, rfl⟩ | ⟨h, _⟩
  rotate_left
  · exact absurd h (by decide)
  have e50 : parErr (List.length ([] : List UInt8)) = 50 := by decide
  rw [e50]
  have BX := Lib.hid (B2.out.alloc B2.out.size (.cells pk0 32))
  have O3 := Lib.hid (O2.out.alloc (.cells pk0 32))
  go_upto_region 3 with fail
  generalize w2.alloc (.cells pk0 32) = w3 at *
  have TX := told_str O3.out.src
  go_wp2
  go_ret
  exact ⟨rfl, BX.out⟩
end Go.Proofs.Ytahmdogpnojcpaa.Et
