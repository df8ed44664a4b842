/- The laws' own words of layer 15: of, to, the chapter's example. Conditions: those that each states. -/
import Derived.Test.YtpnfmohejcdgfaaIp5
namespace Go.Proofs.Ytpnfmohejcdgfaa.Ip
open Go.ChangeShapes Go.WideShapes Go.ChangeAt Go.RowKit Go.Deep Rk Fl Gx Di
set_option linter.unusedVariables false
set_option linter.unusedSimpArgs false

set_option maxRecDepth 100000 in
set_option maxHeartbeats 2000000 in
theorem of_any (i t p s d : Nat) (l : List UInt8) (w : World) (hn : l.length ≤ 1000000) :
    Calls Try.prog 10 #[.agg (dpV i t p s d l)] w fun e w' => ∃ A c, e = .returned (.agg (pkV i t p s d A l.length c)) ∧ Src w' A l.length c l ∧ Below w.heap.size w w' := by
  obtain ⟨W, hW⟩ : ∃ W, (w.alloc (.cells (dpV i t p s d l) 25)).alloc (.cells pk0 32) = W := ⟨_, rfl⟩
  have b0 : Below w.heap.size w W := by rw [← hW]; exact ((Below.refl w.heap.size w).alloc (Nat.le_refl _) _).alloc (by simp) _
  have B0 := Lib.hid b0
  have PB := Lib.hid (show Blk W w.heap.size 25 (dpV i t p s d l) from by rw [← hW]; exact (Blk.new w _ _).alloc _)
  have RB := Lib.hid (show Blk W (w.heap.size + 1) 32 pk0 from by rw [← hW]; have := Blk.new (w.alloc (.cells (dpV i t p s d l) 25)) 32 pk0; simpa using this)
  have z2 := Lib.hid (show w.heap.size ≤ w.heap.size + 1 from by omega)
  have HW := Lib.hid hW
  clear b0 hW
  obtain ⟨A, c, W1, hconv, hs, hb, hfresh⟩ := conv_src ⟨l.toArray⟩ hn W
  have hconv : (convert 9 27 (.string ⟨l.toArray⟩)).run Try.prog W = .ok (.slice A l.length c) W1 := hconv
  have hs : Src W1 A l.length c l := hs
  have SS := Lib.hid hs
  have HF := Lib.hid hfresh
  have B1 := Lib.hid (B0.out.trans (hb.mono B0.out.size))
  have RB1 := Lib.hid (RB.out.older (older_below hb))
  have LT := Lib.hid (show w.heap.size + 1 < W.heap.size from RB.out.lt)
  clear hs hb hfresh
  have x0 := (PB.out.cell 0).trans (show _ = some (.int .u16 (i : Int)) from rfl)
  have x1 := (PB.out.cell 1).trans (show _ = some (.int .u8 (t : Int)) from rfl)
  have x2 := (PB.out.cell 2).trans (show _ = some (.int .u8 (p : Int)) from rfl)
  have x3 := (PB.out.cell 3).trans (show _ = some (.int .u32 (s : Int)) from rfl)
  have x4 := (PB.out.cell 4).trans (show _ = some (.int .u32 (d : Int)) from rfl)
  have x5 := (PB.out.cell 5).trans (show _ = some (.string ⟨l.toArray⟩) from rfl)
  have KZ := Lib.hid (below_setRow B1.out z2.out (pkV i t p s d A l.length c))
  go_enter Try.func10, Try.ntmps10
  go_upto_region 1 with fail
  rw [HW.out]
  go_wp2_with (first
    | (refine wpList_store_row rfl 32 (.tmp 2) (.tmp 16) rfl (w.heap.size + 1) (pkV i t p s d A l.length c) rfl rfl 32 _ RB1.out pk_info rfl (by simp [Value.oneCell']) ?_)
    | fail)
  refine bodyPost_ret (v := .agg (pkV i t p s d A l.length c)) ?_ rfl ?_
  · exact results_cell_row Try.results10 _ _ (w.heap.size + 1) 32 _ (0, 0) _ rfl (RB1.out.row _) Try.underlying32 rfl pk_info
  exact ⟨A, c, rfl, src_chg SS.out (Chg.setRow _ _ (g := w.heap.size + 1) (S := fun b => b = w.heap.size + 1) rfl) (fun _ b o e => by have := HF.out b o e; have := LT.out; omega), KZ.out⟩

set_option maxRecDepth 100000 in
set_option maxHeartbeats 2000000 in
theorem to_any (i t p s d : Nat) (A : Option Addr) (n c : Nat) (l : List UInt8) (w : World) (hs : Src w A n c l) :
    Calls Try.prog 16 #[.agg (pkV i t p s d A n c)] w fun e w' => e = .returned (.agg (dpV i t p s d l)) ∧ Below w.heap.size w w' := by
  obtain ⟨W, hW⟩ : ∃ W, (w.alloc (.cells (pkV i t p s d A n c) 32)).alloc (.cells dp0 25) = W := ⟨_, rfl⟩
  have b0 : Below w.heap.size w W := by rw [← hW]; exact ((Below.refl w.heap.size w).alloc (Nat.le_refl _) _).alloc (by simp) _
  have B0 := Lib.hid b0
  have PB := Lib.hid (show Blk W w.heap.size 32 (pkV i t p s d A n c) from by rw [← hW]; exact (Blk.new w _ _).alloc _)
  have RB := Lib.hid (show Blk W (w.heap.size + 1) 25 dp0 from by rw [← hW]; have := Blk.new (w.alloc (.cells (pkV i t p s d A n c) 32)) 25 dp0; simpa using this)
  have z2 := Lib.hid (show w.heap.size ≤ w.heap.size + 1 from by omega)
  have HW := Lib.hid hW
  have TS := told_str (hs.below b0)
  clear b0 hW hs
  have x0 := (PB.out.cell 0).trans (show _ = some (.int .u16 (i : Int)) from rfl)
  have x1 := (PB.out.cell 1).trans (show _ = some (.int .u8 (t : Int)) from rfl)
  have x2 := (PB.out.cell 2).trans (show _ = some (.int .u8 (p : Int)) from rfl)
  have x3 := (PB.out.cell 3).trans (show _ = some (.int .u32 (s : Int)) from rfl)
  have x4 := (PB.out.cell 4).trans (show _ = some (.int .u32 (d : Int)) from rfl)
  have x5 := (PB.out.cell 5).trans (show _ = some (.slice A n c) from rfl)
  have KZ := Lib.hid (below_setRow B0.out z2.out (dpV i t p s d l))
  go_enter Try.func16, Try.ntmps16
  go_upto_region 1 with fail
  rw [HW.out]
  go_wp2_with (first
    | (refine wpList_store_row rfl 25 (.tmp 2) (.tmp 16) rfl (w.heap.size + 1) (dpV i t p s d l) rfl rfl 25 _ RB.out dp_info rfl (by simp [Value.oneCell']) ?_)
    | fail)
  refine bodyPost_ret (v := .agg (dpV i t p s d l)) ?_ rfl ?_
  · exact results_cell_row Try.results16 _ _ (w.heap.size + 1) 25 _ (0, 0) _ rfl (RB.out.row _) Try.underlying25 rfl dp_info
  exact ⟨rfl, KZ.out⟩

set_option maxRecDepth 100000 in
set_option maxHeartbeats 2000000 in
theorem alive_any (w : World) : Calls Try.prog 8 #[] w fun e w' => e = .returned (.bool true) ∧ Below w.heap.size w w' := by
  have HH := Lib.hid (fun W => show Calls Try.prog 11 #[.agg #[.int .u16 0, .int .u8 64, .int .u8 0, .int .u32 0, .int .u32 0, .slice none 0 0]] W (fun e w' => Tells W w' e (decide (0 ≤ 990)) (ipHead 0 64 0 0 0 0 ++ []) 2 ∧ Below W.heap.size W w') from bytes_any' 0 64 0 0 0 ⟨by omega, by omega, by omega, by omega, by omega⟩ none 0 0 [] W (Src.nil W) (by omega))
  have PP := Lib.hid (fun W => parse_any none 0 0 [] W (Src.nil W) (by omega))
  go_enter Try.func8, Try.ntmps8
  go_wp2_with fail
  refine (HH.out w).mono ?_
  rintro e w1 ⟨T, b1⟩
  have B1 := Lib.hid b1
  clear b1 HH
  rcases T with ⟨h, _⟩ | ⟨_, g, c, rfl, O⟩
  · exact absurd h (by decide)
  have e20 : ipHead 0 64 0 0 0 0 ++ [] = [69, 0, 0, 20] ++ (ipHead 0 64 0 0 0 0).drop 4 := by decide +kernel
  rw [e20] at O ⊢
  have l16 : ((ipHead 0 64 0 0 0 0).drop 4).length = 16 := by rw [List.length_drop, ipHead_length]
  generalize (ipHead 0 64 0 0 0 0).drop 4 = r at *
  have e20' : ([69, 0, 0, 20] ++ r).length = 20 := by rw [List.length_append, l16]; rfl
  rw [e20'] at O ⊢
  have OO := Lib.hid O
  clear O e20 e20'
  go_wp2_with fail
  refine (PP.out w1).mono ?_
  rintro e w2 ⟨T, b2⟩
  have B2 := Lib.hid (B1.out.trans (b2.mono B1.out.size))
  have O2 := Lib.hid (OO.out.below b2)
  clear b2 PP
  rcases T with ⟨_, rfl⟩ | ⟨h, _⟩
  rotate_left
  · exact absurd h (by decide)
  have e50 : parErr ([] : List UInt8) = 50 := by decide
  rw [e50]
  have BX := Lib.hid (B2.out.alloc B2.out.size (.cells pk0 32))
  have O3 := Lib.hid (O2.out.alloc (.cells pk0 32))
  go_upto_region 3 with fail
  generalize w2.alloc (.cells pk0 32) = w3 at *
  have c2 : w3.cell? ⟨g, 2, none⟩ = some (.int .u8 0) := (O3.out.cell (j := 2) (by omega)).2
  have c3 : w3.cell? ⟨g, 3, none⟩ = some (.int .u8 20) := (O3.out.cell (j := 3) (by omega)).2
  go_wp2
  go_ret
  exact ⟨rfl, BX.out⟩
end Go.Proofs.Ytpnfmohejcdgfaa.Ip
