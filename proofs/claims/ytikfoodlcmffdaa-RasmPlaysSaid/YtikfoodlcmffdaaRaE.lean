/- The document's buffer of layer 19: New. Conditions: those that each states. -/
import Derived.Test.YtikfoodlcmffdaaRaD
import Derived.Test.YtikfoodlcmffdaaRow
namespace Go.Proofs.Ytikfoodlcmffdaa.Ra
open Go.ChangeShapes Go.WideShapes Go.ChangeAt Go.RowKit Go.Deep Rk
set_option linter.unusedVariables false
set_option linter.unusedSimpArgs false

theorem ev_rep (n : Nat) : ev (List.replicate n none) ++ [.int .i64 (-1)] = ev (List.replicate (n + 1) none) := by
  rw [List.replicate_succ']; simp [ev, en]
theorem ev_snoc (xs : Bs) : ev xs ++ [.int .i64 (-1)] = ev (xs ++ [none]) := by simp [ev, en]

set_option maxRecDepth 100000 in
set_option maxHeartbeats 1000000 in
theorem refNew_any (R : Nat) (hR : R ≤ 300) (w : World) :
    Calls Try.prog 10 #[.int .i64 (R : Int)] w fun e w' => ∃ A c, e = .returned (.agg (dbV R 0 A c)) ∧ RowG w' 1 A R c (ev (List.replicate R none)) ∧ Below w.heap.size w w' ∧ ∀ a, A = some a → w.heap.size ≤ a.block := by
  have B0 := Lib.hid ((((Below.refl w.heap.size w).alloc (Nat.le_refl _) (.cells #[.int .i64 0, .int .i64 0, .slice none 0 0] 31)).alloc (by simp) (.cells #[.int .i64 (R : Int), .int .i64 0, .slice none 0 0] 31)))
  have K2 := Lib.hid ((Blk.new w 31 #[.int .i64 0, .int .i64 0, .slice none 0 0]).alloc (.cells #[.int .i64 (R : Int), .int .i64 0, .slice none 0 0] 31))
  have K3 := Lib.hid (show Blk ((w.alloc (.cells #[.int .i64 0, .int .i64 0, .slice none 0 0] 31)).alloc (.cells #[.int .i64 (R : Int), .int .i64 0, .slice none 0 0] 31)) (w.heap.size + 1) 31 #[.int .i64 (R : Int), .int .i64 0, .slice none 0 0] from by
    have := Blk.new (w.alloc (.cells #[.int .i64 0, .int .i64 0, .slice none 0 0] 31)) 31 #[.int .i64 (R : Int), .int .i64 0, .slice none 0 0]
    simpa using this)
  go_enter Try.func10, Try.ntmps10
  go_upto_region 2 with fail
  generalize (w.alloc (.cells #[.int .i64 0, .int .i64 0, .slice none 0 0] 31)).alloc (.cells #[.int .i64 (R : Int), .int .i64 0, .slice none 0 0] 31) = W at *
  have BW := Lib.hid (show Below w.heap.size w w from Below.refl _ _)
  obtain ⟨g2, hg2⟩ : ∃ g2, g2 = w.heap.size := ⟨_, rfl⟩
  rw [← hg2] at K2 K3 ⊢
  have G2 := Lib.hid hg2
  clear hg2 BW
  go_wp2
  go_loopw [4] (fun i wr => ∃ (j : Nat) (A : Option Addr) (c : Nat), j ≤ R ∧ i = .int .i64 (j : Int) ∧ Hid (Blk wr g2 31 #[.int .i64 0, .int .i64 0, .slice none 0 0]) ∧ Hid (Blk wr (g2 + 1) 31 #[.int .i64 (R : Int), .int .i64 0, .slice A (ev (List.replicate j none)).length c]) ∧ Hid (Row wr (g2 + 2) 3 A c (ev (List.replicate j none))) ∧ Hid (Below w.heap.size w wr)) (fun i _ => R - (intOf i).toNat)
  case atStart => exact ⟨0, none, 0, Nat.zero_le _, rfl, K2, K3, Lib.hid (Row.nil _ _ _), B0⟩
  case round =>
    obtain ⟨j, A, c, hj, rfl, H2, H3, HR, HB⟩ := hrel
    clear K2 K3 B0
    by_cases hlt : j < R
    · have hlt' : (j : Int) < (R : Int) := by omega
      have xk := IntWalk.i64_in ((j : Int) + 1) (by omega)
      have c2 := (H3.out.cell 2).trans (show _ = some (.slice A (ev (List.replicate j none)).length c) from rfl)
      have HL := Lib.hid (show (ev (List.replicate j none)).length ≤ 300 from by rw [ev_length, List.length_replicate]; omega)
      have EX := Lib.hid (ev_rep j)
      have hs : g2 + 2 ≤ wr.heap.size := by have := H3.out.lt; omega
      generalize ev (List.replicate j none) = L at *
      go_wp2_with (at_builtin; refine Hid.out ?_)
      unfold Hid
      refine wpList_append_one rfl _ _ rfl Try.underlying29 (.int .i64 0) 8 rfl (by decide) int_info rfl HR.out hs (.int .i64 (-1)) rfl rfl (by have := HL.out; omega) ?_
      intro A' c' w2 hr2 k2 _
      have hb1 : ∀ i, (Value.slice A L.length c).ownBlock = some i → g2 + 2 ≤ i := fun i hi => (HR.out.lt i hi).1
      have J2 := Lib.hid (H2.out.chg k2 (fun s => by have := hb1 _ s; omega))
      have J3 := Lib.hid (H3.out.chg k2 (fun s => by have := hb1 _ s; omega))
      have JB := Lib.hid (HB.out.trans (k2.below (B := w.heap.size) HB.out.size (fun i hi => by have := hb1 i hi; have := G2.out; omega)))
      have c2 := (J3.out.cell 2).trans (show _ = some (.slice A L.length c) from rfl)
      have f2 := J3.out.frozen 2
      have KS := Chg.set w2 (g := g2 + 1) (S := fun k => k = g2 + 1) 2 (.slice A' (L ++ [Value.int .i64 (-1)]).length c') rfl
      have M2 := Lib.hid (J2.out.chg KS (by omega))
      have M3 := Lib.hid (show Blk (w2.setCell ⟨g2 + 1, 2, none⟩ (.slice A' (L ++ [Value.int .i64 (-1)]).length c')) (g2 + 1) 31 #[.int .i64 (R : Int), .int .i64 0, .slice A' (L ++ [Value.int .i64 (-1)]).length c'] from J3.out.put 2 _)
      have MR := Lib.hid (hr2.chg KS (fun b hb s => by have := (hr2.lt b hb).1; have s' : b = g2 + 1 := s; omega))
      have MB := Lib.hid (JB.out.trans (KS.below (B := w.heap.size) JB.out.size (fun i hi => by have hi' : i = g2 + 1 := hi; have := G2.out; omega)))
      have XL := Lib.hid (show (L ++ [Value.int .i64 (-1)]).length = L.length + 1 from by simp)
      clear hr2 k2 hb1 J2 J3 JB KS HR H2 H3 HB
      generalize (L ++ [Value.int .i64 (-1)]) = L' at *
      go_wp2
      go_roundw
      case rel => exact ⟨j + 1, A', c', by omega, by go_num, M2, by rw [← EX.out]; exact M3, by rw [← EX.out]; exact MR, MB⟩
      case measure => simp [intOf]; omega
    · have hlt' : ¬ (j : Int) < (R : Int) := by omega
      obtain rfl : j = R := by omega
      have e1 : (ev (List.replicate j none)).length = j := by rw [ev_length, List.length_replicate]
      rw [e1] at H3
      have RG := Lib.hid (show RowG wr 1 A j c (ev (List.replicate j none)) from by have := row_rg HR.out; rw [e1] at this; exact this)
      have FA := Lib.hid (show ∀ a, A = some a → w.heap.size ≤ a.block ∧ a.block ≠ g2 from fun a ha => by
        subst ha
        have := (HR.out.lt a.block rfl).1
        have := G2.out
        omega)
      clear HR e1
      go_wp2_with (first
        | (refine wpList_load_row rfl 31 (.tmp 3) rfl (g2 + 1) rfl 31 _ (0, 0) _ H3.out Try.underlying31 rfl db_info ?_)
        | (refine wpList_store_row rfl 31 (.tmp 2) (.tmp 17) rfl g2 (dbV j 0 A c) rfl rfl 31 _ H2.out db_info rfl (by simp [Value.oneCell']) ?_)
        | fail)
      refine bodyPost_ret (v := .agg (dbV j 0 A c)) ?_ rfl ?_
      · exact results_cell_row Try.results10 _ _ g2 31 _ (0, 0) _ rfl (H2.out.row _) Try.underlying31 rfl db_info
      exact ⟨A, c, rfl, RG.out.chg (Chg.setRow wr (g := g2) (S := fun k => k = g2) _ rfl) (fun a ha s => (FA.out a ha).2 s), below_setRow HB.out (by have := G2.out; omega) _, fun a ha => (FA.out a ha).1⟩
end Go.Proofs.Ytikfoodlcmffdaa.Ra
