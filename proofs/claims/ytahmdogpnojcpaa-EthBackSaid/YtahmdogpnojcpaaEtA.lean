/- The document's answers of layer 14 (eth): Answer. Conditions: those that each states. -/
import Derived.Test.YtahmdogpnojcpaaEt9
namespace Go.Proofs.Ytahmdogpnojcpaa.Et
open Go.ChangeShapes Go.WideShapes Go.ChangeAt Go.RowKit Go.Deep Rk Es
set_option linter.unusedVariables false
set_option linter.unusedSimpArgs false

def DAnsTold (e : Ending) (hm hi t f y : Nat) (l : List UInt8) : Prop :=
  (ansMay hm hi t y l = false ∧ e = .returned (.tuple #[.agg dp0, .bool false])) ∨
  (ansMay hm hi t y l = true ∧ e = .returned (.tuple #[.agg (dpV f hm 2054 (ansL hm hi l)), .bool true]))

set_option maxRecDepth 100000 in
set_option maxHeartbeats 4000000 in
theorem refAnswer_any (hm hi t f y : Nat) (hhm : hm ≤ 18446744073709551615) (hhi : hi ≤ 4294967295) (l : List UInt8) (w : World) (hn : l.length ≤ 1000000) :
    Calls Try.prog 22 #[.agg (hoV hm hi), .agg (dpV t f y l)] w fun e w' => DAnsTold e hm hi t f y l ∧ Below w.heap.size w w' := by
  obtain ⟨W, hW⟩ : ∃ W, ((w.alloc (.cells (hoV hm hi) 54)).alloc (.cells (dpV t f y l) 25)).alloc (.cells dp0 25) = W := ⟨_, rfl⟩
  have b0 : Below w.heap.size w W := by rw [← hW]; exact (((Below.refl w.heap.size w).alloc (Nat.le_refl _) _).alloc (by simp) _).alloc (by simp; omega) _
  have B0 := Lib.hid b0
  have HB0 := Lib.hid (show Blk W w.heap.size 54 (hoV hm hi) from by rw [← hW]; exact ((Blk.new w _ _).alloc _).alloc _)
  have PB0 := Lib.hid (show Blk W (w.heap.size + 1) 25 (dpV t f y l) from by rw [← hW]; have := (Blk.new (w.alloc (.cells (hoV hm hi) 54)) 25 (dpV t f y l)).alloc (.cells dp0 25); simpa using this)
  have RB0 := Lib.hid (show Blk W (w.heap.size + 2) 25 dp0 from by rw [← hW]; have := Blk.new ((w.alloc (.cells (hoV hm hi) 54)).alloc (.cells (dpV t f y l) 25)) 25 dp0; simpa using this)
  have z2 := Lib.hid (show w.heap.size ≤ w.heap.size + 2 from by omega)
  have HW := Lib.hid hW
  clear b0 hW
  have PR := Lib.hid (fun W => refParseARP_any l W hn)
  have x0 := (HB0.out.cell 0).trans (show _ = some (.int .u64 (hm : Int)) from rfl)
  have x1 := (HB0.out.cell 1).trans (show _ = some (.int .u32 (hi : Int)) from rfl)
  have y0 := (PB0.out.cell 0).trans (show _ = some (.int .u64 (t : Int)) from rfl)
  have y1 := (PB0.out.cell 1).trans (show _ = some (.int .u64 (f : Int)) from rfl)
  have y2 := (PB0.out.cell 2).trans (show _ = some (.int .u16 (y : Int)) from rfl)
  have y3 := (PB0.out.cell 3).trans (show _ = some (.string ⟨l.toArray⟩) from rfl)
  go_enter Try.func22, Try.ntmps22
  go_upto_region 1 with fail
  rw [HW.out]
  clear HW
  go_wp2_with fail
  refine (PR.out W).mono ?_
  rintro e w2 ⟨T, b2⟩
  have B2 := Lib.hid (B0.out.trans (b2.mono B0.out.size))
  have HB2 := Lib.hid (HB0.out.older (older_below b2))
  have PB2 := Lib.hid (PB0.out.older (older_below b2))
  have RB2 := Lib.hid (RB0.out.older (older_below b2))
  clear b2 PR B0 HB0 PB0 RB0 x0 x1 y0 y1 y2 y3
  rcases T with ⟨hno, rfl⟩ | ⟨hok, rfl⟩
  · have NO := Lib.hid (show ansMay hm hi t y l = false from by simp [ansMay, hno])
    clear hno
    have b3 : Below w2.heap.size w2 (w2.alloc (.cells ar0 44)) := (Below.refl _ w2).alloc (Nat.le_refl _) _
    have B3 := Lib.hid (B2.out.trans (b3.mono B2.out.size))
    have RB3 := Lib.hid (RB2.out.older (older_below b3))
    clear b3
    have KZ := Lib.hid (below_setRow B3.out z2.out dp0)
    go_wp2_with (first
      | (refine wpList_store_row rfl 25 (.tmp 4) (.tmp 41) rfl (w.heap.size + 2) dp0 rfl rfl 25 _ RB3.out dp_info rfl (by simp [Value.oneCell']) ?_)
      | fail)
    refine bodyPost_ret (v := .tuple #[.agg dp0, .bool false]) ?_ rfl ?_
    · exact results_cell_tmp Try.results22 _ _ (w.heap.size + 2) 25 _ (0, 0) _ rfl (RB3.out.row _) Try.underlying25 rfl dp_info
    exact ⟨.inl ⟨NO.out, rfl⟩, KZ.out⟩
  · have OK := Lib.hid hok
    clear hok
    have AL := Lib.hid (show ansMay hm hi t y l = (fmR t hm && (decide (y = 2054) && (decide (arOp l = 1) && (decide (at2 l 24 4 = hi) && decide (hm < 256 ^ 6))))) from by unfold ansMay; rw [OK.out]; rfl)
    have LM := Lib.hid (show at2 l 8 6 < 256 ^ 6 from at2_lt l 8 6)
    have LI := Lib.hid (show at2 l 14 4 < 256 ^ 4 from at2_lt l 14 4)
    have AA := Lib.hid (show ansL hm hi l = arL 2 hm hi (at2 l 8 6) (at2 l 14 4) from rfl)
    generalize arOp l = o at *
    generalize at2 l 24 4 = i' at *
    generalize at2 l 8 6 = m at *
    generalize at2 l 14 4 = i at *
    generalize at2 l 18 6 = m' at *
    have b3 : Below w2.heap.size w2 (w2.alloc (.cells (arV o m i m' i') 44)) := (Below.refl _ w2).alloc (Nat.le_refl _) _
    have B3 := Lib.hid (B2.out.trans (b3.mono B2.out.size))
    have HB3 := Lib.hid (HB2.out.older (older_below b3))
    have PB3 := Lib.hid (PB2.out.older (older_below b3))
    have RB3 := Lib.hid (RB2.out.older (older_below b3))
    have QB3 := Lib.hid (Blk.new w2 44 (arV o m i m' i'))
    clear b3 B2 HB2 PB2 RB2
    go_upto_region 2 with fail
    generalize w2.alloc (.cells (arV o m i m' i') 44) = w3 at *
    have x0 := (HB3.out.cell 0).trans (show _ = some (.int .u64 (hm : Int)) from rfl)
    have x1 := (HB3.out.cell 1).trans (show _ = some (.int .u32 (hi : Int)) from rfl)
    have y0 := (PB3.out.cell 0).trans (show _ = some (.int .u64 (t : Int)) from rfl)
    have y1 := (PB3.out.cell 1).trans (show _ = some (.int .u64 (f : Int)) from rfl)
    have y2 := (PB3.out.cell 2).trans (show _ = some (.int .u16 (y : Int)) from rfl)
    have y3 := (PB3.out.cell 3).trans (show _ = some (.string ⟨l.toArray⟩) from rfl)
    have q0 := (QB3.out.cell 0).trans (show _ = some (.int .i64 o) from rfl)
    have q1 := (QB3.out.cell 1).trans (show _ = some (.int .u64 (m : Int)) from rfl)
    have q2 := (QB3.out.cell 2).trans (show _ = some (.int .u32 (i : Int)) from rfl)
    have q4 := (QB3.out.cell 4).trans (show _ = some (.int .u32 (i' : Int)) from rfl)
    by_cases ho : o = 1
    rotate_left
    · have NO := Lib.hid (show ansMay hm hi t y l = false from by rw [AL.out]; simp [ho])
      have hne : (o != 1) = true := by simpa using ho
      clear ho
      have KZ := Lib.hid (below_setRow B3.out z2.out dp0)
      go_wp2_with (first
        | (refine wpList_store_row rfl 25 (.tmp 4) (.tmp 41) rfl (w.heap.size + 2) dp0 rfl rfl 25 _ RB3.out dp_info rfl (by simp [Value.oneCell']) ?_)
        | fail)
      refine bodyPost_ret (v := .tuple #[.agg dp0, .bool false]) ?_ rfl ?_
      · exact results_cell_tmp Try.results22 _ _ (w.heap.size + 2) 25 _ (0, 0) _ rfl (RB3.out.row _) Try.underlying25 rfl dp_info
      exact ⟨.inl ⟨NO.out, rfl⟩, KZ.out⟩
    subst ho
    by_cases hi2 : i' = hi
    rotate_left
    · have NO := Lib.hid (show ansMay hm hi t y l = false from by rw [AL.out]; simp [hi2])
      have hne : ((i' : Int) != (hi : Int)) = true := by simp; omega
      clear hi2
      have KZ := Lib.hid (below_setRow B3.out z2.out dp0)
      go_wp2_with (first
        | (refine wpList_store_row rfl 25 (.tmp 4) (.tmp 41) rfl (w.heap.size + 2) dp0 rfl rfl 25 _ RB3.out dp_info rfl (by simp [Value.oneCell']) ?_)
        | fail)
      refine bodyPost_ret (v := .tuple #[.agg dp0, .bool false]) ?_ rfl ?_
      · exact results_cell_tmp Try.results22 _ _ (w.heap.size + 2) 25 _ (0, 0) _ rfl (RB3.out.row _) Try.underlying25 rfl dp_info
      exact ⟨.inl ⟨NO.out, rfl⟩, KZ.out⟩
    subst hi2
    by_cases hy : y = 2054
    rotate_left
    · have NO := Lib.hid (show ansMay hm i' t y l = false from by rw [AL.out]; simp [hy])
      have hne : ((y : Int) != 2054) = true := by simp; omega
      clear hy
      have KZ := Lib.hid (below_setRow B3.out z2.out dp0)
      go_wp2_with (first
        | (refine wpList_store_row rfl 25 (.tmp 4) (.tmp 41) rfl (w.heap.size + 2) dp0 rfl rfl 25 _ RB3.out dp_info rfl (by simp [Value.oneCell']) ?_)
        | fail)
      refine bodyPost_ret (v := .tuple #[.agg dp0, .bool false]) ?_ rfl ?_
      · exact results_cell_tmp Try.results22 _ _ (w.heap.size + 2) 25 _ (0, 0) _ rfl (RB3.out.row _) Try.underlying25 rfl dp_info
      exact ⟨.inl ⟨NO.out, rfl⟩, KZ.out⟩
    subst hy
    have FM := Lib.hid (fun W => refForMe_any hm i' t f 2054 l W)
    go_wp2_with fail
    refine (FM.out w3).mono ?_
    rintro e w4 ⟨rfl, b4⟩
    have B4 := Lib.hid (B3.out.trans (b4.mono B3.out.size))
    have HB4 := Lib.hid (HB3.out.older (older_below b4))
    have PB4 := Lib.hid (PB3.out.older (older_below b4))
    have RB4 := Lib.hid (RB3.out.older (older_below b4))
    have QB4 := Lib.hid (QB3.out.older (older_below b4))
    clear b4 FM B3 HB3 PB3 RB3 QB3 x0 x1 y0 y1 y2 y3 q0 q1 q2 q4
    cases hfm : fmR t hm with
    | false =>
      have NO := Lib.hid (show ansMay hm i' t 2054 l = false from by rw [AL.out, hfm]; rfl)
      clear hfm
      have KZ := Lib.hid (below_setRow B4.out z2.out dp0)
      go_wp2_with (first
        | (refine wpList_store_row rfl 25 (.tmp 4) (.tmp 41) rfl (w.heap.size + 2) dp0 rfl rfl 25 _ RB4.out dp_info rfl (by simp [Value.oneCell']) ?_)
        | fail)
      refine bodyPost_ret (v := .tuple #[.agg dp0, .bool false]) ?_ rfl ?_
      · exact results_cell_tmp Try.results22 _ _ (w.heap.size + 2) 25 _ (0, 0) _ rfl (RB4.out.row _) Try.underlying25 rfl dp_info
      exact ⟨.inl ⟨NO.out, rfl⟩, KZ.out⟩
    | true =>
      have MF := Lib.hid hfm
      clear hfm
      have ARB := Lib.hid (fun W => refMessage_any 2 hm i' m i hhm hhi (by have := LM.out; simp at this; omega) (by have := LI.out; simp at this; omega) W)
      have x0 := (HB4.out.cell 0).trans (show _ = some (.int .u64 (hm : Int)) from rfl)
      have x1 := (HB4.out.cell 1).trans (show _ = some (.int .u32 (i' : Int)) from rfl)
      have y0 := (PB4.out.cell 0).trans (show _ = some (.int .u64 (t : Int)) from rfl)
      have y1 := (PB4.out.cell 1).trans (show _ = some (.int .u64 (f : Int)) from rfl)
      have y2 := (PB4.out.cell 2).trans (show _ = some (.int .u16 2054) from rfl)
      have y3 := (PB4.out.cell 3).trans (show _ = some (.string ⟨l.toArray⟩) from rfl)
      have q1 := (QB4.out.cell 1).trans (show _ = some (.int .u64 (m : Int)) from rfl)
      have q2 := (QB4.out.cell 2).trans (show _ = some (.int .u32 (i : Int)) from rfl)
      go_wp2_with fail
      refine (ARB.out w4).mono ?_
      rintro e w5 ⟨T, b5⟩
      have B5 := Lib.hid (B4.out.trans (b5.mono B4.out.size))
      have HB5 := Lib.hid (HB4.out.older (older_below b5))
      have PB5 := Lib.hid (PB4.out.older (older_below b5))
      have RB5 := Lib.hid (RB4.out.older (older_below b5))
      clear b5 B4 HB4 PB4 RB4 QB4 ARB x0 x1 y0 y1 y2 y3 q1 q2
      have AM := Lib.hid (show arMay 2 hm m = decide (hm < 256 ^ 6) from by unfold arMay; rw [decide_eq_true LM.out]; simp)
      unfold STold at T
      rw [AM.out] at T
      by_cases h6 : hm < 256 ^ 6
      rotate_left
      · rw [decide_eq_false h6] at T
        obtain rfl := T
        have NO := Lib.hid (show ansMay hm i' t 2054 l = false from by rw [AL.out, decide_eq_false h6]; simp)
        clear h6
        have KZ := Lib.hid (below_setRow B5.out z2.out dp0)
        go_wp2_with (first
          | (refine wpList_store_row rfl 25 (.tmp 4) (.tmp 57) rfl (w.heap.size + 2) dp0 rfl rfl 25 _ RB5.out dp_info rfl (by simp [Value.oneCell']) ?_)
          | fail)
        refine bodyPost_ret (v := .tuple #[.agg dp0, .bool false]) ?_ rfl ?_
        · exact results_cell_tmp Try.results22 _ _ (w.heap.size + 2) 25 _ (0, 0) _ rfl (RB5.out.row _) Try.underlying25 rfl dp_info
        exact ⟨.inl ⟨NO.out, rfl⟩, KZ.out⟩
      · rw [decide_eq_true h6] at T
        obtain rfl := T
        have YES := Lib.hid (show ansMay hm i' t 2054 l = true from by rw [AL.out, MF.out, decide_eq_true h6]; simp)
        clear h6 AM
        have x0 := (HB5.out.cell 0).trans (show _ = some (.int .u64 (hm : Int)) from rfl)
        have x1 := (HB5.out.cell 1).trans (show _ = some (.int .u32 (i' : Int)) from rfl)
        have y0 := (PB5.out.cell 0).trans (show _ = some (.int .u64 (t : Int)) from rfl)
        have y1 := (PB5.out.cell 1).trans (show _ = some (.int .u64 (f : Int)) from rfl)
        have y2 := (PB5.out.cell 2).trans (show _ = some (.int .u16 2054) from rfl)
        have y3 := (PB5.out.cell 3).trans (show _ = some (.string ⟨l.toArray⟩) from rfl)
        have KZ := Lib.hid (below_setRow B5.out z2.out (dpV f hm 2054 (arL 2 hm i' m i)))
        go_wp2_with (first
          | (refine wpList_store_row rfl 25 (.tmp 4) (.tmp 63) rfl (w.heap.size + 2) (dpV f hm 2054 (arL 2 hm i' m i)) rfl rfl 25 _ RB5.out dp_info rfl (by simp [Value.oneCell']) ?_)
          | fail)
        refine bodyPost_ret (v := .tuple #[.agg (dpV f hm 2054 (arL 2 hm i' m i)), .bool true]) ?_ rfl ?_
        · exact results_cell_tmp Try.results22 _ _ (w.heap.size + 2) 25 _ (0, 0) _ rfl (RB5.out.row _) Try.underlying25 rfl dp_info
        exact ⟨.inr ⟨YES.out, by rw [AA.out]⟩, KZ.out⟩
end Go.Proofs.Ytahmdogpnojcpaa.Et
