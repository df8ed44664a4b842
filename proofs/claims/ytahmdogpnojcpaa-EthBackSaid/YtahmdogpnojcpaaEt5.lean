/- Package eth: ForMe, Answer. Conditions: those that each states. -/
import Derived.Test.YtahmdogpnojcpaaEt4
namespace Go.Proofs.Ytahmdogpnojcpaa.Et
open Go.ChangeShapes Go.WideShapes Go.ChangeAt Go.RowKit Go.Deep Rk Es
set_option linter.unusedVariables false
set_option linter.unusedSimpArgs false

/-- Whether a packet to t is for the host hm. -/
def fmR (t hm : Nat) : Bool := decide (t = hm) || decide (t = 281474976710655)
abbrev hoV (hm hi : Nat) : Array Value := #[.int .u64 (hm : Int), .int .u32 (hi : Int)]
set_option maxRecDepth 100000 in
theorem forMe_any (hm hi t f y : Nat) (A : Option Addr) (n c : Nat) (w : World) :
    Calls Try.prog 23 #[.agg (hoV hm hi), .agg (pkV t f y A n c)] w fun e w' => e = .returned (.bool (fmR t hm)) ∧ Below w.heap.size w w' := by
  have B0 := Lib.hid (((Below.refl w.heap.size w).alloc (Nat.le_refl _) (.cells (hoV hm hi) 57)).alloc (by simp) (.cells (pkV t f y A n c) 32))
  by_cases h1 : t = hm
  · subst h1
    have e : fmR t t = true := by simp [fmR]
    rw [e]
    go_enter Try.func23, Try.ntmps23
    go_wp2
    go_ret
    exact ⟨rfl, B0.out⟩
  · have h1' : ¬ (t : Int) = (hm : Int) := by omega
    by_cases h2 : t = 281474976710655
    · have e : fmR t hm = true := by simp [fmR, h2]
      rw [e]
      subst h2
      clear h1
      go_enter Try.func23, Try.ntmps23
      go_wp2
      go_ret
      exact ⟨by simp, B0.out⟩
    · have e : fmR t hm = false := by simp [fmR, h1, h2]
      rw [e]
      have h2' : ¬ (t : Int) = 281474976710655 := by omega
      have g1 : ((t : Int) == (hm : Int)) = false := by simpa using h1'
      have g2 : ((t : Int) == 281474976710655) = false := by simpa using h2'
      go_enter Try.func23, Try.ntmps23
      go_wp2
      go_ret
      exact ⟨by first | rfl | simp [g1, g2], B0.out⟩

/-- Whether a host answers. -/
def ansMay (hm hi t y : Nat) (l : List UInt8) : Bool := fmR t hm && (decide (y = 2054) && (arOk l && (decide (arOp l = 1) && (decide (at2 l 24 4 = hi) && decide (hm < 256 ^ 6)))))
def ansL (hm hi : Nat) (l : List UInt8) : List UInt8 := arL 2 hm hi (at2 l 8 6) (at2 l 14 4)
def AnsTold (w w' : World) (e : Ending) (hm hi t f y : Nat) (l : List UInt8) : Prop :=
  (ansMay hm hi t y l = false ∧ e = .returned (.tuple #[.agg pk0, .bool false])) ∨
  (ansMay hm hi t y l = true ∧ ∃ g c, e = .returned (.tuple #[.agg (pkV f hm 2054 (some ⟨g, 0, none⟩) 28 c), .bool true]) ∧ Src w' (some ⟨g, 0, none⟩) 28 c (ansL hm hi l))

set_option maxRecDepth 100000 in
set_option maxHeartbeats 4000000 in
theorem answer_any (hm hi t f y : Nat) (hhm : hm ≤ 18446744073709551615) (hhi : hi ≤ 4294967295) (A : Option Addr) (n c : Nat) (l : List UInt8) (w : World) (hs : Src w A n c l) (hn : n ≤ 1000000) :
    Calls Try.prog 21 #[.agg (hoV hm hi), .agg (pkV t f y A n c)] w fun e w' => AnsTold w w' e hm hi t f y l ∧ Below w.heap.size w w' := by
  obtain ⟨W, hW⟩ : ∃ W, ((w.alloc (.cells (hoV hm hi) 57)).alloc (.cells (pkV t f y A n c) 32)).alloc (.cells pk0 32) = W := ⟨_, rfl⟩
  have b0 : Below w.heap.size w W := by rw [← hW]; exact (((Below.refl w.heap.size w).alloc (Nat.le_refl _) _).alloc (by simp) _).alloc (by simp; omega) _
  have B0 := Lib.hid b0
  have HB0 := Lib.hid (show Blk W w.heap.size 57 (hoV hm hi) from by rw [← hW]; exact ((Blk.new w _ _).alloc _).alloc _)
  have PB0 := Lib.hid (show Blk W (w.heap.size + 1) 32 (pkV t f y A n c) from by rw [← hW]; have := (Blk.new (w.alloc (.cells (hoV hm hi) 57)) 32 (pkV t f y A n c)).alloc (.cells pk0 32); simpa using this)
  have RB0 := Lib.hid (show Blk W (w.heap.size + 2) 32 pk0 from by rw [← hW]; have := Blk.new ((w.alloc (.cells (hoV hm hi) 57)).alloc (.cells (pkV t f y A n c) 32)) 32 pk0; simpa using this)
  have S0 := Lib.hid (hs.below b0)
  have z2 := Lib.hid (show w.heap.size ≤ w.heap.size + 2 from by omega)
  have HW := Lib.hid hW
  clear b0 hW hs
  have FM := Lib.hid (fun W => forMe_any hm hi t f y A n c W)
  have x0 := (HB0.out.cell 0).trans (show _ = some (.int .u64 (hm : Int)) from rfl)
  have x1 := (HB0.out.cell 1).trans (show _ = some (.int .u32 (hi : Int)) from rfl)
  have y0 := (PB0.out.cell 0).trans (show _ = some (.int .u64 (t : Int)) from rfl)
  have y1 := (PB0.out.cell 1).trans (show _ = some (.int .u64 (f : Int)) from rfl)
  have y2 := (PB0.out.cell 2).trans (show _ = some (.int .u16 (y : Int)) from rfl)
  have y3 := (PB0.out.cell 3).trans (show _ = some (.slice A n c) from rfl)
  go_enter Try.func21, Try.ntmps21
  go_upto_region 1 with fail
  rw [HW.out]
  clear HW
  go_wp2_with fail
  refine (FM.out W).mono ?_
  rintro e w1 ⟨rfl, b1⟩
  have B1 := Lib.hid (B0.out.trans (b1.mono B0.out.size))
  have HB1 := Lib.hid (HB0.out.older (older_below b1))
  have PB1 := Lib.hid (PB0.out.older (older_below b1))
  have RB1 := Lib.hid (RB0.out.older (older_below b1))
  have S1 := Lib.hid (S0.out.below b1)
  clear b1 FM B0 HB0 PB0 RB0 S0 x0 x1 y0 y1 y2 y3
  have x0 := (HB1.out.cell 0).trans (show _ = some (.int .u64 (hm : Int)) from rfl)
  have x1 := (HB1.out.cell 1).trans (show _ = some (.int .u32 (hi : Int)) from rfl)
  have y0 := (PB1.out.cell 0).trans (show _ = some (.int .u64 (t : Int)) from rfl)
  have y1 := (PB1.out.cell 1).trans (show _ = some (.int .u64 (f : Int)) from rfl)
  have y2 := (PB1.out.cell 2).trans (show _ = some (.int .u16 (y : Int)) from rfl)
  have y3 := (PB1.out.cell 3).trans (show _ = some (.slice A n c) from rfl)
  cases hfm : fmR t hm with
  | false =>
    have NO := Lib.hid (show ansMay hm hi t y l = false from by simp [ansMay, hfm])
    clear hfm
    have KZ := Lib.hid (below_setRow B1.out z2.out pk0)
    go_wp2_with (first
      | (refine wpList_store_row rfl 32 (.tmp 4) (.tmp 19) rfl (w.heap.size + 2) pk0 rfl rfl 32 _ RB1.out pk_info rfl (by simp [Value.oneCell']) ?_)
      | fail)
    refine bodyPost_ret (v := .tuple #[.agg pk0, .bool false]) ?_ rfl ?_
    · exact results_cell_tmp Try.results21 _ _ (w.heap.size + 2) 32 _ (0, 0) _ rfl (RB1.out.row _) Try.underlying32 rfl pk_info
    exact ⟨.inl ⟨NO.out, rfl⟩, KZ.out⟩
  | true =>
    by_cases hy : y = 2054
    rotate_left
    · have NO := Lib.hid (show ansMay hm hi t y l = false from by simp [ansMay, hy])
      have hne : ((y : Int) != 2054) = true := by simp; omega
      clear hfm hy
      have KZ := Lib.hid (below_setRow B1.out z2.out pk0)
      go_wp2_with (first
        | (refine wpList_store_row rfl 32 (.tmp 4) (.tmp 19) rfl (w.heap.size + 2) pk0 rfl rfl 32 _ RB1.out pk_info rfl (by simp [Value.oneCell']) ?_)
        | fail)
      refine bodyPost_ret (v := .tuple #[.agg pk0, .bool false]) ?_ rfl ?_
      · exact results_cell_tmp Try.results21 _ _ (w.heap.size + 2) 32 _ (0, 0) _ rfl (RB1.out.row _) Try.underlying32 rfl pk_info
      exact ⟨.inl ⟨NO.out, rfl⟩, KZ.out⟩
    · subst hy
      have PR := Lib.hid (fun W (h : Src W A n c l) => parseARP_any A n c l W h hn)
      have MF := Lib.hid hfm
      clear hfm
      go_wp2_with fail
      refine (PR.out w1 S1.out).mono ?_
      rintro e w2 ⟨T, b2⟩
      have B2 := Lib.hid (B1.out.trans (b2.mono B1.out.size))
      have HB2 := Lib.hid (HB1.out.older (older_below b2))
      have PB2 := Lib.hid (PB1.out.older (older_below b2))
      have RB2 := Lib.hid (RB1.out.older (older_below b2))
      clear b2 PR B1 HB1 PB1 RB1 S1 x0 x1 y0 y1 y2 y3
      rcases T with ⟨hno, rfl⟩ | ⟨hok, rfl⟩
      · have NO := Lib.hid (show ansMay hm hi t 2054 l = false from by simp [ansMay, hno])
        clear hno
        have b3 : Below w2.heap.size w2 (w2.alloc (.cells ar0 45)) := (Below.refl _ w2).alloc (Nat.le_refl _) _
        have B3 := Lib.hid (B2.out.trans (b3.mono B2.out.size))
        have RB3 := Lib.hid (RB2.out.older (older_below b3))
        clear b3
        have KZ := Lib.hid (below_setRow B3.out z2.out pk0)
        go_wp2_with (first
          | (refine wpList_store_row rfl 32 (.tmp 4) (.tmp 40) rfl (w.heap.size + 2) pk0 rfl rfl 32 _ RB3.out pk_info rfl (by simp [Value.oneCell']) ?_)
          | fail)
        refine bodyPost_ret (v := .tuple #[.agg pk0, .bool false]) ?_ rfl ?_
        · exact results_cell_tmp Try.results21 _ _ (w.heap.size + 2) 32 _ (0, 0) _ rfl (RB3.out.row _) Try.underlying32 rfl pk_info
        exact ⟨.inl ⟨NO.out, rfl⟩, KZ.out⟩
      · have OK := Lib.hid hok
        clear hok
        have AL := Lib.hid (show ansMay hm hi t 2054 l = (decide (arOp l = 1) && (decide (at2 l 24 4 = hi) && decide (hm < 256 ^ 6))) from by unfold ansMay; rw [MF.out, OK.out]; rfl)
        have LM := Lib.hid (show at2 l 8 6 < 256 ^ 6 from at2_lt l 8 6)
        have LI := Lib.hid (show at2 l 14 4 < 256 ^ 4 from at2_lt l 14 4)
        have AA := Lib.hid (show ansL hm hi l = arL 2 hm hi (at2 l 8 6) (at2 l 14 4) from rfl)
        generalize arOp l = o at *
        generalize at2 l 24 4 = i' at *
        generalize at2 l 8 6 = m at *
        generalize at2 l 14 4 = i at *
        generalize at2 l 18 6 = m' at *
        have b3 : Below w2.heap.size w2 (w2.alloc (.cells (arV o m i m' i') 45)) := (Below.refl _ w2).alloc (Nat.le_refl _) _
        have B3 := Lib.hid (B2.out.trans (b3.mono B2.out.size))
        have HB3 := Lib.hid (HB2.out.older (older_below b3))
        have PB3 := Lib.hid (PB2.out.older (older_below b3))
        have RB3 := Lib.hid (RB2.out.older (older_below b3))
        have QB3 := Lib.hid (Blk.new w2 45 (arV o m i m' i'))
        clear b3 B2 HB2 PB2 RB2
        go_upto_region 4 with fail
        generalize w2.alloc (.cells (arV o m i m' i') 45) = w3 at *
        have x0 := (HB3.out.cell 0).trans (show _ = some (.int .u64 (hm : Int)) from rfl)
        have x1 := (HB3.out.cell 1).trans (show _ = some (.int .u32 (hi : Int)) from rfl)
        have y0 := (PB3.out.cell 0).trans (show _ = some (.int .u64 (t : Int)) from rfl)
        have y1 := (PB3.out.cell 1).trans (show _ = some (.int .u64 (f : Int)) from rfl)
        have y2 := (PB3.out.cell 2).trans (show _ = some (.int .u16 2054) from rfl)
        have y3 := (PB3.out.cell 3).trans (show _ = some (.slice A n c) from rfl)
        have q0 := (QB3.out.cell 0).trans (show _ = some (.int .i64 o) from rfl)
        have q1 := (QB3.out.cell 1).trans (show _ = some (.int .u64 (m : Int)) from rfl)
        have q2 := (QB3.out.cell 2).trans (show _ = some (.int .u32 (i : Int)) from rfl)
        have q4 := (QB3.out.cell 4).trans (show _ = some (.int .u32 (i' : Int)) from rfl)
        by_cases ho : o = 1
        rotate_left
        · have NO := Lib.hid (show ansMay hm hi t 2054 l = false from by rw [AL.out]; simp [ho])
          have hne : (o != 1) = true := by simpa using ho
          clear ho
          have KZ := Lib.hid (below_setRow B3.out z2.out pk0)
          go_wp2_with (first
            | (refine wpList_store_row rfl 32 (.tmp 4) (.tmp 40) rfl (w.heap.size + 2) pk0 rfl rfl 32 _ RB3.out pk_info rfl (by simp [Value.oneCell']) ?_)
            | fail)
          refine bodyPost_ret (v := .tuple #[.agg pk0, .bool false]) ?_ rfl ?_
          · exact results_cell_tmp Try.results21 _ _ (w.heap.size + 2) 32 _ (0, 0) _ rfl (RB3.out.row _) Try.underlying32 rfl pk_info
          exact ⟨.inl ⟨NO.out, rfl⟩, KZ.out⟩
        · subst ho
          by_cases hi2 : i' = hi
          rotate_left
          · have NO := Lib.hid (show ansMay hm hi t 2054 l = false from by rw [AL.out]; simp [hi2])
            have hne : ((i' : Int) != (hi : Int)) = true := by simp; omega
            clear hi2
            have KZ := Lib.hid (below_setRow B3.out z2.out pk0)
            go_wp2_with (first
              | (refine wpList_store_row rfl 32 (.tmp 4) (.tmp 40) rfl (w.heap.size + 2) pk0 rfl rfl 32 _ RB3.out pk_info rfl (by simp [Value.oneCell']) ?_)
              | fail)
            refine bodyPost_ret (v := .tuple #[.agg pk0, .bool false]) ?_ rfl ?_
            · exact results_cell_tmp Try.results21 _ _ (w.heap.size + 2) 32 _ (0, 0) _ rfl (RB3.out.row _) Try.underlying32 rfl pk_info
            exact ⟨.inl ⟨NO.out, rfl⟩, KZ.out⟩
          · subst hi2
            have ARB := Lib.hid (fun W => arBytes_any 2 hm i' m i hhm hhi (by have := LM.out; simp at this; omega) (by have := LI.out; simp at this; omega) W)
            have b4 : Below w3.heap.size w3 (w3.alloc (.cells (arV 2 hm i' m i) 45)) := (Below.refl _ w3).alloc (Nat.le_refl _) _
            have B4 := Lib.hid (B3.out.trans (b4.mono B3.out.size))
            have HB4 := Lib.hid (HB3.out.older (older_below b4))
            have PB4 := Lib.hid (PB3.out.older (older_below b4))
            have RB4 := Lib.hid (RB3.out.older (older_below b4))
            have DB4 := Lib.hid (Blk.new w3 45 (arV 2 hm i' m i))
            clear b4 B3 HB3 PB3 RB3
            go_upto_region 7 with fail
            generalize w3.alloc (.cells (arV 2 hm i' m i) 45) = w4 at *
            clear x0 x1 y0 y1 y2 y3 q0 q1 q2 q4
            go_wp2_with (first | (refine wpList_load_row rfl 45 (.tmp 8) rfl w3.heap.size rfl 45 _ (0, 0) _ DB4.out Try.underlying45 rfl ar_info ?_) | fail)
            refine (ARB.out w4).mono ?_
            rintro e w5 ⟨T, b5⟩
            have B5 := Lib.hid (B4.out.trans (b5.mono B4.out.size))
            have HB5 := Lib.hid (HB4.out.older (older_below b5))
            have PB5 := Lib.hid (PB4.out.older (older_below b5))
            have RB5 := Lib.hid (RB4.out.older (older_below b5))
            have Z4 := Lib.hid B4.out.size
            have RL := Lib.hid (RB4.out.lt)
            clear b5 B4 HB4 PB4 RB4 DB4 ARB
            have AM := Lib.hid (show arMay 2 hm m = decide (hm < 256 ^ 6) from by unfold arMay; rw [decide_eq_true LM.out]; simp)
            rcases T with ⟨h, rfl⟩ | ⟨h, g, c', rfl, O⟩
            · rw [AM.out] at h
              have NO := Lib.hid (show ansMay hm i' t 2054 l = false from by rw [AL.out, h]; simp)
              clear h
              have KZ := Lib.hid (below_setRow B5.out z2.out pk0)
              go_wp2_with (first
                | (refine wpList_store_row rfl 32 (.tmp 4) (.tmp 57) rfl (w.heap.size + 2) pk0 rfl rfl 32 _ RB5.out pk_info rfl (by simp [Value.oneCell']) ?_)
                | fail)
              refine bodyPost_ret (v := .tuple #[.agg pk0, .bool false]) ?_ rfl ?_
              · exact results_cell_tmp Try.results21 _ _ (w.heap.size + 2) 32 _ (0, 0) _ rfl (RB5.out.row _) Try.underlying32 rfl pk_info
              exact ⟨.inl ⟨NO.out, rfl⟩, KZ.out⟩
            · rw [AM.out] at h
              have YES := Lib.hid (show ansMay hm i' t 2054 l = true from by rw [AL.out, h]; simp)
              rw [arL_length] at O ⊢
              have O := Lib.hid (ownB_mono O Z4.out)
              have GN := Lib.hid (show ¬ g = w.heap.size + 2 from by have := RB5.out; intro e; subst e; have h1 := O.out.src; exact src_apart h1 this (by simp) (by rw [arL_length]; omega) _ _ rfl rfl)
              clear h AM
              have x0 := (HB5.out.cell 0).trans (show _ = some (.int .u64 (hm : Int)) from rfl)
              have x1 := (HB5.out.cell 1).trans (show _ = some (.int .u32 (i' : Int)) from rfl)
              have y0 := (PB5.out.cell 0).trans (show _ = some (.int .u64 (t : Int)) from rfl)
              have y1 := (PB5.out.cell 1).trans (show _ = some (.int .u64 (f : Int)) from rfl)
              have y2 := (PB5.out.cell 2).trans (show _ = some (.int .u16 2054) from rfl)
              have y3 := (PB5.out.cell 3).trans (show _ = some (.slice A n c) from rfl)
              have KZ := Lib.hid (below_setRow B5.out z2.out (pkV f hm 2054 (some ⟨g, 0, none⟩) 28 c'))
              go_wp2_with (first
                | (refine wpList_store_row rfl 32 (.tmp 4) (.tmp 63) rfl (w.heap.size + 2) (pkV f hm 2054 (some ⟨g, 0, none⟩) 28 c') rfl rfl 32 _ RB5.out pk_info rfl (by simp [Value.oneCell']) ?_)
                | fail)
              refine bodyPost_ret (v := .tuple #[.agg (pkV f hm 2054 (some ⟨g, 0, none⟩) 28 c'), .bool true]) ?_ rfl ?_
              · exact results_cell_tmp Try.results21 _ _ (w.heap.size + 2) 32 _ (0, 0) _ rfl (RB5.out.row _) Try.underlying32 rfl pk_info
              refine ⟨.inr ⟨YES.out, g, c', rfl, ?_⟩, KZ.out⟩
              rw [AA.out]
              exact src_chg O.out.src (Chg.setRow _ _ (g := w.heap.size + 2) (S := fun b => b = w.heap.size + 2) rfl) (fun _ b o e => by cases e; exact GN.out)
end Go.Proofs.Ytahmdogpnojcpaa.Et
