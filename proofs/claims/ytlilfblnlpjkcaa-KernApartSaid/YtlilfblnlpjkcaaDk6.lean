/- Package disk: settle, Sync, Revive. Conditions: those that each states. -/
import Derived.Test.YtlilfblnlpjkcaaDk5
namespace Go.Proofs.Ytlilfblnlpjkcaa.Di
open Go.ChangeShapes Go.WideShapes Go.ChangeAt Go.RowKit Go.Deep
set_option linter.unusedVariables false

theorem wpStill_load {P : Program} {ops : Array Oper} {w : World} {Q : Act → Prop} {a : Act} {o : Oper} {rest : List Oper} {t : TypeId} {x : Operand} (ho : o.op = .load t x) {v y : Value} (hx : a.eval x = y) (h : (Instr.loadAt t y).run P w = .ok v w) (hw : Region.wanted o (yielded ops a.tmps) = true)
    (hk : wpStill P ops w Q rest (a.put o.dst v)) : wpStill P ops w Q (o :: rest) a := by
  refine wpStill_step (fun K hK => ?_)
  rw [if_pos hw]
  unfold Oper.still execOp
  simp only [ho, hx, Sem.run_bind, h, Result.andThen_ok, Sem.run_pure, Oper.stillUpon_value]
  exact hK _ hk
theorem wpList_alloc_is {P : Program} {ops : Array Oper} {rest : List Oper} {o : Oper} {a : Act} {w : World} {Q : Exit → Act → World → Prop} (hgd : o.guard = none) (t : TypeId) (ho : o.op = .alloc t) (i : TypeInfo) (z : Value) (hi : P.info? t = some i) (hz : i.zero = some z)
    (h : wpList P ops Q rest (a.put o.dst (.pointer (some ⟨w.heap.size, 0, none⟩))) (w.alloc (.cells z.cells t))) : wpList P ops Q (o :: rest) a w := by
  refine wpList_plain hgd fun K hK => ?_
  have hrun : (Instr.alloc t true (.tuple #[])).run P w = .ok (.pointer (some ⟨w.heap.size, 0, none⟩)) (w.alloc (.cells z.cells t)) := by
    simp [Instr.alloc, zeroValue, typeInfo, hi, hz, newVar, newRow]
  unfold Oper.wp execOp
  simp only [ho, Sem.run_bind, hrun, Result.andThen_ok, Sem.run_pure]
  exact hK _ _ h

theorem run_cutline (Al : Option Addr) (cl n k : Nat) (h0 : Al = none ∨ ∃ l, Al = some ⟨l, 0, none⟩) (hk : k ≤ n) (hn : n ≤ cl) (W : World) :
    (Instr.slice 111 (.slice Al n cl) none (some (.int .i64 (k : Int))) none).run Try.prog W = .ok (.slice Al k cl) W := by
  have ht : Try.prog.underlying 111 = some (.slice (Try.prog.elem 111)) := by kernel_rfl
  have he : (Try.prog.info? (Try.prog.elem 111)).map (·.size) = some 257 := by kernel_rfl
  obtain ⟨i, hi, hs⟩ := Option.map_eq_some_iff.1 he
  rw [run_slice_h W 111 Al n cl ht .i64 (k : Int) (by omega) (by omega)]
  have hz : (sizeOf (Try.prog.elem 111)).run Try.prog W = .ok i.size W := by simp [sizeOf, typeInfo, hi]
  rw [hz]
  simp only [Result.andThen_ok, sliced]
  rcases h0 with rfl | ⟨l, rfl⟩
  · simp
  · have ea : (⟨l, 0, none⟩ : Addr).add 0 = ⟨l, 0, none⟩ := by unfold Addr.add; split <;> simp_all
    simp [ea]

def part (d : Dk) (j : Nat) : Dk := { d with blocks := put d.blocks (d.line.take j) }
section
variable {gb g cl ce q cap : Nat} {Al Ae : Option Addr} {d : Dk} {w w1 w2 : World} {F : Nat → Prop}
theorem part_ok (h : d.Ok) (j : Nat) : (part d j).Ok := by
  have o := h.settle j
  exact ⟨o.n1, o.n2, o.bl, o.ow, o.ex, o.mt, fun q hq => by
    have h1 := h.li q hq
    refine ⟨?_, h1.2⟩
    show q.block < (put _ _).length
    rw [put_len]; exact h1.1, o.ar⟩
theorem part_succ {j : Nat} (hj : j < d.line.length) : part d (j + 1) = { part d j with blocks := (part d j).blocks.set d.line[j].block d.line[j].text } := by
  unfold part
  congr 1
  rw [List.take_succ_eq_append_getElem hj, put_append]
  rfl
/-- One write becomes durable. -/
theorem settle_step (h : DskAt w gb g Al cl Ae ce d) {b : Nat} {t : List UInt8} (hb : b < d.blocks.length) (ht : t.length = 256) :
    DskAt (w.setRow gb ((blocksC d.blocks).toArray.toList.take (b * 256) ++ (bys t).toArray.toList ++ (blocksC d.blocks).toArray.toList.drop (b * 256 + (bys t).toArray.size)).toArray) gb g Al cl Ae ce { d with blocks := d.blocks.set b t } ∧
    Chg w (w.setRow gb ((blocksC d.blocks).toArray.toList.take (b * 256) ++ (bys t).toArray.toList ++ (blocksC d.blocks).toArray.toList.drop (b * 256 + (bys t).toArray.size)).toArray) (fun k => k = gb) := by
  have k : Chg w (w.setRow gb ((blocksC d.blocks).toArray.toList.take (b * 256) ++ (bys t).toArray.toList ++ (blocksC d.blocks).toArray.toList.drop (b * 256 + (bys t).toArray.size)).toArray) (fun k => k = gb) := Chg.setRow _ _ rfl
  refine ⟨⟨?_, ?_, h.line.chg k (fun b hb e => h.lb (by have e' : b = gb := e; rw [← e']; exact hb)), h.exts.chg k (fun b hb e => h.eb (by have e' : b = gb := e; rw [← e']; exact hb)), h.ne, h.lb, h.lg, h.eb, h.eg, h.le, ?_⟩, k⟩
  · have := h.head.chg k (fun e => h.ne (by have e' : g = gb := e; exact e'.symm))
    simp only [List.length_set]
    exact this
  · have hrow := h.tab.row ((blocksC d.blocks).toArray.toList.take (b * 256) ++ (bys t).toArray.toList ++ (blocksC d.blocks).toArray.toList.drop (b * 256 + (bys t).toArray.size)).toArray
    have e : (blocksC d.blocks).toArray.toList.take (b * 256) ++ (bys t).toArray.toList ++ (blocksC d.blocks).toArray.toList.drop (b * 256 + (bys t).toArray.size) = blocksC (d.blocks.set b t) := by
      have hl : (bys t).length = 256 := by rw [bys_length]; exact ht
      rw [List.size_toArray, hl]
      unfold blocksC
      rw [List.map_set, flat_set (blocks_rows h.ok) (by simpa using hb)]
    rw [e] at hrow ⊢
    exact hrow
  · have o := h.ok
    exact ⟨by simpa using o.n1, by simpa using o.n2, fun u hu => by
      rcases List.mem_or_eq_of_mem_set hu with h1 | rfl
      · exact o.bl u h1
      · exact ht, by simpa using o.ow, fun x hx => by simpa using o.ex x hx, fun b' hb' => o.mt b' (by simpa using hb'), fun x hx => by simpa using o.li x hx, o.ar⟩
/-- The line is forgotten. -/
theorem settle_end (h : DskAt w gb g Al cl Ae ce d) : DskAt (w.setCell ⟨g, 1, none⟩ (.slice none 0 0)) gb g none 0 Ae ce { d with line := [] } ∧ Chg w (w.setCell ⟨g, 1, none⟩ (.slice none 0 0)) (fun k => k = g) := by
  have k : Chg w (w.setCell ⟨g, 1, none⟩ (.slice none 0 0)) (fun k => k = g) := Chg.set _ _ _ rfl
  refine ⟨⟨?_, h.tab.chg k h.ne, RowW.nil _ _ _, h.exts.chg k (fun b hb e => h.eg (by have e' : b = g := e; rw [← e']; exact hb)), h.ne, inB_none _, inB_none _, h.eb, h.eg, fun b hb => (inB_none _ hb).elim, ⟨h.ok.n1, h.ok.n2, h.ok.bl, h.ok.ow, h.ok.ex, h.ok.mt, fun q hq => (by cases hq), h.ok.ar⟩⟩, k⟩
  have := h.head.put 1 (.slice none 0 0)
  simp at this
  exact this
theorem line_form (h : DskAt w gb g Al cl Ae ce d) : Al = none ∨ ∃ l, Al = some ⟨l, 0, none⟩ := by
  rcases h.line.own.2 with ⟨e, _⟩ | ⟨g', cap', cur, e, _⟩
  · injection e with e1; exact .inl e1
  · injection e with e1; exact .inr ⟨g', e1⟩

set_option maxRecDepth 100000 in
set_option maxHeartbeats 2000000 in
theorem settle_any (h : DskAt w gb g Al cl Ae ce d) (n : Nat) (hn : n ≤ d.line.length) :
    Calls Try.prog 57 #[.pointer (some ⟨g, 0, none⟩), .int .i64 (n : Int)] w fun e w' => e = .returned (.tuple #[]) ∧ DskAt w' gb g none 0 Ae ce (settleR d n) ∧ Chg w w' (foot gb g Al Ae) := by
  have hsl := fun W => run_cutline Al cl d.line.length n (line_form h) hn h.line.capMax.1 W
  have c1 := (heads h).2.1
  have n2 := h.ok.n2
  have hL : d.line.length ≤ 9223372036854775807 := by have := h.line.capMax; unfold maxLen at this; omega
  have H0 := Lib.hid (show DskAt w gb g Al cl Ae ce (part d 0) from h)
  have OK := Lib.hid h.ok
  obtain ⟨iw, zw, hi, hz, hzc, hs2, hby⟩ := wr_infos
  have INF := Lib.hid (And.intro hi (And.intro hz (And.intro hzc (And.intro hs2 hby))))
  clear h hi hz hzc hs2 hby
  go_enter Try.func57, Try.ntmps57
  go_wp2
  go_loopw [13] (fun i wr => ∃ (j : Nat), j ≤ n ∧ i = .int .i64 (j : Int) ∧ DskAt wr gb g Al cl Ae ce (part d j) ∧ Chg w wr (foot gb g Al Ae)) (fun i _ => n - (intOf i).toNat)
  case atStart => exact ⟨0, Nat.zero_le _, rfl, H0.out, Chg.refl _ _⟩
  case round =>
    obtain ⟨j, hj, rfl, hD, hC⟩ := hrel
    by_cases hlt : j < n
    · have hjl : j < d.line.length := by omega
      have j1 : (j : Int) < (n : Int) := by omega
      have j0 : (0 : Int) ≤ (j : Int) := by omega
      have xj := IntWalk.i64_in ((j : Int) + 1) (by omega)
      obtain ⟨l, rfl, hl, _, _, hr⟩ := hD.wr (i := j) hjl
      have hq := (part_ok OK.out j).li d.line[j] (List.getElem_mem hjl)
      have hr' : wr.rangeAt l (j * 257) (d.line[j]).cells := hr
      have hlen : (d.line[j]).cells.length = 257 := by simp [Wr.cells, bys_length, hq.2]
      have LD := Lib.hid hr'
      have HLEN := Lib.hid hlen
      have SZ := Lib.hid (show (Try.prog.info? 127).map (·.size) = some (d.line[j]).cells.length by rw [HLEN.out, INF.out.1]; exact congrArg some INF.out.2.2.2.1)
      have hone : (d.line[j]).cells.toArray.all (·.oneCell') = true := by
        rw [Array.all_eq_true_iff_forall_mem]
        intro u hu
        have hu' : u ∈ (d.line[j]).cells := by simpa using hu
        rcases List.mem_cons.1 hu' with rfl | hu'
        · rfl
        · exact bys_one hu'
      have ONE := Lib.hid hone
      have HD := Lib.hid hD
      have HC := Lib.hid hC
      -- the write's own block
      obtain ⟨wS, hwS⟩ : ∃ wS, (wr.alloc (.cells zw.cells 127)).setRow wr.heap.size (zw.cells.toList.take 0 ++ (d.line[j]).cells.toArray.toList ++ zw.cells.toList.drop (0 + (d.line[j]).cells.toArray.size)).toArray = wS := ⟨_, rfl⟩
      have EQ := Lib.hid hwS
      have hB : Below wr.heap.size wr wS := by
        rw [← hwS]
        exact ((Below.refl wr.heap.size wr).alloc (Nat.le_refl _) _).trans ((Chg.setRow (S := fun k => k = wr.heap.size) _ _ rfl).below (by simp) (fun k hk => by have hk' : k = wr.heap.size := hk; omega))
      have hS : Blk wS wr.heap.size 127 (d.line[j]).cells.toArray := by
        have := (Blk.new wr 127 zw.cells).row (zw.cells.toList.take 0 ++ (d.line[j]).cells.toArray.toList ++ zw.cells.toList.drop (0 + (d.line[j]).cells.toArray.size)).toArray
        rw [hwS] at this
        have e : zw.cells.toList.take 0 ++ (d.line[j]).cells.toArray.toList ++ zw.cells.toList.drop (0 + (d.line[j]).cells.toArray.size) = (d.line[j]).cells := by
          rw [List.take_zero, List.nil_append, List.drop_eq_nil_of_le (by rw [Array.length_toList, INF.out.2.2.1, List.size_toArray, HLEN.out]; omega), List.append_nil]
        rw [e] at this
        exact this
      have qc : wS.cell? ⟨wr.heap.size, 0, none⟩ = some (.int .i64 (d.line[j].block : Int)) := by rw [hS.cell]; rfl
      have hqr : wS.rangeAt wr.heap.size 1 (bys d.line[j].text) := fun i v hv => by
        rw [hS.cell, List.getElem?_toArray, Nat.add_comm 1 i]
        exact hv
      have hDS := HD.out.new hB
      have gc := (heads hDS).1
      have e1 : (part d j).blocks.length = d.blocks.length := put_len _ _
      rw [e1] at gc
      have hbl : (bys d.line[j].text).length = 256 := by rw [bys_length]; exact hq.2
      have LP := run_loadAt_mid (P := Try.prog) wS.drew wr.heap.size 1 125 (bys d.line[j].text) _ (show wS.drew.rangeAt wr.heap.size 1 (bys d.line[j].text) from hqr) Try.underlying125 rfl (page_size.trans (congrArg some hbl.symm))
      have TAB := Lib.hid (show Blk wS.drew gb 125 (blocksC (part d j).blocks).toArray from hDS.tab)
      have PSZ := Lib.hid (show (Try.prog.info? 125).map (·.size) = some (bys d.line[j].text).toArray.size by rw [List.size_toArray, hbl]; exact page_size)
      have POLD := Lib.hid (show d.line[j].block * 256 + (bys d.line[j].text).toArray.size ≤ (blocksC (part d j).blocks).toArray.size by
        rw [List.size_toArray, List.size_toArray, hbl, blocks_len hDS.ok]
        have := hq.1
        omega)
      have PONE := Lib.hid (show (bys d.line[j].text).toArray.all (·.oneCell') = true by
        rw [Array.all_eq_true_iff_forall_mem]
        intro u hu
        exact bys_one (by simpa using hu))
      have hst := settle_step (w := wS.drew) (hDS.drewN 1) hq.1 hq.2
      rw [← part_succ hjl] at hst
      have ST := Lib.hid hst
      have HC2 := Lib.hid (HC.out.trans (Chg.of_new hB _))
      have hqb : d.line[j].block < d.blocks.length := by have := hq.1; rw [e1] at this; exact this
      have q0 : (0 : Int) ≤ (d.line[j].block : Int) := by omega
      have q1 : (d.line[j].block : Int) < (d.blocks.length : Int) := by omega
      have ZS := Lib.hid (show 0 + (d.line[j]).cells.toArray.size ≤ zw.cells.size by rw [INF.out.2.2.1, List.size_toArray, HLEN.out]; omega)
      have SZ2 := Lib.hid (show (Try.prog.info? 127).map (·.size) = some (d.line[j]).cells.toArray.size by rw [List.size_toArray]; exact SZ.out)
      clear hr hr' hlen hone hD hC hwS hB hS hqr hDS hq hst hqb hbl e1
      generalize (d.line[j]).cells = C at *
      generalize (bys d.line[j].text) = Z at *
      generalize (d.line[j]).block = bk at *
      go_wp2_with (first
        | (refine wpList_load_mid rfl 127 (.tmp 15) rfl l (j * 257) rfl C _ LD.out Try.underlying127 rfl SZ.out ?_)
        | (refine wpList_alloc_is rfl 127 rfl iw zw INF.out.1 INF.out.2.1 ?_)
        | (refine wpList_store_at rfl 127 (.tmp 5) (.tmp 16) rfl wr.heap.size 0 C.toArray rfl rfl 127 zw.cells (Blk.new _ _ _) SZ2.out ZS.out ONE.out ?_; rw [EQ.out])
        | fail)
      refine wp_region_still_tail 9 (by kernel_rfl) (by kernel_rfl) ?_
      change wpStill _ _ wS.drew (fun a' => wpList _ _ _ _ a' wS.drew) _ _
      simp only [List.take_succ_cons, List.take_zero, List.drop_succ_cons, List.drop_zero]
      still_step
      still_step
      still_step
      still_step
      still_step
      still_step
      still_step
      refine wpStill_load (y := .pointer (some ⟨wr.heap.size, 1, none⟩)) rfl rfl LP (by rfl) ?_
      repeat still_step
      refine wpStill_nil ?_
      go_wp2_with (refine wpList_store_at rfl 125 (.tmp 25) (.tmp 24) rfl gb (bk * 256) Z.toArray rfl rfl 125 _ TAB.out PSZ.out POLD.out PONE.out ?_)
      go_roundw
      case rel =>
        have st := ST.out
        simp only [List.append_assoc, List.size_toArray] at st
        exact ⟨j + 1, by omega, by simp, st.1, HC2.out.drew.trans (st.2.weak (fun i hi => Or.inl hi))⟩
      case measure => simp [intOf]; omega
    · have hge : ¬ (j : Int) < (n : Int) := by omega
      obtain rfl : j = n := by omega
      have c1' := (heads hD).2.1
      have f1 := hD.head.frozen 1
      obtain ⟨d2, k2⟩ := settle_end hD
      have FIN := Lib.hid (And.intro d2 (hC.trans (k2.weak (fun i hi => .inr (.inl hi)))))
      clear hD hC d2 k2
      go_wp2
      go_end0
      exact ⟨rfl, FIN.out⟩

theorem foot_none {i : Nat} (h : foot gb g none Ae i) (A : Option Addr) : foot gb g A Ae i := by
  rcases h with h | h | h | h
  · exact .inl h
  · exact .inr (.inl h)
  · exact (inB_none _ h).elim
  · exact .inr (.inr (.inr h))
set_option maxRecDepth 100000 in
theorem sync_off (h : DskAt w gb g Al cl Ae ce d) (h0 : d.on = false) :
    Calls Try.prog 32 #[.pointer (some ⟨g, 0, none⟩)] w fun e w' => e = .returned (.int .i64 30) ∧ w' = w := by
  have c3 := (heads h).2.2.2.1
  rw [h0] at c3
  clear h h0
  go_enter Try.func32, Try.ntmps32
  go_wp2
  go_ret
  exact ⟨rfl, rfl⟩
set_option maxRecDepth 100000 in
theorem sync_on (h : DskAt w gb g Al cl Ae ce d) (h0 : d.on = true) :
    Calls Try.prog 32 #[.pointer (some ⟨g, 0, none⟩)] w fun e w' => e = .returned (.int .i64 0) ∧ DskAt w' gb g none 0 Ae ce (settleR d d.line.length) ∧ Chg w w' (foot gb g Al Ae) := by
  have c3 := (heads h).2.2.2.1
  have c1 := (heads h).2.1
  rw [h0] at c3
  have SE := Lib.hid (settle_any h d.line.length (Nat.le_refl _))
  clear h h0
  go_enter Try.func32, Try.ntmps32
  go_wp2_with fail
  refine SE.out.mono ?_; rintro e w1 ⟨rfl, d1, k1⟩
  have FIN := Lib.hid (And.intro d1 k1)
  clear d1 k1
  go_wp2
  go_ret
  exact ⟨rfl, FIN.out⟩
theorem sync_any (h : DA w F g d) :
    Calls Try.prog 32 #[.pointer (some ⟨g, 0, none⟩)] w fun e w' => e = .returned (.int .i64 (syncR d).2) ∧ ∃ F', DA w' F' g (syncR d).1 ∧ Step w w' F F' := by
  obtain ⟨gb, Al, cl, Ae, ce, D, hF⟩ := h
  have hFe : F = foot gb g Al Ae := funext fun k => propext (hF k)
  subst hFe
  unfold syncR
  by_cases h0 : d.on = true
  · rw [if_pos h0]
    refine (sync_on D h0).mono ?_
    rintro e w' ⟨rfl, a, b⟩
    exact ⟨rfl, _, a.da, b, fun k hk => .inl (foot_none hk _)⟩
  · rw [if_neg h0]
    refine (sync_off D (by simpa using h0)).mono ?_
    rintro e w' ⟨rfl, rfl⟩
    exact ⟨rfl, _, D.da, Step.refl _ _⟩
theorem settle_ge {k : Nat} (hk : d.line.length ≤ k) : settleR d k = settleR d d.line.length := by
  unfold settleR
  rw [List.take_of_length_le hk, List.take_length]
theorem turn_on (h : DskAt w gb g Al cl Ae ce d) : DskAt (w.setCell ⟨g, 3, none⟩ (.bool true)) gb g Al cl Ae ce { d with on := true } ∧ Chg w (w.setCell ⟨g, 3, none⟩ (.bool true)) (fun k => k = g) := by
  have k : Chg w (w.setCell ⟨g, 3, none⟩ (.bool true)) (fun k => k = g) := Chg.set _ _ _ rfl
  refine ⟨rehead h k rfl rfl rfl ?_ h.ok.turnOn, k⟩
  have := h.head.put 3 (.bool true)
  simp at this
  exact this
end
end Go.Proofs.Ytlilfblnlpjkcaa.Di
