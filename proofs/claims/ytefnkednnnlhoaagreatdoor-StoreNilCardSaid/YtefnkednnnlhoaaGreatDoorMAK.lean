/- Package disk: settle, Sync, Revive. Conditions: those that each states. -/
import Derived.Test.YtefnkednnnlhoaaGreatDoorDk5
import Derived.Test.YtefnkednnnlhoaaGreatDoorMAA
import Derived.RegionTactic
import Derived.BigRegion
import Derived.WalkMore
import Derived.StillTailTactics
import Derived.Deep.QuietTactic
import Derived.BigQuiet
import Derived.Deep.OwnRows
import Derived.Laws.Rows
import Derived.Laws.Tables
namespace Go.Proofs.YtefnkednnnlhoaaGreatDoor.Di
open Go.ChangeShapes Go.WideShapes Go.ChangeAt Go.RowKit Go.Deep
set_option linter.unusedVariables false

theorem wpStill_load {P : Program} {ops : Array Oper} {w : World} {Q : Act → Prop} {a : Act} {o : Oper} {rest : List Oper} {t : TypeId} {x : Operand} (ho : o.op = .load t x) {v y : Value} (hx : a.eval x = y) (h : (Instr.loadAt t y).run P w = .ok v w) (hw : Region.wanted o (yielded ops a.tmps) = true)
    (hk : wpStill P ops w Q rest (a.put o.dst v)) : wpStill P ops w Q (o :: rest) a := by
  refine wpStill_step (fun K hK => ?_)
  rw [if_pos hw]
  unfold Oper.still execOp
  simp only [ho, hx, Sem.run_bind, h, Result.andThen_ok, Sem.run_pure, Oper.stillUpon_value]
  exact hK _ hk
theorem wpList_alloc_is {P : Program} {ops : Array Oper} {rest : List Oper} {o : Oper} {a : Act} {w : World} {Q : Exit → Act → World → Prop} (hgd : o.guard = none) (t : TypeId) (ho : o.op = .alloc t) (i : TypeInfo) (z : Value) (hi : P.info? t = some i) (hz : i.zero = some z)
    (h : wpList P ops Q rest (a.put o.dst (.pointer (some ⟨w.heap.size, 0, none⟩))) (w.alloc (.cells z.cells t))) : wpList P ops Q (o :: rest) a w := by
  refine wpList_plain hgd fun K hK => ?_
  have hrun : (Instr.alloc t true (.tuple #[])).run P w = .ok (.pointer (some ⟨w.heap.size, 0, none⟩)) (w.alloc (.cells z.cells t)) := by
    simp [Instr.alloc, zeroValue, typeInfo, hi, hz, newVar, newRow]
  unfold Oper.wp execOp
  simp only [ho, Sem.run_bind, hrun, Result.andThen_ok, Sem.run_pure]
  exact hK _ _ h

theorem run_cutline (Al : Option Addr) (cl n k : Nat) (h0 : Al = none ∨ ∃ l, Al = some ⟨l, 0, none⟩) (hk : k ≤ n) (hn : n ≤ cl) (W : World) :
    (Instr.slice 99 (.slice Al n cl) none (some (.int .i64 (k : Int))) none).run Tryz.prog W = .ok (.slice Al k cl) W := by
  have ht : Tryz.prog.underlying 99 = some (.slice (Tryz.prog.elem 99)) := by kernel_rfl
  have he : (Tryz.prog.info? (Tryz.prog.elem 99)).map (·.size) = some 257 := by kernel_rfl
  obtain ⟨i, hi, hs⟩ := Option.map_eq_some_iff.1 he
  rw [run_slice_h W 99 Al n cl ht .i64 (k : Int) (by omega) (by omega)]
  have hz : (sizeOf (Tryz.prog.elem 99)).run Tryz.prog W = .ok i.size W := by simp [sizeOf, typeInfo, hi]
  rw [hz]
  simp only [Result.andThen_ok, sliced]
  rcases h0 with rfl | ⟨l, rfl⟩
  · simp
  · have ea : (⟨l, 0, none⟩ : Addr).add 0 = ⟨l, 0, none⟩ := by unfold Addr.add; split <;> simp_all
    simp [ea]

def part (d : Dk) (j : Nat) : Dk := { d with blocks := put d.blocks (d.line.take j) }
section
variable {gb g cl ce q cap : Nat} {Al Ae : Option Addr} {d : Dk} {w w1 w2 : World} {F : Nat → Prop}
theorem part_ok (h : d.Ok) (j : Nat) : (part d j).Ok := by
  have o := h.settle j
  exact ⟨o.n1, o.n2, o.bl, o.ow, o.ex, o.mt, fun q hq => by
    have h1 := h.li q hq
    refine ⟨?_, h1.2⟩
    show q.block < (put _ _).length
    rw [put_len]; exact h1.1, o.ar⟩
theorem part_succ {j : Nat} (hj : j < d.line.length) : part d (j + 1) = { part d j with blocks := (part d j).blocks.set d.line[j].block d.line[j].text } := by
  unfold part
  congr 1
  rw [List.take_succ_eq_append_getElem hj, put_append]
  rfl
/-- One write becomes durable. -/
theorem settle_step (h : DskAt w gb g Al cl Ae ce d) {b : Nat} {t : List UInt8} (hb : b < d.blocks.length) (ht : t.length = 256) :
    DskAt (w.setRow gb ((blocksC d.blocks).toArray.toList.take (b * 256) ++ (bys t).toArray.toList ++ (blocksC d.blocks).toArray.toList.drop (b * 256 + (bys t).toArray.size)).toArray) gb g Al cl Ae ce { d with blocks := d.blocks.set b t } ∧
    Chg w (w.setRow gb ((blocksC d.blocks).toArray.toList.take (b * 256) ++ (bys t).toArray.toList ++ (blocksC d.blocks).toArray.toList.drop (b * 256 + (bys t).toArray.size)).toArray) (fun k => k = gb) := by
  have k : Chg w (w.setRow gb ((blocksC d.blocks).toArray.toList.take (b * 256) ++ (bys t).toArray.toList ++ (blocksC d.blocks).toArray.toList.drop (b * 256 + (bys t).toArray.size)).toArray) (fun k => k = gb) := Chg.setRow _ _ rfl
  refine ⟨⟨?_, ?_, h.line.chg k (fun b hb e => h.lb (by have e' : b = gb := e; rw [← e']; exact hb)), h.exts.chg k (fun b hb e => h.eb (by have e' : b = gb := e; rw [← e']; exact hb)), h.ne, h.lb, h.lg, h.eb, h.eg, h.le, ?_⟩, k⟩
  · have := h.head.chg k (fun e => h.ne (by have e' : g = gb := e; exact e'.symm))
    simp only [List.length_set]
    exact this
  · have hrow := h.tab.row ((blocksC d.blocks).toArray.toList.take (b * 256) ++ (bys t).toArray.toList ++ (blocksC d.blocks).toArray.toList.drop (b * 256 + (bys t).toArray.size)).toArray
    have e : (blocksC d.blocks).toArray.toList.take (b * 256) ++ (bys t).toArray.toList ++ (blocksC d.blocks).toArray.toList.drop (b * 256 + (bys t).toArray.size) = blocksC (d.blocks.set b t) := by
      have hl : (bys t).length = 256 := by rw [bys_length]; exact ht
      rw [List.size_toArray, hl]
      unfold blocksC
      rw [List.map_set, flat_set (blocks_rows h.ok) (by simpa using hb)]
    rw [e] at hrow ⊢
    exact hrow
  · have o := h.ok
    exact ⟨by simpa using o.n1, by simpa using o.n2, fun u hu => by
      rcases List.mem_or_eq_of_mem_set hu with h1 | rfl
      · exact o.bl u h1
      · exact ht, by simpa using o.ow, fun x hx => by simpa using o.ex x hx, fun b' hb' => o.mt b' (by simpa using hb'), fun x hx => by simpa using o.li x hx, o.ar⟩
/-- The line is forgotten. -/
theorem settle_end (h : DskAt w gb g Al cl Ae ce d) : DskAt (w.setCell ⟨g, 1, none⟩ (.slice none 0 0)) gb g none 0 Ae ce { d with line := [] } ∧ Chg w (w.setCell ⟨g, 1, none⟩ (.slice none 0 0)) (fun k => k = g) := by
  have k : Chg w (w.setCell ⟨g, 1, none⟩ (.slice none 0 0)) (fun k => k = g) := Chg.set _ _ _ rfl
  refine ⟨⟨?_, h.tab.chg k h.ne, RowW.nil _ _ _, h.exts.chg k (fun b hb e => h.eg (by have e' : b = g := e; rw [← e']; exact hb)), h.ne, inB_none _, inB_none _, h.eb, h.eg, fun b hb => (inB_none _ hb).elim, ⟨h.ok.n1, h.ok.n2, h.ok.bl, h.ok.ow, h.ok.ex, h.ok.mt, fun q hq => (by cases hq), h.ok.ar⟩⟩, k⟩
  have := h.head.put 1 (.slice none 0 0)
  simp at this
  exact this
theorem line_form (h : DskAt w gb g Al cl Ae ce d) : Al = none ∨ ∃ l, Al = some ⟨l, 0, none⟩ := by
  rcases h.line.own.2 with ⟨e, _⟩ | ⟨g', cap', cur, e, _⟩
  · injection e with e1; exact .inl e1
  · injection e with e1; exact .inr ⟨g', e1⟩

set_option maxRecDepth 100000 in
set_option maxHeartbeats 2000000 in
theorem settle_any (h : DskAt w gb g Al cl Ae ce d) (n : Nat) (hn : n ≤ d.line.length) :
    Calls Tryz.prog 105 #[.pointer (some ⟨g, 0, none⟩), .int .i64 (n : Int)] w fun e w' => e = .returned (.tuple #[]) ∧ DskAt w' gb g none 0 Ae ce (settleR d n) ∧ Chg w w' (foot gb g Al Ae) := by
  have hsl := fun W => run_cutline Al cl d.line.length n (line_form h) hn h.line.capMax.1 W
  have c1 := (heads h).2.1
  have n2 := h.ok.n2
  have hL : d.line.length ≤ 9223372036854775807 := by have := h.line.capMax; unfold maxLen at this; omega
  have H0 := Lib.hid (show DskAt w gb g Al cl Ae ce (part d 0) from h)
  have OK := Lib.hid h.ok
  obtain ⟨iw, zw, hi, hz, hzc, hs2, hby⟩ := wr_infos
  have INF := Lib.hid (And.intro hi (And.intro hz (And.intro hzc (And.intro hs2 hby))))
  clear h hi hz hzc hs2 hby
  go_enter Tryz.func105, Tryz.ntmps105
  go_wp2
  go_loopw [13] (fun i wr => ∃ (j : Nat), j ≤ n ∧ i = .int .i64 (j : Int) ∧ DskAt wr gb g Al cl Ae ce (part d j) ∧ Chg w wr (foot gb g Al Ae)) (fun i _ => n - (intOf i).toNat)
  case atStart => exact ⟨0, Nat.zero_le _, rfl, H0.out, Chg.refl _ _⟩
  case round =>
    obtain ⟨j, hj, rfl, hD, hC⟩ := hrel
    by_cases hlt : j < n
    · have hjl : j < d.line.length := by omega
      have j1 : (j : Int) < (n : Int) := by omega
      have j0 : (0 : Int) ≤ (j : Int) := by omega
      have xj := IntWalk.i64_in ((j : Int) + 1) (by omega)
      obtain ⟨l, rfl, hl, _, _, hr⟩ := hD.wr (i := j) hjl
      have hq := (part_ok OK.out j).li d.line[j] (List.getElem_mem hjl)
      have hr' : wr.rangeAt l (j * 257) (d.line[j]).cells := hr
      have hlen : (d.line[j]).cells.length = 257 := by simp [Wr.cells, bys_length, hq.2]
      have LD := Lib.hid hr'
      have HLEN := Lib.hid hlen
      have SZ := Lib.hid (show (Tryz.prog.info? 197).map (·.size) = some (d.line[j]).cells.length by rw [HLEN.out, INF.out.1]; exact congrArg some INF.out.2.2.2.1)
      have hone : (d.line[j]).cells.toArray.all (·.oneCell') = true := by
        rw [Array.all_eq_true_iff_forall_mem]
        intro u hu
        have hu' : u ∈ (d.line[j]).cells := by simpa using hu
        rcases List.mem_cons.1 hu' with rfl | hu'
        · rfl
        · exact bys_one hu'
      have ONE := Lib.hid hone
      have HD := Lib.hid hD
      have HC := Lib.hid hC
      -- the write's own block
      obtain ⟨wS, hwS⟩ : ∃ wS, (wr.alloc (.cells zw.cells 197)).setRow wr.heap.size (zw.cells.toList.take 0 ++ (d.line[j]).cells.toArray.toList ++ zw.cells.toList.drop (0 + (d.line[j]).cells.toArray.size)).toArray = wS := ⟨_, rfl⟩
      have EQ := Lib.hid hwS
      have hB : Below wr.heap.size wr wS := by
        rw [← hwS]
        exact ((Below.refl wr.heap.size wr).alloc (Nat.le_refl _) _).trans ((Chg.setRow (S := fun k => k = wr.heap.size) _ _ rfl).below (by simp) (fun k hk => by have hk' : k = wr.heap.size := hk; omega))
      have hS : Blk wS wr.heap.size 197 (d.line[j]).cells.toArray := by
        have := (Blk.new wr 197 zw.cells).row (zw.cells.toList.take 0 ++ (d.line[j]).cells.toArray.toList ++ zw.cells.toList.drop (0 + (d.line[j]).cells.toArray.size)).toArray
        rw [hwS] at this
        have e : zw.cells.toList.take 0 ++ (d.line[j]).cells.toArray.toList ++ zw.cells.toList.drop (0 + (d.line[j]).cells.toArray.size) = (d.line[j]).cells := by
          rw [List.take_zero, List.nil_append, List.drop_eq_nil_of_le (by rw [Array.length_toList, INF.out.2.2.1, List.size_toArray, HLEN.out]; omega), List.append_nil]
        rw [e] at this
        exact this
      have qc : wS.cell? ⟨wr.heap.size, 0, none⟩ = some (.int .i64 (d.line[j].block : Int)) := by rw [hS.cell]; rfl
      have hqr : wS.rangeAt wr.heap.size 1 (bys d.line[j].text) := fun i v hv => by
        rw [hS.cell, List.getElem?_toArray, Nat.add_comm 1 i]
        exact hv
      have hDS := HD.out.new hB
      have gc := (heads hDS).1
      have e1 : (part d j).blocks.length = d.blocks.length := put_len _ _
      rw [e1] at gc
      have hbl : (bys d.line[j].text).length = 256 := by rw [bys_length]; exact hq.2
      have LP := run_loadAt_mid (P := Tryz.prog) wS.drew wr.heap.size 1 195 (bys d.line[j].text) _ (show wS.drew.rangeAt wr.heap.size 1 (bys d.line[j].text) from hqr) Tryz.underlying195 rfl (page_size.trans (congrArg some hbl.symm))
      have TAB := Lib.hid (show Blk wS.drew gb 195 (blocksC (part d j).blocks).toArray from hDS.tab)
      have PSZ := Lib.hid (show (Tryz.prog.info? 195).map (·.size) = some (bys d.line[j].text).toArray.size by rw [List.size_toArray, hbl]; exact page_size)
      have POLD := Lib.hid (show d.line[j].block * 256 + (bys d.line[j].text).toArray.size ≤ (blocksC (part d j).blocks).toArray.size by
        rw [List.size_toArray, List.size_toArray, hbl, blocks_len hDS.ok]
        have := hq.1
        omega)
      have PONE := Lib.hid (show (bys d.line[j].text).toArray.all (·.oneCell') = true by
        rw [Array.all_eq_true_iff_forall_mem]
        intro u hu
        exact bys_one (by simpa using hu))
      have hst := settle_step (w := wS.drew) (hDS.drewN 1) hq.1 hq.2
      rw [← part_succ hjl] at hst
      have ST := Lib.hid hst
      have HC2 := Lib.hid (HC.out.trans (Chg.of_new hB _))
      have hqb : d.line[j].block < d.blocks.length := by have := hq.1; rw [e1] at this; exact this
      have q0 : (0 : Int) ≤ (d.line[j].block : Int) := by omega
      have q1 : (d.line[j].block : Int) < (d.blocks.length : Int) := by omega
      have ZS := Lib.hid (show 0 + (d.line[j]).cells.toArray.size ≤ zw.cells.size by rw [INF.out.2.2.1, List.size_toArray, HLEN.out]; omega)
      have SZ2 := Lib.hid (show (Tryz.prog.info? 197).map (·.size) = some (d.line[j]).cells.toArray.size by rw [List.size_toArray]; exact SZ.out)
      clear hr hr' hlen hone hD hC hwS hB hS hqr hDS hq hst hqb hbl e1
      generalize (d.line[j]).cells = C at *
      generalize (bys d.line[j].text) = Z at *
      generalize (d.line[j]).block = bk at *
      go_wp2_with (first
        | (refine wpList_load_mid rfl 197 (.tmp 15) rfl l (j * 257) rfl C _ LD.out Tryz.underlying197 rfl SZ.out ?_)
        | (refine wpList_alloc_is rfl 197 rfl iw zw INF.out.1 INF.out.2.1 ?_)
        | (refine wpList_store_at rfl 197 (.tmp 5) (.tmp 16) rfl wr.heap.size 0 C.toArray rfl rfl 197 zw.cells (Blk.new _ _ _) SZ2.out ZS.out ONE.out ?_; rw [EQ.out])
        | fail)
      refine wp_region_still_tail 9 (by kernel_rfl) (by kernel_rfl) ?_
      change wpStill _ _ wS.drew (fun a' => wpList _ _ _ _ a' wS.drew) _ _
      simp only [List.take_succ_cons, List.take_zero, List.drop_succ_cons, List.drop_zero]
      still_step
      still_step
      still_step
      still_step
      still_step
      still_step
      still_step
      refine wpStill_load (y := .pointer (some ⟨wr.heap.size, 1, none⟩)) rfl rfl LP (by rfl) ?_
      repeat still_step
      refine wpStill_nil ?_
      go_wp2_with (refine wpList_store_at rfl 195 (.tmp 25) (.tmp 24) rfl gb (bk * 256) Z.toArray rfl rfl 195 _ TAB.out PSZ.out POLD.out PONE.out ?_)
      go_roundw
      case rel =>
        have st := ST.out
        simp only [List.append_assoc, List.size_toArray] at st
        exact ⟨j + 1, by omega, by simp, st.1, HC2.out.drew.trans (st.2.weak (fun i hi => Or.inl hi))⟩
      case measure => simp [intOf]; omega
    · have hge : ¬ (j : Int) < (n : Int) := by omega
      obtain rfl : j = n := by omega
      have c1' := (heads hD).2.1
      have f1 := hD.head.frozen 1
      obtain ⟨d2, k2⟩ := settle_end hD
      have FIN := Lib.hid (And.intro d2 (hC.trans (k2.weak (fun i hi => .inr (.inl hi)))))
      clear hD hC d2 k2
      go_wp2
      go_end0
      exact ⟨rfl, FIN.out⟩

theorem foot_none {i : Nat} (h : foot gb g none Ae i) (A : Option Addr) : foot gb g A Ae i := by
  rcases h with h | h | h | h
  · exact .inl h
  · exact .inr (.inl h)
  · exact (inB_none _ h).elim
  · exact .inr (.inr (.inr h))
set_option maxRecDepth 100000 in
theorem sync_off (h : DskAt w gb g Al cl Ae ce d) (h0 : d.on = false) :
    Calls Tryz.prog 67 #[.pointer (some ⟨g, 0, none⟩)] w fun e w' => e = .returned (.int .i64 30) ∧ w' = w := by
  have c3 := (heads h).2.2.2.1
  rw [h0] at c3
  clear h h0
  go_enter Tryz.func67, Tryz.ntmps67
  go_wp2
  go_ret
  exact ⟨rfl, rfl⟩
set_option maxRecDepth 100000 in
theorem sync_on (h : DskAt w gb g Al cl Ae ce d) (h0 : d.on = true) :
    Calls Tryz.prog 67 #[.pointer (some ⟨g, 0, none⟩)] w fun e w' => e = .returned (.int .i64 0) ∧ DskAt w' gb g none 0 Ae ce (settleR d d.line.length) ∧ Chg w w' (foot gb g Al Ae) := by
  have c3 := (heads h).2.2.2.1
  have c1 := (heads h).2.1
  rw [h0] at c3
  have SE := Lib.hid (settle_any h d.line.length (Nat.le_refl _))
  clear h h0
  go_enter Tryz.func67, Tryz.ntmps67
  go_wp2_with fail
  refine SE.out.mono ?_; rintro e w1 ⟨rfl, d1, k1⟩
  have FIN := Lib.hid (And.intro d1 k1)
  clear d1 k1
  go_wp2
  go_ret
  exact ⟨rfl, FIN.out⟩
theorem sync_any (h : DA w F g d) :
    Calls Tryz.prog 67 #[.pointer (some ⟨g, 0, none⟩)] w fun e w' => e = .returned (.int .i64 (syncR d).2) ∧ ∃ F', DA w' F' g (syncR d).1 ∧ Step w w' F F' := by
  obtain ⟨gb, Al, cl, Ae, ce, D, hF⟩ := h
  have hFe : F = foot gb g Al Ae := funext fun k => propext (hF k)
  subst hFe
  unfold syncR
  by_cases h0 : d.on = true
  · rw [if_pos h0]
    refine (sync_on D h0).mono ?_
    rintro e w' ⟨rfl, a, b⟩
    exact ⟨rfl, _, a.da, b, fun k hk => .inl (foot_none hk _)⟩
  · rw [if_neg h0]
    refine (sync_off D (by simpa using h0)).mono ?_
    rintro e w' ⟨rfl, rfl⟩
    exact ⟨rfl, _, D.da, Step.refl _ _⟩
end
end Go.Proofs.YtefnkednnnlhoaaGreatDoor.Di

/- Package ring at []byte: what its functions do. Conditions: those that each states. -/
namespace Go.Proofs.YtefnkednnnlhoaaGreatDoor.RgP
open Go.ChangeShapes Go.WideShapes Go.ChangeAt Go.RowKit Go.Deep
set_option linter.unusedVariables false

abbrev Ring (w : World) (gs g room first : Nat) (xs : List Value) : Prop := RingAt 31 182 w gs g room first xs

theorem info : (Tryz.prog.info? 31).map (fun i => (i.zero, i.size, i.bytes)) = some (some (.slice none 0 0), 1, 24) := by kernel_rfl
theorem make_things (n : Nat) (hn : n ≤ 32) (W : World) :
    (Instr.makeSlice 67 (.int .i64 (n : Int)) (.int .i64 (n : Int))).run Tryz.prog W = .ok (.slice (some ⟨W.heap.size, 0, none⟩) n n) (W.alloc (.cells (madeCells #[.slice none 0 0] n) 31)) :=
  run_make_row' (P := Tryz.prog) 67 31 (.slice none 0 0) 24 Tryz.underlying67 info rfl .i64 .i64 n (by omega) (by omega) W

set_option maxRecDepth 100000 in
theorem new_ok (room : Nat) (w : World) (h1 : 1 ≤ room) (h2 : room ≤ 32) :
    Calls Tryz.prog 54 #[.int .i64 (room : Int)] w fun e w' => e = .returned (.tuple #[.pointer (some ⟨w.heap.size + 1, 0, none⟩), .int .i64 0]) ∧ Ring w' w.heap.size (w.heap.size + 1) room 0 [] ∧ Below w.heap.size w w' ∧ w'.heap.size = w.heap.size + 2 := by
  have g1 : ¬ (room : Int) < 1 := by omega
  have g2 : ¬ (room : Int) > 32 := by omega
  have fin : ∀ W1 W2 : World, W1 = w.alloc (.cells (madeCells #[.slice none 0 0] room) 31) → W2 = W1.alloc (.cells #[.slice (some ⟨w.heap.size, 0, none⟩) room room, .int .i64 0, .int .i64 0] 182) → Ring W2 w.heap.size (w.heap.size + 1) room 0 [] ∧ Below w.heap.size w W2 ∧ W2.heap.size = w.heap.size + 2 := by
    rintro W1 W2 rfl rfl
    refine ⟨⟨by omega, h1, h2, by simp, by simp, ?_, madeCells #[.slice none 0 0] room, (Blk.new w _ _).alloc _, size_madeCells _ _, fun j h => absurd h (by simp)⟩, ((Below.refl _ w).alloc (Nat.le_refl _) _).alloc (by simp) _, by simp⟩
    have := Blk.new (w.alloc (.cells (madeCells #[.slice none 0 0] room) 31)) 182 #[.slice (some ⟨w.heap.size, 0, none⟩) room room, .int .i64 0, .int .i64 0]
    simpa using this
  have FIN := Lib.hid fin
  have hm := fun W => make_things room h2 W
  clear fin
  go_enter Tryz.func54, Tryz.ntmps54
  go_wp2
  go_ret2
  exact ⟨rfl, FIN.out _ _ rfl rfl⟩
theorem place_any (gs g room first : Nat) (xs : List Value) (t : Nat) (w : World) (h : Ring w gs g room first xs) :
    Calls Tryz.prog 116 #[.pointer (some ⟨g, 0, none⟩), .int .i64 (t : Int)] w fun e w' => e = .returned (.int .i64 ((t % room : Nat) : Int)) ∧ w' = w := by
  have c0 := h.head.cell 0
  simp only [List.getElem?_toArray, List.getElem?_cons_zero] at c0
  have r1 := h.r1
  have r2 := h.r2
  have hr0 : (room : Int) ≠ 0 := by omega
  have x0 : Int.tmod (t : Int) (room : Int) = ((t % room : Nat) : Int) := by rw [Int.tmod_eq_emod_of_nonneg (by omega)]; omega
  have X0 := Lib.hid x0
  clear h x0
  go_enter Tryz.func116, Tryz.ntmps116
  go_wp2
  go_ret
  exact ⟨by first | rfl | (rw [← X0.out]) | simp, rfl⟩

set_option maxRecDepth 100000 in
theorem at_ok (gs g room first : Nat) (xs : List Value) (t : Nat) (xA : Option Addr) (xn xc : Nat) (w : World) (h : Ring w gs g room first xs) (h1 : first ≤ t) (hx : xs[t - first]? = some (.slice xA xn xc)) :
    Calls Tryz.prog 115 #[.pointer (some ⟨g, 0, none⟩), .int .i64 (t : Int)] w fun e w' => e = .returned (.tuple #[.slice xA xn xc, .int .i64 0]) ∧ ∃ m, w' = w.drewN m := by
  obtain ⟨hlt, hxe⟩ := List.getElem?_eq_some_iff.1 hx
  have cc := h.cell hlt
  rw [hxe, show first + (t - first) = t by omega] at cc
  have c0 := h.head.cell 0
  have c1 := h.head.cell 1
  have c2 := h.head.cell 2
  simp only [List.getElem?_toArray, List.getElem?_cons_succ, List.getElem?_cons_zero] at c0 c1 c2
  have g1 : ¬ (t : Int) < (first : Int) := by omega
  have g2 : ¬ (t : Int) ≥ (first : Int) + (xs.length : Int) := by omega
  have hm : t % room < room := Nat.mod_lt _ h.r1
  have r2 := h.r2
  have pl := fun W hW => place_any gs g room first xs t W hW
  have PL := Lib.hid pl
  have H := Lib.hid h
  generalize hp : t % room = p at *
  have hpr : (p : Int) < (room : Int) := by omega
  have hp0 : (0 : Int) ≤ (p : Int) := by omega
  generalize hn : (first : Int) + (xs.length : Int) = nx at *
  clear h hp pl hx hxe hlt hn
  go_enter Tryz.func115, Tryz.ntmps115
  go_wp2_with fail
  go_quiet ((go_at_call 116; exact Calls.quiet_of_same (PL.out _ (H.out.drewN _))))
  go_wp2
  go_ret2
  exact ⟨rfl, _, rfl⟩
theorem at_no (gs g room first : Nat) (xs : List Value) (t : Int) (w : World) (h : Ring w gs g room first xs) (ht : t < (first : Int) ∨ (first : Int) + (xs.length : Int) ≤ t) :
    Calls Tryz.prog 115 #[.pointer (some ⟨g, 0, none⟩), .int .i64 t] w fun e w' => e = .returned (.tuple #[.slice none 0 0, .int .i64 11]) ∧ w' = w := by
  have c1 := h.head.cell 1
  have c2 := h.head.cell 2
  simp only [List.getElem?_toArray, List.getElem?_cons_succ, List.getElem?_cons_zero] at c1 c2
  generalize hn : (first : Int) + (xs.length : Int) = nx at *
  clear h hn
  by_cases g1 : t < (first : Int)
  · clear ht
    go_enter Tryz.func115, Tryz.ntmps115
    go_wp2
    go_ret2
    exact ⟨rfl, rfl⟩
  · have g2 : t ≥ nx := by omega
    clear ht
    go_enter Tryz.func115, Tryz.ntmps115
    go_wp2
    go_ret2
    exact ⟨rfl, rfl⟩
set_option maxRecDepth 100000 in
set_option maxHeartbeats 1000000 in
theorem take_ok (gs g room first : Nat) (xs : List Value) (xA : Option Addr) (xn xc : Nat) (w : World) (h : Ring w gs g room first (.slice xA xn xc :: xs)) :
    Calls Tryz.prog 72 #[.pointer (some ⟨g, 0, none⟩)] w fun e w' => e = .returned (.tuple #[.slice xA xn xc, .int .i64 0]) ∧ Ring w' gs g room (first + 1) xs ∧ Chg w w' (fun k => k = gs ∨ k = g) := by
  have fin : ∀ n m : Nat, ∃ W, W = ((w.drewN n).setCell ⟨gs, first % room, none⟩ (.slice none 0 0)).setCell ⟨g, 1, none⟩ (.int .i64 ((first : Int) + 1)) ∧ Ring (W.drewN m) gs g room (first + 1) xs ∧ Chg w (W.drewN m) (fun k => k = gs ∨ k = g) := by
    intro n m
    refine ⟨_, rfl, (h.take (.slice none 0 0) n).drewN m, Chg.drewN ?_ m⟩
    exact (((Chg.refl w _).drewN n).trans (Chg.set _ _ _ (.inl rfl))).trans (Chg.set _ _ _ (.inr rfl))
  have FIN := Lib.hid fin
  have c0 := h.head.cell 0
  have c1 := h.head.cell 1
  simp only [List.getElem?_toArray, List.getElem?_cons_succ, List.getElem?_cons_zero] at c0 c1
  have hne : gs ≠ g := Nat.ne_of_lt h.lt
  obtain ⟨u, cu⟩ := h.place first
  have ft := h.thaw (first % room)
  have fg := h.head.frozen 1
  have hm : first % room < room := Nat.mod_lt _ h.r1
  have r2 := h.r2
  have sm := h.small
  have AT := Lib.hid (fun W hW => at_ok gs g room first (.slice xA xn xc :: xs) first xA xn xc W hW (Nat.le_refl _) (by simp))
  have PL := Lib.hid (fun W hW => place_any gs g room first (.slice xA xn xc :: xs) first W hW)
  have H := Lib.hid h
  generalize hp : first % room = p at *
  have hpr : (p : Int) < (room : Int) := by omega
  have hp0 : (0 : Int) ≤ (p : Int) := by omega
  clear fin h hp
  go_enter Tryz.func72, Tryz.ntmps72
  go_wp2_with fail
  refine (AT.out _ H.out).mono ?_; rintro e w1 ⟨rfl, m1, rfl⟩
  go_wp2_with fail
  refine wp_region_still_tail 12 (by kernel_rfl) (by kernel_rfl) ?_
  change wpStill _ _ (w.drewN m1).drew (fun a' => wpList _ _ _ _ a' (w.drewN m1).drew) _ _
  simp only [List.take_succ_cons, List.take_zero, List.drop_succ_cons, List.drop_zero]
  repeat still_step
  still_call (PL.out _ ((H.out.drewN m1).drewN 1))
  repeat still_step
  refine wpStill_nil ?_
  go_wp2
  go_ret2
  obtain ⟨W, rfl, r1, r2⟩ := FIN.out m1 1
  exact ⟨rfl, r1, r2⟩
theorem take_empty (gs g room first : Nat) (w : World) (h : Ring w gs g room first []) :
    Calls Tryz.prog 72 #[.pointer (some ⟨g, 0, none⟩)] w fun e w' => e = .returned (.tuple #[.slice none 0 0, .int .i64 11]) ∧ w' = w := by
  have c1 := h.head.cell 1
  simp only [List.getElem?_toArray, List.getElem?_cons_succ, List.getElem?_cons_zero] at c1
  have AT := Lib.hid (fun W hW => at_no gs g room first [] (first : Int) W hW (.inr (by simp)))
  have H := Lib.hid h
  clear h
  go_enter Tryz.func72, Tryz.ntmps72
  go_wp2_with fail
  refine (AT.out _ H.out).mono ?_; rintro e w1 ⟨rfl, rfl⟩
  go_wp2
  go_ret2
  exact ⟨rfl, rfl⟩
end Go.Proofs.YtefnkednnnlhoaaGreatDoor.RgP

/- A ring in memory whose things are two cells each. Conditions: those that each states. -/
namespace Go.Proofs.YtefnkednnnlhoaaGreatDoor
open Go.ChangeShapes Go.WideShapes Go.ChangeAt Go.RowKit Go.Deep
set_option linter.unusedVariables false

structure RingW (E T : TypeId) (w : World) (gs g room first : Nat) (xs : List (Value × Value)) : Prop where
  lt : gs < g
  r1 : 1 ≤ room
  r2 : room ≤ 32
  len : xs.length ≤ room
  small : first + xs.length ≤ 1000000
  head : Blk w g T #[.slice (some ⟨gs, 0, none⟩) room room, .int .i64 (first : Int), .int .i64 ((first : Int) + (xs.length : Int))]
  row : ∃ cs : Array Value, Blk w gs E cs ∧ cs.size = room * 2 ∧ ∀ j (h : j < xs.length), cs[(first + j) % room * 2]? = some xs[j].1 ∧ cs[(first + j) % room * 2 + 1]? = some xs[j].2
section
variable {E T : TypeId} {w w' : World} {gs g room first : Nat} {xs : List (Value × Value)} {S : Nat → Prop}
theorem RingW.chg (h : RingW E T w gs g room first xs) (k : Chg w w' S) (h1 : ¬ S gs) (h2 : ¬ S g) : RingW E T w' gs g room first xs := by
  obtain ⟨cs, hb, hs, hc⟩ := h.row
  exact ⟨h.lt, h.r1, h.r2, h.len, h.small, h.head.chg k h2, cs, hb.chg k h1, hs, hc⟩
theorem RingW.new (h : RingW E T w gs g room first xs) (k : Below w.heap.size w w') : RingW E T w' gs g room first xs := h.chg (Chg.of_new k fun _ => False) id id
theorem RingW.drewN (h : RingW E T w gs g room first xs) (n : Nat) : RingW E T (w.drewN n) gs g room first xs := ⟨h.lt, h.r1, h.r2, h.len, h.small, h.head, h.row⟩
theorem RingW.put (h : RingW E T w gs g room first xs) (hl : xs.length < room) (hs : first + xs.length < 1000000) (u v : Value) (n : Nat) :
    RingW E T ((((w.drewN n).setCell ⟨gs, (first + xs.length) % room * 2, none⟩ u).setCell ⟨gs, (first + xs.length) % room * 2 + 1, none⟩ v).setCell ⟨g, 2, none⟩ (.int .i64 ((first : Int) + (xs.length : Int) + 1))) gs g room first (xs ++ [(u, v)]) := by
  obtain ⟨cs, hb, hcs, hc⟩ := h.row
  have hgg : gs ≠ g := Nat.ne_of_lt h.lt
  have hgg' : g ≠ gs := fun e => hgg e.symm
  refine ⟨h.lt, h.r1, h.r2, by simp; omega, by simp; omega, ?_, (cs.setIfInBounds ((first + xs.length) % room * 2) u).setIfInBounds ((first + xs.length) % room * 2 + 1) v, ?_, by simpa using hcs, ?_⟩
  · have := (((h.head.drewN n).far (p := ⟨gs, (first + xs.length) % room * 2, none⟩) hgg' u).far (p := ⟨gs, (first + xs.length) % room * 2 + 1, none⟩) hgg' v).put 2 (.int .i64 ((first : Int) + (xs.length : Int) + 1))
    simpa [Int.add_assoc] using this
  · exact (((hb.drewN n).put _ u).put _ v).far (p := ⟨g, 2, none⟩) hgg _
  · intro j hj
    have hm : (first + xs.length) % room < room := Nat.mod_lt _ (by omega)
    have hj' : j < xs.length + 1 := by simpa using hj
    by_cases e : j = xs.length
    · subst e
      have h1 : (first + xs.length) % room * 2 < cs.size := by omega
      have h2 : (first + xs.length) % room * 2 + 1 < cs.size := by omega
      constructor
      · rw [Array.getElem?_setIfInBounds, if_neg (by omega), Array.getElem?_setIfInBounds, if_pos rfl]
        simp [h1]
      · rw [Array.getElem?_setIfInBounds, if_pos rfl]
        simp [h2]
    · have hlt : j < xs.length := by omega
      have hd := mod_ne (first + j) (first + xs.length) room (by omega) (by omega)
      obtain ⟨c1, c2⟩ := hc j hlt
      rw [List.getElem_append_left hlt]
      constructor
      · rw [Array.getElem?_setIfInBounds, if_neg (by omega), Array.getElem?_setIfInBounds, if_neg (by omega), c1]
      · rw [Array.getElem?_setIfInBounds, if_neg (by omega), Array.getElem?_setIfInBounds, if_neg (by omega), c2]
theorem RingW.place (h : RingW E T w gs g room first xs) (t : Nat) : ∃ u v, w.cell? ⟨gs, t % room * 2, none⟩ = some u ∧ w.cell? ⟨gs, t % room * 2 + 1, none⟩ = some v := by
  obtain ⟨cs, hb, hcs, _⟩ := h.row
  have hm : t % room < room := Nat.mod_lt _ h.r1
  refine ⟨cs[t % room * 2]'(by omega), cs[t % room * 2 + 1]'(by omega), ?_, ?_⟩
  · rw [hb.cell, Array.getElem?_eq_getElem (by omega)]
  · rw [hb.cell, Array.getElem?_eq_getElem (by omega)]
theorem RingW.thaw (h : RingW E T w gs g room first xs) (i : Nat) : w.frozen? ⟨gs, i, none⟩ = false := by
  obtain ⟨cs, hb, _⟩ := h.row
  exact hb.frozen i
end
end Go.Proofs.YtefnkednnnlhoaaGreatDoor

/- General words: a struct loaded and stored whole, out of and into a block that is known whole; results of which the first lies in memory. Conditions: those that each states. -/
namespace Go.Proofs.YtefnkednnnlhoaaGreatDoor
open Go.ChangeShapes Go.WideShapes Go.ChangeAt Go.RowKit Go.Deep

section
variable {w w' : World} {g : Nat} {t : TypeId} {cs old : Array Value}
theorem below_setRow {B : Nat} {a : World} (h : Below B a w) (hg : B ≤ g) (cs : Array Value) : Below B a (w.setRow g cs) :=
  ⟨h.os, h.tape, h.output, by rw [setRow_size]; exact h.size, fun i hi => (setRow_other w g i cs (by omega)).trans (h.block i hi)⟩
end

/-- Results of which the first lies in a block that is known whole. -/
theorem results_cell_tmp {P : Program} {fn : Func} {p q : Tmp} {ty : TypeId} (h : fn.results = #[.cell p ty, .tmp q]) (tmps : Array Value) (w : World) (g : Nat) (t : TypeId) (cs : Array Value) (fr : Nat × Nat) (d : TypeDesc)
    (hp : tmps.getD p undef = .pointer (some ⟨g, 0, none⟩)) (hg : w.heap[g]? = some (.cells cs t fr))
    (hu : P.underlying ty = some d) (hd : (match d with | .struct _ | .array _ _ => true | _ => false) = true) (hi : (P.info? ty).map (·.size) = some cs.size) :
    (results fn tmps).run P w = .ok (.tuple #[.agg cs, tmps.getD q undef]) w := by
  have hp' : tmps[p]?.getD undef = .pointer (some ⟨g, 0, none⟩) := by simpa using hp
  simp [results, h, hp', asAddr, run_loadVar_row w g t ty cs fr d hg hu hd hi]
end Go.Proofs.YtefnkednnnlhoaaGreatDoor
