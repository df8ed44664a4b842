/- The document's disk: what waits becomes durable; two images. Conditions: those that each states. -/
import Derived.Test.YthnapmcjnfeimaaRef06
namespace Go.Proofs.Ythnapmcjnfeimaa.RD
open Go.ChangeShapes Go.WideShapes Go.ChangeAt Go.RowKit Go.Deep Di
set_option linter.unusedVariables false
section
variable {w w' w1 : World} {gm bt bo ct co cl : Nat} {Al : Option Addr} {d : Dk} {S R : Nat → Prop}
theorem textsD_set (bs : List (List UInt8)) (b : Nat) (t : List UInt8) : textsD (bs.set b t) = (textsD bs).set b (.string ⟨t.toArray⟩) := by
  unfold textsD; rw [List.map_set]
/-- One block turns. -/
theorem RefAt.setText (h : RefAt w gm bt bo ct co Al cl d) {b : Nat} {t : List UInt8} (ht : t.length = 256) :
    RefAt (w.setCell ⟨bt, b, none⟩ (.string ⟨t.toArray⟩)) gm bt bo ct co Al cl { d with blocks := d.blocks.set b t } ∧ Chg w (w.setCell ⟨bt, b, none⟩ (.string ⟨t.toArray⟩)) (fun k => k = bt) := by
  have k : Chg w (w.setCell ⟨bt, b, none⟩ (.string ⟨t.toArray⟩)) (fun k => k = bt) := Chg.set _ _ _ rfl
  refine ⟨⟨?_, ?_, h.own.chg k (fun e => h.tn (by have e' : bo = bt := e; exact e'.symm)), h.line.chg k (fun b hb e => h.lt_ (by have e' : b = bt := e; rw [← e']; exact hb)), h.nt, h.no, h.tn, h.lm, h.lt_, h.lo, ?_⟩, k⟩
  · have := h.head.chg k (fun e => h.nt e)
    simp only [List.length_set]
    exact this
  · have := h.text.set b (.string ⟨t.toArray⟩)
    show Heads _ _ _ (textsD (d.blocks.set b t))
    rw [textsD_set]; exact this
  · have o := h.ok
    exact ⟨by simpa using o.n1, by simpa using o.n2, fun u hu => by
      rcases List.mem_or_eq_of_mem_set hu with h1 | rfl
      · exact o.bl u h1
      · exact ht, by simpa using o.ow, fun x hx => by simpa using o.ex x hx, fun b' hb' => o.mt b' (by simpa using hb'), fun x hx => by simpa using o.li x hx, o.ar⟩
theorem RefAt.endLine (h : RefAt w gm bt bo ct co Al cl d) : RefAt (w.setCell ⟨gm, 2, none⟩ (.slice none 0 0)) gm bt bo ct co none 0 { d with line := [] } ∧ Chg w (w.setCell ⟨gm, 2, none⟩ (.slice none 0 0)) (fun k => k = gm) := by
  have k : Chg w (w.setCell ⟨gm, 2, none⟩ (.slice none 0 0)) (fun k => k = gm) := Chg.set _ _ _ rfl
  refine ⟨⟨?_, h.text.chg k (fun e => h.nt (by have e' : bt = gm := e; exact e'.symm)), h.own.chg k (fun e => h.no (by have e' : bo = gm := e; exact e'.symm)), RowW.nil _ _ _, h.nt, h.no, h.tn, inB_none _, inB_none _, inB_none _, ⟨h.ok.n1, h.ok.n2, h.ok.bl, h.ok.ow, h.ok.ex, h.ok.mt, fun q hq => (by cases hq), h.ok.ar⟩⟩, k⟩
  have := h.head.put 2 (.slice none 0 0)
  simp at this
  exact this
theorem put_take {bs : List (List UInt8)} {l : List Wr} {j : Nat} {n : Int} (h1 : j ≤ l.length) (h2 : (j : Int) ≤ n ∨ j = 0) (h3 : ¬ ((j : Int) < n ∧ j < l.length)) : put bs (l.take j) = put bs (l.take n.toNat) := by
  by_cases e : j = n.toNat
  · rw [e]
  · have hj : j = l.length := by
      by_cases h : j = l.length
      · exact h
      · exfalso
        apply h3
        constructor
        · rcases h2 with h2 | h2
          · omega
          · omega
        · omega
    rw [List.take_of_length_le (by omega), List.take_of_length_le (by omega)]
set_option maxRecDepth 100000 in
set_option maxHeartbeats 2000000 in
theorem rsettle_any (h : RefAt w gm bt bo ct co Al cl d) (n : Int) :
    Calls Try.prog 24 #[.pointer (some ⟨gm, 0, none⟩), .int .i64 n] w fun e w' => e = .returned (.tuple #[]) ∧ RefAt w' gm bt bo ct co none 0 (settleR d n.toNat) ∧ Chg w w' (rfoot gm bt bo Al) := by
  have hL : d.line.length ≤ 9223372036854775807 := by have := h.line.capMax; unfold maxLen at this; omega
  have H0 := Lib.hid (show RefAt w gm bt bo ct co Al cl (Di.part d 0) from h)
  have OK := Lib.hid h.ok
  clear h
  go_enter Try.func24, Try.ntmps24
  go_wp2
  go_loopw [4] (fun i wr => ∃ (j : Nat), j ≤ d.line.length ∧ ((j : Int) ≤ n ∨ j = 0) ∧ i = .int .i64 (j : Int) ∧ RefAt wr gm bt bo ct co Al cl (Di.part d j) ∧ Chg w wr (rfoot gm bt bo Al)) (fun i _ => d.line.length - (intOf i).toNat)
  case atStart => exact ⟨0, Nat.zero_le _, .inr rfl, rfl, H0.out, Chg.refl _ _⟩
  case round =>
    obtain ⟨j, hj, hjn, rfl, hD, hC⟩ := hrel
    obtain ⟨c0, _, c2, _, _⟩ := hD.heads
    have e1 : (Di.part d j).blocks.length = d.blocks.length := put_len _ _
    have e2 : (Di.part d j).line.length = d.line.length := rfl
    rw [e1] at c0
    rw [e2] at c2
    have HD := Lib.hid hD
    have HC := Lib.hid hC
    have j0 : (0 : Int) ≤ (j : Int) := by omega
    by_cases hn : (j : Int) < n
    · by_cases hlt : j < d.line.length
      · have j1 : (j : Int) < (d.line.length : Int) := by omega
        have xj := IntWalk.i64_in ((j : Int) + 1) (by omega)
        have hq := (Di.part_ok OK.out j).li d.line[j] (List.getElem_mem hlt)
        obtain ⟨l, rfl, hl, q0, q1⟩ := hD.lineC (j := j) hlt
        have q0' : wr.cell? ⟨l, j * 2, none⟩ = some (.int .i64 (d.line[j].block : Int)) := q0
        have q1' : wr.cell? ⟨l, j * 2 + 1, none⟩ = some (.string ⟨d.line[j].text.toArray⟩) := q1
        have hqb : d.line[j].block < d.blocks.length := by have := hq.1; rw [e1] at this; exact this
        have b0 : (0 : Int) ≤ (d.line[j].block : Int) := by omega
        have b1 : (d.line[j].block : Int) < (d.blocks.length : Int) := by omega
        have ot := hD.textC hq.1
        have ft := hD.text.frozen (d.line[j].block)
        have hst := (hD.drewN 1).setText (b := d.line[j].block) hq.2
        rw [← Di.part_succ hlt] at hst
        have ST := Lib.hid hst
        clear hD hC hq hst q0 q1 hqb e1 e2
        generalize (Di.part d j).blocks.getD (d.line[j].block) [] = told at *
        generalize d.line[j].block = bk at *
        generalize (⟨d.line[j].text.toArray⟩ : ByteArray) = TX at *
        go_wp2_with fail
        refine wp_region_still_tail 21 (by kernel_rfl) (by kernel_rfl) ?_
        change wpStill _ _ wr.drew (fun a' => wpList _ _ _ _ a' wr.drew) _ _
        simp only [List.take_succ_cons, List.take_zero, List.drop_succ_cons, List.drop_zero]
        repeat still_step
        refine wpStill_nil ?_
        go_wp2
        go_roundw
        case rel => exact ⟨j + 1, by omega, .inl (by omega), by simp, ST.out.1, HC.out.drew.trans (ST.out.2.weak (fun i hi => .inr (.inl hi)))⟩
        case measure => simp [intOf]; omega
      · have j1 : ¬ (j : Int) < (d.line.length : Int) := by omega
        obtain ⟨d2, k2⟩ := hD.endLine
        have e : ({ Di.part d j with line := [] } : Dk) = settleR d n.toNat := by
          show (⟨put d.blocks (d.line.take j), d.owners, d.exts, [], d.on, d.armed⟩ : Dk) = ⟨put d.blocks (d.line.take n.toNat), d.owners, d.exts, [], d.on, d.armed⟩
          rw [put_take hj hjn (fun x => hlt x.2)]
        rw [e] at d2
        have f2 := hD.head.frozen 2
        have FIN := Lib.hid (And.intro d2 (hC.trans (k2.weak (fun i hi => .inl hi))))
        clear hD hC d2 k2 e e1 e2
        go_wp2
        go_end0
        exact ⟨rfl, FIN.out⟩
    · obtain ⟨d2, k2⟩ := hD.endLine
      have e : ({ Di.part d j with line := [] } : Dk) = settleR d n.toNat := by
        show (⟨put d.blocks (d.line.take j), d.owners, d.exts, [], d.on, d.armed⟩ : Dk) = ⟨put d.blocks (d.line.take n.toNat), d.owners, d.exts, [], d.on, d.armed⟩
        rw [put_take hj hjn (fun x => hn x.1)]
      rw [e] at d2
      have f2 := hD.head.frozen 2
      have FIN := Lib.hid (And.intro d2 (hC.trans (k2.weak (fun i hi => .inl hi))))
      clear hD hC d2 k2 e e1 e2
      go_wp2
      go_end0
      exact ⟨rfl, FIN.out⟩

set_option maxRecDepth 100000 in
set_option maxHeartbeats 2000000 in
theorem same_any (h : RefAt w gm bt bo ct co Al cl d) {q : Nat} (c : Nat) (t : Texts w q d.blocks d.blocks.length) :
    Calls Try.prog 13 #[.slice (some ⟨q, 0, none⟩) d.blocks.length c, .slice (some ⟨bt, 0, none⟩) d.blocks.length ct] w fun e w' => e = .returned (.bool true) ∧ Below w.heap.size w w' := by
  have hL : d.blocks.length ≤ 512 := h.ok.n2
  have H := Lib.hid h
  have T := Lib.hid t
  have e0 : ((d.blocks.length : Int) == (d.blocks.length : Int)) = true := by simp
  clear h t
  go_enter Try.func13, Try.ntmps13
  go_wp2
  go_loopw [5] (fun i wr => ∃ (j m : Nat), j ≤ d.blocks.length ∧ i = .int .i64 (j : Int) ∧ wr = w.drewN m) (fun i _ => d.blocks.length - (intOf i).toNat)
  case atStart => exact ⟨0, 0, Nat.zero_le _, rfl, by rw [World.drewN_zero]⟩
  case round =>
    obtain ⟨j, m, hj, rfl, rfl⟩ := hrel
    by_cases hlt : j < d.blocks.length
    · have j1 : (j : Int) < (d.blocks.length : Int) := by omega
      have j0 : (0 : Int) ≤ (j : Int) := by omega
      have xj := IntWalk.i64_in ((j : Int) + 1) (by omega)
      have q0 := T.out.cell hlt hlt
      have q1 := H.out.textC hlt
      have e : d.blocks.getD j [] = d.blocks[j] := by rw [List.getD_eq_getElem?_getD, List.getElem?_eq_getElem hlt]; rfl
      rw [e] at q1
      generalize (⟨d.blocks[j].toArray⟩ : ByteArray) = U at *
      clear e
      go_wp2_with fail
      go_quiet (fail)
      go_wp2
      go_roundw
      case rel => exact ⟨j + 1, _, by omega, by simp, by first | exact World.drewN_drewN _ _ _ | rfl⟩
      case measure => simp [intOf]; omega
    · have hge : ¬ (j : Int) < (d.blocks.length : Int) := by omega
      go_wp2
      go_ret
      exact ⟨rfl, ((Chg.refl w (fun _ => False)).drewN m).below (Nat.le_refl _) (fun _ s => s.elim)⟩
end
end Go.Proofs.Ythnapmcjnfeimaa.RD
