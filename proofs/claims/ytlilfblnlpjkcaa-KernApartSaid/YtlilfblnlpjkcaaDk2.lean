/- Package disk: New, Cut, Arm, Grant. Conditions: those that each states. -/
import Derived.Test.YtlilfblnlpjkcaaDk1
namespace Go.Proofs.Ytlilfblnlpjkcaa.Di
open Go.ChangeShapes Go.WideShapes Go.ChangeAt Go.RowKit Go.Deep
set_option linter.unusedVariables false

theorem page_info : (Try.prog.info? 125).map (fun i => (i.zero.map (·.cells), i.size, i.bytes)) = some (some (bys zeros).toArray, 256, 256) := by kernel_rfl
theorem make_pages (n : Nat) (hn : n ≤ 512) (W : World) :
    (Instr.makeSlice 110 (.int .i64 (n : Int)) (.int .i64 (n : Int))).run Try.prog W = .ok (.slice (some ⟨W.heap.size, 0, none⟩) n n) (W.alloc (.cells (madeCells (bys zeros).toArray (n * 256)) 125)) := by
  obtain ⟨i, hi, hs⟩ := Option.map_eq_some_iff.1 page_info
  simp only [Prod.mk.injEq] at hs
  obtain ⟨h0, h1, h2⟩ := hs
  obtain ⟨z, hz, hzc⟩ := Option.map_eq_some_iff.1 h0
  have hr := run_make (P := Try.prog) W 110 125 i z Try.underlying110 hi hz .i64 .i64 (n : Int) (n : Int) (by omega) (by omega) (by rw [h2]; omega) (by omega)
  simp only [h1, hzc, Int.toNat_natCast] at hr
  exact hr
theorem bys_zeros : bys zeros = List.replicate 256 (.int .u8 0) := by
  unfold bys zeros
  rw [List.map_replicate]; rfl
set_option maxRecDepth 100000 in
theorem made_blocks (n : Nat) : madeCells (bys zeros).toArray (n * 256) = (blocksC (List.replicate n zeros)).toArray := by
  have e1 : blocksC (List.replicate n zeros) = List.replicate (n * 256) (.int .u8 0) := by
    unfold blocksC
    rw [List.map_replicate, bys_zeros, List.flatten_replicate_replicate]
  rw [e1, bys_zeros]
  unfold madeCells
  apply Array.ext
  · rw [Array.size_map, Array.size_range, List.size_toArray, List.length_replicate]
  · intro i h1 h2
    have hs : (List.replicate 256 (Value.int .u8 0)).toArray.size = 256 := by rw [List.size_toArray, List.length_replicate]
    simp only [Array.getElem_map, Array.getElem_range, List.getElem_toArray, List.getElem_replicate, hs]
    have hi : i % 256 < (List.replicate 256 (Value.int .u8 0)).toArray.size := by rw [hs]; exact Nat.mod_lt _ (by decide)
    rw [getElem!_pos (List.replicate 256 (Value.int .u8 0)).toArray (i % 256) hi, List.getElem_toArray, List.getElem_replicate]

set_option maxRecDepth 100000 in
theorem new_ok (n : Nat) (w : World) (h1 : 1 ≤ n) (h2 : n ≤ 512) :
    Calls Try.prog 21 #[.int .i64 (n : Int)] w fun e w' => e = .returned (.tuple #[.pointer (some ⟨w.heap.size + 1, 0, none⟩), .int .i64 0]) ∧ DskAt w' w.heap.size (w.heap.size + 1) none 0 none 0 (newD n) ∧ Below w.heap.size w w' ∧ w'.heap.size = w.heap.size + 2 := by
  have g1 : ¬ (n : Int) < 1 := by omega
  have g2 : ¬ (n : Int) > 512 := by omega
  have fin : ∀ W1 W2 : World, W1 = w.alloc (.cells (madeCells (bys zeros).toArray (n * 256)) 125) → W2 = W1.alloc (.cells #[.slice (some ⟨w.heap.size, 0, none⟩) n n, .slice none 0 0, .slice none 0 0, .bool true, .int .i64 (-1)] 114) → DskAt W2 w.heap.size (w.heap.size + 1) none 0 none 0 (newD n) ∧ Below w.heap.size w W2 ∧ W2.heap.size = w.heap.size + 2 := by
    rintro W1 W2 rfl rfl
    refine ⟨⟨?_, ?_, RowW.nil _ _ _, RowW.nil _ _ _, by omega, inB_none _, inB_none _, inB_none _, inB_none _, fun b h => (inB_none _ h).elim, newD_ok h1 h2⟩, ((Below.refl _ w).alloc (Nat.le_refl _) _).alloc (by simp) _, by simp⟩
    · have := Blk.new (w.alloc (.cells (madeCells (bys zeros).toArray (n * 256)) 125)) 114 #[.slice (some ⟨w.heap.size, 0, none⟩) n n, .slice none 0 0, .slice none 0 0, .bool true, .int .i64 (-1)]
      simpa [newD] using this
    · have := (Blk.new w 125 (madeCells (bys zeros).toArray (n * 256))).alloc (.cells #[.slice (some ⟨w.heap.size, 0, none⟩) n n, .slice none 0 0, .slice none 0 0, .bool true, .int .i64 (-1)] 114)
      rw [made_blocks] at this ⊢
      exact this
  have FIN := Lib.hid fin
  have hm := fun W => make_pages n h2 W
  clear fin
  generalize madeCells (bys zeros).toArray (n * 256) = Z at *
  go_enter Try.func21, Try.ntmps21
  go_wp2
  go_ret2
  exact ⟨rfl, FIN.out _ _ rfl rfl⟩
theorem new_no (n : Int) (w : World) (h : n < 1 ∨ 512 < n) :
    Calls Try.prog 21 #[.int .i64 n] w fun e w' => e = .returned (.tuple #[.pointer none, .int .i64 1]) ∧ w' = w := by
  by_cases h1 : n < 1
  · clear h
    go_enter Try.func21, Try.ntmps21
    go_wp2
    go_ret2
    exact ⟨rfl, rfl⟩
  · have h2 : n > 512 := by omega
    clear h
    go_enter Try.func21, Try.ntmps21
    go_wp2
    go_ret2
    exact ⟨rfl, rfl⟩

section
variable {gb g cl ce : Nat} {Al Ae : Option Addr} {d d' : Dk} {w w' : World}
theorem rehead (h : DskAt w gb g Al cl Ae ce d) (k : Chg w w' (fun k => k = g)) (e1 : d'.blocks = d.blocks) (e2 : d'.line = d.line) (e3 : d'.exts = d.exts)
    (hd : Blk w' g 114 #[.slice (some ⟨gb, 0, none⟩) d.blocks.length d.blocks.length, .slice Al d.line.length cl, .slice Ae d.exts.length ce, .bool d'.on, .int .i64 d'.armed]) (ok : d'.Ok) : DskAt w' gb g Al cl Ae ce d' :=
  ⟨by rw [e1, e2, e3]; exact hd, by rw [e1]; exact h.tab.chg k h.ne, by rw [e2]; exact h.line.chg k (fun b hb e => h.lg (by have e' : b = g := e; rw [← e']; exact hb)), by rw [e3]; exact h.exts.chg k (fun b hb e => h.eg (by have e' : b = g := e; rw [← e']; exact hb)), h.ne, h.lb, h.lg, h.eb, h.eg, h.le, ok⟩
theorem cut_at (h : DskAt w gb g Al cl Ae ce d) : DskAt ((w.setCell ⟨g, 3, none⟩ (.bool false)).setCell ⟨g, 4, none⟩ (.int .i64 (-1))) gb g Al cl Ae ce (cutR d) ∧ Chg w ((w.setCell ⟨g, 3, none⟩ (.bool false)).setCell ⟨g, 4, none⟩ (.int .i64 (-1))) (fun k => k = g) := by
  have k := (Chg.set (S := fun k => k = g) w 3 (.bool false) rfl).trans (Chg.set (S := fun k => k = g) (w.setCell ⟨g, 3, none⟩ (.bool false)) 4 (.int .i64 (-1)) rfl)
  refine ⟨rehead h k rfl rfl rfl ?_ h.ok.cut, k⟩
  have := (h.head.put 3 (.bool false)).put 4 (.int .i64 (-1))
  simp at this
  exact this
theorem cut_any (h : DskAt w gb g Al cl Ae ce d) :
    Calls Try.prog 56 #[.pointer (some ⟨g, 0, none⟩)] w fun e w' => e = .returned (.tuple #[]) ∧ DskAt w' gb g Al cl Ae ce (cutR d) ∧ Chg w w' (fun k => k = g) := by
  have c3 := (heads h).2.2.2.1
  have c4 := (heads h).2.2.2.2
  have f3 := h.head.frozen 3
  have f4 := h.head.frozen 4
  have FIN := Lib.hid (cut_at h)
  clear h
  go_enter Try.func56, Try.ntmps56
  go_wp2
  go_end0
  exact ⟨rfl, FIN.out⟩
theorem arm_at (h : DskAt w gb g Al cl Ae ce d) (k : Int) (hk : k ≤ 9223372036854775807) (n : Nat) : DskAt ((w.drewN n).setCell ⟨g, 4, none⟩ (.int .i64 (armR d k).armed)) gb g Al cl Ae ce (armR d k) ∧ Chg w ((w.drewN n).setCell ⟨g, 4, none⟩ (.int .i64 (armR d k).armed)) (fun k => k = g) := by
  have kk := ((Chg.refl w (fun k => k = g)).drewN n).trans (Chg.set (S := fun k => k = g) (w.drewN n) 4 (.int .i64 (armR d k).armed) rfl)
  refine ⟨rehead h kk rfl rfl rfl ?_ (h.ok.arm hk), kk⟩
  have := (h.head.drewN n).put 4 (.int .i64 (armR d k).armed)
  simp at this
  exact this
end
end Go.Proofs.Ytlilfblnlpjkcaa.Di
