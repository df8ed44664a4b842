/- Package disk: Image; what no disk answers. Conditions: those that each states. -/
import Derived.Test.YthnapmcjnfeimaaDk4
namespace Go.Proofs.Ythnapmcjnfeimaa.Di
open Go.ChangeShapes Go.WideShapes Go.ChangeAt Go.RowKit Go.Deep
set_option linter.unusedVariables false

theorem str_infos : (Try.prog.info? 9).map (fun i => (i.zero, i.size, i.bytes)) = some (some (.string ⟨#[]⟩), 1, 16) := by kernel_rfl
theorem make_strs (n : Nat) (hn : n ≤ 512) (W : World) :
    (Instr.makeSlice 36 (.int .i64 (n : Int)) (.int .i64 (n : Int))).run Try.prog W = .ok (.slice (some ⟨W.heap.size, 0, none⟩) n n) (W.alloc (.cells (madeCells #[.string ⟨#[]⟩] n) 9)) := by
  obtain ⟨i, hi, hs⟩ := Option.map_eq_some_iff.1 str_infos
  simp only [Prod.mk.injEq] at hs
  obtain ⟨h0, h1, h2⟩ := hs
  have hr := run_make (P := Try.prog) W 36 9 i (.string ⟨#[]⟩) Try.underlying36 hi h0 .i64 .i64 (n : Int) (n : Int) (by omega) (by omega) (by rw [h2]; omega) (by omega)
  simp only [h1, Int.toNat_natCast, Nat.mul_one] at hr
  exact hr
/-- The texts of the durable blocks, in block q. -/
def Texts (w : World) (q : Nat) (bs : List (List UInt8)) (n : Nat) : Prop := ∃ cs : Array Value, Blk w q 9 cs ∧ cs.size = bs.length ∧ ∀ j (h : j < bs.length), j < n → cs[j]? = some (.string ⟨(bs[j]).toArray⟩)
section
variable {gb g cl ce q n : Nat} {Al Ae : Option Addr} {d : Dk} {w w' : World} {F S : Nat → Prop} {bs : List (List UInt8)}
theorem Texts.chg (h : Texts w q bs n) (k : Chg w w' S) (hn : ¬ S q) : Texts w' q bs n := by
  obtain ⟨cs, b, hs, hc⟩ := h
  exact ⟨cs, b.chg k hn, hs, hc⟩
theorem Texts.new (h : Texts w q bs n) (k : Below w.heap.size w w') : Texts w' q bs n := h.chg (Chg.of_new k fun _ => False) (fun s => s.elim)
theorem Texts.lt (h : Texts w q bs n) : q < w.heap.size := by
  obtain ⟨cs, b, hs, hc⟩ := h
  exact b.lt
theorem Texts.set (h : Texts w q bs n) (hn : n < bs.length) : Texts (w.setCell ⟨q, n, none⟩ (.string ⟨(bs[n]).toArray⟩)) q bs (n + 1) := by
  obtain ⟨cs, b, hs, hc⟩ := h
  refine ⟨cs.setIfInBounds n (.string ⟨(bs[n]).toArray⟩), b.put _ _, by simpa using hs, fun j hj hlt => ?_⟩
  rw [Array.getElem?_setIfInBounds]
  by_cases e : n = j
  · subst e; rw [if_pos rfl, if_pos (by omega)]
  · rw [if_neg e, hc j hj (by omega)]
theorem Texts.cellAny (h : Texts w q bs n) {j : Nat} (hj : j < bs.length) : ∃ u, w.cell? ⟨q, j, none⟩ = some u := by
  obtain ⟨cs, b, hs, hc⟩ := h
  exact ⟨cs[j]'(by omega), by rw [b.cell, Array.getElem?_eq_getElem (by omega)]⟩
theorem Texts.cell (h : Texts w q bs n) {j : Nat} (hj : j < bs.length) (hn : j < n) : w.cell? ⟨q, j, none⟩ = some (.string ⟨(bs[j]).toArray⟩) := by
  obtain ⟨cs, b, hs, hc⟩ := h
  rw [b.cell, hc j hj hn]
theorem Texts.thaw (h : Texts w q bs n) (j : Nat) : w.frozen? ⟨q, j, none⟩ = false := by
  obtain ⟨cs, b, hs, hc⟩ := h
  exact b.frozen j

set_option maxRecDepth 100000 in
set_option maxHeartbeats 2000000 in
theorem image_at (h : DskAt w gb g Al cl Ae ce d) :
    Calls Try.prog 14 #[.pointer (some ⟨g, 0, none⟩)] w fun e w' => e = .returned (.slice (some ⟨w.heap.size, 0, none⟩) d.blocks.length d.blocks.length) ∧ Texts w' w.heap.size d.blocks d.blocks.length ∧ Below w.heap.size w w' := by
  have c0 := (heads h).1
  have n2 := h.ok.n2
  have hgl := h.head.lt
  have hm := fun W => make_strs d.blocks.length n2 W
  have H := Lib.hid h
  have t0 : Texts (w.alloc (.cells (madeCells #[.string ⟨#[]⟩] d.blocks.length) 9)) w.heap.size d.blocks 0 := ⟨_, Blk.new w _ _, by rw [size_madeCells], fun j hj hlt => absurd hlt (by omega)⟩
  have T0 := Lib.hid t0
  have B0 := Lib.hid ((Below.refl w.heap.size w).alloc (Nat.le_refl _) (.cells (madeCells #[.string ⟨#[]⟩] d.blocks.length) 9))
  generalize madeCells #[.string ⟨#[]⟩] d.blocks.length = Z at *
  clear h t0
  go_enter Try.func14, Try.ntmps14
  go_wp2
  go_loopw [18] (fun i wr => ∃ (j : Nat), j ≤ d.blocks.length ∧ i = .int .i64 (j : Int) ∧ Texts wr w.heap.size d.blocks j ∧ Below w.heap.size w wr) (fun i _ => d.blocks.length - (intOf i).toNat)
  case atStart => exact ⟨0, Nat.zero_le _, rfl, T0.out, B0.out⟩
  case round =>
    obtain ⟨j, hj, rfl, hT, hB⟩ := hrel
    by_cases hlt : j < d.blocks.length
    · have j1 : (j : Int) < (d.blocks.length : Int) := by omega
      have j0 : (0 : Int) ≤ (j : Int) := by omega
      have xj := IntWalk.i64_in ((j : Int) + 1) (by omega)
      have hD := H.out.new hB
      have c0' := (heads hD).1
      have tl := told_str (block_src hD hlt)
      have hcut := run_cut gb (j * 256)
      obtain ⟨u, cu⟩ := hT.cellAny hlt
      have fu := hT.thaw j
      have REL := Lib.hid (And.intro (hT.set hlt) (hB.trans ((Chg.set (S := fun k => k = w.heap.size) wr j (.string ⟨(d.blocks[j]).toArray⟩) rfl).below (by exact hB.size) (fun k hk => by have hk' : k = w.heap.size := hk; omega))))
      clear hT hB hD
      generalize (⟨(d.blocks[j]).toArray⟩ : ByteArray) = tx at *
      go_wp2
      go_roundw
      case rel => exact ⟨j + 1, by omega, by simp, REL.out⟩
      case measure => simp [intOf]; omega
    · have hge : ¬ (j : Int) < (d.blocks.length : Int) := by omega
      obtain rfl : j = d.blocks.length := by omega
      have FIN := Lib.hid (And.intro hT hB)
      clear hT hB
      go_wp2
      go_ret
      exact ⟨rfl, FIN.out⟩
theorem image_any (h : DA w F g d) :
    Calls Try.prog 14 #[.pointer (some ⟨g, 0, none⟩)] w fun e w' => e = .returned (.slice (some ⟨w.heap.size, 0, none⟩) d.blocks.length d.blocks.length) ∧ Texts w' w.heap.size d.blocks d.blocks.length ∧ Below w.heap.size w w' := by
  obtain ⟨gb, Al, cl, Ae, ce, D, hF⟩ := h
  exact image_at D
theorem on_da (h : DA w F g d) : Calls Try.prog 10 #[.pointer (some ⟨g, 0, none⟩)] w fun e w' => e = .returned (.bool d.on) ∧ w' = w := by
  obtain ⟨gb, Al, cl, Ae, ce, D, hF⟩ := h
  exact on_any D
theorem waits_da (h : DA w F g d) : Calls Try.prog 11 #[.pointer (some ⟨g, 0, none⟩)] w fun e w' => e = .returned (.int .i64 (d.line.length : Int)) ∧ w' = w := by
  obtain ⟨gb, Al, cl, Ae, ce, D, hF⟩ := h
  exact waits_any D
theorem size_da (h : DA w F g d) : Calls Try.prog 12 #[.pointer (some ⟨g, 0, none⟩)] w fun e w' => e = .returned (.int .i64 (d.blocks.length : Int)) ∧ w' = w := by
  obtain ⟨gb, Al, cl, Ae, ce, D, hF⟩ := h
  exact size_any D
theorem cut_da (h : DA w F g d) : Calls Try.prog 20 #[.pointer (some ⟨g, 0, none⟩)] w fun e w' => e = .returned (.tuple #[]) ∧ ∃ F', DA w' F' g (cutR d) ∧ Step w w' F F' := by
  obtain ⟨gb, Al, cl, Ae, ce, D, hF⟩ := h
  have hFe : F = foot gb g Al Ae := funext fun k => propext (hF k)
  subst hFe
  refine (cut_any D).mono ?_
  rintro e w' ⟨rfl, a, b⟩
  exact ⟨rfl, _, a.da, b.weak (fun i hi => .inr (.inl hi)), fun k hk => .inl hk⟩
theorem arm_da (h : DA w F g d) (k : Int) (hk : k ≤ 9223372036854775807) : Calls Try.prog 19 #[.pointer (some ⟨g, 0, none⟩), .int .i64 k] w fun e w' => e = .returned (.tuple #[]) ∧ ∃ F', DA w' F' g (armR d k) ∧ Step w w' F F' := by
  obtain ⟨gb, Al, cl, Ae, ce, D, hF⟩ := h
  have hFe : F = foot gb g Al Ae := funext fun k => propext (hF k)
  subst hFe
  refine (arm_any D k hk).mono ?_
  rintro e w' ⟨rfl, a, b⟩
  exact ⟨rfl, _, a.da, b.weak (fun i hi => .inr (.inl hi)), fun k hk => .inl hk⟩
end
end Go.Proofs.Ythnapmcjnfeimaa.Di
