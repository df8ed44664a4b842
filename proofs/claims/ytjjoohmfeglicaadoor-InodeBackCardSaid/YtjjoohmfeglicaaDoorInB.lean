/- Layer 11: what the laws call: the same twice; lists of the one type as the other's; spans. Conditions: those that each states. -/
import Derived.Test.YtjjoohmfeglicaaDoorInM
import Derived.Test.YtjjoohmfeglicaaDoorInA
import Derived.BigQuiet
import Derived.Laws.StructEq
namespace Go.Proofs.YtjjoohmfeglicaaDoor.In
open Go.ChangeShapes Go.WideShapes Go.ChangeAt Go.RowKit Go.Deep Fl Rk Di
set_option linter.unusedVariables false
set_option linter.unusedSimpArgs false

theorem ints_same (A A' : Option Addr) (c c' : Nat) (l : List Int) (w : World) (h : RowG w 1 A l.length c (vi l)) (h' : RowG w 1 A' l.length c' (vi l)) :
    Calls Tryd.prog 25 #[.slice A l.length c, .slice A' l.length c'] w fun e w' => e = .returned (.bool true) ∧ ∃ m, w' = w.drewN m := by
  have hmax : l.length ≤ 9223372036854775807 := Nat.le_trans h.cap h.max
  have H := Lib.hid h
  have H' := Lib.hid h'
  clear h h'
  go_enter Tryd.func25, Tryd.ntmps25
  go_wp2
  go_loopw [5] (fun i wr => ∃ j m : Nat, j ≤ l.length ∧ i = .int .i64 (j : Int) ∧ wr = w.drewN m) (fun i _ => l.length - (intOf i).toNat)
  case atStart => exact ⟨0, 0, Nat.zero_le _, rfl, rfl⟩
  case round =>
    obtain ⟨j, m, hj, rfl, rfl⟩ := hrel
    by_cases hlt : j < l.length
    · have hlt' : (j : Int) < (l.length : Int) := by omega
      have j0 : (0 : Int) ≤ (j : Int) := by omega
      have xj := IntWalk.i64_in ((j : Int) + 1) (by omega)
      obtain ⟨b, o, rfl, hb, c0⟩ := H.out.cell (j := j) (by simpa [vi] using hlt)
      obtain ⟨b', o', rfl, hb', c1⟩ := H'.out.cell (j := j) (by simpa [vi] using hlt)
      simp only [vi, List.getElem_map] at c0 c1
      go_wp2
      go_quiet (fail)
      go_wp2
      go_roundw
      case rel => exact ⟨j + 1, _, by omega, by go_num, rfl⟩
      case measure => simp [intOf]; omega
    · have hlt' : ¬ (j : Int) < (l.length : Int) := by omega
      go_wp2
      go_ret
      exact ⟨rfl, m, rfl⟩
theorem sameRoot_same (g : Int) (A A' : Option Addr) (c c' : Nat) (l : List Int) (w : World) (h : RowG w 1 A l.length c (vi l)) (h' : RowG w 1 A' l.length c' (vi l)) :
    Calls Tryd.prog 8 #[.agg #[.int .i64 g, .slice A l.length c], .agg #[.int .i64 g, .slice A' l.length c']] w fun e w' => e = .returned (.bool true) ∧ Below w.heap.size w w' := by
  have b0 : Below w.heap.size w ((w.alloc (.cells #[.int .i64 g, .slice A l.length c] 24)).alloc (.cells #[.int .i64 g, .slice A' l.length c'] 24)) := ((Below.refl w.heap.size w).alloc (Nat.le_refl _) _).alloc (by simp) _
  have IN := Lib.hid (ints_same A A' c c' l _ (h.new b0) (h'.new b0))
  have B0 := Lib.hid b0
  clear h h' b0
  go_enter Tryd.func8, Tryd.ntmps8
  go_wp2_with fail
  refine IN.out.mono ?_; rintro e w1 ⟨rfl, m, rfl⟩
  go_wp2
  go_ret
  exact ⟨rfl, below_drewN B0.out m⟩

set_option maxRecDepth 100000 in
theorem dir_any (A : Option Addr) (c : Nat) (l : List Ent) (w : World) (h : RowG w 2 A l.length c (ve l)) (hl : l.length ≤ 100) :
    Calls Tryd.prog 10 #[.slice A l.length c] w fun e w' => ∃ A' c', e = .returned (.slice A' l.length c') ∧ RowG w' 2 A' l.length c' (ve l) ∧ Below w.heap.size w w' := by
  have H := Lib.hid h
  clear h
  obtain ⟨i0, z0, inf⟩ := ent_info
  have INF := Lib.hid inf
  clear inf
  go_enter Tryd.func10, Tryd.ntmps10
  go_wp2
  go_loopw [4, 3] (fun i sl wr => ∃ (j : Nat) (A' : Option Addr) (c' : Nat), j ≤ l.length ∧ i = .int .i64 (j : Int) ∧ sl = .slice A' j c' ∧ Hid (RowW wr 65 2 A' j c' (ve (l.take j))) ∧ Hid (∀ b, inB A' b → w.heap.size ≤ b) ∧ Hid (Below w.heap.size w wr)) (fun i _ _ => l.length - (intOf i).toNat)
  case atStart => exact ⟨0, none, 0, Nat.zero_le _, rfl, rfl, Lib.hid (RowW.nil _ _ _), Lib.hid (fun b e => (inB_none b e).elim), Lib.hid (Below.refl _ _)⟩
  case round =>
    obtain ⟨j, A', c', hj, rfl, rfl, RW, FR, BL⟩ := hrel
    by_cases hlt : j < l.length
    · have hlt' : (j : Int) < (l.length : Int) := by omega
      have j0 : (0 : Int) ≤ (j : Int) := by omega
      have xj := IntWalk.i64_in ((j : Int) + 1) (by omega)
      obtain ⟨b, o, rfl, hb, c0, c1⟩ := ent_cells (H.out.new BL.out) hlt
      have TS := Lib.hid (show ve (l.take (j + 1)) = ve (l.take j) ++ [.string ⟨l[j].name.toArray⟩, .int .i64 l[j].ino] from by rw [List.take_succ_eq_append_getElem hlt, ve_snoc])
      generalize l[j].name = nm at *
      generalize l[j].ino = v at *
      have RO := Lib.hid RW.out.own
      go_wp2_with (refine wpList_append_W rfl _ _ 39 65 rfl Tryd.underlying39 i0 z0 2 24 INF.out.1 INF.out.2.1 INF.out.2.2.2.1 INF.out.2.2.2.2 INF.out.2.2.1 (by decide) (by decide) rfl RO.out [.string ⟨nm.toArray⟩, .int .i64 v] rfl rfl (one_ent _ _) (by omega) ?_; refine Hid.out ?_)
      unfold Hid
      intro g8 cap8 w8 o8 k8 at8
      have O8 := Lib.hid (show RowW w8 65 2 (some ⟨g8, 0, none⟩) (j + 1) cap8 (ve (l.take (j + 1))) from ⟨by rw [TS.out]; exact o8.own⟩)
      have F8 := Lib.hid (show ∀ b, inB (some ⟨g8, 0, none⟩) b → w.heap.size ≤ b from fun b e => by
        rw [inB_some e]
        exact at8.elim (fun h => FR.out _ h) (fun h => Nat.le_trans BL.out.size h))
      have B8 := Lib.hid (show Below w.heap.size w w8 from ⟨k8.os.trans BL.out.os, k8.tape.trans BL.out.tape, k8.output.trans BL.out.output, Nat.le_trans BL.out.size k8.size, fun i hi => (k8.block i (Nat.lt_of_lt_of_le hi BL.out.size) (fun e => by have := FR.out _ e; omega)).trans (BL.out.block i hi)⟩)
      clear o8 k8 at8
      go_wp2
      go_roundw
      case rel => exact ⟨j + 1, _, _, by omega, by go_num, rfl, O8, F8, B8⟩
      case measure => simp [intOf]; omega
    · have hlt' : ¬ (j : Int) < (l.length : Int) := by omega
      obtain rfl : j = l.length := by omega
      go_wp2
      go_ret
      refine ⟨A', c', rfl, ?_, BL.out⟩
      have := rowG_of RW.out
      rwa [List.take_length] at this

theorem rent_info : ∃ i0 z, Tryd.prog.info? 66 = some i0 ∧ i0.zero = some z ∧ z.cells.size = 2 ∧ i0.size = 2 ∧ i0.bytes = 24 := by
  obtain ⟨i, hi, hs⟩ := Option.map_eq_some_iff.1 (show (Tryd.prog.info? 66).map (fun i => (i.zero.map (·.cells.size), i.size, i.bytes)) = some (some 2, 2, 24) by kernel_rfl)
  simp only [Prod.mk.injEq] at hs
  obtain ⟨h0, h1, h2⟩ := hs
  obtain ⟨z, hz, hzs⟩ := Option.map_eq_some_iff.1 h0
  exact ⟨i, z, hi, hz, hzs, h1, h2⟩

set_option maxRecDepth 100000 in
theorem undir_any (A : Option Addr) (c : Nat) (l : List Ent) (w : World) (h : RowG w 2 A l.length c (ve l)) (hl : l.length ≤ 100) :
    Calls Tryd.prog 13 #[.slice A l.length c] w fun e w' => ∃ A' c', e = .returned (.slice A' l.length c') ∧ RowG w' 2 A' l.length c' (ve l) ∧ Below w.heap.size w w' := by
  have H := Lib.hid h
  clear h
  obtain ⟨i0, z0, inf⟩ := rent_info
  have INF := Lib.hid inf
  clear inf
  go_enter Tryd.func13, Tryd.ntmps13
  go_wp2
  go_loopw [4, 3] (fun i sl wr => ∃ (j : Nat) (A' : Option Addr) (c' : Nat), j ≤ l.length ∧ i = .int .i64 (j : Int) ∧ sl = .slice A' j c' ∧ Hid (RowW wr 66 2 A' j c' (ve (l.take j))) ∧ Hid (∀ b, inB A' b → w.heap.size ≤ b) ∧ Hid (Below w.heap.size w wr)) (fun i _ _ => l.length - (intOf i).toNat)
  case atStart => exact ⟨0, none, 0, Nat.zero_le _, rfl, rfl, Lib.hid (RowW.nil _ _ _), Lib.hid (fun b e => (inB_none b e).elim), Lib.hid (Below.refl _ _)⟩
  case round =>
    obtain ⟨j, A', c', hj, rfl, rfl, RW, FR, BL⟩ := hrel
    by_cases hlt : j < l.length
    · have hlt' : (j : Int) < (l.length : Int) := by omega
      have j0 : (0 : Int) ≤ (j : Int) := by omega
      have xj := IntWalk.i64_in ((j : Int) + 1) (by omega)
      obtain ⟨b, o, rfl, hb, c0, c1⟩ := ent_cells (H.out.new BL.out) hlt
      have TS := Lib.hid (show ve (l.take (j + 1)) = ve (l.take j) ++ [.string ⟨l[j].name.toArray⟩, .int .i64 l[j].ino] from by rw [List.take_succ_eq_append_getElem hlt, ve_snoc])
      generalize l[j].name = nm at *
      generalize l[j].ino = v at *
      have RO := Lib.hid RW.out.own
      go_wp2_with (refine wpList_append_W rfl _ _ 25 66 rfl Tryd.underlying25 i0 z0 2 24 INF.out.1 INF.out.2.1 INF.out.2.2.2.1 INF.out.2.2.2.2 INF.out.2.2.1 (by decide) (by decide) rfl RO.out [.string ⟨nm.toArray⟩, .int .i64 v] rfl rfl (one_ent _ _) (by omega) ?_; refine Hid.out ?_)
      unfold Hid
      intro g8 cap8 w8 o8 k8 at8
      have O8 := Lib.hid (show RowW w8 66 2 (some ⟨g8, 0, none⟩) (j + 1) cap8 (ve (l.take (j + 1))) from ⟨by rw [TS.out]; exact o8.own⟩)
      have F8 := Lib.hid (show ∀ b, inB (some ⟨g8, 0, none⟩) b → w.heap.size ≤ b from fun b e => by
        rw [inB_some e]
        exact at8.elim (fun h => FR.out _ h) (fun h => Nat.le_trans BL.out.size h))
      have B8 := Lib.hid (show Below w.heap.size w w8 from ⟨k8.os.trans BL.out.os, k8.tape.trans BL.out.tape, k8.output.trans BL.out.output, Nat.le_trans BL.out.size k8.size, fun i hi => (k8.block i (Nat.lt_of_lt_of_le hi BL.out.size) (fun e => by have := FR.out _ e; omega)).trans (BL.out.block i hi)⟩)
      clear o8 k8 at8
      go_wp2
      go_roundw
      case rel => exact ⟨j + 1, _, _, by omega, by go_num, rfl, O8, F8, B8⟩
      case measure => simp [intOf]; omega
    · have hlt' : ¬ (j : Int) < (l.length : Int) := by omega
      obtain rfl : j = l.length := by omega
      go_wp2
      go_ret
      refine ⟨A', c', rfl, ?_, BL.out⟩
      have := rowG_of RW.out
      rwa [List.take_length] at this

theorem sameDir_same (A A' : Option Addr) (c c' : Nat) (l : List Ent) (w : World) (h : RowG w 2 A l.length c (ve l)) (h' : RowG w 2 A' l.length c' (ve l)) :
    Calls Tryd.prog 12 #[.slice A l.length c, .slice A' l.length c'] w fun e w' => e = .returned (.bool true) ∧ ∃ m, w' = w.drewN m := by
  have hmax : l.length ≤ 9223372036854775807 := Nat.le_trans h.cap h.max
  have H := Lib.hid h
  have H' := Lib.hid h'
  clear h h'
  go_enter Tryd.func12, Tryd.ntmps12
  go_wp2
  go_loopw [5] (fun i wr => ∃ j m : Nat, j ≤ l.length ∧ i = .int .i64 (j : Int) ∧ wr = w.drewN m) (fun i _ => l.length - (intOf i).toNat)
  case atStart => exact ⟨0, 0, Nat.zero_le _, rfl, rfl⟩
  case round =>
    obtain ⟨j, m, hj, rfl, rfl⟩ := hrel
    by_cases hlt : j < l.length
    · have hlt' : (j : Int) < (l.length : Int) := by omega
      have j0 : (0 : Int) ≤ (j : Int) := by omega
      have xj := IntWalk.i64_in ((j : Int) + 1) (by omega)
      obtain ⟨b, o, rfl, hb, c0, c1⟩ := ent_cells H.out hlt
      obtain ⟨b', o', rfl, hb', d0, d1⟩ := ent_cells H'.out hlt
      generalize l[j].name = nm at *
      generalize l[j].ino = v at *
      go_wp2
      go_quiet (fail)
      go_wp2
      go_roundw
      case rel => exact ⟨j + 1, _, by omega, by go_num, rfl⟩
      case measure => simp [intOf]; omega
    · have hlt' : ¬ (j : Int) < (l.length : Int) := by omega
      go_wp2
      go_ret
      exact ⟨rfl, m, rfl⟩
theorem span_any (v m : Int) (Q : Nat) (A A' : Option Addr) (n c n' c' i : Nat) (w : World) (hQ : Q ≤ 8192) (hn : n = (Q + 255) / 256) (hi : i < n) :
    Calls Tryd.prog 19 #[.agg #[.int .i64 v, .int .i64 m, .int .i64 (Q : Int), .slice A n c, .slice A' n' c'], .int .i64 (i : Int)] w fun e w' => e = .returned (.int .i64 (spanR Q i : Nat)) ∧ Below w.heap.size w w' := by
  have B0 := Lib.hid ((Below.refl w.heap.size w).alloc (Nat.le_refl _) (.cells #[.int .i64 v, .int .i64 m, .int .i64 (Q : Int), .slice A n c, .slice A' n' c'] 48))
  have i0 : ¬ (i : Int) < 0 := by omega
  have i1 : ¬ (i : Int) ≥ (n : Int) := by omega
  have hq0 : (Q : Int).tdiv 256 = ((Q / 256 : Nat) : Int) := by rw [Int.tdiv_eq_ediv_of_nonneg (by omega)]; omega
  have hq1 : (Q : Int) % 256 = ((Q % 256 : Nat) : Int) := by omega
  by_cases hf : i < Q / 256
  · have R := Lib.hid (show spanR Q i = 256 from by unfold spanR; omega)
    have hf' : (i : Int) < ((Q / 256 : Nat) : Int) := by omega
    clear hn
    have hF32 : Q / 256 ≤ 32 := by omega
    generalize Q / 256 = F at *
    have hw := IntWalk.i64_in (F : Int) (by omega)
    go_enter Tryd.func19, Tryd.ntmps19
    go_wp2
    go_ret
    exact ⟨by rw [R.out]; rfl, B0.out⟩
  · have R := Lib.hid (show spanR Q i = Q % 256 from by unfold spanR; omega)
    obtain ⟨F, hF⟩ : ∃ F, Q / 256 = F := ⟨_, rfl⟩
    obtain rfl : i = F := by omega
    rw [hF] at hq0
    obtain ⟨G, hG⟩ : ∃ G, Q % 256 = G := ⟨_, rfl⟩
    rw [hG] at hq1 R
    have hw := IntWalk.i64_in (i : Int) (by omega)
    have hm := Int.max_eq_left (a := (G : Int)) (b := 0) (by omega)
    clear hn hf hF hG
    go_enter Tryd.func19, Tryd.ntmps19
    go_wp2
    go_ret
    exact ⟨by rw [R.out]; rfl, B0.out⟩
end Go.Proofs.YtjjoohmfeglicaaDoor.In
