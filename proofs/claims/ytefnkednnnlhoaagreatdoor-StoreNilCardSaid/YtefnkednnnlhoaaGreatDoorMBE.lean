/- Package store: slices.Chunk, ranged over. Conditions: those that each states. -/
import Derived.Test.YtefnkednnnlhoaaGreatDoorMBD
import Derived.Test.YtefnkednnnlhoaaGreatDoorPa3
namespace Go.Proofs.YtefnkednnnlhoaaGreatDoor.Sr
open Go.ChangeShapes Go.WideShapes Go.ChangeAt Go.RowKit Go.Deep Go.Shelf Fr Di Ke Rk
set_option linter.unusedVariables false
set_option linter.unusedSimpArgs false
attribute [local go_sem] Oper.semAt_some

theorem cutI_b : (Tryz.prog.info? (Tryz.prog.elem 31)).map (·.size) = some 1 := by kernel_rfl
theorem cut1_b (A : Option Addr) (n c i : Nat) (h : i ≤ n) (W : World) :
    (Instr.slice 31 (.slice A n c) (some (.int .i64 (i : Int))) none none).run Tryz.prog W = .ok (.slice (if c = i then A else A.map (·.add (i * 1))) (n - i) (c - i)) W := by
  have ht : Tryz.prog.underlying 31 = some (.slice (Tryz.prog.elem 31)) := by kernel_rfl
  obtain ⟨u, hu, hs⟩ := Option.map_eq_some_iff.1 cutI_b
  rw [run_slice_l W 31 A n c ht .i64 (i : Int) (by omega) (by omega)]
  simp [sliced, sizeOf, typeInfo, hu, hs]
theorem cut3_b (A : Option Addr) (n c i e : Nat) (h : i + e ≤ c) (W : World) :
    (Instr.slice 31 (.slice A n c) (some (.int .i64 (i : Int))) (some (.int .i64 ((i : Int) + (e : Int)))) (some (.int .i64 ((i : Int) + (e : Int))))).run Tryz.prog W = .ok (.slice (if i + e = i then A else A.map (·.add (i * 1))) e e) W := by
  have ht : Tryz.prog.underlying 31 = some (.slice (Tryz.prog.elem 31)) := by kernel_rfl
  obtain ⟨u, hu, hs⟩ := Option.map_eq_some_iff.1 cutI_b
  rw [run_slice_lhm W 31 A n c ht .i64 .i64 .i64 (i : Int) ((i : Int) + (e : Int)) ((i : Int) + (e : Int)) (by omega) (by omega) (by omega) (by omega)]
  have e1 : ((i : Int) + (e : Int)).toNat = i + e := by omega
  simp [sliced, sizeOf, typeInfo, hu, hs, e1]
/-- A piece. -/
def pc_b (A : Option Addr) (n k : Nat) : Value := .slice (A.map (·.add (k * 256 * 1))) (min 256 (n - k * 256)) (min 256 (n - k * 256))
set_option maxRecDepth 100000 in
set_option maxHeartbeats 4000000 in
/-- What Chunk's function does, whatever is done in the rounds. -/
theorem chunk_in_b (d : Nat) (l B1 B2 : Nat) (A : Option Addr) (n c : Nat) (hn : n ≤ 100000) (hc : n ≤ c) (J : Nat → World → Prop)
    (hJc : ∀ k W, J k W → W.cell? ⟨B1, 0, none⟩ = some (.slice A n c) ∧ W.cell? ⟨B2, 0, none⟩ = some (.int .i64 256)) (hJd : ∀ k q W, J k W → J k (W.drewN q))
    (hY : ∀ k W, J k W → k * 256 < n → YieldAt Fence.wide (d - 1) Tryz.prog l #[pc_b A n k] W fun e W' => e = .returned (.bool true) ∧ J (k + 1) W')
    (W : World) (h0 : J 0 W) :
    CallsIn Fence.wide d Tryz.prog 119 #[.func (.yield l) #[] #[], .pointer (some ⟨B1, 0, none⟩), .pointer (some ⟨B2, 0, none⟩)] W fun e W' => (∃ v, e = .returned v) ∧ J ((n + (256 - 1)) / 256) W' := by
  refine callsIn_of_wp Tryz.func119 rfl trivial ?_ rfl
  simp only [Tryz.ntmps119, List.size_toArray, List.length_cons, List.length_nil, Nat.reduceAdd, Nat.reduceSub, Array.replicate_succ, Array.replicate_zero, List.push_toArray, List.append_toArray, List.nil_append, List.cons_append]
  have HJC := Lib.hid hJc
  have HJD := Lib.hid hJd
  have HY := Lib.hid hY
  have H0 := Lib.hid h0
  clear hJc hJd hY h0
  gi_wp2
  gi_loopw [4] (fun iv wr => ∃ k, iv = .int .i64 ((k * 256 : Nat) : Int) ∧ k ≤ (n + (256 - 1)) / 256 ∧ Hid (J k wr)) (fun iv _ => n - (intOf iv).toNat)
  case atStart => exact ⟨0, by simp, Nat.zero_le _, H0⟩
  case round =>
    clear H0
    obtain ⟨k, rfl, hk, HJ⟩ := hrel
    obtain ⟨c1, c2⟩ := HJC.out _ _ HJ.out
    obtain ⟨i, hi⟩ : ∃ i, k * 256 = i := ⟨_, rfl⟩
    rw [hi]
    by_cases hlt : i < n
    · have hlt' : (i : Int) < (n : Int) := by omega
      obtain ⟨e, he⟩ : ∃ e, min 256 (n - i) = e := ⟨_, rfl⟩
      have hme : min (256 : Int) ((n - i : Nat) : Int) = (e : Int) := by omega
      have e1 : 0 < e := by omega
      have C1 := fun W => cut1_b A n c i (by omega) W
      have xw := IntWalk.i64_in ((i : Int) + (e : Int)) (by omega)
      have xm := IntWalk.i64_in ((i : Int) + 256) (by omega)
      have C3 := fun W => cut3_b A n c i e (by omega) W
      rw [if_neg (by omega)] at C3
      have PV : pc_b A n k = .slice (A.map (·.add (i * 1))) e e := by unfold pc_b; rw [hi, he]
      gi_wp2
      refine wpIn_wide.2 ?_
      go_quiet (fail)
      have JD := Lib.hid (HJD.out k nq wr HJ.out)
      clear c1 c2 C1 hme HJ
      generalize wr.drewN nq = wd at *
      obtain ⟨c1, c2⟩ := HJC.out _ _ JD.out
      obtain ⟨fn, tmps, assign, body, hy, hR⟩ := HY.out k wd JD.out (by omega)
      rw [PV] at hy
      (try simp only [Nat.mul_one] at hy)
      gi_wp2_with fail
      refine ⟨fun h => (by cases h), hR.mono ?_⟩
      rintro e' W3 ⟨rfl, hJ3⟩
      have J3 := Lib.hid hJ3
      obtain ⟨d1, d2⟩ := HJC.out _ _ hJ3
      clear hJ3 hy hR c1 c2
      gi_wp2
      go_roundw
      case rel => exact ⟨k + 1, by go_num, by omega, J3⟩
      case measure => simp [intOf]; omega
    · have hlt' : ¬ (i : Int) < (n : Int) := by omega
      have hkN : k = (n + (256 - 1)) / 256 := by omega
      have JN := Lib.hid (show J ((n + (256 - 1)) / 256) wr from by rw [← hkN]; exact HJ.out)
      gi_wp2
      go_end0
      exact ⟨⟨_, rfl⟩, JN.out⟩

theorem cutI_f : (Tryz.prog.info? (Tryz.prog.elem 50)).map (·.size) = some 7 := by kernel_rfl
theorem cut1_f (A : Option Addr) (n c i : Nat) (h : i ≤ n) (W : World) :
    (Instr.slice 50 (.slice A n c) (some (.int .i64 (i : Int))) none none).run Tryz.prog W = .ok (.slice (if c = i then A else A.map (·.add (i * 7))) (n - i) (c - i)) W := by
  have ht : Tryz.prog.underlying 50 = some (.slice (Tryz.prog.elem 50)) := by kernel_rfl
  obtain ⟨u, hu, hs⟩ := Option.map_eq_some_iff.1 cutI_f
  rw [run_slice_l W 50 A n c ht .i64 (i : Int) (by omega) (by omega)]
  simp [sliced, sizeOf, typeInfo, hu, hs]
theorem cut3_f (A : Option Addr) (n c i e : Nat) (h : i + e ≤ c) (W : World) :
    (Instr.slice 50 (.slice A n c) (some (.int .i64 (i : Int))) (some (.int .i64 ((i : Int) + (e : Int)))) (some (.int .i64 ((i : Int) + (e : Int))))).run Tryz.prog W = .ok (.slice (if i + e = i then A else A.map (·.add (i * 7))) e e) W := by
  have ht : Tryz.prog.underlying 50 = some (.slice (Tryz.prog.elem 50)) := by kernel_rfl
  obtain ⟨u, hu, hs⟩ := Option.map_eq_some_iff.1 cutI_f
  rw [run_slice_lhm W 50 A n c ht .i64 .i64 .i64 (i : Int) ((i : Int) + (e : Int)) ((i : Int) + (e : Int)) (by omega) (by omega) (by omega) (by omega)]
  have e1 : ((i : Int) + (e : Int)).toNat = i + e := by omega
  simp [sliced, sizeOf, typeInfo, hu, hs, e1]
/-- A piece. -/
def pc_f (A : Option Addr) (n k : Nat) : Value := .slice (A.map (·.add (k * 8 * 7))) (min 8 (n - k * 8)) (min 8 (n - k * 8))
set_option maxRecDepth 100000 in
set_option maxHeartbeats 4000000 in
/-- What Chunk's function does, whatever is done in the rounds. -/
theorem chunk_in_f (d : Nat) (l B1 B2 : Nat) (A : Option Addr) (n c : Nat) (hn : n ≤ 100000) (hc : n ≤ c) (J : Nat → World → Prop)
    (hJc : ∀ k W, J k W → W.cell? ⟨B1, 0, none⟩ = some (.slice A n c) ∧ W.cell? ⟨B2, 0, none⟩ = some (.int .i64 8)) (hJd : ∀ k q W, J k W → J k (W.drewN q))
    (hY : ∀ k W, J k W → k * 8 < n → YieldAt Fence.wide (d - 1) Tryz.prog l #[pc_f A n k] W fun e W' => e = .returned (.bool true) ∧ J (k + 1) W')
    (W : World) (h0 : J 0 W) :
    CallsIn Fence.wide d Tryz.prog 121 #[.func (.yield l) #[] #[], .pointer (some ⟨B1, 0, none⟩), .pointer (some ⟨B2, 0, none⟩)] W fun e W' => (∃ v, e = .returned v) ∧ J ((n + (8 - 1)) / 8) W' := by
  refine callsIn_of_wp Tryz.func121 rfl trivial ?_ rfl
  simp only [Tryz.ntmps121, List.size_toArray, List.length_cons, List.length_nil, Nat.reduceAdd, Nat.reduceSub, Array.replicate_succ, Array.replicate_zero, List.push_toArray, List.append_toArray, List.nil_append, List.cons_append]
  have HJC := Lib.hid hJc
  have HJD := Lib.hid hJd
  have HY := Lib.hid hY
  have H0 := Lib.hid h0
  clear hJc hJd hY h0
  gi_wp2
  gi_loopw [4] (fun iv wr => ∃ k, iv = .int .i64 ((k * 8 : Nat) : Int) ∧ k ≤ (n + (8 - 1)) / 8 ∧ Hid (J k wr)) (fun iv _ => n - (intOf iv).toNat)
  case atStart => exact ⟨0, by simp, Nat.zero_le _, H0⟩
  case round =>
    clear H0
    obtain ⟨k, rfl, hk, HJ⟩ := hrel
    obtain ⟨c1, c2⟩ := HJC.out _ _ HJ.out
    obtain ⟨i, hi⟩ : ∃ i, k * 8 = i := ⟨_, rfl⟩
    rw [hi]
    by_cases hlt : i < n
    · have hlt' : (i : Int) < (n : Int) := by omega
      obtain ⟨e, he⟩ : ∃ e, min 8 (n - i) = e := ⟨_, rfl⟩
      have hme : min (8 : Int) ((n - i : Nat) : Int) = (e : Int) := by omega
      have e1 : 0 < e := by omega
      have C1 := fun W => cut1_f A n c i (by omega) W
      have xw := IntWalk.i64_in ((i : Int) + (e : Int)) (by omega)
      have xm := IntWalk.i64_in ((i : Int) + 8) (by omega)
      have C3 := fun W => cut3_f A n c i e (by omega) W
      rw [if_neg (by omega)] at C3
      have PV : pc_f A n k = .slice (A.map (·.add (i * 7))) e e := by unfold pc_f; rw [hi, he]
      gi_wp2
      refine wpIn_wide.2 ?_
      go_quiet (fail)
      have JD := Lib.hid (HJD.out k nq wr HJ.out)
      clear c1 c2 C1 hme HJ
      generalize wr.drewN nq = wd at *
      obtain ⟨c1, c2⟩ := HJC.out _ _ JD.out
      obtain ⟨fn, tmps, assign, body, hy, hR⟩ := HY.out k wd JD.out (by omega)
      rw [PV] at hy
      (try simp only [Nat.mul_one] at hy)
      gi_wp2_with fail
      refine ⟨fun h => (by cases h), hR.mono ?_⟩
      rintro e' W3 ⟨rfl, hJ3⟩
      have J3 := Lib.hid hJ3
      obtain ⟨d1, d2⟩ := HJC.out _ _ hJ3
      clear hJ3 hy hR c1 c2
      gi_wp2
      go_roundw
      case rel => exact ⟨k + 1, by go_num, by omega, J3⟩
      case measure => simp [intOf]; omega
    · have hlt' : ¬ (i : Int) < (n : Int) := by omega
      have hkN : k = (n + (8 - 1)) / 8 := by omega
      have JN := Lib.hid (show J ((n + (8 - 1)) / 8) wr from by rw [← hkN]; exact HJ.out)
      gi_wp2
      go_end0
      exact ⟨⟨_, rfl⟩, JN.out⟩
end Go.Proofs.YtefnkednnnlhoaaGreatDoor.Sr

/- Package store: a range over slices.Chunk. Conditions: those that each states. -/
namespace Go.Proofs.YtefnkednnnlhoaaGreatDoor.Sr
open Go.ChangeShapes Go.WideShapes Go.ChangeAt Go.RowKit Go.Deep Go.Shelf Fr Di Ke Rk
set_option linter.unusedVariables false
set_option linter.unusedSimpArgs false
attribute [local go_sem] Oper.semAt_some

/-- A range over Chunk: what stands between two rounds, and what a round does. -/
theorem range_b {g : Operand} {t : Tmp} {assign body : Code} {Q : Exit → Act → World → Prop} {a : Act} {w : World} {d : Nat} {B1 B2 : Nat} {A : Option Addr} {n c : Nat}
    (hg : a.eval g = .func (.func 119) #[] #[.pointer (some ⟨B1, 0, none⟩), .pointer (some ⟨B2, 0, none⟩)]) (hn : n ≤ 100000) (hc : n ≤ c)
    (k1 : Blk w B1 31 #[.slice A n c]) (k2 : Blk w B2 3 #[.int .i64 256])
    (I : Nat → World → Prop)
    (hI : ∀ k W W', I k W → Chg W W' (fun j => j = w.heap.size ∨ j = w.heap.size + 1) → I k W') (h0 : I 0 w) (a₁ : Nat → Act)
    (hassign : ∀ (l k : Nat) (W : World) (K : Act → World → Prop), K (a₁ k) W → assign.wpIn (Fence.wide.inRound l) (d - 1 - 1) Tryz.prog (Exit.then K (fun _ _ _ => False)) { tmps := a.tmps.setIfInBounds t (pc_b A n k), defers := [] } W)
    (hbody : ∀ (l k : Nat) (W : World), I k W → k * 256 < n → w.heap.size + 2 ≤ W.heap.size → body.wpIn (Fence.wide.inRound l) (d - 1 - 1) Tryz.prog (fun e _ W' => e = .normal ∧ Chg W W' (fun j => j ≠ B1 ∧ j ≠ B2 ∧ j ≠ w.heap.size ∧ j ≠ w.heap.size + 1) ∧ I (k + 1) W') (a₁ k) W)
    (hdone : ∀ (D : Nat) (W : World), D = w.heap.size → I ((n + (256 - 1)) / 256) W → W.heap[D]? = some (.deferred (some [])) → Q .normal { a with defers := { target := .collected D, args := #[] } :: a.defers } W) :
    (Code.rangeFunc g #[t] assign body).wpIn Fence.wide d Tryz.prog Q a w := by
  refine wpIn_rangeFunc ?_
  intro fn hfn
  obtain ⟨rec, hrec⟩ : ∃ rec : Go.LoopState → Option Code → Loop, rec = fun st pe => { state := st, pending := pe, fn, tmps := a.tmps, params := #[t], assign, body, defers := w.heap.size } := ⟨_, rfl⟩
  obtain ⟨W1, hW1⟩ : ∃ W1, (w.alloc (.deferred (some []))).alloc (.loop (rec .ready none)) = W1 := ⟨_, rfl⟩
  have hL1 : W1.heap[w.heap.size + 1]? = some (.loop (rec .ready none)) := by
    rw [← hW1]
    have := World.alloc_heap_new (w.alloc (.deferred (some []))) (.loop (rec .ready none))
    rwa [World.size_alloc] at this
  have hb1 : Below w.heap.size w W1 := by rw [← hW1]; exact ((Below.refl _ w).alloc (Nat.le_refl _) _).alloc (by simp) _
  have hK1 : W1.heap[w.heap.size]? = some (.deferred (some [])) := by
    rw [← hW1]
    exact (Below.heap_alloc _ _ _ (by simp)).trans (World.alloc_heap_new w _)
  have hz1 : w.heap.size + 2 ≤ W1.heap.size := by rw [← hW1]; simp
  have hc1 : Chg w W1 (fun j => j = w.heap.size ∨ j = w.heap.size + 1) := Chg.of_new hb1 _
  have l1 := k1.lt
  have l2 := k2.lt
  refine ⟨w.heap.size + 1, [{ target := .collected w.heap.size, args := #[] }], W1, { target := .fn (.func 119) #[.pointer (some ⟨B1, 0, none⟩), .pointer (some ⟨B2, 0, none⟩)], args := #[.func (.yield (w.heap.size + 1)) #[] #[]] }, W1, 119,
    #[.func (.yield (w.heap.size + 1)) #[] #[]] ++ #[.pointer (some ⟨B1, 0, none⟩), .pointer (some ⟨B2, 0, none⟩)], W1, ?_, ?_, fun _ _ => trivial, ?_, fun h => (by cases h), ?_⟩
  · rw [← hW1, hrec]; exact run_enterLoop_outer _ _ _ _ _
  · simp only [resolve, hg]
    simp [go_sem]
  · have e : ∀ args w, (callFunc 119 args).run Tryz.prog w = .ok (.enter 119 args) w := enters_of Tryz.func119 (by kernel_rfl) rfl
    simp [invoke, go_sem, e]
  · have fin : ∀ (W3 : World), W3.heap[w.heap.size + 1]? = some (.loop { rec .ready none with state := .busy }) → W3.heap[w.heap.size]? = some (.deferred (some [])) →
        (Instr.endRound (w.heap.size + 1) none).run Tryz.prog W3 = .ok (.bool true) (W3.putObj (w.heap.size + 1) (.loop (rec .ready none))) ∧
        (W3.putObj (w.heap.size + 1) (.loop (rec .ready none))).heap[w.heap.size + 1]? = some (.loop (rec .ready none)) ∧
        (W3.putObj (w.heap.size + 1) (.loop (rec .ready none))).heap[w.heap.size]? = some (.deferred (some [])) := fun W3 hl3 hk3 => by
      have := run_endRound (P := Tryz.prog) none hl3
      rw [hrec] at this ⊢
      exact ⟨this, World.putObj_heap_same (Array.getElem?_eq_some_iff.1 hl3).1, (World.putObj_heap_other (by omega)).trans hk3⟩
    refine (chunk_in_b (d - 1) (w.heap.size + 1) B1 B2 A n c hn hc
      (fun k W => I k W ∧ W.heap[w.heap.size + 1]? = some (.loop (rec .ready none)) ∧ W.heap[w.heap.size]? = some (.deferred (some [])) ∧ Blk W B1 31 #[.slice A n c] ∧ Blk W B2 3 #[.int .i64 256] ∧ w.heap.size + 2 ≤ W.heap.size)
      ?_ ?_ ?_ W1 ⟨hI _ _ _ h0 hc1, hL1, hK1, k1.older (older_below hb1), k2.older (older_below hb1), hz1⟩).mono ?_
    · rintro k W ⟨_, _, _, j1, j2, _⟩
      exact ⟨j1.cell 0, j2.cell 0⟩
    · rintro k q W ⟨hi, hl, hk, j1, j2, hz⟩
      exact ⟨hI _ _ _ hi ((Chg.refl _ _).drewN q), hl, hk, j1, j2, hz⟩
    · rintro k W ⟨hi, hl, hk, j1, j2, hz⟩ hx
      have hy := run_yield (P := Tryz.prog) (args := #[pc_b A n k]) hl (by rw [hrec]; rfl)
      rw [hrec] at hy
      refine ⟨fn, _, assign, body, hy, roundIn_of_wpIn hfn ?_⟩
      clear hy
      have hb := run_beginRound (P := Tryz.prog) hl (by rw [hrec])
      have cB := Pt.chg_putObj W (w.heap.size + 1) (.loop { rec .ready none with state := .busy })
      have hlB : (W.putObj (w.heap.size + 1) (.loop { rec .ready none with state := .busy })).heap[w.heap.size + 1]? = some (.loop { rec .ready none with state := .busy }) := World.putObj_heap_same (Array.getElem?_eq_some_iff.1 hl).1
      have hkB := Pt.rec_kept hk cB (by show ¬ _ = _; omega)
      have hiB := hI _ _ _ hi (cB.weak fun k hk => .inr hk)
      have e1 : ((#[t] : Array Tmp).zip #[pc_b A n k]).foldl (fun (tmps : Array Value) (p : Tmp × Value) => tmps.setIfInBounds p.1 p.2) a.tmps = a.tmps.setIfInBounds t (pc_b A n k) := by simp
      refine (show assign.wpIn _ _ _ _ { tmps := ((#[t] : Array Tmp).zip #[pc_b A n k]).foldl (fun (tmps : Array Value) (p : Tmp × Value) => tmps.setIfInBounds p.1 p.2) a.tmps, defers := [] } _ from ?_)
      rw [e1]
      refine hassign _ k W _ ⟨_, hb, ?_⟩
      refine wpIn_mono (hbody _ k _ hiB hx (Nat.le_trans hz cB.size)) ?_
      rintro e a' W3 ⟨rfl, c3, i3⟩
      have hl3 := Pt.rec_kept hlB c3 (fun h => h.2.2.2 rfl)
      have hk3 := Pt.rec_kept hkB c3 (fun h => h.2.2.1 rfl)
      obtain ⟨f1, f2, f3⟩ := fin W3 hl3 hk3
      have c4 := Pt.chg_putObj W3 (w.heap.size + 1) (.loop (rec .ready none))
      refine ⟨_, _, f1, rfl, hI _ _ _ i3 (c4.weak fun k hk => .inr hk), f2, f3, ?_, ?_, Nat.le_trans (Nat.le_trans hz cB.size) (Nat.le_trans c3.size c4.size)⟩
      · exact ((j1.chg cB (by show ¬ _ = _; omega)).chg c3 (fun h => h.1 rfl)).chg c4 (by show ¬ _ = _; omega)
      · exact ((j2.chg cB (by show ¬ _ = _; omega)).chg c3 (fun h => h.2.1 rfl)).chg c4 (by show ¬ _ = _; omega)
    · rintro e W2 ⟨⟨v, rfl⟩, hi, hl, hk, _⟩
      have he := run_endLoop (P := Tryz.prog) hl (by rw [hrec]; simp)
      rw [hrec] at he
      have c4 := Pt.chg_putObj W2 (w.heap.size + 1) (.loop { rec .ready none with state := .exhausted })
      rw [hrec] at c4
      exact ⟨none, _, he, hdone _ _ rfl (hI _ _ _ hi (c4.weak fun k hk => .inr hk)) (Pt.rec_kept hk c4 (by show ¬ _ = _; omega))⟩
/-- slices.Chunk: two boxes are laid. -/
theorem chunk_b (A : Option Addr) (n c : Nat) (w : World) : Calls Tryz.prog 76 #[.slice A n c, .int .i64 256] w fun e w' => e = .returned (.func (.func 119) #[] #[.pointer (some ⟨w.heap.size, 0, none⟩), .pointer (some ⟨w.heap.size + 1, 0, none⟩)]) ∧
    w' = (w.alloc (.cells #[.slice A n c] 31)).alloc (.cells #[.int .i64 256] 3) := by
  go_enter Tryz.func76, Tryz.ntmps76
  go_wp2
  go_ret
  exact ⟨by simp, rfl⟩

/-- A range over Chunk: what stands between two rounds, and what a round does. -/
theorem range_f {g : Operand} {t : Tmp} {assign body : Code} {Q : Exit → Act → World → Prop} {a : Act} {w : World} {d : Nat} {B1 B2 : Nat} {A : Option Addr} {n c : Nat}
    (hg : a.eval g = .func (.func 121) #[] #[.pointer (some ⟨B1, 0, none⟩), .pointer (some ⟨B2, 0, none⟩)]) (hn : n ≤ 100000) (hc : n ≤ c)
    (k1 : Blk w B1 50 #[.slice A n c]) (k2 : Blk w B2 3 #[.int .i64 8])
    (I : Nat → World → Prop)
    (hI : ∀ k W W', I k W → Chg W W' (fun j => j = w.heap.size ∨ j = w.heap.size + 1) → I k W') (h0 : I 0 w) (a₁ : Nat → Act)
    (hassign : ∀ (l k : Nat) (W : World) (K : Act → World → Prop), K (a₁ k) W → assign.wpIn (Fence.wide.inRound l) (d - 1 - 1) Tryz.prog (Exit.then K (fun _ _ _ => False)) { tmps := a.tmps.setIfInBounds t (pc_f A n k), defers := [] } W)
    (hbody : ∀ (l k : Nat) (W : World), I k W → k * 8 < n → w.heap.size + 2 ≤ W.heap.size → body.wpIn (Fence.wide.inRound l) (d - 1 - 1) Tryz.prog (fun e _ W' => e = .normal ∧ Chg W W' (fun j => j ≠ B1 ∧ j ≠ B2 ∧ j ≠ w.heap.size ∧ j ≠ w.heap.size + 1) ∧ I (k + 1) W') (a₁ k) W)
    (hdone : ∀ (D : Nat) (W : World), D = w.heap.size → I ((n + (8 - 1)) / 8) W → W.heap[D]? = some (.deferred (some [])) → Q .normal { a with defers := { target := .collected D, args := #[] } :: a.defers } W) :
    (Code.rangeFunc g #[t] assign body).wpIn Fence.wide d Tryz.prog Q a w := by
  refine wpIn_rangeFunc ?_
  intro fn hfn
  obtain ⟨rec, hrec⟩ : ∃ rec : Go.LoopState → Option Code → Loop, rec = fun st pe => { state := st, pending := pe, fn, tmps := a.tmps, params := #[t], assign, body, defers := w.heap.size } := ⟨_, rfl⟩
  obtain ⟨W1, hW1⟩ : ∃ W1, (w.alloc (.deferred (some []))).alloc (.loop (rec .ready none)) = W1 := ⟨_, rfl⟩
  have hL1 : W1.heap[w.heap.size + 1]? = some (.loop (rec .ready none)) := by
    rw [← hW1]
    have := World.alloc_heap_new (w.alloc (.deferred (some []))) (.loop (rec .ready none))
    rwa [World.size_alloc] at this
  have hb1 : Below w.heap.size w W1 := by rw [← hW1]; exact ((Below.refl _ w).alloc (Nat.le_refl _) _).alloc (by simp) _
  have hK1 : W1.heap[w.heap.size]? = some (.deferred (some [])) := by
    rw [← hW1]
    exact (Below.heap_alloc _ _ _ (by simp)).trans (World.alloc_heap_new w _)
  have hz1 : w.heap.size + 2 ≤ W1.heap.size := by rw [← hW1]; simp
  have hc1 : Chg w W1 (fun j => j = w.heap.size ∨ j = w.heap.size + 1) := Chg.of_new hb1 _
  have l1 := k1.lt
  have l2 := k2.lt
  refine ⟨w.heap.size + 1, [{ target := .collected w.heap.size, args := #[] }], W1, { target := .fn (.func 121) #[.pointer (some ⟨B1, 0, none⟩), .pointer (some ⟨B2, 0, none⟩)], args := #[.func (.yield (w.heap.size + 1)) #[] #[]] }, W1, 121,
    #[.func (.yield (w.heap.size + 1)) #[] #[]] ++ #[.pointer (some ⟨B1, 0, none⟩), .pointer (some ⟨B2, 0, none⟩)], W1, ?_, ?_, fun _ _ => trivial, ?_, fun h => (by cases h), ?_⟩
  · rw [← hW1, hrec]; exact run_enterLoop_outer _ _ _ _ _
  · simp only [resolve, hg]
    simp [go_sem]
  · have e : ∀ args w, (callFunc 121 args).run Tryz.prog w = .ok (.enter 121 args) w := enters_of Tryz.func121 (by kernel_rfl) rfl
    simp [invoke, go_sem, e]
  · have fin : ∀ (W3 : World), W3.heap[w.heap.size + 1]? = some (.loop { rec .ready none with state := .busy }) → W3.heap[w.heap.size]? = some (.deferred (some [])) →
        (Instr.endRound (w.heap.size + 1) none).run Tryz.prog W3 = .ok (.bool true) (W3.putObj (w.heap.size + 1) (.loop (rec .ready none))) ∧
        (W3.putObj (w.heap.size + 1) (.loop (rec .ready none))).heap[w.heap.size + 1]? = some (.loop (rec .ready none)) ∧
        (W3.putObj (w.heap.size + 1) (.loop (rec .ready none))).heap[w.heap.size]? = some (.deferred (some [])) := fun W3 hl3 hk3 => by
      have := run_endRound (P := Tryz.prog) none hl3
      rw [hrec] at this ⊢
      exact ⟨this, World.putObj_heap_same (Array.getElem?_eq_some_iff.1 hl3).1, (World.putObj_heap_other (by omega)).trans hk3⟩
    refine (chunk_in_f (d - 1) (w.heap.size + 1) B1 B2 A n c hn hc
      (fun k W => I k W ∧ W.heap[w.heap.size + 1]? = some (.loop (rec .ready none)) ∧ W.heap[w.heap.size]? = some (.deferred (some [])) ∧ Blk W B1 50 #[.slice A n c] ∧ Blk W B2 3 #[.int .i64 8] ∧ w.heap.size + 2 ≤ W.heap.size)
      ?_ ?_ ?_ W1 ⟨hI _ _ _ h0 hc1, hL1, hK1, k1.older (older_below hb1), k2.older (older_below hb1), hz1⟩).mono ?_
    · rintro k W ⟨_, _, _, j1, j2, _⟩
      exact ⟨j1.cell 0, j2.cell 0⟩
    · rintro k q W ⟨hi, hl, hk, j1, j2, hz⟩
      exact ⟨hI _ _ _ hi ((Chg.refl _ _).drewN q), hl, hk, j1, j2, hz⟩
    · rintro k W ⟨hi, hl, hk, j1, j2, hz⟩ hx
      have hy := run_yield (P := Tryz.prog) (args := #[pc_f A n k]) hl (by rw [hrec]; rfl)
      rw [hrec] at hy
      refine ⟨fn, _, assign, body, hy, roundIn_of_wpIn hfn ?_⟩
      clear hy
      have hb := run_beginRound (P := Tryz.prog) hl (by rw [hrec])
      have cB := Pt.chg_putObj W (w.heap.size + 1) (.loop { rec .ready none with state := .busy })
      have hlB : (W.putObj (w.heap.size + 1) (.loop { rec .ready none with state := .busy })).heap[w.heap.size + 1]? = some (.loop { rec .ready none with state := .busy }) := World.putObj_heap_same (Array.getElem?_eq_some_iff.1 hl).1
      have hkB := Pt.rec_kept hk cB (by show ¬ _ = _; omega)
      have hiB := hI _ _ _ hi (cB.weak fun k hk => .inr hk)
      have e1 : ((#[t] : Array Tmp).zip #[pc_f A n k]).foldl (fun (tmps : Array Value) (p : Tmp × Value) => tmps.setIfInBounds p.1 p.2) a.tmps = a.tmps.setIfInBounds t (pc_f A n k) := by simp
      refine (show assign.wpIn _ _ _ _ { tmps := ((#[t] : Array Tmp).zip #[pc_f A n k]).foldl (fun (tmps : Array Value) (p : Tmp × Value) => tmps.setIfInBounds p.1 p.2) a.tmps, defers := [] } _ from ?_)
      rw [e1]
      refine hassign _ k W _ ⟨_, hb, ?_⟩
      refine wpIn_mono (hbody _ k _ hiB hx (Nat.le_trans hz cB.size)) ?_
      rintro e a' W3 ⟨rfl, c3, i3⟩
      have hl3 := Pt.rec_kept hlB c3 (fun h => h.2.2.2 rfl)
      have hk3 := Pt.rec_kept hkB c3 (fun h => h.2.2.1 rfl)
      obtain ⟨f1, f2, f3⟩ := fin W3 hl3 hk3
      have c4 := Pt.chg_putObj W3 (w.heap.size + 1) (.loop (rec .ready none))
      refine ⟨_, _, f1, rfl, hI _ _ _ i3 (c4.weak fun k hk => .inr hk), f2, f3, ?_, ?_, Nat.le_trans (Nat.le_trans hz cB.size) (Nat.le_trans c3.size c4.size)⟩
      · exact ((j1.chg cB (by show ¬ _ = _; omega)).chg c3 (fun h => h.1 rfl)).chg c4 (by show ¬ _ = _; omega)
      · exact ((j2.chg cB (by show ¬ _ = _; omega)).chg c3 (fun h => h.2.1 rfl)).chg c4 (by show ¬ _ = _; omega)
    · rintro e W2 ⟨⟨v, rfl⟩, hi, hl, hk, _⟩
      have he := run_endLoop (P := Tryz.prog) hl (by rw [hrec]; simp)
      rw [hrec] at he
      have c4 := Pt.chg_putObj W2 (w.heap.size + 1) (.loop { rec .ready none with state := .exhausted })
      rw [hrec] at c4
      exact ⟨none, _, he, hdone _ _ rfl (hI _ _ _ hi (c4.weak fun k hk => .inr hk)) (Pt.rec_kept hk c4 (by show ¬ _ = _; omega))⟩
/-- slices.Chunk: two boxes are laid. -/
theorem chunk_f (A : Option Addr) (n c : Nat) (w : World) : Calls Tryz.prog 81 #[.slice A n c, .int .i64 8] w fun e w' => e = .returned (.func (.func 121) #[] #[.pointer (some ⟨w.heap.size, 0, none⟩), .pointer (some ⟨w.heap.size + 1, 0, none⟩)]) ∧
    w' = (w.alloc (.cells #[.slice A n c] 50)).alloc (.cells #[.int .i64 8] 3) := by
  go_enter Tryz.func81, Tryz.ntmps81
  go_wp2
  go_ret
  exact ⟨by simp, rfl⟩
end Go.Proofs.YtefnkednnnlhoaaGreatDoor.Sr
