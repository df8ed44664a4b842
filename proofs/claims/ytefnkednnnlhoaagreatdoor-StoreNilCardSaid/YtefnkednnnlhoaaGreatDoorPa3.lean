/- strings.SplitSeq at a stroke, ranged over: path's Name. Conditions: those that each states. -/
import Derived.Test.YtefnkednnnlhoaaGreatDoorMAS
import Derived.RangeFuncNested
import Derived.RangeFuncBound
import Derived.RangeFuncCalls
import Derived.RangeFuncLeaves
import Derived.Shelf.Abstract
import Derived.Shelf.RegionOpen
import Derived.OwnWalkIn
import Derived.TacticsInMore
import Derived.LoopNIn
import Derived.LoopIn
namespace Go.Proofs.YtefnkednnnlhoaaGreatDoor.Pt
open Go.ChangeShapes Go.WideShapes Go.ChangeAt Go.RowKit Go.Deep Go.Shelf
set_option linter.unusedVariables false
attribute [local go_sem] Oper.semAt_some
theorem idx_none {l : List UInt8} {c : UInt8} (h : c ∉ l) : Lib.indexByte l c = -1 := by
  induction l with
  | nil => rfl
  | cons b l ih =>
    simp only [List.mem_cons, not_or] at h
    unfold Lib.indexByte
    rw [if_neg (by simpa using fun e => h.1 e.symm), ih h.2]; rfl
theorem idx_at {l r : List UInt8} {c : UInt8} (h : c ∉ l) : Lib.indexByte (l ++ c :: r) c = l.length := by
  induction l with
  | nil => simp [Lib.indexByte]
  | cons b l ih =>
    simp only [List.mem_cons, not_or] at h
    have hb : ¬ (b == c) = true := by simpa using fun e => h.1 e.symm
    have ih := ih h.2
    show Lib.indexByte (b :: (l ++ c :: r)) c = _
    unfold Lib.indexByte
    rw [if_neg hb, ih, if_neg (by simp)]
    simp
theorem cut_mem {l : List UInt8} {c : UInt8} (h : c ∈ l) : ∃ x y, l = x ++ c :: y ∧ c ∉ x := by
  induction l with
  | nil => cases h
  | cons b t ih =>
    by_cases e : b = c
    · exact ⟨[], t, by rw [e]; rfl, by simp⟩
    · rcases List.mem_cons.1 h with h1 | h1
      · exact absurd h1.symm e
      · obtain ⟨x, y, h2, h3⟩ := ih h1
        exact ⟨b :: x, y, by rw [h2]; rfl, by simp only [List.mem_cons, not_or]; exact ⟨fun q => e q.symm, h3⟩⟩
theorem drop_cut (x y : List UInt8) (c : UInt8) : List.drop (x.length + 1) (x ++ c :: y) = y := by
  induction x with
  | nil => rfl
  | cons a t ih => simp
set_option maxRecDepth 100000 in
set_option maxHeartbeats 4000000 in
/-- What SplitSeq's function does, whatever is done in the rounds. -/
theorem seq_in (n : Nat) (l B1 B2 B3 : Nat) (s0 : List UInt8) (hs0 : s0.length ≤ 100000) (J : List (List UInt8) → List UInt8 → World → Prop) (Jx : List (List UInt8) → World → Prop)
    (hJc : ∀ pre s W, J pre s W → W.cell? ⟨B1, 0, none⟩ = some (.string ⟨#[47]⟩) ∧ W.cell? ⟨B2, 0, none⟩ = some (.string ⟨s.toArray⟩) ∧ W.cell? ⟨B3, 0, none⟩ = some (.int .i64 0) ∧ W.frozen? ⟨B2, 0, none⟩ = false)
    (hJs : ∀ pre s s' W, J pre s W → J pre s' (W.setCell ⟨B2, 0, none⟩ (.string ⟨s'.toArray⟩)))
    (hY : ∀ pre s x W, J pre s W → x.length ≤ s0.length → YieldAt Fence.wide (n - 1) Tryz.prog l #[.string ⟨x.toArray⟩] W fun e W' => (e = .returned (.bool true) ∧ J (pre ++ [x]) s W') ∨ (e = .returned (.bool false) ∧ Jx (pre ++ [x]) W'))
    (W : World) (h0 : J [] s0 W) :
    CallsIn Fence.wide n Tryz.prog 94 #[.func (.yield l) #[] #[], .pointer (some ⟨B1, 0, none⟩), .pointer (some ⟨B2, 0, none⟩), .pointer (some ⟨B3, 0, none⟩)] W fun e W' => (∃ v, e = .returned v) ∧
      ((∃ s', J (segs s0) s' W') ∨ ∃ pre, pre <+: segs s0 ∧ Jx pre W') := by
  refine callsIn_of_wp Tryz.func94 rfl trivial ?_ rfl
  simp only [Tryz.ntmps94, List.size_toArray, List.length_cons, List.length_nil, Nat.reduceAdd, Nat.reduceSub, Array.replicate_succ, Array.replicate_zero, List.push_toArray, List.append_toArray, List.nil_append, List.cons_append]
  have HJC := Lib.hid hJc
  have HJS := Lib.hid hJs
  have HY := Lib.hid hY
  have H0 := Lib.hid h0
  obtain ⟨c1, c2, c3, f2⟩ := hJc _ _ _ h0
  clear hJc hJs hY h0
  gi_wp2
  clear c1 c2 c3 f2
  gi_loopw [] (fun wr => ∃ pre s, segs s0 = pre ++ segs s ∧ s.length ≤ s0.length ∧ Hid (J pre s wr)) (fun wr => match wr.cell? ⟨B2, 0, none⟩ with | some (.string b) => b.size | _ => 0)
  case atStart => exact ⟨[], s0, rfl, Nat.le_refl _, H0⟩
  case round =>
    clear H0
    obtain ⟨pre, s, hseg, hsl, HJ⟩ := hrel
    obtain ⟨c1, c2, c3, f2⟩ := HJC.out _ _ _ HJ.out
    have IX := Lib.hid (Tryz.strings_Index_one ⟨s.toArray⟩ 47 wr)
    by_cases hm : (47 : UInt8) ∈ s
    · obtain ⟨x, y, rfl, hx⟩ := cut_mem hm
      have hix : Lib.indexByte (⟨(x ++ 47 :: y).toArray⟩ : ByteArray).data.toList 47 = x.length := idx_at hx
      rw [hix] at IX
      have hsg : segs s0 = (pre ++ [x]) ++ segs y := by rw [hseg, segs_at hx]; simp
      have hxl : x.length ≤ 100000 := by simp at hsl; omega
      have hyl : (x ++ 47 :: y).length = x.length + 1 + y.length := by simp; omega
      clear hm hix hx hseg
      obtain ⟨fn, tmps, assign, body, hy, hR⟩ := HY.out pre _ x wr HJ.out (by omega)
      have hex : (⟨(x ++ 47 :: y).toArray⟩ : ByteArray).extract 0 x.length = ⟨x.toArray⟩ := by
        rw [cut_str]; simp
      rw [← hex] at hy
      have hey : (⟨(x ++ 47 :: y).toArray⟩ : ByteArray).extract (x.length + 1) (x.length + 1 + y.length) = ⟨y.toArray⟩ := by
        rw [cut_str]
        rw [drop_cut]
        congr 2
        rw [List.take_of_length_le (by omega)]
      have HEY := Lib.hid hey
      gi_wp2_with fail
      refine ⟨trivial, fun h => (by cases h), ?_⟩
      refine (callsIn_wide.2 IX.out).mono ?_; rintro e w' ⟨rfl, rfl⟩
      clear IX hex hey
      gi_wp2_with fail
      refine ⟨fun h => (by cases h), hR.mono ?_⟩
      rintro e W3 (⟨rfl, hJ3⟩ | ⟨rfl, hJx3⟩)
      · have J3 := Lib.hid hJ3
        obtain ⟨d1, d2, d3, f3⟩ := HJC.out _ _ _ hJ3
        clear hJ3 hy hR
        have hsz : (⟨(x ++ 47 :: y).toArray⟩ : ByteArray).size = x.length + 1 + y.length := hyl
        gi_wp2
        go_roundw
        case rel =>
          rw [HEY.out]
          exact ⟨pre ++ [x], y, hsg, by omega, Lib.hid (HJS.out _ _ y _ J3.out)⟩
        case measure =>
          rw [HEY.out]
          have e1 := (HJC.out _ _ _ (HJS.out _ _ y _ J3.out)).2.1
          rw [e1, c2]
          show y.length < (x ++ 47 :: y).length
          omega
      · have J3 := Lib.hid hJx3
        clear hJx3 hy hR
        gi_wp2
        refine bodyPost_ret (results_none rfl _ _ _) rfl ?_
        exact ⟨⟨_, rfl⟩, .inr ⟨pre ++ [x], ⟨segs y, by rw [hsg]⟩, J3.out⟩⟩
    · have hix : Lib.indexByte (⟨s.toArray⟩ : ByteArray).data.toList 47 = -1 := idx_none hm
      rw [hix] at IX
      have hsg : segs s0 = pre ++ [s] := by rw [hseg, segs_none hm]
      obtain ⟨fn, tmps, assign, body, hy, hR⟩ := HY.out pre _ s wr HJ.out hsl
      clear hm hix hseg
      gi_wp2_with fail
      refine ⟨trivial, fun h => (by cases h), ?_⟩
      refine (callsIn_wide.2 IX.out).mono ?_; rintro e w' ⟨rfl, rfl⟩
      clear IX
      gi_wp2_with fail
      refine ⟨fun h => (by cases h), hR.mono ?_⟩
      rintro e W3 (⟨rfl, hJ3⟩ | ⟨rfl, hJx3⟩)
      · have J3 := Lib.hid hJ3
        clear hJ3 hy hR
        gi_wp2
        go_end0
        exact ⟨⟨_, rfl⟩, .inl ⟨s, by rw [hsg]; exact J3.out⟩⟩
      · have J3 := Lib.hid hJx3
        clear hJx3 hy hR
        gi_wp2
        go_end0
        exact ⟨⟨_, rfl⟩, .inr ⟨pre ++ [s], ⟨[], by rw [hsg]; simp⟩, J3.out⟩⟩
theorem chg_putObj (W : World) (l : Nat) (o : Obj) : Chg W (W.putObj l o) (fun k => k = l) := ⟨rfl, rfl, rfl, by simp, fun i _ hn => World.putObj_heap_other hn⟩
theorem rec_kept {W W' : World} {S : Nat → Prop} {l : Nat} {o : Obj} (h : W.heap[l]? = some o) (k : Chg W W' S) (hn : ¬ S l) : W'.heap[l]? = some o := (k.block l (Array.getElem?_eq_some_iff.1 h).1 hn).trans h
/-- A range over SplitSeq: what stands between two rounds, and what a round does. -/
theorem range_seq {g : Operand} {t : Tmp} {assign body : Code} {Q : Exit → Act → World → Prop} {a : Act} {w : World} {n : Nat} {B1 B2 B3 : Nat}
    (hg : a.eval g = .func (.func 94) #[] #[.pointer (some ⟨B1, 0, none⟩), .pointer (some ⟨B2, 0, none⟩), .pointer (some ⟨B3, 0, none⟩)]) (s0 : List UInt8) (hs0 : s0.length ≤ 100000)
    (k1 : Blk w B1 9 #[.string ⟨#[47]⟩]) (k2 : Blk w B2 9 #[.string ⟨s0.toArray⟩]) (k3 : Blk w B3 3 #[.int .i64 0]) (h12 : B1 ≠ B2) (h32 : B3 ≠ B2)
    (S : Nat → Prop) (hS : ∀ k, S k → k < w.heap.size ∧ k ≠ B1 ∧ k ≠ B2 ∧ k ≠ B3) (I Ix : List (List UInt8) → World → Prop)
    (hI : ∀ pre W W', I pre W → Chg W W' (fun k => w.heap.size ≤ k ∨ k = B2) → I pre W') (hIx : ∀ pre W W', Ix pre W → Chg W W' (fun k => w.heap.size ≤ k ∨ k = B2) → Ix pre W') (h0 : I [] w) (a₁ : List UInt8 → Act)
    (hassign : ∀ (l : Nat) (x : List UInt8) (W : World) (K : Act → World → Prop), K (a₁ x) W → assign.wpIn (Fence.wide.inRound l) (n - 1 - 1) Tryz.prog (Exit.then K (fun _ _ _ => False)) { tmps := a.tmps.setIfInBounds t (.string ⟨x.toArray⟩), defers := [] } W)
    (hbody : ∀ (l : Nat) (pre : List (List UInt8)) (x : List UInt8) (W : World), I pre W → x.length ≤ s0.length → body.wpIn (Fence.wide.inRound l) (n - 1 - 1) Tryz.prog (fun e _ W' => (e = .normal ∧ Chg W W' S ∧ I (pre ++ [x]) W') ∨ (e = .ret ∧ Chg W W' S ∧ Ix (pre ++ [x]) W')) (a₁ x) W)
    (hdone : ∀ (D : Nat) (W : World), w.heap.size ≤ D → I (segs s0) W → W.heap[D]? = some (.deferred (some [])) → Q .normal { a with defers := { target := .collected D, args := #[] } :: a.defers } W)
    (hstop : ∀ (D : Nat) (pre : List (List UInt8)) (W : World), w.heap.size ≤ D → pre <+: segs s0 → Ix pre W → W.heap[D]? = some (.deferred (some [])) → Code.ret.wpIn Fence.wide n Tryz.prog Q { a with defers := { target := .collected D, args := #[] } :: a.defers } W) :
    (Code.rangeFunc g #[t] assign body).wpIn Fence.wide n Tryz.prog Q a w := by
  refine wpIn_rangeFunc ?_
  intro fn hfn
  obtain ⟨rec, hrec⟩ : ∃ rec : Go.LoopState → Option Code → Loop, rec = fun st pe => { state := st, pending := pe, fn, tmps := a.tmps, params := #[t], assign, body, defers := w.heap.size } := ⟨_, rfl⟩
  obtain ⟨W1, hW1⟩ : ∃ W1, (w.alloc (.deferred (some []))).alloc (.loop (rec .ready none)) = W1 := ⟨_, rfl⟩
  have hL1 : W1.heap[w.heap.size + 1]? = some (.loop (rec .ready none)) := by
    rw [← hW1]
    have := World.alloc_heap_new (w.alloc (.deferred (some []))) (.loop (rec .ready none))
    rwa [World.size_alloc] at this
  have hb1 : Below w.heap.size w W1 := by rw [← hW1]; exact ((Below.refl _ w).alloc (Nat.le_refl _) _).alloc (by simp) _
  have hK1 : W1.heap[w.heap.size]? = some (.deferred (some [])) := by
    rw [← hW1]
    exact (Below.heap_alloc _ _ _ (by simp)).trans (World.alloc_heap_new w _)
  have hc1 : Chg w W1 (fun k => w.heap.size ≤ k ∨ k = B2) := (Chg.of_below hb1).weak (fun k hk => .inl hk)
  have l1 := k1.lt
  have l2 := k2.lt
  have l3 := k3.lt
  -- what the iterator is told between two rounds
  refine ⟨w.heap.size + 1, [{ target := .collected w.heap.size, args := #[] }], W1, { target := .fn (.func 94) #[.pointer (some ⟨B1, 0, none⟩), .pointer (some ⟨B2, 0, none⟩), .pointer (some ⟨B3, 0, none⟩)], args := #[.func (.yield (w.heap.size + 1)) #[] #[]] }, W1, 94,
    #[.func (.yield (w.heap.size + 1)) #[] #[]] ++ #[.pointer (some ⟨B1, 0, none⟩), .pointer (some ⟨B2, 0, none⟩), .pointer (some ⟨B3, 0, none⟩)], W1, ?_, ?_, fun _ _ => trivial, ?_, fun h => (by cases h), ?_⟩
  · rw [← hW1, hrec]; exact run_enterLoop_outer _ _ _ _ _
  · simp only [resolve, hg]
    simp [go_sem]
  · have e : ∀ args w, (callFunc 94 args).run Tryz.prog w = .ok (.enter 94 args) w := enters_of Tryz.func94 (by kernel_rfl) rfl
    simp [invoke, go_sem, e]
  · have fin : ∀ (jump : Option Code) (W3 : World), W3.heap[w.heap.size + 1]? = some (.loop { rec .ready none with state := .busy }) → W3.heap[w.heap.size]? = some (.deferred (some [])) →
        (Instr.endRound (w.heap.size + 1) jump).run Tryz.prog W3 = .ok (.bool jump.isNone) (W3.putObj (w.heap.size + 1) (.loop (rec (if jump.isNone then .ready else .done) jump))) ∧
        (W3.putObj (w.heap.size + 1) (.loop (rec (if jump.isNone then .ready else .done) jump))).heap[w.heap.size + 1]? = some (.loop (rec (if jump.isNone then .ready else .done) jump)) ∧
        (W3.putObj (w.heap.size + 1) (.loop (rec (if jump.isNone then .ready else .done) jump))).heap[w.heap.size]? = some (.deferred (some [])) := fun jump W3 hl3 hk3 => by
      have := run_endRound (P := Tryz.prog) jump hl3
      rw [hrec] at this ⊢
      exact ⟨this, World.putObj_heap_same (Array.getElem?_eq_some_iff.1 hl3).1, (World.putObj_heap_other (by omega)).trans hk3⟩
    refine (seq_in (n - 1) (w.heap.size + 1) B1 B2 B3 s0 hs0
      (fun pre s W => I pre W ∧ W.heap[w.heap.size + 1]? = some (.loop (rec .ready none)) ∧ W.heap[w.heap.size]? = some (.deferred (some [])) ∧ Blk W B1 9 #[.string ⟨#[47]⟩] ∧ Blk W B2 9 #[.string ⟨s.toArray⟩] ∧ Blk W B3 3 #[.int .i64 0])
      (fun pre W => Ix pre W ∧ W.heap[w.heap.size + 1]? = some (.loop (rec .done (some .ret))) ∧ W.heap[w.heap.size]? = some (.deferred (some [])))
      ?_ ?_ ?_ W1 ⟨hI _ _ _ h0 hc1, hL1, hK1, k1.older (older_below hb1), k2.older (older_below hb1), k3.older (older_below hb1)⟩).mono ?_
    · rintro pre s W ⟨_, _, _, j1, j2, j3⟩
      exact ⟨j1.cell 0, j2.cell 0, j3.cell 0, j2.frozen 0⟩
    · rintro pre s s' W ⟨hi, hl, hk, j1, j2, j3⟩
      have hc : Chg W (W.setCell ⟨B2, 0, none⟩ (.string ⟨s'.toArray⟩)) (fun k => k = B2) := Chg.set _ _ _ rfl
      exact ⟨hI _ _ _ hi (hc.weak fun k hk => .inr hk), rec_kept hl hc (by show ¬ _ = _; omega), rec_kept hk hc (by show ¬ _ = _; omega), j1.chg hc h12, j2.put 0 _, j3.chg hc h32⟩
    · rintro pre s x W ⟨hi, hl, hk, j1, j2, j3⟩ hx
      have hy := run_yield (P := Tryz.prog) (args := #[.string ⟨x.toArray⟩]) hl (by rw [hrec]; rfl)
      rw [hrec] at hy
      refine ⟨fn, _, assign, body, hy, roundIn_of_wpIn hfn ?_⟩
      clear hy
      have hb := run_beginRound (P := Tryz.prog) hl (by rw [hrec])
      have cB := chg_putObj W (w.heap.size + 1) (.loop { rec .ready none with state := .busy })
      have hlB : (W.putObj (w.heap.size + 1) (.loop { rec .ready none with state := .busy })).heap[w.heap.size + 1]? = some (.loop { rec .ready none with state := .busy }) := World.putObj_heap_same (Array.getElem?_eq_some_iff.1 hl).1
      have hkB := rec_kept hk cB (by show ¬ _ = _; omega)
      have hiB := hI _ _ _ hi (cB.weak fun k hk => .inl (by have : k = w.heap.size + 1 := hk; omega))
      have e1 : ((#[t] : Array Tmp).zip #[Value.string ⟨x.toArray⟩]).foldl (fun (tmps : Array Value) (p : Tmp × Value) => tmps.setIfInBounds p.1 p.2) a.tmps = a.tmps.setIfInBounds t (.string ⟨x.toArray⟩) := by simp
      refine (show assign.wpIn _ _ _ _ { tmps := ((#[t] : Array Tmp).zip #[Value.string ⟨x.toArray⟩]).foldl (fun (tmps : Array Value) (p : Tmp × Value) => tmps.setIfInBounds p.1 p.2) a.tmps, defers := [] } _ from ?_)
      rw [e1]
      refine hassign _ x W _ ⟨_, hb, ?_⟩
      refine wpIn_mono (hbody _ pre x _ hiB hx) ?_
      rintro e a' W3 (⟨rfl, c3, i3⟩ | ⟨rfl, c3, i3⟩)
      · have hl3 := rec_kept hlB c3 (fun h => by have := (hS _ h).1; omega)
        have hk3 := rec_kept hkB c3 (fun h => by have := (hS _ h).1; omega)
        obtain ⟨f1, f2, f3⟩ := fin none W3 hl3 hk3
        have c4 := chg_putObj W3 (w.heap.size + 1) (.loop (rec (if (none : Option Code).isNone then .ready else .done) none))
        refine ⟨_, _, f1, .inl ⟨rfl, hI _ _ _ i3 (c4.weak fun k hk => .inl (by have : k = w.heap.size + 1 := hk; omega)), f2, f3, ?_, ?_, ?_⟩⟩
        · exact ((j1.chg cB (by show ¬ _ = _; omega)).chg c3 (fun h => (hS _ h).2.1 rfl)).chg c4 (by show ¬ _ = _; omega)
        · exact ((j2.chg cB (by show ¬ _ = _; omega)).chg c3 (fun h => (hS _ h).2.2.1 rfl)).chg c4 (by show ¬ _ = _; omega)
        · exact ((j3.chg cB (by show ¬ _ = _; omega)).chg c3 (fun h => (hS _ h).2.2.2 rfl)).chg c4 (by show ¬ _ = _; omega)
      · have hl3 := rec_kept hlB c3 (fun h => by have := (hS _ h).1; omega)
        have hk3 := rec_kept hkB c3 (fun h => by have := (hS _ h).1; omega)
        obtain ⟨f1, f2, f3⟩ := fin (some .ret) W3 hl3 hk3
        have c4 := chg_putObj W3 (w.heap.size + 1) (.loop (rec (if (some Code.ret).isNone then .ready else .done) (some .ret)))
        exact ⟨_, _, f1, .inr ⟨rfl, hIx _ _ _ i3 (c4.weak fun k hk => .inl (by have : k = w.heap.size + 1 := hk; omega)), f2, f3⟩⟩
    · rintro e W2 ⟨⟨v, rfl⟩, (⟨s', hi, hl, hk, _⟩ | ⟨pre, hpre, hi, hl, hk⟩)⟩
      · have he := run_endLoop (P := Tryz.prog) hl (by rw [hrec]; simp)
        rw [hrec] at he
        have c4 := chg_putObj W2 (w.heap.size + 1) (.loop { rec .ready none with state := .exhausted })
        rw [hrec] at c4
        exact ⟨none, _, he, hdone _ _ (Nat.le_refl _) (hI _ _ _ hi (c4.weak fun k hk => .inl (by have : k = w.heap.size + 1 := hk; omega))) (rec_kept hk c4 (by show ¬ _ = _; omega))⟩
      · have he := run_endLoop (P := Tryz.prog) hl (by rw [hrec]; simp)
        rw [hrec] at he
        have c4 := chg_putObj W2 (w.heap.size + 1) (.loop { rec .done (some .ret) with state := .exhausted })
        rw [hrec] at c4
        exact ⟨some .ret, _, he, hstop _ _ _ (Nat.le_refl _) hpre (hIx _ _ _ hi (c4.weak fun k hk => .inl (by have : k = w.heap.size + 1 := hk; omega))) (rec_kept hk c4 (by show ¬ _ = _; omega))⟩
/-- strings.SplitSeq: three boxes are laid. -/
theorem splitSeq_any (s : ByteArray) (w : World) : Calls Tryz.prog 33 #[.string s, .string ⟨#[47]⟩] w fun e w' => e = .returned (.func (.func 94) #[] #[.pointer (some ⟨w.heap.size + 1, 0, none⟩), .pointer (some ⟨w.heap.size, 0, none⟩), .pointer (some ⟨w.heap.size + 2, 0, none⟩)]) ∧
    w' = ((w.alloc (.cells #[.string s] 9)).alloc (.cells #[.string ⟨#[47]⟩] 9)).alloc (.cells #[.int .i64 0] 3) := by
  have IN : Calls Tryz.prog 56 #[.string s, .string ⟨#[47]⟩, .int .i64 0] w fun e w' => e = .returned (.func (.func 94) #[] #[.pointer (some ⟨w.heap.size + 1, 0, none⟩), .pointer (some ⟨w.heap.size, 0, none⟩), .pointer (some ⟨w.heap.size + 2, 0, none⟩)]) ∧
      w' = ((w.alloc (.cells #[.string s] 9)).alloc (.cells #[.string ⟨#[47]⟩] 9)).alloc (.cells #[.int .i64 0] 3) := by
    go_enter Tryz.func56, Tryz.ntmps56
    go_wp2
    go_ret
    exact ⟨by simp, rfl⟩
  have IH := Lib.hid IN
  clear IN
  go_enter Tryz.func33, Tryz.ntmps33
  go_wp2_with fail
  refine IH.out.mono ?_; rintro e w' ⟨rfl, rfl⟩
  go_wp2
  go_ret
  exact ⟨rfl, rfl⟩
set_option maxRecDepth 100000 in
set_option maxHeartbeats 4000000 in
theorem name_any (l : List UInt8) (hl63 : l.length ≤ 1000000000) (w : World) : Calls Tryz.prog 13 #[.string ⟨l.toArray⟩] w fun e w' => e = .returned (.bool (nameB l)) ∧ Below w.heap.size w w' := by
  have hsz : (⟨l.toArray⟩ : ByteArray).size = l.length := rfl
  refine callsIn_wide (n := 9).1 ?_
  refine callsIn_of_wp_marks Tryz.func13 rfl trivial ?_ rfl
  simp only [Tryz.ntmps13, List.size_toArray, List.length_cons, List.length_nil, Nat.reduceAdd, Nat.reduceSub, Array.replicate_succ, Array.replicate_zero, List.push_toArray, List.append_toArray, List.nil_append, List.cons_append]
  by_cases h24 : 24 < l.length
  · have g : (l.length : Int) > 24 := by omega
    have EV := Lib.hid (show nameB l = false from by unfold nameB; rw [decide_eq_false (by omega)]; rfl)
    have hb := Blk.new w 4 #[.bool false]
    have hc := (hb.cell 0).trans (show _ = some (.bool false) from rfl)
    have hbel := (Below.refl w.heap.size w).alloc (Nat.le_refl _) (.cells #[.bool false] 4)
    have HB := Lib.hid (And.intro hc hbel)
    clear hb hc hbel
    gi_wp2
    have hc := HB.out.1
    refine ⟨.bool false, ?_, by rw [EV.out], HB.out.2⟩
    simp [results, Tryz.f13, go_sem, hc]
  have g : ¬ (l.length : Int) > 24 := by omega
  obtain ⟨W1, hW1⟩ : ∃ W1, W1 = w.alloc (.cells #[.bool false] 4) := ⟨_, rfl⟩
  obtain ⟨W2, hW2⟩ : ∃ W2, W2 = ((W1.alloc (.cells #[.string ⟨l.toArray⟩] 9)).alloc (.cells #[.string ⟨#[47]⟩] 9)).alloc (.cells #[.int .i64 0] 3) := ⟨_, rfl⟩
  have hz1 : W1.heap.size = w.heap.size + 1 := by rw [hW1]; simp
  have hz2 : W2.heap.size = w.heap.size + 4 := by rw [hW2]; simp [hz1]
  have k0 : Blk W1 w.heap.size 4 #[.bool false] := by rw [hW1]; exact Blk.new w _ _
  have b1 : Below w.heap.size w W1 := by rw [hW1]; exact (Below.refl _ w).alloc (Nat.le_refl _) _
  have b2 : Below W1.heap.size W1 W2 := by rw [hW2]; exact (((Below.refl _ W1).alloc (Nat.le_refl _) _).alloc (by simp) _).alloc (by simp; omega) _
  have k1 : Blk W2 (w.heap.size + 1) 9 #[.string ⟨l.toArray⟩] := by
    rw [hW2, ← hz1]
    exact ((Blk.new W1 9 #[.string ⟨l.toArray⟩]).alloc _).alloc _
  have k2 : Blk W2 (w.heap.size + 2) 9 #[.string ⟨#[47]⟩] := by
    rw [hW2]
    have := (Blk.new (W1.alloc (.cells #[.string ⟨l.toArray⟩] 9)) 9 #[.string ⟨#[47]⟩]).alloc (.cells #[.int .i64 0] 3)
    simpa [hz1] using this
  have k3 : Blk W2 (w.heap.size + 3) 3 #[.int .i64 0] := by
    rw [hW2]
    have := Blk.new ((W1.alloc (.cells #[.string ⟨l.toArray⟩] 9)).alloc (.cells #[.string ⟨#[47]⟩] 9)) 3 #[.int .i64 0]
    simpa [hz1] using this
  have K0 := Lib.hid (show Blk W2 w.heap.size 4 #[.bool false] from k0.older (older_below b2))
  have K1 := Lib.hid k1
  have K2 := Lib.hid k2
  have K3 := Lib.hid k3
  have BW := Lib.hid (b1.trans (b2.mono b1.size))
  have SP := Lib.hid (splitSeq_any ⟨l.toArray⟩ W1)
  rw [← hW2, hz1] at SP
  have HW1 := Lib.hid hW1
  clear hW1 hW2 k0 k1 k2 k3 b1 b2
  gi_wp2_with fail
  refine ⟨trivial, ?_⟩
  rw [show w.alloc (.cells #[.bool false] 4) = W1 from HW1.out.symm]
  refine (callsIn_wide.2 SP.out).mono ?_; rintro e w' ⟨rfl, hw'⟩; subst hw'
  clear SP HW1
  gi_wp2_with fail
  have BL := Lib.hid (show ∀ pre : List (List UInt8), pre <+: segs l → (∃ x ∈ pre, segB x = false) → nameB l = false from fun pre hp ⟨x, hx, hf⟩ => by
    unfold nameB
    have : (segs l).all segB = false := by
      rw [List.all_eq_false]
      exact ⟨x, hp.subset hx, by rw [hf]; decide⟩
    rw [this, Bool.and_false])
  have GO := Lib.hid (show (∀ x ∈ segs l, segB x = true) → nameB l = true from fun h => by
    unfold nameB
    rw [List.all_eq_true.2 h, decide_eq_true (by omega)]; rfl)
  refine range_seq (n := 9) (B1 := w.heap.size + 2) (B2 := w.heap.size + 1) (B3 := w.heap.size + 3) rfl l (by omega) K2.out K1.out K3.out (by omega) (by omega) (fun k => k = w.heap.size) (fun k hk => by have : k = w.heap.size := hk; omega)
    (fun pre W => (∀ x ∈ pre, segB x = true) ∧ Blk W w.heap.size 4 #[.bool false] ∧ Below w.heap.size w W)
    (fun pre W => (∃ x ∈ pre, segB x = false) ∧ Blk W w.heap.size 4 #[.bool false] ∧ Below w.heap.size w W)
    ?_ ?_ ⟨fun x hx => (by cases hx), K0.out, BW.out⟩
    (fun x => { tmps := #[.string ⟨l.toArray⟩, undef, .pointer (some ⟨w.heap.size, 0, none⟩), .string ⟨x.toArray⟩, .string ⟨l.toArray⟩, .int .i64 (l.length : Int), .bool false, .string ⟨l.toArray⟩, .func (.func 94) #[] #[.pointer (some ⟨w.heap.size + 1 + 1, 0, none⟩), .pointer (some ⟨w.heap.size + 1, 0, none⟩), .pointer (some ⟨w.heap.size + 1 + 2, 0, none⟩)], .string ⟨x.toArray⟩, undef, undef, undef], defers := [] }) ?_ ?_ ?_ ?_
  · rintro pre W W3 ⟨h1, h2, h3⟩ k
    exact ⟨h1, h2.chg k (by show ¬ (_ ∨ _); omega), h3.trans (k.below h3.size (fun i hi => by have : w'.heap.size ≤ i ∨ i = w.heap.size + 1 := hi; omega))⟩
  · rintro pre W W3 ⟨h1, h2, h3⟩ k
    exact ⟨h1, h2.chg k (by show ¬ (_ ∨ _); omega), h3.trans (k.below h3.size (fun i hi => by have : w'.heap.size ≤ i ∨ i = w.heap.size + 1 := hi; omega))⟩
  · intro l x W K hK
    gi_wp2
    exact hK
  · intro l' pre x W hi hx
    have IS := Lib.hid (isSeg_any x (by omega) W)
    have HI := Lib.hid hi
    have d0 := (HI.out.2.1.cell 0).trans (show _ = some (.bool false) from rfl)
    have f0 := HI.out.2.1.frozen 0
    clear hi
    cases hb : segB x with
    | true =>
      rw [hb] at IS
      have HBX := Lib.hid hb
      clear hb
      gi_wp2_with fail
      refine ⟨trivial, ?_⟩
      refine (CallsIn.inRound l' (callsIn_wide.2 IS.out)).mono ?_; rintro e wq ⟨rfl, hwq⟩; subst hwq
      gi_wp2
      exact ⟨Chg.refl _ _, fun y hy => (by rcases hy with h | h; exact HI.out.1 y h; rw [h]; exact HBX.out), HI.out.2.1, HI.out.2.2⟩
    | false =>
      rw [hb] at IS
      have HBX := Lib.hid hb
      clear hb
      gi_wp2_with fail
      refine ⟨trivial, ?_⟩
      refine (CallsIn.inRound l' (callsIn_wide.2 IS.out)).mono ?_; rintro e wq ⟨rfl, hwq⟩; subst hwq
      gi_wp2
      exact ⟨Chg.set _ _ _ rfl, .inr HBX.out, HI.out.2.1.put 0 _, HI.out.2.2.setCell (Nat.le_refl _) _⟩
  · intro D W hD hi hk
    have EV := Lib.hid (GO.out hi.1)
    have HB := Lib.hid hi.2
    have d0 := (HB.out.1.cell 0).trans (show _ = some (.bool false) from rfl)
    have f0 := HB.out.1.frozen 0
    have HK := Lib.hid (show (W.setCell ⟨w.heap.size, 0, none⟩ (.bool true)).heap[D]? = some (.deferred (some [])) from rec_kept hk (Chg.set W 0 (.bool true) (S := fun k => k = w.heap.size) rfl) (by show ¬ _ = _; omega))
    clear hi hk
    gi_wp2
    refine ⟨by simp, .inl ⟨_, _, rfl, run_takeDeferred HK.out, ?_⟩⟩
    have c4 := chg_putObj (W.setCell ⟨w.heap.size, 0, none⟩ (.bool true)) D (.deferred none)
    have hb2 : Blk (W.setCell ⟨w.heap.size, 0, none⟩ (.bool true)) w.heap.size 4 #[.bool true] := HB.out.1.put 0 _
    have hc := ((hb2.chg c4 (by show ¬ _ = _; omega)).cell 0).trans (show _ = some (.bool true) from rfl)
    have hz := HB.out.2.size
    refine ⟨.bool true, ?_, by rw [EV.out], (HB.out.2.setCell (Nat.le_refl _) _).trans (c4.below (by simpa [World.setCell] using hz) (fun i hi => by have : i = D := hi; omega))⟩
    simp [results, Tryz.f13, go_sem, hc]
  · intro D pre W hD hpre hi hk
    have EV := Lib.hid (BL.out pre hpre hi.1)
    have HB := Lib.hid hi.2
    have HK := Lib.hid hk
    clear hi hk
    gi_wp2
    refine ⟨by simp, .inl ⟨_, _, rfl, run_takeDeferred HK.out, ?_⟩⟩
    have c4 := chg_putObj W D (.deferred none)
    have hc := ((HB.out.1.chg c4 (by show ¬ _ = _; omega)).cell 0).trans (show _ = some (.bool false) from rfl)
    refine ⟨.bool false, ?_, by rw [EV.out], HB.out.2.trans (c4.below HB.out.2.size (fun i hi => by have : i = D := hi; omega))⟩
    simp [results, Tryz.f13, go_sem, hc]
end Go.Proofs.YtefnkednnnlhoaaGreatDoor.Pt
