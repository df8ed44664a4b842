/- General words: rows whose elements take many cells; stores and loads of whole structs; bytes.Clone, texts as bytes and back, blocks of zeros. Conditions: those that each states. -/
import Derived.Test.YtfkfnmoilagahaaBase
import Derived.Test.YtfkfnmoilagahaaApp
import Derived.Test.YtfkfnmoilagahaaSto
import Derived.Laws.CopyRow
import Derived.Laws.CopyOwn
import Derived.Laws.Tables
import Derived.Deep.MidRow
import Derived.Lib.Bytes
import Derived.Lib.SliceRun
import Derived.Laws.IdiomStrings
import Derived.Lib.ConvBytes
import Derived.Laws.Cover3
import Derived.RegionTactic
namespace Go.Proofs.Ytfkfnmoilagahaa.Di
open Go.ChangeShapes Go.WideShapes Go.ChangeAt Go.RowKit Go.Deep
set_option linter.unusedVariables false

/-- A struct's cells, stored at once into the middle of a block that is known whole. -/
theorem wpList_build_is {P : Program} {ops : Array Oper} {rest : List Oper} {o : Oper} {a : Act} {w : World} {Q : Exit → Act → World → Prop} (hg : o.guard = none) (t : TypeId) (ho : o.op = .build t #[]) (cells : Array Value)
    (hc : P.built t [] = some cells) (h : wpList P ops Q rest (a.put o.dst (.agg cells)) w) : wpList P ops Q (o :: rest) a w := by
  refine wpList_build hg t #[] ho (by simp [hc]) (by simpa [hc] using h)
theorem bys_all (l : List UInt8) : ∀ v ∈ bys l, v.oneCell' = true := fun v hv => bys_one hv

section
variable {w w' w1 : World} {g : Nat} {S : Nat → Prop}

/-- Which block a slice lies in. -/
def inB (A : Option Addr) (b : Nat) : Prop := A.map (·.block) = some b
theorem inB_own {A : Option Addr} {n c b : Nat} : (Value.slice A n c).ownBlock = some b ↔ inB A b := by cases A <;> simp [Value.ownBlock, inB]
theorem inB_none (b : Nat) : ¬ inB none b := by simp [inB]
theorem inB_some {g o b : Nat} (h : inB (some ⟨g, o, none⟩) b) : b = g := by simpa [inB, eq_comm] using h
theorem inB_self (g o : Nat) : inB (some ⟨g, o, none⟩) g := by simp [inB]
/-- A row of the call's own whose elements take sz cells each. -/
structure RowW (w : World) (E : TypeId) (sz : Nat) (A : Option Addr) (n c : Nat) (xs : List Value) : Prop where
  own : w.ownsRow 0 E sz (.slice A n c) n xs
section
variable {E : TypeId} {sz n c : Nat} {A : Option Addr} {xs : List Value}
theorem RowW.lt (h : RowW w E sz A n c xs) : ∀ b, inB A b → b < w.heap.size := fun b hb => (h.own.lt b (inB_own.2 hb)).2
theorem RowW.same (h : RowW w E sz A n c xs) (k : ∀ b, inB A b → w'.heap[b]? = w.heap[b]?) : RowW w' E sz A n c xs := by
  refine ⟨⟨h.own.1, ?_⟩⟩
  rcases h.own.2 with hl | ⟨g, cap, cur, e, hg, hh, r⟩
  · exact .inl hl
  · refine .inr ⟨g, cap, cur, e, hg, ?_, r⟩
    rw [k g (by injection e with e1; rw [e1]; rfl)]
    exact hh
theorem RowW.chg (h : RowW w E sz A n c xs) (k : Chg w w' S) (hn : ∀ b, inB A b → ¬ S b) : RowW w' E sz A n c xs := h.same fun b hb => k.block b (h.lt b hb) (hn b hb)
theorem RowW.new (h : RowW w E sz A n c xs) (k : Below w.heap.size w w') : RowW w' E sz A n c xs := h.same fun b hb => k.block b (h.lt b hb)
theorem RowW.drewN (h : RowW w E sz A n c xs) (m : Nat) : RowW (w.drewN m) E sz A n c xs := h.same fun _ _ => rfl
theorem RowW.nil (w : World) (E : TypeId) (sz : Nat) : RowW w E sz none 0 0 [] := ⟨World.ownsRow_nil w 0 E sz⟩
theorem RowW.len (h : RowW w E sz A n c xs) : xs.length = n * sz := h.own.1
theorem RowW.none_ (h : RowW w E sz none n c xs) : n = 0 ∧ c = 0 := by
  rcases h.own.2 with ⟨e, _⟩ | ⟨g, cap, cur, e, _⟩
  · injection e with _ e2 e3
    exact ⟨e2, e3⟩
  · cases e
theorem RowW.form (h : RowW w E sz A n c xs) (hn : 0 < n) : ∃ g, A = some ⟨g, 0, none⟩ ∧ g < w.heap.size ∧ ∀ j (hj : j < xs.length), w.cell? ⟨g, j, none⟩ = some xs[j] := by
  rcases h.own.2 with ⟨_, e⟩ | ⟨g, cap, cur, e, hg, hh, _⟩
  · omega
  · injection e with e1
    subst e1
    refine ⟨g, rfl, (Array.getElem?_eq_some_iff.1 hh).1, fun j hj => ?_⟩
    have hc := h.own.cells (g := g) rfl j xs[j] (List.getElem?_eq_getElem hj)
    have ea : (⟨g, 0, none⟩ : Addr).add j = ⟨g, 0 + j, none⟩ := by unfold Addr.add; split <;> simp_all
    rw [ea, Nat.zero_add] at hc
    exact hc
theorem RowW.capMax (h : RowW w E sz A n c xs) : n ≤ c ∧ c ≤ maxLen := by
  rcases h.own.2 with ⟨e, e2⟩ | ⟨g, cap, cur, e, hg, hh, h1, h2, _⟩
  · injection e with _ _ e3
    subst e2 e3
    exact ⟨Nat.le_refl _, Nat.zero_le _⟩
  · injection e with _ _ e3
    subst e3
    exact ⟨h1, h2⟩
end
def Apart (A A' : Option Addr) : Prop := ∀ b, inB A b → inB A' b → False
theorem Apart.symm {A A' : Option Addr} (h : Apart A A') : Apart A' A := fun b h1 h2 => h b h2 h1
theorem Apart.new {A A' : Option Addr} {g H : Nat} (h : Apart A A') (hk : ∀ b, inB A' b → b < H) (hat : inB A g ∨ H ≤ g) : Apart (some ⟨g, 0, none⟩) A' := by
  intro b h1 h2
  have e : g = b := by simpa [inB] using h1
  subst e
  rcases hat with e | e
  · exact h g e h2
  · have := hk g h2; omega
theorem chg_of_grown {A : Option Addr} {n c : Nat} (hb : Below w.heap.size w w1) (hg : w1.grownBy w' (Value.slice A n c).ownBlock) : Chg w w' (fun k => inB A k) :=
  (Chg.of_new hb _).trans ⟨hg.os, hg.tape, hg.output, hg.size, fun k hk hn => hg.block k hk fun e => hn (inB_own (n := n) (c := c).1 e.symm)⟩
theorem at_of {A : Option Addr} {n c H : Nat} (hz : w.heap.size ≤ H) (hat : (Value.slice A n c).ownBlock = some g ∨ g = H) : inB A g ∨ w.heap.size ≤ g := by
  rcases hat with e | e
  · exact .inl (inB_own (n := n) (c := c).1 e)
  · exact .inr (by omega)
end

/-- Rows of equal length, one behind the other. -/
theorem flat_len {l : List (List Value)} {sz : Nat} (h : ∀ r ∈ l, r.length = sz) : l.flatten.length = l.length * sz := by
  induction l with
  | nil => simp
  | cons r l ih =>
    rw [List.flatten_cons, List.length_append, h r (by simp), ih (fun r hr => h r (by simp [hr])), List.length_cons, Nat.add_mul, Nat.one_mul, Nat.add_comm]
theorem flat_get {l : List (List Value)} {sz : Nat} (h : ∀ r ∈ l, r.length = sz) {i j : Nat} (hi : i < l.length) (hj : j < sz) : l.flatten[i * sz + j]? = (l[i])[j]? := by
  induction l generalizing i with
  | nil => simp at hi
  | cons r l ih =>
    have hr := h r (by simp)
    cases i with
    | zero => rw [List.flatten_cons, List.getElem?_append_left (by omega), Nat.zero_mul, Nat.zero_add]; rfl
    | succ i =>
      rw [List.flatten_cons, List.getElem?_append_right (by rw [Nat.add_mul]; omega), hr, show (i + 1) * sz + j - sz = i * sz + j by rw [Nat.add_mul]; omega, ih (fun r hr => h r (by simp [hr])) (by simpa using hi)]
      rfl
theorem flat_set {l : List (List Value)} {sz : Nat} (h : ∀ r ∈ l, r.length = sz) {i : Nat} (hi : i < l.length) (r' : List Value) : (l.set i r').flatten = l.flatten.take (i * sz) ++ r' ++ l.flatten.drop (i * sz + sz) := by
  induction l generalizing i with
  | nil => simp at hi
  | cons r l ih =>
    have hr := h r (by simp)
    cases i with
    | zero =>
      rw [List.set_cons_zero, List.flatten_cons, List.flatten_cons, Nat.zero_mul, List.take_zero, List.nil_append, Nat.zero_add, ← hr, List.drop_left]
    | succ i =>
      have e1 : (i + 1) * sz = r.length + i * sz := by rw [Nat.add_mul, hr]; omega
      rw [List.set_cons_succ, List.flatten_cons, List.flatten_cons, ih (fun r hr => h r (by simp [hr])) (by simpa using hi), e1, List.take_length_add_append, show r.length + i * sz + sz = r.length + (i * sz + sz) by omega, List.drop_length_add_append]
      simp [List.append_assoc]

theorem u8_size : (Try.prog.info? 5).map (·.size) = some 1 := by kernel_rfl
/-- '[]byte(s)'. -/
theorem conv_src (s : ByteArray) (hs : s.size ≤ 1000000) (w : World) : ∃ A c W', (convert 9 29 (.string s)).run Try.prog w = .ok (.slice A s.size c) W' ∧ Src W' A s.size c s.data.toList ∧ Below w.heap.size w W' ∧ ∀ b o, A = some ⟨b, o, none⟩ → w.heap.size ≤ b := by
  refine ⟨_, _, _, run_bytes_of_string w 9 29 5 s Try.underlying9 Try.underlying29 Try.underlying5, ⟨⟨fun hp => ⟨w.heap.size, 0, rfl, (Array.getElem?_eq_some_iff.1 (heap_alloc_new w.drew _)).1, fun j hj => ?_⟩, Array.length_toList, grownCap_ge w _ _ _, ?_⟩, fun e => by cases e⟩, ?_, fun b o e => by cases e; exact Nat.le_refl _⟩
  · have hj' : j < s.data.size := by simpa [bys] using hj
    have hh : (w.drew.alloc (.cells (bytesRow s (grownCap w s.size 0 5)) 5 ((bytesRow s (grownCap w s.size 0 5)).size, (bytesRow s (grownCap w s.size 0 5)).size + 1))).heap[w.heap.size]? = some (.cells (bytesRow s (grownCap w s.size 0 5)) 5 ((bytesRow s (grownCap w s.size 0 5)).size, (bytesRow s (grownCap w s.size 0 5)).size + 1)) := heap_alloc_new w.drew _
    rw [Nat.zero_add, cell_of_row _ _ _ _ _ _ hh, bytesRow_at s _ j hj']
    simp [bys]
  · have := grownCap_le_maxLen w s.size 0 5 (by unfold maxLen; omega)
    simpa [maxLen] using this
  · exact (⟨rfl, rfl, rfl, Nat.le_refl _, fun _ _ => rfl⟩ : Below w.heap.size w w.drew).alloc (Nat.le_refl _) _

/-- 'string(b)'. -/
theorem told_str {w : World} {A : Option Addr} {n c : Nat} {l : List UInt8} (hb : Src w A n c l) : (convert 29 9 (.slice A n c)).run Try.prog w = .ok (.string ⟨l.toArray⟩) w := by
  have hl := hb.len
  cases A with
  | none =>
    have hc := hb.none_ rfl
    have hn : n = 0 := by have := hb.cap; omega
    subst hn
    rw [List.length_eq_zero_iff.1 hl]
    exact run_convert_bytes_nil w 29 5 Try.underlying29 Try.underlying5 0 c 9 Try.underlying9
  | some ad =>
    subst hl
    exact run_convert_bytes_back w 29 9 5 ad c l Try.underlying29 Try.underlying5 Try.underlying9 fun j hj => by
      rw [Bytes.at_ ad hb.toBytes j _ (bys_get hj)]
theorem make256 (W : World) : (Instr.makeSlice 29 (.int .i64 256) (.int .i64 256)).run Try.prog W = .ok (.slice (some ⟨W.heap.size, 0, none⟩) 256 256) (W.alloc (.cells (madeCells #[.int .u8 0] 256) 5)) := by
  obtain ⟨i0, hi, hz0, hz1, hz2⟩ := u8_info
  have hr := run_make (P := Try.prog) W 29 5 i0 (.int .u8 0) Try.underlying29 hi hz0 .i64 .i64 256 256 (by omega) (by omega) (by rw [hz2]; omega) (by omega)
  simp only [hz1, Nat.mul_one] at hr
  exact hr
theorem made256 (w : World) : Src (w.alloc (.cells (madeCells #[.int .u8 0] 256) 5)) (some ⟨w.heap.size, 0, none⟩) 256 256 (List.replicate 256 0) := by
  refine ⟨⟨fun hp => ⟨w.heap.size, 0, rfl, (Blk.new w _ _).lt, fun j hj => ?_⟩, List.length_replicate, Nat.le_refl _, by omega⟩, fun e => by cases e⟩
  have hj' : j < 256 := by rw [bys_length, List.length_replicate] at hj; exact hj
  rw [(Blk.new w _ _).cell (0 + j), Nat.zero_add]
  unfold madeCells
  rw [Array.getElem?_map, Array.getElem?_range, if_pos hj']
  have e : j % (#[Value.int .u8 0] : Array Value).size = 0 := Nat.mod_one j
  simp only [Option.map_some, e]
  simp only [bys, List.getElem_map, List.getElem_replicate]
  rfl

/-! Regions that draw their order, operation by operation. -/
section
variable {P : Program} {ops : Array Oper} {Q : Exit → Act → World → Prop} {md : Region.Mode}
/-- One operation alone may come up. -/
theorem any_one {fuel : Nat} {listed : Array Bool} {a : Act} {w : World} {i : Nat} {o : Oper} (hr : Region.ready md ops listed = [i]) (ho : ops[i]? = some o) (hw : Region.wanted o (yielded ops a.tmps) = true)
    (h : o.wp P a w (wpAny P md ops Q fuel (listed.setIfInBounds i true)) Q) : wpAny P md ops Q (fuel + 1) listed a w :=
  wpAny_ready hr (by simp) (AllReady.cons ho (fun K' hK => by rw [if_pos hw]; exact Oper.wp_mono (fun a w h => hK a w h) h) AllReady.nil)
/-- Two may. -/
theorem any_two {fuel : Nat} {listed : Array Bool} {a : Act} {w : World} {i j : Nat} {o o' : Oper} (hr : Region.ready md ops listed = [i, j]) (ho : ops[i]? = some o) (ho' : ops[j]? = some o') (hw : Region.wanted o (yielded ops a.tmps) = true) (hw' : Region.wanted o' (yielded ops a.tmps) = true)
    (h : o.wp P a w (wpAny P md ops Q fuel (listed.setIfInBounds i true)) Q) (h' : o'.wp P a w (wpAny P md ops Q fuel (listed.setIfInBounds j true)) Q) : wpAny P md ops Q (fuel + 1) listed a w :=
  wpAny_ready hr (by simp) (AllReady.cons ho (fun K' hK => by rw [if_pos hw]; exact Oper.wp_mono (fun a w h => hK a w h) h) (AllReady.cons ho' (fun K' hK => by rw [if_pos hw']; exact Oper.wp_mono (fun a w h => hK a w h) h') AllReady.nil))
theorem exec_arrayAt {o : Oper} {a : Act} {arr : TypeId} {x : Operand} (ho : o.op = .sliceToArrayPointer arr x) {v y : Value} (hx : a.eval x = y) (h : ∀ w, (Instr.arrayAt arr y).run P w = .ok v w) (w : World) : (execOp a.eval o).run P w = .ok (.value v) w := by
  unfold execOp
  simp only [ho, hx, Sem.run_bind, h, Result.andThen_ok, Sem.run_pure]
theorem exec_build {o : Oper} {a : Act} {t : TypeId} {parts : Array (Nat × Operand)} (ho : o.op = .build t parts) {v : Value} {ps : Array (Nat × Value)} (hx : (parts.map fun (i, x) => (i, a.eval x)) = ps) (h : ∀ w, (Instr.build t ps).run P w = .ok v w) (w : World) : (execOp a.eval o).run P w = .ok (.value v) w := by
  unfold execOp
  simp only [ho, hx, Sem.run_bind, h, Result.andThen_ok, Sem.run_pure]
theorem wp_slice_is {o : Oper} {a : Act} {w w' : World} {K : Act → World → Prop} {t : TypeId} {n : Nat} {parts : Array (Nat × Operand)} (ho : o.op = .buildSlice t n parts) {v : Value} {ps : Array (Nat × Value)} (hx : (parts.map fun (i, x) => (i, a.eval x)) = ps) (h : (Instr.buildSlice t n ps).run P w = .ok v w')
    (hk : K (a.put o.dst v) w') : o.wp P a w K Q := by
  unfold Oper.wp execOp
  simp only [ho, hx, Sem.run_bind, h, Result.andThen_ok, Sem.run_pure]
  exact hk
theorem wp_load_is {o : Oper} {a : Act} {w : World} {K : Act → World → Prop} {t : TypeId} {x : Operand} (ho : o.op = .load t x) {v y : Value} (hx : a.eval x = y) (h : (Instr.loadAt t y).run P w = .ok v w)
    (hk : K (a.put o.dst v) w) : o.wp P a w K Q := by
  unfold Oper.wp execOp
  simp only [ho, hx, Sem.run_bind, h, Result.andThen_ok, Sem.run_pure]
  exact hk
theorem wp_store_is {o : Oper} {a : Act} {w w' : World} {K : Act → World → Prop} {t : TypeId} {x y : Operand} (ho : o.op = .store t x y) {vx vy : Value} (hx : a.eval x = vx) (hy : a.eval y = vy) (h : (Instr.storeAt t vx vy).run P w = .ok () w')
    (hk : K (a.put o.dst undef) w') : o.wp P a w K Q := by
  unfold Oper.wp execOp
  simp only [ho, hx, hy, Sem.run_bind, h, Result.andThen_ok, Sem.run_pure]
  exact hk
end
end Go.Proofs.Ytfkfnmoilagahaa.Di
