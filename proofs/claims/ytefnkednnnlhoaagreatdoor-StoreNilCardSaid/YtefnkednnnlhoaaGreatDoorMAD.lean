/- General words: rows whose elements take many cells; stores and loads of whole structs; bytes.Clone, texts as bytes and back, blocks of zeros. Conditions: those that each states. -/
import Derived.Test.YtefnkednnnlhoaaGreatDoorMAA
import Derived.Test.YtefnkednnnlhoaaGreatDoorMAC
import Derived.Laws.CopyRow
import Derived.Laws.CopyOwn
import Derived.Laws.Tables
import Derived.Deep.MidRow
import Derived.Lib.Bytes
import Derived.Lib.SliceRun
import Derived.Laws.IdiomStrings
import Derived.Lib.ConvBytes
import Derived.Laws.Cover3
import Derived.RegionTactic
import Derived.BigRegion
import Derived.WalkMore
import Derived.StillTailTactics
import Derived.Deep.QuietTactic
import Derived.BigQuiet
import Derived.Deep.OwnRows
namespace Go.Proofs.YtefnkednnnlhoaaGreatDoor.Di
open Go.ChangeShapes Go.WideShapes Go.ChangeAt Go.RowKit Go.Deep
set_option linter.unusedVariables false

section
variable {w w' w1 : World} {g : Nat} {S : Nat → Prop}

/-- Which block a slice lies in. -/
def inB (A : Option Addr) (b : Nat) : Prop := A.map (·.block) = some b
theorem inB_own {A : Option Addr} {n c b : Nat} : (Value.slice A n c).ownBlock = some b ↔ inB A b := by cases A <;> simp [Value.ownBlock, inB]
theorem inB_none (b : Nat) : ¬ inB none b := by simp [inB]
theorem inB_some {g o b : Nat} (h : inB (some ⟨g, o, none⟩) b) : b = g := by simpa [inB, eq_comm] using h
theorem inB_self (g o : Nat) : inB (some ⟨g, o, none⟩) g := by simp [inB]
/-- A row of the call's own whose elements take sz cells each. -/
structure RowW (w : World) (E : TypeId) (sz : Nat) (A : Option Addr) (n c : Nat) (xs : List Value) : Prop where
  own : w.ownsRow 0 E sz (.slice A n c) n xs
section
variable {E : TypeId} {sz n c : Nat} {A : Option Addr} {xs : List Value}
theorem RowW.lt (h : RowW w E sz A n c xs) : ∀ b, inB A b → b < w.heap.size := fun b hb => (h.own.lt b (inB_own.2 hb)).2
theorem RowW.same (h : RowW w E sz A n c xs) (k : ∀ b, inB A b → w'.heap[b]? = w.heap[b]?) : RowW w' E sz A n c xs := by
  refine ⟨⟨h.own.1, ?_⟩⟩
  rcases h.own.2 with hl | ⟨g, cap, cur, e, hg, hh, r⟩
  · exact .inl hl
  · refine .inr ⟨g, cap, cur, e, hg, ?_, r⟩
    rw [k g (by injection e with e1; rw [e1]; rfl)]
    exact hh
theorem RowW.chg (h : RowW w E sz A n c xs) (k : Chg w w' S) (hn : ∀ b, inB A b → ¬ S b) : RowW w' E sz A n c xs := h.same fun b hb => k.block b (h.lt b hb) (hn b hb)
theorem RowW.new (h : RowW w E sz A n c xs) (k : Below w.heap.size w w') : RowW w' E sz A n c xs := h.same fun b hb => k.block b (h.lt b hb)
theorem RowW.drewN (h : RowW w E sz A n c xs) (m : Nat) : RowW (w.drewN m) E sz A n c xs := h.same fun _ _ => rfl
theorem RowW.nil (w : World) (E : TypeId) (sz : Nat) : RowW w E sz none 0 0 [] := ⟨World.ownsRow_nil w 0 E sz⟩
theorem RowW.len (h : RowW w E sz A n c xs) : xs.length = n * sz := h.own.1
theorem RowW.none_ (h : RowW w E sz none n c xs) : n = 0 ∧ c = 0 := by
  rcases h.own.2 with ⟨e, _⟩ | ⟨g, cap, cur, e, _⟩
  · injection e with _ e2 e3
    exact ⟨e2, e3⟩
  · cases e
theorem RowW.form (h : RowW w E sz A n c xs) (hn : 0 < n) : ∃ g, A = some ⟨g, 0, none⟩ ∧ g < w.heap.size ∧ ∀ j (hj : j < xs.length), w.cell? ⟨g, j, none⟩ = some xs[j] := by
  rcases h.own.2 with ⟨_, e⟩ | ⟨g, cap, cur, e, hg, hh, _⟩
  · omega
  · injection e with e1
    subst e1
    refine ⟨g, rfl, (Array.getElem?_eq_some_iff.1 hh).1, fun j hj => ?_⟩
    have hc := h.own.cells (g := g) rfl j xs[j] (List.getElem?_eq_getElem hj)
    have ea : (⟨g, 0, none⟩ : Addr).add j = ⟨g, 0 + j, none⟩ := by unfold Addr.add; split <;> simp_all
    rw [ea, Nat.zero_add] at hc
    exact hc
theorem RowW.capMax (h : RowW w E sz A n c xs) : n ≤ c ∧ c ≤ maxLen := by
  rcases h.own.2 with ⟨e, e2⟩ | ⟨g, cap, cur, e, hg, hh, h1, h2, _⟩
  · injection e with _ _ e3
    subst e2 e3
    exact ⟨Nat.le_refl _, Nat.zero_le _⟩
  · injection e with _ _ e3
    subst e3
    exact ⟨h1, h2⟩
end
def Apart (A A' : Option Addr) : Prop := ∀ b, inB A b → inB A' b → False
theorem Apart.symm {A A' : Option Addr} (h : Apart A A') : Apart A' A := fun b h1 h2 => h b h2 h1
theorem Apart.new {A A' : Option Addr} {g H : Nat} (h : Apart A A') (hk : ∀ b, inB A' b → b < H) (hat : inB A g ∨ H ≤ g) : Apart (some ⟨g, 0, none⟩) A' := by
  intro b h1 h2
  have e : g = b := by simpa [inB] using h1
  subst e
  rcases hat with e | e
  · exact h g e h2
  · have := hk g h2; omega
theorem chg_of_grown {A : Option Addr} {n c : Nat} (hb : Below w.heap.size w w1) (hg : w1.grownBy w' (Value.slice A n c).ownBlock) : Chg w w' (fun k => inB A k) :=
  (Chg.of_new hb _).trans ⟨hg.os, hg.tape, hg.output, hg.size, fun k hk hn => hg.block k hk fun e => hn (inB_own (n := n) (c := c).1 e.symm)⟩
theorem at_of {A : Option Addr} {n c H : Nat} (hz : w.heap.size ≤ H) (hat : (Value.slice A n c).ownBlock = some g ∨ g = H) : inB A g ∨ w.heap.size ≤ g := by
  rcases hat with e | e
  · exact .inl (inB_own (n := n) (c := c).1 e)
  · exact .inr (by omega)
end

/-- Rows of equal length, one behind the other. -/
theorem flat_len {l : List (List Value)} {sz : Nat} (h : ∀ r ∈ l, r.length = sz) : l.flatten.length = l.length * sz := by
  induction l with
  | nil => simp
  | cons r l ih =>
    rw [List.flatten_cons, List.length_append, h r (by simp), ih (fun r hr => h r (by simp [hr])), List.length_cons, Nat.add_mul, Nat.one_mul, Nat.add_comm]
theorem flat_get {l : List (List Value)} {sz : Nat} (h : ∀ r ∈ l, r.length = sz) {i j : Nat} (hi : i < l.length) (hj : j < sz) : l.flatten[i * sz + j]? = (l[i])[j]? := by
  induction l generalizing i with
  | nil => simp at hi
  | cons r l ih =>
    have hr := h r (by simp)
    cases i with
    | zero => rw [List.flatten_cons, List.getElem?_append_left (by omega), Nat.zero_mul, Nat.zero_add]; rfl
    | succ i =>
      rw [List.flatten_cons, List.getElem?_append_right (by rw [Nat.add_mul]; omega), hr, show (i + 1) * sz + j - sz = i * sz + j by rw [Nat.add_mul]; omega, ih (fun r hr => h r (by simp [hr])) (by simpa using hi)]
      rfl
theorem flat_set {l : List (List Value)} {sz : Nat} (h : ∀ r ∈ l, r.length = sz) {i : Nat} (hi : i < l.length) (r' : List Value) : (l.set i r').flatten = l.flatten.take (i * sz) ++ r' ++ l.flatten.drop (i * sz + sz) := by
  induction l generalizing i with
  | nil => simp at hi
  | cons r l ih =>
    have hr := h r (by simp)
    cases i with
    | zero =>
      rw [List.set_cons_zero, List.flatten_cons, List.flatten_cons, Nat.zero_mul, List.take_zero, List.nil_append, Nat.zero_add, ← hr, List.drop_left]
    | succ i =>
      have e1 : (i + 1) * sz = r.length + i * sz := by rw [Nat.add_mul, hr]; omega
      rw [List.set_cons_succ, List.flatten_cons, List.flatten_cons, ih (fun r hr => h r (by simp [hr])) (by simpa using hi), e1, List.take_length_add_append, show r.length + i * sz + sz = r.length + (i * sz + sz) by omega, List.drop_length_add_append]
      simp [List.append_assoc]

theorem u8_size : (Tryz.prog.info? 5).map (·.size) = some 1 := by kernel_rfl
/-- 'string(b)'. -/
theorem told_str {w : World} {A : Option Addr} {n c : Nat} {l : List UInt8} (hb : Src w A n c l) : (convert 31 9 (.slice A n c)).run Tryz.prog w = .ok (.string ⟨l.toArray⟩) w := by
  have hl := hb.len
  cases A with
  | none =>
    have hc := hb.none_ rfl
    have hn : n = 0 := by have := hb.cap; omega
    subst hn
    rw [List.length_eq_zero_iff.1 hl]
    exact run_convert_bytes_nil w 31 5 Tryz.underlying31 Tryz.underlying5 0 c 9 Tryz.underlying9
  | some ad =>
    subst hl
    exact run_convert_bytes_back w 31 9 5 ad c l Tryz.underlying31 Tryz.underlying5 Tryz.underlying9 fun j hj => by
      rw [Bytes.at_ ad hb.toBytes j _ (bys_get hj)]
theorem make256 (W : World) : (Instr.makeSlice 31 (.int .i64 256) (.int .i64 256)).run Tryz.prog W = .ok (.slice (some ⟨W.heap.size, 0, none⟩) 256 256) (W.alloc (.cells (madeCells #[.int .u8 0] 256) 5)) := by
  obtain ⟨i0, hi, hz0, hz1, hz2⟩ := u8_info
  have hr := run_make (P := Tryz.prog) W 31 5 i0 (.int .u8 0) Tryz.underlying31 hi hz0 .i64 .i64 256 256 (by omega) (by omega) (by rw [hz2]; omega) (by omega)
  simp only [hz1, Nat.mul_one] at hr
  exact hr
theorem made256 (w : World) : Src (w.alloc (.cells (madeCells #[.int .u8 0] 256) 5)) (some ⟨w.heap.size, 0, none⟩) 256 256 (List.replicate 256 0) := by
  refine ⟨⟨fun hp => ⟨w.heap.size, 0, rfl, (Blk.new w _ _).lt, fun j hj => ?_⟩, List.length_replicate, Nat.le_refl _, by omega⟩, fun e => by cases e⟩
  have hj' : j < 256 := by rw [bys_length, List.length_replicate] at hj; exact hj
  rw [(Blk.new w _ _).cell (0 + j), Nat.zero_add]
  unfold madeCells
  rw [Array.getElem?_map, Array.getElem?_range, if_pos hj']
  have e : j % (#[Value.int .u8 0] : Array Value).size = 0 := Nat.mod_one j
  simp only [Option.map_some, e]
  simp only [bys, List.getElem_map, List.getElem_replicate]
  rfl

/-! Regions that draw their order, operation by operation. -/
section
variable {P : Program} {ops : Array Oper} {Q : Exit → Act → World → Prop} {md : Region.Mode}
/-- One operation alone may come up. -/
theorem any_one {fuel : Nat} {listed : Array Bool} {a : Act} {w : World} {i : Nat} {o : Oper} (hr : Region.ready md ops listed = [i]) (ho : ops[i]? = some o) (hw : Region.wanted o (yielded ops a.tmps) = true)
    (h : o.wp P a w (wpAny P md ops Q fuel (listed.setIfInBounds i true)) Q) : wpAny P md ops Q (fuel + 1) listed a w :=
  wpAny_ready hr (by simp) (AllReady.cons ho (fun K' hK => by rw [if_pos hw]; exact Oper.wp_mono (fun a w h => hK a w h) h) AllReady.nil)
/-- Two may. -/
theorem any_two {fuel : Nat} {listed : Array Bool} {a : Act} {w : World} {i j : Nat} {o o' : Oper} (hr : Region.ready md ops listed = [i, j]) (ho : ops[i]? = some o) (ho' : ops[j]? = some o') (hw : Region.wanted o (yielded ops a.tmps) = true) (hw' : Region.wanted o' (yielded ops a.tmps) = true)
    (h : o.wp P a w (wpAny P md ops Q fuel (listed.setIfInBounds i true)) Q) (h' : o'.wp P a w (wpAny P md ops Q fuel (listed.setIfInBounds j true)) Q) : wpAny P md ops Q (fuel + 1) listed a w :=
  wpAny_ready hr (by simp) (AllReady.cons ho (fun K' hK => by rw [if_pos hw]; exact Oper.wp_mono (fun a w h => hK a w h) h) (AllReady.cons ho' (fun K' hK => by rw [if_pos hw']; exact Oper.wp_mono (fun a w h => hK a w h) h') AllReady.nil))
theorem exec_arrayAt {o : Oper} {a : Act} {arr : TypeId} {x : Operand} (ho : o.op = .sliceToArrayPointer arr x) {v y : Value} (hx : a.eval x = y) (h : ∀ w, (Instr.arrayAt arr y).run P w = .ok v w) (w : World) : (execOp a.eval o).run P w = .ok (.value v) w := by
  unfold execOp
  simp only [ho, hx, Sem.run_bind, h, Result.andThen_ok, Sem.run_pure]
theorem exec_build {o : Oper} {a : Act} {t : TypeId} {parts : Array (Nat × Operand)} (ho : o.op = .build t parts) {v : Value} {ps : Array (Nat × Value)} (hx : (parts.map fun (i, x) => (i, a.eval x)) = ps) (h : ∀ w, (Instr.build t ps).run P w = .ok v w) (w : World) : (execOp a.eval o).run P w = .ok (.value v) w := by
  unfold execOp
  simp only [ho, hx, Sem.run_bind, h, Result.andThen_ok, Sem.run_pure]
theorem wp_slice_is {o : Oper} {a : Act} {w w' : World} {K : Act → World → Prop} {t : TypeId} {n : Nat} {parts : Array (Nat × Operand)} (ho : o.op = .buildSlice t n parts) {v : Value} {ps : Array (Nat × Value)} (hx : (parts.map fun (i, x) => (i, a.eval x)) = ps) (h : (Instr.buildSlice t n ps).run P w = .ok v w')
    (hk : K (a.put o.dst v) w') : o.wp P a w K Q := by
  unfold Oper.wp execOp
  simp only [ho, hx, Sem.run_bind, h, Result.andThen_ok, Sem.run_pure]
  exact hk
theorem wp_load_is {o : Oper} {a : Act} {w : World} {K : Act → World → Prop} {t : TypeId} {x : Operand} (ho : o.op = .load t x) {v y : Value} (hx : a.eval x = y) (h : (Instr.loadAt t y).run P w = .ok v w)
    (hk : K (a.put o.dst v) w) : o.wp P a w K Q := by
  unfold Oper.wp execOp
  simp only [ho, hx, Sem.run_bind, h, Result.andThen_ok, Sem.run_pure]
  exact hk
theorem wp_store_is {o : Oper} {a : Act} {w w' : World} {K : Act → World → Prop} {t : TypeId} {x y : Operand} (ho : o.op = .store t x y) {vx vy : Value} (hx : a.eval x = vx) (hy : a.eval y = vy) (h : (Instr.storeAt t vx vy).run P w = .ok () w')
    (hk : K (a.put o.dst undef) w') : o.wp P a w K Q := by
  unfold Oper.wp execOp
  simp only [ho, hx, hy, Sem.run_bind, h, Result.andThen_ok, Sem.run_pure]
  exact hk
end
end Go.Proofs.YtefnkednnnlhoaaGreatDoor.Di

/- A table of frames in memory: each frame is 258 cells: owner, holds, 256 bytes. Conditions: those that each states. -/
namespace Go.Proofs.YtefnkednnnlhoaaGreatDoor
open Go.ChangeShapes Go.WideShapes Go.ChangeAt Go.RowKit Go.Deep
set_option linter.unusedVariables false

structure Pg where
  owner : Nat
  holds : Nat
  text : List UInt8
structure Pg.Ok (p : Pg) : Prop where
  o : p.owner ≤ 2
  h : p.holds ≤ 1000000
  t : p.text.length = 256
def Pg.blank : Pg := ⟨0, 0, List.replicate 256 0⟩
theorem Pg.blank_ok : Pg.blank.Ok := ⟨Nat.zero_le _, Nat.zero_le _, List.length_replicate⟩
def Pg.cells (p : Pg) : List Value := .int .i64 (p.owner : Int) :: .int .i64 (p.holds : Int) :: bys p.text
theorem Pg.Ok.len {p : Pg} (h : p.Ok) : p.cells.length = 258 := by simp [Pg.cells, bys_length, h.t]
theorem Pg.cell0 (p : Pg) : p.cells[0]? = some (.int .i64 (p.owner : Int)) := rfl
theorem Pg.cell1 (p : Pg) : p.cells[1]? = some (.int .i64 (p.holds : Int)) := rfl
theorem Pg.cell2 (p : Pg) (j : Nat) : p.cells[2 + j]? = (bys p.text)[j]? := by
  rw [show 2 + j = j + 1 + 1 by omega]; rfl

/-- A table in memory: block gs holds the frames, block g the table. -/
structure TabAt (E T : TypeId) (w : World) (gs g : Nat) (ps : List Pg) : Prop where
  lt : gs < g
  n1 : 1 ≤ ps.length
  n2 : ps.length ≤ 256
  head : Blk w g T #[.slice (some ⟨gs, 0, none⟩) ps.length ps.length]
  ok : ∀ p ∈ ps, p.Ok
  row : ∃ cs : Array Value, Blk w gs E cs ∧ cs.size = ps.length * 258 ∧ ∀ f (h : f < ps.length) i, i < 258 → cs[f * 258 + i]? = ps[f].cells[i]?
section
variable {E T : TypeId} {w w' : World} {gs g : Nat} {ps : List Pg} {S : Nat → Prop}
theorem TabAt.chg (h : TabAt E T w gs g ps) (k : Chg w w' S) (h1 : ¬ S gs) (h2 : ¬ S g) : TabAt E T w' gs g ps := by
  obtain ⟨cs, hb, hs, hc⟩ := h.row
  exact ⟨h.lt, h.n1, h.n2, h.head.chg k h2, h.ok, cs, hb.chg k h1, hs, hc⟩
theorem TabAt.new (h : TabAt E T w gs g ps) (k : Below w.heap.size w w') : TabAt E T w' gs g ps := h.chg (Chg.of_new k fun _ => False) id id
theorem TabAt.alloc (h : TabAt E T w gs g ps) (ob : Obj) : TabAt E T (w.alloc ob) gs g ps := h.new ((Below.refl _ w).alloc (Nat.le_refl _) ob)
theorem TabAt.drewN (h : TabAt E T w gs g ps) (n : Nat) : TabAt E T (w.drewN n) gs g ps := ⟨h.lt, h.n1, h.n2, h.head, h.ok, h.row⟩
theorem TabAt.drew (h : TabAt E T w gs g ps) : TabAt E T w.drew gs g ps := ⟨h.lt, h.n1, h.n2, h.head, h.ok, h.row⟩
theorem TabAt.at_ (h : TabAt E T w gs g ps) {f : Nat} (hf : f < ps.length) : ps[f].Ok := h.ok _ (List.getElem_mem hf)
theorem TabAt.cell (h : TabAt E T w gs g ps) {f : Nat} (hf : f < ps.length) {i : Nat} (hi : i < 258) : w.cell? ⟨gs, f * 258 + i, none⟩ = ps[f].cells[i]? := by
  obtain ⟨cs, hb, _, hc⟩ := h.row
  rw [hb.cell, hc f hf i hi]
theorem TabAt.owner (h : TabAt E T w gs g ps) {f : Nat} (hf : f < ps.length) : w.cell? ⟨gs, f * 258, none⟩ = some (.int .i64 (ps[f].owner : Int)) := by
  have := h.cell hf (i := 0) (by omega)
  rw [Nat.add_zero] at this
  exact this.trans (Pg.cell0 _)
theorem TabAt.holds (h : TabAt E T w gs g ps) {f : Nat} (hf : f < ps.length) : w.cell? ⟨gs, f * 258 + 1, none⟩ = some (.int .i64 (ps[f].holds : Int)) := (h.cell hf (i := 1) (by omega)).trans (Pg.cell1 _)
theorem TabAt.thaw (h : TabAt E T w gs g ps) (i : Nat) : w.frozen? ⟨gs, i, none⟩ = false := by
  obtain ⟨cs, hb, _⟩ := h.row
  exact hb.frozen i
theorem TabAt.blk (h : TabAt E T w gs g ps) : gs < w.heap.size := by
  obtain ⟨cs, hb, _⟩ := h.row
  exact hb.lt
/-- Some bytes of a frame, as a slice of it. -/
theorem TabAt.bytes (h : TabAt E T w gs g ps) {f : Nat} (hf : f < ps.length) {off n c : Nat} (hn : off + n ≤ 256) (hc : n ≤ c) (hm : c ≤ 256) : Src w (some ⟨gs, f * 258 + 2 + off, none⟩) n c ((ps[f].text.drop off).take n) := by
  have ht := (h.at_ hf).t
  have hl : ((ps[f].text.drop off).take n).length = n := by simp; omega
  refine ⟨⟨fun hp => ⟨gs, f * 258 + 2 + off, rfl, h.blk, fun j hj => ?_⟩, hl, hc, by omega⟩, fun e => by cases e⟩
  rw [bys_length, hl] at hj
  rw [show f * 258 + 2 + off + j = f * 258 + (2 + (off + j)) by omega, h.cell hf (by omega), Pg.cell2, bys_get (by omega)]
  simp [bys]

/-- Cells of one frame turn. -/
theorem TabAt.turn (h : TabAt E T w gs g ps) {f : Nat} (hf : f < ps.length) (p' : Pg) (ok' : p'.Ok) (hk : Chg w w' (fun k => k = gs)) {cs cs' : Array Value} (hb : Blk w gs E cs) (hb' : Blk w' gs E cs') (hs : cs'.size = cs.size)
    (hout : ∀ k, k < f * 258 ∨ f * 258 + 258 ≤ k → cs'[k]? = cs[k]?) (hin : ∀ i, i < 258 → cs'[f * 258 + i]? = p'.cells[i]?) : TabAt E T w' gs g (ps.set f p') := by
  obtain ⟨cs0, hb0, hs0, hc0⟩ := h.row
  obtain rfl : cs0 = cs := by
    have e : some (Obj.cells cs0 E (0, 0)) = some (.cells cs E (0, 0)) := hb0.symm.trans hb
    injection e with e
    injection e
  refine ⟨h.lt, by simpa using h.n1, by simpa using h.n2, ?_, ?_, cs', hb', by simpa [hs] using hs0, ?_⟩
  · rw [List.length_set]; exact h.head.chg hk (fun e => by have := h.lt; have e' : g = gs := e; omega)
  · intro p hp
    rcases List.mem_or_eq_of_mem_set hp with h1 | rfl
    · exact h.ok p h1
    · exact ok'
  · intro f' hf' i hi
    rw [List.length_set] at hf'
    by_cases e : f = f'
    · subst e
      rw [hin i hi]; simp
    · rw [List.getElem_set_ne e, hout _ (by omega), hc0 f' hf' i hi]
theorem TabAt.set (h : TabAt E T w gs g ps) {f : Nat} (hf : f < ps.length) {i : Nat} (hi : i < 258) (v : Value) (p' : Pg) (ok' : p'.Ok) (hc : p'.cells = ps[f].cells.set i v) :
    TabAt E T (w.setCell ⟨gs, f * 258 + i, none⟩ v) gs g (ps.set f p') := by
  obtain ⟨cs, hb, hs, hcs⟩ := h.row
  have hl := (h.at_ hf).len
  refine h.turn hf p' ok' (Chg.set _ _ _ rfl) hb (hb.put (f * 258 + i) v) (by simp) (fun k hk => ?_) (fun j hj => ?_)
  · rw [Array.getElem?_setIfInBounds, if_neg (by omega)]
  · rw [Array.getElem?_setIfInBounds, hc, List.getElem?_set]
    by_cases e : i = j
    · subst e
      simp [show f * 258 + i < cs.size by omega, hl, hi]
    · rw [if_neg (by omega), if_neg e, hcs f hf j hj]
theorem TabAt.seg (h : TabAt E T w gs g ps) {f : Nat} (hf : f < ps.length) {i : Nat} (vs : List Value) (hi : i + vs.length ≤ 258) (p' : Pg) (ok' : p'.Ok) (hc : p'.cells = ps[f].cells.take i ++ vs ++ ps[f].cells.drop (i + vs.length))
    {cs : Array Value} (hb : Blk w gs E cs) : f * 258 + i + vs.length ≤ cs.size ∧ TabAt E T (w.setRow gs (cs.toList.take (f * 258 + i) ++ vs ++ cs.toList.drop (f * 258 + i + vs.length)).toArray) gs g (ps.set f p') := by
  obtain ⟨cs0, hb0, hs, hcs⟩ := h.row
  obtain rfl : cs0 = cs := by
    have e : some (Obj.cells cs0 E (0, 0)) = some (.cells cs E (0, 0)) := hb0.symm.trans hb
    injection e with e
    injection e
  have hl := (h.at_ hf).len
  have hsz : f * 258 + i + vs.length ≤ cs0.size := by omega
  refine ⟨hsz, h.turn hf p' ok' (Chg.setRow _ _ rfl) hb (hb.row _) (by simp; omega) (fun k hk => ?_) (fun j hj => ?_)⟩
  · simp only [List.getElem?_toArray, List.append_assoc]
    by_cases hk1 : k < f * 258 + i
    · rw [List.getElem?_append_left (by simp; omega), List.getElem?_take, if_pos hk1]; simp
    · have hk2 : f * 258 + i + vs.length ≤ k := by omega
      have hm : (cs0.toList.take (f * 258 + i)).length = f * 258 + i := by simp; omega
      rw [List.getElem?_append_right (by omega), hm, List.getElem?_append_right (by omega), List.getElem?_drop]
      rw [show f * 258 + i + vs.length + (k - (f * 258 + i) - vs.length) = k by omega]; simp
  · rw [hc]
    simp only [List.getElem?_toArray, List.append_assoc]
    have hm : (cs0.toList.take (f * 258 + i)).length = f * 258 + i := by simp; omega
    have hm2 : (ps[f].cells.take i).length = i := by simp; omega
    by_cases hj1 : j < i
    · rw [List.getElem?_append_left (by omega), List.getElem?_append_left (by omega), List.getElem?_take, if_pos (by omega), List.getElem?_take, if_pos hj1]
      simpa using hcs f hf j hj
    · rw [List.getElem?_append_right (by omega), List.getElem?_append_right (l₁ := ps[f].cells.take i) (by omega), hm, hm2, show f * 258 + j - (f * 258 + i) = j - i by omega]
      by_cases hj2 : j - i < vs.length
      · rw [List.getElem?_append_left hj2, List.getElem?_append_left hj2]
      · rw [List.getElem?_append_right (by omega), List.getElem?_append_right (by omega), List.getElem?_drop, List.getElem?_drop]
        rw [show f * 258 + i + vs.length + (j - i - vs.length) = f * 258 + j by omega, show i + vs.length + (j - i - vs.length) = j by omega]
        simpa using hcs f hf j hj
end
end Go.Proofs.YtefnkednnnlhoaaGreatDoor

/- Package frame: what its small functions do. Conditions: those that each states. -/
namespace Go.Proofs.YtefnkednnnlhoaaGreatDoor.Fr
open Go.ChangeShapes Go.WideShapes Go.ChangeAt Go.RowKit Go.Deep
set_option linter.unusedVariables false

abbrev Tab (w : World) (gs g : Nat) (ps : List Pg) : Prop := TabAt 190 131 w gs g ps

def isE (env : Int) : Prop := env = 1 ∨ env = 2
theorem isEnv_yes (env : Int) (h : isE env) (w : World) :
    Calls Tryz.prog 98 #[.int .i64 env] w fun e w' => e = .returned (.bool true) ∧ w' = w := by
  have g1 : env ≥ 1 := by rcases h with h | h <;> omega
  have g2 : env ≤ 2 := by rcases h with h | h <;> omega
  clear h
  go_enter Tryz.func98, Tryz.ntmps98
  go_wp2
  go_ret
  exact ⟨rfl, rfl⟩
theorem isEnv_no (env : Int) (h : ¬ isE env) (w : World) :
    Calls Tryz.prog 98 #[.int .i64 env] w fun e w' => e = .returned (.bool false) ∧ w' = w := by
  by_cases g1 : env ≥ 1
  · have g2 : ¬ env ≤ 2 := by intro g2; exact h (by unfold isE; omega)
    clear h
    go_enter Tryz.func98, Tryz.ntmps98
    go_wp2
    go_ret
    exact ⟨rfl, rfl⟩
  · clear h
    go_enter Tryz.func98, Tryz.ntmps98
    go_wp2
    go_ret
    exact ⟨rfl, rfl⟩

def isIn (off n : Int) : Prop := 0 ≤ off ∧ 0 ≤ n ∧ off + n ≤ 256
theorem within_yes (off n : Int) (h : isIn off n) (w : World) :
    Calls Tryz.prog 101 #[.int .i64 off, .int .i64 n] w fun e w' => e = .returned (.bool true) ∧ w' = w := by
  obtain ⟨h1, h2, h3⟩ := h
  have g1 : off ≥ 0 := h1
  have g2 : n ≥ 0 := h2
  have x0 : IntKind.i64.wrap (256 - off) = 256 - off := IntWalk.i64_in _ (by omega)
  have g3 : n ≤ 256 - off := by omega
  clear h1 h2 h3
  go_enter Tryz.func101, Tryz.ntmps101
  go_wp2
  go_ret
  exact ⟨rfl, rfl⟩
theorem within_no (off n : Int) (w1 : -9223372036854775808 ≤ off ∧ off ≤ 9223372036854775807) (h : ¬ isIn off n) (w : World) :
    Calls Tryz.prog 101 #[.int .i64 off, .int .i64 n] w fun e w' => e = .returned (.bool false) ∧ w' = w := by
  by_cases g1 : off ≥ 0
  · by_cases g2 : n ≥ 0
    · have x0 : IntKind.i64.wrap (256 - off) = 256 - off := IntWalk.i64_in _ (by omega)
      have g3 : ¬ n ≤ 256 - off := by intro g3; exact h ⟨g1, g2, by omega⟩
      clear h w1
      go_enter Tryz.func101, Tryz.ntmps101
      go_wp2
      go_ret
      exact ⟨rfl, rfl⟩
    · clear h w1
      go_enter Tryz.func101, Tryz.ntmps101
      go_wp2
      go_ret
      exact ⟨rfl, rfl⟩
  · clear h w1
    go_enter Tryz.func101, Tryz.ntmps101
    go_wp2
    go_ret
    exact ⟨rfl, rfl⟩

section
variable {gs g : Nat} {ps : List Pg} {w : World}
theorem head_cell (h : Tab w gs g ps) : w.cell? ⟨g, 0, none⟩ = some (.slice (some ⟨gs, 0, none⟩) ps.length ps.length) := by
  have c0 := h.head.cell 0
  simpa using c0
theorem size_any (h : Tab w gs g ps) :
    Calls Tryz.prog 156 #[.pointer (some ⟨g, 0, none⟩)] w fun e w' => e = .returned (.int .i64 (ps.length : Int)) ∧ w' = w := by
  have c0 := head_cell h
  clear h
  go_enter Tryz.func156, Tryz.ntmps156
  go_wp2
  go_ret
  exact ⟨rfl, rfl⟩

/-- The frame's number is one of the table's. -/
def isF (ps : List Pg) (f : Int) : Prop := 0 ≤ f ∧ f < (ps.length : Int)
theorem has_yes (h : Tab w gs g ps) (f : Int) (hf : isF ps f) :
    Calls Tryz.prog 135 #[.pointer (some ⟨g, 0, none⟩), .int .i64 f] w fun e w' => e = .returned (.bool true) ∧ w' = w := by
  obtain ⟨g1, g2⟩ := hf
  have g1' : f ≥ 0 := g1
  have SZ := Lib.hid (size_any h)
  clear h
  go_enter Tryz.func135, Tryz.ntmps135
  go_wp2_with fail
  refine SZ.out.mono ?_; rintro e w1 ⟨rfl, rfl⟩
  go_wp2
  go_ret
  exact ⟨rfl, rfl⟩
theorem has_no (h : Tab w gs g ps) (f : Int) (hf : ¬ isF ps f) :
    Calls Tryz.prog 135 #[.pointer (some ⟨g, 0, none⟩), .int .i64 f] w fun e w' => e = .returned (.bool false) ∧ w' = w := by
  have SZ := Lib.hid (size_any h)
  clear h
  by_cases g1 : f ≥ 0
  · have g2 : ¬ f < (ps.length : Int) := fun g2 => hf ⟨g1, g2⟩
    have G3 := Lib.hid (decide_eq_false g2)
    clear hf
    go_enter Tryz.func135, Tryz.ntmps135
    go_wp2_with fail
    refine SZ.out.mono ?_; rintro e w1 ⟨rfl, rfl⟩
    go_wp2
    go_ret
    refine ⟨?_, rfl⟩
    show Ending.returned (.bool (decide (f < (ps.length : Int)))) = _
    rw [G3.out]
  · clear hf
    go_enter Tryz.func135, Tryz.ntmps135
    go_wp2
    go_ret
    exact ⟨rfl, rfl⟩
set_option maxRecDepth 100000 in
theorem holds_yes (h : Tab w gs g ps) (f : Nat) (hf : f < ps.length) :
    Calls Tryz.prog 160 #[.pointer (some ⟨g, 0, none⟩), .int .i64 (f : Int)] w fun e w' => e = .returned (.int .i64 (ps[f].holds : Int)) ∧ w' = w := by
  have c0 := head_cell h
  have c1 := h.holds hf
  have n2 := h.n2
  have HS := Lib.hid (has_yes h f ⟨by omega, by omega⟩)
  have g1 : (0 : Int) ≤ (f : Int) := by omega
  have g2 : (f : Int) < (ps.length : Int) := by omega
  generalize (ps[f].holds : Int) = v at *
  clear h
  go_enter Tryz.func160, Tryz.ntmps160
  go_wp2_with fail
  refine HS.out.mono ?_; rintro e w1 ⟨rfl, rfl⟩
  go_wp2
  go_ret
  exact ⟨rfl, rfl⟩
theorem holds_no (h : Tab w gs g ps) (f : Int) (hf : ¬ isF ps f) :
    Calls Tryz.prog 160 #[.pointer (some ⟨g, 0, none⟩), .int .i64 f] w fun e w' => e = .returned (.int .i64 0) ∧ w' = w := by
  have HS := Lib.hid (has_no h f hf)
  clear h hf
  go_enter Tryz.func160, Tryz.ntmps160
  go_wp2_with fail
  refine HS.out.mono ?_; rintro e w1 ⟨rfl, rfl⟩
  go_wp2
  go_ret
  exact ⟨rfl, rfl⟩
end
end Go.Proofs.YtefnkednnnlhoaaGreatDoor.Fr
