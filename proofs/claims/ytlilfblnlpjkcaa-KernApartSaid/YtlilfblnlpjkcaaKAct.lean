/- A call to a kernel, and a slice of steps of one, that came in. Conditions: those that each states. -/
import Derived.Test.YtlilfblnlpjkcaaFlt
import Derived.Test.YtlilfblnlpjkcaaPcs
import Derived.Deep.Slices
import Derived.ChangeSame
namespace Go.Proofs.Ytlilfblnlpjkcaa
open Go.ChangeShapes Go.WideShapes Go.ChangeAt Go.RowKit Go.Deep
set_option linter.unusedVariables false

theorem prg_of_trod {H : Type} {enc : TypeId × Value → H} {P : Program} {w : World} {t e : TypeId} {f0 f1 f2 f3 : Field} {fuel : Nat} {cs : List Value} {x : DataW H × List MemPlace} {held : Bool} (ht : P.underlying t = some (.slice e)) (he : P.underlying e = some (.struct #[f0, f1, f2, f3]))
    (ce : P.cellsOf e = 4) (o0 : f0.offset = 0) (o1 : f1.offset = 1) (o2 : f2.offset = 2) (o3 : f3.offset = 3)
    (c0 : P.cellsOf f0.type = 1) (c1 : P.cellsOf f1.type = 1) (c2 : P.cellsOf f2.type = 1) (c3 : P.cellsOf f3.type = 1)
    (u0 : P.underlying f0.type = some (.int .i64)) (u1 : P.underlying f1.type = some (.int .u32)) (u2 : P.underlying f2.type = some (.int .i64)) (u3 : P.underlying f3.type = some (.int .i64))
    (hf : DataW.trod enc P w 0 (fun _ => true) held fuel t cs = some x) : ∃ A c pr, cs = [.slice A (pr : List Ins).length c] ∧ Prg w A pr ∧ (∀ q ∈ pr, q.Ok) ∧ (A = none → pr = [] ∧ c = 0) := by
  rcases open_slice ht hf with ⟨hcs, _⟩ | ⟨x, n, c, m, k, D, Pl, hcs, _, hl, hm, hmm, _, hx⟩
  · exact ⟨none, 0, [], hcs, fun i hi => absurd hi (by simp), fun q hq => (by cases hq), fun _ => ⟨rfl, rfl⟩⟩
  · subst hcs
    simp only [if_true] at hmm
    obtain ⟨b, o, sp⟩ := x
    have each : ∀ i, i < n → ∃ q : Ins, sp = none ∧ b < w.heap.size ∧ w.rangeAt b (o + i * 4) q.list ∧ q.Ok := by
      intro i hi
      obtain ⟨cs', h1, h2⟩ := hx i (by omega)
      rw [ce] at h1
      obtain ⟨_, hlen, hcell⟩ := World.cells?_some h1
      obtain ⟨xs, k', hk, hxy, _, hxl, hff⟩ := DataW.trod_struct he h2
      match xs, hxl, cs', hlen with
      | [y0, y1, y2, y3], _, [v0, v1, v2, v3], _ =>
        have g0 := hff 0 f0 rfl
        have g1 := hff 1 f1 rfl
        have g2 := hff 2 f2 rfl
        have g3 := hff 3 f3 rfl
        simp [o0, o1, o2, o3, c0, c1, c2, c3] at g0 g1 g2 g3
        obtain ⟨z0, e0, _, w0⟩ := DataW.trod_int u0 g0
        obtain ⟨z1, e1, _, w1⟩ := DataW.trod_int u1 g1
        obtain ⟨z2, e2, _, w2⟩ := DataW.trod_int u2 g2
        obtain ⟨z3, e3, _, w3⟩ := DataW.trod_int u3 g3
        simp at e0 e1 e2 e3
        have hc : ∀ j, j < 4 → w.cell? ((⟨b, o, sp⟩ : Addr).add (i * 4 + j)) = ([v0, v1, v2, v3] : List Value)[j]? := by
          intro j hj
          have := hcell j (by simpa using hj)
          rw [add_add] at this
          rw [this]
        have hc0 := (hc 0 (by omega)).trans (show _ = some v0 from rfl)
        have hsp : sp = none := by
          obtain ⟨cs0, h10, _⟩ := hx 0 (by omega)
          rw [ce] at h10
          obtain ⟨_, hlen0, hcell0⟩ := World.cells?_some h10
          have := World.cell?_spot ((hcell0 0 (by omega)).trans (List.getElem?_eq_getElem (by omega)))
          simpa [Addr.add] using this
        subst hsp
        have ea : ∀ j, (⟨b, o, none⟩ : Addr).add j = ⟨b, o + j, none⟩ := fun j => by unfold Addr.add; split <;> simp_all
        have wu : 0 ≤ z1 ∧ z1 < 4294967296 := by
          have : 0 ≤ z1 ∧ z1 ≤ 4294967295 := by simpa [Lit.wf, IntKind.min, IntKind.max, IntKind.signed, IntKind.bits] using w1
          omega
        refine ⟨⟨z0, z1, z2, z3⟩, rfl, ?_, ?_, ⟨wf_i64 w0, wu, wf_i64 w2, wf_i64 w3⟩⟩
        · rw [ea] at hc0
          unfold World.cell? at hc0
          cases hh : w.heap[b]? with
          | none => simp only [hh] at hc0; cases hc0
          | some ob => exact (Array.getElem?_eq_some_iff.1 hh).1
        · intro j v hj
          have hj6 : j < 4 := (List.getElem?_eq_some_iff.1 hj).1
          have := hc j hj6
          rw [ea, ← Nat.add_assoc] at this
          rw [this, ← hj, e0, e1, e2, e3]
          rfl
    obtain ⟨q, hq⟩ := choose_lt each
    have hl2 : ((List.range n).map q).length = n := by simp
    refine ⟨some ⟨b, o, sp⟩, c, (List.range n).map q, by rw [hl2], fun i hi => ?_, fun y hy => ?_, fun e => by cases e⟩
    · rw [hl2] at hi
      obtain ⟨rfl, h1, h2, h3⟩ := hq i hi
      exact ⟨b, o, rfl, h1, by simpa using h2⟩
    · obtain ⟨i, hi, rfl⟩ := List.mem_map.1 hy
      exact (hq i (List.mem_range.1 hi)).2.2.2

/-- A call to a kernel: five numbers, a text, a program and a list, and where the two lie. -/
structure KC where
  op : Int
  env : Int
  a : Int
  b : Int
  c : Int
  s : ByteArray
  Ap : Option Addr
  cp : Nat
  p : List Ins
  Al : Option Addr
  cl : Nat
  l : List Pc
def KC.list (q : KC) : List Value := [.int .i64 q.op, .int .i64 q.env, .int .i64 q.a, .int .i64 q.b, .int .i64 q.c, .string q.s, .slice q.Ap q.p.length q.cp, .slice q.Al q.l.length q.cl]
/-- What is known of it: its numbers fit, its program and its list lie in memory. -/
structure KC.In (w : World) (q : KC) : Prop where
  a : -9223372036854775808 ≤ q.a ∧ q.a ≤ 9223372036854775807
  b : -9223372036854775808 ≤ q.b ∧ q.b ≤ 9223372036854775807
  c : -9223372036854775808 ≤ q.c ∧ q.c ≤ 9223372036854775807
  s : q.s.size ≤ maxLen
  p : Prg w q.Ap q.p
  pok : ∀ x ∈ q.p, x.Ok
  pn : q.Ap = none → q.p = [] ∧ q.cp = 0
  l : Pcs w q.Al q.l
  lok : ∀ x ∈ q.l, x.Ok
  ln : q.Al = none → q.l = [] ∧ q.cl = 0
theorem cells_int : Try.prog.cellsOf 3 = 1 := by kernel_rfl
theorem cells_str : Try.prog.cellsOf 9 = 1 := by kernel_rfl
theorem cells_prg : Try.prog.cellsOf 41 = 1 := by kernel_rfl
theorem cells_pcs : Try.prog.cellsOf 42 = 1 := by kernel_rfl
theorem cells_call : Try.prog.cellsOf 44 = 8 := by kernel_rfl
set_option maxRecDepth 100000 in
theorem call_of_trod {H : Type} {enc : TypeId × Value → H} {w : World} {fuel : Nat} {cs : List Value} {x : DataW H × List MemPlace} {held : Bool} (hl : cs.length = 8) (hf : DataW.trod enc Try.prog w 0 (fun _ => true) held fuel 44 cs = some x) :
    ∃ q : KC, cs = q.list ∧ q.In w := by
  obtain ⟨xs, k', hk, hxy, _, hxl, hff⟩ := DataW.trod_struct Try.underlying44 hf
  match xs, hxl, cs, hl with
  | [y0, y1, y2, y3, y4, y5, y6, y7], _, [v0, v1, v2, v3, v4, v5, v6, v7], _ =>
    have g0 := hff 0 _ rfl
    have g1 := hff 1 _ rfl
    have g2 := hff 2 _ rfl
    have g3 := hff 3 _ rfl
    have g4 := hff 4 _ rfl
    have g5 := hff 5 _ rfl
    have g6 := hff 6 _ rfl
    have g7 := hff 7 _ rfl
    simp [cells_int, cells_str, cells_prg, cells_pcs] at g0 g1 g2 g3 g4 g5 g6 g7
    obtain ⟨z0, e0, _, w0⟩ := DataW.trod_int Try.underlying3 g0
    obtain ⟨z1, e1, _, w1⟩ := DataW.trod_int Try.underlying3 g1
    obtain ⟨z2, e2, _, w2⟩ := DataW.trod_int Try.underlying3 g2
    obtain ⟨z3, e3, _, w3⟩ := DataW.trod_int Try.underlying3 g3
    obtain ⟨z4, e4, _, w4⟩ := DataW.trod_int Try.underlying3 g4
    obtain ⟨z5, e5, _, w5⟩ := DataW.trod_string Try.underlying9 g5
    obtain ⟨A6, c6, p6, e6, h61, h62, h63⟩ := prg_of_trod Try.underlying41 Try.underlying98 (by kernel_rfl) rfl rfl rfl rfl (by kernel_rfl) (by kernel_rfl) (by kernel_rfl) (by kernel_rfl) Try.underlying3 Try.underlying38 Try.underlying3 Try.underlying3 g6
    obtain ⟨A7, c7, l7, e7, h71, h72, h73⟩ := pcs_of_trod Try.underlying42 Try.underlying148 (by kernel_rfl) rfl rfl rfl (by kernel_rfl) (by kernel_rfl) (by kernel_rfl) Try.underlying3 Try.underlying3 Try.underlying3 g7
    simp at e0 e1 e2 e3 e4 e5 e6 e7
    subst e0 e1 e2 e3 e4 e5 e6 e7
    exact ⟨⟨z0, z1, z2, z3, z4, z5, A6, c6, p6, A7, c7, l7⟩, rfl, ⟨wf_i64 w2, wf_i64 w3, wf_i64 w4, w5, h61, h62, h63, h71, h72, h73⟩⟩
set_option maxRecDepth 100000 in
/-- A call that came in by value. -/
theorem open_kcall {H : Type} {enc : TypeId × Value → H} {w : World} {base : Nat} {v : Value} {d : DataW H} {p : List MemPlace}
    (hv : Value.okWide Try.prog w .any base 44 v) (h : DataW.Trod enc Try.prog w 0 (fun _ => true) true 44 v d p) : ∃ q : KC, v = .agg q.list.toArray ∧ q.In w := by
  obtain ⟨cs, rfl, hsz⟩ := okWide_struct Try.underlying44 hv
  obtain ⟨l⟩ := cs
  obtain ⟨fuel, hf⟩ := h
  have hl : l.length = 8 := by
    have := hsz.trans cells_call
    simpa using this
  obtain ⟨q, e, hq⟩ := call_of_trod hl (by simpa [Value.cells] using hf)
  subst e
  exact ⟨q, rfl, hq⟩
/-- A step of a kernel. -/
structure KAct where
  kind : Int
  q : KC
  s : ByteArray
instance : Inhabited KAct := ⟨⟨0, ⟨0, 0, 0, 0, 0, ⟨#[]⟩, none, 0, [], none, 0, []⟩, ⟨#[]⟩⟩⟩
def KAct.list (a : KAct) : List Value := .int .i64 a.kind :: a.q.list ++ [.string a.s]
def KActs (w : World) (A : Option Addr) (n : Nat) (fn : Nat → KAct) : Prop :=
  ∀ i, i < n → ∃ b o, A = some ⟨b, o, none⟩ ∧ b < w.heap.size ∧ w.rangeAt b (o + i * 10) (fn i).list ∧ (fn i).q.In w ∧ (fn i).s.size ≤ maxLen
set_option maxRecDepth 100000 in
theorem open_kacts {H : Type} {enc : TypeId × Value → H} {w : World} {base : Nat} {v : Value} {d : DataW H} {p : List MemPlace}
    (hv : Value.okWide Try.prog w .any base 22 v) (h : DataW.Trod enc Try.prog w 0 (fun _ => true) true 22 v d p) : ∃ A n c fn, v = .slice A n c ∧ KActs w A n fn := by
  have ce : Try.prog.cellsOf 46 = 10 := by kernel_rfl
  obtain ⟨a, n, c, rfl⟩ := okWide_slice Try.underlying22 hv
  refine ⟨a, n, c, ?_⟩
  obtain ⟨fuel, hf⟩ := h
  rcases open_slice Try.underlying22 hf with ⟨hcs, _⟩ | ⟨x, len, cap, m, k, D, Pl, hcs, _, hl, hm, hmm, _, hx⟩
  · simp [Value.cells] at hcs
    obtain ⟨rfl, rfl, rfl⟩ := hcs
    exact ⟨fun _ => default, rfl, fun i hi => absurd hi (by omega)⟩
  · simp [Value.cells] at hcs
    obtain ⟨rfl, rfl, rfl⟩ := hcs
    simp only [if_true] at hmm
    obtain ⟨b, o, sp⟩ := x
    have each : ∀ i, i < n → ∃ q : KAct, sp = none ∧ b < w.heap.size ∧ w.rangeAt b (o + i * 10) q.list ∧ q.q.In w ∧ q.s.size ≤ maxLen := by
      intro i hi
      obtain ⟨cs', h1, h2⟩ := hx i (by omega)
      rw [ce] at h1
      obtain ⟨_, hlen, hcell⟩ := World.cells?_some h1
      obtain ⟨xs, k', hk, hxy, _, hxl, hff⟩ := DataW.trod_struct Try.underlying46 h2
      match xs, hxl, cs', hlen with
      | [y0, y1, y2], _, [v0, v1, v2, v3, v4, v5, v6, v7, v8, v9], _ =>
        have g0 := hff 0 _ rfl
        have g1 := hff 1 _ rfl
        have g2 := hff 2 _ rfl
        simp [cells_int, cells_str, cells_call] at g0 g1 g2
        obtain ⟨z0, e0, _, w0⟩ := DataW.trod_int Try.underlying3 g0
        obtain ⟨q, e1, hq⟩ := call_of_trod rfl g1
        obtain ⟨z2, e2, _, w2⟩ := DataW.trod_string Try.underlying9 g2
        simp at e0 e2
        have hc : ∀ j, j < 10 → w.cell? ((⟨b, o, sp⟩ : Addr).add (i * 10 + j)) = ([v0, v1, v2, v3, v4, v5, v6, v7, v8, v9] : List Value)[j]? := by
          intro j hj
          have := hcell j (by simpa using hj)
          rw [add_add] at this
          rw [this]
        have hc0 := (hc 0 (by omega)).trans (show _ = some v0 from rfl)
        have hsp : sp = none := by
          obtain ⟨cs0, h10, _⟩ := hx 0 (by omega)
          rw [ce] at h10
          obtain ⟨_, hlen0, hcell0⟩ := World.cells?_some h10
          have := World.cell?_spot ((hcell0 0 (by omega)).trans (List.getElem?_eq_getElem (by omega)))
          simpa [Addr.add] using this
        subst hsp
        have ea : ∀ j, (⟨b, o, none⟩ : Addr).add j = ⟨b, o + j, none⟩ := fun j => by unfold Addr.add; split <;> simp_all
        refine ⟨⟨z0, q, z2⟩, rfl, ?_, ?_, hq, w2⟩
        · rw [ea] at hc0
          unfold World.cell? at hc0
          cases hh : w.heap[b]? with
          | none => simp only [hh] at hc0; cases hc0
          | some ob => exact (Array.getElem?_eq_some_iff.1 hh).1
        · have el : KAct.list ⟨z0, q, z2⟩ = [v0, v1, v2, v3, v4, v5, v6, v7, v8, v9] := by
            show .int .i64 z0 :: q.list ++ [.string z2] = _
            rw [← e1, e0, e2]
            rfl
          rw [el]
          intro j v hj
          have hj6 : j < 10 := (List.getElem?_eq_some_iff.1 hj).1
          have := hc j hj6
          rw [ea, ← Nat.add_assoc] at this
          rw [this, hj]
    obtain ⟨q, hq⟩ := choose_lt each
    exact ⟨q, rfl, fun i hi => by
      obtain ⟨rfl, h1, h2, h3, h4⟩ := hq i hi
      exact ⟨b, o, rfl, h1, h2, h3, h4⟩⟩
end Go.Proofs.Ytlilfblnlpjkcaa
