/- A call to a kernel, and a slice of steps of one, that came in. Conditions: those that each states. -/
import Derived.Test.YthnpalcjfgbjeaaGreatFlt
import Derived.Test.YthnpalcjfgbjeaaGreatPcs
import Derived.Deep.Slices
import Derived.ChangeSame
namespace Go.Proofs.YthnpalcjfgbjeaaGreat
open Go.ChangeShapes Go.WideShapes Go.ChangeAt Go.RowKit Go.Deep
set_option linter.unusedVariables false

theorem prg_of_trod {H : Type} {enc : TypeId × Value → H} {P : Program} {w : World} {t e : TypeId} {f0 f1 f2 f3 : Field} {fuel : Nat} {cs : List Value} {x : DataW H × List MemPlace} {held : Bool} (ht : P.underlying t = some (.slice e)) (he : P.underlying e = some (.struct #[f0, f1, f2, f3]))
    (ce : P.cellsOf e = 4) (o0 : f0.offset = 0) (o1 : f1.offset = 1) (o2 : f2.offset = 2) (o3 : f3.offset = 3)
    (c0 : P.cellsOf f0.type = 1) (c1 : P.cellsOf f1.type = 1) (c2 : P.cellsOf f2.type = 1) (c3 : P.cellsOf f3.type = 1)
    (u0 : P.underlying f0.type = some (.int .i64)) (u1 : P.underlying f1.type = some (.int .u32)) (u2 : P.underlying f2.type = some (.int .i64)) (u3 : P.underlying f3.type = some (.int .i64))
    (hf : DataW.trod enc P w 0 (fun _ => true) held fuel t cs = some x) : ∃ A c pr, cs = [.slice A (pr : List Ins).length c] ∧ Prg w A pr ∧ (∀ q ∈ pr, q.Ok) ∧ (A = none → pr = [] ∧ c = 0) := by
  rcases open_slice ht hf with ⟨hcs, _⟩ | ⟨x, n, c, m, k, D, Pl, hcs, _, hl, hm, hmm, _, hx⟩
  · exact ⟨none, 0, [], hcs, fun i hi => absurd hi (by simp), fun q hq => (by cases hq), fun _ => ⟨rfl, rfl⟩⟩
  · subst hcs
    simp only [if_true] at hmm
    obtain ⟨b, o, sp⟩ := x
    have each : ∀ i, i < n → ∃ q : Ins, sp = none ∧ b < w.heap.size ∧ w.rangeAt b (o + i * 4) q.list ∧ q.Ok := by
      intro i hi
      obtain ⟨cs', h1, h2⟩ := hx i (by omega)
      rw [ce] at h1
      obtain ⟨_, hlen, hcell⟩ := World.cells?_some h1
      obtain ⟨xs, k', hk, hxy, _, hxl, hff⟩ := DataW.trod_struct he h2
      match xs, hxl, cs', hlen with
      | [y0, y1, y2, y3], _, [v0, v1, v2, v3], _ =>
        have g0 := hff 0 f0 rfl
        have g1 := hff 1 f1 rfl
        have g2 := hff 2 f2 rfl
        have g3 := hff 3 f3 rfl
        simp [o0, o1, o2, o3, c0, c1, c2, c3] at g0 g1 g2 g3
        obtain ⟨z0, e0, _, w0⟩ := DataW.trod_int u0 g0
        obtain ⟨z1, e1, _, w1⟩ := DataW.trod_int u1 g1
        obtain ⟨z2, e2, _, w2⟩ := DataW.trod_int u2 g2
        obtain ⟨z3, e3, _, w3⟩ := DataW.trod_int u3 g3
        simp at e0 e1 e2 e3
        have hc : ∀ j, j < 4 → w.cell? ((⟨b, o, sp⟩ : Addr).add (i * 4 + j)) = ([v0, v1, v2, v3] : List Value)[j]? := by
          intro j hj
          have := hcell j (by simpa using hj)
          rw [add_add] at this
          rw [this]
        have hc0 := (hc 0 (by omega)).trans (show _ = some v0 from rfl)
        have hsp : sp = none := by
          obtain ⟨cs0, h10, _⟩ := hx 0 (by omega)
          rw [ce] at h10
          obtain ⟨_, hlen0, hcell0⟩ := World.cells?_some h10
          have := World.cell?_spot ((hcell0 0 (by omega)).trans (List.getElem?_eq_getElem (by omega)))
          simpa [Addr.add] using this
        subst hsp
        have ea : ∀ j, (⟨b, o, none⟩ : Addr).add j = ⟨b, o + j, none⟩ := fun j => by unfold Addr.add; split <;> simp_all
        have wu : 0 ≤ z1 ∧ z1 < 4294967296 := by
          have : 0 ≤ z1 ∧ z1 ≤ 4294967295 := by simpa [Lit.wf, IntKind.min, IntKind.max, IntKind.signed, IntKind.bits] using w1
          omega
        refine ⟨⟨z0, z1, z2, z3⟩, rfl, ?_, ?_, ⟨wf_i64 w0, wu, wf_i64 w2, wf_i64 w3⟩⟩
        · rw [ea] at hc0
          unfold World.cell? at hc0
          cases hh : w.heap[b]? with
          | none => simp only [hh] at hc0; cases hc0
          | some ob => exact (Array.getElem?_eq_some_iff.1 hh).1
        · intro j v hj
          have hj6 : j < 4 := (List.getElem?_eq_some_iff.1 hj).1
          have := hc j hj6
          rw [ea, ← Nat.add_assoc] at this
          rw [this, ← hj, e0, e1, e2, e3]
          rfl
    obtain ⟨q, hq⟩ := choose_lt each
    have hl2 : ((List.range n).map q).length = n := by simp
    refine ⟨some ⟨b, o, sp⟩, c, (List.range n).map q, by rw [hl2], fun i hi => ?_, fun y hy => ?_, fun e => by cases e⟩
    · rw [hl2] at hi
      obtain ⟨rfl, h1, h2, h3⟩ := hq i hi
      exact ⟨b, o, rfl, h1, by simpa using h2⟩
    · obtain ⟨i, hi, rfl⟩ := List.mem_map.1 hy
      exact (hq i (List.mem_range.1 hi)).2.2.2

/-- A call to a kernel: five numbers, a text, a program and a list, and where the two lie. -/
structure KC where
  op : Int
  env : Int
  a : Int
  b : Int
  c : Int
  s : ByteArray
  Ap : Option Addr
  cp : Nat
  p : List Ins
  Al : Option Addr
  cl : Nat
  l : List Pc
def KC.list (q : KC) : List Value := [.int .i64 q.op, .int .i64 q.env, .int .i64 q.a, .int .i64 q.b, .int .i64 q.c, .string q.s, .slice q.Ap q.p.length q.cp, .slice q.Al q.l.length q.cl]
/-- What is known of it: its numbers fit, its program and its list lie in memory. -/
structure KC.In (w : World) (q : KC) : Prop where
  a : -9223372036854775808 ≤ q.a ∧ q.a ≤ 9223372036854775807
  b : -9223372036854775808 ≤ q.b ∧ q.b ≤ 9223372036854775807
  c : -9223372036854775808 ≤ q.c ∧ q.c ≤ 9223372036854775807
  s : q.s.size ≤ maxLen
  p : Prg w q.Ap q.p
  pok : ∀ x ∈ q.p, x.Ok
  pn : q.Ap = none → q.p = [] ∧ q.cp = 0
  l : Pcs w q.Al q.l
  lok : ∀ x ∈ q.l, x.Ok
  ln : q.Al = none → q.l = [] ∧ q.cl = 0
theorem cells_int : Tryz.prog.cellsOf 3 = 1 := by kernel_rfl
theorem cells_str : Tryz.prog.cellsOf 9 = 1 := by kernel_rfl
theorem cells_pcs : Tryz.prog.cellsOf 23 = 1 := by kernel_rfl
/-- A step of a kernel. -/
structure KAct where
  kind : Int
  q : KC
  s : ByteArray
instance : Inhabited KAct := ⟨⟨0, ⟨0, 0, 0, 0, 0, ⟨#[]⟩, none, 0, [], none, 0, []⟩, ⟨#[]⟩⟩⟩
def KAct.list (a : KAct) : List Value := .int .i64 a.kind :: a.q.list ++ [.string a.s]
def KActs (w : World) (A : Option Addr) (n : Nat) (fn : Nat → KAct) : Prop :=
  ∀ i, i < n → ∃ b o, A = some ⟨b, o, none⟩ ∧ b < w.heap.size ∧ w.rangeAt b (o + i * 10) (fn i).list ∧ (fn i).q.In w ∧ (fn i).s.size ≤ maxLen
end Go.Proofs.YthnpalcjfgbjeaaGreat
