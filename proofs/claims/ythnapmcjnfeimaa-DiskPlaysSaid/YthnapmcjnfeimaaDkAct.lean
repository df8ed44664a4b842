/- A slice of calls to a disk that came in; one call that came in by value. Conditions: those that each states. -/
import Derived.Test.YthnapmcjnfeimaaDk6
import Derived.Test.YthnapmcjnfeimaaDk7
import Derived.Deep.Slices
import Derived.ChangeSame
namespace Go.Proofs.Ythnapmcjnfeimaa
open Go.ChangeShapes Go.WideShapes Go.ChangeAt Go.RowKit Go.Deep Di
set_option linter.unusedVariables false

structure Cmd where
  kind : Int
  env : Int
  a : Int
  b : Int
  s : ByteArray
instance : Inhabited Cmd := ⟨⟨0, 0, 0, 0, ⟨#[]⟩⟩⟩
structure Cmd.Ok (c : Cmd) : Prop where
  a : -9223372036854775808 ≤ c.a ∧ c.a ≤ 9223372036854775807
  s : c.s.size ≤ maxLen
def Cmd.list (c : Cmd) : List Value := [.int .i64 c.kind, .int .i64 c.env, .int .i64 c.a, .int .i64 c.b, .string c.s]
def Acts (w : World) (A : Option Addr) (n : Nat) (fn : Nat → Cmd) : Prop :=
  ∀ i, i < n → ∃ b o, A = some ⟨b, o, none⟩ ∧ b < w.heap.size ∧ w.rangeAt b (o + i * 5) (fn i).list ∧ (fn i).Ok
theorem Acts.older {w w' : World} {A : Option Addr} {n : Nat} {fn : Nat → Cmd} (h : Acts w A n fn) (k : Older w w') : Acts w' A n fn := by
  intro i hi
  obtain ⟨b, o, e, hb, h1, h2⟩ := h i hi
  refine ⟨b, o, e, Nat.lt_of_lt_of_le hb k.1, fun j v hj => ?_, h2⟩
  rw [World.cell?_of_block (w := w) (w' := w') (a := ⟨b, o + i * 5 + j, none⟩) (k.2 b hb)]
  exact h1 j v hj
theorem act_info : (Try.prog.info? 34).map (·.size) = some 5 := by kernel_rfl

theorem open_acts {H : Type} {enc : TypeId × Value → H} {P : Program} {w : World} {base : Nat} {t e : TypeId} {f0 f1 f2 f3 f4 : Field} {v : Value} {d : DataW H} {p : List MemPlace} (ht : P.underlying t = some (.slice e)) (he : P.underlying e = some (.struct #[f0, f1, f2, f3, f4]))
    (ce : P.cellsOf e = 5) (o0 : f0.offset = 0) (o1 : f1.offset = 1) (o2 : f2.offset = 2) (o3 : f3.offset = 3) (o4 : f4.offset = 4)
    (c0 : P.cellsOf f0.type = 1) (c1 : P.cellsOf f1.type = 1) (c2 : P.cellsOf f2.type = 1) (c3 : P.cellsOf f3.type = 1) (c4 : P.cellsOf f4.type = 1)
    (u0 : P.underlying f0.type = some (.int .i64)) (u1 : P.underlying f1.type = some (.int .i64)) (u2 : P.underlying f2.type = some (.int .i64)) (u3 : P.underlying f3.type = some (.int .i64)) (u4 : P.underlying f4.type = some .string)
    (hv : Value.okWide P w .any base t v) (h : DataW.Trod enc P w 0 (fun _ => true) true t v d p) : ∃ A n c fn, v = .slice A n c ∧ Acts w A n fn := by
  have hlt : ∀ x ∈ p, x.block < w.heap.size := by obtain ⟨m, hm⟩ := h; exact DataW.trod_lt m _ _ _ hm
  obtain ⟨a, n, c, rfl⟩ := okWide_slice ht hv
  refine ⟨a, n, c, ?_⟩
  obtain ⟨fuel, hf⟩ := h
  rcases open_slice ht hf with ⟨hcs, _⟩ | ⟨x, len, cap, m, k, D, Pl, hcs, _, hl, hm, hmm, _, hx⟩
  · simp [Value.cells] at hcs
    obtain ⟨rfl, rfl, rfl⟩ := hcs
    exact ⟨fun _ => default, rfl, fun i hi => absurd hi (by omega)⟩
  · simp [Value.cells] at hcs
    obtain ⟨rfl, rfl, rfl⟩ := hcs
    simp only [if_true] at hmm
    obtain ⟨b, o, sp⟩ := x
    have each : ∀ i, i < n → ∃ q : Cmd, sp = none ∧ b < w.heap.size ∧ w.rangeAt b (o + i * 5) q.list ∧ q.Ok := by
      intro i hi
      obtain ⟨cs', h1, h2⟩ := hx i (by omega)
      rw [ce] at h1
      obtain ⟨_, hlen, hcell⟩ := World.cells?_some h1
      obtain ⟨xs, k', hk, hxy, _, hxl, hff⟩ := DataW.trod_struct he h2
      match xs, hxl, cs', hlen with
      | [y0, y1, y2, y3, y4], _, [v0, v1, v2, v3, v4], _ =>
        have g0 := hff 0 f0 rfl
        have g1 := hff 1 f1 rfl
        have g2 := hff 2 f2 rfl
        have g3 := hff 3 f3 rfl
        have g4 := hff 4 f4 rfl
        simp [o0, o1, o2, o3, o4, c0, c1, c2, c3, c4] at g0 g1 g2 g3 g4
        obtain ⟨z0, e0, _, _⟩ := DataW.trod_int u0 g0
        obtain ⟨z1, e1, _, _⟩ := DataW.trod_int u1 g1
        obtain ⟨z2, e2, _, w2⟩ := DataW.trod_int u2 g2
        obtain ⟨z3, e3, _, _⟩ := DataW.trod_int u3 g3
        obtain ⟨z4, e4, _, w4⟩ := DataW.trod_string u4 g4
        simp at e0 e1 e2 e3 e4
        have hc : ∀ j, j < 5 → w.cell? ((⟨b, o, sp⟩ : Addr).add (i * 5 + j)) = ([v0, v1, v2, v3, v4] : List Value)[j]? := by
          intro j hj
          have := hcell j (by simpa using hj)
          rw [add_add] at this
          rw [this]
        have hc0 := (hc 0 (by omega)).trans (show _ = some v0 from rfl)
        have hsp : sp = none := by
          obtain ⟨cs0, h10, _⟩ := hx 0 (by omega)
          rw [ce] at h10
          obtain ⟨_, hlen0, hcell0⟩ := World.cells?_some h10
          have := World.cell?_spot ((hcell0 0 (by omega)).trans (List.getElem?_eq_getElem (by omega)))
          simpa [Addr.add] using this
        subst hsp
        have ea : ∀ j, (⟨b, o, none⟩ : Addr).add j = ⟨b, o + j, none⟩ := fun j => by unfold Addr.add; split <;> simp_all
        refine ⟨⟨z0, z1, z2, z3, z4⟩, rfl, ?_, ?_, ⟨wf_i64 w2, ?_⟩⟩
        · rw [ea] at hc0
          unfold World.cell? at hc0
          cases hh : w.heap[b]? with
          | none => simp only [hh] at hc0; cases hc0
          | some ob => exact (Array.getElem?_eq_some_iff.1 hh).1
        · intro j v hj
          have hj6 : j < 5 := (List.getElem?_eq_some_iff.1 hj).1
          have := hc j hj6
          rw [ea, ← Nat.add_assoc] at this
          rw [this, ← hj, e0, e1, e2, e3, e4]
          rfl
        · exact w4
    obtain ⟨q, hq⟩ := choose_lt each
    refine ⟨q, rfl, fun i hi => ?_⟩
    obtain ⟨rfl, h1, h2, h3⟩ := hq i hi
    exact ⟨b, o, rfl, h1, h2, h3⟩

/-- A call, by value, opened. -/
theorem open_act {H : Type} {enc : TypeId × Value → H} {P : Program} {w : World} {b0 : Nat} {t k : TypeId} {f0 f1 f2 f3 f4 : Field} {v : Value} {d : DataW H} {p : List MemPlace} (hs : P.underlying t = some (.struct #[f0, f1, f2, f3, f4])) (hone : oneCellFields P #[f0, f1, f2, f3, f4] = true) (hC : P.cellsOf t = 5)
    (hk : P.underlying k = some (.int .i64)) (e0 : f0.type = k) (e1 : f1.type = k) (e2 : f2.type = k) (e3 : f3.type = k) (e4 : P.underlying f4.type = some .string)
    (hv : Value.okWide P w .any b0 t v) (h : DataW.Trod enc P w 0 (fun _ => true) true t v d p) :
    ∃ c : Cmd, v = .agg #[.int .i64 c.kind, .int .i64 c.env, .int .i64 c.a, .int .i64 c.b, .string c.s] ∧ c.Ok := by
  obtain ⟨cs, rfl, hsz⟩ := okWide_struct hs hv
  obtain ⟨l⟩ := cs
  match l, hsz.trans hC with
  | [c0, c1, c2, c3, c4], _ =>
    obtain ⟨fuel, hf⟩ := h
    obtain ⟨xs, n, _, _, _, hlen, hg⟩ := DataW.trod_struct hs hf
    obtain ⟨o0, k0⟩ := hone_of hone 0 f0 rfl
    obtain ⟨o1, k1⟩ := hone_of hone 1 f1 rfl
    obtain ⟨o2, k2⟩ := hone_of hone 2 f2 rfl
    obtain ⟨o3, k3⟩ := hone_of hone 3 f3 rfl
    obtain ⟨o4, k4⟩ := hone_of hone 4 f4 rfl
    match xs, hlen with
    | [y0, y1, y2, y3, y4], _ =>
      have g0 : DataW.trod enc P w 0 (fun _ => true) true n f0.type [c0] = some y0 := by simpa [Value.cells, o0, k0] using hg 0 f0 rfl
      have g1 : DataW.trod enc P w 0 (fun _ => true) true n f1.type [c1] = some y1 := by simpa [Value.cells, o1, k1] using hg 1 f1 rfl
      have g2 : DataW.trod enc P w 0 (fun _ => true) true n f2.type [c2] = some y2 := by simpa [Value.cells, o2, k2] using hg 2 f2 rfl
      have g3 : DataW.trod enc P w 0 (fun _ => true) true n f3.type [c3] = some y3 := by simpa [Value.cells, o3, k3] using hg 3 f3 rfl
      have g4 : DataW.trod enc P w 0 (fun _ => true) true n f4.type [c4] = some y4 := by simpa [Value.cells, o4, k4] using hg 4 f4 rfl
      obtain ⟨a0, z0, _, _⟩ := DataW.trod_int (by rw [e0]; exact hk) g0
      obtain ⟨a1, z1, _, _⟩ := DataW.trod_int (by rw [e1]; exact hk) g1
      obtain ⟨a2, z2, _, x2⟩ := DataW.trod_int (by rw [e2]; exact hk) g2
      obtain ⟨a3, z3, _, _⟩ := DataW.trod_int (by rw [e3]; exact hk) g3
      obtain ⟨a4, z4, _, x4⟩ := DataW.trod_string e4 g4
      simp at z0 z1 z2 z3 z4
      subst z0 z1 z2 z3 z4
      exact ⟨⟨a0, a1, a2, a3, a4⟩, rfl, ⟨wf_i64 x2, x4⟩⟩
end Go.Proofs.Ythnapmcjnfeimaa
