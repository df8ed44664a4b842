/- A slice of steps that came in; '[]byte(s)'. Conditions: those that each states. -/
import Derived.Test.YthnpalcjfgbjeaaGreatFltA
import Derived.Test.YthnpalcjfgbjeaaGreatFlt6
import Derived.Deep.Slices
import Derived.ChangeSame
import Derived.Test.YthnpalcjfgbjeaaGreatConv
namespace Go.Proofs.YthnpalcjfgbjeaaGreat
open Go.ChangeShapes Go.WideShapes Go.ChangeAt Go.RowKit Go.Deep
set_option linter.unusedVariables false

theorem open_prg {H : Type} {enc : TypeId × Value → H} {P : Program} {w : World} {base : Nat} {t e : TypeId} {f0 f1 f2 f3 : Field} {v : Value} {d : DataW H} {p : List MemPlace} (ht : P.underlying t = some (.slice e)) (he : P.underlying e = some (.struct #[f0, f1, f2, f3]))
    (ce : P.cellsOf e = 4) (o0 : f0.offset = 0) (o1 : f1.offset = 1) (o2 : f2.offset = 2) (o3 : f3.offset = 3)
    (c0 : P.cellsOf f0.type = 1) (c1 : P.cellsOf f1.type = 1) (c2 : P.cellsOf f2.type = 1) (c3 : P.cellsOf f3.type = 1)
    (u0 : P.underlying f0.type = some (.int .i64)) (u1 : P.underlying f1.type = some (.int .u32)) (u2 : P.underlying f2.type = some (.int .i64)) (u3 : P.underlying f3.type = some (.int .i64))
    (hv : Value.okWide P w .any base t v) (h : DataW.Trod enc P w 0 (fun _ => true) true t v d p) : ∃ A c pr, v = .slice A (pr : List Ins).length c ∧ Prg w A pr ∧ (∀ q ∈ pr, q.Ok) ∧ (A = none → pr = [] ∧ c = 0) := by
  have hlt : ∀ x ∈ p, x.block < w.heap.size := by obtain ⟨m, hm⟩ := h; exact DataW.trod_lt m _ _ _ hm
  obtain ⟨a, n, c, rfl⟩ := okWide_slice ht hv
  obtain ⟨fuel, hf⟩ := h
  rcases open_slice ht hf with ⟨hcs, _⟩ | ⟨x, len, cap, m, k, D, Pl, hcs, _, hl, hm, hmm, _, hx⟩
  · simp [Value.cells] at hcs
    obtain ⟨rfl, rfl, rfl⟩ := hcs
    exact ⟨none, 0, [], rfl, fun i hi => absurd hi (by simp), fun q hq => (by cases hq), fun _ => ⟨rfl, rfl⟩⟩
  · simp [Value.cells] at hcs
    obtain ⟨rfl, rfl, rfl⟩ := hcs
    simp only [if_true] at hmm
    obtain ⟨b, o, sp⟩ := x
    have each : ∀ i, i < n → ∃ q : Ins, sp = none ∧ b < w.heap.size ∧ w.rangeAt b (o + i * 4) q.list ∧ q.Ok := by
      intro i hi
      obtain ⟨cs', h1, h2⟩ := hx i (by omega)
      rw [ce] at h1
      obtain ⟨_, hlen, hcell⟩ := World.cells?_some h1
      obtain ⟨xs, k', hk, hxy, _, hxl, hff⟩ := DataW.trod_struct he h2
      match xs, hxl, cs', hlen with
      | [y0, y1, y2, y3], _, [v0, v1, v2, v3], _ =>
        have g0 := hff 0 f0 rfl
        have g1 := hff 1 f1 rfl
        have g2 := hff 2 f2 rfl
        have g3 := hff 3 f3 rfl
        simp [o0, o1, o2, o3, c0, c1, c2, c3] at g0 g1 g2 g3
        obtain ⟨z0, e0, _, w0⟩ := DataW.trod_int u0 g0
        obtain ⟨z1, e1, _, w1⟩ := DataW.trod_int u1 g1
        obtain ⟨z2, e2, _, w2⟩ := DataW.trod_int u2 g2
        obtain ⟨z3, e3, _, w3⟩ := DataW.trod_int u3 g3
        simp at e0 e1 e2 e3
        have hc : ∀ j, j < 4 → w.cell? ((⟨b, o, sp⟩ : Addr).add (i * 4 + j)) = ([v0, v1, v2, v3] : List Value)[j]? := by
          intro j hj
          have := hcell j (by simpa using hj)
          rw [add_add] at this
          rw [this]
        have hc0 := (hc 0 (by omega)).trans (show _ = some v0 from rfl)
        have hsp : sp = none := by
          obtain ⟨cs0, h10, _⟩ := hx 0 (by omega)
          rw [ce] at h10
          obtain ⟨_, hlen0, hcell0⟩ := World.cells?_some h10
          have := World.cell?_spot ((hcell0 0 (by omega)).trans (List.getElem?_eq_getElem (by omega)))
          simpa [Addr.add] using this
        subst hsp
        have ea : ∀ j, (⟨b, o, none⟩ : Addr).add j = ⟨b, o + j, none⟩ := fun j => by unfold Addr.add; split <;> simp_all
        have wu : 0 ≤ z1 ∧ z1 < 4294967296 := by
          have : 0 ≤ z1 ∧ z1 ≤ 4294967295 := by simpa [Lit.wf, IntKind.min, IntKind.max, IntKind.signed, IntKind.bits] using w1
          omega
        refine ⟨⟨z0, z1, z2, z3⟩, rfl, ?_, ?_, ⟨wf_i64 w0, wu, wf_i64 w2, wf_i64 w3⟩⟩
        · rw [ea] at hc0
          unfold World.cell? at hc0
          cases hh : w.heap[b]? with
          | none => simp only [hh] at hc0; cases hc0
          | some ob => exact (Array.getElem?_eq_some_iff.1 hh).1
        · intro j v hj
          have hj6 : j < 4 := (List.getElem?_eq_some_iff.1 hj).1
          have := hc j hj6
          rw [ea, ← Nat.add_assoc] at this
          rw [this, ← hj, e0, e1, e2, e3]
          rfl
    obtain ⟨q, hq⟩ := choose_lt each
    have hl2 : ((List.range n).map q).length = n := by simp
    refine ⟨some ⟨b, o, sp⟩, c, (List.range n).map q, by rw [hl2], fun i hi => ?_, fun y hy => ?_, fun e => by cases e⟩
    · rw [hl2] at hi
      obtain ⟨rfl, h1, h2, h3⟩ := hq i hi
      exact ⟨b, o, rfl, h1, by simpa using h2⟩
    · obtain ⟨i, hi, rfl⟩ := List.mem_map.1 hy
      exact (hq i (List.mem_range.1 hi)).2.2.2

/-- append(v, p...): v a row of the call's own, p a program that lies somewhere, or none. -/
theorem wpList_append_prg {P : Program} {w : World} {ops : Array Oper} {rest : List Oper} {o : Oper} {a : Act} {Q : Exit → Act → World → Prop} (hgd : o.guard = none) (s x : Operand) (t : TypeId)
    (ho : o.op = .call { callee := .builtin .append, args := #[s, x], argTypes := #[t, t] })
    (base : Nat) (e : TypeId) (i : TypeInfo) (z : Value) (ht : P.underlying t = some (.slice e)) (hi : P.info? e = some i) (hz : i.zero = some z)
    (hsize : i.size = 4) (hby : i.bytes = 32) (hzs : z.cells.size = 4)
    (v : Value) (q : List Ins) (hs : a.eval s = v) (hown : w.ownsRow base e 4 v q.length (flat q))
    (A : Option Addr) (c : Nat) (p : List Ins) (hx : a.eval x = .slice A p.length c) (hp : Prg w A p) (hn : A = none → p = [] ∧ c = 0)
    (hmax : q.length + p.length ≤ 1000000) (hbase : base ≤ w.heap.size)
    (h : ∀ v' w', w'.ownsRow base e 4 v' (q ++ p).length (flat (q ++ p)) → w.grownBy w' v.ownBlock → wpList P ops Q rest (a.put o.dst v') w') : wpList P ops Q (o :: rest) a w := by
  refine wpList_plain hgd fun K hK => ?_
  cases A with
  | none =>
    obtain ⟨rfl, rfl⟩ := hn rfl
    have hrun := run_append_owned_none (P := P) (w := w) base t o.type e i 4 ht hi v q.length (flat q) hown
    have hx' : a.eval x = .slice none 0 0 := hx
    unfold Oper.wp execOp
    simp only [ho, resolve, invoke, builtin, Sem.run_bind, Sem.run_pure, Result.andThen_ok, List.map_toArray, List.map_cons, List.map_nil, hs, hx', hrun]
    exact hK _ _ (h v w (by rw [List.append_nil]; exact hown) (World.grownBy.refl _ _))
  | some ad =>
    have hc : ∀ j u, (flat p)[j]? = some u → w.cell? (ad.add j) = some u := by
      intro j u hu
      by_cases h0 : 0 < p.length
      · obtain ⟨b, o, e, _⟩ := hp 0 h0
        cases e
        exact prg_cells hp j u hu
      · have ep : p = [] := List.length_eq_zero_iff.1 (by omega)
        subst ep
        simp [flat] at hu
    obtain ⟨v', w', hr, h2, h3, _, h5⟩ := run_append_own_at (P := P) w base t o.type e i z 4 32 ht hi hz hsize hby hzs (by decide) v q.length (flat q) hown ad p.length c (flat p) (flat_length p) hc (one_flat p) (by unfold maxLen; omega) (by omega) hbase
    unfold Oper.wp execOp
    simp only [ho, resolve, invoke, builtin, Sem.run_bind, Sem.run_pure, Result.andThen_ok, List.map_toArray, List.map_cons, List.map_nil, hs, hx, hr]
    exact hK _ _ (h v' w' (by rw [List.length_append, flat_append]; exact h2) h3)

end Go.Proofs.YthnpalcjfgbjeaaGreat
