/- What comes in to layer 22's laws: slices of numbers, of calls, a call. Conditions: those that each states. -/
import Derived.Test.YtldmcoagjgeeoaaGr0
namespace Go.Proofs.Ytldmcoagjgeeoaa.Tc
open Go.ChangeShapes Go.WideShapes Go.ChangeAt Go.RowKit Go.Deep Rk Gx
set_option linter.unusedVariables false
set_option linter.unusedSimpArgs false

def U16sC (x : Nat) : List Value := [.int .u16 (x : Int)]
theorem U16sC_len (x : Nat) : (U16sC x).length = 1 := rfl
set_option maxRecDepth 100000 in
theorem open_U16s {H : Type} {enc : TypeId × Value → H} {w : World} {base : Nat} {v : Value} {d : DataW H} {p : List MemPlace}
    (hv : Value.okWide Try.prog w .any base 23 v) (h : DataW.Trod enc Try.prog w 0 (fun _ => true) true 23 v d p) :
    ∃ A c l, v = .slice A (l : List (Nat)).length c ∧ RowG w 1 A l.length c (l.flatMap U16sC) ∧ ∀ a ∈ l, (fun (x : Nat) => x ≤ 65535) a := by
  obtain ⟨a, n, c, rfl⟩ := okWide_slice Try.underlying23 hv
  obtain ⟨fuel, hf⟩ := h
  obtain ⟨A, c', l, e, r, k⟩ := row_of_trod U16sC (fun (x : Nat) => x ≤ 65535) (sz := 1) (by decide) U16sC_len Try.underlying23 (by kernel_rfl) (fun fuel cs x hl h => by
    obtain ⟨b0, z0, _, x0⟩ := DataW.trod_int Try.underlying32 h
    obtain ⟨m0, rfl, r0⟩ := wf_u16 x0
    exact ⟨m0, by simpa [U16sC] using z0, r0⟩) hf
  simp [Value.cells] at e
  obtain ⟨rfl, rfl, rfl⟩ := e
  exact ⟨a, c, l, rfl, r, k⟩
theorem U16s_at0 {w : World} {A : Option Addr} {c : Nat} {l : List (Nat)} (h : RowG w 1 A l.length c (l.flatMap U16sC)) {i : Nat} (hi : i < l.length) : ∃ b o, A = some ⟨b, o, none⟩ ∧ b < w.heap.size ∧ w.cell? ⟨b, o + (i * 1 + 0), none⟩ = some (.int .u16 (l[i] : Int)) :=
  rowG_at U16sC_len h hi (j := 0) (by decide)

/-- A call that comes in: its kind, its number, its segment. -/
structure Act where
  k : Int
  n : Int
  f : Nat
  t : Nat
  q : Nat
  a : Nat
  g : Int
  wi : Nat
  m : Int
  s : List UInt8
def Act.cells (q : Act) : List Value := [.int .i64 q.k, .int .i64 q.n, .int .u16 (q.f : Int), .int .u16 (q.t : Int), .int .u32 (q.q : Int), .int .u32 (q.a : Int), .int .i64 q.g, .int .u16 (q.wi : Int), .int .i64 q.m, .string ⟨q.s.toArray⟩]
theorem Act.len (q : Act) : q.cells.length = 10 := rfl
def Act.In (q : Act) : Prop := (-9223372036854775808 ≤ q.k ∧ q.k ≤ 9223372036854775807) ∧ (-9223372036854775808 ≤ q.n ∧ q.n ≤ 9223372036854775807) ∧ q.f ≤ 65535 ∧ q.t ≤ 65535 ∧ q.q ≤ 4294967295 ∧ q.a ≤ 4294967295 ∧ (-9223372036854775808 ≤ q.g ∧ q.g ≤ 9223372036854775807) ∧ q.wi ≤ 65535 ∧ (-9223372036854775808 ≤ q.m ∧ q.m ≤ 9223372036854775807) ∧ q.s.length ≤ maxLen
set_option maxRecDepth 100000 in
theorem act_of_trod {H : Type} {enc : TypeId × Value → H} {w : World} {fuel : Nat} {cs : List Value} {x : DataW H × List MemPlace} (hl : cs.length = 10) (h : DataW.trod enc Try.prog w 0 (fun _ => true) true fuel 41 cs = some x) : ∃ q : Act, cs = q.cells ∧ q.In := by
  obtain ⟨xs, k', hk, hxy, _, hxl, hff⟩ := DataW.trod_struct Try.underlying41 h
  match xs, hxl, cs, hl with
  | [y0, y1, y2], _, [v0, v1, v2, v3, v4, v5, v6, v7, v8, v9], _ =>
    have g0 := hff 0 _ rfl
    have g1 := hff 1 _ rfl
    have g2 := hff 2 _ rfl
    have cc_i64 : Try.prog.cellsOf 3 = 1 := by kernel_rfl
    have cc_u16 : Try.prog.cellsOf 32 = 1 := by kernel_rfl
    have cc_u32 : Try.prog.cellsOf 22 = 1 := by kernel_rfl
    have cc_string : Try.prog.cellsOf 9 = 1 := by kernel_rfl
    have cc_seg : Try.prog.cellsOf 39 = 8 := by kernel_rfl
    simp [cc_i64, cc_seg] at g0 g1 g2
    obtain ⟨b0, z0, _, x0⟩ := DataW.trod_int Try.underlying3 g0
    obtain ⟨b1, z1, _, x1⟩ := DataW.trod_int Try.underlying3 g1
    simp at z0 z1
    subst z0 z1
    obtain ⟨xs2, k2, hk2, hxy2, _, hxl2, hff2⟩ := DataW.trod_struct Try.underlying39 g2
    match xs2, hxl2 with
    | [u0, u1, u2, u3, u4, u5, u6, u7], _ =>
      have d0 := hff2 0 _ rfl
      have d1 := hff2 1 _ rfl
      have d2 := hff2 2 _ rfl
      have d3 := hff2 3 _ rfl
      have d4 := hff2 4 _ rfl
      have d5 := hff2 5 _ rfl
      have d6 := hff2 6 _ rfl
      have d7 := hff2 7 _ rfl
      simp [cc_i64, cc_u16, cc_u32, cc_string] at d0 d1 d2 d3 d4 d5 d6 d7
      obtain ⟨e0, w0, _, r0⟩ := DataW.trod_int Try.underlying32 d0
      obtain ⟨e1, w1, _, r1⟩ := DataW.trod_int Try.underlying32 d1
      obtain ⟨e2, w2, _, r2⟩ := DataW.trod_int Try.underlying22 d2
      obtain ⟨e3, w3, _, r3⟩ := DataW.trod_int Try.underlying22 d3
      obtain ⟨e4, w4, _, r4⟩ := DataW.trod_int Try.underlying3 d4
      obtain ⟨e5, w5, _, r5⟩ := DataW.trod_int Try.underlying32 d5
      obtain ⟨e6, w6, _, r6⟩ := DataW.trod_int Try.underlying3 d6
      obtain ⟨e7, w7, _, r7⟩ := DataW.trod_string Try.underlying9 d7
      simp at w0 w1 w2 w3 w4 w5 w6 w7
      subst w0 w1 w2 w3 w4 w5 w6 w7
      obtain ⟨m0, rfl, l0⟩ := wf_u16 r0
      obtain ⟨m1, rfl, l1⟩ := wf_u16 r1
      obtain ⟨m2, rfl, l2⟩ := wf_u32 r2
      obtain ⟨m3, rfl, l3⟩ := wf_u32 r3
      obtain ⟨m5, rfl, l5⟩ := wf_u16 r5
      exact ⟨⟨b0, b1, m0, m1, m2, m3, e4, m5, e6, e7.data.toList⟩, rfl, wf_i64 x0, wf_i64 x1, l0, l1, l2, l3, wf_i64 r4, l5, wf_i64 r6, by simpa using r7⟩
set_option maxRecDepth 100000 in
theorem open_Act {H : Type} {enc : TypeId × Value → H} {w : World} {base : Nat} {v : Value} {d : DataW H} {p : List MemPlace}
    (hv : Value.okWide Try.prog w .any base 24 v) (h : DataW.Trod enc Try.prog w 0 (fun _ => true) true 24 v d p) :
    ∃ A c l, v = .slice A (l : List Act).length c ∧ RowG w 10 A l.length c (l.flatMap Act.cells) ∧ ∀ a ∈ l, Act.In a := by
  obtain ⟨a, n, c, rfl⟩ := okWide_slice Try.underlying24 hv
  obtain ⟨fuel, hf⟩ := h
  obtain ⟨A, c', l, e, r, k⟩ := row_of_trod Act.cells Act.In (sz := 10) (by decide) Act.len Try.underlying24 (by kernel_rfl) (fun fuel cs x hl h => act_of_trod hl h) hf
  simp [Value.cells] at e
  obtain ⟨rfl, rfl, rfl⟩ := e
  exact ⟨a, c, l, rfl, r, k⟩
set_option maxRecDepth 100000 in
theorem open_One {H : Type} {enc : TypeId × Value → H} {w : World} {b0 : Nat} {v : Value} {d : DataW H} {p : List MemPlace} (hv : Value.okWide Try.prog w .any b0 41 v) (h : DataW.Trod enc Try.prog w 0 (fun _ => true) true 41 v d p) :
    ∃ (a0 : Int) (a1 : Int) (a2 : Nat) (a3 : Nat) (a4 : Nat) (a5 : Nat) (a6 : Int) (a7 : Nat) (a8 : Int) (a9 : List UInt8), v = .agg #[.int .i64 a0, .int .i64 a1, .int .u16 (a2 : Int), .int .u16 (a3 : Int), .int .u32 (a4 : Int), .int .u32 (a5 : Int), .int .i64 a6, .int .u16 (a7 : Int), .int .i64 a8, .string ⟨a9.toArray⟩] ∧ (-9223372036854775808 ≤ a0 ∧ a0 ≤ 9223372036854775807) ∧ (-9223372036854775808 ≤ a1 ∧ a1 ≤ 9223372036854775807) ∧ (a2 ≤ 65535) ∧ (a3 ≤ 65535) ∧ (a4 ≤ 4294967295) ∧ (a5 ≤ 4294967295) ∧ (-9223372036854775808 ≤ a6 ∧ a6 ≤ 9223372036854775807) ∧ (a7 ≤ 65535) ∧ (-9223372036854775808 ≤ a8 ∧ a8 ≤ 9223372036854775807) ∧ (a9.length ≤ maxLen) := by
  obtain ⟨cs, rfl, hsz⟩ := okWide_struct Try.underlying41 hv
  obtain ⟨l⟩ := cs
  obtain ⟨fuel, hf⟩ := h
  have hC : Try.prog.cellsOf 41 = 10 := by kernel_rfl
  obtain ⟨q, hq, hi⟩ := act_of_trod (cs := l) (by simpa [hC] using hsz) (by simpa [Value.cells] using hf)
  subst hq
  exact ⟨q.k, q.n, q.f, q.t, q.q, q.a, q.g, q.wi, q.m, q.s, rfl, hi⟩
end Go.Proofs.Ytldmcoagjgeeoaa.Tc
