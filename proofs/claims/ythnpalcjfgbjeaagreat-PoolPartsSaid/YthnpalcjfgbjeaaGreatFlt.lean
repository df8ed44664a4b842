/- Programs that tell packets, in plain words; such a program in memory. No condition. -/
import Derived.Test.YthnpalcjfgbjeaaGreatBase
import Derived.Test.YthnpalcjfgbjeaaGreatApp
import Derived.Test.YthnpalcjfgbjeaaGreatTail
import Derived.Deep.MidRow
namespace Go.Proofs.YthnpalcjfgbjeaaGreat
open Go.ChangeShapes Go.WideShapes Go.ChangeAt Go.RowKit Go.Deep
set_option linter.unusedVariables false

/-- A step: its code, its number, its two jumps. -/
structure Ins where
  code : Int
  k : Int
  t : Int
  f : Int
instance : Inhabited Ins := ⟨⟨0, 0, 0, 0⟩⟩
structure Ins.Ok (q : Ins) : Prop where
  code : -9223372036854775808 ≤ q.code ∧ q.code ≤ 9223372036854775807
  k : 0 ≤ q.k ∧ q.k < 4294967296
  t : -9223372036854775808 ≤ q.t ∧ q.t ≤ 9223372036854775807
  f : -9223372036854775808 ≤ q.f ∧ q.f ≤ 9223372036854775807
def Ins.list (q : Ins) : List Value := [.int .i64 q.code, .int .u32 q.k, .int .i64 q.t, .int .i64 q.f]
def leaveB (n : Int) : Bool := decide (0 ≤ n) && decide (n ≤ 255)
def asks (q : Ins) : Bool := q.code == 5 || q.code == 6
def mayB (q : Ins) (behind : Int) : Bool :=
  !(decide (q.code < 0)) && !(decide (q.code > 8)) && leaveB q.t && leaveB q.f && (if asks q = true then decide (q.t < behind) && decide (q.f < behind) else true)
structure Chk (p : List Ins) : Prop where
  n1 : 1 ≤ p.length
  n2 : p.length ≤ 64
  may : ∀ i (h : i < p.length), mayB p[i] ((p.length : Int) - 1 - i) = true
  last : ∀ (h : p.length - 1 < p.length), p[p.length - 1].code = 7 ∨ p[p.length - 1].code = 8

/-- The number in w bytes from place i on, if they are all there. -/
def joined (l : List UInt8) : Int := l.foldl (fun n b => bits .or .u32 (n * 256 % 4294967296) ((b.toNat : Int) % 4294967296)) 0
def num (s : List UInt8) (i w : Nat) : Option Int := if i + w ≤ s.length then some (joined ((s.drop i).take w)) else none
/-- With what a program ends, from step i on, with so much fuel. -/
def runF (p : List Ins) (s : List UInt8) : Nat → Nat → Int → Int
  | 0, _, _ => 0
  | n + 1, i, a =>
    match p[i]? with
    | none => 0
    | some q =>
      if q.code = 0 then (match num s q.k.toNat 1 with | none => 0 | some x => runF p s n (i + 1) x)
      else if q.code = 1 then (match num s q.k.toNat 2 with | none => 0 | some x => runF p s n (i + 1) x)
      else if q.code = 2 then (match num s q.k.toNat 4 with | none => 0 | some x => runF p s n (i + 1) x)
      else if q.code = 3 then runF p s n (i + 1) (bits .and .u32 a q.k)
      else if q.code = 4 then runF p s n (i + 1) (a / 2 ^ min q.k.toNat 32)
      else if q.code = 5 then runF p s n (i + 1 + (if a = q.k then q.t else q.f).toNat) a
      else if q.code = 6 then runF p s n (i + 1 + (if a > q.k then q.t else q.f).toNat) a
      else if q.code = 7 then q.k
      else a
def runP (p : List Ins) (s : List UInt8) : Int := runF p s p.length 0 0

/-- A program in memory. -/
def Prg (w : World) (A : Option Addr) (p : List Ins) : Prop := ∀ i (h : i < p.length), ∃ b o, A = some ⟨b, o, none⟩ ∧ b < w.heap.size ∧ w.rangeAt b (o + i * 4) p[i].list
section
variable {w w' : World} {A : Option Addr} {p : List Ins} {S : Nat → Prop}
theorem Prg.older (h : Prg w A p) (k : Older w w') : Prg w' A p := by
  intro i hi
  obtain ⟨b, o, e, hb, h1⟩ := h i hi
  refine ⟨b, o, e, Nat.lt_of_lt_of_le hb k.1, fun j v hj => ?_⟩
  rw [World.cell?_of_block (w := w) (w' := w') (a := ⟨b, o + i * 4 + j, none⟩) (k.2 b hb)]
  exact h1 j v hj
theorem Prg.new (h : Prg w A p) (k : Below w.heap.size w w') : Prg w' A p := h.older (older_below k)
theorem Prg.drewN (h : Prg w A p) (n : Nat) : Prg (w.drewN n) A p := h
theorem Prg.cells (h : Prg w A p) {i : Nat} (hi : i < p.length) : ∃ b o, A = some ⟨b, o, none⟩ ∧ b < w.heap.size ∧ w.cell? ⟨b, o + i * 4, none⟩ = some (.int .i64 p[i].code) ∧ w.cell? ⟨b, o + i * 4 + 1, none⟩ = some (.int .u32 p[i].k) ∧ w.cell? ⟨b, o + i * 4 + 2, none⟩ = some (.int .i64 p[i].t) ∧ w.cell? ⟨b, o + i * 4 + 3, none⟩ = some (.int .i64 p[i].f) := by
  obtain ⟨b, o, e, hb, h1⟩ := h i hi
  exact ⟨b, o, e, hb, h1 0 _ rfl, h1 1 _ rfl, h1 2 _ rfl, h1 3 _ rfl⟩
end
/-- The cells of a program, one behind the other. -/
def flat (p : List Ins) : List Value := (p.map Ins.list).flatten
theorem flat_rows (p : List Ins) : ∀ r ∈ p.map Ins.list, r.length = 4 := by
  intro r hr
  obtain ⟨q, _, rfl⟩ := List.mem_map.1 hr
  rfl
theorem flat_snoc (p : List Ins) (q : Ins) : flat (p ++ [q]) = flat p ++ q.list := by unfold flat; simp
theorem flat_append (p q : List Ins) : flat (p ++ q) = flat p ++ flat q := by unfold flat; simp
theorem flat_length (p : List Ins) : (flat p).length = p.length * 4 := by
  unfold flat
  induction p with
  | nil => rfl
  | cons q p ih => rw [List.map_cons, List.flatten_cons, List.length_append, ih, List.length_cons]; show 4 + _ = _; omega
theorem flat_at (p : List Ins) {i j : Nat} (hi : i < p.length) (hj : j < 4) : (flat p)[i * 4 + j]? = (p[i].list)[j]? := by
  unfold flat
  induction p generalizing i with
  | nil => simp at hi
  | cons q p ih =>
    cases i with
    | zero =>
      rw [List.map_cons, List.flatten_cons, List.getElem?_append_left (by show _ < 4; omega), Nat.zero_mul, Nat.zero_add]
      rfl
    | succ i =>
      rw [List.map_cons, List.flatten_cons, List.getElem?_append_right (by show 4 ≤ _; omega)]
      have e : (i + 1) * 4 + j - q.list.length = i * 4 + j := by show _ - 4 = _; omega
      rw [e, ih (by simpa using hi)]
      rfl
theorem one_ins (q : Ins) : ∀ u ∈ q.list, u.oneCell' = true := by
  intro u hu
  unfold Ins.list at hu
  simp only [List.mem_cons, List.not_mem_nil, or_false] at hu
  rcases hu with rfl | rfl | rfl | rfl <;> rfl
theorem one_flat (p : List Ins) : ∀ u ∈ flat p, u.oneCell' = true := by
  intro u hu
  unfold flat at hu
  rw [List.mem_flatten] at hu
  obtain ⟨r, hr, hu⟩ := hu
  obtain ⟨q, _, rfl⟩ := List.mem_map.1 hr
  exact one_ins q u hu
/-- A row of the call's own that holds a program's cells. -/
theorem prg_of_owns {w : World} {B : Nat} {E : TypeId} {v : Value} {p : List Ins} (h : w.ownsRow B E 4 v p.length (flat p)) : ∃ A c, v = .slice A p.length c ∧ Prg w A p := by
  rcases h.2 with ⟨e, e0⟩ | ⟨g, cap, cur, e, hg, hh, r⟩
  · refine ⟨none, 0, by rw [e, e0], fun i hi => absurd hi (by omega)⟩
  · refine ⟨some ⟨g, 0, none⟩, cap, e, fun i hi => ⟨g, 0, rfl, (Array.getElem?_eq_some_iff.1 hh).1, fun j v hj => ?_⟩⟩
    have hj4 : j < 4 := by
      have := (List.getElem?_eq_some_iff.1 hj).1
      exact this
    have e2 : (flat p)[i * 4 + j]? = some v := (flat_at p hi hj4).trans hj
    subst e
    have hc := World.ownsRow.cells h rfl (i * 4 + j) v e2
    have ea : (⟨g, 0, none⟩ : Addr).add (i * 4 + j) = ⟨g, 0 + i * 4 + j, none⟩ := by unfold Addr.add; split <;> simp_all
    rw [ea] at hc
    exact hc
theorem prg_cells {w : World} {b o : Nat} {p : List Ins} (h : Prg w (some ⟨b, o, none⟩) p) : ∀ j u, (flat p)[j]? = some u → w.cell? ((⟨b, o, none⟩ : Addr).add j) = some u := by
  intro j u hu
  have hj := (List.getElem?_eq_some_iff.1 hu).1
  rw [flat_length] at hj
  have e1 : j / 4 * 4 + j % 4 = j := by omega
  have hi : j / 4 < p.length := by omega
  have hm : j % 4 < 4 := by omega
  have e := flat_at p hi hm
  rw [e1, hu] at e
  obtain ⟨b', o', e2, _, hr⟩ := h (j / 4) hi
  cases e2
  have := hr (j % 4) u e.symm
  have ea : (⟨b, o, none⟩ : Addr).add j = ⟨b, o + j, none⟩ := by unfold Addr.add; split <;> simp_all
  rw [ea]
  rw [show o + j / 4 * 4 + j % 4 = o + j by omega] at this
  exact this
end Go.Proofs.YthnpalcjfgbjeaaGreat
