/- General words: append onto a row of the call's own, whatever the source. Conditions: those that each states. -/
import Derived.Test.YtojbpjdppbfkhaaGen
import Derived.Maps.AppendAt
import Derived.RegionTactic
import Derived.OwnWalk
namespace Go.Proofs.Ytojbpjdppbfkhaa
open Go.ChangeShapes Go.WideShapes Go.ChangeAt Go.RowKit Go.Deep

/-- 'b[k:]' of bytes, under one name. -/
theorem run_cut_bytes (A : Option Addr) (n c k : Nat) (hk : k ≤ n) (W : World) :
    (Instr.slice 22 (.slice A n c) (some (.int .i64 (k : Int))) none none).run Try.prog W = .ok (.slice (if c = k then A else A.map (·.add k)) (n - k) (c - k)) W := by
  have ht : Try.prog.underlying 22 = some (.slice (Try.prog.elem 22)) := by kernel_rfl
  have he : (Try.prog.info? (Try.prog.elem 22)).map (·.size) = some 1 := by kernel_rfl
  obtain ⟨i, hi, hs⟩ := Option.map_eq_some_iff.1 he
  rw [run_slice_l W 22 A n c ht .i64 k (by omega) (by omega)]
  simp [sliced, sizeOf, typeInfo, hi, hs]

theorem grown_of_below {a w : World} (h : Below a.heap.size a w) (row : Option Nat) : a.grownBy w row :=
  { os := h.os, tape := h.tape, output := h.output, size := h.size, block := fun i hi _ => h.block i hi }

/-- A row of bytes of the call's own: block g, from base on. -/
structure OwnB (w : World) (base g n c : Nat) (l : List UInt8) : Prop where
  own : w.ownsRow base 5 1 (.slice (some ⟨g, 0, none⟩) n c) n (bys l)
  base : base ≤ g
  lt : g < w.heap.size
  cap : n ≤ c
  max : c ≤ 9223372036854775807
theorem OwnB.of {w : World} {base n : Nat} {v : Value} {l : List UInt8} (h : w.ownsRow base 5 1 v n (bys l)) (hn : 0 < n) : ∃ g c, v = .slice (some ⟨g, 0, none⟩) n c ∧ OwnB w base g n c l := by
  rcases h.2 with ⟨rfl, hx⟩ | ⟨g, cap, cur, rfl, hb, hh, hc, hm, hs, ht⟩
  · exfalso
    have := h.1
    rw [hx] at this
    simp at this
    omega
  · refine ⟨g, cap, rfl, h, hb, ?_, hc, hm⟩
    rcases Nat.lt_or_ge g w.heap.size with hlt | hge
    · exact hlt
    · rw [Array.getElem?_eq_none hge] at hh; cases hh
theorem OwnB.bytes {w : World} {base g n c : Nat} {l : List UInt8} (h : OwnB w base g n c l) : Bytes w (some ⟨g, 0, none⟩) n c l := by
  have hl := h.own.1
  rw [bys_length, Nat.mul_one] at hl
  refine ⟨fun hp => ⟨g, 0, rfl, h.lt, fun j hj => ?_⟩, hl, h.cap, h.max⟩
  have hj' := hj
  rw [bys_length] at hj'
  rw [Nat.zero_add, h.own.cellAt j (by omega)]
  exact List.getElem?_eq_getElem hj
theorem OwnB.cell {w : World} {base g n c j : Nat} {l : List UInt8} (h : OwnB w base g n c l) (hj : j < n) : ∃ hl : j < l.length, w.cell? ⟨g, j, none⟩ = some (.int .u8 (l[j].toNat : Int)) := by
  have hl := h.bytes.len
  refine ⟨by omega, ?_⟩
  rw [h.own.cellAt j (by omega)]
  exact bys_get (by omega)
theorem OwnB.frozen {w : World} {base g n c : Nat} {l : List UInt8} (h : OwnB w base g n c l) (j : Nat) : w.frozen? ⟨g, j, none⟩ = false := h.own.frozenAt j
theorem bys_set (l : List UInt8) (j : Nat) (v : UInt8) : (bys l).set j (.int .u8 (v.toNat : Int)) = bys (l.set j v) := by
  unfold bys; rw [List.map_set]
theorem OwnB.set {w : World} {base g n c j : Nat} {l : List UInt8} (h : OwnB w base g n c l) (v : UInt8) : OwnB (w.setCell ⟨g, j, none⟩ (.int .u8 (v.toNat : Int))) base g n c (l.set j v) := by
  refine ⟨?_, h.base, by have := h.lt; simpa [World.setCell] using this, h.cap, h.max⟩
  have := (h.own.stored j (.int .u8 (v.toNat : Int))).1
  rw [bys_set] at this
  exact this
theorem OwnB.below {w w' : World} {base g n c : Nat} {l : List UInt8} (h : OwnB w base g n c l) (hb : Below w.heap.size w w') : OwnB w' base g n c l :=
  ⟨h.own.kept (grown_of_below hb none) (.inr (by simp [Value.ownBlock])), h.base, Nat.lt_of_lt_of_le h.lt hb.size, h.cap, h.max⟩
theorem OwnB.drew {w : World} {base g n c : Nat} {l : List UInt8} (h : OwnB w base g n c l) : OwnB w.drew base g n c l := ⟨h.own, h.base, h.lt, h.cap, h.max⟩
theorem OwnB.drewN {w : World} {base g n c : Nat} {l : List UInt8} (h : OwnB w base g n c l) (k : Nat) : OwnB (w.drewN k) base g n c l := ⟨h.own, h.base, h.lt, h.cap, h.max⟩
theorem OwnB.alloc {w : World} {base g n c : Nat} {l : List UInt8} (h : OwnB w base g n c l) (o : Obj) : OwnB (w.alloc o) base g n c l := ⟨h.own.alloc o, h.base, by have := h.lt; simp; omega, h.cap, h.max⟩
theorem OwnB.far {w : World} {base g n c : Nat} {l : List UInt8} (h : OwnB w base g n c l) {p : Addr} (hp : g ≠ p.block) (u : Value) : OwnB (w.setCell p u) base g n c l := by
  have hb : w.grownBy (w.setCell p u) (some p.block) := ⟨rfl, rfl, rfl, by simp [World.setCell], fun i _ hne => Below.heap_setCell w p u i (fun e => hne (by rw [e]))⟩
  exact ⟨h.own.kept hb (.inr (by simpa [Value.ownBlock] using hp)), h.base, by have := h.lt; simpa [World.setCell] using this, h.cap, h.max⟩
end Go.Proofs.Ytojbpjdppbfkhaa
