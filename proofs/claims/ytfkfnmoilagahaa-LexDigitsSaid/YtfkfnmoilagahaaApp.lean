/- General words: append onto a row of the call's own, whatever the source. Conditions: those that each states. -/
import Derived.Test.YtfkfnmoilagahaaGen
import Derived.Maps.AppendAt
import Derived.RegionTactic
import Derived.OwnWalk
import Derived.Laws.AppendOwnNone
import Derived.Lib.AppendStr
namespace Go.Proofs.Ytfkfnmoilagahaa
open Go.ChangeShapes Go.WideShapes Go.ChangeAt Go.RowKit Go.Deep

/-- 'b[k:]' of bytes, under one name. -/
theorem run_cut_bytes (A : Option Addr) (n c k : Nat) (hk : k ≤ n) (W : World) :
    (Instr.slice 29 (.slice A n c) (some (.int .i64 (k : Int))) none none).run Try.prog W = .ok (.slice (if c = k then A else A.map (·.add k)) (n - k) (c - k)) W := by
  have ht : Try.prog.underlying 29 = some (.slice (Try.prog.elem 29)) := by kernel_rfl
  have he : (Try.prog.info? (Try.prog.elem 29)).map (·.size) = some 1 := by kernel_rfl
  obtain ⟨i, hi, hs⟩ := Option.map_eq_some_iff.1 he
  rw [run_slice_l W 29 A n c ht .i64 k (by omega) (by omega)]
  simp [sliced, sizeOf, typeInfo, hi, hs]

theorem grown_of_below {a w : World} (h : Below a.heap.size a w) (row : Option Nat) : a.grownBy w row :=
  { os := h.os, tape := h.tape, output := h.output, size := h.size, block := fun i hi _ => h.block i hi }

/-- A row of bytes of the call's own: block g, from base on. -/
structure OwnB (w : World) (base g n c : Nat) (l : List UInt8) : Prop where
  own : w.ownsRow base 5 1 (.slice (some ⟨g, 0, none⟩) n c) n (bys l)
  base : base ≤ g
  lt : g < w.heap.size
  cap : n ≤ c
  max : c ≤ 9223372036854775807
theorem OwnB.of {w : World} {base n : Nat} {v : Value} {l : List UInt8} (h : w.ownsRow base 5 1 v n (bys l)) (hn : 0 < n) : ∃ g c, v = .slice (some ⟨g, 0, none⟩) n c ∧ OwnB w base g n c l := by
  rcases h.2 with ⟨rfl, hx⟩ | ⟨g, cap, cur, rfl, hb, hh, hc, hm, hs, ht⟩
  · exfalso
    have := h.1
    rw [hx] at this
    simp at this
    omega
  · refine ⟨g, cap, rfl, h, hb, ?_, hc, hm⟩
    rcases Nat.lt_or_ge g w.heap.size with hlt | hge
    · exact hlt
    · rw [Array.getElem?_eq_none hge] at hh; cases hh
theorem OwnB.bytes {w : World} {base g n c : Nat} {l : List UInt8} (h : OwnB w base g n c l) : Bytes w (some ⟨g, 0, none⟩) n c l := by
  have hl := h.own.1
  rw [bys_length, Nat.mul_one] at hl
  refine ⟨fun hp => ⟨g, 0, rfl, h.lt, fun j hj => ?_⟩, hl, h.cap, h.max⟩
  have hj' := hj
  rw [bys_length] at hj'
  rw [Nat.zero_add, h.own.cellAt j (by omega)]
  exact List.getElem?_eq_getElem hj
theorem OwnB.cell {w : World} {base g n c j : Nat} {l : List UInt8} (h : OwnB w base g n c l) (hj : j < n) : ∃ hl : j < l.length, w.cell? ⟨g, j, none⟩ = some (.int .u8 (l[j].toNat : Int)) := by
  have hl := h.bytes.len
  refine ⟨by omega, ?_⟩
  rw [h.own.cellAt j (by omega)]
  exact bys_get (by omega)
theorem OwnB.frozen {w : World} {base g n c : Nat} {l : List UInt8} (h : OwnB w base g n c l) (j : Nat) : w.frozen? ⟨g, j, none⟩ = false := h.own.frozenAt j
theorem bys_set (l : List UInt8) (j : Nat) (v : UInt8) : (bys l).set j (.int .u8 (v.toNat : Int)) = bys (l.set j v) := by
  unfold bys; rw [List.map_set]
theorem OwnB.set {w : World} {base g n c j : Nat} {l : List UInt8} (h : OwnB w base g n c l) (v : UInt8) : OwnB (w.setCell ⟨g, j, none⟩ (.int .u8 (v.toNat : Int))) base g n c (l.set j v) := by
  refine ⟨?_, h.base, by have := h.lt; simpa [World.setCell] using this, h.cap, h.max⟩
  have := (h.own.stored j (.int .u8 (v.toNat : Int))).1
  rw [bys_set] at this
  exact this
theorem OwnB.below {w w' : World} {base g n c : Nat} {l : List UInt8} (h : OwnB w base g n c l) (hb : Below w.heap.size w w') : OwnB w' base g n c l :=
  ⟨h.own.kept (grown_of_below hb none) (.inr (by simp [Value.ownBlock])), h.base, Nat.lt_of_lt_of_le h.lt hb.size, h.cap, h.max⟩
theorem OwnB.drew {w : World} {base g n c : Nat} {l : List UInt8} (h : OwnB w base g n c l) : OwnB w.drew base g n c l := ⟨h.own, h.base, h.lt, h.cap, h.max⟩
theorem OwnB.drewN {w : World} {base g n c : Nat} {l : List UInt8} (h : OwnB w base g n c l) (k : Nat) : OwnB (w.drewN k) base g n c l := ⟨h.own, h.base, h.lt, h.cap, h.max⟩
theorem OwnB.alloc {w : World} {base g n c : Nat} {l : List UInt8} (h : OwnB w base g n c l) (o : Obj) : OwnB (w.alloc o) base g n c l := ⟨h.own.alloc o, h.base, by have := h.lt; simp; omega, h.cap, h.max⟩
theorem OwnB.far {w : World} {base g n c : Nat} {l : List UInt8} (h : OwnB w base g n c l) {p : Addr} (hp : g ≠ p.block) (u : Value) : OwnB (w.setCell p u) base g n c l := by
  have hb : w.grownBy (w.setCell p u) (some p.block) := ⟨rfl, rfl, rfl, by simp [World.setCell], fun i _ hne => Below.heap_setCell w p u i (fun e => hne (by rw [e]))⟩
  exact ⟨h.own.kept hb (.inr (by simpa [Value.ownBlock] using hp)), h.base, by have := h.lt; simpa [World.setCell] using this, h.cap, h.max⟩
/-- The slice value's bytes are l, and nil is of no capacity: what comes in, and what this program makes. -/
structure Src (w : World) (A : Option Addr) (n c : Nat) (l : List UInt8) : Prop extends Bytes w A n c l where
  none_ : A = none → c = 0
theorem Src.older {w w' : World} {A : Option Addr} {n c : Nat} {l : List UInt8} (h : Src w A n c l) (k : Older w w') : Src w' A n c l := ⟨h.toBytes.older k, h.none_⟩
theorem Src.below {w w' : World} {A : Option Addr} {n c : Nat} {l : List UInt8} (h : Src w A n c l) (hb : Below w.heap.size w w') : Src w' A n c l := h.older (older_below hb)
theorem Src.alloc {w : World} {A : Option Addr} {n c : Nat} {l : List UInt8} (h : Src w A n c l) (o : Obj) : Src (w.alloc o) A n c l := h.older (older_alloc w o)
theorem Src.drewN {w : World} {A : Option Addr} {n c : Nat} {l : List UInt8} (h : Src w A n c l) (k : Nat) : Src (w.drewN k) A n c l := ⟨h.toBytes.drewN k, h.none_⟩
theorem OwnB.src {w : World} {base g n c : Nat} {l : List UInt8} (h : OwnB w base g n c l) : Src w (some ⟨g, 0, none⟩) n c l := ⟨h.bytes, fun e => by cases e⟩
theorem Src.nil (w : World) : Src w none 0 0 [] := ⟨⟨lies_nil _ _, rfl, Nat.le_refl _, by omega⟩, fun _ => rfl⟩
theorem Src.one (w : World) (c : UInt8) : Src (w.alloc (.cells #[.int .u8 (c.toNat : Int)] 5)) (some ⟨w.heap.size, 0, none⟩) 1 1 [c] := by
  refine ⟨⟨fun _ => ⟨w.heap.size, 0, rfl, by simp, fun j hj => ?_⟩, rfl, Nat.le_refl _, by omega⟩, fun e => by cases e⟩
  have hj' : j = 0 := by simp [bys] at hj; omega
  subst hj'
  rw [(Blk.new w 5 #[.int .u8 (c.toNat : Int)]).cell (0 + 0)]
  rfl
theorem open_src {H : Type} {enc : TypeId × Value → H} {P : Program} {w : World} {base : Nat} {t e : TypeId} {v : Value} {d : DataW H} {p : List MemPlace} (ht : P.underlying t = some (.slice e)) (he : P.underlying e = some (.int .u8)) (hc : P.cellsOf e = 1)
    (hv : Value.okWide P w .any base t v) (h : DataW.Trod enc P w 0 (fun _ => true) true t v d p) : ∃ A n c l, v = .slice A n c ∧ Src w A n c l := by
  obtain ⟨A, n, c, l, rfl, hb⟩ := open_bytes ht he hc hv h
  refine ⟨A, n, c, l, rfl, hb, ?_⟩
  rintro rfl
  obtain ⟨fuel, hf⟩ := h
  rcases open_ints ht he hc hf with ⟨hcs, _⟩ | ⟨x, _, _, _, hcs, _⟩
  · simp [Value.cells] at hcs
    exact hcs.2
  · simp [Value.cells] at hcs

theorem u8_info : ∃ i0, Try.prog.info? 5 = some i0 ∧ i0.zero = some (.int .u8 0) ∧ i0.size = 1 ∧ i0.bytes = 1 := by
  obtain ⟨i, hi, hs⟩ := Option.map_eq_some_iff.1 (show (Try.prog.info? 5).map (fun i => (i.zero, i.size, i.bytes)) = some (some (.int .u8 0), 1, 1) by kernel_rfl)
  simp at hs
  exact ⟨i, hi, hs.1, hs.2.1, hs.2.2⟩

theorem bys_one {l : List UInt8} {u : Value} (hu : u ∈ bys l) : u.oneCell' = true := by
  unfold bys at hu
  obtain ⟨c', _, rfl⟩ := List.mem_map.1 hu
  rfl
theorem Bytes.at_ {w : World} (ad : Addr) {n c : Nat} {l : List UInt8} (hb : Bytes w (some ad) n c l) (j : Nat) (u : Value) (hu : (bys l)[j]? = some u) : w.cell? (ad.add j) = some u := by
  have hj := (List.getElem?_eq_some_iff.1 hu).1
  obtain ⟨b, o', e, _, _⟩ := hb.lies (by omega)
  cases e
  exact hb.news.2.1 j u hu

theorem src_of_own {w : World} {base n : Nat} {v : Value} {l : List UInt8} (h : w.ownsRow base 5 1 v n (bys l)) : ∃ A c, v = .slice A n c ∧ Src w A n c l ∧ ∀ b o, A = some ⟨b, o, none⟩ → base ≤ b := by
  have hl : l.length = n := by have := h.1; rw [bys_length, Nat.mul_one] at this; exact this
  rcases h.2 with ⟨rfl, hx⟩ | ⟨g, cap, cur, rfl, hb, hh, hc, hm, _, _⟩
  · rw [hx] at hl
    refine ⟨none, 0, by rw [hx], ?_, fun _ _ e => by (cases e)⟩
    rw [hx, List.length_eq_zero_iff.1 hl]
    exact Src.nil w
  · by_cases hn : 0 < n
    · obtain ⟨g', c', e, O⟩ := OwnB.of h hn
      cases e
      exact ⟨_, _, rfl, O.src, fun b o e => by cases e; exact O.base⟩
    · have h0 : n = 0 := by omega
      subst h0
      rw [List.length_eq_zero_iff.1 hl]
      exact ⟨_, _, rfl, ⟨⟨lies_nil _ _, rfl, hc, hm⟩, fun e => by cases e⟩, fun b o e => by cases e; exact hb⟩

/-- make([]byte, 0, n). -/
theorem make_bytes (n : Nat) (hn : n ≤ 1099511627776) (W : World) :
    (Instr.makeSlice 29 (.int .i64 0) (.int .i64 (n : Int))).run Try.prog W = .ok (.slice (some ⟨W.heap.size, 0, none⟩) 0 n) (W.alloc (.cells (madeCells #[.int .u8 0] n) 5)) := by
  obtain ⟨i0, hi, hz0, hz1, hz2⟩ := u8_info
  have hr := run_make (P := Try.prog) W 29 5 i0 (.int .u8 0) Try.underlying29 hi hz0 .i64 .i64 0 n (by omega) (by omega) (by rw [hz2]; omega) (by omega)
  simp only [hz1, Nat.mul_one] at hr
  exact hr

/-- append(v, src...): v a row of bytes of the call's own, the source whatever slice of bytes. -/
theorem wpList_append_src {ops : Array Oper} {rest : List Oper} {o : Oper} {a : Act} {Q : Exit → Act → World → Prop} {w : World} (hgd : o.guard = none) (s x : Operand)
    (ho : o.op = .call { callee := .builtin .append, args := #[s, x], argTypes := #[29, 29] })
    (base : Nat) (v : Value) (n : Nat) (r : List UInt8) (hs : a.eval s = v) (hown : w.ownsRow base 5 1 v n (bys r))
    (A : Option Addr) (m c : Nat) (l : List UInt8) (hx : a.eval x = .slice A m c) (hb : Src w A m c l) (hmax : n + m ≤ 1099511627776) (hbase : base ≤ w.heap.size)
    (h : ∀ v' w', w'.ownsRow base 5 1 v' (n + m) (bys (r ++ l)) → Below base w w' → wpList Try.prog ops Q rest (a.put o.dst v') w') : wpList Try.prog ops Q (o :: rest) a w := by
  obtain ⟨i0, hi, hz0, hz1, hz2⟩ := u8_info
  cases A with
  | none =>
    have hc := hb.none_ rfl
    have hm : m = 0 := by have := hb.cap; omega
    have hl : l = [] := List.length_eq_zero_iff.1 (by have := hb.len; omega)
    subst hc hm hl
    refine wpList_append_own_none hgd s x 29 ho base 5 i0 1 Try.underlying29 hi v n (bys r) hs hown hx ?_
    have := h v w (by simpa using hown) (Below.refl _ _)
    exact this
  | some ad =>
    refine wpList_append_own w hgd s x 29 ho base 5 i0 (.int .u8 0) 1 1 Try.underlying29 hi hz0 hz1 hz2 rfl (by decide) v n (bys r) hs hown ad m c (bys l) hx (by rw [bys_length, hb.len]; omega) ?_ ?_ (by unfold maxLen; omega) (by omega) hbase ?_
    · exact fun j u hu => Bytes.at_ ad hb.toBytes j u hu
    · exact fun u hu => bys_one hu
    · intro v' w' h1 h2 h3
      rw [← bys_append] at h1
      exact h v' w' h1 (Below.grown (Below.refl _ _) h2 hbase fun q hq => (hown.lt q hq).1)
end Go.Proofs.Ytfkfnmoilagahaa
