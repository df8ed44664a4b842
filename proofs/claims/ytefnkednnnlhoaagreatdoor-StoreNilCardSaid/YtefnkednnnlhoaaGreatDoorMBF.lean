/- Package store: fill. Conditions: those that each states. -/
import Derived.Test.YtefnkednnnlhoaaGreatDoorSrL
import Derived.Test.YtefnkednnnlhoaaGreatDoorMBB
import Derived.Test.YtefnkednnnlhoaaGreatDoorMAR
import Derived.Test.YtefnkednnnlhoaaGreatDoorMBD
namespace Go.Proofs.YtefnkednnnlhoaaGreatDoor.Sr
open Go.ChangeShapes Go.WideShapes Go.ChangeAt Go.RowKit Go.Deep Go.Shelf Fr Di Ke Rk
set_option linter.unusedVariables false
set_option linter.unusedSimpArgs false
attribute [local go_sem] Oper.semAt_some

/-- What grows while a file is filled: the texts' row, the file's rows, the texts themselves. -/
structure Fm where
  X : Option Addr
  cx : Nat
  Bk : Option Addr
  cb : Nat
  Pt : Option Addr
  cp : Nat
  pA : Nat → Option Addr
  pc : Nat → Nat
/-- A draft that is filled, in memory, from w on: q tells the parts' blocks apart. -/
structure FmAt (q : Nat → Nat) (w W : World) (gd gA a : Nat) (v0 v1 v2 : Value) (T : Option Addr) (ct : Nat) (ts : List Int) (cs0 : Array Value) (nx : Nat) (xs : Nat → List UInt8) (bl : List Int) (ps : List (Nat × Nat)) (m : Fm) : Prop where
  dr : Blk W gd 69 #[v0, v1, v2, .slice T ts.length ct, .slice m.X nx m.cx]
  qd : q gd = 1
  fl : Blk W gA 58 ((cs0.setIfInBounds (a * 7 + 6) (.slice m.Pt ps.length m.cp)).setIfInBounds (a * 7 + 5) (.slice m.Bk bl.length m.cb))
  qa : q gA = 2
  tk : RowG W 1 T ts.length ct (In.vi ts)
  qt : ∀ b, inB T b → q b = 7 ∧ b < W.heap.size
  tx : RowW W 31 1 m.X nx m.cx (tv m.pA m.pc xs nx)
  qx : ∀ b, inB m.X b → q b = 3 ∧ w.heap.size ≤ b
  sr : ∀ i, i < nx → Src W (m.pA i) (xs i).length (m.pc i) (xs i)
  qs : ∀ i, i < nx → ∀ b o, m.pA i = some ⟨b, o, none⟩ → q b = 6 ∧ w.heap.size ≤ b ∧ b < W.heap.size
  bk : RowW W 3 1 m.Bk bl.length m.cb (In.vi bl)
  qb : ∀ b, inB m.Bk b → q b = 4 ∧ w.heap.size ≤ b
  pt : RowW W 61 1 m.Pt ps.length m.cp (In.vp ps)
  qp : ∀ b, inB m.Pt b → q b = 5 ∧ w.heap.size ≤ b
  ch : Chg w W (fun j => j = gd ∨ j = gA)
  sz : w.heap.size ≤ W.heap.size
section
variable {q q' : Nat → Nat} {w W W' : World} {gd gA a ct nx : Nat} {v0 v1 v2 : Value} {T : Option Addr} {ts : List Int} {cs0 : Array Value} {xs : Nat → List UInt8} {bl : List Int} {ps : List (Nat × Nat)} {m : Fm} {S : Nat → Prop}
/-- Blocks without a part turn, beyond those that were there. -/
theorem FmAt.chg (h : FmAt q w W gd gA a v0 v1 v2 T ct ts cs0 nx xs bl ps m) (k : Chg W W' S) (hS : ∀ j, S j → j < W.heap.size → q j = 0 ∧ w.heap.size ≤ j) : FmAt q w W' gd gA a v0 v1 v2 T ct ts cs0 nx xs bl ps m where
  dr := h.dr.chg k (fun s => by have := (hS _ s h.dr.lt).1; rw [h.qd] at this; cases this)
  qd := h.qd
  fl := h.fl.chg k (fun s => by have := (hS _ s h.fl.lt).1; rw [h.qa] at this; cases this)
  qa := h.qa
  tk := h.tk.chg k (fun x e s => by obtain ⟨h1, h2⟩ := h.qt x.block (by rw [e]; simp [inB]); have := (hS _ s h2).1; omega)
  qt := fun b e => ⟨(h.qt b e).1, Nat.lt_of_lt_of_le (h.qt b e).2 k.size⟩
  tx := h.tx.chg k (fun b e s => by have h1 := (h.qx b e).1; have := (hS _ s (h.tx.lt b e)).1; omega)
  qx := h.qx
  sr := fun i hi => In.src_chg (h.sr i hi) k (fun _ b o e s => by obtain ⟨h1, _, h3⟩ := h.qs i hi b o e; have := (hS _ s h3).1; omega)
  qs := fun i hi b o e => ⟨(h.qs i hi b o e).1, (h.qs i hi b o e).2.1, Nat.lt_of_lt_of_le (h.qs i hi b o e).2.2 k.size⟩
  bk := h.bk.chg k (fun b e s => by have h1 := (h.qb b e).1; have := (hS _ s (h.bk.lt b e)).1; omega)
  qb := h.qb
  pt := h.pt.chg k (fun b e s => by have h1 := (h.qp b e).1; have := (hS _ s (h.pt.lt b e)).1; omega)
  qp := h.qp
  ch := ⟨k.os.trans h.ch.os, k.tape.trans h.ch.tape, k.output.trans h.ch.output, Nat.le_trans h.sz k.size, fun i hi hn => (k.block i (Nat.lt_of_lt_of_le hi h.sz) (fun s => by have := (hS _ s (Nat.lt_of_lt_of_le hi h.sz)).2; omega)).trans (h.ch.block i hi hn)⟩
  sz := Nat.le_trans h.sz k.size
/-- Blocks that are not there yet may be told of anew. -/
theorem FmAt.relab (h : FmAt q w W gd gA a v0 v1 v2 T ct ts cs0 nx xs bl ps m) (hq : ∀ b, b < W.heap.size → q' b = q b) : FmAt q' w W gd gA a v0 v1 v2 T ct ts cs0 nx xs bl ps m where
  dr := h.dr
  qd := (hq _ h.dr.lt).trans h.qd
  fl := h.fl
  qa := (hq _ h.fl.lt).trans h.qa
  tk := h.tk
  qt := fun b e => ⟨(hq _ (h.qt b e).2).trans (h.qt b e).1, (h.qt b e).2⟩
  tx := h.tx
  qx := fun b e => ⟨(hq _ (h.tx.lt b e)).trans (h.qx b e).1, (h.qx b e).2⟩
  sr := h.sr
  qs := fun i hi b o e => ⟨(hq _ (h.qs i hi b o e).2.2).trans (h.qs i hi b o e).1, (h.qs i hi b o e).2⟩
  bk := h.bk
  qb := fun b e => ⟨(hq _ (h.bk.lt b e)).trans (h.qb b e).1, (h.qb b e).2⟩
  pt := h.pt
  qp := fun b e => ⟨(hq _ (h.pt.lt b e)).trans (h.qp b e).1, (h.qp b e).2⟩
  ch := h.ch
  sz := h.sz
/-- lay's step: a text more. -/
theorem FmAt.lay (h : FmAt q w W gd gA a v0 v1 v2 T ct ts cs0 nx xs bl ps m) {At : Option Addr} {c : Nat} {x : List UInt8} (sx : Src W At x.length c x) (hx : xs nx = x) (ha : ∀ b o, At = some ⟨b, o, none⟩ → q b = 6 ∧ w.heap.size ≤ b ∧ b < W.heap.size)
    {X' : Option Addr} {cx' : Nat} (hd : Blk W' gd 69 #[v0, v1, v2, .slice T ts.length ct, .slice X' (nx + 1) cx']) (hr : RowW W' 31 1 X' (nx + 1) cx' (tv m.pA m.pc xs nx ++ [.slice At x.length c])) (hn : ∀ b, inB X' b → inB m.X b ∨ W.heap.size ≤ b) (k : Chg W W' (fun j => j = gd ∨ inB m.X j)) :
    FmAt (fun j => if W.heap.size ≤ j then 3 else q j) w W' gd gA a v0 v1 v2 T ct ts cs0 (nx + 1) xs bl ps { m with X := X', cx := cx', pA := fun i => if i = nx then At else m.pA i, pc := fun i => if i = nx then c else m.pc i } := by
  have Q : ∀ b, b < W.heap.size → (fun j => if W.heap.size ≤ j then 3 else q j) b = q b := fun b hb => by show (if _ then _ else _) = _; rw [if_neg (by omega)]
  have hq3 : ∀ j, (j = gd ∨ inB m.X j) → q j = 1 ∨ q j = 3 := fun j s => s.elim (fun e => .inl (by rw [e]; exact h.qd)) (fun e => .inr (h.qx j e).1)
  have etv : tv (fun i => if i = nx then At else m.pA i) (fun i => if i = nx then c else m.pc i) xs (nx + 1) = tv m.pA m.pc xs nx ++ [.slice At x.length c] := by
    unfold tv
    rw [List.range_succ, List.map_append]
    congr 1
    · refine List.map_congr_left fun i hi => ?_
      have := List.mem_range.1 hi
      dsimp only
      rw [if_neg (by omega), if_neg (by omega)]
    · simp [hx]
  exact {
    dr := hd
    qd := (Q _ h.dr.lt).trans h.qd
    fl := h.fl.chg k (fun s => by have := hq3 _ s; have := h.qa; omega)
    qa := (Q _ h.fl.lt).trans h.qa
    tk := h.tk.chg k (fun y e s => by have h1 := (h.qt y.block (by rw [e]; simp [inB])).1; have := hq3 _ s; omega)
    qt := fun b e => ⟨(Q _ (h.qt b e).2).trans (h.qt b e).1, Nat.lt_of_lt_of_le (h.qt b e).2 k.size⟩
    tx := by rw [etv]; exact hr
    qx := fun b e => by
      rcases hn b e with h1 | h1
      · exact ⟨(Q _ (h.tx.lt b h1)).trans (h.qx b h1).1, (h.qx b h1).2⟩
      · exact ⟨by show (if _ then _ else _) = _; rw [if_pos h1], Nat.le_trans h.sz h1⟩
    sr := fun i hi => by
      by_cases e : i = nx
      · subst e
        dsimp only
        rw [if_pos rfl, if_pos rfl, hx]
        exact In.src_chg sx k (fun _ b o e s => by have h1 := (ha b o e).1; have := hq3 _ s; omega)
      · dsimp only
        rw [if_neg e, if_neg e]
        exact In.src_chg (h.sr i (by omega)) k (fun _ b o e s => by have h1 := (h.qs i (by omega) b o e).1; have := hq3 _ s; omega)
    qs := fun i hi b o e => by
      by_cases e2 : i = nx
      · dsimp only at e
        rw [if_pos e2] at e
        obtain ⟨h1, h2, h3⟩ := ha b o e
        exact ⟨(Q _ h3).trans h1, h2, Nat.lt_of_lt_of_le h3 k.size⟩
      · dsimp only at e
        rw [if_neg e2] at e
        obtain ⟨h1, h2, h3⟩ := h.qs i (by omega) b o e
        exact ⟨(Q _ h3).trans h1, h2, Nat.lt_of_lt_of_le h3 k.size⟩
    bk := h.bk.chg k (fun b e s => by have h1 := (h.qb b e).1; have := hq3 _ s; omega)
    qb := fun b e => ⟨(Q _ (h.bk.lt b e)).trans (h.qb b e).1, (h.qb b e).2⟩
    pt := h.pt.chg k (fun b e s => by have h1 := (h.qp b e).1; have := hq3 _ s; omega)
    qp := fun b e => ⟨(Q _ (h.pt.lt b e)).trans (h.qp b e).1, (h.qp b e).2⟩
    ch := ⟨k.os.trans h.ch.os, k.tape.trans h.ch.tape, k.output.trans h.ch.output, Nat.le_trans h.sz k.size, fun i hi hn2 => (k.block i (Nat.lt_of_lt_of_le hi h.sz) (fun s => s.elim (fun e => hn2 (.inl e)) (fun e => by have := (h.qx i e).2; omega))).trans (h.ch.block i hi hn2)⟩
    sz := Nat.le_trans h.sz k.size }
/-- A step of the file's rows. -/
theorem FmAt.part (h : FmAt q w W gd gA a v0 v1 v2 T ct ts cs0 nx xs bl ps m) {W1 : World} {x : Nat × Nat} {Y : Option Addr} {cy : Nat} (hr : RowW W1 61 1 Y (ps.length + 1) cy (In.vp (ps ++ [x]))) (hn : ∀ b, inB Y b → inB m.Pt b ∨ W.heap.size ≤ b) (k : Chg W W1 (fun j => inB m.Pt j)) (hY : ¬ inB Y gA) :
    FmAt (fun j => if W.heap.size ≤ j then 5 else q j) w (W1.setCell ⟨gA, a * 7 + 6, none⟩ (.slice Y (ps.length + 1) cy)) gd gA a v0 v1 v2 T ct ts cs0 nx xs (bl) (ps ++ [x]) { m with Pt := Y, cp := cy } := by
  have Q : ∀ b, b < W.heap.size → (fun j => if W.heap.size ≤ j then 5 else q j) b = q b := fun b hb => by show (if _ then _ else _) = _; rw [if_neg (by omega)]
  have k0 : Chg W1 (W1.setCell ⟨gA, a * 7 + 6, none⟩ (.slice Y (ps.length + 1) cy)) (fun j => j = gA) := Chg.set W1 (a * 7 + 6) _ rfl
  have k2 : Chg W (W1.setCell ⟨gA, a * 7 + 6, none⟩ (.slice Y (ps.length + 1) cy)) (fun j => j = gA ∨ inB m.Pt j) := (k.weak (fun _ s => .inr s)).trans (k0.weak (fun _ s => .inl s))
  have hq3 : ∀ j, (j = gA ∨ inB m.Pt j) → q j = 2 ∨ q j = 5 := fun j s => s.elim (fun e => .inl (by rw [e]; exact h.qa)) (fun e => .inr (h.qp j e).1)
  have hfl := (h.fl.chg k (fun s => by have := (h.qp _ s).1; have := h.qa; omega)).put (a * 7 + 6) (.slice Y (ps.length + 1) cy)
  rw [Array.setIfInBounds_comm _ _ (by omega), Array.setIfInBounds_setIfInBounds] at hfl
  have hr2 := hr.chg k0 (fun b e s => hY (by rw [← s]; exact e))
  exact {
    dr := h.dr.chg k2 (fun s => by have := hq3 _ s; have := h.qd; omega)
    qd := (Q _ h.dr.lt).trans h.qd
    fl := by rw [List.length_append]; exact hfl
    qa := (Q _ h.fl.lt).trans h.qa
    tk := h.tk.chg k2 (fun y e s => by have h1 := (h.qt y.block (by rw [e]; simp [inB])).1; have := hq3 _ s; omega)
    qt := fun b e => ⟨(Q _ (h.qt b e).2).trans (h.qt b e).1, Nat.lt_of_lt_of_le (h.qt b e).2 k2.size⟩
    tx := h.tx.chg k2 (fun b e s => by have h1 := (h.qx b e).1; have := hq3 _ s; omega)
    qx := fun b e => ⟨(Q _ (h.tx.lt b e)).trans (h.qx b e).1, (h.qx b e).2⟩
    sr := fun i hi => In.src_chg (h.sr i hi) k2 (fun _ b o e s => by have h1 := (h.qs i hi b o e).1; have := hq3 _ s; omega)
    qs := fun i hi b o e => ⟨(Q _ (h.qs i hi b o e).2.2).trans (h.qs i hi b o e).1, (h.qs i hi b o e).2.1, Nat.lt_of_lt_of_le (h.qs i hi b o e).2.2 k2.size⟩
    bk := h.bk.chg k2 (fun b e s => by have h1 := (h.qb b e).1; have := hq3 _ s; omega)
    qb := fun b e => ⟨(Q _ (h.bk.lt b e)).trans (h.qb b e).1, (h.qb b e).2⟩
    pt := by rw [List.length_append]; exact hr2
    qp := fun b e => by
      rcases hn b e with h1 | h1
      · exact ⟨(Q _ (h.pt.lt b h1)).trans (h.qp b h1).1, (h.qp b h1).2⟩
      · exact ⟨by show (if _ then _ else _) = _; rw [if_pos h1], Nat.le_trans h.sz h1⟩
    ch := ⟨k2.os.trans h.ch.os, k2.tape.trans h.ch.tape, k2.output.trans h.ch.output, Nat.le_trans h.sz k2.size, fun i hi hn2 => (k2.block i (Nat.lt_of_lt_of_le hi h.sz) (fun s => s.elim (fun e => hn2 (.inr e)) (fun e => by have := (h.qp i e).2; omega))).trans (h.ch.block i hi hn2)⟩
    sz := Nat.le_trans h.sz k2.size }
/-- A step of the file's rows. -/
theorem FmAt.block (h : FmAt q w W gd gA a v0 v1 v2 T ct ts cs0 nx xs bl ps m) {W1 : World} {x : Int} {Y : Option Addr} {cy : Nat} (hr : RowW W1 3 1 Y (bl.length + 1) cy (In.vi (bl ++ [x]))) (hn : ∀ b, inB Y b → inB m.Bk b ∨ W.heap.size ≤ b) (k : Chg W W1 (fun j => inB m.Bk j)) (hY : ¬ inB Y gA) :
    FmAt (fun j => if W.heap.size ≤ j then 4 else q j) w (W1.setCell ⟨gA, a * 7 + 5, none⟩ (.slice Y (bl.length + 1) cy)) gd gA a v0 v1 v2 T ct ts cs0 nx xs (bl ++ [x]) (ps) { m with Bk := Y, cb := cy } := by
  have Q : ∀ b, b < W.heap.size → (fun j => if W.heap.size ≤ j then 4 else q j) b = q b := fun b hb => by show (if _ then _ else _) = _; rw [if_neg (by omega)]
  have k0 : Chg W1 (W1.setCell ⟨gA, a * 7 + 5, none⟩ (.slice Y (bl.length + 1) cy)) (fun j => j = gA) := Chg.set W1 (a * 7 + 5) _ rfl
  have k2 : Chg W (W1.setCell ⟨gA, a * 7 + 5, none⟩ (.slice Y (bl.length + 1) cy)) (fun j => j = gA ∨ inB m.Bk j) := (k.weak (fun _ s => .inr s)).trans (k0.weak (fun _ s => .inl s))
  have hq3 : ∀ j, (j = gA ∨ inB m.Bk j) → q j = 2 ∨ q j = 4 := fun j s => s.elim (fun e => .inl (by rw [e]; exact h.qa)) (fun e => .inr (h.qb j e).1)
  have hfl := (h.fl.chg k (fun s => by have := (h.qb _ s).1; have := h.qa; omega)).put (a * 7 + 5) (.slice Y (bl.length + 1) cy)
  rw [Array.setIfInBounds_setIfInBounds] at hfl
  have hr2 := hr.chg k0 (fun b e s => hY (by rw [← s]; exact e))
  exact {
    dr := h.dr.chg k2 (fun s => by have := hq3 _ s; have := h.qd; omega)
    qd := (Q _ h.dr.lt).trans h.qd
    fl := by rw [List.length_append]; exact hfl
    qa := (Q _ h.fl.lt).trans h.qa
    tk := h.tk.chg k2 (fun y e s => by have h1 := (h.qt y.block (by rw [e]; simp [inB])).1; have := hq3 _ s; omega)
    qt := fun b e => ⟨(Q _ (h.qt b e).2).trans (h.qt b e).1, Nat.lt_of_lt_of_le (h.qt b e).2 k2.size⟩
    tx := h.tx.chg k2 (fun b e s => by have h1 := (h.qx b e).1; have := hq3 _ s; omega)
    qx := fun b e => ⟨(Q _ (h.tx.lt b e)).trans (h.qx b e).1, (h.qx b e).2⟩
    sr := fun i hi => In.src_chg (h.sr i hi) k2 (fun _ b o e s => by have h1 := (h.qs i hi b o e).1; have := hq3 _ s; omega)
    qs := fun i hi b o e => ⟨(Q _ (h.qs i hi b o e).2.2).trans (h.qs i hi b o e).1, (h.qs i hi b o e).2.1, Nat.lt_of_lt_of_le (h.qs i hi b o e).2.2 k2.size⟩
    bk := by rw [List.length_append]; exact hr2
    qb := fun b e => by
      rcases hn b e with h1 | h1
      · exact ⟨(Q _ (h.bk.lt b h1)).trans (h.qb b h1).1, (h.qb b h1).2⟩
      · exact ⟨by show (if _ then _ else _) = _; rw [if_pos h1], Nat.le_trans h.sz h1⟩
    pt := h.pt.chg k2 (fun b e s => by have h1 := (h.qp b e).1; have := hq3 _ s; omega)
    qp := fun b e => ⟨(Q _ (h.pt.lt b e)).trans (h.qp b e).1, (h.qp b e).2⟩
    ch := ⟨k2.os.trans h.ch.os, k2.tape.trans h.ch.tape, k2.output.trans h.ch.output, Nat.le_trans h.sz k2.size, fun i hi hn2 => (k2.block i (Nat.lt_of_lt_of_le hi h.sz) (fun s => s.elim (fun e => hn2 (.inr e)) (fun e => by have := (h.qb i e).2; omega))).trans (h.ch.block i hi hn2)⟩
    sz := Nat.le_trans h.sz k2.size }
end

/-- A piece of bytes. -/
theorem src_sub {W : World} {A : Option Addr} {n c : Nat} {l : List UInt8} (h : Src W A n c l) (i e : Nat) (he : i + e ≤ n) (hp : 0 < e) : ∃ b o, A = some ⟨b, o, none⟩ ∧ b < W.heap.size ∧ A.map (·.add i) = some ⟨b, o + i, none⟩ ∧ Src W (some ⟨b, o + i, none⟩) e e ((l.drop i).take e) := by
  have hl := h.len
  obtain ⟨b, o, rfl, hb, hc⟩ := h.lies (by rw [bys_length]; omega)
  refine ⟨b, o, rfl, hb, by simp [Addr.add], ⟨⟨fun _ => ⟨b, o + i, rfl, hb, fun j hj => ?_⟩, by rw [List.length_take, List.length_drop]; omega, Nat.le_refl _, by have := h.cap; have := h.max; omega⟩, fun e => by cases e⟩⟩
  rw [bys_length, List.length_take, List.length_drop] at hj
  have := hc (i + j) (by rw [bys_length]; omega)
  rw [show o + i + j = o + (i + j) by omega, this]
  simp [bys]

end Go.Proofs.YtefnkednnnlhoaaGreatDoor.Sr

/- Package store: fill: further steps of a draft that is filled; the files' cells. Conditions: those that each states. -/
namespace Go.Proofs.YtefnkednnnlhoaaGreatDoor.Sr
open Go.ChangeShapes Go.WideShapes Go.ChangeAt Go.RowKit Go.Deep Go.Shelf Fr Di Ke Rk Fl
set_option linter.unusedVariables false
set_option linter.unusedSimpArgs false
section
variable {q q' : Nat → Nat} {w W W' : World} {gd gA a ct nx : Nat} {v0 v1 v2 : Value} {T : Option Addr} {ts : List Int} {cs0 : Array Value} {xs : Nat → List UInt8} {bl : List Int} {ps : List (Nat × Nat)} {m : Fm} {S : Nat → Prop}
/-- Blocks without a part, and those with the label 8, turn, beyond those that were there. -/
theorem FmAt.chg8 (h : FmAt q w W gd gA a v0 v1 v2 T ct ts cs0 nx xs bl ps m) (k : Chg W W' S) (hS : ∀ j, S j → j < W.heap.size → (q j = 0 ∨ q j = 8) ∧ w.heap.size ≤ j) : FmAt q w W' gd gA a v0 v1 v2 T ct ts cs0 nx xs bl ps m where
  dr := h.dr.chg k (fun s => by have := (hS _ s h.dr.lt).1; have := h.qd; omega)
  qd := h.qd
  fl := h.fl.chg k (fun s => by have := (hS _ s h.fl.lt).1; have := h.qa; omega)
  qa := h.qa
  tk := h.tk.chg k (fun x e s => by obtain ⟨h1, h2⟩ := h.qt x.block (by rw [e]; simp [inB]); have := (hS _ s h2).1; omega)
  qt := fun b e => ⟨(h.qt b e).1, Nat.lt_of_lt_of_le (h.qt b e).2 k.size⟩
  tx := h.tx.chg k (fun b e s => by have h1 := (h.qx b e).1; have := (hS _ s (h.tx.lt b e)).1; omega)
  qx := h.qx
  sr := fun i hi => In.src_chg (h.sr i hi) k (fun _ b o e s => by obtain ⟨h1, _, h3⟩ := h.qs i hi b o e; have := (hS _ s h3).1; omega)
  qs := fun i hi b o e => ⟨(h.qs i hi b o e).1, (h.qs i hi b o e).2.1, Nat.lt_of_lt_of_le (h.qs i hi b o e).2.2 k.size⟩
  bk := h.bk.chg k (fun b e s => by have h1 := (h.qb b e).1; have := (hS _ s (h.bk.lt b e)).1; omega)
  qb := h.qb
  pt := h.pt.chg k (fun b e s => by have h1 := (h.qp b e).1; have := (hS _ s (h.pt.lt b e)).1; omega)
  qp := h.qp
  ch := ⟨k.os.trans h.ch.os, k.tape.trans h.ch.tape, k.output.trans h.ch.output, Nat.le_trans h.sz k.size, fun i hi hn => (k.block i (Nat.lt_of_lt_of_le hi h.sz) (fun s => by have := (hS _ s (Nat.lt_of_lt_of_le hi h.sz)).2; omega)).trans (h.ch.block i hi hn)⟩
  sz := Nat.le_trans h.sz k.size
/-- The draft's own cells, and the files', turn. -/
theorem FmAt.turn (h : FmAt q w W gd gA a v0 v1 v2 T ct ts cs0 nx xs bl ps m) (k : Chg W W' (fun j => j = gd ∨ j = gA)) {v1' : Value} {cs1 : Array Value} (hd : Blk W' gd 69 #[v0, v1', v2, .slice T ts.length ct, .slice m.X nx m.cx])
    (hf : Blk W' gA 58 ((cs1.setIfInBounds (a * 7 + 6) (.slice m.Pt ps.length m.cp)).setIfInBounds (a * 7 + 5) (.slice m.Bk bl.length m.cb))) : FmAt q w W' gd gA a v0 v1' v2 T ct ts cs1 nx xs bl ps m := by
  have hq : ∀ j, (j = gd ∨ j = gA) → q j = 1 ∨ q j = 2 := fun j s => s.elim (fun e => .inl (by rw [e]; exact h.qd)) (fun e => .inr (by rw [e]; exact h.qa))
  exact {
    dr := hd
    qd := h.qd
    fl := hf
    qa := h.qa
    tk := h.tk.chg k (fun x e s => by have h1 := (h.qt x.block (by rw [e]; simp [inB])).1; have := hq _ s; omega)
    qt := fun b e => ⟨(h.qt b e).1, Nat.lt_of_lt_of_le (h.qt b e).2 k.size⟩
    tx := h.tx.chg k (fun b e s => by have h1 := (h.qx b e).1; have := hq _ s; omega)
    qx := h.qx
    sr := fun i hi => In.src_chg (h.sr i hi) k (fun _ b o e s => by have h1 := (h.qs i hi b o e).1; have := hq _ s; omega)
    qs := fun i hi b o e => ⟨(h.qs i hi b o e).1, (h.qs i hi b o e).2.1, Nat.lt_of_lt_of_le (h.qs i hi b o e).2.2 k.size⟩
    bk := h.bk.chg k (fun b e s => by have h1 := (h.qb b e).1; have := hq _ s; omega)
    qb := h.qb
    pt := h.pt.chg k (fun b e s => by have h1 := (h.qp b e).1; have := hq _ s; omega)
    qp := h.qp
    ch := h.ch.trans k
    sz := Nat.le_trans h.sz k.size }
/-- The directories' slice is stored. -/
theorem FmAt.dir (h : FmAt q w W gd gA a v0 v1 v2 T ct ts cs0 nx xs bl ps m) (u : Value) : FmAt q w (W.setCell ⟨gd, 1, none⟩ u) gd gA a v0 u v2 T ct ts cs0 nx xs bl ps m :=
  h.turn ((Chg.set W 1 u (g := gd) (S := fun j => j = gd) rfl).weak fun _ s => .inl s) (h.dr.put 1 u) (h.fl.chg (Chg.set W 1 u (g := gd) (S := fun j => j = gd) rfl) (fun s => by have := h.qa; have := h.qd; rw [s] at *; omega))
/-- The file's block is stored. -/
theorem FmAt.ino (h : FmAt q w W gd gA a v0 v1 v2 T ct ts cs0 nx xs bl ps m) (u : Value) : FmAt q w (W.setCell ⟨gA, a * 7 + 1, none⟩ u) gd gA a v0 v1 v2 T ct ts (cs0.setIfInBounds (a * 7 + 1) u) nx xs bl ps m := by
  refine h.turn ((Chg.set W (a * 7 + 1) u (g := gA) (S := fun j => j = gA) rfl).weak fun _ s => .inr s) (h.dr.chg (Chg.set W (a * 7 + 1) u (g := gA) (S := fun j => j = gA) rfl) (fun s => by have := h.qa; have := h.qd; rw [s] at *; omega)) ?_
  have := h.fl.put (a * 7 + 1) u
  rw [Array.setIfInBounds_comm (i := a * 7 + 5) (j := a * 7 + 1) _ _ (by omega), Array.setIfInBounds_comm (i := a * 7 + 6) (j := a * 7 + 1) _ _ (by omega)] at this
  exact this
end

/-- The file that is filled: its block, and its rows. -/
def Lf.fill (x : Lf) (ino : Int) (bl : List Int) (ps : List (Nat × Nat)) (m : Fm) : Lf := { x with ino := ino, f := { x.f with blocks := bl, parts := ps }, A := m.Bk, c := m.cb, A' := m.Pt, c' := m.cp }
theorem vl_cons (x : Lf) (l : List Lf) : vl (x :: l) = x.vals ++ vl l := rfl
theorem vals_length (x : Lf) : x.vals.length = 7 := rfl
/-- The cells of the files where one is filled. -/
theorem vl_fill (ino : Int) (bl : List Int) (ps : List (Nat × Nat)) (m : Fm) : ∀ (L : List Lf) (sp : List Value) (a : Nat) (h : a < L.length),
    (((vl L ++ sp).set (a * 7 + 1) (.int .i64 ino)).set (a * 7 + 6) (.slice m.Pt ps.length m.cp)).set (a * 7 + 5) (.slice m.Bk bl.length m.cb) = vl (L.set a (L[a].fill ino bl ps m)) ++ sp
  | x :: L, sp, 0, _ => by
    simp only [vl_cons, List.set_cons_zero, List.getElem_cons_zero, Nat.zero_mul, Nat.zero_add, List.append_assoc]
    rfl
  | x :: L, sp, a + 1, h => by
    have ih := vl_fill ino bl ps m L sp a (by simpa using h)
    simp only [vl_cons, List.set_cons_succ, List.getElem_cons_succ, List.append_assoc]
    rw [← ih]
    have e : ∀ k, (a + 1) * 7 + k = x.vals.length + (a * 7 + k) := fun k => by rw [vals_length]; omega
    have s : ∀ (l : List Value) (k : Nat) (u : Value), (x.vals ++ l).set ((a + 1) * 7 + k) u = x.vals ++ l.set (a * 7 + k) u := fun l k u => by
      rw [e, List.set_append_right _ _ (by omega), Nat.add_sub_cancel_left]
    rw [s, s, s]
theorem vl_take : ∀ (L : List Lf) (k : Nat), (vl L).take (k * 7) = vl (L.take k)
  | [], k => by simp [vl]
  | x :: L, 0 => by simp [vl]
  | x :: L, k + 1 => by
    rw [vl_cons, List.take_succ_cons, vl_cons, show (k + 1) * 7 = x.vals.length + k * 7 by rw [vals_length]; omega, List.take_length_add_append, vl_take L k]
theorem vl_drop : ∀ (L : List Lf) (k : Nat), (vl L).drop (k * 7) = vl (L.drop k)
  | [], k => by simp [vl]
  | x :: L, 0 => by simp [vl]
  | x :: L, k + 1 => by
    rw [vl_cons, List.drop_succ_cons, show (k + 1) * 7 = x.vals.length + k * 7 by rw [vals_length]; omega, List.drop_length_add_append, vl_drop L k]
/-- Files in a block that is known whole, from file number i on. -/
theorem rowG_files {W : World} {g : Nat} {t : TypeId} {L : List Lf} {sp : List Value} (h : Blk W g t (vl L ++ sp).toArray) (i n : Nat) (hn : i + n ≤ L.length) (hL : L.length ≤ 1000) : RowG W 7 (some ⟨g, i * 7, none⟩) n n (vl ((L.drop i).take n)) := by
  refine ⟨by rw [vl_length, List.length_take, List.length_drop]; omega, Nat.le_refl _, by unfold maxLen; omega, fun e => (by cases e), fun ad e hp => ?_⟩
  cases e
  refine ⟨rfl, h.lt, fun j hj => ?_⟩
  rw [vl_length, List.length_take, List.length_drop] at hj
  have hj2 : j < (vl ((L.drop i).take n)).length := by rw [vl_length, List.length_take, List.length_drop]; exact hj
  show W.cell? ⟨g, i * 7 + j, none⟩ = _
  rw [h.cell, List.getElem?_toArray, List.getElem?_append_left (by rw [vl_length]; omega), ← List.getElem?_eq_getElem hj2, ← vl_take, ← vl_drop, List.getElem?_take, if_pos (by omega), List.getElem?_drop]
/-- The file's own cells, as a struct. -/
theorem FmAt.file {q : Nat → Nat} {w W : World} {gd gA a ct nx : Nat} {v0 v1 v2 : Value} {T : Option Addr} {ts : List Int} {L : List Lf} {sp : List Value} {xs : Nat → List UInt8} {bl : List Int} {ps : List (Nat × Nat)} {m : Fm} (h : FmAt q w W gd gA a v0 v1 v2 T ct ts (vl L ++ sp).toArray nx xs bl ps m) (ha : a < L.length) :
    W.rangeAt gA (a * 7 + 2) [.int .i64 L[a].f.ver, .int .i64 L[a].f.mtime, .int .i64 L[a].f.len, .slice m.Bk bl.length m.cb, .slice m.Pt ps.length m.cp] := by
  have hz : a * 7 + 7 ≤ (vl L ++ sp).length := by rw [List.length_append, vl_length]; omega
  have g : ∀ k, k < 7 → (vl L ++ sp)[a * 7 + k]? = (L[a].vals)[k]? := fun k hk => by
    rw [List.getElem?_append_left (by rw [vl_length]; omega)]
    exact vl_get L a k ha hk
  have c : ∀ k, k < 5 → W.cell? ⟨gA, a * 7 + k, none⟩ = (L[a].vals)[k]? := fun k hk => by
    rw [h.fl.cell, Array.getElem?_setIfInBounds, if_neg (by omega), Array.getElem?_setIfInBounds, if_neg (by omega), List.getElem?_toArray, g k (by omega)]
  intro j u hj
  match j, hj with
  | 0, hj => cases hj; exact c 2 (by decide)
  | 1, hj => cases hj; exact c 3 (by decide)
  | 2, hj => cases hj; exact c 4 (by decide)
  | 3, hj =>
    cases hj
    show W.cell? ⟨gA, a * 7 + 2 + 3, none⟩ = _
    rw [show a * 7 + 2 + 3 = a * 7 + 5 by omega, h.fl.cell, Array.getElem?_setIfInBounds, if_pos rfl, if_pos (by simp; simp at hz; omega)]
  | 4, hj =>
    cases hj
    show W.cell? ⟨gA, a * 7 + 2 + 4, none⟩ = _
    rw [show a * 7 + 2 + 4 = a * 7 + 6 by omega, h.fl.cell, Array.getElem?_setIfInBounds, if_neg (by omega), Array.getElem?_setIfInBounds, if_pos rfl, if_pos (by simp; simp at hz; omega)]
theorem FmAt.files {q : Nat → Nat} {w W : World} {gd gA a ct nx : Nat} {v0 v1 v2 : Value} {T : Option Addr} {ts : List Int} {L : List Lf} {sp : List Value} {xs : Nat → List UInt8} {bl : List Int} {ps : List (Nat × Nat)} {m : Fm} {v : Int} (h : FmAt q w W gd gA a v0 v1 v2 T ct ts ((vl L ++ sp).toArray.setIfInBounds (a * 7 + 1) (.int .i64 v)) nx xs bl ps m) (ha : a < L.length) :
    Blk W gA 58 (vl (L.set a (L[a].fill v bl ps m)) ++ sp).toArray := by
  have := h.fl
  rw [List.setIfInBounds_toArray, List.setIfInBounds_toArray, List.setIfInBounds_toArray, vl_fill v bl ps m L sp a ha] at this
  exact this
theorem ents_fill (L : List Lf) (a : Nat) (ha : a < L.length) (v : Int) (bl : List Int) (ps : List (Nat × Nat)) (m : Fm) : ents (L.set a (L[a].fill v bl ps m)) = (ents L).set a ⟨L[a].name, v⟩ := by unfold ents; rw [List.map_set]; rfl
theorem ents_part (L : List Lf) (i n : Nat) : ents ((L.drop i).take n) = ((ents L).drop i).take n := by unfold ents; rw [List.map_take, List.map_drop]
end Go.Proofs.YtefnkednnnlhoaaGreatDoor.Sr
