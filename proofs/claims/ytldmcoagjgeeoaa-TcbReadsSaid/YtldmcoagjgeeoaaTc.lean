/- Package tcb: a connection in plain words and in memory. Conditions: those that each states. -/
import Derived.Test.YtldmcoagjgeeoaaBase
import Derived.Test.YtldmcoagjgeeoaaApp
import Derived.Test.YtldmcoagjgeeoaaSto
import Derived.Test.YtldmcoagjgeeoaaRv
import Derived.Test.YtldmcoagjgeeoaaRaM
import Derived.Test.YtldmcoagjgeeoaaRt
import Derived.Test.YtldmcoagjgeeoaaSq
namespace Go.Proofs.Ytldmcoagjgeeoaa.Tc
open Go.ChangeShapes Go.WideShapes Go.ChangeAt Go.RowKit Go.Deep Rk Rv
set_option linter.unusedVariables false
set_option linter.unusedSimpArgs false

/-- A connection in plain words. -/
structure TC where
  st : Int
  own : Int
  peer : Int
  una : Int
  nxt : Int
  en : Int
  win : Int
  mss : Int
  om : Int
  shut : Bool
  room : Int
  done : Bool
  fin : Int
  tm : Int
  tr : Int
  du : Int
  timed : Int
  took : Int
  due : Int
  rest : Int
  N : Nat
  xs : Ra.Bs
  c : Rt.Clk
/-- Where it lies. -/
structure Pl where
  g : Nat
  gt : Nat
  gm : Nat
  gb : Nat
  gc : Nat
  R : Nat
def Pl.In (P : Pl) (k : Nat) : Prop := k = P.g ∨ k = P.gt ∨ k = P.gm ∨ k = P.gb ∨ k = P.gc
def vals (P : Pl) (T : TC) : Array Value :=
  #[.int .i64 T.st, .int .u32 T.own, .int .u32 T.peer, .int .i64 T.una, .int .i64 T.nxt, .int .i64 T.en, .int .i64 T.win, .int .i64 T.mss, .int .i64 T.om, .bool T.shut, .int .i64 T.room,
    .pointer (some ⟨P.gb, 0, none⟩), .bool T.done, .int .i64 T.fin, .int .i64 T.tm, .int .i64 T.tr, .int .i64 T.du, .pointer (some ⟨P.gc, 0, none⟩), .int .i64 T.timed, .int .i64 T.took, .int .i64 T.due, .int .i64 T.rest]
/-- What is sent. -/
structure OutV where
  f : Int
  s : Int
  a : Int
  w : Int
  fr : Int
  l : Int
  m : Int
def outC (o : OutV) : List Value := [.int .i64 o.f, .int .u32 o.s, .int .u32 o.a, .int .i64 o.w, .int .i64 o.fr, .int .i64 o.l, .int .i64 o.m]
abbrev outA (o : OutV) : Array Value := #[.int .i64 o.f, .int .u32 o.s, .int .u32 o.a, .int .i64 o.w, .int .i64 o.fr, .int .i64 o.l, .int .i64 o.m]
def outsC (l : List OutV) : List Value := l.flatMap outC
theorem outsC_length (l : List OutV) : (outsC l).length = l.length * 7 := by
  induction l with
  | nil => rfl
  | cons o l ih => unfold outsC at *; rw [List.flatMap_cons, List.length_append, ih, List.length_cons]; show 7 + _ = _; omega
theorem outsC_append (l r : List OutV) : outsC (l ++ r) = outsC l ++ outsC r := by simp [outsC]

/-- In memory. -/
structure CA (w : World) (P : Pl) (T : TC) : Prop where
  head : Blk w P.g 63 (vals P T)
  buf : Ra.Buf w P.gt P.gm P.gb P.R T.N T.xs
  clk : Rt.At w P.gc T.c
  apart : P.g ≠ P.gt ∧ P.g ≠ P.gm ∧ P.g ≠ P.gb ∧ P.g ≠ P.gc ∧ P.gc ≠ P.gt ∧ P.gc ≠ P.gm ∧ P.gc ≠ P.gb
  room : T.room = (P.R : Int)
section
variable {w w' : World} {P : Pl} {T T' : TC} {S : Nat → Prop}
theorem CA.lt (h : CA w P T) : ∀ k, P.In k → k < w.heap.size := fun k hk => by
  have L := h.buf.lt
  have h1 := h.head.lt
  have h2 := Blk.lt h.clk
  unfold Pl.In at hk
  omega
theorem CA.chg (h : CA w P T) (k : Chg w w' S) (hn : ∀ i, P.In i → ¬ S i) : CA w' P T :=
  ⟨h.head.chg k (hn _ (.inl rfl)), h.buf.chg k (hn _ (.inr (.inl rfl))) (hn _ (.inr (.inr (.inl rfl)))) (hn _ (.inr (.inr (.inr (.inl rfl))))), Blk.chg h.clk k (hn _ (.inr (.inr (.inr (.inr rfl))))), h.apart, h.room⟩
theorem CA.new (h : CA w P T) (k : Below w.heap.size w w') : CA w' P T := h.chg (Chg.of_new k fun _ => False) (fun _ _ => id)
theorem CA.drewN (h : CA w P T) (n : Nat) : CA (w.drewN n) P T := ⟨h.head.drewN n, h.buf.drewN n, h.clk, h.apart, h.room⟩
theorem CA.c (h : CA w P T) (i : Nat) (v : Value) (hv : (vals P T)[i]? = some v) : w.cell? ⟨P.g, i, none⟩ = some v := by rw [h.head.cell, hv]
theorem CA.c0 (h : CA w P T) : w.cell? ⟨P.g, 0, none⟩ = some (.int .i64 T.st) := h.c 0 _ rfl
theorem CA.c1 (h : CA w P T) : w.cell? ⟨P.g, 1, none⟩ = some (.int .u32 T.own) := h.c 1 _ rfl
theorem CA.c2 (h : CA w P T) : w.cell? ⟨P.g, 2, none⟩ = some (.int .u32 T.peer) := h.c 2 _ rfl
theorem CA.c3 (h : CA w P T) : w.cell? ⟨P.g, 3, none⟩ = some (.int .i64 T.una) := h.c 3 _ rfl
theorem CA.c4 (h : CA w P T) : w.cell? ⟨P.g, 4, none⟩ = some (.int .i64 T.nxt) := h.c 4 _ rfl
theorem CA.c5 (h : CA w P T) : w.cell? ⟨P.g, 5, none⟩ = some (.int .i64 T.en) := h.c 5 _ rfl
theorem CA.c6 (h : CA w P T) : w.cell? ⟨P.g, 6, none⟩ = some (.int .i64 T.win) := h.c 6 _ rfl
theorem CA.c7 (h : CA w P T) : w.cell? ⟨P.g, 7, none⟩ = some (.int .i64 T.mss) := h.c 7 _ rfl
theorem CA.c8 (h : CA w P T) : w.cell? ⟨P.g, 8, none⟩ = some (.int .i64 T.om) := h.c 8 _ rfl
theorem CA.c9 (h : CA w P T) : w.cell? ⟨P.g, 9, none⟩ = some (.bool T.shut) := h.c 9 _ rfl
theorem CA.c10 (h : CA w P T) : w.cell? ⟨P.g, 10, none⟩ = some (.int .i64 T.room) := h.c 10 _ rfl
theorem CA.c11 (h : CA w P T) : w.cell? ⟨P.g, 11, none⟩ = some (.pointer (some ⟨P.gb, 0, none⟩)) := h.c 11 _ rfl
theorem CA.c12 (h : CA w P T) : w.cell? ⟨P.g, 12, none⟩ = some (.bool T.done) := h.c 12 _ rfl
theorem CA.c13 (h : CA w P T) : w.cell? ⟨P.g, 13, none⟩ = some (.int .i64 T.fin) := h.c 13 _ rfl
theorem CA.c14 (h : CA w P T) : w.cell? ⟨P.g, 14, none⟩ = some (.int .i64 T.tm) := h.c 14 _ rfl
theorem CA.c15 (h : CA w P T) : w.cell? ⟨P.g, 15, none⟩ = some (.int .i64 T.tr) := h.c 15 _ rfl
theorem CA.c16 (h : CA w P T) : w.cell? ⟨P.g, 16, none⟩ = some (.int .i64 T.du) := h.c 16 _ rfl
theorem CA.c17 (h : CA w P T) : w.cell? ⟨P.g, 17, none⟩ = some (.pointer (some ⟨P.gc, 0, none⟩)) := h.c 17 _ rfl
theorem CA.c18 (h : CA w P T) : w.cell? ⟨P.g, 18, none⟩ = some (.int .i64 T.timed) := h.c 18 _ rfl
theorem CA.c19 (h : CA w P T) : w.cell? ⟨P.g, 19, none⟩ = some (.int .i64 T.took) := h.c 19 _ rfl
theorem CA.c20 (h : CA w P T) : w.cell? ⟨P.g, 20, none⟩ = some (.int .i64 T.due) := h.c 20 _ rfl
theorem CA.c21 (h : CA w P T) : w.cell? ⟨P.g, 21, none⟩ = some (.int .i64 T.rest) := h.c 21 _ rfl
theorem CA.fz (h : CA w P T) (i : Nat) : w.frozen? ⟨P.g, i, none⟩ = false := h.head.frozen i
theorem CA.set (h : CA w P T) (i : Nat) (u : Value) (hv : (vals P T).setIfInBounds i u = vals P T') (h1 : T'.N = T.N) (h2 : T'.xs = T.xs) (h3 : T'.c = T.c) (h4 : T'.room = T.room) : CA (w.setCell ⟨P.g, i, none⟩ u) P T' := by
  have k : Chg w (w.setCell ⟨P.g, i, none⟩ u) (fun k => k = P.g) := Chg.set w i u rfl
  obtain ⟨a1, a2, a3, a4, a5⟩ := h.apart
  refine ⟨by have := h.head.put i u; rw [hv] at this; exact this, ?_, ?_, h.apart, by rw [h4, h.room]⟩
  · rw [h1, h2]; exact h.buf.chg k (fun e => a1 e.symm) (fun e => a2 e.symm) (fun e => a3 e.symm)
  · rw [h3]; exact Blk.chg h.clk k (fun e => a4 e.symm)
theorem set_in (w : World) (P : Pl) (i : Nat) (u : Value) : Chg w (w.setCell ⟨P.g, i, none⟩ u) P.In := Chg.set w i u (.inl rfl)
end

/-- A connection and a list of what it sends, both of a world w0: the connection lay there already, the list is new. -/
structure CO (w0 w : World) (P : Pl) (T : TC) (A : Option Addr) (c : Nat) (l : List OutV) : Prop where
  con : CA w P T
  old : ∀ k, P.In k → k < w0.heap.size
  out : RowV w 55 7 A l.length c (outsC l)
  chg : Chg w0 w P.In
  fresh : ∀ k, inR A k → w0.heap.size ≤ k
section
variable {w0 w w' : World} {P : Pl} {T T' : TC} {A : Option Addr} {c : Nat} {l : List OutV}
theorem CO.start (h : CA w P T) : CO w w P T none 0 [] := ⟨h, h.lt, RowV.nil _ _ _, Chg.refl _ _, fun k ⟨a, e, _⟩ => by cases e⟩
theorem CO.off (h : CO w0 w P T A c l) : ∀ a, A = some a → ¬ P.In a.block := fun a e hi => by
  have := h.old _ hi
  have := h.fresh _ ⟨a, e, rfl⟩
  omega
theorem CO.step (h : CO w0 w P T A c l) (k : CA w' P T') (hc : Chg w w' P.In) : CO w0 w' P T' A c l := ⟨k, h.old, h.out.chg hc h.off, h.chg.trans hc, h.fresh⟩
theorem CO.new (h : CO w0 w P T A c l) (k : Below w.heap.size w w') : CO w0 w' P T A c l := h.step (h.con.new k) (Chg.of_new k _)
theorem CO.drewN (h : CO w0 w P T A c l) (n : Nat) : CO w0 (w.drewN n) P T A c l := h.step (h.con.drewN n) ((Chg.refl _ _).drewN n)
/-- What appends to the list leaves. -/
structure Ap (w w' : World) (P : Pl) (A A' : Option Addr) : Prop where
  chg : Chg w w' (fun k => P.In k ∨ inR A k)
  new : ∀ k, inR A' k → inR A k ∨ w.heap.size ≤ k
theorem Ap.refl (w : World) (P : Pl) (A : Option Addr) : Ap w w P A A := ⟨Chg.refl _ _, fun _ => .inl⟩
theorem Ap.of {w w' : World} {P : Pl} {A : Option Addr} (h : Chg w w' P.In) : Ap w w' P A A := ⟨h.weak fun _ => .inl, fun _ => .inl⟩
theorem Ap.trans {w w1 w2 : World} {P : Pl} {A A1 A2 : Option Addr} (h : Ap w w1 P A A1) (k : Ap w1 w2 P A1 A2) : Ap w w2 P A A2 := by
  refine ⟨⟨k.chg.os.trans h.chg.os, k.chg.tape.trans h.chg.tape, k.chg.output.trans h.chg.output, Nat.le_trans h.chg.size k.chg.size, fun i hi hn => ?_⟩, fun i hi => ?_⟩
  · rw [k.chg.block i (Nat.lt_of_lt_of_le hi h.chg.size) (fun e => ?_), h.chg.block i hi hn]
    rcases e with e | e
    · exact hn (.inl e)
    · rcases h.new i e with e2 | e2
      · exact hn (.inr e2)
      · omega
  · rcases k.new i hi with e | e
    · exact h.new i e
    · exact .inr (Nat.le_trans h.chg.size e)
/-- A block of a local variable stays. -/
theorem Ap.blk {w w' : World} {P : Pl} {A A' : Option Addr} (h : Ap w w' P A A') {g : Nat} {t : TypeId} {cs : Array Value} (hb : Blk w g t cs) (h1 : ¬ P.In g) (h2 : ¬ inR A g) : Blk w' g t cs ∧ ¬ inR A' g :=
  ⟨hb.chg h.chg (fun e => by rcases e with e | e; exact h1 e; exact h2 e), fun e => by
    rcases h.new g e with e | e
    · exact h2 e
    · have := hb.lt; omega⟩
theorem CO.ap {w0 w w' : World} {P : Pl} {T T' : TC} {A A' : Option Addr} {c c' : Nat} {l l' : List OutV} (h : CO w0 w P T A c l) (k : Ap w w' P A A') (hc : CA w' P T') (hr : RowV w' 55 7 A' l'.length c' (outsC l')) : CO w0 w' P T' A' c' l' := by
  refine ⟨hc, h.old, hr, ⟨k.chg.os.trans h.chg.os, k.chg.tape.trans h.chg.tape, k.chg.output.trans h.chg.output, Nat.le_trans h.chg.size k.chg.size, fun i hi hn => ?_⟩, fun i hi => ?_⟩
  · rw [k.chg.block i (Nat.lt_of_lt_of_le hi h.chg.size) (fun e => ?_), h.chg.block i hi hn]
    rcases e with e | e
    · exact hn e
    · have := h.fresh i e; omega
  · rcases k.new i hi with e | e
    · exact h.fresh i e
    · exact Nat.le_trans h.chg.size e
end

/-! What a connection answers, in plain words. -/
def numR (T : TC) (p : Int) : Int := Sq.rd (T.own + p)
def nextR (T : TC) : Int := (T.N : Int) + Ra.rdy T.xs
def expR (T : TC) : Int := Sq.rd (T.peer + nextR T)
def winR (T : TC) : Int := T.room - Ra.rdy T.xs
def plainR (T : TC) : OutV := ⟨16, numR T T.nxt, expR T, winR T, 0, 0, 0⟩
def sentR (T : TC) : TC := { T with due := -1 }
def armR (T : TC) : TC := { T with tm := T.c.w }
def wakeR (T : TC) : TC := if T.tm = 0 then armR T else T
def withR (T : TC) (o : OutV) (fr n : Int) : OutV := ⟨if fr + n = T.en then 24 else 16, numR T fr, o.a, o.w, fr, n, o.m⟩
def payT (T : TC) : TC := if T.due = 0 then sentR T else T
def payL (T : TC) (l : List OutV) : List OutV := if T.due = 0 then l ++ [plainR T] else l
end Go.Proofs.Ytldmcoagjgeeoaa.Tc
