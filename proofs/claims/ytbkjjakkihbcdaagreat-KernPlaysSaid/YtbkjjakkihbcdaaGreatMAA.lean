/- General words of these proofs: a slice that reads as a list of bytes, and how a law's last step is closed where the call changes nothing that was there. Conditions: those that each states. -/
import Derived.Test.YtbkjjakkihbcdaaGreatRows
import Derived.WalkKit
import Derived.ProofKit
import Derived.OpenShut
import Derived.Below
import Derived.Carry
import Derived.ChangeOld
import Derived.Laws.OwnMore
import Derived.Deep.AppendLies
import Derived.Deep.Draws
import Derived.Laws.Rows
import Derived.Lib.Hide
import Derived.Lib.SmallJoins
import Derived.Laws.Cover2
import Derived.Handy
import Derived.Maps.AppendAt
import Derived.Laws.AppendOwnNone
import Derived.OwnWalk
import Derived.Lib.AppendStr
import Derived.RegionTactic
import Derived.Laws.CopyRow
import Derived.Laws.CopyOwn
import Derived.Laws.Tables
import Derived.Deep.MidRow
import Derived.Lib.Bytes
import Derived.Lib.SliceRun
import Derived.Laws.IdiomStrings
import Derived.Lib.ConvBytes
import Derived.Laws.Cover3
import Derived.StillTail
import Derived.Deep.RegionHeld
import Derived.BigRegion
import Derived.WalkMore
import Derived.Deep.QuietTactic
import Derived.BigQuiet
namespace Go.Proofs.YtbkjjakkihbcdaaGreat
open Go.ChangeShapes Go.WideShapes Go.ChangeAt Go.RowKit Go.Deep

def Lies (w : World) (A : Option Addr) (xs : List Value) : Prop :=
 0 < xs.length → ∃ b o, A = some ⟨b, o, none⟩ ∧ b < w.heap.size ∧ ∀ j (h : j < xs.length), w.cell? ⟨b, o + j, none⟩ = some xs[j]

def Older (w w' : World) : Prop := w.heap.size ≤ w'.heap.size ∧ ∀ i, i < w.heap.size → w'.heap[i]? = w.heap[i]?
theorem older_below {w w' : World} (h : Below w.heap.size w w') : Older w w' := ⟨h.size, h.block⟩
theorem older_alloc (w : World) (ob : Obj) : Older w (w.alloc ob) := older_below ((Below.refl _ w).alloc (Nat.le_refl _) ob)

section
variable {w w' : World} {A : Option Addr} {xs : List Value}
theorem lies_nil (w : World) (A : Option Addr) : Lies w A [] := fun h => absurd h (by simp)
theorem Lies.older (h : Lies w A xs) (k : Older w w') : Lies w' A xs := by
 intro hp
 obtain ⟨b, o, e, hb, hc⟩ := h hp
 refine ⟨b, o, e, Nat.lt_of_lt_of_le hb k.1, fun j hj => ?_⟩
 rw [World.cell?_of_block (w := w) (w' := w') (a := ⟨b, o + j, none⟩) (k.2 b hb)]
 exact hc j hj
end

def Blk (w : World) (g : Nat) (t : TypeId) (cs : Array Value) : Prop := w.heap[g]? = some (.cells cs t (0, 0))
section
variable {w w' : World} {g : Nat} {t : TypeId} {cs : Array Value}
theorem Blk.lt (h : Blk w g t cs) : g < w.heap.size := (Array.getElem?_eq_some_iff.1 h).1
theorem Blk.cell (h : Blk w g t cs) (i : Nat) : w.cell? ⟨g, i, none⟩ = cs[i]? := cell_of_row w g i cs t (0, 0) h
theorem Blk.frozen (h : Blk w g t cs) (i : Nat) : w.frozen? ⟨g, i, none⟩ = false := by
 have h' : w.heap[g]? = some (.cells cs t (0, 0)) := h
 simp [World.frozen?, h']
theorem Blk.new (w : World) (t : TypeId) (cs : Array Value) : Blk (w.alloc (.cells cs t)) w.heap.size t cs := heap_alloc_new w _
theorem Blk.older (h : Blk w g t cs) (k : Older w w') : Blk w' g t cs := (k.2 g h.lt).trans h
theorem Blk.alloc (h : Blk w g t cs) (ob : Obj) : Blk (w.alloc ob) g t cs := h.older (older_alloc w ob)
theorem Blk.drewN (h : Blk w g t cs) (k : Nat) : Blk (w.drewN k) g t cs := h
theorem Blk.put (h : Blk w g t cs) (i : Nat) (u : Value) : Blk (w.setCell ⟨g, i, none⟩ u) g t (cs.setIfInBounds i u) := by
 have h' : w.heap[g]? = some (.cells cs t (0, 0)) := h
 show (w.setCell ⟨g, i, none⟩ u).heap[g]? = _
 simp [World.setCell, Array.getElem?_modify, h']
theorem Blk.far (h : Blk w g t cs) {p : Addr} (hp : g ≠ p.block) (u : Value) : Blk (w.setCell p u) g t cs := by
 have := Below.heap_setCell w p u g hp
 exact this.trans h
theorem Blk.apart {g' : Nat} {t' : TypeId} {cs' : Array Value} (h : Blk w g t cs) (h' : Blk w g' t' cs') (hne : t ≠ t') : g ≠ g' := by
 intro e
 subst e
 have e1 : some (Obj.cells cs t (0, 0)) = some (.cells cs' t' (0, 0)) := h.symm.trans h'
 injection e1 with e2
 injection e2 with _ e3
 exact hne e3
end

def bys (l : List UInt8) : List Value := l.map fun c => .int .u8 (c.toNat : Int)
theorem bys_get {l : List UInt8} {k : Nat} (h : k < l.length) : (bys l)[k]? = some (.int .u8 ((l[k]).toNat : Int)) := by
 simp [bys, List.getElem?_eq_getElem h]
theorem bys_length (l : List UInt8) : (bys l).length = l.length := by simp [bys]
theorem bys_take (l : List UInt8) (k : Nat) : (bys l).take k = bys (l.take k) := by simp [bys]
theorem bys_drop (l : List UInt8) (k : Nat) : (bys l).drop k = bys (l.drop k) := by simp [bys]
theorem bys_append (l r : List UInt8) : bys (l ++ r) = bys l ++ bys r := by simp [bys]

structure Bytes (w : World) (A : Option Addr) (n c : Nat) (l : List UInt8) : Prop where
 lies : Lies w A (bys l)
 len : l.length = n
 cap : n ≤ c
 max : c ≤ 9223372036854775807
section
variable {w w' : World} {A : Option Addr} {n c : Nat} {l : List UInt8}
theorem Bytes.byte {k : Nat} (h : Bytes w A n c l) (hk : k < n) :
  ∃ b o, ∃ hl : k < l.length, A = some ⟨b, o, none⟩ ∧ b < w.heap.size ∧ w.cell? ⟨b, o + k, none⟩ = some (.int .u8 ((l[k]).toNat : Int)) := by
 have hl := h.len
 obtain ⟨b, o, e, hb, hc⟩ := h.lies (by rw [bys_length]; omega)
 refine ⟨b, o, by omega, e, hb, ?_⟩
 rw [hc k (by rw [bys_length]; omega)]
 simp [bys]
theorem Bytes.older (h : Bytes w A n c l) (k : Older w w') : Bytes w' A n c l := ⟨h.lies.older k, h.len, h.cap, h.max⟩
theorem Bytes.drewN (h : Bytes w A n c l) (k : Nat) : Bytes (w.drewN k) A n c l := h.older ⟨Nat.le_refl _, fun _ _ => rfl⟩
theorem Bytes.news {b o : Nat} (h : Bytes w (some ⟨b, o, none⟩) n c l) : (bys l).length = n * 1 ∧ (∀ j u, (bys l)[j]? = some u → w.cell? ((⟨b, o, none⟩ : Addr).add j) = some u) ∧ ∀ u ∈ bys l, u.oneCell' = true := by
 refine ⟨by rw [bys_length, h.len, Nat.mul_one], fun j u hu => ?_, fun u hu => ?_⟩
 ·obtain ⟨hj, e⟩ := List.getElem?_eq_some_iff.1 hu
  obtain ⟨b', o', e', _, hc⟩ := h.lies (by omega)
  injection e' with e'
  injection e' with e1 e2 _
  subst e1 e2
  have ea : (⟨b, o, none⟩ : Addr).add j = ⟨b, o + j, none⟩ := by unfold Addr.add; split <;> simp_all
  rw [ea, hc j hj, e]
 ·unfold bys at hu
  obtain ⟨c, _, rfl⟩ := List.mem_map.1 hu
  rfl
end
theorem below_drewN {B : Nat} {a w : World} (h : Below B a w) (k : Nat) : Below B a (w.drewN k) := ⟨h.os, h.tape, h.output, h.size, h.block⟩

section
variable {H : Type} {enc : TypeId × Value → H} {P : Program} {w : World}
theorem wf_i64 {a : Int} (h : (Lit.int .i64 a).wf = true) : -9223372036854775808 ≤ a ∧ a ≤ 9223372036854775807 := by
 simpa [Lit.wf, IntKind.min, IntKind.max, IntKind.signed, IntKind.bits] using h
theorem trodAll_below (hl : laidOutB P = true) {W W' : World} (hb : Below W.heap.size W W') :
  ∀ {ts : List TypeId} {vs : List Value} {ds : List (DataW H)} {ps : List MemPlace}, ts.all (fun t => P.readableRec t && decide (t < P.types.size)) = true →
   DataW.TrodAll enc P W 0 (fun _ => true) true ts vs ds ps → DataW.TrodAll enc P W' 0 (fun b => decide (b < W.heap.size)) true ts vs ds ps
 | [], [], [], _, _, h => h
 | t :: ts, v :: vs, d :: ds, ps, hr, h => by
  obtain ⟨p, q, h0, h1, e⟩ := h
  simp only [List.all_cons, Bool.and_eq_true] at hr
  have hlt : ∀ x ∈ p, x.block < W.heap.size := by
   have h0' := h0
   obtain ⟨m, hm⟩ := h0'; exact DataW.trod_lt m _ _ _ hm
  exact ⟨p, q, Below.trod hl hr.1.1 (of_decide_eq_true hr.1.2) h0 hb hlt, trodAll_below hl hb hr.2 h1, e⟩
 | [], _ :: _, _, _, _, h => h.elim
 | [], [], _ :: _, _, _, h => h.elim
 | _ :: _, [], _, _, _, h => h.elim
 | _ :: _, _ :: _, [], _, _, h => h.elim

theorem law_close {f : Func} {s : ChangeSpec} {k : FuncId} {W : World} {args : Array Value} {ds gs : List (DataW H)} {before : List MemPlace} {tb : TypeId}
  (hW : DataW.Whole enc P f.params.toList s.vars false W args.toList ds gs before)
  (hl : laidOutB P = true) (hr : f.params.toList.all (fun t => P.readableRec t && decide (t < P.types.size)) = true)
  (hrt : f.resultTypes = #[tb]) (hb : P.underlying tb = some .bool) (hv : s.vars = [])
  (hfn : (s.fn H (ds ++ [])).results = [.lit (.bool true)] ∧ (s.fn H (ds ++ [])).args = ds ∧ (s.fn H (ds ++ [])).vars = [])
  (h : Calls P k args W fun e W' => e = .returned (.bool true) ∧ Below W.heap.size W W') :
  Calls P k args W fun e W' => ∃ v, e = .returned v ∧ s.post enc P f false true false false W args v W' := by
 refine h.mono fun e W' ⟨he, bel⟩ => ⟨_, he, ?_⟩
 have hW' := hW
 obtain ⟨p, q, hA, hV, _, _, _⟩ := hW'
 rw [hv] at hV
 obtain ⟨rfl, rfl⟩ := trodVars_none hV
 refine ⟨ds, [], before, [], p, [], hW, ?_, ?_, ?_, bel.frame _, fun h => by cases h⟩
 ·rw [hfn.1, hrt]
  exact trodAll_mk1 (shut_bool hb _)
 ·rw [hfn.2.1]
  exact trodAll_below hl bel hr hA
 ·rw [hfn.2.2, hv]; rfl
end
theorem own : ownKnob Tryz.prog.godebug = none := by kernel_rfl
theorem laidOut : laidOutB Tryz.prog = true := by kernel_rfl
end Go.Proofs.YtbkjjakkihbcdaaGreat

/- General words: what stands while a call writes to its own blocks alone; a row of values of the call's own and append of one value more; a ring in memory. Conditions: those that each states. -/
namespace Go.Proofs.YtbkjjakkihbcdaaGreat
open Go.ChangeShapes Go.WideShapes Go.ChangeAt Go.RowKit Go.Deep

structure Chg (w w' : World) (S : Nat → Prop) : Prop where
 os : w'.os = w.os
 tape : w'.tape = w.tape
 output : w'.output = w.output
 size : w.heap.size ≤ w'.heap.size
 block : ∀ k, k < w.heap.size → ¬ S k → w'.heap[k]? = w.heap[k]?
section
variable {w w' w2 : World} {S S' : Nat → Prop}
theorem Chg.refl (w : World) (S : Nat → Prop) : Chg w w S := ⟨rfl, rfl, rfl, Nat.le_refl _, fun _ _ _ => rfl⟩
theorem Chg.trans (h : Chg w w' S) (k : Chg w' w2 S) : Chg w w2 S :=
 ⟨k.os.trans h.os, k.tape.trans h.tape, k.output.trans h.output, Nat.le_trans h.size k.size, fun i hi hn => (k.block i (Nat.lt_of_lt_of_le hi h.size) hn).trans (h.block i hi hn)⟩
theorem Chg.weak (h : Chg w w' S) (k : ∀ i, S i → S' i) : Chg w w' S' := ⟨h.os, h.tape, h.output, h.size, fun i hi hn => h.block i hi fun hs => hn (k i hs)⟩
theorem Chg.drewN (h : Chg w w' S) (n : Nat) : Chg w (w'.drewN n) S := ⟨h.os, h.tape, h.output, h.size, h.block⟩
theorem Chg.drew (h : Chg w w' S) : Chg w w'.drew S := ⟨h.os, h.tape, h.output, h.size, h.block⟩
theorem Chg.set (w : World) {g : Nat} (i : Nat) (u : Value) (hg : S g) : Chg w (w.setCell ⟨g, i, none⟩ u) S :=
 ⟨rfl, rfl, rfl, by simp [World.setCell], fun k _ hn => Below.heap_setCell w ⟨g, i, none⟩ u k (fun e => hn (by have e' : k = g := e; rw [e']; exact hg))⟩
theorem Chg.below {B : Nat} (h : Chg w w' S) (hB : B ≤ w.heap.size) (hs : ∀ k, S k → B ≤ k) : Below B w w' :=
 ⟨h.os, h.tape, h.output, h.size, fun i hi => h.block i (Nat.lt_of_lt_of_le hi hB) fun s => absurd (hs i s) (by omega)⟩
theorem Chg.of_new (h : Below w.heap.size w w') (S : Nat → Prop) : Chg w w' S := ⟨h.os, h.tape, h.output, h.size, fun i hi _ => h.block i hi⟩
theorem Chg.alloc (h : Chg w w' S) (ob : Obj) : Chg w (w'.alloc ob) S := h.trans (Chg.of_new ((Below.refl _ w').alloc (Nat.le_refl _) ob) S)
theorem Blk.chg {g : Nat} {t : TypeId} {cs : Array Value} (h : Blk w g t cs) (k : Chg w w' S) (hn : ¬ S g) : Blk w' g t cs := (k.block g h.lt hn).trans h
end

section
variable {w w' : World} {B : Nat} {E : TypeId} {A : Option Addr} {c : Nat} {xs : List Value} {S : Nat → Prop}
end

structure RingAt (E T : TypeId) (w : World) (gs g room first : Nat) (xs : List Value) : Prop where
 lt : gs < g
 r1 : 1 ≤ room
 r2 : room ≤ 32
 len : xs.length ≤ room
 small : first + xs.length ≤ 1000000
 head : Blk w g T #[.slice (some ⟨gs, 0, none⟩) room room, .int .i64 (first : Int), .int .i64 ((first : Int) + (xs.length : Int))]
 row : ∃ cs : Array Value, Blk w gs E cs ∧ cs.size = room ∧ ∀ j (h : j < xs.length), cs[(first + j) % room]? = some xs[j]
section
variable {E T : TypeId} {w w' : World} {gs g room first : Nat} {xs : List Value} {S : Nat → Prop}
theorem RingAt.chg (h : RingAt E T w gs g room first xs) (k : Chg w w' S) (h1 : ¬ S gs) (h2 : ¬ S g) : RingAt E T w' gs g room first xs := by
 obtain ⟨cs, hb, hs, hc⟩ := h.row
 exact ⟨h.lt, h.r1, h.r2, h.len, h.small, h.head.chg k h2, cs, hb.chg k h1, hs, hc⟩
theorem RingAt.new (h : RingAt E T w gs g room first xs) (k : Below w.heap.size w w') : RingAt E T w' gs g room first xs := h.chg (Chg.of_new k fun _ => False) id id
theorem RingAt.drewN (h : RingAt E T w gs g room first xs) (n : Nat) : RingAt E T (w.drewN n) gs g room first xs := ⟨h.lt, h.r1, h.r2, h.len, h.small, h.head, h.row⟩

theorem mod_ne (a b m : Nat) (h1 : a < b) (h2 : b < a + m) : a % m ≠ b % m := by
 intro e
 have h3 : (b - a) % m = 0 := Nat.sub_mod_eq_zero_of_mod_eq e.symm
 rw [Nat.mod_eq_of_lt (by omega)] at h3
 omega

theorem RingAt.put (h : RingAt E T w gs g room first xs) (hl : xs.length < room) (hs : first + xs.length < 1000000) (u : Value) (n : Nat) :
  RingAt E T (((w.drewN n).setCell ⟨gs, (first + xs.length) % room, none⟩ u).setCell ⟨g, 2, none⟩ (.int .i64 ((first : Int) + (xs.length : Int) + 1))) gs g room first (xs ++ [u]) := by
 obtain ⟨cs, hb, hcs, hc⟩ := h.row
 have hgg : gs ≠ g := Nat.ne_of_lt h.lt
 refine ⟨h.lt, h.r1, h.r2, by simp; omega, by simp; omega, ?_, cs.setIfInBounds ((first + xs.length) % room) u, ?_, by simpa using hcs, ?_⟩
 ·have := ((h.head.drewN n).far (p := ⟨gs, (first + xs.length) % room, none⟩) (fun e => hgg (by have e' : g = gs := e; omega)) u).put 2 (.int .i64 ((first : Int) + (xs.length : Int) + 1))
  simpa [Int.add_assoc] using this
 ·exact ((hb.drewN n).put _ u).far (p := ⟨g, 2, none⟩) hgg _
 ·intro j hj
  have hm : (first + xs.length) % room < room := Nat.mod_lt _ (by omega)
  have hj' : j < xs.length + 1 := by simpa using hj
  by_cases e : j = xs.length
  ·subst e
   simp [hcs, hm]
  ·have hlt : j < xs.length := by omega
   have hd := mod_ne (first + j) (first + xs.length) room (by omega) (by omega)
   rw [Array.getElem?_setIfInBounds, if_neg (fun e => hd e.symm), hc j hlt, List.getElem_append_left hlt]

theorem RingAt.take {u : Value} (h : RingAt E T w gs g room first (u :: xs)) (z : Value) (n : Nat) :
  RingAt E T (((w.drewN n).setCell ⟨gs, first % room, none⟩ z).setCell ⟨g, 1, none⟩ (.int .i64 ((first : Int) + 1))) gs g room (first + 1) xs := by
 obtain ⟨cs, hb, hcs, hc⟩ := h.row
 have hgg : gs ≠ g := Nat.ne_of_lt h.lt
 have hl := h.len
 have hsm := h.small
 rw [List.length_cons] at hl hsm
 refine ⟨h.lt, h.r1, h.r2, by omega, by omega, ?_, cs.setIfInBounds (first % room) z, ?_, by simpa using hcs, ?_⟩
 ·have := ((h.head.drewN n).far (p := ⟨gs, first % room, none⟩) (fun e => hgg (by have e' : g = gs := e; omega)) z).put 1 (.int .i64 ((first : Int) + 1))
  have e1 : (first : Int) + ((u :: xs).length : Int) = ((first + 1 : Nat) : Int) + (xs.length : Int) := by rw [List.length_cons]; omega
  rw [e1] at this
  simpa using this
 ·exact ((hb.drewN n).put _ z).far (p := ⟨g, 1, none⟩) hgg _
 ·intro j hj
  have hd := mod_ne first (first + (j + 1)) room (by omega) (by omega)
  have hcj := hc (j + 1) (by rw [List.length_cons]; omega)
  rw [show first + 1 + j = first + (j + 1) by omega, Array.getElem?_setIfInBounds, if_neg hd, hcj]
  rfl
theorem RingAt.cell (h : RingAt E T w gs g room first xs) {j : Nat} (hj : j < xs.length) : w.cell? ⟨gs, (first + j) % room, none⟩ = some xs[j] := by
 obtain ⟨cs, hb, _, hc⟩ := h.row
 rw [hb.cell, hc j hj]
theorem RingAt.place (h : RingAt E T w gs g room first xs) (t : Nat) : ∃ u, w.cell? ⟨gs, t % room, none⟩ = some u := by
 obtain ⟨cs, hb, hcs, _⟩ := h.row
 have hm : t % room < cs.size := by rw [hcs]; exact Nat.mod_lt _ h.r1
 exact ⟨cs[t % room], by rw [hb.cell, Array.getElem?_eq_getElem hm]⟩
theorem RingAt.thaw (h : RingAt E T w gs g room first xs) (i : Nat) : w.frozen? ⟨gs, i, none⟩ = false := by
 obtain ⟨cs, hb, _⟩ := h.row
 exact hb.frozen i
end
end Go.Proofs.YtbkjjakkihbcdaaGreat

/- General words: append onto a row of the call's own, whatever the source. Conditions: those that each states. -/
namespace Go.Proofs.YtbkjjakkihbcdaaGreat
open Go.ChangeShapes Go.WideShapes Go.ChangeAt Go.RowKit Go.Deep

structure OwnB (w : World) (base g n c : Nat) (l : List UInt8) : Prop where
 own : w.ownsRow base 5 1 (.slice (some ⟨g, 0, none⟩) n c) n (bys l)
 base : base ≤ g
 lt : g < w.heap.size
 cap : n ≤ c
 max : c ≤ 9223372036854775807
theorem OwnB.of {w : World} {base n : Nat} {v : Value} {l : List UInt8} (h : w.ownsRow base 5 1 v n (bys l)) (hn : 0 < n) : ∃ g c, v = .slice (some ⟨g, 0, none⟩) n c ∧ OwnB w base g n c l := by
 rcases h.2 with ⟨rfl, hx⟩ | ⟨g, cap, cur, rfl, hb, hh, hc, hm, hs, ht⟩
 ·exfalso
  have := h.1
  rw [hx] at this
  simp at this
  omega
 ·refine ⟨g, cap, rfl, h, hb, ?_, hc, hm⟩
  rcases Nat.lt_or_ge g w.heap.size with hlt | hge
  ·exact hlt
  ·rw [Array.getElem?_eq_none hge] at hh; cases hh
theorem OwnB.bytes {w : World} {base g n c : Nat} {l : List UInt8} (h : OwnB w base g n c l) : Bytes w (some ⟨g, 0, none⟩) n c l := by
 have hl := h.own.1
 rw [bys_length, Nat.mul_one] at hl
 refine ⟨fun hp => ⟨g, 0, rfl, h.lt, fun j hj => ?_⟩, hl, h.cap, h.max⟩
 have hj' := hj
 rw [bys_length] at hj'
 rw [Nat.zero_add, h.own.cellAt j (by omega)]
 exact List.getElem?_eq_getElem hj
structure Src (w : World) (A : Option Addr) (n c : Nat) (l : List UInt8) : Prop extends Bytes w A n c l where
 none_ : A = none → c = 0
theorem Src.older {w w' : World} {A : Option Addr} {n c : Nat} {l : List UInt8} (h : Src w A n c l) (k : Older w w') : Src w' A n c l := ⟨h.toBytes.older k, h.none_⟩
theorem Src.below {w w' : World} {A : Option Addr} {n c : Nat} {l : List UInt8} (h : Src w A n c l) (hb : Below w.heap.size w w') : Src w' A n c l := h.older (older_below hb)
theorem Src.alloc {w : World} {A : Option Addr} {n c : Nat} {l : List UInt8} (h : Src w A n c l) (o : Obj) : Src (w.alloc o) A n c l := h.older (older_alloc w o)
theorem Src.drewN {w : World} {A : Option Addr} {n c : Nat} {l : List UInt8} (h : Src w A n c l) (k : Nat) : Src (w.drewN k) A n c l := ⟨h.toBytes.drewN k, h.none_⟩
theorem OwnB.src {w : World} {base g n c : Nat} {l : List UInt8} (h : OwnB w base g n c l) : Src w (some ⟨g, 0, none⟩) n c l := ⟨h.bytes, fun e => by cases e⟩
theorem Src.nil (w : World) : Src w none 0 0 [] := ⟨⟨lies_nil _ _, rfl, Nat.le_refl _, by omega⟩, fun _ => rfl⟩
theorem u8_info : ∃ i0, Tryz.prog.info? 5 = some i0 ∧ i0.zero = some (.int .u8 0) ∧ i0.size = 1 ∧ i0.bytes = 1 := by
 obtain ⟨i, hi, hs⟩ := Option.map_eq_some_iff.1 (show (Tryz.prog.info? 5).map (fun i => (i.zero, i.size, i.bytes)) = some (some (.int .u8 0), 1, 1) by kernel_rfl)
 simp at hs
 exact ⟨i, hi, hs.1, hs.2.1, hs.2.2⟩

theorem bys_one {l : List UInt8} {u : Value} (hu : u ∈ bys l) : u.oneCell' = true := by
 unfold bys at hu
 obtain ⟨c', _, rfl⟩ := List.mem_map.1 hu
 rfl
theorem Bytes.at_ {w : World} (ad : Addr) {n c : Nat} {l : List UInt8} (hb : Bytes w (some ad) n c l) (j : Nat) (u : Value) (hu : (bys l)[j]? = some u) : w.cell? (ad.add j) = some u := by
 have hj := (List.getElem?_eq_some_iff.1 hu).1
 obtain ⟨b, o', e, _, _⟩ := hb.lies (by omega)
 cases e
 exact hb.news.2.1 j u hu

theorem src_of_own {w : World} {base n : Nat} {v : Value} {l : List UInt8} (h : w.ownsRow base 5 1 v n (bys l)) : ∃ A c, v = .slice A n c ∧ Src w A n c l ∧ ∀ b o, A = some ⟨b, o, none⟩ → base ≤ b := by
 have hl : l.length = n := by have := h.1; rw [bys_length, Nat.mul_one] at this; exact this
 rcases h.2 with ⟨rfl, hx⟩ | ⟨g, cap, cur, rfl, hb, hh, hc, hm, _, _⟩
 ·rw [hx] at hl
  refine ⟨none, 0, by rw [hx], ?_, fun _ _ e => by (cases e)⟩
  rw [hx, List.length_eq_zero_iff.1 hl]
  exact Src.nil w
 ·by_cases hn : 0 < n
  ·obtain ⟨g', c', e, O⟩ := OwnB.of h hn
   cases e
   exact ⟨_, _, rfl, O.src, fun b o e => by cases e; exact O.base⟩
  ·have h0 : n = 0 := by omega
   subst h0
   rw [List.length_eq_zero_iff.1 hl]
   exact ⟨_, _, rfl, ⟨⟨lies_nil _ _, rfl, hc, hm⟩, fun e => by cases e⟩, fun b o e => by cases e; exact hb⟩

theorem wpList_append_src {ops : Array Oper} {rest : List Oper} {o : Oper} {a : Act} {Q : Exit → Act → World → Prop} {w : World} (hgd : o.guard = none) (s x : Operand)
  (ho : o.op = .call { callee := .builtin .append, args := #[s, x], argTypes := #[37, 37] })
  (base : Nat) (v : Value) (n : Nat) (r : List UInt8) (hs : a.eval s = v) (hown : w.ownsRow base 5 1 v n (bys r))
  (A : Option Addr) (m c : Nat) (l : List UInt8) (hx : a.eval x = .slice A m c) (hb : Src w A m c l) (hmax : n + m ≤ 1099511627776) (hbase : base ≤ w.heap.size)
  (h : ∀ v' w', w'.ownsRow base 5 1 v' (n + m) (bys (r ++ l)) → Below base w w' → wpList Tryz.prog ops Q rest (a.put o.dst v') w') : wpList Tryz.prog ops Q (o :: rest) a w := by
 obtain ⟨i0, hi, hz0, hz1, hz2⟩ := u8_info
 cases A with
 | none =>
  have hc := hb.none_ rfl
  have hm : m = 0 := by have := hb.cap; omega
  have hl : l = [] := List.length_eq_zero_iff.1 (by have := hb.len; omega)
  subst hc hm hl
  refine wpList_append_own_none hgd s x 37 ho base 5 i0 1 Tryz.underlying37 hi v n (bys r) hs hown hx ?_
  have := h v w (by simpa using hown) (Below.refl _ _)
  exact this
 | some ad =>
  refine wpList_append_own w hgd s x 37 ho base 5 i0 (.int .u8 0) 1 1 Tryz.underlying37 hi hz0 hz1 hz2 rfl (by decide) v n (bys r) hs hown ad m c (bys l) hx (by rw [bys_length, hb.len]; omega) ?_ ?_ (by unfold maxLen; omega) (by omega) hbase ?_
  ·exact fun j u hu => Bytes.at_ ad hb.toBytes j u hu
  ·exact fun u hu => bys_one hu
  ·intro v' w' h1 h2 h3
   rw [← bys_append] at h1
   exact h v' w' h1 (Below.grown (Below.refl _ _) h2 hbase fun q hq => (hown.lt q hq).1)
end Go.Proofs.YtbkjjakkihbcdaaGreat

/- A row of cells stored at once into a block that is known whole. Conditions: those that each states. -/
namespace Go.Proofs.YtbkjjakkihbcdaaGreat
open Go.ChangeShapes Go.WideShapes Go.ChangeAt Go.RowKit Go.Deep
set_option linter.unusedVariables false

theorem wpList_store_at {P : Program} {ops : Array Oper} {rest : List Oper} {o : Oper} {a : Act} {w : World} {Q : Exit → Act → World → Prop} (hgd : o.guard = none) (ty : TypeId) (x y : Operand) (ho : o.op = .store ty x y)
  (g off : Nat) (cells : Array Value) (hx : a.eval x = .pointer (some ⟨g, off, none⟩)) (hy : a.eval y = .agg cells)
  (t : TypeId) (old : Array Value) (hg : Blk w g t old) (hi : (P.info? ty).map (·.size) = some cells.size)
  (hold : off + cells.size ≤ old.size) (h1 : cells.all (·.oneCell') = true)
  (h : wpList P ops Q rest (a.put o.dst undef) (w.setRow g (old.toList.take off ++ cells.toList ++ old.toList.drop (off + cells.size)).toArray)) : wpList P ops Q (o :: rest) a w := by
 refine wpList_plain hgd fun K hK => ?_
 have hst := run_storeCells_at P g off t cells.toList 0 old w hg (by simpa using hold) (fun v hv => (Array.all_eq_true_iff_forall_mem.1 h1) v (by simpa using hv))
 cases hq : P.info? ty with
 | none => simp [hq] at hi
 | some i =>
  have hs : cells.size = i.size := by simp [hq] at hi; omega
  have hrun : (storeVar ty ⟨g, off, none⟩ (.agg cells)).run P w = .ok () (w.setRow g (old.toList.take off ++ cells.toList ++ old.toList.drop (off + cells.size)).toArray) := by
   simp [storeVar, sizeOf, typeInfo, hq, Value.cells, hs, hst]
  unfold Oper.wp execOp
  simp only [ho, hx, hy, Instr.storeAt, Instr.sureAddr, Sem.run_bind, Sem.run_pure, Result.andThen_ok, hrun]
  exact hK _ _ h

section
variable {w : World} {g : Nat} {S : Nat → Prop}
theorem Chg.setRow (w : World) {g : Nat} (cs : Array Value) (hg : S g) : Chg w (w.setRow g cs) S :=
 ⟨rfl, rfl, rfl, by simp, fun k _ hn => setRow_other w g k cs (fun e => hn (by rw [e]; exact hg))⟩
theorem Blk.row {t : TypeId} {cs : Array Value} (h : Blk w g t cs) (cs' : Array Value) : Blk (w.setRow g cs') g t cs' := setRow_heap w g cs cs' t (0, 0) h
end
end Go.Proofs.YtbkjjakkihbcdaaGreat

/- General words: rows whose elements take many cells; stores and loads of whole structs; bytes.Clone, texts as bytes and back, blocks of zeros. Conditions: those that each states. -/
namespace Go.Proofs.YtbkjjakkihbcdaaGreat.Di
open Go.ChangeShapes Go.WideShapes Go.ChangeAt Go.RowKit Go.Deep
set_option linter.unusedVariables false

section
variable {w w' w1 : World} {g : Nat} {S : Nat → Prop}

def inB (A : Option Addr) (b : Nat) : Prop := A.map (·.block) = some b
theorem inB_own {A : Option Addr} {n c b : Nat} : (Value.slice A n c).ownBlock = some b ↔ inB A b := by cases A <;> simp [Value.ownBlock, inB]
theorem inB_none (b : Nat) : ¬ inB none b := by simp [inB]
theorem inB_some {g o b : Nat} (h : inB (some ⟨g, o, none⟩) b) : b = g := by simpa [inB, eq_comm] using h
theorem inB_self (g o : Nat) : inB (some ⟨g, o, none⟩) g := by simp [inB]
structure RowW (w : World) (E : TypeId) (sz : Nat) (A : Option Addr) (n c : Nat) (xs : List Value) : Prop where
 own : w.ownsRow 0 E sz (.slice A n c) n xs
section
variable {E : TypeId} {sz n c : Nat} {A : Option Addr} {xs : List Value}
theorem RowW.lt (h : RowW w E sz A n c xs) : ∀ b, inB A b → b < w.heap.size := fun b hb => (h.own.lt b (inB_own.2 hb)).2
theorem RowW.same (h : RowW w E sz A n c xs) (k : ∀ b, inB A b → w'.heap[b]? = w.heap[b]?) : RowW w' E sz A n c xs := by
 refine ⟨⟨h.own.1, ?_⟩⟩
 rcases h.own.2 with hl | ⟨g, cap, cur, e, hg, hh, r⟩
 ·exact .inl hl
 ·refine .inr ⟨g, cap, cur, e, hg, ?_, r⟩
  rw [k g (by injection e with e1; rw [e1]; rfl)]
  exact hh
theorem RowW.chg (h : RowW w E sz A n c xs) (k : Chg w w' S) (hn : ∀ b, inB A b → ¬ S b) : RowW w' E sz A n c xs := h.same fun b hb => k.block b (h.lt b hb) (hn b hb)
theorem RowW.new (h : RowW w E sz A n c xs) (k : Below w.heap.size w w') : RowW w' E sz A n c xs := h.same fun b hb => k.block b (h.lt b hb)
theorem RowW.drewN (h : RowW w E sz A n c xs) (m : Nat) : RowW (w.drewN m) E sz A n c xs := h.same fun _ _ => rfl
theorem RowW.nil (w : World) (E : TypeId) (sz : Nat) : RowW w E sz none 0 0 [] := ⟨World.ownsRow_nil w 0 E sz⟩
theorem RowW.len (h : RowW w E sz A n c xs) : xs.length = n * sz := h.own.1
theorem RowW.form (h : RowW w E sz A n c xs) (hn : 0 < n) : ∃ g, A = some ⟨g, 0, none⟩ ∧ g < w.heap.size ∧ ∀ j (hj : j < xs.length), w.cell? ⟨g, j, none⟩ = some xs[j] := by
 rcases h.own.2 with ⟨_, e⟩ | ⟨g, cap, cur, e, hg, hh, _⟩
 ·omega
 ·injection e with e1
  subst e1
  refine ⟨g, rfl, (Array.getElem?_eq_some_iff.1 hh).1, fun j hj => ?_⟩
  have hc := h.own.cells (g := g) rfl j xs[j] (List.getElem?_eq_getElem hj)
  have ea : (⟨g, 0, none⟩ : Addr).add j = ⟨g, 0 + j, none⟩ := by unfold Addr.add; split <;> simp_all
  rw [ea, Nat.zero_add] at hc
  exact hc
theorem RowW.capMax (h : RowW w E sz A n c xs) : n ≤ c ∧ c ≤ maxLen := by
 rcases h.own.2 with ⟨e, e2⟩ | ⟨g, cap, cur, e, hg, hh, h1, h2, _⟩
 ·injection e with _ _ e3
  subst e2 e3
  exact ⟨Nat.le_refl _, Nat.zero_le _⟩
 ·injection e with _ _ e3
  subst e3
  exact ⟨h1, h2⟩
end
def Apart (A A' : Option Addr) : Prop := ∀ b, inB A b → inB A' b → False
theorem Apart.symm {A A' : Option Addr} (h : Apart A A') : Apart A' A := fun b h1 h2 => h b h2 h1
theorem Apart.new {A A' : Option Addr} {g H : Nat} (h : Apart A A') (hk : ∀ b, inB A' b → b < H) (hat : inB A g ∨ H ≤ g) : Apart (some ⟨g, 0, none⟩) A' := by
 intro b h1 h2
 have e : g = b := by simpa [inB] using h1
 subst e
 rcases hat with e | e
 ·exact h g e h2
 ·have := hk g h2; omega
theorem chg_of_grown {A : Option Addr} {n c : Nat} (hb : Below w.heap.size w w1) (hg : w1.grownBy w' (Value.slice A n c).ownBlock) : Chg w w' (fun k => inB A k) :=
 (Chg.of_new hb _).trans ⟨hg.os, hg.tape, hg.output, hg.size, fun k hk hn => hg.block k hk fun e => hn (inB_own (n := n) (c := c).1 e.symm)⟩
theorem at_of {A : Option Addr} {n c H : Nat} (hz : w.heap.size ≤ H) (hat : (Value.slice A n c).ownBlock = some g ∨ g = H) : inB A g ∨ w.heap.size ≤ g := by
 rcases hat with e | e
 ·exact .inl (inB_own (n := n) (c := c).1 e)
 ·exact .inr (by omega)
end

theorem flat_len {l : List (List Value)} {sz : Nat} (h : ∀ r ∈ l, r.length = sz) : l.flatten.length = l.length * sz := by
 induction l with
 | nil => simp
 | cons r l ih =>
  rw [List.flatten_cons, List.length_append, h r (by simp), ih (fun r hr => h r (by simp [hr])), List.length_cons, Nat.add_mul, Nat.one_mul, Nat.add_comm]
theorem flat_get {l : List (List Value)} {sz : Nat} (h : ∀ r ∈ l, r.length = sz) {i j : Nat} (hi : i < l.length) (hj : j < sz) : l.flatten[i * sz + j]? = (l[i])[j]? := by
 induction l generalizing i with
 | nil => simp at hi
 | cons r l ih =>
  have hr := h r (by simp)
  cases i with
  | zero => rw [List.flatten_cons, List.getElem?_append_left (by omega), Nat.zero_mul, Nat.zero_add]; rfl
  | succ i =>
   rw [List.flatten_cons, List.getElem?_append_right (by rw [Nat.add_mul]; omega), hr, show (i + 1) * sz + j - sz = i * sz + j by rw [Nat.add_mul]; omega, ih (fun r hr => h r (by simp [hr])) (by simpa using hi)]
   rfl
theorem flat_set {l : List (List Value)} {sz : Nat} (h : ∀ r ∈ l, r.length = sz) {i : Nat} (hi : i < l.length) (r' : List Value) : (l.set i r').flatten = l.flatten.take (i * sz) ++ r' ++ l.flatten.drop (i * sz + sz) := by
 induction l generalizing i with
 | nil => simp at hi
 | cons r l ih =>
  have hr := h r (by simp)
  cases i with
  | zero =>
   rw [List.set_cons_zero, List.flatten_cons, List.flatten_cons, Nat.zero_mul, List.take_zero, List.nil_append, Nat.zero_add, ← hr, List.drop_left]
  | succ i =>
   have e1 : (i + 1) * sz = r.length + i * sz := by rw [Nat.add_mul, hr]; omega
   rw [List.set_cons_succ, List.flatten_cons, List.flatten_cons, ih (fun r hr => h r (by simp [hr])) (by simpa using hi), e1, List.take_length_add_append, show r.length + i * sz + sz = r.length + (i * sz + sz) by omega, List.drop_length_add_append]
   simp [List.append_assoc]

theorem u8_size : (Tryz.prog.info? 5).map (·.size) = some 1 := by kernel_rfl
theorem conv_src (s : ByteArray) (hs : s.size ≤ 1000000) (w : World) : ∃ A c W', (convert 9 37 (.string s)).run Tryz.prog w = .ok (.slice A s.size c) W' ∧ Src W' A s.size c s.data.toList ∧ Below w.heap.size w W' ∧ ∀ b o, A = some ⟨b, o, none⟩ → w.heap.size ≤ b := by
 refine ⟨_, _, _, run_bytes_of_string w 9 37 5 s Tryz.underlying9 Tryz.underlying37 Tryz.underlying5, ⟨⟨fun hp => ⟨w.heap.size, 0, rfl, (Array.getElem?_eq_some_iff.1 (heap_alloc_new w.drew _)).1, fun j hj => ?_⟩, Array.length_toList, grownCap_ge w _ _ _, ?_⟩, fun e => by cases e⟩, ?_, fun b o e => by cases e; exact Nat.le_refl _⟩
 ·have hj' : j < s.data.size := by simpa [bys] using hj
  have hh : (w.drew.alloc (.cells (bytesRow s (grownCap w s.size 0 5)) 5 ((bytesRow s (grownCap w s.size 0 5)).size, (bytesRow s (grownCap w s.size 0 5)).size + 1))).heap[w.heap.size]? = some (.cells (bytesRow s (grownCap w s.size 0 5)) 5 ((bytesRow s (grownCap w s.size 0 5)).size, (bytesRow s (grownCap w s.size 0 5)).size + 1)) := heap_alloc_new w.drew _
  rw [Nat.zero_add, cell_of_row _ _ _ _ _ _ hh, bytesRow_at s _ j hj']
  simp [bys]
 ·have := grownCap_le_maxLen w s.size 0 5 (by unfold maxLen; omega)
  simpa [maxLen] using this
 ·exact (⟨rfl, rfl, rfl, Nat.le_refl _, fun _ _ => rfl⟩ : Below w.heap.size w w.drew).alloc (Nat.le_refl _) _

theorem told_str {w : World} {A : Option Addr} {n c : Nat} {l : List UInt8} (hb : Src w A n c l) : (convert 37 9 (.slice A n c)).run Tryz.prog w = .ok (.string ⟨l.toArray⟩) w := by
 have hl := hb.len
 cases A with
 | none =>
  have hc := hb.none_ rfl
  have hn : n = 0 := by have := hb.cap; omega
  subst hn
  rw [List.length_eq_zero_iff.1 hl]
  exact run_convert_bytes_nil w 37 5 Tryz.underlying37 Tryz.underlying5 0 c 9 Tryz.underlying9
 | some ad =>
  subst hl
  exact run_convert_bytes_back w 37 9 5 ad c l Tryz.underlying37 Tryz.underlying5 Tryz.underlying9 fun j hj => by
   rw [Bytes.at_ ad hb.toBytes j _ (bys_get hj)]
theorem make256 (W : World) : (Instr.makeSlice 37 (.int .i64 256) (.int .i64 256)).run Tryz.prog W = .ok (.slice (some ⟨W.heap.size, 0, none⟩) 256 256) (W.alloc (.cells (madeCells #[.int .u8 0] 256) 5)) := by
 obtain ⟨i0, hi, hz0, hz1, hz2⟩ := u8_info
 have hr := run_make (P := Tryz.prog) W 37 5 i0 (.int .u8 0) Tryz.underlying37 hi hz0 .i64 .i64 256 256 (by omega) (by omega) (by rw [hz2]; omega) (by omega)
 simp only [hz1, Nat.mul_one] at hr
 exact hr
theorem made256 (w : World) : Src (w.alloc (.cells (madeCells #[.int .u8 0] 256) 5)) (some ⟨w.heap.size, 0, none⟩) 256 256 (List.replicate 256 0) := by
 refine ⟨⟨fun hp => ⟨w.heap.size, 0, rfl, (Blk.new w _ _).lt, fun j hj => ?_⟩, List.length_replicate, Nat.le_refl _, by omega⟩, fun e => by cases e⟩
 have hj' : j < 256 := by rw [bys_length, List.length_replicate] at hj; exact hj
 rw [(Blk.new w _ _).cell (0 + j), Nat.zero_add]
 unfold madeCells
 rw [Array.getElem?_map, Array.getElem?_range, if_pos hj']
 have e : j % (#[Value.int .u8 0] : Array Value).size = 0 := Nat.mod_one j
 simp only [Option.map_some, e]
 simp only [bys, List.getElem_map, List.getElem_replicate]
 rfl

/-! Regions that draw their order, operation by operation. -/
section
variable {P : Program} {ops : Array Oper} {Q : Exit → Act → World → Prop} {md : Region.Mode}
theorem any_one {fuel : Nat} {listed : Array Bool} {a : Act} {w : World} {i : Nat} {o : Oper} (hr : Region.ready md ops listed = [i]) (ho : ops[i]? = some o) (hw : Region.wanted o (yielded ops a.tmps) = true)
  (h : o.wp P a w (wpAny P md ops Q fuel (listed.setIfInBounds i true)) Q) : wpAny P md ops Q (fuel + 1) listed a w :=
 wpAny_ready hr (by simp) (AllReady.cons ho (fun K' hK => by rw [if_pos hw]; exact Oper.wp_mono (fun a w h => hK a w h) h) AllReady.nil)
theorem any_two {fuel : Nat} {listed : Array Bool} {a : Act} {w : World} {i j : Nat} {o o' : Oper} (hr : Region.ready md ops listed = [i, j]) (ho : ops[i]? = some o) (ho' : ops[j]? = some o') (hw : Region.wanted o (yielded ops a.tmps) = true) (hw' : Region.wanted o' (yielded ops a.tmps) = true)
  (h : o.wp P a w (wpAny P md ops Q fuel (listed.setIfInBounds i true)) Q) (h' : o'.wp P a w (wpAny P md ops Q fuel (listed.setIfInBounds j true)) Q) : wpAny P md ops Q (fuel + 1) listed a w :=
 wpAny_ready hr (by simp) (AllReady.cons ho (fun K' hK => by rw [if_pos hw]; exact Oper.wp_mono (fun a w h => hK a w h) h) (AllReady.cons ho' (fun K' hK => by rw [if_pos hw']; exact Oper.wp_mono (fun a w h => hK a w h) h') AllReady.nil))
theorem exec_arrayAt {o : Oper} {a : Act} {arr : TypeId} {x : Operand} (ho : o.op = .sliceToArrayPointer arr x) {v y : Value} (hx : a.eval x = y) (h : ∀ w, (Instr.arrayAt arr y).run P w = .ok v w) (w : World) : (execOp a.eval o).run P w = .ok (.value v) w := by
 unfold execOp
 simp only [ho, hx, Sem.run_bind, h, Result.andThen_ok, Sem.run_pure]
theorem exec_build {o : Oper} {a : Act} {t : TypeId} {parts : Array (Nat × Operand)} (ho : o.op = .build t parts) {v : Value} {ps : Array (Nat × Value)} (hx : (parts.map fun (i, x) => (i, a.eval x)) = ps) (h : ∀ w, (Instr.build t ps).run P w = .ok v w) (w : World) : (execOp a.eval o).run P w = .ok (.value v) w := by
 unfold execOp
 simp only [ho, hx, Sem.run_bind, h, Result.andThen_ok, Sem.run_pure]
theorem wp_slice_is {o : Oper} {a : Act} {w w' : World} {K : Act → World → Prop} {t : TypeId} {n : Nat} {parts : Array (Nat × Operand)} (ho : o.op = .buildSlice t n parts) {v : Value} {ps : Array (Nat × Value)} (hx : (parts.map fun (i, x) => (i, a.eval x)) = ps) (h : (Instr.buildSlice t n ps).run P w = .ok v w')
  (hk : K (a.put o.dst v) w') : o.wp P a w K Q := by
 unfold Oper.wp execOp
 simp only [ho, hx, Sem.run_bind, h, Result.andThen_ok, Sem.run_pure]
 exact hk
theorem wp_load_is {o : Oper} {a : Act} {w : World} {K : Act → World → Prop} {t : TypeId} {x : Operand} (ho : o.op = .load t x) {v y : Value} (hx : a.eval x = y) (h : (Instr.loadAt t y).run P w = .ok v w)
  (hk : K (a.put o.dst v) w) : o.wp P a w K Q := by
 unfold Oper.wp execOp
 simp only [ho, hx, Sem.run_bind, h, Result.andThen_ok, Sem.run_pure]
 exact hk
theorem wp_store_is {o : Oper} {a : Act} {w w' : World} {K : Act → World → Prop} {t : TypeId} {x y : Operand} (ho : o.op = .store t x y) {vx vy : Value} (hx : a.eval x = vx) (hy : a.eval y = vy) (h : (Instr.storeAt t vx vy).run P w = .ok () w')
  (hk : K (a.put o.dst undef) w') : o.wp P a w K Q := by
 unfold Oper.wp execOp
 simp only [ho, hx, hy, Sem.run_bind, h, Result.andThen_ok, Sem.run_pure]
 exact hk
end
end Go.Proofs.YtbkjjakkihbcdaaGreat.Di

/- A row of elements that is only read, at any place of its block. Conditions: those that each states. -/
namespace Go.Proofs.YtbkjjakkihbcdaaGreat.Rk
open Go.ChangeShapes Go.WideShapes Go.ChangeAt Go.RowKit Go.Deep
set_option linter.unusedVariables false
structure RowG (w : World) (sz : Nat) (A : Option Addr) (n c : Nat) (xs : List Value) : Prop where
 len : xs.length = n * sz
 cap : n ≤ c
 max : c ≤ maxLen
 none_ : A = none → n = 0 ∧ c = 0
 at_ : ∀ a, A = some a → 0 < n → a = ⟨a.block, a.off, none⟩ ∧ (a.block < w.heap.size ∧ ∀ j (h : j < xs.length), w.cell? ⟨a.block, a.off + j, none⟩ = some xs[j])
section
variable {w w' : World} {sz n c : Nat} {A : Option Addr} {xs : List Value} {S : Nat → Prop}
theorem RowG.chg (h : RowG w sz A n c xs) (k : Chg w w' S) (hn : ∀ a, A = some a → ¬ S a.block) : RowG w' sz A n c xs := by
 refine ⟨h.len, h.cap, h.max, h.none_, fun a e h0 => ?_⟩
 obtain ⟨h3, h1, h2⟩ := h.at_ a e h0
 refine ⟨h3, Nat.lt_of_lt_of_le h1 k.size, fun j hj => ?_⟩
 rw [World.cell?_of_block (w := w) (w' := w') (a := ⟨a.block, a.off + j, none⟩) (k.block a.block h1 (hn a e))]
 exact h2 j hj
theorem RowG.new (h : RowG w sz A n c xs) (k : Below w.heap.size w w') : RowG w' sz A n c xs := h.chg (Chg.of_new k fun _ => False) (fun _ _ => id)
theorem RowG.nil (w : World) (sz : Nat) : RowG w sz none 0 0 [] := ⟨by simp, Nat.le_refl _, Nat.zero_le _, fun _ => ⟨rfl, rfl⟩, fun a e => by cases e⟩
theorem RowG.cell (h : RowG w sz A n c xs) {j : Nat} (hj : j < xs.length) : ∃ b o, A = some ⟨b, o, none⟩ ∧ b < w.heap.size ∧ w.cell? ⟨b, o + j, none⟩ = some xs[j] := by
 have hn : 0 < n := by
  rcases Nat.eq_zero_or_pos n with e | e
  ·have := h.len; rw [e, Nat.zero_mul] at this; omega
  ·exact e
 cases hA : A with
 | none => have := (h.none_ hA).1; omega
 | some a =>
  obtain ⟨e, h1, h2⟩ := h.at_ a hA hn
  exact ⟨a.block, a.off, by rw [← e], h1, h2 j hj⟩
theorem RowG.sub (h : RowG w sz A n c xs) {i m : Nat} (hi : i ≤ m) (hm : m ≤ n) : RowG w sz (A.map fun a => ⟨a.block, a.off + i * sz, none⟩) (m - i) (c - i) ((xs.drop (i * sz)).take ((m - i) * sz)) := by
 have e1 : m * sz ≤ n * sz := Nat.mul_le_mul_right sz hm
 have e2 : (m - i) * sz = m * sz - i * sz := Nat.sub_mul m i sz
 have e3 : i * sz ≤ m * sz := Nat.mul_le_mul_right sz hi
 have hl := h.len
 refine ⟨by simp; omega, by have := h.cap; omega, by have := h.max; omega, fun e => ?_, fun a e => ?_⟩
 ·cases A with
  | none => have := h.none_ rfl; omega
  | some a => cases e
 ·cases hA : A with
  | none => rw [hA] at e; cases e
  | some a0 =>
   rw [hA] at e
   cases e
   intro h0
   obtain ⟨_, h1, h2⟩ := h.at_ a0 hA (by omega)
   refine ⟨rfl, h1, fun j hj => ?_⟩
   have hj2 : j < (m - i) * sz := by simp at hj; omega
   have := h2 (i * sz + j) (by omega)
   rw [show a0.off + i * sz + j = a0.off + (i * sz + j) from by omega]
   simpa using this
theorem RowG.of_owns {B : Nat} {E : TypeId} {v : Value} (h : w.ownsRow B E sz v n xs) : ∃ A c, v = .slice A n c ∧ RowG w sz A n c xs ∧ ∀ a, A = some a → B ≤ a.block ∧ a.block < w.heap.size := by
 rcases h.2 with ⟨rfl, rfl⟩ | ⟨g, cap, cur, rfl, hg, hh, h1, h2, _⟩
 ·have hl := h.1
  rw [Nat.zero_mul] at hl
  obtain rfl := List.length_eq_zero_iff.1 hl
  exact ⟨none, 0, rfl, ⟨by simp, Nat.le_refl _, Nat.zero_le _, fun _ => ⟨rfl, rfl⟩, fun a e => (by cases e)⟩, fun a e => (by cases e)⟩
 ·have hlt := (Array.getElem?_eq_some_iff.1 hh).1
  refine ⟨some ⟨g, 0, none⟩, cap, rfl, ⟨h.1, h1, h2, fun e => (by cases e), fun a e => ?_⟩, fun a e => (by cases e; exact ⟨hg, hlt⟩)⟩
  cases e
  refine fun _ => ⟨rfl, hlt, fun j hj => ?_⟩
  have hc := World.ownsRow.cells h rfl j xs[j] (List.getElem?_eq_getElem hj)
  have ea : (⟨g, 0, none⟩ : Addr).add j = ⟨g, 0 + j, none⟩ := by unfold Addr.add; split <;> simp_all
  rw [ea] at hc
  exact hc
end
end Go.Proofs.YtbkjjakkihbcdaaGreat.Rk

/- A region that draws its order, whose last operations come up one behind the other when all others have: its head is walked as a region of its own, its tail behind it in the text's order. Conditions: those that each states. -/
namespace Go.Proofs.YtbkjjakkihbcdaaGreat
open Go Go.Deep

section
variable {P : Program} {md : Region.Mode} {Q : Exit → Act → World → Prop}

def TailPost (P : Program) (l : List Oper) (Q : Exit → Act → World → Prop) (l₂ : List Oper) : Exit → Act → World → Prop
 | .normal, a, w => wpList P l.toArray Q l₂ a w
 | e, a, w => Q e a w

def Region.headB (ops : Array Oper) (n : Nat) : Bool :=
 (List.range n).all fun i => match ops[i]? with
   | some o => o.after.all (fun e => decide (e.on < i)) && (match o.guard with | some (g, _) => decide (g < n) | none => true)
   | none => false
theorem Region.headB_spec {ops : Array Oper} {n i : Nat} (h : Region.headB ops n = true) (hi : i < n) : ∃ o, ops[i]? = some o ∧ (∀ e ∈ o.after, e.on < i) ∧ ∀ g b, o.guard = some (g, b) → g < n := by
 have h1 := List.all_eq_true.1 h i (List.mem_range.2 hi)
 cases ho : ops[i]? with
 | none => simp [ho] at h1
 | some o =>
  simp only [ho, Bool.and_eq_true] at h1
  refine ⟨o, rfl, fun e he => ?_, fun g b hg => ?_⟩
  ·have := Array.all_eq_true_iff_forall_mem.1 h1.1 e he
   simpa using this
  ·have h2 := h1.2
   rw [hg] at h2
   simpa using h2

theorem getD_left {a b : Array Bool} {i : Nat} {d : Bool} (h : i < a.size) : (a ++ b).getD i d = a.getD i d := by
 simp [Array.getD, h, Nat.lt_of_lt_of_le h (Nat.le_add_right _ _)]

theorem ready_head {l₁ l₂ : List Oper} {listed : Array Bool} {t : Array Bool} (hz : listed.size = l₁.length) {i : Nat} (hB : Region.headB (l₁ ++ l₂).toArray l₁.length = true) (hi : i < l₁.length) :
  i ∈ Region.ready md (l₁ ++ l₂).toArray (listed ++ t) ↔ i ∈ Region.ready md l₁.toArray listed := by
 obtain ⟨o, ho, he, _⟩ := Region.headB_spec hB hi
 have ho1 : l₁.toArray[i]? = some o := by
  simp only [List.getElem?_toArray] at ho ⊢
  rw [List.getElem?_append_left hi] at ho
  exact ho
 rw [mem_ready, mem_ready, getD_left (by omega)]
 constructor
 ·rintro ⟨h1, o', ho', h2⟩
  obtain rfl : o' = o := by rw [ho] at ho'; injection ho' with e; exact e.symm
  refine ⟨h1, o', ho1, fun e hm hb => ?_⟩
  have := h2 e hm hb
  rw [getD_left (by have := he e hm; omega)] at this
  exact this
 ·rintro ⟨h1, o', ho', h2⟩
  obtain rfl : o' = o := by rw [ho1] at ho'; injection ho' with e; exact e.symm
  refine ⟨h1, o', ho, fun e hm hb => ?_⟩
  rw [getD_left (by have := he e hm; omega)]
  exact h2 e hm hb

theorem wanted_head {l₁ l₂ : List Oper} {i : Nat} {o : Oper} (hB : Region.headB (l₁ ++ l₂).toArray l₁.length = true) (hi : i < l₁.length) (ho : (l₁ ++ l₂).toArray[i]? = some o) (tmps : Array Value) :
  Region.wanted o (yielded (l₁ ++ l₂).toArray tmps) = Region.wanted o (yielded l₁.toArray tmps) := by
 obtain ⟨o', ho', _, hg⟩ := Region.headB_spec hB hi
 obtain rfl : o' = o := by rw [ho] at ho'; injection ho' with e; exact e.symm
 unfold Region.wanted
 cases hgd : o'.guard with
 | none => rfl
 | some p =>
  obtain ⟨g, b⟩ := p
  have hlt := hg g b hgd
  have e : yielded (l₁ ++ l₂).toArray tmps g = yielded l₁.toArray tmps g := by
   unfold yielded
   simp only [List.getElem?_toArray]
   rw [List.getElem?_append_left hlt]
  simp only [e]

theorem wpOp_head {l₁ l₂ : List Oper} {i : Nat} {K K₁ : Act → World → Prop} {a : Act} {w : World} (hB : Region.headB (l₁ ++ l₂).toArray l₁.length = true) (hi : i < l₁.length) (hK : ∀ a w, K₁ a w → K a w)
  (h : wpOp P l₁.toArray (TailPost P (l₁ ++ l₂) Q l₂) i K₁ a w) : wpOp P (l₁ ++ l₂).toArray Q i K a w := by
 obtain ⟨o, ho, _, _⟩ := Region.headB_spec hB hi
 have ho1 : l₁.toArray[i]? = some o := by
  simp only [List.getElem?_toArray] at ho ⊢
  rw [List.getElem?_append_left hi] at ho
  exact ho
 have hw := wanted_head hB hi ho a.tmps
 unfold wpOp at *
 simp only [ho, ho1, hw] at h ⊢
 split
 ·rename_i hwt
  simp only [hwt, if_true] at h
  rcases h with h | ⟨h1, h2⟩
  ·refine .inl ?_
   unfold Oper.wp at *
   generalize (execOp a.eval o).run P w = r at *
   cases r with
   | ok n w' =>
    cases n <;> simp only [Oper.upon] at h ⊢
    case value => exact hK _ _ h
    case skip => exact hK _ _ h
    case defer => exact hK _ _ h
    case enter =>
     refine Calls.mono h fun e w'' he => ?_
     cases e with
     | returned v => exact hK _ _ he
     | panicked c => exact he
     | outgrown => exact he
    case row => exact Rows.mono h fun _ _ he => hK _ _ he
   | halt x w' => cases x <;> simp only [Oper.upon] at h ⊢; exact h
  ·exact .inr ⟨h1, h2⟩
 ·rename_i hwt
  simp only [hwt] at h
  exact hK _ _ h

def unlisted (listed : Array Bool) : Nat := (listed.toList.filter (! ·)).length
theorem unlisted_set {listed : Array Bool} {i : Nat} (hi : i < listed.size) (h : listed.getD i true = false) : unlisted listed = unlisted (listed.setIfInBounds i true) + 1 := by
 unfold unlisted
 obtain ⟨l⟩ := listed
 simp only [List.size_toArray] at hi
 simp only [List.setIfInBounds_toArray]
 have hl : l[i] = false := by simpa [Array.getD, hi] using h
 clear h
 induction l generalizing i with
 | nil => simp at hi
 | cons b l ih =>
  cases i with
  | zero =>
   have : b = false := by simpa using hl
   subst this
   simp
  | succ i =>
   have := ih (i := i) (by simpa using hi) (by simpa using hl)
   cases b <;> simp [this]
theorem unlisted_zero {listed : Array Bool} (h : unlisted listed = 0) : listed = Array.replicate listed.size true := by
 apply Array.ext
 ·simp
 ·intro i h1 h2
  rw [Array.getElem_replicate]
  unfold unlisted at h
  have h3 : ∀ b ∈ listed.toList, b = true := by
   intro b hb
   have := List.length_eq_zero_iff.1 h
   rw [List.filter_eq_nil_iff] at this
   simpa using this b hb
  exact h3 _ (by simp)

theorem wpAny_head {l₁ l₂ : List Oper} (hs : Region.sinkB md (l₁ ++ l₂).toArray l₁.length = true) (hc : Region.chainB md (l₁ ++ l₂).toArray l₁.length = true) (hn : 0 < l₂.length)
  (hB : Region.headB (l₁ ++ l₂).toArray l₁.length = true)
  (hq : Region.seqB md (l₁ ++ l₂).toArray l₂.length l₁.length (Array.replicate l₁.length true ++ Array.replicate l₂.length false) = true) :
  ∀ (f : Nat) (listed : Array Bool) (a : Act) (w : World), listed.size = l₁.length → unlisted listed = f → HeadInv md (l₁ ++ l₂).toArray l₁.length (listed ++ Array.replicate l₂.length false) →
   wpAny P md l₁.toArray (TailPost P (l₁ ++ l₂) Q l₂) f listed a w → wpAny P md (l₁ ++ l₂).toArray Q (f + l₂.length) (listed ++ Array.replicate l₂.length false) a w := by
 intro f
 induction f with
 | zero =>
  intro listed a w hz hu inv h
  have e := unlisted_zero hu
  rw [hz] at e
  rw [Nat.zero_add, e]
  exact wpAny_of_seq (md := md) l₂ l₁.length _ a w (fun j => by simp [List.getElem?_append_right]) hq h.2
 | succ f ih =>
  intro listed a w hz hu inv h
  rw [show f + 1 + l₂.length = (f + l₂.length) + 1 by omega]
  -- the first that has not come up
  have hex : ∃ i, i < l₁.length ∧ listed.getD i true = false ∧ ∀ j, j < i → listed.getD j false = true := by
   have key : ∀ (k : Nat), k ≤ l₁.length → (∃ i, i < k ∧ listed.getD i true = false ∧ ∀ j, j < i → listed.getD j false = true) ∨ ∀ j, j < k → listed.getD j false = true := by
    intro k
    induction k with
    | zero => intro _; exact .inr fun j hj => absurd hj (Nat.not_lt_zero _)
    | succ k ihk =>
     intro hk
     rcases ihk (by omega) with ⟨i, h1, h2⟩ | h1
     ·exact .inl ⟨i, by omega, h2⟩
     ·cases hb : listed.getD k false with
      | true =>
       refine .inr fun j hj => ?_
       by_cases e : j = k
       ·rw [e]; exact hb
       ·exact h1 j (by omega)
      | false => exact .inl ⟨k, by omega, getD_in (by omega) hb, h1⟩
   rcases key l₁.length (Nat.le_refl _) with h1 | h1
   ·exact h1
   ·exfalso
    have e : listed = Array.replicate l₁.length true := by
     apply Array.ext
     ·simp [hz]
     ·intro i h2 h3
      have := h1 i (by omega)
      rw [Array.getElem_replicate]
      simpa [Array.getD, h2] using this
    rw [e] at hu
    unfold unlisted at hu
    simp at hu
  obtain ⟨i0, hi0, hun0, hpre⟩ := hex
  have hr0 : i0 ∈ Region.ready md l₁.toArray listed := by
   obtain ⟨o, ho, he, _⟩ := Region.headB_spec hB hi0
   rw [mem_ready]
   refine ⟨hun0, o, ?_, fun e hm _ => hpre _ (he e hm)⟩
   simp only [List.getElem?_toArray] at ho ⊢
   rw [List.getElem?_append_left hi0] at ho
   exact ho
  refine ⟨fun h0 => ?_, fun i hi => ?_⟩
  ·have := (ready_head (t := Array.replicate l₂.length false) hz hB hi0).2 hr0
   rw [h0] at this
   cases this
  ·have hnn : l₁.length < (l₁ ++ l₂).toArray.size := by simp; omega
   have hil : i < l₁.length := by
    rcases Nat.lt_or_ge i l₁.length with h1 | h1
    ·exact h1
    ·exact absurd hi (tail_waits hs hc hnn inv _ i0 rfl hi0 (by rw [getD_left (by omega)]; exact hun0) i h1)
   have hr1 := (ready_head (t := Array.replicate l₂.length false) hz hB hil).1 hi
   have hst : (listed ++ Array.replicate l₂.length false).setIfInBounds i true = listed.setIfInBounds i true ++ Array.replicate l₂.length false := by
    apply Array.ext'
    simp only [Array.toList_setIfInBounds, Array.toList_append]
    rw [List.set_append_left _ _ (by simpa [hz] using hil)]
   refine wpOp_head hB hil (fun a' w' h' => ?_) (h.2 i hr1)
   rw [hst]
   refine ih _ a' w' (by simpa using hz) ?_ ?_ h'
   ·have := unlisted_set (listed := listed) (i := i) (by omega) (mem_ready.1 hr1).1
    omega
   ·rw [← hst]
    exact inv.set hi hil

theorem wp_region_head {id : Nat} {a : Act} {w : World} {l l₁ l₂ : List Oper} (n : Nat) (hm : P.follows .mixedOrders = true) (h1 : l.take n = l₁) (h2 : l.drop n = l₂)
  (hB : (decide (l₁.length = n) && decide (0 < l₂.length) && Region.sinkB .any l.toArray n && Region.chainB .any l.toArray n && Region.headB l.toArray n && Region.seqB .any l.toArray l₂.length n (Array.replicate n true ++ Array.replicate l₂.length false)) = true)
  (h : wpAny P .any l₁.toArray (TailPost P l Q l₂) l₁.toArray.size (Array.replicate l₁.toArray.size false) a { w with drawn := w.drawn + 1 }) : (Code.region id l.toArray true).wp P Q a w := by
 have el : l = l₁ ++ l₂ := by rw [← h1, ← h2, List.take_append_drop]
 clear h1 h2
 subst el
 simp only [Bool.and_eq_true, decide_eq_true_eq] at hB
 obtain ⟨⟨⟨⟨⟨hl, hn⟩, hs⟩, hc⟩, hh⟩, hq⟩ := hB
 subst hl
 refine wp_region_any hm ?_
 have inv0 : HeadInv .any (l₁ ++ l₂).toArray l₁.length (Array.replicate (l₁ ++ l₂).toArray.size false) :=
  ⟨by simp, fun j oj _ hl => (by rw [getD_replicate_false] at hl; cases hl), fun t _ ht => getD_in (by simpa using ht) (getD_replicate_false _ _)⟩
 have er : Array.replicate (l₁ ++ l₂).toArray.size false = Array.replicate l₁.length false ++ Array.replicate l₂.length false := by simp [Array.replicate_append_replicate]
 rw [er] at inv0 ⊢
 have := wpAny_head (P := P) (Q := Q) hs hc hn hh hq l₁.length (Array.replicate l₁.length false) a { w with drawn := w.drawn + 1 } (by simp) (by simp [unlisted]) inv0 (by simpa using h)
 simpa using this
end

theorem owns_mono {w : World} {base base' : Nat} {e : TypeId} {size : Nat} {v : Value} {n : Nat} {xs : List Value} (h : w.ownsRow base e size v n xs) (hb : base' ≤ base) : w.ownsRow base' e size v n xs := by
 refine ⟨h.1, ?_⟩
 rcases h.2 with h0 | ⟨g, cap, cur, h1, h2, h3⟩
 ·exact .inl h0
 ·exact .inr ⟨g, cap, cur, h1, Nat.le_trans hb h2, h3⟩
/-! A held region, operation by operation. -/
section
variable {P : Program} {ops : Array Oper} {Q : Exit → Act → World → Prop} {md : Region.Mode} {S : World → Prop}
theorem held_one {fuel : Nat} {listed : Array Bool} {a : Act} {w : World} {i : Nat} {o : Oper} (hr : Region.ready md ops listed = [i]) (ho : ops[i]? = some o) (hw : Region.wanted o (yielded ops a.tmps) = true)
  (h : o.wp P a w (fun a' w' => S w' ∧ wpAnyH P md ops Q S fuel (listed.setIfInBounds i true) a' w') Q) : wpAnyH P md ops Q S (fuel + 1) listed a w :=
 wpAnyH_all hr (by simp) fun j hj => by
  rw [List.mem_singleton.1 hj]
  unfold wpOp
  simp only [ho, hw, if_true]
  exact .inl h
theorem held_two {fuel : Nat} {listed : Array Bool} {a : Act} {w : World} {i j : Nat} {o o' : Oper} (hr : Region.ready md ops listed = [i, j]) (ho : ops[i]? = some o) (ho' : ops[j]? = some o') (hw : Region.wanted o (yielded ops a.tmps) = true) (hw' : Region.wanted o' (yielded ops a.tmps) = true)
  (h : o.wp P a w (fun a' w' => S w' ∧ wpAnyH P md ops Q S fuel (listed.setIfInBounds i true) a' w') Q) (h' : o'.wp P a w (fun a' w' => S w' ∧ wpAnyH P md ops Q S fuel (listed.setIfInBounds j true) a' w') Q) : wpAnyH P md ops Q S (fuel + 1) listed a w :=
 wpAnyH_all hr (by simp) fun k hk => by
  rcases List.mem_cons.1 hk with e | e
  ·rw [e]
   unfold wpOp
   simp only [ho, hw, if_true]
   exact .inl h
  ·rw [List.mem_singleton.1 e]
   unfold wpOp
   simp only [ho', hw', if_true]
   exact .inl h'
theorem held_take {i : Nat} {oi : Oper} {v : Value} {d : Option Tmp} {fuel : Nat} {listed : Array Bool} {a : Act} {w : World} (hi : ops[i]? = some oi) (hd : oi.dst = d)
  (hs : Region.noSelect ops = true) (hf : Region.free md ops listed i = true) (hr : (Region.ready md ops listed).contains i = true)
  (hQ : ∀ c a w, Q (.panic c) (a.put oi.dst v) w → Q (.panic c) a w) (hw : Region.wanted oi (yielded ops a.tmps) = true) (hy : ∀ w, S w → (execOp a.eval oi).run P w = .ok (.value v) w) (hS : S w)
  (h : wpAnyH P md ops Q S fuel (listed.setIfInBounds i true) (a.put d v) w) : wpAnyH P md ops Q S (fuel + 1) listed a w := by
 subst hd
 exact wpAnyH_take hi hs hf hr hQ (Or.inl ⟨hw, hy⟩) hS h
theorem ht (i : Nat) (d : Option Tmp) {oi : Oper} {v : Value} {fuel : Nat} {listed : Array Bool} {a : Act} {w : World} (hi : ops[i]? = some oi) (hd : oi.dst = d) (hy : ∀ w, S w → (execOp a.eval oi).run P w = .ok (.value v) w) (hS : S w)
 (h : wpAnyH P md ops Q S fuel (listed.setIfInBounds i true) (a.put d v) w)
 (hs : Region.noSelect ops = true := by kernel_rfl) (hf : Region.free md ops listed i = true := by kernel_rfl) (hr : (Region.ready md ops listed).contains i = true := by kernel_rfl)
 (hQ : ∀ c a w, Q (.panic c) (a.put oi.dst v) w → Q (.panic c) a w := by exact fun _ _ _ h => h) (hw : Region.wanted oi (yielded ops a.tmps) = true := by rfl) : wpAnyH P md ops Q S (fuel + 1) listed a w :=
 held_take hi hd hs hf hr hQ hw hy hS h
theorem held_skip {i : Nat} {oi : Oper} {d : Option Tmp} {fuel : Nat} {listed : Array Bool} {a : Act} {w : World} (hi : ops[i]? = some oi) (hd : oi.dst = d)
  (hs : Region.noSelect ops = true) (hf : Region.free md ops listed i = true) (hr : (Region.ready md ops listed).contains i = true)
  (hQ : ∀ c a w, Q (.panic c) (a.put oi.dst undef) w → Q (.panic c) a w) (hw : Region.wanted oi (yielded ops a.tmps) = false) (hS : S w)
  (h : wpAnyH P md ops Q S fuel (listed.setIfInBounds i true) (a.put d undef) w) : wpAnyH P md ops Q S (fuel + 1) listed a w := by
 subst hd
 exact wpAnyH_take hi hs hf hr hQ (Or.inr ⟨hw, rfl⟩) hS h
theorem wp_slice_d {o : Oper} {a : Act} {w w' : World} {K : Act → World → Prop} {t : TypeId} {n : Nat} {parts : Array (Nat × Operand)} {d : Option Tmp} (hd : o.dst = d) (ho : o.op = .buildSlice t n parts) {v : Value} {ps : Array (Nat × Value)} (hx : (parts.map fun (i, x) => (i, a.eval x)) = ps) (h : (Instr.buildSlice t n ps).run P w = .ok v w')
  (hk : K (a.put d v) w') : o.wp P a w K Q := by
 subst hd
 unfold Oper.wp execOp
 simp only [ho, hx, Sem.run_bind, h, Result.andThen_ok, Sem.run_pure]
 exact hk
theorem exec_load {a : Act} {o : Oper} {t : TypeId} {x : Operand} (ho : o.op = .load t x) {v y : Value} (hx : a.eval x = y) {w : World} (h : (Instr.loadAt t y).run P w = .ok v w) : (execOp a.eval o).run P w = .ok (.value v) w := by
 unfold execOp
 simp only [ho, hx, Sem.run_bind, h, Result.andThen_ok, Sem.run_pure]
theorem exec_build' {a : Act} {o : Oper} {t : TypeId} {parts : Array (Nat × Operand)} (ho : o.op = .build t parts) {v : Value} {ps : Array (Nat × Value)} (hx : (parts.map fun (i, x) => (i, a.eval x)) = ps) (h : ∀ w, (Instr.build t ps).run P w = .ok v w) (w : World) : (execOp a.eval o).run P w = .ok (.value v) w := by
 unfold execOp
 simp only [ho, hx, Sem.run_bind, h, Result.andThen_ok, Sem.run_pure]
theorem wp_append_d {o : Oper} {a : Act} {w : World} {K : Act → World → Prop} {d : Option Tmp} (hd : o.dst = d) (s x : Operand) (t : TypeId) (ho : o.op = .call { callee := .builtin .append, args := #[s, x], argTypes := #[t, t] })
  (base : Nat) (e : TypeId) (i : TypeInfo) (z : Value) (size bytes : Nat) (ht : P.underlying t = some (.slice e)) (hi : P.info? e = some i) (hz : i.zero = some z)
  (hsize : i.size = size) (hby : i.bytes = bytes) (hzs : z.cells.size = size) (hsz : 0 < size)
  (v : Value) (n : Nat) (xs : List Value) (hs : a.eval s = v) (hown : w.ownsRow base e size v n xs)
  (ad : Addr) (m c : Nat) (news : List Value) (hx : a.eval x = .slice (some ad) m c) (hl : news.length = m * size) (hnews : ∀ j u, news[j]? = some u → w.cell? (ad.add j) = some u) (h1 : ∀ u ∈ news, u.oneCell' = true)
  (hm : 0 < m) (h63 : n + m ≤ maxLen) (hbytes : (n + m) * bytes ≤ 140737488355328) (hbase : base ≤ w.heap.size)
  (h : ∀ g cap w', w'.ownsRow base e size (.slice (some ⟨g, 0, none⟩) (n + m) cap) (n + m) (xs ++ news) → w.grownBy w' v.ownBlock → (v.ownBlock = some g ∨ g = w.heap.size) → g < w'.heap.size → K (a.put d (.slice (some ⟨g, 0, none⟩) (n + m) cap)) w') : o.wp P a w K Q := by
 subst hd
 exact wp_append_lies w s x t ho base e i z size bytes ht hi hz hsize hby hzs hsz v n xs hs hown ad m c news hx hl hnews h1 hm h63 hbytes hbase _ rfl h
theorem wp_head_held {id : Nat} {a : Act} {w : World} {l l₁ l₂ : List Oper} (n : Nat) (hm : P.follows .mixedOrders = true) (h1 : l.take n = l₁) (h2 : l.drop n = l₂)
  (hB : (decide (l₁.length = n) && decide (0 < l₂.length) && Region.sinkB .any l.toArray n && Region.chainB .any l.toArray n && Region.headB l.toArray n && Region.seqB .any l.toArray l₂.length n (Array.replicate n true ++ Array.replicate l₂.length false)) = true)
  (h : wpAnyH P .any l₁.toArray (TailPost P l Q l₂) S l₁.toArray.size (Array.replicate l₁.toArray.size false) a w.drew) : (Code.region id l.toArray true).wp P Q a w :=
 wp_region_head n hm h1 h2 hB (wpAny_of_held _ _ _ _ h)
theorem wp_append_copy {o : Oper} {a : Act} {w : World} {K : Act → World → Prop} {d : Option Tmp} (hd : o.dst = d) (s x : Operand) (t : TypeId) (ho : o.op = .call { callee := .builtin .append, args := #[s, x], argTypes := #[t, t] })
  (base : Nat) (e : TypeId) (i : TypeInfo) (z : Value) (size bytes : Nat) (ht : P.underlying t = some (.slice e)) (hi : P.info? e = some i) (hz : i.zero = some z)
  (hsize : i.size = size) (hby : i.bytes = bytes) (hzs : z.cells.size = size) (hsz : 0 < size)
  (v : Value) (n : Nat) (xs : List Value) (hs : a.eval s = v) (hown : w.ownsRow base e size v n xs)
  (A : Option Addr) (m c : Nat) (ys : List Value) (hx : a.eval x = .slice A m c) (hsrc : w.ownsRow 0 e size (.slice A m c) m ys) (h1 : ∀ u ∈ ys, u.oneCell' = true)
  (h63 : n + m ≤ maxLen) (hbytes : (n + m) * bytes ≤ 140737488355328) (hbase : base ≤ w.heap.size)
  (h : ∀ v' w', w'.ownsRow base e size v' (n + m) (xs ++ ys) → w.grownBy w' v.ownBlock → (v'.ownBlock = v.ownBlock ∨ v'.ownBlock = some w.heap.size) → K (a.put d v') w') : o.wp P a w K Q := by
 subst hd
 cases A with
 | none =>
  have hmc : m = 0 ∧ c = 0 := by
   rcases hsrc.2 with ⟨e, _⟩ | ⟨g, cap, cur, e, _⟩
   ·injection e with _ e2 e3
    exact ⟨e2, e3⟩
   ·cases e
  obtain ⟨rfl, rfl⟩ := hmc
  have hy : ys = [] := List.length_eq_zero_iff.1 (by rw [hsrc.1, Nat.zero_mul])
  subst hy
  have hrun := run_append_owned_none (P := P) (w := w) base t o.type e i size ht hi v n xs hown
  unfold Oper.wp execOp
  simp only [ho, resolve, invoke, builtin, Sem.run_bind, Sem.run_pure, Result.andThen_ok, List.map_toArray, List.map_cons, List.map_nil, hs, hx, hrun]
  exact h v w (by rw [List.append_nil]; exact hown) (World.grownBy.refl _ _) (.inl rfl)
 | some ad =>
  obtain ⟨v', w', hr, h2, h3, _, h5⟩ := run_append_own_at (P := P) w base t o.type e i z size bytes ht hi hz hsize hby hzs hsz v n xs hown ad m c ys hsrc.1 (fun j u hu => by
   rcases hsrc.2 with ⟨e, _⟩ | ⟨g, cap, cur, e, r⟩
   ·cases e
   ·injection e with e1
    injection e1 with e1
    subst e1
    exact World.ownsRow.cells hsrc rfl j u hu) h1 h63 hbytes hbase
  unfold Oper.wp execOp
  simp only [ho, resolve, invoke, builtin, Sem.run_bind, Sem.run_pure, Result.andThen_ok, List.map_toArray, List.map_cons, List.map_nil, hs, hx, hr]
  exact h v' w' h2 h3 h5
end
end Go.Proofs.YtbkjjakkihbcdaaGreat

/- Programs that tell packets, in plain words; such a program in memory. No condition. -/
namespace Go.Proofs.YtbkjjakkihbcdaaGreat
open Go.ChangeShapes Go.WideShapes Go.ChangeAt Go.RowKit Go.Deep
set_option linter.unusedVariables false

structure Ins where
 code : Int
 k : Int
 t : Int
 f : Int
instance : Inhabited Ins := ⟨⟨0, 0, 0, 0⟩⟩
structure Ins.Ok (q : Ins) : Prop where
 code : -9223372036854775808 ≤ q.code ∧ q.code ≤ 9223372036854775807
 k : 0 ≤ q.k ∧ q.k < 4294967296
 t : -9223372036854775808 ≤ q.t ∧ q.t ≤ 9223372036854775807
 f : -9223372036854775808 ≤ q.f ∧ q.f ≤ 9223372036854775807
def Ins.list (q : Ins) : List Value := [.int .i64 q.code, .int .u32 q.k, .int .i64 q.t, .int .i64 q.f]
def leaveB (n : Int) : Bool := decide (0 ≤ n) && decide (n ≤ 255)
def asks (q : Ins) : Bool := q.code == 5 || q.code == 6
def mayB (q : Ins) (behind : Int) : Bool :=
 !(decide (q.code < 0)) && !(decide (q.code > 8)) && leaveB q.t && leaveB q.f && (if asks q = true then decide (q.t < behind) && decide (q.f < behind) else true)
structure Chk (p : List Ins) : Prop where
 n1 : 1 ≤ p.length
 n2 : p.length ≤ 64
 may : ∀ i (h : i < p.length), mayB p[i] ((p.length : Int) - 1 - i) = true
 last : ∀ (h : p.length - 1 < p.length), p[p.length - 1].code = 7 ∨ p[p.length - 1].code = 8

def joined (l : List UInt8) : Int := l.foldl (fun n b => bits .or .u32 (n * 256 % 4294967296) ((b.toNat : Int) % 4294967296)) 0
def num (s : List UInt8) (i w : Nat) : Option Int := if i + w ≤ s.length then some (joined ((s.drop i).take w)) else none
def runF (p : List Ins) (s : List UInt8) : Nat → Nat → Int → Int
 | 0, _, _ => 0
 | n + 1, i, a =>
  match p[i]? with
  | none => 0
  | some q =>
   if q.code = 0 then (match num s q.k.toNat 1 with | none => 0 | some x => runF p s n (i + 1) x)
   else if q.code = 1 then (match num s q.k.toNat 2 with | none => 0 | some x => runF p s n (i + 1) x)
   else if q.code = 2 then (match num s q.k.toNat 4 with | none => 0 | some x => runF p s n (i + 1) x)
   else if q.code = 3 then runF p s n (i + 1) (bits .and .u32 a q.k)
   else if q.code = 4 then runF p s n (i + 1) (a / 2 ^ min q.k.toNat 32)
   else if q.code = 5 then runF p s n (i + 1 + (if a = q.k then q.t else q.f).toNat) a
   else if q.code = 6 then runF p s n (i + 1 + (if a > q.k then q.t else q.f).toNat) a
   else if q.code = 7 then q.k
   else a
def runP (p : List Ins) (s : List UInt8) : Int := runF p s p.length 0 0

def Prg (w : World) (A : Option Addr) (p : List Ins) : Prop := ∀ i (h : i < p.length), ∃ b o, A = some ⟨b, o, none⟩ ∧ b < w.heap.size ∧ w.rangeAt b (o + i * 4) p[i].list
section
variable {w w' : World} {A : Option Addr} {p : List Ins} {S : Nat → Prop}
theorem Prg.older (h : Prg w A p) (k : Older w w') : Prg w' A p := by
 intro i hi
 obtain ⟨b, o, e, hb, h1⟩ := h i hi
 refine ⟨b, o, e, Nat.lt_of_lt_of_le hb k.1, fun j v hj => ?_⟩
 rw [World.cell?_of_block (w := w) (w' := w') (a := ⟨b, o + i * 4 + j, none⟩) (k.2 b hb)]
 exact h1 j v hj
theorem Prg.new (h : Prg w A p) (k : Below w.heap.size w w') : Prg w' A p := h.older (older_below k)
end
def flat (p : List Ins) : List Value := (p.map Ins.list).flatten
theorem flat_snoc (p : List Ins) (q : Ins) : flat (p ++ [q]) = flat p ++ q.list := by unfold flat; simp
theorem flat_append (p q : List Ins) : flat (p ++ q) = flat p ++ flat q := by unfold flat; simp
theorem flat_length (p : List Ins) : (flat p).length = p.length * 4 := by
 unfold flat
 induction p with
 | nil => rfl
 | cons q p ih => rw [List.map_cons, List.flatten_cons, List.length_append, ih, List.length_cons]; show 4 + _ = _; omega
theorem flat_at (p : List Ins) {i j : Nat} (hi : i < p.length) (hj : j < 4) : (flat p)[i * 4 + j]? = (p[i].list)[j]? := by
 unfold flat
 induction p generalizing i with
 | nil => simp at hi
 | cons q p ih =>
  cases i with
  | zero =>
   rw [List.map_cons, List.flatten_cons, List.getElem?_append_left (by show _ < 4; omega), Nat.zero_mul, Nat.zero_add]
   rfl
  | succ i =>
   rw [List.map_cons, List.flatten_cons, List.getElem?_append_right (by show 4 ≤ _; omega)]
   have e : (i + 1) * 4 + j - q.list.length = i * 4 + j := by show _ - 4 = _; omega
   rw [e, ih (by simpa using hi)]
   rfl
theorem one_ins (q : Ins) : ∀ u ∈ q.list, u.oneCell' = true := by
 intro u hu
 unfold Ins.list at hu
 simp only [List.mem_cons, List.not_mem_nil, or_false] at hu
 rcases hu with rfl | rfl | rfl | rfl <;> rfl
theorem one_flat (p : List Ins) : ∀ u ∈ flat p, u.oneCell' = true := by
 intro u hu
 unfold flat at hu
 rw [List.mem_flatten] at hu
 obtain ⟨r, hr, hu⟩ := hu
 obtain ⟨q, _, rfl⟩ := List.mem_map.1 hr
 exact one_ins q u hu
theorem prg_of_owns {w : World} {B : Nat} {E : TypeId} {v : Value} {p : List Ins} (h : w.ownsRow B E 4 v p.length (flat p)) : ∃ A c, v = .slice A p.length c ∧ Prg w A p := by
 rcases h.2 with ⟨e, e0⟩ | ⟨g, cap, cur, e, hg, hh, r⟩
 ·refine ⟨none, 0, by rw [e, e0], fun i hi => absurd hi (by omega)⟩
 ·refine ⟨some ⟨g, 0, none⟩, cap, e, fun i hi => ⟨g, 0, rfl, (Array.getElem?_eq_some_iff.1 hh).1, fun j v hj => ?_⟩⟩
  have hj4 : j < 4 := by
   have := (List.getElem?_eq_some_iff.1 hj).1
   exact this
  have e2 : (flat p)[i * 4 + j]? = some v := (flat_at p hi hj4).trans hj
  subst e
  have hc := World.ownsRow.cells h rfl (i * 4 + j) v e2
  have ea : (⟨g, 0, none⟩ : Addr).add (i * 4 + j) = ⟨g, 0 + i * 4 + j, none⟩ := by unfold Addr.add; split <;> simp_all
  rw [ea] at hc
  exact hc
theorem prg_cells {w : World} {b o : Nat} {p : List Ins} (h : Prg w (some ⟨b, o, none⟩) p) : ∀ j u, (flat p)[j]? = some u → w.cell? ((⟨b, o, none⟩ : Addr).add j) = some u := by
 intro j u hu
 have hj := (List.getElem?_eq_some_iff.1 hu).1
 rw [flat_length] at hj
 have e1 : j / 4 * 4 + j % 4 = j := by omega
 have hi : j / 4 < p.length := by omega
 have hm : j % 4 < 4 := by omega
 have e := flat_at p hi hm
 rw [e1, hu] at e
 obtain ⟨b', o', e2, _, hr⟩ := h (j / 4) hi
 cases e2
 have := hr (j % 4) u e.symm
 have ea : (⟨b, o, none⟩ : Addr).add j = ⟨b, o + j, none⟩ := by unfold Addr.add; split <;> simp_all
 rw [ea]
 rw [show o + j / 4 * 4 + j % 4 = o + j by omega] at this
 exact this
end Go.Proofs.YtbkjjakkihbcdaaGreat

/- Package filter: which steps may stand, which programs may be. Conditions: those that each states. -/
namespace Go.Proofs.YtbkjjakkihbcdaaGreat
open Go.ChangeShapes Go.WideShapes Go.ChangeAt Go.RowKit Go.Deep
set_option linter.unusedVariables false

theorem leave_v (n : Int) (v : Bool) (hv : v = leaveB n) (w : World) :
  Calls Tryz.prog 106 #[.int .i64 n] w fun e w' => e = .returned (.bool v) ∧ w' = w := by
 subst hv
 unfold leaveB
 by_cases h0 : 0 ≤ n
 ·by_cases h1 : n ≤ 255
  ·rw [decide_eq_true h0, decide_eq_true h1]
   go_enter Tryz.func106, Tryz.ntmps106
   go_wp2
   go_ret
   exact ⟨rfl, rfl⟩
  ·rw [decide_eq_true h0, decide_eq_false h1]
   go_enter Tryz.func106, Tryz.ntmps106
   go_wp2
   go_ret
   exact ⟨rfl, rfl⟩
 ·rw [decide_eq_false h0]
  go_enter Tryz.func106, Tryz.ntmps106
  go_wp2
  go_ret
  exact ⟨rfl, rfl⟩

set_option maxHeartbeats 1000000 in
theorem stand_v (q : Ins) (b : Int) (v : Bool) (hv : v = mayB q b) (w : World) :
  Calls Tryz.prog 98 #[.agg #[.int .i64 q.code, .int .u32 q.k, .int .i64 q.t, .int .i64 q.f], .int .i64 b] w fun e w' => e = .returned (.bool v) ∧ Below w.heap.size w w' := by
 have hB := (Below.refl w.heap.size w).alloc (Nat.le_refl _) (.cells #[.int .i64 q.code, .int .u32 q.k, .int .i64 q.t, .int .i64 q.f] 107)
 obtain ⟨c, k, t, f⟩ := q
 have HB := Lib.hid hB
 clear hB
 subst hv
 unfold mayB asks
 show Calls _ _ #[.agg #[.int .i64 c, .int .u32 k, .int .i64 t, .int .i64 f], .int .i64 b] w _
 have LT := Lib.hid (fun w => leave_v t _ rfl w)
 have LF := Lib.hid (fun w => leave_v f _ rfl w)
 by_cases h0 : c < 0
 ·rw [decide_eq_true h0]
  go_enter Tryz.func98, Tryz.ntmps98
  go_wp2
  go_ret
  exact ⟨rfl, HB.out⟩
 by_cases h8 : c > 8
 ·rw [decide_eq_false h0, decide_eq_true h8]
  go_enter Tryz.func98, Tryz.ntmps98
  go_wp2
  go_ret
  exact ⟨rfl, HB.out⟩
 rw [decide_eq_false h0, decide_eq_false h8]
 show Calls _ _ _ w fun e w' => e = .returned (.bool (leaveB t && leaveB f && (if (c == 5 || c == 6) = true then decide (t < b) && decide (f < b) else true))) ∧ _
 generalize leaveB t = vt at *
 cases vt with
 | false =>
  show Calls _ _ _ w fun e w' => e = .returned (.bool false) ∧ _
  go_enter Tryz.func98, Tryz.ntmps98
  go_wp2_with (go_at_call 106; refine (LT.out _).mono ?_; rintro e w' ⟨rfl, rfl⟩)
  go_ret
  exact ⟨rfl, HB.out⟩
 | true =>
  generalize leaveB f = vf at *
  cases vf with
  | false =>
   show Calls _ _ _ w fun e w' => e = .returned (.bool false) ∧ _
   go_enter Tryz.func98, Tryz.ntmps98
   go_wp2_with fail
   refine (LT.out _).mono ?_; rintro e w' ⟨rfl, rfl⟩
   go_wp2_with fail
   refine (LF.out _).mono ?_; rintro e w' ⟨rfl, rfl⟩
   go_wp2
   go_ret
   exact ⟨rfl, HB.out⟩
  | true =>
   show Calls _ _ _ w fun e w' => e = .returned (.bool (if (c == 5 || c == 6) = true then decide (t < b) && decide (f < b) else true)) ∧ _
   by_cases h56 : (c == 5 || c == 6) = true
   ·rw [if_pos h56]
    by_cases h5 : c = 5
    ·subst h5
     by_cases h1 : t < b
     ·by_cases h2 : f < b
      ·rw [decide_eq_true h1, decide_eq_true h2]
       go_enter Tryz.func98, Tryz.ntmps98
       go_wp2_with fail
       refine (LT.out _).mono ?_; rintro e w' ⟨rfl, rfl⟩
       go_wp2_with fail
       refine (LF.out _).mono ?_; rintro e w' ⟨rfl, rfl⟩
       go_wp2
       go_ret
       exact ⟨rfl, HB.out⟩
      ·have d2 : decide (f < b) = false := decide_eq_false h2
       rw [decide_eq_true h1, d2]
       go_enter Tryz.func98, Tryz.ntmps98
       go_wp2_with fail
       refine (LT.out _).mono ?_; rintro e w' ⟨rfl, rfl⟩
       go_wp2_with fail
       refine (LF.out _).mono ?_; rintro e w' ⟨rfl, rfl⟩
       go_wp2
       go_ret
       exact ⟨rfl, HB.out⟩
     ·rw [decide_eq_false h1]
      go_enter Tryz.func98, Tryz.ntmps98
      go_wp2_with fail
      refine (LT.out _).mono ?_; rintro e w' ⟨rfl, rfl⟩
      go_wp2_with fail
      refine (LF.out _).mono ?_; rintro e w' ⟨rfl, rfl⟩
      go_wp2
      go_ret
      exact ⟨rfl, HB.out⟩
    ·have h6 : c = 6 := by simp at h56; omega
     subst h6
     by_cases h1 : t < b
     ·by_cases h2 : f < b
      ·rw [decide_eq_true h1, decide_eq_true h2]
       go_enter Tryz.func98, Tryz.ntmps98
       go_wp2_with fail
       refine (LT.out _).mono ?_; rintro e w' ⟨rfl, rfl⟩
       go_wp2_with fail
       refine (LF.out _).mono ?_; rintro e w' ⟨rfl, rfl⟩
       go_wp2
       go_ret
       exact ⟨rfl, HB.out⟩
      ·have d2 : decide (f < b) = false := decide_eq_false h2
       rw [decide_eq_true h1, d2]
       go_enter Tryz.func98, Tryz.ntmps98
       go_wp2_with fail
       refine (LT.out _).mono ?_; rintro e w' ⟨rfl, rfl⟩
       go_wp2_with fail
       refine (LF.out _).mono ?_; rintro e w' ⟨rfl, rfl⟩
       go_wp2
       go_ret
       exact ⟨rfl, HB.out⟩
     ·rw [decide_eq_false h1]
      go_enter Tryz.func98, Tryz.ntmps98
      go_wp2_with fail
      refine (LT.out _).mono ?_; rintro e w' ⟨rfl, rfl⟩
      go_wp2_with fail
      refine (LF.out _).mono ?_; rintro e w' ⟨rfl, rfl⟩
      go_wp2
      go_ret
      exact ⟨rfl, HB.out⟩
   ·rw [if_neg h56]
    have h5 : (c == 5) = false := by
     cases h : (c == 5) with
     | false => rfl
     | true => simp [h] at h56
    have h6 : (c == 6) = false := by
     cases h : (c == 6) with
     | false => rfl
     | true => simp [h] at h56
    clear h56
    go_enter Tryz.func98, Tryz.ntmps98
    go_wp2_with fail
    refine (LT.out _).mono ?_; rintro e w' ⟨rfl, rfl⟩
    go_wp2_with fail
    refine (LF.out _).mono ?_; rintro e w' ⟨rfl, rfl⟩
    go_wp2
    go_ret
    exact ⟨rfl, HB.out⟩
end Go.Proofs.YtbkjjakkihbcdaaGreat
