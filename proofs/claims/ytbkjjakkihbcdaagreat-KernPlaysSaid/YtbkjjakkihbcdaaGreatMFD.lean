/- A slice of calls to a table that came in. Conditions: those that each states. -/
import Derived.Test.YtbkjjakkihbcdaaGreatMAD
import Derived.Deep.MidRow
import Derived.Deep.Slices
import Derived.ChangeSame
import Derived.Test.YtbkjjakkihbcdaaGreatMAA
import Derived.Deep.RegionWith
import Derived.Deep.RegionHeld3
import Derived.Deep.RegionLaw
import Derived.Deep.DeepCutAuto
import Derived.Deep.CutBlock
import Derived.Deep.AppendLies
namespace Go.Proofs.YtbkjjakkihbcdaaGreat
open Go.ChangeShapes Go.WideShapes Go.ChangeAt Go.RowKit Go.Deep Fr
set_option linter.unusedVariables false

structure Cmd where
 kind : Int
 env : Int
 f : Int
 off : Int
 n : Int
 s : ByteArray
def doR (ps : List Pg) (a : Cmd) : List Pg × Int × List UInt8 × Int :=
 if a.kind = 0 then ((allocR ps a.env).1, (allocR ps a.env).2.1, [], (allocR ps a.env).2.2)
 else if a.kind = 1 then ((freeR ps a.env a.f).1, 0, [], (freeR ps a.env a.f).2)
 else if a.kind = 2 then ((giveR ps a.env a.f a.n).1, 0, [], (giveR ps a.env a.f a.n).2)
 else if a.kind = 3 then (ps, 0, (readR ps a.env a.f a.off a.n).1, (readR ps a.env a.f a.off a.n).2)
 else if a.kind = 4 then ((writeR ps a.env a.f a.off a.s.data.toList).1, 0, [], (writeR ps a.env a.f a.off a.s.data.toList).2)
 else if a.kind = 5 then ((holdR ps a.env a.f).1, 0, [], (holdR ps a.env a.f).2)
 else if a.kind = 6 then ((dropR ps a.f).1, 0, [], (dropR ps a.f).2)
 else (ps, 0, (fetchR ps a.f a.off a.n).1, (fetchR ps a.f a.off a.n).2)

end Go.Proofs.YtbkjjakkihbcdaaGreat

/- What a call does to a table, plainly: lengths, holds, how many are free, what stays. Conditions: those that each states. -/
namespace Go.Proofs.YtbkjjakkihbcdaaGreat
open Go.ChangeShapes Go.WideShapes Go.ChangeAt Go.RowKit Go.Deep Fr
set_option linter.unusedVariables false

section
variable {ps : List Pg} {a : Cmd}
end

section
variable {ps ps' : List Pg} {a : Cmd} {e : Int}
end
end Go.Proofs.YtbkjjakkihbcdaaGreat

/- The first cells of a block. Conditions: those that each states. -/
namespace Go.Proofs.YtbkjjakkihbcdaaGreat
open Go.ChangeShapes Go.WideShapes Go.ChangeAt Go.RowKit Go.Deep
set_option linter.unusedVariables false

def Heads (w : World) (b : Nat) (E : TypeId) (xs : List Value) : Prop := ∃ cs : Array Value, Blk w b E cs ∧ xs.length ≤ cs.size ∧ ∀ j (h : j < xs.length), cs[j]? = some xs[j]
section
variable {w w' : World} {b : Nat} {E : TypeId} {xs : List Value} {S : Nat → Prop}
theorem Heads.lt (h : Heads w b E xs) : b < w.heap.size := by obtain ⟨cs, hb, _⟩ := h; exact hb.lt
theorem Heads.cell (h : Heads w b E xs) {j : Nat} (hj : j < xs.length) : w.cell? ⟨b, j, none⟩ = some xs[j] := by
 obtain ⟨cs, hb, _, hc⟩ := h
 rw [hb.cell, hc j hj]
theorem Heads.frozen (h : Heads w b E xs) (j : Nat) : w.frozen? ⟨b, j, none⟩ = false := by obtain ⟨cs, hb, _⟩ := h; exact hb.frozen j
theorem Heads.chg (h : Heads w b E xs) (k : Chg w w' S) (hn : ¬ S b) : Heads w' b E xs := by
 obtain ⟨cs, hb, hs, hc⟩ := h
 exact ⟨cs, hb.chg k hn, hs, hc⟩
theorem Heads.drewN (h : Heads w b E xs) (n : Nat) : Heads (w.drewN n) b E xs := h
theorem Heads.set (h : Heads w b E xs) (j : Nat) (v : Value) : Heads (w.setCell ⟨b, j, none⟩ v) b E (xs.set j v) := by
 obtain ⟨cs, hb, hs, hc⟩ := h
 refine ⟨cs.setIfInBounds j v, hb.put j v, by simpa using hs, fun i hi => ?_⟩
 rw [List.length_set] at hi
 rw [Array.getElem?_setIfInBounds]
 by_cases e : j = i
 ·subst e
  rw [if_pos rfl, if_pos (by omega), List.getElem_set_self]
 ·rw [if_neg e, hc i hi, List.getElem_set_ne e]
theorem Heads.of_row {B : Nat} {n c g : Nat} (h : w.ownsRow B E 1 (.slice (some ⟨g, 0, none⟩) n c) n xs) : Heads w g E xs := by
 rcases h.2 with ⟨e, _⟩ | ⟨g', cap, cur, e, _, hh, hc, _, hs, ht⟩
 ·cases e
 ·injection e with e1 e2 e3
  injection e1 with e1
  injection e1 with e1 _ _
  subst e1 e3
  have hl := h.1
  rw [Nat.mul_one] at hl hs ht
  refine ⟨cur, hh, by omega, fun j hj => ?_⟩
  have : xs[j]? = cur.toList[j]? := by
   rw [← ht, List.getElem?_take, if_pos (by omega)]
  rw [List.getElem?_eq_getElem hj] at this
  simpa using this.symm
end

section
variable {w : World}
theorem Heads.other {b g : Nat} {E : TypeId} {xs : List Value} (h : Heads w b E xs) (i : Nat) (v : Value) (hn : b ≠ g) : Heads (w.setCell ⟨g, i, none⟩ v) b E xs :=
 h.chg (Chg.set (S := fun k => k = g) w i v rfl) hn
end
end Go.Proofs.YtbkjjakkihbcdaaGreat

/- The document's table in memory, and its small functions. Conditions: those that each states. -/
namespace Go.Proofs.YtbkjjakkihbcdaaGreat
open Go.ChangeShapes Go.WideShapes Go.ChangeAt Go.RowKit Go.Deep Fr
set_option linter.unusedVariables false

def ownersOf (ps : List Pg) : List Value := ps.map fun p => .int .i64 (p.owner : Int)
def holdsOf (ps : List Pg) : List Value := ps.map fun p => .int .i64 (p.holds : Int)
def textsOf (ps : List Pg) : List Value := ps.map fun p => .string ⟨p.text.toArray⟩

structure RefT (w : World) (gm bo bh bb co ch cb : Nat) (ps : List Pg) : Prop where
 head : Blk w gm 138 #[.slice (some ⟨bo, 0, none⟩) ps.length co, .slice (some ⟨bh, 0, none⟩) ps.length ch, .slice (some ⟨bb, 0, none⟩) ps.length cb]
 ho : gm < bo
 hh : gm < bh
 hb : gm < bb
 oh : bo ≠ bh
 ob : bo ≠ bb
 hbn : bh ≠ bb
 own : Heads w bo 3 (ownersOf ps)
 holds : Heads w bh 3 (holdsOf ps)
 text : Heads w bb 9 (textsOf ps)
 len : ps.length ≤ 256
 ok : ∀ p ∈ ps, p.Ok
abbrev Three (bo bh bb : Nat) : Nat → Prop := fun k => k = bo ∨ k = bh ∨ k = bb
section
variable {w w' : World} {gm bo bh bb co ch cb : Nat} {ps : List Pg} {S : Nat → Prop}
theorem RefT.chg (h : RefT w gm bo bh bb co ch cb ps) (k : Chg w w' S) (hs : ∀ i, S i → i < gm) : RefT w' gm bo bh bb co ch cb ps :=
 ⟨h.head.chg k (fun s => absurd (hs _ s) (by omega)), h.ho, h.hh, h.hb, h.oh, h.ob, h.hbn, h.own.chg k (fun s => by have := hs _ s; have := h.ho; omega), h.holds.chg k (fun s => by have := hs _ s; have := h.hh; omega), h.text.chg k (fun s => by have := hs _ s; have := h.hb; omega), h.len, h.ok⟩
theorem RefT.new (h : RefT w gm bo bh bb co ch cb ps) (k : Below w.heap.size w w') : RefT w' gm bo bh bb co ch cb ps := h.chg (Chg.of_new k fun _ => False) (fun _ s => s.elim)
theorem RefT.alloc (h : RefT w gm bo bh bb co ch cb ps) (ob : Obj) : RefT (w.alloc ob) gm bo bh bb co ch cb ps := h.new ((Below.refl _ w).alloc (Nat.le_refl _) ob)
theorem RefT.drewN (h : RefT w gm bo bh bb co ch cb ps) (n : Nat) : RefT (w.drewN n) gm bo bh bb co ch cb ps := ⟨h.head, h.ho, h.hh, h.hb, h.oh, h.ob, h.hbn, h.own, h.holds, h.text, h.len, h.ok⟩
theorem RefT.heads (h : RefT w gm bo bh bb co ch cb ps) : w.cell? ⟨gm, 0, none⟩ = some (.slice (some ⟨bo, 0, none⟩) ps.length co) ∧ w.cell? ⟨gm, 1, none⟩ = some (.slice (some ⟨bh, 0, none⟩) ps.length ch) ∧ w.cell? ⟨gm, 2, none⟩ = some (.slice (some ⟨bb, 0, none⟩) ps.length cb) :=
 ⟨h.head.cell 0, h.head.cell 1, h.head.cell 2⟩
theorem RefT.ownC (h : RefT w gm bo bh bb co ch cb ps) {k : Nat} (hk : k < ps.length) : w.cell? ⟨bo, k, none⟩ = some (.int .i64 (ps[k].owner : Int)) := by
 have := h.own.cell (j := k) (by simpa [ownersOf] using hk)
 simpa [ownersOf] using this
theorem RefT.holdC (h : RefT w gm bo bh bb co ch cb ps) {k : Nat} (hk : k < ps.length) : w.cell? ⟨bh, k, none⟩ = some (.int .i64 (ps[k].holds : Int)) := by
 have := h.holds.cell (j := k) (by simpa [holdsOf] using hk)
 simpa [holdsOf] using this
theorem RefT.textC (h : RefT w gm bo bh bb co ch cb ps) {k : Nat} (hk : k < ps.length) : w.cell? ⟨bb, k, none⟩ = some (.string ⟨ps[k].text.toArray⟩) := by
 have := h.text.cell (j := k) (by simpa [textsOf] using hk)
 simpa [textsOf] using this
theorem RefT.at_ (h : RefT w gm bo bh bb co ch cb ps) {k : Nat} (hk : k < ps.length) : ps[k].Ok := h.ok _ (List.getElem_mem hk)
theorem RefT.okSet (h : RefT w gm bo bh bb co ch cb ps) (k : Nat) {p' : Pg} (ok' : p'.Ok) : ∀ p ∈ ps.set k p', p.Ok := fun p hp => by
 rcases List.mem_or_eq_of_mem_set hp with h1 | rfl
 ·exact h.ok p h1
 ·exact ok'
theorem map_set_same {β : Type} (f : Pg → β) (ps : List Pg) (k : Nat) (hk : k < ps.length) (p' : Pg) (e : f p' = f ps[k]) : (ps.set k p').map f = ps.map f := by
 rw [List.map_set, e]
 apply List.ext_getElem?
 intro i
 rw [List.getElem?_set]
 by_cases h : k = i
 ·subst h; simp [hk]
 ·rw [if_neg h]
theorem RefT.setOwn (h : RefT w gm bo bh bb co ch cb ps) {k : Nat} (hk : k < ps.length) (o : Nat) (ho : o ≤ 2) : RefT (w.setCell ⟨bo, k, none⟩ (.int .i64 (o : Int))) gm bo bh bb co ch cb (ps.set k { ps[k] with owner := o }) := by
 have e1 : holdsOf (ps.set k { ps[k] with owner := o }) = holdsOf ps := map_set_same (fun p => Value.int .i64 (p.holds : Int)) ps k hk _ rfl
 have e2 : textsOf (ps.set k { ps[k] with owner := o }) = textsOf ps := map_set_same (fun p => Value.string ⟨p.text.toArray⟩) ps k hk _ rfl
 refine ⟨?_, h.ho, h.hh, h.hb, h.oh, h.ob, h.hbn, ?_, ?_, ?_, by simpa using h.len, h.okSet k ⟨ho, (h.at_ hk).h, (h.at_ hk).t⟩⟩
 ·rw [List.length_set]; exact h.head.chg (Chg.set (S := fun i => i = bo) w k _ rfl) (fun e => by have := h.ho; have e' : gm = bo := e; omega)
 ·have := h.own.set k (.int .i64 (o : Int))
  unfold ownersOf at *
  rw [List.map_set]; exact this
 ·rw [e1]; exact h.holds.other _ _ (Ne.symm h.oh)
 ·rw [e2]; exact h.text.other _ _ (Ne.symm h.ob)
theorem RefT.setHolds (h : RefT w gm bo bh bb co ch cb ps) {k : Nat} (hk : k < ps.length) (n : Nat) (hn : n ≤ 1000000) : RefT (w.setCell ⟨bh, k, none⟩ (.int .i64 (n : Int))) gm bo bh bb co ch cb (ps.set k { ps[k] with holds := n }) := by
 have e1 : ownersOf (ps.set k { ps[k] with holds := n }) = ownersOf ps := map_set_same (fun p => Value.int .i64 (p.owner : Int)) ps k hk _ rfl
 have e2 : textsOf (ps.set k { ps[k] with holds := n }) = textsOf ps := map_set_same (fun p => Value.string ⟨p.text.toArray⟩) ps k hk _ rfl
 refine ⟨?_, h.ho, h.hh, h.hb, h.oh, h.ob, h.hbn, ?_, ?_, ?_, by simpa using h.len, h.okSet k ⟨(h.at_ hk).o, hn, (h.at_ hk).t⟩⟩
 ·rw [List.length_set]; exact h.head.chg (Chg.set (S := fun i => i = bh) w k _ rfl) (fun e => by have := h.hh; have e' : gm = bh := e; omega)
 ·rw [e1]; exact h.own.other _ _ h.oh
 ·have := h.holds.set k (.int .i64 (n : Int))
  unfold holdsOf at *
  rw [List.map_set]; exact this
 ·rw [e2]; exact h.text.other _ _ (Ne.symm h.hbn)
theorem RefT.setText (h : RefT w gm bo bh bb co ch cb ps) {k : Nat} (hk : k < ps.length) (t : List UInt8) (ht : t.length = 256) : RefT (w.setCell ⟨bb, k, none⟩ (.string ⟨t.toArray⟩)) gm bo bh bb co ch cb (ps.set k { ps[k] with text := t }) := by
 have e1 : ownersOf (ps.set k { ps[k] with text := t }) = ownersOf ps := map_set_same (fun p => Value.int .i64 (p.owner : Int)) ps k hk _ rfl
 have e2 : holdsOf (ps.set k { ps[k] with text := t }) = holdsOf ps := map_set_same (fun p => Value.int .i64 (p.holds : Int)) ps k hk _ rfl
 refine ⟨?_, h.ho, h.hh, h.hb, h.oh, h.ob, h.hbn, ?_, ?_, ?_, by simpa using h.len, h.okSet k ⟨(h.at_ hk).o, (h.at_ hk).h, ht⟩⟩
 ·rw [List.length_set]; exact h.head.chg (Chg.set (S := fun i => i = bb) w k _ rfl) (fun e => by have := h.hb; have e' : gm = bb := e; omega)
 ·rw [e1]; exact h.own.other _ _ h.ob
 ·rw [e2]; exact h.holds.other _ _ h.hbn
 ·have := h.text.set k (.string ⟨t.toArray⟩)
  unfold textsOf at *
  rw [List.map_set]; exact this
end

def page0' : ByteArray := ⟨(List.replicate 256 (0 : UInt8)).toArray⟩
theorem make256 (W : World) : (Instr.makeSlice 37 (.int .i64 256) (.int .i64 256)).run Tryz.prog W = .ok (.slice (some ⟨W.heap.size, 0, none⟩) 256 256) (W.alloc (.cells (madeCells #[.int .u8 0] 256) 5)) := by
 obtain ⟨i0, hi, hz0, hz1, hz2⟩ := u8_info
 have hr := run_make (P := Tryz.prog) W 37 5 i0 (.int .u8 0) Tryz.underlying37 hi hz0 .i64 .i64 256 256 (by omega) (by omega) (by rw [hz2]; omega) (by omega)
 simp only [hz1, Nat.mul_one] at hr
 exact hr
theorem made256 (w : World) : Src (w.alloc (.cells (madeCells #[.int .u8 0] 256) 5)) (some ⟨w.heap.size, 0, none⟩) 256 256 (List.replicate 256 0) := by
 refine ⟨⟨fun hp => ⟨w.heap.size, 0, rfl, (Blk.new w _ _).lt, fun j hj => ?_⟩, List.length_replicate, Nat.le_refl _, by omega⟩, fun e => by cases e⟩
 have hj' : j < 256 := by rw [bys_length, List.length_replicate] at hj; exact hj
 rw [(Blk.new w _ _).cell (0 + j), Nat.zero_add]
 unfold madeCells
 rw [Array.getElem?_map, Array.getElem?_range, if_pos hj']
 have e : j % (#[Value.int .u8 0] : Array Value).size = 0 := Nat.mod_one j
 simp only [Option.map_some, e]
 simp only [bys, List.getElem_map, List.getElem_replicate]
 rfl
theorem blank_any (w : World) : Calls Tryz.prog 63 #[] w fun e w' => e = .returned (.string page0') ∧ Below w.heap.size w w' := by
 have hm := make256 w
 have tl := told_str (made256 w)
 have e0 : (⟨(List.replicate 256 (0 : UInt8)).toArray⟩ : ByteArray) = page0' := rfl
 rw [e0] at tl
 have B := Lib.hid ((Below.refl _ w).alloc (Nat.le_refl _) (.cells (madeCells #[.int .u8 0] 256) 5))
 generalize page0' = pz at *
 generalize madeCells #[.int .u8 0] 256 = Z at *
 go_enter Tryz.func63, Tryz.ntmps63
 go_wp2
 go_ret
 exact ⟨rfl, B.out⟩

theorem rwithin_yes (off n : Int) (h : isIn off n) (w : World) :
  Calls Tryz.prog 82 #[.int .i64 off, .int .i64 n] w fun e w' => e = .returned (.bool true) ∧ w' = w := by
 obtain ⟨h1, h2, h3⟩ := h
 have g1 : off ≥ 0 := h1
 have g2 : n ≥ 0 := h2
 have g4 : off ≤ 256 := by omega
 have g5 : n ≤ 256 := by omega
 have x0 : IntKind.i64.wrap (off + n) = off + n := IntWalk.i64_in _ (by omega)
 clear h1 h2
 go_enter Tryz.func82, Tryz.ntmps82
 go_wp2
 go_ret
 exact ⟨rfl, rfl⟩
theorem rwithin_no (off n : Int) (h : ¬ isIn off n) (w : World) :
  Calls Tryz.prog 82 #[.int .i64 off, .int .i64 n] w fun e w' => e = .returned (.bool false) ∧ w' = w := by
 by_cases g1 : off ≥ 0
 ·by_cases g2 : off ≤ 256
  ·by_cases g3 : n ≥ 0
   ·by_cases g4 : n ≤ 256
    ·have x0 : IntKind.i64.wrap (off + n) = off + n := IntWalk.i64_in _ (by omega)
     have g5 : ¬ off + n ≤ 256 := fun g5 => h ⟨g1, g3, g5⟩
     have G5 := Lib.hid (decide_eq_false g5)
     clear h
     go_enter Tryz.func82, Tryz.ntmps82
     go_wp2
     go_ret
     exact ⟨rfl, rfl⟩
    ·clear h
     go_enter Tryz.func82, Tryz.ntmps82
     go_wp2
     go_ret
     exact ⟨rfl, rfl⟩
   ·clear h
    go_enter Tryz.func82, Tryz.ntmps82
    go_wp2
    go_ret
    exact ⟨rfl, rfl⟩
  ·clear h
   go_enter Tryz.func82, Tryz.ntmps82
   go_wp2
   go_ret
   exact ⟨rfl, rfl⟩
 ·clear h
  go_enter Tryz.func82, Tryz.ntmps82
  go_wp2
  go_ret
  exact ⟨rfl, rfl⟩

set_option maxRecDepth 100000 in
theorem rfreeCount_any {w : World} {gm bo bh bb co ch cb : Nat} {ps : List Pg} (h : RefT w gm bo bh bb co ch cb ps) :
  Calls Tryz.prog 56 #[.pointer (some ⟨gm, 0, none⟩)] w fun e w' => e = .returned (.int .i64 (freeN ps : Int)) ∧ w' = w := by
 have c0 := h.heads.1
 have n2 := h.len
 have OW := Lib.hid (fun k (hk : k < ps.length) => h.ownC hk)
 have hstep : ∀ j, (hj : j < ps.length) → freeN (ps.take (j + 1)) = freeN (ps.take j) + (if ps[j].owner = 0 then 1 else 0) := by
  intro j hj
  unfold freeN
  rw [List.take_succ_eq_append_getElem hj, List.filter_append, List.length_append]
  by_cases e : ps[j].owner = 0 <;> simp [e]
 have HST := Lib.hid hstep
 have hle : ∀ j, freeN (ps.take j) ≤ j := fun j => Nat.le_trans (List.length_filter_le _ _) (List.length_take_le _ _)
 have HLE := Lib.hid hle
 clear h hstep hle
 go_enter Tryz.func56, Tryz.ntmps56
 go_wp2
 go_loopw [3, 4] (fun c i wr => ∃ (j : Nat), j ≤ ps.length ∧ c = .int .i64 (freeN (ps.take j) : Int) ∧ i = .int .i64 (j : Int) ∧ wr = w) (fun _ i _ => ps.length - (intOf i).toNat)
 case atStart => exact ⟨0, Nat.zero_le _, rfl, rfl, rfl⟩
 case round =>
  obtain ⟨j, hj, rfl, rfl, rfl⟩ := hrel
  have hc := HLE.out j
  by_cases hlt : j < ps.length
  ·have hlt' : (j : Int) < (ps.length : Int) := by omega
   have j0 : (0 : Int) ≤ (j : Int) := by omega
   have c1 := OW.out j hlt
   have hs := HST.out j hlt
   have x0 := IntWalk.i64_in ((freeN (ps.take j) : Int) + 1) (by omega)
   have x1 := IntWalk.i64_in ((j : Int) + 1) (by omega)
   by_cases ho : ps[j].owner = 0
   ·rw [if_pos ho] at hs
    have HS := Lib.hid hs
    rw [ho] at c1
    clear hs
    generalize freeN (ps.take j) = q at *
    go_wp2
    go_roundw
    case rel => exact ⟨j + 1, by omega, by rw [HS.out]; simp, by simp, by first | rfl | trivial⟩
    case measure => simp [intOf]; omega
   ·rw [if_neg ho] at hs
    have HS := Lib.hid hs
    have ho' : ((ps[j].owner : Int) == 0) = false := by simpa using ho
    clear hs
    generalize freeN (ps.take j) = q at *
    generalize (ps[j].owner : Int) = v at *
    clear ho
    go_wp2
    go_roundw
    case rel => exact ⟨j + 1, by omega, by rw [HS.out]; simp, by simp, by first | rfl | trivial⟩
    case measure => simp [intOf]; omega
  ·have hge : ¬ (j : Int) < (ps.length : Int) := by omega
   obtain rfl : j = ps.length := by omega
   rw [List.take_length]
   go_wp2
   go_ret
   exact ⟨rfl, rfl⟩
end Go.Proofs.YtbkjjakkihbcdaaGreat
