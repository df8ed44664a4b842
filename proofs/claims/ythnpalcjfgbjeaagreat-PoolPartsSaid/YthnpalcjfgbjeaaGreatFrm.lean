/- A table of frames in memory: each frame is 258 cells: owner, holds, 256 bytes. Conditions: those that each states. -/
import Derived.Test.YthnpalcjfgbjeaaGreatBase
import Derived.Test.YthnpalcjfgbjeaaGreatApp
import Derived.Laws.CopyRow
import Derived.Laws.CopyOwn
import Derived.Laws.Tables
import Derived.Test.YthnpalcjfgbjeaaGreatSto
namespace Go.Proofs.YthnpalcjfgbjeaaGreat
open Go.ChangeShapes Go.WideShapes Go.ChangeAt Go.RowKit Go.Deep
set_option linter.unusedVariables false

structure Pg where
  owner : Nat
  holds : Nat
  text : List UInt8
structure Pg.Ok (p : Pg) : Prop where
  o : p.owner ≤ 2
  h : p.holds ≤ 1000000
  t : p.text.length = 256
def Pg.blank : Pg := ⟨0, 0, List.replicate 256 0⟩
theorem Pg.blank_ok : Pg.blank.Ok := ⟨Nat.zero_le _, Nat.zero_le _, List.length_replicate⟩
def Pg.cells (p : Pg) : List Value := .int .i64 (p.owner : Int) :: .int .i64 (p.holds : Int) :: bys p.text
theorem Pg.Ok.len {p : Pg} (h : p.Ok) : p.cells.length = 258 := by simp [Pg.cells, bys_length, h.t]
theorem Pg.cell0 (p : Pg) : p.cells[0]? = some (.int .i64 (p.owner : Int)) := rfl
theorem Pg.cell1 (p : Pg) : p.cells[1]? = some (.int .i64 (p.holds : Int)) := rfl
theorem Pg.cell2 (p : Pg) (j : Nat) : p.cells[2 + j]? = (bys p.text)[j]? := by
  rw [show 2 + j = j + 1 + 1 by omega]; rfl

/-- A table in memory: block gs holds the frames, block g the table. -/
structure TabAt (E T : TypeId) (w : World) (gs g : Nat) (ps : List Pg) : Prop where
  lt : gs < g
  n1 : 1 ≤ ps.length
  n2 : ps.length ≤ 256
  head : Blk w g T #[.slice (some ⟨gs, 0, none⟩) ps.length ps.length]
  ok : ∀ p ∈ ps, p.Ok
  row : ∃ cs : Array Value, Blk w gs E cs ∧ cs.size = ps.length * 258 ∧ ∀ f (h : f < ps.length) i, i < 258 → cs[f * 258 + i]? = ps[f].cells[i]?
section
variable {E T : TypeId} {w w' : World} {gs g : Nat} {ps : List Pg} {S : Nat → Prop}
theorem TabAt.chg (h : TabAt E T w gs g ps) (k : Chg w w' S) (h1 : ¬ S gs) (h2 : ¬ S g) : TabAt E T w' gs g ps := by
  obtain ⟨cs, hb, hs, hc⟩ := h.row
  exact ⟨h.lt, h.n1, h.n2, h.head.chg k h2, h.ok, cs, hb.chg k h1, hs, hc⟩
theorem TabAt.new (h : TabAt E T w gs g ps) (k : Below w.heap.size w w') : TabAt E T w' gs g ps := h.chg (Chg.of_new k fun _ => False) id id
theorem TabAt.alloc (h : TabAt E T w gs g ps) (ob : Obj) : TabAt E T (w.alloc ob) gs g ps := h.new ((Below.refl _ w).alloc (Nat.le_refl _) ob)
theorem TabAt.drewN (h : TabAt E T w gs g ps) (n : Nat) : TabAt E T (w.drewN n) gs g ps := ⟨h.lt, h.n1, h.n2, h.head, h.ok, h.row⟩
theorem TabAt.drew (h : TabAt E T w gs g ps) : TabAt E T w.drew gs g ps := ⟨h.lt, h.n1, h.n2, h.head, h.ok, h.row⟩
theorem TabAt.at_ (h : TabAt E T w gs g ps) {f : Nat} (hf : f < ps.length) : ps[f].Ok := h.ok _ (List.getElem_mem hf)
theorem TabAt.cell (h : TabAt E T w gs g ps) {f : Nat} (hf : f < ps.length) {i : Nat} (hi : i < 258) : w.cell? ⟨gs, f * 258 + i, none⟩ = ps[f].cells[i]? := by
  obtain ⟨cs, hb, _, hc⟩ := h.row
  rw [hb.cell, hc f hf i hi]
theorem TabAt.owner (h : TabAt E T w gs g ps) {f : Nat} (hf : f < ps.length) : w.cell? ⟨gs, f * 258, none⟩ = some (.int .i64 (ps[f].owner : Int)) := by
  have := h.cell hf (i := 0) (by omega)
  rw [Nat.add_zero] at this
  exact this.trans (Pg.cell0 _)
theorem TabAt.holds (h : TabAt E T w gs g ps) {f : Nat} (hf : f < ps.length) : w.cell? ⟨gs, f * 258 + 1, none⟩ = some (.int .i64 (ps[f].holds : Int)) := (h.cell hf (i := 1) (by omega)).trans (Pg.cell1 _)
theorem TabAt.thaw (h : TabAt E T w gs g ps) (i : Nat) : w.frozen? ⟨gs, i, none⟩ = false := by
  obtain ⟨cs, hb, _⟩ := h.row
  exact hb.frozen i
theorem TabAt.blk (h : TabAt E T w gs g ps) : gs < w.heap.size := by
  obtain ⟨cs, hb, _⟩ := h.row
  exact hb.lt
/-- Some bytes of a frame, as a slice of it. -/
theorem TabAt.bytes (h : TabAt E T w gs g ps) {f : Nat} (hf : f < ps.length) {off n c : Nat} (hn : off + n ≤ 256) (hc : n ≤ c) (hm : c ≤ 256) : Src w (some ⟨gs, f * 258 + 2 + off, none⟩) n c ((ps[f].text.drop off).take n) := by
  have ht := (h.at_ hf).t
  have hl : ((ps[f].text.drop off).take n).length = n := by simp; omega
  refine ⟨⟨fun hp => ⟨gs, f * 258 + 2 + off, rfl, h.blk, fun j hj => ?_⟩, hl, hc, by omega⟩, fun e => by cases e⟩
  rw [bys_length, hl] at hj
  rw [show f * 258 + 2 + off + j = f * 258 + (2 + (off + j)) by omega, h.cell hf (by omega), Pg.cell2, bys_get (by omega)]
  simp [bys]

/-- Cells of one frame turn. -/
theorem TabAt.turn (h : TabAt E T w gs g ps) {f : Nat} (hf : f < ps.length) (p' : Pg) (ok' : p'.Ok) (hk : Chg w w' (fun k => k = gs)) {cs cs' : Array Value} (hb : Blk w gs E cs) (hb' : Blk w' gs E cs') (hs : cs'.size = cs.size)
    (hout : ∀ k, k < f * 258 ∨ f * 258 + 258 ≤ k → cs'[k]? = cs[k]?) (hin : ∀ i, i < 258 → cs'[f * 258 + i]? = p'.cells[i]?) : TabAt E T w' gs g (ps.set f p') := by
  obtain ⟨cs0, hb0, hs0, hc0⟩ := h.row
  obtain rfl : cs0 = cs := by
    have e : some (Obj.cells cs0 E (0, 0)) = some (.cells cs E (0, 0)) := hb0.symm.trans hb
    injection e with e
    injection e
  refine ⟨h.lt, by simpa using h.n1, by simpa using h.n2, ?_, ?_, cs', hb', by simpa [hs] using hs0, ?_⟩
  · rw [List.length_set]; exact h.head.chg hk (fun e => by have := h.lt; have e' : g = gs := e; omega)
  · intro p hp
    rcases List.mem_or_eq_of_mem_set hp with h1 | rfl
    · exact h.ok p h1
    · exact ok'
  · intro f' hf' i hi
    rw [List.length_set] at hf'
    by_cases e : f = f'
    · subst e
      rw [hin i hi]; simp
    · rw [List.getElem_set_ne e, hout _ (by omega), hc0 f' hf' i hi]
theorem TabAt.set (h : TabAt E T w gs g ps) {f : Nat} (hf : f < ps.length) {i : Nat} (hi : i < 258) (v : Value) (p' : Pg) (ok' : p'.Ok) (hc : p'.cells = ps[f].cells.set i v) :
    TabAt E T (w.setCell ⟨gs, f * 258 + i, none⟩ v) gs g (ps.set f p') := by
  obtain ⟨cs, hb, hs, hcs⟩ := h.row
  have hl := (h.at_ hf).len
  refine h.turn hf p' ok' (Chg.set _ _ _ rfl) hb (hb.put (f * 258 + i) v) (by simp) (fun k hk => ?_) (fun j hj => ?_)
  · rw [Array.getElem?_setIfInBounds, if_neg (by omega)]
  · rw [Array.getElem?_setIfInBounds, hc, List.getElem?_set]
    by_cases e : i = j
    · subst e
      simp [show f * 258 + i < cs.size by omega, hl, hi]
    · rw [if_neg (by omega), if_neg e, hcs f hf j hj]
theorem TabAt.seg (h : TabAt E T w gs g ps) {f : Nat} (hf : f < ps.length) {i : Nat} (vs : List Value) (hi : i + vs.length ≤ 258) (p' : Pg) (ok' : p'.Ok) (hc : p'.cells = ps[f].cells.take i ++ vs ++ ps[f].cells.drop (i + vs.length))
    {cs : Array Value} (hb : Blk w gs E cs) : f * 258 + i + vs.length ≤ cs.size ∧ TabAt E T (w.setRow gs (cs.toList.take (f * 258 + i) ++ vs ++ cs.toList.drop (f * 258 + i + vs.length)).toArray) gs g (ps.set f p') := by
  obtain ⟨cs0, hb0, hs, hcs⟩ := h.row
  obtain rfl : cs0 = cs := by
    have e : some (Obj.cells cs0 E (0, 0)) = some (.cells cs E (0, 0)) := hb0.symm.trans hb
    injection e with e
    injection e
  have hl := (h.at_ hf).len
  have hsz : f * 258 + i + vs.length ≤ cs0.size := by omega
  refine ⟨hsz, h.turn hf p' ok' (Chg.setRow _ _ rfl) hb (hb.row _) (by simp; omega) (fun k hk => ?_) (fun j hj => ?_)⟩
  · simp only [List.getElem?_toArray, List.append_assoc]
    by_cases hk1 : k < f * 258 + i
    · rw [List.getElem?_append_left (by simp; omega), List.getElem?_take, if_pos hk1]; simp
    · have hk2 : f * 258 + i + vs.length ≤ k := by omega
      have hm : (cs0.toList.take (f * 258 + i)).length = f * 258 + i := by simp; omega
      rw [List.getElem?_append_right (by omega), hm, List.getElem?_append_right (by omega), List.getElem?_drop]
      rw [show f * 258 + i + vs.length + (k - (f * 258 + i) - vs.length) = k by omega]; simp
  · rw [hc]
    simp only [List.getElem?_toArray, List.append_assoc]
    have hm : (cs0.toList.take (f * 258 + i)).length = f * 258 + i := by simp; omega
    have hm2 : (ps[f].cells.take i).length = i := by simp; omega
    by_cases hj1 : j < i
    · rw [List.getElem?_append_left (by omega), List.getElem?_append_left (by omega), List.getElem?_take, if_pos (by omega), List.getElem?_take, if_pos hj1]
      simpa using hcs f hf j hj
    · rw [List.getElem?_append_right (by omega), List.getElem?_append_right (l₁ := ps[f].cells.take i) (by omega), hm, hm2, show f * 258 + j - (f * 258 + i) = j - i by omega]
      by_cases hj2 : j - i < vs.length
      · rw [List.getElem?_append_left hj2, List.getElem?_append_left hj2]
      · rw [List.getElem?_append_right (by omega), List.getElem?_append_right (by omega), List.getElem?_drop, List.getElem?_drop]
        rw [show f * 258 + i + vs.length + (j - i - vs.length) = f * 258 + j by omega, show i + vs.length + (j - i - vs.length) = j by omega]
        simpa using hcs f hf j hj
end
end Go.Proofs.YthnpalcjfgbjeaaGreat
