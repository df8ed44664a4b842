/- Package disk: Image; what no disk answers. Conditions: those that each states. -/
import Derived.Test.YtbkjjakkihbcdaaGreatDk4
import Derived.Test.YtbkjjakkihbcdaaGreatMAG
import Derived.Test.YtbkjjakkihbcdaaGreatMFD
import Derived.Deep.RegionWith
import Derived.Deep.RegionHeld3
import Derived.Deep.RegionLaw
import Derived.Deep.DeepCutAuto
import Derived.Deep.CutBlock
import Derived.Deep.QuietTactic
import Derived.BigQuiet
import Derived.StillTailTactics
namespace Go.Proofs.YtbkjjakkihbcdaaGreat.Di
open Go.ChangeShapes Go.WideShapes Go.ChangeAt Go.RowKit Go.Deep
set_option linter.unusedVariables false

section
variable {gb g cl ce q n : Nat} {Al Ae : Option Addr} {d : Dk} {w w' : World} {F S : Nat → Prop} {bs : List (List UInt8)}
end
end Go.Proofs.YtbkjjakkihbcdaaGreat.Di

/- What is seen behind a Write and a settling; the cells of an act. Conditions: those that each states. -/
namespace Go.Proofs.YtbkjjakkihbcdaaGreat
open Go.ChangeShapes Go.WideShapes Go.ChangeAt Go.RowKit Go.Deep Di
set_option linter.unusedVariables false

theorem act_cells {w : World} {q : Nat} {kind env a b : Int} {s : ByteArray} (h : Blk w q 115 #[.int .i64 kind, .int .i64 env, .int .i64 a, .int .i64 b, .string s]) :
  w.cell? ⟨q, 0, none⟩ = some (.int .i64 kind) ∧ w.cell? ⟨q, 1, none⟩ = some (.int .i64 env) ∧ w.cell? ⟨q, 2, none⟩ = some (.int .i64 a) ∧ w.cell? ⟨q, 3, none⟩ = some (.int .i64 b) ∧ w.cell? ⟨q, 4, none⟩ = some (.string s) :=
 ⟨h.cell 0, h.cell 1, h.cell 2, h.cell 3, h.cell 4⟩
end Go.Proofs.YtbkjjakkihbcdaaGreat

/- The document's disk in memory, and its small functions. Conditions: those that each states. -/
namespace Go.Proofs.YtbkjjakkihbcdaaGreat
open Go.ChangeShapes Go.WideShapes Go.ChangeAt Go.RowKit Go.Deep Di
set_option linter.unusedVariables false

namespace RE
def textsD (bs : List (List UInt8)) : List Value := bs.map fun t => .string ⟨t.toArray⟩
def ownsD (os : List Nat) : List Value := os.map fun (o : Nat) => Value.int .i64 (o : Int)
def Wr.two (q : Wr) : List Value := [.int .i64 (q.block : Int), .string ⟨q.text.toArray⟩]
def lineD (l : List Wr) : List Value := (l.map Wr.two).flatten
theorem two_rows (l : List Wr) : ∀ r ∈ l.map Wr.two, r.length = 2 := by
 intro r hr
 obtain ⟨q, hq, rfl⟩ := List.mem_map.1 hr
 rfl
structure RefAt (w : World) (gm bt bo ct co : Nat) (Al : Option Addr) (cl : Nat) (d : Dk) : Prop where
 head : Blk w gm 74 #[.slice (some ⟨bt, 0, none⟩) d.blocks.length ct, .slice (some ⟨bo, 0, none⟩) d.blocks.length co, .slice Al d.line.length cl, .bool (!d.on), .int .i64 d.armed]
 text : Heads w bt 9 (textsD d.blocks)
 own : Heads w bo 3 (ownsD d.owners)
 line : RowW w 184 2 Al d.line.length cl (lineD d.line)
 nt : gm ≠ bt
 no : gm ≠ bo
 tn : bt ≠ bo
 lm : ¬ inB Al gm
 lt_ : ¬ inB Al bt
 lo : ¬ inB Al bo
 ok : d.Ok
def rfoot (gm bt bo : Nat) (Al : Option Addr) : Nat → Prop := fun k => k = gm ∨ k = bt ∨ k = bo ∨ inB Al k
def RA (w : World) (R : Nat → Prop) (gm : Nat) (d : Dk) : Prop := ∃ bt bo ct co Al cl, RefAt w gm bt bo ct co Al cl d ∧ ∀ k, R k ↔ rfoot gm bt bo Al k
section
variable {w w' w1 : World} {gm bt bo ct co cl : Nat} {Al : Option Addr} {d : Dk} {S R : Nat → Prop}
theorem RefAt.chg (h : RefAt w gm bt bo ct co Al cl d) (k : Chg w w' S) (hn : ∀ i, S i → ¬ rfoot gm bt bo Al i) : RefAt w' gm bt bo ct co Al cl d :=
 ⟨h.head.chg k (fun s => hn _ s (.inl rfl)), h.text.chg k (fun s => hn _ s (.inr (.inl rfl))), h.own.chg k (fun s => hn _ s (.inr (.inr (.inl rfl)))), h.line.chg k (fun b hb s => hn _ s (.inr (.inr (.inr hb)))), h.nt, h.no, h.tn, h.lm, h.lt_, h.lo, h.ok⟩
theorem RefAt.new (h : RefAt w gm bt bo ct co Al cl d) (k : Below w.heap.size w w') : RefAt w' gm bt bo ct co Al cl d := h.chg (Chg.of_new k fun _ => False) (fun _ s => s.elim)
theorem RefAt.drewN (h : RefAt w gm bt bo ct co Al cl d) (n : Nat) : RefAt (w.drewN n) gm bt bo ct co Al cl d := ⟨h.head, h.text, h.own, h.line.drewN n, h.nt, h.no, h.tn, h.lm, h.lt_, h.lo, h.ok⟩
theorem RefAt.lt (h : RefAt w gm bt bo ct co Al cl d) {k : Nat} (hk : rfoot gm bt bo Al k) : k < w.heap.size := by
 rcases hk with rfl | rfl | rfl | h1
 ·exact h.head.lt
 ·exact h.text.lt
 ·exact h.own.lt
 ·exact h.line.lt k h1
theorem RA.lt (h : RA w R gm d) {k : Nat} (hk : R k) : k < w.heap.size := by
 obtain ⟨bt, bo, ct, co, Al, cl, D, hF⟩ := h
 exact D.lt ((hF k).1 hk)
theorem RA.chg (h : RA w R gm d) (k : Chg w w' S) (hn : ∀ i, S i → ¬ R i) : RA w' R gm d := by
 obtain ⟨bt, bo, ct, co, Al, cl, D, hF⟩ := h
 exact ⟨bt, bo, ct, co, Al, cl, D.chg k (fun i hi hf => hn i hi ((hF i).2 hf)), hF⟩
theorem RA.drewN (h : RA w R gm d) (n : Nat) : RA (w.drewN n) R gm d := by
 obtain ⟨bt, bo, ct, co, Al, cl, D, hF⟩ := h
 exact ⟨bt, bo, ct, co, Al, cl, D.drewN n, hF⟩
theorem RefAt.ra (h : RefAt w gm bt bo ct co Al cl d) : RA w (rfoot gm bt bo Al) gm d := ⟨bt, bo, ct, co, Al, cl, h, fun _ => Iff.rfl⟩
theorem RefAt.heads (h : RefAt w gm bt bo ct co Al cl d) : w.cell? ⟨gm, 0, none⟩ = some (.slice (some ⟨bt, 0, none⟩) d.blocks.length ct) ∧ w.cell? ⟨gm, 1, none⟩ = some (.slice (some ⟨bo, 0, none⟩) d.blocks.length co) ∧ w.cell? ⟨gm, 2, none⟩ = some (.slice Al d.line.length cl) ∧ w.cell? ⟨gm, 3, none⟩ = some (.bool (!d.on)) ∧ w.cell? ⟨gm, 4, none⟩ = some (.int .i64 d.armed) :=
 ⟨h.head.cell 0, h.head.cell 1, h.head.cell 2, h.head.cell 3, h.head.cell 4⟩
theorem RefAt.textC (h : RefAt w gm bt bo ct co Al cl d) {k : Nat} (hk : k < d.blocks.length) : w.cell? ⟨bt, k, none⟩ = some (.string ⟨(d.blocks.getD k []).toArray⟩) := by
 have := h.text.cell (j := k) (by simpa [textsD] using hk)
 rw [this, List.getD_eq_getElem?_getD, List.getElem?_eq_getElem hk]
 simp [textsD]
theorem RefAt.ownC (h : RefAt w gm bt bo ct co Al cl d) {k : Nat} (hk : k < d.blocks.length) : w.cell? ⟨bo, k, none⟩ = some (.int .i64 (d.own k : Int)) := by
 have hk' : k < d.owners.length := by rw [h.ok.ow]; exact hk
 have := h.own.cell (j := k) (by simpa [ownsD] using hk')
 unfold Dk.own
 rw [this, List.getD_eq_getElem?_getD, List.getElem?_eq_getElem hk']
 simp [ownsD]
theorem RefAt.lineC (h : RefAt w gm bt bo ct co Al cl d) {j : Nat} (hj : j < d.line.length) : ∃ l, Al = some ⟨l, 0, none⟩ ∧ l < w.heap.size ∧ w.cell? ⟨l, j * 2, none⟩ = some (.int .i64 (d.line[j].block : Int)) ∧ w.cell? ⟨l, j * 2 + 1, none⟩ = some (.string ⟨d.line[j].text.toArray⟩) := by
 obtain ⟨l, e, hl, hc⟩ := h.line.form (by omega)
 have hL : (lineD d.line).length = d.line.length * 2 := h.line.len
 have key : ∀ i, i < 2 → w.cell? ⟨l, j * 2 + i, none⟩ = (Wr.two d.line[j])[i]? := by
  intro i hi
  have hlt : j * 2 + i < (lineD d.line).length := by omega
  rw [hc _ hlt, ← List.getElem?_eq_getElem hlt]
  unfold lineD
  rw [flat_get (two_rows _) (by simpa using hj) hi]
  simp
 exact ⟨l, e, hl, key 0 (by decide), key 1 (by decide)⟩

set_option maxRecDepth 100000 in
set_option maxHeartbeats 2000000 in
theorem rmay_any (h : RefAt w gm bt bo ct co Al cl d) (env block : Int) :
  Calls Tryz.prog 83 #[.pointer (some ⟨gm, 0, none⟩), .int .i64 env, .int .i64 block] w fun e w' => e = .returned (.int .i64 (askE d env block)) ∧ w' = w := by
 obtain ⟨c0, c1, _, c3, _⟩ := h.heads
 cases hon : d.on with
 | false =>
  rw [hon] at c3
  have c3' : w.cell? ⟨gm, 3, none⟩ = some (.bool true) := c3
  have e : askE d env block = 30 := by unfold askE; rw [if_pos hon]
  rw [e]
  clear h c3 hon e
  go_enter Tryz.func83, Tryz.ntmps83
  go_wp2
  go_ret
  exact ⟨rfl, rfl⟩
 | true =>
  rw [hon] at c3
  have c3' : w.cell? ⟨gm, 3, none⟩ = some (.bool false) := c3
  have hon' : ¬ d.on = false := by rw [hon]; decide
  by_cases h1 : block < 0
  ·have e : askE d env block = 31 := by unfold askE; rw [if_neg hon', if_pos (.inl h1)]
   rw [e]
   clear h c3 hon hon' e
   go_enter Tryz.func83, Tryz.ntmps83
   go_wp2
   go_ret
   exact ⟨rfl, rfl⟩
  ·by_cases h2 : (d.blocks.length : Int) ≤ block
   ·have e : askE d env block = 31 := by unfold askE; rw [if_neg hon', if_pos (.inr h2)]
    rw [e]
    have h2' : block ≥ (d.blocks.length : Int) := h2
    clear h c3 hon hon' e
    go_enter Tryz.func83, Tryz.ntmps83
    go_wp2
    go_ret
    exact ⟨rfl, rfl⟩
   ·obtain ⟨b, rfl⟩ : ∃ b : Nat, block = (b : Int) := ⟨block.toNat, by omega⟩
    have hb : b < d.blocks.length := by omega
    have b0 : (0 : Int) ≤ (b : Int) := by omega
    have b1 : (b : Int) < (d.blocks.length : Int) := by omega
    have h2' : ¬ (b : Int) ≥ (d.blocks.length : Int) := h2
    have co := h.ownC hb
    have e : askE d env b = if (d.own b : Int) = env ∧ env ≠ 0 then 0 else 20 := by
     unfold askE; rw [if_neg hon', if_neg (by omega)]; rfl
    rw [e]
    generalize d.own b = o at *
    by_cases h3 : (o : Int) = env
    ·by_cases h4 : env = 0
     ·rw [if_neg (fun x => x.2 h4)]
      have h3' : (o : Int) = 0 := by omega
      have h4' : (env == 0) = true := by simpa using h4
      subst h4
      clear h c3 hon hon' e h1 h2
      rw [h3'] at co
      clear h3 h3'
      go_enter Tryz.func83, Tryz.ntmps83
      go_wp2
      go_ret
      exact ⟨rfl, rfl⟩
     ·rw [if_pos ⟨h3, h4⟩]
      rw [h3] at co
      have h4' : (env == 0) = false := by simpa using h4
      clear h c3 hon hon' e h1 h2 h3
      go_enter Tryz.func83, Tryz.ntmps83
      go_wp2
      go_ret
      exact ⟨rfl, rfl⟩
    ·rw [if_neg (fun x => h3 x.1)]
     have h3' : ((o : Int) == env) = false := by simpa using h3
     clear h c3 hon hon' e h1 h2
     go_enter Tryz.func83, Tryz.ntmps83
     go_wp2
     go_ret
     exact ⟨rfl, rfl⟩

theorem seen_take {l : List Wr} {j : Nat} (hj : j < l.length) (b : Nat) (t : List UInt8) : seen (l.take (j + 1)) b t = if l[j].block = b then l[j].text else seen (l.take j) b t := by
 rw [List.take_succ_eq_append_getElem hj, seen_append]
 rfl
set_option maxRecDepth 100000 in
set_option maxHeartbeats 2000000 in
theorem rsee_any (h : RefAt w gm bt bo ct co Al cl d) (b : Nat) (hb : b < d.blocks.length) :
  Calls Tryz.prog 84 #[.pointer (some ⟨gm, 0, none⟩), .int .i64 (b : Int)] w fun e w' => e = .returned (.string ⟨(see d b).toArray⟩) ∧ w' = w := by
 obtain ⟨c0, _, c2, _, _⟩ := h.heads
 have ct := h.textC hb
 have b0 : (0 : Int) ≤ (b : Int) := by omega
 have b1 : (b : Int) < (d.blocks.length : Int) := by omega
 have H := Lib.hid h
 have hL : d.line.length ≤ 9223372036854775807 := by have := h.line.capMax; unfold maxLen at this; omega
 have e0 : see d b = seen (d.line.take d.line.length) b (d.blocks.getD b []) := by rw [List.take_length]; rfl
 rw [e0]
 generalize d.blocks.getD b [] = t0 at *
 clear h e0
 go_enter Tryz.func84, Tryz.ntmps84
 go_wp2
 go_loopw [5, 6] (fun s i wr => ∃ (j : Nat), j ≤ d.line.length ∧ i = .int .i64 (j : Int) ∧ s = .string ⟨(seen (d.line.take j) b t0).toArray⟩ ∧ wr = w) (fun _ i _ => d.line.length - (intOf i).toNat)
 case atStart => exact ⟨0, Nat.zero_le _, rfl, rfl, rfl⟩
 case round =>
  obtain ⟨j, hj, rfl, rfl, rfl⟩ := hrel
  by_cases hlt : j < d.line.length
  ·have j1 : (j : Int) < (d.line.length : Int) := by omega
   have j0 : (0 : Int) ≤ (j : Int) := by omega
   have xj := IntWalk.i64_in ((j : Int) + 1) (by omega)
   obtain ⟨l, rfl, hl, q0, q1⟩ := H.out.lineC hlt
   have hst := seen_take hlt b t0
   by_cases hq : d.line[j].block = b
   ·rw [if_pos hq] at hst
    rw [hq] at q0
    have HST := Lib.hid hst
    clear hst hq
    generalize d.line[j].text = T at *
    go_wp2
    go_roundw
    case rel => exact ⟨j + 1, by omega, by simp, by rw [HST.out], by first | rfl | trivial⟩
    case measure => simp [intOf]; omega
   ·rw [if_neg hq] at hst
    have hq' : ((d.line[j].block : Int) == (b : Int)) = false := by simpa using (fun e => hq (by omega))
    have HST := Lib.hid hst
    clear hst hq
    generalize d.line[j].text = T at *
    generalize d.line[j].block = B at *
    go_wp2
    go_roundw
    case rel => exact ⟨j + 1, by omega, by simp, by rw [HST.out], by first | rfl | trivial⟩
    case measure => simp [intOf]; omega
  ·have hge : ¬ (j : Int) < (d.line.length : Int) := by omega
   obtain rfl : j = d.line.length := by omega
   go_wp2
   go_ret
   exact ⟨rfl, rfl⟩
end
end RE
end Go.Proofs.YtbkjjakkihbcdaaGreat

/- The document's disk: what waits becomes durable; two images. Conditions: those that each states. -/
namespace Go.Proofs.YtbkjjakkihbcdaaGreat.RE
open Go.ChangeShapes Go.WideShapes Go.ChangeAt Go.RowKit Go.Deep Di
set_option linter.unusedVariables false
section
variable {w w' w1 : World} {gm bt bo ct co cl : Nat} {Al : Option Addr} {d : Dk} {S R : Nat → Prop}
theorem textsD_set (bs : List (List UInt8)) (b : Nat) (t : List UInt8) : textsD (bs.set b t) = (textsD bs).set b (.string ⟨t.toArray⟩) := by
 unfold textsD; rw [List.map_set]
theorem RefAt.setText (h : RefAt w gm bt bo ct co Al cl d) {b : Nat} {t : List UInt8} (ht : t.length = 256) :
  RefAt (w.setCell ⟨bt, b, none⟩ (.string ⟨t.toArray⟩)) gm bt bo ct co Al cl { d with blocks := d.blocks.set b t } ∧ Chg w (w.setCell ⟨bt, b, none⟩ (.string ⟨t.toArray⟩)) (fun k => k = bt) := by
 have k : Chg w (w.setCell ⟨bt, b, none⟩ (.string ⟨t.toArray⟩)) (fun k => k = bt) := Chg.set _ _ _ rfl
 refine ⟨⟨?_, ?_, h.own.chg k (fun e => h.tn (by have e' : bo = bt := e; exact e'.symm)), h.line.chg k (fun b hb e => h.lt_ (by have e' : b = bt := e; rw [← e']; exact hb)), h.nt, h.no, h.tn, h.lm, h.lt_, h.lo, ?_⟩, k⟩
 ·have := h.head.chg k (fun e => h.nt e)
  simp only [List.length_set]
  exact this
 ·have := h.text.set b (.string ⟨t.toArray⟩)
  show Heads _ _ _ (textsD (d.blocks.set b t))
  rw [textsD_set]; exact this
 ·have o := h.ok
  exact ⟨by simpa using o.n1, by simpa using o.n2, fun u hu => by
   rcases List.mem_or_eq_of_mem_set hu with h1 | rfl
   ·exact o.bl u h1
   ·exact ht, by simpa using o.ow, fun x hx => by simpa using o.ex x hx, fun b' hb' => o.mt b' (by simpa using hb'), fun x hx => by simpa using o.li x hx, o.ar⟩
theorem RefAt.endLine (h : RefAt w gm bt bo ct co Al cl d) : RefAt (w.setCell ⟨gm, 2, none⟩ (.slice none 0 0)) gm bt bo ct co none 0 { d with line := [] } ∧ Chg w (w.setCell ⟨gm, 2, none⟩ (.slice none 0 0)) (fun k => k = gm) := by
 have k : Chg w (w.setCell ⟨gm, 2, none⟩ (.slice none 0 0)) (fun k => k = gm) := Chg.set _ _ _ rfl
 refine ⟨⟨?_, h.text.chg k (fun e => h.nt (by have e' : bt = gm := e; exact e'.symm)), h.own.chg k (fun e => h.no (by have e' : bo = gm := e; exact e'.symm)), RowW.nil _ _ _, h.nt, h.no, h.tn, inB_none _, inB_none _, inB_none _, ⟨h.ok.n1, h.ok.n2, h.ok.bl, h.ok.ow, h.ok.ex, h.ok.mt, fun q hq => (by cases hq), h.ok.ar⟩⟩, k⟩
 have := h.head.put 2 (.slice none 0 0)
 simp at this
 exact this
theorem put_take {bs : List (List UInt8)} {l : List Wr} {j : Nat} {n : Int} (h1 : j ≤ l.length) (h2 : (j : Int) ≤ n ∨ j = 0) (h3 : ¬ ((j : Int) < n ∧ j < l.length)) : put bs (l.take j) = put bs (l.take n.toNat) := by
 by_cases e : j = n.toNat
 ·rw [e]
 ·have hj : j = l.length := by
   by_cases h : j = l.length
   ·exact h
   ·exfalso
    apply h3
    constructor
    ·rcases h2 with h2 | h2
     ·omega
     ·omega
    ·omega
  rw [List.take_of_length_le (by omega), List.take_of_length_le (by omega)]
set_option maxRecDepth 100000 in
set_option maxHeartbeats 2000000 in
theorem rsettle_any (h : RefAt w gm bt bo ct co Al cl d) (n : Int) :
  Calls Tryz.prog 85 #[.pointer (some ⟨gm, 0, none⟩), .int .i64 n] w fun e w' => e = .returned (.tuple #[]) ∧ RefAt w' gm bt bo ct co none 0 (settleR d n.toNat) ∧ Chg w w' (rfoot gm bt bo Al) := by
 have hL : d.line.length ≤ 9223372036854775807 := by have := h.line.capMax; unfold maxLen at this; omega
 have H0 := Lib.hid (show RefAt w gm bt bo ct co Al cl (Di.part d 0) from h)
 have OK := Lib.hid h.ok
 clear h
 go_enter Tryz.func85, Tryz.ntmps85
 go_wp2
 go_loopw [4] (fun i wr => ∃ (j : Nat), j ≤ d.line.length ∧ ((j : Int) ≤ n ∨ j = 0) ∧ i = .int .i64 (j : Int) ∧ RefAt wr gm bt bo ct co Al cl (Di.part d j) ∧ Chg w wr (rfoot gm bt bo Al)) (fun i _ => d.line.length - (intOf i).toNat)
 case atStart => exact ⟨0, Nat.zero_le _, .inr rfl, rfl, H0.out, Chg.refl _ _⟩
 case round =>
  obtain ⟨j, hj, hjn, rfl, hD, hC⟩ := hrel
  obtain ⟨c0, _, c2, _, _⟩ := hD.heads
  have e1 : (Di.part d j).blocks.length = d.blocks.length := put_len _ _
  have e2 : (Di.part d j).line.length = d.line.length := rfl
  rw [e1] at c0
  rw [e2] at c2
  have HD := Lib.hid hD
  have HC := Lib.hid hC
  have j0 : (0 : Int) ≤ (j : Int) := by omega
  by_cases hn : (j : Int) < n
  ·by_cases hlt : j < d.line.length
   ·have j1 : (j : Int) < (d.line.length : Int) := by omega
    have xj := IntWalk.i64_in ((j : Int) + 1) (by omega)
    have hq := (Di.part_ok OK.out j).li d.line[j] (List.getElem_mem hlt)
    obtain ⟨l, rfl, hl, q0, q1⟩ := hD.lineC (j := j) hlt
    have q0' : wr.cell? ⟨l, j * 2, none⟩ = some (.int .i64 (d.line[j].block : Int)) := q0
    have q1' : wr.cell? ⟨l, j * 2 + 1, none⟩ = some (.string ⟨d.line[j].text.toArray⟩) := q1
    have hqb : d.line[j].block < d.blocks.length := by have := hq.1; rw [e1] at this; exact this
    have b0 : (0 : Int) ≤ (d.line[j].block : Int) := by omega
    have b1 : (d.line[j].block : Int) < (d.blocks.length : Int) := by omega
    have ot := hD.textC hq.1
    have ft := hD.text.frozen (d.line[j].block)
    have hst := (hD.drewN 1).setText (b := d.line[j].block) hq.2
    rw [← Di.part_succ hlt] at hst
    have ST := Lib.hid hst
    clear hD hC hq hst q0 q1 hqb e1 e2
    generalize (Di.part d j).blocks.getD (d.line[j].block) [] = told at *
    generalize d.line[j].block = bk at *
    generalize (⟨d.line[j].text.toArray⟩ : ByteArray) = TX at *
    go_wp2_with fail
    refine wp_region_still_tail 21 (by kernel_rfl) (by kernel_rfl) ?_
    change wpStill _ _ wr.drew (fun a' => wpList _ _ _ _ a' wr.drew) _ _
    simp only [List.take_succ_cons, List.take_zero, List.drop_succ_cons, List.drop_zero]
    repeat still_step
    refine wpStill_nil ?_
    go_wp2
    go_roundw
    case rel => exact ⟨j + 1, by omega, .inl (by omega), by simp, ST.out.1, HC.out.drew.trans (ST.out.2.weak (fun i hi => .inr (.inl hi)))⟩
    case measure => simp [intOf]; omega
   ·have j1 : ¬ (j : Int) < (d.line.length : Int) := by omega
    obtain ⟨d2, k2⟩ := hD.endLine
    have e : ({ Di.part d j with line := [] } : Dk) = settleR d n.toNat := by
     show (⟨put d.blocks (d.line.take j), d.owners, d.exts, [], d.on, d.armed⟩ : Dk) = ⟨put d.blocks (d.line.take n.toNat), d.owners, d.exts, [], d.on, d.armed⟩
     rw [put_take hj hjn (fun x => hlt x.2)]
    rw [e] at d2
    have f2 := hD.head.frozen 2
    have FIN := Lib.hid (And.intro d2 (hC.trans (k2.weak (fun i hi => .inl hi))))
    clear hD hC d2 k2 e e1 e2
    go_wp2
    go_end0
    exact ⟨rfl, FIN.out⟩
  ·obtain ⟨d2, k2⟩ := hD.endLine
   have e : ({ Di.part d j with line := [] } : Dk) = settleR d n.toNat := by
    show (⟨put d.blocks (d.line.take j), d.owners, d.exts, [], d.on, d.armed⟩ : Dk) = ⟨put d.blocks (d.line.take n.toNat), d.owners, d.exts, [], d.on, d.armed⟩
    rw [put_take hj hjn (fun x => hn x.1)]
   rw [e] at d2
   have f2 := hD.head.frozen 2
   have FIN := Lib.hid (And.intro d2 (hC.trans (k2.weak (fun i hi => .inl hi))))
   clear hD hC d2 k2 e e1 e2
   go_wp2
   go_end0
   exact ⟨rfl, FIN.out⟩

end
end Go.Proofs.YtbkjjakkihbcdaaGreat.RE
