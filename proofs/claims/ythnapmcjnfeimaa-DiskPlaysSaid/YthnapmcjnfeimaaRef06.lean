/- The document's disk in memory, and its small functions. Conditions: those that each states. -/
import Derived.Test.YthnapmcjnfeimaaDkX
import Derived.Deep.RegionWith
import Derived.Deep.RegionHeld3
import Derived.Deep.RegionLaw
import Derived.Deep.DeepCutAuto
import Derived.Deep.CutBlock
import Derived.Deep.QuietTactic
import Derived.BigQuiet
import Derived.StillTailTactics
namespace Go.Proofs.Ythnapmcjnfeimaa
open Go.ChangeShapes Go.WideShapes Go.ChangeAt Go.RowKit Go.Deep Di
set_option linter.unusedVariables false

/-- The first cells of a block. -/
def Heads (w : World) (b : Nat) (E : TypeId) (xs : List Value) : Prop := ∃ cs : Array Value, Blk w b E cs ∧ xs.length ≤ cs.size ∧ ∀ j (h : j < xs.length), cs[j]? = some xs[j]
section
variable {w w' : World} {b : Nat} {E : TypeId} {xs : List Value} {S : Nat → Prop}
theorem Heads.lt (h : Heads w b E xs) : b < w.heap.size := by obtain ⟨cs, hb, _⟩ := h; exact hb.lt
theorem Heads.cell (h : Heads w b E xs) {j : Nat} (hj : j < xs.length) : w.cell? ⟨b, j, none⟩ = some xs[j] := by
  obtain ⟨cs, hb, _, hc⟩ := h
  rw [hb.cell, hc j hj]
theorem Heads.frozen (h : Heads w b E xs) (j : Nat) : w.frozen? ⟨b, j, none⟩ = false := by obtain ⟨cs, hb, _⟩ := h; exact hb.frozen j
theorem Heads.chg (h : Heads w b E xs) (k : Chg w w' S) (hn : ¬ S b) : Heads w' b E xs := by
  obtain ⟨cs, hb, hs, hc⟩ := h
  exact ⟨cs, hb.chg k hn, hs, hc⟩
theorem Heads.drewN (h : Heads w b E xs) (n : Nat) : Heads (w.drewN n) b E xs := h
theorem Heads.set (h : Heads w b E xs) (j : Nat) (v : Value) : Heads (w.setCell ⟨b, j, none⟩ v) b E (xs.set j v) := by
  obtain ⟨cs, hb, hs, hc⟩ := h
  refine ⟨cs.setIfInBounds j v, hb.put j v, by simpa using hs, fun i hi => ?_⟩
  rw [List.length_set] at hi
  rw [Array.getElem?_setIfInBounds]
  by_cases e : j = i
  · subst e
    rw [if_pos rfl, if_pos (by omega), List.getElem_set_self]
  · rw [if_neg e, hc i hi, List.getElem_set_ne e]
theorem Heads.of_row {B : Nat} {n c g : Nat} (h : w.ownsRow B E 1 (.slice (some ⟨g, 0, none⟩) n c) n xs) : Heads w g E xs := by
  rcases h.2 with ⟨e, _⟩ | ⟨g', cap, cur, e, _, hh, hc, _, hs, ht⟩
  · cases e
  · injection e with e1 e2 e3
    injection e1 with e1
    injection e1 with e1 _ _
    subst e1 e3
    have hl := h.1
    rw [Nat.mul_one] at hl hs ht
    refine ⟨cur, hh, by omega, fun j hj => ?_⟩
    have : xs[j]? = cur.toList[j]? := by
      rw [← ht, List.getElem?_take, if_pos (by omega)]
    rw [List.getElem?_eq_getElem hj] at this
    simpa using this.symm
end

section
variable {w : World}
theorem Heads.other {b g : Nat} {E : TypeId} {xs : List Value} (h : Heads w b E xs) (i : Nat) (v : Value) (hn : b ≠ g) : Heads (w.setCell ⟨g, i, none⟩ v) b E xs :=
  h.chg (Chg.set (S := fun k => k = g) w i v rfl) hn
end

namespace RD
def textsD (bs : List (List UInt8)) : List Value := bs.map fun t => .string ⟨t.toArray⟩
def ownsD (os : List Nat) : List Value := os.map fun (o : Nat) => Value.int .i64 (o : Int)
def Wr.two (q : Wr) : List Value := [.int .i64 (q.block : Int), .string ⟨q.text.toArray⟩]
def lineD (l : List Wr) : List Value := (l.map Wr.two).flatten
theorem two_rows (l : List Wr) : ∀ r ∈ l.map Wr.two, r.length = 2 := by
  intro r hr
  obtain ⟨q, hq, rfl⟩ := List.mem_map.1 hr
  rfl
/-- The document's disk in memory. -/
structure RefAt (w : World) (gm bt bo ct co : Nat) (Al : Option Addr) (cl : Nat) (d : Dk) : Prop where
  head : Blk w gm 40 #[.slice (some ⟨bt, 0, none⟩) d.blocks.length ct, .slice (some ⟨bo, 0, none⟩) d.blocks.length co, .slice Al d.line.length cl, .bool (!d.on), .int .i64 d.armed]
  text : Heads w bt 9 (textsD d.blocks)
  own : Heads w bo 3 (ownsD d.owners)
  line : RowW w 61 2 Al d.line.length cl (lineD d.line)
  nt : gm ≠ bt
  no : gm ≠ bo
  tn : bt ≠ bo
  lm : ¬ inB Al gm
  lt_ : ¬ inB Al bt
  lo : ¬ inB Al bo
  ok : d.Ok
def rfoot (gm bt bo : Nat) (Al : Option Addr) : Nat → Prop := fun k => k = gm ∨ k = bt ∨ k = bo ∨ inB Al k
def RA (w : World) (R : Nat → Prop) (gm : Nat) (d : Dk) : Prop := ∃ bt bo ct co Al cl, RefAt w gm bt bo ct co Al cl d ∧ ∀ k, R k ↔ rfoot gm bt bo Al k
section
variable {w w' w1 : World} {gm bt bo ct co cl : Nat} {Al : Option Addr} {d : Dk} {S R : Nat → Prop}
theorem RefAt.chg (h : RefAt w gm bt bo ct co Al cl d) (k : Chg w w' S) (hn : ∀ i, S i → ¬ rfoot gm bt bo Al i) : RefAt w' gm bt bo ct co Al cl d :=
  ⟨h.head.chg k (fun s => hn _ s (.inl rfl)), h.text.chg k (fun s => hn _ s (.inr (.inl rfl))), h.own.chg k (fun s => hn _ s (.inr (.inr (.inl rfl)))), h.line.chg k (fun b hb s => hn _ s (.inr (.inr (.inr hb)))), h.nt, h.no, h.tn, h.lm, h.lt_, h.lo, h.ok⟩
theorem RefAt.new (h : RefAt w gm bt bo ct co Al cl d) (k : Below w.heap.size w w') : RefAt w' gm bt bo ct co Al cl d := h.chg (Chg.of_new k fun _ => False) (fun _ s => s.elim)
theorem RefAt.drewN (h : RefAt w gm bt bo ct co Al cl d) (n : Nat) : RefAt (w.drewN n) gm bt bo ct co Al cl d := ⟨h.head, h.text, h.own, h.line.drewN n, h.nt, h.no, h.tn, h.lm, h.lt_, h.lo, h.ok⟩
theorem RefAt.lt (h : RefAt w gm bt bo ct co Al cl d) {k : Nat} (hk : rfoot gm bt bo Al k) : k < w.heap.size := by
  rcases hk with rfl | rfl | rfl | h1
  · exact h.head.lt
  · exact h.text.lt
  · exact h.own.lt
  · exact h.line.lt k h1
theorem RA.lt (h : RA w R gm d) {k : Nat} (hk : R k) : k < w.heap.size := by
  obtain ⟨bt, bo, ct, co, Al, cl, D, hF⟩ := h
  exact D.lt ((hF k).1 hk)
theorem RA.chg (h : RA w R gm d) (k : Chg w w' S) (hn : ∀ i, S i → ¬ R i) : RA w' R gm d := by
  obtain ⟨bt, bo, ct, co, Al, cl, D, hF⟩ := h
  exact ⟨bt, bo, ct, co, Al, cl, D.chg k (fun i hi hf => hn i hi ((hF i).2 hf)), hF⟩
theorem RA.new (h : RA w R gm d) (k : Below w.heap.size w w') : RA w' R gm d := h.chg (Chg.of_new k fun _ => False) (fun _ s => s.elim)
theorem RA.drewN (h : RA w R gm d) (n : Nat) : RA (w.drewN n) R gm d := by
  obtain ⟨bt, bo, ct, co, Al, cl, D, hF⟩ := h
  exact ⟨bt, bo, ct, co, Al, cl, D.drewN n, hF⟩
theorem RA.ok (h : RA w R gm d) : d.Ok := by
  obtain ⟨bt, bo, ct, co, Al, cl, D, hF⟩ := h
  exact D.ok
theorem RefAt.ra (h : RefAt w gm bt bo ct co Al cl d) : RA w (rfoot gm bt bo Al) gm d := ⟨bt, bo, ct, co, Al, cl, h, fun _ => Iff.rfl⟩
theorem RefAt.heads (h : RefAt w gm bt bo ct co Al cl d) : w.cell? ⟨gm, 0, none⟩ = some (.slice (some ⟨bt, 0, none⟩) d.blocks.length ct) ∧ w.cell? ⟨gm, 1, none⟩ = some (.slice (some ⟨bo, 0, none⟩) d.blocks.length co) ∧ w.cell? ⟨gm, 2, none⟩ = some (.slice Al d.line.length cl) ∧ w.cell? ⟨gm, 3, none⟩ = some (.bool (!d.on)) ∧ w.cell? ⟨gm, 4, none⟩ = some (.int .i64 d.armed) :=
  ⟨h.head.cell 0, h.head.cell 1, h.head.cell 2, h.head.cell 3, h.head.cell 4⟩
theorem RefAt.textC (h : RefAt w gm bt bo ct co Al cl d) {k : Nat} (hk : k < d.blocks.length) : w.cell? ⟨bt, k, none⟩ = some (.string ⟨(d.blocks.getD k []).toArray⟩) := by
  have := h.text.cell (j := k) (by simpa [textsD] using hk)
  rw [this, List.getD_eq_getElem?_getD, List.getElem?_eq_getElem hk]
  simp [textsD]
theorem RefAt.ownC (h : RefAt w gm bt bo ct co Al cl d) {k : Nat} (hk : k < d.blocks.length) : w.cell? ⟨bo, k, none⟩ = some (.int .i64 (d.own k : Int)) := by
  have hk' : k < d.owners.length := by rw [h.ok.ow]; exact hk
  have := h.own.cell (j := k) (by simpa [ownsD] using hk')
  unfold Dk.own
  rw [this, List.getD_eq_getElem?_getD, List.getElem?_eq_getElem hk']
  simp [ownsD]
theorem RefAt.lineC (h : RefAt w gm bt bo ct co Al cl d) {j : Nat} (hj : j < d.line.length) : ∃ l, Al = some ⟨l, 0, none⟩ ∧ l < w.heap.size ∧ w.cell? ⟨l, j * 2, none⟩ = some (.int .i64 (d.line[j].block : Int)) ∧ w.cell? ⟨l, j * 2 + 1, none⟩ = some (.string ⟨d.line[j].text.toArray⟩) := by
  obtain ⟨l, e, hl, hc⟩ := h.line.form (by omega)
  have hL : (lineD d.line).length = d.line.length * 2 := h.line.len
  have key : ∀ i, i < 2 → w.cell? ⟨l, j * 2 + i, none⟩ = (Wr.two d.line[j])[i]? := by
    intro i hi
    have hlt : j * 2 + i < (lineD d.line).length := by omega
    rw [hc _ hlt, ← List.getElem?_eq_getElem hlt]
    unfold lineD
    rw [flat_get (two_rows _) (by simpa using hj) hi]
    simp
  exact ⟨l, e, hl, key 0 (by decide), key 1 (by decide)⟩

set_option maxRecDepth 100000 in
set_option maxHeartbeats 2000000 in
theorem rmay_any (h : RefAt w gm bt bo ct co Al cl d) (env block : Int) :
    Calls Try.prog 22 #[.pointer (some ⟨gm, 0, none⟩), .int .i64 env, .int .i64 block] w fun e w' => e = .returned (.int .i64 (askE d env block)) ∧ w' = w := by
  obtain ⟨c0, c1, _, c3, _⟩ := h.heads
  cases hon : d.on with
  | false =>
    rw [hon] at c3
    have c3' : w.cell? ⟨gm, 3, none⟩ = some (.bool true) := c3
    have e : askE d env block = 30 := by unfold askE; rw [if_pos hon]
    rw [e]
    clear h c3 hon e
    go_enter Try.func22, Try.ntmps22
    go_wp2
    go_ret
    exact ⟨rfl, rfl⟩
  | true =>
    rw [hon] at c3
    have c3' : w.cell? ⟨gm, 3, none⟩ = some (.bool false) := c3
    have hon' : ¬ d.on = false := by rw [hon]; decide
    by_cases h1 : block < 0
    · have e : askE d env block = 31 := by unfold askE; rw [if_neg hon', if_pos (.inl h1)]
      rw [e]
      clear h c3 hon hon' e
      go_enter Try.func22, Try.ntmps22
      go_wp2
      go_ret
      exact ⟨rfl, rfl⟩
    · by_cases h2 : (d.blocks.length : Int) ≤ block
      · have e : askE d env block = 31 := by unfold askE; rw [if_neg hon', if_pos (.inr h2)]
        rw [e]
        have h2' : block ≥ (d.blocks.length : Int) := h2
        clear h c3 hon hon' e
        go_enter Try.func22, Try.ntmps22
        go_wp2
        go_ret
        exact ⟨rfl, rfl⟩
      · obtain ⟨b, rfl⟩ : ∃ b : Nat, block = (b : Int) := ⟨block.toNat, by omega⟩
        have hb : b < d.blocks.length := by omega
        have b0 : (0 : Int) ≤ (b : Int) := by omega
        have b1 : (b : Int) < (d.blocks.length : Int) := by omega
        have h2' : ¬ (b : Int) ≥ (d.blocks.length : Int) := h2
        have co := h.ownC hb
        have e : askE d env b = if (d.own b : Int) = env ∧ env ≠ 0 then 0 else 20 := by
          unfold askE; rw [if_neg hon', if_neg (by omega)]; rfl
        rw [e]
        generalize d.own b = o at *
        by_cases h3 : (o : Int) = env
        · by_cases h4 : env = 0
          · rw [if_neg (fun x => x.2 h4)]
            have h3' : (o : Int) = 0 := by omega
            have h4' : (env == 0) = true := by simpa using h4
            subst h4
            clear h c3 hon hon' e h1 h2
            rw [h3'] at co
            clear h3 h3'
            go_enter Try.func22, Try.ntmps22
            go_wp2
            go_ret
            exact ⟨rfl, rfl⟩
          · rw [if_pos ⟨h3, h4⟩]
            rw [h3] at co
            have h4' : (env == 0) = false := by simpa using h4
            clear h c3 hon hon' e h1 h2 h3
            go_enter Try.func22, Try.ntmps22
            go_wp2
            go_ret
            exact ⟨rfl, rfl⟩
        · rw [if_neg (fun x => h3 x.1)]
          have h3' : ((o : Int) == env) = false := by simpa using h3
          clear h c3 hon hon' e h1 h2
          go_enter Try.func22, Try.ntmps22
          go_wp2
          go_ret
          exact ⟨rfl, rfl⟩

theorem seen_take {l : List Wr} {j : Nat} (hj : j < l.length) (b : Nat) (t : List UInt8) : seen (l.take (j + 1)) b t = if l[j].block = b then l[j].text else seen (l.take j) b t := by
  rw [List.take_succ_eq_append_getElem hj, seen_append]
  rfl
set_option maxRecDepth 100000 in
set_option maxHeartbeats 2000000 in
theorem rsee_any (h : RefAt w gm bt bo ct co Al cl d) (b : Nat) (hb : b < d.blocks.length) :
    Calls Try.prog 23 #[.pointer (some ⟨gm, 0, none⟩), .int .i64 (b : Int)] w fun e w' => e = .returned (.string ⟨(see d b).toArray⟩) ∧ w' = w := by
  obtain ⟨c0, _, c2, _, _⟩ := h.heads
  have ct := h.textC hb
  have b0 : (0 : Int) ≤ (b : Int) := by omega
  have b1 : (b : Int) < (d.blocks.length : Int) := by omega
  have H := Lib.hid h
  have hL : d.line.length ≤ 9223372036854775807 := by have := h.line.capMax; unfold maxLen at this; omega
  have e0 : see d b = seen (d.line.take d.line.length) b (d.blocks.getD b []) := by rw [List.take_length]; rfl
  rw [e0]
  generalize d.blocks.getD b [] = t0 at *
  clear h e0
  go_enter Try.func23, Try.ntmps23
  go_wp2
  go_loopw [5, 6] (fun s i wr => ∃ (j : Nat), j ≤ d.line.length ∧ i = .int .i64 (j : Int) ∧ s = .string ⟨(seen (d.line.take j) b t0).toArray⟩ ∧ wr = w) (fun _ i _ => d.line.length - (intOf i).toNat)
  case atStart => exact ⟨0, Nat.zero_le _, rfl, rfl, rfl⟩
  case round =>
    obtain ⟨j, hj, rfl, rfl, rfl⟩ := hrel
    by_cases hlt : j < d.line.length
    · have j1 : (j : Int) < (d.line.length : Int) := by omega
      have j0 : (0 : Int) ≤ (j : Int) := by omega
      have xj := IntWalk.i64_in ((j : Int) + 1) (by omega)
      obtain ⟨l, rfl, hl, q0, q1⟩ := H.out.lineC hlt
      have hst := seen_take hlt b t0
      by_cases hq : d.line[j].block = b
      · rw [if_pos hq] at hst
        rw [hq] at q0
        have HST := Lib.hid hst
        clear hst hq
        generalize d.line[j].text = T at *
        go_wp2
        go_roundw
        case rel => exact ⟨j + 1, by omega, by simp, by rw [HST.out], by first | rfl | trivial⟩
        case measure => simp [intOf]; omega
      · rw [if_neg hq] at hst
        have hq' : ((d.line[j].block : Int) == (b : Int)) = false := by simpa using (fun e => hq (by omega))
        have HST := Lib.hid hst
        clear hst hq
        generalize d.line[j].text = T at *
        generalize d.line[j].block = B at *
        go_wp2
        go_roundw
        case rel => exact ⟨j + 1, by omega, by simp, by rw [HST.out], by first | rfl | trivial⟩
        case measure => simp [intOf]; omega
    · have hge : ¬ (j : Int) < (d.line.length : Int) := by omega
      obtain rfl : j = d.line.length := by omega
      go_wp2
      go_ret
      exact ⟨rfl, rfl⟩
end
end RD
end Go.Proofs.Ythnapmcjnfeimaa
