/- Lists of pieces of frames, in plain words: sizes, what is cut, what is fetched; such lists that came in. Conditions: those that each states. -/
import Derived.Test.YtgmejifacpefdaaBase
import Derived.Test.YtgmejifacpefdaaApp
import Derived.Deep.Slices
import Derived.Deep.MidRow
import Derived.ChangeSame
namespace Go.Proofs.Ytgmejifacpefdaa
open Go.ChangeShapes Go.WideShapes Go.ChangeAt Go.RowKit Go.Deep
set_option linter.unusedVariables false

structure Pc where
  frame : Int
  off : Int
  len : Int
instance : Inhabited Pc := ⟨⟨0, 0, 0⟩⟩
structure Pc.Ok (p : Pc) : Prop where
  frame : -9223372036854775808 ≤ p.frame ∧ p.frame ≤ 9223372036854775807
  off : -9223372036854775808 ≤ p.off ∧ p.off ≤ 9223372036854775807
  len : -9223372036854775808 ≤ p.len ∧ p.len ≤ 9223372036854775807
def Pc.list (p : Pc) : List Value := [.int .i64 p.frame, .int .i64 p.off, .int .i64 p.len]
/-- Within its frame. -/
def Pc.In (p : Pc) : Prop := 0 ≤ p.off ∧ p.off ≤ 256 ∧ 0 ≤ p.len ∧ p.len ≤ 256 ∧ p.off + p.len ≤ 256
instance (p : Pc) : Decidable p.In := inferInstanceAs (Decidable (_ ∧ _))
/-- How many bytes, without an end. -/
def total : List Pc → Nat
  | [] => 0
  | p :: l => p.len.toNat + total l
def sizeR (l : List Pc) : Int := if 1048576 ≤ total l then 1048576 else (total l : Int)
theorem total_append (l r : List Pc) : total (l ++ r) = total l + total r := by
  induction l with
  | nil => simp [total]
  | cons p l ih => simp [total, ih]; omega
theorem total_take_succ {l : List Pc} {i : Nat} (hi : i < l.length) : total (l.take (i + 1)) = total (l.take i) + l[i].len.toNat := by
  rw [List.take_succ_eq_append_getElem hi, total_append]
  simp [total]
theorem total_take_le (l : List Pc) (i : Nat) : total (l.take i) ≤ total l := by
  have := total_append (l.take i) (l.drop i)
  rw [List.take_append_drop] at this
  omega
theorem total_max {l : List Pc} {m : Nat} (h : ∀ p ∈ l, p.len.toNat ≤ m) : total l ≤ l.length * m := by
  induction l with
  | nil => simp [total]
  | cons p l ih =>
    have h1 := h p (by simp)
    have h2 := ih (fun q hq => h q (by simp [hq]))
    simp only [total, List.length_cons, Nat.add_mul]
    omega

/-- The pieces of n bytes from place a on. -/
def cutL : List Pc → Nat → Nat → List Pc
  | [], _, _ => []
  | p :: l, a, n =>
    (if 0 < min n (p.len.toNat - min a p.len.toNat) then [⟨p.frame, p.off + (min a p.len.toNat : Nat), ((min n (p.len.toNat - min a p.len.toNat) : Nat) : Int)⟩] else []) ++
      cutL l (a - min a p.len.toNat) (n - min n (p.len.toNat - min a p.len.toNat))
theorem cutL_zero (l : List Pc) (a : Nat) : cutL l a 0 = [] := by
  induction l generalizing a with
  | nil => rfl
  | cons p l ih =>
    unfold cutL
    rw [if_neg (by omega), List.nil_append, Nat.zero_sub]
    exact ih _
theorem total_cutL (l : List Pc) (a n : Nat) : total (cutL l a n) = min n (total l - a) := by
  induction l generalizing a n with
  | nil => simp [cutL, total]
  | cons p l ih =>
    unfold cutL
    rw [total_append, ih]
    simp only [total]
    split
    · simp only [total, Int.toNat_natCast]; omega
    · simp only [total]; omega
theorem cutL_len (l : List Pc) (a n : Nat) : (cutL l a n).length ≤ l.length := by
  induction l generalizing a n with
  | nil => simp [cutL]
  | cons p l ih =>
    unfold cutL
    have := ih (a - min a p.len.toNat) (n - min n (p.len.toNat - min a p.len.toNat))
    rw [List.length_append, List.length_cons]
    split
    · simp only [List.length_singleton]; omega
    · simp only [List.length_nil]; omega
theorem cutL_in {l : List Pc} (h : ∀ p ∈ l, p.In) (a n : Nat) : ∀ q ∈ cutL l a n, q.In ∧ 0 < q.len ∧ ∃ p ∈ l, q.frame = p.frame := by
  induction l generalizing a n with
  | nil => intro q hq; cases hq
  | cons p l ih =>
    intro q hq
    unfold cutL at hq
    rcases List.mem_append.1 hq with h1 | h1
    · have hp := h p (by simp)
      unfold Pc.In at hp
      split at h1
      · rename_i h0
        rw [List.mem_singleton.1 h1]
        refine ⟨?_, by show 0 < ((_ : Nat) : Int); omega, p, by simp, rfl⟩
        unfold Pc.In
        dsimp only
        omega
      · cases h1
    · obtain ⟨h2, h3, r, hr, e⟩ := ih (fun r hr => h r (by simp [hr])) _ _ q h1
      exact ⟨h2, h3, r, by simp [hr], e⟩
/-- The bytes of a list, where each frame has a text. -/
def gatherB (txt : Int → List UInt8) (l : List Pc) : List UInt8 := l.flatMap fun p => ((txt p.frame).drop p.off.toNat).take p.len.toNat
theorem gatherB_append (txt : Int → List UInt8) (l r : List Pc) : gatherB txt (l ++ r) = gatherB txt l ++ gatherB txt r := by unfold gatherB; rw [List.flatMap_append]
theorem gatherB_cons (txt : Int → List UInt8) (p : Pc) (l : List Pc) : gatherB txt (p :: l) = ((txt p.frame).drop p.off.toNat).take p.len.toNat ++ gatherB txt l := by unfold gatherB; rw [List.flatMap_cons]
theorem piece_len {t : List UInt8} {p : Pc} (ht : t.length = 256) (h : p.In) : ((t.drop p.off.toNat).take p.len.toNat).length = p.len.toNat := by
  unfold Pc.In at h
  rw [List.length_take, List.length_drop]
  omega
theorem gatherB_length {txt : Int → List UInt8} {l : List Pc} (ht : ∀ p ∈ l, (txt p.frame).length = 256) (h : ∀ p ∈ l, p.In) : (gatherB txt l).length = total l := by
  induction l with
  | nil => rfl
  | cons p l ih =>
    rw [gatherB_cons, List.length_append, piece_len (ht p (by simp)) (h p (by simp)), ih (fun q hq => ht q (by simp [hq])) (fun q hq => h q (by simp [hq]))]
    rfl
/-- What is cut is fetched as those bytes. -/
theorem gatherB_cut {txt : Int → List UInt8} {l : List Pc} (ht : ∀ p ∈ l, (txt p.frame).length = 256) (h : ∀ p ∈ l, p.In) (a n : Nat) : gatherB txt (cutL l a n) = ((gatherB txt l).drop a).take n := by
  induction l generalizing a n with
  | nil => simp [cutL, gatherB]
  | cons p l ih =>
    have hp := h p (by simp)
    have hl := piece_len (ht p (by simp)) hp
    have ih' := ih (fun q hq => ht q (by simp [hq])) (fun q hq => h q (by simp [hq])) (a - min a p.len.toNat) (n - min n (p.len.toNat - min a p.len.toNat))
    unfold cutL
    rw [gatherB_append, ih', gatherB_cons]
    unfold Pc.In at hp
    generalize htx : (txt p.frame).drop p.off.toNat = t at *
    have hdrop : List.drop a (List.take p.len.toNat t ++ gatherB txt l) = List.drop (min a p.len.toNat) (List.take p.len.toNat t) ++ List.drop (a - min a p.len.toNat) (gatherB txt l) := by
      rw [List.drop_append, hl]
      by_cases c : a ≤ p.len.toNat
      · rw [Nat.min_eq_left c]
        rw [show a - p.len.toNat = 0 by omega, show a - a = 0 by omega]
      · rw [Nat.min_eq_right (by omega)]
        have d1 : List.drop a (List.take p.len.toNat t) = [] := List.drop_of_length_le (by rw [hl]; omega)
        have d2 : List.drop p.len.toNat (List.take p.len.toNat t) = [] := List.drop_of_length_le (by rw [hl]; omega)
        rw [d1, d2]
    rw [hdrop, List.take_append]
    have hll : (List.drop (min a p.len.toNat) (List.take p.len.toNat t)).length = p.len.toNat - min a p.len.toNat := by rw [List.length_drop, hl]
    rw [hll]
    have e2 : n - (p.len.toNat - min a p.len.toNat) = n - min n (p.len.toNat - min a p.len.toNat) := by omega
    rw [e2]
    congr 1
    split
    · rename_i h0
      rw [gatherB_cons]
      dsimp only
      have e3 : gatherB txt [] = [] := rfl
      rw [e3, List.append_nil, Int.toNat_natCast, show (p.off + ((min a p.len.toNat : Nat) : Int)).toNat = p.off.toNat + min a p.len.toNat by omega, ← List.drop_drop, htx]
      rw [List.drop_take, List.take_take]
    · rename_i h0
      have : n = 0 ∨ p.len.toNat - min a p.len.toNat = 0 := by omega
      rcases this with e | e
      · rw [e, List.take_zero]; rfl
      · rw [List.take_of_length_le (by rw [hll]; omega)]
        exact (List.length_eq_zero_iff.1 (by rw [hll]; exact e)).symm
/-- A list of pieces in memory. -/
def Pcs (w : World) (A : Option Addr) (l : List Pc) : Prop := ∀ i (h : i < l.length), ∃ b o, A = some ⟨b, o, none⟩ ∧ b < w.heap.size ∧ w.rangeAt b (o + i * 3) l[i].list
section
variable {w w' : World} {A : Option Addr} {l : List Pc}
theorem Pcs.older (h : Pcs w A l) (k : Older w w') : Pcs w' A l := by
  intro i hi
  obtain ⟨b, o, e, hb, h1⟩ := h i hi
  refine ⟨b, o, e, Nat.lt_of_lt_of_le hb k.1, fun j v hj => ?_⟩
  rw [World.cell?_of_block (w := w) (w' := w') (a := ⟨b, o + i * 3 + j, none⟩) (k.2 b hb)]
  exact h1 j v hj
theorem Pcs.new (h : Pcs w A l) (k : Below w.heap.size w w') : Pcs w' A l := h.older (older_below k)
theorem Pcs.drewN (h : Pcs w A l) (n : Nat) : Pcs (w.drewN n) A l := h
theorem Pcs.cells (h : Pcs w A l) {i : Nat} (hi : i < l.length) : ∃ b o, A = some ⟨b, o, none⟩ ∧ b < w.heap.size ∧ w.cell? ⟨b, o + i * 3, none⟩ = some (.int .i64 l[i].frame) ∧ w.cell? ⟨b, o + i * 3 + 1, none⟩ = some (.int .i64 l[i].off) ∧ w.cell? ⟨b, o + i * 3 + 2, none⟩ = some (.int .i64 l[i].len) := by
  obtain ⟨b, o, e, hb, h1⟩ := h i hi
  exact ⟨b, o, e, hb, h1 0 _ rfl, h1 1 _ rfl, h1 2 _ rfl⟩
end
def flatP (l : List Pc) : List Value := (l.map Pc.list).flatten
theorem flatP_snoc (l : List Pc) (q : Pc) : flatP (l ++ [q]) = flatP l ++ q.list := by unfold flatP; simp
theorem flatP_append (p q : List Pc) : flatP (p ++ q) = flatP p ++ flatP q := by unfold flatP; simp
theorem flatP_length (p : List Pc) : (flatP p).length = p.length * 3 := by
  unfold flatP
  induction p with
  | nil => rfl
  | cons q p ih => rw [List.map_cons, List.flatten_cons, List.length_append, ih, List.length_cons]; show 3 + _ = _; omega
theorem flatP_at (p : List Pc) {i j : Nat} (hi : i < p.length) (hj : j < 3) : (flatP p)[i * 3 + j]? = (p[i].list)[j]? := by
  unfold flatP
  induction p generalizing i with
  | nil => simp at hi
  | cons q p ih =>
    cases i with
    | zero =>
      rw [List.map_cons, List.flatten_cons, List.getElem?_append_left (by show _ < 3; omega), Nat.zero_mul, Nat.zero_add]
      rfl
    | succ i =>
      rw [List.map_cons, List.flatten_cons, List.getElem?_append_right (by show 3 ≤ _; omega)]
      have e : (i + 1) * 3 + j - q.list.length = i * 3 + j := by show _ - 3 = _; omega
      rw [e, ih (by simpa using hi)]
      rfl
theorem one_pc (q : Pc) : ∀ u ∈ q.list, u.oneCell' = true := by
  intro u hu
  unfold Pc.list at hu
  simp only [List.mem_cons, List.not_mem_nil, or_false] at hu
  rcases hu with rfl | rfl | rfl <;> rfl
theorem pcs_of_owns {w : World} {B : Nat} {E : TypeId} {v : Value} {p : List Pc} (h : w.ownsRow B E 3 v p.length (flatP p)) : ∃ A c, v = .slice A p.length c ∧ Pcs w A p := by
  rcases h.2 with ⟨e, e0⟩ | ⟨g, cap, cur, e, hg, hh, r⟩
  · refine ⟨none, 0, by rw [e, e0], fun i hi => absurd hi (by omega)⟩
  · refine ⟨some ⟨g, 0, none⟩, cap, e, fun i hi => ⟨g, 0, rfl, (Array.getElem?_eq_some_iff.1 hh).1, fun j v hj => ?_⟩⟩
    have hj4 : j < 3 := (List.getElem?_eq_some_iff.1 hj).1
    have e2 : (flatP p)[i * 3 + j]? = some v := (flatP_at p hi hj4).trans hj
    subst e
    have hc := World.ownsRow.cells h rfl (i * 3 + j) v e2
    have ea : (⟨g, 0, none⟩ : Addr).add (i * 3 + j) = ⟨g, 0 + i * 3 + j, none⟩ := by unfold Addr.add; split <;> simp_all
    rw [ea] at hc
    exact hc
theorem pcs_block {w : World} {g : Nat} {E : TypeId} {p : List Pc} (h : Blk w g E (flatP p).toArray) : Pcs w (some ⟨g, 0, none⟩) p := by
  intro i hi
  refine ⟨g, 0, rfl, h.lt, fun j v hj => ?_⟩
  have hj4 : j < 3 := (List.getElem?_eq_some_iff.1 hj).1
  rw [h.cell, List.getElem?_toArray, Nat.zero_add, flatP_at p hi hj4]
  exact hj

/-! Such lists that came in. -/
section
variable {H : Type} {enc : TypeId × Value → H} {P : Program} {w : World}
theorem pcs_of_trod {t e : TypeId} {f0 f1 f2 : Field} {fuel : Nat} {cs : List Value} {x : DataW H × List MemPlace} {held : Bool} (ht : P.underlying t = some (.slice e)) (he : P.underlying e = some (.struct #[f0, f1, f2]))
    (ce : P.cellsOf e = 3) (o0 : f0.offset = 0) (o1 : f1.offset = 1) (o2 : f2.offset = 2)
    (c0 : P.cellsOf f0.type = 1) (c1 : P.cellsOf f1.type = 1) (c2 : P.cellsOf f2.type = 1)
    (u0 : P.underlying f0.type = some (.int .i64)) (u1 : P.underlying f1.type = some (.int .i64)) (u2 : P.underlying f2.type = some (.int .i64))
    (hf : DataW.trod enc P w 0 (fun _ => true) held fuel t cs = some x) : ∃ A c l, cs = [.slice A (l : List Pc).length c] ∧ Pcs w A l ∧ (∀ q ∈ l, q.Ok) ∧ (A = none → l = [] ∧ c = 0) := by
  rcases open_slice ht hf with ⟨hcs, _⟩ | ⟨x, len, cap, m, k, D, Pl, hcs, _, hl, hm, hmm, _, hx⟩
  · exact ⟨none, 0, [], hcs, fun i hi => absurd hi (by simp), fun q hq => (by cases hq), fun _ => ⟨rfl, rfl⟩⟩
  · subst hcs
    simp only [if_true] at hmm
    obtain ⟨b, o, sp⟩ := x
    have each : ∀ i, i < len → ∃ q : Pc, sp = none ∧ b < w.heap.size ∧ w.rangeAt b (o + i * 3) q.list ∧ q.Ok := by
      intro i hi
      obtain ⟨cs', h1, h2⟩ := hx i (by omega)
      rw [ce] at h1
      obtain ⟨_, hlen, hcell⟩ := World.cells?_some h1
      obtain ⟨xs, k', hk, hxy, _, hxl, hff⟩ := DataW.trod_struct he h2
      match xs, hxl, cs', hlen with
      | [y0, y1, y2], _, [v0, v1, v2], _ =>
        have g0 := hff 0 f0 rfl
        have g1 := hff 1 f1 rfl
        have g2 := hff 2 f2 rfl
        simp [o0, o1, o2, c0, c1, c2] at g0 g1 g2
        obtain ⟨z0, e0, _, w0⟩ := DataW.trod_int u0 g0
        obtain ⟨z1, e1, _, w1⟩ := DataW.trod_int u1 g1
        obtain ⟨z2, e2, _, w2⟩ := DataW.trod_int u2 g2
        simp at e0 e1 e2
        have hc : ∀ j, j < 3 → w.cell? ((⟨b, o, sp⟩ : Addr).add (i * 3 + j)) = ([v0, v1, v2] : List Value)[j]? := by
          intro j hj
          have := hcell j (by simpa using hj)
          rw [add_add] at this
          rw [this]
        have hc0 := (hc 0 (by omega)).trans (show _ = some v0 from rfl)
        have hsp : sp = none := by
          obtain ⟨cs0, h10, _⟩ := hx 0 (by omega)
          rw [ce] at h10
          obtain ⟨_, hlen0, hcell0⟩ := World.cells?_some h10
          have := World.cell?_spot ((hcell0 0 (by omega)).trans (List.getElem?_eq_getElem (by omega)))
          simpa [Addr.add] using this
        subst hsp
        have ea : ∀ j, (⟨b, o, none⟩ : Addr).add j = ⟨b, o + j, none⟩ := fun j => by unfold Addr.add; split <;> simp_all
        refine ⟨⟨z0, z1, z2⟩, rfl, ?_, ?_, ⟨wf_i64 w0, wf_i64 w1, wf_i64 w2⟩⟩
        · rw [ea] at hc0
          unfold World.cell? at hc0
          cases hh : w.heap[b]? with
          | none => simp only [hh] at hc0; cases hc0
          | some ob => exact (Array.getElem?_eq_some_iff.1 hh).1
        · intro j v hj
          have hj6 : j < 3 := (List.getElem?_eq_some_iff.1 hj).1
          have := hc j hj6
          rw [ea, ← Nat.add_assoc] at this
          rw [this, ← hj, e0, e1, e2]
          rfl
    obtain ⟨q, hq⟩ := choose_lt each
    have hl2 : ((List.range len).map q).length = len := by simp
    refine ⟨some ⟨b, o, sp⟩, cap, (List.range len).map q, by rw [hl2], fun i hi => ?_, fun y hy => ?_, fun e => by cases e⟩
    · rw [hl2] at hi
      obtain ⟨rfl, h1, h2, h3⟩ := hq i hi
      exact ⟨b, o, rfl, h1, by simpa using h2⟩
    · obtain ⟨i, hi, rfl⟩ := List.mem_map.1 hy
      exact (hq i (List.mem_range.1 hi)).2.2.2
theorem open_pcs {base : Nat} {t e : TypeId} {f0 f1 f2 : Field} {v : Value} {d : DataW H} {p : List MemPlace} (ht : P.underlying t = some (.slice e)) (he : P.underlying e = some (.struct #[f0, f1, f2]))
    (ce : P.cellsOf e = 3) (o0 : f0.offset = 0) (o1 : f1.offset = 1) (o2 : f2.offset = 2)
    (c0 : P.cellsOf f0.type = 1) (c1 : P.cellsOf f1.type = 1) (c2 : P.cellsOf f2.type = 1)
    (u0 : P.underlying f0.type = some (.int .i64)) (u1 : P.underlying f1.type = some (.int .i64)) (u2 : P.underlying f2.type = some (.int .i64))
    (hv : Value.okWide P w .any base t v) (h : DataW.Trod enc P w 0 (fun _ => true) true t v d p) : ∃ A c l, v = .slice A (l : List Pc).length c ∧ Pcs w A l ∧ (∀ q ∈ l, q.Ok) ∧ (A = none → l = [] ∧ c = 0) := by
  obtain ⟨a, n, c, rfl⟩ := okWide_slice ht hv
  obtain ⟨fuel, hf⟩ := h
  obtain ⟨A, c', l, e, r⟩ := pcs_of_trod ht he ce o0 o1 o2 c0 c1 c2 u0 u1 u2 hf
  have e' : ([.slice a n c] : List Value) = [.slice A l.length c'] := e
  injection e' with e'
  exact ⟨A, c', l, e', r⟩
/-- Lists of pieces in memory. -/
def Lists (w : World) (A : Option Addr) (ls : List (List Pc)) : Prop := ∀ i (h : i < ls.length), ∃ b o Ai ci, A = some ⟨b, o, none⟩ ∧ b < w.heap.size ∧ w.cell? ⟨b, o + i, none⟩ = some (.slice Ai ls[i].length ci) ∧ Pcs w Ai ls[i] ∧ (Ai = none → ls[i] = [] ∧ ci = 0)
theorem Lists.older {w' : World} {A : Option Addr} {ls : List (List Pc)} (h : Lists w A ls) (k : Older w w') : Lists w' A ls := by
  intro i hi
  obtain ⟨b, o, Ai, ci, e, hb, hc, hp, hn⟩ := h i hi
  refine ⟨b, o, Ai, ci, e, Nat.lt_of_lt_of_le hb k.1, ?_, hp.older k, hn⟩
  rw [World.cell?_of_block (w := w) (w' := w') (a := ⟨b, o + i, none⟩) (k.2 b hb)]
  exact hc
theorem Lists.new {w' : World} {A : Option Addr} {ls : List (List Pc)} (h : Lists w A ls) (k : Below w.heap.size w w') : Lists w' A ls := h.older (older_below k)
theorem open_lists {base : Nat} {t s e : TypeId} {f0 f1 f2 : Field} {v : Value} {d : DataW H} {p : List MemPlace} (hts : P.underlying t = some (.slice s)) (cs1 : P.cellsOf s = 1) (ht : P.underlying s = some (.slice e)) (he : P.underlying e = some (.struct #[f0, f1, f2]))
    (ce : P.cellsOf e = 3) (o0 : f0.offset = 0) (o1 : f1.offset = 1) (o2 : f2.offset = 2)
    (c0 : P.cellsOf f0.type = 1) (c1 : P.cellsOf f1.type = 1) (c2 : P.cellsOf f2.type = 1)
    (u0 : P.underlying f0.type = some (.int .i64)) (u1 : P.underlying f1.type = some (.int .i64)) (u2 : P.underlying f2.type = some (.int .i64))
    (hv : Value.okWide P w .any base t v) (h : DataW.Trod enc P w 0 (fun _ => true) true t v d p) : ∃ A c ls, v = .slice A (ls : List (List Pc)).length c ∧ Lists w A ls ∧ (∀ l ∈ ls, ∀ q ∈ l, q.Ok) := by
  obtain ⟨a, n, c, rfl⟩ := okWide_slice hts hv
  obtain ⟨fuel, hf⟩ := h
  rcases open_slice hts hf with ⟨hcs, _⟩ | ⟨x, len, cap, m, k, D, Pl, hcs, _, hl, hm, hmm, _, hx⟩
  · have e' : ([.slice a n c] : List Value) = [.slice none 0 0] := hcs
    injection e' with e'
    exact ⟨none, 0, [], e', fun i hi => absurd hi (by simp), fun l hl => (by cases hl)⟩
  · have e' : ([.slice a n c] : List Value) = [.slice (some x) len cap] := hcs
    injection e' with e'
    simp only [if_true] at hmm
    obtain ⟨b, o, sp⟩ := x
    have each : ∀ i, i < len → ∃ q : Option Addr × Nat × List Pc, sp = none ∧ b < w.heap.size ∧ w.cell? ⟨b, o + i, none⟩ = some (.slice q.1 q.2.2.length q.2.1) ∧ Pcs w q.1 q.2.2 ∧ (∀ y ∈ q.2.2, y.Ok) ∧ (q.1 = none → q.2.2 = [] ∧ q.2.1 = 0) := by
      intro i hi
      obtain ⟨cs', h1, h2⟩ := hx i (by omega)
      rw [cs1] at h1
      obtain ⟨_, hlen, hcell⟩ := World.cells?_some h1
      obtain ⟨A, c', l, e2, r1, r2, r3⟩ := pcs_of_trod ht he ce o0 o1 o2 c0 c1 c2 u0 u1 u2 h2
      have hc0 := hcell 0 (by omega)
      rw [add_add, Nat.mul_one, Nat.add_zero] at hc0
      subst e2
      have hc1 : w.cell? ((⟨b, o, sp⟩ : Addr).add i) = some (.slice A l.length c') := hc0
      have hsp : sp = none := by
        obtain ⟨cs0, h10, _⟩ := hx 0 (by omega)
        rw [cs1] at h10
        obtain ⟨_, hlen0, hcell0⟩ := World.cells?_some h10
        have := World.cell?_spot ((hcell0 0 (by omega)).trans (List.getElem?_eq_getElem (by omega)))
        simpa [Addr.add] using this
      subst hsp
      have ea : (⟨b, o, none⟩ : Addr).add i = ⟨b, o + i, none⟩ := by unfold Addr.add; split <;> simp_all
      rw [ea] at hc1
      refine ⟨(A, c', l), rfl, ?_, hc1, r1, r2, r3⟩
      unfold World.cell? at hc1
      cases hh : w.heap[b]? with
      | none => simp only [hh] at hc1; cases hc1
      | some ob => exact (Array.getElem?_eq_some_iff.1 hh).1
    obtain ⟨q, hq⟩ := choose_lt each
    have hl2 : ((List.range len).map fun i => (q i).2.2).length = len := by simp
    refine ⟨some ⟨b, o, sp⟩, cap, (List.range len).map fun i => (q i).2.2, by rw [hl2]; exact e', fun i hi => ?_, fun l hl => ?_⟩
    · rw [hl2] at hi
      obtain ⟨rfl, h1, h2, h3, h4, h5⟩ := hq i hi
      refine ⟨b, o, (q i).1, (q i).2.1, rfl, h1, ?_, ?_, ?_⟩
      · simpa using h2
      · simpa using h3
      · simpa using h5
    · obtain ⟨i, hi, rfl⟩ := List.mem_map.1 hl
      exact (hq i (List.mem_range.1 hi)).2.2.2.2.1
end
end Go.Proofs.Ytgmejifacpefdaa
