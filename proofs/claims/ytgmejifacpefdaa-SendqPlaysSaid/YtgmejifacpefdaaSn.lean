/- A line of package sendq in plain words and in memory. Conditions: those that each states. -/
import Derived.Test.YtgmejifacpefdaaRv
import Derived.Test.YtgmejifacpefdaaGaC
namespace Go.Proofs.Ytgmejifacpefdaa.Sn
open Go.ChangeShapes Go.WideShapes Go.ChangeAt Go.RowKit Go.Deep Rk Rv
set_option linter.unusedVariables false
set_option linter.unusedSimpArgs false

/-- A piece that may stand in a line. -/
def okP (p : Pc) : Prop := 0 ≤ p.frame ∧ p.frame ≤ 255 ∧ 1 ≤ p.len ∧ p.In
instance (p : Pc) : Decidable (okP p) := inferInstanceAs (Decidable (_ ∧ _))
def frs (l : List Pc) : List Int := l.map (·.frame)
def frsV (l : List Pc) : List Value := l.map fun p => .int .i64 p.frame
theorem frsV_length (l : List Pc) : (frsV l).length = l.length := by simp [frsV]
theorem frsV_one (l : List Pc) : ∀ u ∈ frsV l, u.oneCell' = true := by
  intro u hu
  obtain ⟨s, _, rfl⟩ := List.mem_map.1 hu
  rfl
/-- How many pieces go wholly with so many bytes; what stays. -/
def gone : List Pc → Nat → Nat
  | [], _ => 0
  | p :: l, k => if p.len.toNat ≤ k then gone l (k - p.len.toNat) + 1 else 0
def less (p : Pc) (k : Nat) : Pc := ⟨p.frame, p.off + k, p.len - k⟩
def ackR : List Pc → Nat → List Pc
  | [], _ => []
  | p :: l, k => if p.len.toNat ≤ k then ackR l (k - p.len.toNat) else if k = 0 then p :: l else less p k :: l
theorem gone_eq : ∀ (l : List Pc) (k j : Nat), j ≤ l.length → total (l.take j) ≤ k → (∀ h : j < l.length, k - total (l.take j) < l[j].len.toNat) → gone l k = j
  | [], k, j, hj, _, _ => by simp at hj; simp [gone, hj]
  | p :: l, k, 0, _, _, h => by
    have := h (by simp)
    simp [total] at this
    unfold gone
    rw [if_neg (by omega)]
  | p :: l, k, j + 1, hj, ht, h => by
    simp [total] at ht
    unfold gone
    rw [if_pos (by omega), gone_eq l (k - p.len.toNat) j (by simpa using hj) (by omega) (fun h2 => by
      have := h (by simpa using h2)
      simp [total] at this
      omega)]
theorem ackR_eq : ∀ (l : List Pc) (k j : Nat), j ≤ l.length → total (l.take j) ≤ k → (∀ h : j < l.length, k - total (l.take j) < l[j].len.toNat) →
    ackR l k = if h : j < l.length then (if k - total (l.take j) = 0 then l.drop j else less l[j] (k - total (l.take j)) :: l.drop (j + 1)) else []
  | [], k, j, hj, _, _ => by simp [ackR]
  | p :: l, k, 0, _, _, h => by
    have := h (by simp)
    simp [total] at this
    unfold ackR
    rw [if_neg (by omega), dif_pos (by simp)]
    simp [total]
  | p :: l, k, j + 1, hj, ht, h => by
    simp [total] at ht
    unfold ackR
    rw [if_pos (by omega), ackR_eq l (k - p.len.toNat) j (by simpa using hj) (by omega) (fun h2 => by
      have := h (by simpa using h2)
      simp [total] at this
      omega)]
    simp only [List.length_cons, Nat.add_lt_add_iff_right, List.take_succ_cons, total, List.drop_succ_cons, List.getElem_cons_succ, Nat.sub_add_eq]
theorem ackR_ok : ∀ (l : List Pc) (k : Nat), (∀ p ∈ l, okP p) → ∀ p ∈ ackR l k, okP p
  | [], k, h => by simp [ackR]
  | p :: l, k, h => by
    have hp := h p (by simp)
    unfold ackR
    split
    · exact ackR_ok l _ (fun q hq => h q (by simp [hq]))
    · split
      · exact h
      · intro q hq
        rcases List.mem_cons.1 hq with rfl | hq
        · unfold okP Pc.In less at *
          dsimp only
          omega
        · exact h q (by simp [hq])
theorem ackR_total : ∀ (l : List Pc) (k : Nat), total (ackR l k) = total l - k
  | [], k => by simp [ackR, total]
  | p :: l, k => by
    unfold ackR
    split
    · rw [ackR_total l]; simp only [total]; omega
    · split
      · subst_vars; rfl
      · show (p.len - k).toNat + total l = p.len.toNat + total l - k
        omega
theorem ackR_length : ∀ (l : List Pc) (k : Nat), (ackR l k).length + gone l k = l.length
  | [], k => by simp [ackR, gone]
  | p :: l, k => by
    unfold ackR gone
    split
    · have := ackR_length l (k - p.len.toNat); rw [List.length_cons]; omega
    · split <;> simp
theorem gone_le (l : List Pc) (k : Nat) : gone l k ≤ l.length := by have := ackR_length l k; omega
theorem total_ok {l : List Pc} (h : ∀ p ∈ l, okP p) (h160 : l.length ≤ 160) : total l ≤ 40960 := by
  have := total_max (l := l) (m := 256) (fun p hp => by have := h p hp; unfold okP Pc.In at this; omega)
  omega
theorem ok_Ok {p : Pc} (h : okP p) : p.Ok := by
  unfold okP Pc.In at h
  exact ⟨by omega, by omega, by omega⟩
theorem ok_Good {p : Pc} (h : okP p) : p.Good := ⟨h.1, by have := h.2.1; omega, h.2.2.2⟩
theorem sizeR_ok {l : List Pc} (h : ∀ p ∈ l, okP p) (h160 : l.length ≤ 160) : sizeR l = (total l : Int) := by
  have := total_ok h h160
  unfold sizeR
  rw [if_neg (by omega)]
theorem flatP_map (l : List Pc) : flatP l = l.flatMap Pc.list := by unfold flatP; rw [List.flatMap_def]
theorem flatP_one (l : List Pc) : ∀ u ∈ flatP l, u.oneCell' = true := by
  intro u hu
  rw [flatP_map] at hu
  obtain ⟨p, _, h⟩ := List.mem_flatMap.1 hu
  exact one_pc p u h
theorem flatP_drop (l : List Pc) (k : Nat) : flatP (l.drop k) = (flatP l).drop (k * 3) := by
  induction l generalizing k with
  | nil => simp [flatP]
  | cons p l ih =>
    cases k with
    | zero => simp
    | succ k =>
      rw [List.drop_succ_cons, ih, Nat.succ_mul, Nat.add_comm]
      show _ = List.drop (3 + k * 3) (p.list ++ flatP l)
      rw [List.drop_append, show p.list.length = 3 from rfl, List.drop_of_length_le (l := p.list) (by show 3 ≤ _; omega), Nat.add_sub_cancel_left, List.nil_append]
theorem flatP_take (l : List Pc) (k : Nat) : flatP (l.take k) = (flatP l).take (k * 3) := by
  induction l generalizing k with
  | nil => simp [flatP]
  | cons p l ih =>
    cases k with
    | zero => simp [flatP]
    | succ k =>
      rw [List.take_succ_cons, Nat.succ_mul, Nat.add_comm]
      show p.list ++ flatP (l.take k) = List.take (3 + k * 3) (p.list ++ flatP l)
      rw [ih, List.take_append, show p.list.length = 3 from rfl, Nat.add_sub_cancel_left, List.take_of_length_le (l := p.list) (by show 3 ≤ _; omega)]
theorem pcs_of_G {w : World} {A : Option Addr} {c : Nat} {l : List Pc} (h : RowG w 3 A l.length c (flatP l)) : Pcs w A l := by
  intro i hi
  have hl := flatP_length l
  obtain ⟨b, o, e, hb, _⟩ := h.cell (j := i * 3) (by omega)
  refine ⟨b, o, e, hb, fun j v hj => ?_⟩
  have hj4 : j < 3 := (List.getElem?_eq_some_iff.1 hj).1
  obtain ⟨b', o', e', _, hc⟩ := h.cell (j := i * 3 + j) (by omega)
  rw [e] at e'
  cases e'
  rw [show o + i * 3 + j = o + (i * 3 + j) by omega, hc, ← List.getElem?_eq_getElem, flatP_at l hi hj4, hj]
/-- The first pieces of a row that is only read. -/
theorem front_G {w : World} {A : Option Addr} {c : Nat} {l : List Pc} (h : RowG w 3 A l.length c (flatP l)) {k : Nat} (hk : k ≤ l.length) : RowG w 3 A (l.take k).length c (flatP (l.take k)) := by
  have hl : (l.take k).length = k := by rw [List.length_take]; omega
  refine ⟨flatP_length _, by rw [hl]; exact Nat.le_trans hk h.cap, h.max, fun e => ?_, fun a e h0 => ?_⟩
  · have := h.none_ e
    rw [hl]; omega
  · rw [hl] at h0
    obtain ⟨h3, h1, h2⟩ := h.at_ a e (by omega)
    refine ⟨h3, h1, fun j hj => ?_⟩
    have hj2 : j < k * 3 := by rw [flatP_length, hl] at hj; exact hj
    have hj' : j < (flatP l).length := by rw [flatP_length]; have := Nat.mul_le_mul_right 3 hk; omega
    rw [h2 j hj']
    have e2 : (flatP (l.take k))[j]? = (flatP l)[j]? := by rw [flatP_take, List.getElem?_take, if_pos hj2]
    rw [List.getElem?_eq_getElem hj, List.getElem?_eq_getElem hj'] at e2
    exact e2.symm

/-- A line in memory: its footprint F, its head g. -/
structure LineAt (w : World) (F : Nat → Prop) (g : Nat) (l : List Pc) (st : Nat) : Prop where
  ex : ∃ A c, Blk w g 62 #[.slice A l.length c, .int .i64 (st : Int)] ∧ RowV w 59 3 A l.length c (flatP l) ∧ ∀ k, inR A k → k ≠ g ∧ F k
  fg : F g
  lt : ∀ k, F k → k < w.heap.size
  ok : ∀ p ∈ l, okP p
  n160 : l.length ≤ 160
  small : st ≤ 1000000000
/-- What a call leaves of footprints. -/
structure Stp (w w' : World) (F F' : Nat → Prop) : Prop where
  chg : Chg w w' F
  new : ∀ k, F' k → F k ∨ w.heap.size ≤ k
section
variable {w w' : World} {F S : Nat → Prop} {g st : Nat} {l : List Pc}
theorem LineAt.chg (h : LineAt w F g l st) (k : Chg w w' S) (hn : ∀ i, F i → ¬ S i) : LineAt w' F g l st := by
  obtain ⟨A, c, h1, h2, h3⟩ := h.ex
  exact ⟨⟨A, c, h1.chg k (hn g h.fg), h2.chg k (fun a e => hn _ (h3 _ ⟨a, e, rfl⟩).2), h3⟩, h.fg, fun i hi => Nat.lt_of_lt_of_le (h.lt i hi) k.size, h.ok, h.n160, h.small⟩
theorem LineAt.new (h : LineAt w F g l st) (k : Below w.heap.size w w') : LineAt w' F g l st := h.chg (Chg.of_new k fun _ => False) (fun _ _ => id)
theorem LineAt.drewN (h : LineAt w F g l st) (m : Nat) : LineAt (w.drewN m) F g l st := h.chg (S := fun _ => False) ((Chg.refl _ _).drewN m) (fun _ _ => id)
theorem LineAt.drew (h : LineAt w F g l st) : LineAt w.drew F g l st := h.chg (S := fun _ => False) ((Chg.refl _ _).drew) (fun _ _ => id)
end
end Go.Proofs.Ytgmejifacpefdaa.Sn
