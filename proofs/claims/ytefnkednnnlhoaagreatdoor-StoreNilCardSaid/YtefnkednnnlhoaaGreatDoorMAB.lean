/- A region that draws its order, whose last operations come up one behind the other when all others have: its head is walked as a region of its own, its tail behind it in the text's order. Conditions: those that each states. -/
import Derived.StillTail
import Derived.Test.YtefnkednnnlhoaaGreatDoorMAA
import Derived.Deep.RegionHeld
import Derived.Deep.AppendLies
import Derived.Deep.MidRow
import Derived.RegionTactic
import Derived.BigRegion
import Derived.WalkMore
import Derived.Deep.QuietTactic
import Derived.BigQuiet
namespace Go.Proofs.YtefnkednnnlhoaaGreatDoor
open Go Go.Deep

section
variable {P : Program} {md : Region.Mode} {Q : Exit → Act → World → Prop}

/-- Behind the head: the tail, in the text's order. -/
def TailPost (P : Program) (l : List Oper) (Q : Exit → Act → World → Prop) (l₂ : List Oper) : Exit → Act → World → Prop
  | .normal, a, w => wpList P l.toArray Q l₂ a w
  | e, a, w => Q e a w

/-- Edges go back, and guards of the head name the head alone. -/
def Region.headB (ops : Array Oper) (n : Nat) : Bool :=
  (List.range n).all fun i => match ops[i]? with
    | some o => o.after.all (fun e => decide (e.on < i)) && (match o.guard with | some (g, _) => decide (g < n) | none => true)
    | none => false
theorem Region.headB_spec {ops : Array Oper} {n i : Nat} (h : Region.headB ops n = true) (hi : i < n) : ∃ o, ops[i]? = some o ∧ (∀ e ∈ o.after, e.on < i) ∧ ∀ g b, o.guard = some (g, b) → g < n := by
  have h1 := List.all_eq_true.1 h i (List.mem_range.2 hi)
  cases ho : ops[i]? with
  | none => simp [ho] at h1
  | some o =>
    simp only [ho, Bool.and_eq_true] at h1
    refine ⟨o, rfl, fun e he => ?_, fun g b hg => ?_⟩
    · have := Array.all_eq_true_iff_forall_mem.1 h1.1 e he
      simpa using this
    · have h2 := h1.2
      rw [hg] at h2
      simpa using h2

theorem getD_left {a b : Array Bool} {i : Nat} {d : Bool} (h : i < a.size) : (a ++ b).getD i d = a.getD i d := by
  simp [Array.getD, h, Nat.lt_of_lt_of_le h (Nat.le_add_right _ _)]

theorem ready_head {l₁ l₂ : List Oper} {listed : Array Bool} {t : Array Bool} (hz : listed.size = l₁.length) {i : Nat} (hB : Region.headB (l₁ ++ l₂).toArray l₁.length = true) (hi : i < l₁.length) :
    i ∈ Region.ready md (l₁ ++ l₂).toArray (listed ++ t) ↔ i ∈ Region.ready md l₁.toArray listed := by
  obtain ⟨o, ho, he, _⟩ := Region.headB_spec hB hi
  have ho1 : l₁.toArray[i]? = some o := by
    simp only [List.getElem?_toArray] at ho ⊢
    rw [List.getElem?_append_left hi] at ho
    exact ho
  rw [mem_ready, mem_ready, getD_left (by omega)]
  constructor
  · rintro ⟨h1, o', ho', h2⟩
    obtain rfl : o' = o := by rw [ho] at ho'; injection ho' with e; exact e.symm
    refine ⟨h1, o', ho1, fun e hm hb => ?_⟩
    have := h2 e hm hb
    rw [getD_left (by have := he e hm; omega)] at this
    exact this
  · rintro ⟨h1, o', ho', h2⟩
    obtain rfl : o' = o := by rw [ho1] at ho'; injection ho' with e; exact e.symm
    refine ⟨h1, o', ho, fun e hm hb => ?_⟩
    rw [getD_left (by have := he e hm; omega)]
    exact h2 e hm hb

theorem wanted_head {l₁ l₂ : List Oper} {i : Nat} {o : Oper} (hB : Region.headB (l₁ ++ l₂).toArray l₁.length = true) (hi : i < l₁.length) (ho : (l₁ ++ l₂).toArray[i]? = some o) (tmps : Array Value) :
    Region.wanted o (yielded (l₁ ++ l₂).toArray tmps) = Region.wanted o (yielded l₁.toArray tmps) := by
  obtain ⟨o', ho', _, hg⟩ := Region.headB_spec hB hi
  obtain rfl : o' = o := by rw [ho] at ho'; injection ho' with e; exact e.symm
  unfold Region.wanted
  cases hgd : o'.guard with
  | none => rfl
  | some p =>
    obtain ⟨g, b⟩ := p
    have hlt := hg g b hgd
    have e : yielded (l₁ ++ l₂).toArray tmps g = yielded l₁.toArray tmps g := by
      unfold yielded
      simp only [List.getElem?_toArray]
      rw [List.getElem?_append_left hlt]
    simp only [e]

theorem wpOp_head {l₁ l₂ : List Oper} {i : Nat} {K K₁ : Act → World → Prop} {a : Act} {w : World} (hB : Region.headB (l₁ ++ l₂).toArray l₁.length = true) (hi : i < l₁.length) (hK : ∀ a w, K₁ a w → K a w)
    (h : wpOp P l₁.toArray (TailPost P (l₁ ++ l₂) Q l₂) i K₁ a w) : wpOp P (l₁ ++ l₂).toArray Q i K a w := by
  obtain ⟨o, ho, _, _⟩ := Region.headB_spec hB hi
  have ho1 : l₁.toArray[i]? = some o := by
    simp only [List.getElem?_toArray] at ho ⊢
    rw [List.getElem?_append_left hi] at ho
    exact ho
  have hw := wanted_head hB hi ho a.tmps
  unfold wpOp at *
  simp only [ho, ho1, hw] at h ⊢
  split
  · rename_i hwt
    simp only [hwt, if_true] at h
    rcases h with h | ⟨h1, h2⟩
    · refine .inl ?_
      unfold Oper.wp at *
      generalize (execOp a.eval o).run P w = r at *
      cases r with
      | ok n w' =>
        cases n <;> simp only [Oper.upon] at h ⊢
        case value => exact hK _ _ h
        case skip => exact hK _ _ h
        case defer => exact hK _ _ h
        case enter =>
          refine Calls.mono h fun e w'' he => ?_
          cases e with
          | returned v => exact hK _ _ he
          | panicked c => exact he
          | outgrown => exact he
        case row => exact Rows.mono h fun _ _ he => hK _ _ he
      | halt x w' => cases x <;> simp only [Oper.upon] at h ⊢; exact h
    · exact .inr ⟨h1, h2⟩
  · rename_i hwt
    simp only [hwt] at h
    exact hK _ _ h

/-- How many have not come up. -/
def unlisted (listed : Array Bool) : Nat := (listed.toList.filter (! ·)).length
theorem unlisted_set {listed : Array Bool} {i : Nat} (hi : i < listed.size) (h : listed.getD i true = false) : unlisted listed = unlisted (listed.setIfInBounds i true) + 1 := by
  unfold unlisted
  obtain ⟨l⟩ := listed
  simp only [List.size_toArray] at hi
  simp only [List.setIfInBounds_toArray]
  have hl : l[i] = false := by simpa [Array.getD, hi] using h
  clear h
  induction l generalizing i with
  | nil => simp at hi
  | cons b l ih =>
    cases i with
    | zero =>
      have : b = false := by simpa using hl
      subst this
      simp
    | succ i =>
      have := ih (i := i) (by simpa using hi) (by simpa using hl)
      cases b <;> simp [this]
theorem unlisted_zero {listed : Array Bool} (h : unlisted listed = 0) : listed = Array.replicate listed.size true := by
  apply Array.ext
  · simp
  · intro i h1 h2
    rw [Array.getElem_replicate]
    unfold unlisted at h
    have h3 : ∀ b ∈ listed.toList, b = true := by
      intro b hb
      have := List.length_eq_zero_iff.1 h
      rw [List.filter_eq_nil_iff] at this
      simpa using this b hb
    exact h3 _ (by simp)

theorem wpAny_head {l₁ l₂ : List Oper} (hs : Region.sinkB md (l₁ ++ l₂).toArray l₁.length = true) (hc : Region.chainB md (l₁ ++ l₂).toArray l₁.length = true) (hn : 0 < l₂.length)
    (hB : Region.headB (l₁ ++ l₂).toArray l₁.length = true)
    (hq : Region.seqB md (l₁ ++ l₂).toArray l₂.length l₁.length (Array.replicate l₁.length true ++ Array.replicate l₂.length false) = true) :
    ∀ (f : Nat) (listed : Array Bool) (a : Act) (w : World), listed.size = l₁.length → unlisted listed = f → HeadInv md (l₁ ++ l₂).toArray l₁.length (listed ++ Array.replicate l₂.length false) →
      wpAny P md l₁.toArray (TailPost P (l₁ ++ l₂) Q l₂) f listed a w → wpAny P md (l₁ ++ l₂).toArray Q (f + l₂.length) (listed ++ Array.replicate l₂.length false) a w := by
  intro f
  induction f with
  | zero =>
    intro listed a w hz hu inv h
    have e := unlisted_zero hu
    rw [hz] at e
    rw [Nat.zero_add, e]
    exact wpAny_of_seq (md := md) l₂ l₁.length _ a w (fun j => by simp [List.getElem?_append_right]) hq h.2
  | succ f ih =>
    intro listed a w hz hu inv h
    rw [show f + 1 + l₂.length = (f + l₂.length) + 1 by omega]
    -- the first that has not come up
    have hex : ∃ i, i < l₁.length ∧ listed.getD i true = false ∧ ∀ j, j < i → listed.getD j false = true := by
      have key : ∀ (k : Nat), k ≤ l₁.length → (∃ i, i < k ∧ listed.getD i true = false ∧ ∀ j, j < i → listed.getD j false = true) ∨ ∀ j, j < k → listed.getD j false = true := by
        intro k
        induction k with
        | zero => intro _; exact .inr fun j hj => absurd hj (Nat.not_lt_zero _)
        | succ k ihk =>
          intro hk
          rcases ihk (by omega) with ⟨i, h1, h2⟩ | h1
          · exact .inl ⟨i, by omega, h2⟩
          · cases hb : listed.getD k false with
            | true =>
              refine .inr fun j hj => ?_
              by_cases e : j = k
              · rw [e]; exact hb
              · exact h1 j (by omega)
            | false => exact .inl ⟨k, by omega, getD_in (by omega) hb, h1⟩
      rcases key l₁.length (Nat.le_refl _) with h1 | h1
      · exact h1
      · exfalso
        have e : listed = Array.replicate l₁.length true := by
          apply Array.ext
          · simp [hz]
          · intro i h2 h3
            have := h1 i (by omega)
            rw [Array.getElem_replicate]
            simpa [Array.getD, h2] using this
        rw [e] at hu
        unfold unlisted at hu
        simp at hu
    obtain ⟨i0, hi0, hun0, hpre⟩ := hex
    have hr0 : i0 ∈ Region.ready md l₁.toArray listed := by
      obtain ⟨o, ho, he, _⟩ := Region.headB_spec hB hi0
      rw [mem_ready]
      refine ⟨hun0, o, ?_, fun e hm _ => hpre _ (he e hm)⟩
      simp only [List.getElem?_toArray] at ho ⊢
      rw [List.getElem?_append_left hi0] at ho
      exact ho
    refine ⟨fun h0 => ?_, fun i hi => ?_⟩
    · have := (ready_head (t := Array.replicate l₂.length false) hz hB hi0).2 hr0
      rw [h0] at this
      cases this
    · have hnn : l₁.length < (l₁ ++ l₂).toArray.size := by simp; omega
      have hil : i < l₁.length := by
        rcases Nat.lt_or_ge i l₁.length with h1 | h1
        · exact h1
        · exact absurd hi (tail_waits hs hc hnn inv _ i0 rfl hi0 (by rw [getD_left (by omega)]; exact hun0) i h1)
      have hr1 := (ready_head (t := Array.replicate l₂.length false) hz hB hil).1 hi
      have hst : (listed ++ Array.replicate l₂.length false).setIfInBounds i true = listed.setIfInBounds i true ++ Array.replicate l₂.length false := by
        apply Array.ext'
        simp only [Array.toList_setIfInBounds, Array.toList_append]
        rw [List.set_append_left _ _ (by simpa [hz] using hil)]
      refine wpOp_head hB hil (fun a' w' h' => ?_) (h.2 i hr1)
      rw [hst]
      refine ih _ a' w' (by simpa using hz) ?_ ?_ h'
      · have := unlisted_set (listed := listed) (i := i) (by omega) (mem_ready.1 hr1).1
        omega
      · rw [← hst]
        exact inv.set hi hil

/-- A region that draws: its head as a region of its own, its tail behind it. -/
theorem wp_region_head {id : Nat} {a : Act} {w : World} {l l₁ l₂ : List Oper} (n : Nat) (hm : P.follows .mixedOrders = true) (h1 : l.take n = l₁) (h2 : l.drop n = l₂)
    (hB : (decide (l₁.length = n) && decide (0 < l₂.length) && Region.sinkB .any l.toArray n && Region.chainB .any l.toArray n && Region.headB l.toArray n && Region.seqB .any l.toArray l₂.length n (Array.replicate n true ++ Array.replicate l₂.length false)) = true)
    (h : wpAny P .any l₁.toArray (TailPost P l Q l₂) l₁.toArray.size (Array.replicate l₁.toArray.size false) a { w with drawn := w.drawn + 1 }) : (Code.region id l.toArray true).wp P Q a w := by
  have el : l = l₁ ++ l₂ := by rw [← h1, ← h2, List.take_append_drop]
  clear h1 h2
  subst el
  simp only [Bool.and_eq_true, decide_eq_true_eq] at hB
  obtain ⟨⟨⟨⟨⟨hl, hn⟩, hs⟩, hc⟩, hh⟩, hq⟩ := hB
  subst hl
  refine wp_region_any hm ?_
  have inv0 : HeadInv .any (l₁ ++ l₂).toArray l₁.length (Array.replicate (l₁ ++ l₂).toArray.size false) :=
    ⟨by simp, fun j oj _ hl => (by rw [getD_replicate_false] at hl; cases hl), fun t _ ht => getD_in (by simpa using ht) (getD_replicate_false _ _)⟩
  have er : Array.replicate (l₁ ++ l₂).toArray.size false = Array.replicate l₁.length false ++ Array.replicate l₂.length false := by simp [Array.replicate_append_replicate]
  rw [er] at inv0 ⊢
  have := wpAny_head (P := P) (Q := Q) hs hc hn hh hq l₁.length (Array.replicate l₁.length false) a { w with drawn := w.drawn + 1 } (by simp) (by simp [unlisted]) inv0 (by simpa using h)
  simpa using this
end

theorem owns_mono {w : World} {base base' : Nat} {e : TypeId} {size : Nat} {v : Value} {n : Nat} {xs : List Value} (h : w.ownsRow base e size v n xs) (hb : base' ≤ base) : w.ownsRow base' e size v n xs := by
  refine ⟨h.1, ?_⟩
  rcases h.2 with h0 | ⟨g, cap, cur, h1, h2, h3⟩
  · exact .inl h0
  · exact .inr ⟨g, cap, cur, h1, Nat.le_trans hb h2, h3⟩
/-! A held region, operation by operation. -/
section
variable {P : Program} {ops : Array Oper} {Q : Exit → Act → World → Prop} {md : Region.Mode} {S : World → Prop}
theorem held_one {fuel : Nat} {listed : Array Bool} {a : Act} {w : World} {i : Nat} {o : Oper} (hr : Region.ready md ops listed = [i]) (ho : ops[i]? = some o) (hw : Region.wanted o (yielded ops a.tmps) = true)
    (h : o.wp P a w (fun a' w' => S w' ∧ wpAnyH P md ops Q S fuel (listed.setIfInBounds i true) a' w') Q) : wpAnyH P md ops Q S (fuel + 1) listed a w :=
  wpAnyH_all hr (by simp) fun j hj => by
    rw [List.mem_singleton.1 hj]
    unfold wpOp
    simp only [ho, hw, if_true]
    exact .inl h
theorem held_two {fuel : Nat} {listed : Array Bool} {a : Act} {w : World} {i j : Nat} {o o' : Oper} (hr : Region.ready md ops listed = [i, j]) (ho : ops[i]? = some o) (ho' : ops[j]? = some o') (hw : Region.wanted o (yielded ops a.tmps) = true) (hw' : Region.wanted o' (yielded ops a.tmps) = true)
    (h : o.wp P a w (fun a' w' => S w' ∧ wpAnyH P md ops Q S fuel (listed.setIfInBounds i true) a' w') Q) (h' : o'.wp P a w (fun a' w' => S w' ∧ wpAnyH P md ops Q S fuel (listed.setIfInBounds j true) a' w') Q) : wpAnyH P md ops Q S (fuel + 1) listed a w :=
  wpAnyH_all hr (by simp) fun k hk => by
    rcases List.mem_cons.1 hk with e | e
    · rw [e]
      unfold wpOp
      simp only [ho, hw, if_true]
      exact .inl h
    · rw [List.mem_singleton.1 e]
      unfold wpOp
      simp only [ho', hw', if_true]
      exact .inl h'
/-- Take number i first; its place written out. -/
theorem held_take {i : Nat} {oi : Oper} {v : Value} {d : Option Tmp} {fuel : Nat} {listed : Array Bool} {a : Act} {w : World} (hi : ops[i]? = some oi) (hd : oi.dst = d)
    (hs : Region.noSelect ops = true) (hf : Region.free md ops listed i = true) (hr : (Region.ready md ops listed).contains i = true)
    (hQ : ∀ c a w, Q (.panic c) (a.put oi.dst v) w → Q (.panic c) a w) (hw : Region.wanted oi (yielded ops a.tmps) = true) (hy : ∀ w, S w → (execOp a.eval oi).run P w = .ok (.value v) w) (hS : S w)
    (h : wpAnyH P md ops Q S fuel (listed.setIfInBounds i true) (a.put d v) w) : wpAnyH P md ops Q S (fuel + 1) listed a w := by
  subst hd
  exact wpAnyH_take hi hs hf hr hQ (Or.inl ⟨hw, hy⟩) hS h
/-- Number i is not wanted. -/
theorem held_skip {i : Nat} {oi : Oper} {d : Option Tmp} {fuel : Nat} {listed : Array Bool} {a : Act} {w : World} (hi : ops[i]? = some oi) (hd : oi.dst = d)
    (hs : Region.noSelect ops = true) (hf : Region.free md ops listed i = true) (hr : (Region.ready md ops listed).contains i = true)
    (hQ : ∀ c a w, Q (.panic c) (a.put oi.dst undef) w → Q (.panic c) a w) (hw : Region.wanted oi (yielded ops a.tmps) = false) (hS : S w)
    (h : wpAnyH P md ops Q S fuel (listed.setIfInBounds i true) (a.put d undef) w) : wpAnyH P md ops Q S (fuel + 1) listed a w := by
  subst hd
  exact wpAnyH_take hi hs hf hr hQ (Or.inr ⟨hw, rfl⟩) hS h
/-- append of something, its place written out; the new slice's block a letter. -/
theorem wp_append_d {o : Oper} {a : Act} {w : World} {K : Act → World → Prop} {d : Option Tmp} (hd : o.dst = d) (s x : Operand) (t : TypeId) (ho : o.op = .call { callee := .builtin .append, args := #[s, x], argTypes := #[t, t] })
    (base : Nat) (e : TypeId) (i : TypeInfo) (z : Value) (size bytes : Nat) (ht : P.underlying t = some (.slice e)) (hi : P.info? e = some i) (hz : i.zero = some z)
    (hsize : i.size = size) (hby : i.bytes = bytes) (hzs : z.cells.size = size) (hsz : 0 < size)
    (v : Value) (n : Nat) (xs : List Value) (hs : a.eval s = v) (hown : w.ownsRow base e size v n xs)
    (ad : Addr) (m c : Nat) (news : List Value) (hx : a.eval x = .slice (some ad) m c) (hl : news.length = m * size) (hnews : ∀ j u, news[j]? = some u → w.cell? (ad.add j) = some u) (h1 : ∀ u ∈ news, u.oneCell' = true)
    (hm : 0 < m) (h63 : n + m ≤ maxLen) (hbytes : (n + m) * bytes ≤ 140737488355328) (hbase : base ≤ w.heap.size)
    (h : ∀ g cap w', w'.ownsRow base e size (.slice (some ⟨g, 0, none⟩) (n + m) cap) (n + m) (xs ++ news) → w.grownBy w' v.ownBlock → (v.ownBlock = some g ∨ g = w.heap.size) → g < w'.heap.size → K (a.put d (.slice (some ⟨g, 0, none⟩) (n + m) cap)) w') : o.wp P a w K Q := by
  subst hd
  exact wp_append_lies w s x t ho base e i z size bytes ht hi hz hsize hby hzs hsz v n xs hs hown ad m c news hx hl hnews h1 hm h63 hbytes hbase _ rfl h
/-- The head of a region, held. -/
theorem wp_head_held {id : Nat} {a : Act} {w : World} {l l₁ l₂ : List Oper} (n : Nat) (hm : P.follows .mixedOrders = true) (h1 : l.take n = l₁) (h2 : l.drop n = l₂)
    (hB : (decide (l₁.length = n) && decide (0 < l₂.length) && Region.sinkB .any l.toArray n && Region.chainB .any l.toArray n && Region.headB l.toArray n && Region.seqB .any l.toArray l₂.length n (Array.replicate n true ++ Array.replicate l₂.length false)) = true)
    (h : wpAnyH P .any l₁.toArray (TailPost P l Q l₂) S l₁.toArray.size (Array.replicate l₁.toArray.size false) a w.drew) : (Code.region id l.toArray true).wp P Q a w :=
  wp_region_head n hm h1 h2 hB (wpAny_of_held _ _ _ _ h)
end
end Go.Proofs.YtefnkednnnlhoaaGreatDoor

/- Programs that tell packets, in plain words; such a program in memory. No condition. -/
namespace Go.Proofs.YtefnkednnnlhoaaGreatDoor
open Go.ChangeShapes Go.WideShapes Go.ChangeAt Go.RowKit Go.Deep
set_option linter.unusedVariables false

/-- A step: its code, its number, its two jumps. -/
structure Ins where
  code : Int
  k : Int
  t : Int
  f : Int
structure Ins.Ok (q : Ins) : Prop where
  code : -9223372036854775808 ≤ q.code ∧ q.code ≤ 9223372036854775807
  k : 0 ≤ q.k ∧ q.k < 4294967296
  t : -9223372036854775808 ≤ q.t ∧ q.t ≤ 9223372036854775807
  f : -9223372036854775808 ≤ q.f ∧ q.f ≤ 9223372036854775807
def Ins.list (q : Ins) : List Value := [.int .i64 q.code, .int .u32 q.k, .int .i64 q.t, .int .i64 q.f]
def leaveB (n : Int) : Bool := decide (0 ≤ n) && decide (n ≤ 255)
def asks (q : Ins) : Bool := q.code == 5 || q.code == 6
def mayB (q : Ins) (behind : Int) : Bool :=
  !(decide (q.code < 0)) && !(decide (q.code > 8)) && leaveB q.t && leaveB q.f && (if asks q = true then decide (q.t < behind) && decide (q.f < behind) else true)
structure Chk (p : List Ins) : Prop where
  n1 : 1 ≤ p.length
  n2 : p.length ≤ 64
  may : ∀ i (h : i < p.length), mayB p[i] ((p.length : Int) - 1 - i) = true
  last : ∀ (h : p.length - 1 < p.length), p[p.length - 1].code = 7 ∨ p[p.length - 1].code = 8

/-- A program in memory. -/
def Prg (w : World) (A : Option Addr) (p : List Ins) : Prop := ∀ i (h : i < p.length), ∃ b o, A = some ⟨b, o, none⟩ ∧ b < w.heap.size ∧ w.rangeAt b (o + i * 4) p[i].list
section
variable {w w' : World} {A : Option Addr} {p : List Ins} {S : Nat → Prop}
theorem Prg.older (h : Prg w A p) (k : Older w w') : Prg w' A p := by
  intro i hi
  obtain ⟨b, o, e, hb, h1⟩ := h i hi
  refine ⟨b, o, e, Nat.lt_of_lt_of_le hb k.1, fun j v hj => ?_⟩
  rw [World.cell?_of_block (w := w) (w' := w') (a := ⟨b, o + i * 4 + j, none⟩) (k.2 b hb)]
  exact h1 j v hj
theorem Prg.new (h : Prg w A p) (k : Below w.heap.size w w') : Prg w' A p := h.older (older_below k)
end
/-- The cells of a program, one behind the other. -/
def flat (p : List Ins) : List Value := (p.map Ins.list).flatten
theorem flat_append (p q : List Ins) : flat (p ++ q) = flat p ++ flat q := by unfold flat; simp
theorem flat_length (p : List Ins) : (flat p).length = p.length * 4 := by
  unfold flat
  induction p with
  | nil => rfl
  | cons q p ih => rw [List.map_cons, List.flatten_cons, List.length_append, ih, List.length_cons]; show 4 + _ = _; omega
theorem flat_at (p : List Ins) {i j : Nat} (hi : i < p.length) (hj : j < 4) : (flat p)[i * 4 + j]? = (p[i].list)[j]? := by
  unfold flat
  induction p generalizing i with
  | nil => simp at hi
  | cons q p ih =>
    cases i with
    | zero =>
      rw [List.map_cons, List.flatten_cons, List.getElem?_append_left (by show _ < 4; omega), Nat.zero_mul, Nat.zero_add]
      rfl
    | succ i =>
      rw [List.map_cons, List.flatten_cons, List.getElem?_append_right (by show 4 ≤ _; omega)]
      have e : (i + 1) * 4 + j - q.list.length = i * 4 + j := by show _ - 4 = _; omega
      rw [e, ih (by simpa using hi)]
      rfl
theorem one_ins (q : Ins) : ∀ u ∈ q.list, u.oneCell' = true := by
  intro u hu
  unfold Ins.list at hu
  simp only [List.mem_cons, List.not_mem_nil, or_false] at hu
  rcases hu with rfl | rfl | rfl | rfl <;> rfl
theorem one_flat (p : List Ins) : ∀ u ∈ flat p, u.oneCell' = true := by
  intro u hu
  unfold flat at hu
  rw [List.mem_flatten] at hu
  obtain ⟨r, hr, hu⟩ := hu
  obtain ⟨q, _, rfl⟩ := List.mem_map.1 hr
  exact one_ins q u hu
/-- A row of the call's own that holds a program's cells. -/
theorem prg_of_owns {w : World} {B : Nat} {E : TypeId} {v : Value} {p : List Ins} (h : w.ownsRow B E 4 v p.length (flat p)) : ∃ A c, v = .slice A p.length c ∧ Prg w A p := by
  rcases h.2 with ⟨e, e0⟩ | ⟨g, cap, cur, e, hg, hh, r⟩
  · refine ⟨none, 0, by rw [e, e0], fun i hi => absurd hi (by omega)⟩
  · refine ⟨some ⟨g, 0, none⟩, cap, e, fun i hi => ⟨g, 0, rfl, (Array.getElem?_eq_some_iff.1 hh).1, fun j v hj => ?_⟩⟩
    have hj4 : j < 4 := by
      have := (List.getElem?_eq_some_iff.1 hj).1
      exact this
    have e2 : (flat p)[i * 4 + j]? = some v := (flat_at p hi hj4).trans hj
    subst e
    have hc := World.ownsRow.cells h rfl (i * 4 + j) v e2
    have ea : (⟨g, 0, none⟩ : Addr).add (i * 4 + j) = ⟨g, 0 + i * 4 + j, none⟩ := by unfold Addr.add; split <;> simp_all
    rw [ea] at hc
    exact hc
theorem prg_cells {w : World} {b o : Nat} {p : List Ins} (h : Prg w (some ⟨b, o, none⟩) p) : ∀ j u, (flat p)[j]? = some u → w.cell? ((⟨b, o, none⟩ : Addr).add j) = some u := by
  intro j u hu
  have hj := (List.getElem?_eq_some_iff.1 hu).1
  rw [flat_length] at hj
  have e1 : j / 4 * 4 + j % 4 = j := by omega
  have hi : j / 4 < p.length := by omega
  have hm : j % 4 < 4 := by omega
  have e := flat_at p hi hm
  rw [e1, hu] at e
  obtain ⟨b', o', e2, _, hr⟩ := h (j / 4) hi
  cases e2
  have := hr (j % 4) u e.symm
  have ea : (⟨b, o, none⟩ : Addr).add j = ⟨b, o + j, none⟩ := by unfold Addr.add; split <;> simp_all
  rw [ea]
  rw [show o + j / 4 * 4 + j % 4 = o + j by omega] at this
  exact this
end Go.Proofs.YtefnkednnnlhoaaGreatDoor

/- Package filter: which steps may stand, which programs may be. Conditions: those that each states. -/
namespace Go.Proofs.YtefnkednnnlhoaaGreatDoor
open Go.ChangeShapes Go.WideShapes Go.ChangeAt Go.RowKit Go.Deep
set_option linter.unusedVariables false

theorem leave_v (n : Int) (v : Bool) (hv : v = leaveB n) (w : World) :
    Calls Tryz.prog 157 #[.int .i64 n] w fun e w' => e = .returned (.bool v) ∧ w' = w := by
  subst hv
  unfold leaveB
  by_cases h0 : 0 ≤ n
  · by_cases h1 : n ≤ 255
    · rw [decide_eq_true h0, decide_eq_true h1]
      go_enter Tryz.func157, Tryz.ntmps157
      go_wp2
      go_ret
      exact ⟨rfl, rfl⟩
    · rw [decide_eq_true h0, decide_eq_false h1]
      go_enter Tryz.func157, Tryz.ntmps157
      go_wp2
      go_ret
      exact ⟨rfl, rfl⟩
  · rw [decide_eq_false h0]
    go_enter Tryz.func157, Tryz.ntmps157
    go_wp2
    go_ret
    exact ⟨rfl, rfl⟩

set_option maxHeartbeats 1000000 in
theorem stand_v (q : Ins) (b : Int) (v : Bool) (hv : v = mayB q b) (w : World) :
    Calls Tryz.prog 136 #[.agg #[.int .i64 q.code, .int .u32 q.k, .int .i64 q.t, .int .i64 q.f], .int .i64 b] w fun e w' => e = .returned (.bool v) ∧ Below w.heap.size w w' := by
  have hB := (Below.refl w.heap.size w).alloc (Nat.le_refl _) (.cells #[.int .i64 q.code, .int .u32 q.k, .int .i64 q.t, .int .i64 q.f] 203)
  obtain ⟨c, k, t, f⟩ := q
  have HB := Lib.hid hB
  clear hB
  subst hv
  unfold mayB asks
  show Calls _ _ #[.agg #[.int .i64 c, .int .u32 k, .int .i64 t, .int .i64 f], .int .i64 b] w _
  have LT := Lib.hid (fun w => leave_v t _ rfl w)
  have LF := Lib.hid (fun w => leave_v f _ rfl w)
  by_cases h0 : c < 0
  · rw [decide_eq_true h0]
    go_enter Tryz.func136, Tryz.ntmps136
    go_wp2
    go_ret
    exact ⟨rfl, HB.out⟩
  by_cases h8 : c > 8
  · rw [decide_eq_false h0, decide_eq_true h8]
    go_enter Tryz.func136, Tryz.ntmps136
    go_wp2
    go_ret
    exact ⟨rfl, HB.out⟩
  rw [decide_eq_false h0, decide_eq_false h8]
  show Calls _ _ _ w fun e w' => e = .returned (.bool (leaveB t && leaveB f && (if (c == 5 || c == 6) = true then decide (t < b) && decide (f < b) else true))) ∧ _
  generalize leaveB t = vt at *
  cases vt with
  | false =>
    show Calls _ _ _ w fun e w' => e = .returned (.bool false) ∧ _
    go_enter Tryz.func136, Tryz.ntmps136
    go_wp2_with (go_at_call 157; refine (LT.out _).mono ?_; rintro e w' ⟨rfl, rfl⟩)
    go_ret
    exact ⟨rfl, HB.out⟩
  | true =>
    generalize leaveB f = vf at *
    cases vf with
    | false =>
      show Calls _ _ _ w fun e w' => e = .returned (.bool false) ∧ _
      go_enter Tryz.func136, Tryz.ntmps136
      go_wp2_with fail
      refine (LT.out _).mono ?_; rintro e w' ⟨rfl, rfl⟩
      go_wp2_with fail
      refine (LF.out _).mono ?_; rintro e w' ⟨rfl, rfl⟩
      go_wp2
      go_ret
      exact ⟨rfl, HB.out⟩
    | true =>
      show Calls _ _ _ w fun e w' => e = .returned (.bool (if (c == 5 || c == 6) = true then decide (t < b) && decide (f < b) else true)) ∧ _
      by_cases h56 : (c == 5 || c == 6) = true
      · rw [if_pos h56]
        by_cases h5 : c = 5
        · subst h5
          by_cases h1 : t < b
          · by_cases h2 : f < b
            · rw [decide_eq_true h1, decide_eq_true h2]
              go_enter Tryz.func136, Tryz.ntmps136
              go_wp2_with fail
              refine (LT.out _).mono ?_; rintro e w' ⟨rfl, rfl⟩
              go_wp2_with fail
              refine (LF.out _).mono ?_; rintro e w' ⟨rfl, rfl⟩
              go_wp2
              go_ret
              exact ⟨rfl, HB.out⟩
            · have d2 : decide (f < b) = false := decide_eq_false h2
              rw [decide_eq_true h1, d2]
              go_enter Tryz.func136, Tryz.ntmps136
              go_wp2_with fail
              refine (LT.out _).mono ?_; rintro e w' ⟨rfl, rfl⟩
              go_wp2_with fail
              refine (LF.out _).mono ?_; rintro e w' ⟨rfl, rfl⟩
              go_wp2
              go_ret
              exact ⟨rfl, HB.out⟩
          · rw [decide_eq_false h1]
            go_enter Tryz.func136, Tryz.ntmps136
            go_wp2_with fail
            refine (LT.out _).mono ?_; rintro e w' ⟨rfl, rfl⟩
            go_wp2_with fail
            refine (LF.out _).mono ?_; rintro e w' ⟨rfl, rfl⟩
            go_wp2
            go_ret
            exact ⟨rfl, HB.out⟩
        · have h6 : c = 6 := by simp at h56; omega
          subst h6
          by_cases h1 : t < b
          · by_cases h2 : f < b
            · rw [decide_eq_true h1, decide_eq_true h2]
              go_enter Tryz.func136, Tryz.ntmps136
              go_wp2_with fail
              refine (LT.out _).mono ?_; rintro e w' ⟨rfl, rfl⟩
              go_wp2_with fail
              refine (LF.out _).mono ?_; rintro e w' ⟨rfl, rfl⟩
              go_wp2
              go_ret
              exact ⟨rfl, HB.out⟩
            · have d2 : decide (f < b) = false := decide_eq_false h2
              rw [decide_eq_true h1, d2]
              go_enter Tryz.func136, Tryz.ntmps136
              go_wp2_with fail
              refine (LT.out _).mono ?_; rintro e w' ⟨rfl, rfl⟩
              go_wp2_with fail
              refine (LF.out _).mono ?_; rintro e w' ⟨rfl, rfl⟩
              go_wp2
              go_ret
              exact ⟨rfl, HB.out⟩
          · rw [decide_eq_false h1]
            go_enter Tryz.func136, Tryz.ntmps136
            go_wp2_with fail
            refine (LT.out _).mono ?_; rintro e w' ⟨rfl, rfl⟩
            go_wp2_with fail
            refine (LF.out _).mono ?_; rintro e w' ⟨rfl, rfl⟩
            go_wp2
            go_ret
            exact ⟨rfl, HB.out⟩
      · rw [if_neg h56]
        have h5 : (c == 5) = false := by
          cases h : (c == 5) with
          | false => rfl
          | true => simp [h] at h56
        have h6 : (c == 6) = false := by
          cases h : (c == 6) with
          | false => rfl
          | true => simp [h] at h56
        clear h56
        go_enter Tryz.func136, Tryz.ntmps136
        go_wp2_with fail
        refine (LT.out _).mono ?_; rintro e w' ⟨rfl, rfl⟩
        go_wp2_with fail
        refine (LF.out _).mono ?_; rintro e w' ⟨rfl, rfl⟩
        go_wp2
        go_ret
        exact ⟨rfl, HB.out⟩
end Go.Proofs.YtefnkednnnlhoaaGreatDoor
