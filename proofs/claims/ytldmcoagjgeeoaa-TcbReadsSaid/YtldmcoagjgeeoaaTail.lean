/- A region that draws its order, whose last operations come up one behind the other when all others have: its head is walked as a region of its own, its tail behind it in the text's order. Conditions: those that each states. -/
import Derived.StillTail
import Derived.Test.YtldmcoagjgeeoaaBase
import Derived.Deep.RegionHeld
import Derived.Deep.AppendLies
namespace Go.Proofs.Ytldmcoagjgeeoaa
open Go Go.Deep

section
variable {P : Program} {md : Region.Mode} {Q : Exit → Act → World → Prop}

/-- Behind the head: the tail, in the text's order. -/
def TailPost (P : Program) (l : List Oper) (Q : Exit → Act → World → Prop) (l₂ : List Oper) : Exit → Act → World → Prop
  | .normal, a, w => wpList P l.toArray Q l₂ a w
  | e, a, w => Q e a w

/-- Edges go back, and guards of the head name the head alone. -/
def Region.headB (ops : Array Oper) (n : Nat) : Bool :=
  (List.range n).all fun i => match ops[i]? with
    | some o => o.after.all (fun e => decide (e.on < i)) && (match o.guard with | some (g, _) => decide (g < n) | none => true)
    | none => false
theorem Region.headB_spec {ops : Array Oper} {n i : Nat} (h : Region.headB ops n = true) (hi : i < n) : ∃ o, ops[i]? = some o ∧ (∀ e ∈ o.after, e.on < i) ∧ ∀ g b, o.guard = some (g, b) → g < n := by
  have h1 := List.all_eq_true.1 h i (List.mem_range.2 hi)
  cases ho : ops[i]? with
  | none => simp [ho] at h1
  | some o =>
    simp only [ho, Bool.and_eq_true] at h1
    refine ⟨o, rfl, fun e he => ?_, fun g b hg => ?_⟩
    · have := Array.all_eq_true_iff_forall_mem.1 h1.1 e he
      simpa using this
    · have h2 := h1.2
      rw [hg] at h2
      simpa using h2

theorem getD_left {a b : Array Bool} {i : Nat} {d : Bool} (h : i < a.size) : (a ++ b).getD i d = a.getD i d := by
  simp [Array.getD, h, Nat.lt_of_lt_of_le h (Nat.le_add_right _ _)]

theorem ready_head {l₁ l₂ : List Oper} {listed : Array Bool} {t : Array Bool} (hz : listed.size = l₁.length) {i : Nat} (hB : Region.headB (l₁ ++ l₂).toArray l₁.length = true) (hi : i < l₁.length) :
    i ∈ Region.ready md (l₁ ++ l₂).toArray (listed ++ t) ↔ i ∈ Region.ready md l₁.toArray listed := by
  obtain ⟨o, ho, he, _⟩ := Region.headB_spec hB hi
  have ho1 : l₁.toArray[i]? = some o := by
    simp only [List.getElem?_toArray] at ho ⊢
    rw [List.getElem?_append_left hi] at ho
    exact ho
  rw [mem_ready, mem_ready, getD_left (by omega)]
  constructor
  · rintro ⟨h1, o', ho', h2⟩
    obtain rfl : o' = o := by rw [ho] at ho'; injection ho' with e; exact e.symm
    refine ⟨h1, o', ho1, fun e hm hb => ?_⟩
    have := h2 e hm hb
    rw [getD_left (by have := he e hm; omega)] at this
    exact this
  · rintro ⟨h1, o', ho', h2⟩
    obtain rfl : o' = o := by rw [ho1] at ho'; injection ho' with e; exact e.symm
    refine ⟨h1, o', ho, fun e hm hb => ?_⟩
    rw [getD_left (by have := he e hm; omega)]
    exact h2 e hm hb

theorem wanted_head {l₁ l₂ : List Oper} {i : Nat} {o : Oper} (hB : Region.headB (l₁ ++ l₂).toArray l₁.length = true) (hi : i < l₁.length) (ho : (l₁ ++ l₂).toArray[i]? = some o) (tmps : Array Value) :
    Region.wanted o (yielded (l₁ ++ l₂).toArray tmps) = Region.wanted o (yielded l₁.toArray tmps) := by
  obtain ⟨o', ho', _, hg⟩ := Region.headB_spec hB hi
  obtain rfl : o' = o := by rw [ho] at ho'; injection ho' with e; exact e.symm
  unfold Region.wanted
  cases hgd : o'.guard with
  | none => rfl
  | some p =>
    obtain ⟨g, b⟩ := p
    have hlt := hg g b hgd
    have e : yielded (l₁ ++ l₂).toArray tmps g = yielded l₁.toArray tmps g := by
      unfold yielded
      simp only [List.getElem?_toArray]
      rw [List.getElem?_append_left hlt]
    simp only [e]

theorem wpOp_head {l₁ l₂ : List Oper} {i : Nat} {K K₁ : Act → World → Prop} {a : Act} {w : World} (hB : Region.headB (l₁ ++ l₂).toArray l₁.length = true) (hi : i < l₁.length) (hK : ∀ a w, K₁ a w → K a w)
    (h : wpOp P l₁.toArray (TailPost P (l₁ ++ l₂) Q l₂) i K₁ a w) : wpOp P (l₁ ++ l₂).toArray Q i K a w := by
  obtain ⟨o, ho, _, _⟩ := Region.headB_spec hB hi
  have ho1 : l₁.toArray[i]? = some o := by
    simp only [List.getElem?_toArray] at ho ⊢
    rw [List.getElem?_append_left hi] at ho
    exact ho
  have hw := wanted_head hB hi ho a.tmps
  unfold wpOp at *
  simp only [ho, ho1, hw] at h ⊢
  split
  · rename_i hwt
    simp only [hwt, if_true] at h
    rcases h with h | ⟨h1, h2⟩
    · refine .inl ?_
      unfold Oper.wp at *
      generalize (execOp a.eval o).run P w = r at *
      cases r with
      | ok n w' =>
        cases n <;> simp only [Oper.upon] at h ⊢
        case value => exact hK _ _ h
        case skip => exact hK _ _ h
        case defer => exact hK _ _ h
        case enter =>
          refine Calls.mono h fun e w'' he => ?_
          cases e with
          | returned v => exact hK _ _ he
          | panicked c => exact he
          | outgrown => exact he
        case row => exact Rows.mono h fun _ _ he => hK _ _ he
      | halt x w' => cases x <;> simp only [Oper.upon] at h ⊢; exact h
    · exact .inr ⟨h1, h2⟩
  · rename_i hwt
    simp only [hwt] at h
    exact hK _ _ h

/-- How many have not come up. -/
def unlisted (listed : Array Bool) : Nat := (listed.toList.filter (! ·)).length
theorem unlisted_set {listed : Array Bool} {i : Nat} (hi : i < listed.size) (h : listed.getD i true = false) : unlisted listed = unlisted (listed.setIfInBounds i true) + 1 := by
  unfold unlisted
  obtain ⟨l⟩ := listed
  simp only [List.size_toArray] at hi
  simp only [List.setIfInBounds_toArray]
  have hl : l[i] = false := by simpa [Array.getD, hi] using h
  clear h
  induction l generalizing i with
  | nil => simp at hi
  | cons b l ih =>
    cases i with
    | zero =>
      have : b = false := by simpa using hl
      subst this
      simp
    | succ i =>
      have := ih (i := i) (by simpa using hi) (by simpa using hl)
      cases b <;> simp [this]
theorem unlisted_zero {listed : Array Bool} (h : unlisted listed = 0) : listed = Array.replicate listed.size true := by
  apply Array.ext
  · simp
  · intro i h1 h2
    rw [Array.getElem_replicate]
    unfold unlisted at h
    have h3 : ∀ b ∈ listed.toList, b = true := by
      intro b hb
      have := List.length_eq_zero_iff.1 h
      rw [List.filter_eq_nil_iff] at this
      simpa using this b hb
    exact h3 _ (by simp)

theorem wpAny_head {l₁ l₂ : List Oper} (hs : Region.sinkB md (l₁ ++ l₂).toArray l₁.length = true) (hc : Region.chainB md (l₁ ++ l₂).toArray l₁.length = true) (hn : 0 < l₂.length)
    (hB : Region.headB (l₁ ++ l₂).toArray l₁.length = true)
    (hq : Region.seqB md (l₁ ++ l₂).toArray l₂.length l₁.length (Array.replicate l₁.length true ++ Array.replicate l₂.length false) = true) :
    ∀ (f : Nat) (listed : Array Bool) (a : Act) (w : World), listed.size = l₁.length → unlisted listed = f → HeadInv md (l₁ ++ l₂).toArray l₁.length (listed ++ Array.replicate l₂.length false) →
      wpAny P md l₁.toArray (TailPost P (l₁ ++ l₂) Q l₂) f listed a w → wpAny P md (l₁ ++ l₂).toArray Q (f + l₂.length) (listed ++ Array.replicate l₂.length false) a w := by
  intro f
  induction f with
  | zero =>
    intro listed a w hz hu inv h
    have e := unlisted_zero hu
    rw [hz] at e
    rw [Nat.zero_add, e]
    exact wpAny_of_seq (md := md) l₂ l₁.length _ a w (fun j => by simp [List.getElem?_append_right]) hq h.2
  | succ f ih =>
    intro listed a w hz hu inv h
    rw [show f + 1 + l₂.length = (f + l₂.length) + 1 by omega]
    -- the first that has not come up
    have hex : ∃ i, i < l₁.length ∧ listed.getD i true = false ∧ ∀ j, j < i → listed.getD j false = true := by
      have key : ∀ (k : Nat), k ≤ l₁.length → (∃ i, i < k ∧ listed.getD i true = false ∧ ∀ j, j < i → listed.getD j false = true) ∨ ∀ j, j < k → listed.getD j false = true := by
        intro k
        induction k with
        | zero => intro _; exact .inr fun j hj => absurd hj (Nat.not_lt_zero _)
        | succ k ihk =>
          intro hk
          rcases ihk (by omega) with ⟨i, h1, h2⟩ | h1
          · exact .inl ⟨i, by omega, h2⟩
          · cases hb : listed.getD k false with
            | true =>
              refine .inr fun j hj => ?_
              by_cases e : j = k
              · rw [e]; exact hb
              · exact h1 j (by omega)
            | false => exact .inl ⟨k, by omega, getD_in (by omega) hb, h1⟩
      rcases key l₁.length (Nat.le_refl _) with h1 | h1
      · exact h1
      · exfalso
        have e : listed = Array.replicate l₁.length true := by
          apply Array.ext
          · simp [hz]
          · intro i h2 h3
            have := h1 i (by omega)
            rw [Array.getElem_replicate]
            simpa [Array.getD, h2] using this
        rw [e] at hu
        unfold unlisted at hu
        simp at hu
    obtain ⟨i0, hi0, hun0, hpre⟩ := hex
    have hr0 : i0 ∈ Region.ready md l₁.toArray listed := by
      obtain ⟨o, ho, he, _⟩ := Region.headB_spec hB hi0
      rw [mem_ready]
      refine ⟨hun0, o, ?_, fun e hm _ => hpre _ (he e hm)⟩
      simp only [List.getElem?_toArray] at ho ⊢
      rw [List.getElem?_append_left hi0] at ho
      exact ho
    refine ⟨fun h0 => ?_, fun i hi => ?_⟩
    · have := (ready_head (t := Array.replicate l₂.length false) hz hB hi0).2 hr0
      rw [h0] at this
      cases this
    · have hnn : l₁.length < (l₁ ++ l₂).toArray.size := by simp; omega
      have hil : i < l₁.length := by
        rcases Nat.lt_or_ge i l₁.length with h1 | h1
        · exact h1
        · exact absurd hi (tail_waits hs hc hnn inv _ i0 rfl hi0 (by rw [getD_left (by omega)]; exact hun0) i h1)
      have hr1 := (ready_head (t := Array.replicate l₂.length false) hz hB hil).1 hi
      have hst : (listed ++ Array.replicate l₂.length false).setIfInBounds i true = listed.setIfInBounds i true ++ Array.replicate l₂.length false := by
        apply Array.ext'
        simp only [Array.toList_setIfInBounds, Array.toList_append]
        rw [List.set_append_left _ _ (by simpa [hz] using hil)]
      refine wpOp_head hB hil (fun a' w' h' => ?_) (h.2 i hr1)
      rw [hst]
      refine ih _ a' w' (by simpa using hz) ?_ ?_ h'
      · have := unlisted_set (listed := listed) (i := i) (by omega) (mem_ready.1 hr1).1
        omega
      · rw [← hst]
        exact inv.set hi hil

/-- A region that draws: its head as a region of its own, its tail behind it. -/
theorem wp_region_head {id : Nat} {a : Act} {w : World} {l l₁ l₂ : List Oper} (n : Nat) (hm : P.follows .mixedOrders = true) (h1 : l.take n = l₁) (h2 : l.drop n = l₂)
    (hB : (decide (l₁.length = n) && decide (0 < l₂.length) && Region.sinkB .any l.toArray n && Region.chainB .any l.toArray n && Region.headB l.toArray n && Region.seqB .any l.toArray l₂.length n (Array.replicate n true ++ Array.replicate l₂.length false)) = true)
    (h : wpAny P .any l₁.toArray (TailPost P l Q l₂) l₁.toArray.size (Array.replicate l₁.toArray.size false) a { w with drawn := w.drawn + 1 }) : (Code.region id l.toArray true).wp P Q a w := by
  have el : l = l₁ ++ l₂ := by rw [← h1, ← h2, List.take_append_drop]
  clear h1 h2
  subst el
  simp only [Bool.and_eq_true, decide_eq_true_eq] at hB
  obtain ⟨⟨⟨⟨⟨hl, hn⟩, hs⟩, hc⟩, hh⟩, hq⟩ := hB
  subst hl
  refine wp_region_any hm ?_
  have inv0 : HeadInv .any (l₁ ++ l₂).toArray l₁.length (Array.replicate (l₁ ++ l₂).toArray.size false) :=
    ⟨by simp, fun j oj _ hl => (by rw [getD_replicate_false] at hl; cases hl), fun t _ ht => getD_in (by simpa using ht) (getD_replicate_false _ _)⟩
  have er : Array.replicate (l₁ ++ l₂).toArray.size false = Array.replicate l₁.length false ++ Array.replicate l₂.length false := by simp [Array.replicate_append_replicate]
  rw [er] at inv0 ⊢
  have := wpAny_head (P := P) (Q := Q) hs hc hn hh hq l₁.length (Array.replicate l₁.length false) a { w with drawn := w.drawn + 1 } (by simp) (by simp [unlisted]) inv0 (by simpa using h)
  simpa using this
end

theorem owns_mono {w : World} {base base' : Nat} {e : TypeId} {size : Nat} {v : Value} {n : Nat} {xs : List Value} (h : w.ownsRow base e size v n xs) (hb : base' ≤ base) : w.ownsRow base' e size v n xs := by
  refine ⟨h.1, ?_⟩
  rcases h.2 with h0 | ⟨g, cap, cur, h1, h2, h3⟩
  · exact .inl h0
  · exact .inr ⟨g, cap, cur, h1, Nat.le_trans hb h2, h3⟩
/-! A held region, operation by operation. -/
section
variable {P : Program} {ops : Array Oper} {Q : Exit → Act → World → Prop} {md : Region.Mode} {S : World → Prop}
theorem held_one {fuel : Nat} {listed : Array Bool} {a : Act} {w : World} {i : Nat} {o : Oper} (hr : Region.ready md ops listed = [i]) (ho : ops[i]? = some o) (hw : Region.wanted o (yielded ops a.tmps) = true)
    (h : o.wp P a w (fun a' w' => S w' ∧ wpAnyH P md ops Q S fuel (listed.setIfInBounds i true) a' w') Q) : wpAnyH P md ops Q S (fuel + 1) listed a w :=
  wpAnyH_all hr (by simp) fun j hj => by
    rw [List.mem_singleton.1 hj]
    unfold wpOp
    simp only [ho, hw, if_true]
    exact .inl h
theorem held_two {fuel : Nat} {listed : Array Bool} {a : Act} {w : World} {i j : Nat} {o o' : Oper} (hr : Region.ready md ops listed = [i, j]) (ho : ops[i]? = some o) (ho' : ops[j]? = some o') (hw : Region.wanted o (yielded ops a.tmps) = true) (hw' : Region.wanted o' (yielded ops a.tmps) = true)
    (h : o.wp P a w (fun a' w' => S w' ∧ wpAnyH P md ops Q S fuel (listed.setIfInBounds i true) a' w') Q) (h' : o'.wp P a w (fun a' w' => S w' ∧ wpAnyH P md ops Q S fuel (listed.setIfInBounds j true) a' w') Q) : wpAnyH P md ops Q S (fuel + 1) listed a w :=
  wpAnyH_all hr (by simp) fun k hk => by
    rcases List.mem_cons.1 hk with e | e
    · rw [e]
      unfold wpOp
      simp only [ho, hw, if_true]
      exact .inl h
    · rw [List.mem_singleton.1 e]
      unfold wpOp
      simp only [ho', hw', if_true]
      exact .inl h'
/-- Take number i first; its place written out. -/
theorem held_take {i : Nat} {oi : Oper} {v : Value} {d : Option Tmp} {fuel : Nat} {listed : Array Bool} {a : Act} {w : World} (hi : ops[i]? = some oi) (hd : oi.dst = d)
    (hs : Region.noSelect ops = true) (hf : Region.free md ops listed i = true) (hr : (Region.ready md ops listed).contains i = true)
    (hQ : ∀ c a w, Q (.panic c) (a.put oi.dst v) w → Q (.panic c) a w) (hw : Region.wanted oi (yielded ops a.tmps) = true) (hy : ∀ w, S w → (execOp a.eval oi).run P w = .ok (.value v) w) (hS : S w)
    (h : wpAnyH P md ops Q S fuel (listed.setIfInBounds i true) (a.put d v) w) : wpAnyH P md ops Q S (fuel + 1) listed a w := by
  subst hd
  exact wpAnyH_take hi hs hf hr hQ (Or.inl ⟨hw, hy⟩) hS h
/-- Number i is not wanted. -/
theorem held_skip {i : Nat} {oi : Oper} {d : Option Tmp} {fuel : Nat} {listed : Array Bool} {a : Act} {w : World} (hi : ops[i]? = some oi) (hd : oi.dst = d)
    (hs : Region.noSelect ops = true) (hf : Region.free md ops listed i = true) (hr : (Region.ready md ops listed).contains i = true)
    (hQ : ∀ c a w, Q (.panic c) (a.put oi.dst undef) w → Q (.panic c) a w) (hw : Region.wanted oi (yielded ops a.tmps) = false) (hS : S w)
    (h : wpAnyH P md ops Q S fuel (listed.setIfInBounds i true) (a.put d undef) w) : wpAnyH P md ops Q S (fuel + 1) listed a w := by
  subst hd
  exact wpAnyH_take hi hs hf hr hQ (Or.inr ⟨hw, rfl⟩) hS h
/-- buildSlice, its place written out. -/
theorem wp_slice_d {o : Oper} {a : Act} {w w' : World} {K : Act → World → Prop} {t : TypeId} {n : Nat} {parts : Array (Nat × Operand)} {d : Option Tmp} (hd : o.dst = d) (ho : o.op = .buildSlice t n parts) {v : Value} {ps : Array (Nat × Value)} (hx : (parts.map fun (i, x) => (i, a.eval x)) = ps) (h : (Instr.buildSlice t n ps).run P w = .ok v w')
    (hk : K (a.put d v) w') : o.wp P a w K Q := by
  subst hd
  unfold Oper.wp execOp
  simp only [ho, hx, Sem.run_bind, h, Result.andThen_ok, Sem.run_pure]
  exact hk
theorem exec_load {a : Act} {o : Oper} {t : TypeId} {x : Operand} (ho : o.op = .load t x) {v y : Value} (hx : a.eval x = y) {w : World} (h : (Instr.loadAt t y).run P w = .ok v w) : (execOp a.eval o).run P w = .ok (.value v) w := by
  unfold execOp
  simp only [ho, hx, Sem.run_bind, h, Result.andThen_ok, Sem.run_pure]
theorem exec_build' {a : Act} {o : Oper} {t : TypeId} {parts : Array (Nat × Operand)} (ho : o.op = .build t parts) {v : Value} {ps : Array (Nat × Value)} (hx : (parts.map fun (i, x) => (i, a.eval x)) = ps) (h : ∀ w, (Instr.build t ps).run P w = .ok v w) (w : World) : (execOp a.eval o).run P w = .ok (.value v) w := by
  unfold execOp
  simp only [ho, hx, Sem.run_bind, h, Result.andThen_ok, Sem.run_pure]
/-- append of something, its place written out; the new slice's block a letter. -/
theorem wp_append_d {o : Oper} {a : Act} {w : World} {K : Act → World → Prop} {d : Option Tmp} (hd : o.dst = d) (s x : Operand) (t : TypeId) (ho : o.op = .call { callee := .builtin .append, args := #[s, x], argTypes := #[t, t] })
    (base : Nat) (e : TypeId) (i : TypeInfo) (z : Value) (size bytes : Nat) (ht : P.underlying t = some (.slice e)) (hi : P.info? e = some i) (hz : i.zero = some z)
    (hsize : i.size = size) (hby : i.bytes = bytes) (hzs : z.cells.size = size) (hsz : 0 < size)
    (v : Value) (n : Nat) (xs : List Value) (hs : a.eval s = v) (hown : w.ownsRow base e size v n xs)
    (ad : Addr) (m c : Nat) (news : List Value) (hx : a.eval x = .slice (some ad) m c) (hl : news.length = m * size) (hnews : ∀ j u, news[j]? = some u → w.cell? (ad.add j) = some u) (h1 : ∀ u ∈ news, u.oneCell' = true)
    (hm : 0 < m) (h63 : n + m ≤ maxLen) (hbytes : (n + m) * bytes ≤ 140737488355328) (hbase : base ≤ w.heap.size)
    (h : ∀ g cap w', w'.ownsRow base e size (.slice (some ⟨g, 0, none⟩) (n + m) cap) (n + m) (xs ++ news) → w.grownBy w' v.ownBlock → (v.ownBlock = some g ∨ g = w.heap.size) → g < w'.heap.size → K (a.put d (.slice (some ⟨g, 0, none⟩) (n + m) cap)) w') : o.wp P a w K Q := by
  subst hd
  exact wp_append_lies w s x t ho base e i z size bytes ht hi hz hsize hby hzs hsz v n xs hs hown ad m c news hx hl hnews h1 hm h63 hbytes hbase _ rfl h
/-- The head of a region, held. -/
theorem wp_head_held {id : Nat} {a : Act} {w : World} {l l₁ l₂ : List Oper} (n : Nat) (hm : P.follows .mixedOrders = true) (h1 : l.take n = l₁) (h2 : l.drop n = l₂)
    (hB : (decide (l₁.length = n) && decide (0 < l₂.length) && Region.sinkB .any l.toArray n && Region.chainB .any l.toArray n && Region.headB l.toArray n && Region.seqB .any l.toArray l₂.length n (Array.replicate n true ++ Array.replicate l₂.length false)) = true)
    (h : wpAnyH P .any l₁.toArray (TailPost P l Q l₂) S l₁.toArray.size (Array.replicate l₁.toArray.size false) a w.drew) : (Code.region id l.toArray true).wp P Q a w :=
  wp_region_head n hm h1 h2 hB (wpAny_of_held _ _ _ _ h)
/-- append(v, src...): v a row of the call's own, src one too, nil or not; elements of any size. -/
theorem wp_append_copy {o : Oper} {a : Act} {w : World} {K : Act → World → Prop} {d : Option Tmp} (hd : o.dst = d) (s x : Operand) (t : TypeId) (ho : o.op = .call { callee := .builtin .append, args := #[s, x], argTypes := #[t, t] })
    (base : Nat) (e : TypeId) (i : TypeInfo) (z : Value) (size bytes : Nat) (ht : P.underlying t = some (.slice e)) (hi : P.info? e = some i) (hz : i.zero = some z)
    (hsize : i.size = size) (hby : i.bytes = bytes) (hzs : z.cells.size = size) (hsz : 0 < size)
    (v : Value) (n : Nat) (xs : List Value) (hs : a.eval s = v) (hown : w.ownsRow base e size v n xs)
    (A : Option Addr) (m c : Nat) (ys : List Value) (hx : a.eval x = .slice A m c) (hsrc : w.ownsRow 0 e size (.slice A m c) m ys) (h1 : ∀ u ∈ ys, u.oneCell' = true)
    (h63 : n + m ≤ maxLen) (hbytes : (n + m) * bytes ≤ 140737488355328) (hbase : base ≤ w.heap.size)
    (h : ∀ v' w', w'.ownsRow base e size v' (n + m) (xs ++ ys) → w.grownBy w' v.ownBlock → (v'.ownBlock = v.ownBlock ∨ v'.ownBlock = some w.heap.size) → K (a.put d v') w') : o.wp P a w K Q := by
  subst hd
  cases A with
  | none =>
    have hmc : m = 0 ∧ c = 0 := by
      rcases hsrc.2 with ⟨e, _⟩ | ⟨g, cap, cur, e, _⟩
      · injection e with _ e2 e3
        exact ⟨e2, e3⟩
      · cases e
    obtain ⟨rfl, rfl⟩ := hmc
    have hy : ys = [] := List.length_eq_zero_iff.1 (by rw [hsrc.1, Nat.zero_mul])
    subst hy
    have hrun := run_append_owned_none (P := P) (w := w) base t o.type e i size ht hi v n xs hown
    unfold Oper.wp execOp
    simp only [ho, resolve, invoke, builtin, Sem.run_bind, Sem.run_pure, Result.andThen_ok, List.map_toArray, List.map_cons, List.map_nil, hs, hx, hrun]
    exact h v w (by rw [List.append_nil]; exact hown) (World.grownBy.refl _ _) (.inl rfl)
  | some ad =>
    obtain ⟨v', w', hr, h2, h3, _, h5⟩ := run_append_own_at (P := P) w base t o.type e i z size bytes ht hi hz hsize hby hzs hsz v n xs hown ad m c ys hsrc.1 (fun j u hu => by
      rcases hsrc.2 with ⟨e, _⟩ | ⟨g, cap, cur, e, r⟩
      · cases e
      · injection e with e1
        injection e1 with e1
        subst e1
        exact World.ownsRow.cells hsrc rfl j u hu) h1 h63 hbytes hbase
    unfold Oper.wp execOp
    simp only [ho, resolve, invoke, builtin, Sem.run_bind, Sem.run_pure, Result.andThen_ok, List.map_toArray, List.map_cons, List.map_nil, hs, hx, hr]
    exact h v' w' h2 h3 h5
end
end Go.Proofs.Ytldmcoagjgeeoaa
