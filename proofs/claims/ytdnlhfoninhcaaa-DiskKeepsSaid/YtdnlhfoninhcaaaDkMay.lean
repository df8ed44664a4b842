/- A slice of four slices of texts, each in a block of its own: append of one, cut to the last, one alone. Conditions: those that each states. -/
import Derived.Test.YtdnlhfoninhcaaaDkX
import Derived.ArgAppend
namespace Go.Proofs.Ytdnlhfoninhcaaa
open Go.ChangeShapes Go.WideShapes Go.ChangeAt Go.RowKit Go.Deep Di
set_option linter.unusedVariables false

theorem s_info : ∃ i0, Try.prog.info? 9 = some i0 ∧ i0.zero = some (.string ⟨#[]⟩) ∧ i0.size = 1 ∧ i0.bytes = 16 := by
  obtain ⟨i, hi, hs⟩ := Option.map_eq_some_iff.1 str_infos
  simp only [Prod.mk.injEq] at hs
  exact ⟨i, hi, hs.1, hs.2.1, hs.2.2⟩
def strs (l : List ByteArray) : List Value := l.map .string
theorem strs_len (l : List ByteArray) : (strs l).length = l.length := by simp [strs]
theorem strs_one (l : List ByteArray) : ∀ u ∈ strs l, u.oneCell' = true := by
  intro u hu
  obtain ⟨s, _, rfl⟩ := List.mem_map.1 hu
  rfl
/-- Texts that lie one behind the other in block r from place o on; c of them have room. -/
structure RowO (w : World) (r o c : Nat) (l : List ByteArray) : Prop where
  ex : ∃ cs : Array Value, Blk w r 9 cs ∧ o + c ≤ cs.size ∧ ∀ j (h : j < l.length), cs[o + j]? = some (.string l[j])
  le : l.length ≤ c
  mx : c ≤ maxLen
section
variable {w w' : World} {r o c : Nat} {l : List ByteArray} {S : Nat → Prop}
theorem RowO.lt (h : RowO w r o c l) : r < w.heap.size := by obtain ⟨cs, b, _⟩ := h.ex; exact b.lt
theorem RowO.chg (h : RowO w r o c l) (k : Chg w w' S) (hn : ¬ S r) : RowO w' r o c l := by
  obtain ⟨cs, b, h1, h2⟩ := h.ex
  exact ⟨⟨cs, b.chg k hn, h1, h2⟩, h.le, h.mx⟩
theorem RowO.new (h : RowO w r o c l) (k : Below w.heap.size w w') : RowO w' r o c l := h.chg (Chg.of_new k fun _ => False) id
theorem RowO.drewN (h : RowO w r o c l) (n : Nat) : RowO (w.drewN n) r o c l := ⟨h.ex, h.le, h.mx⟩
theorem RowO.cell (h : RowO w r o c l) {j : Nat} (hj : j < l.length) : w.cell? ⟨r, o + j, none⟩ = some (.string l[j]) := by
  obtain ⟨cs, b, _, h2⟩ := h.ex
  rw [b.cell, h2 j hj]
theorem RowO.one (w : World) (s : ByteArray) : RowO (w.alloc (.cells #[.string s] 9)) w.heap.size 0 1 [s] :=
  ⟨⟨_, Blk.new w _ _, by simp, fun j hj => by
    have h0 : j = 0 := by simpa using hj
    subst h0
    rfl⟩, Nat.le_refl _, by decide⟩
theorem RowO.last (h : RowO w r o c l) (hl : 0 < l.length) : RowO w r (o + (l.length - 1)) (c - (l.length - 1)) [l[l.length - 1]'(by omega)] := by
  obtain ⟨cs, b, h1, h2⟩ := h.ex
  have hle := h.le
  refine ⟨⟨cs, b, by omega, fun j hj => ?_⟩, by simp; omega, by have := h.mx; omega⟩
  have : j = 0 := by simpa using hj
  subst this
  rw [Nat.add_zero, h2 _ (by omega)]; rfl
/-- append of one, as one step. -/
theorem wp_append_off {op : Oper} {a : Act} {K : Act → World → Prop} {Q : Exit → Act → World → Prop} (s x : Operand) (hop : op.op = Op.call { callee := Callee.builtin Builtin.append, args := #[s, x], argTypes := #[36, 36] })
    (h : RowO w r o c l) (hs : a.eval s = .slice (some ⟨r, o, none⟩) l.length c) (q : Nat) (u : ByteArray) (hx : a.eval x = .slice (some ⟨q, 0, none⟩) 1 1) (hq : w.cell? ⟨q, 0, none⟩ = some (.string u)) (hl : l.length ≤ 1000000)
    (hK : ∀ r' o' c' w', RowO w' r' o' c' (l ++ [u]) → Chg w w' (fun k => k = r) → (r' = r ∨ w.heap.size ≤ r') → r' < w'.heap.size → K (a.put op.dst (.slice (some ⟨r', o', none⟩) (l.length + 1) c')) w') : op.wp Try.prog a w K Q := by
  obtain ⟨i, hi, hz, hsz, hby⟩ := s_info
  obtain ⟨cs, hb, h1, h2⟩ := h.ex
  have hle := h.le
  have hmx := h.mx
  have hnews : ∀ j v, ([Value.string u] : List Value)[j]? = some v → w.cell? ((⟨q, 0, none⟩ : Addr).add j) = some v := by
    intro j v hj
    match j, hj with
    | 0, hj =>
      simp at hj
      subst hj
      have ea : (⟨q, 0, none⟩ : Addr).add 0 = ⟨q, 0, none⟩ := by unfold Addr.add; split <;> simp_all
      rw [ea, hq]
  by_cases hr : l.length + 1 ≤ c
  · have hcell : (w.cell? ⟨r, o + l.length, none⟩).isSome = true := by rw [hb.cell, Array.getElem?_eq_getElem (by omega)]; rfl
    have hrun := run_append_room_cells (P := Try.prog) w 36 op.type 9 i Try.underlying36 hi r o l.length c ⟨q, 0, none⟩ 1 1 [.string u] (by simp [hsz]) hnews (by simp; rfl) hr
      (fun j hj => by
        have h0 : j = 0 := by simpa using hj
        subst h0
        rw [hsz]
        simpa using hcell) (fun j hj => hb.frozen _)
    unfold Oper.wp
    simp [execOp, hop, resolve, invoke, builtin, hs, hx, hrun, Result.andThen]
    have hput := hb.put (o + l.length) (.string u)
    have ew : w.setCells r (o + l.length * i.size) [.string u] = w.setCell ⟨r, o + l.length, none⟩ (.string u) := by rw [hsz, Nat.mul_one]; rfl
    rw [ew]
    refine hK r o c _ ⟨⟨_, hput, by simpa using h1, fun j hj => ?_⟩, by simpa using hr, hmx⟩ (Chg.set _ _ _ rfl) (.inl rfl) (by have := hb.lt; simpa [World.setCell] using this)
    rw [Array.getElem?_setIfInBounds]
    by_cases e : j = l.length
    · subst e
      rw [if_pos rfl, if_pos (by omega)]; simp
    · have hj1 : j < l.length + 1 := by simpa using hj
      have hj' : j < l.length := by omega
      rw [if_neg (by omega), h2 j hj', List.getElem_append_left hj']
  · have hlo : (strs l).length = l.length * 1 := by rw [strs_len, Nat.mul_one]
    obtain ⟨v', w', hrun, hown, hg⟩ := run_append_arg_grows (P := Try.prog) w 36 op.type 9 i (.string ⟨#[]⟩) 1 16 Try.underlying36 hi hz hsz hby rfl (by decide) ⟨r, o, none⟩ l.length c (strs l) hlo
      (fun j u' hj => by
        obtain ⟨hj1, e⟩ := List.getElem?_eq_some_iff.1 hj
        rw [strs_len] at hj1
        have ea : (⟨r, o, none⟩ : Addr).add j = ⟨r, o + j, none⟩ := by unfold Addr.add; split <;> simp_all
        rw [ea, hb.cell, h2 j hj1, ← e]
        simp [strs]) ⟨q, 0, none⟩ 1 1 [.string u] rfl hnews (by omega) (by unfold maxLen; omega) (by omega)
    obtain ⟨r', c', e1, hr', hlt⟩ := hown.form (by omega)
    subst e1
    unfold Oper.wp
    simp [execOp, hop, resolve, invoke, builtin, hs, hx, hrun, Result.andThen]
    have hes : strs l ++ [.string u] = strs (l ++ [u]) := by simp [strs]
    rw [hes] at hown
    have hown2 := hown
    rcases hown.2 with ⟨e, _⟩ | ⟨g', cap', cur, e, _, hh, hn1, hn2, hn3, hn4⟩
    · cases e
    injection e with e1 _ e3
    injection e1 with e1
    injection e1 with e1 _ _
    subst e1 e3
    refine hK r' 0 c' w' ⟨⟨cur, hh, by omega, fun j hj => ?_⟩, by simpa using hn1, hn2⟩ ⟨hg.os, hg.tape, hg.output, hg.size, fun k hk _ => hg.block k hk (by simp)⟩ (.inr hr') hlt
    have hj' : j < (l.length + 1) * 1 := by simpa using hj
    have : (strs (l ++ [u]))[j]? = cur.toList[j]? := by rw [← hn4, List.getElem?_take, if_pos hj']
    rw [Nat.zero_add]
    have e2 : (strs (l ++ [u]))[j]? = some (.string (l ++ [u])[j]) := by
      unfold strs
      rw [List.getElem?_map, List.getElem?_eq_getElem hj]; rfl
    rw [e2] at this
    simpa using this.symm
end

def hdr (R : Nat → Nat × Nat × Nat) (M : Nat → List ByteArray) (b : Nat) : Value := .slice (some ⟨(R b).1, (R b).2.1, none⟩) (M b).length (R b).2.2
/-- Four rows of texts: their heads lie in block MB. -/
structure MayAt (w : World) (MB : Nat) (R : Nat → Nat × Nat × Nat) (M : Nat → List ByteArray) : Prop where
  head : Blk w MB 36 #[hdr R M 0, hdr R M 1, hdr R M 2, hdr R M 3]
  rows : ∀ b, b < 4 → RowO w (R b).1 (R b).2.1 (R b).2.2 (M b)
  ne : ∀ b, b < 4 → (R b).1 ≠ MB
  dis : ∀ b b', b < 4 → b' < 4 → b ≠ b' → (R b).1 ≠ (R b').1
def Xof (MB : Nat) (R : Nat → Nat × Nat × Nat) : Nat → Prop := fun k => k = MB ∨ ∃ b, b < 4 ∧ k = (R b).1
section
variable {w w' w1 : World} {MB : Nat} {R : Nat → Nat × Nat × Nat} {M : Nat → List ByteArray} {S : Nat → Prop}
theorem MayAt.lt (h : MayAt w MB R M) {k : Nat} (hk : Xof MB R k) : k < w.heap.size := by
  rcases hk with rfl | ⟨b, hb, rfl⟩
  · exact h.head.lt
  · exact (h.rows b hb).lt
theorem MayAt.chg (h : MayAt w MB R M) (k : Chg w w' S) (hn : ∀ i, S i → ¬ Xof MB R i) : MayAt w' MB R M :=
  ⟨h.head.chg k (fun s => hn _ s (.inl rfl)), fun b hb => (h.rows b hb).chg k (fun s => hn _ s (.inr ⟨b, hb, rfl⟩)), h.ne, h.dis⟩
theorem MayAt.new (h : MayAt w MB R M) (k : Below w.heap.size w w') : MayAt w' MB R M := h.chg (Chg.of_new k fun _ => False) (fun _ s => s.elim)
theorem MayAt.drewN (h : MayAt w MB R M) (n : Nat) : MayAt (w.drewN n) MB R M := ⟨h.head, fun b hb => (h.rows b hb).drewN n, h.ne, h.dis⟩
theorem MayAt.cell (h : MayAt w MB R M) {b : Nat} (hb : b < 4) : w.cell? ⟨MB, b, none⟩ = some (hdr R M b) := by
  rw [h.head.cell]
  rcases (by omega : b = 0 ∨ b = 1 ∨ b = 2 ∨ b = 3) with rfl | rfl | rfl | rfl <;> rfl
def updR (R : Nat → Nat × Nat × Nat) (b : Nat) (x : Nat × Nat × Nat) : Nat → Nat × Nat × Nat := fun i => if i = b then x else R i
def updM (M : Nat → List ByteArray) (b : Nat) (l : List ByteArray) : Nat → List ByteArray := fun i => if i = b then l else M i
theorem hdr_set {b : Nat} (hb : b < 4) (r o c : Nat) (l : List ByteArray) : (#[hdr R M 0, hdr R M 1, hdr R M 2, hdr R M 3] : Array Value).setIfInBounds b (.slice (some ⟨r, o, none⟩) l.length c) = #[hdr (updR R b (r, o, c)) (updM M b l) 0, hdr (updR R b (r, o, c)) (updM M b l) 1, hdr (updR R b (r, o, c)) (updM M b l) 2, hdr (updR R b (r, o, c)) (updM M b l) 3] := by
  rcases (by omega : b = 0 ∨ b = 1 ∨ b = 2 ∨ b = 3) with rfl | rfl | rfl | rfl <;> rfl
/-- One row is another. -/
theorem MayAt.set (h : MayAt w MB R M) {b : Nat} (hb : b < 4) (k : Chg w w1 (fun k => k = (R b).1)) {r o c : Nat} {l : List ByteArray} (row : RowO w1 r o c l) (hr : r = (R b).1 ∨ w.heap.size ≤ r) :
    MayAt (w1.setCell ⟨MB, b, none⟩ (.slice (some ⟨r, o, none⟩) l.length c)) MB (updR R b (r, o, c)) (updM M b l) ∧
    Chg w (w1.setCell ⟨MB, b, none⟩ (.slice (some ⟨r, o, none⟩) l.length c)) (Xof MB R) ∧ (∀ i, Xof MB (updR R b (r, o, c)) i → Xof MB R i ∨ w.heap.size ≤ i) := by
  have ks : Chg w1 (w1.setCell ⟨MB, b, none⟩ (.slice (some ⟨r, o, none⟩) l.length c)) (fun k => k = MB) := Chg.set _ _ _ rfl
  have hm : MB < w.heap.size := h.head.lt
  have hrm : r ≠ MB := by
    rcases hr with e | e
    · rw [e]; exact h.ne b hb
    · omega
  refine ⟨⟨?_, fun b' hb' => ?_, fun b' hb' => ?_, fun b1 b2 h1 h2 hne => ?_⟩, (k.weak (fun i hi => .inr ⟨b, hb, hi⟩)).trans (ks.weak (fun i hi => .inl hi)), ?_⟩
  · have h1 := h.head.chg k (fun e => h.ne b hb (by have e' : MB = (R b).1 := e; exact e'.symm))
    have := h1.put b (.slice (some ⟨r, o, none⟩) l.length c)
    rw [hdr_set hb] at this
    exact this
  · by_cases e : b' = b
    · subst e
      have e1 : updR R b' (r, o, c) b' = (r, o, c) := if_pos rfl
      have e2 : updM M b' l b' = l := if_pos rfl
      rw [e1, e2]
      exact row.chg ks hrm
    · have e1 : updR R b (r, o, c) b' = R b' := if_neg e
      have e2 : updM M b l b' = M b' := if_neg e
      rw [e1, e2]
      exact ((h.rows b' hb').chg k (fun e3 => h.dis b' b hb' hb e e3)).chg ks (h.ne b' hb')
  · by_cases e : b' = b
    · subst e
      rw [show updR R b' (r, o, c) b' = (r, o, c) from if_pos rfl]; exact hrm
    · rw [show updR R b (r, o, c) b' = R b' from if_neg e]; exact h.ne b' hb'
  · by_cases e1 : b1 = b
    · subst e1
      rw [show updR R b1 (r, o, c) b1 = (r, o, c) from if_pos rfl, show updR R b1 (r, o, c) b2 = R b2 from if_neg (fun e => hne e.symm)]
      rcases hr with e | e
      · rw [e]; exact h.dis b1 b2 h1 h2 hne
      · have := (h.rows b2 h2).lt
        show r ≠ _
        omega
    · by_cases e2 : b2 = b
      · subst e2
        rw [show updR R b2 (r, o, c) b2 = (r, o, c) from if_pos rfl, show updR R b2 (r, o, c) b1 = R b1 from if_neg e1]
        rcases hr with e | e
        · rw [e]; exact h.dis b1 b2 h1 h2 hne
        · have := (h.rows b1 h1).lt
          show _ ≠ r
          omega
      · rw [show updR R b (r, o, c) b1 = R b1 from if_neg e1, show updR R b (r, o, c) b2 = R b2 from if_neg e2]
        exact h.dis b1 b2 h1 h2 hne
  · rintro i (rfl | ⟨b', hb', rfl⟩)
    · exact .inl (.inl rfl)
    · by_cases e : b' = b
      · subst e
        rw [show updR R b' (r, o, c) b' = (r, o, c) from if_pos rfl]
        rcases hr with e | e
        · exact .inl (.inr ⟨b', hb', e⟩)
        · exact .inr e
      · rw [show updR R b (r, o, c) b' = R b' from if_neg e]
        exact .inl (.inr ⟨b', hb', rfl⟩)
end

/-! What the rows say of the disk. -/
def bd (d : Dk) (b : Nat) : ByteArray := ⟨(d.blocks.getD b []).toArray⟩
structure Sem (d : Dk) (M : Nat → List ByteArray) : Prop where
  blk : ∀ b, b < 4 → bd d b ∈ M b
  lin : ∀ q ∈ d.line, (⟨q.text.toArray⟩ : ByteArray) ∈ M q.block
  lst : ∀ b, b < 4 → (M b).getLast? = some ⟨(see d b).toArray⟩
theorem Sem.same {d d' : Dk} {M : Nat → List ByteArray} (h : Sem d M) (e1 : d'.blocks = d.blocks) (e2 : d'.line = d.line) : Sem d' M := by
  refine ⟨fun b hb => ?_, fun q hq => h.lin q (by rw [← e2]; exact hq), fun b hb => ?_⟩
  · unfold bd; rw [e1]; exact h.blk b hb
  · unfold see; rw [e1, e2]; exact h.lst b hb
theorem Sem.pos {d : Dk} {M : Nat → List ByteArray} (h : Sem d M) {b : Nat} (hb : b < 4) : 0 < (M b).length := List.length_pos_of_mem (h.blk b hb)
theorem Sem.laid {d : Dk} {M : Nat → List ByteArray} (h : Sem d M) (b : Nat) (s : ByteArray) : Sem (laid d b s.data.toList) (updM M b (M b ++ [s])) := by
  refine ⟨fun b' hb' => ?_, fun q hq => ?_, fun b' hb' => ?_⟩
  · unfold updM
    by_cases e : b' = b
    · subst e; rw [if_pos rfl]; exact List.mem_append_left _ (h.blk b' hb')
    · rw [if_neg e]; exact h.blk b' hb'
  · unfold updM
    rcases List.mem_append.1 hq with h1 | h1
    · by_cases e : q.block = b
      · rw [if_pos e]; exact List.mem_append_left _ (by rw [← e]; exact h.lin q h1)
      · rw [if_neg e]; exact h.lin q h1
    · rw [List.mem_singleton.1 h1, if_pos rfl, text_back]; simp
  · unfold updM
    rw [see_laid]
    by_cases e : b' = b
    · subst e; rw [if_pos rfl, if_pos rfl, text_back]; simp
    · rw [if_neg e, if_neg (fun e' => e e'.symm)]; exact h.lst b' hb'
theorem seen_or (l : List Wr) (b : Nat) (t : List UInt8) : seen l b t = t ∨ ∃ q ∈ l, q.block = b ∧ q.text = seen l b t := by
  induction l generalizing t with
  | nil => exact .inl rfl
  | cons q l ih =>
    have e : seen (q :: l) b t = seen l b (if q.block = b then q.text else t) := rfl
    rw [e]
    rcases ih (if q.block = b then q.text else t) with h1 | ⟨q', h1, h2, h3⟩
    · by_cases hq : q.block = b
      · rw [if_pos hq] at h1 ⊢
        exact .inr ⟨q, by simp, hq, h1.symm⟩
      · rw [if_neg hq] at h1 ⊢
        exact .inl h1
    · exact .inr ⟨q', by simp [h1], h2, h3⟩
theorem Sem.settled {d : Dk} {M : Nat → List ByteArray} (h : Sem d M) (n4 : d.blocks.length = 4) (k : Nat) {b : Nat} (hb : b < 4) : bd (settleR d k) b ∈ M b := by
  unfold bd
  show (⟨((put d.blocks (d.line.take k)).getD b []).toArray⟩ : ByteArray) ∈ M b
  rw [put_get _ _ _ (by omega)]
  rcases seen_or (d.line.take k) b (d.blocks.getD b []) with e | ⟨q, hq, e1, e2⟩
  · rw [e]; exact h.blk b hb
  · rw [← e2, ← e1]; exact h.lin q (List.mem_of_mem_take hq)
theorem Sem.sync {d : Dk} {M : Nat → List ByteArray} (h : Sem d M) (n4 : d.blocks.length = 4) {N : Nat → List ByteArray} (hN : ∀ b, b < 4 → ∃ x, (M b).getLast? = some x ∧ N b = [x]) : Sem (settleR d d.line.length) N := by
  have hs : ∀ b, b < 4 → bd (settleR d d.line.length) b = ⟨(see d b).toArray⟩ := by
    intro b hb
    unfold bd
    show (⟨((put d.blocks (d.line.take d.line.length)).getD b []).toArray⟩ : ByteArray) = _
    rw [List.take_length, put_get _ _ _ (by omega)]; rfl
  have hx : ∀ b, b < 4 → N b = [⟨(see d b).toArray⟩] := by
    intro b hb
    obtain ⟨x, h1, h2⟩ := hN b hb
    rw [h.lst b hb] at h1
    injection h1 with h1
    rw [h2, h1]
  refine ⟨fun b hb => ?_, fun q hq => (by cases hq), fun b hb => ?_⟩
  · rw [hx b hb, hs b hb]; simp
  · rw [hx b hb, see_settle b (by omega)]; rfl
theorem Sem.reset {d : Dk} {N : Nat → List ByteArray} (hl : d.line = []) (hN : ∀ b, b < 4 → N b = [bd d b]) : Sem d N := by
  refine ⟨fun b hb => ?_, fun q hq => (by rw [hl] at hq; cases hq), fun b hb => ?_⟩
  · rw [hN b hb]; simp
  · rw [hN b hb]
    unfold see
    rw [hl]; rfl
theorem sem0 : Sem four0 (fun _ => [⟨zeros.toArray⟩]) := by
  refine Sem.reset four0_line (fun b hb => ?_)
  unfold bd
  rw [four0_blocks]
  simp only [List.getD_eq_getElem?_getD, List.getElem?_replicate, if_pos hb, Option.getD_some]

theorem write_ways (d : Dk) (env a : Int) (s : List UInt8) : (∃ k : Nat, a = (k : Int) ∧ k < d.blocks.length ∧ s.length = 256 ∧ writeR d env a s = (laid d k s, 0)) ∨ ((writeR d env a s).2 ≠ 0 ∧ (writeR d env a s).1.blocks = d.blocks ∧ (writeR d env a s).1.line = d.line) := by
  unfold writeR
  by_cases he : askE d env a = 0
  · rw [if_pos he]
    by_cases hs : s.length = 256
    · rw [if_pos hs]
      by_cases h0 : d.armed = 0
      · rw [if_pos h0]
        exact .inr ⟨by show (30 : Int) ≠ 0; decide, rfl, rfl⟩
      · rw [if_neg h0]
        obtain ⟨_, k, e, hk, _⟩ := askE_zero he
        exact .inl ⟨k, e, hk, hs, by rw [e, Int.toNat_natCast]⟩
    · rw [if_neg hs]
      exact .inr ⟨by show (1 : Int) ≠ 0; decide, rfl, rfl⟩
  · rw [if_neg he]
    exact .inr ⟨he, rfl, rfl⟩
theorem other_ways (d : Dk) (c : Cmd) (h2 : c.kind ≠ 2) (h3 : c.kind ≠ 3) (h6 : c.kind ≠ 6) : (doD d c).1.blocks = d.blocks ∧ (doD d c).1.line = d.line := by
  unfold doD
  split
  · unfold grantR
    split
    · exact ⟨rfl, rfl⟩
    · split
      · exact ⟨rfl, rfl⟩
      · exact ⟨rfl, rfl⟩
  split
  · exact ⟨rfl, rfl⟩
  split
  · exact ⟨rfl, rfl⟩
  split
  · exact ⟨rfl, rfl⟩
  exact ⟨rfl, rfl⟩
end Go.Proofs.Ytdnlhfoninhcaaa
