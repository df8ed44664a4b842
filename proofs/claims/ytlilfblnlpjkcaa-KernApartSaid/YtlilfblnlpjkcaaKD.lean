/- A slice of texts that begins anywhere in its block: append of one, cut ahead; beside a kernel it bears the label 9. Conditions: those that each states. -/
import Derived.Test.YtlilfblnlpjkcaaKC
import Derived.ArgAppend
namespace Go.Proofs.Ytlilfblnlpjkcaa.Ke
open Go.ChangeShapes Go.WideShapes Go.ChangeAt Go.RowKit Go.Deep Fr Di
set_option linter.unusedVariables false
theorem str_infos : (Try.prog.info? 9).map (fun i => (i.zero, i.size, i.bytes)) = some (some (.string ⟨#[]⟩), 1, 16) := by kernel_rfl
theorem s_info : ∃ i0, Try.prog.info? 9 = some i0 ∧ i0.zero = some (.string ⟨#[]⟩) ∧ i0.size = 1 ∧ i0.bytes = 16 := by
  obtain ⟨i, hi, hs⟩ := Option.map_eq_some_iff.1 str_infos
  simp only [Prod.mk.injEq] at hs
  exact ⟨i, hi, hs.1, hs.2.1, hs.2.2⟩
def strs (l : List ByteArray) : List Value := l.map .string
theorem strs_len (l : List ByteArray) : (strs l).length = l.length := by simp [strs]
theorem strs_one (l : List ByteArray) : ∀ u ∈ strs l, u.oneCell' = true := by
  intro u hu
  obtain ⟨s, _, rfl⟩ := List.mem_map.1 hu
  rfl
/-- Texts that lie one behind the other in block r from place o on; c of them have room. -/
structure RowO (w : World) (r o c : Nat) (l : List ByteArray) : Prop where
  ex : ∃ cs : Array Value, Blk w r 9 cs ∧ o + c ≤ cs.size ∧ ∀ j (h : j < l.length), cs[o + j]? = some (.string l[j])
  le : l.length ≤ c
  mx : c ≤ maxLen
section
variable {w w' : World} {r o c : Nat} {l : List ByteArray} {S : Nat → Prop}
theorem RowO.lt (h : RowO w r o c l) : r < w.heap.size := by obtain ⟨cs, b, _⟩ := h.ex; exact b.lt
theorem RowO.chg (h : RowO w r o c l) (k : Chg w w' S) (hn : ¬ S r) : RowO w' r o c l := by
  obtain ⟨cs, b, h1, h2⟩ := h.ex
  exact ⟨⟨cs, b.chg k hn, h1, h2⟩, h.le, h.mx⟩
theorem RowO.new (h : RowO w r o c l) (k : Below w.heap.size w w') : RowO w' r o c l := h.chg (Chg.of_new k fun _ => False) id
theorem RowO.drewN (h : RowO w r o c l) (n : Nat) : RowO (w.drewN n) r o c l := ⟨h.ex, h.le, h.mx⟩
theorem RowO.cell (h : RowO w r o c l) {j : Nat} (hj : j < l.length) : w.cell? ⟨r, o + j, none⟩ = some (.string l[j]) := by
  obtain ⟨cs, b, _, h2⟩ := h.ex
  rw [b.cell, h2 j hj]
/-- append of one, as one step. -/
theorem wp_append_off {op : Oper} {a : Act} {K : Act → World → Prop} {Q : Exit → Act → World → Prop} (s x : Operand) (hop : op.op = Op.call { callee := Callee.builtin Builtin.append, args := #[s, x], argTypes := #[65, 65] })
    (h : RowO w r o c l) (hs : a.eval s = .slice (some ⟨r, o, none⟩) l.length c) (q : Nat) (u : ByteArray) (hx : a.eval x = .slice (some ⟨q, 0, none⟩) 1 1) (hq : w.cell? ⟨q, 0, none⟩ = some (.string u)) (hl : l.length ≤ 1000000)
    (hK : ∀ r' o' c' w', RowO w' r' o' c' (l ++ [u]) → Chg w w' (fun k => k = r) → (r' = r ∨ w.heap.size ≤ r') → r' < w'.heap.size → K (a.put op.dst (.slice (some ⟨r', o', none⟩) (l.length + 1) c')) w') : op.wp Try.prog a w K Q := by
  obtain ⟨i, hi, hz, hsz, hby⟩ := s_info
  obtain ⟨cs, hb, h1, h2⟩ := h.ex
  have hle := h.le
  have hmx := h.mx
  have hnews : ∀ j v, ([Value.string u] : List Value)[j]? = some v → w.cell? ((⟨q, 0, none⟩ : Addr).add j) = some v := by
    intro j v hj
    match j, hj with
    | 0, hj =>
      simp at hj
      subst hj
      have ea : (⟨q, 0, none⟩ : Addr).add 0 = ⟨q, 0, none⟩ := by unfold Addr.add; split <;> simp_all
      rw [ea, hq]
  by_cases hr : l.length + 1 ≤ c
  · have hcell : (w.cell? ⟨r, o + l.length, none⟩).isSome = true := by rw [hb.cell, Array.getElem?_eq_getElem (by omega)]; rfl
    have hrun := run_append_room_cells (P := Try.prog) w 65 op.type 9 i Try.underlying65 hi r o l.length c ⟨q, 0, none⟩ 1 1 [.string u] (by simp [hsz]) hnews (by simp; rfl) hr
      (fun j hj => by
        have h0 : j = 0 := by simpa using hj
        subst h0
        rw [hsz]
        simpa using hcell) (fun j hj => hb.frozen _)
    unfold Oper.wp
    simp [execOp, hop, resolve, invoke, builtin, hs, hx, hrun, Result.andThen]
    have hput := hb.put (o + l.length) (.string u)
    have ew : w.setCells r (o + l.length * i.size) [.string u] = w.setCell ⟨r, o + l.length, none⟩ (.string u) := by rw [hsz, Nat.mul_one]; rfl
    rw [ew]
    refine hK r o c _ ⟨⟨_, hput, by simpa using h1, fun j hj => ?_⟩, by simpa using hr, hmx⟩ (Chg.set _ _ _ rfl) (.inl rfl) (by have := hb.lt; simpa [World.setCell] using this)
    rw [Array.getElem?_setIfInBounds]
    by_cases e : j = l.length
    · subst e
      rw [if_pos rfl, if_pos (by omega)]; simp
    · have hj1 : j < l.length + 1 := by simpa using hj
      have hj' : j < l.length := by omega
      rw [if_neg (by omega), h2 j hj', List.getElem_append_left hj']
  · have hlo : (strs l).length = l.length * 1 := by rw [strs_len, Nat.mul_one]
    obtain ⟨v', w', hrun, hown, hg⟩ := run_append_arg_grows (P := Try.prog) w 65 op.type 9 i (.string ⟨#[]⟩) 1 16 Try.underlying65 hi hz hsz hby rfl (by decide) ⟨r, o, none⟩ l.length c (strs l) hlo
      (fun j u' hj => by
        obtain ⟨hj1, e⟩ := List.getElem?_eq_some_iff.1 hj
        rw [strs_len] at hj1
        have ea : (⟨r, o, none⟩ : Addr).add j = ⟨r, o + j, none⟩ := by unfold Addr.add; split <;> simp_all
        rw [ea, hb.cell, h2 j hj1, ← e]
        simp [strs]) ⟨q, 0, none⟩ 1 1 [.string u] rfl hnews (by omega) (by unfold maxLen; omega) (by omega)
    obtain ⟨r', c', e1, hr', hlt⟩ := hown.form (by omega)
    subst e1
    unfold Oper.wp
    simp [execOp, hop, resolve, invoke, builtin, hs, hx, hrun, Result.andThen]
    have hes : strs l ++ [.string u] = strs (l ++ [u]) := by simp [strs]
    rw [hes] at hown
    have hown2 := hown
    rcases hown.2 with ⟨e, _⟩ | ⟨g', cap', cur, e, _, hh, hn1, hn2, hn3, hn4⟩
    · cases e
    injection e with e1 _ e3
    injection e1 with e1
    injection e1 with e1 _ _
    subst e1 e3
    refine hK r' 0 c' w' ⟨⟨cur, hh, by omega, fun j hj => ?_⟩, by simpa using hn1, hn2⟩ ⟨hg.os, hg.tape, hg.output, hg.size, fun k hk _ => hg.block k hk (by simp)⟩ (.inr hr') hlt
    have hj' : j < (l.length + 1) * 1 := by simpa using hj
    have : (strs (l ++ [u]))[j]? = cur.toList[j]? := by rw [← hn4, List.getElem?_take, if_pos hj']
    rw [Nat.zero_add]
    have e2 : (strs (l ++ [u]))[j]? = some (.string (l ++ [u])[j]) := by
      unfold strs
      rw [List.getElem?_map, List.getElem?_eq_getElem hj]; rfl
    rw [e2] at this
    simpa using this.symm
end


theorem RowO.tail {w : World} {r o c : Nat} {x : ByteArray} {l : List ByteArray} (h : RowO w r o c (x :: l)) : RowO w r (o + 1) (c - 1) l := by
  obtain ⟨cs, b, h1, h2⟩ := h.ex
  have hle := h.le
  rw [List.length_cons] at hle
  refine ⟨⟨cs, b, by omega, fun j hj => ?_⟩, by omega, by have := h.mx; omega⟩
  have := h2 (j + 1) (by simpa using hj)
  rw [show o + 1 + j = o + (j + 1) by omega, this]
  rfl
/-- The texts that came, beside a kernel. -/
def CameAt (w : World) (lab : Nat → Nat) (A : Option Addr) (c : Nat) (l : List ByteArray) : Prop := (A = none ∧ c = 0 ∧ l = []) ∨ ∃ r o, A = some ⟨r, o, none⟩ ∧ RowO w r o c l ∧ lab r = 9
theorem CameAt.none_left {w : World} {lab : Nat → Nat} {r o c : Nat} {l : List ByteArray} (h : CameAt w lab (some ⟨r, o + 1, none⟩) c l) (hc : c = 0) : l = [] ∧ CameAt w lab (some ⟨r, o, none⟩) 0 [] := by
  rcases h with ⟨h, _⟩ | ⟨r', o', e, h, h9⟩
  · cases h
  · cases e
    have hle := h.le
    have hl : l = [] := List.length_eq_zero_iff.1 (by omega)
    subst hl
    obtain ⟨cs, b, h1, h2⟩ := h.ex
    exact ⟨rfl, .inr ⟨r, o, rfl, ⟨⟨cs, b, by omega, fun j hj => absurd hj (by simp)⟩, Nat.le_refl _, by unfold maxLen; omega⟩, h9⟩⟩
def mark9 (lab : Nat → Nat) (r : Nat) : Nat → Nat := fun i => if i = r then 9 else lab i
theorem CameAt.step {w w' : World} {lab lab' : Nat → Nat} {A : Option Addr} {c : Nat} {l : List ByteArray} (h : CameAt w lab A c l) (L : LStep w w' lab lab') : CameAt w' lab' A c l := by
  rcases h with h | ⟨r, o, e, h, h9⟩
  · exact .inl h
  · exact .inr ⟨r, o, e, h.chg L.chg (fun hs => by omega), (L.keep r (by omega)).trans h9⟩
theorem CameAt.new {w w' : World} {lab : Nat → Nat} {A : Option Addr} {c : Nat} {l : List ByteArray} (h : CameAt w lab A c l) (k : Below w.heap.size w w') : CameAt w' lab A c l := h.step (LStep.news lab k)
theorem CameAt.tail {w : World} {lab : Nat → Nat} {A : Option Addr} {c : Nat} {x : ByteArray} {l : List ByteArray} (h : CameAt w lab A c (x :: l)) : ∃ r o, A = some ⟨r, o, none⟩ ∧ w.cell? ⟨r, o, none⟩ = some (.string x) ∧ 1 ≤ c ∧ CameAt w lab (some ⟨r, o + 1, none⟩) (c - 1) l := by
  rcases h with ⟨_, _, h⟩ | ⟨r, o, e, h, h9⟩
  · cases h
  · have hle := h.le
    rw [List.length_cons] at hle
    exact ⟨r, o, e, h.cell (j := 0) (by simp), by omega, .inr ⟨r, o + 1, rfl, h.tail, h9⟩⟩
section
variable {w w' : World} {lab : Nat → Nat} {g : Nat} {K : Kn} {a : Ad}
theorem KAt.row9 (h : KAt w lab g K a) (k : Chg w w' (fun i => lab i = 9)) (r : Nat) (hr : lab r = 9 ∨ w.heap.size ≤ r) (hlt : r < w'.heap.size) : KAt w' (mark9 lab r) g K a := by
  obtain ⟨q1, q2, q3, q4, q5, q6, q7, _⟩ := h.keep (m := 9) k (by omega)
  have h0 : ∀ i, i ≠ r → mark9 lab r i = lab i := fun i hi => by unfold mark9; rw [if_neg hi]
  have hr9 : mark9 lab r r = 9 := by unfold mark9; rw [if_pos rfl]
  have ne : ∀ i, lab i ≠ 0 → lab i ≠ 9 → i ≠ r := by
    rintro i h1 h2 rfl
    rcases hr with hr | hr
    · exact h2 hr
    · have := h.all i h1; omega
  have hs : Step w w' (on lab) (on (mark9 lab r)) := ⟨k.weak (fun i hi => by show lab i ≠ 0; omega), fun i hi => by
    by_cases e : i = r
    · subst e
      rcases hr with hr | hr
      · exact .inl (by show lab i ≠ 0; omega)
      · exact .inr hr
    · have : mark9 lab r i ≠ 0 := hi
      rw [h0 i e] at this
      exact .inl this⟩
  have h3 : (fun i => mark9 lab r i = 3) = (fun i => lab i = 3) := by
    funext i
    by_cases e : i = r
    · subst e
      rw [hr9]
      rcases hr with hr | hr
      · simp [hr]
      · have hz : lab i ≠ 3 := fun hh => by have := h.all i (by omega); omega
        simp [hz]
    · rw [h0 i e]
  have lb : ∀ i m, lab i = m → m ≠ 0 → m ≠ 9 → mark9 lab r i = m := fun i m e h1 h2 => by rw [h0 i (ne i (by omega) (by omega))]; exact e
  exact ⟨q1 (by omega), q2 (by omega), by rw [h3]; exact q3 (by omega), q4 (by omega), h.fil.weak (fun _ _ _ h => h.step hs), q5 (by omega), h.p1.weak (fun _ _ _ h => h.step hs), q6 (by omega), h.p2.weak (fun _ _ _ h => h.step hs), q7 (by omega), h.p3.weak (fun _ _ _ h => h.step hs),
    lb _ _ h.lg (by omega) (by omega), lb _ _ h.lt1 (by omega) (by omega), lb _ _ h.lt2 (by omega) (by omega), fun b hb => lb _ _ (h.lr b hb) (by omega) (by omega), lb _ _ h.l11 (by omega) (by omega), lb _ _ h.l12 (by omega) (by omega), lb _ _ h.l21 (by omega) (by omega), lb _ _ h.l22 (by omega) (by omega), lb _ _ h.l31 (by omega) (by omega), lb _ _ h.l32 (by omega) (by omega), fun i hi => by
      by_cases e : i = r
      · rw [e]; exact hlt
      · rw [h0 i e] at hi
        exact Nat.lt_of_lt_of_le (h.all i hi) k.size⟩
theorem KB.row9 {B : Nat} (h : KB B w lab g K) (hB : B ≤ w.heap.size) (k : Chg w w' (fun i => lab i = 9)) (r : Nat) (hr : lab r = 9 ∨ w.heap.size ≤ r) (hlt : r < w'.heap.size) : KB B w' (mark9 lab r) g K ∧ Below B w w' := by
  obtain ⟨a, ha⟩ := h.ka
  refine ⟨⟨⟨a, ha.row9 k r hr hlt⟩, fun i => ?_, fun i hi => ?_, h.ok⟩, k.below hB (fun i hi => h.ge i (by have : lab i = 9 := hi; omega))⟩
  · unfold mark9
    split
    · omega
    · exact h.n8 i
  · unfold mark9 at hi
    split at hi
    · rename_i e
      subst e
      rcases hr with hr | hr
      · exact h.ge i (by omega)
      · omega
    · exact h.ge i hi
end
theorem KB.left {B : Nat} {w w' : World} {lab : Nat → Nat} {g : Nat} {K K' : Kn} (h : KB B w lab g K) (l : Left w w' lab g K') (ok : K'.Ok) (hB : B ≤ w.heap.size) : ∃ lab', KB B w' lab' g K' ∧ LStep w w' lab lab' ∧ Below B w w' := by
  obtain ⟨lab', ⟨a, ha⟩, L⟩ := l
  have L2 : LStep w w' lab (off8 lab') := ⟨L.chg, fun k hk => L.old k (fun e => hk (by unfold off8; rw [e]; rfl)), fun k hk => by
    have e := L.keep k hk
    have h8 := h.n8 k
    show off8 lab' k = lab k
    unfold off8
    rw [if_neg (by omega)]
    exact e⟩
  obtain ⟨k1, k2⟩ := h.step ⟨a, ha.unmark⟩ L2 (off8_ne lab') ok hB
  exact ⟨off8 lab', k1, L2, k2⟩
theorem arrive_kb {B : Nat} {w : World} {lab : Nat → Nat} {g : Nat} {K : Kn} (h : KB B w lab g K) (hB : B ≤ w.heap.size) (n : Nat) (sm : K.Small n) (hn : n < 1000000) (A : Option Addr) (c : Nat) (s : List UInt8) (hs : Src w A s.length c s) :
    Calls Try.prog 14 #[.pointer (some ⟨g, 0, none⟩), .slice A s.length c] w fun e w' => e = .returned (.tuple #[.int .i64 (arriveR K s).2.1, .int .i64 (arriveR K s).2.2]) ∧ ∃ lab', KB B w' lab' g (arriveR K s).1 ∧ LStep w w' lab lab' ∧ Below B w w' :=
  (arrive_any h.ka h.ok n sm hn A c s hs).mono fun e w' ⟨he, l⟩ => ⟨he, h.left l (ok_arrive h.ok s) hB⟩
theorem depart_kb {B : Nat} {w : World} {lab : Nat → Nat} {g : Nat} {K : Kn} (h : KB B w lab g K) (hB : B ≤ w.heap.size) (n : Nat) (sm : K.Small n) (hn : n < 1000000) :
    Calls Try.prog 11 #[.pointer (some ⟨g, 0, none⟩)] w fun e w' => ∃ A c, e = .returned (.tuple #[.slice A (departR K).2.1.length c, .int .i64 (departR K).2.2.1, .int .i64 (departR K).2.2.2]) ∧ ∃ lab', KB B w' lab' g (departR K).1 ∧ LStep w w' lab lab' ∧ Below B w w' :=
  (depart_any h.ka h.ok n sm hn).mono fun e w' ⟨A, c, he, l, _⟩ => ⟨A, c, he, h.left l (ok_depart h.ok) hB⟩
theorem RowO.of_row {w : World} {B r o c n : Nat} {l : List ByteArray} (h : w.ownsRow B 9 1 (.slice (some ⟨r, o, none⟩) n c) n (strs l)) : o = 0 ∧ B ≤ r ∧ r < w.heap.size ∧ RowO w r o c l := by
  rcases h.2 with ⟨e, _⟩ | ⟨g', cap', cur, e, hg, hh, hn1, hn2, hn3, hn4⟩
  · cases e
  injection e with e1 e2 e3
  injection e1 with e1
  injection e1 with e1 e4 _
  subst e1 e3 e4
  have hl : l.length = n := by have := h.1; rw [strs_len] at this; omega
  subst hl
  refine ⟨rfl, hg, (Array.getElem?_eq_some_iff.1 hh).1, ⟨⟨cur, hh, by omega, fun j hj => ?_⟩, by omega, hn2⟩⟩
  have hj' : j < l.length * 1 := by omega
  have : (strs l)[j]? = cur.toList[j]? := by rw [← hn4, List.getElem?_take, if_pos hj']
  rw [Nat.zero_add]
  have e2 : (strs l)[j]? = some (.string l[j]) := by
    unfold strs
    rw [List.getElem?_map, List.getElem?_eq_getElem hj]; rfl
  rw [e2] at this
  simpa using this.symm
/-- A variable is laid, the world that it leaves under a letter. -/
theorem wpList_alloc_any {P : Program} {ops : Array Oper} {rest : List Oper} {o : Oper} {a : Act} {w : World} {Q : Exit → Act → World → Prop} (hgd : o.guard = none) (t : TypeId) (ho : o.op = .alloc t) (cells : Array Value) (hi : (P.info? t).map (fun i => (i.zero.map (·.cells))) = some (some cells))
    (h : ∀ w', Blk w' w.heap.size t cells → Below w.heap.size w w' → wpList P ops Q rest (a.put o.dst (.pointer (some ⟨w.heap.size, 0, none⟩))) w') : wpList P ops Q (o :: rest) a w := by
  obtain ⟨i, hi', hz'⟩ := Option.map_eq_some_iff.1 hi
  obtain ⟨z, hz, hc⟩ := Option.map_eq_some_iff.1 hz'
  refine wpList_plain hgd fun K hK => ?_
  have hrun : (Instr.alloc t true (.tuple #[])).run P w = .ok (.pointer (some ⟨w.heap.size, 0, none⟩)) (w.alloc (.cells z.cells t)) := by
    simp [Instr.alloc, zeroValue, typeInfo, hi', hz, newVar, newRow]
  unfold Oper.wp execOp
  simp only [ho, Sem.run_bind, hrun, Result.andThen_ok, Sem.run_pure]
  exact hK _ _ (h _ (by rw [← hc]; exact Blk.new w t _) ((Below.refl _ w).alloc (Nat.le_refl _) _))
/-- A whole struct is stored over a block of its size, the world that it leaves under a letter. -/
theorem wpList_store_any {P : Program} {ops : Array Oper} {rest : List Oper} {o : Oper} {a : Act} {w : World} {Q : Exit → Act → World → Prop} (hgd : o.guard = none) (ty : TypeId) (x y : Operand) (ho : o.op = .store ty x y)
    (g : Nat) (cells : Array Value) (hx : a.eval x = .pointer (some ⟨g, 0, none⟩)) (hy : a.eval y = .agg cells) (t : TypeId) (old : Array Value) (hg : Blk w g t old) (hi : (P.info? ty).map (·.size) = some cells.size)
    (hold : old.size = cells.size) (h1 : cells.all (·.oneCell') = true)
    (h : ∀ w', Blk w' g t cells → Chg w w' (fun k => k = g) → wpList P ops Q rest (a.put o.dst undef) w') : wpList P ops Q (o :: rest) a w :=
  wpList_store_row hgd ty x y ho g cells hx hy t old hg hi hold h1 (h _ (hg.row _) (Chg.setRow w cells rfl))
theorem rcallz : (Try.prog.info? 44).map (fun i => (i.zero.map (·.cells))) = some (some #[.int .i64 0, .int .i64 0, .int .i64 0, .int .i64 0, .int .i64 0, .string ⟨#[]⟩, .slice none 0 0, .slice none 0 0]) := by kernel_rfl
theorem kc_one (q : KC) : q.list.toArray.all (·.oneCell') = true := by simp [KC.list, Value.oneCell']
/-- append of one text. -/
theorem wpList_came {ops : Array Oper} {rest : List Oper} {op : Oper} {a : Act} {Q : Exit → Act → World → Prop} {w : World} {lab : Nat → Nat} (hgd : op.guard = none) (s x : Operand)
    (hop : op.op = Op.call { callee := Callee.builtin Builtin.append, args := #[s, x], argTypes := #[65, 65] }) {A : Option Addr} {c : Nat} {l : List ByteArray} (h : CameAt w lab A c l) (hs : a.eval s = .slice A l.length c)
    (q : Nat) (u : ByteArray) (hx : a.eval x = .slice (some ⟨q, 0, none⟩) 1 1) (hq : w.cell? ⟨q, 0, none⟩ = some (.string u)) (hl : l.length ≤ 100000)
    (hK : ∀ r o c' w', RowO w' r o c' (l ++ [u]) → Chg w w' (fun i => lab i = 9) → (lab r = 9 ∨ w.heap.size ≤ r) → r < w'.heap.size → wpList Try.prog ops Q rest (a.put op.dst (.slice (some ⟨r, o, none⟩) (l.length + 1) c')) w') :
    wpList Try.prog ops Q (op :: rest) a w := by
  rcases h with ⟨rfl, rfl, rfl⟩ | ⟨r, o, rfl, h, h9⟩
  · have hnews : ∀ j v, ([Value.string u] : List Value)[j]? = some v → w.cell? ((⟨q, 0, none⟩ : Addr).add j) = some v := by
      intro j v hj
      match j, hj with
      | 0, hj =>
        simp at hj
        subst hj
        have ea : (⟨q, 0, none⟩ : Addr).add 0 = ⟨q, 0, none⟩ := by unfold Addr.add; split <;> simp_all
        rw [ea, hq]
    refine wpList_append_row hgd s x hop Try.underlying65 (.string ⟨#[]⟩) 16 rfl (by decide) str_infos (xs := []) hs (Row.nil w w.heap.size _) (Nat.le_refl _) ⟨q, 0, none⟩ 1 1 [.string u] hx rfl hnews (fun v hv => by rw [List.mem_singleton.1 hv]; rfl) (by simp) ?_
    intro A' c2 w' hrow hk hat
    have hown := hrow.own
    cases A' with
    | none =>
      have := (hrow.none_).1
      cases this
    | some ad =>
      obtain ⟨r, o, f⟩ := ad
      have hf : f = none := by
        rcases hown.2 with ⟨e, _⟩ | ⟨g', cap', cur, e, _⟩
        · cases e
        · injection e with e1; injection e1 with e1; injection e1
      subst hf
      have hown' : w'.ownsRow w.heap.size 9 1 (.slice (some ⟨r, o, none⟩) 1 c2) 1 (strs [u]) := hown
      obtain ⟨rfl, h1, h2, h3⟩ := RowO.of_row hown'
      exact hK r 0 c2 w' h3 (hk.weak (fun i hi => by simp [Value.ownBlock] at hi)) (.inr h1) h2
  · refine wpList_plain hgd fun K hK' => ?_
    refine wp_append_off s x hop h hs q u hx hq (by omega) (fun r' o' c' w' h1 h2 h3 h4 => hK' _ _ (hK r' o' c' w' h1 (h2.weak (fun i hi => by rw [hi]; exact h9)) ?_ h4))
    rcases h3 with rfl | h3
    · exact .inl h9
    · exact .inr h3
end Go.Proofs.Ytlilfblnlpjkcaa.Ke
