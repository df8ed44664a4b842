/- GENERIC: a row of elements of any size that its owner grows, cuts ahead and writes; it may begin anywhere in its block. Conditions: those that each states. -/
import Derived.Test.YtldmcoagjgeeoaaRk0
import Derived.Test.YtldmcoagjgeeoaaSto
import Derived.ArgAppend
import Derived.Deep.Upon
import Derived.Maps.AppendAt
namespace Go.Proofs.Ytldmcoagjgeeoaa.Rv
open Go.ChangeShapes Go.WideShapes Go.ChangeAt Go.RowKit Go.Deep Rk
set_option linter.unusedVariables false
set_option linter.unusedSimpArgs false

structure RowV (w : World) (E : TypeId) (sz : Nat) (A : Option Addr) (n c : Nat) (xs : List Value) : Prop where
  len : xs.length = n * sz
  le : n ≤ c
  mx : c ≤ maxLen
  none_ : A = none → c = 0
  at_ : ∀ a, A = some a → a = ⟨a.block, a.off, none⟩ ∧ ∃ cs : Array Value, Blk w a.block E cs ∧ a.off + c * sz ≤ cs.size ∧ ∀ j (h : j < xs.length), cs[a.off + j]? = some xs[j]
/-- The block of a row. -/
def inR (A : Option Addr) : Nat → Prop := fun k => ∃ a, A = some a ∧ k = a.block
section
variable {w w' : World} {E : TypeId} {sz n c : Nat} {A : Option Addr} {xs : List Value} {S : Nat → Prop}
theorem RowV.chg (h : RowV w E sz A n c xs) (k : Chg w w' S) (hn : ∀ a, A = some a → ¬ S a.block) : RowV w' E sz A n c xs :=
  ⟨h.len, h.le, h.mx, h.none_, fun a e => by
    obtain ⟨h1, cs, b, h2, h3⟩ := h.at_ a e
    exact ⟨h1, cs, b.chg k (hn a e), h2, h3⟩⟩
theorem RowV.lt (h : RowV w E sz A n c xs) : ∀ a, A = some a → a.block < w.heap.size := fun a e => by
  obtain ⟨_, cs, b, _⟩ := h.at_ a e
  exact b.lt
theorem RowV.new (h : RowV w E sz A n c xs) (k : Below w.heap.size w w') : RowV w' E sz A n c xs := h.chg (Chg.of_new k fun _ => False) (fun _ _ => id)
theorem RowV.drewN (h : RowV w E sz A n c xs) (m : Nat) : RowV (w.drewN m) E sz A n c xs := ⟨h.len, h.le, h.mx, h.none_, h.at_⟩
theorem RowV.drew (h : RowV w E sz A n c xs) : RowV w.drew E sz A n c xs := ⟨h.len, h.le, h.mx, h.none_, h.at_⟩
theorem RowV.nil (w : World) (E : TypeId) (sz : Nat) : RowV w E sz none 0 0 [] := ⟨by simp, Nat.le_refl _, Nat.zero_le _, fun _ => rfl, fun a e => by cases e⟩
theorem RowV.toG (h : RowV w E sz A n c xs) : RowG w sz A n c xs :=
  ⟨h.len, h.le, h.mx, fun e => by have := h.none_ e; have := h.le; omega, fun a e _ => by
    obtain ⟨h1, cs, b, h2, h3⟩ := h.at_ a e
    exact ⟨h1, b.lt, fun j hj => by rw [b.cell]; exact h3 j hj⟩⟩
theorem RowV.cell (h : RowV w E sz A n c xs) {j : Nat} (hj : j < xs.length) : ∃ b o, A = some ⟨b, o, none⟩ ∧ b < w.heap.size ∧ w.cell? ⟨b, o + j, none⟩ = some xs[j] := h.toG.cell hj
theorem RowV.of_owns {B : Nat} {v : Value} (h : w.ownsRow B E sz v n xs) : ∃ A c, v = .slice A n c ∧ RowV w E sz A n c xs ∧ ∀ a, A = some a → B ≤ a.block := by
  rcases h.2 with ⟨rfl, rfl⟩ | ⟨g, cap, cur, rfl, hg, hh, h1, h2, h3, h4⟩
  · have hl := h.1
    rw [Nat.zero_mul] at hl
    obtain rfl := List.length_eq_zero_iff.1 hl
    exact ⟨none, 0, rfl, RowV.nil w E sz, fun a e => (by cases e)⟩
  · refine ⟨some ⟨g, 0, none⟩, cap, rfl, ⟨h.1, h1, h2, fun e => (by cases e), fun a e => ?_⟩, fun a e => (by cases e; exact hg)⟩
    cases e
    refine ⟨rfl, cur, hh, by rw [h3]; simp, fun j hj => ?_⟩
    have hj' : j < n * sz := by rw [← h.1]; exact hj
    have : xs[j]? = cur.toList[j]? := by rw [← h4, List.getElem?_take, if_pos hj']
    rw [List.getElem?_eq_getElem hj] at this
    simpa using this.symm
/-- The elements from number k on. -/
theorem RowV.drop (h : RowV w E sz A n c xs) {k : Nat} (hk : k ≤ n) : RowV w E sz (if c = k then A else A.map (·.add (k * sz))) (n - k) (c - k) (xs.drop (k * sz)) := by
  have hl := h.len
  have hle := h.le
  have hm := h.mx
  have e1 : (n - k) * sz = n * sz - k * sz := Nat.sub_mul n k sz
  have e3 : k * sz ≤ n * sz := Nat.mul_le_mul_right sz hk
  have e4 : (c - k) * sz = c * sz - k * sz := Nat.sub_mul c k sz
  have e5 : n * sz ≤ c * sz := Nat.mul_le_mul_right sz hle
  refine ⟨by simp; omega, by omega, by omega, fun e => ?_, fun a e => ?_⟩
  · split at e
    · have := h.none_ e; omega
    · cases A with
      | none => have := h.none_ rfl; omega
      | some x => cases e
  · split at e
    · rename_i hck
      obtain ⟨h1, cs, b, h2, h3⟩ := h.at_ a e
      have h0 : (c - k) * sz = 0 := by rw [hck, Nat.sub_self, Nat.zero_mul]
      exact ⟨h1, cs, b, by omega, fun j hj => by simp at hj; omega⟩
    · cases A with
      | none => cases e
      | some x =>
        obtain ⟨h1, cs, b, h2, h3⟩ := h.at_ x rfl
        obtain ⟨xb, xo, sp⟩ := x
        obtain rfl : sp = none := by injection h1
        have ea : (⟨xb, xo, none⟩ : Addr).add (k * sz) = ⟨xb, xo + k * sz, none⟩ := by unfold Addr.add; split <;> simp_all
        rw [Option.map_some, ea] at e
        cases e
        refine ⟨rfl, cs, b, by show xo + k * sz + (c - k) * sz ≤ cs.size; rw [e4]; dsimp only at h2; omega, fun j hj => ?_⟩
        have hj2 : k * sz + j < xs.length := by simp at hj; omega
        have := h3 (k * sz + j) hj2
        show cs[xo + k * sz + j]? = _
        dsimp only at this
        rw [show xo + k * sz + j = xo + (k * sz + j) from by omega, this]
        simp
theorem drop_block {c k s : Nat} {a : Addr} (e : (if c = k then A else A.map (·.add s)) = some a) : inR A a.block := by
  split at e
  · exact ⟨a, e, rfl⟩
  · cases A with
    | none => cases e
    | some x =>
      rw [Option.map_some] at e
      cases e
      refine ⟨x, rfl, ?_⟩
      unfold Addr.add
      split <;> rfl
/-- A cell turns. -/
theorem RowV.set {b o : Nat} (h : RowV w E sz (some ⟨b, o, none⟩) n c xs) {j : Nat} (hj : j < xs.length) (u : Value) : RowV (w.setCell ⟨b, o + j, none⟩ u) E sz (some ⟨b, o, none⟩) n c (xs.set j u) := by
  obtain ⟨h1, cs, hb, h2, h3⟩ := h.at_ _ rfl
  refine ⟨by simpa using h.len, h.le, h.mx, fun e => (by cases e), fun a e => ?_⟩
  cases e
  have hj3 := h3 j hj
  have hjs : o + j < cs.size := (Array.getElem?_eq_some_iff.1 hj3).1
  refine ⟨rfl, _, hb.put (o + j) u, by simpa using h2, fun i hi => ?_⟩
  have hi' : i < xs.length := by simpa using hi
  rw [Array.getElem?_setIfInBounds, List.getElem_set]
  by_cases e : j = i
  · subst e
    rw [if_pos rfl, if_pos hjs, if_pos rfl]
  · rw [if_neg (show ¬ o + j = o + i by omega), if_neg e]
    exact h3 i hi'
/-- The first cells turn, at once. -/
theorem RowV.setRow {b o : Nat} (h : RowV w E sz (some ⟨b, o, none⟩) n c xs) (vs : List Value) (hv : vs.length ≤ xs.length) : ∃ cs : Array Value, Blk w b E cs ∧ o + vs.length ≤ cs.size ∧
    RowV (w.setRow b (cs.toList.take o ++ vs ++ cs.toList.drop (o + vs.length)).toArray) E sz (some ⟨b, o, none⟩) n c (vs ++ xs.drop vs.length) := by
  obtain ⟨h1, cs, hb, h2, h3⟩ := h.at_ _ rfl
  dsimp only at hb h2 h3
  have hl := h.len
  have hle := Nat.mul_le_mul_right sz h.le
  have hos : o + vs.length ≤ cs.size := by omega
  refine ⟨cs, hb, hos, ⟨by simp; omega, h.le, h.mx, fun e => (by cases e), fun a e => ?_⟩⟩
  cases e
  refine ⟨rfl, _, hb.row _, by simp; omega, fun i hi => ?_⟩
  dsimp only
  have hi' : i < xs.length := by simp at hi; omega
  rw [List.getElem?_toArray, List.append_assoc, List.getElem?_append_right (by rw [List.length_take]; omega), show o + i - (cs.toList.take o).length = i by rw [List.length_take, Array.length_toList]; omega]
  by_cases e : i < vs.length
  · rw [List.getElem?_append_left e, List.getElem_append_left e]
    exact List.getElem?_eq_getElem e
  · rw [List.getElem?_append_right (by omega), List.getElem_append_right (by omega), List.getElem?_drop, show o + vs.length + (i - vs.length) = o + i by omega]
    have := h3 i hi'
    simp only [Array.getElem?_toList, this, List.getElem_drop, show vs.length + (i - vs.length) = i by omega]
theorem RowV.thaw {b o : Nat} (h : RowV w E sz (some ⟨b, o, none⟩) n c xs) (i : Nat) : w.frozen? ⟨b, i, none⟩ = false := by
  obtain ⟨_, cs, hb, _⟩ := h.at_ _ rfl
  exact hb.frozen i
end

/-- Cells of a block that is known whole, laid one behind the other. -/
theorem blk_setCells {b : Nat} {E : TypeId} : ∀ (vs : List Value) (p : Nat) (w : World) (cs : Array Value), Blk w b E cs → p + vs.length ≤ cs.size → ∃ cs' : Array Value, Blk (w.setCells b p vs) b E cs' ∧ cs'.size = cs.size ∧ ∀ j, cs'[j]? = if p ≤ j ∧ j < p + vs.length then vs[j - p]? else cs[j]?
  | [], p, w, cs, h, _ => ⟨cs, h, rfl, fun j => by rw [if_neg (by rw [List.length_nil]; omega)]⟩
  | v :: vs, p, w, cs, h, hp => by
    rw [List.length_cons] at hp
    obtain ⟨cs', h1, h2, h3⟩ := blk_setCells vs (p + 1) (w.setCell ⟨b, p, none⟩ v) _ (h.put p v) (by simp; omega)
    refine ⟨cs', h1, by rw [h2]; simp, fun j => ?_⟩
    rw [h3, List.length_cons]
    by_cases e : p + 1 ≤ j ∧ j < p + 1 + vs.length
    · rw [if_pos e, if_pos (by omega), show j - p = (j - (p + 1)) + 1 by omega, List.getElem?_cons_succ]
    · rw [if_neg e, Array.getElem?_setIfInBounds]
      by_cases e2 : p = j
      · subst e2
        rw [if_pos rfl, if_pos (by omega), if_pos (by omega), Nat.sub_self]; rfl
      · rw [if_neg e2, if_neg (by omega)]
theorem chg_setCells {b : Nat} {S : Nat → Prop} (hS : S b) : ∀ (vs : List Value) (p : Nat) (w : World), Chg w (w.setCells b p vs) S
  | [], p, w => Chg.refl _ _
  | v :: vs, p, w => (Chg.set w p v hS).trans (chg_setCells hS vs (p + 1) _)

section
variable {P : Program}
/-- append(v, src...): v a row that its owner grows, the source any row that lies somewhere. -/
theorem wp_append_V {o : Oper} {a : Act} {w : World} {K : Act → World → Prop} {Q : Exit → Act → World → Prop} {d : Option Tmp} (hd : o.dst = d) (s x : Operand) (t : TypeId) (ho : o.op = .call { callee := .builtin .append, args := #[s, x], argTypes := #[t, t] })
    (E : TypeId) (i : TypeInfo) (z : Value) (size bytes : Nat) (ht : P.underlying t = some (.slice E)) (hi : P.info? E = some i) (hz : i.zero = some z)
    (hsize : i.size = size) (hby : i.bytes = bytes) (hzs : z.cells.size = size) (hsz : 0 < size) (hb8 : bytes ≤ 1000)
    (A : Option Addr) (n c : Nat) (xs : List Value) (hs : a.eval s = .slice A n c) (h : RowV w E size A n c xs)
    (A2 : Option Addr) (m c2 : Nat) (ys : List Value) (hx : a.eval x = .slice A2 m c2) (hsrc : RowG w size A2 m c2 ys) (h1 : ∀ u ∈ ys, u.oneCell' = true) (hmax : n + m ≤ 1000000)
    (hK : ∀ A' c' w', RowV w' E size A' (n + m) c' (xs ++ ys) → Chg w w' (inR A) → (∀ k, inR A' k → inR A k ∨ w.heap.size ≤ k) → K (a.put d (.slice A' (n + m) c')) w') : o.wp P a w K Q := by
  subst hd
  have hle := h.le
  have hmx := h.mx
  have hby2 : (n + m) * bytes ≤ 140737488355328 := by
    have := Nat.mul_le_mul_left (n + m) hb8
    omega
  cases A2 with
  | none =>
    obtain ⟨rfl, rfl⟩ := hsrc.none_ rfl
    have hy : ys = [] := List.length_eq_zero_iff.1 (by rw [hsrc.len, Nat.zero_mul])
    subst hy
    have hrun : (Builtin.append_ #[t, t] o.type #[.slice A n c, .slice none 0 0]).run P w = .ok (.slice A n c) w := by
      cases A <;> simp [Builtin.append_, run_underlying ht, sizeOf, typeInfo, hi, Builtin.lenOf, hle, storeCells, Builtin.firstCells]
    unfold Oper.wp execOp
    simp only [ho, resolve, invoke, builtin, Sem.run_bind, Sem.run_pure, Result.andThen_ok, List.map_toArray, List.map_cons, List.map_nil, hs, hx, hrun]
    exact hK A c w (by rw [List.append_nil]; exact h) (Chg.refl _ _) (fun k hk => .inl hk)
  | some ad =>
    have hnews : ∀ j u, ys[j]? = some u → w.cell? (ad.add j) = some u := fun j u hu => by
      have hj : j < ys.length := (List.getElem?_eq_some_iff.1 hu).1
      obtain ⟨b, o', e, _, hc⟩ := hsrc.cell hj
      cases e
      have ea : (⟨b, o', none⟩ : Addr).add j = ⟨b, o' + j, none⟩ := by unfold Addr.add; split <;> simp_all
      rw [ea, hc]
      exact (List.getElem?_eq_some_iff.1 hu).2 ▸ rfl
    cases A with
    | none =>
      have hc0 := h.none_ rfl
      have hn0 : n = 0 := by omega
      subst hc0 hn0
      obtain rfl : xs = [] := List.length_eq_zero_iff.1 (by rw [h.len, Nat.zero_mul])
      obtain ⟨v', w', hr, h2, h3, _, h5⟩ := run_append_own_at (P := P) w w.heap.size t o.type E i z size bytes ht hi hz hsize hby hzs hsz (.slice none 0 0) 0 [] (World.ownsRow_nil w w.heap.size E size) ad m c2 ys hsrc.len hnews h1 (by unfold maxLen; omega) hby2 (Nat.le_refl _)
      obtain ⟨A', c', rfl, hv, hB⟩ := RowV.of_owns h2
      unfold Oper.wp execOp
      simp only [ho, resolve, invoke, builtin, Sem.run_bind, Sem.run_pure, Result.andThen_ok, List.map_toArray, List.map_cons, List.map_nil, hs, hx, hr]
      exact hK A' c' w' hv ⟨h3.os, h3.tape, h3.output, h3.size, fun k hk _ => h3.block k hk (by simp [Value.ownBlock])⟩ (fun k ⟨a, e, e2⟩ => .inr (by rw [e2]; exact hB a e))
    | some a0 =>
      obtain ⟨ha0, cs, hb, hcs, hcell⟩ := h.at_ a0 rfl
      obtain ⟨b, off, sp⟩ := a0
      obtain rfl : sp = none := by injection ha0
      dsimp only at hb hcs hcell
      have hl := h.len
      by_cases hr : n + m ≤ c
      · have em : n * size + m * size ≤ c * size := by rw [← Nat.add_mul]; exact Nat.mul_le_mul_right size hr
        have hyl := hsrc.len
        have hrun := run_append_room_cells (P := P) w t o.type E i ht hi b off n c ad m c2 ys (by rw [hsize]; exact hsrc.len) hnews h1 hr
          (fun j hj => by rw [hsize, hb.cell, Array.getElem?_eq_getElem (by omega)]; rfl) (fun j hj => hb.frozen _)
        rw [hsize] at hrun
        obtain ⟨cs', q1, q2, q3⟩ := blk_setCells ys (off + n * size) w cs hb (by omega)
        unfold Oper.wp execOp
        simp only [ho, resolve, invoke, builtin, Sem.run_bind, Sem.run_pure, Result.andThen_ok, List.map_toArray, List.map_cons, List.map_nil, hs, hx, hrun]
        refine hK (some ⟨b, off, none⟩) c _ ⟨by rw [List.length_append, hl, hyl, Nat.add_mul], hr, hmx, fun e => (by cases e), fun a e => ?_⟩ (chg_setCells ⟨_, rfl, rfl⟩ _ _ _) (fun k hk => .inl hk)
        cases e
        refine ⟨rfl, cs', q1, by rw [q2]; exact hcs, fun j hj => ?_⟩
        show cs'[off + j]? = _
        rw [q3]
        by_cases hj1 : j < xs.length
        · rw [if_neg (by omega), hcell j hj1, List.getElem_append_left hj1]
        · have hj2 : j < xs.length + ys.length := by simpa using hj
          rw [if_pos (by omega), List.getElem_append_right (by omega), show off + j - (off + n * size) = j - xs.length by omega]
          exact List.getElem?_eq_getElem _
      · obtain ⟨v', w', hrun, hown, hg⟩ := run_append_arg_grows (P := P) w t o.type E i z size bytes ht hi hz hsize hby hzs hsz ⟨b, off, none⟩ n c xs hl
          (fun j u hj => by
            obtain ⟨hj1, e⟩ := List.getElem?_eq_some_iff.1 hj
            have ea : (⟨b, off, none⟩ : Addr).add j = ⟨b, off + j, none⟩ := by unfold Addr.add; split <;> simp_all
            rw [ea, hb.cell, hcell j hj1, ← e]) ad m c2 ys hsrc.len hnews (by omega) (by unfold maxLen; omega) hby2
        obtain ⟨A', c', rfl, hv, hB⟩ := RowV.of_owns hown
        unfold Oper.wp execOp
        simp only [ho, resolve, invoke, builtin, Sem.run_bind, Sem.run_pure, Result.andThen_ok, List.map_toArray, List.map_cons, List.map_nil, hs, hx, hrun]
        exact hK A' c' w' hv ⟨hg.os, hg.tape, hg.output, hg.size, fun k hk _ => hg.block k hk (by simp)⟩ (fun k ⟨a, e, e2⟩ => .inr (by rw [e2]; exact hB a e))
theorem wpList_append_V {ops : Array Oper} {rest : List Oper} {o : Oper} {a : Act} {w : World} {Q : Exit → Act → World → Prop} (hgd : o.guard = none) (s x : Operand) (t : TypeId) (ho : o.op = .call { callee := .builtin .append, args := #[s, x], argTypes := #[t, t] })
    (E : TypeId) (i : TypeInfo) (z : Value) (size bytes : Nat) (ht : P.underlying t = some (.slice E)) (hi : P.info? E = some i) (hz : i.zero = some z)
    (hsize : i.size = size) (hby : i.bytes = bytes) (hzs : z.cells.size = size) (hsz : 0 < size) (hb8 : bytes ≤ 1000)
    (A : Option Addr) (n c : Nat) (xs : List Value) (hs : a.eval s = .slice A n c) (h : RowV w E size A n c xs)
    (A2 : Option Addr) (m c2 : Nat) (ys : List Value) (hx : a.eval x = .slice A2 m c2) (hsrc : RowG w size A2 m c2 ys) (h1 : ∀ u ∈ ys, u.oneCell' = true) (hmax : n + m ≤ 1000000)
    (hK : ∀ A' c' w', RowV w' E size A' (n + m) c' (xs ++ ys) → Chg w w' (inR A) → (∀ k, inR A' k → inR A k ∨ w.heap.size ≤ k) → wpList P ops Q rest (a.put o.dst (.slice A' (n + m) c')) w') : wpList P ops Q (o :: rest) a w := by
  refine wpList_plain hgd fun K hK' => ?_
  exact wp_append_V rfl s x t ho E i z size bytes ht hi hz hsize hby hzs hsz hb8 A n c xs hs h A2 m c2 ys hx hsrc h1 hmax (fun A' c' w' q1 q2 q3 => hK' _ _ (hK A' c' w' q1 q2 q3))
/-- 'l[k:]' and 'l[:k]' of a slice of anything. -/
theorem run_from {t E : TypeId} {i : TypeInfo} {sz : Nat} (ht : P.underlying t = some (.slice E)) (he : P.elem t = E) (hi : P.info? E = some i) (hs : i.size = sz) (A : Option Addr) (n c k : Nat) (hk : k ≤ n) (W : World) :
    (Instr.slice t (.slice A n c) (some (.int .i64 (k : Int))) none none).run P W = .ok (.slice (if c = k then A else A.map (·.add (k * sz))) (n - k) (c - k)) W := by
  subst he
  rw [run_slice_l W t A n c ht .i64 (k : Int) (by omega) (by omega)]
  have hz : (sizeOf (P.elem t)).run P W = .ok i.size W := by simp [sizeOf, typeInfo, hi]
  rw [hz]
  simp [sliced, hs]
theorem run_upto {t E : TypeId} {i : TypeInfo} (ht : P.underlying t = some (.slice E)) (he : P.elem t = E) (hi : P.info? E = some i) (A : Option Addr) (n c k : Nat) (hk : k ≤ c) (W : World) :
    (Instr.slice t (.slice A n c) none (some (.int .i64 (k : Int))) none).run P W = .ok (.slice A k c) W := by
  subst he
  rw [run_slice_h W t A n c ht .i64 (k : Int) (by omega) (by omega)]
  have hz : (sizeOf (P.elem t)).run P W = .ok i.size W := by simp [sizeOf, typeInfo, hi]
  rw [hz]
  simp only [Result.andThen_ok, sliced]
  cases A with
  | none => simp
  | some a => simp [Addr.add]
end
end Go.Proofs.Ytldmcoagjgeeoaa.Rv
