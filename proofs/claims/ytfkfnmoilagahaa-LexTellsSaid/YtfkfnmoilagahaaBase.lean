/- General words: what stands while a call writes to its own blocks alone; a row of values of the call's own and append of one value more; a ring in memory. Conditions: those that each states. -/
import Derived.Test.YtfkfnmoilagahaaGen
import Derived.Maps.AppendAt
import Derived.Laws.AppendOwnNone
import Derived.OwnWalk
import Derived.Lib.AppendStr
namespace Go.Proofs.Ytfkfnmoilagahaa
open Go.ChangeShapes Go.WideShapes Go.ChangeAt Go.RowKit Go.Deep

/-- Of the blocks that were there only those of S may have turned. -/
structure Chg (w w' : World) (S : Nat → Prop) : Prop where
  os : w'.os = w.os
  tape : w'.tape = w.tape
  output : w'.output = w.output
  size : w.heap.size ≤ w'.heap.size
  block : ∀ k, k < w.heap.size → ¬ S k → w'.heap[k]? = w.heap[k]?
section
variable {w w' w2 : World} {S S' : Nat → Prop}
theorem Chg.refl (w : World) (S : Nat → Prop) : Chg w w S := ⟨rfl, rfl, rfl, Nat.le_refl _, fun _ _ _ => rfl⟩
theorem Chg.trans (h : Chg w w' S) (k : Chg w' w2 S) : Chg w w2 S :=
  ⟨k.os.trans h.os, k.tape.trans h.tape, k.output.trans h.output, Nat.le_trans h.size k.size, fun i hi hn => (k.block i (Nat.lt_of_lt_of_le hi h.size) hn).trans (h.block i hi hn)⟩
theorem Chg.weak (h : Chg w w' S) (k : ∀ i, S i → S' i) : Chg w w' S' := ⟨h.os, h.tape, h.output, h.size, fun i hi hn => h.block i hi fun hs => hn (k i hs)⟩
theorem Chg.drewN (h : Chg w w' S) (n : Nat) : Chg w (w'.drewN n) S := ⟨h.os, h.tape, h.output, h.size, h.block⟩
theorem Chg.drew (h : Chg w w' S) : Chg w w'.drew S := ⟨h.os, h.tape, h.output, h.size, h.block⟩
theorem Chg.of_drewN {n : Nat} (h : Chg (w.drewN n) w' S) : Chg w w' S := ⟨h.os, h.tape, h.output, h.size, h.block⟩
theorem Chg.set (w : World) {g : Nat} (i : Nat) (u : Value) (hg : S g) : Chg w (w.setCell ⟨g, i, none⟩ u) S :=
  ⟨rfl, rfl, rfl, by simp [World.setCell], fun k _ hn => Below.heap_setCell w ⟨g, i, none⟩ u k (fun e => hn (by have e' : k = g := e; rw [e']; exact hg))⟩
theorem Chg.below {B : Nat} (h : Chg w w' S) (hB : B ≤ w.heap.size) (hs : ∀ k, S k → B ≤ k) : Below B w w' :=
  ⟨h.os, h.tape, h.output, h.size, fun i hi => h.block i (Nat.lt_of_lt_of_le hi hB) fun s => absurd (hs i s) (by omega)⟩
theorem Chg.of_below {B : Nat} (h : Below B w w') : Chg w w' (fun k => B ≤ k) := ⟨h.os, h.tape, h.output, h.size, fun i _ hn => h.block i (by have hn' : ¬ B ≤ i := hn; omega)⟩
theorem Chg.of_new (h : Below w.heap.size w w') (S : Nat → Prop) : Chg w w' S := ⟨h.os, h.tape, h.output, h.size, fun i hi _ => h.block i hi⟩
theorem Chg.alloc (h : Chg w w' S) (ob : Obj) : Chg w (w'.alloc ob) S := h.trans (Chg.of_new ((Below.refl _ w').alloc (Nat.le_refl _) ob) S)
theorem Blk.chg {g : Nat} {t : TypeId} {cs : Array Value} (h : Blk w g t cs) (k : Chg w w' S) (hn : ¬ S g) : Blk w' g t cs := (k.block g h.lt hn).trans h
end

/-- A row of the call's own: its values are xs; it lies at A, in a block from B on. -/
structure Row (w : World) (B : Nat) (E : TypeId) (A : Option Addr) (c : Nat) (xs : List Value) : Prop where
  own : w.ownsRow B E 1 (.slice A xs.length c) xs.length xs
section
variable {w w' : World} {B : Nat} {E : TypeId} {A : Option Addr} {c : Nat} {xs : List Value} {S : Nat → Prop}
theorem Row.nil (w : World) (B : Nat) (E : TypeId) : Row w B E none 0 [] := ⟨World.ownsRow_nil w B E 1⟩
theorem Row.none_ {c : Nat} {xs : List Value} (h : Row w B E none c xs) : xs = [] ∧ c = 0 := by
  rcases h.own.2 with ⟨e, _⟩ | ⟨g, cap, cur, e, _⟩
  · injection e with _ e2 e3
    exact ⟨List.length_eq_zero_iff.1 e2, e3⟩
  · cases e
theorem Row.lt (h : Row w B E A c xs) : ∀ b, (Value.slice A xs.length c).ownBlock = some b → B ≤ b ∧ b < w.heap.size := by
  intro b hb
  rcases h.own.2 with ⟨e, _⟩ | ⟨g, cap, cur, e, hg, hh, _⟩
  · rw [e] at hb; cases hb
  · rw [e] at hb
    have e1 : g = b := by simpa [Value.ownBlock] using hb
    subst e1
    exact ⟨hg, (Array.getElem?_eq_some_iff.1 hh).1⟩
theorem Row.same (h : Row w B E A c xs) (k : ∀ b, (Value.slice A xs.length c).ownBlock = some b → w'.heap[b]? = w.heap[b]?) : Row w' B E A c xs := by
  refine ⟨⟨h.own.1, ?_⟩⟩
  rcases h.own.2 with hl | ⟨g, cap, cur, e, hg, hh, r⟩
  · exact .inl hl
  · refine .inr ⟨g, cap, cur, e, hg, ?_, r⟩
    rw [k g (by rw [e]; rfl)]
    exact hh
theorem Row.chg (h : Row w B E A c xs) (k : Chg w w' S) (hn : ∀ b, (Value.slice A xs.length c).ownBlock = some b → ¬ S b) : Row w' B E A c xs :=
  h.same fun b hb => k.block b (h.lt b hb).2 (hn b hb)
theorem Row.new (h : Row w B E A c xs) (k : Below w.heap.size w w') : Row w' B E A c xs := h.same fun b hb => k.block b (h.lt b hb).2
theorem Row.drewN (h : Row w B E A c xs) (n : Nat) : Row (w.drewN n) B E A c xs := h.same fun _ _ => rfl
theorem Row.cell (h : Row w B E A c xs) {j : Nat} (hj : j < xs.length) : ∃ b, A = some ⟨b, 0, none⟩ ∧ b < w.heap.size ∧ B ≤ b ∧ w.cell? ⟨b, j, none⟩ = some xs[j] := by
  rcases h.own.2 with ⟨_, e⟩ | ⟨g, cap, cur, e, hg, hh, _⟩
  · omega
  · injection e with e1
    subst e1
    refine ⟨g, rfl, (Array.getElem?_eq_some_iff.1 hh).1, hg, ?_⟩
    have hc : w.ownsRow B E 1 (.slice (some ⟨g, 0, none⟩) xs.length c) xs.length xs := h.own
    rw [hc.cellAt j (by omega)]
    exact List.getElem?_eq_getElem hj
end

/-- append(v, src...): v a row of the call's own, the source a row that lies somewhere. -/
theorem wpList_append_row {P : Program} {ops : Array Oper} {rest : List Oper} {o : Oper} {a : Act} {Q : Exit → Act → World → Prop} {w : World} {T E : TypeId} (hgd : o.guard = none) (s x : Operand)
    (ho : o.op = .call { callee := .builtin .append, args := #[s, x], argTypes := #[T, T] }) (hT : P.underlying T = some (.slice E)) (z : Value) (bytes : Nat) (hz1 : z.cells.size = 1) (hby : bytes ≤ 16)
    (hi : (P.info? E).map (fun i => (i.zero, i.size, i.bytes)) = some (some z, 1, bytes))
    {B : Nat} {A : Option Addr} {c : Nat} {xs : List Value} (hs : a.eval s = .slice A xs.length c) (hown : Row w B E A c xs) (hbase : B ≤ w.heap.size)
    (ad : Addr) (m c' : Nat) (news : List Value) (hx : a.eval x = .slice (some ad) m c') (hl : news.length = m) (hnews : ∀ j u, news[j]? = some u → w.cell? (ad.add j) = some u) (h1 : ∀ u ∈ news, u.oneCell' = true) (hmax : xs.length + m ≤ 1000000)
    (h : ∀ A' c2 w', Row w' B E A' c2 (xs ++ news) → Chg w w' (fun k => (Value.slice A xs.length c).ownBlock = some k) → ((Value.slice A' (xs ++ news).length c2).ownBlock = (Value.slice A xs.length c).ownBlock ∨ (Value.slice A' (xs ++ news).length c2).ownBlock = some w.heap.size) →
      wpList P ops Q rest (a.put o.dst (.slice A' (xs ++ news).length c2)) w') : wpList P ops Q (o :: rest) a w := by
  obtain ⟨i0, hi0, hs0⟩ := Option.map_eq_some_iff.1 hi
  simp only [Prod.mk.injEq] at hs0
  obtain ⟨h0, h2, h3⟩ := hs0
  refine wpList_append_own_at w hgd s x T ho B E i0 z 1 bytes hT hi0 h0 h2 h3 hz1 (by decide) (.slice A xs.length c) xs.length xs hs hown.own ad m c' news hx (by omega) hnews h1 (by unfold maxLen; omega) ?_ hbase ?_
  · have := Nat.mul_le_mul_left (xs.length + m) hby
    omega
  · intro v' w' ho' hg hnil hat
    have hlen : xs.length + m = (xs ++ news).length := by simp [hl]
    rw [hlen] at ho'
    have hv : ∃ A' c2, v' = .slice A' (xs ++ news).length c2 := by
      rcases ho'.2 with ⟨rfl, e⟩ | ⟨g, cap, cur, rfl, _⟩
      · exact ⟨none, 0, by rw [e]⟩
      · exact ⟨_, _, rfl⟩
    obtain ⟨A', c2, rfl⟩ := hv
    exact h A' c2 w' ⟨ho'⟩ ⟨hg.os, hg.tape, hg.output, hg.size, fun k hk hn => hg.block k hk fun e => hn e.symm⟩ hat

/-- append(v, src...): both rows of the call's own. -/
theorem wpList_append_both {P : Program} {ops : Array Oper} {rest : List Oper} {o : Oper} {a : Act} {Q : Exit → Act → World → Prop} {w : World} {T E : TypeId} (hgd : o.guard = none) (s x : Operand)
    (ho : o.op = .call { callee := .builtin .append, args := #[s, x], argTypes := #[T, T] }) (hT : P.underlying T = some (.slice E)) (z : Value) (bytes : Nat) (hz1 : z.cells.size = 1) (hby : bytes ≤ 16)
    (hi : (P.info? E).map (fun i => (i.zero, i.size, i.bytes)) = some (some z, 1, bytes))
    {B : Nat} {A : Option Addr} {c : Nat} {xs : List Value} (hs : a.eval s = .slice A xs.length c) (hown : Row w B E A c xs) (hbase : B ≤ w.heap.size)
    {B' : Nat} {A1 : Option Addr} {c1 : Nat} {news : List Value} (hx : a.eval x = .slice A1 news.length c1) (hsrc : Row w B' E A1 c1 news) (h1 : ∀ u ∈ news, u.oneCell' = true) (hmax : xs.length + news.length ≤ 1000000)
    (h : ∀ A' c2 w', Row w' B E A' c2 (xs ++ news) → Chg w w' (fun k => (Value.slice A xs.length c).ownBlock = some k) → ((Value.slice A' (xs ++ news).length c2).ownBlock = (Value.slice A xs.length c).ownBlock ∨ (Value.slice A' (xs ++ news).length c2).ownBlock = some w.heap.size) →
      wpList P ops Q rest (a.put o.dst (.slice A' (xs ++ news).length c2)) w') : wpList P ops Q (o :: rest) a w := by
  cases A1 with
  | none =>
    obtain ⟨rfl, rfl⟩ := hsrc.none_
    obtain ⟨i0, hi0, hs0⟩ := Option.map_eq_some_iff.1 hi
    refine wpList_append_own_none hgd s x T ho B E i0 1 hT hi0 (.slice A xs.length c) xs.length xs hs hown.own hx ?_
    have := h A c w (by simpa using hown) (Chg.refl _ _) (.inl (by simp [Value.ownBlock]))
    simpa using this
  | some ad =>
    refine wpList_append_row hgd s x ho hT z bytes hz1 hby hi hs hown hbase ad news.length c1 news hx rfl ?_ h1 hmax h
    intro j u hu
    obtain ⟨hj, e⟩ := List.getElem?_eq_some_iff.1 hu
    obtain ⟨b, e1, _, _, hc⟩ := hsrc.cell hj
    cases e1
    have ea : (⟨b, 0, none⟩ : Addr).add j = ⟨b, 0 + j, none⟩ := by unfold Addr.add; split <;> simp_all
    rw [ea, Nat.zero_add, hc, e]

/-- append(v, x): what the walk laid for x is a block of its own, the last one. -/
theorem wpList_append_one {P : Program} {ops : Array Oper} {rest : List Oper} {o : Oper} {a : Act} {Q : Exit → Act → World → Prop} {w : World} {T E : TypeId} (hgd : o.guard = none) (s x : Operand)
    (ho : o.op = .call { callee := .builtin .append, args := #[s, x], argTypes := #[T, T] }) (hT : P.underlying T = some (.slice E)) (z : Value) (bytes : Nat) (hz1 : z.cells.size = 1) (hby : bytes ≤ 16)
    (hi : (P.info? E).map (fun i => (i.zero, i.size, i.bytes)) = some (some z, 1, bytes))
    {B : Nat} {A : Option Addr} {c : Nat} {xs : List Value} (hs : a.eval s = .slice A xs.length c) (hown : Row w B E A c xs) (hbase : B ≤ w.heap.size)
    (u : Value) (hu : u.oneCell' = true) (hx : a.eval x = .slice (some ⟨w.heap.size, 0, none⟩) 1 1) (hmax : xs.length + 1 ≤ 1000000)
    (h : ∀ A' c2 w', Row w' B E A' c2 (xs ++ [u]) → Chg w w' (fun k => (Value.slice A xs.length c).ownBlock = some k) → ((Value.slice A' (xs ++ [u]).length c2).ownBlock = (Value.slice A xs.length c).ownBlock ∨ (Value.slice A' (xs ++ [u]).length c2).ownBlock = some (w.heap.size + 1)) →
      wpList P ops Q rest (a.put o.dst (.slice A' (xs ++ [u]).length c2)) w') : wpList P ops Q (o :: rest) a (w.alloc (.cells #[u] E)) := by
  refine wpList_append_row hgd s x ho hT z bytes hz1 hby hi hs (hown.new ((Below.refl _ w).alloc (Nat.le_refl _) _)) (by simp; omega) ⟨w.heap.size, 0, none⟩ 1 1 [u] hx rfl (cell_one_new _ _ _) (by simpa using hu) hmax ?_
  intro A' c2 w' r k hat
  refine h A' c2 w' r ?_ (by simpa using hat)
  exact (Chg.of_new ((Below.refl _ w).alloc (Nat.le_refl _) (.cells #[u] E)) _).trans k

/-- A ring in memory: its things are xs, the first one's ticket is first. -/
structure RingAt (E T : TypeId) (w : World) (gs g room first : Nat) (xs : List Value) : Prop where
  lt : gs < g
  r1 : 1 ≤ room
  r2 : room ≤ 32
  len : xs.length ≤ room
  small : first + xs.length ≤ 1000000
  head : Blk w g T #[.slice (some ⟨gs, 0, none⟩) room room, .int .i64 (first : Int), .int .i64 ((first : Int) + (xs.length : Int))]
  row : ∃ cs : Array Value, Blk w gs E cs ∧ cs.size = room ∧ ∀ j (h : j < xs.length), cs[(first + j) % room]? = some xs[j]
section
variable {E T : TypeId} {w w' : World} {gs g room first : Nat} {xs : List Value} {S : Nat → Prop}
theorem RingAt.chg (h : RingAt E T w gs g room first xs) (k : Chg w w' S) (h1 : ¬ S gs) (h2 : ¬ S g) : RingAt E T w' gs g room first xs := by
  obtain ⟨cs, hb, hs, hc⟩ := h.row
  exact ⟨h.lt, h.r1, h.r2, h.len, h.small, h.head.chg k h2, cs, hb.chg k h1, hs, hc⟩
theorem RingAt.new (h : RingAt E T w gs g room first xs) (k : Below w.heap.size w w') : RingAt E T w' gs g room first xs := h.chg (Chg.of_new k fun _ => False) id id
theorem RingAt.drewN (h : RingAt E T w gs g room first xs) (n : Nat) : RingAt E T (w.drewN n) gs g room first xs := ⟨h.lt, h.r1, h.r2, h.len, h.small, h.head, h.row⟩

theorem mod_ne (a b m : Nat) (h1 : a < b) (h2 : b < a + m) : a % m ≠ b % m := by
  intro e
  have h3 : (b - a) % m = 0 := Nat.sub_mod_eq_zero_of_mod_eq e.symm
  rw [Nat.mod_eq_of_lt (by omega)] at h3
  omega

/-- One more is put. -/
theorem RingAt.put (h : RingAt E T w gs g room first xs) (hl : xs.length < room) (hs : first + xs.length < 1000000) (u : Value) (n : Nat) :
    RingAt E T (((w.drewN n).setCell ⟨gs, (first + xs.length) % room, none⟩ u).setCell ⟨g, 2, none⟩ (.int .i64 ((first : Int) + (xs.length : Int) + 1))) gs g room first (xs ++ [u]) := by
  obtain ⟨cs, hb, hcs, hc⟩ := h.row
  have hgg : gs ≠ g := Nat.ne_of_lt h.lt
  refine ⟨h.lt, h.r1, h.r2, by simp; omega, by simp; omega, ?_, cs.setIfInBounds ((first + xs.length) % room) u, ?_, by simpa using hcs, ?_⟩
  · have := ((h.head.drewN n).far (p := ⟨gs, (first + xs.length) % room, none⟩) (fun e => hgg (by have e' : g = gs := e; omega)) u).put 2 (.int .i64 ((first : Int) + (xs.length : Int) + 1))
    simpa [Int.add_assoc] using this
  · exact ((hb.drewN n).put _ u).far (p := ⟨g, 2, none⟩) hgg _
  · intro j hj
    have hm : (first + xs.length) % room < room := Nat.mod_lt _ (by omega)
    have hj' : j < xs.length + 1 := by simpa using hj
    by_cases e : j = xs.length
    · subst e
      simp [hcs, hm]
    · have hlt : j < xs.length := by omega
      have hd := mod_ne (first + j) (first + xs.length) room (by omega) (by omega)
      rw [Array.getElem?_setIfInBounds, if_neg (fun e => hd e.symm), hc j hlt, List.getElem_append_left hlt]

/-- The first one is taken. -/
theorem RingAt.take {u : Value} (h : RingAt E T w gs g room first (u :: xs)) (z : Value) (n : Nat) :
    RingAt E T (((w.drewN n).setCell ⟨gs, first % room, none⟩ z).setCell ⟨g, 1, none⟩ (.int .i64 ((first : Int) + 1))) gs g room (first + 1) xs := by
  obtain ⟨cs, hb, hcs, hc⟩ := h.row
  have hgg : gs ≠ g := Nat.ne_of_lt h.lt
  have hl := h.len
  have hsm := h.small
  rw [List.length_cons] at hl hsm
  refine ⟨h.lt, h.r1, h.r2, by omega, by omega, ?_, cs.setIfInBounds (first % room) z, ?_, by simpa using hcs, ?_⟩
  · have := ((h.head.drewN n).far (p := ⟨gs, first % room, none⟩) (fun e => hgg (by have e' : g = gs := e; omega)) z).put 1 (.int .i64 ((first : Int) + 1))
    have e1 : (first : Int) + ((u :: xs).length : Int) = ((first + 1 : Nat) : Int) + (xs.length : Int) := by rw [List.length_cons]; omega
    rw [e1] at this
    simpa using this
  · exact ((hb.drewN n).put _ z).far (p := ⟨g, 1, none⟩) hgg _
  · intro j hj
    have hd := mod_ne first (first + (j + 1)) room (by omega) (by omega)
    have hcj := hc (j + 1) (by rw [List.length_cons]; omega)
    rw [show first + 1 + j = first + (j + 1) by omega, Array.getElem?_setIfInBounds, if_neg hd, hcj]
    rfl
/-- The cell of one that is there. -/
theorem RingAt.cell (h : RingAt E T w gs g room first xs) {j : Nat} (hj : j < xs.length) : w.cell? ⟨gs, (first + j) % room, none⟩ = some xs[j] := by
  obtain ⟨cs, hb, _, hc⟩ := h.row
  rw [hb.cell, hc j hj]
theorem RingAt.place (h : RingAt E T w gs g room first xs) (t : Nat) : ∃ u, w.cell? ⟨gs, t % room, none⟩ = some u := by
  obtain ⟨cs, hb, hcs, _⟩ := h.row
  have hm : t % room < cs.size := by rw [hcs]; exact Nat.mod_lt _ h.r1
  exact ⟨cs[t % room], by rw [hb.cell, Array.getElem?_eq_getElem hm]⟩
theorem RingAt.thaw (h : RingAt E T w gs g room first xs) (i : Nat) : w.frozen? ⟨gs, i, none⟩ = false := by
  obtain ⟨cs, hb, _⟩ := h.row
  exact hb.frozen i
end
end Go.Proofs.Ytfkfnmoilagahaa
