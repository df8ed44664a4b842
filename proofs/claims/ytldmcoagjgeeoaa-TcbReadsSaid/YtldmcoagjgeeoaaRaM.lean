/- A buffer of package rasm in plain words and in memory. Conditions: those that each states. -/
import Derived.Test.YtldmcoagjgeeoaaBase
import Derived.Test.YtldmcoagjgeeoaaApp
import Derived.Test.YtldmcoagjgeeoaaGx
namespace Go.Proofs.Ytldmcoagjgeeoaa.Ra
open Go.ChangeShapes Go.WideShapes Go.ChangeAt Go.RowKit Go.Deep
set_option linter.unusedVariables false
set_option linter.unusedSimpArgs false

/-- Of the places from next on: which have a byte. -/
abbrev Bs := List (Option UInt8)
def rdy (xs : Bs) : Nat := (xs.takeWhile Option.isSome).length
def held (xs : Bs) : Nat := xs.countP Option.isSome
def cell1 (o : Option UInt8) (k : Nat) (d : Int) (b : List UInt8) : Option UInt8 := if d ≤ k then o.or (b[((k : Int) - d).toNat]?) else o
def putTo (xs : Bs) (d : Int) (b : List UInt8) (j : Nat) : Bs := xs.mapIdx fun k o => if k < j then cell1 o k d b else o
def putR (xs : Bs) (d : Int) (b : List UInt8) : Bs := putTo xs d b xs.length
def tk (xs : Bs) : List UInt8 := (xs.take (rdy xs)).map fun o => o.getD 0
def aft (xs : Bs) : Bs := xs.drop (rdy xs) ++ List.replicate (rdy xs) none

theorem rdy_le (xs : Bs) : rdy xs ≤ xs.length := (List.takeWhile_sublist _).length_le
theorem rdy_eq : ∀ (xs : Bs) (n : Nat), n ≤ xs.length → (∀ k (hk : k < xs.length), k < n → xs[k].isSome = true) → (∀ h : n < xs.length, xs[n] = none) → rdy xs = n
  | [], n, hn, _, _ => by simp [rdy] at *; omega
  | none :: xs, n, hn, h1, h2 => by
    cases n with
    | zero => rfl
    | succ n => exact absurd (h1 0 (by simp) (by omega)) (by simp)
  | some c :: xs, n, hn, h1, h2 => by
    cases n with
    | zero => exact absurd (h2 (by simp)) (by simp)
    | succ n =>
      have := rdy_eq xs n (by simpa using hn) (fun k hk hkn => h1 (k + 1) (Nat.succ_lt_succ hk) (by omega)) (fun h => h2 (Nat.succ_lt_succ h))
      unfold rdy at *
      rw [List.takeWhile_cons_of_pos rfl, List.length_cons, this]
theorem rdy_some : ∀ (xs : Bs) (k : Nat) (hk : k < xs.length), k < rdy xs → xs[k].isSome = true
  | [], k, hk, _ => by simp at hk
  | none :: xs, k, hk, h => by simp [rdy] at h
  | some c :: xs, k, hk, h => by
    cases k with
    | zero => rfl
    | succ k =>
      have h' : k + 1 < (List.takeWhile Option.isSome (some c :: xs)).length := h
      rw [List.takeWhile_cons_of_pos rfl, List.length_cons] at h'
      exact rdy_some xs k (by simpa using hk) (by unfold rdy; omega)
theorem tk_length (xs : Bs) : (tk xs).length = rdy xs := by have := rdy_le xs; simp [tk]; omega
theorem aft_length (xs : Bs) : (aft xs).length = xs.length := by have := rdy_le xs; simp [aft]; omega
theorem tk_get (xs : Bs) (k : Nat) (hk : k < rdy xs) : xs[k]'(by have := rdy_le xs; omega) = some ((tk xs)[k]'(by rw [tk_length]; exact hk)) := by
  have h := rdy_some xs k (by have := rdy_le xs; omega) hk
  simp only [tk, List.getElem_map, List.getElem_take]
  cases hx : xs[k]'(by have := rdy_le xs; omega) with
  | none => rw [hx] at h; cases h
  | some c => simp

theorem putTo_length (xs : Bs) (d : Int) (b : List UInt8) (j : Nat) : (putTo xs d b j).length = xs.length := by simp [putTo]
theorem putTo_at (xs : Bs) (d : Int) (b : List UInt8) (j k : Nat) (hk : k < xs.length) : (putTo xs d b j)[k]'(by rw [putTo_length]; exact hk) = if k < j then cell1 xs[k] k d b else xs[k] := by simp [putTo]
theorem putTo_none (xs : Bs) (d : Int) (b : List UInt8) (j : Nat) (h : ∀ k, k < j → ¬ d ≤ (k : Int)) : putTo xs d b j = xs := by
  apply List.ext_getElem (putTo_length _ _ _ _)
  intro k h1 h2
  rw [putTo_at _ _ _ _ _ h2]
  split
  · rename_i hj; unfold cell1; rw [if_neg (h k hj)]
  · rfl
theorem putTo_succ (xs : Bs) (d : Int) (b : List UInt8) (j : Nat) (hj : j < xs.length) : putTo xs d b (j + 1) = (putTo xs d b j).set j (cell1 xs[j] j d b) := by
  apply List.ext_getElem (by rw [List.length_set, putTo_length, putTo_length])
  intro k h1 h2
  have hk : k < xs.length := by rw [putTo_length] at h1; exact h1
  rw [putTo_at _ _ _ _ _ hk, List.getElem_set]
  by_cases e : j = k
  · subst e; rw [if_pos (by omega), if_pos rfl]
  · rw [if_neg e, putTo_at _ _ _ _ _ hk]
    by_cases h : k < j
    · rw [if_pos h, if_pos (by omega)]
    · rw [if_neg h, if_neg (by omega)]
theorem putTo_end (xs : Bs) (d : Int) (b : List UInt8) (j : Nat) (h : xs.length ≤ j ∨ d + b.length ≤ j) : putTo xs d b j = putR xs d b := by
  unfold putR
  apply List.ext_getElem (by rw [putTo_length, putTo_length])
  intro k h1 h2
  have hk : k < xs.length := by rw [putTo_length] at h1; exact h1
  rw [putTo_at _ _ _ _ _ hk, putTo_at _ _ _ _ _ hk, if_pos hk]
  split
  · rfl
  · rename_i hn
    unfold cell1
    split
    · rw [List.getElem?_eq_none (by omega)]; cases xs[k] <;> rfl
    · rfl
theorem putR_length (xs : Bs) (d : Int) (b : List UInt8) : (putR xs d b).length = xs.length := putTo_length _ _ _ _
theorem putR_at (xs : Bs) (d : Int) (b : List UInt8) (k : Nat) (hk : k < xs.length) : (putR xs d b)[k]'(by rw [putR_length]; exact hk) = cell1 xs[k] k d b := by
  unfold putR; rw [putTo_at _ _ _ _ _ hk, if_pos hk]
theorem held_set : ∀ (xs : Bs) (k : Nat) (hk : k < xs.length) (c : UInt8), xs[k] = none → held (xs.set k (some c)) = held xs + 1
  | [], k, hk, _, _ => by simp at hk
  | o :: xs, 0, _, c, h => by
    have h' : o = none := h
    subst h'
    simp [held]
  | o :: xs, k + 1, hk, c, h => by
    have := held_set xs k (by simpa using hk) c (by simpa using h)
    unfold held at *
    rw [List.set_cons_succ, List.countP_cons, List.countP_cons, this]; omega
theorem held_le (xs : Bs) : held xs ≤ xs.length := List.countP_le_length
theorem heldTake (xs : Bs) (k : Nat) (hk : k < xs.length) : held (xs.take (k + 1)) = held (xs.take k) + (if xs[k].isSome then 1 else 0) := by
  unfold held
  rw [List.take_succ_eq_append_getElem hk, List.countP_append, List.countP_singleton]
theorem held_to_le (xs : Bs) (d : Int) (b : List UInt8) : ∀ j, j ≤ xs.length → held xs ≤ held (putTo xs d b j)
  | 0, _ => by rw [putTo_none _ _ _ _ (fun k hk => absurd hk (by omega))]; exact Nat.le_refl _
  | j + 1, hj => by
    have ih := held_to_le xs d b j (by omega)
    rw [putTo_succ _ _ _ _ (by omega)]
    have hs : (putTo xs d b j)[j]'(by rw [putTo_length]; omega) = xs[j] := by rw [putTo_at _ _ _ _ _ (by omega), if_neg (by omega)]
    cases hc : cell1 xs[j] j d b with
    | none =>
      have : xs[j] = none := by
        unfold cell1 at hc
        split at hc
        · cases hx : xs[j] with
          | none => rfl
          | some c => rw [hx] at hc; simp at hc
        · exact hc
      have e : (putTo xs d b j).set j none = putTo xs d b j := by
        rw [← this, ← hs]; exact List.set_getElem_self _
      rw [e]; exact ih
    | some c =>
      cases hx : xs[j] with
      | none => rw [held_set _ _ _ _ (by rw [hs, hx])]; omega
      | some c' =>
        have : c = c' := by
          unfold cell1 at hc
          rw [hx] at hc
          split at hc <;> simp at hc <;> exact hc.symm
        subst this
        have e : (putTo xs d b j).set j (some c) = putTo xs d b j := by
          rw [← hx, ← hs]; exact List.set_getElem_self _
        rw [e]; exact ih

/-- A buffer in memory: head g, its bytes in block gt, its marks in block gm. -/
structure Buf (w : World) (gt gm g R N : Nat) (xs : Bs) : Prop where
  head : Blk w g 74 #[.int .i64 (N : Int), .slice (some ⟨gt, 0, none⟩) R R, .slice (some ⟨gm, 0, none⟩) R R]
  tm : gt ≠ gm
  tg : gt ≠ g
  mg : gm ≠ g
  r1 : 1 ≤ R
  r2 : R ≤ 2048
  len : xs.length = R
  small : N ≤ 1099511627776
  text : ∃ ts : Array Value, Blk w gt 5 ts ∧ ts.size = R ∧ (∀ i, i < R → ∃ c : UInt8, ts[i]? = some (.int .u8 (c.toNat : Int))) ∧ ∀ k c, xs[k]? = some (some c) → ts[(N + k) % R]? = some (.int .u8 (c.toNat : Int))
  marks : ∃ ms : Array Value, Blk w gm 4 ms ∧ ms.size = R ∧ ∀ k o, xs[k]? = some o → ms[(N + k) % R]? = some (.bool o.isSome)
section
variable {w w' : World} {gt gm g R N : Nat} {xs : Bs} {S : Nat → Prop}
theorem Buf.chg (h : Buf w gt gm g R N xs) (k : Chg w w' S) (h1 : ¬ S gt) (h2 : ¬ S gm) (h3 : ¬ S g) : Buf w' gt gm g R N xs := by
  obtain ⟨ts, t1, t2⟩ := h.text
  obtain ⟨ms, m1, m2⟩ := h.marks
  exact ⟨h.head.chg k h3, h.tm, h.tg, h.mg, h.r1, h.r2, h.len, h.small, ⟨ts, t1.chg k h1, t2⟩, ⟨ms, m1.chg k h2, m2⟩⟩
theorem Buf.new (h : Buf w gt gm g R N xs) (k : Below w.heap.size w w') : Buf w' gt gm g R N xs := h.chg (Chg.of_new k fun _ => False) id id id
theorem Buf.drewN (h : Buf w gt gm g R N xs) (n : Nat) : Buf (w.drewN n) gt gm g R N xs := ⟨h.head, h.tm, h.tg, h.mg, h.r1, h.r2, h.len, h.small, h.text, h.marks⟩
theorem Buf.drew (h : Buf w gt gm g R N xs) : Buf w.drew gt gm g R N xs := ⟨h.head, h.tm, h.tg, h.mg, h.r1, h.r2, h.len, h.small, h.text, h.marks⟩
theorem Buf.lt (h : Buf w gt gm g R N xs) : gt < w.heap.size ∧ gm < w.heap.size ∧ g < w.heap.size := by
  obtain ⟨ts, t1, _⟩ := h.text
  obtain ⟨ms, m1, _⟩ := h.marks
  exact ⟨t1.lt, m1.lt, h.head.lt⟩
theorem Buf.c0 (h : Buf w gt gm g R N xs) : w.cell? ⟨g, 0, none⟩ = some (.int .i64 (N : Int)) := (h.head.cell 0).trans rfl
theorem Buf.c1 (h : Buf w gt gm g R N xs) : w.cell? ⟨g, 1, none⟩ = some (.slice (some ⟨gt, 0, none⟩) R R) := (h.head.cell 1).trans rfl
theorem Buf.c2 (h : Buf w gt gm g R N xs) : w.cell? ⟨g, 2, none⟩ = some (.slice (some ⟨gm, 0, none⟩) R R) := (h.head.cell 2).trans rfl
theorem Buf.mark (h : Buf w gt gm g R N xs) (k : Nat) (hk : k < xs.length) : w.cell? ⟨gm, (N + k) % R, none⟩ = some (.bool xs[k].isSome) := by
  obtain ⟨ms, m1, _, m3⟩ := h.marks
  rw [m1.cell, m3 k _ (List.getElem?_eq_getElem hk)]
theorem Buf.byte (h : Buf w gt gm g R N xs) (k : Nat) (hk : k < xs.length) : ∃ c : UInt8, w.cell? ⟨gt, (N + k) % R, none⟩ = some (.int .u8 (c.toNat : Int)) ∧ ∀ c', xs[k] = some c' → c' = c := by
  obtain ⟨ts, t1, t2, t3, t4⟩ := h.text
  cases hx : xs[k] with
  | none =>
    obtain ⟨c, hc⟩ := t3 ((N + k) % R) (Nat.mod_lt _ h.r1)
    exact ⟨c, by rw [t1.cell, hc], fun c' e => by cases e⟩
  | some c => exact ⟨c, by rw [t1.cell, t4 k c (by rw [List.getElem?_eq_getElem hk, hx])], fun c' e => by cases e; rfl⟩
theorem Buf.thawT (h : Buf w gt gm g R N xs) (i : Nat) : w.frozen? ⟨gt, i, none⟩ = false := by obtain ⟨_, t1, _⟩ := h.text; exact t1.frozen i
theorem Buf.thawM (h : Buf w gt gm g R N xs) (i : Nat) : w.frozen? ⟨gm, i, none⟩ = false := by obtain ⟨_, t1, _⟩ := h.marks; exact t1.frozen i
theorem Buf.thawG (h : Buf w gt gm g R N xs) (i : Nat) : w.frozen? ⟨g, i, none⟩ = false := h.head.frozen i
theorem mods {N k k' R : Nat} (hk : k < R) (hk' : k' < R) (h : k ≠ k') : (N + k) % R ≠ (N + k') % R := by
  rcases Nat.lt_or_ge k k' with h1 | h1
  · exact mod_ne _ _ _ (by omega) (by omega)
  · exact fun e => mod_ne (N + k') (N + k) R (by omega) (by omega) e.symm
/-- A byte comes to its place. -/
theorem Buf.keep (h : Buf w gt gm g R N xs) (k : Nat) (hk : k < xs.length) (c : UInt8) :
    Buf ((w.setCell ⟨gt, (N + k) % R, none⟩ (.int .u8 (c.toNat : Int))).setCell ⟨gm, (N + k) % R, none⟩ (.bool true)) gt gm g R N (xs.set k (some c)) := by
  obtain ⟨ts, t1, t2, t3, t4⟩ := h.text
  obtain ⟨ms, m1, m2, m3⟩ := h.marks
  have hl := h.len
  have hr := h.r1
  have hm : (N + k) % R < R := Nat.mod_lt _ hr
  refine ⟨(h.head.far (p := ⟨gt, _, none⟩) (fun e => h.tg e.symm) _).far (p := ⟨gm, _, none⟩) (fun e => h.mg e.symm) _, h.tm, h.tg, h.mg, h.r1, h.r2, by simpa using hl, h.small, ?_, ?_⟩
  · refine ⟨_, (t1.put ((N + k) % R) (.int .u8 (c.toNat : Int))).far (p := ⟨gm, _, none⟩) h.tm _, by simpa using t2, fun i hi => ?_, fun j c' hj => ?_⟩
    · rw [Array.getElem?_setIfInBounds]
      split
      · exact ⟨c, by rw [if_pos (by omega)]⟩
      · exact t3 i hi
    · have hjl : j < xs.length := by have := (List.getElem?_eq_some_iff.1 hj).1; simpa using this
      rw [List.getElem?_set] at hj
      rw [Array.getElem?_setIfInBounds]
      by_cases e : k = j
      · subst e
        rw [if_pos rfl, if_pos hk] at hj
        cases hj
        rw [if_pos rfl, if_pos (by omega)]
      · rw [if_neg e] at hj
        rw [if_neg (mods (by omega) (by omega) e)]
        exact t4 j c' hj
  · refine ⟨_, (m1.far (p := ⟨gt, _, none⟩) (fun e => h.tm e.symm) _).put ((N + k) % R) (.bool true), by simpa using m2, fun j o hj => ?_⟩
    have hjl : j < xs.length := by have := (List.getElem?_eq_some_iff.1 hj).1; simpa using this
    rw [List.getElem?_set] at hj
    rw [Array.getElem?_setIfInBounds]
    by_cases e : k = j
    · subst e
      rw [if_pos rfl, if_pos hk] at hj
      cases hj
      rw [if_pos rfl, if_pos (by omega)]
      rfl
    · rw [if_neg e] at hj
      rw [if_neg (mods (by omega) (by omega) e)]
      exact m3 j o hj
/-- A byte goes. -/
theorem Buf.clear (h : Buf w gt gm g R N xs) (k : Nat) (hk : k < xs.length) : Buf (w.setCell ⟨gm, (N + k) % R, none⟩ (.bool false)) gt gm g R N (xs.set k none) := by
  obtain ⟨ts, t1, t2, t3, t4⟩ := h.text
  obtain ⟨ms, m1, m2, m3⟩ := h.marks
  have hl := h.len
  have hr := h.r1
  have hm : (N + k) % R < R := Nat.mod_lt _ hr
  refine ⟨h.head.far (p := ⟨gm, _, none⟩) (fun e => h.mg e.symm) _, h.tm, h.tg, h.mg, h.r1, h.r2, by simpa using hl, h.small, ⟨ts, t1.far (p := ⟨gm, _, none⟩) h.tm _, t2, t3, fun j c' hj => ?_⟩, ?_⟩
  · rw [List.getElem?_set] at hj
    by_cases e : k = j
    · subst e; rw [if_pos rfl, if_pos hk] at hj; cases hj
    · rw [if_neg e] at hj; exact t4 j c' hj
  · refine ⟨_, m1.put ((N + k) % R) (.bool false), by simpa using m2, fun j o hj => ?_⟩
    have hjl : j < xs.length := by have := (List.getElem?_eq_some_iff.1 hj).1; simpa using this
    rw [List.getElem?_set] at hj
    rw [Array.getElem?_setIfInBounds]
    by_cases e : k = j
    · subst e
      rw [if_pos rfl, if_pos hk] at hj
      cases hj
      rw [if_pos rfl, if_pos (by omega)]
      rfl
    · rw [if_neg e] at hj
      rw [if_neg (mods (by omega) (by omega) e)]
      exact m3 j o hj
/-- Next goes on over places that are without a byte. -/
theorem Buf.turn (h : Buf w gt gm g R N xs) (n : Nat) (hn : n ≤ R) (hf : ∀ k, k < n → xs[k]? = some none) (hs : N + n ≤ 1099511627776) : Buf (w.setCell ⟨g, 0, none⟩ (.int .i64 ((N + n : Nat) : Int))) gt gm g R (N + n) (xs.drop n ++ List.replicate n none) := by
  obtain ⟨ts, t1, t2, t3, t4⟩ := h.text
  obtain ⟨ms, m1, m2, m3⟩ := h.marks
  have hl := h.len
  have hr := h.r1
  refine ⟨h.head.put 0 _, h.tm, h.tg, h.mg, h.r1, h.r2, by simp; omega, hs, ⟨ts, t1.far (p := ⟨g, 0, none⟩) h.tg _, t2, t3, fun j c' hj => ?_⟩, ⟨ms, m1.far (p := ⟨g, 0, none⟩) h.mg _, m2, fun j o hj => ?_⟩⟩
  · rw [List.getElem?_append, List.length_drop] at hj
    split at hj
    · rename_i hlt
      rw [List.getElem?_drop] at hj
      have := t4 (n + j) c' hj
      rwa [← Nat.add_assoc] at this
    · rw [List.getElem?_replicate] at hj
      split at hj <;> cases hj
  · rw [List.getElem?_append, List.length_drop] at hj
    split at hj
    · rename_i hlt
      rw [List.getElem?_drop] at hj
      have := m3 (n + j) o hj
      rwa [← Nat.add_assoc] at this
    · rename_i hge
      rw [List.getElem?_replicate] at hj
      split at hj
      · rename_i hlt
        cases hj
        have e1 : N + n + j = N + (n + j - R) + R := by omega
        rw [e1, Nat.add_mod_right]
        exact m3 (n + j - R) none (hf _ (by omega))
      · cases hj
end

/-- Bytes that lie elsewhere. -/
theorem src_chg {w w' : World} {A : Option Addr} {n c : Nat} {l : List UInt8} {S : Nat → Prop} (h : Src w A n c l) (k : Chg w w' S) (hn : 0 < n → ∀ a, A = some a → ¬ S a.block) : Src w' A n c l := by
  refine ⟨⟨fun hp => ?_, h.len, h.cap, h.max⟩, h.none_⟩
  have h0 : 0 < n := by rw [bys_length] at hp; have := h.len; omega
  obtain ⟨b, o, rfl, hb, hc⟩ := h.lies hp
  refine ⟨b, o, rfl, Nat.lt_of_lt_of_le hb k.size, fun j hj => ?_⟩
  rw [World.cell?_of_block (w := w) (w' := w') (a := ⟨b, o + j, none⟩) (k.block b hb (hn h0 _ rfl))]
  exact hc j hj
theorem src_lt {w : World} {A : Option Addr} {n c : Nat} {l : List UInt8} (h : Src w A n c l) (h0 : 0 < n) : ∀ x, A = some x → x.block < w.heap.size := by
  obtain ⟨b, o, rfl, hb, hc⟩ := h.lies (by rw [bys_length]; have := h.len; omega)
  intro x e
  cases e
  exact hb
end Go.Proofs.Ytldmcoagjgeeoaa.Ra
