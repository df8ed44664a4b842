/- The document's line in plain words and in memory. Conditions: those that each states. -/
import Derived.Test.YtgmejifacpefdaaSnV
import Derived.Test.YtgmejifacpefdaaGr0
namespace Go.Proofs.Ytgmejifacpefdaa.Sn
open Go.ChangeShapes Go.WideShapes Go.ChangeAt Go.RowKit Go.Deep Rk Rv Gx
set_option linter.unusedVariables false
set_option linter.unusedSimpArgs false

/-- A byte that waits: its frame, its place, whether it is its piece's last one. -/
structure By where
  frame : Int
  off : Int
  last : Bool
def By.cells (b : By) : List Value := [.int .i64 b.frame, .int .i64 b.off, .bool b.last]
theorem By.len (b : By) : b.cells.length = 3 := rfl
def byP (p : Pc) (k : Nat) : By := ⟨p.frame, p.off + k, decide (k + 1 = p.len.toNat)⟩
def bytesP (p : Pc) : List By := (List.range p.len.toNat).map (byP p)
def bb (l : List Pc) : List By := l.flatMap bytesP
def flatB (L : List By) : List Value := L.flatMap By.cells
theorem flatB_length (L : List By) : (flatB L).length = L.length * 3 := flatG_length By.len L
theorem flatB_snoc (L : List By) (b : By) : flatB (L ++ [b]) = flatB L ++ b.cells := by unfold flatB; simp
theorem flatB_drop (L : List By) (k : Nat) : flatB (L.drop k) = (flatB L).drop (k * 3) := by
  induction L generalizing k with
  | nil => simp [flatB]
  | cons p L ih =>
    cases k with
    | zero => simp
    | succ k =>
      rw [List.drop_succ_cons, ih, Nat.succ_mul, Nat.add_comm]
      show _ = List.drop (3 + k * 3) (p.cells ++ flatB L)
      rw [List.drop_append, show p.cells.length = 3 from rfl, List.drop_of_length_le (l := p.cells) (by show 3 ≤ _; omega), Nat.add_sub_cancel_left, List.nil_append]
theorem bytesP_length (p : Pc) : (bytesP p).length = p.len.toNat := by simp [bytesP]
theorem bb_cons (p : Pc) (l : List Pc) : bb (p :: l) = bytesP p ++ bb l := by unfold bb; rw [List.flatMap_cons]
theorem bb_append (l r : List Pc) : bb (l ++ r) = bb l ++ bb r := by unfold bb; rw [List.flatMap_append]
theorem bb_length (l : List Pc) : (bb l).length = total l := by
  induction l with
  | nil => rfl
  | cons p l ih => rw [bb_cons, List.length_append, ih, bytesP_length]; rfl
theorem bytesP_at (p : Pc) (k : Nat) (hk : k < (bytesP p).length) : (bytesP p)[k] = byP p k := by simp [bytesP]
theorem bytesP_drop (p : Pc) (k : Nat) (hk : (k : Int) ≤ p.len) : (bytesP p).drop k = bytesP (less p k) := by
  apply List.ext_getElem
  · rw [List.length_drop, bytesP_length, bytesP_length]; unfold less; dsimp only; omega
  · intro i h1 h2
    rw [List.length_drop, bytesP_length] at h1
    rw [List.getElem_drop, bytesP_at, bytesP_at]
    unfold byP less
    dsimp only
    congr 1
    · omega
    · exact decide_eq_decide.2 (by omega)
theorem bb_drop : ∀ (l : List Pc) (k : Nat), (∀ p ∈ l, 1 ≤ p.len) → bb (ackR l k) = (bb l).drop k
  | [], k, h => by simp [ackR, bb]
  | p :: l, k, h => by
    have hp := h p (by simp)
    have hlen := bytesP_length p
    unfold ackR
    split
    · rename_i hk
      rw [bb_drop l _ (fun q hq => h q (by simp [hq])), bb_cons, List.drop_append, List.drop_of_length_le (l := bytesP p) (by omega), List.nil_append, hlen]
    · rename_i hk
      split
      · subst_vars; rfl
      · rw [bb_cons, bb_cons, ← bytesP_drop p k (by omega), List.drop_append_of_le_length (by omega)]
def lastsV (L : List By) : List Value := (L.filter (·.last)).map fun b => .int .i64 b.frame
theorem lastsV_append (L M : List By) : lastsV (L ++ M) = lastsV L ++ lastsV M := by unfold lastsV; rw [List.filter_append, List.map_append]
theorem lastsV_front (p : Pc) (k : Nat) (hk : k < p.len.toNat) : lastsV ((bytesP p).take k) = [] := by
  unfold lastsV
  rw [List.map_eq_nil_iff, List.filter_eq_nil_iff]
  intro b hb
  obtain ⟨i, hi, rfl⟩ := List.mem_iff_getElem.1 hb
  rw [List.length_take, bytesP_length] at hi
  rw [List.getElem_take, bytesP_at]
  unfold byP
  simp only [decide_eq_true_eq]
  omega
theorem lastsV_bytes (p : Pc) (h : 1 ≤ p.len) : lastsV (bytesP p) = [.int .i64 p.frame] := by
  have hl := bytesP_length p
  have e : bytesP p = (bytesP p).take (p.len.toNat - 1) ++ [byP p (p.len.toNat - 1)] := by
    have h1 : p.len.toNat - 1 < (bytesP p).length := by omega
    have := List.take_succ_eq_append_getElem h1
    rw [show p.len.toNat - 1 + 1 = (bytesP p).length by omega, List.take_length, bytesP_at] at this
    exact this
  rw [e, lastsV_append, lastsV_front p _ (by omega)]
  unfold lastsV byP
  rw [List.filter_cons_of_pos (by simp; omega)]
  rfl
theorem lastsV_bb : ∀ (l : List Pc), (∀ p ∈ l, 1 ≤ p.len) → lastsV (bb l) = frsV l
  | [], h => rfl
  | p :: l, h => by
    rw [bb_cons, lastsV_append, lastsV_bytes p (h p (by simp)), lastsV_bb l (fun q hq => h q (by simp [hq]))]
    rfl
theorem lastsV_take : ∀ (l : List Pc) (k : Nat), (∀ p ∈ l, 1 ≤ p.len) → lastsV ((bb l).take k) = frsV (l.take (gone l k))
  | [], k, h => by simp [gone, bb, lastsV, frsV]
  | p :: l, k, h => by
    have hp := h p (by simp)
    have hlen := bytesP_length p
    rw [bb_cons, List.take_append, lastsV_append]
    unfold gone
    split
    · rename_i hk
      rw [List.take_of_length_le (by omega), lastsV_bytes p hp, hlen, lastsV_take l _ (fun q hq => h q (by simp [hq]))]
      rfl
    · rename_i hk
      rw [lastsV_front p k (by omega), show k - (bytesP p).length = 0 by omega]
      rfl
theorem count_bb (l : List Pc) (h : ∀ p ∈ l, 1 ≤ p.len) : (bb l).countP (·.last) = l.length := by
  have := congrArg List.length (lastsV_bb l h)
  rw [frsV_length] at this
  unfold lastsV at this
  rw [List.length_map] at this
  rw [List.countP_eq_length_filter]
  exact this
theorem lastsV_one (L : List By) : ∀ u ∈ lastsV L, u.oneCell' = true := by
  intro u hu
  obtain ⟨s, _, rfl⟩ := List.mem_map.1 hu
  rfl

/-- One byte more of what is cut. -/
def inc (q : Pc) : Pc := ⟨q.frame, q.off, q.len + 1⟩
def bump (o : List Pc) : List Pc := match o.getLast? with | none => [] | some q => o.dropLast ++ [inc q]
theorem bump_snoc (o : List Pc) (q : Pc) : bump (o ++ [q]) = o ++ [inc q] := by unfold bump; simp
def stepB (s : List Pc × Bool) (b : By) : List Pc × Bool := (bump (if s.2 then s.1 else s.1 ++ [⟨b.frame, b.off, 0⟩]), !b.last)
def foldB (s : List Pc × Bool) (L : List By) : List Pc × Bool := L.foldl stepB s
theorem foldB_append (s : List Pc × Bool) (L M : List By) : foldB s (L ++ M) = foldB (foldB s L) M := by unfold foldB; rw [List.foldl_append]
theorem seg_fold (p : Pc) (s : Nat) (out : List Pc) : ∀ t : Nat, s + t ≤ p.len.toNat → foldB (out, false) ((List.range t).map fun k => byP p (s + k)) = if t = 0 then (out, false) else (out ++ [⟨p.frame, p.off + s, t⟩], !decide (s + t = p.len.toNat))
  | 0, _ => by simp [foldB]
  | t + 1, h => by
    rw [List.range_succ, List.map_append, foldB_append, seg_fold p s out t (by omega), if_neg (show ¬ t + 1 = 0 by omega)]
    unfold foldB
    rw [List.map_singleton, List.foldl_cons, List.foldl_nil]
    unfold stepB
    by_cases e : t = 0
    · subst e
      rw [if_pos rfl]
      dsimp only
      rw [if_neg (by simp), bump_snoc]
      unfold inc byP
      dsimp only
      simp
    · rw [if_neg e]
      dsimp only
      rw [if_pos (by simp; omega), bump_snoc]
      unfold inc byP
      dsimp only
      rw [show s + t + 1 = s + (t + 1) by omega, Int.natCast_add]
      rfl
theorem seg_eq (p : Pc) (a n : Nat) : ((bytesP p).drop a).take n = (List.range (min n (p.len.toNat - min a p.len.toNat))).map fun k => byP p (min a p.len.toNat + k) := by
  have hl := bytesP_length p
  apply List.ext_getElem
  · simp only [List.length_take, List.length_drop, List.length_map, List.length_range, hl]; omega
  · intro i h1 h2
    simp only [List.length_map, List.length_range] at h2
    rw [List.getElem_take, List.getElem_drop, bytesP_at, List.getElem_map, List.getElem_range, show min a p.len.toNat = a by omega]
theorem fold_cut : ∀ (l : List Pc) (a n : Nat) (out : List Pc), (foldB (out, false) (((bb l).drop a).take n)).1 = out ++ cutL l a n
  | [], a, n, out => by simp [bb, foldB, cutL]
  | p :: l, a, n, out => by
    have hl := bytesP_length p
    have e1 : ((bb (p :: l)).drop a).take n = ((bytesP p).drop a).take n ++ ((bb l).drop (a - min a p.len.toNat)).take (n - min n (p.len.toNat - min a p.len.toNat)) := by
      rw [bb_cons, List.drop_append, List.take_append, List.length_drop, hl]
      congr 2
      · omega
      · congr 1; omega
    rw [e1, seg_eq, foldB_append, cutL_cons]
    generalize hs : min a p.len.toNat = s at *
    generalize ht : min n (p.len.toNat - s) = t at *
    rw [seg_fold p s out t (by omega)]
    by_cases e : t = 0
    · rw [if_pos e, if_neg (by omega), List.nil_append]
      exact fold_cut l _ _ out
    · rw [if_neg e, if_pos (by omega)]
      by_cases e2 : s + t = p.len.toNat
      · rw [decide_eq_true e2, Bool.not_true, fold_cut l _ _ _, List.append_assoc]
      · rw [show n - t = 0 by omega, List.take_zero, cutL_zero, List.append_nil]
        rfl
theorem step_ne (s : List Pc × Bool) (b : By) (h : s.2 = true → s.1 ≠ []) : (stepB s b).1 ≠ [] := by
  unfold stepB
  obtain ⟨o, f⟩ := s
  cases f with
  | false =>
    dsimp only
    rw [if_neg (by simp), bump_snoc]
    simp
  | true =>
    dsimp only
    rw [if_pos rfl]
    obtain ⟨o', q, rfl⟩ : ∃ o' q, o = o' ++ [q] := ⟨o.dropLast, o.getLast (h rfl), (List.dropLast_concat_getLast _).symm⟩
    rw [bump_snoc]
    simp
theorem fold_ne (s : List Pc × Bool) (hs : s.2 = true → s.1 ≠ []) : ∀ L : List By, (foldB s L).2 = true → (foldB s L).1 ≠ [] := by
  intro L
  induction L generalizing s with
  | nil => exact hs
  | cons b L ih => exact ih (stepB s b) (fun _ => step_ne s b hs)
theorem mem_total {l : List Pc} {q : Pc} (h : q ∈ l) : q.len.toNat ≤ total l := by
  induction l with
  | nil => cases h
  | cons p l ih =>
    rcases List.mem_cons.1 h with rfl | h
    · show _ ≤ q.len.toNat + _; omega
    · have := ih h; show _ ≤ p.len.toNat + _; omega

/-- The document's line in memory: its footprint F, its head g. -/
structure DLine (w : World) (F : Nat → Prop) (g : Nat) (L : List By) (st : Nat) : Prop where
  ex : ∃ A c, Blk w g 30 #[.int .i64 (st : Int), .slice A L.length c] ∧ RowV w 66 3 A L.length c (flatB L) ∧ ∀ k, inR A k → k ≠ g ∧ F k
  fg : F g
  lt : ∀ k, F k → k < w.heap.size
  small : st ≤ 1000000000
section
variable {w w' : World} {F S : Nat → Prop} {g st : Nat} {L : List By}
theorem DLine.chg (h : DLine w F g L st) (k : Chg w w' S) (hn : ∀ i, F i → ¬ S i) : DLine w' F g L st := by
  obtain ⟨A, c, h1, h2, h3⟩ := h.ex
  exact ⟨⟨A, c, h1.chg k (hn g h.fg), h2.chg k (fun a e => hn _ (h3 _ ⟨a, e, rfl⟩).2), h3⟩, h.fg, fun i hi => Nat.lt_of_lt_of_le (h.lt i hi) k.size, h.small⟩
theorem DLine.new (h : DLine w F g L st) (k : Below w.heap.size w w') : DLine w' F g L st := h.chg (Chg.of_new k fun _ => False) (fun _ _ => id)
theorem DLine.drewN (h : DLine w F g L st) (m : Nat) : DLine (w.drewN m) F g L st := h.chg (S := fun _ => False) ((Chg.refl _ _).drewN m) (fun _ _ => id)
theorem byte_at {A : Option Addr} {c : Nat} (h : RowV w 66 3 A L.length c (flatB L)) {i : Nat} (hi : i < L.length) : ∃ b o, A = some ⟨b, o, none⟩ ∧ b < w.heap.size ∧ w.cell? ⟨b, o + i * 3, none⟩ = some (.int .i64 L[i].frame) ∧ w.cell? ⟨b, o + i * 3 + 1, none⟩ = some (.int .i64 L[i].off) ∧ w.cell? ⟨b, o + i * 3 + 2, none⟩ = some (.bool L[i].last) := by
  obtain ⟨b, o, e, hb, c0⟩ := rowG_at By.len h.toG hi (j := 0) (by decide)
  obtain ⟨b1, o1, e1, _, c1⟩ := rowG_at By.len h.toG hi (j := 1) (by decide)
  obtain ⟨b2, o2, e2, _, c2⟩ := rowG_at By.len h.toG hi (j := 2) (by decide)
  rw [e] at e1 e2
  cases e1
  cases e2
  exact ⟨b, o, e, hb, c0, c1, c2⟩
end
end Go.Proofs.Ytgmejifacpefdaa.Sn
