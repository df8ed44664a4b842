/- Names, targets, kinds, in plain words; no program's run in this text. No condition. -/
import Derived.Test.YtjjoohmfeglicaaDoorGen
namespace Go.Proofs.YtjjoohmfeglicaaDoor.Pt
/-- The bytes of segments. -/
def plainC (c : UInt8) : Bool := (97 ≤ c && c ≤ 122) || (65 ≤ c && c ≤ 90) || (48 ≤ c && c ≤ 57) || c == 46 || c == 45 || c == 95
def segB (l : List UInt8) : Bool := l != [] && l != [46] && l != [46, 46] && l.all plainC
/-- What stands between the strokes. -/
def segs : List UInt8 → List (List UInt8)
  | [] => [[]]
  | b :: t => if b = 47 then [] :: segs t else (match segs t with | x :: r => (b :: x) :: r | [] => [[b]])
theorem segs_cons (b : UInt8) (t : List UInt8) : segs (b :: t) = if b = 47 then [] :: segs t else (match segs t with | x :: r => (b :: x) :: r | [] => [[b]]) := rfl
theorem segs_ne (l : List UInt8) : segs l ≠ [] := by
  cases l with
  | nil => simp [segs]
  | cons b t =>
    rw [segs_cons]
    split
    · simp
    · split <;> simp
theorem segs_none {l : List UInt8} (h : (47 : UInt8) ∉ l) : segs l = [l] := by
  induction l with
  | nil => rfl
  | cons b t ih =>
    simp only [List.mem_cons, not_or] at h
    rw [segs_cons, if_neg (fun e => h.1 e.symm), ih h.2]
theorem segs_at {l r : List UInt8} (h : (47 : UInt8) ∉ l) : segs (l ++ 47 :: r) = l :: segs r := by
  induction l with
  | nil => show segs (47 :: r) = _; rw [segs_cons, if_pos rfl]
  | cons b t ih =>
    simp only [List.mem_cons, not_or] at h
    show segs (b :: (t ++ 47 :: r)) = _
    rw [segs_cons, if_neg (fun e => h.1 e.symm), ih h.2]
def nameB (l : List UInt8) : Bool := decide (l.length ≤ 24) && (segs l).all segB
def hexV (c : UInt8) : Option Nat :=
  if 48 ≤ c ∧ c ≤ 57 then some (c.toNat - 48) else if 97 ≤ c ∧ c ≤ 102 then some (c.toNat - 87) else if 65 ≤ c ∧ c ≤ 70 then some (c.toNat - 55) else none
/-- What two digits of base 16 stand for; a stroke they may not. -/
def twoV (a b : UInt8) : Option UInt8 :=
  match hexV a, hexV b with
  | some x, some y => if 16 * x + y = 47 then none else some (UInt8.ofNat (16 * x + y))
  | _, _ => none
/-- The byte for which a beginning stands, and what is behind it. -/
def firstR : List UInt8 → Option (UInt8 × List UInt8)
  | [] => none
  | c :: t => if c = 37 then (match t with | a :: b :: r => (twoV a b).map fun x => (x, r) | _ => none) else some (c, t)
theorem firstR_pct (t : List UInt8) : firstR (37 :: t) = (match t with | a :: b :: r => (twoV a b).map fun x => (x, r) | _ => none) := rfl
theorem firstR_plain {c : UInt8} (h : c ≠ 37) (t : List UInt8) : firstR (c :: t) = some (c, t) := by
  show (if c = 37 then _ else _) = _
  rw [if_neg h]
theorem firstR_lt {l : List UInt8} {c : UInt8} {r : List UInt8} (h : firstR l = some (c, r)) : r.length < l.length := by
  cases l with
  | nil => cases h
  | cons b t =>
    by_cases e : b = 37
    · subst e
      rw [firstR_pct] at h
      match t, h with
      | [], h => cases h
      | [_], h => cases h
      | x :: y :: z, h =>
        have h : (twoV x y).map (fun v => (v, z)) = some (c, r) := h
        cases e : twoV x y with
        | none => rw [e] at h; cases h
        | some v => rw [e] at h; cases h; simp; omega
    · rw [firstR_plain e] at h; cases h; simp
def unescN : Nat → List UInt8 → Option (List UInt8)
  | 0, _ => some []
  | n + 1, l => if l = [] then some [] else match firstR l with | some (c, r) => (unescN n r).map (c :: ·) | none => none
theorem unescN_more (n m : Nat) (l : List UInt8) (h : l.length ≤ n) (k : n ≤ m) : unescN m l = unescN n l := by
  induction n generalizing m l with
  | zero =>
    have : l = [] := List.length_eq_zero_iff.1 (by omega)
    subst this
    cases m <;> simp [unescN]
  | succ n ih =>
    cases m with
    | zero => omega
    | succ m =>
      unfold unescN
      by_cases e : l = []
      · rw [if_pos e, if_pos e]
      · rw [if_neg e, if_neg e]
        cases hf : firstR l with
        | none => rfl
        | some p =>
          obtain ⟨c, r⟩ := p
          have := firstR_lt hf
          show (unescN m r).map _ = (unescN n r).map _
          rw [ih m r (by omega) (by omega)]
def unesc (l : List UInt8) : Option (List UInt8) := unescN l.length l
theorem unesc_nil : unesc [] = some [] := rfl
theorem unesc_step {l : List UInt8} (h : l ≠ []) : unesc l = (match firstR l with | some (c, r) => (unesc r).map (c :: ·) | none => none) := by
  cases l with
  | nil => exact absurd rfl h
  | cons b t =>
    show unescN (t.length + 1) (b :: t) = _
    unfold unescN
    rw [if_neg h]
    cases hf : firstR (b :: t) with
    | none => rfl
    | some p =>
      obtain ⟨c, r⟩ := p
      have hl := firstR_lt hf
      show (unescN t.length r).map _ = (unesc r).map _
      unfold unesc
      rw [unescN_more r.length t.length r (Nat.le_refl _) (by simp at hl; omega)]
/-- "index.html". -/
def indexT : List UInt8 := [105, 110, 100, 101, 120, 46, 104, 116, 109, 108]
def asked (s : List UInt8) : List UInt8 := s.takeWhile (· != 63)
def nameOf (r : List UInt8) : List UInt8 × Int := match unesc r with | some n => if nameB n = true then (n, 0) else ([], 70) | none => ([], 70)
def ofR (s : List UInt8) : List UInt8 × Int :=
  if 128 < s.length then ([], 2) else
  match asked s with
  | [] => ([], 70)
  | c :: r => if c = 47 then (if r = [] then (indexT, 0) else nameOf r) else ([], 70)
def targetR (s : List UInt8) : List UInt8 × Int := if nameB s = true then (47 :: s, 0) else ([], 70)
/-! Names. -/
theorem mem_segs {l : List UInt8} {c : UInt8} (h : c ∈ l) : c = 47 ∨ ∃ x ∈ segs l, c ∈ x := by
  induction l with
  | nil => cases h
  | cons b t ih =>
    by_cases e : b = 47
    · subst e
      rcases List.mem_cons.1 h with h1 | h1
      · exact .inl h1
      · rcases ih h1 with h2 | ⟨x, hx, hc⟩
        · exact .inl h2
        · exact .inr ⟨x, by rw [segs_cons, if_pos rfl]; exact List.mem_cons_of_mem _ hx, hc⟩
    · have hs : segs (b :: t) = (match segs t with | x :: r => (b :: x) :: r | [] => [[b]]) := by rw [segs_cons, if_neg e]
      cases hq : segs t with
      | nil => exact absurd hq (segs_ne t)
      | cons x r =>
        rw [hq] at hs ih
        rw [hs]
        rcases List.mem_cons.1 h with h1 | h1
        · exact .inr ⟨b :: x, by simp, by simp [h1]⟩
        · rcases ih h1 with h2 | ⟨y, hy, hc⟩
          · exact .inl h2
          · rcases List.mem_cons.1 hy with h3 | h3
            · exact .inr ⟨b :: x, by simp, by rw [← h3]; simp [hc]⟩
            · exact .inr ⟨y, by simp [h3], hc⟩
theorem name_mem {l : List UInt8} (h : nameB l = true) {c : UInt8} (hc : c ∈ l) : c = 47 ∨ plainC c = true := by
  unfold nameB at h
  simp only [Bool.and_eq_true, List.all_eq_true, decide_eq_true_eq] at h
  rcases mem_segs hc with h1 | ⟨x, hx, h1⟩
  · exact .inl h1
  · have := h.2 x hx
    unfold segB at this
    simp only [Bool.and_eq_true, List.all_eq_true] at this
    exact .inr (this.2 c h1)
theorem name_ne {l : List UInt8} (h : nameB l = true) : l ≠ [] := by
  rintro rfl
  revert h
  decide
theorem name_len {l : List UInt8} (h : nameB l = true) : l.length ≤ 24 := by
  unfold nameB at h
  simp only [Bool.and_eq_true, decide_eq_true_eq] at h
  exact h.1
theorem plain_37 : plainC 37 = false := by decide
theorem plain_63 : plainC 63 = false := by decide
theorem unesc_plain {l : List UInt8} (h : ∀ c ∈ l, c ≠ 37) : unesc l = some l := by
  induction l with
  | nil => rfl
  | cons b t ih =>
    rw [unesc_step (by simp)]
    have hb : b ≠ 37 := h b (by simp)
    rw [firstR_plain hb]
    show (unesc t).map _ = _
    rw [ih (fun c hc => h c (by simp [hc]))]
    rfl
theorem name_37 {l : List UInt8} (h : nameB l = true) {c : UInt8} (hc : c ∈ l) : c ≠ 37 ∧ c ≠ 63 := by
  constructor
  · rintro rfl
    rcases name_mem h hc with h1 | h1
    · revert h1; decide
    · rw [plain_37] at h1; cases h1
  · rintro rfl
    rcases name_mem h hc with h1 | h1
    · revert h1; decide
    · rw [plain_63] at h1; cases h1
theorem nameOf_name {l : List UInt8} (h : nameB l = true) : nameOf l = (l, 0) := by
  unfold nameOf
  rw [unesc_plain (fun c hc => (name_37 h hc).1)]
  show (if nameB l = true then _ else _) = _
  rw [if_pos h]
theorem asked_name {l q : List UInt8} (h : nameB l = true) : asked (47 :: l) = 47 :: l ∧ asked (47 :: (l ++ 63 :: q)) = 47 :: l := by
  have h1 : ∀ c ∈ l, (c != 63) = true := fun c hc => by simpa using (name_37 h hc).2
  unfold asked
  constructor
  · rw [List.takeWhile_cons_of_pos (by decide)]
    have := List.takeWhile_append_of_pos (p := (· != 63)) (l₁ := l) (l₂ := []) h1
    rw [List.append_nil] at this
    rw [this]
    simp
  · rw [List.takeWhile_cons_of_pos (by decide), List.takeWhile_append_of_pos h1, List.takeWhile_cons_of_neg (by decide), List.append_nil]
theorem of_back {l q : List UInt8} (h : nameB l = true) (hq : q.length ≤ 100) : ofR (47 :: l) = (l, 0) ∧ ofR (47 :: (l ++ 63 :: q)) = (l, 0) := by
  have hn := name_len h
  obtain ⟨a1, a2⟩ := asked_name (q := q) h
  have hne := name_ne h
  constructor
  · unfold ofR
    rw [if_neg (by simp; omega), a1]
    show (if (47 : UInt8) = 47 then _ else _) = _
    rw [if_pos rfl, if_neg hne, nameOf_name h]
  · unfold ofR
    rw [if_neg (by simp; omega), a2]
    show (if (47 : UInt8) = 47 then _ else _) = _
    rw [if_pos rfl, if_neg hne, nameOf_name h]
theorem of_tells (s : List UInt8) : ((ofR s).2 = 0 → nameB (ofR s).1 = true) ∧ ((ofR s).2 ≠ 0 → (ofR s).1 = []) := by
  have hn : ∀ r, ((nameOf r).2 = 0 → nameB (nameOf r).1 = true) ∧ ((nameOf r).2 ≠ 0 → (nameOf r).1 = []) := by
    intro r
    unfold nameOf
    split
    · split
      · rename_i h; exact ⟨fun _ => h, fun h2 => absurd rfl h2⟩
      · exact ⟨fun h => absurd h (by decide), fun _ => rfl⟩
    · exact ⟨fun h => absurd h (by decide), fun _ => rfl⟩
  unfold ofR
  split
  · exact ⟨fun h => absurd h (by decide), fun _ => rfl⟩
  · split
    · exact ⟨fun h => absurd h (by decide), fun _ => rfl⟩
    · split
      · split
        · exact ⟨fun _ => by decide, fun h => absurd rfl h⟩
        · exact hn _
      · exact ⟨fun h => absurd h (by decide), fun _ => rfl⟩

/-! The document's way through a name. -/
def nameScan : List UInt8 → List UInt8 → Bool
  | part, [] => segB part
  | part, c :: t => if c = 47 then segB part && nameScan [] t else plainC c && nameScan (part ++ [c]) t
theorem segB_plain {x : List UInt8} (h : segB x = true) : ∀ c ∈ x, plainC c = true := by
  unfold segB at h
  simp only [Bool.and_eq_true, List.all_eq_true] at h
  exact h.2
theorem scan_segs (l : List UInt8) (part : List UInt8) (hp : ∀ c ∈ part, plainC c = true) : nameScan part l = (match segs l with | x :: r => (part ++ x) :: r | [] => [part]).all segB := by
  induction l generalizing part with
  | nil => simp [nameScan, segs]
  | cons b t ih =>
    show (if b = 47 then segB part && nameScan [] t else plainC b && nameScan (part ++ [b]) t) = _
    rw [segs_cons]
    by_cases e : b = 47
    · rw [if_pos e, if_pos e, ih [] (by simp)]
      cases hq : segs t with
      | nil => exact absurd hq (segs_ne t)
      | cons x r => simp
    · rw [if_neg e, if_neg e]
      cases hb : plainC b with
      | true =>
        rw [ih (part ++ [b]) (fun c hc => by
          rcases List.mem_append.1 hc with h1 | h1
          · exact hp c h1
          · rw [List.mem_singleton.1 h1]; exact hb)]
        cases hq : segs t with
        | nil => exact absurd hq (segs_ne t)
        | cons x r => simp
      | false =>
        cases hq : segs t with
        | nil => exact absurd hq (segs_ne t)
        | cons x r =>
          have : segB (part ++ b :: x) = false := by
            cases hs : segB (part ++ b :: x) with
            | false => rfl
            | true =>
              have := segB_plain hs b (by simp)
              rw [hb] at this; cases this
          simp [this]
theorem scan_name (l : List UInt8) : (decide (l.length ≤ 24) && nameScan [] l) = nameB l := by
  rw [scan_segs l [] (by simp)]
  unfold nameB
  cases hq : segs l with
  | nil => exact absurd hq (segs_ne l)
  | cons x r => simp
/-! Kinds. -/
def unknownT : List UInt8 := [97, 112, 112, 108, 105, 99, 97, 116, 105, 111, 110, 47, 111, 99, 116, 101, 116, 45, 115, 116, 114, 101, 97, 109]
def kindE (e : List UInt8) : List UInt8 :=
  if e = [104, 116, 109, 108] then [116, 101, 120, 116, 47, 104, 116, 109, 108]
  else if e = [116, 120, 116] then [116, 101, 120, 116, 47, 112, 108, 97, 105, 110]
  else if e = [99, 115, 115] then [116, 101, 120, 116, 47, 99, 115, 115]
  else if e = [106, 115] then [116, 101, 120, 116, 47, 106, 97, 118, 97, 115, 99, 114, 105, 112, 116]
  else if e = [112, 110, 103] then [105, 109, 97, 103, 101, 47, 112, 110, 103]
  else if e = [106, 115, 111, 110] then [97, 112, 112, 108, 105, 99, 97, 116, 105, 111, 110, 47, 106, 115, 111, 110]
  else unknownT
theorem kindE_slash {e : List UInt8} (h : (47 : UInt8) ∈ e) : kindE e = unknownT := by
  have ne : ∀ x : List UInt8, (47 : UInt8) ∉ x → ¬ e = x := fun x hx he => hx (he ▸ h)
  unfold kindE
  rw [if_neg (ne _ (by decide)), if_neg (ne _ (by decide)), if_neg (ne _ (by decide)), if_neg (ne _ (by decide)), if_neg (ne _ (by decide)), if_neg (ne _ (by decide))]
/-- What stands behind the last dot. -/
def endOf : List UInt8 → Option (List UInt8)
  | [] => none
  | c :: t => match endOf t with | some e => some e | none => if c = 46 then some t else none
theorem endOf_none {l : List UInt8} : endOf l = none ↔ (46 : UInt8) ∉ l := by
  induction l with
  | nil => simp [endOf]
  | cons c t ih =>
    show (match endOf t with | some e => some e | none => if c = 46 then some t else none) = none ↔ _
    cases h : endOf t with
    | some e =>
      have : ¬ (46 : UInt8) ∉ t := fun hn => by rw [ih.2 hn] at h; cases h
      simp only [List.mem_cons, not_or]
      constructor
      · intro hh; cases hh
      · intro hh; exact absurd hh.2 this
    | none =>
      have hn := ih.1 h
      by_cases e : c = 46
      · simp [e]
      · have e' : ¬ (46 : UInt8) = c := fun q => e q.symm
        simp [e, e', hn]
theorem endOf_at {a e : List UInt8} (h : (46 : UInt8) ∉ e) : endOf (a ++ 46 :: e) = some e := by
  induction a with
  | nil =>
    show (match endOf e with | some x => some x | none => if (46 : UInt8) = 46 then some e else none) = _
    rw [endOf_none.2 h]; rfl
  | cons c t ih =>
    show (match endOf (t ++ 46 :: e) with | some x => some x | none => _) = _
    rw [ih]
theorem endOf_form {l e : List UInt8} (h : endOf l = some e) : ∃ a, l = a ++ 46 :: e ∧ (46 : UInt8) ∉ e := by
  induction l generalizing e with
  | nil => cases h
  | cons c t ih =>
    have h' : (match endOf t with | some x => some x | none => if c = 46 then some t else none) = some e := h
    cases hq : endOf t with
    | some x =>
      rw [hq] at h'
      cases h'
      obtain ⟨a, h1, h2⟩ := ih hq
      exact ⟨c :: a, by rw [h1]; rfl, h2⟩
    | none =>
      rw [hq] at h'
      by_cases ec : c = 46
      · have : (if c = 46 then some t else none) = some e := h'
        rw [if_pos ec] at this
        cases this
        exact ⟨[], by rw [ec]; rfl, endOf_none.1 hq⟩
      · have : (if c = 46 then some t else none) = some e := h'
        rw [if_neg ec] at this
        cases this
def kindR (l : List UInt8) : List UInt8 := match endOf l with | some e => kindE e | none => unknownT
/-- The document's way: whether there was a dot behind the last stroke, and what stands behind it. -/
def kScan (st : Bool × List UInt8) (c : UInt8) : Bool × List UInt8 := if c = 47 then (false, []) else if c = 46 then (true, []) else (st.1, st.2 ++ [c])
def kOf (st : Bool × List UInt8) : List UInt8 := if st.1 = true then kindE st.2 else unknownT
theorem kScan_plain (e : List UInt8) (st : Bool × List UInt8) (h1 : (46 : UInt8) ∉ e) (h2 : (47 : UInt8) ∉ e) : e.foldl kScan st = (st.1, st.2 ++ e) := by
  induction e generalizing st with
  | nil => simp
  | cons c t ih =>
    simp only [List.mem_cons, not_or] at h1 h2
    have : kScan st c = (st.1, st.2 ++ [c]) := by unfold kScan; rw [if_neg (fun q => h2.1 q.symm), if_neg (fun q => h1.1 q.symm)]
    rw [List.foldl_cons, this, ih _ h1.2 h2.2]
    simp
theorem kScan_nodot (e : List UInt8) (st : Bool × List UInt8) (h1 : (46 : UInt8) ∉ e) : (e.foldl kScan st).1 = true → st.1 = true ∧ (47 : UInt8) ∉ e := by
  induction e generalizing st with
  | nil => intro h; exact ⟨h, by simp⟩
  | cons c t ih =>
    simp only [List.mem_cons, not_or] at h1
    intro h
    rw [List.foldl_cons] at h
    obtain ⟨h2, h3⟩ := ih _ h1.2 h
    by_cases e : c = 47
    · unfold kScan at h2; rw [if_pos e] at h2; cases h2
    · unfold kScan at h2; rw [if_neg e, if_neg (fun q => h1.1 q.symm)] at h2
      exact ⟨h2, by simp only [List.mem_cons, not_or]; exact ⟨fun q => e q.symm, h3⟩⟩
theorem kScan_kind (l : List UInt8) : kOf (l.foldl kScan (false, [])) = kindR l := by
  unfold kindR
  cases h : endOf l with
  | none =>
    have hn := endOf_none.1 h
    unfold kOf
    rw [if_neg (fun hh => by have := (kScan_nodot l (false, []) hn hh).1; cases this)]
  | some e =>
    obtain ⟨a, rfl, he⟩ := endOf_form h
    rw [List.foldl_append, List.foldl_cons]
    have : kScan (a.foldl kScan (false, [])) 46 = (true, []) := rfl
    rw [this]
    by_cases hs : (47 : UInt8) ∈ e
    · unfold kOf
      rw [if_neg (fun hh => (kScan_nodot e (true, []) he hh).2 hs)]
      exact (kindE_slash hs).symm
    · rw [kScan_plain e _ he hs]
      rfl
/-- Kinds hang on the end alone. -/
theorem kind_end (d s : List UInt8) (h : (47 : UInt8) ∉ s) : kindR (d ++ 47 :: s) = kindR s := by
  unfold kindR
  cases hs : endOf s with
  | some e =>
    obtain ⟨a, rfl, he⟩ := endOf_form hs
    have : d ++ 47 :: (a ++ 46 :: e) = (d ++ 47 :: a) ++ 46 :: e := by simp
    rw [this, endOf_at he]
  | none =>
    have hn := endOf_none.1 hs
    cases hd : endOf (d ++ 47 :: s) with
    | none => rfl
    | some e =>
      show kindE e = unknownT
      refine kindE_slash ?_
      obtain ⟨a, h1, he⟩ := endOf_form hd
      rcases List.append_eq_append_iff.1 h1 with ⟨b, h2, h3⟩ | ⟨b, h2, h3⟩
      · cases b with
        | nil => simp at h3
        | cons x y =>
          rw [List.cons_append] at h3
          injection h3 with h4 h5
          exact absurd (show (46 : UInt8) ∈ s by rw [h5]; simp) hn
      · cases b with
        | nil => simp at h3
        | cons x y =>
          rw [List.cons_append] at h3
          injection h3 with h4 h5
          rw [h5]; simp
theorem kind_png (d s : List UInt8) : kindR (d ++ 47 :: (s ++ [46, 112, 110, 103])) = [105, 109, 97, 103, 101, 47, 112, 110, 103] := by
  unfold kindR
  have : d ++ 47 :: (s ++ [46, 112, 110, 103]) = (d ++ 47 :: s) ++ 46 :: [112, 110, 103] := by simp
  rw [this, endOf_at (by decide)]
  rfl
/-! A byte as digits. -/
def digC (great : Bool) (v : Nat) : UInt8 := UInt8.ofNat (if v < 10 then 48 + v else if great then 55 + v else 87 + v)
theorem hex_dig (great : Bool) {v : Nat} (h : v < 16) : hexV (digC great v) = some v := by
  have : ∀ g : Bool, ∀ k : Fin 16, hexV (digC g k.1) = some k.1 := by decide
  exact this great ⟨v, h⟩
theorem two_dig (great : Bool) (c : UInt8) : twoV (digC great (c.toNat / 16)) (digC great (c.toNat % 16)) = if c = 47 then none else some c := by
  have hc := c.toNat_lt
  unfold twoV
  rw [hex_dig great (by omega), hex_dig great (by omega)]
  show (if 16 * (c.toNat / 16) + c.toNat % 16 = 47 then none else some (UInt8.ofNat (16 * (c.toNat / 16) + c.toNat % 16))) = _
  have e : 16 * (c.toNat / 16) + c.toNat % 16 = c.toNat := by omega
  rw [e]
  by_cases h : c = 47
  · rw [if_pos h, if_pos (by rw [h]; rfl)]
  · rw [if_neg h, if_neg (fun q => h (UInt8.toNat_inj.1 (by rw [q]; rfl)))]
    simp
theorem dig_plain (great : Bool) {v : Nat} (h : v < 16) : digC great v ≠ 63 ∧ digC great v ≠ 37 := by
  have : ∀ g : Bool, ∀ k : Fin 16, digC g k.1 ≠ 63 ∧ digC g k.1 ≠ 37 := by decide
  exact this great ⟨v, h⟩
theorem unesc_pre {a : List UInt8} (h : ∀ c ∈ a, c ≠ 37) (r : List UInt8) : unesc (a ++ r) = (unesc r).map (a ++ ·) := by
  induction a with
  | nil =>
    rw [List.nil_append]
    cases unesc r <;> rfl
  | cons b t ih =>
    rw [List.cons_append, unesc_step (by simp), firstR_plain (h b (by simp))]
    show (unesc (t ++ r)).map _ = _
    rw [ih (fun c hc => h c (by simp [hc]))]
    cases unesc r <;> rfl
theorem hex_back {a b : List UInt8} {c : UInt8} (great : Bool) (h : nameB (a ++ c :: b) = true) :
    ofR (47 :: (a ++ 37 :: digC great (c.toNat / 16) :: digC great (c.toNat % 16) :: b)) = if c = 47 then ([], 70) else (a ++ c :: b, 0) := by
  have hn := name_len h
  have hc := c.toNat_lt
  have d1 := dig_plain great (v := c.toNat / 16) (by omega)
  have d2 := dig_plain great (v := c.toNat % 16) (by omega)
  have hl : (a ++ c :: b).length = a.length + b.length + 1 := by simp; omega
  have ha : asked (47 :: (a ++ 37 :: digC great (c.toNat / 16) :: digC great (c.toNat % 16) :: b)) = 47 :: (a ++ 37 :: digC great (c.toNat / 16) :: digC great (c.toNat % 16) :: b) := by
    have h1 : ∀ x ∈ (47 :: (a ++ 37 :: digC great (c.toNat / 16) :: digC great (c.toNat % 16) :: b)), (x != 63) = true := by
      intro x hx
      simp only [List.mem_cons, List.mem_append] at hx
      rcases hx with rfl | hx | rfl | rfl | rfl | hx
      · decide
      · simpa using (name_37 h (c := x) (by simp [hx])).2
      · decide
      · simpa using d1.1
      · simpa using d2.1
      · simpa using (name_37 h (c := x) (by simp [hx])).2
    have := List.takeWhile_append_of_pos (p := (· != 63)) (l₂ := []) h1
    rw [List.append_nil] at this
    unfold asked
    rw [this]
    simp
  unfold ofR
  rw [if_neg (by simp; omega), ha]
  show (if (47 : UInt8) = 47 then _ else _) = _
  rw [if_pos rfl, if_neg (by simp)]
  have hu : unesc (a ++ 37 :: digC great (c.toNat / 16) :: digC great (c.toNat % 16) :: b) = if c = 47 then none else some (a ++ c :: b) := by
    rw [unesc_pre (fun x hx => (name_37 h (c := x) (by simp [hx])).1), unesc_step (by simp), firstR_pct]
    show Option.map _ (match (twoV (digC great (c.toNat / 16)) (digC great (c.toNat % 16))).map (fun x => (x, b)) with | some (x, r) => (unesc r).map (x :: ·) | none => none) = _
    rw [two_dig]
    by_cases e : c = 47
    · rw [if_pos e, if_pos e]; rfl
    · rw [if_neg e, if_neg e]
      show Option.map _ ((unesc b).map (c :: ·)) = _
      rw [unesc_plain (fun x hx => (name_37 h (c := x) (by simp [hx])).1)]
      rfl
  unfold nameOf
  rw [hu]
  by_cases e : c = 47
  · rw [if_pos e, if_pos e]
  · rw [if_neg e, if_neg e]
    show (if nameB (a ++ c :: b) = true then _ else _) = _
    rw [if_pos h]
end Go.Proofs.YtjjoohmfeglicaaDoor.Pt
