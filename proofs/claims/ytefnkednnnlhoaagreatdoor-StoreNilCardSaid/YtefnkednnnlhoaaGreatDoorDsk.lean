/- A disk in plain words (blocks, owners, extents, the line of writes, power, arming), what each call does to it, and how it lies in memory. Conditions: those that each states. -/
import Derived.Test.YtefnkednnnlhoaaGreatDoorMAD
namespace Go.Proofs.YtefnkednnnlhoaaGreatDoor
open Go.ChangeShapes Go.WideShapes Go.ChangeAt Go.RowKit Go.Deep Di
set_option linter.unusedVariables false

structure Wr where
  block : Nat
  text : List UInt8
structure Ex where
  env : Nat
  first : Nat
  n : Nat
def Ex.has (x : Ex) (b : Nat) : Prop := x.first ≤ b ∧ b < x.first + x.n
instance (x : Ex) (b : Nat) : Decidable (x.has b) := inferInstanceAs (Decidable (_ ∧ _))
structure Dk where
  blocks : List (List UInt8)
  owners : List Nat
  exts : List Ex
  line : List Wr
  on : Bool
  armed : Int
def Dk.own (d : Dk) (b : Nat) : Nat := d.owners.getD b 0
structure Dk.Ok (d : Dk) : Prop where
  n1 : 1 ≤ d.blocks.length
  n2 : d.blocks.length ≤ 512
  bl : ∀ t ∈ d.blocks, t.length = 256
  ow : d.owners.length = d.blocks.length
  ex : ∀ x ∈ d.exts, 1 ≤ x.env ∧ x.env ≤ 2 ∧ 1 ≤ x.n ∧ x.first + x.n ≤ d.blocks.length
  mt : ∀ b, b < d.blocks.length → ∀ e : Nat, 1 ≤ e → ((∃ x ∈ d.exts, x.env = e ∧ x.has b) ↔ d.own b = e)
  li : ∀ q ∈ d.line, q.block < d.blocks.length ∧ q.text.length = 256
  ar : -1 ≤ d.armed ∧ d.armed ≤ 9223372036854775807
theorem Dk.Ok.gr {d : Dk} (h : d.Ok) {b : Nat} (hb : b < d.blocks.length) : (∃ x ∈ d.exts, x.has b) ↔ d.own b ≠ 0 := by
  constructor
  · rintro ⟨x, hx, hh⟩
    have := (h.mt b hb x.env (h.ex x hx).1).1 ⟨x, hx, rfl, hh⟩
    have := (h.ex x hx).1
    omega
  · intro hn
    obtain ⟨x, hx, _, hh⟩ := (h.mt b hb (d.own b) (by omega)).2 rfl
    exact ⟨x, hx, hh⟩
/-- One of so many blocks is somebody's. -/
def busy (d : Dk) (f n : Nat) : Bool := (List.range n).any fun i => d.own (f + i) != 0
theorem busy_no {d : Dk} {f n : Nat} (h : busy d f n = false) {b : Nat} (h1 : f ≤ b) (h2 : b < f + n) : d.own b = 0 := by
  unfold busy at h
  rw [List.any_eq_false] at h
  have := h (b - f) (List.mem_range.2 (by omega))
  rw [show f + (b - f) = b by omega] at this
  simpa using this
theorem busy_yes {d : Dk} {f n b : Nat} (h1 : f ≤ b) (h2 : b < f + n) (h : d.own b ≠ 0) : busy d f n = true := by
  unfold busy
  rw [List.any_eq_true]
  exact ⟨b - f, List.mem_range.2 (by omega), by rw [show f + (b - f) = b by omega]; simpa using h⟩
theorem busy_of {d : Dk} {f n : Nat} (h : ∀ b, f ≤ b → b < f + n → d.own b = 0) : busy d f n = false := by
  unfold busy
  rw [List.any_eq_false]
  intro i hi
  have := h (f + i) (by omega) (by have := List.mem_range.1 hi; omega)
  simp [this]
def lent (os : List Nat) (f n e : Nat) : List Nat := os.take f ++ List.replicate n e ++ os.drop (f + n)
theorem lent_len {os : List Nat} {f n e : Nat} (h : f + n ≤ os.length) : (lent os f n e).length = os.length := by simp [lent]; omega
theorem lent_get {os : List Nat} {f n e : Nat} (h : f + n ≤ os.length) (b : Nat) : (lent os f n e).getD b 0 = if f ≤ b ∧ b < f + n then e else os.getD b 0 := by
  unfold lent
  have hm : (os.take f).length = f := by simp; omega
  simp only [List.getD_eq_getElem?_getD]
  rw [List.append_assoc]
  by_cases h1 : b < f
  · rw [List.getElem?_append_left (by omega), List.getElem?_take, if_pos h1, if_neg (by omega)]
  · rw [List.getElem?_append_right (by omega), hm]
    by_cases h2 : b < f + n
    · rw [List.getElem?_append_left (by simp; omega), if_pos ⟨by omega, h2⟩, List.getElem?_replicate, if_pos (by omega)]; rfl
    · rw [List.getElem?_append_right (by simp; omega), if_neg (by omega), List.getElem?_drop, List.length_replicate, show f + n + (b - f - n) = b by omega]

def askE (d : Dk) (env block : Int) : Int :=
  if d.on = false then 30 else if block < 0 ∨ (d.blocks.length : Int) ≤ block then 31 else if (d.own block.toNat : Int) = env ∧ env ≠ 0 then 0 else 20
def noGrant (d : Dk) (env first n : Int) : Prop := env < 1 ∨ 2 < env ∨ n ≤ 0 ∨ first < 0 ∨ (d.blocks.length : Int) - first < n
instance (d : Dk) (env first n : Int) : Decidable (noGrant d env first n) := inferInstanceAs (Decidable (_ ∨ _))
def granted (d : Dk) (e f n : Nat) : Dk := { d with exts := d.exts ++ [⟨e, f, n⟩], owners := lent d.owners f n e }
def grantR (d : Dk) (env first n : Int) : Dk × Int :=
  if noGrant d env first n then (d, 1) else if busy d first.toNat n.toNat = true then (d, 20) else (granted d env.toNat first.toNat n.toNat, 0)
def seen (l : List Wr) (b : Nat) (t : List UInt8) : List UInt8 := l.foldl (fun s q => if q.block = b then q.text else s) t
def see (d : Dk) (b : Nat) : List UInt8 := seen d.line b (d.blocks.getD b [])
def readR (d : Dk) (env block : Int) : List UInt8 × Int := if askE d env block = 0 then (see d block.toNat, 0) else ([], askE d env block)
def cutR (d : Dk) : Dk := { d with on := false, armed := -1 }
def laid (d : Dk) (b : Nat) (s : List UInt8) : Dk := { d with armed := if d.armed = -1 then -1 else d.armed - 1, line := d.line ++ [⟨b, s⟩] }
def writeR (d : Dk) (env block : Int) (s : List UInt8) : Dk × Int :=
  if askE d env block = 0 then (if s.length = 256 then (if d.armed = 0 then (cutR d, 30) else (laid d block.toNat s, 0)) else (d, 1)) else (d, askE d env block)
def put (bs : List (List UInt8)) (l : List Wr) : List (List UInt8) := l.foldl (fun bs q => bs.set q.block q.text) bs
def settleR (d : Dk) (k : Nat) : Dk := { d with blocks := put d.blocks (d.line.take k), line := [] }
def syncR (d : Dk) : Dk × Int := if d.on = true then (settleR d d.line.length, 0) else (d, 30)
theorem seen_append (l r : List Wr) (b : Nat) (t : List UInt8) : seen (l ++ r) b t = seen r b (seen l b t) := List.foldl_append
theorem seen_none {l : List Wr} {b : Nat} (h : ∀ q ∈ l, q.block ≠ b) (t : List UInt8) : seen l b t = t := by
  induction l generalizing t with
  | nil => rfl
  | cons q l ih =>
    show seen l b (if q.block = b then q.text else t) = t
    rw [if_neg (h q (by simp)), ih (fun q hq => h q (by simp [hq]))]
/-- The last write of a block that waits. -/
theorem seen_last {l : List Wr} {b i : Nat} (hi : i < l.length) (he : l[i].block = b) (h : ∀ j (hj : j < l.length), i < j → l[j].block ≠ b) (t : List UInt8) : seen l b t = l[i].text := by
  have e : l = l.take i ++ [l[i]] ++ l.drop (i + 1) := by
    rw [List.append_assoc, List.singleton_append, List.getElem_cons_drop, List.take_append_drop]
  have hn : ∀ q ∈ l.drop (i + 1), q.block ≠ b := by
    intro q hq
    obtain ⟨j, hj, rfl⟩ := List.mem_iff_getElem.1 hq
    rw [List.getElem_drop]
    rw [List.length_drop] at hj
    exact h _ (by omega) (by omega)
  have e2 : seen l b t = seen (l.take i ++ [l[i]] ++ l.drop (i + 1)) b t := by rw [← e]
  rw [e2, seen_append, seen_append, seen_none hn]
  show (if l[i].block = b then l[i].text else _) = _
  rw [if_pos he]
theorem put_len (bs : List (List UInt8)) (l : List Wr) : (put bs l).length = bs.length := by
  induction l generalizing bs with
  | nil => rfl
  | cons q l ih =>
    show (put (bs.set q.block q.text) l).length = _
    rw [ih, List.length_set]
theorem put_append (bs : List (List UInt8)) (l r : List Wr) : put bs (l ++ r) = put (put bs l) r := List.foldl_append
theorem put_get (bs : List (List UInt8)) (l : List Wr) (b : Nat) (hb : b < bs.length) : (put bs l).getD b [] = seen l b (bs.getD b []) := by
  induction l generalizing bs with
  | nil => rfl
  | cons q l ih =>
    show (put (bs.set q.block q.text) l).getD b [] = seen l b (if q.block = b then q.text else bs.getD b [])
    rw [ih _ (by simpa using hb)]
    congr 1
    simp only [List.getD_eq_getElem?_getD, List.getElem?_set]
    by_cases e : q.block = b
    · subst e; simp [hb]
    · rw [if_neg e, if_neg e]
theorem put_mem {bs : List (List UInt8)} {l : List Wr} {p : List UInt8 → Prop} (h1 : ∀ t ∈ bs, p t) (h2 : ∀ q ∈ l, p q.text) : ∀ t ∈ put bs l, p t := by
  induction l generalizing bs with
  | nil => exact h1
  | cons q l ih =>
    refine ih (bs := bs.set q.block q.text) (fun t ht => ?_) (fun q hq => h2 q (by simp [hq]))
    rcases List.mem_or_eq_of_mem_set ht with h | rfl
    · exact h1 t h
    · exact h2 q (by simp)

theorem Dk.Ok.granted {d : Dk} (h : d.Ok) {e f n : Nat} (he : 1 ≤ e ∧ e ≤ 2) (hn : 1 ≤ n) (hf : f + n ≤ d.blocks.length) (hb : busy d f n = false) : (granted d e f n).Ok := by
  have hl : f + n ≤ d.owners.length := by rw [h.ow]; exact hf
  refine ⟨h.n1, h.n2, h.bl, by show (lent d.owners f n e).length = _; rw [lent_len hl]; exact h.ow, ?_, ?_, h.li, h.ar⟩
  · intro x hx
    rcases List.mem_append.1 hx with h1 | h1
    · exact h.ex x h1
    · rw [List.mem_singleton.1 h1]; exact ⟨he.1, he.2, hn, hf⟩
  · intro b hbl e' he'
    show (∃ x ∈ d.exts ++ [⟨e, f, n⟩], x.env = e' ∧ x.has b) ↔ (lent d.owners f n e).getD b 0 = e'
    rw [lent_get hl]
    by_cases hin : f ≤ b ∧ b < f + n
    · rw [if_pos hin]
      constructor
      · rintro ⟨x, hx, h1, h2⟩
        rcases List.mem_append.1 hx with h3 | h3
        · exfalso
          exact (h.gr hbl).1 ⟨x, h3, h2⟩ (busy_no hb hin.1 hin.2)
        · rw [List.mem_singleton.1 h3] at h1; exact h1
      · intro e1
        exact ⟨⟨e, f, n⟩, by simp, e1, hin⟩
    · rw [if_neg hin]
      refine Iff.trans ?_ (h.mt b hbl e' he')
      constructor
      · rintro ⟨x, hx, h1, h2⟩
        rcases List.mem_append.1 hx with h3 | h3
        · exact ⟨x, h3, h1, h2⟩
        · rw [List.mem_singleton.1 h3] at h2; exact absurd h2 hin
      · rintro ⟨x, hx, h1, h2⟩
        exact ⟨x, List.mem_append_left _ hx, h1, h2⟩
theorem Dk.Ok.cut {d : Dk} (h : d.Ok) : (cutR d).Ok := ⟨h.n1, h.n2, h.bl, h.ow, h.ex, h.mt, h.li, by show (-1 : Int) ≤ -1 ∧ (-1 : Int) ≤ _; omega⟩
theorem Dk.Ok.laid {d : Dk} (h : d.Ok) {b : Nat} {s : List UInt8} (hb : b < d.blocks.length) (hs : s.length = 256) (h0 : d.armed ≠ 0) : (laid d b s).Ok := by
  refine ⟨h.n1, h.n2, h.bl, h.ow, h.ex, h.mt, ?_, ?_⟩
  · intro q hq
    rcases List.mem_append.1 hq with h1 | h1
    · exact h.li q h1
    · rw [List.mem_singleton.1 h1]; exact ⟨hb, hs⟩
  · have := h.ar
    show -1 ≤ (if d.armed = -1 then -1 else d.armed - 1) ∧ (if d.armed = -1 then -1 else d.armed - 1) ≤ _
    split <;> omega
theorem Dk.Ok.settle {d : Dk} (h : d.Ok) (k : Nat) : (settleR d k).Ok := by
  have e : (put d.blocks (d.line.take k)).length = d.blocks.length := put_len _ _
  refine ⟨by show 1 ≤ (put _ _).length; rw [e]; exact h.n1, by show (put _ _).length ≤ 512; rw [e]; exact h.n2, put_mem h.bl (fun q hq => (h.li q (List.mem_of_mem_take hq)).2), by show _ = (put _ _).length; rw [e]; exact h.ow, ?_, ?_, fun q hq => (by cases hq), h.ar⟩
  · intro x hx
    show _ ∧ _ ∧ _ ∧ _ ≤ (put _ _).length
    rw [e]; exact h.ex x hx
  · intro b hb
    exact h.mt b (by have hb' : b < (put d.blocks (d.line.take k)).length := hb; omega)
theorem askE_zero {d : Dk} {env block : Int} (h : askE d env block = 0) : d.on = true ∧ ∃ b : Nat, block = (b : Int) ∧ b < d.blocks.length ∧ (d.own b : Int) = env ∧ env ≠ 0 := by
  unfold askE at h
  by_cases h1 : d.on = false
  · rw [if_pos h1] at h; omega
  · rw [if_neg h1] at h
    by_cases h2 : block < 0 ∨ (d.blocks.length : Int) ≤ block
    · rw [if_pos h2] at h; omega
    · rw [if_neg h2] at h
      by_cases h3 : (d.own block.toNat : Int) = env ∧ env ≠ 0
      · exact ⟨by simpa using h1, block.toNat, by omega, by omega, h3⟩
      · rw [if_neg h3] at h; omega

def zeros : List UInt8 := List.replicate 256 0
def newD (n : Nat) : Dk := ⟨List.replicate n zeros, List.replicate n 0, [], [], true, -1⟩
theorem newD_ok {n : Nat} (h1 : 1 ≤ n) (h2 : n ≤ 512) : (newD n).Ok := by
  refine ⟨by simpa [newD] using h1, by simpa [newD] using h2, fun t ht => by rw [(List.mem_replicate.1 ht).2]; exact List.length_replicate, by simp [newD], fun x hx => (by cases hx), fun b hb e he => ?_, fun q hq => (by cases hq), by show (-1 : Int) ≤ -1 ∧ (-1 : Int) ≤ _; omega⟩
  constructor
  · rintro ⟨x, hx, _⟩; cases hx
  · intro h
    exfalso
    have : (List.replicate n 0).getD b 0 = 0 := by
      simp only [List.getD_eq_getElem?_getD, List.getElem?_replicate]; split <;> rfl
    have h' : (List.replicate n 0).getD b 0 = e := h
    omega

def Wr.cells (q : Wr) : List Value := .int .i64 (q.block : Int) :: bys q.text
def Ex.cells (x : Ex) : List Value := [.int .i64 (x.env : Int), .int .i64 (x.first : Int), .int .i64 (x.n : Int)]
def blocksC (bs : List (List UInt8)) : List Value := (bs.map bys).flatten
def lineC (l : List Wr) : List Value := (l.map Wr.cells).flatten
def extsC (l : List Ex) : List Value := (l.map Ex.cells).flatten

/-- A disk in memory: block gb holds the durable blocks, block g the head, the line lies at Al, the extents at Ae. -/
structure DskAt (w : World) (gb g : Nat) (Al : Option Addr) (cl : Nat) (Ae : Option Addr) (ce : Nat) (d : Dk) : Prop where
  head : Blk w g 102 #[.slice (some ⟨gb, 0, none⟩) d.blocks.length d.blocks.length, .slice Al d.line.length cl, .slice Ae d.exts.length ce, .bool d.on, .int .i64 d.armed]
  tab : Blk w gb 195 (blocksC d.blocks).toArray
  line : RowW w 197 257 Al d.line.length cl (lineC d.line)
  exts : RowW w 134 3 Ae d.exts.length ce (extsC d.exts)
  ne : gb ≠ g
  lb : ¬ inB Al gb
  lg : ¬ inB Al g
  eb : ¬ inB Ae gb
  eg : ¬ inB Ae g
  le : Apart Al Ae
  ok : d.Ok
def foot (gb g : Nat) (Al Ae : Option Addr) : Nat → Prop := fun k => k = gb ∨ k = g ∨ inB Al k ∨ inB Ae k
/-- A disk in memory: all that it has lies in the blocks F; its head is block g. -/
def DA (w : World) (F : Nat → Prop) (g : Nat) (d : Dk) : Prop := ∃ gb Al cl Ae ce, DskAt w gb g Al cl Ae ce d ∧ ∀ k, F k ↔ foot gb g Al Ae k
/-- Of the blocks that were there only those of F may have turned; what it has now is F's, or new. -/
def Step (w w' : World) (F F' : Nat → Prop) : Prop := Chg w w' F ∧ ∀ k, F' k → F k ∨ w.heap.size ≤ k
section
variable {w w' w2 : World} {F F' F2 S : Nat → Prop} {g gb cl ce : Nat} {Al Ae : Option Addr} {d : Dk}
theorem Step.refl (w : World) (F : Nat → Prop) : Step w w F F := ⟨Chg.refl _ _, fun _ h => .inl h⟩
theorem Step.trans (h : Step w w' F F') (k : Step w' w2 F' F2) : Step w w2 F F2 := by
  refine ⟨⟨k.1.os.trans h.1.os, k.1.tape.trans h.1.tape, k.1.output.trans h.1.output, Nat.le_trans h.1.size k.1.size, fun i hi hn => ?_⟩, fun i hi => ?_⟩
  · refine (k.1.block i (Nat.lt_of_lt_of_le hi h.1.size) fun hf => ?_).trans (h.1.block i hi hn)
    rcases h.2 i hf with h1 | h1
    · exact hn h1
    · omega
  · rcases k.2 i hi with h1 | h1
    · exact h.2 i h1
    · exact .inr (Nat.le_trans h.1.size h1)
theorem Step.new (k : Below w.heap.size w w') (F : Nat → Prop) : Step w w' F F := ⟨Chg.of_new k _, fun _ h => .inl h⟩
theorem Step.below {B : Nat} (h : Step w w' F F') (hB : B ≤ w.heap.size) (hs : ∀ k, F k → B ≤ k) : Below B w w' ∧ ∀ k, F' k → B ≤ k :=
  ⟨h.1.below hB hs, fun k hk => by
    rcases h.2 k hk with h1 | h1
    · exact hs k h1
    · omega⟩
theorem DskAt.lt (h : DskAt w gb g Al cl Ae ce d) {k : Nat} (hk : foot gb g Al Ae k) : k < w.heap.size := by
  rcases hk with rfl | rfl | h1 | h1
  · exact h.tab.lt
  · exact h.head.lt
  · exact h.line.lt k h1
  · exact h.exts.lt k h1
theorem DskAt.chg (h : DskAt w gb g Al cl Ae ce d) (k : Chg w w' S) (hn : ∀ i, S i → ¬ foot gb g Al Ae i) : DskAt w' gb g Al cl Ae ce d :=
  ⟨h.head.chg k (fun s => hn _ s (.inr (.inl rfl))), h.tab.chg k (fun s => hn _ s (.inl rfl)), h.line.chg k (fun b hb s => hn _ s (.inr (.inr (.inl hb)))), h.exts.chg k (fun b hb s => hn _ s (.inr (.inr (.inr hb)))), h.ne, h.lb, h.lg, h.eb, h.eg, h.le, h.ok⟩
theorem DskAt.new (h : DskAt w gb g Al cl Ae ce d) (k : Below w.heap.size w w') : DskAt w' gb g Al cl Ae ce d := h.chg (Chg.of_new k fun _ => False) (fun _ s => s.elim)
theorem DskAt.drewN (h : DskAt w gb g Al cl Ae ce d) (n : Nat) : DskAt (w.drewN n) gb g Al cl Ae ce d := ⟨h.head, h.tab, h.line.drewN n, h.exts.drewN n, h.ne, h.lb, h.lg, h.eb, h.eg, h.le, h.ok⟩
theorem DA.lt (h : DA w F g d) {k : Nat} (hk : F k) : k < w.heap.size := by
  obtain ⟨gb, Al, cl, Ae, ce, D, hF⟩ := h
  exact D.lt ((hF k).1 hk)
theorem DA.chg (h : DA w F g d) (k : Chg w w' S) (hn : ∀ i, S i → ¬ F i) : DA w' F g d := by
  obtain ⟨gb, Al, cl, Ae, ce, D, hF⟩ := h
  exact ⟨gb, Al, cl, Ae, ce, D.chg k (fun i hi hf => hn i hi ((hF i).2 hf)), hF⟩
theorem DA.new (h : DA w F g d) (k : Below w.heap.size w w') : DA w' F g d := h.chg (Chg.of_new k fun _ => False) (fun _ s => s.elim)
theorem DA.drewN (h : DA w F g d) (n : Nat) : DA (w.drewN n) F g d := by
  obtain ⟨gb, Al, cl, Ae, ce, D, hF⟩ := h
  exact ⟨gb, Al, cl, Ae, ce, D.drewN n, hF⟩
theorem DskAt.da (h : DskAt w gb g Al cl Ae ce d) : DA w (foot gb g Al Ae) g d := ⟨gb, Al, cl, Ae, ce, h, fun _ => Iff.rfl⟩

theorem blocks_rows {d : Dk} (h : d.Ok) : ∀ r ∈ d.blocks.map bys, r.length = 256 := by
  intro r hr
  obtain ⟨t, ht, rfl⟩ := List.mem_map.1 hr
  rw [bys_length]; exact h.bl t ht
theorem line_rows {d : Dk} (h : d.Ok) : ∀ r ∈ d.line.map Wr.cells, r.length = 257 := by
  intro r hr
  obtain ⟨q, hq, rfl⟩ := List.mem_map.1 hr
  simp [Wr.cells, bys_length, (h.li q hq).2]
theorem exts_rows (l : List Ex) : ∀ r ∈ l.map Ex.cells, r.length = 3 := by
  intro r hr
  obtain ⟨q, hq, rfl⟩ := List.mem_map.1 hr
  rfl
theorem blocks_len {d : Dk} (h : d.Ok) : (blocksC d.blocks).length = d.blocks.length * 256 := by
  have := flat_len (blocks_rows h); simpa [blocksC] using this
/-- A block's cells. -/
theorem DskAt.block (h : DskAt w gb g Al cl Ae ce d) {b : Nat} (hb : b < d.blocks.length) : w.rangeAt gb (b * 256) (bys d.blocks[b]) := by
  intro j v hj
  have hl : (bys d.blocks[b]).length = 256 := by rw [bys_length]; exact h.ok.bl _ (List.getElem_mem hb)
  have hj' : j < 256 := by have := (List.getElem?_eq_some_iff.1 hj).1; omega
  rw [h.tab.cell, List.getElem?_toArray]
  unfold blocksC
  rw [flat_get (blocks_rows h.ok) (by simpa using hb) hj', ← hj]
  simp
/-- A write's cells. -/
theorem DskAt.wr (h : DskAt w gb g Al cl Ae ce d) {i : Nat} (hi : i < d.line.length) : ∃ l, Al = some ⟨l, 0, none⟩ ∧ l < w.heap.size ∧ l ≠ gb ∧ l ≠ g ∧ w.rangeAt l (i * 257) d.line[i].cells := by
  obtain ⟨l, rfl, hl, hc⟩ := h.line.form (by omega)
  refine ⟨l, rfl, hl, fun e => h.lb (by rw [← e]; exact inB_self _ _), fun e => h.lg (by rw [← e]; exact inB_self _ _), fun j v hj => ?_⟩
  have hlen : d.line[i].cells.length = 257 := by simp [Wr.cells, bys_length, (h.ok.li _ (List.getElem_mem hi)).2]
  have hj' : j < 257 := by have := (List.getElem?_eq_some_iff.1 hj).1; omega
  have hL : (lineC d.line).length = d.line.length * 257 := h.line.len
  have hlt : i * 257 + j < (lineC d.line).length := by omega
  rw [hc _ hlt, ← List.getElem?_eq_getElem hlt, ← hj]
  unfold lineC
  rw [flat_get (line_rows h.ok) (by simpa using hi) hj']
  simp
/-- An extent's cells. -/
theorem DskAt.ext (h : DskAt w gb g Al cl Ae ce d) {i : Nat} (hi : i < d.exts.length) : ∃ l, Ae = some ⟨l, 0, none⟩ ∧ l < w.heap.size ∧ w.rangeAt l (i * 3) d.exts[i].cells := by
  obtain ⟨l, rfl, hl, hc⟩ := h.exts.form (by omega)
  refine ⟨l, rfl, hl, fun j v hj => ?_⟩
  have hj' : j < 3 := (List.getElem?_eq_some_iff.1 hj).1
  have hL : (extsC d.exts).length = d.exts.length * 3 := h.exts.len
  have hlt : i * 3 + j < (extsC d.exts).length := by omega
  rw [hc _ hlt, ← List.getElem?_eq_getElem hlt, ← hj]
  unfold extsC
  rw [flat_get (exts_rows _) (by simpa using hi) hj']
  simp
end
end Go.Proofs.YtefnkednnnlhoaaGreatDoor
