/- A disk of the call's own beside other blocks of its own. Conditions: those that each states. -/
import Derived.Test.YthnapmcjnfeimaaDkDo
namespace Go.Proofs.Ythnapmcjnfeimaa
open Go.ChangeShapes Go.WideShapes Go.ChangeAt Go.RowKit Go.Deep Di
set_option linter.unusedVariables false

/-- A disk of the call's own: all that it has lies from block B on, and in no block of X. -/
structure OwnX (B : Nat) (X : Nat → Prop) (w : World) (g : Nat) (d : Dk) : Prop where
  ex : ∃ F, DA w F g d ∧ ∀ k, F k → B ≤ k ∧ ¬ X k
  lt : B ≤ w.heap.size
  xl : ∀ k, X k → k < w.heap.size
abbrev Rest (B : Nat) (X : Nat → Prop) : Nat → Prop := fun k => B ≤ k ∧ ¬ X k
section
variable {w w' w1 : World} {F F' X X' : Nat → Prop} {B g : Nat} {d d' : Dk}
theorem OwnX.of (h : Own B w g d) : OwnX B (fun _ => False) w g d := by
  obtain ⟨F, hd, hF⟩ := h.ex
  exact ⟨⟨F, hd, fun k hk => ⟨hF k hk, id⟩⟩, h.lt, fun k hk => hk.elim⟩
theorem OwnX.ok (h : OwnX B X w g d) : d.Ok := by obtain ⟨F, hd, _⟩ := h.ex; exact hd.ok
/-- Blocks of X may have turned, new ones may be there: they may be of X from now on. -/
theorem OwnX.grow (h : OwnX B X w g d) (k : Chg w w' X) (hx : ∀ i, X' i → X i ∨ w.heap.size ≤ i) (xl : ∀ i, X' i → i < w'.heap.size) : OwnX B X' w' g d := by
  obtain ⟨F, hd, hF⟩ := h.ex
  refine ⟨⟨F, hd.chg k (fun i hi hf => (hF i hf).2 hi), fun i hi => ⟨(hF i hi).1, fun hx' => ?_⟩⟩, Nat.le_trans h.lt k.size, xl⟩
  rcases hx i hx' with h1 | h1
  · exact (hF i hi).2 h1
  · have := hd.lt hi; omega
theorem OwnX.new (h : OwnX B X w g d) (k : Below w.heap.size w w') : OwnX B X w' g d := h.grow (Chg.of_new k _) (fun i hi => .inl hi) (fun i hi => Nat.lt_of_lt_of_le (h.xl i hi) k.size)
theorem OwnX.drewN (h : OwnX B X w g d) (n : Nat) : OwnX B X (w.drewN n) g d := by
  obtain ⟨F, hd, hF⟩ := h.ex
  exact ⟨⟨F, hd.drewN n, hF⟩, h.lt, h.xl⟩
/-- X grows by a block that is made now. -/
theorem OwnX.more (h : OwnX B X w g d) (ob : Obj) : OwnX B (fun k => X k ∨ k = w.heap.size) (w.alloc ob) g d :=
  h.grow (Chg.of_new ((Below.refl _ w).alloc (Nat.le_refl _) ob) _) (fun i hi => by
    rcases hi with hi | hi
    · exact .inl hi
    · exact .inr (by omega)) (fun i hi => by
    rcases hi with hi | hi
    · have := h.xl i hi; simp; omega
    · simp; omega)
theorem OwnX.less (h : OwnX B X w g d) (hx : ∀ i, X' i → X i) : OwnX B X' w g d := by
  obtain ⟨F, hd, hF⟩ := h.ex
  exact ⟨⟨F, hd, fun k hk => ⟨(hF k hk).1, fun hx' => (hF k hk).2 (hx k hx')⟩⟩, h.lt, fun k hk => h.xl k (hx k hk)⟩
theorem ownx_step {F : Nat → Prop} (hd : DA w F g d) (hF : ∀ k, F k → B ≤ k ∧ ¬ X k) (hB : B ≤ w.heap.size) (xl : ∀ k, X k → k < w.heap.size) {F' : Nat → Prop} (h' : DA w' F' g d') (k : Step w w' F F') : OwnX B X w' g d' ∧ Chg w w' (Rest B X) := by
  refine ⟨⟨⟨F', h', fun i hi => ?_⟩, Nat.le_trans hB k.1.size, fun i hi => Nat.lt_of_lt_of_le (xl i hi) k.1.size⟩, k.1.weak hF⟩
  rcases k.2 i hi with h1 | h1
  · exact hF i h1
  · exact ⟨Nat.le_trans hB h1, fun hx => by have := xl i hx; omega⟩
theorem Rest.below (k : Chg w w' (Rest B X)) (hB : B ≤ w.heap.size) : Below B w w' := k.below hB (fun i hi => hi.1)
theorem ownx_do (h : OwnX B X w g d) (kind env a b : Int) (s : ByteArray) (wa : -9223372036854775808 ≤ a ∧ a ≤ 9223372036854775807) (hs : s.size ≤ 1000) (h1 : d.exts.length < 1000000) (h2 : d.line.length < 1000000) :
    Calls Try.prog 8 #[.pointer (some ⟨g, 0, none⟩), .agg #[.int .i64 kind, .int .i64 env, .int .i64 a, .int .i64 b, .string s]] w fun e w' => e = .returned (.tuple #[.string ⟨(doD d ⟨kind, env, a, b, s⟩).2.1.toArray⟩, .int .i64 (doD d ⟨kind, env, a, b, s⟩).2.2]) ∧ OwnX B X w' g (doD d ⟨kind, env, a, b, s⟩).1 ∧ Chg w w' (Rest B X) := by
  obtain ⟨F, hd, hF⟩ := h.ex
  refine (do_any hd kind env a b s wa hs h1 h2).mono ?_
  rintro e w' ⟨rfl, F', h', k⟩
  exact ⟨rfl, ownx_step hd hF h.lt h.xl h' k⟩
theorem ownx_grant (h : OwnX B X w g d) (env first n : Int) (wf : -9223372036854775808 ≤ first ∧ first ≤ 9223372036854775807) (hcnt : d.exts.length < 1000000) :
    Calls Try.prog 16 #[.pointer (some ⟨g, 0, none⟩), .int .i64 env, .int .i64 first, .int .i64 n] w fun e w' => e = .returned (.int .i64 (grantR d env first n).2) ∧ OwnX B X w' g (grantR d env first n).1 ∧ Chg w w' (Rest B X) := by
  obtain ⟨F, hd, hF⟩ := h.ex
  refine (grant_any hd env first n wf hcnt).mono ?_
  rintro e w' ⟨rfl, F', h', k⟩
  exact ⟨rfl, ownx_step hd hF h.lt h.xl h' k⟩
theorem ownx_read (h : OwnX B X w g d) (env block : Int) :
    Calls Try.prog 18 #[.pointer (some ⟨g, 0, none⟩), .int .i64 env, .int .i64 block] w fun e w' => ∃ A c, e = .returned (.tuple #[.slice A (readR d env block).1.length c, .int .i64 (readR d env block).2]) ∧ Src w' A (readR d env block).1.length c (readR d env block).1 ∧ Below w.heap.size w w' := by
  obtain ⟨F, hd, hF⟩ := h.ex
  exact read_any hd env block
theorem ownx_image (h : OwnX B X w g d) :
    Calls Try.prog 14 #[.pointer (some ⟨g, 0, none⟩)] w fun e w' => e = .returned (.slice (some ⟨w.heap.size, 0, none⟩) d.blocks.length d.blocks.length) ∧ Texts w' w.heap.size d.blocks d.blocks.length ∧ Below w.heap.size w w' := by
  obtain ⟨F, hd, hF⟩ := h.ex
  exact image_any hd
theorem ownx_write_new (h : OwnX B X w g d) (hb : Below w.heap.size w w1) (env block : Int) (A : Option Addr) (n c : Nat) (s : List UInt8) (hs : Src w1 A n c s) (hap : ∀ b o, A = some ⟨b, o, none⟩ → w.heap.size ≤ b) (hcnt : d.line.length < 1000000) :
    Calls Try.prog 15 #[.pointer (some ⟨g, 0, none⟩), .int .i64 env, .int .i64 block, .slice A n c] w1 fun e w' => e = .returned (.int .i64 (writeR d env block s).2) ∧ OwnX B X w' g (writeR d env block s).1 ∧ Chg w1 w' (Rest B X) := by
  obtain ⟨F, hd, hF⟩ := h.ex
  refine (write_any (hd.new hb) env block A n c s hs (fun b o e hf => by have := hap b o e; have := hd.lt hf; omega) hcnt).mono ?_
  rintro e w' ⟨rfl, F', h', k⟩
  exact ⟨rfl, ownx_step (hd.new hb) hF (Nat.le_trans h.lt hb.size) (fun i hi => Nat.lt_of_lt_of_le (h.xl i hi) hb.size) h' k⟩
end

/-- Blocks 0 to 3 are the first environment's. -/
structure Four (d : Dk) : Prop where
  n : d.blocks.length = 4
  own : ∀ b, b < 4 → d.own b = 1
def four0 : Dk := (grantR (newD 4) 1 0 4).1
theorem four0_grant : grantR (newD 4) 1 0 4 = (four0, 0) := Prod.ext rfl (by kernel_rfl)
theorem four0_own : ∀ b, b < 4 → four0.own b = 1 := by
  intro b hb
  rcases (by omega : b = 0 ∨ b = 1 ∨ b = 2 ∨ b = 3) with rfl | rfl | rfl | rfl
  · kernel_rfl
  · kernel_rfl
  · kernel_rfl
  · kernel_rfl
theorem four0_four : Four four0 := ⟨by kernel_rfl, four0_own⟩
theorem four0_exts : four0.exts.length = 1 := by kernel_rfl
theorem four0_line : four0.line = [] := by kernel_rfl
theorem four0_on : four0.on = true := by kernel_rfl
theorem four0_armed : four0.armed = -1 := by kernel_rfl
theorem four0_blocks : four0.blocks = List.replicate 4 zeros := by kernel_rfl
theorem Four.ask {d : Dk} (h : Four d) (on : d.on = true) {b : Nat} (hb : b < 4) : askE d 1 (b : Int) = 0 := by
  unfold askE
  rw [if_neg (by rw [on]; decide), if_neg (by rw [h.n]; omega), if_pos ⟨by rw [h.own (Int.toNat (b : Int)) (by omega)]; rfl, by decide⟩]
theorem Four.out {d : Dk} (h : Four d) (on : d.on = true) {a : Int} (h0 : a < 0 ∨ 4 ≤ a) : askE d 1 a = 31 := by
  unfold askE
  rw [if_neg (by rw [on]; decide), if_pos (by rw [h.n]; omega)]
theorem see_laid (d : Dk) (b b' : Nat) (s : List UInt8) : see (laid d b s) b' = if b = b' then s else see d b' := by
  unfold see
  show seen (d.line ++ [⟨b, s⟩]) b' _ = _
  rw [seen_append]
  rfl
theorem see_settle {d : Dk} (b : Nat) (hb : b < d.blocks.length) : see (settleR d d.line.length) b = see d b := by
  unfold see
  show seen [] b ((put d.blocks (d.line.take d.line.length)).getD b []) = _
  rw [List.take_length, put_get _ _ _ hb]
  rfl
theorem text_back (s : ByteArray) : (⟨s.data.toList.toArray⟩ : ByteArray) = s := by simp

/-- A call, as the law has laid it into a block of its own. -/
theorem act_cells {w : World} {q : Nat} {kind env a b : Int} {s : ByteArray} (h : Blk w q 34 #[.int .i64 kind, .int .i64 env, .int .i64 a, .int .i64 b, .string s]) :
    w.cell? ⟨q, 0, none⟩ = some (.int .i64 kind) ∧ w.cell? ⟨q, 1, none⟩ = some (.int .i64 env) ∧ w.cell? ⟨q, 2, none⟩ = some (.int .i64 a) ∧ w.cell? ⟨q, 3, none⟩ = some (.int .i64 b) ∧ w.cell? ⟨q, 4, none⟩ = some (.string s) :=
  ⟨h.cell 0, h.cell 1, h.cell 2, h.cell 3, h.cell 4⟩
theorem act_range {w : World} {q : Nat} {kind env a b : Int} {s : ByteArray} (h : Blk w q 34 #[.int .i64 kind, .int .i64 env, .int .i64 a, .int .i64 b, .string s]) : w.rangeAt q 0 [.int .i64 kind, .int .i64 env, .int .i64 a, .int .i64 b, .string s] := by
  intro j v hj
  rw [Nat.zero_add, h.cell j, List.getElem?_toArray]
  exact hj
end Go.Proofs.Ythnapmcjnfeimaa
