/- The document's disk: any call. Conditions: those that each states. -/
import Derived.Test.YthnapmcjnfeimaaRf7
namespace Go.Proofs.Ythnapmcjnfeimaa.RD
open Go.ChangeShapes Go.WideShapes Go.ChangeAt Go.RowKit Go.Deep Di
set_option linter.unusedVariables false
section
variable {w w' w1 w2 : World} {gm bt bo ct co cl cl' co' ct' : Nat} {Al Al' : Option Addr} {d d' : Dk} {S R : Nat → Prop}
theorem rdo2 (h : RefAt w gm bt bo ct co Al cl d) (env a b : Int) (s : ByteArray) (hs : s.size ≤ 1000) (hcnt : d.line.length < 1000000) :
    Calls Try.prog 9 #[.pointer (some ⟨gm, 0, none⟩), .agg #[.int .i64 2, .int .i64 env, .int .i64 a, .int .i64 b, .string s]] w (RPost w gm bt bo Al (writeR d env a s.data.toList).1 [] (writeR d env a s.data.toList).2) := by
  have hl : s.data.toList.length = s.size := Array.length_toList
  unfold writeR
  by_cases he : askE d env a = 0
  · rw [if_pos he]
    by_cases h1 : s.size = 256
    · rw [if_pos (by rw [hl]; exact h1)]
      by_cases h0 : d.armed = 0
      · rw [if_pos h0]
        exact rdo2_cut h env a b s he h1 h0
      · rw [if_neg h0]
        by_cases hm : d.armed = -1
        · exact rdo2_lay1 h env a b s he h1 hcnt hm
        · exact rdo2_lay2 h env a b s he h1 hcnt h0 hm
    · rw [if_neg (by rw [hl]; exact h1)]
      exact rdo2_len h env a b s he h1 hs
  · rw [if_neg he]
    exact rdo2_ask h env a b s he
theorem rdo_at (h : RefAt w gm bt bo ct co Al cl d) (kind env a b : Int) (s : ByteArray) (wa : -9223372036854775808 ≤ a ∧ a ≤ 9223372036854775807) (hs : s.size ≤ 1000) (hcnt : d.line.length < 1000000) :
    Calls Try.prog 9 #[.pointer (some ⟨gm, 0, none⟩), .agg #[.int .i64 kind, .int .i64 env, .int .i64 a, .int .i64 b, .string s]] w (RPost w gm bt bo Al (doD d ⟨kind, env, a, b, s⟩).1 (doD d ⟨kind, env, a, b, s⟩).2.1 (doD d ⟨kind, env, a, b, s⟩).2.2) := by
  by_cases q0 : kind = 0
  · subst q0; exact rdo0 h env a b s wa
  by_cases q1 : kind = 1
  · subst q1; exact rdo1 h env a b s
  by_cases q2 : kind = 2
  · subst q2; exact rdo2 h env a b s hs hcnt
  by_cases q3 : kind = 3
  · subst q3; exact rdo3 h env a b s
  by_cases q4 : kind = 4
  · subst q4; exact rdo4 h env a b s wa.2
  by_cases q5 : kind = 5
  · subst q5; exact rdo5 h env a b s
  by_cases q6 : kind = 6
  · subst q6; exact rdo6 h env a b s
  have e : doD d ⟨kind, env, a, b, s⟩ = (d, [], 0) := by unfold doD; simp only [q0, q1, q2, q3, q4, q5, q6, if_false]
  rw [e]
  exact rdo7 h kind env a b s q0 q1 q2 q3 q4 q5 q6
theorem rdo_any (h : RA w R gm d) (kind env a b : Int) (s : ByteArray) (wa : -9223372036854775808 ≤ a ∧ a ≤ 9223372036854775807) (hs : s.size ≤ 1000) (hcnt : d.line.length < 1000000) :
    Calls Try.prog 9 #[.pointer (some ⟨gm, 0, none⟩), .agg #[.int .i64 kind, .int .i64 env, .int .i64 a, .int .i64 b, .string s]] w fun e w' => e = .returned (.tuple #[.string ⟨(doD d ⟨kind, env, a, b, s⟩).2.1.toArray⟩, .int .i64 (doD d ⟨kind, env, a, b, s⟩).2.2]) ∧ ∃ R', RA w' R' gm (doD d ⟨kind, env, a, b, s⟩).1 ∧ Step w w' R R' := by
  obtain ⟨bt, bo, ct, co, Al, cl, D, hF⟩ := h
  have hFe : R = rfoot gm bt bo Al := funext fun k => propext (hF k)
  subst hFe
  exact (rdo_at D kind env a b s wa hs hcnt).mono fun _ _ h => h
end
/-- A disk and the document's, beside one another. -/
structure Both (B : Nat) (w : World) (g gm : Nat) (d : Dk) : Prop where
  ex : ∃ F R, DA w F g d ∧ RA w R gm d ∧ (∀ k, F k → B ≤ k) ∧ (∀ k, R k → B ≤ k) ∧ ∀ k, F k → ¬ R k
  lt : B ≤ w.heap.size
section
variable {w w' : World} {B g gm : Nat} {d d' : Dk}
theorem Both.new (h : Both B w g gm d) (k : Below w.heap.size w w') : Both B w' g gm d := by
  obtain ⟨F, R, h1, h2, h3, h4, h5⟩ := h.ex
  exact ⟨⟨F, R, h1.new k, h2.new k, h3, h4, h5⟩, Nat.le_trans h.lt k.size⟩
theorem Both.drewN (h : Both B w g gm d) (n : Nat) : Both B (w.drewN n) g gm d := by
  obtain ⟨F, R, h1, h2, h3, h4, h5⟩ := h.ex
  exact ⟨⟨F, R, h1.drewN n, h2.drewN n, h3, h4, h5⟩, h.lt⟩
/-- The two disks between their calls. -/
structure Mid (B : Nat) (w : World) (g gm : Nat) (d' d : Dk) : Prop where
  ex : ∃ F R, DA w F g d' ∧ RA w R gm d ∧ (∀ k, F k → B ≤ k) ∧ (∀ k, R k → B ≤ k) ∧ ∀ k, F k → ¬ R k
  lt : B ≤ w.heap.size
theorem Both.do_ (h : Both B w g gm d) (kind env a b : Int) (s : ByteArray) (wa : -9223372036854775808 ≤ a ∧ a ≤ 9223372036854775807) (hs : s.size ≤ 1000) (h1 : d.exts.length < 1000000) (h2 : d.line.length < 1000000) :
    Calls Try.prog 8 #[.pointer (some ⟨g, 0, none⟩), .agg #[.int .i64 kind, .int .i64 env, .int .i64 a, .int .i64 b, .string s]] w fun e w' => e = .returned (.tuple #[.string ⟨(doD d ⟨kind, env, a, b, s⟩).2.1.toArray⟩, .int .i64 (doD d ⟨kind, env, a, b, s⟩).2.2]) ∧ Mid B w' g gm (doD d ⟨kind, env, a, b, s⟩).1 d ∧ Below B w w' := by
  obtain ⟨F, R, hd, hr, hF, hR, hX⟩ := h.ex
  refine (do_any hd kind env a b s wa hs h1 h2).mono ?_
  rintro e w' ⟨rfl, F', h', k⟩
  refine ⟨rfl, ⟨⟨F', R, h', hr.chg k.1 hX, fun i hi => ?_, hR, fun i hi hr' => ?_⟩, Nat.le_trans h.lt k.1.size⟩, k.1.below h.lt hF⟩
  · rcases k.2 i hi with e | e
    · exact hF i e
    · exact Nat.le_trans h.lt e
  · rcases k.2 i hi with e | e
    · exact hX i e hr'
    · have := hr.lt hr'; omega
theorem Mid.new (h : Mid B w g gm d' d) (k : Below w.heap.size w w') : Mid B w' g gm d' d := by
  obtain ⟨F, R, h1, h2, h3, h4, h5⟩ := h.ex
  exact ⟨⟨F, R, h1.new k, h2.new k, h3, h4, h5⟩, Nat.le_trans h.lt k.size⟩
theorem Mid.do_ (kind env a b : Int) (s : ByteArray) (h : Mid B w g gm (doD d ⟨kind, env, a, b, s⟩).1 d) (wa : -9223372036854775808 ≤ a ∧ a ≤ 9223372036854775807) (hs : s.size ≤ 1000) (h2 : d.line.length < 1000000) :
    Calls Try.prog 9 #[.pointer (some ⟨gm, 0, none⟩), .agg #[.int .i64 kind, .int .i64 env, .int .i64 a, .int .i64 b, .string s]] w fun e w' => e = .returned (.tuple #[.string ⟨(doD d ⟨kind, env, a, b, s⟩).2.1.toArray⟩, .int .i64 (doD d ⟨kind, env, a, b, s⟩).2.2]) ∧ Both B w' g gm (doD d ⟨kind, env, a, b, s⟩).1 ∧ Below B w w' := by
  obtain ⟨F, R, hd, hr, hF, hR, hX⟩ := h.ex
  refine (rdo_any hr kind env a b s wa hs h2).mono ?_
  rintro e w' ⟨rfl, R', h', k⟩
  refine ⟨rfl, ⟨⟨F, R', hd.chg k.1 (fun i hi hf => hX i hf hi), h', hF, fun i hi => ?_, fun i hf hi => ?_⟩, Nat.le_trans h.lt k.1.size⟩, k.1.below h.lt hR⟩
  · rcases k.2 i hi with e | e
    · exact hR i e
    · exact Nat.le_trans h.lt e
  · rcases k.2 i hi with e | e
    · exact hX i hf e
    · have := hd.lt hf; omega
theorem both_on (h : Both B w g gm d) : Calls Try.prog 10 #[.pointer (some ⟨g, 0, none⟩)] w fun e w' => e = .returned (.bool d.on) ∧ w' = w := by
  obtain ⟨F, R, hd, _⟩ := h.ex
  exact on_da hd
theorem both_waits (h : Both B w g gm d) : Calls Try.prog 11 #[.pointer (some ⟨g, 0, none⟩)] w fun e w' => e = .returned (.int .i64 (d.line.length : Int)) ∧ w' = w := by
  obtain ⟨F, R, hd, _⟩ := h.ex
  exact waits_da hd
theorem both_size (h : Both B w g gm d) : Calls Try.prog 12 #[.pointer (some ⟨g, 0, none⟩)] w fun e w' => e = .returned (.int .i64 (d.blocks.length : Int)) ∧ w' = w := by
  obtain ⟨F, R, hd, _⟩ := h.ex
  exact size_da hd
end
end Go.Proofs.Ythnapmcjnfeimaa.RD
