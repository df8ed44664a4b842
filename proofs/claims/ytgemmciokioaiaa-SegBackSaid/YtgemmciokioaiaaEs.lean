/- Package octet's reader as one fact that is carried: its bytes and its error (a state s); what each of its calls tells and leaves. Needs no more than octet. Conditions: those that each states. -/
import Derived.Test.YtgemmciokioaiaaTk
import Derived.Test.YtgemmciokioaiaaBase
namespace Go.Proofs.Ytgemmciokioaiaa.Es
open Go.ChangeShapes Go.WideShapes Go.ChangeAt Go.RowKit Go.Deep
set_option linter.unusedVariables false

/-- A reader's state: the bytes that are left, and the error. -/
abbrev Rd := List UInt8 × Int
def numS (s : Rd) (k : Int) : Nat × Rd := (numB (takeR s.1 s.2 k true).1, (takeR s.1 s.2 k true).2)
def bytS (s : Rd) (k : Int) : List UInt8 × Rd := takeR s.1 s.2 k false
theorem numS_ok (l : List UInt8) (k : Nat) (h1 : 1 ≤ k) (h8 : k ≤ 8) (hl : k ≤ l.length) : numS (l, 0) k = (numB (l.take k), (l.drop k, 0)) := by
  unfold numS; rw [takeR_ok (by simp <;> omega) (by simp <;> omega)]; simp
theorem numS_few (l : List UInt8) (k : Nat) (h1 : 1 ≤ k) (h8 : k ≤ 8) (hl : l.length < k) : numS (l, 0) k = (0, ([], 50)) := by
  unfold numS; rw [takeR_few (by simp <;> omega) (by simp <;> omega)]; rfl
theorem numS_met (e k : Int) (h : e ≠ 0) : numS ([], e) k = (0, ([], e)) := by unfold numS; rw [takeR_met h]; rfl
theorem bytS_ok (l : List UInt8) (k : Nat) (hl : k ≤ l.length) : bytS (l, 0) k = (l.take k, (l.drop k, 0)) := by
  unfold bytS; rw [takeR_ok (by simp <;> omega) (by simp <;> omega)]; simp
theorem bytS_met (e k : Int) (h : e ≠ 0) : bytS ([], e) k = ([], ([], e)) := by unfold bytS; rw [takeR_met h]
theorem bytS_few (l : List UInt8) (k : Nat) (hl : l.length < k) : bytS (l, 0) k = ([], ([], 50)) := by
  unfold bytS; rw [takeR_few (by simp <;> omega) (by simp <;> omega)]
theorem bytS_neg (l : List UInt8) (k : Int) (hl : k < 0) : bytS (l, 0) k = ([], ([], 1)) := by
  unfold bytS; rw [takeR_bad (.inl hl)]
theorem numB_lt256 (l : List UInt8) : numB l < 256 ^ l.length := by have := numB_lt l l.length (Nat.le_refl _); rwa [List.take_length] at this
theorem numS_lt (s : Rd) (k : Nat) (h : k ≤ 8) : (numS s k).1 < 256 ^ k := by
  have h1 := numB_lt256 (takeR s.1 s.2 k true).1
  have h2 : (takeR s.1 s.2 k true).1.length ≤ k := by
    unfold takeR
    split
    · simp
    · split
      · simp
      · split <;> simp <;> omega
  exact Nat.lt_of_lt_of_le h1 (Nat.pow_le_pow_right (by omega) h2)
theorem num_inv (s : Rd) (k : Int) (h : s.2 ≠ 0 → s.1 = []) : (numS s k).2.2 ≠ 0 → (numS s k).2.1 = [] := takeR_inv s.1 s.2 k true h
theorem byt_inv (s : Rd) (k : Int) (h : s.2 ≠ 0 → s.1 = []) : (bytS s k).2.2 ≠ 0 → (bytS s k).2.1 = [] := takeR_inv s.1 s.2 k false h

theorem chg_of_row {w w' : World} {g : Nat} (h : w.grownBy w' (some g)) : Chg w w' (fun b => b = g) :=
  ⟨h.os, h.tape, h.output, h.size, fun i hi hn => h.block i hi (fun e => hn (Option.some.inj e))⟩
/-- A reader in memory, whose bytes and error are s. -/
structure EyeS (w : World) (g : Nat) (s : Rd) : Prop where
  at_ : EyeAt w 0 g s.1 s.2
  met : s.2 ≠ 0 → s.1 = []
theorem EyeS.lt {w : World} {g : Nat} {s : Rd} (h : EyeS w g s) : g < w.heap.size := by
  obtain ⟨_, _, A, c, hb, _⟩ := h.at_
  exact hb.lt
/-- Writes behind the reader leave it. -/
theorem EyeS.away {w w' : World} {g : Nat} {s : Rd} {S : Nat → Prop} (h : EyeS w g s) (k : Chg w w' S) (hS : ∀ b, S b → g < b) : EyeS w' g s := by
  obtain ⟨⟨h0, hl, A, c, hb, hs, hn⟩, hm⟩ := h
  refine ⟨⟨h0, hl, A, c, hb.chg k (fun e => absurd (hS _ e) (Nat.lt_irrefl _)), ⟨⟨fun hp => ?_, hs.len, hs.cap, hs.max⟩, hs.none_⟩, hn⟩, hm⟩
  obtain ⟨b, o, rfl, hbl, hc⟩ := hs.lies hp
  have hbg : b < g := hn (by rw [bys_length] at hp; exact hp) b o rfl
  refine ⟨b, o, rfl, Nat.lt_of_lt_of_le hbl k.size, fun j hj => ?_⟩
  rw [World.cell?_of_block (w := w) (w' := w') (a := ⟨b, o + j, none⟩) (k.block b hbl (fun e => absurd (hS b e) (by omega)))]
  exact hc j hj
theorem EyeS.new {w w' : World} {g : Nat} {s : Rd} (h : EyeS w g s) (k : Below w.heap.size w w') : EyeS w' g s := h.away (Chg.of_new k fun _ => False) (fun _ e => e.elim)
theorem EyeS.drewN {w : World} {g : Nat} {s : Rd} (h : EyeS w g s) (n : Nat) : EyeS (w.drewN n) g s := h.away ((Chg.refl w (fun _ => False)).drewN n) (fun _ e => e.elim)
theorem src_chg {w w' : World} {A : Option Addr} {n c : Nat} {l : List UInt8} {S : Nat → Prop} (h : Src w A n c l) (k : Chg w w' S) (hn : 0 < l.length → ∀ b o, A = some ⟨b, o, none⟩ → ¬ S b) : Src w' A n c l := by
  refine ⟨⟨fun hp => ?_, h.len, h.cap, h.max⟩, h.none_⟩
  obtain ⟨b, o, e, hb, hc⟩ := h.lies hp
  refine ⟨b, o, e, Nat.lt_of_lt_of_le hb k.size, fun j hj => ?_⟩
  rw [World.cell?_of_block (w := w) (w' := w') (a := ⟨b, o + j, none⟩) (k.block b hb (hn (by rw [bys_length] at hp; exact hp) b o e))]
  exact hc j hj
theorem chg_below {w w1 w2 : World} {g : Nat} (h : Below w.heap.size w w1) (k : Chg w1 w2 (fun b => b = g)) (hg : w.heap.size ≤ g) : Below w.heap.size w w2 :=
  ⟨k.os.trans h.os, k.tape.trans h.tape, k.output.trans h.output, Nat.le_trans h.size k.size, fun i hi => (k.block i (Nat.lt_of_lt_of_le hi h.size) (by omega)).trans (h.block i hi)⟩

/-- Bytes that are there don't lie in a block of other cells. -/
theorem src_apart {w : World} {A : Option Addr} {n c g : Nat} {l : List UInt8} {t : TypeId} {cs : Array Value} (h : Src w A n c l) (hb : Blk w g t cs) (hc : ∀ v ∈ cs.toList, ∀ x, v ≠ .int .u8 x) : 0 < l.length → ∀ b o, A = some ⟨b, o, none⟩ → ¬ b = g := by
  intro hp b o e hbg
  subst e hbg
  obtain ⟨b', o', e', _, hk⟩ := h.lies (by rw [bys_length]; exact hp)
  cases e'
  have h0 := hk 0 (by rw [bys_length]; exact hp)
  rw [hb.cell (o + 0)] at h0
  simp only [bys, List.getElem_map] at h0
  obtain ⟨hi, e⟩ := Array.getElem?_eq_some_iff.1 h0
  exact hc _ (by rw [← e]; simp) _ rfl
theorem newS_any (A : Option Addr) (n c : Nat) (l : List UInt8) (w : World) (hb : Src w A n c l) (hn : n ≤ 1000000) :
    Calls Try.prog 31 #[.slice A n c] w fun e w' => ∃ g, e = .returned (.pointer (some ⟨g, 0, none⟩)) ∧ EyeS w' g (l, 0) ∧ w.heap.size ≤ g ∧ Below w.heap.size w w' := by
  refine (new_any A n c l w hb hn).mono ?_
  rintro e w' ⟨g, rfl, ⟨h0, h1, h2⟩, h3, h4⟩
  exact ⟨g, rfl, ⟨⟨Nat.zero_le _, h1, h2⟩, fun h => absurd rfl h⟩, h0, h4⟩
theorem numS_any (g : Nat) (s : Rd) (k : Int) (w : World) (h : EyeS w g s) :
    Calls Try.prog 41 #[.pointer (some ⟨g, 0, none⟩), .int .i64 k] w fun e w' => e = .returned (.int .u64 ((numS s k).1 : Int)) ∧ EyeS w' g (numS s k).2 ∧ Chg w w' (fun b => b = g) := by
  refine (num_any 0 g s.1 s.2 k w h.at_ h.met).mono ?_
  rintro e w' ⟨rfl, e1, k1⟩
  exact ⟨rfl, ⟨e1, num_inv s k h.met⟩, chg_of_row k1⟩
end Go.Proofs.Ytgemmciokioaiaa.Es
