/- PoolParts' pool in plain words: heads in its first slots; the bytes of a piece. Conditions: those that each states. -/
import Derived.Test.YthnpalcjfgbjeaaGreatPoZ
namespace Go.Proofs.YthnpalcjfgbjeaaGreat.Ps
open Go.ChangeShapes Go.WideShapes Go.ChangeAt Go.RowKit Go.Deep Fr Di Ke Po Fl
set_option linter.unusedVariables false

structure HP (P : Po) (hs : List (List UInt8)) : Prop where
  n6 : P.sl.length = 6
  m6 : P.K.ps.length = 6
  h6 : hs.length ≤ 6
  lo : ∀ i (h : i < hs.length), P.sl[i]? = some ⟨3, 0, (hs[i].length : Int), fl (evs hs[i]), fl (ods hs[i]), i, 1, false⟩ ∧ ∃ p, P.K.ps[i]? = some p ∧ p.owner = 1 ∧ p.holds = 0 ∧ p.text.length = 256 ∧ p.text.take hs[i].length = hs[i] ∧ hs[i].length ≤ 256
  hi : ∀ i, hs.length ≤ i → i < 6 → P.sl[i]? = some (Sl.bare i) ∧ P.K.ps[i]? = some own1
  sm : P.K.Small 0
variable {P : Po} {hs : List (List UInt8)}
theorem own1_text : own1.text.length = 256 := by decide +kernel
theorem hp_start : HP (newP 6 12 6) [] := by
  refine ⟨rfl, rfl, by simp, fun i h => absurd h (by simp), fun i _ h => ?_, newAt_small 6 12 6⟩
  match i, h with
  | 0, _ => exact ⟨rfl, rfl⟩
  | 1, _ => exact ⟨rfl, rfl⟩
  | 2, _ => exact ⟨rfl, rfl⟩
  | 3, _ => exact ⟨rfl, rfl⟩
  | 4, _ => exact ⟨rfl, rfl⟩
  | 5, _ => exact ⟨rfl, rfl⟩
theorem pg_of {ps : List Pg} {f : Nat} {p : Pg} (h : ps[f]? = some p) : Fr.pg ps (f : Int) = p := by
  have hl := (List.getElem?_eq_some_iff.1 h).1
  rw [pg_at hl]
  rw [List.getElem?_eq_getElem hl] at h
  exact Option.some.inj h
theorem owns_of {ps : List Pg} {f : Nat} {p : Pg} (h : ps[f]? = some p) (ho : p.owner = 1) : ownErr ps 1 (f : Int) = 0 := by
  have hl := (List.getElem?_eq_some_iff.1 h).1
  unfold ownErr
  rw [if_pos ⟨.inl rfl, by unfold isF; omega⟩, pg_of h, ho]
  rfl
theorem wrote_at {K : Kn} {f : Nat} {p : Pg} (hp : K.ps[f]? = some p) (ho : p.owner = 1) (hh : p.holds = 0) {b : List UInt8} (hb : b.length ≤ 256) :
    wroteE K f b = 0 ∧ wroteK K f b = { K with ps := K.ps.set f { p with text := b ++ p.text.drop b.length } } := by
  have e4 : Fr.writeR K.ps 1 (f : Int) 0 b = (K.ps.set f { p with text := b ++ p.text.drop b.length }, 0) := by
    unfold Fr.writeR
    rw [if_pos (owns_of hp ho), if_pos (show isIn 0 (b.length : Int) from by unfold isIn; omega), pg_of hp, if_pos hh]
    simp
  unfold wroteE wroteK
  rw [callR_5 _ 1 (.inl rfl), e4]
  exact ⟨rfl, rfl⟩
theorem free_hp (h : HP P hs) (hl : hs.length < 6) : P.sl.findIdx? (isFree P.K) = some hs.length := by
  have h6 := h.n6
  rw [List.findIdx?_eq_some_iff_getElem]
  refine ⟨by omega, ?_, fun j hj => ?_⟩
  · obtain ⟨h1, h2⟩ := h.hi _ (Nat.le_refl _) hl
    rw [List.getElem?_eq_getElem (by omega)] at h1
    rw [Option.some.inj h1]
    have hm := h.m6
    unfold isFree unusedB holdsV
    have hF : isF P.K.ps ((hs.length : Nat) : Int) := by unfold isF; omega
    have e0 : own1.holds = 0 := rfl
    simp [Sl.bare, pg_of h2, hF, e0]
  · obtain ⟨h1, _⟩ := h.lo j hj
    rw [List.getElem?_eq_getElem (by omega)] at h1
    rw [Option.some.inj h1]
    simp [isFree]
theorem head_hp (h : HP P hs) (hl : hs.length < 6) {b : List UInt8} (hb : b.length ≤ 256) : HP (headR P b).1 (hs ++ [b]) ∧ (headR P b).2 = ((hs.length : Int), 0) := by
  have ht := take_free (free_hp h hl)
  obtain ⟨h1, h2⟩ := h.hi _ (Nat.le_refl _) hl
  obtain ⟨w0, w1⟩ := wrote_at h2 rfl rfl hb
  have hR : headR P b = (⟨{ P.K with ps := P.K.ps.set hs.length { own1 with text := b ++ own1.text.drop b.length } }, P.sl.set hs.length ⟨3, 0, (b.length : Int), fl (evs b), fl (ods b), hs.length, 1, false⟩, P.hand, P.fills⟩, (hs.length : Int), 0) := by
    unfold headR
    rw [if_neg (by omega), ht]
    dsimp only
    rw [fill_is h1, show (Sl.bare hs.length).frame = hs.length from rfl, w0, if_pos rfl, w1]
    dsimp only
    rw [if_pos rfl, frameOf_at (by show hs.length < (P.sl.set _ _).length; rw [List.length_set, h.n6]; exact hl)]
    simp [Sl.bare]
  rw [hR]
  have hn := h.n6
  have hm := h.m6
  refine ⟨⟨by show (P.sl.set _ _).length = 6; rw [List.length_set]; exact hn, by show (P.K.ps.set _ _).length = 6; rw [List.length_set]; exact hm, by simp; omega, fun i hi => ?_, fun i h3 h4 => ?_, ⟨h.sm.next, h.sm.a1, h.sm.a2, h.sm.out, h.sm.done, h.sm.line⟩⟩, rfl⟩
  · by_cases e : i = hs.length
    · subst e
      have e2 : (hs ++ [b])[hs.length]'hi = b := by rw [List.getElem_append_right (Nat.le_refl _)]; simp
      rw [e2]
      refine ⟨List.getElem?_set_self (by omega), _, List.getElem?_set_self (by omega), rfl, rfl, ?_, ?_, hb⟩
      · show (b ++ own1.text.drop b.length).length = 256
        rw [List.length_append, List.length_drop, own1_text]; omega
      · show (b ++ own1.text.drop b.length).take b.length = b
        simp
    · have hi' : i < hs.length := by simp at hi; omega
      have e2 : (hs ++ [b])[i]'hi = hs[i] := List.getElem_append_left hi'
      rw [e2]
      obtain ⟨q1, p, q2, q3⟩ := h.lo i hi'
      exact ⟨(List.getElem?_set_ne (fun e' => e e'.symm)).trans q1, p, (List.getElem?_set_ne (fun e' => e e'.symm)).trans q2, q3⟩
  · have h5 : hs.length + 1 ≤ i := by simpa using h3
    obtain ⟨q1, q2⟩ := h.hi i (by omega) h4
    exact ⟨(List.getElem?_set_ne (by omega)).trans q1, (List.getElem?_set_ne (by omega)).trans q2⟩
/-- A piece may be summed: within its frame, which has a pin. -/
def okP (n : Nat) (x : Pc) : Bool := decide ((0 ≤ x.off ∧ 0 ≤ x.len ∧ x.off + x.len ≤ 256) ∧ 0 ≤ x.frame ∧ x.frame < (n : Int))
/-- Its bytes. -/
def bytesP (P : Po) (x : Pc) : List UInt8 := ((Fr.pg P.K.ps x.frame).text.drop x.off.toNat).take x.len.toNat
theorem pinned_yes (h : HP P hs) {i : Nat} (hi : i < hs.length) : pinned P (i : Int) = some i := by
  have hn := h.n6
  have h6 := h.h6
  unfold pinned
  rw [List.findIdx?_eq_some_iff_getElem]
  refine ⟨by omega, ?_, fun j hj => ?_⟩
  · obtain ⟨h1, _⟩ := h.lo i hi
    rw [List.getElem?_eq_getElem (by omega)] at h1
    rw [Option.some.inj h1]
    simp [isPinned]
  · obtain ⟨h1, _⟩ := h.lo j (by omega)
    rw [List.getElem?_eq_getElem (by omega)] at h1
    rw [Option.some.inj h1]
    simp [isPinned]
    omega
theorem pinned_no (h : HP P hs) {f : Int} (hf : ¬ (0 ≤ f ∧ f < (hs.length : Int))) : pinned P f = none := by
  have hn := h.n6
  unfold pinned
  rw [List.findIdx?_eq_none_iff]
  intro z hz
  obtain ⟨j, hj, rfl⟩ := List.mem_iff_getElem.1 hz
  by_cases hlt : j < hs.length
  · obtain ⟨h1, _⟩ := h.lo j hlt
    rw [List.getElem?_eq_getElem hj] at h1
    rw [Option.some.inj h1]
    simp [isPinned]
    omega
  · obtain ⟨h1, _⟩ := h.hi j (by omega) (by omega)
    rw [List.getElem?_eq_getElem hj] at h1
    rw [Option.some.inj h1]
    simp [isPinned, Sl.bare]
theorem okP_frame {n : Nat} {x : Pc} (h : okP n x = true) : ∃ (i o m : Nat), x = ⟨(i : Int), (o : Int), (m : Int)⟩ ∧ i < n ∧ o + m ≤ 256 := by
  unfold okP at h
  simp at h
  obtain ⟨f, o, m⟩ := x
  dsimp only at h
  exact ⟨f.toNat, o.toNat, m.toNat, by congr 1 <;> omega, by omega, by omega⟩
theorem read_hp (h : HP P hs) {x : Pc} (hx : okP hs.length x = true) : Fr.readR P.K.ps 1 x.frame x.off x.len = (bytesP P x, 0) ∧ (bytesP P x).length = x.len.toNat := by
  obtain ⟨i, o, m, rfl, hi, hom⟩ := okP_frame hx
  obtain ⟨_, p, hp, ho, hh, ht, _⟩ := h.lo i hi
  refine ⟨?_, ?_⟩
  · unfold Fr.readR bytesP
    dsimp only
    rw [if_pos (owns_of hp ho), if_pos (show isIn (o : Int) (m : Int) from by unfold isIn; omega)]
  · unfold bytesP
    dsimp only
    rw [pg_of hp]
    simp [ht]; omega
/-- What was told of all bytes of a head is that of the piece's. -/
theorem bytes_all (h : HP P hs) {i : Nat} (hi : i < hs.length) : bytesP P ⟨(i : Int), 0, (hs[i].length : Int)⟩ = hs[i] := by
  obtain ⟨_, p, hp, ho, hh, ht, hx, _⟩ := h.lo i hi
  unfold bytesP
  dsimp only
  rw [pg_of hp]
  simpa using hx
theorem hp_few (h : HP P hs) : ∀ z ∈ P.sl, z.pins < 1000000 := fun z hz => by
  obtain ⟨j, hj, rfl⟩ := List.mem_iff_getElem.1 hz
  by_cases hlt : j < hs.length
  · obtain ⟨h1, _⟩ := h.lo j hlt
    rw [List.getElem?_eq_getElem hj] at h1
    rw [Option.some.inj h1]
    show 1 < 1000000; omega
  · obtain ⟨h1, _⟩ := h.hi j (by omega) (by have := h.n6; omega)
    rw [List.getElem?_eq_getElem hj] at h1
    rw [Option.some.inj h1]
    show 0 < 1000000; omega
end Go.Proofs.YthnpalcjfgbjeaaGreat.Ps
