/- What parses and what doesn't, in plain words (layer 15). Conditions: those that each states. -/
import Derived.Test.YtpnfmohejcdgfaaIp3
namespace Go.Proofs.Ytpnfmohejcdgfaa.Ip
open Go.ChangeShapes Go.WideShapes Go.ChangeAt Go.RowKit Go.Deep Rk Fl Gx
set_option linter.unusedVariables false
set_option linter.unusedSimpArgs false

theorem parErr_zero {l : List UInt8} (h : parErr l = 0) : 20 ≤ l.length ∧ hlen l ≤ at2 l 2 2 ∧ at2 l 2 2 ≤ l.length ∧ (at2 l 6 2 = 0 ∨ at2 l 6 2 = 16384) ∧ fo (tot (l.take (hlen l))) = 65535 := by
  unfold parErr at h
  split at h
  · cases h
  · rename_i h1
    split at h
    · cases h
    · rename_i h2
      split at h
      · cases h
      · rename_i h3
        split at h
        · cases h
        · rename_i h4
          refine ⟨by omega, by omega, by omega, ?_, Classical.byContradiction h3⟩
          exact Classical.byContradiction fun h => h4 (.inr (.inr h))
theorem parErr_ok {l : List UInt8} (h1 : 20 ≤ l.length) (h2 : 69 ≤ b0 l ∧ b0 l ≤ 79) (h3 : hlen l ≤ l.length) (h4 : fo (tot (l.take (hlen l))) = 65535) (h5 : hlen l ≤ at2 l 2 2) (h6 : at2 l 2 2 ≤ l.length) (h7 : at2 l 6 2 = 0 ∨ at2 l 6 2 = 16384) : parErr l = 0 := by
  unfold parErr
  rw [if_neg (by omega), if_neg (by omega), if_neg (fun h => h h4), if_neg]
  intro h
  rcases h with h | h | h
  · omega
  · omega
  · exact h h7

theorem numB2 (a b : UInt8) : numB [a, b] = a.toNat * 256 + b.toNat := by simp [numB]
theorem numB1 (a : UInt8) : numB [a] = a.toNat := by simp [numB]
theorem numB4 (a b c d : UInt8) : numB [a, b, c, d] = ((a.toNat * 256 + b.toNat) * 256 + c.toNat) * 256 + d.toNat := by simp [numB]
/-- A head's bytes one by one, with what stands behind. -/
def hl20 (i t p s d n k : Nat) (r : List UInt8) : List UInt8 :=
  69 :: 0 :: nb (20 + n) 1 :: nb (20 + n) 0 :: nb i 1 :: nb i 0 :: 64 :: 0 :: nb (t * 256 + p) 1 :: nb (t * 256 + p) 0 :: nb k 1 :: nb k 0 ::
  nb (s / 65536) 1 :: nb (s / 65536) 0 :: nb (s % 65536) 1 :: nb (s % 65536) 0 :: nb (d / 65536) 1 :: nb (d / 65536) 0 :: nb (d % 65536) 1 :: nb (d % 65536) 0 :: r
theorem head_list (i t p s d n : Nat) (r : List UInt8) : ipHead i t p s d n ++ r = hl20 i t p s d n (hSum i t p s d n) r := by
  have e1 : nb 17664 1 = 69 := by decide
  have e2 : nb 17664 0 = 0 := by decide
  have e3 : nb 16384 1 = 64 := by decide
  have e4 : nb 16384 0 = 0 := by decide
  unfold ipHead
  generalize hSum i t p s d n = k
  simp only [hW, wb, be2, hl20, e1, e2, e3, e4, List.cons_append, List.nil_append]
theorem hl_b0 (i t p s d n k : Nat) (r : List UInt8) : b0 (hl20 i t p s d n k r) = 69 := rfl
theorem hl_hlen (i t p s d n k : Nat) (r : List UInt8) : hlen (hl20 i t p s d n k r) = 20 := by unfold hlen; rw [hl_b0]
theorem hl_all (i t p s d n k : Nat) (hn : n ≤ 990) (r : List UInt8) : at2 (hl20 i t p s d n k r) 2 2 = 20 + n := by
  show numB [nb (20 + n) 1, nb (20 + n) 0] = _
  rw [numB2, nb1 (by omega), nb0]; omega
theorem hl_cut (i t p s d n k : Nat) (r : List UInt8) : at2 (hl20 i t p s d n k r) 6 2 = 16384 := rfl
theorem hl_id (i t p s d n k : Nat) (h : Pk i t p s d) (r : List UInt8) : at2 (hl20 i t p s d n k r) 4 2 = i := by
  have := h.i
  show numB [nb i 1, nb i 0] = _
  rw [numB2, nb1 (by omega), nb0]; omega
theorem hl_ttl (i t p s d n k : Nat) (h : Pk i t p s d) (r : List UInt8) : at2 (hl20 i t p s d n k r) 8 1 = t := by
  have := h.t
  have := h.p
  show numB [nb (t * 256 + p) 1] = _
  rw [numB1, nb1 (by omega)]; omega
theorem hl_proto (i t p s d n k : Nat) (h : Pk i t p s d) (r : List UInt8) : at2 (hl20 i t p s d n k r) 9 1 = p := by
  have := h.p
  show numB [nb (t * 256 + p) 0] = _
  rw [numB1, nb0]; omega
theorem hl_src (i t p s d n k : Nat) (h : Pk i t p s d) (r : List UInt8) : at2 (hl20 i t p s d n k r) 12 4 = s := by
  have := h.s
  show numB [nb (s / 65536) 1, nb (s / 65536) 0, nb (s % 65536) 1, nb (s % 65536) 0] = _
  rw [numB4, nb1 (by omega), nb0, nb1 (by omega), nb0]; omega
theorem hl_dst (i t p s d n k : Nat) (h : Pk i t p s d) (r : List UInt8) : at2 (hl20 i t p s d n k r) 16 4 = d := by
  have := h.d
  show numB [nb (d / 65536) 1, nb (d / 65536) 0, nb (d % 65536) 1, nb (d % 65536) 0] = _
  rw [numB4, nb1 (by omega), nb0, nb1 (by omega), nb0]; omega

/-- What is built is parsed, whatever stands behind it. -/
theorem pk_back {i t p s d : Nat} (h : Pk i t p s d) (l r : List UInt8) (hl : l.length ≤ 990) :
    parErr (ipHead i t p s d l.length ++ (l ++ r)) = 0 ∧ at2 (ipHead i t p s d l.length ++ (l ++ r)) 4 2 = i ∧ at2 (ipHead i t p s d l.length ++ (l ++ r)) 8 1 = t ∧ at2 (ipHead i t p s d l.length ++ (l ++ r)) 9 1 = p ∧ at2 (ipHead i t p s d l.length ++ (l ++ r)) 12 4 = s ∧ at2 (ipHead i t p s d l.length ++ (l ++ r)) 16 4 = d ∧ hlen (ipHead i t p s d l.length ++ (l ++ r)) = 20 ∧ at2 (ipHead i t p s d l.length ++ (l ++ r)) 2 2 = 20 + l.length ∧ (List.drop 20 (ipHead i t p s d l.length ++ (l ++ r))).take (20 + l.length - 20) = l := by
  have hlen20 := ipHead_length i t p s d l.length
  have e1 : (ipHead i t p s d l.length ++ (l ++ r)).length = 20 + (l.length + r.length) := by rw [List.length_append, List.length_append, hlen20]
  have e2 : (ipHead i t p s d l.length ++ (l ++ r)).take 20 = ipHead i t p s d l.length := by rw [List.take_append_of_le_length (by omega), List.take_of_length_le (by omega)]
  have e3 : (List.drop 20 (ipHead i t p s d l.length ++ (l ++ r))) = l ++ r := by rw [List.drop_append_of_le_length (by omega), List.drop_of_length_le (by omega)]; rfl
  have hl1 := head_list i t p s d l.length (l ++ r)
  have a2 := hl_all i t p s d l.length (hSum i t p s d l.length) hl (l ++ r)
  have hh := hl_hlen i t p s d l.length (hSum i t p s d l.length) (l ++ r)
  have hb := hl_b0 i t p s d l.length (hSum i t p s d l.length) (l ++ r)
  have a6 := hl_cut i t p s d l.length (hSum i t p s d l.length) (l ++ r)
  rw [← hl1] at a2 hh hb a6
  refine ⟨parErr_ok (by omega) (by omega) (by omega) (by rw [hh, e2]; exact head_good h hl) (by omega) (by omega) (.inr a6), ?_, ?_, ?_, ?_, ?_, hh, a2, ?_⟩
  · rw [hl1]; exact hl_id _ _ _ _ _ _ _ h _
  · rw [hl1]; exact hl_ttl _ _ _ _ _ _ _ h _
  · rw [hl1]; exact hl_proto _ _ _ _ _ _ _ h _
  · rw [hl1]; exact hl_src _ _ _ _ _ _ _ h _
  · rw [hl1]; exact hl_dst _ _ _ _ _ _ _ h _
  · rw [e3, Nat.add_sub_cancel_left, List.take_append_of_le_length (by omega), List.take_of_length_le (Nat.le_refl _)]

theorem ev_set : ∀ (l : List UInt8) (j : Nat) (y : UInt8) (hj : j < l.length), (j % 2 = 0 → evs (l.set j y) + l[j].toNat = evs l + y.toNat ∧ ods (l.set j y) = ods l) ∧ (j % 2 = 1 → ods (l.set j y) + l[j].toNat = ods l + y.toNat ∧ evs (l.set j y) = evs l)
  | [], _, _, h => absurd h (by simp)
  | a :: l, 0, y, _ => by
    refine ⟨fun _ => ?_, fun h => by simp at h⟩
    simp only [List.set_cons_zero, evs, ods, List.getElem_cons_zero]
    exact ⟨by omega, trivial⟩
  | a :: l, j + 1, y, h => by
    have ih := ev_set l j y (by simpa using h)
    simp only [List.set_cons_succ, evs, ods, List.getElem_cons_succ]
    refine ⟨fun hj => ?_, fun hj => ?_⟩
    · have := ih.2 (by omega)
      omega
    · have := ih.1 (by omega)
      omega
/-- A head in which one byte but the first is turned isn't parsed. -/
theorem turned {i t p s d : Nat} (h : Pk i t p s d) (l : List UInt8) (hl : l.length ≤ 990) (j : Nat) (h1 : 1 ≤ j) (h20 : j < 20) (y : UInt8) (hj : j < (ipHead i t p s d l.length ++ l).length) (hy : y ≠ (ipHead i t p s d l.length ++ l)[j]) :
    parErr ((ipHead i t p s d l.length ++ l).set j y) ≠ 0 := by
  intro h0
  obtain ⟨_, _, _, _, hg⟩ := parErr_zero h0
  have hlen20 := ipHead_length i t p s d l.length
  have hb : b0 ((ipHead i t p s d l.length ++ l).set j y) = 69 := by
    unfold b0
    rw [List.getD_eq_getElem?_getD, List.getElem?_set_ne (by omega)]
    have := hl_b0 i t p s d l.length (hSum i t p s d l.length) l
    rw [← head_list] at this
    exact this
  have hh : hlen ((ipHead i t p s d l.length ++ l).set j y) = 20 := by unfold hlen; rw [hb]
  have et : ((ipHead i t p s d l.length ++ l).set j y).take 20 = (ipHead i t p s d l.length).set j y := by
    rw [List.take_set, List.take_append_of_le_length (by omega), List.take_of_length_le (by omega)]
  have ej : (ipHead i t p s d l.length ++ l)[j] = (ipHead i t p s d l.length)[j]'(by omega) := List.getElem_append_left (by omega)
  rw [hh, et] at hg
  have hg0 := head_good h hl
  have hs := ev_set (ipHead i t p s d l.length) j y (by omega)
  rw [ej] at hy
  have hne : y.toNat ≠ ((ipHead i t p s d l.length)[j]'(by omega)).toNat := fun e => hy (u8_eq e)
  have q1 := y.toNat_lt
  have q2 := ((ipHead i t p s d l.length)[j]'(by omega)).toNat_lt
  rw [fo_good] at hg hg0
  unfold tot at hg hg0
  generalize ((ipHead i t p s d l.length)[j]'(by omega)).toNat = x at *
  by_cases hp : j % 2 = 0
  · have := hs.1 hp
    omega
  · have := hs.2 (by omega)
    omega
/-- A packet of which bytes are missing isn't parsed. -/
theorem short {i t p s d : Nat} (l : List UInt8) (hl : l.length ≤ 990) (k : Nat) (hk : k < 20 + l.length) : parErr ((ipHead i t p s d l.length ++ l).take k) ≠ 0 := by
  intro h0
  obtain ⟨h20, h1, h2, _, _⟩ := parErr_zero h0
  rw [List.length_take] at h20 h2
  have e : at2 ((ipHead i t p s d l.length ++ l).take k) 2 2 = at2 (ipHead i t p s d l.length ++ l) 2 2 := by
    unfold at2
    rw [List.drop_take, List.take_take, Nat.min_eq_left (by omega)]
  have a2 := hl_all i t p s d l.length (hSum i t p s d l.length) hl l
  rw [← head_list] at a2
  omega
/-- Nor one that says that it is a fragment. -/
theorem fragment {i t p s d : Nat} (l : List UInt8) (x y : UInt8) : parErr ((((ipHead i t p s d l.length ++ l).set 6 32).set 10 x).set 11 y) ≠ 0 := by
  intro h0
  obtain ⟨_, _, _, h6, _⟩ := parErr_zero h0
  rw [head_list] at h6
  have e : at2 ((((hl20 i t p s d l.length (hSum i t p s d l.length) l).set 6 32).set 10 x).set 11 y) 6 2 = 8192 := rfl
  rw [e] at h6
  omega
end Go.Proofs.Ytpnfmohejcdgfaa.Ip
