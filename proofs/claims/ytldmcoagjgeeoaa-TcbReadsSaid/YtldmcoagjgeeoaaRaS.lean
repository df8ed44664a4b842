/- A buffer of package rasm that parts of one stream come to. Conditions: those that each states. -/
import Derived.Test.YtldmcoagjgeeoaaRaF
import Derived.Test.YtldmcoagjgeeoaaRaO
namespace Go.Proofs.Ytldmcoagjgeeoaa.Ra
open Go.ChangeShapes Go.WideShapes Go.ChangeAt Go.RowKit Go.Deep Rk
set_option linter.unusedVariables false
set_option linter.unusedSimpArgs false

/-- All bytes that are there are the stream's. -/
def St (l : List UInt8) (N : Nat) (xs : Bs) : Prop := N ≤ l.length ∧ ∀ k c, xs[k]? = some (some c) → l[N + k]? = some c
theorem St.start (l : List UInt8) (R : Nat) : St l 0 (List.replicate R none) := ⟨Nat.zero_le _, fun k c h => by rw [List.getElem?_replicate] at h; split at h <;> cases h⟩
theorem St.put {l : List UInt8} {N : Nat} {xs : Bs} (h : St l N xs) (a : Nat) (m : Nat) : St l N (putR xs ((a : Int) - (N : Int)) ((l.drop a).take m)) := by
  refine ⟨h.1, fun k c hk => ?_⟩
  have hl : k < xs.length := by have := (List.getElem?_eq_some_iff.1 hk).1; rwa [putR_length] at this
  rw [List.getElem?_eq_getElem (by rw [putR_length]; exact hl), putR_at _ _ _ _ hl] at hk
  have hk := Option.some.inj hk
  unfold cell1 at hk
  split at hk
  · cases hx : xs[k] with
    | some c' =>
      rw [hx] at hk
      have e : c' = c := by simpa using hk
      subst e
      exact h.2 k c' (by rw [List.getElem?_eq_getElem hl, hx])
    | none =>
      rw [hx] at hk
      rename_i hd
      have hk' : ((l.drop a).take m)[((k : Int) - ((a : Int) - (N : Int))).toNat]? = some c := by simpa using hk
      rw [List.getElem?_take] at hk'
      split at hk'
      · rw [List.getElem?_drop] at hk'
        rw [← hk']
        congr 1
        omega
      · cases hk'
  · exact h.2 k c (by rw [List.getElem?_eq_getElem hl, hk])
theorem St.take {l : List UInt8} {N : Nat} {xs : Bs} (h : St l N xs) : St l (N + rdy xs) (aft xs) ∧ l.take N ++ tk xs = l.take (N + rdy xs) := by
  have hr := rdy_le xs
  have hb : ∀ k (hk : k < rdy xs), l[N + k]? = some ((tk xs)[k]'(by rw [tk_length]; exact hk)) := fun k hk => h.2 k _ (by rw [List.getElem?_eq_getElem (by omega), tk_get xs k hk])
  have hN : N + rdy xs ≤ l.length := by
    by_cases h0 : rdy xs = 0
    · rw [h0]; exact h.1
    · have := (List.getElem?_eq_some_iff.1 (hb (rdy xs - 1) (by omega))).1
      omega
  refine ⟨⟨hN, fun k c hk => ?_⟩, ?_⟩
  · unfold aft at hk
    rw [List.getElem?_append] at hk
    split at hk
    · rw [List.getElem?_drop] at hk
      have := h.2 _ c hk
      rwa [← Nat.add_assoc] at this
    · rw [List.getElem?_replicate] at hk
      split at hk <;> cases hk
  · apply List.ext_getElem?
    intro k
    have hN1 := h.1
    rw [List.getElem?_append, List.length_take, Nat.min_eq_left h.1, List.getElem?_take, List.getElem?_take]
    by_cases h1 : k < N
    · rw [if_pos h1, if_pos h1, if_pos (by omega)]
    · rw [if_neg h1]
      by_cases h2 : k < N + rdy xs
      · rw [if_pos h2, List.getElem?_eq_getElem (by rw [tk_length]; omega)]
        have := hb (k - N) (by omega)
        rw [show N + (k - N) = k from by omega] at this
        exact this.symm
      · rw [if_neg h2, List.getElem?_eq_none (by rw [tk_length]; omega)]
/-- The byte at next is put: one is ready. -/
theorem rdy_put (l : List UInt8) (N R : Nat) (xs : Bs) (hR : 1 ≤ R) (hx : xs.length = R) (hN : N < l.length) : 1 ≤ rdy (putR xs ((N : Int) - (N : Int)) ((l.drop N).take 1)) := by
  refine rdy_ge _ 1 (by rw [putR_length]; omega) (fun k hk h => ?_)
  have h0 : k = 0 := by omega
  subst h0
  rw [putR_at _ _ _ _ (by omega)]
  unfold cell1
  rw [if_pos (by omega)]
  have : ((l.drop N).take 1)[(((0 : Nat) : Int) - ((N : Int) - (N : Int))).toNat]? = some l[N] := by
    rw [show (((0 : Nat) : Int) - ((N : Int) - (N : Int))).toNat = 0 from by omega, List.getElem?_take, if_pos (by omega), List.getElem?_drop, Nat.add_zero, List.getElem?_eq_getElem hN]
  rw [this]
  cases xs[0]'(by omega) <;> rfl
/-- '[]byte(t)' is put. -/
theorem put_conv {w0 w : World} {gt gm g R N : Nat} {xs : Bs} (h : BB w0 w gt gm g R N xs) (a : Int) (ha : -9223372036854775808 ≤ a ∧ a ≤ 9223372036854775807) (t : ByteArray) (ht : t.size ≤ 1000000) :
    ∃ A c W', (convert 9 33 (.string t)).run Try.prog w = .ok (.slice A t.size c) W' ∧
      Calls Try.prog 57 #[.pointer (some ⟨g, 0, none⟩), .int .i64 a, .slice A t.size c] W' fun e w' => e = .returned (.int .i64 ((held (putR xs (a - N) t.data.toList) : Int) - held xs)) ∧ BB w0 w' gt gm g R N (putR xs (a - N) t.data.toList) := by
  obtain ⟨A, c, W', hr, hs, hb, hA⟩ := Di.conv_src t ht w
  have L := h.buf.lt
  refine ⟨A, c, W', hr, ((h.new hb).put a ha A t.size c _ hs (by omega) (fun h0 x hx => ?_)).mono ?_⟩
  · obtain ⟨b, o, e, _, _⟩ := hs.lies (by rw [bys_length]; have := hs.len; omega)
    rw [e] at hx
    cases hx
    have := hA b o e
    exact ⟨by show b ≠ gt; omega, by show b ≠ gm; omega, by show b ≠ g; omega⟩
  · rintro e w' ⟨rfl, hb, _⟩
    exact ⟨rfl, hb⟩
theorem u16_at {w : World} {A : Option Addr} {c : Nat} {l : List Nat} (h : RowG w 1 A l.length c (l.flatMap U16sC)) {i : Nat} (hi : i < l.length) : ∃ b o, A = some ⟨b, o, none⟩ ∧ b < w.heap.size ∧ w.cell? ⟨b, o + i, none⟩ = some (.int .u16 (l[i] : Int)) := by
  obtain ⟨b, o, e, hb, hc⟩ := U16s_at0 h hi
  exact ⟨b, o, e, hb, by rw [Nat.mul_one, Nat.add_zero] at hc; exact hc⟩
theorem bool_at {w : World} {A : Option Addr} {c : Nat} {l : List Bool} (h : RowG w 1 A l.length c (l.flatMap BoolsC)) {i : Nat} (hi : i < l.length) : ∃ b o, A = some ⟨b, o, none⟩ ∧ b < w.heap.size ∧ w.cell? ⟨b, o + i, none⟩ = some (.bool l[i]) := by
  obtain ⟨b, o, e, hb, hc⟩ := Bools_at0 h hi
  exact ⟨b, o, e, hb, by rw [Nat.mul_one, Nat.add_zero] at hc; exact hc⟩
end Go.Proofs.Ytldmcoagjgeeoaa.Ra
