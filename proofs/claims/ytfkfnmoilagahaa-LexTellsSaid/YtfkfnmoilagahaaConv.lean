/- '[]byte(s)', and append behind it. Conditions: those that each states. -/
import Derived.Test.YtfkfnmoilagahaaApp
import Derived.Test.YtfkfnmoilagahaaBase
import Derived.Laws.IdiomStrings
import Derived.Lib.ConvBytes
import Derived.Laws.BytesString
import Derived.ArgAppend
import Derived.Deep.Upon
namespace Go.Proofs.Ytfkfnmoilagahaa
open Go.ChangeShapes Go.WideShapes Go.ChangeAt Go.RowKit Go.Deep
set_option linter.unusedVariables false

/-- The bytes of a text, as '[]byte(s)' lays them. -/
structure ConvB (w : World) (g n c : Nat) (l : List UInt8) : Prop where
  row : ∃ cur : Array Value, w.heap[g]? = some (.cells cur 5 (cur.size, cur.size + 1)) ∧ cur.size = c ∧ ∀ j (h : j < l.length), cur[j]? = some (.int .u8 (l[j].toNat : Int))
  len : l.length = n
  cap : n ≤ c
  max : c ≤ maxLen
theorem ConvB.lt {w : World} {g n c : Nat} {l : List UInt8} (h : ConvB w g n c l) : g < w.heap.size := by obtain ⟨cur, hh, _⟩ := h.row; exact (Array.getElem?_eq_some_iff.1 hh).1
theorem ConvB.new {w w' : World} {g n c : Nat} {l : List UInt8} (h : ConvB w g n c l) (k : Below w.heap.size w w') : ConvB w' g n c l := by
  obtain ⟨cur, hh, r⟩ := h.row
  exact ⟨⟨cur, (k.block g h.lt).trans hh, r⟩, h.len, h.cap, h.max⟩
theorem ConvB.cell {w : World} {g n c j : Nat} {l : List UInt8} (h : ConvB w g n c l) (hj : j < l.length) : w.cell? ⟨g, j, none⟩ = some (.int .u8 (l[j].toNat : Int)) := by
  obtain ⟨cur, hh, _, r⟩ := h.row
  rw [cell_of_row w g j cur _ _ hh, r j hj]
theorem ConvB.spare {w : World} {g n c j : Nat} {l : List UInt8} (h : ConvB w g n c l) (hj : j < c) : (w.cell? ⟨g, j, none⟩).isSome = true ∧ w.frozen? ⟨g, j, none⟩ = false := by
  obtain ⟨cur, hh, hs, r⟩ := h.row
  refine ⟨?_, ?_⟩
  · rw [cell_of_row w g j cur _ _ hh, Array.getElem?_eq_getElem (by omega)]; rfl
  · simp [World.frozen?, hh]; omega
theorem ConvB.src {w : World} {g n c : Nat} {l : List UInt8} (h : ConvB w g n c l) : Src w (some ⟨g, 0, none⟩) n c l :=
  ⟨⟨fun hp => ⟨g, 0, rfl, h.lt, fun j hj => by
    have hj' : j < l.length := by rw [bys_length] at hj; exact hj
    rw [Nat.zero_add, h.cell hj']; simp [bys]⟩, h.len, h.cap, by have := h.max; unfold maxLen at this; exact this⟩, fun e => by cases e⟩
theorem conv_any (s : ByteArray) (hs : s.size ≤ 1000000) (w : World) : ∃ c W', (convert 9 29 (.string s)).run Try.prog w = .ok (.slice (some ⟨w.heap.size, 0, none⟩) s.size c) W' ∧ ConvB W' w.heap.size s.size c s.data.toList ∧ Below w.heap.size w W' := by
  have hge := grownCap_ge w s.size 0 5
  have hle := grownCap_le_maxLen w s.size 0 5 (by unfold maxLen; omega)
  refine ⟨_, _, run_bytes_of_string w 9 29 5 s Try.underlying9 Try.underlying29 Try.underlying5, ⟨⟨bytesRow s (grownCap w s.size 0 5), heap_alloc_new w.drew _, ?_, fun j hj => ?_⟩, Array.length_toList, hge, hle⟩, ?_⟩
  · simp only [bytesRow, Array.size_append, Array.size_map, Array.size_replicate]
    have : s.data.size = s.size := rfl
    omega
  · have hj' : j < s.data.size := by simpa using hj
    rw [bytesRow_at s _ j hj']
    simp
  · exact (⟨rfl, rfl, rfl, Nat.le_refl _, fun _ _ => rfl⟩ : Below w.heap.size w w.drew).alloc (Nat.le_refl _) _
theorem setCells_size (b : Nat) : ∀ (vs : List Value) (o : Nat) (w : World), (w.setCells b o vs).heap.size = w.heap.size
  | [], _, _ => rfl
  | v :: r, o, w => by
    show ((w.setCell ⟨b, o, none⟩ v).setCells b (o + 1) r).heap.size = _
    rw [setCells_size b r (o + 1)]
    simp [World.setCell]
theorem below_setCells {B b : Nat} (hb : B ≤ b) {W : World} : ∀ (vs : List Value) (o : Nat) (w : World), Below B W w → Below B W (w.setCells b o vs)
  | [], _, _, h => h
  | v :: r, o, w, h => below_setCells hb r (o + 1) _ (h.setCell (p := ⟨b, o, none⟩) hb v)
/-- append([]byte(s), tail...): the text's bytes and the others behind them. -/
theorem wpList_append_conv {ops : Array Oper} {rest : List Oper} {o : Oper} {a : Act} {Q : Exit → Act → World → Prop} {w : World} (hgd : o.guard = none) (s x : Operand)
    (ho : o.op = .call { callee := .builtin .append, args := #[s, x], argTypes := #[29, 29] })
    {B g n c : Nat} {l : List UInt8} (hs : a.eval s = .slice (some ⟨g, 0, none⟩) n c) (hd : ConvB w g n c l) (hB : B ≤ g) (A : Option Addr) (m c' : Nat) (lt : List UInt8) (hx : a.eval x = .slice A m c') (ht : Src w A m c' lt) (hmax : n + m ≤ 1000000)
    (h : ∀ A' c2 w', Src w' A' (n + m) c2 (l ++ lt) → Below B w w' → wpList Try.prog ops Q rest (a.put o.dst (.slice A' (n + m) c2)) w') : wpList Try.prog ops Q (o :: rest) a w := by
  obtain ⟨i0, hi, hz, hz1, hb1⟩ := u8_info
  have hll := hd.len
  have hlt := ht.len
  cases A with
  | none =>
    have hc0 := ht.none_ rfl
    have hm0 : m = 0 := by have := ht.cap; omega
    subst hm0
    have el : lt = [] := List.length_eq_zero_iff.1 hlt
    subst el
    refine wpList_plain hgd fun K hK => ?_
    have hrun := run_append_nothing (P := Try.prog) w 29 29 o.type 5 i0 Try.underlying29 hi (some ⟨g, 0, none⟩) n c hd.cap (.slice none 0 c') (Go.Src.ofNil w Try.underlying29 c')
    unfold Oper.wp execOp
    simp only [ho, resolve, invoke, builtin, Sem.run_bind, Sem.run_pure, Result.andThen_ok, List.map_toArray, List.map_cons, List.map_nil, hs, hx, hrun]
    refine hK _ _ (h (some ⟨g, 0, none⟩) c w ?_ (Below.refl _ _))
    rw [List.append_nil]
    exact hd.src
  | some ad =>
    obtain ⟨nl, nn, no⟩ : (bys lt).length = m * 1 ∧ (∀ j u, (bys lt)[j]? = some u → w.cell? (ad.add j) = some u) ∧ ∀ u ∈ bys lt, u.oneCell' = true := by
      by_cases hm : 0 < m
      · obtain ⟨b, o, _, e, _, _⟩ := ht.toBytes.byte (k := 0) hm
        cases e
        exact ht.toBytes.news
      · have el : lt = [] := List.length_eq_zero_iff.1 (by omega)
        subst el
        exact ⟨by simp [bys]; omega, fun j u hu => by simp [bys] at hu, fun u hu => by simp [bys] at hu⟩
    refine wpList_append_arg w hgd s x 29 ho 5 i0 (.int .u8 0) 1 1 Try.underlying29 hi hz hz1 hb1 rfl (by decide) g 0 n c (bys l) hs (by rw [bys_length, hll, Nat.mul_one]) (fun j u hu => ?_) ad m c' (bys lt) hx nl nn no (fun hr j hj => ?_) (by unfold maxLen; omega) (by omega) (fun hr => ?_) (fun hr v' w' r1 r2 => ?_)
    · obtain ⟨hj, e⟩ := List.getElem?_eq_some_iff.1 hu
      have hj' : j < l.length := by rw [bys_length] at hj; exact hj
      rw [Nat.zero_add, hd.cell hj', ← e]; simp [bys]
    · rw [bys_length] at hj
      exact hd.spare (by omega)
    · refine h (some ⟨g, 0, none⟩) c _ ⟨⟨fun hp => ⟨g, 0, rfl, by rw [setCells_size]; exact hd.lt, fun j hj => ?_⟩, by rw [List.length_append]; omega, hr, by have := hd.max; unfold maxLen at this; exact this⟩, fun e => by cases e⟩ (below_setCells hB _ _ _ (Below.refl _ _))
      rw [bys_length, List.length_append] at hj
      have ee : (bys (l ++ lt))[j]'(by rw [bys_length, List.length_append]; exact hj) = .int .u8 (((l ++ lt)[j]'(by rw [List.length_append]; exact hj)).toNat : Int) := by unfold bys; rw [List.getElem_map]
      rw [Nat.zero_add, Nat.zero_add, ee]
      by_cases hjn : j < l.length
      · rw [World.cell?_setCells_out g (bys lt) _ w ⟨g, j, none⟩ (fun _ _ => .inl (by show j < n * 1; omega)), hd.cell hjn]
        rw [List.getElem_append_left hjn]
      · have hk : j - n < (bys lt).length := by rw [bys_length]; omega
        have := World.cell?_setCells_in g (bys lt) (n * 1) w (fun q hq => (hd.spare (by rw [bys_length] at hq; omega)).1) (j - n) hk
        rw [show n * 1 + (j - n) = j by omega] at this
        rw [this, List.getElem_append_right (Nat.le_of_not_lt hjn)]
        subst hll
        simp [bys]
    · rw [← bys_append] at r1
      have hb : Below B w w' := ⟨r2.os, r2.tape, r2.output, r2.size, fun k hk => r2.block k (by have := hd.lt; omega) (by simp)⟩
      rcases r1.2 with ⟨_, e0⟩ | ⟨g', cap, cur, e, hg', hh, hnc, hcm, hcs, htk⟩
      · omega
      · subst e
        have o : OwnB w' w.heap.size g' (n + m) cap (l ++ lt) := ⟨r1, hg', (Array.getElem?_eq_some_iff.1 hh).1, hnc, by unfold maxLen at hcm; exact hcm⟩
        exact h _ _ _ o.src hb
end Go.Proofs.Ytfkfnmoilagahaa
