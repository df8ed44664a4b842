/- Generic steps: append to bytes that are wanted afterwards too. Conditions: those that each states. -/
import Derived.Test.YtbjmclcnaagbnaaGx
import Derived.Test.YtbjmclcnaagbnaaConv
namespace Go.Proofs.Ytbjmclcnaagbnaa.Gx
open Go.ChangeShapes Go.WideShapes Go.ChangeAt Go.RowKit Go.Deep Rk
set_option linter.unusedVariables false

theorem setCells_other (b i : Nat) (h : ¬ i = b) : ∀ (vs : List Value) (o : Nat) (w : World), (w.setCells b o vs).heap[i]? = w.heap[i]?
  | [], _, _ => rfl
  | v :: r, o, w => by
    show ((w.setCell ⟨b, o, none⟩ v).setCells b (o + 1) r).heap[i]? = _
    rw [setCells_other b i h r (o + 1)]
    exact Below.heap_setCell w ⟨b, o, none⟩ v i h
theorem ownB_spare {w : World} {base g n c j : Nat} {l : List UInt8} (h : OwnB w base g n c l) (hj : j < c) : (w.cell? ⟨g, j, none⟩).isSome = true ∧ w.frozen? ⟨g, j, none⟩ = false := by
  refine ⟨?_, h.frozen j⟩
  rcases h.own.2 with ⟨e, _⟩ | ⟨g', cap, cur, e, hb, hh, hc, hm, hcs, _⟩
  · cases e
  · cases e
    rw [cell_of_row w g j cur _ _ hh, Array.getElem?_eq_getElem (by omega)]
    rfl
/-- append(b, tail...) where b is wanted afterwards too: its bytes stay. -/
theorem wpList_append_keep {ops : Array Oper} {rest : List Oper} {o : Oper} {a : Act} {Q : Exit → Act → World → Prop} {w : World} (hgd : o.guard = none) (s x : Operand)
    (ho : o.op = .call { callee := .builtin .append, args := #[s, x], argTypes := #[26, 26] })
    {B B' g n c : Nat} {l : List UInt8} (hs : a.eval s = .slice (some ⟨g, 0, none⟩) n c) (hd : OwnB w B' g n c l) (hB : B ≤ g) (hBw : B ≤ w.heap.size) (A : Option Addr) (m c' : Nat) (lt : List UInt8) (hx : a.eval x = .slice A m c') (ht : Src w A m c' lt) (hmax : n + m ≤ 1000000)
    (h : ∀ A' c2 w', Src w' A' (n + m) c2 (l ++ lt) → Src w' (some ⟨g, 0, none⟩) n c l → Chg w w' (fun b => b = g) → Below B w w' → wpList Try.prog ops Q rest (a.put o.dst (.slice A' (n + m) c2)) w') : wpList Try.prog ops Q (o :: rest) a w := by
  obtain ⟨i0, hi, hz, hz1, hb1⟩ := u8_info
  have hll := hd.bytes.len
  have hlt := ht.len
  cases A with
  | none =>
    have hc0 := ht.none_ rfl
    have hm0 : m = 0 := by have := ht.cap; omega
    subst hm0
    have el : lt = [] := List.length_eq_zero_iff.1 hlt
    subst el
    refine wpList_plain hgd fun K hK => ?_
    have hrun := run_append_nothing (P := Try.prog) w 26 26 o.type 5 i0 Try.underlying26 hi (some ⟨g, 0, none⟩) n c hd.cap (.slice none 0 c') (Go.Src.ofNil w Try.underlying26 c')
    unfold Oper.wp execOp
    simp only [ho, resolve, invoke, builtin, Sem.run_bind, Sem.run_pure, Result.andThen_ok, List.map_toArray, List.map_cons, List.map_nil, hs, hx, hrun]
    refine hK _ _ (h (some ⟨g, 0, none⟩) c w ?_ hd.src (Chg.refl _ _) (Below.refl _ _))
    rw [List.append_nil]
    exact hd.src
  | some ad =>
    obtain ⟨nl, nn, no⟩ : (bys lt).length = m * 1 ∧ (∀ j u, (bys lt)[j]? = some u → w.cell? (ad.add j) = some u) ∧ ∀ u ∈ bys lt, u.oneCell' = true := by
      by_cases hm : 0 < m
      · obtain ⟨b, o, _, e, _, _⟩ := ht.toBytes.byte (k := 0) hm
        cases e
        exact ht.toBytes.news
      · have el : lt = [] := List.length_eq_zero_iff.1 (by omega)
        subst el
        exact ⟨by simp [bys]; omega, fun j u hu => by simp [bys] at hu, fun u hu => by simp [bys] at hu⟩
    have hcell : ∀ {j : Nat} (hj : j < l.length), w.cell? ⟨g, j, none⟩ = some (.int .u8 (l[j].toNat : Int)) := fun {j} hj => (hd.cell (j := j) (by omega)).2
    refine wpList_append_arg w hgd s x 26 ho 5 i0 (.int .u8 0) 1 1 Try.underlying26 hi hz hz1 hb1 rfl (by decide) g 0 n c (bys l) hs (by rw [bys_length, hll, Nat.mul_one]) (fun j u hu => ?_) ad m c' (bys lt) hx nl nn no (fun hr j hj => ?_) (by unfold maxLen; omega) (by omega) (fun hr => ?_) (fun hr v' w' r1 r2 => ?_)
    · obtain ⟨hj, e⟩ := List.getElem?_eq_some_iff.1 hu
      have hj' : j < l.length := by rw [bys_length] at hj; exact hj
      rw [Nat.zero_add, hcell hj', ← e]; simp [bys]
    · rw [bys_length] at hj
      exact ownB_spare hd (by omega)
    · have hold : ∀ (j : Nat) (hjn : j < l.length), (w.setCells g (n * 1) (bys lt)).cell? ⟨g, j, none⟩ = some (.int .u8 (l[j].toNat : Int)) := fun j hjn => by
        rw [World.cell?_setCells_out g (bys lt) _ w ⟨g, j, none⟩ (fun _ _ => .inl (by show j < n * 1; omega)), hcell hjn]
      have hsrc : Src (w.setCells g (0 + n * 1) (bys lt)) (some ⟨g, 0, none⟩) n c l := by
        refine ⟨⟨fun hp => ⟨g, 0, rfl, by rw [setCells_size]; exact hd.lt, fun j hj => ?_⟩, hll, hd.cap, hd.max⟩, fun e => by cases e⟩
        have hj' : j < l.length := by rw [bys_length] at hj; exact hj
        rw [Nat.zero_add, Nat.zero_add, hold j hj']
        simp [bys]
      have hbel : Below B w (w.setCells g (0 + n * 1) (bys lt)) := below_setCells hB _ _ _ (Below.refl _ _)
      have hbg : Below g w (w.setCells g (0 + n * 1) (bys lt)) := below_setCells (Nat.le_refl g) _ _ _ (Below.refl _ _)
      refine h (some ⟨g, 0, none⟩) c _ ⟨⟨fun hp => ⟨g, 0, rfl, by rw [setCells_size]; exact hd.lt, fun j hj => ?_⟩, by rw [List.length_append]; omega, hr, hd.max⟩, fun e => by cases e⟩ hsrc ⟨hbel.os, hbel.tape, hbel.output, hbel.size, fun i hi hne => setCells_other g i hne _ _ _⟩ hbel
      rw [bys_length, List.length_append] at hj
      have ee : (bys (l ++ lt))[j]'(by rw [bys_length, List.length_append]; exact hj) = .int .u8 (((l ++ lt)[j]'(by rw [List.length_append]; exact hj)).toNat : Int) := by unfold bys; rw [List.getElem_map]
      rw [Nat.zero_add, Nat.zero_add, ee]
      by_cases hjn : j < l.length
      · rw [hold j hjn, List.getElem_append_left hjn]
      · have hk : j - n < (bys lt).length := by rw [bys_length]; omega
        have := World.cell?_setCells_in g (bys lt) (n * 1) w (fun q hq => (ownB_spare hd (by rw [bys_length] at hq; omega)).1) (j - n) hk
        rw [show n * 1 + (j - n) = j by omega] at this
        rw [this, List.getElem_append_right (Nat.le_of_not_lt hjn)]
        subst hll
        simp [bys]
    · rw [← bys_append] at r1
      have hb : Below w.heap.size w w' := ⟨r2.os, r2.tape, r2.output, r2.size, fun k hk => r2.block k hk (by simp)⟩
      rcases r1.2 with ⟨_, e0⟩ | ⟨g', cap, cur, e, hg', hh, hnc, hcm, hcs, htk⟩
      · omega
      · subst e
        have o : OwnB w' w.heap.size g' (n + m) cap (l ++ lt) := ⟨r1, hg', (Array.getElem?_eq_some_iff.1 hh).1, hnc, by unfold maxLen at hcm; exact hcm⟩
        exact h _ _ _ o.src (hd.src.below hb) (Chg.of_new hb _) (hb.mono hBw)
end Go.Proofs.Ytbjmclcnaagbnaa.Gx
