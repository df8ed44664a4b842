/- append(text, make([]byte, k)...), text a row of the call's own. Conditions: those that each states. -/
import Derived.Test.YtjjoohmfeglicaaDoorIn2
import Derived.Lib.AppendZerosOnto
namespace Go.Proofs.YtjjoohmfeglicaaDoor.In
open Go.ChangeShapes Go.WideShapes Go.ChangeAt Go.RowKit Go.Deep Fl Rk
set_option linter.unusedVariables false

theorem zeroCells_bys (k : Nat) : Builtin.zeroCells (Value.int .u8 0).cells k = (bys (List.replicate k 0)).toArray := by
  apply Array.ext'
  refine List.ext_getElem (by rw [Array.length_toList, size_zeroCells]; simp [bys, Value.cells]) fun j h1 h2 => ?_
  have e : ∀ z : Array Value, z = #[.int .u8 0] → (Array.map (fun i => z[i % z.size]!) (Array.range (k * z.size)))[j]? = some (.int .u8 0) := by
    rintro z rfl
    have hj : j < k * 1 := by simpa [bys] using h2
    have hj' : j < k * (#[Value.int .u8 0] : Array Value).size := hj
    rw [Array.getElem?_map, Array.getElem?_range, if_pos hj']
    have e : j % (#[Value.int .u8 0] : Array Value).size = 0 := Nat.mod_one j
    simp only [Option.map_some, e]
    rfl
  have e2 : (Builtin.zeroCells (Value.int .u8 0).cells k).toList[j]? = some (.int .u8 0) := by rw [Array.getElem?_toList]; exact e _ rfl
  rw [List.getElem?_eq_getElem h1] at e2
  injection e2 with e2
  rw [e2]
  simp [bys]
theorem append_zeros (ty : TypeId) {w : World} {base g n c : Nat} {l : List UInt8} (h : OwnB w base g n c l) (k : Nat) (hk : k ≤ 1000) (hn : n ≤ 1000) (hbase : base ≤ w.heap.size) :
    ∃ g' c' w', (Builtin.append_ #[30, 3] ty #[.slice (some ⟨g, 0, none⟩) n c, .int .i64 (k : Int)]).run Tryd.prog w = .ok (.slice (some ⟨g', 0, none⟩) (n + k) c') w' ∧
      OwnB w' base g' (n + k) c' (l ++ List.replicate k 0) ∧ w.grownBy w' (some g) := by
  obtain ⟨i0, hi, hz0, hz1, hz2⟩ := u8_info
  have hlen := h.bytes.len
  have hkz : IntKind.i64.wrap (k : Int) = k := IntWalk.i64_in _ (by omega)
  rcases h.own.2 with ⟨e, _⟩ | ⟨g0, cap, cur, e, hbg, hh, hnc, hcm, hcs, htake⟩
  · cases e
  · injection e with e1 e2 e3
    injection e1 with e1
    injection e1 with e1
    subst e1 e3
    have hcs' : cur.size = c := by simpa using hcs
    have htake' : cur.toList.take n = bys l := by simpa using htake
    by_cases hroom : n + k ≤ c
    · have hst := run_storeCells_at Tryd.prog g n 5 (bys (List.replicate k 0)) 0 cur w hh (by rw [bys_length, List.length_replicate]; omega) (fun v hv => bys_one hv)
      simp only [Nat.add_zero, bys_length, List.length_replicate] at hst
      refine ⟨g, c, w.setRow g (cur.toList.take n ++ bys (List.replicate k 0) ++ cur.toList.drop (n + k)).toArray, ?_, ⟨⟨?_, .inr ⟨g, c, _, rfl, hbg, setRow_heap w g cur _ _ _ hh, hroom, hcm, ?_, ?_⟩⟩, h.base, by have := h.lt; simpa [World.setRow] using this, hroom, h.max⟩, ⟨rfl, rfl, rfl, by simp, fun j _ hj => setRow_other w g j _ (fun e => hj (by rw [e]))⟩⟩
      · have hneg : ¬ ((k : Int) < 0) := by omega
        have h48 : ¬ (281474976710656 < (k : Int)) := by omega
        by_cases hk0 : k = 0
        · subst hk0
          have e0 : w.setRow g (cur.toList.take n ++ bys (List.replicate 0 0) ++ cur.toList.drop (n + 0)).toArray = w := by
            have : bys (List.replicate 0 0) = [] := rfl
            rw [this, List.append_nil, Nat.add_zero, List.take_append_drop, Array.toArray_toList]
            exact setRow_self w g cur _ _ hh
          rw [e0]
          rw [Nat.add_zero] at hroom
          simp [Builtin.append_, run_underlying Tryd.underlying30, run_underlying Tryd.underlying3, sizeOf, typeInfo, hi, hz2, asInt, asIntOf, hroom, Addr.add_lit, storeCells, (show IntKind.i64.wrap 0 = 0 from rfl)]
        · simp [Builtin.append_, run_underlying Tryd.underlying30, run_underlying Tryd.underlying3, sizeOf, typeInfo, zeroValue, hi, hz0, hz1, hz2, asInt, asIntOf, hkz, hneg, h48, hk0, hroom, Addr.add_lit, zeroCells_bys, hst]
      · rw [bys_length, List.length_append, List.length_replicate, hlen, Nat.mul_one]
      · simp only [List.size_toArray, List.length_append, List.length_take, List.length_drop, Array.length_toList, bys_length, List.length_replicate]
        omega
      · rw [htake', ← bys_append, Nat.mul_one]
        show (bys (l ++ List.replicate k 0) ++ cur.toList.drop (n + k)).take (n + k) = _
        have e3 : (bys (l ++ List.replicate k 0)).length = n + k := by rw [bys_length, List.length_append, List.length_replicate, hlen]
        rw [List.take_append_of_le_length (Nat.le_of_eq e3.symm)]
        exact List.take_of_length_le (Nat.le_of_eq e3)
    · have holds : ∀ j u, (bys l)[j]? = some u → w.drew.cell? ((⟨g, 0, none⟩ : Addr).add j) = some u := fun j u hu => h.bytes.at_ _ j u hu
      have hfo := run_firstCells_some (P := Tryd.prog) w.drew i0.size n ⟨g, 0, none⟩ n c (bys l) (by rw [bys_length, hlen, hz1, Nat.mul_one]) holds
      have hr := Lib.run_append_grow_zeros (P := Tryd.prog) w 30 3 ty 5 i0 (.int .u8 0) .i64 .i64 Tryd.underlying30 Tryd.underlying3 hi hz0 (some ⟨g, 0, none⟩) n c (bys l) hfo k (by omega) (by rw [hz1]; omega) (by omega) (by omega) (by rw [hz2]; omega)
        (by rw [hz2]; exact growslice_fits (by omega) (by omega))
      have hge := grownCap_ge w (n + k) c 5
      have hcm2 : grownCap w (n + k) c 5 ≤ maxLen := grownCap_le_maxLen w (n + k) c 5 (by unfold maxLen; omega)
      refine ⟨_, _, _, hr, ⟨⟨?_, .inr ⟨w.heap.size, _, _, rfl, hbase, heap_alloc_new w.drew _, hge, hcm2, ?_, ?_⟩⟩, hbase, (Array.getElem?_eq_some_iff.1 (heap_alloc_new w.drew _)).1, hge, hcm2⟩, ⟨rfl, rfl, rfl, by simp, fun j hj _ => heap_alloc_old w.drew _ hj⟩⟩
      · rw [bys_length, List.length_append, List.length_replicate, hlen, Nat.mul_one]
      · have hz1 : (Value.int IntKind.u8 0).cells.size = 1 := rfl
        simp only [Array.size_append, List.size_toArray, size_zeroCells, hz1, bys_length, hlen]
        omega
      · rw [zeroCells_bys]
        simp only [Array.toList_append, List.append_assoc]
        rw [← List.append_assoc, ← bys_append]
        exact List.take_left' (by rw [bys_length, List.length_append, List.length_replicate, hlen, Nat.mul_one])
theorem wpList_append_zeros {ops : Array Oper} {rest : List Oper} {o : Oper} {a : Act} {Q : Exit → Act → World → Prop} {w : World} (hgd : o.guard = none) (s x : Operand)
    (ho : o.op = .call { callee := .builtin .append, args := #[s, x], argTypes := #[30, 3] }) {base g n c : Nat} {l : List UInt8} (hs : a.eval s = .slice (some ⟨g, 0, none⟩) n c) (hown : OwnB w base g n c l)
    {z : Int} (k : Nat) (hx : a.eval x = .int .i64 z) (hzk : z = (k : Int)) (hk : k ≤ 1000) (hn : n ≤ 1000) (hbase : base ≤ w.heap.size)
    (h : ∀ g' c' w', OwnB w' base g' (n + k) c' (l ++ List.replicate k 0) → Below base w w' → wpList Tryd.prog ops Q rest (a.put o.dst (.slice (some ⟨g', 0, none⟩) (n + k) c')) w') : wpList Tryd.prog ops Q (o :: rest) a w := by
  subst hzk
  refine wpList_plain hgd fun K hK => ?_
  obtain ⟨g', c', w', hr, h2, h3⟩ := append_zeros o.type hown k hk hn hbase
  unfold Oper.wp execOp
  simp only [ho, resolve, invoke, builtin, Sem.run_bind, Sem.run_pure, Result.andThen_ok, List.map_toArray, List.map_cons, List.map_nil, hs, hx, hr]
  exact hK _ _ (h g' c' w' h2 ⟨h3.os, h3.tape, h3.output, h3.size, fun i hi => h3.block i (by omega) (fun e => by have := hown.base; injection e with e; omega)⟩)
/-- append(text, name...), name a text. -/
theorem wpList_append_text {ops : Array Oper} {rest : List Oper} {o : Oper} {a : Act} {Q : Exit → Act → World → Prop} {w : World} (hgd : o.guard = none) (s x : Operand)
    (ho : o.op = .call { callee := .builtin .append, args := #[s, x], argTypes := #[30, 9] }) {base g n c : Nat} {l : List UInt8} (hs : a.eval s = .slice (some ⟨g, 0, none⟩) n c) (hown : OwnB w base g n c l)
    (t : List UInt8) (hx : a.eval x = .string ⟨t.toArray⟩) (hk : t.length ≤ 1000) (hn : n ≤ 1000) (hn0 : 0 < n) (hbase : base ≤ w.heap.size)
    (h : ∀ g' c' w', OwnB w' base g' (n + t.length) c' (l ++ t) → Below base w w' → wpList Tryd.prog ops Q rest (a.put o.dst (.slice (some ⟨g', 0, none⟩) (n + t.length) c')) w') : wpList Tryd.prog ops Q (o :: rest) a w := by
  obtain ⟨i0, hi, hz0, hz1, hz2⟩ := u8_info
  have hsz : (⟨t.toArray⟩ : ByteArray).size = t.length := rfl
  refine Lib.wpList_append_own_string w hgd s x 30 9 ho base 5 i0 Tryd.underlying30 Tryd.underlying9 hi hz0 hz1 hz2 _ n (bys l) hs hown.own ⟨t.toArray⟩ hx (by rw [hsz]; unfold maxLen; omega) (by rw [hsz]; omega) hbase ?_
  intro v' w' h1 h2 _
  have e : bys l ++ Lib.strCells ⟨t.toArray⟩ = bys (l ++ t) := by rw [bys_append]; congr 1
  rw [e, hsz] at h1
  obtain ⟨g', c', rfl, O⟩ := OwnB.of h1 (by omega)
  exact h g' c' w' O ⟨h2.os, h2.tape, h2.output, h2.size, fun i hi => h2.block i (by omega) (fun e => by have := hown.base; simp [Value.ownBlock] at e; omega)⟩
end Go.Proofs.YtjjoohmfeglicaaDoor.In
