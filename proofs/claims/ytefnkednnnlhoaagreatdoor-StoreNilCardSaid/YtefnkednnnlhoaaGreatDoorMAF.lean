/- slices.IndexFunc and slices.Delete of a kernel's filters. Conditions: those that each states. -/
import Derived.Test.YtefnkednnnlhoaaGreatDoorMAE
import Derived.Test.YtefnkednnnlhoaaGreatDoorMAC
namespace Go.Proofs.YtefnkednnnlhoaaGreatDoor.Ke
open Go.ChangeShapes Go.WideShapes Go.ChangeAt Go.RowKit Go.Deep Di
set_option linter.unusedVariables false

/-- A bound filter as it lies in a row: id, environment, its program's slice. -/
structure FM where
  id : Int
  env : Int
  A : Option Addr
  n : Nat
  c : Nat
def FM.list (q : FM) : List Value := [.int .i64 q.id, .int .i64 q.env, .slice q.A q.n q.c]
def flatF (l : List FM) : List Value := (l.map FM.list).flatten
theorem flatF_length (p : List FM) : (flatF p).length = p.length * 3 := by
  unfold flatF
  induction p with
  | nil => rfl
  | cons q p ih => rw [List.map_cons, List.flatten_cons, List.length_append, ih, List.length_cons]; show 3 + _ = _; omega
theorem flatF_append (p q : List FM) : flatF (p ++ q) = flatF p ++ flatF q := by unfold flatF; simp
theorem flatF_at (p : List FM) {i j : Nat} (hi : i < p.length) (hj : j < 3) : (flatF p)[i * 3 + j]? = (p[i].list)[j]? := by
  unfold flatF
  induction p generalizing i with
  | nil => simp at hi
  | cons q p ih =>
    cases i with
    | zero =>
      rw [List.map_cons, List.flatten_cons, List.getElem?_append_left (by show _ < 3; omega), Nat.zero_mul, Nat.zero_add]
      rfl
    | succ i =>
      rw [List.map_cons, List.flatten_cons, List.getElem?_append_right (by show 3 ≤ _; omega)]
      have e : (i + 1) * 3 + j - q.list.length = i * 3 + j := by show _ - 3 = _; omega
      rw [e, ih (by simpa using hi)]
      rfl
theorem flatF_take (p : List FM) (i : Nat) : (flatF p).take (i * 3) = flatF (p.take i) := by
  induction p generalizing i with
  | nil => simp [flatF]
  | cons q p ih =>
    cases i with
    | zero => simp [flatF]
    | succ i =>
      have e : flatF (q :: p) = q.list ++ flatF p := rfl
      have e2 : flatF ((q :: p).take (i + 1)) = q.list ++ flatF (p.take i) := rfl
      have hl : q.list.length = 3 := rfl
      rw [e, e2, List.take_append, ← ih, hl, List.take_of_length_le (by rw [hl]; omega), show (i + 1) * 3 - 3 = i * 3 by omega]
theorem flatF_drop (p : List FM) (i : Nat) : (flatF p).drop (i * 3) = flatF (p.drop i) := by
  induction p generalizing i with
  | nil => simp [flatF]
  | cons q p ih =>
    cases i with
    | zero => simp [flatF]
    | succ i =>
      have e : flatF (q :: p) = q.list ++ flatF p := rfl
      have e2 : flatF ((q :: p).drop (i + 1)) = flatF (p.drop i) := rfl
      have hl : q.list.length = 3 := rfl
      rw [e, e2, List.drop_append, ← ih, hl, List.drop_of_length_le (by rw [hl]; omega), show (i + 1) * 3 - 3 = i * 3 by omega, List.nil_append]
theorem one_fm (q : FM) : ∀ u ∈ q.list, u.oneCell' = true := by
  intro u hu
  unfold FM.list at hu
  simp only [List.mem_cons, List.not_mem_nil, or_false] at hu
  rcases hu with rfl | rfl | rfl <;> rfl
theorem one_flatF (p : List FM) : ∀ u ∈ flatF p, u.oneCell' = true := by
  intro u hu
  unfold flatF at hu
  rw [List.mem_flatten] at hu
  obtain ⟨r, hr, hu⟩ := hu
  obtain ⟨q, _, rfl⟩ := List.mem_map.1 hr
  exact one_fm q u hu
abbrev FRow (w : World) (A : Option Addr) (c : Nat) (l : List FM) : Prop := RowW w 205 3 A l.length c (flatF l)
theorem FRow.range {w : World} {A : Option Addr} {c : Nat} {l : List FM} (h : FRow w A c l) {i : Nat} (hi : i < l.length) : ∃ g, A = some ⟨g, 0, none⟩ ∧ g < w.heap.size ∧ w.rangeAt g (i * 3) l[i].list := by
  obtain ⟨g, e, hg, hc⟩ := RowW.form h (by omega)
  refine ⟨g, e, hg, fun j v hj => ?_⟩
  have hj3 : j < 3 := (List.getElem?_eq_some_iff.1 hj).1
  have e2 := (flatF_at l hi hj3).trans hj
  obtain ⟨hlt, e3⟩ := List.getElem?_eq_some_iff.1 e2
  rw [hc _ hlt, e3]

theorem bound_info : (Tryz.prog.info? 205).map (·.size) = some 3 := by kernel_rfl
def isB (id env : Int) (q : FM) : Bool := decide (q.id = id) && decide (q.env = env)

set_option maxRecDepth 100000 in
theorem same_any (q : FM) (a b : Nat) (id env : Int) (w : World) (ha : w.cell? ⟨a, 0, none⟩ = some (.int .i64 id)) (hb : w.cell? ⟨b, 0, none⟩ = some (.int .i64 env)) :
    Calls Tryz.prog 109 #[.agg q.list.toArray, .pointer (some ⟨a, 0, none⟩), .pointer (some ⟨b, 0, none⟩)] w fun e w' => e = .returned (.bool (isB id env q)) ∧ Below w.heap.size w w' := by
  obtain ⟨qi, qe, A, n, c⟩ := q
  show Calls Tryz.prog 109 #[.agg #[.int .i64 qi, .int .i64 qe, .slice A n c], .pointer (some ⟨a, 0, none⟩), .pointer (some ⟨b, 0, none⟩)] w fun e w' => e = .returned (.bool (decide (qi = id) && decide (qe = env))) ∧ Below w.heap.size w w'
  obtain ⟨W, hW⟩ : ∃ W, W = w.alloc (.cells #[.int .i64 qi, .int .i64 qe, .slice A n c] 205) := ⟨_, rfl⟩
  have hb1 : Below w.heap.size w W := by rw [hW]; exact (Below.refl _ w).alloc (Nat.le_refl _) _
  have bb : Blk W w.heap.size 205 #[.int .i64 qi, .int .i64 qe, .slice A n c] := by rw [hW]; exact Blk.new w _ _
  have ha' : W.cell? ⟨a, 0, none⟩ = some (.int .i64 id) := by rw [World.cell?_of_block (w := w) (hb1.block a (World.block_lt_of_cell? w _ ha))]; exact ha
  have hb' : W.cell? ⟨b, 0, none⟩ = some (.int .i64 env) := by rw [World.cell?_of_block (w := w) (hb1.block b (World.block_lt_of_cell? w _ hb))]; exact hb
  have d0 := bb.cell 0
  have d1 := bb.cell 1
  simp only [List.getElem?_toArray, List.getElem?_cons_succ, List.getElem?_cons_zero] at d0 d1
  have HW := Lib.hid hW
  have HB := Lib.hid hb1
  clear hW hb1 bb ha hb
  by_cases h1 : qi = id
  · subst h1
    by_cases h2 : qe = env
    · subst h2
      have e1 : (decide (qi = qi) && decide (qe = qe)) = true := by simp
      rw [e1]
      clear e1
      go_enter Tryz.func109, Tryz.ntmps109
      go_upto_region 1 with fail
      rw [show w.alloc (.cells #[.int .i64 qi, .int .i64 qe, .slice A n c] 205) = W from HW.out.symm]
      go_wp2
      go_ret
      exact ⟨rfl, HB.out⟩
    · have e1 : (decide (qi = qi) && decide (qe = env)) = false := by simp [h2]
      have h3 : (qe == env) = false := by simpa using h2
      rw [e1]
      clear e1
      go_enter Tryz.func109, Tryz.ntmps109
      go_upto_region 1 with fail
      rw [show w.alloc (.cells #[.int .i64 qi, .int .i64 qe, .slice A n c] 205) = W from HW.out.symm]
      go_wp2
      go_ret
      exact ⟨rfl, HB.out⟩
  · have e1 : (decide (qi = id) && decide (qe = env)) = false := by simp [h1]
    have h3 : (qi == id) = false := by simpa using h1
    rw [e1]
    clear e1
    go_enter Tryz.func109, Tryz.ntmps109
    go_upto_region 1 with fail
    rw [show w.alloc (.cells #[.int .i64 qi, .int .i64 qe, .slice A n c] 205) = W from HW.out.symm]
    go_wp2
    go_ret
    exact ⟨rfl, HB.out⟩

/-- Where the filter with that id and environment stands, or -1. -/
def idxB (l : List FM) (id env : Int) : Int := match l.findIdx? (isB id env) with | some k => (k : Int) | none => -1
set_option maxRecDepth 100000 in
set_option maxHeartbeats 1000000 in
theorem index_any (A : Option Addr) (c : Nat) (l : List FM) (a b : Nat) (id env : Int) (w : World) (h : FRow w A c l) (hmax : l.length ≤ 1000) (ha : w.cell? ⟨a, 0, none⟩ = some (.int .i64 id)) (hb : w.cell? ⟨b, 0, none⟩ = some (.int .i64 env)) :
    Calls Tryz.prog 108 #[.slice A l.length c, .func (.func 109) #[] #[.pointer (some ⟨a, 0, none⟩), .pointer (some ⟨b, 0, none⟩)]] w fun e w' => e = .returned (.int .i64 (idxB l id env)) ∧ Below w.heap.size w w' := by
  have HA := Lib.hid (And.intro ha hb)
  have H := Lib.hid h
  have B0 := Lib.hid (Below.refl w.heap.size w)
  clear h ha hb
  go_enter Tryz.func108, Tryz.ntmps108
  go_wp2
  go_loopw [8] (fun i wr => ∃ (j : Nat), j ≤ l.length ∧ i = .int .i64 (j : Int) ∧ Hid (Below w.heap.size w wr) ∧ Hid (∀ x (hx : x < l.length), x < j → isB id env l[x] = false)) (fun i _ => l.length - (intOf i).toNat)
  case atStart => exact ⟨0, Nat.zero_le _, rfl, B0, Lib.hid (fun x hx h => absurd h (by omega))⟩
  case round =>
    clear B0
    obtain ⟨j, hj, rfl, HB, HN⟩ := hrel
    have hgs : w.heap.size ≤ wr.heap.size := HB.out.size
    by_cases hlt : j < l.length
    · have hlt' : (j : Int) < (l.length : Int) := by omega
      have j0 : (0 : Int) ≤ (j : Int) := by omega
      have xj := IntWalk.i64_in ((j : Int) + 1) (by omega)
      obtain ⟨g, rfl, hg, hr⟩ := FRow.range (RowW.new H.out HB.out) hlt
      have LD := Lib.hid (show wr.rangeAt g (j * 3) l[j].list from hr)
      have SM := Lib.hid (same_any l[j] a b id env wr (by rw [HB.out.cell (World.block_lt_of_cell? w _ HA.out.1)]; exact HA.out.1) (by rw [HB.out.cell (World.block_lt_of_cell? w _ HA.out.2)]; exact HA.out.2))
      have YES := Lib.hid (fun (hb : isB id env l[j] = true) => show idxB l id env = (j : Int) from by
        unfold idxB
        have e : l.findIdx? (isB id env) = some j := by
          rw [List.findIdx?_eq_some_iff_getElem]
          exact ⟨hlt, hb, fun x hx => by simp [HN.out x (by omega) hx]⟩
        rw [e])
      have NO := Lib.hid (fun (hb : isB id env l[j] = false) => show ∀ x (hx : x < l.length), x < j + 1 → isB id env l[x] = false from fun x hx h => by
        by_cases e : x = j
        · subst e; exact hb
        · exact HN.out x hx (by omega))
      generalize isB id env l[j] = v at *
      clear hr hg
      go_wp2_with (first
        | (refine wpList_load_mid rfl 205 (.tmp 14) rfl g (j * 3) rfl _ _ LD.out Tryz.underlying205 rfl bound_info ?_)
        | fail)
      refine SM.out.mono ?_; rintro e w5 ⟨rfl, b5⟩
      have HB5 := Lib.hid (HB.out.trans (b5.mono hgs))
      clear b5
      cases v with
      | true =>
        have Y := Lib.hid (YES.out (by first | rfl | trivial))
        clear YES NO HN
        go_wp2
        go_ret
        exact ⟨by rw [Y.out]; rfl, HB5.out⟩
      | false =>
        have HN2 := Lib.hid (NO.out (by first | rfl | trivial))
        clear HN NO YES
        go_wp2
        go_roundw
        case rel => exact ⟨j + 1, by omega, by simp, HB5, HN2⟩
        case measure => simp [intOf]; omega
    · have hge : ¬ (j : Int) < (l.length : Int) := by omega
      obtain rfl : j = l.length := by omega
      have NO := Lib.hid (show idxB l id env = -1 from by
        unfold idxB
        have e : l.findIdx? (isB id env) = none := by
          rw [List.findIdx?_eq_none_iff]
          intro x hx
          obtain ⟨i, hi, rfl⟩ := List.mem_iff_getElem.1 hx
          exact HN.out i hi hi
        rw [e])
      go_wp2
      go_ret
      exact ⟨by rw [NO.out]; rfl, HB.out⟩

/-- Cells stored into a block that is known whole. -/
theorem setCells_row {w : World} {g : Nat} {t : TypeId} {cs : Array Value} (h : Blk w g t cs) (o : Nat) (vs : List Value) (ho : o + vs.length ≤ cs.size) (h1 : ∀ v ∈ vs, v.oneCell' = true) :
    w.setCells g o vs = w.setRow g (cs.toList.take o ++ vs ++ cs.toList.drop (o + vs.length)).toArray := by
  have e1 := run_storeCells_at Tryz.prog g o t vs 0 cs w h (by simpa using ho) h1
  have e2 := run_storeCells_cells (P := Tryz.prog) g o vs 0 w (fun j hj => by rw [h.cell, Array.getElem?_eq_getElem (by omega)]; rfl) (fun j hj => h.frozen _) h1
  have e3 := e2.symm.trans e1
  simp only [Nat.add_zero] at e3
  injection e3
theorem clear3_run (g o c : Nat) (t : TypeId) (cs : Array Value) (w : World) (h : Blk w g t cs) (ho : o + 3 ≤ cs.size) (ty : TypeId) :
    (Builtin.clear_ #[86] ty #[.slice (some ⟨g, o, none⟩) 1 c]).run Tryz.prog w = .ok (.tuple #[]) (w.setRow g (cs.toList.take o ++ ([.int .i64 0, .int .i64 0, .slice none 0 0] : List Value) ++ cs.toList.drop (o + 3)).toArray) := by
  have hz : ∀ W, (zeroValue 205).run Tryz.prog W = .ok (.agg #[.int .i64 0, .int .i64 0, .slice none 0 0]) W := by
    intro W
    obtain ⟨i, hi, hs⟩ := Option.map_eq_some_iff.1 (show (Tryz.prog.info? 205).map (·.zero) = some (some (.agg #[.int .i64 0, .int .i64 0, .slice none 0 0])) by kernel_rfl)
    simp [zeroValue, typeInfo, hi, hs]
  have e1 := run_storeCells_at Tryz.prog g o t [.int .i64 0, .int .i64 0, .slice none 0 0] 0 cs w h (by simpa using ho) (by intro v hv; simp only [List.mem_cons, List.not_mem_nil, or_false] at hv; rcases hv with rfl | rfl | rfl <;> rfl)
  simp only [Nat.add_zero, List.length_cons, List.length_nil, Nat.zero_add, Nat.reduceAdd] at e1
  have hc : (Builtin.zeroCells (Value.agg #[.int .i64 0, .int .i64 0, .slice none 0 0]).cells 1).toList = ([.int .i64 0, .int .i64 0, .slice none 0 0] : List Value) := by kernel_rfl
  simp [Builtin.clear_, run_underlying Tryz.underlying86, hz, hc, e1]

theorem bounds_infos : (Tryz.prog.info? 205).map (fun i => (i.zero.map (·.cells.size), i.size, i.bytes)) = some (some 3, 3, 40) := by kernel_rfl
theorem bounds_info : ∃ i0 z, Tryz.prog.info? 205 = some i0 ∧ i0.zero = some z ∧ i0.size = 3 ∧ i0.bytes = 40 ∧ z.cells.size = 3 := by
  obtain ⟨i, hi, hs⟩ := Option.map_eq_some_iff.1 bounds_infos
  simp only [Prod.mk.injEq] at hs
  obtain ⟨h0, h1, h2⟩ := hs
  obtain ⟨z, hz, hzs⟩ := Option.map_eq_some_iff.1 h0
  exact ⟨i, z, hi, hz, h1, h2, hzs⟩

set_option maxRecDepth 100000 in
set_option maxHeartbeats 1000000 in
theorem delete_any (A : Option Addr) (c : Nat) (l : List FM) (i : Nat) (w : World) (h : FRow w A c l) (hi : i < l.length) (hmax : l.length ≤ 1000) :
    Calls Tryz.prog 110 #[.slice A l.length c, .int .i64 (i : Int), .int .i64 ((i : Int) + 1)] w fun e w' => e = .returned (.slice A (l.length - 1) c) ∧ FRow w' A c (l.eraseIdx i) ∧ Chg w w' (fun k => inB A k) := by
  obtain ⟨i0, z0, hin, hz, hsz, hby, hzs⟩ := bounds_info
  have INF := Lib.hid (And.intro hin (And.intro hz (And.intro hsz (And.intro hby hzs))))
  have hcap := RowW.capMax h
  rcases h.own.2 with ⟨_, e⟩ | ⟨g, cap, cur, e, hg, hh, hnc, hcm, hcs, htk⟩
  · omega
  cases e
  have bb : Blk w g 205 cur := hh
  have hF := flatF_length l
  -- the cells that move
  have hnl : (flatF (l.drop (i + 1))).length = (l.length - (i + 1)) * 3 := by rw [flatF_length, List.length_drop]
  have hcur : ∀ (k : Nat) (u : Value), (flatF l)[k]? = some u → cur[k]? = some u := by
    intro k u hk
    rw [← htk, List.getElem?_take] at hk
    split at hk
    · simpa using hk
    · cases hk
  have hnews : ∀ (j : Nat) (u : Value), (flatF (l.drop (i + 1)))[j]? = some u → w.drew.cell? ⟨g, (i + 1) * 3 + j, none⟩ = some u := by
    intro j u hj
    have : w.cell? ⟨g, (i + 1) * 3 + j, none⟩ = some u := by
      rw [bb.cell]
      refine hcur _ _ ?_
      rw [← flatF_drop, List.getElem?_drop] at hj
      exact hj
    exact this
  have hsize : cur.size = c * 3 := hcs
  have f1 : i * 3 + (flatF (l.drop (i + 1))).length ≤ cur.size := by rw [hnl]; omega
  have hone := one_flatF (l.drop (i + 1))
  obtain ⟨W1, hW1⟩ : ∃ W1, W1 = w.drew.setCells g (i * 3) (flatF (l.drop (i + 1))) := ⟨_, rfl⟩
  have hrow := setCells_row (w := w.drew) (show Blk w.drew g _ cur from bb) (i * 3) _ f1 hone
  obtain ⟨c1, hc1⟩ : ∃ c1, c1 = (cur.toList.take (i * 3) ++ flatF (l.drop (i + 1)) ++ cur.toList.drop (i * 3 + (flatF (l.drop (i + 1))).length)).toArray := ⟨_, rfl⟩
  rw [← hc1, ← hW1] at hrow
  have b1 : Blk W1 g 205 c1 := by rw [hrow]; exact setRow_heap _ g cur _ 205 (0, 0) bb
  have hc1s : c1.size = c * 3 := by rw [hc1]; simp [hnl]; omega
  have hc1t : c1.toList.take ((l.length - 1) * 3) = flatF (l.eraseIdx i) := by
    have e0 : cur.toList.take (i * 3) = flatF (l.take i) := by
      rw [← flatF_take, ← htk, List.take_take, Nat.min_eq_left (by omega)]
    rw [hc1, List.toList_toArray, e0, ← flatF_append, List.eraseIdx_eq_take_drop_succ]
    have hl2 : (flatF (l.take i ++ l.drop (i + 1))).length = (l.length - 1) * 3 := by rw [flatF_length]; simp; omega
    rw [List.take_append_of_le_length (by omega), List.take_of_length_le (by omega)]
  have hcl := fun ty => clear3_run g ((l.length - 1) * 3) (c - (l.length - 1)) 205 c1 W1 b1 (by omega) ty
  obtain ⟨c2, hc2⟩ : ∃ c2, c2 = (c1.toList.take ((l.length - 1) * 3) ++ ([.int .i64 0, .int .i64 0, .slice none 0 0] : List Value) ++ c1.toList.drop ((l.length - 1) * 3 + 3)).toArray := ⟨_, rfl⟩
  rw [← hc2] at hcl
  obtain ⟨W2, hW2⟩ : ∃ W2, W2 = W1.setRow g c2 := ⟨_, rfl⟩
  rw [← hW2] at hcl
  have b2 : Blk W2 g 205 c2 := by rw [hW2]; exact b1.row c2
  have hk : Chg w W2 (fun k => inB (some ⟨g, 0, none⟩) k) := by
    have k1 : Chg w W1 (fun k => inB (some ⟨g, 0, none⟩) k) := by
      rw [hrow]
      exact (Chg.refl w _).drew.trans (Chg.setRow _ _ (inB_self g 0))
    rw [hW2]
    exact k1.trans (Chg.setRow _ _ (inB_self g 0))
  have hfin : FRow W2 (some ⟨g, 0, none⟩) c (l.eraseIdx i) := by
    have hle : (l.eraseIdx i).length = l.length - 1 := by rw [List.length_eraseIdx, if_pos hi]
    refine ⟨flatF_length _, .inr ⟨g, c, c2, rfl, Nat.zero_le _, b2, by omega, hcm, by rw [hc2]; simp; omega, ?_⟩⟩
    rw [hle, hc2, List.toList_toArray, List.append_assoc, hc1t]
    have : (flatF (l.eraseIdx i)).length = (l.length - 1) * 3 := by rw [flatF_length, hle]
    rw [List.take_append_of_le_length (by omega), List.take_of_length_le (by omega)]
  have FIN := Lib.hid (And.intro hfin hk)
  obtain ⟨A', hA', hsrc⟩ : ∃ A' : Addr, (if c = i + 1 then some (⟨g, 0, none⟩ : Addr) else some ⟨g, (i + 1) * 3, none⟩) = some A' ∧ Hid (∀ (j : Nat) (u : Value), (flatF (l.drop (i + 1)))[j]? = some u → w.drew.cell? (A'.add j) = some u) := by
    by_cases hc : c = i + 1
    · refine ⟨⟨g, 0, none⟩, by simp [hc], Lib.hid fun j u hu => ?_⟩
      have h0 : (flatF (l.drop (i + 1))).length = 0 := by rw [hnl]; omega
      rw [List.length_eq_zero_iff.1 h0] at hu
      simp at hu
    · refine ⟨⟨g, (i + 1) * 3, none⟩, by simp [hc], Lib.hid fun j u hu => ?_⟩
      have ea : (⟨g, (i + 1) * 3, none⟩ : Addr).add j = ⟨g, (i + 1) * 3 + j, none⟩ := by unfold Addr.add; split <;> simp_all
      rw [ea]
      exact hnews j u hu
  have NL := Lib.hid hnl
  have ONE := Lib.hid hone
  have SPARE := Lib.hid (show ∀ j, j < (flatF (l.drop (i + 1))).length → (w.drew.cell? ⟨g, 0 + i * 3 + j, none⟩).isSome = true ∧ w.drew.frozen? ⟨g, 0 + i * 3 + j, none⟩ = false from fun j hj => by
    have hb : Blk w.drew g 205 cur := bb
    rw [hb.cell, Array.getElem?_eq_getElem (by omega)]
    exact ⟨rfl, hb.frozen _⟩)
  have HW1 := Lib.hid hW1
  have hi0 : (0 : Int) ≤ (i : Int) := by omega
  have hi1 : (i : Int) + 1 ≤ (l.length : Int) := by omega
  have hlc : (l.length : Int) ≤ (c : Int) := by omega
  have hne : ¬ (i : Int) = (i : Int) + 1 := by omega
  have hic : i ≤ c := by omega
  have hjc : i + 1 ≤ c := by omega
  have hroom : i + (l.length - (i + 1)) ≤ c := by omega
  have hile : i + (l.length - (i + 1)) = l.length - 1 := by omega
  have HIL := Lib.hid hile
  have HR := Lib.hid hroom
  obtain ⟨m, hm1, hm2⟩ : ∃ m, l.length - 1 = m ∧ l.length = m + 1 := ⟨l.length - 1, rfl, by omega⟩
  rw [hm1] at hcl HIL
  have hcl2 : ∀ ty, (Builtin.clear_ #[86] ty #[.slice (some ⟨g, m * 3, none⟩) (l.length - m) (c - m)]).run Tryz.prog W1 = .ok (.tuple #[]) W2 := by
    rw [show l.length - m = 1 by omega]
    exact hcl
  have hm0 : (0 : Int) ≤ (m : Int) := by omega
  have hml : (m : Int) ≤ (l.length : Int) := by omega
  have hcm1 : ¬ c = m := by omega
  have hi2 : (0 : Int) ≤ (i : Int) + 1 := by omega
  have HM1 := Lib.hid hm1
  clear hm1 hm2 hcl
  clear hnews hroom hile hin hz hsz hby hzs hcap bb hF hnl hcur hsize f1 hone hrow hc1 b1 hc1s hc1t hc2 b2 hk hfin hW1 hW2 hcs htk hh
  go_enter Tryz.func110, Tryz.ntmps110
  go_upto_region 5 with fail
  go_region_law ((refine step_append_room rfl (.tmp 22) (.tmp 25) 86 rfl 205 i0 3 Tryz.underlying86 INF.out.1 INF.out.2.2.1 g 0 i c (by simp [Act.eval, Act.put]) A' (l.length - (i + 1)) (c - (i + 1)) (flatF (l.drop (i + 1))) (by simp [Act.eval, Act.put]) NL.out hsrc.out ONE.out HR.out SPARE.out ?_; rw [Nat.zero_add, ← HW1.out, HIL.out]))
  go_wp2
  go_ret
  rw [HM1.out]
  exact ⟨rfl, FIN.out⟩
end Go.Proofs.YtefnkednnnlhoaaGreatDoor.Ke

/- The law's pieces as the program's; the chapter's example. Conditions: those that each states. -/
namespace Go.Proofs.YtefnkednnnlhoaaGreatDoor
open Go.ChangeShapes Go.WideShapes Go.ChangeAt Go.RowKit Go.Deep
set_option linter.unusedVariables false
end Go.Proofs.YtefnkednnnlhoaaGreatDoor

/- Package frame: what its methods do. Conditions: those that each states. -/
namespace Go.Proofs.YtefnkednnnlhoaaGreatDoor.Fr
open Go.ChangeShapes Go.WideShapes Go.ChangeAt Go.RowKit Go.Deep
set_option linter.unusedVariables false

theorem wpList_build_is {P : Program} {ops : Array Oper} {rest : List Oper} {o : Oper} {a : Act} {w : World} {Q : Exit → Act → World → Prop} (hg : o.guard = none) (t : TypeId) (ho : o.op = .build t #[]) (cells : Array Value)
    (hc : P.built t [] = some cells) (h : wpList P ops Q rest (a.put o.dst (.agg cells)) w) : wpList P ops Q (o :: rest) a w := by
  refine wpList_build hg t #[] ho (by simp [hc]) (by simpa [hc] using h)
theorem blank_built : Tryz.prog.built 190 [] = some Pg.blank.cells.toArray := by kernel_rfl
theorem bys_all (l : List UInt8) : ∀ v ∈ bys l, v.oneCell' = true := fun v hv => bys_one hv
theorem cells_all (p : Pg) : p.cells.toArray.all (·.oneCell') = true := by
  rw [Array.all_eq_true_iff_forall_mem]
  intro v hv
  have hv' : v ∈ p.cells := by simpa using hv
  unfold Pg.cells at hv'
  rcases List.mem_cons.1 hv' with rfl | hv'
  · rfl
  · rcases List.mem_cons.1 hv' with rfl | hv'
    · rfl
    · exact bys_one hv'

def freeR (ps : List Pg) (env f : Int) : List Pg × Int :=
  if ownErr ps env f = 0 then (if (pg ps f).holds = 0 then (ps.set f.toNat .blank, 0) else (ps, 21)) else (ps, ownErr ps env f)
def giveR (ps : List Pg) (env f tow : Int) : List Pg × Int :=
  if ownErr ps env f = 0 then (if isE tow then (if (pg ps f).holds = 0 then (ps.set f.toNat { pg ps f with owner := tow.toNat }, 0) else (ps, 21)) else (ps, 1)) else (ps, ownErr ps env f)
def holdR (ps : List Pg) (env f : Int) : List Pg × Int :=
  if ownErr ps env f = 0 then (ps.set f.toNat { pg ps f with holds := (pg ps f).holds + 1 }, 0) else (ps, ownErr ps env f)
def dropR (ps : List Pg) (f : Int) : List Pg × Int :=
  if isH ps f then (ps.set f.toNat { pg ps f with holds := (pg ps f).holds - 1 }, 0) else (ps, 1)

section
variable {gs g : Nat} {ps : List Pg} {w : World}
set_option maxRecDepth 100000 in
theorem free_any (h : Tab w gs g ps) (env f : Int) :
    Calls Tryz.prog 61 #[.pointer (some ⟨g, 0, none⟩), .int .i64 env, .int .i64 f] w fun e w' => e = .returned (.int .i64 (freeR ps env f).2) ∧ Tab w' gs g (freeR ps env f).1 ∧ Chg w w' (fun k => k = gs) := by
  by_cases he : ownErr ps env f = 0
  · obtain ⟨k, hk, rfl, hE, ho⟩ := ownErr_zero he
    have n2 := h.n2
    have OW := Lib.hid (owned_ok h env k hk hE ho)
    have c1 := h.holds hk
    by_cases hh : ps[k].holds = 0
    · have er : freeR ps env k = (ps.set k .blank, 0) := by unfold freeR; rw [if_pos he, pg_at hk, if_pos hh, Int.toNat_natCast]
      rw [er]
      obtain ⟨cs, hb, hs, _⟩ := h.row
      have hv := h.seg hk (i := 0) Pg.blank.cells (by have := Pg.blank_ok.len; omega) .blank Pg.blank_ok (by
        have := (h.at_ hk).len
        rw [Pg.blank_ok.len, List.take_zero, List.nil_append, List.drop_eq_nil_of_le (by omega), List.append_nil]) hb
      rw [Nat.add_zero] at hv
      have HB := Lib.hid hb
      have HV := Lib.hid hv
      have hcs : Pg.blank.cells.toArray.size = 258 := by simpa using Pg.blank_ok.len
      have hlen : Pg.blank.cells.length = 258 := Pg.blank_ok.len
      have hca := cells_all Pg.blank
      have hbu := blank_built
      generalize Pg.blank.cells = Z at *
      have hk1 : ¬ (ps[k].holds : Int) > 0 := by omega
      rw [hh] at c1
      have CS := Lib.hid hcs
      have CA := Lib.hid hca
      have BU := Lib.hid hbu
      clear h hb hv hE ho he er hh hk1 hcs hca hbu
      go_enter Tryz.func61, Tryz.ntmps61
      go_wp2_with fail
      refine OW.out.mono ?_; rintro e w1 ⟨rfl, rfl⟩
      go_wp2_with (first
        | (refine wpList_build_is rfl 190 rfl Z.toArray BU.out ?_)
        | (refine wpList_store_at rfl 190 (.tmp 26) (.tmp 25) rfl gs (k * 258) Z.toArray rfl rfl 190 cs HB.out (page_size.trans (congrArg some CS.out.symm)) (by rw [CS.out]; omega) CA.out ?_))
      go_ret
      refine ⟨rfl, ?_, Chg.setRow _ _ rfl⟩
      have hv := HV.out.2
      rw [hlen] at hv
      simpa using hv
    · have er : freeR ps env k = (ps, 21) := by unfold freeR; rw [if_pos he, pg_at hk, if_neg hh]
      rw [er]
      have H := Lib.hid h
      have hk1 : (ps[k].holds : Int) > 0 := by omega
      generalize (ps[k].holds : Int) = v at *
      clear h hE ho he er hh
      go_enter Tryz.func61, Tryz.ntmps61
      go_wp2_with fail
      refine OW.out.mono ?_; rintro e w1 ⟨rfl, rfl⟩
      go_wp2
      go_ret
      exact ⟨rfl, H.out, Chg.refl _ _⟩
  · have er : freeR ps env f = (ps, ownErr ps env f) := by unfold freeR; rw [if_neg he]
    rw [er]
    have OW := Lib.hid (owned_no h env f he)
    have H := Lib.hid h
    have hv : (ownErr ps env f == 0) = false := by simpa using he
    generalize ownErr ps env f = v at *
    clear h er he
    go_enter Tryz.func61, Tryz.ntmps61
    go_wp2_with fail
    refine OW.out.mono ?_; rintro e w1 ⟨rfl, rfl⟩
    go_wp2
    go_ret
    exact ⟨rfl, H.out, Chg.refl _ _⟩

set_option maxRecDepth 100000 in
theorem give_any (h : Tab w gs g ps) (env f tow : Int) :
    Calls Tryz.prog 62 #[.pointer (some ⟨g, 0, none⟩), .int .i64 env, .int .i64 f, .int .i64 tow] w fun e w' => e = .returned (.int .i64 (giveR ps env f tow).2) ∧ Tab w' gs g (giveR ps env f tow).1 ∧ Chg w w' (fun k => k = gs) := by
  by_cases he : ownErr ps env f = 0
  · obtain ⟨k, hk, rfl, hE, ho⟩ := ownErr_zero he
    have n2 := h.n2
    have OW := Lib.hid (owned_ok h env k hk hE ho)
    have c1 := h.holds hk
    have c2 := h.owner hk
    have f0 := h.thaw (k * 258)
    have H := Lib.hid h
    by_cases hto : isE tow
    · have TO := Lib.hid (isEnv_yes tow hto w)
      by_cases hh : ps[k].holds = 0
      · have er : giveR ps env k tow = (ps.set k { ps[k] with owner := tow.toNat }, 0) := by unfold giveR; rw [if_pos he, if_pos hto, pg_at hk, if_pos hh, Int.toNat_natCast]
        rw [er]
        have oko := h.at_ hk
        have oto : tow.toNat ≤ 2 := by rcases hto with e | e <;> omega
        have eto : ((tow.toNat : Nat) : Int) = tow := by rcases hto with e | e <;> rw [e] <;> rfl
        have hv := h.set hk (i := 0) (by omega) (.int .i64 tow) { ps[k] with owner := tow.toNat } ⟨oto, oko.h, oko.t⟩ (by
          unfold Pg.cells; rw [List.set_cons_zero]; simp only [eto])
        rw [Nat.add_zero] at hv
        have HV := Lib.hid hv
        rw [hh] at c1
        generalize (ps[k].owner : Int) = v at *
        clear h hv hE ho he er hh eto hto oko
        go_enter Tryz.func62, Tryz.ntmps62
        go_wp2_with fail
        refine OW.out.mono ?_; rintro e w1 ⟨rfl, rfl⟩
        go_wp2_with fail
        refine TO.out.mono ?_; rintro e w1 ⟨rfl, rfl⟩
        go_wp2
        go_ret
        exact ⟨rfl, HV.out, Chg.set _ _ _ rfl⟩
      · have er : giveR ps env k tow = (ps, 21) := by unfold giveR; rw [if_pos he, if_pos hto, pg_at hk, if_neg hh]
        rw [er]
        have hk1 : (ps[k].holds : Int) > 0 := by omega
        generalize (ps[k].holds : Int) = v at *
        clear h hE ho he er hh hto c2
        go_enter Tryz.func62, Tryz.ntmps62
        go_wp2_with fail
        refine OW.out.mono ?_; rintro e w1 ⟨rfl, rfl⟩
        go_wp2_with fail
        refine TO.out.mono ?_; rintro e w1 ⟨rfl, rfl⟩
        go_wp2
        go_ret
        exact ⟨rfl, H.out, Chg.refl _ _⟩
    · have TO := Lib.hid (isEnv_no tow hto w)
      have er : giveR ps env k tow = (ps, 1) := by unfold giveR; rw [if_pos he, if_neg hto]
      rw [er]
      clear h hE ho he er hto c1 c2
      go_enter Tryz.func62, Tryz.ntmps62
      go_wp2_with fail
      refine OW.out.mono ?_; rintro e w1 ⟨rfl, rfl⟩
      go_wp2_with fail
      refine TO.out.mono ?_; rintro e w1 ⟨rfl, rfl⟩
      go_wp2
      go_ret
      exact ⟨rfl, H.out, Chg.refl _ _⟩
  · have er : giveR ps env f tow = (ps, ownErr ps env f) := by unfold giveR; rw [if_neg he]
    rw [er]
    have OW := Lib.hid (owned_no h env f he)
    have H := Lib.hid h
    have hv : (ownErr ps env f == 0) = false := by simpa using he
    generalize ownErr ps env f = v at *
    clear h er he
    go_enter Tryz.func62, Tryz.ntmps62
    go_wp2_with fail
    refine OW.out.mono ?_; rintro e w1 ⟨rfl, rfl⟩
    go_wp2
    go_ret
    exact ⟨rfl, H.out, Chg.refl _ _⟩

set_option maxRecDepth 100000 in
theorem hold_any (h : Tab w gs g ps) (env f : Int) (hm : ∀ p ∈ ps, p.holds < 1000000) :
    Calls Tryz.prog 141 #[.pointer (some ⟨g, 0, none⟩), .int .i64 env, .int .i64 f] w fun e w' => e = .returned (.int .i64 (holdR ps env f).2) ∧ Tab w' gs g (holdR ps env f).1 ∧ Chg w w' (fun k => k = gs) := by
  by_cases he : ownErr ps env f = 0
  · obtain ⟨k, hk, rfl, hE, ho⟩ := ownErr_zero he
    have n2 := h.n2
    have OW := Lib.hid (owned_ok h env k hk hE ho)
    have c1 := h.holds hk
    have f1 := h.thaw (k * 258 + 1)
    have er : holdR ps env k = (ps.set k { ps[k] with holds := ps[k].holds + 1 }, 0) := by unfold holdR; rw [if_pos he, pg_at hk, Int.toNat_natCast]
    rw [er]
    have oko := h.at_ hk
    have hlt := hm _ (List.getElem_mem hk)
    have x0 : IntKind.i64.wrap ((ps[k].holds : Int) + 1) = (ps[k].holds : Int) + 1 := IntWalk.i64_in _ (by omega)
    have hv := h.set hk (i := 1) (by omega) (.int .i64 ((ps[k].holds : Int) + 1)) { ps[k] with holds := ps[k].holds + 1 } ⟨oko.o, hlt, oko.t⟩ (by
      unfold Pg.cells; rw [List.set_cons_succ, List.set_cons_zero]; simp)
    have HV := Lib.hid hv
    generalize (ps[k].holds : Int) = v at *
    clear h hv hE ho he er oko hlt hm
    go_enter Tryz.func141, Tryz.ntmps141
    go_wp2_with fail
    refine OW.out.mono ?_; rintro e w1 ⟨rfl, rfl⟩
    go_wp2
    go_ret
    exact ⟨rfl, HV.out, Chg.set _ _ _ rfl⟩
  · have er : holdR ps env f = (ps, ownErr ps env f) := by unfold holdR; rw [if_neg he]
    rw [er]
    have OW := Lib.hid (owned_no h env f he)
    have H := Lib.hid h
    have hv : (ownErr ps env f == 0) = false := by simpa using he
    generalize ownErr ps env f = v at *
    clear h er he hm
    go_enter Tryz.func141, Tryz.ntmps141
    go_wp2_with fail
    refine OW.out.mono ?_; rintro e w1 ⟨rfl, rfl⟩
    go_wp2
    go_ret
    exact ⟨rfl, H.out, Chg.refl _ _⟩

set_option maxRecDepth 100000 in
theorem drop_any (h : Tab w gs g ps) (f : Int) :
    Calls Tryz.prog 161 #[.pointer (some ⟨g, 0, none⟩), .int .i64 f] w fun e w' => e = .returned (.int .i64 (dropR ps f).2) ∧ Tab w' gs g (dropR ps f).1 ∧ Chg w w' (fun k => k = gs) := by
  by_cases he : isH ps f
  · obtain ⟨k, rfl⟩ : ∃ k : Nat, f = (k : Int) := ⟨f.toNat, by have := he.1.1; omega⟩
    have hk : k < ps.length := by have := he.1.2; omega
    have hh : ps[k].holds ≠ 0 := by have := he.2; rwa [pg_at hk] at this
    have n2 := h.n2
    have OW := Lib.hid (held_ok h k hk hh)
    have c1 := h.holds hk
    have f1 := h.thaw (k * 258 + 1)
    have er : dropR ps k = (ps.set k { ps[k] with holds := ps[k].holds - 1 }, 0) := by unfold dropR; rw [if_pos he, pg_at hk, Int.toNat_natCast]
    rw [er]
    have oko := h.at_ hk
    have hm := oko.h
    have x0 : IntKind.i64.wrap ((ps[k].holds : Int) - 1) = (ps[k].holds : Int) - 1 := IntWalk.i64_in _ (by omega)
    have e1 : ((ps[k].holds - 1 : Nat) : Int) = (ps[k].holds : Int) - 1 := by omega
    have hv := h.set hk (i := 1) (by omega) (.int .i64 ((ps[k].holds : Int) - 1)) { ps[k] with holds := ps[k].holds - 1 } ⟨oko.o, by show ps[k].holds - 1 ≤ 1000000; omega, oko.t⟩ (by
      unfold Pg.cells; rw [List.set_cons_succ, List.set_cons_zero]; simp only [e1])
    have HV := Lib.hid hv
    generalize (ps[k].holds : Int) = v at *
    clear h hv he er oko hm hh e1
    go_enter Tryz.func161, Tryz.ntmps161
    go_wp2_with fail
    refine OW.out.mono ?_; rintro e w1 ⟨rfl, rfl⟩
    go_wp2
    go_ret
    exact ⟨rfl, HV.out, Chg.set _ _ _ rfl⟩
  · have er : dropR ps f = (ps, 1) := by unfold dropR; rw [if_neg he]
    rw [er]
    have OW := Lib.hid (held_no h f he)
    have H := Lib.hid h
    clear h er he
    go_enter Tryz.func161, Tryz.ntmps161
    go_wp2_with fail
    refine OW.out.mono ?_; rintro e w1 ⟨rfl, rfl⟩
    go_wp2
    go_ret
    exact ⟨rfl, H.out, Chg.refl _ _⟩
end
end Go.Proofs.YtefnkednnnlhoaaGreatDoor.Fr
