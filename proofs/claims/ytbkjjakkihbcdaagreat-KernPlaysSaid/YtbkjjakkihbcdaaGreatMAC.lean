/- '[]byte(s)', and append behind it. Conditions: those that each states. -/
import Derived.Test.YtbkjjakkihbcdaaGreatMAA
import Derived.Laws.IdiomStrings
import Derived.Lib.ConvBytes
import Derived.Laws.BytesString
import Derived.ArgAppend
import Derived.Deep.Upon
import Derived.Test.YtbkjjakkihbcdaaGreatMAB
import Derived.Test.YtbkjjakkihbcdaaGreatFlt6
import Derived.Deep.Slices
import Derived.ChangeSame
import Derived.Deep.MidRow
import Derived.RegionTactic
import Derived.BigRegion
import Derived.WalkMore
import Derived.StillTailTactics
import Derived.Deep.QuietTactic
import Derived.BigQuiet
import Derived.Deep.OwnRows
import Derived.Laws.Tables
import Derived.Deep.DeepCutAuto
import Derived.Deep.CutBlock
import Derived.Laws.CopyRow
import Derived.Laws.CopyOwn
import Derived.Lib.Bytes
import Derived.Lib.SliceRun
import Derived.Deep.RegionLaw
import Derived.Deep.Cut
namespace Go.Proofs.YtbkjjakkihbcdaaGreat
open Go.ChangeShapes Go.WideShapes Go.ChangeAt Go.RowKit Go.Deep
set_option linter.unusedVariables false

structure ConvB (w : World) (g n c : Nat) (l : List UInt8) : Prop where
 row : ∃ cur : Array Value, w.heap[g]? = some (.cells cur 5 (cur.size, cur.size + 1)) ∧ cur.size = c ∧ ∀ j (h : j < l.length), cur[j]? = some (.int .u8 (l[j].toNat : Int))
 len : l.length = n
 cap : n ≤ c
 max : c ≤ maxLen
theorem ConvB.lt {w : World} {g n c : Nat} {l : List UInt8} (h : ConvB w g n c l) : g < w.heap.size := by obtain ⟨cur, hh, _⟩ := h.row; exact (Array.getElem?_eq_some_iff.1 hh).1
theorem ConvB.cell {w : World} {g n c j : Nat} {l : List UInt8} (h : ConvB w g n c l) (hj : j < l.length) : w.cell? ⟨g, j, none⟩ = some (.int .u8 (l[j].toNat : Int)) := by
 obtain ⟨cur, hh, _, r⟩ := h.row
 rw [cell_of_row w g j cur _ _ hh, r j hj]
theorem ConvB.src {w : World} {g n c : Nat} {l : List UInt8} (h : ConvB w g n c l) : Src w (some ⟨g, 0, none⟩) n c l :=
 ⟨⟨fun hp => ⟨g, 0, rfl, h.lt, fun j hj => by
  have hj' : j < l.length := by rw [bys_length] at hj; exact hj
  rw [Nat.zero_add, h.cell hj']; simp [bys]⟩, h.len, h.cap, by have := h.max; unfold maxLen at this; exact this⟩, fun e => by cases e⟩
theorem conv_any (s : ByteArray) (hs : s.size ≤ 1000000) (w : World) : ∃ c W', (convert 9 37 (.string s)).run Tryz.prog w = .ok (.slice (some ⟨w.heap.size, 0, none⟩) s.size c) W' ∧ ConvB W' w.heap.size s.size c s.data.toList ∧ Below w.heap.size w W' := by
 have hge := grownCap_ge w s.size 0 5
 have hle := grownCap_le_maxLen w s.size 0 5 (by unfold maxLen; omega)
 refine ⟨_, _, run_bytes_of_string w 9 37 5 s Tryz.underlying9 Tryz.underlying37 Tryz.underlying5, ⟨⟨bytesRow s (grownCap w s.size 0 5), heap_alloc_new w.drew _, ?_, fun j hj => ?_⟩, Array.length_toList, hge, hle⟩, ?_⟩
 ·simp only [bytesRow, Array.size_append, Array.size_map, Array.size_replicate]
  have : s.data.size = s.size := rfl
  omega
 ·have hj' : j < s.data.size := by simpa using hj
  rw [bytesRow_at s _ j hj']
  simp
 ·exact (⟨rfl, rfl, rfl, Nat.le_refl _, fun _ _ => rfl⟩ : Below w.heap.size w w.drew).alloc (Nat.le_refl _) _
end Go.Proofs.YtbkjjakkihbcdaaGreat

/- A slice of steps that came in; '[]byte(s)'. Conditions: those that each states. -/
namespace Go.Proofs.YtbkjjakkihbcdaaGreat
open Go.ChangeShapes Go.WideShapes Go.ChangeAt Go.RowKit Go.Deep
set_option linter.unusedVariables false

theorem wpList_append_prg {P : Program} {w : World} {ops : Array Oper} {rest : List Oper} {o : Oper} {a : Act} {Q : Exit → Act → World → Prop} (hgd : o.guard = none) (s x : Operand) (t : TypeId)
  (ho : o.op = .call { callee := .builtin .append, args := #[s, x], argTypes := #[t, t] })
  (base : Nat) (e : TypeId) (i : TypeInfo) (z : Value) (ht : P.underlying t = some (.slice e)) (hi : P.info? e = some i) (hz : i.zero = some z)
  (hsize : i.size = 4) (hby : i.bytes = 32) (hzs : z.cells.size = 4)
  (v : Value) (q : List Ins) (hs : a.eval s = v) (hown : w.ownsRow base e 4 v q.length (flat q))
  (A : Option Addr) (c : Nat) (p : List Ins) (hx : a.eval x = .slice A p.length c) (hp : Prg w A p) (hn : A = none → p = [] ∧ c = 0)
  (hmax : q.length + p.length ≤ 1000000) (hbase : base ≤ w.heap.size)
  (h : ∀ v' w', w'.ownsRow base e 4 v' (q ++ p).length (flat (q ++ p)) → w.grownBy w' v.ownBlock → wpList P ops Q rest (a.put o.dst v') w') : wpList P ops Q (o :: rest) a w := by
 refine wpList_plain hgd fun K hK => ?_
 cases A with
 | none =>
  obtain ⟨rfl, rfl⟩ := hn rfl
  have hrun := run_append_owned_none (P := P) (w := w) base t o.type e i 4 ht hi v q.length (flat q) hown
  have hx' : a.eval x = .slice none 0 0 := hx
  unfold Oper.wp execOp
  simp only [ho, resolve, invoke, builtin, Sem.run_bind, Sem.run_pure, Result.andThen_ok, List.map_toArray, List.map_cons, List.map_nil, hs, hx', hrun]
  exact hK _ _ (h v w (by rw [List.append_nil]; exact hown) (World.grownBy.refl _ _))
 | some ad =>
  have hc : ∀ j u, (flat p)[j]? = some u → w.cell? (ad.add j) = some u := by
   intro j u hu
   by_cases h0 : 0 < p.length
   ·obtain ⟨b, o, e, _⟩ := hp 0 h0
    cases e
    exact prg_cells hp j u hu
   ·have ep : p = [] := List.length_eq_zero_iff.1 (by omega)
    subst ep
    simp [flat] at hu
  obtain ⟨v', w', hr, h2, h3, _, h5⟩ := run_append_own_at (P := P) w base t o.type e i z 4 32 ht hi hz hsize hby hzs (by decide) v q.length (flat q) hown ad p.length c (flat p) (flat_length p) hc (one_flat p) (by unfold maxLen; omega) (by omega) hbase
  unfold Oper.wp execOp
  simp only [ho, resolve, invoke, builtin, Sem.run_bind, Sem.run_pure, Result.andThen_ok, List.map_toArray, List.map_cons, List.map_nil, hs, hx, hr]
  exact hK _ _ (h v' w' (by rw [List.length_append, flat_append]; exact h2) h3)

theorem run_src (A As : Option Addr) (c cs n : Nat) (p : List Ins) (l : List UInt8) (w : World) (hp : Prg w A p) (hs : Src w As n cs l) (hok : ∀ q ∈ p, q.Ok) (h : Chk p) (hsm : n ≤ 1024) (v : Int) (hv : runP p l = v) :
  Calls Tryz.prog 45 #[.slice A p.length c, .slice As n cs] w fun e w' => e = .returned (.tuple #[.int .u32 v, .int .i64 0]) ∧ Below w.heap.size w w' := by
 have e := hs.len
 subst e hv
 exact run_ok A As c cs p l w hp hs hok h hsm
end Go.Proofs.YtbkjjakkihbcdaaGreat

/- Lists of pieces of frames, in plain words: sizes, what is cut, what is fetched; such lists that came in. Conditions: those that each states. -/
namespace Go.Proofs.YtbkjjakkihbcdaaGreat
open Go.ChangeShapes Go.WideShapes Go.ChangeAt Go.RowKit Go.Deep
set_option linter.unusedVariables false

structure Pc where
 frame : Int
 off : Int
 len : Int
instance : Inhabited Pc := ⟨⟨0, 0, 0⟩⟩
structure Pc.Ok (p : Pc) : Prop where
 frame : -9223372036854775808 ≤ p.frame ∧ p.frame ≤ 9223372036854775807
 off : -9223372036854775808 ≤ p.off ∧ p.off ≤ 9223372036854775807
 len : -9223372036854775808 ≤ p.len ∧ p.len ≤ 9223372036854775807
def Pc.list (p : Pc) : List Value := [.int .i64 p.frame, .int .i64 p.off, .int .i64 p.len]
def Pc.In (p : Pc) : Prop := 0 ≤ p.off ∧ p.off ≤ 256 ∧ 0 ≤ p.len ∧ p.len ≤ 256 ∧ p.off + p.len ≤ 256
instance (p : Pc) : Decidable p.In := inferInstanceAs (Decidable (_ ∧ _))
def total : List Pc → Nat
 | [] => 0
 | p :: l => p.len.toNat + total l
def sizeR (l : List Pc) : Int := if 1048576 ≤ total l then 1048576 else (total l : Int)
theorem total_append (l r : List Pc) : total (l ++ r) = total l + total r := by
 induction l with
 | nil => simp [total]
 | cons p l ih => simp [total, ih]; omega
theorem total_take_succ {l : List Pc} {i : Nat} (hi : i < l.length) : total (l.take (i + 1)) = total (l.take i) + l[i].len.toNat := by
 rw [List.take_succ_eq_append_getElem hi, total_append]
 simp [total]
theorem total_take_le (l : List Pc) (i : Nat) : total (l.take i) ≤ total l := by
 have := total_append (l.take i) (l.drop i)
 rw [List.take_append_drop] at this
 omega
def gatherB (txt : Int → List UInt8) (l : List Pc) : List UInt8 := l.flatMap fun p => ((txt p.frame).drop p.off.toNat).take p.len.toNat
theorem gatherB_append (txt : Int → List UInt8) (l r : List Pc) : gatherB txt (l ++ r) = gatherB txt l ++ gatherB txt r := by unfold gatherB; rw [List.flatMap_append]
theorem gatherB_cons (txt : Int → List UInt8) (p : Pc) (l : List Pc) : gatherB txt (p :: l) = ((txt p.frame).drop p.off.toNat).take p.len.toNat ++ gatherB txt l := by unfold gatherB; rw [List.flatMap_cons]
def Pcs (w : World) (A : Option Addr) (l : List Pc) : Prop := ∀ i (h : i < l.length), ∃ b o, A = some ⟨b, o, none⟩ ∧ b < w.heap.size ∧ w.rangeAt b (o + i * 3) l[i].list
section
variable {w w' : World} {A : Option Addr} {l : List Pc}
theorem Pcs.older (h : Pcs w A l) (k : Older w w') : Pcs w' A l := by
 intro i hi
 obtain ⟨b, o, e, hb, h1⟩ := h i hi
 refine ⟨b, o, e, Nat.lt_of_lt_of_le hb k.1, fun j v hj => ?_⟩
 rw [World.cell?_of_block (w := w) (w' := w') (a := ⟨b, o + i * 3 + j, none⟩) (k.2 b hb)]
 exact h1 j v hj
theorem Pcs.new (h : Pcs w A l) (k : Below w.heap.size w w') : Pcs w' A l := h.older (older_below k)
theorem Pcs.drewN (h : Pcs w A l) (n : Nat) : Pcs (w.drewN n) A l := h
theorem Pcs.cells (h : Pcs w A l) {i : Nat} (hi : i < l.length) : ∃ b o, A = some ⟨b, o, none⟩ ∧ b < w.heap.size ∧ w.cell? ⟨b, o + i * 3, none⟩ = some (.int .i64 l[i].frame) ∧ w.cell? ⟨b, o + i * 3 + 1, none⟩ = some (.int .i64 l[i].off) ∧ w.cell? ⟨b, o + i * 3 + 2, none⟩ = some (.int .i64 l[i].len) := by
 obtain ⟨b, o, e, hb, h1⟩ := h i hi
 exact ⟨b, o, e, hb, h1 0 _ rfl, h1 1 _ rfl, h1 2 _ rfl⟩
end
def flatP (l : List Pc) : List Value := (l.map Pc.list).flatten
theorem flatP_snoc (l : List Pc) (q : Pc) : flatP (l ++ [q]) = flatP l ++ q.list := by unfold flatP; simp
theorem flatP_length (p : List Pc) : (flatP p).length = p.length * 3 := by
 unfold flatP
 induction p with
 | nil => rfl
 | cons q p ih => rw [List.map_cons, List.flatten_cons, List.length_append, ih, List.length_cons]; show 3 + _ = _; omega
theorem flatP_at (p : List Pc) {i j : Nat} (hi : i < p.length) (hj : j < 3) : (flatP p)[i * 3 + j]? = (p[i].list)[j]? := by
 unfold flatP
 induction p generalizing i with
 | nil => simp at hi
 | cons q p ih =>
  cases i with
  | zero =>
   rw [List.map_cons, List.flatten_cons, List.getElem?_append_left (by show _ < 3; omega), Nat.zero_mul, Nat.zero_add]
   rfl
  | succ i =>
   rw [List.map_cons, List.flatten_cons, List.getElem?_append_right (by show 3 ≤ _; omega)]
   have e : (i + 1) * 3 + j - q.list.length = i * 3 + j := by show _ - 3 = _; omega
   rw [e, ih (by simpa using hi)]
   rfl
theorem one_pc (q : Pc) : ∀ u ∈ q.list, u.oneCell' = true := by
 intro u hu
 unfold Pc.list at hu
 simp only [List.mem_cons, List.not_mem_nil, or_false] at hu
 rcases hu with rfl | rfl | rfl <;> rfl
theorem pcs_of_owns {w : World} {B : Nat} {E : TypeId} {v : Value} {p : List Pc} (h : w.ownsRow B E 3 v p.length (flatP p)) : ∃ A c, v = .slice A p.length c ∧ Pcs w A p := by
 rcases h.2 with ⟨e, e0⟩ | ⟨g, cap, cur, e, hg, hh, r⟩
 ·refine ⟨none, 0, by rw [e, e0], fun i hi => absurd hi (by omega)⟩
 ·refine ⟨some ⟨g, 0, none⟩, cap, e, fun i hi => ⟨g, 0, rfl, (Array.getElem?_eq_some_iff.1 hh).1, fun j v hj => ?_⟩⟩
  have hj4 : j < 3 := (List.getElem?_eq_some_iff.1 hj).1
  have e2 : (flatP p)[i * 3 + j]? = some v := (flatP_at p hi hj4).trans hj
  subst e
  have hc := World.ownsRow.cells h rfl (i * 3 + j) v e2
  have ea : (⟨g, 0, none⟩ : Addr).add (i * 3 + j) = ⟨g, 0 + i * 3 + j, none⟩ := by unfold Addr.add; split <;> simp_all
  rw [ea] at hc
  exact hc
/-! Such lists that came in. -/
section
variable {H : Type} {enc : TypeId × Value → H} {P : Program} {w : World}
theorem pcs_of_trod {t e : TypeId} {f0 f1 f2 : Field} {fuel : Nat} {cs : List Value} {x : DataW H × List MemPlace} {held : Bool} (ht : P.underlying t = some (.slice e)) (he : P.underlying e = some (.struct #[f0, f1, f2]))
  (ce : P.cellsOf e = 3) (o0 : f0.offset = 0) (o1 : f1.offset = 1) (o2 : f2.offset = 2)
  (c0 : P.cellsOf f0.type = 1) (c1 : P.cellsOf f1.type = 1) (c2 : P.cellsOf f2.type = 1)
  (u0 : P.underlying f0.type = some (.int .i64)) (u1 : P.underlying f1.type = some (.int .i64)) (u2 : P.underlying f2.type = some (.int .i64))
  (hf : DataW.trod enc P w 0 (fun _ => true) held fuel t cs = some x) : ∃ A c l, cs = [.slice A (l : List Pc).length c] ∧ Pcs w A l ∧ (∀ q ∈ l, q.Ok) ∧ (A = none → l = [] ∧ c = 0) := by
 rcases open_slice ht hf with ⟨hcs, _⟩ | ⟨x, len, cap, m, k, D, Pl, hcs, _, hl, hm, hmm, _, hx⟩
 ·exact ⟨none, 0, [], hcs, fun i hi => absurd hi (by simp), fun q hq => (by cases hq), fun _ => ⟨rfl, rfl⟩⟩
 ·subst hcs
  simp only [if_true] at hmm
  obtain ⟨b, o, sp⟩ := x
  have each : ∀ i, i < len → ∃ q : Pc, sp = none ∧ b < w.heap.size ∧ w.rangeAt b (o + i * 3) q.list ∧ q.Ok := by
   intro i hi
   obtain ⟨cs', h1, h2⟩ := hx i (by omega)
   rw [ce] at h1
   obtain ⟨_, hlen, hcell⟩ := World.cells?_some h1
   obtain ⟨xs, k', hk, hxy, _, hxl, hff⟩ := DataW.trod_struct he h2
   match xs, hxl, cs', hlen with
   | [y0, y1, y2], _, [v0, v1, v2], _ =>
    have g0 := hff 0 f0 rfl
    have g1 := hff 1 f1 rfl
    have g2 := hff 2 f2 rfl
    simp [o0, o1, o2, c0, c1, c2] at g0 g1 g2
    obtain ⟨z0, e0, _, w0⟩ := DataW.trod_int u0 g0
    obtain ⟨z1, e1, _, w1⟩ := DataW.trod_int u1 g1
    obtain ⟨z2, e2, _, w2⟩ := DataW.trod_int u2 g2
    simp at e0 e1 e2
    have hc : ∀ j, j < 3 → w.cell? ((⟨b, o, sp⟩ : Addr).add (i * 3 + j)) = ([v0, v1, v2] : List Value)[j]? := by
     intro j hj
     have := hcell j (by simpa using hj)
     rw [add_add] at this
     rw [this]
    have hc0 := (hc 0 (by omega)).trans (show _ = some v0 from rfl)
    have hsp : sp = none := by
     obtain ⟨cs0, h10, _⟩ := hx 0 (by omega)
     rw [ce] at h10
     obtain ⟨_, hlen0, hcell0⟩ := World.cells?_some h10
     have := World.cell?_spot ((hcell0 0 (by omega)).trans (List.getElem?_eq_getElem (by omega)))
     simpa [Addr.add] using this
    subst hsp
    have ea : ∀ j, (⟨b, o, none⟩ : Addr).add j = ⟨b, o + j, none⟩ := fun j => by unfold Addr.add; split <;> simp_all
    refine ⟨⟨z0, z1, z2⟩, rfl, ?_, ?_, ⟨wf_i64 w0, wf_i64 w1, wf_i64 w2⟩⟩
    ·rw [ea] at hc0
     unfold World.cell? at hc0
     cases hh : w.heap[b]? with
     | none => simp only [hh] at hc0; cases hc0
     | some ob => exact (Array.getElem?_eq_some_iff.1 hh).1
    ·intro j v hj
     have hj6 : j < 3 := (List.getElem?_eq_some_iff.1 hj).1
     have := hc j hj6
     rw [ea, ← Nat.add_assoc] at this
     rw [this, ← hj, e0, e1, e2]
     rfl
  obtain ⟨q, hq⟩ := choose_lt each
  have hl2 : ((List.range len).map q).length = len := by simp
  refine ⟨some ⟨b, o, sp⟩, cap, (List.range len).map q, by rw [hl2], fun i hi => ?_, fun y hy => ?_, fun e => by cases e⟩
  ·rw [hl2] at hi
   obtain ⟨rfl, h1, h2, h3⟩ := hq i hi
   exact ⟨b, o, rfl, h1, by simpa using h2⟩
  ·obtain ⟨i, hi, rfl⟩ := List.mem_map.1 hy
   exact (hq i (List.mem_range.1 hi)).2.2.2
end
end Go.Proofs.YtbkjjakkihbcdaaGreat

/- Package gather: within, Size. Conditions: those that each states. -/
namespace Go.Proofs.YtbkjjakkihbcdaaGreat
open Go.ChangeShapes Go.WideShapes Go.ChangeAt Go.RowKit Go.Deep
set_option linter.unusedVariables false

theorem pwithin (p : Pc) (hp : p.Ok) (w : World) :
  Calls Tryz.prog 107 #[.agg #[.int .i64 p.frame, .int .i64 p.off, .int .i64 p.len]] w fun e w' => e = .returned (.bool (decide p.In)) ∧ Below w.heap.size w w' := by
 have b0 := (Below.refl w.heap.size w).alloc (Nat.le_refl _) (.cells #[.int .i64 p.frame, .int .i64 p.off, .int .i64 p.len] 175)
 have B0 := Lib.hid b0
 obtain ⟨o1, o2⟩ := hp.off
 by_cases g1 : p.off ≥ 0
 ·by_cases g2 : p.len ≥ 0
  ·have x0 : IntKind.i64.wrap (256 - p.off) = 256 - p.off := IntWalk.i64_in _ (by omega)
   by_cases g3 : p.len ≤ 256 - p.off
   ·have e : decide p.In = true := decide_eq_true (by unfold Pc.In; omega)
    rw [e]
    clear b0 e o1 o2 hp
    go_enter Tryz.func107, Tryz.ntmps107
    go_wp2
    go_ret
    exact ⟨rfl, B0.out⟩
   ·have e : decide p.In = false := decide_eq_false (by unfold Pc.In; omega)
    rw [e]
    clear b0 e o1 o2 hp
    go_enter Tryz.func107, Tryz.ntmps107
    go_wp2
    go_ret
    exact ⟨rfl, B0.out⟩
  ·have e : decide p.In = false := decide_eq_false (by unfold Pc.In; omega)
   rw [e]
   clear b0 e o1 o2 hp
   go_enter Tryz.func107, Tryz.ntmps107
   go_wp2
   go_ret
   exact ⟨rfl, B0.out⟩
 ·have e : decide p.In = false := decide_eq_false (by unfold Pc.In; omega)
  rw [e]
  clear b0 e o1 o2 hp
  go_enter Tryz.func107, Tryz.ntmps107
  go_wp2
  go_ret
  exact ⟨rfl, B0.out⟩

theorem piece_info : (Tryz.prog.info? 175).map (·.size) = some 3 := by kernel_rfl
theorem sizeR_succ {l : List Pc} {j : Nat} (hj : j < l.length) : sizeR (l.take (j + 1)) = sizeR (l.take j) + min (max l[j].len 0) (1048576 - sizeR (l.take j)) := by
 unfold sizeR
 rw [total_take_succ hj]
 split <;> split <;> omega
theorem sizeR_ends (l : List Pc) : 0 ≤ sizeR l ∧ sizeR l ≤ 1048576 := by unfold sizeR; split <;> omega
set_option maxRecDepth 100000 in
set_option maxHeartbeats 2000000 in
theorem size_any (A : Option Addr) (c : Nat) (l : List Pc) (w : World) (hp : Pcs w A l) (hok : ∀ p ∈ l, p.Ok) (hmax : l.length ≤ 1000000) :
  Calls Tryz.prog 108 #[.slice A l.length c] w fun e w' => e = .returned (.int .i64 (sizeR l)) ∧ Below w.heap.size w w' := by
 have P := Lib.hid hp
 have OK := Lib.hid hok
 have B0 := Lib.hid (Below.refl w.heap.size w)
 clear hp hok
 go_enter Tryz.func108, Tryz.ntmps108
 go_wp2
 go_loopw [3, 8] (fun s i wr => ∃ (j : Nat) (q : Int), j ≤ l.length ∧ i = .int .i64 (j : Int) ∧ s = .int .i64 q ∧ Hid (q = sizeR (l.take j)) ∧ Below w.heap.size w wr) (fun _ i _ => l.length - (intOf i).toNat)
 case atStart => exact ⟨0, 0, Nat.zero_le _, rfl, rfl, Lib.hid rfl, B0.out⟩
 case round =>
  clear B0
  obtain ⟨j, q, hj, rfl, rfl, hq, hb⟩ := hrel
  have HB := Lib.hid hb
  have hgs : w.heap.size ≤ wr.heap.size := hb.size
  have P1 := Lib.hid (P.out.new hb)
  clear hb
  by_cases hlt : j < l.length
  ·have hlt' : (j : Int) < (l.length : Int) := by omega
   have j0 : (0 : Int) ≤ (j : Int) := by omega
   have xj := IntWalk.i64_in ((j : Int) + 1) (by omega)
   obtain ⟨b, o, rfl, hbl, hr⟩ := P1.out j hlt
   have LD := Lib.hid (show wr.rangeAt b (o + j * 3) [.int .i64 l[j].frame, .int .i64 l[j].off, .int .i64 l[j].len] from hr)
   have hs := sizeR_succ hlt
   obtain ⟨q0, q1⟩ := sizeR_ends (l.take j)
   obtain ⟨q2, q3⟩ := sizeR_ends (l.take (j + 1))
   rw [← hq.out] at hs q0 q1
   have HS := Lib.hid hs
   have hx1 : IntKind.i64.wrap (1048576 - q) = 1048576 - q := IntWalk.i64_in _ (by omega)
   have hx2 : IntKind.i64.wrap (q + min (max l[j].len 0) (1048576 - q)) = q + min (max l[j].len 0) (1048576 - q) := IntWalk.i64_in _ (by omega)
   generalize l[j].frame = qf at *
   generalize l[j].off = qo at *
   generalize l[j].len = qn at *
   clear hr hs hq
   go_wp2_with (first
    | (refine wpList_load_mid rfl 175 (.tmp 10) rfl b (o + j * 3) rfl _ _ LD.out Tryz.underlying175 rfl piece_info ?_)
    | fail)
   refine ⟨⟨j + 1, _, by omega, by simp, rfl, Lib.hid ?_, ?_⟩, by simp [intOf]; omega⟩
   ·rw [HS.out]
    repeat' split
    all_goals omega
   ·exact HB.out.trans (((Below.refl wr.heap.size wr).alloc (Nat.le_refl _) _).mono hgs)
  ·have hge : ¬ (j : Int) < (l.length : Int) := by omega
   obtain rfl : j = l.length := by omega
   have e := hq.out
   rw [List.take_length] at e
   have E := Lib.hid e
   clear e hq
   go_wp2
   go_ret
   exact ⟨by rw [E.out]; rfl, HB.out⟩
end Go.Proofs.YtbkjjakkihbcdaaGreat

/- Package gather: Cut. Conditions: those that each states. -/
namespace Go.Proofs.YtbkjjakkihbcdaaGreat
open Go.ChangeShapes Go.WideShapes Go.ChangeAt Go.RowKit Go.Deep
set_option linter.unusedVariables false

theorem pcs_infos : (Tryz.prog.info? 175).map (fun i => (i.zero.map (·.cells.size), i.size, i.bytes)) = some (some 3, 3, 24) := by kernel_rfl
theorem pcs_info : ∃ i0 z, Tryz.prog.info? 175 = some i0 ∧ i0.zero = some z ∧ i0.size = 3 ∧ i0.bytes = 24 ∧ z.cells.size = 3 := by
 obtain ⟨i, hi, hs⟩ := Option.map_eq_some_iff.1 pcs_infos
 simp only [Prod.mk.injEq] at hs
 obtain ⟨h0, h1, h2⟩ := hs
 obtain ⟨z, hz, hzs⟩ := Option.map_eq_some_iff.1 h0
 exact ⟨i, z, hi, hz, h1, h2, hzs⟩
end Go.Proofs.YtbkjjakkihbcdaaGreat

/- A table of frames in memory: each frame is 258 cells: owner, holds, 256 bytes. Conditions: those that each states. -/
namespace Go.Proofs.YtbkjjakkihbcdaaGreat
open Go.ChangeShapes Go.WideShapes Go.ChangeAt Go.RowKit Go.Deep
set_option linter.unusedVariables false

structure Pg where
 owner : Nat
 holds : Nat
 text : List UInt8
structure Pg.Ok (p : Pg) : Prop where
 o : p.owner ≤ 2
 h : p.holds ≤ 1000000
 t : p.text.length = 256
def Pg.blank : Pg := ⟨0, 0, List.replicate 256 0⟩
theorem Pg.blank_ok : Pg.blank.Ok := ⟨Nat.zero_le _, Nat.zero_le _, List.length_replicate⟩
def Pg.cells (p : Pg) : List Value := .int .i64 (p.owner : Int) :: .int .i64 (p.holds : Int) :: bys p.text
theorem Pg.Ok.len {p : Pg} (h : p.Ok) : p.cells.length = 258 := by simp [Pg.cells, bys_length, h.t]
theorem Pg.cell0 (p : Pg) : p.cells[0]? = some (.int .i64 (p.owner : Int)) := rfl
theorem Pg.cell1 (p : Pg) : p.cells[1]? = some (.int .i64 (p.holds : Int)) := rfl
theorem Pg.cell2 (p : Pg) (j : Nat) : p.cells[2 + j]? = (bys p.text)[j]? := by
 rw [show 2 + j = j + 1 + 1 by omega]; rfl

structure TabAt (E T : TypeId) (w : World) (gs g : Nat) (ps : List Pg) : Prop where
 lt : gs < g
 n1 : 1 ≤ ps.length
 n2 : ps.length ≤ 256
 head : Blk w g T #[.slice (some ⟨gs, 0, none⟩) ps.length ps.length]
 ok : ∀ p ∈ ps, p.Ok
 row : ∃ cs : Array Value, Blk w gs E cs ∧ cs.size = ps.length * 258 ∧ ∀ f (h : f < ps.length) i, i < 258 → cs[f * 258 + i]? = ps[f].cells[i]?
section
variable {E T : TypeId} {w w' : World} {gs g : Nat} {ps : List Pg} {S : Nat → Prop}
theorem TabAt.chg (h : TabAt E T w gs g ps) (k : Chg w w' S) (h1 : ¬ S gs) (h2 : ¬ S g) : TabAt E T w' gs g ps := by
 obtain ⟨cs, hb, hs, hc⟩ := h.row
 exact ⟨h.lt, h.n1, h.n2, h.head.chg k h2, h.ok, cs, hb.chg k h1, hs, hc⟩
theorem TabAt.new (h : TabAt E T w gs g ps) (k : Below w.heap.size w w') : TabAt E T w' gs g ps := h.chg (Chg.of_new k fun _ => False) id id
theorem TabAt.alloc (h : TabAt E T w gs g ps) (ob : Obj) : TabAt E T (w.alloc ob) gs g ps := h.new ((Below.refl _ w).alloc (Nat.le_refl _) ob)
theorem TabAt.drewN (h : TabAt E T w gs g ps) (n : Nat) : TabAt E T (w.drewN n) gs g ps := ⟨h.lt, h.n1, h.n2, h.head, h.ok, h.row⟩
theorem TabAt.drew (h : TabAt E T w gs g ps) : TabAt E T w.drew gs g ps := ⟨h.lt, h.n1, h.n2, h.head, h.ok, h.row⟩
theorem TabAt.at_ (h : TabAt E T w gs g ps) {f : Nat} (hf : f < ps.length) : ps[f].Ok := h.ok _ (List.getElem_mem hf)
theorem TabAt.cell (h : TabAt E T w gs g ps) {f : Nat} (hf : f < ps.length) {i : Nat} (hi : i < 258) : w.cell? ⟨gs, f * 258 + i, none⟩ = ps[f].cells[i]? := by
 obtain ⟨cs, hb, _, hc⟩ := h.row
 rw [hb.cell, hc f hf i hi]
theorem TabAt.owner (h : TabAt E T w gs g ps) {f : Nat} (hf : f < ps.length) : w.cell? ⟨gs, f * 258, none⟩ = some (.int .i64 (ps[f].owner : Int)) := by
 have := h.cell hf (i := 0) (by omega)
 rw [Nat.add_zero] at this
 exact this.trans (Pg.cell0 _)
theorem TabAt.holds (h : TabAt E T w gs g ps) {f : Nat} (hf : f < ps.length) : w.cell? ⟨gs, f * 258 + 1, none⟩ = some (.int .i64 (ps[f].holds : Int)) := (h.cell hf (i := 1) (by omega)).trans (Pg.cell1 _)
theorem TabAt.thaw (h : TabAt E T w gs g ps) (i : Nat) : w.frozen? ⟨gs, i, none⟩ = false := by
 obtain ⟨cs, hb, _⟩ := h.row
 exact hb.frozen i
theorem TabAt.blk (h : TabAt E T w gs g ps) : gs < w.heap.size := by
 obtain ⟨cs, hb, _⟩ := h.row
 exact hb.lt
theorem TabAt.bytes (h : TabAt E T w gs g ps) {f : Nat} (hf : f < ps.length) {off n c : Nat} (hn : off + n ≤ 256) (hc : n ≤ c) (hm : c ≤ 256) : Src w (some ⟨gs, f * 258 + 2 + off, none⟩) n c ((ps[f].text.drop off).take n) := by
 have ht := (h.at_ hf).t
 have hl : ((ps[f].text.drop off).take n).length = n := by simp; omega
 refine ⟨⟨fun hp => ⟨gs, f * 258 + 2 + off, rfl, h.blk, fun j hj => ?_⟩, hl, hc, by omega⟩, fun e => by cases e⟩
 rw [bys_length, hl] at hj
 rw [show f * 258 + 2 + off + j = f * 258 + (2 + (off + j)) by omega, h.cell hf (by omega), Pg.cell2, bys_get (by omega)]
 simp [bys]

theorem TabAt.turn (h : TabAt E T w gs g ps) {f : Nat} (hf : f < ps.length) (p' : Pg) (ok' : p'.Ok) (hk : Chg w w' (fun k => k = gs)) {cs cs' : Array Value} (hb : Blk w gs E cs) (hb' : Blk w' gs E cs') (hs : cs'.size = cs.size)
  (hout : ∀ k, k < f * 258 ∨ f * 258 + 258 ≤ k → cs'[k]? = cs[k]?) (hin : ∀ i, i < 258 → cs'[f * 258 + i]? = p'.cells[i]?) : TabAt E T w' gs g (ps.set f p') := by
 obtain ⟨cs0, hb0, hs0, hc0⟩ := h.row
 obtain rfl : cs0 = cs := by
  have e : some (Obj.cells cs0 E (0, 0)) = some (.cells cs E (0, 0)) := hb0.symm.trans hb
  injection e with e
  injection e
 refine ⟨h.lt, by simpa using h.n1, by simpa using h.n2, ?_, ?_, cs', hb', by simpa [hs] using hs0, ?_⟩
 ·rw [List.length_set]; exact h.head.chg hk (fun e => by have := h.lt; have e' : g = gs := e; omega)
 ·intro p hp
  rcases List.mem_or_eq_of_mem_set hp with h1 | rfl
  ·exact h.ok p h1
  ·exact ok'
 ·intro f' hf' i hi
  rw [List.length_set] at hf'
  by_cases e : f = f'
  ·subst e
   rw [hin i hi]; simp
  ·rw [List.getElem_set_ne e, hout _ (by omega), hc0 f' hf' i hi]
theorem TabAt.set (h : TabAt E T w gs g ps) {f : Nat} (hf : f < ps.length) {i : Nat} (hi : i < 258) (v : Value) (p' : Pg) (ok' : p'.Ok) (hc : p'.cells = ps[f].cells.set i v) :
  TabAt E T (w.setCell ⟨gs, f * 258 + i, none⟩ v) gs g (ps.set f p') := by
 obtain ⟨cs, hb, hs, hcs⟩ := h.row
 have hl := (h.at_ hf).len
 refine h.turn hf p' ok' (Chg.set _ _ _ rfl) hb (hb.put (f * 258 + i) v) (by simp) (fun k hk => ?_) (fun j hj => ?_)
 ·rw [Array.getElem?_setIfInBounds, if_neg (by omega)]
 ·rw [Array.getElem?_setIfInBounds, hc, List.getElem?_set]
  by_cases e : i = j
  ·subst e
   simp [show f * 258 + i < cs.size by omega, hl, hi]
  ·rw [if_neg (by omega), if_neg e, hcs f hf j hj]
theorem TabAt.seg (h : TabAt E T w gs g ps) {f : Nat} (hf : f < ps.length) {i : Nat} (vs : List Value) (hi : i + vs.length ≤ 258) (p' : Pg) (ok' : p'.Ok) (hc : p'.cells = ps[f].cells.take i ++ vs ++ ps[f].cells.drop (i + vs.length))
  {cs : Array Value} (hb : Blk w gs E cs) : f * 258 + i + vs.length ≤ cs.size ∧ TabAt E T (w.setRow gs (cs.toList.take (f * 258 + i) ++ vs ++ cs.toList.drop (f * 258 + i + vs.length)).toArray) gs g (ps.set f p') := by
 obtain ⟨cs0, hb0, hs, hcs⟩ := h.row
 obtain rfl : cs0 = cs := by
  have e : some (Obj.cells cs0 E (0, 0)) = some (.cells cs E (0, 0)) := hb0.symm.trans hb
  injection e with e
  injection e
 have hl := (h.at_ hf).len
 have hsz : f * 258 + i + vs.length ≤ cs0.size := by omega
 refine ⟨hsz, h.turn hf p' ok' (Chg.setRow _ _ rfl) hb (hb.row _) (by simp; omega) (fun k hk => ?_) (fun j hj => ?_)⟩
 ·simp only [List.getElem?_toArray, List.append_assoc]
  by_cases hk1 : k < f * 258 + i
  ·rw [List.getElem?_append_left (by simp; omega), List.getElem?_take, if_pos hk1]; simp
  ·have hk2 : f * 258 + i + vs.length ≤ k := by omega
   have hm : (cs0.toList.take (f * 258 + i)).length = f * 258 + i := by simp; omega
   rw [List.getElem?_append_right (by omega), hm, List.getElem?_append_right (by omega), List.getElem?_drop]
   rw [show f * 258 + i + vs.length + (k - (f * 258 + i) - vs.length) = k by omega]; simp
 ·rw [hc]
  simp only [List.getElem?_toArray, List.append_assoc]
  have hm : (cs0.toList.take (f * 258 + i)).length = f * 258 + i := by simp; omega
  have hm2 : (ps[f].cells.take i).length = i := by simp; omega
  by_cases hj1 : j < i
  ·rw [List.getElem?_append_left (by omega), List.getElem?_append_left (by omega), List.getElem?_take, if_pos (by omega), List.getElem?_take, if_pos hj1]
   simpa using hcs f hf j hj
  ·rw [List.getElem?_append_right (by omega), List.getElem?_append_right (l₁ := ps[f].cells.take i) (by omega), hm, hm2, show f * 258 + j - (f * 258 + i) = j - i by omega]
   by_cases hj2 : j - i < vs.length
   ·rw [List.getElem?_append_left hj2, List.getElem?_append_left hj2]
   ·rw [List.getElem?_append_right (by omega), List.getElem?_append_right (by omega), List.getElem?_drop, List.getElem?_drop]
    rw [show f * 258 + i + vs.length + (j - i - vs.length) = f * 258 + j by omega, show i + vs.length + (j - i - vs.length) = j by omega]
    simpa using hcs f hf j hj
end
end Go.Proofs.YtbkjjakkihbcdaaGreat

/- Package frame: what its small functions do. Conditions: those that each states. -/
namespace Go.Proofs.YtbkjjakkihbcdaaGreat.Fr
open Go.ChangeShapes Go.WideShapes Go.ChangeAt Go.RowKit Go.Deep
set_option linter.unusedVariables false

abbrev Tab (w : World) (gs g : Nat) (ps : List Pg) : Prop := TabAt 157 147 w gs g ps

def isE (env : Int) : Prop := env = 1 ∨ env = 2
theorem isEnv_yes (env : Int) (h : isE env) (w : World) :
  Calls Tryz.prog 64 #[.int .i64 env] w fun e w' => e = .returned (.bool true) ∧ w' = w := by
 have g1 : env ≥ 1 := by rcases h with h | h <;> omega
 have g2 : env ≤ 2 := by rcases h with h | h <;> omega
 clear h
 go_enter Tryz.func64, Tryz.ntmps64
 go_wp2
 go_ret
 exact ⟨rfl, rfl⟩
theorem isEnv_no (env : Int) (h : ¬ isE env) (w : World) :
  Calls Tryz.prog 64 #[.int .i64 env] w fun e w' => e = .returned (.bool false) ∧ w' = w := by
 by_cases g1 : env ≥ 1
 ·have g2 : ¬ env ≤ 2 := by intro g2; exact h (by unfold isE; omega)
  clear h
  go_enter Tryz.func64, Tryz.ntmps64
  go_wp2
  go_ret
  exact ⟨rfl, rfl⟩
 ·clear h
  go_enter Tryz.func64, Tryz.ntmps64
  go_wp2
  go_ret
  exact ⟨rfl, rfl⟩

def isIn (off n : Int) : Prop := 0 ≤ off ∧ 0 ≤ n ∧ off + n ≤ 256
theorem within_yes (off n : Int) (h : isIn off n) (w : World) :
  Calls Tryz.prog 67 #[.int .i64 off, .int .i64 n] w fun e w' => e = .returned (.bool true) ∧ w' = w := by
 obtain ⟨h1, h2, h3⟩ := h
 have g1 : off ≥ 0 := h1
 have g2 : n ≥ 0 := h2
 have x0 : IntKind.i64.wrap (256 - off) = 256 - off := IntWalk.i64_in _ (by omega)
 have g3 : n ≤ 256 - off := by omega
 clear h1 h2 h3
 go_enter Tryz.func67, Tryz.ntmps67
 go_wp2
 go_ret
 exact ⟨rfl, rfl⟩
theorem within_no (off n : Int) (w1 : -9223372036854775808 ≤ off ∧ off ≤ 9223372036854775807) (h : ¬ isIn off n) (w : World) :
  Calls Tryz.prog 67 #[.int .i64 off, .int .i64 n] w fun e w' => e = .returned (.bool false) ∧ w' = w := by
 by_cases g1 : off ≥ 0
 ·by_cases g2 : n ≥ 0
  ·have x0 : IntKind.i64.wrap (256 - off) = 256 - off := IntWalk.i64_in _ (by omega)
   have g3 : ¬ n ≤ 256 - off := by intro g3; exact h ⟨g1, g2, by omega⟩
   clear h w1
   go_enter Tryz.func67, Tryz.ntmps67
   go_wp2
   go_ret
   exact ⟨rfl, rfl⟩
  ·clear h w1
   go_enter Tryz.func67, Tryz.ntmps67
   go_wp2
   go_ret
   exact ⟨rfl, rfl⟩
 ·clear h w1
  go_enter Tryz.func67, Tryz.ntmps67
  go_wp2
  go_ret
  exact ⟨rfl, rfl⟩

section
variable {gs g : Nat} {ps : List Pg} {w : World}
theorem head_cell (h : Tab w gs g ps) : w.cell? ⟨g, 0, none⟩ = some (.slice (some ⟨gs, 0, none⟩) ps.length ps.length) := by
 have c0 := h.head.cell 0
 simpa using c0
theorem size_any (h : Tab w gs g ps) :
  Calls Tryz.prog 54 #[.pointer (some ⟨g, 0, none⟩)] w fun e w' => e = .returned (.int .i64 (ps.length : Int)) ∧ w' = w := by
 have c0 := head_cell h
 clear h
 go_enter Tryz.func54, Tryz.ntmps54
 go_wp2
 go_ret
 exact ⟨rfl, rfl⟩

def isF (ps : List Pg) (f : Int) : Prop := 0 ≤ f ∧ f < (ps.length : Int)
theorem has_yes (h : Tab w gs g ps) (f : Int) (hf : isF ps f) :
  Calls Tryz.prog 96 #[.pointer (some ⟨g, 0, none⟩), .int .i64 f] w fun e w' => e = .returned (.bool true) ∧ w' = w := by
 obtain ⟨g1, g2⟩ := hf
 have g1' : f ≥ 0 := g1
 have SZ := Lib.hid (size_any h)
 clear h
 go_enter Tryz.func96, Tryz.ntmps96
 go_wp2_with fail
 refine SZ.out.mono ?_; rintro e w1 ⟨rfl, rfl⟩
 go_wp2
 go_ret
 exact ⟨rfl, rfl⟩
theorem has_no (h : Tab w gs g ps) (f : Int) (hf : ¬ isF ps f) :
  Calls Tryz.prog 96 #[.pointer (some ⟨g, 0, none⟩), .int .i64 f] w fun e w' => e = .returned (.bool false) ∧ w' = w := by
 have SZ := Lib.hid (size_any h)
 clear h
 by_cases g1 : f ≥ 0
 ·have g2 : ¬ f < (ps.length : Int) := fun g2 => hf ⟨g1, g2⟩
  have G3 := Lib.hid (decide_eq_false g2)
  clear hf
  go_enter Tryz.func96, Tryz.ntmps96
  go_wp2_with fail
  refine SZ.out.mono ?_; rintro e w1 ⟨rfl, rfl⟩
  go_wp2
  go_ret
  refine ⟨?_, rfl⟩
  show Ending.returned (.bool (decide (f < (ps.length : Int)))) = _
  rw [G3.out]
 ·clear hf
  go_enter Tryz.func96, Tryz.ntmps96
  go_wp2
  go_ret
  exact ⟨rfl, rfl⟩
set_option maxRecDepth 100000 in
theorem owner_yes (h : Tab w gs g ps) (f : Nat) (hf : f < ps.length) :
  Calls Tryz.prog 57 #[.pointer (some ⟨g, 0, none⟩), .int .i64 (f : Int)] w fun e w' => e = .returned (.int .i64 (ps[f].owner : Int)) ∧ w' = w := by
 have c0 := head_cell h
 have c1 := h.owner hf
 have n2 := h.n2
 have HS := Lib.hid (has_yes h f ⟨by omega, by omega⟩)
 have g1 : (0 : Int) ≤ (f : Int) := by omega
 have g2 : (f : Int) < (ps.length : Int) := by omega
 generalize (ps[f].owner : Int) = v at *
 clear h
 go_enter Tryz.func57, Tryz.ntmps57
 go_wp2_with fail
 refine HS.out.mono ?_; rintro e w1 ⟨rfl, rfl⟩
 go_wp2
 go_ret
 exact ⟨rfl, rfl⟩
theorem owner_no (h : Tab w gs g ps) (f : Int) (hf : ¬ isF ps f) :
  Calls Tryz.prog 57 #[.pointer (some ⟨g, 0, none⟩), .int .i64 f] w fun e w' => e = .returned (.int .i64 0) ∧ w' = w := by
 have HS := Lib.hid (has_no h f hf)
 clear h hf
 go_enter Tryz.func57, Tryz.ntmps57
 go_wp2_with fail
 refine HS.out.mono ?_; rintro e w1 ⟨rfl, rfl⟩
 go_wp2
 go_ret
 exact ⟨rfl, rfl⟩
set_option maxRecDepth 100000 in
theorem holds_yes (h : Tab w gs g ps) (f : Nat) (hf : f < ps.length) :
  Calls Tryz.prog 58 #[.pointer (some ⟨g, 0, none⟩), .int .i64 (f : Int)] w fun e w' => e = .returned (.int .i64 (ps[f].holds : Int)) ∧ w' = w := by
 have c0 := head_cell h
 have c1 := h.holds hf
 have n2 := h.n2
 have HS := Lib.hid (has_yes h f ⟨by omega, by omega⟩)
 have g1 : (0 : Int) ≤ (f : Int) := by omega
 have g2 : (f : Int) < (ps.length : Int) := by omega
 generalize (ps[f].holds : Int) = v at *
 clear h
 go_enter Tryz.func58, Tryz.ntmps58
 go_wp2_with fail
 refine HS.out.mono ?_; rintro e w1 ⟨rfl, rfl⟩
 go_wp2
 go_ret
 exact ⟨rfl, rfl⟩
theorem holds_no (h : Tab w gs g ps) (f : Int) (hf : ¬ isF ps f) :
  Calls Tryz.prog 58 #[.pointer (some ⟨g, 0, none⟩), .int .i64 f] w fun e w' => e = .returned (.int .i64 0) ∧ w' = w := by
 have HS := Lib.hid (has_no h f hf)
 clear h hf
 go_enter Tryz.func58, Tryz.ntmps58
 go_wp2_with fail
 refine HS.out.mono ?_; rintro e w1 ⟨rfl, rfl⟩
 go_wp2
 go_ret
 exact ⟨rfl, rfl⟩
end
end Go.Proofs.YtbkjjakkihbcdaaGreat.Fr

/- Package frame: cuts of a frame's bytes, copies into them, bytes.Clone, texts as bytes and back; the frame that a call names. Conditions: those that each states. -/
namespace Go.Proofs.YtbkjjakkihbcdaaGreat.Fr
open Go.ChangeShapes Go.WideShapes Go.ChangeAt Go.RowKit Go.Deep
set_option linter.unusedVariables false

theorem wpList_copy_row {P : Program} {w : World} {ops : Array Oper} {rest : List Oper} {o : Oper} {a : Act} {Q : Exit → Act → World → Prop} (hgd : o.guard = none) (d s : Operand) (dT sT : TypeId)
  (ho : o.op = .call { callee := .builtin .copy, args := #[d, s], argTypes := #[dT, sT] }) (elem : TypeId) (hu : P.underlying dT = some (.slice elem)) (hsz : (P.info? elem).map (·.size) = some 1)
  (dp sp : Option Addr) (dLen dCap sLen sCap : Nat) (hd : a.eval d = .slice dp dLen dCap) (hs : a.eval s = .slice sp sLen sCap)
  (g off : Nat) (cur : Array Value) (t : TypeId) (hg : Blk w g t cur) (cs : List Value) (hn : cs.length = Nat.min sLen dLen)
  (hpos : 0 < cs.length → dp = some ⟨g, off, none⟩ ∧ ∃ ad, sp = some ad ∧ ∀ j v, cs[j]? = some v → w.cell? (ad.add j) = some v)
  (hfit : off + cs.length ≤ cur.size) (h1 : ∀ v ∈ cs, v.oneCell' = true)
  (h : wpList P ops Q rest (a.put o.dst (goInt cs.length)) (w.setRow g (cur.toList.take off ++ cs ++ cur.toList.drop (off + cs.length)).toArray)) :
  wpList P ops Q (o :: rest) a w := by
 by_cases h0 : cs.length = 0
 ·obtain rfl : cs = [] := List.eq_nil_of_length_eq_zero h0
  refine wpList_copy_nothing hgd d s dT sT ho elem hu hsz dp sp dLen dCap sLen sCap hd hs (by simpa using hn.symm) ?_
  have e : w.setRow g (cur.toList.take off ++ [] ++ cur.toList.drop (off + ([] : List Value).length)).toArray = w := by
   simp only [List.append_nil, List.length_nil, Nat.add_zero, List.take_append_drop, Array.toArray_toList]
   exact setRow_self w g cur t (0, 0) hg
  rw [e] at h
  exact h
 ·obtain ⟨rfl, ad, rfl, hsrc⟩ := hpos (by omega)
  refine wpList_copy_own hgd d s dT sT ho elem hu hsz g off dLen dCap ad sLen sCap hd hs cur t hg cs hn hsrc hfit h1 ?_
  rw [← List.append_assoc]
  exact h

theorem u8_size : (Tryz.prog.info? 5).map (·.size) = some 1 := by kernel_rfl
theorem page_size : (Tryz.prog.info? 157).map (·.size) = some 258 := by kernel_rfl

def cutAt (a : Addr) (off : Nat) : Addr := if 256 = off then a else a.add (off * 1)
theorem arr_under : Tryz.prog.underlying 155 = some (.array (Tryz.prog.arrayLen 155) (Tryz.prog.elem 155)) := by kernel_rfl
theorem arr_len : Tryz.prog.arrayLen 155 = 256 := by kernel_rfl
theorem arr_elem : Tryz.prog.elem 155 = 5 := by kernel_rfl
theorem size_u8 (W : World) : (sizeOf 5).run Tryz.prog W = .ok 1 W := by
 obtain ⟨i, hi, hs⟩ := Option.map_eq_some_iff.1 u8_size
 simp [sizeOf, typeInfo, hi, hs]
theorem run_cut2 (a : Addr) (off n : Nat) (h : off + n ≤ 256) (W : World) :
  (Instr.sliceAt 155 (.pointer (some a)) (some (.int .i64 (off : Int))) (some (.int .i64 ((off : Int) + (n : Int)))) none).run Tryz.prog W = .ok (.slice (some (cutAt a off)) n (256 - off)) W := by
 rw [run_sliceAt_array_lh W 155 a arr_under .i64 .i64 (off : Int) ((off : Int) + (n : Int)) (by omega) (by omega) (by rw [arr_len]; omega), arr_elem, size_u8, arr_len]
 have e : ((off : Int) + (n : Int)).toNat - off = n := by omega
 simp only [Result.andThen_ok, slicedAt, cutAt, Int.toNat_natCast, e]
theorem run_cut1 (a : Addr) (off : Nat) (h : off ≤ 256) (W : World) :
  (Instr.sliceAt 155 (.pointer (some a)) (some (.int .i64 (off : Int))) none none).run Tryz.prog W = .ok (.slice (some (cutAt a off)) (256 - off) (256 - off)) W := by
 rw [run_sliceAt_array_l W 155 a arr_under .i64 (off : Int) (by omega) (by rw [arr_len]; omega), arr_elem, size_u8, arr_len]
 simp only [Result.andThen_ok, slicedAt, cutAt, Int.toNat_natCast]
theorem cutAt_lt {b o off : Nat} (h : off < 256) : cutAt ⟨b, o, none⟩ off = ⟨b, o + off, none⟩ := by
 unfold cutAt
 rw [if_neg (by omega), Nat.mul_one]
 unfold Addr.add; split <;> simp_all
theorem cut_src {w : World} {gs g : Nat} {ps : List Pg} (h : Tab w gs g ps) {f : Nat} (hf : f < ps.length) {off n : Nat} (hn : off + n ≤ 256) :
  Src w (some (cutAt ⟨gs, f * 258 + 2, none⟩ off)) n (256 - off) ((ps[f].text.drop off).take n) := by
 by_cases ho : off < 256
 ·rw [cutAt_lt ho]
  exact h.bytes hf hn (by omega) (by omega)
 ·have hn0 : n = 0 := by omega
  subst hn0
  exact ⟨⟨by simpa [bys] using lies_nil w _, by simp, by omega, by omega⟩, fun e => by cases e⟩

theorem clone_some (A : Addr) (n c : Nat) (l : List UInt8) (w : World) (hb : Src w (some A) n c l) (hn : n ≤ 1099511627776) :
  Calls Tryz.prog 47 #[.slice (some A) n c] w fun e w' => ∃ A' c', e = .returned (.slice A' n c') ∧ Src w' A' n c' l ∧ Below w.heap.size w w' := by
 have he : ∀ W, (binOp .eql 37 (.slice (some A) n c) (.slice none 0 0)).run Tryz.prog W = .ok (.bool (some A).isNone) W := fun W => Lib.run_eql_slice_nil W 37 5 (some A) n c 0 0 Tryz.underlying37
 have he := fun W => (he W).trans (congrArg (fun b => Result.ok (Value.bool b) W) (show (some A).isNone = false from rfl))
 have hown := World.ownsRow_lit (base := w.heap.size) (e := 5) (size := 1) w #[] 0 (Nat.le_refl _) (by decide) rfl
 have HB := Lib.hid hb
 clear hb
 go_enter Tryz.func47, Tryz.ntmps47
 go_wp2_with (at_builtin; refine Hid.out ?_)
 unfold Hid
 refine wpList_append_src rfl _ _ rfl w.heap.size _ 0 [] rfl hown (some A) n c l rfl (HB.out.alloc _) (by omega) (by simp) ?_
 intro v' w' h1 h2
 rw [Nat.zero_add] at h1
 have b2 := (Below.refl w.heap.size w).alloc (Nat.le_refl _) (.cells #[] 5) |>.trans h2
 obtain ⟨A', c', rfl, hs, hbs⟩ := src_of_own h1
 clear h1 h2 hown he
 go_wp2
 go_ret
 exact ⟨A', c', rfl, hs, b2⟩

theorem told_str {w : World} {A : Option Addr} {n c : Nat} {l : List UInt8} (hb : Src w A n c l) : (convert 37 9 (.slice A n c)).run Tryz.prog w = .ok (.string ⟨l.toArray⟩) w := by
 have hl := hb.len
 cases A with
 | none =>
  have hc := hb.none_ rfl
  have hn : n = 0 := by have := hb.cap; omega
  subst hn
  rw [List.length_eq_zero_iff.1 hl]
  exact run_convert_bytes_nil w 37 5 Tryz.underlying37 Tryz.underlying5 0 c 9 Tryz.underlying9
 | some ad =>
  subst hl
  exact run_convert_bytes_back w 37 9 5 ad c l Tryz.underlying37 Tryz.underlying5 Tryz.underlying9 fun j hj => by
   rw [Bytes.at_ ad hb.toBytes j _ (bys_get hj)]

instance (env : Int) : Decidable (isE env) := inferInstanceAs (Decidable (_ ∨ _))
instance (ps : List Pg) (f : Int) : Decidable (isF ps f) := inferInstanceAs (Decidable (_ ∧ _))
instance (off n : Int) : Decidable (isIn off n) := inferInstanceAs (Decidable (_ ∧ _))
def pg (ps : List Pg) (f : Int) : Pg := ps.getD f.toNat .blank
theorem pg_at {ps : List Pg} {k : Nat} (hk : k < ps.length) : pg ps (k : Int) = ps[k] := by simp [pg, hk]
def ownErr (ps : List Pg) (env f : Int) : Int := if isE env ∧ isF ps f then (if ((pg ps f).owner : Int) = env then 0 else 20) else 1
theorem ownErr_zero {ps : List Pg} {env f : Int} (h : ownErr ps env f = 0) : ∃ k, ∃ hk : k < ps.length, f = (k : Int) ∧ isE env ∧ (ps[k].owner : Int) = env := by
 unfold ownErr at h
 by_cases h1 : isE env ∧ isF ps f
 ·rw [if_pos h1] at h
  obtain ⟨a, b, c⟩ := h1
  obtain ⟨k, rfl⟩ : ∃ k : Nat, f = (k : Int) := ⟨f.toNat, by omega⟩
  have hk : k < ps.length := by omega
  rw [pg_at hk] at h
  by_cases h2 : (ps[k].owner : Int) = env
  ·exact ⟨k, hk, rfl, a, h2⟩
  ·rw [if_neg h2] at h; omega
 ·rw [if_neg h1] at h; omega
section
variable {gs g : Nat} {ps : List Pg} {w : World}
set_option maxRecDepth 100000 in
theorem owned_ok (h : Tab w gs g ps) (env : Int) (k : Nat) (hk : k < ps.length) (hE : isE env) (ho : (ps[k].owner : Int) = env) :
  Calls Tryz.prog 65 #[.pointer (some ⟨g, 0, none⟩), .int .i64 env, .int .i64 (k : Int)] w fun e w' => e = .returned (.tuple #[.pointer (some ⟨gs, k * 258, none⟩), .int .i64 0]) ∧ w' = w := by
 have c0 := head_cell h
 have c1 := h.owner hk
 rw [ho] at c1
 have n2 := h.n2
 have HE := Lib.hid (isEnv_yes env hE w)
 have HS := Lib.hid (has_yes h k ⟨by omega, by omega⟩)
 have g1 : (0 : Int) ≤ (k : Int) := by omega
 have g2 : (k : Int) < (ps.length : Int) := by omega
 clear h ho hE
 go_enter Tryz.func65, Tryz.ntmps65
 go_wp2_with fail
 refine HE.out.mono ?_; rintro e w1 ⟨rfl, rfl⟩
 go_wp2_with fail
 refine HS.out.mono ?_; rintro e w1 ⟨rfl, rfl⟩
 go_wp2
 go_ret2
 exact ⟨rfl, rfl⟩
set_option maxRecDepth 100000 in
theorem owned_no (h : Tab w gs g ps) (env f : Int) (he : ownErr ps env f ≠ 0) :
  Calls Tryz.prog 65 #[.pointer (some ⟨g, 0, none⟩), .int .i64 env, .int .i64 f] w fun e w' => e = .returned (.tuple #[.pointer none, .int .i64 (ownErr ps env f)]) ∧ w' = w := by
 by_cases hE : isE env
 ·have HE := Lib.hid (isEnv_yes env hE w)
  by_cases hF : isF ps f
  ·obtain ⟨k, rfl⟩ : ∃ k : Nat, f = (k : Int) := ⟨f.toNat, by have := hF.1; omega⟩
   have hk : k < ps.length := by have := hF.2; omega
   have ho : ¬ (ps[k].owner : Int) = env := by
    intro e
    apply he
    unfold ownErr
    rw [if_pos ⟨hE, hF⟩, pg_at hk, if_pos e]
   have e20 : ownErr ps env k = 20 := by
    unfold ownErr
    rw [if_pos ⟨hE, hF⟩, pg_at hk, if_neg ho]
   have c0 := head_cell h
   have c1 := h.owner hk
   have n2 := h.n2
   have HS := Lib.hid (has_yes h k hF)
   have g1 : (0 : Int) ≤ (k : Int) := by omega
   have g2 : (k : Int) < (ps.length : Int) := by omega
   have ho' : ((ps[k].owner : Int) == env) = false := by simpa using ho
   rw [e20]
   generalize (ps[k].owner : Int) = v at *
   clear h hE he hF e20
   go_enter Tryz.func65, Tryz.ntmps65
   go_wp2_with fail
   refine HE.out.mono ?_; rintro e w1 ⟨rfl, rfl⟩
   go_wp2_with fail
   refine HS.out.mono ?_; rintro e w1 ⟨rfl, rfl⟩
   go_wp2
   go_ret2
   exact ⟨rfl, rfl⟩
  ·have e1 : ownErr ps env f = 1 := by
    unfold ownErr
    rw [if_neg (fun x => hF x.2)]
   have HS := Lib.hid (has_no h f hF)
   rw [e1]
   clear h hE he hF e1
   go_enter Tryz.func65, Tryz.ntmps65
   go_wp2_with fail
   refine HE.out.mono ?_; rintro e w1 ⟨rfl, rfl⟩
   go_wp2_with fail
   refine HS.out.mono ?_; rintro e w1 ⟨rfl, rfl⟩
   go_wp2
   go_ret2
   exact ⟨rfl, rfl⟩
 ·have HE := Lib.hid (isEnv_no env hE w)
  have e1 : ownErr ps env f = 1 := by
   unfold ownErr
   rw [if_neg (fun x => hE x.1)]
  rw [e1]
  clear h hE he e1
  go_enter Tryz.func65, Tryz.ntmps65
  go_wp2_with fail
  refine HE.out.mono ?_; rintro e w1 ⟨rfl, rfl⟩
  go_wp2
  go_ret2
  exact ⟨rfl, rfl⟩
def isH (ps : List Pg) (f : Int) : Prop := isF ps f ∧ (pg ps f).holds ≠ 0
instance (ps : List Pg) (f : Int) : Decidable (isH ps f) := inferInstanceAs (Decidable (_ ∧ _))
set_option maxRecDepth 100000 in
theorem held_ok (h : Tab w gs g ps) (k : Nat) (hk : k < ps.length) (hh : ps[k].holds ≠ 0) :
  Calls Tryz.prog 105 #[.pointer (some ⟨g, 0, none⟩), .int .i64 (k : Int)] w fun e w' => e = .returned (.tuple #[.pointer (some ⟨gs, k * 258, none⟩), .int .i64 0]) ∧ w' = w := by
 have c0 := head_cell h
 have n2 := h.n2
 have HS := Lib.hid (holds_yes h k hk)
 have g1 : (0 : Int) ≤ (k : Int) := by omega
 have g2 : (k : Int) < (ps.length : Int) := by omega
 have hv : ((ps[k].holds : Int) == 0) = false := by simpa using hh
 generalize (ps[k].holds : Int) = v at *
 clear h hh
 go_enter Tryz.func105, Tryz.ntmps105
 go_wp2_with fail
 refine HS.out.mono ?_; rintro e w1 ⟨rfl, rfl⟩
 go_wp2
 go_ret2
 exact ⟨rfl, rfl⟩
theorem held_no (h : Tab w gs g ps) (f : Int) (hh : ¬ isH ps f) :
  Calls Tryz.prog 105 #[.pointer (some ⟨g, 0, none⟩), .int .i64 f] w fun e w' => e = .returned (.tuple #[.pointer none, .int .i64 1]) ∧ w' = w := by
 have HS : Hid (Calls Tryz.prog 58 #[.pointer (some ⟨g, 0, none⟩), .int .i64 f] w fun e w' => e = .returned (.int .i64 0) ∧ w' = w) := by
  by_cases hF : isF ps f
  ·obtain ⟨k, rfl⟩ : ∃ k : Nat, f = (k : Int) := ⟨f.toNat, by have := hF.1; omega⟩
   have hk : k < ps.length := by have := hF.2; omega
   have h0 : ps[k].holds = 0 := by
    by_cases e : ps[k].holds = 0
    ·exact e
    ·exact absurd ⟨hF, by rw [pg_at hk]; exact e⟩ hh
   have := holds_yes h k hk
   rw [h0] at this
   exact Lib.hid this
  ·exact Lib.hid (holds_no h f hF)
 clear h hh
 go_enter Tryz.func105, Tryz.ntmps105
 go_wp2_with fail
 refine HS.out.mono ?_; rintro e w1 ⟨rfl, rfl⟩
 go_wp2
 go_ret2
 exact ⟨rfl, rfl⟩
end
end Go.Proofs.YtbkjjakkihbcdaaGreat.Fr

/- slices.Clone of programs and of lists of pieces, bytes.Clone; slices.IndexFunc and slices.Delete of filters. Conditions: those that each states. -/
namespace Go.Proofs.YtbkjjakkihbcdaaGreat.Ke
open Go.ChangeShapes Go.WideShapes Go.ChangeAt Go.RowKit Go.Deep Di
set_option linter.unusedVariables false

def Fresh (w : World) (A : Option Addr) (n : Nat) : Prop := 0 < n → ∀ b o, A = some ⟨b, o, none⟩ → w.heap.size ≤ b

theorem ops_infos : (Tryz.prog.info? 107).map (fun i => (i.zero.map (·.cells.size), i.size, i.bytes)) = some (some 4, 4, 32) := by kernel_rfl
theorem ops_info : ∃ i0 z, Tryz.prog.info? 107 = some i0 ∧ i0.zero = some z ∧ i0.size = 4 ∧ i0.bytes = 32 ∧ z.cells.size = 4 := by
 obtain ⟨i, hi, hs⟩ := Option.map_eq_some_iff.1 ops_infos
 simp only [Prod.mk.injEq] at hs
 obtain ⟨h0, h1, h2⟩ := hs
 obtain ⟨z, hz, hzs⟩ := Option.map_eq_some_iff.1 h0
 exact ⟨i, z, hi, hz, h1, h2, hzs⟩

theorem clone_prg (A : Option Addr) (c : Nat) (p : List Ins) (w : World) (hp : Prg w A p) (hn : A = none → p = [] ∧ c = 0) (hmax : p.length ≤ 1000000) :
  Calls Tryz.prog 72 #[.slice A p.length c] w fun e w' => ∃ A' c', e = .returned (.slice A' p.length c') ∧ Prg w' A' p ∧ Fresh w A' p.length ∧ Below w.heap.size w w' := by
 obtain ⟨i0, z0, hi, hz, hsz, hby, hzs⟩ := ops_info
 have HP := Lib.hid hp
 have HN := Lib.hid hn
 have INF := Lib.hid (And.intro hi (And.intro hz (And.intro hsz (And.intro hby hzs))))
 cases A with
 | none =>
  obtain ⟨rfl, rfl⟩ := hn rfl
  have he : ∀ W, (binOp .eql 42 (.slice none 0 0) (.slice none 0 0)).run Tryz.prog W = .ok (.bool (none : Option Addr).isNone) W := fun W => Lib.run_eql_slice_nil W 42 107 none 0 0 0 0 Tryz.underlying42
  have he := fun W => (he W).trans (congrArg (fun b => Result.ok (Value.bool b) W) (show (none : Option Addr).isNone = true from rfl))
  clear hn hp hi hz hsz hby hzs
  have h0 : Calls Tryz.prog 72 #[.slice none 0 0] w fun e w' => e = .returned (.slice none 0 0) ∧ w' = w := by
   go_enter Tryz.func72, Tryz.ntmps72
   go_wp2
   go_ret
   exact ⟨rfl, rfl⟩
  refine h0.mono ?_
  rintro e w' ⟨rfl, rfl⟩
  exact ⟨none, 0, rfl, HP.out, fun h => absurd h (by decide), Below.refl _ _⟩
 | some ad =>
  have he : ∀ W, (binOp .eql 42 (.slice (some ad) p.length c) (.slice none 0 0)).run Tryz.prog W = .ok (.bool (some ad).isNone) W := fun W => Lib.run_eql_slice_nil W 42 107 (some ad) p.length c 0 0 Tryz.underlying42
  have he := fun W => (he W).trans (congrArg (fun b => Result.ok (Value.bool b) W) (show (some ad).isNone = false from rfl))
  have hown := World.ownsRow_lit (base := w.heap.size) (e := 107) (size := 4) w #[] 0 (Nat.le_refl _) (by decide) rfl
  clear hn hp hi hz hsz hby hzs
  go_enter Tryz.func72, Tryz.ntmps72
  go_wp2_with (at_builtin; refine Hid.out ?_)
  unfold Hid
  refine wpList_append_prg rfl _ _ 42 rfl w.heap.size 107 i0 z0 Tryz.underlying42 INF.out.1 INF.out.2.1 INF.out.2.2.1 INF.out.2.2.2.1 INF.out.2.2.2.2 _ [] rfl hown (some ad) c p rfl (HP.out.new ((Below.refl _ w).alloc (Nat.le_refl _) _)) HN.out (by simpa using hmax) (by simp) ?_
  intro v' w' h1 h2
  rw [List.nil_append] at h1
  have b2 := ((Below.refl w.heap.size w).alloc (Nat.le_refl _) (.cells #[] 107)).grown h2 (by simp) (fun k e => (hown.lt k e).1)
  obtain ⟨A', c', e1, h3⟩ := prg_of_owns h1
  have B2 := Lib.hid b2
  have H3 := Lib.hid h3
  have H4 := Lib.hid (show Fresh w A' p.length from fun h b o e => by
   rw [e1] at h1
   exact (h1.lt b (by rw [e]; rfl)).1)
  clear h1 h2 h3 b2 hown he
  subst e1
  go_wp2
  go_ret
  exact ⟨A', c', rfl, H3.out, H4.out, B2.out⟩

theorem owns_cap' {w : World} {B : Nat} {E : TypeId} {size n c : Nat} {A : Option Addr} {xs : List Value} (h : w.ownsRow B E size (.slice A n c) n xs) : n ≤ c := by
 rcases h.2 with ⟨e, e0⟩ | ⟨g, cap, cur, e, hg, hh, hc, r⟩
 ·cases e; omega
 ·cases e; exact hc
theorem clone_pcs (A : Option Addr) (c : Nat) (p : List Pc) (w : World) (hp : Pcs w A p) (hn : 0 < p.length) (hmax : p.length ≤ 1000000) :
  Calls Tryz.prog 79 #[.slice A p.length c] w fun e w' => ∃ A' c', e = .returned (.slice A' p.length c') ∧ Pcs w' A' p ∧ Fresh w A' p.length ∧ p.length ≤ c' ∧ Below w.heap.size w w' := by
 obtain ⟨i0, z0, hi, hz, hsz, hby, hzs⟩ := pcs_info
 obtain ⟨b0, o0, rfl, _, _⟩ := hp 0 hn
 have HP := Lib.hid hp
 have INF := Lib.hid (And.intro hi (And.intro hz (And.intro hsz (And.intro hby hzs))))
 have hc : ∀ j u, (flatP p)[j]? = some u → w.cell? ((⟨b0, o0, none⟩ : Addr).add j) = some u := by
  intro j u hu
  have hj := (List.getElem?_eq_some_iff.1 hu).1
  rw [flatP_length] at hj
  have e1 : j / 3 * 3 + j % 3 = j := by omega
  have e := flatP_at p (show j / 3 < p.length by omega) (show j % 3 < 3 by omega)
  rw [e1, hu] at e
  obtain ⟨b', o', e2, _, hr⟩ := hp (j / 3) (by omega)
  cases e2
  have := hr (j % 3) u e.symm
  have ea : (⟨b0, o0, none⟩ : Addr).add j = ⟨b0, o0 + j, none⟩ := by unfold Addr.add; split <;> simp_all
  rw [ea]
  rw [show o0 + j / 3 * 3 + j % 3 = o0 + j by omega] at this
  exact this
 have h1c : ∀ u ∈ flatP p, u.oneCell' = true := by
  intro u hu
  unfold flatP at hu
  rw [List.mem_flatten] at hu
  obtain ⟨r, hr, hu⟩ := hu
  obtain ⟨q, _, rfl⟩ := List.mem_map.1 hr
  exact one_pc q u hu
 have hold : ∀ (w2 : World), Below w.heap.size w w2 → ∀ j u, (flatP p)[j]? = some u → w2.cell? ((⟨b0, o0, none⟩ : Addr).add j) = some u := fun w2 hb j u hu => by
  have h0 := hc j u hu
  have hlt : ((⟨b0, o0, none⟩ : Addr).add j).block < w.heap.size := World.block_lt_of_cell? w _ h0
  rw [World.cell?_of_block (w := w) (hb.block _ hlt)]
  exact h0
 have HO := Lib.hid hold
 have H1 := Lib.hid h1c
 have he : ∀ W, (binOp .eql 43 (.slice (some ⟨b0, o0, none⟩) p.length c) (.slice none 0 0)).run Tryz.prog W = .ok (.bool (some (⟨b0, o0, none⟩ : Addr)).isNone) W := fun W => Lib.run_eql_slice_nil W 43 175 _ p.length c 0 0 Tryz.underlying43
 have he := fun W => (he W).trans (congrArg (fun b => Result.ok (Value.bool b) W) (show (some (⟨b0, o0, none⟩ : Addr)).isNone = false from rfl))
 have hown := World.ownsRow_lit (base := w.heap.size) (e := 175) (size := 3) w #[] 0 (Nat.le_refl _) (by decide) rfl
 clear hp hi hz hsz hby hzs hc h1c hold
 go_enter Tryz.func79, Tryz.ntmps79
 go_wp2_with (at_builtin; refine Hid.out ?_)
 unfold Hid
 refine wpList_append_lies _ rfl _ _ 43 rfl w.heap.size 175 i0 z0 3 24 Tryz.underlying43 INF.out.1 INF.out.2.1 INF.out.2.2.1 INF.out.2.2.2.1 INF.out.2.2.2.2 (by decide) _ 0 [] rfl hown ⟨b0, o0, none⟩ p.length c (flatP p) rfl (flatP_length p) (HO.out _ ((Below.refl _ w).alloc (Nat.le_refl _) _)) H1.out hn (by unfold maxLen; omega) (by omega) (by simp) (w.heap.size + 1) (by simp) ?_
 intro g cap w1 hown1 hgrow hat hlg
 rw [List.nil_append, Nat.zero_add] at hown1
 have hcap := owns_cap' hown1
 have b2 := ((Below.refl w.heap.size w).alloc (Nat.le_refl _) (.cells #[] 175)).grown hgrow (by simp) (fun k e => (hown.lt k e).1)
 obtain ⟨A', c', e1, h3⟩ := pcs_of_owns hown1
 cases e1
 have B2 := Lib.hid b2
 have H3 := Lib.hid h3
 have H4 := Lib.hid (show Fresh w (some ⟨g, 0, none⟩) p.length from fun h b o e => (hown1.lt b (by rw [e]; rfl)).1)
 have HC := Lib.hid hcap
 clear hown1 hgrow hat h3 b2 hown he hcap
 rw [Nat.zero_add]
 go_wp2
 go_ret
 exact ⟨_, _, rfl, H3.out, H4.out, HC.out, B2.out⟩

theorem clone_bytes (A : Option Addr) (n c : Nat) (l : List UInt8) (w : World) (hb : Src w A n c l) (hn : n ≤ 1099511627776) :
  Calls Tryz.prog 47 #[.slice A n c] w fun e w' => ∃ A' c', e = .returned (.slice A' n c') ∧ Src w' A' n c' l ∧ Fresh w A' n ∧ Below w.heap.size w w' := by
 cases A with
 | none =>
  have hc := hb.none_ rfl
  have hm : n = 0 := by have := hb.cap; omega
  subst hc hm
  have he : ∀ W, (binOp .eql 37 (.slice none 0 0) (.slice none 0 0)).run Tryz.prog W = .ok (.bool (none : Option Addr).isNone) W := fun W => Lib.run_eql_slice_nil W 37 5 none 0 0 0 0 Tryz.underlying37
  have he := fun W => (he W).trans (congrArg (fun b => Result.ok (Value.bool b) W) (show (none : Option Addr).isNone = true from rfl))
  have HB := Lib.hid hb
  clear hb
  have h0 : Calls Tryz.prog 47 #[.slice none 0 0] w fun e w' => e = .returned (.slice none 0 0) ∧ w' = w := by
   go_enter Tryz.func47, Tryz.ntmps47
   go_wp2
   go_ret
   exact ⟨rfl, rfl⟩
  refine h0.mono ?_
  rintro e w' ⟨rfl, rfl⟩
  exact ⟨none, 0, rfl, HB.out, fun h => absurd h (by decide), Below.refl _ _⟩
 | some ad =>
  have he : ∀ W, (binOp .eql 37 (.slice (some ad) n c) (.slice none 0 0)).run Tryz.prog W = .ok (.bool (some ad).isNone) W := fun W => Lib.run_eql_slice_nil W 37 5 (some ad) n c 0 0 Tryz.underlying37
  have he := fun W => (he W).trans (congrArg (fun b => Result.ok (Value.bool b) W) (show (some ad).isNone = false from rfl))
  have hown := World.ownsRow_lit (base := w.heap.size) (e := 5) (size := 1) w #[] 0 (Nat.le_refl _) (by decide) rfl
  have HB := Lib.hid hb
  clear hb
  go_enter Tryz.func47, Tryz.ntmps47
  go_wp2_with (at_builtin; refine Hid.out ?_)
  unfold Hid
  refine wpList_append_src rfl _ _ rfl w.heap.size _ 0 [] rfl hown (some ad) n c l rfl (HB.out.alloc _) (by omega) (by simp) ?_
  intro v' w' h1 h2
  rw [Nat.zero_add] at h1
  have b2 := (Below.refl w.heap.size w).alloc (Nat.le_refl _) (.cells #[] 5) |>.trans h2
  obtain ⟨A', c', rfl, hs, hbs⟩ := src_of_own h1
  have HS := Lib.hid hs
  have HBS := Lib.hid hbs
  have B2 := Lib.hid b2
  clear h1 h2 hown he hs hbs b2
  go_wp2
  go_ret
  exact ⟨A', c', rfl, HS.out, fun _ b o e => HBS.out b o e, B2.out⟩
end Go.Proofs.YtbkjjakkihbcdaaGreat.Ke
