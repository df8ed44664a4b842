/- Package kern: Depart, Table, Disk, Owned. Conditions: those that each states. -/
import Derived.Test.YtbkjjakkihbcdaaGreatMAN
import Derived.Test.YtbkjjakkihbcdaaGreatMAA
import Derived.Test.YtbkjjakkihbcdaaGreatMAC
import Derived.Deep.Slices
import Derived.ChangeSame
namespace Go.Proofs.YtbkjjakkihbcdaaGreat.Ke
open Go.ChangeShapes Go.WideShapes Go.ChangeAt Go.RowKit Go.Deep Fr Di
set_option linter.unusedVariables false
theorem cnt_pos {l : List Pc} {p : Pc} (h : p ∈ l) : 0 < cnt l p.frame := List.countP_pos_iff.2 ⟨p, h, by simp⟩
theorem heldN_cons (t : Tr) (o : List Tr) (f : Int) : heldN (t :: o) f = cnt t.l f + heldN o f := by unfold heldN; rw [List.map_cons, List.sum_cons]
theorem heldN_mem {o : List Tr} {t : Tr} (h : t ∈ o) (f : Int) : cnt t.l f ≤ heldN o f := by
 induction o with
 | nil => cases h
 | cons u o ih =>
  rw [heldN_cons]
  rcases List.mem_cons.1 h with rfl | h1
  ·omega
  ·have := ih h1; omega
theorem Kn.Ok.held {K : Kn} (ok : K.Ok) {t : Tr} (ht : t ∈ K.out) {p : Pc} (hp : p ∈ t.l) : ∃ k, ∃ hk : k < K.ps.length, p.frame = (k : Int) ∧ cnt t.l p.frame ≤ K.ps[k].holds ∧ 0 < cnt t.l p.frame := by
 have hf := (ok.out t ht).fits p hp
 have h1 := hf.2.2.1
 have h2 := hf.2.2.2
 refine ⟨p.frame.toNat, by omega, by omega, ?_, cnt_pos hp⟩
 rw [ok.holds _ (by omega), show ((p.frame.toNat : Nat) : Int) = p.frame by omega]
 exact heldN_mem ht _
theorem Kn.Ok.gets {K : Kn} (ok : K.Ok) {t : Tr} (ht : t ∈ K.out) : fetchG K.ps t.l = (gatherB (txt K.ps) t.l, 0) := by
 unfold fetchG
 rw [if_pos]
 intro p hp
 obtain ⟨k, hk, e, h1, h2⟩ := ok.held ht hp
 have hf := (ok.out t ht).fits p hp
 have hin := hf.2.1
 unfold Pc.In at hin
 refine ⟨⟨⟨hf.2.2.1, hf.2.2.2⟩, ?_⟩, ⟨hin.1, hin.2.2.1, hin.2.2.2.2⟩⟩
 rw [e, pg_at hk]
 omega
theorem Kn.Ok.drops {K : Kn} (ok : K.Ok) {t : Tr} (ht : t ∈ K.out) : dropG K.ps t.l = (dropN K.ps t.l, 0) := by
 unfold dropG
 rw [if_pos]
 intro p hp
 obtain ⟨k, hk, e, h1, h2⟩ := ok.held ht hp
 have hf := (ok.out t ht).fits p hp
 refine ⟨⟨hf.2.2.1, hf.2.2.2⟩, ?_⟩
 rw [e, pg_at hk, ← e]
 exact h1
section
variable {w : World} {lab : Nat → Nat} {g : Nat} {K : Kn} {a : Ad}
theorem table_any (h : KAt w lab g K a) : Calls Tryz.prog 16 #[.pointer (some ⟨g, 0, none⟩)] w fun e w' => e = .returned (.pointer (some ⟨a.gt, 0, none⟩)) ∧ w' = w := by
 have c0 := (h.head.cell 0).trans (show _ = some (.pointer (some ⟨a.gt, 0, none⟩)) from rfl)
 clear h
 go_enter Tryz.func16, Tryz.ntmps16
 go_wp2
 go_ret
 exact ⟨rfl, rfl⟩
end
end Go.Proofs.YtbkjjakkihbcdaaGreat.Ke

/- A call to a kernel, and a slice of steps of one, that came in. Conditions: those that each states. -/
namespace Go.Proofs.YtbkjjakkihbcdaaGreat
open Go.ChangeShapes Go.WideShapes Go.ChangeAt Go.RowKit Go.Deep
set_option linter.unusedVariables false

theorem prg_of_trod {H : Type} {enc : TypeId × Value → H} {P : Program} {w : World} {t e : TypeId} {f0 f1 f2 f3 : Field} {fuel : Nat} {cs : List Value} {x : DataW H × List MemPlace} {held : Bool} (ht : P.underlying t = some (.slice e)) (he : P.underlying e = some (.struct #[f0, f1, f2, f3]))
  (ce : P.cellsOf e = 4) (o0 : f0.offset = 0) (o1 : f1.offset = 1) (o2 : f2.offset = 2) (o3 : f3.offset = 3)
  (c0 : P.cellsOf f0.type = 1) (c1 : P.cellsOf f1.type = 1) (c2 : P.cellsOf f2.type = 1) (c3 : P.cellsOf f3.type = 1)
  (u0 : P.underlying f0.type = some (.int .i64)) (u1 : P.underlying f1.type = some (.int .u32)) (u2 : P.underlying f2.type = some (.int .i64)) (u3 : P.underlying f3.type = some (.int .i64))
  (hf : DataW.trod enc P w 0 (fun _ => true) held fuel t cs = some x) : ∃ A c pr, cs = [.slice A (pr : List Ins).length c] ∧ Prg w A pr ∧ (∀ q ∈ pr, q.Ok) ∧ (A = none → pr = [] ∧ c = 0) := by
 rcases open_slice ht hf with ⟨hcs, _⟩ | ⟨x, n, c, m, k, D, Pl, hcs, _, hl, hm, hmm, _, hx⟩
 ·exact ⟨none, 0, [], hcs, fun i hi => absurd hi (by simp), fun q hq => (by cases hq), fun _ => ⟨rfl, rfl⟩⟩
 ·subst hcs
  simp only [if_true] at hmm
  obtain ⟨b, o, sp⟩ := x
  have each : ∀ i, i < n → ∃ q : Ins, sp = none ∧ b < w.heap.size ∧ w.rangeAt b (o + i * 4) q.list ∧ q.Ok := by
   intro i hi
   obtain ⟨cs', h1, h2⟩ := hx i (by omega)
   rw [ce] at h1
   obtain ⟨_, hlen, hcell⟩ := World.cells?_some h1
   obtain ⟨xs, k', hk, hxy, _, hxl, hff⟩ := DataW.trod_struct he h2
   match xs, hxl, cs', hlen with
   | [y0, y1, y2, y3], _, [v0, v1, v2, v3], _ =>
    have g0 := hff 0 f0 rfl
    have g1 := hff 1 f1 rfl
    have g2 := hff 2 f2 rfl
    have g3 := hff 3 f3 rfl
    simp [o0, o1, o2, o3, c0, c1, c2, c3] at g0 g1 g2 g3
    obtain ⟨z0, e0, _, w0⟩ := DataW.trod_int u0 g0
    obtain ⟨z1, e1, _, w1⟩ := DataW.trod_int u1 g1
    obtain ⟨z2, e2, _, w2⟩ := DataW.trod_int u2 g2
    obtain ⟨z3, e3, _, w3⟩ := DataW.trod_int u3 g3
    simp at e0 e1 e2 e3
    have hc : ∀ j, j < 4 → w.cell? ((⟨b, o, sp⟩ : Addr).add (i * 4 + j)) = ([v0, v1, v2, v3] : List Value)[j]? := by
     intro j hj
     have := hcell j (by simpa using hj)
     rw [add_add] at this
     rw [this]
    have hc0 := (hc 0 (by omega)).trans (show _ = some v0 from rfl)
    have hsp : sp = none := by
     obtain ⟨cs0, h10, _⟩ := hx 0 (by omega)
     rw [ce] at h10
     obtain ⟨_, hlen0, hcell0⟩ := World.cells?_some h10
     have := World.cell?_spot ((hcell0 0 (by omega)).trans (List.getElem?_eq_getElem (by omega)))
     simpa [Addr.add] using this
    subst hsp
    have ea : ∀ j, (⟨b, o, none⟩ : Addr).add j = ⟨b, o + j, none⟩ := fun j => by unfold Addr.add; split <;> simp_all
    have wu : 0 ≤ z1 ∧ z1 < 4294967296 := by
     have : 0 ≤ z1 ∧ z1 ≤ 4294967295 := by simpa [Lit.wf, IntKind.min, IntKind.max, IntKind.signed, IntKind.bits] using w1
     omega
    refine ⟨⟨z0, z1, z2, z3⟩, rfl, ?_, ?_, ⟨wf_i64 w0, wu, wf_i64 w2, wf_i64 w3⟩⟩
    ·rw [ea] at hc0
     unfold World.cell? at hc0
     cases hh : w.heap[b]? with
     | none => simp only [hh] at hc0; cases hc0
     | some ob => exact (Array.getElem?_eq_some_iff.1 hh).1
    ·intro j v hj
     have hj6 : j < 4 := (List.getElem?_eq_some_iff.1 hj).1
     have := hc j hj6
     rw [ea, ← Nat.add_assoc] at this
     rw [this, ← hj, e0, e1, e2, e3]
     rfl
  obtain ⟨q, hq⟩ := choose_lt each
  have hl2 : ((List.range n).map q).length = n := by simp
  refine ⟨some ⟨b, o, sp⟩, c, (List.range n).map q, by rw [hl2], fun i hi => ?_, fun y hy => ?_, fun e => by cases e⟩
  ·rw [hl2] at hi
   obtain ⟨rfl, h1, h2, h3⟩ := hq i hi
   exact ⟨b, o, rfl, h1, by simpa using h2⟩
  ·obtain ⟨i, hi, rfl⟩ := List.mem_map.1 hy
   exact (hq i (List.mem_range.1 hi)).2.2.2

structure KC where
 op : Int
 env : Int
 a : Int
 b : Int
 c : Int
 s : ByteArray
 Ap : Option Addr
 cp : Nat
 p : List Ins
 Al : Option Addr
 cl : Nat
 l : List Pc
def KC.list (q : KC) : List Value := [.int .i64 q.op, .int .i64 q.env, .int .i64 q.a, .int .i64 q.b, .int .i64 q.c, .string q.s, .slice q.Ap q.p.length q.cp, .slice q.Al q.l.length q.cl]
structure KC.In (w : World) (q : KC) : Prop where
 a : -9223372036854775808 ≤ q.a ∧ q.a ≤ 9223372036854775807
 b : -9223372036854775808 ≤ q.b ∧ q.b ≤ 9223372036854775807
 c : -9223372036854775808 ≤ q.c ∧ q.c ≤ 9223372036854775807
 s : q.s.size ≤ maxLen
 p : Prg w q.Ap q.p
 pok : ∀ x ∈ q.p, x.Ok
 pn : q.Ap = none → q.p = [] ∧ q.cp = 0
 l : Pcs w q.Al q.l
 lok : ∀ x ∈ q.l, x.Ok
 ln : q.Al = none → q.l = [] ∧ q.cl = 0
theorem cells_int : Tryz.prog.cellsOf 3 = 1 := by kernel_rfl
theorem cells_str : Tryz.prog.cellsOf 9 = 1 := by kernel_rfl
theorem cells_prg : Tryz.prog.cellsOf 31 = 1 := by kernel_rfl
theorem cells_pcs : Tryz.prog.cellsOf 32 = 1 := by kernel_rfl
theorem cells_call : Tryz.prog.cellsOf 34 = 8 := by kernel_rfl
set_option maxRecDepth 100000 in
theorem call_of_trod {H : Type} {enc : TypeId × Value → H} {w : World} {fuel : Nat} {cs : List Value} {x : DataW H × List MemPlace} {held : Bool} (hl : cs.length = 8) (hf : DataW.trod enc Tryz.prog w 0 (fun _ => true) held fuel 34 cs = some x) :
  ∃ q : KC, cs = q.list ∧ q.In w := by
 obtain ⟨xs, k', hk, hxy, _, hxl, hff⟩ := DataW.trod_struct Tryz.underlying34 hf
 match xs, hxl, cs, hl with
 | [y0, y1, y2, y3, y4, y5, y6, y7], _, [v0, v1, v2, v3, v4, v5, v6, v7], _ =>
  have g0 := hff 0 _ rfl
  have g1 := hff 1 _ rfl
  have g2 := hff 2 _ rfl
  have g3 := hff 3 _ rfl
  have g4 := hff 4 _ rfl
  have g5 := hff 5 _ rfl
  have g6 := hff 6 _ rfl
  have g7 := hff 7 _ rfl
  simp [cells_int, cells_str, cells_prg, cells_pcs] at g0 g1 g2 g3 g4 g5 g6 g7
  obtain ⟨z0, e0, _, w0⟩ := DataW.trod_int Tryz.underlying3 g0
  obtain ⟨z1, e1, _, w1⟩ := DataW.trod_int Tryz.underlying3 g1
  obtain ⟨z2, e2, _, w2⟩ := DataW.trod_int Tryz.underlying3 g2
  obtain ⟨z3, e3, _, w3⟩ := DataW.trod_int Tryz.underlying3 g3
  obtain ⟨z4, e4, _, w4⟩ := DataW.trod_int Tryz.underlying3 g4
  obtain ⟨z5, e5, _, w5⟩ := DataW.trod_string Tryz.underlying9 g5
  obtain ⟨A6, c6, p6, e6, h61, h62, h63⟩ := prg_of_trod Tryz.underlying31 Tryz.underlying108 (by kernel_rfl) rfl rfl rfl rfl (by kernel_rfl) (by kernel_rfl) (by kernel_rfl) (by kernel_rfl) Tryz.underlying3 Tryz.underlying105 Tryz.underlying3 Tryz.underlying3 g6
  obtain ⟨A7, c7, l7, e7, h71, h72, h73⟩ := pcs_of_trod Tryz.underlying32 Tryz.underlying180 (by kernel_rfl) rfl rfl rfl (by kernel_rfl) (by kernel_rfl) (by kernel_rfl) Tryz.underlying3 Tryz.underlying3 Tryz.underlying3 g7
  simp at e0 e1 e2 e3 e4 e5 e6 e7
  subst e0 e1 e2 e3 e4 e5 e6 e7
  exact ⟨⟨z0, z1, z2, z3, z4, z5, A6, c6, p6, A7, c7, l7⟩, rfl, ⟨wf_i64 w2, wf_i64 w3, wf_i64 w4, w5, h61, h62, h63, h71, h72, h73⟩⟩
structure KAct where
 kind : Int
 q : KC
 s : ByteArray
instance : Inhabited KAct := ⟨⟨0, ⟨0, 0, 0, 0, 0, ⟨#[]⟩, none, 0, [], none, 0, []⟩, ⟨#[]⟩⟩⟩
def KAct.list (a : KAct) : List Value := .int .i64 a.kind :: a.q.list ++ [.string a.s]
def KActs (w : World) (A : Option Addr) (n : Nat) (fn : Nat → KAct) : Prop :=
 ∀ i, i < n → ∃ b o, A = some ⟨b, o, none⟩ ∧ b < w.heap.size ∧ w.rangeAt b (o + i * 10) (fn i).list ∧ (fn i).q.In w ∧ (fn i).s.size ≤ maxLen
set_option maxRecDepth 100000 in
theorem open_kacts {H : Type} {enc : TypeId × Value → H} {w : World} {base : Nat} {v : Value} {d : DataW H} {p : List MemPlace}
  (hv : Value.okWide Tryz.prog w .any base 22 v) (h : DataW.Trod enc Tryz.prog w 0 (fun _ => true) true 22 v d p) : ∃ A n c fn, v = .slice A n c ∧ KActs w A n fn := by
 have ce : Tryz.prog.cellsOf 36 = 10 := by kernel_rfl
 obtain ⟨a, n, c, rfl⟩ := okWide_slice Tryz.underlying22 hv
 refine ⟨a, n, c, ?_⟩
 obtain ⟨fuel, hf⟩ := h
 rcases open_slice Tryz.underlying22 hf with ⟨hcs, _⟩ | ⟨x, len, cap, m, k, D, Pl, hcs, _, hl, hm, hmm, _, hx⟩
 ·simp [Value.cells] at hcs
  obtain ⟨rfl, rfl, rfl⟩ := hcs
  exact ⟨fun _ => default, rfl, fun i hi => absurd hi (by omega)⟩
 ·simp [Value.cells] at hcs
  obtain ⟨rfl, rfl, rfl⟩ := hcs
  simp only [if_true] at hmm
  obtain ⟨b, o, sp⟩ := x
  have each : ∀ i, i < n → ∃ q : KAct, sp = none ∧ b < w.heap.size ∧ w.rangeAt b (o + i * 10) q.list ∧ q.q.In w ∧ q.s.size ≤ maxLen := by
   intro i hi
   obtain ⟨cs', h1, h2⟩ := hx i (by omega)
   rw [ce] at h1
   obtain ⟨_, hlen, hcell⟩ := World.cells?_some h1
   obtain ⟨xs, k', hk, hxy, _, hxl, hff⟩ := DataW.trod_struct Tryz.underlying36 h2
   match xs, hxl, cs', hlen with
   | [y0, y1, y2], _, [v0, v1, v2, v3, v4, v5, v6, v7, v8, v9], _ =>
    have g0 := hff 0 _ rfl
    have g1 := hff 1 _ rfl
    have g2 := hff 2 _ rfl
    simp [cells_int, cells_str, cells_call] at g0 g1 g2
    obtain ⟨z0, e0, _, w0⟩ := DataW.trod_int Tryz.underlying3 g0
    obtain ⟨q, e1, hq⟩ := call_of_trod rfl g1
    obtain ⟨z2, e2, _, w2⟩ := DataW.trod_string Tryz.underlying9 g2
    simp at e0 e2
    have hc : ∀ j, j < 10 → w.cell? ((⟨b, o, sp⟩ : Addr).add (i * 10 + j)) = ([v0, v1, v2, v3, v4, v5, v6, v7, v8, v9] : List Value)[j]? := by
     intro j hj
     have := hcell j (by simpa using hj)
     rw [add_add] at this
     rw [this]
    have hc0 := (hc 0 (by omega)).trans (show _ = some v0 from rfl)
    have hsp : sp = none := by
     obtain ⟨cs0, h10, _⟩ := hx 0 (by omega)
     rw [ce] at h10
     obtain ⟨_, hlen0, hcell0⟩ := World.cells?_some h10
     have := World.cell?_spot ((hcell0 0 (by omega)).trans (List.getElem?_eq_getElem (by omega)))
     simpa [Addr.add] using this
    subst hsp
    have ea : ∀ j, (⟨b, o, none⟩ : Addr).add j = ⟨b, o + j, none⟩ := fun j => by unfold Addr.add; split <;> simp_all
    refine ⟨⟨z0, q, z2⟩, rfl, ?_, ?_, hq, w2⟩
    ·rw [ea] at hc0
     unfold World.cell? at hc0
     cases hh : w.heap[b]? with
     | none => simp only [hh] at hc0; cases hc0
     | some ob => exact (Array.getElem?_eq_some_iff.1 hh).1
    ·have el : KAct.list ⟨z0, q, z2⟩ = [v0, v1, v2, v3, v4, v5, v6, v7, v8, v9] := by
      show .int .i64 z0 :: q.list ++ [.string z2] = _
      rw [← e1, e0, e2]
      rfl
     rw [el]
     intro j v hj
     have hj6 : j < 10 := (List.getElem?_eq_some_iff.1 hj).1
     have := hc j hj6
     rw [ea, ← Nat.add_assoc] at this
     rw [this, hj]
  obtain ⟨q, hq⟩ := choose_lt each
  exact ⟨q, rfl, fun i hi => by
   obtain ⟨rfl, h1, h2, h3, h4⟩ := hq i hi
   exact ⟨b, o, rfl, h1, h2, h3, h4⟩⟩
end Go.Proofs.YtbkjjakkihbcdaaGreat

/- The law's call as the program's. Conditions: those that each states. -/
namespace Go.Proofs.YtbkjjakkihbcdaaGreat.Ke
open Go.ChangeShapes Go.WideShapes Go.ChangeAt Go.RowKit Go.Deep Fr Di
set_option linter.unusedVariables false
def MadeF (w : World) (p : List Pc) (e : Ending) (w' : World) : Prop := ∃ A c, e = .returned (.slice A p.length c) ∧ (Pcs w' A p ∧ p.length ≤ c ∧ ∀ b, inB A b → w.heap.size ≤ b ∧ b < w'.heap.size) ∧ Below w.heap.size w w'
theorem owns_capF {w : World} {B : Nat} {E : TypeId} {size n c : Nat} {A : Option Addr} {xs : List Value} (h : w.ownsRow B E size (.slice A n c) n xs) : n ≤ c ∧ ∀ b, inB A b → B ≤ b ∧ b < w.heap.size :=
 ⟨(owns_cap h).1, fun b e => h.lt b (inB_own.2 e)⟩
set_option maxRecDepth 100000 in
set_option maxHeartbeats 2000000 in
theorem of_capF (A : Option Addr) (c : Nat) (p : List Pc) (w : World) (hp : Pcs w A p) (hmax : p.length ≤ 1000000) :
  Calls Tryz.prog 40 #[.slice A p.length c] w (MadeF w p) := by
 have P := Lib.hid hp
 have B0 := Lib.hid (Below.refl w.heap.size w)
 have O0 := Lib.hid (show w.ownsRow w.heap.size 175 3 (.slice none 0 0) 0 (flatP (p.take 0)) from World.ownsRow_nil w w.heap.size 175 3)
 obtain ⟨i0, z0, hi, hz, hsz, hby, hzs⟩ := pcs_info
 have INF := Lib.hid (And.intro hi (And.intro hz (And.intro hsz (And.intro hby hzs))))
 clear hp hi hz hsz hby hzs
 go_enter Tryz.func40, Tryz.ntmps40
 go_wp2
 go_loopw [3, 4] (fun out i wr => ∃ (j : Nat) (A' : Option Addr) (c' : Nat), j ≤ p.length ∧ i = .int .i64 (j : Int) ∧ out = .slice A' j c' ∧ wr.ownsRow w.heap.size 175 3 (.slice A' j c') j (flatP (p.take j)) ∧ Below w.heap.size w wr) (fun _ i _ => p.length - (intOf i).toNat)
 case atStart => exact ⟨0, none, 0, Nat.zero_le _, rfl, rfl, O0.out, B0.out⟩
 case round =>
  clear B0 O0
  obtain ⟨j, A', c', hj, rfl, rfl, ho, hb⟩ := hrel
  have HO := Lib.hid ho
  have HB := Lib.hid hb
  have hgs : w.heap.size ≤ wr.heap.size := hb.size
  have P1 := Lib.hid (P.out.new hb)
  clear hb ho
  by_cases hlt : j < p.length
  ·have hlt' : (j : Int) < (p.length : Int) := by omega
   have j0 : (0 : Int) ≤ (j : Int) := by omega
   have xj := IntWalk.i64_in ((j : Int) + 1) (by omega)
   obtain ⟨b, o, rfl, hbl, hr⟩ := P1.out j hlt
   have LD := Lib.hid (show wr.rangeAt b (o + j * 3) [.int .i64 p[j].frame, .int .i64 p[j].off, .int .i64 p[j].len] from hr)
   have HT := Lib.hid (show flatP (p.take (j + 1)) = flatP (p.take j) ++ [.int .i64 p[j].frame, .int .i64 p[j].off, .int .i64 p[j].len] from by
    rw [List.take_succ_eq_append_getElem hlt, flatP_snoc]; rfl)
   have H1 := Lib.hid (show ∀ u ∈ ([.int .i64 p[j].frame, .int .i64 p[j].off, .int .i64 p[j].len] : List Value), u.oneCell' = true from one_pc p[j])
   generalize flatP (p.take j) = fl at *
   generalize p[j].frame = qf at *
   generalize p[j].off = qo at *
   generalize p[j].len = qn at *
   clear hr
   go_wp2_with (first
    | (refine wpList_load_mid rfl 180 (.tmp 14) rfl b (o + j * 3) rfl _ _ LD.out Tryz.underlying180 rfl rpc_info ?_)
    | (at_builtin; refine Hid.out ?_)
    | fail)
   unfold Hid
   refine wpList_append_lies _ rfl (.tmp 11) (.tmp 16) 43 rfl w.heap.size 175 i0 z0 3 24 Tryz.underlying43 INF.out.1 INF.out.2.1 INF.out.2.2.1 INF.out.2.2.2.1 INF.out.2.2.2.2 (by decide) _ j fl rfl (HO.out.alloc _) ⟨wr.heap.size, 0, none⟩ 1 1 [.int .i64 qf, .int .i64 qo, .int .i64 qn] rfl rfl (World.news_of_block (Blk.new wr 175 _)) H1.out (by decide) (by unfold maxLen; omega) (by omega) (by simp; omega) (wr.heap.size + 1) (by simp) ?_
   intro g cap w1 hown hgrow hat hlg
   rw [← HT.out] at hown
   have HO1 := Lib.hid hown
   have hb1 := (HB.out.trans (((Below.refl wr.heap.size wr).alloc (Nat.le_refl _) (.cells #[.int .i64 qf, .int .i64 qo, .int .i64 qn] 175)).mono hgs)).grown hgrow (by simp; omega) (fun k e => (HO.out.lt k e).1)
   have HB1 := Lib.hid hb1
   clear hown hgrow hat hb1 HO HT H1
   go_wp2
   go_roundw
   case rel => exact ⟨j + 1, _, _, by omega, by simp, rfl, HO1.out, HB1.out⟩
   case measure => simp [intOf]; omega
  ·have hge : ¬ (j : Int) < (p.length : Int) := by omega
   obtain rfl : j = p.length := by omega
   have ho := HO.out
   rw [List.take_length] at ho
   have hcap := Lib.hid (owns_capF ho)
   obtain ⟨A2, c2, e2, hp2⟩ := pcs_of_owns ho
   cases e2
   have HP2 := Lib.hid hp2
   clear ho hp2
   go_wp2
   go_ret
   exact ⟨_, _, rfl, ⟨HP2.out, hcap.out⟩, HB.out⟩

def Capd (l : List Pc) (A : Option Addr) (c : Nat) : Prop := l.length ≤ c ∧ (l = [] → A = none ∧ c = 0)
def MadeG (w : World) (p : List Pc) (e : Ending) (w' : World) : Prop := ∃ A c, e = .returned (.slice A p.length c) ∧ (Pcs w' A p ∧ Capd p A c ∧ ∀ b, inB A b → w.heap.size ≤ b ∧ b < w'.heap.size) ∧ Below w.heap.size w w'
set_option maxRecDepth 100000 in
theorem of_capG (A : Option Addr) (c : Nat) (p : List Pc) (w : World) (hp : Pcs w A p) (hmax : p.length ≤ 1000000) :
  Calls Tryz.prog 40 #[.slice A p.length c] w (MadeG w p) := by
 by_cases e : p = []
 ·subst e
  have B0 := Lib.hid (Below.refl w.heap.size w)
  clear hp hmax
  go_enter Tryz.func40, Tryz.ntmps40
  go_wp2
  go_loopw [3, 4] (fun out i wr => out = .slice none 0 0 ∧ i = .int .i64 0 ∧ Hid (Below w.heap.size w wr)) (fun _ _ _ => 0)
  case atStart => exact ⟨rfl, rfl, B0⟩
  case round =>
   clear B0
   obtain ⟨rfl, rfl, HB⟩ := hrel
   go_wp2
   go_ret
   exact ⟨none, 0, rfl, ⟨fun i hi => absurd hi (by simp), ⟨Nat.le_refl _, fun _ => ⟨rfl, rfl⟩⟩, fun b e => by simp [inB] at e⟩, HB.out⟩
 ·exact (of_capF A c p w hp hmax).mono fun e' w' h => by
   obtain ⟨A', c', he, ⟨p1, p2, p3⟩, b⟩ := h
   exact ⟨A', c', he, ⟨p1, ⟨p2, fun h => absurd h e⟩, p3⟩, b⟩
theorem callz : (Tryz.prog.info? 45).map (fun i => (i.zero.map (·.cells))) = some (some #[.int .i64 0, .int .i64 0, .int .i64 0, .int .i64 0, .int .i64 0, .slice none 0 0, .slice none 0 0, .slice none 0 0]) := by kernel_rfl
theorem cinfo : (Tryz.prog.info? 45).map (·.size) = some 8 := by kernel_rfl
theorem one8 (a b c d e : Int) (A1 A2 A3 : Option Addr) (n1 c1 n2 c2 n3 c3 : Nat) : (#[.int .i64 a, .int .i64 b, .int .i64 c, .int .i64 d, .int .i64 e, .slice A1 n1 c1, .slice A2 n2 c2, .slice A3 n3 c3] : Array Value).all (·.oneCell') = true := by simp [Value.oneCell']
theorem src_chg {w w' : World} {A : Option Addr} {n c : Nat} {l : List UInt8} {S : Nat → Prop} (h : Src w A n c l) (k : Chg w w' S) (hn : ∀ b o, A = some ⟨b, o, none⟩ → ¬ S b) : Src w' A n c l := by
 refine ⟨⟨fun hp => ?_, h.len, h.cap, h.max⟩, h.none_⟩
 obtain ⟨b, o, e, hb, hc⟩ := h.lies hp
 refine ⟨b, o, e, Nat.lt_of_lt_of_le hb k.size, fun j hj => ?_⟩
 rw [World.cell?_of_block (w := w) (w' := w') (a := ⟨b, o + j, none⟩) (k.block b hb (hn b o e))]
 exact hc j hj
theorem prg_chg {w w' : World} {A : Option Addr} {l : List Ins} {S : Nat → Prop} (h : Prg w A l) (k : Chg w w' S) (hn : ∀ b o, A = some ⟨b, o, none⟩ → 0 < l.length → ¬ S b) : Prg w' A l := by
 intro i hi
 obtain ⟨b, o, e, hb, h1⟩ := h i hi
 refine ⟨b, o, e, Nat.lt_of_lt_of_le hb k.size, fun j v hj => ?_⟩
 rw [World.cell?_of_block (w := w) (w' := w') (a := ⟨b, o + i * 4 + j, none⟩) (k.block b hb (hn b o e (by omega)))]
 exact h1 j v hj
theorem Pcs.chg2 {w w' : World} {A : Option Addr} {l : List Pc} {S : Nat → Prop} (h : Pcs w A l) (k : Chg w w' S) (hn : ∀ b o, A = some ⟨b, o, none⟩ → 0 < l.length → ¬ S b) : Pcs w' A l := by
 intro i hi
 obtain ⟨b, o, e, hb, h1⟩ := h i hi
 refine ⟨b, o, e, Nat.lt_of_lt_of_le hb k.size, fun j v hj => ?_⟩
 rw [World.cell?_of_block (w := w) (w' := w') (a := ⟨b, o + i * 3 + j, none⟩) (k.block b hb (hn b o e (by omega)))]
 exact h1 j v hj
section
variable {P : Program} {ops : Array Oper} {Q : Exit → Act → World → Prop} {md : Region.Mode} {S : World → Prop}
theorem held_three {fuel : Nat} {listed : Array Bool} {a : Act} {w : World} {i j k : Nat} {o o' o2 : Oper} (hr : Region.ready md ops listed = [i, j, k]) (ho : ops[i]? = some o) (ho' : ops[j]? = some o') (ho2 : ops[k]? = some o2)
  (hw : Region.wanted o (yielded ops a.tmps) = true) (hw' : Region.wanted o' (yielded ops a.tmps) = true) (hw2 : Region.wanted o2 (yielded ops a.tmps) = true)
  (h : o.wp P a w (fun a' w' => S w' ∧ wpAnyH P md ops Q S fuel (listed.setIfInBounds i true) a' w') Q) (h' : o'.wp P a w (fun a' w' => S w' ∧ wpAnyH P md ops Q S fuel (listed.setIfInBounds j true) a' w') Q)
  (h2 : o2.wp P a w (fun a' w' => S w' ∧ wpAnyH P md ops Q S fuel (listed.setIfInBounds k true) a' w') Q) : wpAnyH P md ops Q S (fuel + 1) listed a w :=
 wpAnyH_all hr (by simp) fun m hm => by
  rcases List.mem_cons.1 hm with e | e
  ·rw [e]; unfold wpOp; simp only [ho, hw, if_true]; exact .inl h
  rcases List.mem_cons.1 e with e | e
  ·rw [e]; unfold wpOp; simp only [ho', hw', if_true]; exact .inl h'
  ·rw [List.mem_singleton.1 e]; unfold wpOp; simp only [ho2, hw2, if_true]; exact .inl h2
theorem wp_conv_d {o : Oper} {a : Act} {w w' : World} {K : Act → World → Prop} {s t : TypeId} {x : Operand} {d : Option Tmp} (hd : o.dst = d) {y v : Value} (ho : o.op = .convert s t x) (hx : a.eval x = y) (h : (convert s t y).run P w = .ok v w')
  (hk : K (a.put d v) w') : o.wp P a w K Q := by
 subst hd
 unfold Oper.wp execOp
 simp only [ho, hx, Sem.run_bind, h, Result.andThen_ok, Sem.run_pure]
 exact hk
theorem wp_alloc_d {o : Oper} {a : Act} {w : World} {K : Act → World → Prop} {d : Option Tmp} (hd : o.dst = d) (t : TypeId) (ho : o.op = .alloc t) (cells : Array Value) (hi : (P.info? t).map (fun i => (i.zero.map (·.cells))) = some (some cells))
  (h : ∀ y, y = w.alloc (.cells cells t) → K (a.put d (.pointer (some ⟨w.heap.size, 0, none⟩))) y) : o.wp P a w K Q := by
 subst hd
 obtain ⟨i, hi0, hz0⟩ := Option.map_eq_some_iff.1 hi
 obtain ⟨z, hz, hc⟩ := Option.map_eq_some_iff.1 hz0
 subst hc
 have hrun : (Instr.alloc t true (.tuple #[])).run P w = .ok (.pointer (some ⟨w.heap.size, 0, none⟩)) (w.alloc (.cells z.cells t)) := by
  simp [Instr.alloc, zeroValue, typeInfo, hi0, hz, newVar, newRow]
 unfold Oper.wp execOp
 simp only [ho, Sem.run_bind, hrun, Result.andThen_ok, Sem.run_pure]
 exact h _ rfl
end
def OfAt (W : World) (q : KC) (a : Nat) (Ab : Option Addr) (cb : Nat) (Al : Option Addr) (cl : Nat) (A' : Option Addr) (n' c' : Nat) (w' : World) : Prop :=
 Below W.heap.size W w' ∧ W.heap.size ≤ a ∧ Blk w' a 45 #[.int .i64 q.op, .int .i64 q.env, .int .i64 q.a, .int .i64 q.b, .int .i64 q.c, .slice Ab q.s.size cb, .slice A' n' c', .slice Al q.l.length cl] ∧
  Src w' Ab q.s.size cb q.s.data.toList ∧ (∀ b, inB Ab b → W.heap.size ≤ b ∧ b < w'.heap.size ∧ b ≠ a) ∧
  Pcs w' Al q.l ∧ Capd q.l Al cl ∧ (∀ b, inB Al b → W.heap.size ≤ b ∧ b < w'.heap.size ∧ b ≠ a)
def OfL (W : World) (q : KC) (a : Nat) (Ab : Option Addr) (cb : Nat) (Al : Option Addr) (cl : Nat) (j : Nat) (A' : Option Addr) (c' : Nat) (wr : World) : Prop :=
 OfAt W q a Ab cb Al cl A' j c' wr ∧ wr.ownsRow W.heap.size 107 4 (.slice A' j c') j (flat (q.p.take j)) ∧ ∀ b o, A' = some ⟨b, o, none⟩ → b ≠ a ∧ ¬ inB Ab b ∧ ¬ inB Al b
def kq (q : KC) : KQ := ⟨q.op, q.env, q.a, q.b, q.c, q.s.data.toList, q.p, q.l⟩
structure MadeQ (w : World) (q : KC) (x : KX) (w' : World) : Prop where
 below : Below w.heap.size w w'
 hs : Src w' x.Ab q.s.data.toList.length x.cb q.s.data.toList
 fb : ∀ b, inB x.Ab b → w.heap.size ≤ b ∧ b < w'.heap.size
 hp : Prg w' x.Ap q.p
 np : x.Ap = none → q.p = [] ∧ x.cp = 0
 hl : Pcs w' x.Al q.l
 fl : ∀ b, inB x.Al b → w.heap.size ≤ b ∧ b < w'.heap.size
 cl : q.l.length ≤ x.cl
 nl : q.l = [] → x.Al = none ∧ x.cl = 0
set_option maxRecDepth 100000 in
set_option maxHeartbeats 4000000 in
theorem of_call (q : KC) (w : World) (hq : q.In w) (hsz : q.s.size ≤ 1000000) (hpm : q.p.length ≤ 1000000) (hlm : q.l.length ≤ 1000000) :
  Calls Tryz.prog 9 #[.agg #[.int .i64 q.op, .int .i64 q.env, .int .i64 q.a, .int .i64 q.b, .int .i64 q.c, .string q.s, .slice q.Ap q.p.length q.cp, .slice q.Al q.l.length q.cl]] w fun e w' => ∃ x : KX, e = .returned (.agg ((kq q).cells x)) ∧ MadeQ w q x w' := by
 obtain ⟨W, hW⟩ : ∃ W, W = (w.alloc (.cells #[.int .i64 q.op, .int .i64 q.env, .int .i64 q.a, .int .i64 q.b, .int .i64 q.c, .string q.s, .slice q.Ap q.p.length q.cp, .slice q.Al q.l.length q.cl] 34)).alloc (.cells #[.int .i64 0, .int .i64 0, .int .i64 0, .int .i64 0, .int .i64 0, .slice none 0 0, .slice none 0 0, .slice none 0 0] 45) := ⟨_, rfl⟩
 have hb : Below w.heap.size w W := by rw [hW]; exact ((Below.refl _ w).alloc (Nat.le_refl _) _).alloc (by simp) _
 have bq : Blk W w.heap.size 34 #[.int .i64 q.op, .int .i64 q.env, .int .i64 q.a, .int .i64 q.b, .int .i64 q.c, .string q.s, .slice q.Ap q.p.length q.cp, .slice q.Al q.l.length q.cl] := by rw [hW]; exact (Blk.new w _ _).alloc _
 have br : Blk W (w.heap.size + 1) 45 #[.int .i64 0, .int .i64 0, .int .i64 0, .int .i64 0, .int .i64 0, .slice none 0 0, .slice none 0 0, .slice none 0 0] := by
  rw [hW]
  have := Blk.new (w.alloc (.cells #[.int .i64 q.op, .int .i64 q.env, .int .i64 q.a, .int .i64 q.b, .int .i64 q.c, .string q.s, .slice q.Ap q.p.length q.cp, .slice q.Al q.l.length q.cl] 34)) 45 #[.int .i64 0, .int .i64 0, .int .i64 0, .int .i64 0, .int .i64 0, .slice none 0 0, .slice none 0 0, .slice none 0 0]
  simpa using this
 have c0 := (bq.cell 0).trans (show _ = some (.int .i64 q.op) from rfl)
 have c1 := (bq.cell 1).trans (show _ = some (.int .i64 q.env) from rfl)
 have c2 := (bq.cell 2).trans (show _ = some (.int .i64 q.a) from rfl)
 have c3 := (bq.cell 3).trans (show _ = some (.int .i64 q.b) from rfl)
 have c4 := (bq.cell 4).trans (show _ = some (.int .i64 q.c) from rfl)
 have c5 := (bq.cell 5).trans (show _ = some (.string q.s) from rfl)
 have c6 := (bq.cell 6).trans (show _ = some (.slice q.Ap q.p.length q.cp) from rfl)
 have c7 := (bq.cell 7).trans (show _ = some (.slice q.Al q.l.length q.cl) from rfl)
 have HH := Lib.hid (show w.heap.size < W.heap.size from bq.lt)
 have W0 := Lib.hid (show w.heap.size ≤ W.heap.size from hb.size)
 have PL := Lib.hid (show Pcs W q.Al q.l from hq.l.new hb)
 have ML := Lib.hid hlm
 have HQ := Lib.hid hq
 have HB := Lib.hid hb
 have BQ := Lib.hid bq
 have BR := Lib.hid br
 have HW := Lib.hid hW
 clear hW hb bq br hq hlm
 go_enter Tryz.func9, Tryz.ntmps9
 go_upto_region 1 with fail
 rw [show (w.alloc (.cells #[.int .i64 q.op, .int .i64 q.env, .int .i64 q.a, .int .i64 q.b, .int .i64 q.c, .string q.s, .slice q.Ap q.p.length q.cp, .slice q.Al q.l.length q.cl] 34)).alloc (.cells #[.int .i64 0, .int .i64 0, .int .i64 0, .int .i64 0, .int .i64 0, .slice none 0 0, .slice none 0 0, .slice none 0 0] 45) = W from HW.out.symm]
 go_cut [3] (fun x wx => ∃ (a : Nat) (Ab : Option Addr) (cb : Nat) (Al : Option Addr) (cl : Nat), x = .pointer (some ⟨a, 0, none⟩) ∧ Hid (OfAt W q a Ab cb Al cl none 0 0 wx))
 case first =>
  refine wp_region_held_drew (S := fun w' => Hid (Below W.heap.size W w')) (by kernel_rfl) (Lib.hid (show Below W.heap.size W W.drew from ⟨rfl, rfl, rfl, Nat.le_refl _, fun _ _ => rfl⟩)) (fun hS => ?_)
  have hb0 : Below W.heap.size W W.drew := ⟨rfl, rfl, rfl, Nat.le_refl _, fun _ _ => rfl⟩
  refine ht 0 (some 5) (v := ?_) rfl rfl ?_ hS ?_
  rotate_left
  ·intro w' hSw; go_simp <;> with_reducible rfl
  refine ht 1 (some 6) (v := ?_) rfl rfl ?_ hS ?_
  rotate_left
  ·intro w' hSw; have hc := (hSw.out.cell (p := ⟨w.heap.size, 0, none⟩) HH.out).trans c0; clear hSw; go_simp <;> with_reducible rfl
  simp only [Act.put, List.setIfInBounds_toArray, List.set_cons_zero, List.set_cons_succ]
  refine ht 2 (some 7) (v := ?_) rfl rfl ?_ hS ?_
  rotate_left
  ·intro w' hSw; go_simp <;> with_reducible rfl
  refine ht 3 (some 8) (v := ?_) rfl rfl ?_ hS ?_
  rotate_left
  ·intro w' hSw; have hc := (hSw.out.cell (p := ⟨w.heap.size, 1, none⟩) HH.out).trans c1; clear hSw; go_simp <;> with_reducible rfl
  simp only [Act.put, List.setIfInBounds_toArray, List.set_cons_zero, List.set_cons_succ]
  refine ht 4 (some 9) (v := ?_) rfl rfl ?_ hS ?_
  rotate_left
  ·intro w' hSw; go_simp <;> with_reducible rfl
  refine ht 5 (some 10) (v := ?_) rfl rfl ?_ hS ?_
  rotate_left
  ·intro w' hSw; have hc := (hSw.out.cell (p := ⟨w.heap.size, 2, none⟩) HH.out).trans c2; clear hSw; go_simp <;> with_reducible rfl
  simp only [Act.put, List.setIfInBounds_toArray, List.set_cons_zero, List.set_cons_succ]
  refine ht 6 (some 11) (v := ?_) rfl rfl ?_ hS ?_
  rotate_left
  ·intro w' hSw; go_simp <;> with_reducible rfl
  refine ht 7 (some 12) (v := ?_) rfl rfl ?_ hS ?_
  rotate_left
  ·intro w' hSw; have hc := (hSw.out.cell (p := ⟨w.heap.size, 3, none⟩) HH.out).trans c3; clear hSw; go_simp <;> with_reducible rfl
  simp only [Act.put, List.setIfInBounds_toArray, List.set_cons_zero, List.set_cons_succ]
  refine ht 8 (some 13) (v := ?_) rfl rfl ?_ hS ?_
  rotate_left
  ·intro w' hSw; go_simp <;> with_reducible rfl
  refine ht 9 (some 14) (v := ?_) rfl rfl ?_ hS ?_
  rotate_left
  ·intro w' hSw; have hc := (hSw.out.cell (p := ⟨w.heap.size, 4, none⟩) HH.out).trans c4; clear hSw; go_simp <;> with_reducible rfl
  simp only [Act.put, List.setIfInBounds_toArray, List.set_cons_zero, List.set_cons_succ]
  refine ht 10 (some 15) (v := ?_) rfl rfl ?_ hS ?_
  rotate_left
  ·intro w' hSw; go_simp <;> with_reducible rfl
  refine ht 11 (some 16) (v := ?_) rfl rfl ?_ hS ?_
  rotate_left
  ·intro w' hSw; have hc := (hSw.out.cell (p := ⟨w.heap.size, 5, none⟩) HH.out).trans c5; clear hSw; go_simp <;> with_reducible rfl
  simp only [Act.put, List.setIfInBounds_toArray, List.set_cons_zero, List.set_cons_succ]
  refine ht 13 (some 18) (v := ?_) rfl rfl ?_ hS ?_
  rotate_left
  ·intro w' hSw; go_simp <;> with_reducible rfl
  refine ht 14 (some 19) (v := ?_) rfl rfl ?_ hS ?_
  rotate_left
  ·intro w' hSw; have hc := (hSw.out.cell (p := ⟨w.heap.size, 7, none⟩) HH.out).trans c7; clear hSw; go_simp <;> with_reducible rfl
  simp only [Act.put, List.setIfInBounds_toArray, List.set_cons_zero, List.set_cons_succ]
  refine held_three (i := 12) (j := 15) (k := 17) (by kernel_rfl) rfl rfl rfl (by rfl) (by rfl) (by rfl) ?_ ?_ ?_
  ·obtain ⟨cC, x1, rC, sC, bC⟩ := conv_any q.s hsz W.drew
   refine wp_conv_d (d := some 17) rfl (y := .string q.s) rfl rfl rC ?_
   have hb1 : Below W.heap.size W x1 := hb0.trans (bC.mono hb0.size)
   have hS : Hid (Below W.heap.size W x1) := Lib.hid hb1
   refine ⟨hS, ?_⟩
   try simp only [Act.put, List.setIfInBounds_toArray, List.set_cons_zero, List.set_cons_succ]
   refine held_two (i := 15) (j := 17) (by kernel_rfl) rfl rfl (by rfl) (by rfl) ?_ ?_
   ·go_simp
    refine (of_capG q.Al q.cl q.l x1 (PL.out.new hb1) ML.out).mono ?_; rintro e x2 ⟨AL, cL, rfl, ⟨pL, nL, fL⟩, bL⟩
    have hb2 : Below W.heap.size W x2 := hb1.trans (bL.mono hb1.size)
    have hS : Hid (Below W.heap.size W x2) := Lib.hid hb2
    refine ⟨hS, ?_⟩
    try simp only [Act.put, List.setIfInBounds_toArray, List.set_cons_zero, List.set_cons_succ]
    refine ht 16 (some 21) (v := ?_) rfl rfl ?_ hS ?_
    rotate_left
    ·intro w' hSw; go_simp <;> with_reducible rfl
    simp only [Act.put, List.setIfInBounds_toArray, List.set_cons_zero, List.set_cons_succ]
    refine held_one (i := 17) (by kernel_rfl) rfl (by rfl) ?_
    refine wp_alloc_d (d := some 3) rfl 45 rfl #[.int .i64 0, .int .i64 0, .int .i64 0, .int .i64 0, .int .i64 0, .slice none 0 0, .slice none 0 0, .slice none 0 0] callz ?_
    intro y3 ey3
    have hb3 : Below W.heap.size W y3 := by rw [ey3]; exact hb2.alloc hb2.size _
    have aA : Blk y3 (x2).heap.size 45 #[.int .i64 0, .int .i64 0, .int .i64 0, .int .i64 0, .int .i64 0, .slice none 0 0, .slice none 0 0, .slice none 0 0] := by rw [ey3]; exact Blk.new x2 45 #[.int .i64 0, .int .i64 0, .int .i64 0, .int .i64 0, .int .i64 0, .slice none 0 0, .slice none 0 0, .slice none 0 0]
    have bA : Below (x2).heap.size (x2) y3 := by rw [ey3]; exact (Below.refl _ _).alloc (Nat.le_refl _) _
    have hS : Hid (Below W.heap.size W y3) := Lib.hid hb3
    refine ⟨hS, ?_⟩
    clear ey3
    try simp only [Act.put, List.setIfInBounds_toArray]
    have LC := sC.lt
    have zC := bC.size
    have zL := bL.size
    have zA := bA.size
    have lA := aA.lt
    have hW0 : W.drew.heap.size = W.heap.size := rfl
    have SC := ((sC.src).below bL).below bA
    have PLX := (pL).new bA
    have AAX := aA
    have z1 := hb1.size
    have z2 := hb2.size
    have z3 := hb3.size
    refine held_one (i := 18) (by kernel_rfl) rfl (by rfl) ?_
    refine wp_store_row 45 (.tmp 3) (.tmp 21) rfl x2.heap.size #[.int .i64 q.op, .int .i64 q.env, .int .i64 q.a, .int .i64 q.b, .int .i64 q.c, .slice (some ⟨W.drew.heap.size, 0, none⟩) q.s.size cC, .slice none 0 0, .slice AL q.l.length cL] rfl rfl 45 _ AAX cinfo rfl (one8 _ _ _ _ _ _ _ _ _ _ _ _ _ _) ?_
    have hSF : Hid (Below W.heap.size W (y3.setRow x2.heap.size #[.int .i64 q.op, .int .i64 q.env, .int .i64 q.a, .int .i64 q.b, .int .i64 q.c, .slice (some ⟨W.drew.heap.size, 0, none⟩) q.s.size cC, .slice none 0 0, .slice AL q.l.length cL])) := Lib.hid (below_setRow hb3 (by omega) _)
    refine ⟨hSF, ?_⟩
    try simp only [Act.put, List.setIfInBounds_toArray]
    refine wpAnyH_done (by kernel_rfl) ?_ _
    have kR : Chg y3 (y3.setRow x2.heap.size #[.int .i64 q.op, .int .i64 q.env, .int .i64 q.a, .int .i64 q.b, .int .i64 q.c, .slice (some ⟨W.drew.heap.size, 0, none⟩) q.s.size cC, .slice none 0 0, .slice AL q.l.length cL]) (fun i => i = x2.heap.size) := Chg.setRow _ _ rfl
    go_wp2_with fail
    go_meet
    refine ⟨x2.heap.size, (some ⟨W.drew.heap.size, 0, none⟩), cC, AL, cL, rfl, Lib.hid ⟨hSF.out, by omega, AAX.row _, ?_, fun b e => ?_, ?_, nL, fun b e => ?_⟩⟩
    ·exact src_chg SC kR (fun b o e => by cases e; omega)
    ·have e' := inB_some e
     rw [setRow_size]
     omega
    ·exact Pcs.chg2 PLX kR (fun b o e h0 => by have := fL b (by rw [e]; exact inB_self b o); omega)
    ·have := fL b e
     rw [setRow_size]
     omega
   ·refine wp_alloc_d (d := some 3) rfl 45 rfl #[.int .i64 0, .int .i64 0, .int .i64 0, .int .i64 0, .int .i64 0, .slice none 0 0, .slice none 0 0, .slice none 0 0] callz ?_
    intro y2 ey2
    have hb2 : Below W.heap.size W y2 := by rw [ey2]; exact hb1.alloc hb1.size _
    have aA : Blk y2 (x1).heap.size 45 #[.int .i64 0, .int .i64 0, .int .i64 0, .int .i64 0, .int .i64 0, .slice none 0 0, .slice none 0 0, .slice none 0 0] := by rw [ey2]; exact Blk.new x1 45 #[.int .i64 0, .int .i64 0, .int .i64 0, .int .i64 0, .int .i64 0, .slice none 0 0, .slice none 0 0, .slice none 0 0]
    have bA : Below (x1).heap.size (x1) y2 := by rw [ey2]; exact (Below.refl _ _).alloc (Nat.le_refl _) _
    have hS : Hid (Below W.heap.size W y2) := Lib.hid hb2
    refine ⟨hS, ?_⟩
    clear ey2
    try simp only [Act.put, List.setIfInBounds_toArray]
    refine held_one (i := 15) (by kernel_rfl) rfl (by rfl) ?_
    go_simp
    refine (of_capG q.Al q.cl q.l y2 (PL.out.new hb2) ML.out).mono ?_; rintro e x3 ⟨AL, cL, rfl, ⟨pL, nL, fL⟩, bL⟩
    have hb3 : Below W.heap.size W x3 := hb2.trans (bL.mono hb2.size)
    have hS : Hid (Below W.heap.size W x3) := Lib.hid hb3
    refine ⟨hS, ?_⟩
    try simp only [Act.put, List.setIfInBounds_toArray, List.set_cons_zero, List.set_cons_succ]
    refine ht 16 (some 21) (v := ?_) rfl rfl ?_ hS ?_
    rotate_left
    ·intro w' hSw; go_simp <;> with_reducible rfl
    simp only [Act.put, List.setIfInBounds_toArray, List.set_cons_zero, List.set_cons_succ]
    have LC := sC.lt
    have zC := bC.size
    have zL := bL.size
    have zA := bA.size
    have lA := aA.lt
    have hW0 : W.drew.heap.size = W.heap.size := rfl
    have SC := ((sC.src).below bA).below bL
    have PLX := pL
    have AAX := (aA).older (older_below bL)
    have z1 := hb1.size
    have z2 := hb2.size
    have z3 := hb3.size
    refine held_one (i := 18) (by kernel_rfl) rfl (by rfl) ?_
    refine wp_store_row 45 (.tmp 3) (.tmp 21) rfl x1.heap.size #[.int .i64 q.op, .int .i64 q.env, .int .i64 q.a, .int .i64 q.b, .int .i64 q.c, .slice (some ⟨W.drew.heap.size, 0, none⟩) q.s.size cC, .slice none 0 0, .slice AL q.l.length cL] rfl rfl 45 _ AAX cinfo rfl (one8 _ _ _ _ _ _ _ _ _ _ _ _ _ _) ?_
    have hSF : Hid (Below W.heap.size W (x3.setRow x1.heap.size #[.int .i64 q.op, .int .i64 q.env, .int .i64 q.a, .int .i64 q.b, .int .i64 q.c, .slice (some ⟨W.drew.heap.size, 0, none⟩) q.s.size cC, .slice none 0 0, .slice AL q.l.length cL])) := Lib.hid (below_setRow hb3 (by omega) _)
    refine ⟨hSF, ?_⟩
    try simp only [Act.put, List.setIfInBounds_toArray]
    refine wpAnyH_done (by kernel_rfl) ?_ _
    have kR : Chg x3 (x3.setRow x1.heap.size #[.int .i64 q.op, .int .i64 q.env, .int .i64 q.a, .int .i64 q.b, .int .i64 q.c, .slice (some ⟨W.drew.heap.size, 0, none⟩) q.s.size cC, .slice none 0 0, .slice AL q.l.length cL]) (fun i => i = x1.heap.size) := Chg.setRow _ _ rfl
    go_wp2_with fail
    go_meet
    refine ⟨x1.heap.size, (some ⟨W.drew.heap.size, 0, none⟩), cC, AL, cL, rfl, Lib.hid ⟨hSF.out, by omega, AAX.row _, ?_, fun b e => ?_, ?_, nL, fun b e => ?_⟩⟩
    ·exact src_chg SC kR (fun b o e => by cases e; omega)
    ·have e' := inB_some e
     rw [setRow_size]
     omega
    ·exact Pcs.chg2 PLX kR (fun b o e h0 => by have := fL b (by rw [e]; exact inB_self b o); omega)
    ·have := fL b e
     rw [setRow_size]
     omega
  ·go_simp
   refine (of_capG q.Al q.cl q.l W.drew (PL.out.new hb0) ML.out).mono ?_; rintro e x1 ⟨AL, cL, rfl, ⟨pL, nL, fL⟩, bL⟩
   have hb1 : Below W.heap.size W x1 := hb0.trans (bL.mono hb0.size)
   have hS : Hid (Below W.heap.size W x1) := Lib.hid hb1
   refine ⟨hS, ?_⟩
   try simp only [Act.put, List.setIfInBounds_toArray, List.set_cons_zero, List.set_cons_succ]
   refine held_two (i := 12) (j := 17) (by kernel_rfl) rfl rfl (by rfl) (by rfl) ?_ ?_
   ·obtain ⟨cC, x2, rC, sC, bC⟩ := conv_any q.s hsz x1
    refine wp_conv_d (d := some 17) rfl (y := .string q.s) rfl rfl rC ?_
    have hb2 : Below W.heap.size W x2 := hb1.trans (bC.mono hb1.size)
    have hS : Hid (Below W.heap.size W x2) := Lib.hid hb2
    refine ⟨hS, ?_⟩
    try simp only [Act.put, List.setIfInBounds_toArray, List.set_cons_zero, List.set_cons_succ]
    refine ht 16 (some 21) (v := ?_) rfl rfl ?_ hS ?_
    rotate_left
    ·intro w' hSw; go_simp <;> with_reducible rfl
    simp only [Act.put, List.setIfInBounds_toArray, List.set_cons_zero, List.set_cons_succ]
    refine held_one (i := 17) (by kernel_rfl) rfl (by rfl) ?_
    refine wp_alloc_d (d := some 3) rfl 45 rfl #[.int .i64 0, .int .i64 0, .int .i64 0, .int .i64 0, .int .i64 0, .slice none 0 0, .slice none 0 0, .slice none 0 0] callz ?_
    intro y3 ey3
    have hb3 : Below W.heap.size W y3 := by rw [ey3]; exact hb2.alloc hb2.size _
    have aA : Blk y3 (x2).heap.size 45 #[.int .i64 0, .int .i64 0, .int .i64 0, .int .i64 0, .int .i64 0, .slice none 0 0, .slice none 0 0, .slice none 0 0] := by rw [ey3]; exact Blk.new x2 45 #[.int .i64 0, .int .i64 0, .int .i64 0, .int .i64 0, .int .i64 0, .slice none 0 0, .slice none 0 0, .slice none 0 0]
    have bA : Below (x2).heap.size (x2) y3 := by rw [ey3]; exact (Below.refl _ _).alloc (Nat.le_refl _) _
    have hS : Hid (Below W.heap.size W y3) := Lib.hid hb3
    refine ⟨hS, ?_⟩
    clear ey3
    try simp only [Act.put, List.setIfInBounds_toArray]
    have LC := sC.lt
    have zC := bC.size
    have zL := bL.size
    have zA := bA.size
    have lA := aA.lt
    have hW0 : W.drew.heap.size = W.heap.size := rfl
    have SC := (sC.src).below bA
    have PLX := ((pL).new bC).new bA
    have AAX := aA
    have z1 := hb1.size
    have z2 := hb2.size
    have z3 := hb3.size
    refine held_one (i := 18) (by kernel_rfl) rfl (by rfl) ?_
    refine wp_store_row 45 (.tmp 3) (.tmp 21) rfl x2.heap.size #[.int .i64 q.op, .int .i64 q.env, .int .i64 q.a, .int .i64 q.b, .int .i64 q.c, .slice (some ⟨x1.heap.size, 0, none⟩) q.s.size cC, .slice none 0 0, .slice AL q.l.length cL] rfl rfl 45 _ AAX cinfo rfl (one8 _ _ _ _ _ _ _ _ _ _ _ _ _ _) ?_
    have hSF : Hid (Below W.heap.size W (y3.setRow x2.heap.size #[.int .i64 q.op, .int .i64 q.env, .int .i64 q.a, .int .i64 q.b, .int .i64 q.c, .slice (some ⟨x1.heap.size, 0, none⟩) q.s.size cC, .slice none 0 0, .slice AL q.l.length cL])) := Lib.hid (below_setRow hb3 (by omega) _)
    refine ⟨hSF, ?_⟩
    try simp only [Act.put, List.setIfInBounds_toArray]
    refine wpAnyH_done (by kernel_rfl) ?_ _
    have kR : Chg y3 (y3.setRow x2.heap.size #[.int .i64 q.op, .int .i64 q.env, .int .i64 q.a, .int .i64 q.b, .int .i64 q.c, .slice (some ⟨x1.heap.size, 0, none⟩) q.s.size cC, .slice none 0 0, .slice AL q.l.length cL]) (fun i => i = x2.heap.size) := Chg.setRow _ _ rfl
    go_wp2_with fail
    go_meet
    refine ⟨x2.heap.size, (some ⟨x1.heap.size, 0, none⟩), cC, AL, cL, rfl, Lib.hid ⟨hSF.out, by omega, AAX.row _, ?_, fun b e => ?_, ?_, nL, fun b e => ?_⟩⟩
    ·exact src_chg SC kR (fun b o e => by cases e; omega)
    ·have e' := inB_some e
     rw [setRow_size]
     omega
    ·exact Pcs.chg2 PLX kR (fun b o e h0 => by have := fL b (by rw [e]; exact inB_self b o); omega)
    ·have := fL b e
     rw [setRow_size]
     omega
   ·refine wp_alloc_d (d := some 3) rfl 45 rfl #[.int .i64 0, .int .i64 0, .int .i64 0, .int .i64 0, .int .i64 0, .slice none 0 0, .slice none 0 0, .slice none 0 0] callz ?_
    intro y2 ey2
    have hb2 : Below W.heap.size W y2 := by rw [ey2]; exact hb1.alloc hb1.size _
    have aA : Blk y2 (x1).heap.size 45 #[.int .i64 0, .int .i64 0, .int .i64 0, .int .i64 0, .int .i64 0, .slice none 0 0, .slice none 0 0, .slice none 0 0] := by rw [ey2]; exact Blk.new x1 45 #[.int .i64 0, .int .i64 0, .int .i64 0, .int .i64 0, .int .i64 0, .slice none 0 0, .slice none 0 0, .slice none 0 0]
    have bA : Below (x1).heap.size (x1) y2 := by rw [ey2]; exact (Below.refl _ _).alloc (Nat.le_refl _) _
    have hS : Hid (Below W.heap.size W y2) := Lib.hid hb2
    refine ⟨hS, ?_⟩
    clear ey2
    try simp only [Act.put, List.setIfInBounds_toArray]
    refine held_one (i := 12) (by kernel_rfl) rfl (by rfl) ?_
    obtain ⟨cC, x3, rC, sC, bC⟩ := conv_any q.s hsz y2
    refine wp_conv_d (d := some 17) rfl (y := .string q.s) rfl rfl rC ?_
    have hb3 : Below W.heap.size W x3 := hb2.trans (bC.mono hb2.size)
    have hS : Hid (Below W.heap.size W x3) := Lib.hid hb3
    refine ⟨hS, ?_⟩
    try simp only [Act.put, List.setIfInBounds_toArray, List.set_cons_zero, List.set_cons_succ]
    refine ht 16 (some 21) (v := ?_) rfl rfl ?_ hS ?_
    rotate_left
    ·intro w' hSw; go_simp <;> with_reducible rfl
    simp only [Act.put, List.setIfInBounds_toArray, List.set_cons_zero, List.set_cons_succ]
    have LC := sC.lt
    have zC := bC.size
    have zL := bL.size
    have zA := bA.size
    have lA := aA.lt
    have hW0 : W.drew.heap.size = W.heap.size := rfl
    have SC := sC.src
    have PLX := ((pL).new bA).new bC
    have AAX := (aA).older (older_below bC)
    have z1 := hb1.size
    have z2 := hb2.size
    have z3 := hb3.size
    refine held_one (i := 18) (by kernel_rfl) rfl (by rfl) ?_
    refine wp_store_row 45 (.tmp 3) (.tmp 21) rfl x1.heap.size #[.int .i64 q.op, .int .i64 q.env, .int .i64 q.a, .int .i64 q.b, .int .i64 q.c, .slice (some ⟨y2.heap.size, 0, none⟩) q.s.size cC, .slice none 0 0, .slice AL q.l.length cL] rfl rfl 45 _ AAX cinfo rfl (one8 _ _ _ _ _ _ _ _ _ _ _ _ _ _) ?_
    have hSF : Hid (Below W.heap.size W (x3.setRow x1.heap.size #[.int .i64 q.op, .int .i64 q.env, .int .i64 q.a, .int .i64 q.b, .int .i64 q.c, .slice (some ⟨y2.heap.size, 0, none⟩) q.s.size cC, .slice none 0 0, .slice AL q.l.length cL])) := Lib.hid (below_setRow hb3 (by omega) _)
    refine ⟨hSF, ?_⟩
    try simp only [Act.put, List.setIfInBounds_toArray]
    refine wpAnyH_done (by kernel_rfl) ?_ _
    have kR : Chg x3 (x3.setRow x1.heap.size #[.int .i64 q.op, .int .i64 q.env, .int .i64 q.a, .int .i64 q.b, .int .i64 q.c, .slice (some ⟨y2.heap.size, 0, none⟩) q.s.size cC, .slice none 0 0, .slice AL q.l.length cL]) (fun i => i = x1.heap.size) := Chg.setRow _ _ rfl
    go_wp2_with fail
    go_meet
    refine ⟨x1.heap.size, (some ⟨y2.heap.size, 0, none⟩), cC, AL, cL, rfl, Lib.hid ⟨hSF.out, by omega, AAX.row _, ?_, fun b e => ?_, ?_, nL, fun b e => ?_⟩⟩
    ·exact src_chg SC kR (fun b o e => by cases e; omega)
    ·have e' := inB_some e
     rw [setRow_size]
     omega
    ·exact Pcs.chg2 PLX kR (fun b o e h0 => by have := fL b (by rw [e]; exact inB_self b o); omega)
    ·have := fL b e
     rw [setRow_size]
     omega
  ·refine wp_alloc_d (d := some 3) rfl 45 rfl #[.int .i64 0, .int .i64 0, .int .i64 0, .int .i64 0, .int .i64 0, .slice none 0 0, .slice none 0 0, .slice none 0 0] callz ?_
   intro y1 ey1
   have hb1 : Below W.heap.size W y1 := by rw [ey1]; exact hb0.alloc hb0.size _
   have aA : Blk y1 (W.drew).heap.size 45 #[.int .i64 0, .int .i64 0, .int .i64 0, .int .i64 0, .int .i64 0, .slice none 0 0, .slice none 0 0, .slice none 0 0] := by rw [ey1]; exact Blk.new W.drew 45 #[.int .i64 0, .int .i64 0, .int .i64 0, .int .i64 0, .int .i64 0, .slice none 0 0, .slice none 0 0, .slice none 0 0]
   have bA : Below (W.drew).heap.size (W.drew) y1 := by rw [ey1]; exact (Below.refl _ _).alloc (Nat.le_refl _) _
   have hS : Hid (Below W.heap.size W y1) := Lib.hid hb1
   refine ⟨hS, ?_⟩
   clear ey1
   try simp only [Act.put, List.setIfInBounds_toArray]
   refine held_two (i := 12) (j := 15) (by kernel_rfl) rfl rfl (by rfl) (by rfl) ?_ ?_
   ·obtain ⟨cC, x2, rC, sC, bC⟩ := conv_any q.s hsz y1
    refine wp_conv_d (d := some 17) rfl (y := .string q.s) rfl rfl rC ?_
    have hb2 : Below W.heap.size W x2 := hb1.trans (bC.mono hb1.size)
    have hS : Hid (Below W.heap.size W x2) := Lib.hid hb2
    refine ⟨hS, ?_⟩
    try simp only [Act.put, List.setIfInBounds_toArray, List.set_cons_zero, List.set_cons_succ]
    refine held_one (i := 15) (by kernel_rfl) rfl (by rfl) ?_
    go_simp
    refine (of_capG q.Al q.cl q.l x2 (PL.out.new hb2) ML.out).mono ?_; rintro e x3 ⟨AL, cL, rfl, ⟨pL, nL, fL⟩, bL⟩
    have hb3 : Below W.heap.size W x3 := hb2.trans (bL.mono hb2.size)
    have hS : Hid (Below W.heap.size W x3) := Lib.hid hb3
    refine ⟨hS, ?_⟩
    try simp only [Act.put, List.setIfInBounds_toArray, List.set_cons_zero, List.set_cons_succ]
    refine ht 16 (some 21) (v := ?_) rfl rfl ?_ hS ?_
    rotate_left
    ·intro w' hSw; go_simp <;> with_reducible rfl
    simp only [Act.put, List.setIfInBounds_toArray, List.set_cons_zero, List.set_cons_succ]
    have LC := sC.lt
    have zC := bC.size
    have zL := bL.size
    have zA := bA.size
    have lA := aA.lt
    have hW0 : W.drew.heap.size = W.heap.size := rfl
    have SC := (sC.src).below bL
    have PLX := pL
    have AAX := ((aA).older (older_below bC)).older (older_below bL)
    have z1 := hb1.size
    have z2 := hb2.size
    have z3 := hb3.size
    refine held_one (i := 18) (by kernel_rfl) rfl (by rfl) ?_
    refine wp_store_row 45 (.tmp 3) (.tmp 21) rfl W.drew.heap.size #[.int .i64 q.op, .int .i64 q.env, .int .i64 q.a, .int .i64 q.b, .int .i64 q.c, .slice (some ⟨y1.heap.size, 0, none⟩) q.s.size cC, .slice none 0 0, .slice AL q.l.length cL] rfl rfl 45 _ AAX cinfo rfl (one8 _ _ _ _ _ _ _ _ _ _ _ _ _ _) ?_
    have hSF : Hid (Below W.heap.size W (x3.setRow W.drew.heap.size #[.int .i64 q.op, .int .i64 q.env, .int .i64 q.a, .int .i64 q.b, .int .i64 q.c, .slice (some ⟨y1.heap.size, 0, none⟩) q.s.size cC, .slice none 0 0, .slice AL q.l.length cL])) := Lib.hid (below_setRow hb3 (by omega) _)
    refine ⟨hSF, ?_⟩
    try simp only [Act.put, List.setIfInBounds_toArray]
    refine wpAnyH_done (by kernel_rfl) ?_ _
    have kR : Chg x3 (x3.setRow W.drew.heap.size #[.int .i64 q.op, .int .i64 q.env, .int .i64 q.a, .int .i64 q.b, .int .i64 q.c, .slice (some ⟨y1.heap.size, 0, none⟩) q.s.size cC, .slice none 0 0, .slice AL q.l.length cL]) (fun i => i = W.drew.heap.size) := Chg.setRow _ _ rfl
    go_wp2_with fail
    go_meet
    refine ⟨W.drew.heap.size, (some ⟨y1.heap.size, 0, none⟩), cC, AL, cL, rfl, Lib.hid ⟨hSF.out, by omega, AAX.row _, ?_, fun b e => ?_, ?_, nL, fun b e => ?_⟩⟩
    ·exact src_chg SC kR (fun b o e => by cases e; omega)
    ·have e' := inB_some e
     rw [setRow_size]
     omega
    ·exact Pcs.chg2 PLX kR (fun b o e h0 => by have := fL b (by rw [e]; exact inB_self b o); omega)
    ·have := fL b e
     rw [setRow_size]
     omega
   ·go_simp
    refine (of_capG q.Al q.cl q.l y1 (PL.out.new hb1) ML.out).mono ?_; rintro e x2 ⟨AL, cL, rfl, ⟨pL, nL, fL⟩, bL⟩
    have hb2 : Below W.heap.size W x2 := hb1.trans (bL.mono hb1.size)
    have hS : Hid (Below W.heap.size W x2) := Lib.hid hb2
    refine ⟨hS, ?_⟩
    try simp only [Act.put, List.setIfInBounds_toArray, List.set_cons_zero, List.set_cons_succ]
    refine held_one (i := 12) (by kernel_rfl) rfl (by rfl) ?_
    obtain ⟨cC, x3, rC, sC, bC⟩ := conv_any q.s hsz x2
    refine wp_conv_d (d := some 17) rfl (y := .string q.s) rfl rfl rC ?_
    have hb3 : Below W.heap.size W x3 := hb2.trans (bC.mono hb2.size)
    have hS : Hid (Below W.heap.size W x3) := Lib.hid hb3
    refine ⟨hS, ?_⟩
    try simp only [Act.put, List.setIfInBounds_toArray, List.set_cons_zero, List.set_cons_succ]
    refine ht 16 (some 21) (v := ?_) rfl rfl ?_ hS ?_
    rotate_left
    ·intro w' hSw; go_simp <;> with_reducible rfl
    simp only [Act.put, List.setIfInBounds_toArray, List.set_cons_zero, List.set_cons_succ]
    have LC := sC.lt
    have zC := bC.size
    have zL := bL.size
    have zA := bA.size
    have lA := aA.lt
    have hW0 : W.drew.heap.size = W.heap.size := rfl
    have SC := sC.src
    have PLX := (pL).new bC
    have AAX := ((aA).older (older_below bL)).older (older_below bC)
    have z1 := hb1.size
    have z2 := hb2.size
    have z3 := hb3.size
    refine held_one (i := 18) (by kernel_rfl) rfl (by rfl) ?_
    refine wp_store_row 45 (.tmp 3) (.tmp 21) rfl W.drew.heap.size #[.int .i64 q.op, .int .i64 q.env, .int .i64 q.a, .int .i64 q.b, .int .i64 q.c, .slice (some ⟨x2.heap.size, 0, none⟩) q.s.size cC, .slice none 0 0, .slice AL q.l.length cL] rfl rfl 45 _ AAX cinfo rfl (one8 _ _ _ _ _ _ _ _ _ _ _ _ _ _) ?_
    have hSF : Hid (Below W.heap.size W (x3.setRow W.drew.heap.size #[.int .i64 q.op, .int .i64 q.env, .int .i64 q.a, .int .i64 q.b, .int .i64 q.c, .slice (some ⟨x2.heap.size, 0, none⟩) q.s.size cC, .slice none 0 0, .slice AL q.l.length cL])) := Lib.hid (below_setRow hb3 (by omega) _)
    refine ⟨hSF, ?_⟩
    try simp only [Act.put, List.setIfInBounds_toArray]
    refine wpAnyH_done (by kernel_rfl) ?_ _
    have kR : Chg x3 (x3.setRow W.drew.heap.size #[.int .i64 q.op, .int .i64 q.env, .int .i64 q.a, .int .i64 q.b, .int .i64 q.c, .slice (some ⟨x2.heap.size, 0, none⟩) q.s.size cC, .slice none 0 0, .slice AL q.l.length cL]) (fun i => i = W.drew.heap.size) := Chg.setRow _ _ rfl
    go_wp2_with fail
    go_meet
    refine ⟨W.drew.heap.size, (some ⟨x2.heap.size, 0, none⟩), cC, AL, cL, rfl, Lib.hid ⟨hSF.out, by omega, AAX.row _, ?_, fun b e => ?_, ?_, nL, fun b e => ?_⟩⟩
    ·exact src_chg SC kR (fun b o e => by cases e; omega)
    ·have e' := inB_some e
     rw [setRow_size]
     omega
    ·exact Pcs.chg2 PLX kR (fun b o e h0 => by have := fL b (by rw [e]; exact inB_self b o); omega)
    ·have := fL b e
     rw [setRow_size]
     omega
 case rest =>
  obtain ⟨a, Ab, cb, Al, cl, rfl, H0⟩ := hcut
  obtain ⟨i0, z0, hi, hz, hzz, hby, hzs⟩ := ops_info
  have INF := Lib.hid (And.intro hi (And.intro hz (And.intro hzz (And.intro hby hzs))))
  have HPM := Lib.hid hpm
  clear hi hz hzz hby hzs c0 c1 c2 c3 c4 c5 c7 PL ML
  go_wp2
  go_loopw [4] (fun i wr => ∃ (j : Nat) (A' : Option Addr) (c' : Nat), j ≤ q.p.length ∧ i = .int .i64 (j : Int) ∧ Hid (OfL W q a Ab cb Al cl j A' c' wr)) (fun i _ => q.p.length - (intOf i).toNat)
  case atStart => exact ⟨0, none, 0, Nat.zero_le _, rfl, Lib.hid ⟨H0.out, World.ownsRow_nil _ _ _ _, fun b o e => by cases e⟩⟩
  case round =>
   clear H0
   obtain ⟨j, A', c', hj, rfl, HL⟩ := hrel
   have bW : Below W.heap.size W wr := HL.out.1.1
   have c6' := (bW.cell (p := ⟨w.heap.size, 6, none⟩) HH.out).trans c6
   by_cases hlt : j < q.p.length
   ·have hlt' : (j : Int) < (q.p.length : Int) := by omega
    have j0 : (0 : Int) ≤ (j : Int) := by omega
    have xj := IntWalk.i64_in ((j : Int) + 1) (by omega)
    obtain ⟨b, o, hAp, hbl, hr⟩ := (HQ.out.p.new HB.out) j hlt
    have c6r := c6
    rw [hAp] at c6r c6'
    have PB := Lib.hid (show ∀ w' : World, Below W.heap.size W w' → w'.cell? ⟨b, o + j * 4, none⟩ = some (.int .i64 q.p[j].code) ∧ w'.cell? ⟨b, o + j * 4 + 1, none⟩ = some (.int .u32 q.p[j].k) ∧ w'.cell? ⟨b, o + j * 4 + 2, none⟩ = some (.int .i64 q.p[j].t) ∧ w'.cell? ⟨b, o + j * 4 + 3, none⟩ = some (.int .i64 q.p[j].f) from fun w' hb => by
     refine ⟨?_, ?_, ?_, ?_⟩
     ·exact (hb.cell (p := ⟨b, o + j * 4, none⟩) hbl).trans (hr 0 _ rfl)
     ·exact (hb.cell (p := ⟨b, o + j * 4 + 1, none⟩) hbl).trans (hr 1 _ rfl)
     ·exact (hb.cell (p := ⟨b, o + j * 4 + 2, none⟩) hbl).trans (hr 2 _ rfl)
     ·exact (hb.cell (p := ⟨b, o + j * 4 + 3, none⟩) hbl).trans (hr 3 _ rfl))
    have HT := Lib.hid (show flat (q.p.take (j + 1)) = flat (q.p.take j) ++ [.int .i64 q.p[j].code, .int .u32 q.p[j].k, .int .i64 q.p[j].t, .int .i64 q.p[j].f] from by
     rw [List.take_succ_eq_append_getElem hlt, flat_snoc]; rfl)
    have ONE := Lib.hid (show ∀ u ∈ ([.int .i64 q.p[j].code, .int .u32 q.p[j].k, .int .i64 q.p[j].t, .int .i64 q.p[j].f] : List Value), u.oneCell' = true from one_ins q.p[j])
    have HO := Lib.hid (show wr.drew.ownsRow W.heap.size 107 4 (.slice A' j c') j (flat (q.p.take j)) from HL.out.2.1)
    have BA := Lib.hid HL.out.1.2.2.1
    have ca6 := (BA.out.cell 6).trans (show _ = some (.slice A' j c') from rfl)
    have LA := Lib.hid BA.out.lt
    have NA := Lib.hid (show some a ≠ (Value.slice A' j c').ownBlock from fun e => by
     cases A' with
     | none => cases e
     | some ad =>
      obtain ⟨b', o', sp⟩ := ad
      have e' : a = b' := by simpa [Value.ownBlock] using e
      rcases HL.out.2.1.2 with ⟨e1, _⟩ | ⟨g, cap, cur, e1, _⟩
      ·cases e1
      ·cases e1
       exact (HL.out.2.2 b' 0 rfl).1 e'.symm)
    generalize hFL : flat (q.p.take j) = FL at *
    generalize q.p[j].code = oc at *
    generalize q.p[j].k = ok at *
    generalize q.p[j].t = ot at *
    generalize q.p[j].f = of_ at *
    have BS := Lib.hid (show ∀ X : World, (Instr.buildSlice 42 1 #[(0, .agg #[.int .i64 oc, .int .u32 ok, .int .i64 ot, .int .i64 of_])]).run Tryz.prog X = .ok (.slice (some ⟨X.heap.size, 0, none⟩) 1 1) (X.alloc (.cells #[.int .i64 oc, .int .u32 ok, .int .i64 ot, .int .i64 of_] 107)) from fun X => by go_simp)
    have HF := Lib.hid hFL
    have HAP := Lib.hid hAp
    have j63 : j ≤ 1000000 := by omega
    clear hr hFL hAp hpm
    go_upto_region 5 with fail
    have hS := (show Hid (wr.drew.cell? ⟨a, 6, none⟩ = some (.slice A' j c') ∧ Below W.heap.size W wr.drew) from Lib.hid ⟨ca6, bW.drew⟩)
    refine wp_head_held (S := fun w' => Hid (w'.cell? ⟨a, 6, none⟩ = some (.slice A' j c') ∧ Below W.heap.size W w')) 9 (by kernel_rfl) rfl rfl (by kernel_rfl) ?_
    simp only [List.take_succ_cons, List.take_zero, List.drop_succ_cons, List.drop_zero]
    refine ht 0 (some 29) (v := ?_) rfl rfl ?_ hS ?_
    rotate_left
    ·intro w' hSw; go_simp <;> with_reducible rfl
    refine ht 1 (some 30) (v := ?_) rfl rfl ?_ hS ?_
    rotate_left
    ·intro w' hSw; have hc := hSw.out.1; clear hSw; go_simp <;> with_reducible rfl
    simp only [Act.put, List.setIfInBounds_toArray, List.set_cons_zero, List.set_cons_succ]
    refine ht 2 (some 31) (v := ?_) rfl rfl ?_ hS ?_
    rotate_left
    ·intro w' hSw; go_simp <;> with_reducible rfl
    refine ht 3 (some 32) (v := ?_) rfl rfl ?_ hS ?_
    rotate_left
    ·intro w' hSw; have hc := (hSw.out.2.cell (p := ⟨w.heap.size, 6, none⟩) HH.out).trans c6r; clear hSw; go_simp <;> with_reducible rfl
    simp only [Act.put, List.setIfInBounds_toArray, List.set_cons_zero, List.set_cons_succ]
    refine ht 4 (some 33) (v := ?_) rfl rfl ?_ hS ?_
    rotate_left
    ·intro w' hSw; go_simp <;> with_reducible rfl
    refine ht 5 (some 34) (v := ?_) rfl rfl ?_ hS ?_
    rotate_left
    ·intro w' hSw; go_simp <;> with_reducible rfl
    simp only [Act.put, List.setIfInBounds_toArray, List.set_cons_zero, List.set_cons_succ]
    refine ht 6 (some 35) (v := ?_) rfl rfl ?_ hS ?_
    rotate_left
    ·intro w' hSw; obtain ⟨p0, p1, p2, p3⟩ := PB.out w' hSw.out.2; clear hSw; go_simp <;> with_reducible rfl
    simp only [Act.put, List.setIfInBounds_toArray, List.set_cons_zero, List.set_cons_succ]
    refine held_one (i := 7) (by kernel_rfl) rfl (by rfl) ?_
    refine wp_slice_d (d := some 36) (ps := #[(0, .agg #[.int .i64 oc, .int .u32 ok, .int .i64 ot, .int .i64 of_])]) rfl rfl (by go_simp) (BS.out _) ?_
    have hb5 : Below W.heap.size W (wr.drew.alloc (.cells #[.int .i64 oc, .int .u32 ok, .int .i64 ot, .int .i64 of_] 107)) := (bW.drew).alloc bW.size _
    have hS : Hid ((wr.drew.alloc (.cells #[.int .i64 oc, .int .u32 ok, .int .i64 ot, .int .i64 of_] 107)).cell? ⟨a, 6, none⟩ = some (.slice A' j c') ∧ Below W.heap.size W (wr.drew.alloc (.cells #[.int .i64 oc, .int .u32 ok, .int .i64 ot, .int .i64 of_] 107))) := Lib.hid ⟨(World.cell?_of_block (w := wr) (((Below.refl wr.heap.size wr).drew.alloc (Nat.le_refl _) _).block a LA.out)).trans ca6, hb5⟩
    refine ⟨hS, ?_⟩
    (try simp only [Act.put, List.setIfInBounds_toArray, List.set_cons_zero, List.set_cons_succ])
    refine held_one (i := 8) (by kernel_rfl) rfl (by rfl) ?_
    refine wp_append_d (d := some 37) rfl (.tmp 30) (.tmp 36) 42 rfl W.heap.size 107 i0 z0 4 32 Tryz.underlying42 INF.out.1 INF.out.2.1 INF.out.2.2.1 INF.out.2.2.2.1 INF.out.2.2.2.2 (by decide) (.slice A' j c') j FL rfl (HO.out.alloc _) ⟨wr.drew.heap.size, 0, none⟩ 1 1 [.int .i64 oc, .int .u32 ok, .int .i64 ot, .int .i64 of_] rfl rfl (World.news_of_block (Blk.new wr.drew 107 _)) ONE.out (by decide) (by unfold maxLen; omega) (by omega) hb5.size ?_
    intro g6 cap6 w6 o6 k6 at6 l6
    have O6 := Lib.hid o6
    have K6 := Lib.hid k6
    have AT6 := Lib.hid at6
    have L6 := Lib.hid l6
    have hS : Hid (w6.cell? ⟨a, 6, none⟩ = some (.slice A' j c') ∧ Below W.heap.size W w6) := Lib.hid ⟨k6.cell hS.out.1 NA.out, hb5.grown k6 hb5.size (fun k e => (HO.out.lt k e).1)⟩
    refine ⟨hS, ?_⟩
    clear o6 k6 at6 l6
    (try simp only [Act.put, List.setIfInBounds_toArray, List.set_cons_zero, List.set_cons_succ])
    refine wpAnyH_done (by kernel_rfl) ?_ _
    show wpList _ _ _ _ _ _
    have d6 := hS.out.1
    have BA6 := (K6.out.block a (show a < (wr.drew.alloc (.cells #[.int .i64 oc, .int .u32 ok, .int .i64 ot, .int .i64 of_] 107)).heap.size by simp; have := LA.out; omega) NA.out).trans (show (wr.drew.alloc (.cells #[.int .i64 oc, .int .u32 ok, .int .i64 ot, .int .i64 of_] 107)).heap[a]? = _ from (BA.out.drewN 1).alloc _)
    have BA6 : Blk w6 a 45 _ := BA6
    have f6 := BA6.frozen 6
    have HL2 := Lib.hid (show OfL W q a Ab cb Al cl (j + 1) (some ⟨g6, 0, none⟩) cap6 (w6.setCell ⟨a, 6, none⟩ (.slice (some ⟨g6, 0, none⟩) (j + 1) cap6)) from by
     obtain ⟨⟨b1, ha, b3, s4, n5, p6, n7, n8⟩, _, n9⟩ := HL.out
     have hz1 : wr.heap.size < (wr.drew.alloc (.cells #[.int .i64 oc, .int .u32 ok, .int .i64 ot, .int .i64 of_] 107)).heap.size := by simp
     have hg : g6 ≠ a ∧ ¬ inB Ab g6 ∧ ¬ inB Al g6 := by
      rcases AT6.out with h1 | h1
      ·cases A' with
       | none => cases h1
       | some ad =>
        obtain ⟨b', o', sp⟩ := ad
        have e' : b' = g6 := by simpa [Value.ownBlock] using h1
        rcases HL.out.2.1.2 with ⟨e1, _⟩ | ⟨g, cap, cur, e1, _⟩
        ·cases e1
        ·cases e1
         subst e'
         exact n9 b' 0 rfl
      ·exact ⟨by have := LA.out; omega, fun h2 => by have := n5 g6 h2; omega, fun h2 => by have := n8 g6 h2; omega⟩
     have kb : Chg wr w6 (fun i => some i = (Value.slice A' j c').ownBlock) := ⟨K6.out.os, K6.out.tape, K6.out.output, Nat.le_trans (Nat.le_of_lt hz1) K6.out.size, fun i hi hn => (K6.out.block i (Nat.lt_trans hi hz1) hn).trans (((Below.refl wr.heap.size wr).drew.alloc (Nat.le_refl _) _).block i hi)⟩
     have ks : Chg w6 (w6.setCell ⟨a, 6, none⟩ (.slice (some ⟨g6, 0, none⟩) (j + 1) cap6)) (fun i => i = a) := Chg.set _ _ _ rfl
     have far : ∀ b, (inB Ab b ∨ inB Al b) → ¬ some b = (Value.slice A' j c').ownBlock := fun b hb e => by
      cases A' with
      | none => cases e
      | some ad =>
       obtain ⟨b', o', sp⟩ := ad
       have e' : b = b' := by simpa [Value.ownBlock] using e
       rcases HL.out.2.1.2 with ⟨e1, _⟩ | ⟨g, cap, cur, e1, _⟩
       ·cases e1
       ·cases e1
        subst e'
        have := n9 b 0 rfl
        rcases hb with h | h
        ·exact this.2.1 h
        ·exact this.2.2 h
     refine ⟨⟨hS.out.2.setCell ha _, ha, BA6.put 6 _, src_chg (src_chg s4 kb (fun b o e => far b (.inl (by rw [e]; exact inB_self b o)))) ks (fun b o e => (n5 b (by rw [e]; exact inB_self b o)).2.2), fun b e => ?_, Pcs.chg2 (Pcs.chg2 p6 kb (fun b o e _ => far b (.inr (by rw [e]; exact inB_self b o)))) ks (fun b o e _ => (n8 b (by rw [e]; exact inB_self b o)).2.2), n7, fun b e => ?_⟩, ?_, fun b o e => ?_⟩
     ·have h5 := n5 b e; have := kb.size; exact ⟨h5.1, by simp [World.setCell]; omega, h5.2.2⟩
     ·have h5 := n8 b e; have := kb.size; exact ⟨h5.1, by simp [World.setCell]; omega, h5.2.2⟩
     ·have o6 := O6.out
      rw [← HT.out] at o6
      exact o6.kept (w' := w6.setCell ⟨a, 6, none⟩ (.slice (some ⟨g6, 0, none⟩) (j + 1) cap6)) (row := some a) ⟨rfl, rfl, rfl, by simp [World.setCell], fun k hk hn => Below.heap_setCell w6 _ _ k (fun e => hn (by rw [e]))⟩ (.inr (by simp [Value.ownBlock]; exact hg.1))
     ·cases e; exact hg)
    clear HL BA6 BA PB HO K6 O6 AT6 L6 NA LA HT ONE BS HF hS bW c6'
    go_wp2
    go_roundw
    case rel => exact ⟨j + 1, _, _, by omega, by simp, HL2⟩
    case measure => simp [intOf]; omega
   ·have hge : ¬ (j : Int) < (q.p.length : Int) := by omega
    obtain rfl : j = q.p.length := by omega
    have BA := Lib.hid HL.out.1.2.2.1
    have BX := Lib.hid (BR.out.older (older_below bW))
    have HL1 := Lib.hid (show w.heap.size + 1 < W.heap.size from BR.out.lt)
    clear bW
    go_wp2_with (first
     | (refine wpList_load_row rfl 45 (.tmp 3) rfl a rfl 45 _ (0, 0) _ BA.out Tryz.underlying45 rfl cinfo ?_)
     | (refine wpList_store_row rfl 45 (.tmp 2) (.tmp 39) rfl (w.heap.size + 1) #[.int .i64 q.op, .int .i64 q.env, .int .i64 q.a, .int .i64 q.b, .int .i64 q.c, .slice Ab q.s.size cb, .slice A' q.p.length c', .slice Al q.l.length cl] rfl rfl 45 _ BX.out cinfo rfl (one8 _ _ _ _ _ _ _ _ _ _ _ _ _ _) ?_)
     | fail)
    refine bodyPost_ret (v := .agg #[.int .i64 q.op, .int .i64 q.env, .int .i64 q.a, .int .i64 q.b, .int .i64 q.c, .slice Ab q.s.size cb, .slice A' q.p.length c', .slice Al q.l.length cl]) (results_cell_row Tryz.results9 _ _ (w.heap.size + 1) 45 _ (0, 0) _ rfl (BX.out.row _) Tryz.underlying45 rfl cinfo) rfl ?_
    obtain ⟨⟨b1, ha, b3, s4, n5, p6, n7, n8⟩, ho, n9⟩ := HL.out
    have hl1 := HL1.out
    have kR : Chg wr (wr.setRow (w.heap.size + 1) #[.int .i64 q.op, .int .i64 q.env, .int .i64 q.a, .int .i64 q.b, .int .i64 q.c, .slice Ab q.s.size cb, .slice A' q.p.length c', .slice Al q.l.length cl]) (fun i => i = w.heap.size + 1) := Chg.setRow _ _ rfl
    rw [List.take_length] at ho
    have hlt := ho.lt
    have hnone : A' = none → q.p = [] ∧ c' = 0 := fun e => by
     subst e
     rcases ho.2 with ⟨e1, e2⟩ | ⟨g, cap, cur, e1, _⟩
     ·injection e1 with _ _ e3
      exact ⟨List.length_eq_zero_iff.1 e2, e3⟩
     ·cases e1
    obtain ⟨A2, c2, e2, hp2⟩ := prg_of_owns ho
    cases e2
    refine ⟨⟨Ab, cb, A', c', Al, cl⟩, rfl, ⟨below_setRow (HB.out.trans (b1.mono HB.out.size)) (by omega) _, src_chg s4 kR (fun b o e => by have e' : Ab = some ⟨b, o, none⟩ := e; have := n5 b (by rw [e']; exact inB_self b o); omega), fun b e => ?_, prg_chg hp2 kR (fun b o e _ => by have e' : A' = some ⟨b, o, none⟩ := e; have := hlt b (by rw [e']; rfl); omega), hnone, Pcs.chg2 p6 kR (fun b o e _ => by have e' : Al = some ⟨b, o, none⟩ := e; have := n8 b (by rw [e']; exact inB_self b o); omega), fun b e => ?_, n7.1, n7.2⟩⟩
    ·have := n5 b e; rw [setRow_size]; omega
    ·have := n8 b e; rw [setRow_size]; omega
end Go.Proofs.YtbkjjakkihbcdaaGreat.Ke

/- The law's Far and far; the chapter's example. Conditions: those that each states. -/
namespace Go.Proofs.YtbkjjakkihbcdaaGreat.Ke
open Go.ChangeShapes Go.WideShapes Go.ChangeAt Go.RowKit Go.Deep Fr Di
set_option linter.unusedVariables false
def Near (q : KC) : Prop := q.s.size ≤ 1000 ∧ q.p.length ≤ 100 ∧ q.l.length ≤ 100
instance (q : KC) : Decidable (Near q) := inferInstanceAs (Decidable (_ ∧ _))
set_option maxRecDepth 100000 in
theorem kfar_any (q : KC) (v : Bool) (hv : v = true ↔ ¬ Near q) (w : World) :
  Calls Tryz.prog 19 #[.agg #[.int .i64 q.op, .int .i64 q.env, .int .i64 q.a, .int .i64 q.b, .int .i64 q.c, .string q.s, .slice q.Ap q.p.length q.cp, .slice q.Al q.l.length q.cl]] w fun e w' => e = .returned (.bool v) ∧ Below w.heap.size w w' := by
 obtain ⟨W, hW⟩ : ∃ W, W = w.alloc (.cells #[.int .i64 q.op, .int .i64 q.env, .int .i64 q.a, .int .i64 q.b, .int .i64 q.c, .string q.s, .slice q.Ap q.p.length q.cp, .slice q.Al q.l.length q.cl] 34) := ⟨_, rfl⟩
 have hb : Below w.heap.size w W := by rw [hW]; exact (Below.refl _ w).alloc (Nat.le_refl _) _
 have bq : Blk W w.heap.size 34 #[.int .i64 q.op, .int .i64 q.env, .int .i64 q.a, .int .i64 q.b, .int .i64 q.c, .string q.s, .slice q.Ap q.p.length q.cp, .slice q.Al q.l.length q.cl] := by rw [hW]; exact Blk.new w _ _
 have c5 := (bq.cell 5).trans (show _ = some (.string q.s) from rfl)
 have c6 := (bq.cell 6).trans (show _ = some (.slice q.Ap q.p.length q.cp) from rfl)
 have c7 := (bq.cell 7).trans (show _ = some (.slice q.Al q.l.length q.cl) from rfl)
 have HW := Lib.hid hW
 have HB := Lib.hid hb
 clear hW hb bq
 by_cases h1 : q.s.size ≤ 1000
 ·have g1 : ¬ (q.s.size : Int) > 1000 := by omega
  by_cases h2 : q.p.length ≤ 100
  ·have g2 : ¬ (q.p.length : Int) > 100 := by omega
   by_cases h3 : q.l.length ≤ 100
   ·have g3 : ¬ (q.l.length : Int) > 100 := by omega
    have ev : v = false := by
     cases v
     ·rfl
     ·exact absurd ⟨h1, h2, h3⟩ (hv.1 rfl)
    subst ev
    clear hv h1 h2 h3
    go_enter Tryz.func19, Tryz.ntmps19
    go_upto_region 1 with fail
    rw [show w.alloc (.cells #[.int .i64 q.op, .int .i64 q.env, .int .i64 q.a, .int .i64 q.b, .int .i64 q.c, .string q.s, .slice q.Ap q.p.length q.cp, .slice q.Al q.l.length q.cl] 34) = W from HW.out.symm]
    go_wp2
    go_ret
    exact ⟨rfl, HB.out⟩
   ·have g3 : (q.l.length : Int) > 100 := by omega
    have ev : v = true := hv.2 (fun h => h3 h.2.2)
    subst ev
    clear hv h1 h2 h3
    go_enter Tryz.func19, Tryz.ntmps19
    go_upto_region 1 with fail
    rw [show w.alloc (.cells #[.int .i64 q.op, .int .i64 q.env, .int .i64 q.a, .int .i64 q.b, .int .i64 q.c, .string q.s, .slice q.Ap q.p.length q.cp, .slice q.Al q.l.length q.cl] 34) = W from HW.out.symm]
    go_wp2
    go_ret
    exact ⟨rfl, HB.out⟩
  ·have g2 : (q.p.length : Int) > 100 := by omega
   have ev : v = true := hv.2 (fun h => h2 h.2.1)
   subst ev
   clear hv h1 h2
   go_enter Tryz.func19, Tryz.ntmps19
   go_upto_region 1 with fail
   rw [show w.alloc (.cells #[.int .i64 q.op, .int .i64 q.env, .int .i64 q.a, .int .i64 q.b, .int .i64 q.c, .string q.s, .slice q.Ap q.p.length q.cp, .slice q.Al q.l.length q.cl] 34) = W from HW.out.symm]
   go_wp2
   go_ret
   exact ⟨rfl, HB.out⟩
 ·have g1 : (q.s.size : Int) > 1000 := by omega
  have ev : v = true := hv.2 (fun h => h1 h.1)
  subst ev
  clear hv h1
  go_enter Tryz.func19, Tryz.ntmps19
  go_upto_region 1 with fail
  rw [show w.alloc (.cells #[.int .i64 q.op, .int .i64 q.env, .int .i64 q.a, .int .i64 q.b, .int .i64 q.c, .string q.s, .slice q.Ap q.p.length q.cp, .slice q.Al q.l.length q.cl] 34) = W from HW.out.symm]
  go_wp2
  go_ret
  exact ⟨rfl, HB.out⟩
theorem kact_q {w : World} {b o : Nat} {a : KAct} (h : w.rangeAt b o a.list) : w.rangeAt b (o + 1) a.q.list := by
 intro j v hj
 have := h (j + 1) v (by
  show (Value.int .i64 a.kind :: (a.q.list ++ [.string a.s]))[j + 1]? = some v
  rw [List.getElem?_cons_succ, List.getElem?_append_left (List.getElem?_eq_some_iff.1 hj).1]
  exact hj)
 rw [show o + 1 + j = o + (j + 1) by omega]
 exact this
theorem kact_kind {w : World} {b o : Nat} {a : KAct} (h : w.rangeAt b o a.list) : w.cell? ⟨b, o, none⟩ = some (.int .i64 a.kind) := h 0 _ rfl
theorem kact_s {w : World} {b o : Nat} {a : KAct} (h : w.rangeAt b o a.list) : w.cell? ⟨b, o + 9, none⟩ = some (.string a.s) := h 9 _ rfl
theorem rcall_info : (Tryz.prog.info? 34).map (·.size) = some 8 := by kernel_rfl
def NearL (n : Nat) (fn : Nat → KAct) : Prop := n ≤ 100 ∧ ∀ i, i < n → Near (fn i).q ∧ (fn i).s.size ≤ 2000
set_option maxRecDepth 100000 in
set_option maxHeartbeats 1000000 in
theorem far_any (w : World) (A : Option Addr) (n c : Nat) (fn : Nat → KAct) (h : KActs w A n fn) (v : Bool) (hv : v = true ↔ ¬ NearL n fn) :
  Calls Tryz.prog 5 #[.slice A n c] w fun e w' => e = .returned (.bool v) ∧ Below w.heap.size w w' := by
 have HV := Lib.hid hv
 clear hv
 have HA := Lib.hid h
 have B0 := Lib.hid (Below.refl w.heap.size w)
 clear h
 by_cases hn : n ≤ 100
 ·have g1 : ¬ (n : Int) > 100 := by omega
  go_enter Tryz.func5, Tryz.ntmps5
  go_wp2
  go_loopw [3] (fun i wr => ∃ (j : Nat), j ≤ n ∧ i = .int .i64 (j : Int) ∧ Hid (∀ x, x < j → Near (fn x).q ∧ (fn x).s.size ≤ 2000) ∧ Hid (Below w.heap.size w wr)) (fun i _ => n - (intOf i).toNat)
  case atStart => exact ⟨0, Nat.zero_le _, rfl, Lib.hid (fun _ h => absurd h (by omega)), B0⟩
  case round =>
   clear B0
   obtain ⟨j, hj, rfl, HM, HB⟩ := hrel
   have hgs : w.heap.size ≤ wr.heap.size := HB.out.size
   by_cases hlt : j < n
   ·have hlt' : (j : Int) < (n : Int) := by omega
    have j0 : (0 : Int) ≤ (j : Int) := by omega
    have x1 := IntWalk.i64_in ((j : Int) + 1) (by omega)
    obtain ⟨b, o, rfl, hbl, hr, hin, hs9⟩ := HA.out j hlt
    have LD := Lib.hid (show wr.rangeAt b (o + j * 10 + 1) (fn j).q.list from fun i v hi => by
     rw [World.cell?_of_block (w := w) (w' := wr) (a := ⟨b, o + j * 10 + 1 + i, none⟩) (HB.out.block b hbl)]
     exact kact_q hr i v hi)
    have h9 := kact_s hr
    have HM2 := Lib.hid (fun (h1 : Near (fn j).q) (h2 : (fn j).s.size ≤ 2000) => show ∀ x, x < j + 1 → Near (fn x).q ∧ (fn x).s.size ≤ 2000 from fun x hx => by
     by_cases e : x = j
     ·subst e; exact ⟨h1, h2⟩
     ·exact HM.out x (by omega))
    have NO := Lib.hid (show ¬ (Near (fn j).q ∧ (fn j).s.size ≤ 2000) → v = true from fun h1 => HV.out.2 (fun h2 => h1 (h2.2 j hlt)))
    generalize (fn j).q = q at *
    generalize (fn j).s = s at *
    clear hr hin hs9
    by_cases h1 : Near q
    ·have FA := Lib.hid (kfar_any q false ⟨fun h => absurd h (by decide), fun h => absurd h1 h⟩ wr)
     go_wp2_with (first
      | (refine wpList_load_mid rfl 34 (.tmp 16) rfl b (o + j * 10 + 1) rfl _ _ LD.out Tryz.underlying34 rfl rcall_info ?_)
      | fail)
     refine FA.out.mono ?_; rintro e w1 ⟨rfl, b1⟩
     have HB1 := Lib.hid (HB.out.trans (b1.mono hgs))
     have d9 := (HB1.out.cell (p := ⟨b, o + j * 10 + 9, none⟩) hbl).trans h9
     clear b1
     by_cases h2 : s.size ≤ 2000
     ·have g2 : ¬ (s.size : Int) > 2000 := by omega
      have HM3 := Lib.hid (HM2.out h1 h2)
      clear HM2 NO h1 h2 HM
      go_wp2
      go_roundw
      case rel => exact ⟨j + 1, by omega, by simp, HM3, HB1⟩
      case measure => simp [intOf]; omega
     ·have g2 : (s.size : Int) > 2000 := by omega
      have EV := Lib.hid (NO.out (fun h => h2 h.2))
      clear HM2 NO h1 h2 HM
      go_wp2
      go_ret
      exact ⟨by rw [EV.out]; rfl, HB1.out⟩
    ·have FA := Lib.hid (kfar_any q true ⟨fun _ => h1, fun _ => rfl⟩ wr)
     have EV := Lib.hid (NO.out (fun h => h1 h.1))
     clear HM2 NO h1 HM
     go_wp2_with (first
      | (refine wpList_load_mid rfl 34 (.tmp 16) rfl b (o + j * 10 + 1) rfl _ _ LD.out Tryz.underlying34 rfl rcall_info ?_)
      | fail)
     refine FA.out.mono ?_; rintro e w1 ⟨rfl, b1⟩
     have HB1 := Lib.hid (HB.out.trans (b1.mono hgs))
     clear b1
     go_wp2
     go_ret
     exact ⟨by rw [EV.out]; rfl, HB1.out⟩
   ·have hge : ¬ (j : Int) < (n : Int) := by omega
    have EV := Lib.hid (show v = false from by
     cases hvv : v
     ·rfl
     ·exact absurd ⟨hn, fun i hi => HM.out i (by omega)⟩ (HV.out.1 hvv))
    go_wp2
    go_ret
    exact ⟨by rw [EV.out]; rfl, HB.out⟩
 ·have g1 : (n : Int) > 100 := by omega
  have EV := Lib.hid (show v = true from HV.out.2 (fun h => hn h.1))
  clear hn
  go_enter Tryz.func5, Tryz.ntmps5
  go_wp2
  go_ret
  exact ⟨by rw [EV.out]; rfl, B0.out⟩

def bare (op env a b c : Int) : KQ := ⟨op, env, a, b, c, [], [], []⟩
def noX : KX := ⟨none, 0, none, 0, none, 0⟩
theorem bare_in (w : World) (lab : Nat → Nat) (op env a b c : Int) (hb : -9223372036854775808 ≤ b ∧ b ≤ 9223372036854775807) : (bare op env a b c).In w lab noX :=
 ⟨hb, Src.nil w, fun b o e => (by cases e), fun i hi => absurd hi (by simp [bare]), fun _ => ⟨rfl, rfl⟩, by simp [bare], fun p hp => (by cases hp), fun i hi => absurd hi (by simp [bare]), fun p hp => (by cases hp), fun b o e => (by cases e), Nat.le_refl _, by simp [bare]⟩
theorem newK_small (n b : Nat) : (newK n b).Small 0 := ⟨Nat.le_refl _, Nat.le_refl _, Nat.le_refl _, Nat.le_refl _, Nat.le_refl _, Nat.le_refl _⟩
theorem alloc_new (n : Nat) (hn : 1 ≤ n) (env : Int) (he : isE env) : Fr.allocR (List.replicate n Pg.blank) env = ((List.replicate n Pg.blank).set 0 { Pg.blank with owner := env.toNat }, 0, 0) := by
 unfold Fr.allocR
 have e : (List.replicate n Pg.blank).findIdx? (fun p => p.owner == 0) = some 0 := by
  rw [List.findIdx?_eq_some_iff_getElem]
  exact ⟨by rw [List.length_replicate]; omega, by rw [List.getElem_replicate]; rfl, fun j hj => absurd hj (by omega)⟩
 rw [if_pos he, e]
 have e2 : pg (List.replicate n Pg.blank) ((0 : Nat) : Int) = Pg.blank := by
  rw [pg_at (k := 0) (by rw [List.length_replicate]; omega), List.getElem_replicate]
 show ((List.replicate n Pg.blank).set 0 { pg (List.replicate n Pg.blank) ((0 : Nat) : Int) with owner := env.toNat }, ((0 : Nat) : Int), (0 : Int)) = _
 rw [e2]
 rfl
end Go.Proofs.YtbkjjakkihbcdaaGreat.Ke

/- What calls to a kernel keep. Conditions: those that each states. -/
namespace Go.Proofs.YtbkjjakkihbcdaaGreat.Ke
open Go.ChangeShapes Go.WideShapes Go.ChangeAt Go.RowKit Go.Deep Fr Di
set_option linter.unusedVariables false

theorem ite_all {α : Type} {c : Prop} [Decidable c] {P : α → Prop} {x y : α} (h1 : c → P x) (h2 : ¬ c → P y) : P (if c then x else y) := by
 by_cases h : c
 ·rw [if_pos h]; exact h1 h
 ·rw [if_neg h]; exact h2 h
/-! Small. -/
theorem Kn.Small.mono {K : Kn} {n m : Nat} (h : K.Small n) (k : n ≤ m) : K.Small m := ⟨Nat.le_trans h.next k, Nat.le_trans h.a1 k, Nat.le_trans h.a2 k, Nat.le_trans h.out k, Nat.le_trans h.done k, Nat.le_trans h.line k⟩
theorem write_line (d : Dk) (env block : Int) (s : List UInt8) : (writeR d env block s).1.line.length ≤ d.line.length + 1 := by
 unfold writeR
 split
 ·split
  ·split
   ·show d.line.length ≤ _; omega
   ·show (d.line ++ [_]).length ≤ _; simp
  ·show d.line.length ≤ _; omega
 ·show d.line.length ≤ _; omega
theorem sync_line (d : Dk) : (syncR d).1.line.length ≤ d.line.length := by
 unfold syncR
 split
 ·show ([] : List Wr).length ≤ _; simp
 ·exact Nat.le_refl _
theorem small_call {K : Kn} {n : Nat} (h : K.Small n) (q : KQ) : (callR K q).1.Small (n + 1) := by
 have h1 := h.next; have h2 := h.a1; have h3 := h.a2; have h4 := h.out; have h5 := h.done; have h6 := h.line
 have hm := h.mono (Nat.le_succ n)
 unfold callR
 refine ite_all (P := fun (z : Kn × Int × List UInt8 × Int) => z.1.Small (n + 1)) (fun c0 => ?_) (fun c0 => ?_)
 ·exact hm
 refine ite_all (P := fun (z : Kn × Int × List UInt8 × Int) => z.1.Small (n + 1)) (fun c1 => ?_) (fun c1 => ?_)
 ·exact ⟨hm.next, hm.a1, hm.a2, hm.out, hm.done, hm.line⟩
 refine ite_all (P := fun (z : Kn × Int × List UInt8 × Int) => z.1.Small (n + 1)) (fun c2 => ?_) (fun c2 => ?_)
 ·exact ⟨hm.next, hm.a1, hm.a2, hm.out, hm.done, hm.line⟩
 refine ite_all (P := fun (z : Kn × Int × List UInt8 × Int) => z.1.Small (n + 1)) (fun c3 => ?_) (fun c3 => ?_)
 ·exact ⟨hm.next, hm.a1, hm.a2, hm.out, hm.done, hm.line⟩
 refine ite_all (P := fun (z : Kn × Int × List UInt8 × Int) => z.1.Small (n + 1)) (fun c4 => ?_) (fun c4 => ?_)
 ·exact hm
 refine ite_all (P := fun (z : Kn × Int × List UInt8 × Int) => z.1.Small (n + 1)) (fun c5 => ?_) (fun c5 => ?_)
 ·exact ⟨hm.next, hm.a1, hm.a2, hm.out, hm.done, hm.line⟩
 refine ite_all (P := fun (z : Kn × Int × List UInt8 × Int) => z.1.Small (n + 1)) (fun c6 => ?_) (fun c6 => ?_)
 ·exact hm
 refine ite_all (P := fun (z : Kn × Int × List UInt8 × Int) => z.1.Small (n + 1)) (fun c7 => ?_) (fun c7 => ?_)
 ·exact ⟨hm.next, hm.a1, hm.a2, hm.out, hm.done, Nat.le_trans (write_line _ _ _ _) (by omega)⟩
 refine ite_all (P := fun (z : Kn × Int × List UInt8 × Int) => z.1.Small (n + 1)) (fun c8 => ?_) (fun c8 => ?_)
 ·exact ⟨hm.next, hm.a1, hm.a2, hm.out, hm.done, Nat.le_trans (sync_line _) (by omega)⟩
 refine ite_all (P := fun (z : Kn × Int × List UInt8 × Int) => z.1.Small (n + 1)) (fun c9 => ?_) (fun c9 => ?_)
 ·unfold bindR
  split
  ·exact hm
  ·split
   ·exact ⟨by show K.next + 1 ≤ n + 1; omega, hm.a1, hm.a2, hm.out, hm.done, hm.line⟩
   ·exact hm
 refine ite_all (P := fun (z : Kn × Int × List UInt8 × Int) => z.1.Small (n + 1)) (fun c10 => ?_) (fun c10 => ?_)
 ·unfold unbindR
  split
  ·exact ⟨hm.next, hm.a1, hm.a2, hm.out, hm.done, hm.line⟩
  ·exact hm
 refine ite_all (P := fun (z : Kn × Int × List UInt8 × Int) => z.1.Small (n + 1)) (fun c11 => ?_) (fun c11 => ?_)
 ·unfold submitR
  split
  ·exact hm
  ·split
   ·exact ⟨hm.next, hm.a1, hm.a2, by show K.f3 + (K.out ++ [_]).length ≤ _; simp; omega, hm.done, hm.line⟩
   ·exact hm
 refine ite_all (P := fun (z : Kn × Int × List UInt8 × Int) => z.1.Small (n + 1)) (fun c12 => ?_) (fun c12 => ?_)
 ·unfold takeR
  split
  ·split
   ·rename_i s r hr
    rw [hr] at h2
    exact ⟨hm.next, by show K.f1 + 1 + r.length ≤ _; simp at h2; omega, hm.a2, hm.out, hm.done, hm.line⟩
   ·exact hm
  ·split
   ·rename_i s r hr
    rw [hr] at h3
    exact ⟨hm.next, hm.a1, by show K.f2 + 1 + r.length ≤ _; simp at h3; omega, hm.out, hm.done, hm.line⟩
   ·exact hm
 refine ite_all (P := fun (z : Kn × Int × List UInt8 × Int) => z.1.Small (n + 1)) (fun c13 => ?_) (fun c13 => ?_)
 ·exact hm
 ·exact hm
theorem small_arrive {K : Kn} {n : Nat} (h : K.Small n) (s : List UInt8) : (arriveR K s).1.Small (n + 1) := by
 have h2 := h.a1; have h3 := h.a2
 have hm := h.mono (Nat.le_succ n)
 unfold arriveR
 split
 ·exact hm
 split
 ·exact hm
 split
 ·split
  ·exact hm
  ·exact ⟨hm.next, by show K.f1 + (K.i1 ++ [s]).length ≤ _; simp; omega, hm.a2, hm.out, hm.done, hm.line⟩
 ·split
  ·exact hm
  ·exact ⟨hm.next, hm.a1, by show K.f2 + (K.i2 ++ [s]).length ≤ _; simp; omega, hm.out, hm.done, hm.line⟩
theorem small_depart {K : Kn} {n : Nat} (h : K.Small n) : (departR K).1.Small (n + 1) := by
 have h4 := h.out; have h5 := h.done
 have hm := h.mono (Nat.le_succ n)
 unfold departR
 split
 ·exact hm
 ·rename_i t r hr
  rw [hr] at h4
  exact ⟨hm.next, hm.a1, hm.a2, by show K.f3 + 1 + r.length ≤ _; simp at h4; omega, by show K.done + 1 ≤ _; omega, hm.line⟩

/-! Ok. -/
structure Kept (ps qs : List Pg) : Prop where
 len : qs.length = ps.length
 hold : ∀ k (h : k < ps.length) (h' : k < qs.length), qs[k].holds = ps[k].holds
 stay : ∀ k (h : k < ps.length) (h' : k < qs.length), ps[k].holds ≠ 0 → qs[k] = ps[k]
 ok : ∀ p ∈ qs, p.Ok
theorem Kept.refl {ps : List Pg} (h : ∀ p ∈ ps, p.Ok) : Kept ps ps := ⟨rfl, fun _ _ _ => rfl, fun _ _ _ _ => rfl, h⟩
theorem Kept.set {ps : List Pg} (h : ∀ p ∈ ps, p.Ok) {k : Nat} (hk : k < ps.length) (h0 : ps[k].holds = 0) {p : Pg} (hp : p.Ok) (hp0 : p.holds = 0) : Kept ps (ps.set k p) := by
 refine ⟨by simp, fun i hi h' => ?_, fun i hi h' hn => ?_, fun q hq => ?_⟩
 ·rw [List.getElem_set]
  split
  ·rename_i e; subst e; rw [hp0, h0]
  ·rfl
 ·rw [List.getElem_set]
  split
  ·rename_i e; subst e; exact absurd h0 hn
  ·rfl
 ·rcases List.mem_or_eq_of_mem_set hq with h1 | rfl
  ·exact h q h1
  ·exact hp
theorem cnt_zero {l : List Pc} {f : Int} (h : cnt l f ≠ 0) : ∃ p ∈ l, p.frame = f := by
 have h1 : 0 < cnt l f := by omega
 obtain ⟨p, hp, e⟩ := List.countP_pos_iff.1 h1
 exact ⟨p, hp, by simpa using e⟩
theorem heldN_pos {o : List Tr} {f : Int} (h : heldN o f ≠ 0) : ∃ t ∈ o, ∃ p ∈ t.l, p.frame = f := by
 induction o with
 | nil => exact absurd rfl h
 | cons t o ih =>
  rw [heldN_cons] at h
  by_cases h1 : cnt t.l f = 0
  ·obtain ⟨u, hu, p, hp, e⟩ := ih (by omega)
   exact ⟨u, List.mem_cons_of_mem _ hu, p, hp, e⟩
  ·obtain ⟨p, hp, e⟩ := cnt_zero h1
   exact ⟨t, List.mem_cons_self, p, hp, e⟩
theorem Kn.Ok.whose {K : Kn} (ok : K.Ok) {k : Nat} (hk : k < K.ps.length) (h : K.ps[k].holds ≠ 0) : ∃ t ∈ K.out, K.ps[k].owner = t.env ∧ 1 ≤ t.env := by
 rw [ok.holds k hk] at h
 obtain ⟨t, ht, p, hp, e⟩ := heldN_pos h
 have := (ok.out t ht).own p hp
 rw [e, pg_at hk] at this
 exact ⟨t, ht, this, (ok.out t ht).e1⟩
theorem Kn.Ok.setPs {K : Kn} (ok : K.Ok) {qs : List Pg} (h : Kept K.ps qs) : ({ K with ps := qs } : Kn).Ok := by
 refine ⟨ok.f8, ok.fs, ok.n1, ok.n2, ok.no, ok.s1, ok.s2, fun t ht => ?_, fun k hk => ?_, ok.on, ok.arm, h.ok, ok.dok, ok.f3⟩
 ·have o := ok.out t ht
  refine ⟨o.ne, o.n, o.ok, fun p hp => by show p.Fits qs.length; rw [h.len]; exact o.fits p hp, fun p hp => ?_, o.e1, o.e2⟩
  obtain ⟨k, hk, e, h1, h2⟩ := ok.held ht hp
  have hk' : k < qs.length := by rw [h.len]; exact hk
  have := o.own p hp
  rw [e, pg_at hk] at this
  show (pg qs p.frame).owner = t.env
  rw [e, pg_at hk', h.stay k hk hk' (by omega)]
  exact this
 ·have hk' : k < K.ps.length := by rw [← h.len]; exact hk
  exact (h.hold k hk' hk).trans (ok.holds k hk')
section
variable {K : Kn}
theorem kept_alloc (ok : K.Ok) (env : Int) : Kept K.ps (Fr.allocR K.ps env).1 := by
 unfold Fr.allocR
 split
 ·rename_i he
  split
  ·rename_i k hk
   obtain ⟨hl, h0, _⟩ := List.findIdx?_eq_some_iff_getElem.1 hk
   have hpo := ok.pok _ (List.getElem_mem hl)
   have hz : K.ps[k].holds = 0 := by
    by_cases hn : K.ps[k].holds = 0
    ·exact hn
    ·obtain ⟨t, _, h1, h2⟩ := ok.whose hl hn
     have : K.ps[k].owner = 0 := by simpa using h0
     omega
   refine Kept.set ok.pok hl hz ?_ ?_
   ·rw [pg_at hl]
    exact ⟨by show env.toNat ≤ 2; rcases he with h | h <;> omega, hpo.h, hpo.t⟩
   ·rw [pg_at hl]; exact hz
  ·exact Kept.refl ok.pok
 ·exact Kept.refl ok.pok
theorem kept_free (ok : K.Ok) (env f : Int) : Kept K.ps (Fr.freeR K.ps env f).1 := by
 unfold Fr.freeR
 split
 ·rename_i he
  obtain ⟨k, hk, rfl, hE, ho⟩ := ownErr_zero he
  rw [pg_at hk]
  split
  ·rename_i h0
   exact Kept.set ok.pok hk h0 Pg.blank_ok rfl
  ·exact Kept.refl ok.pok
 ·exact Kept.refl ok.pok
theorem kept_give (ok : K.Ok) (env f dst : Int) : Kept K.ps (Fr.giveR K.ps env f dst).1 := by
 unfold Fr.giveR
 split
 ·rename_i he
  obtain ⟨k, hk, rfl, hE, ho⟩ := ownErr_zero he
  have hpo := ok.pok _ (List.getElem_mem hk)
  rw [pg_at hk]
  split
  ·rename_i ht
   split
   ·rename_i h0
    exact Kept.set ok.pok hk h0 ⟨by show dst.toNat ≤ 2; rcases ht with h | h <;> omega, hpo.h, hpo.t⟩ h0
   ·exact Kept.refl ok.pok
  ·exact Kept.refl ok.pok
 ·exact Kept.refl ok.pok
theorem kept_write (ok : K.Ok) (env f off : Int) (s : List UInt8) : Kept K.ps (Fr.writeR K.ps env f off s).1 := by
 unfold Fr.writeR
 split
 ·rename_i he
  obtain ⟨k, hk, rfl, hE, ho⟩ := ownErr_zero he
  have hpo := ok.pok _ (List.getElem_mem hk)
  rw [pg_at hk]
  split
  ·rename_i hin
   split
   ·rename_i h0
    have h1 := hin.1; have h2 := hin.2.2
    have ht := hpo.t
    exact Kept.set ok.pok hk h0 ⟨hpo.o, hpo.h, by show (K.ps[k].text.take _ ++ s ++ K.ps[k].text.drop _).length = 256; simp [ht]; omega⟩ h0
   ·exact Kept.refl ok.pok
  ·exact Kept.refl ok.pok
 ·exact Kept.refl ok.pok
theorem ok_dk (ok : K.Ok) {d : Dk} (h1 : d.on = true) (h2 : d.armed = -1) (h3 : d.Ok) : ({ K with dk := d } : Kn).Ok :=
 ⟨ok.f8, ok.fs, ok.n1, ok.n2, ok.no, ok.s1, ok.s2, ok.out, ok.holds, h1, h2, ok.pok, h3, ok.f3⟩
theorem ok_write (ok : K.Ok) (env block : Int) (s : List UInt8) : ({ K with dk := (writeR K.dk env block s).1 } : Kn).Ok := by
 unfold writeR
 split
 ·rename_i he
  obtain ⟨_, b, rfl, hb, _⟩ := askE_zero he
  split
  ·rename_i hs
   rw [if_neg (by rw [ok.arm]; decide)]
   refine ok_dk ok ok.on ?_ (by rw [Int.toNat_natCast]; exact ok.dok.laid hb hs (by rw [ok.arm]; decide))
   show (if K.dk.armed = -1 then -1 else K.dk.armed - 1) = -1
   rw [if_pos ok.arm]
  ·exact ok_dk ok ok.on ok.arm ok.dok
 ·exact ok_dk ok ok.on ok.arm ok.dok
theorem ok_sync (ok : K.Ok) : ({ K with dk := (syncR K.dk).1 } : Kn).Ok := by
 unfold syncR
 rw [if_pos ok.on]
 exact ok_dk ok ok.on ok.arm (ok.dok.settle _)
theorem ok_bind (ok : K.Ok) (env : Int) (he : env = 1 ∨ env = 2) (p : List Ins) (hp : ∀ q ∈ p, q.Ok) : (bindR K env p).1.Ok := by
 unfold bindR
 split
 ·exact ok
 ·rename_i h8
  split
  ·rename_i hc
   refine ⟨by show (K.fs ++ [_]).length ≤ 8; simp; omega, fun f hf => ?_, ok.n1, ok.n2, ok.no, ok.s1, ok.s2, ok.out, ok.holds, ok.on, ok.arm, ok.pok, ok.dok, ok.f3⟩
   rcases List.mem_append.1 hf with h1 | h1
   ·exact ok.fs f h1
   ·rw [List.mem_singleton.1 h1]
    exact ⟨(chkB_iff p).1 hc, hp, by show 1 ≤ env.toNat; omega, by show env.toNat ≤ 2; omega⟩
  ·exact ok
theorem ok_unbind (ok : K.Ok) (env id : Int) : (unbindR K env id).1.Ok := by
 unfold unbindR
 split
 ·exact ⟨Nat.le_trans (by show (K.fs.eraseIdx _).length ≤ K.fs.length; rw [List.length_eraseIdx]; split <;> omega) ok.f8, fun f hf => ok.fs f (List.mem_of_mem_eraseIdx hf), ok.n1, ok.n2, ok.no, ok.s1, ok.s2, ok.out, ok.holds, ok.on, ok.arm, ok.pok, ok.dok, ok.f3⟩
 ·exact ok
theorem ok_take (ok : K.Ok) (env : Int) : (takeR K env).1.Ok := by
 have h1 := ok.n1; have h2 := ok.n2
 unfold takeR
 split
 ·split
  ·rename_i s r hr
   rw [hr] at h1
   exact ⟨ok.f8, ok.fs, by show r.length ≤ 16; simp at h1; omega, ok.n2, ok.no, fun x hx => ok.s1 x (by rw [hr]; exact List.mem_cons_of_mem _ hx), ok.s2, ok.out, ok.holds, ok.on, ok.arm, ok.pok, ok.dok, ok.f3⟩
  ·exact ok
 ·split
  ·rename_i s r hr
   rw [hr] at h2
   exact ⟨ok.f8, ok.fs, ok.n1, by show r.length ≤ 16; simp at h2; omega, ok.no, ok.s1, fun x hx => ok.s2 x (by rw [hr]; exact List.mem_cons_of_mem _ hx), ok.out, ok.holds, ok.on, ok.arm, ok.pok, ok.dok, ok.f3⟩
  ·exact ok
theorem ok_arrive (ok : K.Ok) (s : List UInt8) : (arriveR K s).1.Ok := by
 unfold arriveR
 split
 ·exact ok
 ·rename_i hl
  split
  ·exact ok
  ·split
   ·split
    ·exact ok
    ·refine ⟨ok.f8, ok.fs, by show (K.i1 ++ [s]).length ≤ 16; simp; omega, ok.n2, ok.no, fun x hx => ?_, ok.s2, ok.out, ok.holds, ok.on, ok.arm, ok.pok, ok.dok, ok.f3⟩
     rcases List.mem_append.1 hx with h1 | h1
     ·exact ok.s1 x h1
     ·rw [List.mem_singleton.1 h1]; omega
   ·split
    ·exact ok
    ·refine ⟨ok.f8, ok.fs, ok.n1, by show (K.i2 ++ [s]).length ≤ 16; simp; omega, ok.no, ok.s1, fun x hx => ?_, ok.out, ok.holds, ok.on, ok.arm, ok.pok, ok.dok, ok.f3⟩
     rcases List.mem_append.1 hx with h1 | h1
     ·exact ok.s2 x h1
     ·rw [List.mem_singleton.1 h1]; omega
theorem turned_tr {ps qs : List Pg} {d : Nat → Nat} (h : Turned ps qs d) {t : Tr} (o : t.Ok ps) : t.Ok qs := by
 refine ⟨o.ne, o.n, o.ok, fun p hp => by rw [h.1]; exact o.fits p hp, fun p hp => ?_, o.e1, o.e2⟩
 have hf := o.fits p hp
 have := o.own p hp
 rw [h.pg ⟨hf.2.2.1, hf.2.2.2⟩]
 exact this
theorem ok_submit (ok : K.Ok) (env : Int) (l : List Pc) (hl : ∀ p ∈ l, p.Ok) : (submitR K env l).1.Ok := by
 unfold submitR
 split
 ·exact ok
 ·rename_i h16
  split
  ·rename_i h0
   have hchk : checkR K.ps env l = 0 := by
    unfold holdG at h0
    split at h0
    ·assumption
    ·exact absurd h0 (by assumption)
   have e1 : (holdG K.ps env l).1 = holdN K.ps env l := by unfold holdG; rw [if_pos hchk]
   rw [e1]
   obtain ⟨hz, hown⟩ := check_zero hchk
   obtain ⟨hE, hne, hall, hl16, _⟩ := fits_of_zero hz
   have hT := holdN_turned l hown (Turned.refl K.ps)
   have hh : ∀ k (hk : k < (holdN K.ps env l).length), (holdN K.ps env l)[k].holds = heldN (K.out ++ [⟨env.toNat, l⟩]) (k : Int) := by
    intro k hk
    have hk' : k < K.ps.length := by rw [← hT.1]; exact hk
    rw [hT.2 k hk' hk]
    show (K.ps.getD k .blank).holds + cnt l (k : Int) = _
    have : heldN (K.out ++ [⟨env.toNat, l⟩]) (k : Int) = heldN K.out (k : Int) + cnt l (k : Int) := by unfold heldN; rw [List.map_append, List.sum_append]; simp
    rw [this, ← ok.holds k hk']
    simp [hk']
   have hto : ∀ t ∈ K.out ++ [⟨env.toNat, l⟩], t.Ok (holdN K.ps env l) := by
    intro t ht
    refine turned_tr hT ?_
    rcases List.mem_append.1 ht with h1 | h1
    ·exact ok.out t h1
    ·rw [List.mem_singleton.1 h1]
     refine ⟨hne, hl16, hl, hall, fun p hp => ?_, by show 1 ≤ env.toNat; omega, by show env.toNat ≤ 2; omega⟩
     obtain ⟨k, hk, e, _, ho⟩ := ownErr_zero (hown p hp)
     rw [e, pg_at hk]
     show K.ps[k].owner = env.toNat
     omega
   refine ⟨ok.f8, ok.fs, ok.n1, ok.n2, by show (K.out ++ [_]).length ≤ 16; simp; omega, ok.s1, ok.s2, hto, hh, ok.on, ok.arm, fun p hp => ?_, ok.dok, ok.f3⟩
   obtain ⟨k, hk, rfl⟩ := List.mem_iff_getElem.1 hp
   have hk' : k < K.ps.length := by rw [← hT.1]; exact hk
   have hpo := ok.pok _ (List.getElem_mem hk')
   have h1 := hh k hk
   have h2 := heldN_le hto (k : Int)
   have h3 : (K.out ++ [(⟨env.toNat, l⟩ : Tr)]).length ≤ 16 := by simp; omega
   have e := hT.2 k hk' hk
   refine ⟨?_, by show (holdN K.ps env l)[k].holds ≤ _; omega, ?_⟩
   ·rw [e]; exact hpo.o
   ·rw [e]; exact hpo.t
  ·exact ok
theorem ok_depart (ok : K.Ok) : (departR K).1.Ok := by
 unfold departR
 split
 ·exact ok
 ·rename_i t r hr
  have ht : t ∈ K.out := by rw [hr]; exact List.mem_cons_self
  rw [ok.drops ht]
  have hT := dropN_turned t.l (Turned.refl K.ps)
  have hno := ok.no
  have hto : ∀ u ∈ r, u.Ok (dropN K.ps t.l) := fun u hu => turned_tr hT (ok.out u (by rw [hr]; exact List.mem_cons_of_mem _ hu))
  have hh : ∀ k (hk : k < (dropN K.ps t.l).length), (dropN K.ps t.l)[k].holds = heldN r (k : Int) := by
   intro k hk
   have hk' : k < K.ps.length := by rw [← hT.1]; exact hk
   rw [hT.2 k hk' hk]
   show (K.ps.getD k .blank).holds - cnt t.l (k : Int) = _
   have h1 := ok.holds k hk'
   rw [hr, heldN_cons] at h1
   have h2 : (K.ps.getD k .blank) = K.ps[k] := by simp [hk']
   rw [h2, h1]
   omega
  refine ⟨ok.f8, ok.fs, ok.n1, ok.n2, by show r.length ≤ 16; rw [hr] at hno; simp at hno; omega, ok.s1, ok.s2, hto, hh, ok.on, ok.arm, fun p hp => ?_, ok.dok, by show K.f3 + 1 = K.done + 1; rw [ok.f3]⟩
  obtain ⟨k, hk, rfl⟩ := List.mem_iff_getElem.1 hp
  have hk' : k < K.ps.length := by rw [← hT.1]; exact hk
  have hpo := ok.pok _ (List.getElem_mem hk')
  have e := hT.2 k hk' hk
  have h1 := hh k hk
  have h2 := heldN_le hto (k : Int)
  have h3 : r.length ≤ 16 := by rw [hr] at hno; simp at hno; omega
  refine ⟨?_, by show (dropN K.ps t.l)[k].holds ≤ _; omega, ?_⟩
  ·rw [e]; exact hpo.o
  ·rw [e]; exact hpo.t
theorem ok_call (ok : K.Ok) (q : KQ) (hp : ∀ p ∈ q.p, p.Ok) (hl : ∀ p ∈ q.l, p.Ok) : (callR K q).1.Ok := by
 unfold callR
 refine ite_all (P := fun (z : Kn × Int × List UInt8 × Int) => z.1.Ok) (fun c0 => ?_) (fun c0 => ?_)
 ·exact ok
 have he' : q.env = 1 ∨ q.env = 2 := Decidable.not_not.1 c0
 refine ite_all (P := fun (z : Kn × Int × List UInt8 × Int) => z.1.Ok) (fun c1 => ?_) (fun c1 => ?_)
 ·exact ok.setPs (kept_alloc ok _)
 refine ite_all (P := fun (z : Kn × Int × List UInt8 × Int) => z.1.Ok) (fun c2 => ?_) (fun c2 => ?_)
 ·exact ok.setPs (kept_free ok _ _)
 refine ite_all (P := fun (z : Kn × Int × List UInt8 × Int) => z.1.Ok) (fun c3 => ?_) (fun c3 => ?_)
 ·exact ok.setPs (kept_give ok _ _ _)
 refine ite_all (P := fun (z : Kn × Int × List UInt8 × Int) => z.1.Ok) (fun c4 => ?_) (fun c4 => ?_)
 ·exact ok
 refine ite_all (P := fun (z : Kn × Int × List UInt8 × Int) => z.1.Ok) (fun c5 => ?_) (fun c5 => ?_)
 ·exact ok.setPs (kept_write ok _ _ _ _)
 refine ite_all (P := fun (z : Kn × Int × List UInt8 × Int) => z.1.Ok) (fun c6 => ?_) (fun c6 => ?_)
 ·exact ok
 refine ite_all (P := fun (z : Kn × Int × List UInt8 × Int) => z.1.Ok) (fun c7 => ?_) (fun c7 => ?_)
 ·exact ok_write ok _ _ _
 refine ite_all (P := fun (z : Kn × Int × List UInt8 × Int) => z.1.Ok) (fun c8 => ?_) (fun c8 => ?_)
 ·exact ok_sync ok
 refine ite_all (P := fun (z : Kn × Int × List UInt8 × Int) => z.1.Ok) (fun c9 => ?_) (fun c9 => ?_)
 ·exact ok_bind ok _ he' _ hp
 refine ite_all (P := fun (z : Kn × Int × List UInt8 × Int) => z.1.Ok) (fun c10 => ?_) (fun c10 => ?_)
 ·exact ok_unbind ok _ _
 refine ite_all (P := fun (z : Kn × Int × List UInt8 × Int) => z.1.Ok) (fun c11 => ?_) (fun c11 => ?_)
 ·exact ok_submit ok _ _ hl
 refine ite_all (P := fun (z : Kn × Int × List UInt8 × Int) => z.1.Ok) (fun c12 => ?_) (fun c12 => ?_)
 ·exact ok_take ok _
 refine ite_all (P := fun (z : Kn × Int × List UInt8 × Int) => z.1.Ok) (fun c13 => ?_) (fun c13 => ?_)
 ·exact ok
 ·exact ok
end
end Go.Proofs.YtbkjjakkihbcdaaGreat.Ke

/- The chapter's example. No condition. -/
namespace Go.Proofs.YtbkjjakkihbcdaaGreat.Ke
open Go.ChangeShapes Go.WideShapes Go.ChangeAt Go.RowKit Go.Deep Fr Di
set_option linter.unusedVariables false
structure KB (B : Nat) (w : World) (lab : Nat → Nat) (g : Nat) (K : Kn) : Prop where
 ka : KA w lab g K
 n8 : ∀ k, lab k ≠ 8
 ge : ∀ k, lab k ≠ 0 → B ≤ k
 ok : K.Ok
theorem KB.step {B : Nat} {w w' : World} {lab lab' : Nat → Nat} {g : Nat} {K K' : Kn} (h : KB B w lab g K) (ka : KA w' lab' g K') (L : LStep w w' lab lab') (n8 : ∀ k, lab' k ≠ 8) (ok : K'.Ok) (hB : B ≤ w.heap.size) : KB B w' lab' g K' ∧ Below B w w' :=
 ⟨⟨ka, n8, fun k hk => by
  rcases L.old k hk with h1 | h1
  ·exact h.ge k h1
  ·omega, ok⟩, L.chg.below hB (fun k hk => h.ge k hk.1)⟩
theorem KB.new {B : Nat} {w w' : World} {lab : Nat → Nat} {g : Nat} {K : Kn} (h : KB B w lab g K) (k : Below w.heap.size w w') : KB B w' lab g K := by
 obtain ⟨a, ha⟩ := h.ka
 exact ⟨⟨a, ha.new k⟩, h.n8, h.ge, h.ok⟩
theorem new_kb (n b : Nat) (w : World) (h1 : 1 ≤ n) (h2 : n ≤ 256) (h3 : 4 ≤ b) (h4 : b ≤ 512) :
  Calls Tryz.prog 6 #[.int .i64 (n : Int), .int .i64 (b : Int)] w fun e w' => ∃ g lab, e = .returned (.tuple #[.pointer (some ⟨g, 0, none⟩), .int .i64 0]) ∧ KB w.heap.size w' lab g (newK n b) ∧ Below w.heap.size w w' :=
 (new_ok n b w h1 h2 h3 h4).mono fun e w' ⟨g, lab, he, ka, ge, hb⟩ => ⟨g, off8 lab, he, ⟨by obtain ⟨a, ha⟩ := ka; exact ⟨a, ha.unmark⟩, off8_ne lab, fun k hk => ge k (off8_on hk), newK_ok h1 h2 h3 h4⟩, hb⟩
theorem call_kb {B : Nat} {w : World} {lab : Nat → Nat} {g : Nat} {K : Kn} (h : KB B w lab g K) (hB : B ≤ w.heap.size) (n : Nat) (sm : K.Small n) (hn : n < 1000000) (q : KQ) (x : KX) (hq : q.In w lab x) :
  Calls Tryz.prog 8 #[.pointer (some ⟨g, 0, none⟩), .agg (q.cells x)] w fun e w' => ∃ A c, e = .returned (.tuple #[.agg #[.int .i64 (callR K q).2.1, .slice A (callR K q).2.2.1.length c], .int .i64 (callR K q).2.2.2]) ∧
   ∃ lab', KB B w' lab' g (callR K q).1 ∧ LStep w w' lab lab' ∧ Below B w w' ∧ Src w' A (callR K q).2.2.1.length c (callR K q).2.2.1 ∧ Off (on lab') A (callR K q).2.2.1.length := by
 refine (call_any h.ka h.n8 h.ok n sm hn q x hq).mono ?_
 rintro e w' ⟨A, c, he, lab', ka, L, n8, hs, ho⟩
 obtain ⟨k1, k2⟩ := h.step ka L n8 (ok_call h.ok q hq.pok hq.lok) hB
 exact ⟨A, c, he, lab', k1, L, k2, hs, ho⟩
section
variable (K : Kn) (env : Int) (he : env = 1 ∨ env = 2) (a b c : Int) (s : List UInt8) (p : List Ins) (l : List Pc)
include he
theorem callR_1 : callR K ⟨1, env, a, b, c, s, p, l⟩ = ({ K with ps := (Fr.allocR K.ps env).1 }, (Fr.allocR K.ps env).2.1, [], (Fr.allocR K.ps env).2.2) := by unfold callR; rw [if_neg (fun h => h he)]; rfl
theorem callR_2 : callR K ⟨2, env, a, b, c, s, p, l⟩ = ({ K with ps := (Fr.freeR K.ps env a).1 }, 0, [], (Fr.freeR K.ps env a).2) := by unfold callR; rw [if_neg (fun h => h he)]; rfl
theorem callR_4 : callR K ⟨4, env, a, b, c, s, p, l⟩ = (K, 0, (Fr.readR K.ps env a b c).1, (Fr.readR K.ps env a b c).2) := by unfold callR; rw [if_neg (fun h => h he)]; rfl
theorem callR_5 : callR K ⟨5, env, a, b, c, s, p, l⟩ = ({ K with ps := (Fr.writeR K.ps env a b s).1 }, 0, [], (Fr.writeR K.ps env a b s).2) := by unfold callR; rw [if_neg (fun h => h he)]; rfl
theorem callR_6 : callR K ⟨6, env, a, b, c, s, p, l⟩ = (K, 0, (readR K.dk env a).1, (readR K.dk env a).2) := by unfold callR; rw [if_neg (fun h => h he)]; rfl
theorem callR_7 : callR K ⟨7, env, a, b, c, s, p, l⟩ = ({ K with dk := (writeR K.dk env a s).1 }, 0, [], (writeR K.dk env a s).2) := by unfold callR; rw [if_neg (fun h => h he)]; rfl
theorem callR_9 : callR K ⟨9, env, a, b, c, s, p, l⟩ = ((bindR K env p).1, (bindR K env p).2.1, [], (bindR K env p).2.2) := by unfold callR; rw [if_neg (fun h => h he)]; rfl
theorem callR_11 : callR K ⟨11, env, a, b, c, s, p, l⟩ = ((submitR K env l).1, (submitR K env l).2.1, [], (submitR K env l).2.2) := by unfold callR; rw [if_neg (fun h => h he)]; rfl
theorem callR_12 : callR K ⟨12, env, a, b, c, s, p, l⟩ = ((takeR K env).1, 0, (takeR K env).2.1, (takeR K env).2.2) := by unfold callR; rw [if_neg (fun h => h he)]; rfl
theorem callR_13 : callR K ⟨13, env, a, b, c, s, p, l⟩ = (K, (K.done : Int), [], 0) := by unfold callR; rw [if_neg (fun h => h he)]; rfl
end
def exK : Kn := { newK 4 16 with ps := (List.replicate 4 Pg.blank).set 0 { Pg.blank with owner := 2 } }
theorem call_alloc2 : callR (newK 4 16) (bare 1 2 0 0 0) = (exK, 0, [], 0) := by
 have h := callR_1 (newK 4 16) 2 (.inr rfl) 0 0 0 [] [] []
 have h2 : Fr.allocR (newK 4 16).ps 2 = ((List.replicate 4 Pg.blank).set 0 { Pg.blank with owner := 2 }, 0, 0) := alloc_new 4 (by omega) 2 (.inr rfl)
 rw [h2] at h
 exact h
theorem call_free1 : callR exK (bare 2 1 0 0 0) = (exK, 0, [], 20) := by
 have h := callR_2 exK 1 (.inl rfl) 0 0 0 [] [] []
 have e : ownErr exK.ps 1 0 = 20 := by
  unfold ownErr
  rw [if_pos ⟨.inl rfl, by decide, by decide⟩]
  have e2 : pg exK.ps 0 = { Pg.blank with owner := 2 } := rfl
  rw [e2]
  decide
 have h2 : Fr.freeR exK.ps 1 0 = (exK.ps, 20) := by
  unfold Fr.freeR
  rw [if_neg (by rw [e]; decide), e]
 rw [h2] at h
 exact h
theorem exK_small : exK.Small 0 := ⟨Nat.le_refl _, Nat.le_refl _, Nat.le_refl _, Nat.le_refl _, Nat.le_refl _, Nat.le_refl _⟩
theorem LStep.blk0 {w w' : World} {lab lab' : Nat → Nat} (L : LStep w w' lab lab') {i : Nat} {t : TypeId} {cs : Array Value} (hb : Blk w i t cs) (h0 : lab i = 0) : Blk w' i t cs := hb.chg L.chg (fun h => h.1 h0)
theorem KB.lab0 {B : Nat} {w : World} {lab : Nat → Nat} {g : Nat} {K : Kn} (h : KB B w lab g K) {i : Nat} (hi : w.heap.size ≤ i) : lab i = 0 := by
 obtain ⟨a, ha⟩ := h.ka
 by_cases h0 : lab i = 0
 ·exact h0
 ·have := ha.all i h0; omega
set_option maxRecDepth 100000 in
set_option maxHeartbeats 1000000 in
theorem alive_any (w : World) : Calls Tryz.prog 4 #[] w fun e w' => e = .returned (.bool true) ∧ Below w.heap.size w w' := by
 have NW := Lib.hid (new_kb 4 16 w (by omega) (by omega) (by omega) (by omega))
 go_enter Tryz.func4, Tryz.ntmps4
 go_wp2_with fail
 refine NW.out.mono ?_; rintro e w1 ⟨g, lab, rfl, k1, b1⟩
 have K1 := Lib.hid k1
 have B1 := Lib.hid b1
 have CA := Lib.hid (call_kb k1 b1.size 0 (newK_small 4 16) (by omega) (bare 1 2 0 0 0) noX (bare_in _ _ _ _ _ _ _ (by omega)))
 rw [call_alloc2] at CA
 clear k1 b1
 go_wp2_with fail
 refine CA.out.mono ?_; rintro e w2 ⟨A2, c2, rfl, lab2, k2, L2, b2, _, _⟩
 have K2 := Lib.hid k2
 have B2 := Lib.hid (B1.out.trans b2)
 clear k2 L2 b2
 have CF := Lib.hid (fun (W : World) (hw : Below w2.heap.size w2 W) => call_kb (K2.out.new hw) (Nat.le_trans B2.out.size hw.size) 0 exK_small (by omega) (bare 2 1 0 0 0) noX (bare_in _ _ _ _ _ _ _ (by omega)))
 rw [call_free1] at CF
 obtain ⟨W3, hW3⟩ : ∃ W3, W3 = w2.alloc (.cells #[.int .i64 0, .slice A2 0 c2] 39) := ⟨_, rfl⟩
 have b3 : Below w2.heap.size w2 W3 := by rw [hW3]; exact (Below.refl _ w2).alloc (Nat.le_refl _) _
 have D3 := Lib.hid (show Blk W3 w2.heap.size 39 #[.int .i64 0, .slice A2 0 c2] by rw [hW3]; exact Blk.new w2 _ _)
 have CG := Lib.hid (CF.out W3 b3)
 have HW3 := Lib.hid hW3
 have B3 := Lib.hid (B2.out.trans (b3.mono B2.out.size))
 clear CF hW3 b3 CA NW
 go_upto_region 5 with fail
 rw [show w2.alloc (.cells #[.int .i64 0, .slice A2 0 c2] 39) = W3 from HW3.out.symm]
 go_wp2_with fail
 refine CG.out.mono ?_; rintro e w4 ⟨A4, c4, rfl, lab4, k4, L4, b4, _, _⟩
 have d0 := ((L4.blk0 D3.out (K2.out.lab0 (Nat.le_refl _))).cell 0).trans (show _ = some (.int .i64 0) from rfl)
 have B4 := Lib.hid (B3.out.trans b4)
 clear k4 L4 b4
 have dl : (w4.alloc (.cells #[.int .i64 0, .slice A4 0 c4] 39)).cell? ⟨w2.heap.size, 0, none⟩ = some (.int .i64 0) := (World.cell?_of_block (w := w4) (((Below.refl w4.heap.size w4).alloc (Nat.le_refl _) _).block w2.heap.size (World.block_lt_of_cell? w4 _ d0))).trans d0
 go_wp2
 go_ret
 exact ⟨rfl, B4.out.alloc B4.out.size _⟩
end Go.Proofs.YtbkjjakkihbcdaaGreat.Ke

/- What a transfer that waits first keeps, in plain words. Conditions: those that each states. -/
namespace Go.Proofs.YtbkjjakkihbcdaaGreat.Ke
open Go.ChangeShapes Go.WideShapes Go.ChangeAt Go.RowKit Go.Deep Fr Di
set_option linter.unusedVariables false
theorem made_in {B : Nat} {w w' : World} {lab : Nat → Nat} {g : Nat} {K : Kn} {q : KC} {x : KX} (h : KB B w lab g K) (hq : q.In w) (hn : Near q) (m : MadeQ w q x w') : (kq q).In w' lab x :=
 ⟨hq.b, m.hs, fun b o e => (by have h1 := m.fb b (by rw [e]; rfl); exact ⟨h1.2, h.lab0 h1.1⟩), m.hp, m.np, (by have := hn.2.1; show q.p.length ≤ _; omega), hq.pok, m.hl, hq.lok, fun b o e => (by have h1 := m.fl b (by rw [e]; rfl); exact ⟨h1.2, h.lab0 h1.1⟩), m.cl, (by have := hn.2.2; show q.l.length ≤ _; omega)⟩
theorem kc_new {w w' : World} {q : KC} (h : q.In w) (k : Below w.heap.size w w') : q.In w' :=
 ⟨h.a, h.b, h.c, h.s, h.p.new k, h.pok, h.pn, h.l.new k, h.lok, h.ln⟩
theorem kacts_new {w w' : World} {A : Option Addr} {n : Nat} {fn : Nat → KAct} (h : KActs w A n fn) (k : Below w.heap.size w w') : KActs w' A n fn := by
 intro i hi
 obtain ⟨b, o, e, hb, hr, hq, hs⟩ := h i hi
 refine ⟨b, o, e, Nat.lt_of_lt_of_le hb k.size, fun j v hj => ?_, kc_new hq k, hs⟩
 rw [World.cell?_of_block (w := w) (w' := w') (a := ⟨b, o + i * 10 + j, none⟩) (k.block b hb)]
 exact hr j v hj
end Go.Proofs.YtbkjjakkihbcdaaGreat.Ke
