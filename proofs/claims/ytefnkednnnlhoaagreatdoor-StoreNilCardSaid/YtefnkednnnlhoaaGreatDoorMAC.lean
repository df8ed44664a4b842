/- Package filter: which programs may be. Conditions: those that each states. -/
import Derived.Test.YtefnkednnnlhoaaGreatDoorMAB
import Derived.Deep.LoopGhost
import Derived.ScopeJumps
import Derived.StillTailTactics
import Derived.Test.YtefnkednnnlhoaaGreatDoorMAA
import Derived.Laws.IdiomStrings
import Derived.Lib.ConvBytes
import Derived.Laws.BytesString
import Derived.ArgAppend
import Derived.Deep.Upon
import Derived.Deep.Slices
import Derived.ChangeSame
import Derived.Deep.MidRow
import Derived.RegionTactic
import Derived.BigRegion
import Derived.WalkMore
import Derived.Deep.QuietTactic
import Derived.BigQuiet
import Derived.Deep.OwnRows
import Derived.Laws.Tables
import Derived.Deep.DeepCutAuto
import Derived.Deep.CutBlock
import Derived.Laws.CopyRow
import Derived.Laws.CopyOwn
namespace Go.Proofs.YtefnkednnnlhoaaGreatDoor
open Go.ChangeShapes Go.WideShapes Go.ChangeAt Go.RowKit Go.Deep
set_option linter.unusedVariables false
theorem op_info : (Tryz.prog.info? 203).map (·.size) = some 4 := by kernel_rfl
set_option maxRecDepth 100000 in
set_option maxHeartbeats 2000000 in
theorem check_v (A : Option Addr) (c : Nat) (p : List Ins) (w : World) (hp : Prg w A p) (hmax : p.length ≤ 1000000) (v : Int) (hv : (Chk p ∧ v = 0) ∨ (¬ Chk p ∧ v = 40)) :
    Calls Tryz.prog 106 #[.slice A p.length c] w fun e w' => e = .returned (.int .i64 v) ∧ Below w.heap.size w w' := by
  have V := Lib.hid hv
  have P := Lib.hid hp
  have B0 := Lib.hid (Below.refl w.heap.size w)
  clear hv hp
  by_cases h1 : p.length < 1
  · have h1' : (p.length : Int) < 1 := by omega
    have e : v = 40 := by
      rcases V.out with h | h
      · exact absurd h.1.n1 (by omega)
      · exact h.2
    subst e
    clear V h1
    go_enter Tryz.func106, Tryz.ntmps106
    go_wp2
    go_ret
    exact ⟨rfl, B0.out⟩
  by_cases h2 : p.length > 64
  · have h1' : ¬ (p.length : Int) < 1 := by omega
    have h2' : (p.length : Int) > 64 := by omega
    have e : v = 40 := by
      rcases V.out with h | h
      · exact absurd h.1.n2 (by omega)
      · exact h.2
    subst e
    clear V h1 h2
    go_enter Tryz.func106, Tryz.ntmps106
    go_wp2
    go_ret
    exact ⟨rfl, B0.out⟩
  have h1' : ¬ (p.length : Int) < 1 := by omega
  have h2' : ¬ (p.length : Int) > 64 := by omega
  have n1 : 1 ≤ p.length := by omega
  have n2 : p.length ≤ 64 := by omega
  clear h1 h2
  go_enter Tryz.func106, Tryz.ntmps106
  go_wp2
  go_loopw [16] (fun i wr => ∃ (j : Nat), j ≤ p.length ∧ i = .int .i64 (j : Int) ∧ Below w.heap.size w wr ∧ Hid (∀ i (h : i < p.length), i < j → mayB p[i] ((p.length : Int) - 1 - i) = true)) (fun i _ => p.length - (intOf i).toNat)
  case atStart => exact ⟨0, Nat.zero_le _, rfl, B0.out, Lib.hid (fun i h h0 => absurd h0 (by omega))⟩
  case round =>
    clear B0
    obtain ⟨j, hj, rfl, hb, HM⟩ := hrel
    have HB := Lib.hid hb
    have hgs : w.heap.size ≤ wr.heap.size := hb.size
    have P1 := Lib.hid (P.out.new hb)
    clear hb
    by_cases hlt : j < p.length
    · have hlt' : (j : Int) < (p.length : Int) := by omega
      have j0 : (0 : Int) ≤ (j : Int) := by omega
      have xj := IntWalk.i64_in ((j : Int) + 1) (by omega)
      have x1 := IntWalk.i64_in ((p.length : Int) - 1) (by omega)
      have x2 := IntWalk.i64_in ((p.length : Int) - 1 - (j : Int)) (by omega)
      obtain ⟨b, o, rfl, hbl, hr⟩ := P1.out j hlt
      have LD := Lib.hid (show wr.rangeAt b (o + j * 4) [.int .i64 p[j].code, .int .u32 p[j].k, .int .i64 p[j].t, .int .i64 p[j].f] from hr)
      have HA := Lib.hid (HB.out.trans (((Below.refl wr.heap.size wr).alloc (Nat.le_refl _) (.cells #[.int .i64 p[j].code, .int .u32 p[j].k, .int .i64 p[j].t, .int .i64 p[j].f] 203)).mono hgs))
      have HSZ : w.heap.size ≤ (wr.alloc (.cells #[.int .i64 p[j].code, .int .u32 p[j].k, .int .i64 p[j].t, .int .i64 p[j].f] 203)).heap.size := by have := HA.out.size; exact this
      have HSZ := Lib.hid HSZ
      have ST := Lib.hid (fun (v : Bool) (hv : v = mayB p[j] ((p.length : Int) - 1 - j)) (w : World) => stand_v p[j] ((p.length : Int) - 1 - j) v hv w)
      have HM2 := Lib.hid (fun (hm : mayB p[j] ((p.length : Int) - 1 - j) = true) i (h : i < p.length) (hi : i < j + 1) => show mayB p[i] ((p.length : Int) - 1 - i) = true from by
        by_cases e : i = j
        · subst e; exact hm
        · exact HM.out i h (by omega))
      have NO := Lib.hid (fun (hm : mayB p[j] ((p.length : Int) - 1 - j) = false) => show v = 40 from by
        rcases V.out with h | h
        · have := h.1.may j hlt
          rw [hm] at this; cases this
        · exact h.2)
      generalize hmv : mayB p[j] ((p.length : Int) - 1 - j) = mv at *
      have ST := Lib.hid (fun w => ST.out mv rfl w)
      generalize p[j].code = qc at *
      generalize p[j].k = qk at *
      generalize p[j].t = qt at *
      generalize p[j].f = qf at *
      clear hr hmv
      cases mv with
      | true =>
        have HM3 := Lib.hid (HM2.out rfl)
        clear NO HM HM2
        go_wp2_with (first
          | (refine wpList_load_mid rfl 203 (.tmp 19) rfl b (o + j * 4) rfl _ _ LD.out Tryz.underlying203 rfl op_info ?_)
          | fail)
        refine (ST.out _).mono ?_; rintro e w4 ⟨rfl, b4⟩
        have HB4 := Lib.hid (HA.out.trans (b4.mono HSZ.out))
        clear b4
        go_wp2
        go_roundw
        case rel => exact ⟨j + 1, by omega, by simp, HB4.out, HM3⟩
        case measure => simp [intOf]; omega
      | false =>
        have e : v = 40 := NO.out rfl
        subst e
        clear NO HM HM2 V
        go_wp2_with (first
          | (refine wpList_load_mid rfl 203 (.tmp 19) rfl b (o + j * 4) rfl _ _ LD.out Tryz.underlying203 rfl op_info ?_)
          | fail)
        refine (ST.out _).mono ?_; rintro e w4 ⟨rfl, b4⟩
        have HB4 := Lib.hid (HA.out.trans (b4.mono HSZ.out))
        clear b4
        go_wp2
        go_ret
        exact ⟨rfl, HB4.out⟩
    · have hge : ¬ (j : Int) < (p.length : Int) := by omega
      obtain rfl : j = p.length := by omega
      have hl : p.length - 1 < p.length := by omega
      have l0 : (0 : Int) ≤ (p.length : Int) - 1 := by omega
      have l1 : (p.length : Int) - 1 < (p.length : Int) := by omega
      have x1 := IntWalk.i64_in ((p.length : Int) - 1) (by omega)
      have x3 : ((p.length : Int) - 1).toNat = p.length - 1 := by omega
      obtain ⟨b, o, rfl, hbl, hr⟩ := P1.out (p.length - 1) hl
      have LD := Lib.hid (show wr.rangeAt b (o + (p.length - 1) * 4) [.int .i64 p[p.length - 1].code, .int .u32 p[p.length - 1].k, .int .i64 p[p.length - 1].t, .int .i64 p[p.length - 1].f] from hr)
      have HA := Lib.hid (HB.out.trans (((Below.refl wr.heap.size wr).alloc (Nat.le_refl _) (.cells #[.int .i64 p[p.length - 1].code, .int .u32 p[p.length - 1].k, .int .i64 p[p.length - 1].t, .int .i64 p[p.length - 1].f] 203)).mono hgs))
      have YES := Lib.hid (fun (h : p[p.length - 1].code = 7 ∨ p[p.length - 1].code = 8) => show v = 0 from by
        rcases V.out with h3 | h3
        · exact h3.2
        · exact absurd ⟨n1, n2, fun i h0 => HM.out i h0 h0, fun _ => h⟩ h3.1)
      have NO := Lib.hid (fun (h7 : ¬ p[p.length - 1].code = 7) (h8 : ¬ p[p.length - 1].code = 8) => show v = 40 from by
        rcases V.out with h3 | h3
        · rcases h3.1.last hl with h4 | h4
          · exact absurd h4 h7
          · exact absurd h4 h8
        · exact h3.2)
      generalize p[p.length - 1].code = qc at *
      generalize p[p.length - 1].k = qk at *
      generalize p[p.length - 1].t = qt at *
      generalize p[p.length - 1].f = qf at *
      clear hr HM V hj hlt
      by_cases e7 : qc = 7
      · have e : v = 0 := YES.out (.inl e7)
        subst e e7
        clear YES NO
        go_wp2_with (first
          | (refine wpList_load_mid rfl 203 (.tmp 34) rfl b (o + (p.length - 1) * 4) rfl _ _ LD.out Tryz.underlying203 rfl op_info ?_)
          | fail)
        go_ret
        exact ⟨rfl, HA.out⟩
      · by_cases e8 : qc = 8
        · have e : v = 0 := YES.out (.inr e8)
          subst e e8
          clear YES NO
          go_wp2_with (first
            | (refine wpList_load_mid rfl 203 (.tmp 34) rfl b (o + (p.length - 1) * 4) rfl _ _ LD.out Tryz.underlying203 rfl op_info ?_)
            | fail)
          go_ret
          exact ⟨rfl, HA.out⟩
        · have e : v = 40 := NO.out e7 e8
          subst e
          have m7 : (qc != 7) = true := by simpa using e7
          have m8 : (qc != 8) = true := by simpa using e8
          have n7 : (qc == 7) = false := by simpa using e7
          have n8 : (qc == 8) = false := by simpa using e8
          clear YES NO
          go_wp2_with (first
            | (refine wpList_load_mid rfl 203 (.tmp 34) rfl b (o + (p.length - 1) * 4) rfl _ _ LD.out Tryz.underlying203 rfl op_info ?_)
            | fail)
          go_ret
          exact ⟨rfl, HA.out⟩
end Go.Proofs.YtefnkednnnlhoaaGreatDoor

/- Package filter: a number of a packet; how many steps are left out; the document's steps as the program's. Conditions: those that each states. -/
namespace Go.Proofs.YtefnkednnnlhoaaGreatDoor
open Go.ChangeShapes Go.WideShapes Go.ChangeAt Go.RowKit Go.Deep
set_option linter.unusedVariables false
end Go.Proofs.YtefnkednnnlhoaaGreatDoor

/- Package filter: what a program ends with. Conditions: those that each states. -/
namespace Go.Proofs.YtefnkednnnlhoaaGreatDoor
open Go.ChangeShapes Go.WideShapes Go.ChangeAt Go.RowKit Go.Deep
set_option linter.unusedVariables false
section
variable {p : List Ins} {s : List UInt8} {n i kn : Nat} {a k t f : Int}
end
end Go.Proofs.YtefnkednnnlhoaaGreatDoor

/- The chapter's example; what a program that may be has behind it; how a program runs on longer packets. Conditions: those that each states. -/
namespace Go.Proofs.YtefnkednnnlhoaaGreatDoor
open Go.ChangeShapes Go.WideShapes Go.ChangeAt Go.RowKit Go.Deep
set_option linter.unusedVariables false

/-! Steps behind the end. -/
end Go.Proofs.YtefnkednnnlhoaaGreatDoor

/- The document's interpreter: it ends, after at most as many steps as the program has. Conditions: those that each states. -/
namespace Go.Proofs.YtefnkednnnlhoaaGreatDoor
open Go.ChangeShapes Go.WideShapes Go.ChangeAt Go.RowKit Go.Deep
set_option linter.unusedVariables false
end Go.Proofs.YtefnkednnnlhoaaGreatDoor

/- '[]byte(s)', and append behind it. Conditions: those that each states. -/
namespace Go.Proofs.YtefnkednnnlhoaaGreatDoor
open Go.ChangeShapes Go.WideShapes Go.ChangeAt Go.RowKit Go.Deep
set_option linter.unusedVariables false

end Go.Proofs.YtefnkednnnlhoaaGreatDoor

/- A slice of steps that came in; '[]byte(s)'. Conditions: those that each states. -/
namespace Go.Proofs.YtefnkednnnlhoaaGreatDoor
open Go.ChangeShapes Go.WideShapes Go.ChangeAt Go.RowKit Go.Deep
set_option linter.unusedVariables false

/-- append(v, p...): v a row of the call's own, p a program that lies somewhere, or none. -/
theorem wpList_append_prg {P : Program} {w : World} {ops : Array Oper} {rest : List Oper} {o : Oper} {a : Act} {Q : Exit → Act → World → Prop} (hgd : o.guard = none) (s x : Operand) (t : TypeId)
    (ho : o.op = .call { callee := .builtin .append, args := #[s, x], argTypes := #[t, t] })
    (base : Nat) (e : TypeId) (i : TypeInfo) (z : Value) (ht : P.underlying t = some (.slice e)) (hi : P.info? e = some i) (hz : i.zero = some z)
    (hsize : i.size = 4) (hby : i.bytes = 32) (hzs : z.cells.size = 4)
    (v : Value) (q : List Ins) (hs : a.eval s = v) (hown : w.ownsRow base e 4 v q.length (flat q))
    (A : Option Addr) (c : Nat) (p : List Ins) (hx : a.eval x = .slice A p.length c) (hp : Prg w A p) (hn : A = none → p = [] ∧ c = 0)
    (hmax : q.length + p.length ≤ 1000000) (hbase : base ≤ w.heap.size)
    (h : ∀ v' w', w'.ownsRow base e 4 v' (q ++ p).length (flat (q ++ p)) → w.grownBy w' v.ownBlock → wpList P ops Q rest (a.put o.dst v') w') : wpList P ops Q (o :: rest) a w := by
  refine wpList_plain hgd fun K hK => ?_
  cases A with
  | none =>
    obtain ⟨rfl, rfl⟩ := hn rfl
    have hrun := run_append_owned_none (P := P) (w := w) base t o.type e i 4 ht hi v q.length (flat q) hown
    have hx' : a.eval x = .slice none 0 0 := hx
    unfold Oper.wp execOp
    simp only [ho, resolve, invoke, builtin, Sem.run_bind, Sem.run_pure, Result.andThen_ok, List.map_toArray, List.map_cons, List.map_nil, hs, hx', hrun]
    exact hK _ _ (h v w (by rw [List.append_nil]; exact hown) (World.grownBy.refl _ _))
  | some ad =>
    have hc : ∀ j u, (flat p)[j]? = some u → w.cell? (ad.add j) = some u := by
      intro j u hu
      by_cases h0 : 0 < p.length
      · obtain ⟨b, o, e, _⟩ := hp 0 h0
        cases e
        exact prg_cells hp j u hu
      · have ep : p = [] := List.length_eq_zero_iff.1 (by omega)
        subst ep
        simp [flat] at hu
    obtain ⟨v', w', hr, h2, h3, _, h5⟩ := run_append_own_at (P := P) w base t o.type e i z 4 32 ht hi hz hsize hby hzs (by decide) v q.length (flat q) hown ad p.length c (flat p) (flat_length p) hc (one_flat p) (by unfold maxLen; omega) (by omega) hbase
    unfold Oper.wp execOp
    simp only [ho, resolve, invoke, builtin, Sem.run_bind, Sem.run_pure, Result.andThen_ok, List.map_toArray, List.map_cons, List.map_nil, hs, hx, hr]
    exact hK _ _ (h v' w' (by rw [List.length_append, flat_append]; exact h2) h3)

end Go.Proofs.YtefnkednnnlhoaaGreatDoor

/- Lists of pieces of frames, in plain words: sizes, what is cut, what is fetched; such lists that came in. Conditions: those that each states. -/
namespace Go.Proofs.YtefnkednnnlhoaaGreatDoor
open Go.ChangeShapes Go.WideShapes Go.ChangeAt Go.RowKit Go.Deep
set_option linter.unusedVariables false

structure Pc where
  frame : Int
  off : Int
  len : Int
instance : Inhabited Pc := ⟨⟨0, 0, 0⟩⟩
structure Pc.Ok (p : Pc) : Prop where
  frame : -9223372036854775808 ≤ p.frame ∧ p.frame ≤ 9223372036854775807
  off : -9223372036854775808 ≤ p.off ∧ p.off ≤ 9223372036854775807
  len : -9223372036854775808 ≤ p.len ∧ p.len ≤ 9223372036854775807
def Pc.list (p : Pc) : List Value := [.int .i64 p.frame, .int .i64 p.off, .int .i64 p.len]
/-- Within its frame. -/
def Pc.In (p : Pc) : Prop := 0 ≤ p.off ∧ p.off ≤ 256 ∧ 0 ≤ p.len ∧ p.len ≤ 256 ∧ p.off + p.len ≤ 256
instance (p : Pc) : Decidable p.In := inferInstanceAs (Decidable (_ ∧ _))
/-- How many bytes, without an end. -/
def total : List Pc → Nat
  | [] => 0
  | p :: l => p.len.toNat + total l
def sizeR (l : List Pc) : Int := if 1048576 ≤ total l then 1048576 else (total l : Int)
theorem total_append (l r : List Pc) : total (l ++ r) = total l + total r := by
  induction l with
  | nil => simp [total]
  | cons p l ih => simp [total, ih]; omega
theorem total_take_succ {l : List Pc} {i : Nat} (hi : i < l.length) : total (l.take (i + 1)) = total (l.take i) + l[i].len.toNat := by
  rw [List.take_succ_eq_append_getElem hi, total_append]
  simp [total]
/-- A list of pieces in memory. -/
def Pcs (w : World) (A : Option Addr) (l : List Pc) : Prop := ∀ i (h : i < l.length), ∃ b o, A = some ⟨b, o, none⟩ ∧ b < w.heap.size ∧ w.rangeAt b (o + i * 3) l[i].list
section
variable {w w' : World} {A : Option Addr} {l : List Pc}
theorem Pcs.older (h : Pcs w A l) (k : Older w w') : Pcs w' A l := by
  intro i hi
  obtain ⟨b, o, e, hb, h1⟩ := h i hi
  refine ⟨b, o, e, Nat.lt_of_lt_of_le hb k.1, fun j v hj => ?_⟩
  rw [World.cell?_of_block (w := w) (w' := w') (a := ⟨b, o + i * 3 + j, none⟩) (k.2 b hb)]
  exact h1 j v hj
theorem Pcs.new (h : Pcs w A l) (k : Below w.heap.size w w') : Pcs w' A l := h.older (older_below k)
end
def flatP (l : List Pc) : List Value := (l.map Pc.list).flatten
theorem flatP_length (p : List Pc) : (flatP p).length = p.length * 3 := by
  unfold flatP
  induction p with
  | nil => rfl
  | cons q p ih => rw [List.map_cons, List.flatten_cons, List.length_append, ih, List.length_cons]; show 3 + _ = _; omega
theorem flatP_at (p : List Pc) {i j : Nat} (hi : i < p.length) (hj : j < 3) : (flatP p)[i * 3 + j]? = (p[i].list)[j]? := by
  unfold flatP
  induction p generalizing i with
  | nil => simp at hi
  | cons q p ih =>
    cases i with
    | zero =>
      rw [List.map_cons, List.flatten_cons, List.getElem?_append_left (by show _ < 3; omega), Nat.zero_mul, Nat.zero_add]
      rfl
    | succ i =>
      rw [List.map_cons, List.flatten_cons, List.getElem?_append_right (by show 3 ≤ _; omega)]
      have e : (i + 1) * 3 + j - q.list.length = i * 3 + j := by show _ - 3 = _; omega
      rw [e, ih (by simpa using hi)]
      rfl
theorem one_pc (q : Pc) : ∀ u ∈ q.list, u.oneCell' = true := by
  intro u hu
  unfold Pc.list at hu
  simp only [List.mem_cons, List.not_mem_nil, or_false] at hu
  rcases hu with rfl | rfl | rfl <;> rfl
theorem pcs_of_owns {w : World} {B : Nat} {E : TypeId} {v : Value} {p : List Pc} (h : w.ownsRow B E 3 v p.length (flatP p)) : ∃ A c, v = .slice A p.length c ∧ Pcs w A p := by
  rcases h.2 with ⟨e, e0⟩ | ⟨g, cap, cur, e, hg, hh, r⟩
  · refine ⟨none, 0, by rw [e, e0], fun i hi => absurd hi (by omega)⟩
  · refine ⟨some ⟨g, 0, none⟩, cap, e, fun i hi => ⟨g, 0, rfl, (Array.getElem?_eq_some_iff.1 hh).1, fun j v hj => ?_⟩⟩
    have hj4 : j < 3 := (List.getElem?_eq_some_iff.1 hj).1
    have e2 : (flatP p)[i * 3 + j]? = some v := (flatP_at p hi hj4).trans hj
    subst e
    have hc := World.ownsRow.cells h rfl (i * 3 + j) v e2
    have ea : (⟨g, 0, none⟩ : Addr).add (i * 3 + j) = ⟨g, 0 + i * 3 + j, none⟩ := by unfold Addr.add; split <;> simp_all
    rw [ea] at hc
    exact hc
/-! Such lists that came in. -/
section
variable {H : Type} {enc : TypeId × Value → H} {P : Program} {w : World}
end
end Go.Proofs.YtefnkednnnlhoaaGreatDoor

/- Package gather: within, Size. Conditions: those that each states. -/
namespace Go.Proofs.YtefnkednnnlhoaaGreatDoor
open Go.ChangeShapes Go.WideShapes Go.ChangeAt Go.RowKit Go.Deep
set_option linter.unusedVariables false

theorem pwithin (p : Pc) (hp : p.Ok) (w : World) :
    Calls Tryz.prog 158 #[.agg #[.int .i64 p.frame, .int .i64 p.off, .int .i64 p.len]] w fun e w' => e = .returned (.bool (decide p.In)) ∧ Below w.heap.size w w' := by
  have b0 := (Below.refl w.heap.size w).alloc (Nat.le_refl _) (.cells #[.int .i64 p.frame, .int .i64 p.off, .int .i64 p.len] 213)
  have B0 := Lib.hid b0
  obtain ⟨o1, o2⟩ := hp.off
  by_cases g1 : p.off ≥ 0
  · by_cases g2 : p.len ≥ 0
    · have x0 : IntKind.i64.wrap (256 - p.off) = 256 - p.off := IntWalk.i64_in _ (by omega)
      by_cases g3 : p.len ≤ 256 - p.off
      · have e : decide p.In = true := decide_eq_true (by unfold Pc.In; omega)
        rw [e]
        clear b0 e o1 o2 hp
        go_enter Tryz.func158, Tryz.ntmps158
        go_wp2
        go_ret
        exact ⟨rfl, B0.out⟩
      · have e : decide p.In = false := decide_eq_false (by unfold Pc.In; omega)
        rw [e]
        clear b0 e o1 o2 hp
        go_enter Tryz.func158, Tryz.ntmps158
        go_wp2
        go_ret
        exact ⟨rfl, B0.out⟩
    · have e : decide p.In = false := decide_eq_false (by unfold Pc.In; omega)
      rw [e]
      clear b0 e o1 o2 hp
      go_enter Tryz.func158, Tryz.ntmps158
      go_wp2
      go_ret
      exact ⟨rfl, B0.out⟩
  · have e : decide p.In = false := decide_eq_false (by unfold Pc.In; omega)
    rw [e]
    clear b0 e o1 o2 hp
    go_enter Tryz.func158, Tryz.ntmps158
    go_wp2
    go_ret
    exact ⟨rfl, B0.out⟩

theorem piece_info : (Tryz.prog.info? 213).map (·.size) = some 3 := by kernel_rfl
theorem sizeR_succ {l : List Pc} {j : Nat} (hj : j < l.length) : sizeR (l.take (j + 1)) = sizeR (l.take j) + min (max l[j].len 0) (1048576 - sizeR (l.take j)) := by
  unfold sizeR
  rw [total_take_succ hj]
  split <;> split <;> omega
theorem sizeR_ends (l : List Pc) : 0 ≤ sizeR l ∧ sizeR l ≤ 1048576 := by unfold sizeR; split <;> omega
set_option maxRecDepth 100000 in
set_option maxHeartbeats 2000000 in
theorem size_any (A : Option Addr) (c : Nat) (l : List Pc) (w : World) (hp : Pcs w A l) (hok : ∀ p ∈ l, p.Ok) (hmax : l.length ≤ 1000000) :
    Calls Tryz.prog 159 #[.slice A l.length c] w fun e w' => e = .returned (.int .i64 (sizeR l)) ∧ Below w.heap.size w w' := by
  have P := Lib.hid hp
  have OK := Lib.hid hok
  have B0 := Lib.hid (Below.refl w.heap.size w)
  clear hp hok
  go_enter Tryz.func159, Tryz.ntmps159
  go_wp2
  go_loopw [3, 8] (fun s i wr => ∃ (j : Nat) (q : Int), j ≤ l.length ∧ i = .int .i64 (j : Int) ∧ s = .int .i64 q ∧ Hid (q = sizeR (l.take j)) ∧ Below w.heap.size w wr) (fun _ i _ => l.length - (intOf i).toNat)
  case atStart => exact ⟨0, 0, Nat.zero_le _, rfl, rfl, Lib.hid rfl, B0.out⟩
  case round =>
    clear B0
    obtain ⟨j, q, hj, rfl, rfl, hq, hb⟩ := hrel
    have HB := Lib.hid hb
    have hgs : w.heap.size ≤ wr.heap.size := hb.size
    have P1 := Lib.hid (P.out.new hb)
    clear hb
    by_cases hlt : j < l.length
    · have hlt' : (j : Int) < (l.length : Int) := by omega
      have j0 : (0 : Int) ≤ (j : Int) := by omega
      have xj := IntWalk.i64_in ((j : Int) + 1) (by omega)
      obtain ⟨b, o, rfl, hbl, hr⟩ := P1.out j hlt
      have LD := Lib.hid (show wr.rangeAt b (o + j * 3) [.int .i64 l[j].frame, .int .i64 l[j].off, .int .i64 l[j].len] from hr)
      have hs := sizeR_succ hlt
      obtain ⟨q0, q1⟩ := sizeR_ends (l.take j)
      obtain ⟨q2, q3⟩ := sizeR_ends (l.take (j + 1))
      rw [← hq.out] at hs q0 q1
      have HS := Lib.hid hs
      have hx1 : IntKind.i64.wrap (1048576 - q) = 1048576 - q := IntWalk.i64_in _ (by omega)
      have hx2 : IntKind.i64.wrap (q + min (max l[j].len 0) (1048576 - q)) = q + min (max l[j].len 0) (1048576 - q) := IntWalk.i64_in _ (by omega)
      generalize l[j].frame = qf at *
      generalize l[j].off = qo at *
      generalize l[j].len = qn at *
      clear hr hs hq
      go_wp2_with (first
        | (refine wpList_load_mid rfl 213 (.tmp 10) rfl b (o + j * 3) rfl _ _ LD.out Tryz.underlying213 rfl piece_info ?_)
        | fail)
      refine ⟨⟨j + 1, _, by omega, by simp, rfl, Lib.hid ?_, ?_⟩, by simp [intOf]; omega⟩
      · rw [HS.out]
        repeat' split
        all_goals omega
      · exact HB.out.trans (((Below.refl wr.heap.size wr).alloc (Nat.le_refl _) _).mono hgs)
    · have hge : ¬ (j : Int) < (l.length : Int) := by omega
      obtain rfl : j = l.length := by omega
      have e := hq.out
      rw [List.take_length] at e
      have E := Lib.hid e
      clear e hq
      go_wp2
      go_ret
      exact ⟨by rw [E.out]; rfl, HB.out⟩
end Go.Proofs.YtefnkednnnlhoaaGreatDoor

/- Package gather: Cut. Conditions: those that each states. -/
namespace Go.Proofs.YtefnkednnnlhoaaGreatDoor
open Go.ChangeShapes Go.WideShapes Go.ChangeAt Go.RowKit Go.Deep
set_option linter.unusedVariables false

theorem pcs_infos : (Tryz.prog.info? 213).map (fun i => (i.zero.map (·.cells.size), i.size, i.bytes)) = some (some 3, 3, 24) := by kernel_rfl
theorem pcs_info : ∃ i0 z, Tryz.prog.info? 213 = some i0 ∧ i0.zero = some z ∧ i0.size = 3 ∧ i0.bytes = 24 ∧ z.cells.size = 3 := by
  obtain ⟨i, hi, hs⟩ := Option.map_eq_some_iff.1 pcs_infos
  simp only [Prod.mk.injEq] at hs
  obtain ⟨h0, h1, h2⟩ := hs
  obtain ⟨z, hz, hzs⟩ := Option.map_eq_some_iff.1 h0
  exact ⟨i, z, hi, hz, h1, h2, hzs⟩
end Go.Proofs.YtefnkednnnlhoaaGreatDoor

/- A row of cells stored at once into a block that is known whole. Conditions: those that each states. -/
namespace Go.Proofs.YtefnkednnnlhoaaGreatDoor
open Go.ChangeShapes Go.WideShapes Go.ChangeAt Go.RowKit Go.Deep
set_option linter.unusedVariables false

/-- A row of a page's cells of blocks that are known whole, stored at once. -/
theorem wpList_store_at {P : Program} {ops : Array Oper} {rest : List Oper} {o : Oper} {a : Act} {w : World} {Q : Exit → Act → World → Prop} (hgd : o.guard = none) (ty : TypeId) (x y : Operand) (ho : o.op = .store ty x y)
    (g off : Nat) (cells : Array Value) (hx : a.eval x = .pointer (some ⟨g, off, none⟩)) (hy : a.eval y = .agg cells)
    (t : TypeId) (old : Array Value) (hg : Blk w g t old) (hi : (P.info? ty).map (·.size) = some cells.size)
    (hold : off + cells.size ≤ old.size) (h1 : cells.all (·.oneCell') = true)
    (h : wpList P ops Q rest (a.put o.dst undef) (w.setRow g (old.toList.take off ++ cells.toList ++ old.toList.drop (off + cells.size)).toArray)) : wpList P ops Q (o :: rest) a w := by
  refine wpList_plain hgd fun K hK => ?_
  have hst := run_storeCells_at P g off t cells.toList 0 old w hg (by simpa using hold) (fun v hv => (Array.all_eq_true_iff_forall_mem.1 h1) v (by simpa using hv))
  cases hq : P.info? ty with
  | none => simp [hq] at hi
  | some i =>
    have hs : cells.size = i.size := by simp [hq] at hi; omega
    have hrun : (storeVar ty ⟨g, off, none⟩ (.agg cells)).run P w = .ok () (w.setRow g (old.toList.take off ++ cells.toList ++ old.toList.drop (off + cells.size)).toArray) := by
      simp [storeVar, sizeOf, typeInfo, hq, Value.cells, hs, hst]
    unfold Oper.wp execOp
    simp only [ho, hx, hy, Instr.storeAt, Instr.sureAddr, Sem.run_bind, Sem.run_pure, Result.andThen_ok, hrun]
    exact hK _ _ h

section
variable {w : World} {g : Nat} {S : Nat → Prop}
theorem Chg.setRow (w : World) {g : Nat} (cs : Array Value) (hg : S g) : Chg w (w.setRow g cs) S :=
  ⟨rfl, rfl, rfl, by simp, fun k _ hn => setRow_other w g k cs (fun e => hn (by rw [e]; exact hg))⟩
theorem Blk.row {t : TypeId} {cs : Array Value} (h : Blk w g t cs) (cs' : Array Value) : Blk (w.setRow g cs') g t cs' := setRow_heap w g cs cs' t (0, 0) h
end
end Go.Proofs.YtefnkednnnlhoaaGreatDoor
