/- slices.Clone of programs and of lists of pieces, bytes.Clone; slices.IndexFunc and slices.Delete of filters. Conditions: those that each states. -/
import Derived.Test.YthnpalcjfgbjeaaGreatFltO
import Derived.Test.YthnpalcjfgbjeaaGreatGaC
import Derived.Test.YthnpalcjfgbjeaaGreatCom
import Derived.Test.YthnpalcjfgbjeaaGreatFrA
import Derived.Deep.RegionLaw
import Derived.Deep.Cut
import Derived.Deep.CutBlock
import Derived.Test.YthnpalcjfgbjeaaGreatGaH
import Derived.Test.YthnpalcjfgbjeaaGreatDkA
import Derived.Test.YthnpalcjfgbjeaaGreatRgP
import Derived.Test.YthnpalcjfgbjeaaGreatRgT
namespace Go.Proofs.YthnpalcjfgbjeaaGreat.Ke
open Go.ChangeShapes Go.WideShapes Go.ChangeAt Go.RowKit Go.Deep Di
set_option linter.unusedVariables false

/-- What lies at A, n elements of it, lies in blocks that were not there in w. -/
def Fresh (w : World) (A : Option Addr) (n : Nat) : Prop := 0 < n → ∀ b o, A = some ⟨b, o, none⟩ → w.heap.size ≤ b

theorem ops_infos : (Tryz.prog.info? 148).map (fun i => (i.zero.map (·.cells.size), i.size, i.bytes)) = some (some 4, 4, 32) := by kernel_rfl
theorem ops_info : ∃ i0 z, Tryz.prog.info? 148 = some i0 ∧ i0.zero = some z ∧ i0.size = 4 ∧ i0.bytes = 32 ∧ z.cells.size = 4 := by
  obtain ⟨i, hi, hs⟩ := Option.map_eq_some_iff.1 ops_infos
  simp only [Prod.mk.injEq] at hs
  obtain ⟨h0, h1, h2⟩ := hs
  obtain ⟨z, hz, hzs⟩ := Option.map_eq_some_iff.1 h0
  exact ⟨i, z, hi, hz, h1, h2, hzs⟩

theorem clone_prg (A : Option Addr) (c : Nat) (p : List Ins) (w : World) (hp : Prg w A p) (hn : A = none → p = [] ∧ c = 0) (hmax : p.length ≤ 1000000) :
    Calls Tryz.prog 72 #[.slice A p.length c] w fun e w' => ∃ A' c', e = .returned (.slice A' p.length c') ∧ Prg w' A' p ∧ Fresh w A' p.length ∧ Below w.heap.size w w' := by
  obtain ⟨i0, z0, hi, hz, hsz, hby, hzs⟩ := ops_info
  have HP := Lib.hid hp
  have HN := Lib.hid hn
  have INF := Lib.hid (And.intro hi (And.intro hz (And.intro hsz (And.intro hby hzs))))
  cases A with
  | none =>
    obtain ⟨rfl, rfl⟩ := hn rfl
    have he : ∀ W, (binOp .eql 78 (.slice none 0 0) (.slice none 0 0)).run Tryz.prog W = .ok (.bool (none : Option Addr).isNone) W := fun W => Lib.run_eql_slice_nil W 78 148 none 0 0 0 0 Tryz.underlying78
    have he := fun W => (he W).trans (congrArg (fun b => Result.ok (Value.bool b) W) (show (none : Option Addr).isNone = true from rfl))
    clear hn hp hi hz hsz hby hzs
    have h0 : Calls Tryz.prog 72 #[.slice none 0 0] w fun e w' => e = .returned (.slice none 0 0) ∧ w' = w := by
      go_enter Tryz.func72, Tryz.ntmps72
      go_wp2
      go_ret
      exact ⟨rfl, rfl⟩
    refine h0.mono ?_
    rintro e w' ⟨rfl, rfl⟩
    exact ⟨none, 0, rfl, HP.out, fun h => absurd h (by decide), Below.refl _ _⟩
  | some ad =>
    have he : ∀ W, (binOp .eql 78 (.slice (some ad) p.length c) (.slice none 0 0)).run Tryz.prog W = .ok (.bool (some ad).isNone) W := fun W => Lib.run_eql_slice_nil W 78 148 (some ad) p.length c 0 0 Tryz.underlying78
    have he := fun W => (he W).trans (congrArg (fun b => Result.ok (Value.bool b) W) (show (some ad).isNone = false from rfl))
    have hown := World.ownsRow_lit (base := w.heap.size) (e := 148) (size := 4) w #[] 0 (Nat.le_refl _) (by decide) rfl
    clear hn hp hi hz hsz hby hzs
    go_enter Tryz.func72, Tryz.ntmps72
    go_wp2_with (at_builtin; refine Hid.out ?_)
    unfold Hid
    refine wpList_append_prg rfl _ _ 78 rfl w.heap.size 148 i0 z0 Tryz.underlying78 INF.out.1 INF.out.2.1 INF.out.2.2.1 INF.out.2.2.2.1 INF.out.2.2.2.2 _ [] rfl hown (some ad) c p rfl (HP.out.new ((Below.refl _ w).alloc (Nat.le_refl _) _)) HN.out (by simpa using hmax) (by simp) ?_
    intro v' w' h1 h2
    rw [List.nil_append] at h1
    have b2 := ((Below.refl w.heap.size w).alloc (Nat.le_refl _) (.cells #[] 148)).grown h2 (by simp) (fun k e => (hown.lt k e).1)
    obtain ⟨A', c', e1, h3⟩ := prg_of_owns h1
    have B2 := Lib.hid b2
    have H3 := Lib.hid h3
    have H4 := Lib.hid (show Fresh w A' p.length from fun h b o e => by
      rw [e1] at h1
      exact (h1.lt b (by rw [e]; rfl)).1)
    clear h1 h2 h3 b2 hown he
    subst e1
    go_wp2
    go_ret
    exact ⟨A', c', rfl, H3.out, H4.out, B2.out⟩

theorem owns_cap' {w : World} {B : Nat} {E : TypeId} {size n c : Nat} {A : Option Addr} {xs : List Value} (h : w.ownsRow B E size (.slice A n c) n xs) : n ≤ c := by
  rcases h.2 with ⟨e, e0⟩ | ⟨g, cap, cur, e, hg, hh, hc, r⟩
  · cases e; omega
  · cases e; exact hc
theorem clone_pcs (A : Option Addr) (c : Nat) (p : List Pc) (w : World) (hp : Pcs w A p) (hn : 0 < p.length) (hmax : p.length ≤ 1000000) :
    Calls Tryz.prog 79 #[.slice A p.length c] w fun e w' => ∃ A' c', e = .returned (.slice A' p.length c') ∧ Pcs w' A' p ∧ Fresh w A' p.length ∧ p.length ≤ c' ∧ Below w.heap.size w w' := by
  obtain ⟨i0, z0, hi, hz, hsz, hby, hzs⟩ := pcs_info
  obtain ⟨b0, o0, rfl, _, _⟩ := hp 0 hn
  have HP := Lib.hid hp
  have INF := Lib.hid (And.intro hi (And.intro hz (And.intro hsz (And.intro hby hzs))))
  have hc : ∀ j u, (flatP p)[j]? = some u → w.cell? ((⟨b0, o0, none⟩ : Addr).add j) = some u := by
    intro j u hu
    have hj := (List.getElem?_eq_some_iff.1 hu).1
    rw [flatP_length] at hj
    have e1 : j / 3 * 3 + j % 3 = j := by omega
    have e := flatP_at p (show j / 3 < p.length by omega) (show j % 3 < 3 by omega)
    rw [e1, hu] at e
    obtain ⟨b', o', e2, _, hr⟩ := hp (j / 3) (by omega)
    cases e2
    have := hr (j % 3) u e.symm
    have ea : (⟨b0, o0, none⟩ : Addr).add j = ⟨b0, o0 + j, none⟩ := by unfold Addr.add; split <;> simp_all
    rw [ea]
    rw [show o0 + j / 3 * 3 + j % 3 = o0 + j by omega] at this
    exact this
  have h1c : ∀ u ∈ flatP p, u.oneCell' = true := by
    intro u hu
    unfold flatP at hu
    rw [List.mem_flatten] at hu
    obtain ⟨r, hr, hu⟩ := hu
    obtain ⟨q, _, rfl⟩ := List.mem_map.1 hr
    exact one_pc q u hu
  have hold : ∀ (w2 : World), Below w.heap.size w w2 → ∀ j u, (flatP p)[j]? = some u → w2.cell? ((⟨b0, o0, none⟩ : Addr).add j) = some u := fun w2 hb j u hu => by
    have h0 := hc j u hu
    have hlt : ((⟨b0, o0, none⟩ : Addr).add j).block < w.heap.size := World.block_lt_of_cell? w _ h0
    rw [World.cell?_of_block (w := w) (hb.block _ hlt)]
    exact h0
  have HO := Lib.hid hold
  have H1 := Lib.hid h1c
  have he : ∀ W, (binOp .eql 38 (.slice (some ⟨b0, o0, none⟩) p.length c) (.slice none 0 0)).run Tryz.prog W = .ok (.bool (some (⟨b0, o0, none⟩ : Addr)).isNone) W := fun W => Lib.run_eql_slice_nil W 38 90 _ p.length c 0 0 Tryz.underlying38
  have he := fun W => (he W).trans (congrArg (fun b => Result.ok (Value.bool b) W) (show (some (⟨b0, o0, none⟩ : Addr)).isNone = false from rfl))
  have hown := World.ownsRow_lit (base := w.heap.size) (e := 90) (size := 3) w #[] 0 (Nat.le_refl _) (by decide) rfl
  clear hp hi hz hsz hby hzs hc h1c hold
  go_enter Tryz.func79, Tryz.ntmps79
  go_wp2_with (at_builtin; refine Hid.out ?_)
  unfold Hid
  refine wpList_append_lies _ rfl _ _ 38 rfl w.heap.size 90 i0 z0 3 24 Tryz.underlying38 INF.out.1 INF.out.2.1 INF.out.2.2.1 INF.out.2.2.2.1 INF.out.2.2.2.2 (by decide) _ 0 [] rfl hown ⟨b0, o0, none⟩ p.length c (flatP p) rfl (flatP_length p) (HO.out _ ((Below.refl _ w).alloc (Nat.le_refl _) _)) H1.out hn (by unfold maxLen; omega) (by omega) (by simp) (w.heap.size + 1) (by simp) ?_
  intro g cap w1 hown1 hgrow hat hlg
  rw [List.nil_append, Nat.zero_add] at hown1
  have hcap := owns_cap' hown1
  have b2 := ((Below.refl w.heap.size w).alloc (Nat.le_refl _) (.cells #[] 90)).grown hgrow (by simp) (fun k e => (hown.lt k e).1)
  obtain ⟨A', c', e1, h3⟩ := pcs_of_owns hown1
  cases e1
  have B2 := Lib.hid b2
  have H3 := Lib.hid h3
  have H4 := Lib.hid (show Fresh w (some ⟨g, 0, none⟩) p.length from fun h b o e => (hown1.lt b (by rw [e]; rfl)).1)
  have HC := Lib.hid hcap
  clear hown1 hgrow hat h3 b2 hown he hcap
  rw [Nat.zero_add]
  go_wp2
  go_ret
  exact ⟨_, _, rfl, H3.out, H4.out, HC.out, B2.out⟩

theorem clone_bytes (A : Option Addr) (n c : Nat) (l : List UInt8) (w : World) (hb : Src w A n c l) (hn : n ≤ 1099511627776) :
    Calls Tryz.prog 65 #[.slice A n c] w fun e w' => ∃ A' c', e = .returned (.slice A' n c') ∧ Src w' A' n c' l ∧ Fresh w A' n ∧ Below w.heap.size w w' := by
  cases A with
  | none =>
    have hc := hb.none_ rfl
    have hm : n = 0 := by have := hb.cap; omega
    subst hc hm
    have he : ∀ W, (binOp .eql 34 (.slice none 0 0) (.slice none 0 0)).run Tryz.prog W = .ok (.bool (none : Option Addr).isNone) W := fun W => Lib.run_eql_slice_nil W 34 5 none 0 0 0 0 Tryz.underlying34
    have he := fun W => (he W).trans (congrArg (fun b => Result.ok (Value.bool b) W) (show (none : Option Addr).isNone = true from rfl))
    have HB := Lib.hid hb
    clear hb
    have h0 : Calls Tryz.prog 65 #[.slice none 0 0] w fun e w' => e = .returned (.slice none 0 0) ∧ w' = w := by
      go_enter Tryz.func65, Tryz.ntmps65
      go_wp2
      go_ret
      exact ⟨rfl, rfl⟩
    refine h0.mono ?_
    rintro e w' ⟨rfl, rfl⟩
    exact ⟨none, 0, rfl, HB.out, fun h => absurd h (by decide), Below.refl _ _⟩
  | some ad =>
    have he : ∀ W, (binOp .eql 34 (.slice (some ad) n c) (.slice none 0 0)).run Tryz.prog W = .ok (.bool (some ad).isNone) W := fun W => Lib.run_eql_slice_nil W 34 5 (some ad) n c 0 0 Tryz.underlying34
    have he := fun W => (he W).trans (congrArg (fun b => Result.ok (Value.bool b) W) (show (some ad).isNone = false from rfl))
    have hown := World.ownsRow_lit (base := w.heap.size) (e := 5) (size := 1) w #[] 0 (Nat.le_refl _) (by decide) rfl
    have HB := Lib.hid hb
    clear hb
    go_enter Tryz.func65, Tryz.ntmps65
    go_wp2_with (at_builtin; refine Hid.out ?_)
    unfold Hid
    refine wpList_append_src rfl _ _ rfl w.heap.size _ 0 [] rfl hown (some ad) n c l rfl (HB.out.alloc _) (by omega) (by simp) ?_
    intro v' w' h1 h2
    rw [Nat.zero_add] at h1
    have b2 := (Below.refl w.heap.size w).alloc (Nat.le_refl _) (.cells #[] 5) |>.trans h2
    obtain ⟨A', c', rfl, hs, hbs⟩ := src_of_own h1
    have HS := Lib.hid hs
    have HBS := Lib.hid hbs
    have B2 := Lib.hid b2
    clear h1 h2 hown he hs hbs b2
    go_wp2
    go_ret
    exact ⟨A', c', rfl, HS.out, fun _ b o e => HBS.out b o e, B2.out⟩
end Go.Proofs.YthnpalcjfgbjeaaGreat.Ke

/- slices.IndexFunc and slices.Delete of a kernel's filters. Conditions: those that each states. -/
namespace Go.Proofs.YthnpalcjfgbjeaaGreat.Ke
open Go.ChangeShapes Go.WideShapes Go.ChangeAt Go.RowKit Go.Deep Di
set_option linter.unusedVariables false

/-- A bound filter as it lies in a row: id, environment, its program's slice. -/
structure FM where
  id : Int
  env : Int
  A : Option Addr
  n : Nat
  c : Nat
def FM.list (q : FM) : List Value := [.int .i64 q.id, .int .i64 q.env, .slice q.A q.n q.c]
def flatF (l : List FM) : List Value := (l.map FM.list).flatten
theorem flatF_length (p : List FM) : (flatF p).length = p.length * 3 := by
  unfold flatF
  induction p with
  | nil => rfl
  | cons q p ih => rw [List.map_cons, List.flatten_cons, List.length_append, ih, List.length_cons]; show 3 + _ = _; omega
theorem flatF_append (p q : List FM) : flatF (p ++ q) = flatF p ++ flatF q := by unfold flatF; simp
theorem flatF_at (p : List FM) {i j : Nat} (hi : i < p.length) (hj : j < 3) : (flatF p)[i * 3 + j]? = (p[i].list)[j]? := by
  unfold flatF
  induction p generalizing i with
  | nil => simp at hi
  | cons q p ih =>
    cases i with
    | zero =>
      rw [List.map_cons, List.flatten_cons, List.getElem?_append_left (by show _ < 3; omega), Nat.zero_mul, Nat.zero_add]
      rfl
    | succ i =>
      rw [List.map_cons, List.flatten_cons, List.getElem?_append_right (by show 3 ≤ _; omega)]
      have e : (i + 1) * 3 + j - q.list.length = i * 3 + j := by show _ - 3 = _; omega
      rw [e, ih (by simpa using hi)]
      rfl
theorem flatF_take (p : List FM) (i : Nat) : (flatF p).take (i * 3) = flatF (p.take i) := by
  induction p generalizing i with
  | nil => simp [flatF]
  | cons q p ih =>
    cases i with
    | zero => simp [flatF]
    | succ i =>
      have e : flatF (q :: p) = q.list ++ flatF p := rfl
      have e2 : flatF ((q :: p).take (i + 1)) = q.list ++ flatF (p.take i) := rfl
      have hl : q.list.length = 3 := rfl
      rw [e, e2, List.take_append, ← ih, hl, List.take_of_length_le (by rw [hl]; omega), show (i + 1) * 3 - 3 = i * 3 by omega]
theorem flatF_drop (p : List FM) (i : Nat) : (flatF p).drop (i * 3) = flatF (p.drop i) := by
  induction p generalizing i with
  | nil => simp [flatF]
  | cons q p ih =>
    cases i with
    | zero => simp [flatF]
    | succ i =>
      have e : flatF (q :: p) = q.list ++ flatF p := rfl
      have e2 : flatF ((q :: p).drop (i + 1)) = flatF (p.drop i) := rfl
      have hl : q.list.length = 3 := rfl
      rw [e, e2, List.drop_append, ← ih, hl, List.drop_of_length_le (by rw [hl]; omega), show (i + 1) * 3 - 3 = i * 3 by omega, List.nil_append]
theorem one_fm (q : FM) : ∀ u ∈ q.list, u.oneCell' = true := by
  intro u hu
  unfold FM.list at hu
  simp only [List.mem_cons, List.not_mem_nil, or_false] at hu
  rcases hu with rfl | rfl | rfl <;> rfl
theorem one_flatF (p : List FM) : ∀ u ∈ flatF p, u.oneCell' = true := by
  intro u hu
  unfold flatF at hu
  rw [List.mem_flatten] at hu
  obtain ⟨r, hr, hu⟩ := hu
  obtain ⟨q, _, rfl⟩ := List.mem_map.1 hr
  exact one_fm q u hu
abbrev FRow (w : World) (A : Option Addr) (c : Nat) (l : List FM) : Prop := RowW w 150 3 A l.length c (flatF l)
theorem FRow.range {w : World} {A : Option Addr} {c : Nat} {l : List FM} (h : FRow w A c l) {i : Nat} (hi : i < l.length) : ∃ g, A = some ⟨g, 0, none⟩ ∧ g < w.heap.size ∧ w.rangeAt g (i * 3) l[i].list := by
  obtain ⟨g, e, hg, hc⟩ := RowW.form h (by omega)
  refine ⟨g, e, hg, fun j v hj => ?_⟩
  have hj3 : j < 3 := (List.getElem?_eq_some_iff.1 hj).1
  have e2 := (flatF_at l hi hj3).trans hj
  obtain ⟨hlt, e3⟩ := List.getElem?_eq_some_iff.1 e2
  rw [hc _ hlt, e3]

theorem bound_info : (Tryz.prog.info? 150).map (·.size) = some 3 := by kernel_rfl
def isB (id env : Int) (q : FM) : Bool := decide (q.id = id) && decide (q.env = env)

set_option maxRecDepth 100000 in
theorem same_any (q : FM) (a b : Nat) (id env : Int) (w : World) (ha : w.cell? ⟨a, 0, none⟩ = some (.int .i64 id)) (hb : w.cell? ⟨b, 0, none⟩ = some (.int .i64 env)) :
    Calls Tryz.prog 74 #[.agg q.list.toArray, .pointer (some ⟨a, 0, none⟩), .pointer (some ⟨b, 0, none⟩)] w fun e w' => e = .returned (.bool (isB id env q)) ∧ Below w.heap.size w w' := by
  obtain ⟨qi, qe, A, n, c⟩ := q
  show Calls Tryz.prog 74 #[.agg #[.int .i64 qi, .int .i64 qe, .slice A n c], .pointer (some ⟨a, 0, none⟩), .pointer (some ⟨b, 0, none⟩)] w fun e w' => e = .returned (.bool (decide (qi = id) && decide (qe = env))) ∧ Below w.heap.size w w'
  obtain ⟨W, hW⟩ : ∃ W, W = w.alloc (.cells #[.int .i64 qi, .int .i64 qe, .slice A n c] 150) := ⟨_, rfl⟩
  have hb1 : Below w.heap.size w W := by rw [hW]; exact (Below.refl _ w).alloc (Nat.le_refl _) _
  have bb : Blk W w.heap.size 150 #[.int .i64 qi, .int .i64 qe, .slice A n c] := by rw [hW]; exact Blk.new w _ _
  have ha' : W.cell? ⟨a, 0, none⟩ = some (.int .i64 id) := by rw [World.cell?_of_block (w := w) (hb1.block a (World.block_lt_of_cell? w _ ha))]; exact ha
  have hb' : W.cell? ⟨b, 0, none⟩ = some (.int .i64 env) := by rw [World.cell?_of_block (w := w) (hb1.block b (World.block_lt_of_cell? w _ hb))]; exact hb
  have d0 := bb.cell 0
  have d1 := bb.cell 1
  simp only [List.getElem?_toArray, List.getElem?_cons_succ, List.getElem?_cons_zero] at d0 d1
  have HW := Lib.hid hW
  have HB := Lib.hid hb1
  clear hW hb1 bb ha hb
  by_cases h1 : qi = id
  · subst h1
    by_cases h2 : qe = env
    · subst h2
      have e1 : (decide (qi = qi) && decide (qe = qe)) = true := by simp
      rw [e1]
      clear e1
      go_enter Tryz.func74, Tryz.ntmps74
      go_upto_region 1 with fail
      rw [show w.alloc (.cells #[.int .i64 qi, .int .i64 qe, .slice A n c] 150) = W from HW.out.symm]
      go_wp2
      go_ret
      exact ⟨rfl, HB.out⟩
    · have e1 : (decide (qi = qi) && decide (qe = env)) = false := by simp [h2]
      have h3 : (qe == env) = false := by simpa using h2
      rw [e1]
      clear e1
      go_enter Tryz.func74, Tryz.ntmps74
      go_upto_region 1 with fail
      rw [show w.alloc (.cells #[.int .i64 qi, .int .i64 qe, .slice A n c] 150) = W from HW.out.symm]
      go_wp2
      go_ret
      exact ⟨rfl, HB.out⟩
  · have e1 : (decide (qi = id) && decide (qe = env)) = false := by simp [h1]
    have h3 : (qi == id) = false := by simpa using h1
    rw [e1]
    clear e1
    go_enter Tryz.func74, Tryz.ntmps74
    go_upto_region 1 with fail
    rw [show w.alloc (.cells #[.int .i64 qi, .int .i64 qe, .slice A n c] 150) = W from HW.out.symm]
    go_wp2
    go_ret
    exact ⟨rfl, HB.out⟩

/-- Where the filter with that id and environment stands, or -1. -/
def idxB (l : List FM) (id env : Int) : Int := match l.findIdx? (isB id env) with | some k => (k : Int) | none => -1
set_option maxRecDepth 100000 in
set_option maxHeartbeats 1000000 in
theorem index_any (A : Option Addr) (c : Nat) (l : List FM) (a b : Nat) (id env : Int) (w : World) (h : FRow w A c l) (hmax : l.length ≤ 1000) (ha : w.cell? ⟨a, 0, none⟩ = some (.int .i64 id)) (hb : w.cell? ⟨b, 0, none⟩ = some (.int .i64 env)) :
    Calls Tryz.prog 73 #[.slice A l.length c, .func (.func 74) #[] #[.pointer (some ⟨a, 0, none⟩), .pointer (some ⟨b, 0, none⟩)]] w fun e w' => e = .returned (.int .i64 (idxB l id env)) ∧ Below w.heap.size w w' := by
  have HA := Lib.hid (And.intro ha hb)
  have H := Lib.hid h
  have B0 := Lib.hid (Below.refl w.heap.size w)
  clear h ha hb
  go_enter Tryz.func73, Tryz.ntmps73
  go_wp2
  go_loopw [8] (fun i wr => ∃ (j : Nat), j ≤ l.length ∧ i = .int .i64 (j : Int) ∧ Hid (Below w.heap.size w wr) ∧ Hid (∀ x (hx : x < l.length), x < j → isB id env l[x] = false)) (fun i _ => l.length - (intOf i).toNat)
  case atStart => exact ⟨0, Nat.zero_le _, rfl, B0, Lib.hid (fun x hx h => absurd h (by omega))⟩
  case round =>
    clear B0
    obtain ⟨j, hj, rfl, HB, HN⟩ := hrel
    have hgs : w.heap.size ≤ wr.heap.size := HB.out.size
    by_cases hlt : j < l.length
    · have hlt' : (j : Int) < (l.length : Int) := by omega
      have j0 : (0 : Int) ≤ (j : Int) := by omega
      have xj := IntWalk.i64_in ((j : Int) + 1) (by omega)
      obtain ⟨g, rfl, hg, hr⟩ := FRow.range (RowW.new H.out HB.out) hlt
      have LD := Lib.hid (show wr.rangeAt g (j * 3) l[j].list from hr)
      have SM := Lib.hid (same_any l[j] a b id env wr (by rw [HB.out.cell (World.block_lt_of_cell? w _ HA.out.1)]; exact HA.out.1) (by rw [HB.out.cell (World.block_lt_of_cell? w _ HA.out.2)]; exact HA.out.2))
      have YES := Lib.hid (fun (hb : isB id env l[j] = true) => show idxB l id env = (j : Int) from by
        unfold idxB
        have e : l.findIdx? (isB id env) = some j := by
          rw [List.findIdx?_eq_some_iff_getElem]
          exact ⟨hlt, hb, fun x hx => by simp [HN.out x (by omega) hx]⟩
        rw [e])
      have NO := Lib.hid (fun (hb : isB id env l[j] = false) => show ∀ x (hx : x < l.length), x < j + 1 → isB id env l[x] = false from fun x hx h => by
        by_cases e : x = j
        · subst e; exact hb
        · exact HN.out x hx (by omega))
      generalize isB id env l[j] = v at *
      clear hr hg
      go_wp2_with (first
        | (refine wpList_load_mid rfl 150 (.tmp 14) rfl g (j * 3) rfl _ _ LD.out Tryz.underlying150 rfl bound_info ?_)
        | fail)
      refine SM.out.mono ?_; rintro e w5 ⟨rfl, b5⟩
      have HB5 := Lib.hid (HB.out.trans (b5.mono hgs))
      clear b5
      cases v with
      | true =>
        have Y := Lib.hid (YES.out (by first | rfl | trivial))
        clear YES NO HN
        go_wp2
        go_ret
        exact ⟨by rw [Y.out]; rfl, HB5.out⟩
      | false =>
        have HN2 := Lib.hid (NO.out (by first | rfl | trivial))
        clear HN NO YES
        go_wp2
        go_roundw
        case rel => exact ⟨j + 1, by omega, by simp, HB5, HN2⟩
        case measure => simp [intOf]; omega
    · have hge : ¬ (j : Int) < (l.length : Int) := by omega
      obtain rfl : j = l.length := by omega
      have NO := Lib.hid (show idxB l id env = -1 from by
        unfold idxB
        have e : l.findIdx? (isB id env) = none := by
          rw [List.findIdx?_eq_none_iff]
          intro x hx
          obtain ⟨i, hi, rfl⟩ := List.mem_iff_getElem.1 hx
          exact HN.out i hi hi
        rw [e])
      go_wp2
      go_ret
      exact ⟨by rw [NO.out]; rfl, HB.out⟩

/-- Cells stored into a block that is known whole. -/
theorem setCells_row {w : World} {g : Nat} {t : TypeId} {cs : Array Value} (h : Blk w g t cs) (o : Nat) (vs : List Value) (ho : o + vs.length ≤ cs.size) (h1 : ∀ v ∈ vs, v.oneCell' = true) :
    w.setCells g o vs = w.setRow g (cs.toList.take o ++ vs ++ cs.toList.drop (o + vs.length)).toArray := by
  have e1 := run_storeCells_at Tryz.prog g o t vs 0 cs w h (by simpa using ho) h1
  have e2 := run_storeCells_cells (P := Tryz.prog) g o vs 0 w (fun j hj => by rw [h.cell, Array.getElem?_eq_getElem (by omega)]; rfl) (fun j hj => h.frozen _) h1
  have e3 := e2.symm.trans e1
  simp only [Nat.add_zero] at e3
  injection e3
theorem clear3_run (g o c : Nat) (t : TypeId) (cs : Array Value) (w : World) (h : Blk w g t cs) (ho : o + 3 ≤ cs.size) (ty : TypeId) :
    (Builtin.clear_ #[65] ty #[.slice (some ⟨g, o, none⟩) 1 c]).run Tryz.prog w = .ok (.tuple #[]) (w.setRow g (cs.toList.take o ++ ([.int .i64 0, .int .i64 0, .slice none 0 0] : List Value) ++ cs.toList.drop (o + 3)).toArray) := by
  have hz : ∀ W, (zeroValue 150).run Tryz.prog W = .ok (.agg #[.int .i64 0, .int .i64 0, .slice none 0 0]) W := by
    intro W
    obtain ⟨i, hi, hs⟩ := Option.map_eq_some_iff.1 (show (Tryz.prog.info? 150).map (·.zero) = some (some (.agg #[.int .i64 0, .int .i64 0, .slice none 0 0])) by kernel_rfl)
    simp [zeroValue, typeInfo, hi, hs]
  have e1 := run_storeCells_at Tryz.prog g o t [.int .i64 0, .int .i64 0, .slice none 0 0] 0 cs w h (by simpa using ho) (by intro v hv; simp only [List.mem_cons, List.not_mem_nil, or_false] at hv; rcases hv with rfl | rfl | rfl <;> rfl)
  simp only [Nat.add_zero, List.length_cons, List.length_nil, Nat.zero_add, Nat.reduceAdd] at e1
  have hc : (Builtin.zeroCells (Value.agg #[.int .i64 0, .int .i64 0, .slice none 0 0]).cells 1).toList = ([.int .i64 0, .int .i64 0, .slice none 0 0] : List Value) := by kernel_rfl
  simp [Builtin.clear_, run_underlying Tryz.underlying65, hz, hc, e1]

theorem bounds_infos : (Tryz.prog.info? 150).map (fun i => (i.zero.map (·.cells.size), i.size, i.bytes)) = some (some 3, 3, 40) := by kernel_rfl
theorem bounds_info : ∃ i0 z, Tryz.prog.info? 150 = some i0 ∧ i0.zero = some z ∧ i0.size = 3 ∧ i0.bytes = 40 ∧ z.cells.size = 3 := by
  obtain ⟨i, hi, hs⟩ := Option.map_eq_some_iff.1 bounds_infos
  simp only [Prod.mk.injEq] at hs
  obtain ⟨h0, h1, h2⟩ := hs
  obtain ⟨z, hz, hzs⟩ := Option.map_eq_some_iff.1 h0
  exact ⟨i, z, hi, hz, h1, h2, hzs⟩

set_option maxRecDepth 100000 in
set_option maxHeartbeats 1000000 in
theorem delete_any (A : Option Addr) (c : Nat) (l : List FM) (i : Nat) (w : World) (h : FRow w A c l) (hi : i < l.length) (hmax : l.length ≤ 1000) :
    Calls Tryz.prog 75 #[.slice A l.length c, .int .i64 (i : Int), .int .i64 ((i : Int) + 1)] w fun e w' => e = .returned (.slice A (l.length - 1) c) ∧ FRow w' A c (l.eraseIdx i) ∧ Chg w w' (fun k => inB A k) := by
  obtain ⟨i0, z0, hin, hz, hsz, hby, hzs⟩ := bounds_info
  have INF := Lib.hid (And.intro hin (And.intro hz (And.intro hsz (And.intro hby hzs))))
  have hcap := RowW.capMax h
  rcases h.own.2 with ⟨_, e⟩ | ⟨g, cap, cur, e, hg, hh, hnc, hcm, hcs, htk⟩
  · omega
  cases e
  have bb : Blk w g 150 cur := hh
  have hF := flatF_length l
  -- the cells that move
  have hnl : (flatF (l.drop (i + 1))).length = (l.length - (i + 1)) * 3 := by rw [flatF_length, List.length_drop]
  have hcur : ∀ (k : Nat) (u : Value), (flatF l)[k]? = some u → cur[k]? = some u := by
    intro k u hk
    rw [← htk, List.getElem?_take] at hk
    split at hk
    · simpa using hk
    · cases hk
  have hnews : ∀ (j : Nat) (u : Value), (flatF (l.drop (i + 1)))[j]? = some u → w.drew.cell? ⟨g, (i + 1) * 3 + j, none⟩ = some u := by
    intro j u hj
    have : w.cell? ⟨g, (i + 1) * 3 + j, none⟩ = some u := by
      rw [bb.cell]
      refine hcur _ _ ?_
      rw [← flatF_drop, List.getElem?_drop] at hj
      exact hj
    exact this
  have hsize : cur.size = c * 3 := hcs
  have f1 : i * 3 + (flatF (l.drop (i + 1))).length ≤ cur.size := by rw [hnl]; omega
  have hone := one_flatF (l.drop (i + 1))
  obtain ⟨W1, hW1⟩ : ∃ W1, W1 = w.drew.setCells g (i * 3) (flatF (l.drop (i + 1))) := ⟨_, rfl⟩
  have hrow := setCells_row (w := w.drew) (show Blk w.drew g _ cur from bb) (i * 3) _ f1 hone
  obtain ⟨c1, hc1⟩ : ∃ c1, c1 = (cur.toList.take (i * 3) ++ flatF (l.drop (i + 1)) ++ cur.toList.drop (i * 3 + (flatF (l.drop (i + 1))).length)).toArray := ⟨_, rfl⟩
  rw [← hc1, ← hW1] at hrow
  have b1 : Blk W1 g 150 c1 := by rw [hrow]; exact setRow_heap _ g cur _ 150 (0, 0) bb
  have hc1s : c1.size = c * 3 := by rw [hc1]; simp [hnl]; omega
  have hc1t : c1.toList.take ((l.length - 1) * 3) = flatF (l.eraseIdx i) := by
    have e0 : cur.toList.take (i * 3) = flatF (l.take i) := by
      rw [← flatF_take, ← htk, List.take_take, Nat.min_eq_left (by omega)]
    rw [hc1, List.toList_toArray, e0, ← flatF_append, List.eraseIdx_eq_take_drop_succ]
    have hl2 : (flatF (l.take i ++ l.drop (i + 1))).length = (l.length - 1) * 3 := by rw [flatF_length]; simp; omega
    rw [List.take_append_of_le_length (by omega), List.take_of_length_le (by omega)]
  have hcl := fun ty => clear3_run g ((l.length - 1) * 3) (c - (l.length - 1)) 150 c1 W1 b1 (by omega) ty
  obtain ⟨c2, hc2⟩ : ∃ c2, c2 = (c1.toList.take ((l.length - 1) * 3) ++ ([.int .i64 0, .int .i64 0, .slice none 0 0] : List Value) ++ c1.toList.drop ((l.length - 1) * 3 + 3)).toArray := ⟨_, rfl⟩
  rw [← hc2] at hcl
  obtain ⟨W2, hW2⟩ : ∃ W2, W2 = W1.setRow g c2 := ⟨_, rfl⟩
  rw [← hW2] at hcl
  have b2 : Blk W2 g 150 c2 := by rw [hW2]; exact b1.row c2
  have hk : Chg w W2 (fun k => inB (some ⟨g, 0, none⟩) k) := by
    have k1 : Chg w W1 (fun k => inB (some ⟨g, 0, none⟩) k) := by
      rw [hrow]
      exact (Chg.refl w _).drew.trans (Chg.setRow _ _ (inB_self g 0))
    rw [hW2]
    exact k1.trans (Chg.setRow _ _ (inB_self g 0))
  have hfin : FRow W2 (some ⟨g, 0, none⟩) c (l.eraseIdx i) := by
    have hle : (l.eraseIdx i).length = l.length - 1 := by rw [List.length_eraseIdx, if_pos hi]
    refine ⟨flatF_length _, .inr ⟨g, c, c2, rfl, Nat.zero_le _, b2, by omega, hcm, by rw [hc2]; simp; omega, ?_⟩⟩
    rw [hle, hc2, List.toList_toArray, List.append_assoc, hc1t]
    have : (flatF (l.eraseIdx i)).length = (l.length - 1) * 3 := by rw [flatF_length, hle]
    rw [List.take_append_of_le_length (by omega), List.take_of_length_le (by omega)]
  have FIN := Lib.hid (And.intro hfin hk)
  obtain ⟨A', hA', hsrc⟩ : ∃ A' : Addr, (if c = i + 1 then some (⟨g, 0, none⟩ : Addr) else some ⟨g, (i + 1) * 3, none⟩) = some A' ∧ Hid (∀ (j : Nat) (u : Value), (flatF (l.drop (i + 1)))[j]? = some u → w.drew.cell? (A'.add j) = some u) := by
    by_cases hc : c = i + 1
    · refine ⟨⟨g, 0, none⟩, by simp [hc], Lib.hid fun j u hu => ?_⟩
      have h0 : (flatF (l.drop (i + 1))).length = 0 := by rw [hnl]; omega
      rw [List.length_eq_zero_iff.1 h0] at hu
      simp at hu
    · refine ⟨⟨g, (i + 1) * 3, none⟩, by simp [hc], Lib.hid fun j u hu => ?_⟩
      have ea : (⟨g, (i + 1) * 3, none⟩ : Addr).add j = ⟨g, (i + 1) * 3 + j, none⟩ := by unfold Addr.add; split <;> simp_all
      rw [ea]
      exact hnews j u hu
  have NL := Lib.hid hnl
  have ONE := Lib.hid hone
  have SPARE := Lib.hid (show ∀ j, j < (flatF (l.drop (i + 1))).length → (w.drew.cell? ⟨g, 0 + i * 3 + j, none⟩).isSome = true ∧ w.drew.frozen? ⟨g, 0 + i * 3 + j, none⟩ = false from fun j hj => by
    have hb : Blk w.drew g 150 cur := bb
    rw [hb.cell, Array.getElem?_eq_getElem (by omega)]
    exact ⟨rfl, hb.frozen _⟩)
  have HW1 := Lib.hid hW1
  have hi0 : (0 : Int) ≤ (i : Int) := by omega
  have hi1 : (i : Int) + 1 ≤ (l.length : Int) := by omega
  have hlc : (l.length : Int) ≤ (c : Int) := by omega
  have hne : ¬ (i : Int) = (i : Int) + 1 := by omega
  have hic : i ≤ c := by omega
  have hjc : i + 1 ≤ c := by omega
  have hroom : i + (l.length - (i + 1)) ≤ c := by omega
  have hile : i + (l.length - (i + 1)) = l.length - 1 := by omega
  have HIL := Lib.hid hile
  have HR := Lib.hid hroom
  obtain ⟨m, hm1, hm2⟩ : ∃ m, l.length - 1 = m ∧ l.length = m + 1 := ⟨l.length - 1, rfl, by omega⟩
  rw [hm1] at hcl HIL
  have hcl2 : ∀ ty, (Builtin.clear_ #[65] ty #[.slice (some ⟨g, m * 3, none⟩) (l.length - m) (c - m)]).run Tryz.prog W1 = .ok (.tuple #[]) W2 := by
    rw [show l.length - m = 1 by omega]
    exact hcl
  have hm0 : (0 : Int) ≤ (m : Int) := by omega
  have hml : (m : Int) ≤ (l.length : Int) := by omega
  have hcm1 : ¬ c = m := by omega
  have hi2 : (0 : Int) ≤ (i : Int) + 1 := by omega
  have HM1 := Lib.hid hm1
  clear hm1 hm2 hcl
  clear hnews hroom hile hin hz hsz hby hzs hcap bb hF hnl hcur hsize f1 hone hrow hc1 b1 hc1s hc1t hc2 b2 hk hfin hW1 hW2 hcs htk hh
  go_enter Tryz.func75, Tryz.ntmps75
  go_upto_region 5 with fail
  go_region_law ((refine step_append_room rfl (.tmp 22) (.tmp 25) 65 rfl 150 i0 3 Tryz.underlying65 INF.out.1 INF.out.2.2.1 g 0 i c (by simp [Act.eval, Act.put]) A' (l.length - (i + 1)) (c - (i + 1)) (flatF (l.drop (i + 1))) (by simp [Act.eval, Act.put]) NL.out hsrc.out ONE.out HR.out SPARE.out ?_; rw [Nat.zero_add, ← HW1.out, HIL.out]))
  go_wp2
  go_ret
  rw [HM1.out]
  exact ⟨rfl, FIN.out⟩
end Go.Proofs.YthnpalcjfgbjeaaGreat.Ke

/- A kernel in plain words, what each call does to it, and how it lies in memory. Conditions: those that each states. -/
namespace Go.Proofs.YthnpalcjfgbjeaaGreat.Ke
open Go.ChangeShapes Go.WideShapes Go.ChangeAt Go.RowKit Go.Deep Fr Di
set_option linter.unusedVariables false

structure Fil where
  id : Nat
  env : Nat
  p : List Ins
structure Tr where
  env : Nat
  l : List Pc
structure Kn where
  ps : List Pg
  dk : Dk
  fs : List Fil
  next : Nat
  i1 : List (List UInt8)
  f1 : Nat
  i2 : List (List UInt8)
  f2 : Nat
  out : List Tr
  f3 : Nat
  done : Nat
/-- A call, in plain words. -/
structure KQ where
  op : Int
  env : Int
  a : Int
  b : Int
  c : Int
  s : List UInt8
  p : List Ins
  l : List Pc

/-- Whether a program may be a filter. -/
def lastB (p : List Ins) : Bool := match p[p.length - 1]? with | some q => q.code == 7 || q.code == 8 | none => true
def chkB (p : List Ins) : Bool := decide (1 ≤ p.length) && decide (p.length ≤ 64) && ((List.range p.length).all fun i => match p[i]? with | some q => mayB q ((p.length : Int) - 1 - i) | none => true) && lastB p
theorem lastB_iff (p : List Ins) : lastB p = true ↔ ∀ (h : p.length - 1 < p.length), p[p.length - 1].code = 7 ∨ p[p.length - 1].code = 8 := by
  unfold lastB
  by_cases h : p.length - 1 < p.length
  · rw [List.getElem?_eq_getElem h]
    simp [h]
  · rw [List.getElem?_eq_none (by omega)]
    simp [h]
theorem chkB_iff (p : List Ins) : chkB p = true ↔ Chk p := by
  unfold chkB
  simp only [Bool.and_eq_true, decide_eq_true_eq, List.all_eq_true, List.mem_range, lastB_iff]
  constructor
  · rintro ⟨⟨⟨h1, h2⟩, h3⟩, h4⟩
    refine ⟨h1, h2, fun i hi => ?_, h4⟩
    have := h3 i hi
    rw [List.getElem?_eq_getElem hi] at this
    exact this
  · rintro ⟨h1, h2, h3, h4⟩
    refine ⟨⟨⟨h1, h2⟩, fun i hi => ?_⟩, h4⟩
    rw [List.getElem?_eq_getElem hi]
    exact h3 i hi

def isFil (id env : Int) (f : Fil) : Bool := decide ((f.id : Int) = id) && decide ((f.env : Int) = env)
def bindR (K : Kn) (env : Int) (p : List Ins) : Kn × Int × Int :=
  if 8 ≤ K.fs.length then (K, 0, 10) else if chkB p = true then ({ K with fs := K.fs ++ [⟨K.next, env.toNat, p⟩], next := K.next + 1 }, (K.next : Int), 0) else (K, 0, 40)
def unbindR (K : Kn) (env id : Int) : Kn × Int :=
  match K.fs.findIdx? (isFil id env) with | some i => ({ K with fs := K.fs.eraseIdx i }, 0) | none => (K, 11)
def submitR (K : Kn) (env : Int) (l : List Pc) : Kn × Int × Int :=
  if 16 ≤ K.out.length then (K, 0, 10) else
  if (holdG K.ps env l).2 = 0 then ({ K with ps := (holdG K.ps env l).1, out := K.out ++ [⟨env.toNat, l⟩] }, (K.f3 : Int) + (K.out.length : Int), 0) else (K, 0, (holdG K.ps env l).2)
def takeR (K : Kn) (env : Int) : Kn × List UInt8 × Int :=
  if env = 1 then (match K.i1 with | s :: r => ({ K with i1 := r, f1 := K.f1 + 1 }, s, 0) | [] => (K, [], 11))
  else (match K.i2 with | s :: r => ({ K with i2 := r, f2 := K.f2 + 1 }, s, 0) | [] => (K, [], 11))
def callR (K : Kn) (q : KQ) : Kn × Int × List UInt8 × Int :=
  if ¬ (q.env = 1 ∨ q.env = 2) then (K, 0, [], 1)
  else if q.op = 1 then ({ K with ps := (Fr.allocR K.ps q.env).1 }, (Fr.allocR K.ps q.env).2.1, [], (Fr.allocR K.ps q.env).2.2)
  else if q.op = 2 then ({ K with ps := (Fr.freeR K.ps q.env q.a).1 }, 0, [], (Fr.freeR K.ps q.env q.a).2)
  else if q.op = 3 then ({ K with ps := (Fr.giveR K.ps q.env q.a q.b).1 }, 0, [], (Fr.giveR K.ps q.env q.a q.b).2)
  else if q.op = 4 then (K, 0, (Fr.readR K.ps q.env q.a q.b q.c).1, (Fr.readR K.ps q.env q.a q.b q.c).2)
  else if q.op = 5 then ({ K with ps := (Fr.writeR K.ps q.env q.a q.b q.s).1 }, 0, [], (Fr.writeR K.ps q.env q.a q.b q.s).2)
  else if q.op = 6 then (K, 0, (readR K.dk q.env q.a).1, (readR K.dk q.env q.a).2)
  else if q.op = 7 then ({ K with dk := (writeR K.dk q.env q.a q.s).1 }, 0, [], (writeR K.dk q.env q.a q.s).2)
  else if q.op = 8 then ({ K with dk := (syncR K.dk).1 }, 0, [], (syncR K.dk).2)
  else if q.op = 9 then ((bindR K q.env q.p).1, (bindR K q.env q.p).2.1, [], (bindR K q.env q.p).2.2)
  else if q.op = 10 then ((unbindR K q.env q.a).1, 0, [], (unbindR K q.env q.a).2)
  else if q.op = 11 then ((submitR K q.env q.l).1, (submitR K q.env q.l).2.1, [], (submitR K q.env q.l).2.2)
  else if q.op = 12 then ((takeR K q.env).1, 0, (takeR K q.env).2.1, (takeR K q.env).2.2)
  else if q.op = 13 then (K, (K.done : Int), [], 0)
  else (K, 0, [], 1)
def wants (s : List UInt8) (f : Fil) : Bool := decide (runP f.p s ≠ 0)
def arriveR (K : Kn) (s : List UInt8) : Kn × Int × Int :=
  if 1024 < s.length then (K, 0, 2) else
  match K.fs.find? (wants s) with
  | none => (K, 0, 11)
  | some f => if f.env = 1 then (if 16 ≤ K.i1.length then (K, 0, 10) else ({ K with i1 := K.i1 ++ [s] }, 1, 0))
    else (if 16 ≤ K.i2.length then (K, 0, 10) else ({ K with i2 := K.i2 ++ [s] }, 2, 0))
def departR (K : Kn) : Kn × List UInt8 × Int × Int :=
  match K.out with
  | [] => (K, [], 0, 11)
  | t :: r => ({ K with ps := (dropG K.ps t.l).1, out := r, f3 := K.f3 + 1, done := K.done + 1 }, gatherB (txt K.ps) t.l, (t.env : Int), 0)

/-- How often the transfers that wait hold a frame. -/
def heldN (o : List Tr) (f : Int) : Nat := (o.map fun t => cnt t.l f).sum
structure Tr.Ok (ps : List Pg) (t : Tr) : Prop where
  ne : t.l ≠ []
  n : t.l.length ≤ 16
  ok : ∀ p ∈ t.l, p.Ok
  fits : ∀ p ∈ t.l, p.Fits ps.length
  own : ∀ p ∈ t.l, (pg ps p.frame).owner = t.env
  e1 : 1 ≤ t.env
  e2 : t.env ≤ 2
structure Fil.Ok (f : Fil) : Prop where
  chk : Chk f.p
  ok : ∀ q ∈ f.p, q.Ok
  e1 : 1 ≤ f.env
  e2 : f.env ≤ 2
structure Kn.Ok (K : Kn) : Prop where
  f8 : K.fs.length ≤ 8
  fs : ∀ f ∈ K.fs, f.Ok
  n1 : K.i1.length ≤ 16
  n2 : K.i2.length ≤ 16
  no : K.out.length ≤ 16
  s1 : ∀ s ∈ K.i1, s.length ≤ 1024
  s2 : ∀ s ∈ K.i2, s.length ≤ 1024
  out : ∀ t ∈ K.out, t.Ok K.ps
  holds : ∀ k (h : k < K.ps.length), K.ps[k].holds = heldN K.out (k : Int)
  on : K.dk.on = true
  arm : K.dk.armed = -1
  pok : ∀ p ∈ K.ps, p.Ok
  dok : K.dk.Ok
  f3 : K.f3 = K.done
structure Kn.Small (K : Kn) (n : Nat) : Prop where
  next : K.next ≤ n
  a1 : K.f1 + K.i1.length ≤ n
  a2 : K.f2 + K.i2.length ≤ n
  out : K.f3 + K.out.length ≤ n
  done : K.done ≤ n
  line : K.dk.line.length ≤ n
theorem cnt_le_len (l : List Pc) (f : Int) : cnt l f ≤ l.length := cnt_len l f
theorem heldN_le {ps : List Pg} {o : List Tr} (h : ∀ t ∈ o, t.Ok ps) (f : Int) : heldN o f ≤ o.length * 16 := by
  induction o with
  | nil => simp [heldN]
  | cons t o ih =>
    have h1 := ih (fun t ht => h t (by simp [ht]))
    have h2 := cnt_le_len t.l f
    have h3 := (h t (by simp)).n
    unfold heldN at *
    rw [List.map_cons, List.sum_cons, List.length_cons]
    omega
theorem Kn.Ok.hm {K : Kn} (h : K.Ok) : ∀ p ∈ K.ps, p.holds + 16 < 1000000 := by
  intro p hp
  obtain ⟨k, hk, rfl⟩ := List.mem_iff_getElem.1 hp
  have h1 := h.holds k hk
  have h2 := heldN_le h.out (k : Int)
  have h3 := h.no
  omega

/-! In memory. -/
/-- No block of what lies at A, n elements of it, is F's. -/
def Off (F : Nat → Prop) (A : Option Addr) (n : Nat) : Prop := 0 < n → ∀ b o, A = some ⟨b, o, none⟩ → ¬ F b
section
variable {w w' : World} {F F' : Nat → Prop} {A : Option Addr} {n c : Nat}
theorem Fresh.off (h : Fresh w A n) (hF : ∀ k, F k → k < w.heap.size) : Off F A n := fun h0 b o e hf => by
  have := h h0 b o e
  have := hF b hf
  omega
theorem Src.lt_ {s : List UInt8} (h : Src w A n c s) (hn : 0 < n) : ∃ b o, A = some ⟨b, o, none⟩ ∧ b < w.heap.size := by
  have hl := h.len
  obtain ⟨b, o, e, hb, _⟩ := h.lies (by rw [bys_length]; omega)
  exact ⟨b, o, e, hb⟩
theorem Src.step {s : List UInt8} (h : Src w A n c s) (k : Step w w' F F') (ho : Off F A n) : Src w' A n c s := by
  refine ⟨⟨fun hp => ?_, h.len, h.cap, h.max⟩, h.none_⟩
  obtain ⟨b, o, e, hb, hc⟩ := h.lies hp
  have hn : 0 < n := by rw [bys_length, h.len] at hp; exact hp
  refine ⟨b, o, e, Nat.lt_of_lt_of_le hb k.1.size, fun j hj => ?_⟩
  rw [World.cell?_of_block (w := w) (w' := w') (a := ⟨b, o + j, none⟩) (k.1.block b hb (ho hn b o e))]
  exact hc j hj
theorem Off.step {b0 o0 : Nat} (ho : Off F A n) (k : Step w w' F F') (hl : 0 < n → ∃ b o, A = some ⟨b, o, none⟩ ∧ b < w.heap.size) : Off F' A n := fun h0 b o e hf => by
  obtain ⟨b', o', e', hb⟩ := hl h0
  rw [e] at e'
  cases e'
  rcases k.2 b hf with h1 | h1
  · exact ho h0 b o e h1
  · omega
theorem Prg.step {p : List Ins} (h : Prg w A p) (k : Step w w' F F') (ho : Off F A p.length) : Prg w' A p := by
  intro i hi
  obtain ⟨b, o, e, hb, h1⟩ := h i hi
  refine ⟨b, o, e, Nat.lt_of_lt_of_le hb k.1.size, fun j v hj => ?_⟩
  rw [World.cell?_of_block (w := w) (w' := w') (a := ⟨b, o + i * 4 + j, none⟩) (k.1.block b hb (ho (by omega) b o e))]
  exact h1 j v hj
theorem Pcs.step {p : List Pc} (h : Pcs w A p) (k : Step w w' F F') (ho : Off F A p.length) : Pcs w' A p := by
  intro i hi
  obtain ⟨b, o, e, hb, h1⟩ := h i hi
  refine ⟨b, o, e, Nat.lt_of_lt_of_le hb k.1.size, fun j v hj => ?_⟩
  rw [World.cell?_of_block (w := w) (w' := w') (a := ⟨b, o + i * 3 + j, none⟩) (k.1.block b hb (ho (by omega) b o e))]
  exact h1 j v hj
theorem Prg.lt_ {p : List Ins} (h : Prg w A p) : 0 < p.length → ∃ b o, A = some ⟨b, o, none⟩ ∧ b < w.heap.size := fun h0 => by
  obtain ⟨b, o, e, hb, _⟩ := h 0 h0
  exact ⟨b, o, e, hb⟩
theorem Pcs.lt_ {p : List Pc} (h : Pcs w A p) : 0 < p.length → ∃ b o, A = some ⟨b, o, none⟩ ∧ b < w.heap.size := fun h0 => by
  obtain ⟨b, o, e, hb, _⟩ := h 0 h0
  exact ⟨b, o, e, hb⟩
end
/-- A packet, a filter, a transfer in a row. -/
def PkAt (w : World) (F : Nat → Prop) (v : Value) (s : List UInt8) : Prop := ∃ A c, v = .slice A s.length c ∧ Src w A s.length c s ∧ Off F A s.length
def FilAt (w : World) (F : Nat → Prop) (q : FM) (f : Fil) : Prop := q.id = (f.id : Int) ∧ q.env = (f.env : Int) ∧ q.n = f.p.length ∧ Prg w q.A f.p ∧ Off F q.A f.p.length
def TrAt (w : World) (F : Nat → Prop) (u : Value × Value) (t : Tr) : Prop := ∃ A c, u = (.int .i64 (t.env : Int), .slice A t.l.length c) ∧ Pcs w A t.l ∧ Off F A t.l.length ∧ t.l.length ≤ c
/-- Two lists, one thing of the one beside one of the other. -/
def Pair {α β : Type} (R : α → β → Prop) (l : List α) (r : List β) : Prop := l.length = r.length ∧ ∀ i (h : i < l.length) (h' : i < r.length), R l[i] r[i]
section
variable {α β : Type} {R R' : α → β → Prop} {l : List α} {r : List β}
theorem Pair.nil : Pair R [] [] := ⟨rfl, fun i h => absurd h (by simp)⟩
theorem Pair.weak (h : Pair R l r) (k : ∀ x y, y ∈ r → R x y → R' x y) : Pair R' l r := ⟨h.1, fun i h1 h2 => k _ _ (List.getElem_mem h2) (h.2 i h1 h2)⟩
theorem Pair.snoc (h : Pair R l r) {x : α} {y : β} (hx : R x y) : Pair R (l ++ [x]) (r ++ [y]) := by
  refine ⟨by simp [h.1], fun i h1 h2 => ?_⟩
  by_cases e : i < l.length
  · rw [List.getElem_append_left e, List.getElem_append_left (by have := h.1; omega)]
    exact h.2 i e _
  · have h3 : i = l.length := by simp at h1; omega
    subst h3
    have e2 : (r ++ [y])[l.length]'h2 = y := by
      rw [List.getElem_append_right (by have := h.1; omega)]; simp [h.1]
    rw [e2]
    simpa using hx
theorem Pair.cons_inv {y : β} (h : Pair R l (y :: r)) : ∃ x l', l = x :: l' ∧ R x y ∧ Pair R l' r := by
  cases l with
  | nil => have := h.1; simp at this
  | cons x l' => exact ⟨x, l', rfl, h.2 0 (by simp) (by simp), by have := h.1; simpa using this, fun i h1 h2 => h.2 (i + 1) (by simp; omega) (by simp; omega)⟩
theorem Pair.nil_inv (h : Pair R l ([] : List β)) : l = [] := List.length_eq_zero_iff.1 h.1
theorem Pair.erase (h : Pair R l r) (i : Nat) : Pair R (l.eraseIdx i) (r.eraseIdx i) := by
  refine ⟨by rw [List.length_eraseIdx, List.length_eraseIdx, h.1], fun j h1 h2 => ?_⟩
  rw [List.getElem_eraseIdx, List.getElem_eraseIdx]
  split
  · exact h.2 _ _ _
  · exact h.2 _ _ _
theorem Pair.findIdx {p : α → Bool} {q : β → Bool} (h : Pair R l r) (hpq : ∀ x y, R x y → p x = q y) : l.findIdx? p = r.findIdx? q := by
  induction l generalizing r with
  | nil =>
    have : r = [] := List.length_eq_zero_iff.1 h.1.symm
    rw [this]; rfl
  | cons x l ih =>
    cases r with
    | nil => have := h.1; simp at this
    | cons y r =>
      have hxy : p x = q y := hpq _ _ (h.2 0 (by simp) (by simp))
      have hi := ih (r := r) ⟨by have := h.1; simpa using this, fun i h1 h2 => h.2 (i + 1) (by simp; omega) (by simp; omega)⟩
      rw [List.findIdx?_cons, List.findIdx?_cons, hxy, hi]
end
theorem PkAt.step {w w' : World} {F F' : Nat → Prop} {v : Value} {s : List UInt8} (h : PkAt w F v s) (k : Step w w' F F') : PkAt w' F' v s := by
  obtain ⟨A, c, e, h1, h2⟩ := h
  exact ⟨A, c, e, Src.step h1 k h2, Off.step (b0 := 0) (o0 := 0) h2 k fun h0 => Src.lt_ h1 h0⟩
theorem FilAt.step {w w' : World} {F F' : Nat → Prop} {q : FM} {f : Fil} (h : FilAt w F q f) (k : Step w w' F F') : FilAt w' F' q f := by
  obtain ⟨e1, e2, e3, h1, h2⟩ := h
  exact ⟨e1, e2, e3, Prg.step h1 k h2, Off.step (b0 := 0) (o0 := 0) h2 k (Prg.lt_ h1)⟩
theorem TrAt.step {w w' : World} {F F' : Nat → Prop} {u : Value × Value} {t : Tr} (h : TrAt w F u t) (k : Step w w' F F') : TrAt w' F' u t := by
  obtain ⟨A, c, e, h1, h2, h3⟩ := h
  exact ⟨A, c, e, Pcs.step h1 k h2, Off.step (b0 := 0) (o0 := 0) h2 k (Pcs.lt_ h1), h3⟩

/-- Where the parts of a kernel lie. -/
structure Ad where
  gs : Nat
  gt : Nat
  gd : Nat
  A : Option Addr
  c : Nat
  fm : List FM
  a1 : Nat
  b1 : Nat
  x1 : List Value
  a2 : Nat
  b2 : Nat
  x2 : List Value
  a3 : Nat
  b3 : Nat
  x3 : List (Value × Value)
/-- What the label tells to be the kernel's own. -/
def on (lab : Nat → Nat) : Nat → Prop := fun k => lab k ≠ 0
/-- A kernel in memory: its head is block g; lab tells of each block whose it is: 1 the head, 2 the table, 3 the disk, 4 the filters' row, 5 and 6 the rings of packets, 7 the ring of transfers, 0 no part's. -/
structure KAt (w : World) (lab : Nat → Nat) (g : Nat) (K : Kn) (a : Ad) : Prop where
  head : Blk w g 70 #[.pointer (some ⟨a.gt, 0, none⟩), .pointer (some ⟨a.gd, 0, none⟩), .slice a.A K.fs.length a.c, .int .i64 (K.next : Int), .pointer (some ⟨a.b1, 0, none⟩), .pointer (some ⟨a.b2, 0, none⟩), .pointer (some ⟨a.b3, 0, none⟩), .int .i64 (K.done : Int)]
  tab : Fr.Tab w a.gs a.gt K.ps
  dk : DA w (fun k => lab k = 3) a.gd K.dk
  row : FRow w a.A a.c a.fm
  fil : Pair (FilAt w (on lab)) a.fm K.fs
  r1 : RgP.Ring w a.a1 a.b1 16 K.f1 a.x1
  p1 : Pair (PkAt w (on lab)) a.x1 K.i1
  r2 : RgP.Ring w a.a2 a.b2 16 K.f2 a.x2
  p2 : Pair (PkAt w (on lab)) a.x2 K.i2
  r3 : RgT.Ring w a.a3 a.b3 16 K.f3 a.x3
  p3 : Pair (TrAt w (on lab)) a.x3 K.out
  lg : lab g = 1
  lt1 : lab a.gs = 2
  lt2 : lab a.gt = 2
  lr : ∀ b, inB a.A b → lab b = 4
  l11 : lab a.a1 = 5
  l12 : lab a.b1 = 5
  l21 : lab a.a2 = 6
  l22 : lab a.b2 = 6
  l31 : lab a.a3 = 7
  l32 : lab a.b3 = 7
  all : ∀ k, lab k ≠ 0 → k < w.heap.size
def KA (w : World) (lab : Nat → Nat) (g : Nat) (K : Kn) : Prop := ∃ a, KAt w lab g K a
theorem Step.of_chg {w w' : World} {F S : Nat → Prop} (h : Chg w w' S) (hs : ∀ k, S k → F k) : Step w w' F F := ⟨h.weak hs, fun k hk => .inl hk⟩
theorem Step.news {w w' : World} {F : Nat → Prop} (h : Below w.heap.size w w') : Step w w' F F := ⟨Chg.of_new h _, fun k hk => .inl hk⟩
/-- Of the kernel's parts' blocks only may have turned; what has a label now had one, or is new; what is labelled beyond the parts stays so. -/
structure LStep (w w' : World) (lab lab' : Nat → Nat) : Prop where
  chg : Chg w w' (fun k => lab k ≠ 0 ∧ lab k ≤ 7)
  old : ∀ k, lab' k ≠ 0 → lab k ≠ 0 ∨ w.heap.size ≤ k
  keep : ∀ k, 8 ≤ lab k → lab' k = lab k
  hd : ∀ i, lab i = 1 → i < w.heap.size → w'.cell? ⟨i, 0, none⟩ = w.cell? ⟨i, 0, none⟩ ∧ lab' i = 1
theorem LStep.step {w w' : World} {lab lab' : Nat → Nat} (h : LStep w w' lab lab') : Step w w' (on lab) (on lab') := ⟨h.chg.weak fun i hi => hi.1, h.old⟩
theorem LStep.of {w w' : World} {lab : Nat → Nat} {m : Nat} (k : Chg w w' (fun i => lab i = m)) (h0 : m ≠ 0) (h7 : m ≤ 7) (h1 : m ≠ 1) : LStep w w' lab lab :=
  ⟨k.weak fun i hi => by rw [hi]; exact ⟨h0, h7⟩, fun k hk => .inl hk, fun k _ => rfl, fun i hi hl => ⟨World.cell?_of_block (k.block i hl (fun e : lab i = m => h1 (e.symm.trans hi))), hi⟩⟩
theorem LStep.news {w w' : World} (lab : Nat → Nat) (h : Below w.heap.size w w') : LStep w w' lab lab := ⟨Chg.of_new h _, fun k hk => .inl hk, fun k _ => rfl, fun i hi hl => ⟨World.cell?_of_block (h.block i hl), hi⟩⟩
theorem LStep.drawn {w : World} (lab : Nat → Nat) (n : Nat) : LStep w (w.drewN n) lab lab := ⟨⟨rfl, rfl, rfl, Nat.le_refl _, fun _ _ _ => rfl⟩, fun _ h => .inl h, fun k _ => rfl, fun i hi _ => ⟨rfl, hi⟩⟩
theorem LStep.trans {w w' w2 : World} {lab lab' lab2 : Nat → Nat} (h : LStep w w' lab lab') (k : LStep w' w2 lab' lab2) : LStep w w2 lab lab2 := by
  refine ⟨⟨k.chg.os.trans h.chg.os, k.chg.tape.trans h.chg.tape, k.chg.output.trans h.chg.output, Nat.le_trans h.chg.size k.chg.size, fun i hi hn => ?_⟩, fun i hi => ?_, fun i hi => (k.keep i (by rw [h.keep i hi]; exact hi)).trans (h.keep i hi), fun i hi hl => ⟨(k.hd i (h.hd i hi hl).2 (Nat.lt_of_lt_of_le hl h.chg.size)).1.trans (h.hd i hi hl).1, (k.hd i (h.hd i hi hl).2 (Nat.lt_of_lt_of_le hl h.chg.size)).2⟩⟩
  · refine (k.chg.block i (Nat.lt_of_lt_of_le hi h.chg.size) fun hf => ?_).trans (h.chg.block i hi hn)
    rcases h.old i hf.1 with h1 | h1
    · by_cases h8 : 8 ≤ lab i
      · have := h.keep i h8
        omega
      · exact hn ⟨h1, by omega⟩
    · omega
  · rcases k.old i hi with h1 | h1
    · exact h.old i h1
    · exact .inr (Nat.le_trans h.chg.size h1)
section
variable {w w' : World} {lab : Nat → Nat} {g m : Nat} {K : Kn} {a : Ad} {S : Nat → Prop}
theorem KAt.new (h : KAt w lab g K a) (k : Below w.heap.size w w') : KAt w' lab g K a := by
  have hs : Step w w' (on lab) (on lab) := Step.news k
  exact ⟨h.head.older (older_below k), h.tab.new k, h.dk.new k, RowW.new h.row k, h.fil.weak (fun _ _ _ h => h.step hs), h.r1.new k, h.p1.weak (fun _ _ _ h => h.step hs), h.r2.new k, h.p2.weak (fun _ _ _ h => h.step hs), h.r3.new k, h.p3.weak (fun _ _ _ h => h.step hs),
    h.lg, h.lt1, h.lt2, h.lr, h.l11, h.l12, h.l21, h.l22, h.l31, h.l32, fun i hi => Nat.lt_of_lt_of_le (h.all i hi) k.size⟩
theorem KAt.drewN (h : KAt w lab g K a) (n : Nat) : KAt (w.drewN n) lab g K a := h.new ⟨rfl, rfl, rfl, Nat.le_refl _, fun _ _ => rfl⟩
/-- Of the labelled blocks only those of one part may have turned. -/
theorem KAt.keep (h : KAt w lab g K a) (k : Chg w w' (fun i => lab i = m)) (hm : m ≠ 0) :
    (m ≠ 1 → Blk w' g 70 #[.pointer (some ⟨a.gt, 0, none⟩), .pointer (some ⟨a.gd, 0, none⟩), .slice a.A K.fs.length a.c, .int .i64 (K.next : Int), .pointer (some ⟨a.b1, 0, none⟩), .pointer (some ⟨a.b2, 0, none⟩), .pointer (some ⟨a.b3, 0, none⟩), .int .i64 (K.done : Int)]) ∧
    (m ≠ 2 → Fr.Tab w' a.gs a.gt K.ps) ∧ (m ≠ 3 → DA w' (fun k => lab k = 3) a.gd K.dk) ∧ (m ≠ 4 → FRow w' a.A a.c a.fm) ∧
    (m ≠ 5 → RgP.Ring w' a.a1 a.b1 16 K.f1 a.x1) ∧ (m ≠ 6 → RgP.Ring w' a.a2 a.b2 16 K.f2 a.x2) ∧ (m ≠ 7 → RgT.Ring w' a.a3 a.b3 16 K.f3 a.x3) ∧
    Pair (FilAt w' (on lab)) a.fm K.fs ∧ Pair (PkAt w' (on lab)) a.x1 K.i1 ∧ Pair (PkAt w' (on lab)) a.x2 K.i2 ∧ Pair (TrAt w' (on lab)) a.x3 K.out ∧ Step w w' (on lab) (on lab) := by
  have hs : Step w w' (on lab) (on lab) := Step.of_chg k (fun i hi => by show lab i ≠ 0; rw [hi]; exact hm)
  refine ⟨fun h1 => h.head.chg k (by show ¬ lab g = m; rw [h.lg]; omega), fun h1 => h.tab.chg k (by show ¬ lab a.gs = m; rw [h.lt1]; omega) (by show ¬ lab a.gt = m; rw [h.lt2]; omega),
    fun h1 => h.dk.chg k (fun i (hi : lab i = m) (hj : lab i = 3) => by omega), fun h1 => RowW.chg h.row k (fun b hb (hi : lab b = m) => by have := h.lr b hb; omega),
    fun h1 => h.r1.chg k (by show ¬ lab a.a1 = m; rw [h.l11]; omega) (by show ¬ lab a.b1 = m; rw [h.l12]; omega), fun h1 => h.r2.chg k (by show ¬ lab a.a2 = m; rw [h.l21]; omega) (by show ¬ lab a.b2 = m; rw [h.l22]; omega),
    fun h1 => h.r3.chg k (by show ¬ lab a.a3 = m; rw [h.l31]; omega) (by show ¬ lab a.b3 = m; rw [h.l32]; omega),
    h.fil.weak (fun _ _ _ h => h.step hs), h.p1.weak (fun _ _ _ h => h.step hs), h.p2.weak (fun _ _ _ h => h.step hs), h.p3.weak (fun _ _ _ h => h.step hs), hs⟩
end
end Go.Proofs.YthnpalcjfgbjeaaGreat.Ke

/- A kernel in memory: what stands where a part of it turns. Conditions: those that each states. -/
namespace Go.Proofs.YthnpalcjfgbjeaaGreat.Ke
open Go.ChangeShapes Go.WideShapes Go.ChangeAt Go.RowKit Go.Deep Fr Di
set_option linter.unusedVariables false
section
variable {w w' : World} {lab : Nat → Nat} {g : Nat} {K : Kn} {a : Ad}
theorem KAt.setPs (h : KAt w lab g K a) {ps' : List Pg} (k : Chg w w' (fun i => i = a.gs)) (t : Fr.Tab w' a.gs a.gt ps') : KAt w' lab g { K with ps := ps' } a ∧ LStep w w' lab lab := by
  have kk : Chg w _ (fun i => lab i = 2) := k.weak fun i (hi : i = a.gs) => by show lab i = 2; rw [hi, h.lt1]
  obtain ⟨q1, q2, q3, q4, q5, q6, q7, q8, q9, q10, q11, q12⟩ := h.keep (m := 2) kk (by omega)
  exact ⟨⟨q1 (by omega), t, q3 (by omega), q4 (by omega), q8, q5 (by omega), q9, q6 (by omega), q10, q7 (by omega), q11, h.lg, h.lt1, h.lt2, h.lr, h.l11, h.l12, h.l21, h.l22, h.l31, h.l32, fun i hi => Nat.lt_of_lt_of_le (h.all i hi) k.size⟩, LStep.of kk (by omega) (by omega) (by omega)⟩
theorem KAt.setRing1 (h : KAt w lab g K a) {x' : List Value} {f' : Nat} {i' : List (List UInt8)} (k : Chg w w' (fun i => i = a.a1 ∨ i = a.b1)) (r : RgP.Ring w' a.a1 a.b1 16 f' x') (p : Pair (PkAt w (on lab)) x' i') :
    KAt w' lab g { K with i1 := i', f1 := f' } { a with x1 := x' } ∧ LStep w w' lab lab := by
  have kk : Chg w _ (fun i => lab i = 5) := k.weak fun i hi => by show lab i = 5; rcases hi with e | e; (rw [e, h.l11]); (rw [e, h.l12])
  obtain ⟨q1, q2, q3, q4, q5, q6, q7, q8, q9, q10, q11, q12⟩ := h.keep (m := 5) kk (by omega)
  exact ⟨⟨q1 (by omega), q2 (by omega), q3 (by omega), q4 (by omega), q8, r, p.weak (fun _ _ _ h => h.step q12), q6 (by omega), q10, q7 (by omega), q11, h.lg, h.lt1, h.lt2, h.lr, h.l11, h.l12, h.l21, h.l22, h.l31, h.l32, fun i hi => Nat.lt_of_lt_of_le (h.all i hi) k.size⟩, LStep.of kk (by omega) (by omega) (by omega)⟩
theorem KAt.setRing2 (h : KAt w lab g K a) {x' : List Value} {f' : Nat} {i' : List (List UInt8)} (k : Chg w w' (fun i => i = a.a2 ∨ i = a.b2)) (r : RgP.Ring w' a.a2 a.b2 16 f' x') (p : Pair (PkAt w (on lab)) x' i') :
    KAt w' lab g { K with i2 := i', f2 := f' } { a with x2 := x' } ∧ LStep w w' lab lab := by
  have kk : Chg w _ (fun i => lab i = 6) := k.weak fun i hi => by show lab i = 6; rcases hi with e | e; (rw [e, h.l21]); (rw [e, h.l22])
  obtain ⟨q1, q2, q3, q4, q5, q6, q7, q8, q9, q10, q11, q12⟩ := h.keep (m := 6) kk (by omega)
  exact ⟨⟨q1 (by omega), q2 (by omega), q3 (by omega), q4 (by omega), q8, q5 (by omega), q9, r, p.weak (fun _ _ _ h => h.step q12), q7 (by omega), q11, h.lg, h.lt1, h.lt2, h.lr, h.l11, h.l12, h.l21, h.l22, h.l31, h.l32, fun i hi => Nat.lt_of_lt_of_le (h.all i hi) k.size⟩, LStep.of kk (by omega) (by omega) (by omega)⟩
theorem KAt.setRing3 (h : KAt w lab g K a) {x' : List (Value × Value)} {f' : Nat} {o' : List Tr} (k : Chg w w' (fun i => i = a.a3 ∨ i = a.b3)) (r : RgT.Ring w' a.a3 a.b3 16 f' x') (p : Pair (TrAt w (on lab)) x' o') :
    KAt w' lab g { K with out := o', f3 := f' } { a with x3 := x' } ∧ LStep w w' lab lab := by
  have kk : Chg w _ (fun i => lab i = 7) := k.weak fun i hi => by show lab i = 7; rcases hi with e | e; (rw [e, h.l31]); (rw [e, h.l32])
  obtain ⟨q1, q2, q3, q4, q5, q6, q7, q8, q9, q10, q11, q12⟩ := h.keep (m := 7) kk (by omega)
  exact ⟨⟨q1 (by omega), q2 (by omega), q3 (by omega), q4 (by omega), q8, q5 (by omega), q9, q6 (by omega), q10, r, p.weak (fun _ _ _ h => h.step q12), h.lg, h.lt1, h.lt2, h.lr, h.l11, h.l12, h.l21, h.l22, h.l31, h.l32, fun i hi => Nat.lt_of_lt_of_le (h.all i hi) k.size⟩, LStep.of kk (by omega) (by omega) (by omega)⟩
theorem KAt.setDone (h : KAt w lab g K a) (d : Nat) : KAt (w.setCell ⟨g, 7, none⟩ (.int .i64 (d : Int))) lab g { K with done := d } a ∧ LStep w (w.setCell ⟨g, 7, none⟩ (.int .i64 (d : Int))) lab lab := by
  have k : Chg w (w.setCell ⟨g, 7, none⟩ (.int .i64 (d : Int))) (fun i => i = g) := Chg.set _ _ _ rfl
  have kk : Chg w _ (fun i => lab i = 1) := k.weak fun i (hi : i = g) => by show lab i = 1; rw [hi, h.lg]
  obtain ⟨q1, q2, q3, q4, q5, q6, q7, q8, q9, q10, q11, q12⟩ := h.keep (m := 1) kk (by omega)
  exact ⟨⟨h.head.put 7 (.int .i64 (d : Int)), q2 (by omega), q3 (by omega), q4 (by omega), q8, q5 (by omega), q9, q6 (by omega), q10, q7 (by omega), q11, h.lg, h.lt1, h.lt2, h.lr, h.l11, h.l12, h.l21, h.l22, h.l31, h.l32, fun i hi => Nat.lt_of_lt_of_le (h.all i hi) k.size⟩, ⟨kk.weak fun i hi => ⟨by have : lab i = 1 := hi; omega, by have : lab i = 1 := hi; omega⟩, fun k hk => .inl hk, fun k _ => rfl, fun i hi hl => ⟨by
    by_cases e : i = g
    · subst e
      exact ((h.head.put 7 (.int .i64 (d : Int))).cell 0).trans (h.head.cell 0).symm
    · exact World.cell?_of_block (k.block i hl e), hi⟩⟩⟩
theorem da_iff {F F' : Nat → Prop} {d : Dk} {g : Nat} (h : DA w F g d) (e : ∀ k, F k ↔ F' k) : DA w F' g d := by
  obtain ⟨gb, Al, cl, Ae, ce, D, hF⟩ := h
  exact ⟨gb, Al, cl, Ae, ce, D, fun k => (e k).symm.trans (hF k)⟩
/-- The labels where part m lies in the blocks F from now on. -/
structure Relab (lab L : Nat → Nat) (m : Nat) (F : Nat → Prop) : Prop where
  yes : ∀ k, F k → L k = m
  no : ∀ k, ¬ F k → L k = if lab k = m then 0 else lab k
theorem relab_ex (lab : Nat → Nat) (m : Nat) (F : Nat → Prop) : ∃ L, Relab lab L m F :=
  ⟨fun k => @ite _ (F k) (Classical.propDecidable _) m (if lab k = m then 0 else lab k), fun k h => if_pos h, fun k h => if_neg h⟩
theorem Relab.far {L : Nat → Nat} {m : Nat} {F : Nat → Prop} (r : Relab lab L m F) {k : Nat} (hF : ∀ k, F k → lab k = m ∨ w.heap.size ≤ k) (h1 : lab k ≠ m) (h2 : k < w.heap.size) : L k = lab k := by
  rw [r.no, if_neg h1]
  intro hk
  rcases hF k hk with h3 | h3
  · exact h1 h3
  · omega
theorem Relab.iff {L : Nat → Nat} {m : Nat} {F : Nat → Prop} (r : Relab lab L m F) (hm : m ≠ 0) (k : Nat) : L k = m ↔ F k := by
  constructor
  · intro h
    by_cases hk : F k
    · exact hk
    · rw [r.no k hk] at h
      split at h <;> omega
  · exact r.yes k
theorem Relab.back {L : Nat → Nat} {m : Nat} {F : Nat → Prop} (r : Relab lab L m F) {k : Nat} (hk : ¬ F k) (h : L k ≠ 0) : lab k ≠ 0 ∧ L k = lab k ∧ lab k ≠ m := by
  rw [r.no k hk] at h ⊢
  split at h
  · omega
  · rename_i h1
    exact ⟨h, by rw [if_neg h1], h1⟩
theorem Relab.on {L : Nat → Nat} {m : Nat} {F : Nat → Prop} (r : Relab lab L m F) (hm : m ≠ 0) (hF : ∀ k, F k → lab k = m ∨ w.heap.size ≤ k) : ∀ k, Ke.on L k → Ke.on lab k ∨ w.heap.size ≤ k := by
  intro k hk
  by_cases h : F k
  · rcases hF k h with h1 | h1
    · left; show lab k ≠ 0; omega
    · exact .inr h1
  · exact .inl (r.back h hk).1
theorem KAt.setDk (h : KAt w lab g K a) {F' : Nat → Prop} {d' : Dk} (k : Step w w' (fun i => lab i = 3) F') (t : DA w' F' a.gd d') : ∃ lab', KAt w' lab' g { K with dk := d' } a ∧ LStep w w' lab lab' := by
  obtain ⟨q1, q2, q3, q4, q5, q6, q7, q8, q9, q10, q11, q12⟩ := h.keep (m := 3) k.1 (by omega)
  obtain ⟨L, r⟩ := relab_ex lab 3 F'
  have far : ∀ i m, lab i = m → m ≠ 3 → m ≠ 0 → L i = m := fun i m e h3 h0 => by
    rw [r.far k.2 (by omega) (h.all i (by omega))]; exact e
  have hs : Step w w' (on lab) (on L) := ⟨q12.1, r.on (by omega) k.2⟩
  refine ⟨L, ⟨q1 (by omega), q2 (by omega), da_iff t (fun i => (r.iff (by omega) i).symm), q4 (by omega), h.fil.weak (fun _ _ _ h => h.step hs), q5 (by omega), h.p1.weak (fun _ _ _ h => h.step hs), q6 (by omega), h.p2.weak (fun _ _ _ h => h.step hs), q7 (by omega), h.p3.weak (fun _ _ _ h => h.step hs),
    far _ _ h.lg (by omega) (by omega), far _ _ h.lt1 (by omega) (by omega), far _ _ h.lt2 (by omega) (by omega), fun b hb => far _ _ (h.lr b hb) (by omega) (by omega), far _ _ h.l11 (by omega) (by omega), far _ _ h.l12 (by omega) (by omega), far _ _ h.l21 (by omega) (by omega), far _ _ h.l22 (by omega) (by omega), far _ _ h.l31 (by omega) (by omega), far _ _ h.l32 (by omega) (by omega), fun i hi => ?_⟩, ⟨k.1.weak fun i (hi : lab i = 3) => by rw [hi]; omega, hs.2, fun i hi => far i _ rfl (by omega) (by omega), fun i hi hl => ⟨World.cell?_of_block (k.1.block i hl (fun e : lab i = 3 => by omega)), far i 1 hi (by omega) (by omega)⟩⟩⟩
  by_cases hf : F' i
  · exact t.lt hf
  · exact Nat.lt_of_lt_of_le (h.all i (r.back hf hi).1) k.1.size
theorem KAt.setRow (h : KAt w lab g K a) {A' : Option Addr} {c' : Nat} {fm' : List FM} {fs' : List Fil} {nx : Nat} (k : Chg w w' (fun i => i = g ∨ inB a.A i))
    (hd : Blk w' g 70 #[.pointer (some ⟨a.gt, 0, none⟩), .pointer (some ⟨a.gd, 0, none⟩), .slice A' fs'.length c', .int .i64 (nx : Int), .pointer (some ⟨a.b1, 0, none⟩), .pointer (some ⟨a.b2, 0, none⟩), .pointer (some ⟨a.b3, 0, none⟩), .int .i64 (K.done : Int)])
    (row : FRow w' A' c' fm') (hat : ∀ b, inB A' b → inB a.A b ∨ w.heap.size ≤ b) (pr : Pair (FilAt w (on lab)) fm' fs') :
    ∃ lab', KAt w' lab' g { K with fs := fs', next := nx } { a with A := A', c := c', fm := fm' } ∧ LStep w w' lab lab' := by
  have hF : ∀ b, inB A' b → lab b = 4 ∨ w.heap.size ≤ b := fun b hb => (hat b hb).imp (h.lr b) id
  have kk : Chg w w' (fun i => lab i = 1 ∨ lab i = 4) := k.weak fun i hi => by
    rcases hi with e | e
    · left; rw [e]; exact h.lg
    · right; exact h.lr i e
  obtain ⟨L, r⟩ := relab_ex lab 4 (inB A')
  have hs : Step w w' (on lab) (on L) := ⟨kk.weak fun i hi => by show lab i ≠ 0; rcases hi with e | e <;> omega, r.on (by omega) hF⟩
  have far : ∀ i m, lab i = m → m ≠ 4 → m ≠ 0 → L i = m := fun i m e h3 h0 => by
    rw [r.far hF (by omega) (h.all i (by omega))]; exact e
  have nt : ∀ i m, lab i = m → m ≠ 1 → m ≠ 4 → ¬ (lab i = 1 ∨ lab i = 4) := fun i m e h1 h2 => by omega
  refine ⟨L, ⟨hd, h.tab.chg kk (nt _ _ h.lt1 (by omega) (by omega)) (nt _ _ h.lt2 (by omega) (by omega)), da_iff (h.dk.chg kk (fun i hi (hj : lab i = 3) => by omega)) (fun i => ?_), row, pr.weak (fun _ _ _ h => h.step hs),
    h.r1.chg kk (nt _ _ h.l11 (by omega) (by omega)) (nt _ _ h.l12 (by omega) (by omega)), h.p1.weak (fun _ _ _ h => h.step hs), h.r2.chg kk (nt _ _ h.l21 (by omega) (by omega)) (nt _ _ h.l22 (by omega) (by omega)), h.p2.weak (fun _ _ _ h => h.step hs), h.r3.chg kk (nt _ _ h.l31 (by omega) (by omega)) (nt _ _ h.l32 (by omega) (by omega)), h.p3.weak (fun _ _ _ h => h.step hs),
    far _ _ h.lg (by omega) (by omega), far _ _ h.lt1 (by omega) (by omega), far _ _ h.lt2 (by omega) (by omega), fun b hb => r.yes b hb, far _ _ h.l11 (by omega) (by omega), far _ _ h.l12 (by omega) (by omega), far _ _ h.l21 (by omega) (by omega), far _ _ h.l22 (by omega) (by omega), far _ _ h.l31 (by omega) (by omega), far _ _ h.l32 (by omega) (by omega), fun i hi => ?_⟩, ⟨kk.weak fun i hi => by rcases hi with e | e <;> omega, hs.2, fun i hi => far i _ rfl (by omega) (by omega), fun i hi hl => ⟨by
    by_cases e : i = g
    · subst e
      exact (hd.cell 0).trans (h.head.cell 0).symm
    · exact World.cell?_of_block (k.block i hl (fun e' => e'.elim e (fun e2 => by have := h.lr i e2; omega))), far i 1 hi (by omega) (by omega)⟩⟩⟩
  · constructor
    · intro e; exact far i 3 e (by omega) (by omega)
    · intro e
      have e' : L i = 3 := e
      by_cases hf : inB A' i
      · rw [r.yes i hf] at e'; omega
      · have := r.back hf (by omega)
        show lab i = 3
        omega
  · by_cases hf : inB A' i
    · exact RowW.lt row i hf
    · exact Nat.lt_of_lt_of_le (h.all i (r.back hf hi).1) k.size
end
end Go.Proofs.YthnpalcjfgbjeaaGreat.Ke

/- Package kern: New. Conditions: those that each states. -/
namespace Go.Proofs.YthnpalcjfgbjeaaGreat.Ke
open Go.ChangeShapes Go.WideShapes Go.ChangeAt Go.RowKit Go.Deep Fr Di
set_option linter.unusedVariables false

abbrev KHead (w : World) (g gt gd : Nat) (p1 p2 p3 : Option Addr) : Prop := Blk w g 70 #[.pointer (some ⟨gt, 0, none⟩), .pointer (some ⟨gd, 0, none⟩), .slice none 0 0, .int .i64 0, .pointer p1, .pointer p2, .pointer p3, .int .i64 0]
/-- So many rings of packets are laid. -/
structure WR (w : World) (g gt gd : Nat) (j : Nat) (wr : World) : Prop where
  chg : Chg w wr (fun k => k = g)
  size : wr.heap.size = w.heap.size + 2 * j
  head : KHead wr g gt gd (if 1 ≤ j then some ⟨w.heap.size + 1, 0, none⟩ else none) (if 2 ≤ j then some ⟨w.heap.size + 3, 0, none⟩ else none) none
  r1 : 1 ≤ j → RgP.Ring wr w.heap.size (w.heap.size + 1) 16 0 []
  r2 : 2 ≤ j → RgP.Ring wr (w.heap.size + 2) (w.heap.size + 3) 16 0 []
structure Rings (w : World) (g gt gd : Nat) (w' : World) : Prop where
  chg : Chg w w' (fun k => k = g)
  head : KHead w' g gt gd (some ⟨w.heap.size + 1, 0, none⟩) (some ⟨w.heap.size + 3, 0, none⟩) (some ⟨w.heap.size + 5, 0, none⟩)
  r1 : RgP.Ring w' w.heap.size (w.heap.size + 1) 16 0 []
  r2 : RgP.Ring w' (w.heap.size + 2) (w.heap.size + 3) 16 0 []
  r3 : RgT.Ring w' (w.heap.size + 4) (w.heap.size + 5) 16 0 []
  size : w'.heap.size = w.heap.size + 6
set_option maxRecDepth 100000 in
set_option maxHeartbeats 2000000 in
theorem rings_any (g gt gd : Nat) (w : World) (h : KHead w g gt gd none none none) :
    Calls Tryz.prog 25 #[.pointer (some ⟨g, 0, none⟩)] w fun e w' => e = .returned (.tuple #[.pointer (some ⟨g, 0, none⟩), .int .i64 0]) ∧ Rings w g gt gd w' := by
  have hg : g < w.heap.size := h.lt
  have W0 := Lib.hid (show WR w g gt gd 0 w from ⟨Chg.refl _ _, by omega, h, fun h => absurd h (by omega), fun h => absurd h (by omega)⟩)
  clear h
  go_enter Tryz.func25, Tryz.ntmps25
  go_wp2
  go_loopw [4, 6] (fun e i wr => ∃ (j : Nat), j ≤ 2 ∧ i = .int .i64 (j : Int) ∧ e = .int .i64 0 ∧ Hid (WR w g gt gd j wr)) (fun _ i _ => 2 - (intOf i).toNat)
  case atStart => exact ⟨0, by omega, rfl, rfl, W0⟩
  case round =>
    clear W0
    obtain ⟨j, hj, rfl, rfl, HR⟩ := hrel
    have hj3 : j = 0 ∨ j = 1 ∨ j = 2 := by omega
    rcases hj3 with rfl | rfl | rfl
    · have HD := Lib.hid (show KHead wr g gt gd none none none from HR.out.head)
      go_upto_region 5 with fail
      refine wp_region_held_drew (S := fun w' => Hid (wr.heap.size ≤ w'.heap.size)) (by kernel_rfl) (Lib.hid (Nat.le_refl _)) (fun hS => ?_)
      refine held_take (i := 0) (d := (some 10)) (v := ?_) rfl rfl (by kernel_rfl) (by kernel_rfl) (by kernel_rfl) (fun _ _ _ h => h) (by rfl) ?_ hS ?_
      rotate_left
      · intro w' hSw; (try dsimp only at hSw); go_simp <;> with_reducible rfl
      simp only [Act.put, List.setIfInBounds_toArray, List.set_cons_zero, List.set_cons_succ]
      refine held_take (i := 1) (d := (some 11)) (v := ?_) rfl rfl (by kernel_rfl) (by kernel_rfl) (by kernel_rfl) (fun _ _ _ h => h) (by rfl) ?_ hS ?_
      rotate_left
      · intro w' hSw; (try dsimp only at hSw); go_simp <;> with_reducible rfl
      simp only [Act.put, List.setIfInBounds_toArray, List.set_cons_zero, List.set_cons_succ]
      refine held_take (i := 6) (d := (some 15)) (v := ?_) rfl rfl (by kernel_rfl) (by kernel_rfl) (by kernel_rfl) (fun _ _ _ h => h) (by rfl) ?_ hS ?_
      rotate_left
      · intro w' hSw; (try dsimp only at hSw); go_simp <;> with_reducible rfl
      simp only [Act.put, List.setIfInBounds_toArray, List.set_cons_zero, List.set_cons_succ]
      refine held_take (i := 7) (d := (some 16)) (v := ?_) rfl rfl (by kernel_rfl) (by kernel_rfl) (by kernel_rfl) (fun _ _ _ h => h) (by rfl) ?_ hS ?_
      rotate_left
      · intro w' hSw; (try dsimp only at hSw); go_simp <;> with_reducible rfl
      simp only [Act.put, List.setIfInBounds_toArray, List.set_cons_zero, List.set_cons_succ]
      refine held_one (i := 2) (by kernel_rfl) rfl (by rfl) ?_
      go_simp
      refine (RgP.new_ok 16 _ (by omega) (by omega)).mono ?_; rintro e w5 ⟨rfl, r5, b5, z5⟩
      have HD5 := Lib.hid (HD.out.older (older_below (show Below wr.heap.size wr w5 from ⟨b5.os, b5.tape, b5.output, b5.size, b5.block⟩)))
      have c5 := HD5.out.cell 4
      have f5 := HD5.out.frozen 4
      simp only [List.getElem?_toArray, List.getElem?_cons_succ, List.getElem?_cons_zero] at c5
      have R5 := Lib.hid r5
      have B5 := Lib.hid (show Below wr.heap.size wr w5 from ⟨b5.os, b5.tape, b5.output, b5.size, b5.block⟩)
      have Z5 := Lib.hid (show w5.heap.size = wr.heap.size + 2 from z5)
      have HW5 := Lib.hid (show wr.drew.heap.size = wr.heap.size from rfl)
      clear r5 b5 z5
      have hS : Hid (wr.heap.size ≤ w5.heap.size) := Lib.hid B5.out.size
      refine ⟨hS, ?_⟩
      (try simp only [Act.put, List.setIfInBounds_toArray, List.set_cons_zero, List.set_cons_succ])
      refine held_take (i := 3) (d := (some 9)) (v := ?_) rfl rfl (by kernel_rfl) (by kernel_rfl) (by kernel_rfl) (fun _ _ _ h => h) (by rfl) ?_ hS ?_
      rotate_left
      · intro w' hSw; (try dsimp only at hSw); go_simp <;> with_reducible rfl
      simp only [Act.put, List.setIfInBounds_toArray, List.set_cons_zero, List.set_cons_succ]
      refine held_take (i := 4) (d := (some 13)) (v := ?_) rfl rfl (by kernel_rfl) (by kernel_rfl) (by kernel_rfl) (fun _ _ _ h => h) (by rfl) ?_ hS ?_
      rotate_left
      · intro w' hSw; (try dsimp only at hSw); go_simp <;> with_reducible rfl
      simp only [Act.put, List.setIfInBounds_toArray, List.set_cons_zero, List.set_cons_succ]
      refine held_take (i := 5) (d := (some 14)) (v := ?_) rfl rfl (by kernel_rfl) (by kernel_rfl) (by kernel_rfl) (fun _ _ _ h => h) (by rfl) ?_ hS ?_
      rotate_left
      · intro w' hSw; (try dsimp only at hSw); go_simp <;> with_reducible rfl
      simp only [Act.put, List.setIfInBounds_toArray, List.set_cons_zero, List.set_cons_succ]
      refine held_take (i := 8) (d := (some 17)) (v := ?_) rfl rfl (by kernel_rfl) (by kernel_rfl) (by kernel_rfl) (fun _ _ _ h => h) (by rfl) ?_ hS ?_
      rotate_left
      · intro w' hSw; (try dsimp only at hSw); go_simp <;> with_reducible rfl
      simp only [Act.put, List.setIfInBounds_toArray, List.set_cons_zero, List.set_cons_succ]
      refine held_one (i := 9) (by kernel_rfl) rfl (by rfl) ?_
      go_simp
      have hS : Hid (wr.heap.size ≤ (w5.setCell ⟨g, 4, none⟩ (.pointer (some ⟨wr.heap.size + 1, 0, none⟩))).heap.size) := Lib.hid (by simpa [World.setCell] using B5.out.size)
      (first | refine ⟨hS, ?_⟩ | skip)
      (try simp only [Act.put, List.setIfInBounds_toArray, List.set_cons_zero, List.set_cons_succ])
      refine held_take (i := 10) (d := (some 4)) (v := ?_) rfl rfl (by kernel_rfl) (by kernel_rfl) (by kernel_rfl) (fun _ _ _ h => h) (by rfl) ?_ hS ?_
      rotate_left
      · intro w' hSw; (try dsimp only at hSw); go_simp <;> with_reducible rfl
      simp only [Act.put, List.setIfInBounds_toArray, List.set_cons_zero, List.set_cons_succ]
      refine wpAnyH_done (by kernel_rfl) ?_ _
      have W5 := Lib.hid (show WR w g gt gd 1 (w5.setCell ⟨g, 4, none⟩ (.pointer (some ⟨wr.heap.size + 1, 0, none⟩))) from by
        have hz := HR.out.size
        have z5 := Z5.out
        have e0 : wr.heap.size = w.heap.size := by omega
        have kk : Chg w5 (w5.setCell ⟨g, 4, none⟩ (.pointer (some ⟨wr.heap.size + 1, 0, none⟩))) (fun k => k = g) := Chg.set _ _ _ rfl
        refine ⟨(HR.out.chg.trans (Chg.of_new B5.out _)).trans kk, by simp [World.setCell]; omega, ?_, fun _ => ?_, fun h => absurd h (by omega)⟩
        · rw [e0]; exact HD5.out.put 4 _
        · have r5 : RgP.Ring w5 wr.heap.size (wr.heap.size + 1) 16 0 [] := R5.out
          have r5 := r5.chg kk (by show ¬ wr.heap.size = g; omega) (by show ¬ wr.heap.size + 1 = g; omega)
          rw [e0] at r5 ⊢
          exact r5)
      go_wp2
      go_roundw
      case rel => exact ⟨1, by omega, rfl, rfl, W5⟩
      case measure => simp [intOf]
    · have HD := Lib.hid (show KHead wr g gt gd (some ⟨w.heap.size + 1, 0, none⟩) none none from HR.out.head)
      go_upto_region 5 with fail
      refine wp_region_held_drew (S := fun w' => Hid (wr.heap.size ≤ w'.heap.size)) (by kernel_rfl) (Lib.hid (Nat.le_refl _)) (fun hS => ?_)
      refine held_take (i := 0) (d := (some 10)) (v := ?_) rfl rfl (by kernel_rfl) (by kernel_rfl) (by kernel_rfl) (fun _ _ _ h => h) (by rfl) ?_ hS ?_
      rotate_left
      · intro w' hSw; (try dsimp only at hSw); go_simp <;> with_reducible rfl
      simp only [Act.put, List.setIfInBounds_toArray, List.set_cons_zero, List.set_cons_succ]
      refine held_take (i := 1) (d := (some 11)) (v := ?_) rfl rfl (by kernel_rfl) (by kernel_rfl) (by kernel_rfl) (fun _ _ _ h => h) (by rfl) ?_ hS ?_
      rotate_left
      · intro w' hSw; (try dsimp only at hSw); go_simp <;> with_reducible rfl
      simp only [Act.put, List.setIfInBounds_toArray, List.set_cons_zero, List.set_cons_succ]
      refine held_take (i := 6) (d := (some 15)) (v := ?_) rfl rfl (by kernel_rfl) (by kernel_rfl) (by kernel_rfl) (fun _ _ _ h => h) (by rfl) ?_ hS ?_
      rotate_left
      · intro w' hSw; (try dsimp only at hSw); go_simp <;> with_reducible rfl
      simp only [Act.put, List.setIfInBounds_toArray, List.set_cons_zero, List.set_cons_succ]
      refine held_take (i := 7) (d := (some 16)) (v := ?_) rfl rfl (by kernel_rfl) (by kernel_rfl) (by kernel_rfl) (fun _ _ _ h => h) (by rfl) ?_ hS ?_
      rotate_left
      · intro w' hSw; (try dsimp only at hSw); go_simp <;> with_reducible rfl
      simp only [Act.put, List.setIfInBounds_toArray, List.set_cons_zero, List.set_cons_succ]
      refine held_one (i := 2) (by kernel_rfl) rfl (by rfl) ?_
      go_simp
      refine (RgP.new_ok 16 _ (by omega) (by omega)).mono ?_; rintro e w5 ⟨rfl, r5, b5, z5⟩
      have HD5 := Lib.hid (HD.out.older (older_below (show Below wr.heap.size wr w5 from ⟨b5.os, b5.tape, b5.output, b5.size, b5.block⟩)))
      have c5 := HD5.out.cell 5
      have f5 := HD5.out.frozen 5
      simp only [List.getElem?_toArray, List.getElem?_cons_succ, List.getElem?_cons_zero] at c5
      have R5 := Lib.hid r5
      have B5 := Lib.hid (show Below wr.heap.size wr w5 from ⟨b5.os, b5.tape, b5.output, b5.size, b5.block⟩)
      have Z5 := Lib.hid (show w5.heap.size = wr.heap.size + 2 from z5)
      have HW5 := Lib.hid (show wr.drew.heap.size = wr.heap.size from rfl)
      clear r5 b5 z5
      have hS : Hid (wr.heap.size ≤ w5.heap.size) := Lib.hid B5.out.size
      refine ⟨hS, ?_⟩
      (try simp only [Act.put, List.setIfInBounds_toArray, List.set_cons_zero, List.set_cons_succ])
      refine held_take (i := 3) (d := (some 9)) (v := ?_) rfl rfl (by kernel_rfl) (by kernel_rfl) (by kernel_rfl) (fun _ _ _ h => h) (by rfl) ?_ hS ?_
      rotate_left
      · intro w' hSw; (try dsimp only at hSw); go_simp <;> with_reducible rfl
      simp only [Act.put, List.setIfInBounds_toArray, List.set_cons_zero, List.set_cons_succ]
      refine held_take (i := 4) (d := (some 13)) (v := ?_) rfl rfl (by kernel_rfl) (by kernel_rfl) (by kernel_rfl) (fun _ _ _ h => h) (by rfl) ?_ hS ?_
      rotate_left
      · intro w' hSw; (try dsimp only at hSw); go_simp <;> with_reducible rfl
      simp only [Act.put, List.setIfInBounds_toArray, List.set_cons_zero, List.set_cons_succ]
      refine held_take (i := 5) (d := (some 14)) (v := ?_) rfl rfl (by kernel_rfl) (by kernel_rfl) (by kernel_rfl) (fun _ _ _ h => h) (by rfl) ?_ hS ?_
      rotate_left
      · intro w' hSw; (try dsimp only at hSw); go_simp <;> with_reducible rfl
      simp only [Act.put, List.setIfInBounds_toArray, List.set_cons_zero, List.set_cons_succ]
      refine held_take (i := 8) (d := (some 17)) (v := ?_) rfl rfl (by kernel_rfl) (by kernel_rfl) (by kernel_rfl) (fun _ _ _ h => h) (by rfl) ?_ hS ?_
      rotate_left
      · intro w' hSw; (try dsimp only at hSw); go_simp <;> with_reducible rfl
      simp only [Act.put, List.setIfInBounds_toArray, List.set_cons_zero, List.set_cons_succ]
      refine held_one (i := 9) (by kernel_rfl) rfl (by rfl) ?_
      go_simp
      have hS : Hid (wr.heap.size ≤ (w5.setCell ⟨g, 5, none⟩ (.pointer (some ⟨wr.heap.size + 1, 0, none⟩))).heap.size) := Lib.hid (by simpa [World.setCell] using B5.out.size)
      (first | refine ⟨hS, ?_⟩ | skip)
      (try simp only [Act.put, List.setIfInBounds_toArray, List.set_cons_zero, List.set_cons_succ])
      refine held_take (i := 10) (d := (some 4)) (v := ?_) rfl rfl (by kernel_rfl) (by kernel_rfl) (by kernel_rfl) (fun _ _ _ h => h) (by rfl) ?_ hS ?_
      rotate_left
      · intro w' hSw; (try dsimp only at hSw); go_simp <;> with_reducible rfl
      simp only [Act.put, List.setIfInBounds_toArray, List.set_cons_zero, List.set_cons_succ]
      refine wpAnyH_done (by kernel_rfl) ?_ _
      have W5 := Lib.hid (show WR w g gt gd 2 (w5.setCell ⟨g, 5, none⟩ (.pointer (some ⟨wr.heap.size + 1, 0, none⟩))) from by
        have hz := HR.out.size
        have z5 := Z5.out
        have e0 : wr.heap.size = w.heap.size + 2 := by omega
        have kk : Chg w5 (w5.setCell ⟨g, 5, none⟩ (.pointer (some ⟨wr.heap.size + 1, 0, none⟩))) (fun k => k = g) := Chg.set _ _ _ rfl
        refine ⟨(HR.out.chg.trans (Chg.of_new B5.out _)).trans kk, by simp [World.setCell]; omega, ?_, fun _ => ?_, fun _ => ?_⟩
        · rw [e0]; exact HD5.out.put 5 _
        · exact ((HR.out.r1 (by omega)).new B5.out).chg kk (by show ¬ w.heap.size = g; omega) (by show ¬ w.heap.size + 1 = g; omega)
        · have r5 : RgP.Ring w5 wr.heap.size (wr.heap.size + 1) 16 0 [] := R5.out
          have r5 := r5.chg kk (by show ¬ wr.heap.size = g; omega) (by show ¬ wr.heap.size + 1 = g; omega)
          rw [e0] at r5 ⊢
          exact r5)
      go_wp2
      go_roundw
      case rel => exact ⟨2, by omega, rfl, rfl, W5⟩
      case measure => simp [intOf]
    · have HD := Lib.hid (show KHead wr g gt gd (some ⟨w.heap.size + 1, 0, none⟩) (some ⟨w.heap.size + 3, 0, none⟩) none from HR.out.head)
      go_wp2_with fail
      refine (RgT.new_ok 16 _ (by omega) (by omega)).mono ?_; rintro e w5 ⟨rfl, r5, b5, z5⟩
      have HD5 := Lib.hid (HD.out.older (older_below b5))
      have c5 := HD5.out.cell 6
      have f5 := HD5.out.frozen 6
      simp only [List.getElem?_toArray, List.getElem?_cons_succ, List.getElem?_cons_zero] at c5
      have W5 := Lib.hid (show Rings w g gt gd (w5.setCell ⟨g, 6, none⟩ (.pointer (some ⟨wr.heap.size + 1, 0, none⟩))) from by
        have hz := HR.out.size
        have e0 : wr.heap.size = w.heap.size + 4 := by omega
        have kk : Chg w5 (w5.setCell ⟨g, 6, none⟩ (.pointer (some ⟨wr.heap.size + 1, 0, none⟩))) (fun k => k = g) := Chg.set _ _ _ rfl
        refine ⟨(HR.out.chg.trans (Chg.of_new b5 _)).trans kk, ?_, ?_, ?_, ?_, by simp [World.setCell]; omega⟩
        · rw [e0]; exact HD5.out.put 6 _
        · exact ((HR.out.r1 (by omega)).new b5).chg kk (by show ¬ w.heap.size = g; omega) (by show ¬ w.heap.size + 1 = g; omega)
        · exact ((HR.out.r2 (by omega)).new b5).chg kk (by show ¬ w.heap.size + 2 = g; omega) (by show ¬ w.heap.size + 3 = g; omega)
        · have r6 := r5.chg kk (by show ¬ wr.heap.size = g; omega) (by show ¬ wr.heap.size + 1 = g; omega)
          rw [e0] at r6 ⊢
          exact r6)
      clear r5 b5 z5
      go_wp2
      go_ret2
      exact ⟨rfl, W5.out⟩
end Go.Proofs.YthnpalcjfgbjeaaGreat.Ke

/- Package kern: New, packetsOf, Table, Disk, Owned. Conditions: those that each states. -/
namespace Go.Proofs.YthnpalcjfgbjeaaGreat.Ke
open Go.ChangeShapes Go.WideShapes Go.ChangeAt Go.RowKit Go.Deep Fr Di
set_option linter.unusedVariables false

def newK (n b : Nat) : Kn := ⟨List.replicate n .blank, granted (granted (newD b) 1 0 (b - b / 4)) 2 (b - b / 4) (b / 4), [], 0, [], 0, [], 0, [], 0, 0⟩
theorem own_newD (n b : Nat) : (newD n).own b = 0 := by
  unfold Dk.own newD
  simp only [List.getD_eq_getElem?_getD, List.getElem?_replicate]
  split <;> rfl
theorem grant1 (b f : Nat) (h1 : 1 ≤ f) (h2 : f ≤ b) (h3 : b ≤ 512) : grantR (newD b) 1 0 (f : Int) = (granted (newD b) 1 0 f, 0) := by
  unfold grantR
  have hb : (newD b).blocks.length = b := by simp [newD]
  have hn : ¬ noGrant (newD b) 1 0 (f : Int) := by unfold noGrant; rw [hb]; omega
  have hbusy : busy (newD b) 0 f = false := busy_of (fun k _ _ => own_newD b k)
  rw [if_neg hn, Int.toNat_natCast]
  show (if busy (newD b) 0 f = true then _ else _) = _
  rw [hbusy]; rfl
theorem grant2 (b f s : Nat) (h0 : f + s = b) (h1 : 1 ≤ f) (h2 : 1 ≤ s) (h3 : b ≤ 512) : grantR (granted (newD b) 1 0 f) 2 (f : Int) (s : Int) = (granted (granted (newD b) 1 0 f) 2 f s, 0) := by
  unfold grantR
  have hb : (granted (newD b) 1 0 f).blocks.length = b := by simp [granted, newD]
  have hn : ¬ noGrant (granted (newD b) 1 0 f) 2 (f : Int) (s : Int) := by unfold noGrant; rw [hb]; omega
  have hbusy : busy (granted (newD b) 1 0 f) f s = false := busy_of (fun k h4 h5 => by
    show (lent (newD b).owners 0 f 1).getD k 0 = 0
    rw [lent_get (by simp [newD]; omega), if_neg (by omega)]
    exact own_newD b k)
  rw [if_neg hn, Int.toNat_natCast, Int.toNat_natCast, hbusy]; rfl
theorem newK_ok {n b : Nat} (h1 : 1 ≤ n) (h2 : n ≤ 256) (h3 : 4 ≤ b) (h4 : b ≤ 512) : (newK n b).Ok := by
  have hs : (newD b).blocks.length = b := by simp [newD]
  refine ⟨by show (0 : Nat) ≤ 8; omega, fun f hf => (by cases hf), by show (0 : Nat) ≤ 16; omega, by show (0 : Nat) ≤ 16; omega, by show (0 : Nat) ≤ 16; omega, fun f hf => (by cases hf), fun f hf => (by cases hf), fun f hf => (by cases hf), fun k hk => ?_, rfl, rfl, fun p hp => ?_, ?_, rfl⟩
  · have hk' : k < (List.replicate n Pg.blank).length := hk
    show ((List.replicate n Pg.blank)[k]'hk').holds = 0
    rw [List.getElem_replicate]; rfl
  · rw [(List.mem_replicate.1 hp).2]; exact Pg.blank_ok
  · have hb1 : busy (newD b) 0 (b - b / 4) = false := busy_of (fun k _ _ => own_newD b k)
    have o1 := (newD_ok (n := b) (by omega) h4).granted (e := 1) (f := 0) (n := b - b / 4) (by omega) (by omega) (by rw [hs]; omega) hb1
    refine o1.granted (e := 2) (by omega) (by omega) (by show _ ≤ (newD b).blocks.length; rw [hs]; omega) (busy_of (fun k h4 h5 => ?_))
    show (lent (newD b).owners 0 (b - b / 4) 1).getD k 0 = 0
    rw [lent_get (by simp [newD]), if_neg (by omega)]
    exact own_newD b k

/-- A kernel as New leaves it. -/
theorem made_ka {w5 w8 : World} {H gd n : Nat} {d : Dk} {F : Nat → Prop} (hT : Fr.Tab w5 H (H + 1) (List.replicate n .blank)) (hD : DA w5 F gd d) (hF : ∀ k, F k → H + 2 ≤ k) (hz : H + 2 ≤ w5.heap.size) (R : Rings (w5.alloc (.cells #[.pointer (some ⟨H + 1, 0, none⟩), .pointer (some ⟨gd, 0, none⟩), .slice none 0 0, .int .i64 0, .pointer none, .pointer none, .pointer none, .int .i64 0] 70)) w5.heap.size (H + 1) gd w8) :
    ∃ lab, KA w8 lab w5.heap.size ⟨List.replicate n .blank, d, [], 0, [], 0, [], 0, [], 0, 0⟩ ∧ ∀ k, lab k ≠ 0 → H ≤ k := by
  obtain ⟨L, hL⟩ : ∃ L : Nat → Nat, ∀ k, L k = if k < H then 0 else if k < H + 2 then 2 else if k < w5.heap.size then (@ite _ (F k) (Classical.propDecidable _) 3 0) else if k = w5.heap.size then 1 else if k < w5.heap.size + 3 then 5 else if k < w5.heap.size + 5 then 6 else if k < w5.heap.size + 7 then 7 else 0 := ⟨_, fun k => rfl⟩
  have kb : Below w5.heap.size w5 (w5.alloc (.cells #[.pointer (some ⟨H + 1, 0, none⟩), .pointer (some ⟨gd, 0, none⟩), .slice none 0 0, .int .i64 0, .pointer none, .pointer none, .pointer none, .int .i64 0] 70)) := (Below.refl _ w5).alloc (Nat.le_refl _) _
  have r1 := R.r1; have r2 := R.r2; have r3 := R.r3; have hd := R.head; have sz := R.size; have ck := R.chg
  simp only [World.size_alloc] at r1 r2 r3 hd sz
  have hgt : H + 1 < w5.heap.size := hT.head.lt
  have q1 : L (w5.heap.size) = 1 := by
    rw [hL]
    rw [if_neg (by omega), if_neg (by omega), if_neg (by omega), if_pos (by omega)]
  have q2 : L (H) = 2 := by
    rw [hL]
    rw [if_neg (by omega), if_pos (by omega)]
  have q3 : L (H + 1) = 2 := by
    rw [hL]
    rw [if_neg (by omega), if_pos (by omega)]
  have q4 : L (w5.heap.size + 1) = 5 := by
    rw [hL]
    rw [if_neg (by omega), if_neg (by omega), if_neg (by omega), if_neg (by omega), if_pos (by omega)]
  have q5 : L (w5.heap.size + 1 + 1) = 5 := by
    rw [hL]
    rw [if_neg (by omega), if_neg (by omega), if_neg (by omega), if_neg (by omega), if_pos (by omega)]
  have q6 : L (w5.heap.size + 1 + 2) = 6 := by
    rw [hL]
    rw [if_neg (by omega), if_neg (by omega), if_neg (by omega), if_neg (by omega), if_neg (by omega), if_pos (by omega)]
  have q7 : L (w5.heap.size + 1 + 3) = 6 := by
    rw [hL]
    rw [if_neg (by omega), if_neg (by omega), if_neg (by omega), if_neg (by omega), if_neg (by omega), if_pos (by omega)]
  have q8 : L (w5.heap.size + 1 + 4) = 7 := by
    rw [hL]
    rw [if_neg (by omega), if_neg (by omega), if_neg (by omega), if_neg (by omega), if_neg (by omega), if_neg (by omega), if_pos (by omega)]
  have q9 : L (w5.heap.size + 1 + 5) = 7 := by
    rw [hL]
    rw [if_neg (by omega), if_neg (by omega), if_neg (by omega), if_neg (by omega), if_neg (by omega), if_neg (by omega), if_pos (by omega)]
  refine ⟨L, ⟨⟨H, H + 1, gd, none, 0, [], w5.heap.size + 1, w5.heap.size + 1 + 1, [], w5.heap.size + 1 + 2, w5.heap.size + 1 + 3, [], w5.heap.size + 1 + 4, w5.heap.size + 1 + 5, []⟩, ?_⟩, ?_⟩
  · refine ⟨hd, (hT.new kb).chg ck (by show ¬ H = w5.heap.size; omega) (by show ¬ H + 1 = w5.heap.size; omega), ?_, RowW.nil _ _ _, Pair.nil, r1, Pair.nil, r2, Pair.nil, r3, Pair.nil, ?_, ?_, ?_, fun b hb => absurd hb (inB_none b), ?_, ?_, ?_, ?_, ?_, ?_, ?_⟩
    · refine da_iff ((hD.new kb).chg ck (fun i (hi : i = w5.heap.size) hf => by have := hD.lt hf; omega)) (fun k => ?_)
      constructor
      · intro hk
        have h1 := hF k hk
        have h2 := hD.lt hk
        show L k = 3
        have h1' : H + 2 ≤ k := h1
        have h2' : k < w5.heap.size := h2
        rw [hL, if_neg (by omega), if_neg (by omega), if_pos h2', if_pos hk]
      · intro hk
        have hk' : L k = 3 := hk
        rw [hL] at hk'
        repeat' (split at hk')
        all_goals first | assumption | contradiction | omega
    · exact q1
    · exact q2
    · exact q3
    · exact q4
    · exact q5
    · exact q6
    · exact q7
    · exact q8
    · exact q9
    · intro k hk
      rw [hL] at hk
      rw [sz]
      by_cases h7 : k < w5.heap.size + 7
      · omega
      · exfalso
        rw [if_neg (by omega), if_neg (by omega), if_neg (by omega), if_neg (by omega), if_neg (by omega), if_neg (by omega), if_neg (by omega)] at hk
        exact hk rfl
  · intro k hk
    rw [hL] at hk
    by_cases h7 : k < H
    · rw [if_pos h7] at hk; exact absurd rfl hk
    · omega

set_option maxRecDepth 100000 in
set_option maxHeartbeats 1000000 in
theorem new_ok (n b : Nat) (w : World) (h1 : 1 ≤ n) (h2 : n ≤ 256) (h3 : 4 ≤ b) (h4 : b ≤ 512) :
    Calls Tryz.prog 6 #[.int .i64 (n : Int), .int .i64 (b : Int)] w fun e w' => ∃ g lab, e = .returned (.tuple #[.pointer (some ⟨g, 0, none⟩), .int .i64 0]) ∧ KA w' lab g (newK n b) ∧ (∀ k, lab k ≠ 0 → w.heap.size ≤ k) ∧ Below w.heap.size w w' := by
  obtain ⟨s, hs⟩ : ∃ s, s = b / 4 := ⟨_, rfl⟩
  obtain ⟨f, hf⟩ : ∃ f, f = b - s := ⟨_, rfl⟩
  have hK : newK n b = ⟨List.replicate n .blank, granted (granted (newD b) 1 0 f) 2 f s, [], 0, [], 0, [], 0, [], 0, 0⟩ := by unfold newK; rw [hf, hs]
  rw [hK]
  have x1 : Int.tdiv (b : Int) 4 = (s : Int) := by rw [Int.tdiv_eq_ediv_of_nonneg (by omega)]; omega
  have x2 : IntKind.i64.wrap ((b : Int) - (s : Int)) = (f : Int) := by rw [IntWalk.i64_in _ (by omega)]; omega
  have x3 : IntKind.i64.wrap (s : Int) = (s : Int) := IntWalk.i64_in _ (by omega)
  have g1 : ¬ (b : Int) < 4 := by omega
  have FN := Lib.hid (fun W => Fr.new_ok n W h1 h2)
  have DN := Lib.hid (fun W => Di.new_ok b W (by omega) h4)
  have G1 := Lib.hid (show ∀ (W : World) F gd, DA W F gd (newD b) → Calls Tryz.prog 24 #[.pointer (some ⟨gd, 0, none⟩), .int .i64 1, .int .i64 0, .int .i64 (f : Int)] W fun e w' => e = .returned (.int .i64 0) ∧ ∃ F', DA w' F' gd (granted (newD b) 1 0 f) ∧ Step W w' F F' from fun W F gd hD => by
    have := grant_any hD 1 0 (f : Int) (by omega) (by simp [newD])
    rw [grant1 b f (by omega) (by omega) h4] at this
    exact this)
  have G2 := Lib.hid (show ∀ (W : World) F gd, DA W F gd (granted (newD b) 1 0 f) → Calls Tryz.prog 24 #[.pointer (some ⟨gd, 0, none⟩), .int .i64 2, .int .i64 (f : Int), .int .i64 (s : Int)] W fun e w' => e = .returned (.int .i64 0) ∧ ∃ F', DA w' F' gd (granted (granted (newD b) 1 0 f) 2 f s) ∧ Step W w' F F' from fun W F gd hD => by
    have := grant_any hD 2 (f : Int) (s : Int) (by omega) (by simp [newD, granted])
    rw [grant2 b f s (by omega) (by omega) (by omega) h4] at this
    exact this)
  clear hK hs hf h1 h2 h3 h4
  go_enter Tryz.func6, Tryz.ntmps6
  go_wp2_with fail
  refine (FN.out _).mono ?_; rintro e w1 ⟨rfl, t1, b1, z1⟩
  have T1 := Lib.hid t1
  have B1 := Lib.hid b1
  have Z1 := Lib.hid z1
  clear t1 b1 z1
  go_wp2_with fail
  refine (DN.out _).mono ?_; rintro e w2 ⟨rfl, d2, b2, z2⟩
  have D2 := Lib.hid (DskAt.da d2)
  have B2 := Lib.hid b2
  clear d2 b2 z2
  go_wp2_with fail
  refine (G1.out _ _ _ D2.out).mono ?_; rintro e w3 ⟨rfl, F3, d3, s3⟩
  have D3 := Lib.hid d3
  have S3 := Lib.hid s3
  clear d3 s3
  go_wp2_with fail
  refine (G2.out _ _ _ D3.out).mono ?_; rintro e w4 ⟨rfl, F4, d4, s4⟩
  have D4 := Lib.hid d4
  have S4 := Lib.hid s4
  clear d4 s4
  have F2 := Lib.hid (show ∀ k, foot w1.heap.size (w1.heap.size + 1) none none k → w1.heap.size ≤ k from fun k hk => by
    rcases hk with h | h | h | h
    · omega
    · omega
    · exact absurd h (inB_none k)
    · exact absurd h (inB_none k))
  have S24 := Lib.hid (S3.out.trans S4.out)
  have hz1 := Z1.out
  have B4 := Lib.hid (show Below w1.heap.size w1 w4 from B2.out.trans (S24.out.below (B := w1.heap.size) B2.out.size F2.out).1)
  have T4 := Lib.hid (T1.out.new B4.out)
  have R4 := Lib.hid (show KHead (w4.alloc (.cells #[.pointer (some ⟨w.heap.size + 1, 0, none⟩), .pointer (some ⟨w1.heap.size + 1, 0, none⟩), .slice none 0 0, .int .i64 0, .pointer none, .pointer none, .pointer none, .int .i64 0] 70)) w4.heap.size (w.heap.size + 1) (w1.heap.size + 1) none none none from Blk.new w4 _ _)
  clear hz1
  go_wp2_with fail
  refine (rings_any _ _ _ _ R4.out).mono ?_; rintro e w8 ⟨rfl, r8⟩
  have FIN := Lib.hid (made_ka T4.out D4.out (fun k hk => by
    have hz1 := Z1.out
    have := (S24.out.below (B := w1.heap.size) B2.out.size F2.out).2 k hk
    omega) (by have := Z1.out; have := B4.out.size; omega) r8)
  have BF := Lib.hid (show Below w.heap.size w w8 from by
    have b0 : Below w.heap.size w w4 := B1.out.trans (B4.out.mono B1.out.size)
    exact (b0.alloc b0.size _).trans (r8.chg.below (by simp; have := b0.size; omega) (fun k (hk : k = w4.heap.size) => by have := b0.size; omega)))
  clear r8
  go_wp2
  go_ret2
  obtain ⟨lab, h5, h6⟩ := FIN.out
  exact ⟨_, lab, rfl, h5, h6, BF.out⟩
end Go.Proofs.YthnpalcjfgbjeaaGreat.Ke

/- Package kern: packetsOf, bind, unbind, submit. Conditions: those that each states. -/
namespace Go.Proofs.YthnpalcjfgbjeaaGreat.Ke
open Go.ChangeShapes Go.WideShapes Go.ChangeAt Go.RowKit Go.Deep Fr Di
set_option linter.unusedVariables false
section
variable {w : World} {lab : Nat → Nat} {g : Nat} {K : Kn} {a : Ad}

theorem rings_1 (h : KAt w lab g K a) : Calls Tryz.prog 54 #[.pointer (some ⟨g, 0, none⟩), .int .i64 1] w fun e w' => e = .returned (.pointer (some ⟨a.b1, 0, none⟩)) ∧ w' = w := by
  have c4 := (h.head.cell 4).trans (show _ = some (.pointer (some ⟨a.b1, 0, none⟩)) from rfl)
  clear h
  go_enter Tryz.func54, Tryz.ntmps54
  go_wp2
  go_ret
  exact ⟨rfl, rfl⟩
theorem rings_2 (h : KAt w lab g K a) : Calls Tryz.prog 54 #[.pointer (some ⟨g, 0, none⟩), .int .i64 2] w fun e w' => e = .returned (.pointer (some ⟨a.b2, 0, none⟩)) ∧ w' = w := by
  have c5 := (h.head.cell 5).trans (show _ = some (.pointer (some ⟨a.b2, 0, none⟩)) from rfl)
  clear h
  go_enter Tryz.func54, Tryz.ntmps54
  go_wp2
  go_ret
  exact ⟨rfl, rfl⟩

/-- What a call leaves: the kernel as K' says, changed within its own blocks. -/
def Left (w w' : World) (lab : Nat → Nat) (g : Nat) (K' : Kn) : Prop := ∃ lab', KA w' lab' g K' ∧ LStep w w' lab lab'
theorem Left.same (h : KAt w lab g K a) {w' : World} (k : Below w.heap.size w w') : Left w w' lab g K := ⟨lab, ⟨a, h.new k⟩, LStep.news lab k⟩

set_option maxRecDepth 100000 in
set_option maxHeartbeats 2000000 in
theorem bind_any (h : KAt w lab g K a) (ok : K.Ok) (env : Int) (he : env = 1 ∨ env = 2) (A : Option Addr) (c : Nat) (p : List Ins) (hp : Prg w A p) (hn : A = none → p = [] ∧ c = 0) (hmax : p.length ≤ 1000000) (hnx : K.next < 1000000) :
    Calls Tryz.prog 51 #[.pointer (some ⟨g, 0, none⟩), .int .i64 env, .slice A p.length c] w fun e w' => e = .returned (.tuple #[.int .i64 (bindR K env p).2.1, .int .i64 (bindR K env p).2.2]) ∧ Left w w' lab g (bindR K env p).1 := by
  have c2 := (h.head.cell 2).trans (show _ = some (.slice a.A K.fs.length a.c) from rfl)
  by_cases h8 : 8 ≤ K.fs.length
  · have g8 : (K.fs.length : Int) ≥ 8 := by omega
    have er : bindR K env p = (K, 0, 10) := by unfold bindR; rw [if_pos h8]
    have FIN := Lib.hid (Left.same h (Below.refl _ w))
    rw [er]
    clear h8 er h
    go_enter Tryz.func51, Tryz.ntmps51
    go_wp2
    go_ret2
    exact ⟨rfl, FIN.out⟩
  have g8 : ¬ (K.fs.length : Int) ≥ 8 := by omega
  by_cases hc : chkB p = true
  · have hC := (chkB_iff p).1 hc
    have er : bindR K env p = ({ K with fs := K.fs ++ [⟨K.next, env.toNat, p⟩], next := K.next + 1 }, (K.next : Int), 0) := by unfold bindR; rw [if_neg h8, if_pos hc]
    have CK := Lib.hid (check_v A c p w hp hmax 0 (.inl ⟨hC, rfl⟩))
    have CL := Lib.hid (fun (W : World) (hb : Below w.heap.size w W) => clone_prg A c p W (hp.new hb) hn hmax)
    obtain ⟨i0, z0, hin, hz, hsz, hby, hzs⟩ := bounds_info
    have INF := Lib.hid (And.intro hin (And.intro hz (And.intro hsz (And.intro hby hzs))))
    have c3 := (h.head.cell 3).trans (show _ = some (.int .i64 (K.next : Int)) from rfl)
    have xn := IntWalk.i64_in ((K.next : Int) + 1) (by omega)
    have HG := Lib.hid h.head.lt
    have H := Lib.hid h
    have hfl := h.fil.1
    have HFL := Lib.hid hfl
    have ENV := Lib.hid (show ((env.toNat : Nat) : Int) = env by omega)
    rw [er]
    clear hc er hC h hp hn hin hz hsz hby hzs hfl
    go_enter Tryz.func51, Tryz.ntmps51
    go_wp2_with fail
    refine CK.out.mono ?_; rintro e w1 ⟨rfl, b1⟩
    have HG1 := Lib.hid (show g < w1.heap.size by have := HG.out; have := b1.size; omega)
    have c2' : w1.cell? ⟨g, 2, none⟩ = some (.slice a.A K.fs.length a.c) := (b1.cell (p := ⟨g, 2, none⟩) HG.out).trans c2
    have c3' : w1.cell? ⟨g, 3, none⟩ = some (.int .i64 (K.next : Int)) := (b1.cell (p := ⟨g, 3, none⟩) HG.out).trans c3
    have H1 := Lib.hid (H.out.new b1)
    have B1 := Lib.hid (show Below w.heap.size w w1.drew from ⟨b1.os, b1.tape, b1.output, b1.size, b1.block⟩)
    clear c2 c3 CK b1 HG
    have c2 := c2'
    have c3 := c3'
    have HG := HG1
    clear HG1 c2' c3'
    go_upto_region 7 with fail
    have hS := Lib.hid (show w1.drew.cell? ⟨g, 2, none⟩ = some (.slice a.A K.fs.length a.c) from c2)
    refine wp_head_held (S := fun w' => Hid (w'.cell? ⟨g, 2, none⟩ = some (.slice a.A K.fs.length a.c))) 12 (by kernel_rfl) rfl rfl (by kernel_rfl) ?_
    simp only [List.take_succ_cons, List.take_zero, List.drop_succ_cons, List.drop_zero]
    refine held_take (i := 0) (d := (some 25)) (v := ?_) rfl rfl (by kernel_rfl) (by kernel_rfl) (by kernel_rfl) (fun _ _ _ h => h) (by rfl) ?_ hS ?_
    rotate_left
    · intro w' hSw; (try dsimp only at hSw); go_simp <;> with_reducible rfl
    simp only [Act.put, List.setIfInBounds_toArray, List.set_cons_zero, List.set_cons_succ]
    refine held_take (i := 1) (d := (some 26)) (v := ?_) rfl rfl (by kernel_rfl) (by kernel_rfl) (by kernel_rfl) (fun _ _ _ h => h) (by rfl) ?_ hS ?_
    rotate_left
    · intro w' hSw; (try dsimp only at hSw); go_simp <;> with_reducible rfl
    simp only [Act.put, List.setIfInBounds_toArray, List.set_cons_zero, List.set_cons_succ]
    refine held_take (i := 2) (d := (some 27)) (v := ?_) rfl rfl (by kernel_rfl) (by kernel_rfl) (by kernel_rfl) (fun _ _ _ h => h) (by rfl) ?_ hS ?_
    rotate_left
    · intro w' hSw; (try dsimp only at hSw); go_simp <;> with_reducible rfl
    simp only [Act.put, List.setIfInBounds_toArray, List.set_cons_zero, List.set_cons_succ]
    refine held_take (i := 3) (d := (some 28)) (v := ?_) rfl rfl (by kernel_rfl) (by kernel_rfl) (by kernel_rfl) (fun _ _ _ h => h) (by rfl) ?_ hS ?_
    rotate_left
    · intro w' hSw; (try dsimp only at hSw); go_simp <;> with_reducible rfl
    simp only [Act.put, List.setIfInBounds_toArray, List.set_cons_zero, List.set_cons_succ]
    refine held_take (i := 4) (d := (some 29)) (v := ?_) rfl rfl (by kernel_rfl) (by kernel_rfl) (by kernel_rfl) (fun _ _ _ h => h) (by rfl) ?_ hS ?_
    rotate_left
    · intro w' hSw; have hc := hSw.out; clear hSw; go_simp <;> with_reducible rfl
    simp only [Act.put, List.setIfInBounds_toArray, List.set_cons_zero, List.set_cons_succ]
    refine held_take (i := 5) (d := (some 30)) (v := ?_) rfl rfl (by kernel_rfl) (by kernel_rfl) (by kernel_rfl) (fun _ _ _ h => h) (by rfl) ?_ hS ?_
    rotate_left
    · intro w' hSw; (try dsimp only at hSw); go_simp <;> with_reducible rfl
    simp only [Act.put, List.setIfInBounds_toArray, List.set_cons_zero, List.set_cons_succ]
    refine held_take (i := 6) (d := (some 31)) (v := ?_) rfl rfl (by kernel_rfl) (by kernel_rfl) (by kernel_rfl) (fun _ _ _ h => h) (by rfl) ?_ hS ?_
    rotate_left
    · intro w' hSw; (try dsimp only at hSw); go_simp <;> with_reducible rfl
    simp only [Act.put, List.setIfInBounds_toArray, List.set_cons_zero, List.set_cons_succ]
    refine held_take (i := 7) (d := (some 32)) (v := ?_) rfl rfl (by kernel_rfl) (by kernel_rfl) (by kernel_rfl) (fun _ _ _ h => h) (by rfl) ?_ hS ?_
    rotate_left
    · intro w' hSw; (try dsimp only at hSw); go_simp <;> with_reducible rfl
    simp only [Act.put, List.setIfInBounds_toArray, List.set_cons_zero, List.set_cons_succ]
    refine held_one (i := 8) (by kernel_rfl) rfl (by rfl) ?_
    go_simp
    refine (CL.out _ (B1.out)).mono ?_; rintro e w5 ⟨A5, c5, rfl, p5, f5, b5⟩
    have P5 := Lib.hid p5
    have F5 := Lib.hid f5
    have B5 := Lib.hid (show Below w1.heap.size w1 w5 from ⟨b5.os, b5.tape, b5.output, b5.size, b5.block⟩)
    have hS : Hid (w5.cell? ⟨g, 2, none⟩ = some (.slice a.A K.fs.length a.c)) := Lib.hid ((B5.out.cell (p := ⟨g, 2, none⟩) HG.out).trans c2)
    refine ⟨hS, ?_⟩
    clear p5 f5 b5
    (try simp only [Act.put, List.setIfInBounds_toArray, List.set_cons_zero, List.set_cons_succ])
    refine held_take (i := 9) (d := (some 34)) (v := ?_) rfl rfl (by kernel_rfl) (by kernel_rfl) (by kernel_rfl) (fun _ _ _ h => h) (by rfl) ?_ hS ?_
    rotate_left
    · intro w' hSw; (try dsimp only at hSw); go_simp <;> with_reducible rfl
    simp only [Act.put, List.setIfInBounds_toArray, List.set_cons_zero, List.set_cons_succ]
    refine held_one (i := 10) (by kernel_rfl) rfl (by rfl) ?_
    go_simp
    have hS : Hid ((w5.alloc (.cells #[.int .i64 (K.next : Int), .int .i64 env, .slice A5 p.length c5] 150)).cell? ⟨g, 2, none⟩ = some (.slice a.A K.fs.length a.c)) := Lib.hid ((((Below.refl w1.heap.size w5).alloc B5.out.size _).cell (p := ⟨g, 2, none⟩) HG.out).trans hS.out)
    refine ⟨hS, ?_⟩
    have RO := Lib.hid (show ((w5.alloc (.cells #[.int .i64 (K.next : Int), .int .i64 env, .slice A5 p.length c5] 150)).ownsRow 0 150 3 (.slice a.A K.fs.length a.c) K.fs.length (flatF a.fm)) from by
      have r := (RowW.new H1.out.row ((Below.refl w1.heap.size w1).trans (B5.out.alloc B5.out.size (.cells #[.int .i64 (K.next : Int), .int .i64 env, .slice A5 p.length c5] 150)))).own
      rw [HFL.out] at r
      exact r)
    have NG := Lib.hid (show some g ≠ (Value.slice a.A K.fs.length a.c).ownBlock from fun e => by
      have h4 := H1.out.lr g (inB_own.1 e.symm)
      have h1 := H1.out.lg
      omega)
    (try simp only [Act.put, List.setIfInBounds_toArray, List.set_cons_zero, List.set_cons_succ])
    refine held_one (i := 11) (by kernel_rfl) rfl (by rfl) ?_
    refine wp_append_d (d := some 36) rfl (.tmp 29) (.tmp 35) 65 rfl 0 150 i0 z0 3 40 Tryz.underlying65 INF.out.1 INF.out.2.1 INF.out.2.2.1 INF.out.2.2.2.1 INF.out.2.2.2.2 (by decide) (.slice a.A K.fs.length a.c) K.fs.length (flatF a.fm) rfl RO.out ⟨w5.heap.size, 0, none⟩ 1 1 [.int .i64 (K.next : Int), .int .i64 env, .slice A5 p.length c5] rfl rfl (World.news_of_block (Blk.new w5 150 _)) (one_fm ⟨_, _, _, _, _⟩) (by decide) (by unfold maxLen; omega) (by omega) (Nat.zero_le _) ?_
    intro g6 cap6 w6 o6 k6 at6 l6
    have O6 := Lib.hid o6
    have K6 := Lib.hid k6
    have AT6 := Lib.hid at6
    have hS : Hid (w6.cell? ⟨g, 2, none⟩ = some (.slice a.A K.fs.length a.c)) := Lib.hid ((k6.cell hS.out (NG.out)))
    refine ⟨hS, ?_⟩
    clear o6 k6 at6 l6
    (try simp only [Act.put, List.setIfInBounds_toArray, List.set_cons_zero, List.set_cons_succ])
    refine wpAnyH_done (by kernel_rfl) ?_ _
    show wpList _ _ _ _ _ _
    have hb5 : Below w1.heap.size w1 (w5.alloc (.cells #[.int .i64 (K.next : Int), .int .i64 env, .slice A5 p.length c5] 150)) := B5.out.alloc B5.out.size _
    have h5 := H1.out.new hb5
    have head6 : Blk w6 g 70 _ := (K6.out.block g h5.head.lt NG.out).trans h5.head
    have c26 := hS.out
    have f26 := head6.frozen 2
    have b7 := head6.put 2 (.slice (some ⟨g6, 0, none⟩) (K.fs.length + 1) cap6)
    have c37 := (b7.cell 3).trans (show _ = some (.int .i64 (K.next : Int)) from rfl)
    have f37 := b7.frozen 3
    have b8 := b7.put 3 (.int .i64 ((K.next : Int) + 1))
    obtain ⟨W7, hW7⟩ : ∃ W7, W7 = w6.setCell ⟨g, 2, none⟩ (.slice (some ⟨g6, 0, none⟩) (K.fs.length + 1) cap6) := ⟨_, rfl⟩
    obtain ⟨W8, hW8⟩ : ∃ W8, W8 = W7.setCell ⟨g, 3, none⟩ (.int .i64 ((K.next : Int) + 1)) := ⟨_, rfl⟩
    have hg6 : g6 ≠ g := by
      intro e
      have hlg := h5.lg
      have hgl := h5.head.lt
      rcases AT6.out with h1 | h1
      · have := h5.lr g6 (inB_own.1 h1)
        rw [e] at this
        omega
      · omega
    have kf : Chg (w5.alloc (.cells #[.int .i64 (K.next : Int), .int .i64 env, .slice A5 p.length c5] 150)) w6 (fun i => i = g ∨ inB a.A i) := ⟨K6.out.os, K6.out.tape, K6.out.output, K6.out.size, fun i hi hn => K6.out.block i hi (fun e => hn (.inr (inB_own.1 e.symm)))⟩
    have k8 : Chg w6 W8 (fun i => i = g) := by
      rw [hW8, hW7]
      exact Chg.trans (w' := w6.setCell ⟨g, 2, none⟩ (.slice (some ⟨g6, 0, none⟩) (K.fs.length + 1) cap6)) (Chg.set _ _ _ rfl) (Chg.set _ _ _ rfl)
    have hrow : FRow W8 (some ⟨g6, 0, none⟩) cap6 (a.fm ++ [FM.mk (K.next : Int) env A5 p.length c5]) := by
      have r6 : RowW w6 150 3 (some ⟨g6, 0, none⟩) (a.fm ++ [FM.mk (K.next : Int) env A5 p.length c5]).length cap6 (flatF (a.fm ++ [FM.mk (K.next : Int) env A5 p.length c5])) := by
        rw [flatF_append, List.length_append, HFL.out]
        exact ⟨O6.out⟩
      exact RowW.chg r6 k8 (fun b hb (hi : b = g) => hg6 ((inB_some hb).symm.trans hi))
    have hd8 : Blk W8 g 70 #[.pointer (some ⟨a.gt, 0, none⟩), .pointer (some ⟨a.gd, 0, none⟩), .slice (some ⟨g6, 0, none⟩) (K.fs ++ [Fil.mk K.next env.toNat p]).length cap6, .int .i64 ((K.next + 1 : Nat) : Int), .pointer (some ⟨a.b1, 0, none⟩), .pointer (some ⟨a.b2, 0, none⟩), .pointer (some ⟨a.b3, 0, none⟩), .int .i64 (K.done : Int)] := by
      rw [hW8, hW7, List.length_append]
      exact b8
    have FIN := Lib.hid (show Left w W8 lab g { K with fs := K.fs ++ [Fil.mk K.next env.toNat p], next := K.next + 1 } from by
      obtain ⟨lab', ka, st⟩ := h5.setRow (w' := W8) (A' := some ⟨g6, 0, none⟩) (c' := cap6) (fm' := a.fm ++ [FM.mk (K.next : Int) env A5 p.length c5]) (fs' := K.fs ++ [⟨K.next, env.toNat, p⟩]) (nx := K.next + 1)
        (kf.trans (k8.weak (fun i hi => .inl hi))) hd8 hrow (fun b hb => by
          have e := inB_some hb
          subst e
          rcases AT6.out with h1 | h1
          · exact .inl (inB_own.1 h1)
          · exact .inr (Nat.le_of_eq h1.symm))
        (h5.fil.snoc (x := ⟨(K.next : Int), env, A5, p.length, c5⟩) (y := ⟨K.next, env.toNat, p⟩) ⟨rfl, ENV.out.symm, rfl, P5.out.new ((Below.refl _ w5).alloc (Nat.le_refl _) _), Fresh.off (w := w1.drew) F5.out H1.out.all⟩)
      exact ⟨lab', ⟨_, ka⟩, (LStep.news lab (show Below w.heap.size w (w5.alloc (.cells #[.int .i64 (K.next : Int), .int .i64 env, .slice A5 p.length c5] 150)) from (show Below w.heap.size w w1 from ⟨B1.out.os, B1.out.tape, B1.out.output, B1.out.size, B1.out.block⟩).trans (hb5.mono B1.out.size))).trans st⟩)
    have HW8 := Lib.hid hW8
    have HW7 := Lib.hid hW7
    rw [← hW7] at c37 f37
    clear hb5 h5 head6 b7 b8 hg6 kf k8 hrow hd8 hW8 hW7
    go_upto_region 8 with fail
    rw [show w6.setCell ⟨g, 2, none⟩ (.slice (some ⟨g6, 0, none⟩) (K.fs.length + 1) cap6) = W7 from HW7.out.symm]
    go_wp2
    go_ret2
    rw [show W7.setCell ⟨g, 3, none⟩ (.int .i64 ((K.next : Int) + 1)) = W8 from HW8.out.symm]
    exact ⟨rfl, FIN.out⟩
  · have hC : ¬ Chk p := fun h1 => hc ((chkB_iff p).2 h1)
    have er : bindR K env p = (K, 0, 40) := by unfold bindR; rw [if_neg h8, if_neg hc]
    have CK := Lib.hid (check_v A c p w hp hmax 40 (.inr ⟨hC, rfl⟩))
    have H := Lib.hid h
    rw [er]
    clear hc er hC h hp hn
    go_enter Tryz.func51, Tryz.ntmps51
    go_wp2_with fail
    refine CK.out.mono ?_; rintro e w1 ⟨rfl, b1⟩
    have FIN := Lib.hid (Left.same H.out b1)
    clear b1
    go_wp2
    go_ret2
    exact ⟨rfl, FIN.out⟩

theorem fil_idx (h : KAt w lab g K a) (id env : Int) : a.fm.findIdx? (isB id env) = K.fs.findIdx? (isFil id env) := h.fil.findIdx fun x y hxy => by
  obtain ⟨e1, e2, _⟩ := hxy
  unfold isB isFil
  rw [e1, e2]
set_option maxRecDepth 100000 in
set_option maxHeartbeats 1000000 in
theorem unbind_any (h : KAt w lab g K a) (ok : K.Ok) (env id : Int) :
    Calls Tryz.prog 52 #[.pointer (some ⟨g, 0, none⟩), .int .i64 env, .int .i64 id] w fun e w' => e = .returned (.int .i64 (unbindR K env id).2) ∧ Left w w' lab g (unbindR K env id).1 := by
  obtain ⟨W, hW⟩ : ∃ W, W = (w.alloc (.cells #[.int .i64 env] 3)).alloc (.cells #[.int .i64 id] 3) := ⟨_, rfl⟩
  have hb : Below w.heap.size w W := by rw [hW]; exact ((Below.refl _ w).alloc (Nat.le_refl _) _).alloc (by simp) _
  have be : Blk W w.heap.size 3 #[.int .i64 env] := by rw [hW]; exact (Blk.new w _ _).alloc _
  have bi : Blk W (w.heap.size + 1) 3 #[.int .i64 id] := by
    rw [hW]
    have := Blk.new (w.alloc (.cells #[.int .i64 env] 3)) 3 #[.int .i64 id]
    simpa using this
  have h1 := h.new hb
  have c2 := (h1.head.cell 2).trans (show _ = some (.slice a.A K.fs.length a.c) from rfl)
  have hmf : ∀ (fn : Fn) (first cap : Array Value) (w : World), (Instr.makeFunc fn first cap).run Tryz.prog w = .ok (.func fn first cap) w := fun _ _ _ _ => rfl
  have ix := index_any a.A a.c a.fm (w.heap.size + 1) w.heap.size id env W h1.row (by have := h1.fil.1; have := ok.f8; omega) (bi.cell 0) (be.cell 0)
  rw [h1.fil.1] at ix
  have hfl := h1.fil.1
  have HFL := Lib.hid hfl
  have HB := Lib.hid hb
  have H1 := Lib.hid h1
  have HW := Lib.hid hW
  have hidx := fil_idx h1 id env
  cases hi : K.fs.findIdx? (isFil id env) with
  | none =>
    have er : unbindR K env id = (K, 11) := by unfold unbindR; rw [hi]
    have ei : idxB a.fm id env = -1 := by unfold idxB; rw [hidx, hi]
    rw [ei] at ix
    rw [er]
    have IX := Lib.hid ix
    clear hi er ei ix hidx h1 hb be bi hW hfl h ok
    go_enter Tryz.func52, Tryz.ntmps52
    go_upto_region 1 with fail
    rw [show (w.alloc (.cells #[.int .i64 env] 3)).alloc (.cells #[.int .i64 id] 3) = W from HW.out.symm]
    go_wp2_with fail
    refine IX.out.mono ?_; rintro e w1 ⟨rfl, b1⟩
    have FIN := Lib.hid (Left.same H1.out b1)
    clear b1
    go_wp2
    go_ret
    obtain ⟨lab', k1, k2⟩ := FIN.out
    exact ⟨rfl, lab', k1, (LStep.news lab HB.out).trans k2⟩
  | some i =>
    have er : unbindR K env id = ({ K with fs := K.fs.eraseIdx i }, 0) := by unfold unbindR; rw [hi]
    have ei : idxB a.fm id env = (i : Int) := by unfold idxB; rw [hidx, hi]
    have hil : i < K.fs.length := by
      obtain ⟨h1, _⟩ := List.findIdx?_eq_some_iff_getElem.1 hi
      exact h1
    rw [ei] at ix
    rw [er]
    have IX := Lib.hid ix
    have hmax := ok.f8
    have xi := IntWalk.i64_in ((i : Int) + 1) (by omega)
    have gi : ¬ (i : Int) < 0 := by omega
    have HIL := Lib.hid hil
    have DL := Lib.hid (fun (W' : World) (hr : FRow W' a.A a.c a.fm) => delete_any a.A a.c a.fm i W' hr (by omega) (by omega))
    rw [hfl] at DL
    clear hi er ei ix hidx h1 hb be bi hW hfl h ok hil hmax
    go_enter Tryz.func52, Tryz.ntmps52
    go_upto_region 1 with fail
    rw [show (w.alloc (.cells #[.int .i64 env] 3)).alloc (.cells #[.int .i64 id] 3) = W from HW.out.symm]
    go_wp2_with fail
    refine IX.out.mono ?_; rintro e w1 ⟨rfl, b1⟩
    have h2 := H1.out.new b1
    have H2 := Lib.hid h2
    have B1 := Lib.hid b1
    have c2' := (h2.head.cell 2).trans (show _ = some (.slice a.A K.fs.length a.c) from rfl)
    clear b1 h2 c2
    go_wp2_with fail
    refine (DL.out _ H2.out.row).mono ?_; rintro e w3 ⟨rfl, r3, k3⟩
    have ng : ¬ inB a.A g := fun e => by
      have := H2.out.lr g e
      have := H2.out.lg
      omega
    have head3 := H2.out.head.chg k3 ng
    have c3 := (head3.cell 2).trans (show _ = some (.slice a.A K.fs.length a.c) from rfl)
    have f3 := head3.frozen 2
    obtain ⟨W4, hW4⟩ : ∃ W4, W4 = w3.setCell ⟨g, 2, none⟩ (.slice a.A (K.fs.length - 1) a.c) := ⟨_, rfl⟩
    have k4 : Chg w3 W4 (fun i => i = g) := by rw [hW4]; exact Chg.set _ _ _ rfl
    have FIN := Lib.hid (show Left w W4 lab g { K with fs := K.fs.eraseIdx i } from by
      have hl : (K.fs.eraseIdx i).length = K.fs.length - 1 := by rw [List.length_eraseIdx, if_pos HIL.out]
      obtain ⟨lab', ka, st⟩ := H2.out.setRow (w' := W4) (A' := a.A) (c' := a.c) (fm' := a.fm.eraseIdx i) (fs' := K.fs.eraseIdx i) (nx := K.next)
        ((k3.weak (fun i hi => .inr hi)).trans (k4.weak (fun i hi => .inl hi))) (by rw [hW4, hl]; exact head3.put 2 _) (RowW.chg r3 k4 (fun b hb (e : b = g) => ng (by rw [← e]; exact hb))) (fun b hb => .inl hb) (H2.out.fil.erase i)
      exact ⟨lab', ⟨_, ka⟩, (LStep.news lab (HB.out.trans (B1.out.mono HB.out.size))).trans st⟩)
    have HW4 := Lib.hid hW4
    clear r3 k3 ng head3 k4 hW4
    go_wp2
    go_ret
    rw [show w3.setCell ⟨g, 2, none⟩ (.slice a.A (K.fs.length - 1) a.c) = W4 from HW4.out.symm]
    exact ⟨rfl, FIN.out⟩

set_option maxRecDepth 100000 in
set_option maxHeartbeats 2000000 in
theorem submit_any (h : KAt w lab g K a) (ok : K.Ok) (env : Int) (he : env = 1 ∨ env = 2) (A : Option Addr) (c : Nat) (l : List Pc) (hp : Pcs w A l) (hok : ∀ p ∈ l, p.Ok) (hA : ∀ b o, A = some ⟨b, o, none⟩ → lab b = 0) (hc : l.length ≤ c) (hmax : l.length ≤ 1000000) (hs : K.f3 + K.out.length < 1000000) :
    Calls Tryz.prog 53 #[.pointer (some ⟨g, 0, none⟩), .int .i64 env, .slice A l.length c] w fun e w' => e = .returned (.tuple #[.int .i64 (submitR K env l).2.1, .int .i64 (submitR K env l).2.2]) ∧ Left w w' lab g (submitR K env l).1 := by
  have c6 := (h.head.cell 6).trans (show _ = some (.pointer (some ⟨a.b3, 0, none⟩)) from rfl)
  have c0 := (h.head.cell 0).trans (show _ = some (.pointer (some ⟨a.gt, 0, none⟩)) from rfl)
  have hx := h.p3.1
  have rm := RgT.room_any a.a3 a.b3 16 K.f3 a.x3 w h.r3
  rw [hx] at rm
  have no := ok.no
  by_cases h16 : 16 ≤ K.out.length
  · have er : submitR K env l = (K, 0, 10) := by unfold submitR; rw [if_pos h16]
    have e0 : ((16 : Nat) : Int) - (K.out.length : Int) = 0 := by omega
    rw [e0] at rm
    have RM := Lib.hid rm
    have H := Lib.hid h
    rw [er]
    clear er e0 rm h ok hp hok hA hx h16 no
    go_enter Tryz.func53, Tryz.ntmps53
    go_wp2_with fail
    refine RM.out.mono ?_; rintro e w1 ⟨rfl, m, rfl⟩
    have FIN := Lib.hid (Left.same H.out (w' := w.drewN m) ⟨rfl, rfl, rfl, Nat.le_refl _, fun _ _ => rfl⟩)
    go_wp2
    go_ret2
    exact ⟨rfl, FIN.out⟩
  obtain ⟨q, hq, hq0⟩ : ∃ q : Int, q = ((16 : Nat) : Int) - (K.out.length : Int) ∧ ¬ q = 0 := ⟨_, rfl, by omega⟩
  rw [← hq] at rm
  have RM := Lib.hid rm
  have H := Lib.hid h
  have HO := Lib.hid (fun (W : World) (hT : Fr.Tab W a.gs a.gt K.ps) (hP : Pcs W A l) => hold_list hT env A c l hP hok (fun b o e e2 => by have := hA b o e; have := h.lt1; rw [e2] at *; omega) hc ok.hm hmax)
  have HP := Lib.hid hp
  by_cases h0 : (holdG K.ps env l).2 = 0
  · have er : submitR K env l = ({ K with ps := (holdG K.ps env l).1, out := K.out ++ [⟨env.toNat, l⟩] }, (K.f3 : Int) + (K.out.length : Int), 0) := by unfold submitR; rw [if_neg h16, if_pos h0]
    have hchk : checkR K.ps env l = 0 := by
      unfold holdG at h0
      split at h0
      · assumption
      · exact absurd h0 (by assumption)
    have hne : 0 < l.length := by
      have := (fits_of_zero (check_zero hchk).1).2.1
      exact List.length_pos_iff.2 this
    rw [h0] at HO
    rw [er]
    have HA := Lib.hid hA
    have XL := Lib.hid (show a.x3.length < 16 by omega)
    have XS := Lib.hid (show K.f3 + a.x3.length < 1000000 by omega)
    have HX := Lib.hid hx
    have NE := Lib.hid hne
    have ENV := Lib.hid (show ((env.toNat : Nat) : Int) = env by omega)
    generalize (holdG K.ps env l).1 = ps2 at *
    clear er rm h ok hp hok hA hx h16 no hq h0 hchk hne
    go_enter Tryz.func53, Tryz.ntmps53
    go_wp2_with fail
    refine RM.out.mono ?_; rintro e w1 ⟨rfl, m, rfl⟩
    go_wp2_with fail
    refine (HO.out (w.drewN m) (H.out.tab.drewN m) HP.out).mono ?_; rintro e w2 ⟨rfl, t2, k2⟩
    obtain ⟨h2, s2⟩ := (H.out.drewN m).setPs k2 t2
    have H2 := Lib.hid h2
    have S2 := Lib.hid (show LStep w w2 lab lab from (LStep.drawn lab m).trans s2)
    have P2 := Lib.hid (show Pcs w2 A l from Pcs.step HP.out S2.out.step (fun h0 b o e hf => hf (HA.out b o e)))
    have CL := Lib.hid (clone_pcs A c l w2.drew P2.out NE.out hmax)
    have c6' := (h2.head.cell 6).trans (show _ = some (.pointer (some ⟨a.b3, 0, none⟩)) from rfl)
    clear h2 s2 k2 t2 c6 c0
    have c6 := c6'
    clear c6'
    go_upto_region 6 with fail
    refine wp_region_held_drew (S := fun w' => Hid (w'.cell? ⟨g, 6, none⟩ = some (.pointer (some ⟨a.b3, 0, none⟩)))) (by kernel_rfl) (Lib.hid (show w2.drew.cell? ⟨g, 6, none⟩ = some (.pointer (some ⟨a.b3, 0, none⟩)) from c6)) (fun hS => ?_)
    refine held_take (i := 0) (d := (some 25)) (v := ?_) rfl rfl (by kernel_rfl) (by kernel_rfl) (by kernel_rfl) (fun _ _ _ h => h) (by rfl) ?_ hS ?_
    rotate_left
    · intro w' hSw; (try dsimp only at hSw); go_simp <;> with_reducible rfl
    simp only [Act.put, List.setIfInBounds_toArray, List.set_cons_zero, List.set_cons_succ]
    refine held_take (i := 1) (d := (some 26)) (v := ?_) rfl rfl (by kernel_rfl) (by kernel_rfl) (by kernel_rfl) (fun _ _ _ h => h) (by rfl) ?_ hS ?_
    rotate_left
    · intro w' hSw; (try dsimp only at hSw); go_simp <;> with_reducible rfl
    simp only [Act.put, List.setIfInBounds_toArray, List.set_cons_zero, List.set_cons_succ]
    refine held_take (i := 2) (d := (some 27)) (v := ?_) rfl rfl (by kernel_rfl) (by kernel_rfl) (by kernel_rfl) (fun _ _ _ h => h) (by rfl) ?_ hS ?_
    rotate_left
    · intro w' hSw; (try dsimp only at hSw); go_simp <;> with_reducible rfl
    simp only [Act.put, List.setIfInBounds_toArray, List.set_cons_zero, List.set_cons_succ]
    refine held_take (i := 3) (d := (some 28)) (v := ?_) rfl rfl (by kernel_rfl) (by kernel_rfl) (by kernel_rfl) (fun _ _ _ h => h) (by rfl) ?_ hS ?_
    rotate_left
    · intro w' hSw; have hc := hSw.out; clear hSw; go_simp <;> with_reducible rfl
    simp only [Act.put, List.setIfInBounds_toArray, List.set_cons_zero, List.set_cons_succ]
    refine held_take (i := 4) (d := (some 29)) (v := ?_) rfl rfl (by kernel_rfl) (by kernel_rfl) (by kernel_rfl) (fun _ _ _ h => h) (by rfl) ?_ hS ?_
    rotate_left
    · intro w' hSw; (try dsimp only at hSw); go_simp <;> with_reducible rfl
    simp only [Act.put, List.setIfInBounds_toArray, List.set_cons_zero, List.set_cons_succ]
    refine held_take (i := 5) (d := (some 30)) (v := ?_) rfl rfl (by kernel_rfl) (by kernel_rfl) (by kernel_rfl) (fun _ _ _ h => h) (by rfl) ?_ hS ?_
    rotate_left
    · intro w' hSw; (try dsimp only at hSw); go_simp <;> with_reducible rfl
    simp only [Act.put, List.setIfInBounds_toArray, List.set_cons_zero, List.set_cons_succ]
    refine held_one (i := 6) (by kernel_rfl) rfl (by rfl) ?_
    go_simp
    refine CL.out.mono ?_; rintro e w5 ⟨A5, c5, rfl, p5, f5, n5, b5⟩
    have B5 := Lib.hid (show Below w2.heap.size w2 w5 from ⟨b5.os, b5.tape, b5.output, b5.size, b5.block⟩)
    have hk5 := H2.out.new B5.out
    have H5 := Lib.hid hk5
    have P5 := Lib.hid p5
    have F5 := Lib.hid (show Off (on lab) A5 l.length from Fresh.off (w := w2) f5 H2.out.all)
    have N5 := Lib.hid n5
    have PU := Lib.hid (RgT.put_ok a.a3 a.b3 16 K.f3 a.x3 env A5 l.length c5 w5 hk5.r3 XL.out XS.out)
    have hS : Hid (w5.cell? ⟨g, 6, none⟩ = some (.pointer (some ⟨a.b3, 0, none⟩))) := Lib.hid ((hk5.head.cell 6).trans rfl)
    refine ⟨hS, ?_⟩
    clear p5 f5 n5 b5 hk5
    (try simp only [Act.put, List.setIfInBounds_toArray, List.set_cons_zero, List.set_cons_succ])
    refine held_take (i := 7) (d := (some 32)) (v := ?_) rfl rfl (by kernel_rfl) (by kernel_rfl) (by kernel_rfl) (fun _ _ _ h => h) (by rfl) ?_ hS ?_
    rotate_left
    · intro w' hSw; (try dsimp only at hSw); go_simp <;> with_reducible rfl
    simp only [Act.put, List.setIfInBounds_toArray, List.set_cons_zero, List.set_cons_succ]
    refine held_one (i := 8) (by kernel_rfl) rfl (by rfl) ?_
    go_simp
    refine PU.out.mono ?_; rintro e w6 ⟨rfl, r6, k6⟩
    have R6 := Lib.hid r6
    have K6 := Lib.hid k6
    have hS : Hid (w6.cell? ⟨g, 6, none⟩ = some (.pointer (some ⟨a.b3, 0, none⟩))) := Lib.hid ((World.cell?_of_block (w := w5) (w' := w6) (a := ⟨g, 6, none⟩) (k6.block g H5.out.head.lt (by have := H5.out.lg; have := H5.out.l31; have := H5.out.l32; show ¬ (g = a.a3 ∨ g = a.b3); intro e; rcases e with e | e <;> (subst e; omega)))).trans hS.out)
    refine ⟨hS, ?_⟩
    clear r6 k6
    (try simp only [Act.put, List.setIfInBounds_toArray, List.set_cons_zero, List.set_cons_succ])
    refine held_take (i := 9) (d := (some 34)) (v := ?_) rfl rfl (by kernel_rfl) (by kernel_rfl) (by kernel_rfl) (fun _ _ _ h => h) (by rfl) ?_ hS ?_
    rotate_left
    · intro w' hSw; (try dsimp only at hSw); go_simp <;> with_reducible rfl
    simp only [Act.put, List.setIfInBounds_toArray, List.set_cons_zero, List.set_cons_succ]
    refine held_take (i := 10) (d := (some 35)) (v := ?_) rfl rfl (by kernel_rfl) (by kernel_rfl) (by kernel_rfl) (fun _ _ _ h => h) (by rfl) ?_ hS ?_
    rotate_left
    · intro w' hSw; (try dsimp only at hSw); go_simp <;> with_reducible rfl
    simp only [Act.put, List.setIfInBounds_toArray, List.set_cons_zero, List.set_cons_succ]
    refine held_take (i := 11) (d := (some 6)) (v := ?_) rfl rfl (by kernel_rfl) (by kernel_rfl) (by kernel_rfl) (fun _ _ _ h => h) (by rfl) ?_ hS ?_
    rotate_left
    · intro w' hSw; (try dsimp only at hSw); go_simp <;> with_reducible rfl
    simp only [Act.put, List.setIfInBounds_toArray, List.set_cons_zero, List.set_cons_succ]
    refine held_take (i := 12) (d := (some 7)) (v := ?_) rfl rfl (by kernel_rfl) (by kernel_rfl) (by kernel_rfl) (fun _ _ _ h => h) (by rfl) ?_ hS ?_
    rotate_left
    · intro w' hSw; (try dsimp only at hSw); go_simp <;> with_reducible rfl
    simp only [Act.put, List.setIfInBounds_toArray, List.set_cons_zero, List.set_cons_succ]
    refine wpAnyH_done (by kernel_rfl) ?_ _
    have FIN := Lib.hid (show Left w w6 lab g { K with ps := ps2, out := K.out ++ [Tr.mk env.toNat l] } from by
      obtain ⟨h7, s7⟩ := H5.out.setRing3 (x' := a.x3 ++ [(.int .i64 env, .slice A5 l.length c5)]) (f' := K.f3) (o' := K.out ++ [Tr.mk env.toNat l]) K6.out R6.out (H5.out.p3.snoc (y := Tr.mk env.toNat l) ⟨A5, c5, by show _ = (Value.int .i64 ((env.toNat : Nat) : Int), _); rw [ENV.out], P5.out, F5.out, N5.out⟩)
      exact ⟨lab, ⟨_, h7⟩, (S2.out.trans (LStep.news lab B5.out)).trans s7⟩)
    clear S2 P2 CL H5 P5 F5 N5 PU R6 K6 B5
    go_wp2
    go_ret2
    rw [HX.out]
    exact ⟨rfl, FIN.out⟩
  · have er : submitR K env l = (K, 0, (holdG K.ps env l).2) := by unfold submitR; rw [if_neg h16, if_neg h0]
    have h1 : (holdG K.ps env l).1 = K.ps := by
      unfold holdG at h0 ⊢
      split
      · rename_i hc; rw [if_pos hc] at h0; exact absurd rfl h0
      · rfl
    rw [h1] at HO
    rw [er]
    have h0b : ((holdG K.ps env l).2 == 0) = false := by simpa using h0
    generalize (holdG K.ps env l).2 = ev at *
    clear er rm h ok hp hok hA hx h16 no hq h1
    go_enter Tryz.func53, Tryz.ntmps53
    go_wp2_with fail
    refine RM.out.mono ?_; rintro e w1 ⟨rfl, m, rfl⟩
    go_wp2_with fail
    refine (HO.out (w.drewN m) (H.out.tab.drewN m) HP.out).mono ?_; rintro e w2 ⟨rfl, t2, k2⟩
    obtain ⟨h2, s2⟩ := (H.out.drewN m).setPs k2 t2
    have FIN := Lib.hid (show Left w w2 lab g K from ⟨lab, ⟨a, h2⟩, (LStep.drawn lab m).trans s2⟩)
    clear t2 k2 h2 s2
    go_wp2
    go_ret2
    exact ⟨rfl, FIN.out⟩
end
end Go.Proofs.YthnpalcjfgbjeaaGreat.Ke
