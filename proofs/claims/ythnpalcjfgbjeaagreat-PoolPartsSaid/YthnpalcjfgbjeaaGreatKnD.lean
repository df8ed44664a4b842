/- The law's call as the program's. Conditions: those that each states. -/
import Derived.Test.YthnpalcjfgbjeaaGreatKnC
import Derived.Test.YthnpalcjfgbjeaaGreatKAct
namespace Go.Proofs.YthnpalcjfgbjeaaGreat.Ke
open Go.ChangeShapes Go.WideShapes Go.ChangeAt Go.RowKit Go.Deep Fr Di
set_option linter.unusedVariables false
def MadeF (w : World) (p : List Pc) (e : Ending) (w' : World) : Prop := ∃ A c, e = .returned (.slice A p.length c) ∧ (Pcs w' A p ∧ p.length ≤ c ∧ ∀ b, inB A b → w.heap.size ≤ b ∧ b < w'.heap.size) ∧ Below w.heap.size w w'
theorem owns_capF {w : World} {B : Nat} {E : TypeId} {size n c : Nat} {A : Option Addr} {xs : List Value} (h : w.ownsRow B E size (.slice A n c) n xs) : n ≤ c ∧ ∀ b, inB A b → B ≤ b ∧ b < w.heap.size :=
  ⟨(owns_cap h).1, fun b e => h.lt b (inB_own.2 e)⟩
set_option maxRecDepth 100000 in
set_option maxHeartbeats 2000000 in
theorem of_capF (A : Option Addr) (c : Nat) (p : List Pc) (w : World) (hp : Pcs w A p) (hmax : p.length ≤ 1000000) :
    Calls Tryz.prog 10 #[.slice A p.length c] w (MadeF w p) := by
  have P := Lib.hid hp
  have B0 := Lib.hid (Below.refl w.heap.size w)
  have O0 := Lib.hid (show w.ownsRow w.heap.size 90 3 (.slice none 0 0) 0 (flatP (p.take 0)) from World.ownsRow_nil w w.heap.size 90 3)
  obtain ⟨i0, z0, hi, hz, hsz, hby, hzs⟩ := pcs_info
  have INF := Lib.hid (And.intro hi (And.intro hz (And.intro hsz (And.intro hby hzs))))
  clear hp hi hz hsz hby hzs
  go_enter Tryz.func10, Tryz.ntmps10
  go_wp2
  go_loopw [3, 4] (fun out i wr => ∃ (j : Nat) (A' : Option Addr) (c' : Nat), j ≤ p.length ∧ i = .int .i64 (j : Int) ∧ out = .slice A' j c' ∧ wr.ownsRow w.heap.size 90 3 (.slice A' j c') j (flatP (p.take j)) ∧ Below w.heap.size w wr) (fun _ i _ => p.length - (intOf i).toNat)
  case atStart => exact ⟨0, none, 0, Nat.zero_le _, rfl, rfl, O0.out, B0.out⟩
  case round =>
    clear B0 O0
    obtain ⟨j, A', c', hj, rfl, rfl, ho, hb⟩ := hrel
    have HO := Lib.hid ho
    have HB := Lib.hid hb
    have hgs : w.heap.size ≤ wr.heap.size := hb.size
    have P1 := Lib.hid (P.out.new hb)
    clear hb ho
    by_cases hlt : j < p.length
    · have hlt' : (j : Int) < (p.length : Int) := by omega
      have j0 : (0 : Int) ≤ (j : Int) := by omega
      have xj := IntWalk.i64_in ((j : Int) + 1) (by omega)
      obtain ⟨b, o, rfl, hbl, hr⟩ := P1.out j hlt
      have LD := Lib.hid (show wr.rangeAt b (o + j * 3) [.int .i64 p[j].frame, .int .i64 p[j].off, .int .i64 p[j].len] from hr)
      have HT := Lib.hid (show flatP (p.take (j + 1)) = flatP (p.take j) ++ [.int .i64 p[j].frame, .int .i64 p[j].off, .int .i64 p[j].len] from by
        rw [List.take_succ_eq_append_getElem hlt, flatP_snoc]; rfl)
      have H1 := Lib.hid (show ∀ u ∈ ([.int .i64 p[j].frame, .int .i64 p[j].off, .int .i64 p[j].len] : List Value), u.oneCell' = true from one_pc p[j])
      generalize flatP (p.take j) = fl at *
      generalize p[j].frame = qf at *
      generalize p[j].off = qo at *
      generalize p[j].len = qn at *
      clear hr
      go_wp2_with (first
        | (refine wpList_load_mid rfl 45 (.tmp 14) rfl b (o + j * 3) rfl _ _ LD.out Tryz.underlying45 rfl rpc_info ?_)
        | (at_builtin; refine Hid.out ?_)
        | fail)
      unfold Hid
      refine wpList_append_lies _ rfl (.tmp 11) (.tmp 16) 38 rfl w.heap.size 90 i0 z0 3 24 Tryz.underlying38 INF.out.1 INF.out.2.1 INF.out.2.2.1 INF.out.2.2.2.1 INF.out.2.2.2.2 (by decide) _ j fl rfl (HO.out.alloc _) ⟨wr.heap.size, 0, none⟩ 1 1 [.int .i64 qf, .int .i64 qo, .int .i64 qn] rfl rfl (World.news_of_block (Blk.new wr 90 _)) H1.out (by decide) (by unfold maxLen; omega) (by omega) (by simp; omega) (wr.heap.size + 1) (by simp) ?_
      intro g cap w1 hown hgrow hat hlg
      rw [← HT.out] at hown
      have HO1 := Lib.hid hown
      have hb1 := (HB.out.trans (((Below.refl wr.heap.size wr).alloc (Nat.le_refl _) (.cells #[.int .i64 qf, .int .i64 qo, .int .i64 qn] 90)).mono hgs)).grown hgrow (by simp; omega) (fun k e => (HO.out.lt k e).1)
      have HB1 := Lib.hid hb1
      clear hown hgrow hat hb1 HO HT H1
      go_wp2
      go_roundw
      case rel => exact ⟨j + 1, _, _, by omega, by simp, rfl, HO1.out, HB1.out⟩
      case measure => simp [intOf]; omega
    · have hge : ¬ (j : Int) < (p.length : Int) := by omega
      obtain rfl : j = p.length := by omega
      have ho := HO.out
      rw [List.take_length] at ho
      have hcap := Lib.hid (owns_capF ho)
      obtain ⟨A2, c2, e2, hp2⟩ := pcs_of_owns ho
      cases e2
      have HP2 := Lib.hid hp2
      clear ho hp2
      go_wp2
      go_ret
      exact ⟨_, _, rfl, ⟨HP2.out, hcap.out⟩, HB.out⟩

/-- A list's capacity; of no pieces nothing is made. -/
def Capd (l : List Pc) (A : Option Addr) (c : Nat) : Prop := l.length ≤ c ∧ (l = [] → A = none ∧ c = 0)
def MadeG (w : World) (p : List Pc) (e : Ending) (w' : World) : Prop := ∃ A c, e = .returned (.slice A p.length c) ∧ (Pcs w' A p ∧ Capd p A c ∧ ∀ b, inB A b → w.heap.size ≤ b ∧ b < w'.heap.size) ∧ Below w.heap.size w w'
set_option maxRecDepth 100000 in
theorem of_capG (A : Option Addr) (c : Nat) (p : List Pc) (w : World) (hp : Pcs w A p) (hmax : p.length ≤ 1000000) :
    Calls Tryz.prog 10 #[.slice A p.length c] w (MadeG w p) := by
  by_cases e : p = []
  · subst e
    have B0 := Lib.hid (Below.refl w.heap.size w)
    clear hp hmax
    go_enter Tryz.func10, Tryz.ntmps10
    go_wp2
    go_loopw [3, 4] (fun out i wr => out = .slice none 0 0 ∧ i = .int .i64 0 ∧ Hid (Below w.heap.size w wr)) (fun _ _ _ => 0)
    case atStart => exact ⟨rfl, rfl, B0⟩
    case round =>
      clear B0
      obtain ⟨rfl, rfl, HB⟩ := hrel
      go_wp2
      go_ret
      exact ⟨none, 0, rfl, ⟨fun i hi => absurd hi (by simp), ⟨Nat.le_refl _, fun _ => ⟨rfl, rfl⟩⟩, fun b e => by simp [inB] at e⟩, HB.out⟩
  · exact (of_capF A c p w hp hmax).mono fun e' w' h => by
      obtain ⟨A', c', he, ⟨p1, p2, p3⟩, b⟩ := h
      exact ⟨A', c', he, ⟨p1, ⟨p2, fun h => absurd h e⟩, p3⟩, b⟩
theorem callz : (Tryz.prog.info? 80).map (fun i => (i.zero.map (·.cells))) = some (some #[.int .i64 0, .int .i64 0, .int .i64 0, .int .i64 0, .int .i64 0, .slice none 0 0, .slice none 0 0, .slice none 0 0]) := by kernel_rfl
theorem cinfo : (Tryz.prog.info? 80).map (·.size) = some 8 := by kernel_rfl
theorem one8 (a b c d e : Int) (A1 A2 A3 : Option Addr) (n1 c1 n2 c2 n3 c3 : Nat) : (#[.int .i64 a, .int .i64 b, .int .i64 c, .int .i64 d, .int .i64 e, .slice A1 n1 c1, .slice A2 n2 c2, .slice A3 n3 c3] : Array Value).all (·.oneCell') = true := by simp [Value.oneCell']
theorem src_chg {w w' : World} {A : Option Addr} {n c : Nat} {l : List UInt8} {S : Nat → Prop} (h : Src w A n c l) (k : Chg w w' S) (hn : ∀ b o, A = some ⟨b, o, none⟩ → ¬ S b) : Src w' A n c l := by
  refine ⟨⟨fun hp => ?_, h.len, h.cap, h.max⟩, h.none_⟩
  obtain ⟨b, o, e, hb, hc⟩ := h.lies hp
  refine ⟨b, o, e, Nat.lt_of_lt_of_le hb k.size, fun j hj => ?_⟩
  rw [World.cell?_of_block (w := w) (w' := w') (a := ⟨b, o + j, none⟩) (k.block b hb (hn b o e))]
  exact hc j hj
theorem prg_chg {w w' : World} {A : Option Addr} {l : List Ins} {S : Nat → Prop} (h : Prg w A l) (k : Chg w w' S) (hn : ∀ b o, A = some ⟨b, o, none⟩ → 0 < l.length → ¬ S b) : Prg w' A l := by
  intro i hi
  obtain ⟨b, o, e, hb, h1⟩ := h i hi
  refine ⟨b, o, e, Nat.lt_of_lt_of_le hb k.size, fun j v hj => ?_⟩
  rw [World.cell?_of_block (w := w) (w' := w') (a := ⟨b, o + i * 4 + j, none⟩) (k.block b hb (hn b o e (by omega)))]
  exact h1 j v hj
theorem Pcs.chg2 {w w' : World} {A : Option Addr} {l : List Pc} {S : Nat → Prop} (h : Pcs w A l) (k : Chg w w' S) (hn : ∀ b o, A = some ⟨b, o, none⟩ → 0 < l.length → ¬ S b) : Pcs w' A l := by
  intro i hi
  obtain ⟨b, o, e, hb, h1⟩ := h i hi
  refine ⟨b, o, e, Nat.lt_of_lt_of_le hb k.size, fun j v hj => ?_⟩
  rw [World.cell?_of_block (w := w) (w' := w') (a := ⟨b, o + i * 3 + j, none⟩) (k.block b hb (hn b o e (by omega)))]
  exact h1 j v hj
section
variable {P : Program} {ops : Array Oper} {Q : Exit → Act → World → Prop} {md : Region.Mode} {S : World → Prop}
theorem held_three {fuel : Nat} {listed : Array Bool} {a : Act} {w : World} {i j k : Nat} {o o' o2 : Oper} (hr : Region.ready md ops listed = [i, j, k]) (ho : ops[i]? = some o) (ho' : ops[j]? = some o') (ho2 : ops[k]? = some o2)
    (hw : Region.wanted o (yielded ops a.tmps) = true) (hw' : Region.wanted o' (yielded ops a.tmps) = true) (hw2 : Region.wanted o2 (yielded ops a.tmps) = true)
    (h : o.wp P a w (fun a' w' => S w' ∧ wpAnyH P md ops Q S fuel (listed.setIfInBounds i true) a' w') Q) (h' : o'.wp P a w (fun a' w' => S w' ∧ wpAnyH P md ops Q S fuel (listed.setIfInBounds j true) a' w') Q)
    (h2 : o2.wp P a w (fun a' w' => S w' ∧ wpAnyH P md ops Q S fuel (listed.setIfInBounds k true) a' w') Q) : wpAnyH P md ops Q S (fuel + 1) listed a w :=
  wpAnyH_all hr (by simp) fun m hm => by
    rcases List.mem_cons.1 hm with e | e
    · rw [e]; unfold wpOp; simp only [ho, hw, if_true]; exact .inl h
    rcases List.mem_cons.1 e with e | e
    · rw [e]; unfold wpOp; simp only [ho', hw', if_true]; exact .inl h'
    · rw [List.mem_singleton.1 e]; unfold wpOp; simp only [ho2, hw2, if_true]; exact .inl h2
theorem wp_conv_d {o : Oper} {a : Act} {w w' : World} {K : Act → World → Prop} {s t : TypeId} {x : Operand} {d : Option Tmp} (hd : o.dst = d) {y v : Value} (ho : o.op = .convert s t x) (hx : a.eval x = y) (h : (convert s t y).run P w = .ok v w')
    (hk : K (a.put d v) w') : o.wp P a w K Q := by
  subst hd
  unfold Oper.wp execOp
  simp only [ho, hx, Sem.run_bind, h, Result.andThen_ok, Sem.run_pure]
  exact hk
theorem wp_alloc_d {o : Oper} {a : Act} {w : World} {K : Act → World → Prop} {d : Option Tmp} (hd : o.dst = d) (t : TypeId) (ho : o.op = .alloc t) (cells : Array Value) (hi : (P.info? t).map (fun i => (i.zero.map (·.cells))) = some (some cells))
    (h : ∀ y, y = w.alloc (.cells cells t) → K (a.put d (.pointer (some ⟨w.heap.size, 0, none⟩))) y) : o.wp P a w K Q := by
  subst hd
  obtain ⟨i, hi0, hz0⟩ := Option.map_eq_some_iff.1 hi
  obtain ⟨z, hz, hc⟩ := Option.map_eq_some_iff.1 hz0
  subst hc
  have hrun : (Instr.alloc t true (.tuple #[])).run P w = .ok (.pointer (some ⟨w.heap.size, 0, none⟩)) (w.alloc (.cells z.cells t)) := by
    simp [Instr.alloc, zeroValue, typeInfo, hi0, hz, newVar, newRow]
  unfold Oper.wp execOp
  simp only [ho, Sem.run_bind, hrun, Result.andThen_ok, Sem.run_pure]
  exact h _ rfl
end
/-- What a call was made of lies behind W: its own struct is block a. -/
def OfAt (W : World) (q : KC) (a : Nat) (Ab : Option Addr) (cb : Nat) (Al : Option Addr) (cl : Nat) (A' : Option Addr) (n' c' : Nat) (w' : World) : Prop :=
  Below W.heap.size W w' ∧ W.heap.size ≤ a ∧ Blk w' a 80 #[.int .i64 q.op, .int .i64 q.env, .int .i64 q.a, .int .i64 q.b, .int .i64 q.c, .slice Ab q.s.size cb, .slice A' n' c', .slice Al q.l.length cl] ∧
    Src w' Ab q.s.size cb q.s.data.toList ∧ (∀ b, inB Ab b → W.heap.size ≤ b ∧ b < w'.heap.size ∧ b ≠ a) ∧
    Pcs w' Al q.l ∧ Capd q.l Al cl ∧ (∀ b, inB Al b → W.heap.size ≤ b ∧ b < w'.heap.size ∧ b ≠ a)
def OfL (W : World) (q : KC) (a : Nat) (Ab : Option Addr) (cb : Nat) (Al : Option Addr) (cl : Nat) (j : Nat) (A' : Option Addr) (c' : Nat) (wr : World) : Prop :=
  OfAt W q a Ab cb Al cl A' j c' wr ∧ wr.ownsRow W.heap.size 148 4 (.slice A' j c') j (flat (q.p.take j)) ∧ ∀ b o, A' = some ⟨b, o, none⟩ → b ≠ a ∧ ¬ inB Ab b ∧ ¬ inB Al b
def kq (q : KC) : KQ := ⟨q.op, q.env, q.a, q.b, q.c, q.s.data.toList, q.p, q.l⟩
/-- The program's call, made of the law's: its parts lie in new blocks. -/
structure MadeQ (w : World) (q : KC) (x : KX) (w' : World) : Prop where
  below : Below w.heap.size w w'
  hs : Src w' x.Ab q.s.data.toList.length x.cb q.s.data.toList
  fb : ∀ b, inB x.Ab b → w.heap.size ≤ b ∧ b < w'.heap.size
  hp : Prg w' x.Ap q.p
  np : x.Ap = none → q.p = [] ∧ x.cp = 0
  hl : Pcs w' x.Al q.l
  fl : ∀ b, inB x.Al b → w.heap.size ≤ b ∧ b < w'.heap.size
  cl : q.l.length ≤ x.cl
  nl : q.l = [] → x.Al = none ∧ x.cl = 0
end Go.Proofs.YthnpalcjfgbjeaaGreat.Ke

/- The law's Far and far; the chapter's example. Conditions: those that each states. -/
namespace Go.Proofs.YthnpalcjfgbjeaaGreat.Ke
open Go.ChangeShapes Go.WideShapes Go.ChangeAt Go.RowKit Go.Deep Fr Di
set_option linter.unusedVariables false
/-- A call is not more than is looked at. -/
def Near (q : KC) : Prop := q.s.size ≤ 1000 ∧ q.p.length ≤ 100 ∧ q.l.length ≤ 100
instance (q : KC) : Decidable (Near q) := inferInstanceAs (Decidable (_ ∧ _))
theorem kact_q {w : World} {b o : Nat} {a : KAct} (h : w.rangeAt b o a.list) : w.rangeAt b (o + 1) a.q.list := by
  intro j v hj
  have := h (j + 1) v (by
    show (Value.int .i64 a.kind :: (a.q.list ++ [.string a.s]))[j + 1]? = some v
    rw [List.getElem?_cons_succ, List.getElem?_append_left (List.getElem?_eq_some_iff.1 hj).1]
    exact hj)
  rw [show o + 1 + j = o + (j + 1) by omega]
  exact this
theorem kact_kind {w : World} {b o : Nat} {a : KAct} (h : w.rangeAt b o a.list) : w.cell? ⟨b, o, none⟩ = some (.int .i64 a.kind) := h 0 _ rfl
theorem kact_s {w : World} {b o : Nat} {a : KAct} (h : w.rangeAt b o a.list) : w.cell? ⟨b, o + 9, none⟩ = some (.string a.s) := h 9 _ rfl
/-- Steps are not more than are looked at. -/
def NearL (n : Nat) (fn : Nat → KAct) : Prop := n ≤ 100 ∧ ∀ i, i < n → Near (fn i).q ∧ (fn i).s.size ≤ 2000
/-- A call without bytes, program or list. -/
def bare (op env a b c : Int) : KQ := ⟨op, env, a, b, c, [], [], []⟩
def noX : KX := ⟨none, 0, none, 0, none, 0⟩
theorem bare_in (w : World) (lab : Nat → Nat) (op env a b c : Int) (hb : -9223372036854775808 ≤ b ∧ b ≤ 9223372036854775807) : (bare op env a b c).In w lab noX :=
  ⟨hb, Src.nil w, fun b o e => (by cases e), fun i hi => absurd hi (by simp [bare]), fun _ => ⟨rfl, rfl⟩, by simp [bare], fun p hp => (by cases hp), fun i hi => absurd hi (by simp [bare]), fun p hp => (by cases hp), fun b o e => (by cases e), Nat.le_refl _, by simp [bare]⟩
theorem newK_small (n b : Nat) : (newK n b).Small 0 := ⟨Nat.le_refl _, Nat.le_refl _, Nat.le_refl _, Nat.le_refl _, Nat.le_refl _, Nat.le_refl _⟩
/-- The labels of a kernel that New made bear no 8. -/
theorem alloc_new (n : Nat) (hn : 1 ≤ n) (env : Int) (he : isE env) : Fr.allocR (List.replicate n Pg.blank) env = ((List.replicate n Pg.blank).set 0 { Pg.blank with owner := env.toNat }, 0, 0) := by
  unfold Fr.allocR
  have e : (List.replicate n Pg.blank).findIdx? (fun p => p.owner == 0) = some 0 := by
    rw [List.findIdx?_eq_some_iff_getElem]
    exact ⟨by rw [List.length_replicate]; omega, by rw [List.getElem_replicate]; rfl, fun j hj => absurd hj (by omega)⟩
  rw [if_pos he, e]
  have e2 : pg (List.replicate n Pg.blank) ((0 : Nat) : Int) = Pg.blank := by
    rw [pg_at (k := 0) (by rw [List.length_replicate]; omega), List.getElem_replicate]
  show ((List.replicate n Pg.blank).set 0 { pg (List.replicate n Pg.blank) ((0 : Nat) : Int) with owner := env.toNat }, ((0 : Nat) : Int), (0 : Int)) = _
  rw [e2]
  rfl
end Go.Proofs.YthnpalcjfgbjeaaGreat.Ke

/- The chapter's example. No condition. -/
namespace Go.Proofs.YthnpalcjfgbjeaaGreat.Ke
open Go.ChangeShapes Go.WideShapes Go.ChangeAt Go.RowKit Go.Deep Fr Di
set_option linter.unusedVariables false
theorem new_n8 {w w' : World} {lab lab' : Nat → Nat} (h : LStep w w' lab lab') (n : ∀ k, lab' k ≠ 8) : ∀ k, lab' k ≠ 8 := n
/-- A kernel in memory, all of it behind block B; no label is 8. -/
structure KB (B : Nat) (w : World) (lab : Nat → Nat) (g : Nat) (K : Kn) : Prop where
  ka : KA w lab g K
  n8 : ∀ k, lab k ≠ 8
  ge : ∀ k, lab k ≠ 0 → B ≤ k
  ok : K.Ok
theorem KB.step {B : Nat} {w w' : World} {lab lab' : Nat → Nat} {g : Nat} {K K' : Kn} (h : KB B w lab g K) (ka : KA w' lab' g K') (L : LStep w w' lab lab') (n8 : ∀ k, lab' k ≠ 8) (ok : K'.Ok) (hB : B ≤ w.heap.size) : KB B w' lab' g K' ∧ Below B w w' :=
  ⟨⟨ka, n8, fun k hk => by
    rcases L.old k hk with h1 | h1
    · exact h.ge k h1
    · omega, ok⟩, L.chg.below hB (fun k hk => h.ge k hk.1)⟩
theorem KB.new {B : Nat} {w w' : World} {lab : Nat → Nat} {g : Nat} {K : Kn} (h : KB B w lab g K) (k : Below w.heap.size w w') : KB B w' lab g K := by
  obtain ⟨a, ha⟩ := h.ka
  exact ⟨⟨a, ha.new k⟩, h.n8, h.ge, h.ok⟩
/-- A kernel that New makes. -/
theorem new_kb (n b : Nat) (w : World) (h1 : 1 ≤ n) (h2 : n ≤ 256) (h3 : 4 ≤ b) (h4 : b ≤ 512) :
    Calls Tryz.prog 6 #[.int .i64 (n : Int), .int .i64 (b : Int)] w fun e w' => ∃ g lab, e = .returned (.tuple #[.pointer (some ⟨g, 0, none⟩), .int .i64 0]) ∧ KB w.heap.size w' lab g (newK n b) ∧ Below w.heap.size w w' :=
  (new_ok n b w h1 h2 h3 h4).mono fun e w' ⟨g, lab, he, ka, ge, hb⟩ => ⟨g, off8 lab, he, ⟨by obtain ⟨a, ha⟩ := ka; exact ⟨a, ha.unmark⟩, off8_ne lab, fun k hk => ge k (off8_on hk), newK_ok h1 h2 h3 h4⟩, hb⟩
theorem call_kb {B : Nat} {w : World} {lab : Nat → Nat} {g : Nat} {K : Kn} (h : KB B w lab g K) (hB : B ≤ w.heap.size) (n : Nat) (sm : K.Small n) (hn : n < 1000000) (q : KQ) (x : KX) (hq : q.In w lab x) :
    Calls Tryz.prog 26 #[.pointer (some ⟨g, 0, none⟩), .agg (q.cells x)] w fun e w' => ∃ A c, e = .returned (.tuple #[.agg #[.int .i64 (callR K q).2.1, .slice A (callR K q).2.2.1.length c], .int .i64 (callR K q).2.2.2]) ∧
      ∃ lab', KB B w' lab' g (callR K q).1 ∧ LStep w w' lab lab' ∧ Below B w w' ∧ Src w' A (callR K q).2.2.1.length c (callR K q).2.2.1 ∧ Off (on lab') A (callR K q).2.2.1.length := by
  refine (call_any h.ka h.n8 h.ok n sm hn q x hq).mono ?_
  rintro e w' ⟨A, c, he, lab', ka, L, n8, hs, ho⟩
  obtain ⟨k1, k2⟩ := h.step ka L n8 (ok_call h.ok q hq.pok hq.lok) hB
  exact ⟨A, c, he, lab', k1, L, k2, hs, ho⟩
section
variable (K : Kn) (env : Int) (he : env = 1 ∨ env = 2) (a b c : Int) (s : List UInt8) (p : List Ins) (l : List Pc)
include he
theorem callR_1 : callR K ⟨1, env, a, b, c, s, p, l⟩ = ({ K with ps := (Fr.allocR K.ps env).1 }, (Fr.allocR K.ps env).2.1, [], (Fr.allocR K.ps env).2.2) := by unfold callR; rw [if_neg (fun h => h he)]; rfl
theorem callR_2 : callR K ⟨2, env, a, b, c, s, p, l⟩ = ({ K with ps := (Fr.freeR K.ps env a).1 }, 0, [], (Fr.freeR K.ps env a).2) := by unfold callR; rw [if_neg (fun h => h he)]; rfl
theorem callR_4 : callR K ⟨4, env, a, b, c, s, p, l⟩ = (K, 0, (Fr.readR K.ps env a b c).1, (Fr.readR K.ps env a b c).2) := by unfold callR; rw [if_neg (fun h => h he)]; rfl
theorem callR_5 : callR K ⟨5, env, a, b, c, s, p, l⟩ = ({ K with ps := (Fr.writeR K.ps env a b s).1 }, 0, [], (Fr.writeR K.ps env a b s).2) := by unfold callR; rw [if_neg (fun h => h he)]; rfl
theorem callR_6 : callR K ⟨6, env, a, b, c, s, p, l⟩ = (K, 0, (readR K.dk env a).1, (readR K.dk env a).2) := by unfold callR; rw [if_neg (fun h => h he)]; rfl
theorem callR_7 : callR K ⟨7, env, a, b, c, s, p, l⟩ = ({ K with dk := (writeR K.dk env a s).1 }, 0, [], (writeR K.dk env a s).2) := by unfold callR; rw [if_neg (fun h => h he)]; rfl
theorem callR_9 : callR K ⟨9, env, a, b, c, s, p, l⟩ = ((bindR K env p).1, (bindR K env p).2.1, [], (bindR K env p).2.2) := by unfold callR; rw [if_neg (fun h => h he)]; rfl
theorem callR_11 : callR K ⟨11, env, a, b, c, s, p, l⟩ = ((submitR K env l).1, (submitR K env l).2.1, [], (submitR K env l).2.2) := by unfold callR; rw [if_neg (fun h => h he)]; rfl
theorem callR_12 : callR K ⟨12, env, a, b, c, s, p, l⟩ = ((takeR K env).1, 0, (takeR K env).2.1, (takeR K env).2.2) := by unfold callR; rw [if_neg (fun h => h he)]; rfl
theorem callR_13 : callR K ⟨13, env, a, b, c, s, p, l⟩ = (K, (K.done : Int), [], 0) := by unfold callR; rw [if_neg (fun h => h he)]; rfl
end
/-- The example's kernel behind its first call. -/
def exK : Kn := { newK 4 16 with ps := (List.replicate 4 Pg.blank).set 0 { Pg.blank with owner := 2 } }
theorem call_alloc2 : callR (newK 4 16) (bare 1 2 0 0 0) = (exK, 0, [], 0) := by
  have h := callR_1 (newK 4 16) 2 (.inr rfl) 0 0 0 [] [] []
  have h2 : Fr.allocR (newK 4 16).ps 2 = ((List.replicate 4 Pg.blank).set 0 { Pg.blank with owner := 2 }, 0, 0) := alloc_new 4 (by omega) 2 (.inr rfl)
  rw [h2] at h
  exact h
theorem call_free1 : callR exK (bare 2 1 0 0 0) = (exK, 0, [], 20) := by
  have h := callR_2 exK 1 (.inl rfl) 0 0 0 [] [] []
  have e : ownErr exK.ps 1 0 = 20 := by
    unfold ownErr
    rw [if_pos ⟨.inl rfl, by decide, by decide⟩]
    have e2 : pg exK.ps 0 = { Pg.blank with owner := 2 } := rfl
    rw [e2]
    decide
  have h2 : Fr.freeR exK.ps 1 0 = (exK.ps, 20) := by
    unfold Fr.freeR
    rw [if_neg (by rw [e]; decide), e]
  rw [h2] at h
  exact h
theorem exK_small : exK.Small 0 := ⟨Nat.le_refl _, Nat.le_refl _, Nat.le_refl _, Nat.le_refl _, Nat.le_refl _, Nat.le_refl _⟩
theorem LStep.blk0 {w w' : World} {lab lab' : Nat → Nat} (L : LStep w w' lab lab') {i : Nat} {t : TypeId} {cs : Array Value} (hb : Blk w i t cs) (h0 : lab i = 0) : Blk w' i t cs := hb.chg L.chg (fun h => h.1 h0)
theorem KB.lab0 {B : Nat} {w : World} {lab : Nat → Nat} {g : Nat} {K : Kn} (h : KB B w lab g K) {i : Nat} (hi : w.heap.size ≤ i) : lab i = 0 := by
  obtain ⟨a, ha⟩ := h.ka
  by_cases h0 : lab i = 0
  · exact h0
  · have := ha.all i h0; omega
end Go.Proofs.YthnpalcjfgbjeaaGreat.Ke
