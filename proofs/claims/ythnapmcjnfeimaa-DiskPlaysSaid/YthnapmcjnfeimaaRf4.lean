/- The document's disk: its calls, all but Grant and Write. Conditions: those that each states. -/
import Derived.Test.YthnapmcjnfeimaaRf3
namespace Go.Proofs.Ythnapmcjnfeimaa.RD
open Go.ChangeShapes Go.WideShapes Go.ChangeAt Go.RowKit Go.Deep Di
set_option linter.unusedVariables false
def RPost (w : World) (gm bt bo : Nat) (Al : Option Addr) (d' : Dk) (t : List UInt8) (E : Int) (e : Ending) (w' : World) : Prop :=
  e = .returned (.tuple #[.string ⟨t.toArray⟩, .int .i64 E]) ∧ ∃ R', RA w' R' gm d' ∧ Step w w' (rfoot gm bt bo Al) R'
section
variable {w w' w1 w2 : World} {gm bt bo ct co cl cl' co' ct' : Nat} {Al Al' : Option Addr} {d d' : Dk} {S R : Nat → Prop}
theorem post_of (h : RefAt w' gm bt bo ct' co' Al' cl' d') (hb : Below w.heap.size w w1) (k : Chg w1 w' (rfoot gm bt bo Al)) (ha : ∀ i, inB Al' i → inB Al i ∨ w.heap.size ≤ i) : ∃ R', RA w' R' gm d' ∧ Step w w' (rfoot gm bt bo Al) R' :=
  ⟨_, h.ra, (Chg.of_new hb _).trans k, fun i hi => by
    rcases hi with e | e | e | e
    · exact .inl (.inl e)
    · exact .inl (.inr (.inl e))
    · exact .inl (.inr (.inr (.inl e)))
    · rcases ha i e with e | e
      · exact .inl (.inr (.inr (.inr e)))
      · exact .inr e⟩
theorem post_same (h : RefAt w1 gm bt bo ct co Al cl d) (hb : Below w.heap.size w w1) : ∃ R', RA w1 R' gm d ∧ Step w w1 (rfoot gm bt bo Al) R' :=
  post_of h hb (Chg.refl _ _) (fun i hi => .inl hi)
theorem RefAt.setLeft (h : RefAt w gm bt bo ct co Al cl d) (ar : Int) (ha : -1 ≤ ar ∧ ar ≤ 9223372036854775807) : RefAt (w.setCell ⟨gm, 4, none⟩ (.int .i64 ar)) gm bt bo ct co Al cl { d with armed := ar } ∧ Chg w (w.setCell ⟨gm, 4, none⟩ (.int .i64 ar)) (rfoot gm bt bo Al) := by
  have k : Chg w (w.setCell ⟨gm, 4, none⟩ (.int .i64 ar)) (fun k => k = gm) := Chg.set _ _ _ rfl
  refine ⟨⟨?_, h.text.chg k (fun e => h.nt (by have e' : bt = gm := e; exact e'.symm)), h.own.chg k (fun e => h.no (by have e' : bo = gm := e; exact e'.symm)), h.line.chg k (fun b hb e => h.lm (by have e' : b = gm := e; rw [← e']; exact hb)), h.nt, h.no, h.tn, h.lm, h.lt_, h.lo, ⟨h.ok.n1, h.ok.n2, h.ok.bl, h.ok.ow, h.ok.ex, h.ok.mt, h.ok.li, ha⟩⟩, k.weak (fun i hi => .inl hi)⟩
  have := h.head.put 4 (.int .i64 ar)
  simp at this
  exact this
theorem RefAt.setOn (h : RefAt w gm bt bo ct co Al cl d) (on off : Bool) (ho : off = !on) : RefAt (w.setCell ⟨gm, 3, none⟩ (.bool off)) gm bt bo ct co Al cl { d with on := on } ∧ Chg w (w.setCell ⟨gm, 3, none⟩ (.bool off)) (rfoot gm bt bo Al) := by
  subst ho
  have k : Chg w (w.setCell ⟨gm, 3, none⟩ (.bool (!on))) (fun k => k = gm) := Chg.set _ _ _ rfl
  refine ⟨⟨?_, h.text.chg k (fun e => h.nt (by have e' : bt = gm := e; exact e'.symm)), h.own.chg k (fun e => h.no (by have e' : bo = gm := e; exact e'.symm)), h.line.chg k (fun b hb e => h.lm (by have e' : b = gm := e; rw [← e']; exact hb)), h.nt, h.no, h.tn, h.lm, h.lt_, h.lo, ⟨h.ok.n1, h.ok.n2, h.ok.bl, h.ok.ow, h.ok.ex, h.ok.mt, h.ok.li, h.ok.ar⟩⟩, k.weak (fun i hi => .inl hi)⟩
  have := h.head.put 3 (.bool (!on))
  simp at this
  exact this
theorem RefAt.cut (h : RefAt w gm bt bo ct co Al cl d) : RefAt ((w.setCell ⟨gm, 3, none⟩ (.bool true)).setCell ⟨gm, 4, none⟩ (.int .i64 (-1))) gm bt bo ct co Al cl (cutR d) ∧ Chg w ((w.setCell ⟨gm, 3, none⟩ (.bool true)).setCell ⟨gm, 4, none⟩ (.int .i64 (-1))) (rfoot gm bt bo Al) := by
  obtain ⟨h1, k1⟩ := h.setOn false true rfl
  obtain ⟨h2, k2⟩ := h1.setLeft (-1) (by omega)
  exact ⟨h2, k1.trans k2⟩
set_option maxRecDepth 100000 in
set_option maxHeartbeats 2000000 in
theorem rdo1 (h : RefAt w gm bt bo ct co Al cl d) (env a b : Int) (s : ByteArray)  :
    Calls Try.prog 9 #[.pointer (some ⟨gm, 0, none⟩), .agg #[.int .i64 1, .int .i64 env, .int .i64 a, .int .i64 b, .string s]] w (RPost w gm bt bo Al d (readR d env a).1 (readR d env a).2) := by
  by_cases he : askE d env a = 0
  · have e : readR d env a = (see d a.toNat, 0) := by unfold readR; rw [if_pos he]
    obtain ⟨_, bk, rfl, hbl, _⟩ := askE_zero he
    rw [e, Int.toNat_natCast]
    clear e
    have hB := (Below.refl w.heap.size w).alloc (Nat.le_refl _) (.cells #[.int .i64 1, .int .i64 env, .int .i64 (bk : Int), .int .i64 b, .string s] 34)
    have hq := Blk.new w 34 #[.int .i64 1, .int .i64 env, .int .i64 (bk : Int), .int .i64 b, .string s]
    have H := Lib.hid (h.new hB)
    have HB := Lib.hid hB
    have HQ := Lib.hid hq
    have hgl := h.head.lt
    clear hB hq
    go_enter Try.func9, Try.ntmps9
    go_upto_region 1 with fail
    generalize (w.alloc (.cells #[.int .i64 1, .int .i64 env, .int .i64 (bk : Int), .int .i64 b, .string s] 34)) = w1 at *
    obtain ⟨a0, a1, a2, a3, a4⟩ := act_cells HQ.out
    obtain ⟨c0, c1, c2, c3, c4⟩ := H.out.heads
    have f2 := H.out.head.frozen 2
    have f3 := H.out.head.frozen 3
    have f4 := H.out.head.frozen 4
    have ok := H.out.ok
    clear h HQ
    have MAY := Lib.hid (rmay_any H.out env bk)
    have FIN := Lib.hid (post_same H.out HB.out)
    have SEE := Lib.hid (rsee_any H.out bk hbl)
    rw [he] at MAY
    clear he
    generalize see d bk = tt at *
    go_wp2_with fail
    refine MAY.out.mono ?_; rintro e w2 ⟨rfl, rfl⟩
    go_wp2_with fail
    refine SEE.out.mono ?_; rintro e w3 ⟨rfl, rfl⟩
    go_wp2
    go_ret2
    exact ⟨rfl, FIN.out⟩
  · have e : readR d env a = ([], askE d env a) := by unfold readR; rw [if_neg he]
    rw [e]
    have hv : (askE d env a == 0) = false := by simpa using he
    clear e
    obtain ⟨v, ev⟩ : ∃ v, v = askE d env a := ⟨_, rfl⟩
    rw [← ev] at hv ⊢
    have hB := (Below.refl w.heap.size w).alloc (Nat.le_refl _) (.cells #[.int .i64 1, .int .i64 env, .int .i64 a, .int .i64 b, .string s] 34)
    have hq := Blk.new w 34 #[.int .i64 1, .int .i64 env, .int .i64 a, .int .i64 b, .string s]
    have H := Lib.hid (h.new hB)
    have HB := Lib.hid hB
    have HQ := Lib.hid hq
    have hgl := h.head.lt
    clear hB hq
    go_enter Try.func9, Try.ntmps9
    go_upto_region 1 with fail
    generalize (w.alloc (.cells #[.int .i64 1, .int .i64 env, .int .i64 a, .int .i64 b, .string s] 34)) = w1 at *
    obtain ⟨a0, a1, a2, a3, a4⟩ := act_cells HQ.out
    obtain ⟨c0, c1, c2, c3, c4⟩ := H.out.heads
    have f2 := H.out.head.frozen 2
    have f3 := H.out.head.frozen 3
    have f4 := H.out.head.frozen 4
    have ok := H.out.ok
    clear h HQ
    have MAY := Lib.hid (rmay_any H.out env a)
    rw [← ev] at MAY
    have FIN := Lib.hid (post_same H.out HB.out)
    clear he ev
    go_wp2_with fail
    refine MAY.out.mono ?_; rintro e w2 ⟨rfl, rfl⟩
    go_wp2
    go_ret2
    exact ⟨rfl, FIN.out⟩

set_option maxRecDepth 100000 in
set_option maxHeartbeats 2000000 in
theorem rdo3 (h : RefAt w gm bt bo ct co Al cl d) (env a b : Int) (s : ByteArray)  :
    Calls Try.prog 9 #[.pointer (some ⟨gm, 0, none⟩), .agg #[.int .i64 3, .int .i64 env, .int .i64 a, .int .i64 b, .string s]] w (RPost w gm bt bo Al (syncR d).1 [] (syncR d).2) := by
  by_cases hon : d.on = true
  · have e : syncR d = (settleR d d.line.length, 0) := by unfold syncR; rw [if_pos hon]
    rw [e]
    clear e
    have hB := (Below.refl w.heap.size w).alloc (Nat.le_refl _) (.cells #[.int .i64 3, .int .i64 env, .int .i64 a, .int .i64 b, .string s] 34)
    have hq := Blk.new w 34 #[.int .i64 3, .int .i64 env, .int .i64 a, .int .i64 b, .string s]
    have H := Lib.hid (h.new hB)
    have HB := Lib.hid hB
    have HQ := Lib.hid hq
    have hgl := h.head.lt
    clear hB hq
    go_enter Try.func9, Try.ntmps9
    go_upto_region 1 with fail
    generalize (w.alloc (.cells #[.int .i64 3, .int .i64 env, .int .i64 a, .int .i64 b, .string s] 34)) = w1 at *
    obtain ⟨a0, a1, a2, a3, a4⟩ := act_cells HQ.out
    obtain ⟨c0, c1, c2, c3, c4⟩ := H.out.heads
    have f2 := H.out.head.frozen 2
    have f3 := H.out.head.frozen 3
    have f4 := H.out.head.frozen 4
    have ok := H.out.ok
    clear h HQ
    rw [hon] at c3
    have c3' : w1.cell? ⟨gm, 3, none⟩ = some (.bool false) := c3
    have SET := Lib.hid (rsettle_any H.out (d.line.length : Int))
    rw [Int.toNat_natCast] at SET
    clear c3 hon
    go_wp2_with fail
    refine SET.out.mono ?_; rintro e w2 ⟨rfl, h2, k2⟩
    have FIN := Lib.hid (post_of h2 HB.out k2 (fun i hi => absurd hi (inB_none i)))
    clear h2 k2
    go_wp2
    go_ret2
    exact ⟨rfl, FIN.out⟩
  · have e : syncR d = (d, 30) := by unfold syncR; rw [if_neg hon]
    rw [e]
    have hon' : d.on = false := by simpa using hon
    clear e
    have hB := (Below.refl w.heap.size w).alloc (Nat.le_refl _) (.cells #[.int .i64 3, .int .i64 env, .int .i64 a, .int .i64 b, .string s] 34)
    have hq := Blk.new w 34 #[.int .i64 3, .int .i64 env, .int .i64 a, .int .i64 b, .string s]
    have H := Lib.hid (h.new hB)
    have HB := Lib.hid hB
    have HQ := Lib.hid hq
    have hgl := h.head.lt
    clear hB hq
    go_enter Try.func9, Try.ntmps9
    go_upto_region 1 with fail
    generalize (w.alloc (.cells #[.int .i64 3, .int .i64 env, .int .i64 a, .int .i64 b, .string s] 34)) = w1 at *
    obtain ⟨a0, a1, a2, a3, a4⟩ := act_cells HQ.out
    obtain ⟨c0, c1, c2, c3, c4⟩ := H.out.heads
    have f2 := H.out.head.frozen 2
    have f3 := H.out.head.frozen 3
    have f4 := H.out.head.frozen 4
    have ok := H.out.ok
    clear h HQ
    rw [hon'] at c3
    have c3' : w1.cell? ⟨gm, 3, none⟩ = some (.bool true) := c3
    clear c3 hon hon'
    have FIN := Lib.hid (post_same H.out HB.out)
    go_wp2
    go_ret2
    exact ⟨rfl, FIN.out⟩

set_option maxRecDepth 100000 in
set_option maxHeartbeats 2000000 in
theorem rdo4 (h : RefAt w gm bt bo ct co Al cl d) (env a b : Int) (s : ByteArray) (wa : a ≤ 9223372036854775807) :
    Calls Try.prog 9 #[.pointer (some ⟨gm, 0, none⟩), .agg #[.int .i64 4, .int .i64 env, .int .i64 a, .int .i64 b, .string s]] w (RPost w gm bt bo Al (armR d a) [] 0) := by
  by_cases h1 : a < -1
  · have e2 : armR d a = { d with armed := -1 } := by unfold armR; rw [if_pos h1]
    rw [e2]
    clear e2
    have hB := (Below.refl w.heap.size w).alloc (Nat.le_refl _) (.cells #[.int .i64 4, .int .i64 env, .int .i64 a, .int .i64 b, .string s] 34)
    have hq := Blk.new w 34 #[.int .i64 4, .int .i64 env, .int .i64 a, .int .i64 b, .string s]
    have H := Lib.hid (h.new hB)
    have HB := Lib.hid hB
    have HQ := Lib.hid hq
    have hgl := h.head.lt
    clear hB hq
    go_enter Try.func9, Try.ntmps9
    go_upto_region 1 with fail
    generalize (w.alloc (.cells #[.int .i64 4, .int .i64 env, .int .i64 a, .int .i64 b, .string s] 34)) = w1 at *
    obtain ⟨a0, a1, a2, a3, a4⟩ := act_cells HQ.out
    obtain ⟨c0, c1, c2, c3, c4⟩ := H.out.heads
    have f2 := H.out.head.frozen 2
    have f3 := H.out.head.frozen 3
    have f4 := H.out.head.frozen 4
    have ok := H.out.ok
    clear h HQ
    have ST := Lib.hid (H.out.setLeft (-1) (by omega))
    have FIN := Lib.hid (post_of ST.out.1 HB.out ST.out.2 (fun i hi => .inl hi))
    clear ST
    go_wp2
    go_ret2
    exact ⟨rfl, FIN.out⟩
  · have e2 : armR d a = { d with armed := a } := by unfold armR; rw [if_neg h1]
    rw [e2]
    clear e2
    have hB := (Below.refl w.heap.size w).alloc (Nat.le_refl _) (.cells #[.int .i64 4, .int .i64 env, .int .i64 a, .int .i64 b, .string s] 34)
    have hq := Blk.new w 34 #[.int .i64 4, .int .i64 env, .int .i64 a, .int .i64 b, .string s]
    have H := Lib.hid (h.new hB)
    have HB := Lib.hid hB
    have HQ := Lib.hid hq
    have hgl := h.head.lt
    clear hB hq
    go_enter Try.func9, Try.ntmps9
    go_upto_region 1 with fail
    generalize (w.alloc (.cells #[.int .i64 4, .int .i64 env, .int .i64 a, .int .i64 b, .string s] 34)) = w1 at *
    obtain ⟨a0, a1, a2, a3, a4⟩ := act_cells HQ.out
    obtain ⟨c0, c1, c2, c3, c4⟩ := H.out.heads
    have f2 := H.out.head.frozen 2
    have f3 := H.out.head.frozen 3
    have f4 := H.out.head.frozen 4
    have ok := H.out.ok
    clear h HQ
    have ST := Lib.hid (H.out.setLeft (a) (by omega))
    have FIN := Lib.hid (post_of ST.out.1 HB.out ST.out.2 (fun i hi => .inl hi))
    clear ST
    go_wp2
    go_ret2
    exact ⟨rfl, FIN.out⟩

set_option maxRecDepth 100000 in
set_option maxHeartbeats 2000000 in
theorem rdo5 (h : RefAt w gm bt bo ct co Al cl d) (env a b : Int) (s : ByteArray)  :
    Calls Try.prog 9 #[.pointer (some ⟨gm, 0, none⟩), .agg #[.int .i64 5, .int .i64 env, .int .i64 a, .int .i64 b, .string s]] w (RPost w gm bt bo Al (cutR d) [] 0) := by
  have hB := (Below.refl w.heap.size w).alloc (Nat.le_refl _) (.cells #[.int .i64 5, .int .i64 env, .int .i64 a, .int .i64 b, .string s] 34)
  have hq := Blk.new w 34 #[.int .i64 5, .int .i64 env, .int .i64 a, .int .i64 b, .string s]
  have H := Lib.hid (h.new hB)
  have HB := Lib.hid hB
  have HQ := Lib.hid hq
  have hgl := h.head.lt
  clear hB hq
  go_enter Try.func9, Try.ntmps9
  go_upto_region 1 with fail
  generalize (w.alloc (.cells #[.int .i64 5, .int .i64 env, .int .i64 a, .int .i64 b, .string s] 34)) = w1 at *
  obtain ⟨a0, a1, a2, a3, a4⟩ := act_cells HQ.out
  obtain ⟨c0, c1, c2, c3, c4⟩ := H.out.heads
  have f2 := H.out.head.frozen 2
  have f3 := H.out.head.frozen 3
  have f4 := H.out.head.frozen 4
  have ok := H.out.ok
  clear h HQ
  have ST := Lib.hid H.out.cut
  have FIN := Lib.hid (post_of ST.out.1 HB.out ST.out.2 (fun i hi => .inl hi))
  clear ST
  go_wp2
  go_ret2
  exact ⟨rfl, FIN.out⟩

set_option maxRecDepth 100000 in
set_option maxHeartbeats 2000000 in
theorem rdo6 (h : RefAt w gm bt bo ct co Al cl d) (env a b : Int) (s : ByteArray)  :
    Calls Try.prog 9 #[.pointer (some ⟨gm, 0, none⟩), .agg #[.int .i64 6, .int .i64 env, .int .i64 a, .int .i64 b, .string s]] w (RPost w gm bt bo Al (reviveR d a).1 [] (reviveR d a).2) := by
  by_cases hon : d.on = true
  · have e : reviveR d a = (d, 21) := by unfold reviveR; rw [if_pos hon]
    rw [e]
    clear e
    have hB := (Below.refl w.heap.size w).alloc (Nat.le_refl _) (.cells #[.int .i64 6, .int .i64 env, .int .i64 a, .int .i64 b, .string s] 34)
    have hq := Blk.new w 34 #[.int .i64 6, .int .i64 env, .int .i64 a, .int .i64 b, .string s]
    have H := Lib.hid (h.new hB)
    have HB := Lib.hid hB
    have HQ := Lib.hid hq
    have hgl := h.head.lt
    clear hB hq
    go_enter Try.func9, Try.ntmps9
    go_upto_region 1 with fail
    generalize (w.alloc (.cells #[.int .i64 6, .int .i64 env, .int .i64 a, .int .i64 b, .string s] 34)) = w1 at *
    obtain ⟨a0, a1, a2, a3, a4⟩ := act_cells HQ.out
    obtain ⟨c0, c1, c2, c3, c4⟩ := H.out.heads
    have f2 := H.out.head.frozen 2
    have f3 := H.out.head.frozen 3
    have f4 := H.out.head.frozen 4
    have ok := H.out.ok
    clear h HQ
    rw [hon] at c3
    have c3' : w1.cell? ⟨gm, 3, none⟩ = some (.bool false) := c3
    clear c3 hon
    have FIN := Lib.hid (post_same H.out HB.out)
    go_wp2
    go_ret2
    exact ⟨rfl, FIN.out⟩
  · have e : reviveR d a = ({ settleR d a.toNat with on := true }, 0) := by unfold reviveR; rw [if_neg hon]
    rw [e]
    have hon' : d.on = false := by simpa using hon
    clear e
    have hB := (Below.refl w.heap.size w).alloc (Nat.le_refl _) (.cells #[.int .i64 6, .int .i64 env, .int .i64 a, .int .i64 b, .string s] 34)
    have hq := Blk.new w 34 #[.int .i64 6, .int .i64 env, .int .i64 a, .int .i64 b, .string s]
    have H := Lib.hid (h.new hB)
    have HB := Lib.hid hB
    have HQ := Lib.hid hq
    have hgl := h.head.lt
    clear hB hq
    go_enter Try.func9, Try.ntmps9
    go_upto_region 1 with fail
    generalize (w.alloc (.cells #[.int .i64 6, .int .i64 env, .int .i64 a, .int .i64 b, .string s] 34)) = w1 at *
    obtain ⟨a0, a1, a2, a3, a4⟩ := act_cells HQ.out
    obtain ⟨c0, c1, c2, c3, c4⟩ := H.out.heads
    have f2 := H.out.head.frozen 2
    have f3 := H.out.head.frozen 3
    have f4 := H.out.head.frozen 4
    have ok := H.out.ok
    clear h HQ
    rw [hon'] at c3
    have c3' : w1.cell? ⟨gm, 3, none⟩ = some (.bool true) := c3
    have SET := Lib.hid (rsettle_any H.out a)
    clear c3 hon hon'
    go_wp2_with fail
    refine SET.out.mono ?_; rintro e w2 ⟨rfl, h2, k2⟩
    have g3 := h2.head.frozen 3
    have d3 := h2.heads.2.2.2.1
    obtain ⟨h3, k3⟩ := h2.setOn true false rfl
    have FIN := Lib.hid (post_of h3 HB.out (k2.trans (k3.weak (fun i hi => by
      rcases hi with e | e | e | e
      · exact .inl e
      · exact .inr (.inl e)
      · exact .inr (.inr (.inl e))
      · exact absurd e (inB_none i)))) (fun i hi => absurd hi (inB_none i)))
    clear h2 k2 h3 k3
    go_wp2
    go_ret2
    exact ⟨rfl, FIN.out⟩

set_option maxRecDepth 100000 in
set_option maxHeartbeats 2000000 in
theorem rdo7 (h : RefAt w gm bt bo ct co Al cl d) (kind env a b : Int) (s : ByteArray) (q0 : kind ≠ 0) (q1 : kind ≠ 1) (q2 : kind ≠ 2) (q3 : kind ≠ 3) (q4 : kind ≠ 4) (q5 : kind ≠ 5) (q6 : kind ≠ 6) :
    Calls Try.prog 9 #[.pointer (some ⟨gm, 0, none⟩), .agg #[.int .i64 kind, .int .i64 env, .int .i64 a, .int .i64 b, .string s]] w (RPost w gm bt bo Al d [] 0) := by
  have x0 : (kind == 0) = false := by simpa using q0
  have x1 : (kind == 1) = false := by simpa using q1
  have x2 : (kind == 2) = false := by simpa using q2
  have x3 : (kind == 3) = false := by simpa using q3
  have x4 : (kind == 4) = false := by simpa using q4
  have x5 : (kind == 5) = false := by simpa using q5
  have x6 : (kind == 6) = false := by simpa using q6
  clear q0 q1 q2 q3 q4 q5 q6
  have hB := (Below.refl w.heap.size w).alloc (Nat.le_refl _) (.cells #[.int .i64 kind, .int .i64 env, .int .i64 a, .int .i64 b, .string s] 34)
  have hq := Blk.new w 34 #[.int .i64 kind, .int .i64 env, .int .i64 a, .int .i64 b, .string s]
  have H := Lib.hid (h.new hB)
  have HB := Lib.hid hB
  have HQ := Lib.hid hq
  have hgl := h.head.lt
  clear hB hq
  go_enter Try.func9, Try.ntmps9
  go_upto_region 1 with fail
  generalize (w.alloc (.cells #[.int .i64 kind, .int .i64 env, .int .i64 a, .int .i64 b, .string s] 34)) = w1 at *
  obtain ⟨a0, a1, a2, a3, a4⟩ := act_cells HQ.out
  obtain ⟨c0, c1, c2, c3, c4⟩ := H.out.heads
  have f2 := H.out.head.frozen 2
  have f3 := H.out.head.frozen 3
  have f4 := H.out.head.frozen 4
  have ok := H.out.ok
  clear h HQ
  have FIN := Lib.hid (post_same H.out HB.out)
  go_wp2
  go_ret2
  exact ⟨rfl, FIN.out⟩

end
end Go.Proofs.Ythnapmcjnfeimaa.RD
