/- The document's disk: Grant. Conditions: those that each states. -/
import Derived.Test.YtbkjjakkihbcdaaGreatMAK
namespace Go.Proofs.YtbkjjakkihbcdaaGreat.RE
open Go.ChangeShapes Go.WideShapes Go.ChangeAt Go.RowKit Go.Deep Di
set_option linter.unusedVariables false
section
variable {w w' w1 w2 : World} {gm bt bo ct co cl cl' co' ct' : Nat} {Al Al' : Option Addr} {d d' : Dk} {S R : Nat → Prop}
theorem lent_zero (os : List Nat) (f e : Nat) : lent os f 0 e = os := by simp [lent]
theorem lent_succ {os : List Nat} {f j e : Nat} (h : f + j + 1 ≤ os.length) : lent os f (j + 1) e = (lent os f j e).set (f + j) e := by
 apply List.ext_getElem
 ·rw [List.length_set, lent_len (by omega), lent_len (by omega)]
 ·intro i h1 h2
  have e1 := lent_get (os := os) (f := f) (n := j + 1) (e := e) (by omega) i
  have e2 := lent_get (os := os) (f := f) (n := j) (e := e) (by omega) i
  rw [List.getD_eq_getElem?_getD, List.getElem?_eq_getElem h1, Option.getD_some] at e1
  rw [e1, List.getElem_set]
  have h3 : i < (lent os f j e).length := by rw [List.length_set] at h2; exact h2
  rw [List.getD_eq_getElem?_getD, List.getElem?_eq_getElem h3, Option.getD_some] at e2
  by_cases hx : f + j = i
  ·rw [if_pos hx, if_pos (by omega)]
  ·rw [if_neg hx, e2]
   by_cases hy : f ≤ i ∧ i < f + j
   ·rw [if_pos (by omega), if_pos hy]
   ·rw [if_neg (by omega), if_neg hy]
theorem RefAt.lend (h : RefAt w1 gm bt bo ct co Al cl d) {f n e : Nat} (k : Chg w1 w2 (fun k => k = bo)) (ho : Heads w2 bo 3 (ownsD (lent d.owners f n e))) (ok : (granted d e f n).Ok) : RefAt w2 gm bt bo ct co Al cl (granted d e f n) :=
 ⟨h.head.chg k h.no, h.text.chg k h.tn, ho, h.line.chg k (fun b hb e => h.lo (by have e' : b = bo := e; rw [← e']; exact hb)), h.nt, h.no, h.tn, h.lm, h.lt_, h.lo, ok⟩
theorem heads_set {os : List Nat} {i e : Nat} (h : Heads w bo 3 (ownsD os)) : Heads (w.setCell ⟨bo, i, none⟩ (.int .i64 (e : Int))) bo 3 (ownsD (os.set i e)) := by
 have := h.set i (.int .i64 (e : Int))
 unfold ownsD at *
 rw [List.map_set]
 exact this
theorem heads_any {os : List Nat} {i : Nat} (h : Heads w bo 3 (ownsD os)) (hi : i < os.length) : ∃ v, w.cell? ⟨bo, i, none⟩ = some (.int .i64 v) := by
 have := h.cell (j := i) (by simpa [ownsD] using hi)
 exact ⟨(os[i] : Int), by rw [this]; simp [ownsD]⟩
set_option maxRecDepth 100000 in
set_option maxHeartbeats 2000000 in
theorem rdo0 (h : RefAt w gm bt bo ct co Al cl d) (env a b : Int) (s : ByteArray) (wa : -9223372036854775808 ≤ a ∧ a ≤ 9223372036854775807) :
  Calls Tryz.prog 42 #[.pointer (some ⟨gm, 0, none⟩), .agg #[.int .i64 0, .int .i64 env, .int .i64 a, .int .i64 b, .string s]] w (RPost w gm bt bo Al (grantR d env a b).1 [] (grantR d env a b).2) := by
 by_cases g0 : env < 1
 ·have n2 := h.ok.n2
  have t0 : decide (env < 1) = true := decide_eq_true (by omega)
  have e : grantR d env a b = (d, 1) := by unfold grantR; rw [if_pos (by unfold noGrant; omega)]
  rw [e]
  clear e
  have hB := (Below.refl w.heap.size w).alloc (Nat.le_refl _) (.cells #[.int .i64 0, .int .i64 env, .int .i64 a, .int .i64 b, .string s] 115)
  have hq := Blk.new w 115 #[.int .i64 0, .int .i64 env, .int .i64 a, .int .i64 b, .string s]
  have H := Lib.hid (h.new hB)
  have HB := Lib.hid hB
  have HQ := Lib.hid hq
  have hgl := h.head.lt
  clear hB hq
  go_enter Tryz.func42, Tryz.ntmps42
  go_upto_region 1 with fail
  generalize (w.alloc (.cells #[.int .i64 0, .int .i64 env, .int .i64 a, .int .i64 b, .string s] 115)) = w1 at *
  obtain ⟨a0, a1, a2, a3, a4⟩ := act_cells HQ.out
  obtain ⟨c0, c1, c2, c3, c4⟩ := H.out.heads
  have f2 := H.out.head.frozen 2
  have f3 := H.out.head.frozen 3
  have f4 := H.out.head.frozen 4
  have ok := H.out.ok
  clear h HQ
  have FIN := Lib.hid (fun n : Nat => post_same (H.out.drewN n) (show Below w.heap.size w (w1.drewN n) from (HB.out.trans (((Chg.refl w1 (fun _ => False)).drewN n).below (show w.heap.size ≤ w1.heap.size from HB.out.size) (fun _ s => s.elim)))))
  go_wp2_with fail
  go_quiet (fail)
  go_wp2
  go_ret2
  exact ⟨rfl, FIN.out _⟩
 ·by_cases g1 : env > 2
  ·have n2 := h.ok.n2
   have t0 : decide (env < 1) = false := decide_eq_false (by omega)
   have t1 : decide (env > 2) = true := decide_eq_true (by omega)
   have e : grantR d env a b = (d, 1) := by unfold grantR; rw [if_pos (by unfold noGrant; omega)]
   rw [e]
   clear e
   have hB := (Below.refl w.heap.size w).alloc (Nat.le_refl _) (.cells #[.int .i64 0, .int .i64 env, .int .i64 a, .int .i64 b, .string s] 115)
   have hq := Blk.new w 115 #[.int .i64 0, .int .i64 env, .int .i64 a, .int .i64 b, .string s]
   have H := Lib.hid (h.new hB)
   have HB := Lib.hid hB
   have HQ := Lib.hid hq
   have hgl := h.head.lt
   clear hB hq
   go_enter Tryz.func42, Tryz.ntmps42
   go_upto_region 1 with fail
   generalize (w.alloc (.cells #[.int .i64 0, .int .i64 env, .int .i64 a, .int .i64 b, .string s] 115)) = w1 at *
   obtain ⟨a0, a1, a2, a3, a4⟩ := act_cells HQ.out
   obtain ⟨c0, c1, c2, c3, c4⟩ := H.out.heads
   have f2 := H.out.head.frozen 2
   have f3 := H.out.head.frozen 3
   have f4 := H.out.head.frozen 4
   have ok := H.out.ok
   clear h HQ
   have FIN := Lib.hid (fun n : Nat => post_same (H.out.drewN n) (show Below w.heap.size w (w1.drewN n) from (HB.out.trans (((Chg.refl w1 (fun _ => False)).drewN n).below (show w.heap.size ≤ w1.heap.size from HB.out.size) (fun _ s => s.elim)))))
   go_wp2_with fail
   go_quiet (fail)
   go_wp2
   go_ret2
   exact ⟨rfl, FIN.out _⟩
  ·by_cases g2 : a < 0
   ·have n2 := h.ok.n2
    have t0 : decide (env < 1) = false := decide_eq_false (by omega)
    have t1 : decide (env > 2) = false := decide_eq_false (by omega)
    have t2 : decide (a < 0) = true := decide_eq_true (by omega)
    have e : grantR d env a b = (d, 1) := by unfold grantR; rw [if_pos (by unfold noGrant; omega)]
    rw [e]
    clear e
    have hB := (Below.refl w.heap.size w).alloc (Nat.le_refl _) (.cells #[.int .i64 0, .int .i64 env, .int .i64 a, .int .i64 b, .string s] 115)
    have hq := Blk.new w 115 #[.int .i64 0, .int .i64 env, .int .i64 a, .int .i64 b, .string s]
    have H := Lib.hid (h.new hB)
    have HB := Lib.hid hB
    have HQ := Lib.hid hq
    have hgl := h.head.lt
    clear hB hq
    go_enter Tryz.func42, Tryz.ntmps42
    go_upto_region 1 with fail
    generalize (w.alloc (.cells #[.int .i64 0, .int .i64 env, .int .i64 a, .int .i64 b, .string s] 115)) = w1 at *
    obtain ⟨a0, a1, a2, a3, a4⟩ := act_cells HQ.out
    obtain ⟨c0, c1, c2, c3, c4⟩ := H.out.heads
    have f2 := H.out.head.frozen 2
    have f3 := H.out.head.frozen 3
    have f4 := H.out.head.frozen 4
    have ok := H.out.ok
    clear h HQ
    have FIN := Lib.hid (fun n : Nat => post_same (H.out.drewN n) (show Below w.heap.size w (w1.drewN n) from (HB.out.trans (((Chg.refl w1 (fun _ => False)).drewN n).below (show w.heap.size ≤ w1.heap.size from HB.out.size) (fun _ s => s.elim)))))
    go_wp2_with fail
    go_quiet (fail)
    go_wp2
    go_ret2
    exact ⟨rfl, FIN.out _⟩
   ·by_cases g3 : b < 1
    ·have n2 := h.ok.n2
     have t0 : decide (env < 1) = false := decide_eq_false (by omega)
     have t1 : decide (env > 2) = false := decide_eq_false (by omega)
     have t2 : decide (a < 0) = false := decide_eq_false (by omega)
     have t3 : decide (b < 1) = true := decide_eq_true (by omega)
     have e : grantR d env a b = (d, 1) := by unfold grantR; rw [if_pos (by unfold noGrant; omega)]
     rw [e]
     clear e
     have hB := (Below.refl w.heap.size w).alloc (Nat.le_refl _) (.cells #[.int .i64 0, .int .i64 env, .int .i64 a, .int .i64 b, .string s] 115)
     have hq := Blk.new w 115 #[.int .i64 0, .int .i64 env, .int .i64 a, .int .i64 b, .string s]
     have H := Lib.hid (h.new hB)
     have HB := Lib.hid hB
     have HQ := Lib.hid hq
     have hgl := h.head.lt
     clear hB hq
     go_enter Tryz.func42, Tryz.ntmps42
     go_upto_region 1 with fail
     generalize (w.alloc (.cells #[.int .i64 0, .int .i64 env, .int .i64 a, .int .i64 b, .string s] 115)) = w1 at *
     obtain ⟨a0, a1, a2, a3, a4⟩ := act_cells HQ.out
     obtain ⟨c0, c1, c2, c3, c4⟩ := H.out.heads
     have f2 := H.out.head.frozen 2
     have f3 := H.out.head.frozen 3
     have f4 := H.out.head.frozen 4
     have ok := H.out.ok
     clear h HQ
     have FIN := Lib.hid (fun n : Nat => post_same (H.out.drewN n) (show Below w.heap.size w (w1.drewN n) from (HB.out.trans (((Chg.refl w1 (fun _ => False)).drewN n).below (show w.heap.size ≤ w1.heap.size from HB.out.size) (fun _ s => s.elim)))))
     go_wp2_with fail
     go_quiet (fail)
     go_wp2
     go_ret2
     exact ⟨rfl, FIN.out _⟩
    ·by_cases g4 : a > (d.blocks.length : Int)
     ·have n2 := h.ok.n2
      have t0 : decide (env < 1) = false := decide_eq_false (by omega)
      have t1 : decide (env > 2) = false := decide_eq_false (by omega)
      have t2 : decide (a < 0) = false := decide_eq_false (by omega)
      have t3 : decide (b < 1) = false := decide_eq_false (by omega)
      have t4 : decide (a > (d.blocks.length : Int)) = true := decide_eq_true (by omega)
      have e : grantR d env a b = (d, 1) := by unfold grantR; rw [if_pos (by unfold noGrant; omega)]
      rw [e]
      clear e
      have hB := (Below.refl w.heap.size w).alloc (Nat.le_refl _) (.cells #[.int .i64 0, .int .i64 env, .int .i64 a, .int .i64 b, .string s] 115)
      have hq := Blk.new w 115 #[.int .i64 0, .int .i64 env, .int .i64 a, .int .i64 b, .string s]
      have H := Lib.hid (h.new hB)
      have HB := Lib.hid hB
      have HQ := Lib.hid hq
      have hgl := h.head.lt
      clear hB hq
      go_enter Tryz.func42, Tryz.ntmps42
      go_upto_region 1 with fail
      generalize (w.alloc (.cells #[.int .i64 0, .int .i64 env, .int .i64 a, .int .i64 b, .string s] 115)) = w1 at *
      obtain ⟨a0, a1, a2, a3, a4⟩ := act_cells HQ.out
      obtain ⟨c0, c1, c2, c3, c4⟩ := H.out.heads
      have f2 := H.out.head.frozen 2
      have f3 := H.out.head.frozen 3
      have f4 := H.out.head.frozen 4
      have ok := H.out.ok
      clear h HQ
      have FIN := Lib.hid (fun n : Nat => post_same (H.out.drewN n) (show Below w.heap.size w (w1.drewN n) from (HB.out.trans (((Chg.refl w1 (fun _ => False)).drewN n).below (show w.heap.size ≤ w1.heap.size from HB.out.size) (fun _ s => s.elim)))))
      go_wp2_with fail
      go_quiet (fail)
      go_wp2
      go_ret2
      exact ⟨rfl, FIN.out _⟩
     ·by_cases g5 : b > (d.blocks.length : Int) - a
      ·have n2 := h.ok.n2
       have xs := IntWalk.i64_in ((d.blocks.length : Int) - a) (by omega)
       have t0 : decide (env < 1) = false := decide_eq_false (by omega)
       have t1 : decide (env > 2) = false := decide_eq_false (by omega)
       have t2 : decide (a < 0) = false := decide_eq_false (by omega)
       have t3 : decide (b < 1) = false := decide_eq_false (by omega)
       have t4 : decide (a > (d.blocks.length : Int)) = false := decide_eq_false (by omega)
       have t5 : decide (b > (d.blocks.length : Int) - a) = true := decide_eq_true (by omega)
       have e : grantR d env a b = (d, 1) := by unfold grantR; rw [if_pos (by unfold noGrant; omega)]
       rw [e]
       clear e
       have hB := (Below.refl w.heap.size w).alloc (Nat.le_refl _) (.cells #[.int .i64 0, .int .i64 env, .int .i64 a, .int .i64 b, .string s] 115)
       have hq := Blk.new w 115 #[.int .i64 0, .int .i64 env, .int .i64 a, .int .i64 b, .string s]
       have H := Lib.hid (h.new hB)
       have HB := Lib.hid hB
       have HQ := Lib.hid hq
       have hgl := h.head.lt
       clear hB hq
       go_enter Tryz.func42, Tryz.ntmps42
       go_upto_region 1 with fail
       generalize (w.alloc (.cells #[.int .i64 0, .int .i64 env, .int .i64 a, .int .i64 b, .string s] 115)) = w1 at *
       obtain ⟨a0, a1, a2, a3, a4⟩ := act_cells HQ.out
       obtain ⟨c0, c1, c2, c3, c4⟩ := H.out.heads
       have f2 := H.out.head.frozen 2
       have f3 := H.out.head.frozen 3
       have f4 := H.out.head.frozen 4
       have ok := H.out.ok
       clear h HQ
       have FIN := Lib.hid (fun n : Nat => post_same (H.out.drewN n) (show Below w.heap.size w (w1.drewN n) from (HB.out.trans (((Chg.refl w1 (fun _ => False)).drewN n).below (show w.heap.size ≤ w1.heap.size from HB.out.size) (fun _ s => s.elim)))))
       go_wp2_with fail
       go_quiet (fail)
       go_wp2
       go_ret2
       exact ⟨rfl, FIN.out _⟩
      ·have n2 := h.ok.n2
       have xs := IntWalk.i64_in ((d.blocks.length : Int) - a) (by omega)
       have t0 : decide (env < 1) = false := decide_eq_false (by omega)
       have t1 : decide (env > 2) = false := decide_eq_false (by omega)
       have t2 : decide (a < 0) = false := decide_eq_false (by omega)
       have t3 : decide (b < 1) = false := decide_eq_false (by omega)
       have t4 : decide (a > (d.blocks.length : Int)) = false := decide_eq_false (by omega)
       have t5 : decide (b > (d.blocks.length : Int) - a) = false := decide_eq_false (by omega)
       obtain ⟨f, hf⟩ : ∃ f : Nat, a = (f : Int) := ⟨a.toNat, by omega⟩
       obtain ⟨n, hn⟩ : ∃ n : Nat, b = (n : Int) := ⟨b.toNat, by omega⟩
       obtain ⟨en, he⟩ : ∃ en : Nat, env = (en : Int) := ⟨env.toNat, by omega⟩
       have x1 := IntWalk.i64_in (a + b) (by omega)
       have hfn : f + n ≤ d.blocks.length := by omega
       have hng : ¬ noGrant d env a b := by unfold noGrant; omega
       have eg : grantR d env a b = if busy d f n = true then (d, 20) else (granted d en f n, 0) := by unfold grantR; rw [if_neg hng, hf, hn, he]; simp only [Int.toNat_natCast]
       have hen : 1 ≤ en ∧ en ≤ 2 := by omega
       have hn1 : 1 ≤ n := by omega
       have ol : d.owners.length = d.blocks.length := h.ok.ow
       have hbo : bo ≠ w.heap.size := by have := h.lt (k := bo) (.inr (.inr (.inl rfl))); omega
       have hbl := h.own.lt
       have HF := Lib.hid hf
       have HNN := Lib.hid hn
       have HE := Lib.hid he
       clear hng g0 g1 g2 g3 g4 g5 hf hn he
       by_cases hby : busy d f n = true
       ·rw [if_pos hby] at eg
        rw [eg]
        clear eg
        have hB := (Below.refl w.heap.size w).alloc (Nat.le_refl _) (.cells #[.int .i64 0, .int .i64 env, .int .i64 a, .int .i64 b, .string s] 115)
        have hq := Blk.new w 115 #[.int .i64 0, .int .i64 env, .int .i64 a, .int .i64 b, .string s]
        have H := Lib.hid (h.new hB)
        have HB := Lib.hid hB
        have HQ := Lib.hid hq
        have hgl := h.head.lt
        clear hB hq
        go_enter Tryz.func42, Tryz.ntmps42
        go_upto_region 1 with fail
        generalize (w.alloc (.cells #[.int .i64 0, .int .i64 env, .int .i64 a, .int .i64 b, .string s] 115)) = w1 at *
        obtain ⟨a0, a1, a2, a3, a4⟩ := act_cells HQ.out
        obtain ⟨c0, c1, c2, c3, c4⟩ := H.out.heads
        have f2 := H.out.head.frozen 2
        have f3 := H.out.head.frozen 3
        have f4 := H.out.head.frozen 4
        have ok := H.out.ok
        clear h
        have FIN := Lib.hid (fun n : Nat => post_same (H.out.drewN n) (show Below w.heap.size w (w1.drewN n) from (HB.out.trans (((Chg.refl w1 (fun _ => False)).drewN n).below (show w.heap.size ≤ w1.heap.size from HB.out.size) (fun _ s => s.elim)))))
        have hle : w.heap.size ≤ w1.heap.size := HB.out.size
        go_wp2_with fail
        go_quiet (fail)
        go_wp2
        go_loopw [6] (fun i wr => ∃ (j m : Nat), j ≤ n ∧ i = .int .i64 (a + (j : Int)) ∧ Hid (∀ k, f ≤ k → k < f + j → d.own k = 0) ∧ wr = w1.drewN m) (fun i _ => f + n - (intOf i).toNat)
        case atStart => exact ⟨0, _, Nat.zero_le _, by simp, Lib.hid (fun k h1 h2 => absurd h2 (by omega)), rfl⟩
        case round =>
         have hf := HF.out
         have hn := HNN.out
         obtain ⟨j, m, hj, rfl, HZ, rfl⟩ := hrel
         by_cases hlt : j < n
         ·have j1 : a + (j : Int) < a + b := by omega
          have j0 : (0 : Int) ≤ a + (j : Int) := by omega
          have j2 : a + (j : Int) < (d.blocks.length : Int) := by omega
          have xj := IntWalk.i64_in (a + (j : Int) + 1) (by omega)
          have tn : (a + (j : Int)).toNat = f + j := by omega
          have oc := H.out.ownC (k := f + j) (by omega)
          by_cases ho : d.own (f + j) = 0
          ·rw [ho] at oc
           have oc' : w1.cell? ⟨bo, f + j, none⟩ = some (.int .i64 0) := oc
           have HZ2 := Lib.hid (show ∀ k, f ≤ k → k < f + (j + 1) → d.own k = 0 from fun k h1 h2 => by
            by_cases e : k = f + j
            ·rw [e]; exact ho
            ·exact HZ.out k h1 (by omega))
           clear ho hf hn oc
           go_wp2
           go_roundw
           case rel => exact ⟨j + 1, m, by omega, by simp; omega, HZ2, rfl⟩
           case measure => have hf := HF.out; simp [intOf]; omega
          ·obtain ⟨ov, eo⟩ : ∃ ov : Int, ov = ((d.own (f + j) : Nat) : Int) := ⟨_, rfl⟩
           have ho' : (ov == 0) = false := by simp; omega
           rw [← eo] at oc
           clear ho hf hn eo
           go_wp2
           go_ret2
           exact ⟨rfl, FIN.out m⟩
         ·exfalso
          have BN := busy_of (d := d) (f := f) (n := n) (fun b h1 h2 => HZ.out b h1 (by omega))
          rw [BN] at hby
          cases hby
       ·have hbn : busy d f n = false := by simpa using hby
        rw [if_neg hby] at eg
        rw [eg]
        clear eg hby
        have hB := (Below.refl w.heap.size w).alloc (Nat.le_refl _) (.cells #[.int .i64 0, .int .i64 env, .int .i64 a, .int .i64 b, .string s] 115)
        have hq := Blk.new w 115 #[.int .i64 0, .int .i64 env, .int .i64 a, .int .i64 b, .string s]
        have H := Lib.hid (h.new hB)
        have HB := Lib.hid hB
        have HQ := Lib.hid hq
        have hgl := h.head.lt
        clear hB hq
        go_enter Tryz.func42, Tryz.ntmps42
        go_upto_region 1 with fail
        generalize (w.alloc (.cells #[.int .i64 0, .int .i64 env, .int .i64 a, .int .i64 b, .string s] 115)) = w1 at *
        obtain ⟨a0, a1, a2, a3, a4⟩ := act_cells HQ.out
        obtain ⟨c0, c1, c2, c3, c4⟩ := H.out.heads
        have f2 := H.out.head.frozen 2
        have f3 := H.out.head.frozen 3
        have f4 := H.out.head.frozen 4
        have ok := H.out.ok
        clear h
        have FIN := Lib.hid (fun n : Nat => post_same (H.out.drewN n) (show Below w.heap.size w (w1.drewN n) from (HB.out.trans (((Chg.refl w1 (fun _ => False)).drewN n).below (show w.heap.size ≤ w1.heap.size from HB.out.size) (fun _ s => s.elim)))))
        have hle : w.heap.size ≤ w1.heap.size := HB.out.size
        go_wp2_with fail
        go_quiet (fail)
        go_wp2
        go_loopw [6] (fun i wr => ∃ (j m : Nat), j ≤ n ∧ i = .int .i64 (a + (j : Int)) ∧ Hid (∀ k, f ≤ k → k < f + j → d.own k = 0) ∧ wr = w1.drewN m) (fun i _ => f + n - (intOf i).toNat)
        case atStart => exact ⟨0, _, Nat.zero_le _, by simp, Lib.hid (fun k h1 h2 => absurd h2 (by omega)), rfl⟩
        case round =>
         have hf := HF.out
         have hn := HNN.out
         obtain ⟨j, m, hj, rfl, HZ, rfl⟩ := hrel
         by_cases hlt : j < n
         ·have j1 : a + (j : Int) < a + b := by omega
          have j0 : (0 : Int) ≤ a + (j : Int) := by omega
          have j2 : a + (j : Int) < (d.blocks.length : Int) := by omega
          have xj := IntWalk.i64_in (a + (j : Int) + 1) (by omega)
          have tn : (a + (j : Int)).toNat = f + j := by omega
          have oc := H.out.ownC (k := f + j) (by omega)
          have ho := busy_no hbn (b := f + j) (by omega) (by omega)
          rw [ho] at oc
          have oc' : w1.cell? ⟨bo, f + j, none⟩ = some (.int .i64 0) := oc
          have HZ2 := Lib.hid (show ∀ k, f ≤ k → k < f + (j + 1) → d.own k = 0 from fun k h1 h2 => by
           by_cases e : k = f + j
           ·rw [e]; exact ho
           ·exact HZ.out k h1 (by omega))
          clear ho hf hn oc
          go_wp2
          go_roundw
          case rel => exact ⟨j + 1, m, by omega, by simp; omega, HZ2, rfl⟩
          case measure => have hf := HF.out; simp [intOf]; omega
         ·have j1 : ¬ a + (j : Int) < a + b := by omega
          have hjn : j = n := by omega
          have BN := hbn
          have GOK := Lib.hid (H.out.ok.granted hen hn1 hfn BN)
          have O0 := Lib.hid (show Heads (w1.drewN m) bo 3 (ownsD (lent d.owners f 0 en)) from by rw [lent_zero]; exact H.out.own)
          have C0 := Lib.hid ((Chg.refl w1 (fun k => k = bo)).drewN m)
          clear FIN BN hf hn hjn
          go_wp2
          go_loopw [7] (fun i wr => ∃ (j : Nat), j ≤ n ∧ i = .int .i64 (a + (j : Int)) ∧ Heads wr bo 3 (ownsD (lent d.owners f j en)) ∧ Chg w1 wr (fun k => k = bo)) (fun i _ => f + n - (intOf i).toNat)
          case atStart => exact ⟨0, Nat.zero_le _, by simp, O0.out, C0.out⟩
          case round =>
           have hf := HF.out
           have hn := HNN.out
           have he := HE.out
           obtain ⟨j, hj, rfl, hO, hC⟩ := hrel
           have hq := HQ.out.chg hC (fun e => hbo (by have e' : w.heap.size = bo := e; exact e'.symm))
           obtain ⟨a0, a1, a2, a3, a4⟩ := act_cells hq
           have hd := H.out.head.chg hC H.out.no
           have c1 : wr.cell? ⟨gm, 1, none⟩ = some (.slice (some ⟨bo, 0, none⟩) d.blocks.length co) := hd.cell 1
           by_cases hlt : j < n
           ·have j1 : a + (j : Int) < a + b := by omega
            have j0 : (0 : Int) ≤ a + (j : Int) := by omega
            have j2 : a + (j : Int) < (d.blocks.length : Int) := by omega
            have xj := IntWalk.i64_in (a + (j : Int) + 1) (by omega)
            have tn : (a + (j : Int)).toNat = f + j := by omega
            have hlen : (lent d.owners f j en).length = d.owners.length := lent_len (by omega)
            obtain ⟨ov, oc⟩ := heads_any hO (i := f + j) (by omega)
            have fo := hO.frozen (f + j)
            have hst : Heads (wr.drew.setCell ⟨bo, f + j, none⟩ (.int .i64 env)) bo 3 (ownsD (lent d.owners f (j + 1) en)) := by
             rw [lent_succ (by omega), he]
             exact heads_set (w := wr.drew) (hO.drewN 1)
            have hch : Chg w1 (wr.drew.setCell ⟨bo, f + j, none⟩ (.int .i64 env)) (fun k => k = bo) := (hC.drewN 1).trans (Chg.set _ _ _ rfl)
            have HST := Lib.hid (And.intro hst hch)
            clear hO hC hq hd hst hch hlen hf hn he
            go_wp2_with fail
            refine wp_region_still_tail 8 (by kernel_rfl) (by kernel_rfl) ?_
            change wpStill _ _ wr.drew (fun a' => wpList _ _ _ _ a' wr.drew) _ _
            simp only [List.take_succ_cons, List.take_zero, List.drop_succ_cons, List.drop_zero]
            repeat still_step
            refine wpStill_nil ?_
            go_wp2
            go_roundw
            case rel => exact ⟨j + 1, by omega, by simp; omega, HST.out⟩
            case measure => have hf := HF.out; simp [intOf]; omega
           ·have j1 : ¬ a + (j : Int) < a + b := by omega
            obtain rfl : j = n := by omega
            have L := H.out.lend hC hO GOK.out
            have FIN := Lib.hid (post_of L HB.out (hC.weak (fun i hi => .inr (.inr (.inl hi)))) (fun i hi => .inl hi))
            clear hO hC hq hd L hf hn he
            go_wp2
            go_ret2
            exact ⟨rfl, FIN.out⟩

end
end Go.Proofs.YtbkjjakkihbcdaaGreat.RE

/- The document's disk: a Write that goes wrong. Conditions: those that each states. -/
namespace Go.Proofs.YtbkjjakkihbcdaaGreat.RE
open Go.ChangeShapes Go.WideShapes Go.ChangeAt Go.RowKit Go.Deep Di
set_option linter.unusedVariables false
section
variable {w w' w1 w2 : World} {gm bt bo ct co cl cl' co' ct' : Nat} {Al Al' : Option Addr} {d d' : Dk} {S R : Nat → Prop}
set_option maxRecDepth 100000 in
set_option maxHeartbeats 2000000 in
theorem rdo2_ask (h : RefAt w gm bt bo ct co Al cl d) (env a b : Int) (s : ByteArray) (he : askE d env a ≠ 0) :
  Calls Tryz.prog 42 #[.pointer (some ⟨gm, 0, none⟩), .agg #[.int .i64 2, .int .i64 env, .int .i64 a, .int .i64 b, .string s]] w (RPost w gm bt bo Al d [] (askE d env a)) := by
 have hv : (askE d env a == 0) = false := by simpa using he
 obtain ⟨v, ev⟩ : ∃ v, v = askE d env a := ⟨_, rfl⟩
 rw [← ev] at hv ⊢
 have hB := (Below.refl w.heap.size w).alloc (Nat.le_refl _) (.cells #[.int .i64 2, .int .i64 env, .int .i64 a, .int .i64 b, .string s] 115)
 have hq := Blk.new w 115 #[.int .i64 2, .int .i64 env, .int .i64 a, .int .i64 b, .string s]
 have H := Lib.hid (h.new hB)
 have HB := Lib.hid hB
 have HQ := Lib.hid hq
 have hgl := h.head.lt
 clear hB hq
 go_enter Tryz.func42, Tryz.ntmps42
 go_upto_region 1 with fail
 generalize (w.alloc (.cells #[.int .i64 2, .int .i64 env, .int .i64 a, .int .i64 b, .string s] 115)) = w1 at *
 obtain ⟨a0, a1, a2, a3, a4⟩ := act_cells HQ.out
 obtain ⟨c0, c1, c2, c3, c4⟩ := H.out.heads
 have f2 := H.out.head.frozen 2
 have f3 := H.out.head.frozen 3
 have f4 := H.out.head.frozen 4
 have ok := H.out.ok
 clear h HQ
 have MAY := Lib.hid (rmay_any H.out env a)
 rw [← ev] at MAY
 have FIN := Lib.hid (post_same H.out HB.out)
 clear he ev
 go_wp2_with fail
 refine MAY.out.mono ?_; rintro e w2 ⟨rfl, rfl⟩
 go_wp2
 go_ret2
 exact ⟨rfl, FIN.out⟩

set_option maxRecDepth 100000 in
set_option maxHeartbeats 2000000 in
theorem rdo2_len (h : RefAt w gm bt bo ct co Al cl d) (env a b : Int) (s : ByteArray) (he : askE d env a = 0) (hs : s.size ≠ 256) (hs2 : s.size ≤ 1000) :
  Calls Tryz.prog 42 #[.pointer (some ⟨gm, 0, none⟩), .agg #[.int .i64 2, .int .i64 env, .int .i64 a, .int .i64 b, .string s]] w (RPost w gm bt bo Al d [] 1) := by
 have hB := (Below.refl w.heap.size w).alloc (Nat.le_refl _) (.cells #[.int .i64 2, .int .i64 env, .int .i64 a, .int .i64 b, .string s] 115)
 have hq := Blk.new w 115 #[.int .i64 2, .int .i64 env, .int .i64 a, .int .i64 b, .string s]
 have H := Lib.hid (h.new hB)
 have HB := Lib.hid hB
 have HQ := Lib.hid hq
 have hgl := h.head.lt
 clear hB hq
 go_enter Tryz.func42, Tryz.ntmps42
 go_upto_region 1 with fail
 generalize (w.alloc (.cells #[.int .i64 2, .int .i64 env, .int .i64 a, .int .i64 b, .string s] 115)) = w1 at *
 obtain ⟨a0, a1, a2, a3, a4⟩ := act_cells HQ.out
 obtain ⟨c0, c1, c2, c3, c4⟩ := H.out.heads
 have f2 := H.out.head.frozen 2
 have f3 := H.out.head.frozen 3
 have f4 := H.out.head.frozen 4
 have ok := H.out.ok
 clear h HQ
 have MAY := Lib.hid (rmay_any H.out env a)
 rw [he] at MAY
 have FIN := Lib.hid (post_same H.out HB.out)
 have q1 : ¬ s.size = 256 := hs
 have q2 : ((s.size : Int) == 256) = false := by simp; omega
 clear he hs
 go_wp2_with fail
 refine MAY.out.mono ?_; rintro e w2 ⟨rfl, rfl⟩
 go_wp2
 go_ret2
 exact ⟨rfl, FIN.out⟩

set_option maxRecDepth 100000 in
set_option maxHeartbeats 2000000 in
theorem rdo2_cut (h : RefAt w gm bt bo ct co Al cl d) (env a b : Int) (s : ByteArray) (he : askE d env a = 0) (hs : s.size = 256) (h0 : d.armed = 0) :
  Calls Tryz.prog 42 #[.pointer (some ⟨gm, 0, none⟩), .agg #[.int .i64 2, .int .i64 env, .int .i64 a, .int .i64 b, .string s]] w (RPost w gm bt bo Al (cutR d) [] 30) := by
 have hB := (Below.refl w.heap.size w).alloc (Nat.le_refl _) (.cells #[.int .i64 2, .int .i64 env, .int .i64 a, .int .i64 b, .string s] 115)
 have hq := Blk.new w 115 #[.int .i64 2, .int .i64 env, .int .i64 a, .int .i64 b, .string s]
 have H := Lib.hid (h.new hB)
 have HB := Lib.hid hB
 have HQ := Lib.hid hq
 have hgl := h.head.lt
 clear hB hq
 go_enter Tryz.func42, Tryz.ntmps42
 go_upto_region 1 with fail
 generalize (w.alloc (.cells #[.int .i64 2, .int .i64 env, .int .i64 a, .int .i64 b, .string s] 115)) = w1 at *
 obtain ⟨a0, a1, a2, a3, a4⟩ := act_cells HQ.out
 obtain ⟨c0, c1, c2, c3, c4⟩ := H.out.heads
 have f2 := H.out.head.frozen 2
 have f3 := H.out.head.frozen 3
 have f4 := H.out.head.frozen 4
 have ok := H.out.ok
 clear h HQ
 have MAY := Lib.hid (rmay_any H.out env a)
 rw [he] at MAY
 rw [h0] at c4
 have ST := Lib.hid H.out.cut
 have FIN := Lib.hid (post_of ST.out.1 HB.out ST.out.2 (fun i hi => .inl hi))
 clear he ST h0
 go_wp2_with fail
 refine MAY.out.mono ?_; rintro e w2 ⟨rfl, rfl⟩
 go_wp2
 go_ret2
 exact ⟨rfl, FIN.out⟩

end
end Go.Proofs.YtbkjjakkihbcdaaGreat.RE
