/- Are calls more than are looked at? The laws' Do: one call to the disk. Conditions: those that each states. -/
import Derived.Test.YthnapmcjnfeimaaDkAct
import Derived.Test.YthnapmcjnfeimaaDkNil
import Derived.Test.YthnapmcjnfeimaaDkAlive
namespace Go.Proofs.Ythnapmcjnfeimaa
open Go.ChangeShapes Go.WideShapes Go.ChangeAt Go.RowKit Go.Deep Di
set_option linter.unusedVariables false

/-- More calls than are looked at, or a greater text. -/
def isFar (n : Nat) (fn : Nat → Cmd) : Prop := 100 < n ∨ ∃ i, i < n ∧ 1000 < (fn i).s.size
theorem act_text {w : World} {b o : Nat} {a : Cmd} (h : w.rangeAt b o a.list) : w.cell? ⟨b, o + 4, none⟩ = some (.string a.s) := h 4 _ rfl

set_option maxRecDepth 100000 in
theorem far_any (w : World) (A : Option Addr) (n c : Nat) (fn : Nat → Cmd) (h : Acts w A n fn) (v : Bool) (hv : v = true ↔ isFar n fn) :
    Calls Try.prog 5 #[.slice A n c] w fun e w' => e = .returned (.bool v) ∧ w' = w := by
  have HV := Lib.hid hv
  clear hv
  by_cases hn : n ≤ 100
  · have g1 : ¬ (n : Int) > 100 := by omega
    have HA := Lib.hid h
    clear h
    go_enter Try.func5, Try.ntmps5
    go_wp2
    go_loopw [3] (fun i wr => ∃ (j : Nat), j ≤ n ∧ i = .int .i64 (j : Int) ∧ Hid (∀ x, x < j → (fn x).s.size ≤ 1000) ∧ wr = w) (fun i _ => n - (intOf i).toNat)
    case atStart => exact ⟨0, Nat.zero_le _, rfl, Lib.hid (fun _ h => absurd h (by omega)), rfl⟩
    case round =>
      obtain ⟨j, hj, rfl, HM, rfl⟩ := hrel
      by_cases hlt : j < n
      · have hlt' : (j : Int) < (n : Int) := by omega
        have j0 : (0 : Int) ≤ (j : Int) := by omega
        obtain ⟨b, o, rfl, _, hr, ok⟩ := HA.out j hlt
        have c5 := act_text hr
        have x1 := IntWalk.i64_in ((j : Int) + 1) (by omega)
        by_cases hs : (fn j).s.size ≤ 1000
        · have g2 : ¬ ((fn j).s.size : Int) > 1000 := by omega
          have HM2 : Hid (∀ x, x < j + 1 → (fn x).s.size ≤ 1000) := Lib.hid (fun x hx => by
            by_cases e : x = j
            · subst e; exact hs
            · exact HM.out x (by omega))
          generalize (fn j).s = t at *
          clear hr ok hs
          go_wp2
          go_roundw
          case rel => exact ⟨j + 1, by omega, by simp, HM2, by first | rfl | trivial⟩
          case measure => simp [intOf]; omega
        · have g2 : ((fn j).s.size : Int) > 1000 := by omega
          have F := Lib.hid (show isFar n fn from .inr ⟨j, hlt, by omega⟩)
          generalize (fn j).s = t at *
          clear hr ok hs
          go_wp2
          go_ret
          exact ⟨by rw [HV.out.2 F.out]; rfl, rfl⟩
      · have hge : ¬ (j : Int) < (n : Int) := by omega
        have F : Hid (¬ isFar n fn) := Lib.hid (by
          rintro (h | ⟨i, hi, h⟩)
          · omega
          · have := HM.out i (by omega); omega)
        go_wp2
        go_ret
        have ev : v = false := by
          cases v
          · rfl
          · exact absurd (HV.out.1 rfl) F.out
        exact ⟨by rw [ev]; rfl, rfl⟩
  · have g1 : (n : Int) > 100 := by omega
    have F := Lib.hid (show isFar n fn from .inl (by omega))
    clear h hn
    go_enter Try.func5, Try.ntmps5
    go_wp2
    go_ret
    exact ⟨by rw [HV.out.2 F.out]; rfl, rfl⟩

/-- What a call answers, and what the disk is behind it. -/
def doD (d : Dk) (c : Cmd) : Dk × List UInt8 × Int :=
  if c.kind = 0 then ((grantR d c.env c.a c.b).1, [], (grantR d c.env c.a c.b).2)
  else if c.kind = 1 then (d, (readR d c.env c.a).1, (readR d c.env c.a).2)
  else if c.kind = 2 then ((writeR d c.env c.a c.s.data.toList).1, [], (writeR d c.env c.a c.s.data.toList).2)
  else if c.kind = 3 then ((syncR d).1, [], (syncR d).2)
  else if c.kind = 4 then (armR d c.a, [], 0)
  else if c.kind = 5 then (cutR d, [], 0)
  else if c.kind = 6 then ((reviveR d c.a).1, [], (reviveR d c.a).2)
  else (d, [], 0)

set_option maxRecDepth 100000 in
set_option maxHeartbeats 2000000 in
theorem do0 {F : Nat → Prop} {g : Nat} {d : Dk} {w : World} (h : DA w F g d) (env a b : Int) (s : ByteArray) (wa : -9223372036854775808 ≤ a ∧ a ≤ 9223372036854775807) (hcnt : d.exts.length < 1000000) :
    Calls Try.prog 8 #[.pointer (some ⟨g, 0, none⟩), .agg #[.int .i64 0, .int .i64 env, .int .i64 a, .int .i64 b, .string s]] w fun e w' => e = .returned (.tuple #[.string ⟨(((grantR d env a b).1, ([] : List UInt8), (grantR d env a b).2)).2.1.toArray⟩, .int .i64 (((grantR d env a b).1, ([] : List UInt8), (grantR d env a b).2)).2.2]) ∧ ∃ F', DA w' F' g (((grantR d env a b).1, ([] : List UInt8), (grantR d env a b).2)).1 ∧ Step w w' F F' := by
  have hB := (Below.refl w.heap.size w).alloc (Nat.le_refl _) (.cells #[.int .i64 0, .int .i64 env, .int .i64 a, .int .i64 b, .string s] 34)
  have hT := h.new hB
  have T := Lib.hid hT
  have S := Lib.hid (Step.new hB F)
  have hle : w.heap.size ≤ (w.alloc (.cells #[.int .i64 0, .int .i64 env, .int .i64 a, .int .i64 b, .string s] 34)).heap.size := hB.size
  have HLE := Lib.hid hle
  clear h hB hT hle
  have C := Lib.hid (grant_any T.out env a b wa hcnt)
  generalize grantR d env a b = r at *
  clear wa hcnt
  
  go_enter Try.func8, Try.ntmps8
  go_wp2_with fail
  refine C.out.mono ?_; rintro e w3 ⟨rfl, F3, t3, k3⟩
  have T3 := Lib.hid t3
  have S3 := Lib.hid (S.out.trans k3)
  clear t3 k3
  go_wp2
  go_ret2
  exact ⟨rfl, _, T3.out, S3.out⟩

set_option maxRecDepth 100000 in
set_option maxHeartbeats 2000000 in
theorem do1 {F : Nat → Prop} {g : Nat} {d : Dk} {w : World} (h : DA w F g d) (env a b : Int) (s : ByteArray)  :
    Calls Try.prog 8 #[.pointer (some ⟨g, 0, none⟩), .agg #[.int .i64 1, .int .i64 env, .int .i64 a, .int .i64 b, .string s]] w fun e w' => e = .returned (.tuple #[.string ⟨((d, (readR d env a).1, (readR d env a).2)).2.1.toArray⟩, .int .i64 ((d, (readR d env a).1, (readR d env a).2)).2.2]) ∧ ∃ F', DA w' F' g ((d, (readR d env a).1, (readR d env a).2)).1 ∧ Step w w' F F' := by
  have hB := (Below.refl w.heap.size w).alloc (Nat.le_refl _) (.cells #[.int .i64 1, .int .i64 env, .int .i64 a, .int .i64 b, .string s] 34)
  have hT := h.new hB
  have T := Lib.hid hT
  have S := Lib.hid (Step.new hB F)
  have hle : w.heap.size ≤ (w.alloc (.cells #[.int .i64 1, .int .i64 env, .int .i64 a, .int .i64 b, .string s] 34)).heap.size := hB.size
  have HLE := Lib.hid hle
  clear h hB hT hle
  have C := Lib.hid (read_any T.out env a)
  generalize readR d env a = r at *
  
  go_enter Try.func8, Try.ntmps8
  go_wp2_with fail
  refine C.out.mono ?_; rintro e w3 ⟨A', c', rfl, s3, b3⟩
  have T3 := Lib.hid (T.out.new b3)
  have S3 := Lib.hid (S.out.trans (Step.new b3 F))
  have tl := fun k => told_str (s3.drewN k)
  have tl0 := told_str s3
  clear s3 b3
  go_wp2
  go_ret2
  exact ⟨rfl, _, T3.out, S3.out⟩

set_option maxRecDepth 100000 in
set_option maxHeartbeats 2000000 in
theorem do2 {F : Nat → Prop} {g : Nat} {d : Dk} {w : World} (h : DA w F g d) (env a b : Int) (s : ByteArray) (hs : s.size ≤ 1000) (hcnt : d.line.length < 1000000) :
    Calls Try.prog 8 #[.pointer (some ⟨g, 0, none⟩), .agg #[.int .i64 2, .int .i64 env, .int .i64 a, .int .i64 b, .string s]] w fun e w' => e = .returned (.tuple #[.string ⟨(((writeR d env a s.data.toList).1, ([] : List UInt8), (writeR d env a s.data.toList).2)).2.1.toArray⟩, .int .i64 (((writeR d env a s.data.toList).1, ([] : List UInt8), (writeR d env a s.data.toList).2)).2.2]) ∧ ∃ F', DA w' F' g (((writeR d env a s.data.toList).1, ([] : List UInt8), (writeR d env a s.data.toList).2)).1 ∧ Step w w' F F' := by
  have hB := (Below.refl w.heap.size w).alloc (Nat.le_refl _) (.cells #[.int .i64 2, .int .i64 env, .int .i64 a, .int .i64 b, .string s] 34)
  have hT := h.new hB
  have T := Lib.hid hT
  have S := Lib.hid (Step.new hB F)
  have hle : w.heap.size ≤ (w.alloc (.cells #[.int .i64 2, .int .i64 env, .int .i64 a, .int .i64 b, .string s] 34)).heap.size := hB.size
  have HLE := Lib.hid hle
  clear h hB hT hle
  obtain ⟨A, c, w2, heq, hsrc, b2, hap⟩ := conv_src s (by omega) (w.alloc (.cells #[.int .i64 2, .int .i64 env, .int .i64 a, .int .i64 b, .string s] 34))
  have C := Lib.hid (write_any (T.out.new b2) env a A s.size c s.data.toList hsrc (fun b o e hf => by have := hap b o e; have := T.out.lt hf; omega) hcnt)
  have S2 := Lib.hid (S.out.trans (Step.new b2 F))
  generalize writeR d env a s.data.toList = r at *
  clear hs hcnt hsrc b2 hap
  
  go_enter Try.func8, Try.ntmps8
  go_wp2_with fail
  refine C.out.mono ?_; rintro e w3 ⟨rfl, F3, t3, k3⟩
  have T3 := Lib.hid t3
  have S3 := Lib.hid (S2.out.trans k3)
  clear t3 k3
  go_wp2
  go_ret2
  exact ⟨rfl, _, T3.out, S3.out⟩

set_option maxRecDepth 100000 in
set_option maxHeartbeats 2000000 in
theorem do3 {F : Nat → Prop} {g : Nat} {d : Dk} {w : World} (h : DA w F g d) (env a b : Int) (s : ByteArray)  :
    Calls Try.prog 8 #[.pointer (some ⟨g, 0, none⟩), .agg #[.int .i64 3, .int .i64 env, .int .i64 a, .int .i64 b, .string s]] w fun e w' => e = .returned (.tuple #[.string ⟨(((syncR d).1, ([] : List UInt8), (syncR d).2)).2.1.toArray⟩, .int .i64 (((syncR d).1, ([] : List UInt8), (syncR d).2)).2.2]) ∧ ∃ F', DA w' F' g (((syncR d).1, ([] : List UInt8), (syncR d).2)).1 ∧ Step w w' F F' := by
  have hB := (Below.refl w.heap.size w).alloc (Nat.le_refl _) (.cells #[.int .i64 3, .int .i64 env, .int .i64 a, .int .i64 b, .string s] 34)
  have hT := h.new hB
  have T := Lib.hid hT
  have S := Lib.hid (Step.new hB F)
  have hle : w.heap.size ≤ (w.alloc (.cells #[.int .i64 3, .int .i64 env, .int .i64 a, .int .i64 b, .string s] 34)).heap.size := hB.size
  have HLE := Lib.hid hle
  clear h hB hT hle
  have C := Lib.hid (sync_any T.out)
  generalize syncR d = r at *
  
  go_enter Try.func8, Try.ntmps8
  go_wp2_with fail
  refine C.out.mono ?_; rintro e w3 ⟨rfl, F3, t3, k3⟩
  have T3 := Lib.hid t3
  have S3 := Lib.hid (S.out.trans k3)
  clear t3 k3
  go_wp2
  go_ret2
  exact ⟨rfl, _, T3.out, S3.out⟩

set_option maxRecDepth 100000 in
set_option maxHeartbeats 2000000 in
theorem do4 {F : Nat → Prop} {g : Nat} {d : Dk} {w : World} (h : DA w F g d) (env a b : Int) (s : ByteArray) (wa : a ≤ 9223372036854775807) :
    Calls Try.prog 8 #[.pointer (some ⟨g, 0, none⟩), .agg #[.int .i64 4, .int .i64 env, .int .i64 a, .int .i64 b, .string s]] w fun e w' => e = .returned (.tuple #[.string ⟨((armR d a, ([] : List UInt8), (0 : Int))).2.1.toArray⟩, .int .i64 ((armR d a, ([] : List UInt8), (0 : Int))).2.2]) ∧ ∃ F', DA w' F' g ((armR d a, ([] : List UInt8), (0 : Int))).1 ∧ Step w w' F F' := by
  have hB := (Below.refl w.heap.size w).alloc (Nat.le_refl _) (.cells #[.int .i64 4, .int .i64 env, .int .i64 a, .int .i64 b, .string s] 34)
  have hT := h.new hB
  have T := Lib.hid hT
  have S := Lib.hid (Step.new hB F)
  have hle : w.heap.size ≤ (w.alloc (.cells #[.int .i64 4, .int .i64 env, .int .i64 a, .int .i64 b, .string s] 34)).heap.size := hB.size
  have HLE := Lib.hid hle
  clear h hB hT hle
  have C := Lib.hid (arm_da T.out a wa)
  generalize armR d a = r at *
  clear wa
  
  go_enter Try.func8, Try.ntmps8
  go_wp2_with fail
  refine C.out.mono ?_; rintro e w3 ⟨rfl, F3, t3, k3⟩
  have T3 := Lib.hid t3
  have S3 := Lib.hid (S.out.trans k3)
  clear t3 k3
  go_wp2
  go_ret2
  exact ⟨rfl, _, T3.out, S3.out⟩

set_option maxRecDepth 100000 in
set_option maxHeartbeats 2000000 in
theorem do5 {F : Nat → Prop} {g : Nat} {d : Dk} {w : World} (h : DA w F g d) (env a b : Int) (s : ByteArray)  :
    Calls Try.prog 8 #[.pointer (some ⟨g, 0, none⟩), .agg #[.int .i64 5, .int .i64 env, .int .i64 a, .int .i64 b, .string s]] w fun e w' => e = .returned (.tuple #[.string ⟨((cutR d, ([] : List UInt8), (0 : Int))).2.1.toArray⟩, .int .i64 ((cutR d, ([] : List UInt8), (0 : Int))).2.2]) ∧ ∃ F', DA w' F' g ((cutR d, ([] : List UInt8), (0 : Int))).1 ∧ Step w w' F F' := by
  have hB := (Below.refl w.heap.size w).alloc (Nat.le_refl _) (.cells #[.int .i64 5, .int .i64 env, .int .i64 a, .int .i64 b, .string s] 34)
  have hT := h.new hB
  have T := Lib.hid hT
  have S := Lib.hid (Step.new hB F)
  have hle : w.heap.size ≤ (w.alloc (.cells #[.int .i64 5, .int .i64 env, .int .i64 a, .int .i64 b, .string s] 34)).heap.size := hB.size
  have HLE := Lib.hid hle
  clear h hB hT hle
  have C := Lib.hid (cut_da T.out)
  generalize cutR d = r at *
  
  go_enter Try.func8, Try.ntmps8
  go_wp2_with fail
  refine C.out.mono ?_; rintro e w3 ⟨rfl, F3, t3, k3⟩
  have T3 := Lib.hid t3
  have S3 := Lib.hid (S.out.trans k3)
  clear t3 k3
  go_wp2
  go_ret2
  exact ⟨rfl, _, T3.out, S3.out⟩

set_option maxRecDepth 100000 in
set_option maxHeartbeats 2000000 in
theorem do6 {F : Nat → Prop} {g : Nat} {d : Dk} {w : World} (h : DA w F g d) (env a b : Int) (s : ByteArray)  :
    Calls Try.prog 8 #[.pointer (some ⟨g, 0, none⟩), .agg #[.int .i64 6, .int .i64 env, .int .i64 a, .int .i64 b, .string s]] w fun e w' => e = .returned (.tuple #[.string ⟨(((reviveR d a).1, ([] : List UInt8), (reviveR d a).2)).2.1.toArray⟩, .int .i64 (((reviveR d a).1, ([] : List UInt8), (reviveR d a).2)).2.2]) ∧ ∃ F', DA w' F' g (((reviveR d a).1, ([] : List UInt8), (reviveR d a).2)).1 ∧ Step w w' F F' := by
  have hB := (Below.refl w.heap.size w).alloc (Nat.le_refl _) (.cells #[.int .i64 6, .int .i64 env, .int .i64 a, .int .i64 b, .string s] 34)
  have hT := h.new hB
  have T := Lib.hid hT
  have S := Lib.hid (Step.new hB F)
  have hle : w.heap.size ≤ (w.alloc (.cells #[.int .i64 6, .int .i64 env, .int .i64 a, .int .i64 b, .string s] 34)).heap.size := hB.size
  have HLE := Lib.hid hle
  clear h hB hT hle
  have C := Lib.hid (revive_any T.out a)
  generalize reviveR d a = r at *
  
  go_enter Try.func8, Try.ntmps8
  go_wp2_with fail
  refine C.out.mono ?_; rintro e w3 ⟨rfl, F3, t3, k3⟩
  have T3 := Lib.hid t3
  have S3 := Lib.hid (S.out.trans k3)
  clear t3 k3
  go_wp2
  go_ret2
  exact ⟨rfl, _, T3.out, S3.out⟩

set_option maxRecDepth 100000 in
set_option maxHeartbeats 2000000 in
theorem do7 {F : Nat → Prop} {g : Nat} {d : Dk} {w : World} (h : DA w F g d) (kind env a b : Int) (s : ByteArray) (q0 : kind ≠ 0) (q1 : kind ≠ 1) (q2 : kind ≠ 2) (q3 : kind ≠ 3) (q4 : kind ≠ 4) (q5 : kind ≠ 5) (q6 : kind ≠ 6) :
    Calls Try.prog 8 #[.pointer (some ⟨g, 0, none⟩), .agg #[.int .i64 kind, .int .i64 env, .int .i64 a, .int .i64 b, .string s]] w fun e w' => e = .returned (.tuple #[.string ⟨([] : List UInt8).toArray⟩, .int .i64 0]) ∧ ∃ F', DA w' F' g d ∧ Step w w' F F' := by
  have hB := (Below.refl w.heap.size w).alloc (Nat.le_refl _) (.cells #[.int .i64 kind, .int .i64 env, .int .i64 a, .int .i64 b, .string s] 34)
  have T := Lib.hid (h.new hB)
  have S := Lib.hid (Step.new hB F)
  have d0 : (kind == 0) = false := by simpa using q0
  have d1 : (kind == 1) = false := by simpa using q1
  have d2 : (kind == 2) = false := by simpa using q2
  have d3 : (kind == 3) = false := by simpa using q3
  have d4 : (kind == 4) = false := by simpa using q4
  have d5 : (kind == 5) = false := by simpa using q5
  have d6 : (kind == 6) = false := by simpa using q6
  clear h hB q0 q1 q2 q3 q4 q5 q6
  go_enter Try.func8, Try.ntmps8
  go_wp2
  go_ret2
  exact ⟨rfl, _, T.out, S.out⟩
theorem do_any {F : Nat → Prop} {g : Nat} {d : Dk} {w : World} (h : DA w F g d) (kind env a b : Int) (s : ByteArray) (wa : -9223372036854775808 ≤ a ∧ a ≤ 9223372036854775807) (hs : s.size ≤ 1000) (h1 : d.exts.length < 1000000) (h2 : d.line.length < 1000000) :
    Calls Try.prog 8 #[.pointer (some ⟨g, 0, none⟩), .agg #[.int .i64 kind, .int .i64 env, .int .i64 a, .int .i64 b, .string s]] w fun e w' => e = .returned (.tuple #[.string ⟨(doD d ⟨kind, env, a, b, s⟩).2.1.toArray⟩, .int .i64 (doD d ⟨kind, env, a, b, s⟩).2.2]) ∧ ∃ F', DA w' F' g (doD d ⟨kind, env, a, b, s⟩).1 ∧ Step w w' F F' := by
  by_cases q0 : kind = 0
  · subst q0; exact do0 h env a b s wa h1
  by_cases q1 : kind = 1
  · subst q1; exact do1 h env a b s
  by_cases q2 : kind = 2
  · subst q2; exact do2 h env a b s hs h2
  by_cases q3 : kind = 3
  · subst q3; exact do3 h env a b s
  by_cases q4 : kind = 4
  · subst q4; exact do4 h env a b s wa.2
  by_cases q5 : kind = 5
  · subst q5; exact do5 h env a b s
  by_cases q6 : kind = 6
  · subst q6; exact do6 h env a b s
  have e : doD d ⟨kind, env, a, b, s⟩ = (d, [], 0) := by unfold doD; simp only [q0, q1, q2, q3, q4, q5, q6, if_false]
  rw [e]
  exact do7 h kind env a b s q0 q1 q2 q3 q4 q5 q6
theorem own_do {B g : Nat} {d : Dk} {w : World} (h : Own B w g d) (kind env a b : Int) (s : ByteArray) (wa : -9223372036854775808 ≤ a ∧ a ≤ 9223372036854775807) (hs : s.size ≤ 1000) (h1 : d.exts.length < 1000000) (h2 : d.line.length < 1000000) :
    Calls Try.prog 8 #[.pointer (some ⟨g, 0, none⟩), .agg #[.int .i64 kind, .int .i64 env, .int .i64 a, .int .i64 b, .string s]] w fun e w' => e = .returned (.tuple #[.string ⟨(doD d ⟨kind, env, a, b, s⟩).2.1.toArray⟩, .int .i64 (doD d ⟨kind, env, a, b, s⟩).2.2]) ∧ Own B w' g (doD d ⟨kind, env, a, b, s⟩).1 ∧ Below B w w' := by
  obtain ⟨F, hd, hF⟩ := h.ex
  refine (do_any hd kind env a b s wa hs h1 h2).mono ?_
  rintro e w' ⟨rfl, F', h', k⟩
  exact ⟨rfl, Own.step hd hF h.lt h' k⟩

/-- What a call leaves as it is, and how much it adds. -/
theorem doD_sizes (d : Dk) (c : Cmd) : (doD d c).1.exts.length ≤ d.exts.length + 1 ∧ (doD d c).1.line.length ≤ d.line.length + 1 ∧ (doD d c).1.blocks.length = d.blocks.length := by
  unfold doD
  split
  · unfold grantR
    split
    · exact ⟨Nat.le_succ _, Nat.le_succ _, rfl⟩
    · split
      · exact ⟨Nat.le_succ _, Nat.le_succ _, rfl⟩
      · exact ⟨by simp [granted], by simp [granted], rfl⟩
  split
  · exact ⟨Nat.le_succ _, Nat.le_succ _, rfl⟩
  split
  · unfold writeR
    split
    · split
      · split
        · exact ⟨by simp [cutR], by simp [cutR], rfl⟩
        · exact ⟨by simp [laid], by simp [laid], rfl⟩
      · exact ⟨Nat.le_succ _, Nat.le_succ _, rfl⟩
    · exact ⟨Nat.le_succ _, Nat.le_succ _, rfl⟩
  split
  · unfold syncR
    split
    · exact ⟨by simp [settleR], by simp [settleR], put_len _ _⟩
    · exact ⟨Nat.le_succ _, Nat.le_succ _, rfl⟩
  split
  · exact ⟨by simp [armR], by simp [armR], rfl⟩
  split
  · exact ⟨by simp [cutR], by simp [cutR], rfl⟩
  split
  · unfold reviveR
    split
    · exact ⟨Nat.le_succ _, Nat.le_succ _, rfl⟩
    · exact ⟨by simp [settleR], by simp [settleR], put_len _ _⟩
  · exact ⟨Nat.le_succ _, Nat.le_succ _, rfl⟩
end Go.Proofs.Ythnapmcjnfeimaa
