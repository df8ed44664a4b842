/- The chapter's example. Conditions: those that each states. -/
import Derived.Test.YthnapmcjnfeimaaDk6
import Derived.Test.YthnapmcjnfeimaaDk7
namespace Go.Proofs.Ythnapmcjnfeimaa
open Go.ChangeShapes Go.WideShapes Go.ChangeAt Go.RowKit Go.Deep Di
set_option linter.unusedVariables false

section
variable {w w' : World} {F F' : Nat → Prop} {g : Nat} {d : Dk}
/-- A disk of the call's own: all that it has lies from block B on. -/
structure Own (B : Nat) (w : World) (g : Nat) (d : Dk) : Prop where
  ex : ∃ F, DA w F g d ∧ ∀ k, F k → B ≤ k
  lt : B ≤ w.heap.size
theorem Own.of {B : Nat} (h : DA w F g d) (hF : ∀ k, F k → B ≤ k) (hB : B ≤ w.heap.size) : Own B w g d := ⟨⟨F, h, hF⟩, hB⟩
theorem Own.new {B : Nat} (h : Own B w g d) (k : Below w.heap.size w w') : Own B w' g d := by
  obtain ⟨F, hd, hF⟩ := h.ex
  exact ⟨⟨F, hd.new k, hF⟩, Nat.le_trans h.lt k.size⟩
theorem Own.ok {B : Nat} (h : Own B w g d) : d.Ok := by obtain ⟨F, hd, _⟩ := h.ex; exact hd.ok
theorem own_new (n : Nat) (h1 : 1 ≤ n) (h2 : n ≤ 512) (w : World) :
    Calls Try.prog 6 #[.int .i64 (n : Int)] w fun e w' => e = .returned (.tuple #[.pointer (some ⟨w.heap.size + 1, 0, none⟩), .int .i64 0]) ∧ Own w.heap.size w' (w.heap.size + 1) (newD n) ∧ Below w.heap.size w w' ∧ w'.heap.size = w.heap.size + 2 := by
  refine (new_ok n w h1 h2).mono ?_
  rintro e w' ⟨rfl, hd, hb, hz⟩
  refine ⟨rfl, Own.of hd.da ?_ hb.size, hb, hz⟩
  rintro k (rfl | rfl | h | h)
  · exact Nat.le_refl _
  · exact Nat.le_succ _
  · exact (inB_none _ h).elim
  · exact (inB_none _ h).elim
theorem Own.step {B : Nat} (h : DA w F g d) (hF : ∀ k, F k → B ≤ k) (hB : B ≤ w.heap.size) {d' : Dk} {F' : Nat → Prop} (h' : DA w' F' g d') (k : Step w w' F F') : Own B w' g d' ∧ Below B w w' := by
  obtain ⟨b, f⟩ := k.below hB hF
  exact ⟨Own.of h' f (Nat.le_trans hB k.1.size), b⟩
theorem own_grant {B : Nat} (h : Own B w g d) (env first n : Int) (wf : -9223372036854775808 ≤ first ∧ first ≤ 9223372036854775807) (hcnt : d.exts.length < 1000000) :
    Calls Try.prog 16 #[.pointer (some ⟨g, 0, none⟩), .int .i64 env, .int .i64 first, .int .i64 n] w fun e w' => e = .returned (.int .i64 (grantR d env first n).2) ∧ Own B w' g (grantR d env first n).1 ∧ Below B w w' := by
  obtain ⟨F, hd, hF⟩ := h.ex
  refine (grant_any hd env first n wf hcnt).mono ?_
  rintro e w' ⟨rfl, F', h', k⟩
  exact ⟨rfl, Own.step hd hF h.lt h' k⟩
theorem own_write {B : Nat} (h : Own B w g d) (env block : Int) (A : Option Addr) (n c : Nat) (s : List UInt8) {w0 : World} (hs : Src w A n c s) (hap : ∀ b o, A = some ⟨b, o, none⟩ → w0.heap.size ≤ b) (h0 : ∀ F, DA w F g d → ∀ k, F k → k < w0.heap.size) (hcnt : d.line.length < 1000000) :
    Calls Try.prog 15 #[.pointer (some ⟨g, 0, none⟩), .int .i64 env, .int .i64 block, .slice A n c] w fun e w' => e = .returned (.int .i64 (writeR d env block s).2) ∧ Own B w' g (writeR d env block s).1 ∧ Below B w w' := by
  obtain ⟨F, hd, hF⟩ := h.ex
  refine (write_any hd env block A n c s hs (fun b o e hf => by have := hap b o e; have := h0 F hd b hf; omega) hcnt).mono ?_
  rintro e w' ⟨rfl, F', h', k⟩
  exact ⟨rfl, Own.step hd hF h.lt h' k⟩
theorem own_sync {B : Nat} (h : Own B w g d) :
    Calls Try.prog 17 #[.pointer (some ⟨g, 0, none⟩)] w fun e w' => e = .returned (.int .i64 (syncR d).2) ∧ Own B w' g (syncR d).1 ∧ Below B w w' := by
  obtain ⟨F, hd, hF⟩ := h.ex
  refine (sync_any hd).mono ?_
  rintro e w' ⟨rfl, F', h', k⟩
  exact ⟨rfl, Own.step hd hF h.lt h' k⟩
theorem own_read {B : Nat} (h : Own B w g d) (env block : Int) :
    Calls Try.prog 18 #[.pointer (some ⟨g, 0, none⟩), .int .i64 env, .int .i64 block] w fun e w' => ∃ A c, e = .returned (.tuple #[.slice A (readR d env block).1.length c, .int .i64 (readR d env block).2]) ∧ Src w' A (readR d env block).1.length c (readR d env block).1 ∧ Below w.heap.size w w' := by
  obtain ⟨F, hd, hF⟩ := h.ex
  exact read_any hd env block
theorem own_waits {B : Nat} (h : Own B w g d) : Calls Try.prog 11 #[.pointer (some ⟨g, 0, none⟩)] w fun e w' => e = .returned (.int .i64 (d.line.length : Int)) ∧ w' = w := by
  obtain ⟨F, hd, hF⟩ := h.ex
  exact waits_da hd
theorem own_image {B : Nat} (h : Own B w g d) :
    Calls Try.prog 14 #[.pointer (some ⟨g, 0, none⟩)] w fun e w' => e = .returned (.slice (some ⟨w.heap.size, 0, none⟩) d.blocks.length d.blocks.length) ∧ Texts w' w.heap.size d.blocks d.blocks.length ∧ Below w.heap.size w w' := by
  obtain ⟨F, hd, hF⟩ := h.ex
  exact image_any hd
/-- A slice of the call's own, laid behind the disk, is none of its blocks. -/
theorem own_write_new {B : Nat} {w1 : World} (h : Own B w g d) (hb : Below w.heap.size w w1) (env block : Int) (A : Option Addr) (n c : Nat) (s : List UInt8) (hs : Src w1 A n c s) (hap : ∀ b o, A = some ⟨b, o, none⟩ → w.heap.size ≤ b) (hcnt : d.line.length < 1000000) :
    Calls Try.prog 15 #[.pointer (some ⟨g, 0, none⟩), .int .i64 env, .int .i64 block, .slice A n c] w1 fun e w' => e = .returned (.int .i64 (writeR d env block s).2) ∧ Own B w' g (writeR d env block s).1 ∧ Below B w1 w' := by
  obtain ⟨F, hd, hF⟩ := h.ex
  refine (write_any (hd.new hb) env block A n c s hs (fun b o e hf => by have := hap b o e; have := hd.lt hf; omega) hcnt).mono ?_
  rintro e w' ⟨rfl, F', h', k⟩
  exact ⟨rfl, Own.step (hd.new hb) hF (Nat.le_trans h.lt hb.size) h' k⟩
end

set_option maxRecDepth 100000 in
set_option maxHeartbeats 4000000 in
theorem alive_any (w : World) : Calls Try.prog 4 #[] w fun e w' => e = .returned (.bool true) ∧ Below w.heap.size w w' := by
  obtain ⟨p0, hp0⟩ : ∃ p, p = newD 2 := ⟨_, rfl⟩
  have e1 : writeR p0 1 0 zeros = (p0, 20) := by subst hp0; kernel_rfl
  have e2' : (grantR p0 1 0 1).2 = 0 := by subst hp0; kernel_rfl
  obtain ⟨p1, hp1⟩ : ∃ p, p = (grantR p0 1 0 1).1 := ⟨_, rfl⟩
  have e2 : grantR p0 1 0 1 = (p1, 0) := Prod.ext hp1.symm e2'
  have e3' : (writeR p1 1 0 zeros).2 = 0 := by subst hp1 hp0; kernel_rfl
  obtain ⟨p2, hp2⟩ : ∃ p, p = (writeR p1 1 0 zeros).1 := ⟨_, rfl⟩
  have e3 : writeR p1 1 0 zeros = (p2, 0) := Prod.ext hp2.symm e3'
  have e4 : p2.line.length = 1 := by subst hp2 hp1 hp0; kernel_rfl
  have e5' : (syncR p2).2 = 0 := by subst hp2 hp1 hp0; kernel_rfl
  obtain ⟨p3, hp3⟩ : ∃ p, p = (syncR p2).1 := ⟨_, rfl⟩
  have e5 : syncR p2 = (p3, 0) := Prod.ext hp3.symm e5'
  have e6 : p3.line.length = 0 := by subst hp3 hp2 hp1 hp0; kernel_rfl
  have l0 : p0.line.length < 1000000 ∧ p0.exts.length < 1000000 := by
    have e : p0.line.length = 0 := by subst hp0; kernel_rfl
    have e' : p0.exts.length = 0 := by subst hp0; kernel_rfl
    omega
  have l1 : p1.line.length < 1000000 := by
    have e : p1.line.length = 0 := by subst hp1 hp0; kernel_rfl
    omega
  have mk := fun W => make256 W
  have A1 := Lib.hid (fun (W : World) (g : Nat) (h : Own w.heap.size W g p0) => by
    have := own_write_new h ((Below.refl _ W).alloc (Nat.le_refl _) (.cells (madeCells #[.int .u8 0] 256) 5)) 1 0 _ _ _ zeros (made256 W) (fun b o e => by cases e; exact Nat.le_refl _) l0.1
    rw [e1] at this; exact this)
  have A2 := Lib.hid (fun (W : World) (g : Nat) (h : Own w.heap.size W g p0) => by
    have := own_grant h 1 0 1 (by omega) l0.2
    rw [e2] at this; exact this)
  have A3 := Lib.hid (fun (W : World) (g : Nat) (h : Own w.heap.size W g p1) => by
    have := own_write_new h ((Below.refl _ W).alloc (Nat.le_refl _) (.cells (madeCells #[.int .u8 0] 256) 5)) 1 0 _ _ _ zeros (made256 W) (fun b o e => by cases e; exact Nat.le_refl _) l1
    rw [e3] at this; exact this)
  have A4 := Lib.hid (fun (W : World) (g : Nat) (h : Own w.heap.size W g p2) => by
    have := own_waits h
    rw [e4] at this; exact this)
  have A5 := Lib.hid (fun (W : World) (g : Nat) (h : Own w.heap.size W g p2) => by
    have := own_sync h
    rw [e5] at this; exact this)
  have A6 := Lib.hid (fun (W : World) (g : Nat) (h : Own w.heap.size W g p3) => by
    have := own_waits h
    rw [e6] at this; exact this)
  have AL := Lib.hid (fun (W : World) => (Below.refl W.heap.size W).alloc (Nat.le_refl _) (.cells (madeCells #[.int .u8 0] 256) 5))
  have NEW := Lib.hid (own_new 2 (by decide) (by decide) w)
  rw [← hp0] at NEW
  generalize madeCells #[.int .u8 0] 256 = Z at *
  clear e1 e2 e2' e3 e3' e4 e5 e5' e6 hp0 hp1 hp2 hp3 l0 l1
  go_enter Try.func4, Try.ntmps4
  go_wp2_with fail
  refine NEW.out.mono ?_; rintro e w1 ⟨rfl, t1, b1, -⟩
  have T1 := Lib.hid t1
  have B1 := Lib.hid b1
  clear t1 b1
  go_wp2_with fail
  refine (A1.out _ _ T1.out).mono ?_; rintro e w2 ⟨rfl, t2, b2⟩
  have T2 := Lib.hid t2
  have B2 := Lib.hid ((B1.out.trans ((AL.out _).mono T1.out.lt)).trans b2)
  clear t2 b2 T1 B1
  go_wp2_with fail
  refine (A2.out _ _ T2.out).mono ?_; rintro e w3 ⟨rfl, t3, b3⟩
  have T3 := Lib.hid t3
  have B3 := Lib.hid (B2.out.trans b3)
  clear t3 b3 T2 B2
  go_wp2_with fail
  refine (A3.out _ _ T3.out).mono ?_; rintro e w4 ⟨rfl, t4, b4⟩
  have T4 := Lib.hid t4
  have B4 := Lib.hid ((B3.out.trans ((AL.out _).mono T3.out.lt)).trans b4)
  clear t4 b4 T3 B3
  go_wp2_with fail
  refine (A4.out _ _ T4.out).mono ?_; rintro e w5 ⟨rfl, rfl⟩
  go_wp2_with fail
  refine (A5.out _ _ T4.out).mono ?_; rintro e w6 ⟨rfl, t6, b6⟩
  have T6 := Lib.hid t6
  have B6 := Lib.hid (B4.out.trans b6)
  clear t6 b6 T4 B4
  go_wp2_with fail
  refine (A6.out _ _ T6.out).mono ?_; rintro e w7 ⟨rfl, rfl⟩
  go_wp2
  go_ret
  exact ⟨rfl, B6.out⟩
end Go.Proofs.Ythnapmcjnfeimaa
