/- Package store: read, write, sync, placeOf, writeRoot, Format, over a kernel behind block B. Conditions: those that each states. -/
import Derived.Test.YtefnkednnnlhoaaGreatDoorMAP
import Derived.Test.YtefnkednnnlhoaaGreatDoorMAT
import Derived.Lib.AppendZerosOnto
namespace Go.Proofs.YtefnkednnnlhoaaGreatDoor.Sr
open Go.ChangeShapes Go.WideShapes Go.ChangeAt Go.RowKit Go.Deep Fr Di Ke
set_option linter.unusedVariables false
set_option linter.unusedSimpArgs false

theorem callR_8 (K : Kn) (env : Int) (he : env = 1 ∨ env = 2) (a b c : Int) (s : List UInt8) (p : List Ins) (l : List Pc) : callR K ⟨8, env, a, b, c, s, p, l⟩ = ({ K with dk := (syncR K.dk).1 }, 0, [], (syncR K.dk).2) := by unfold callR; rw [if_neg (fun h => h he)]; rfl
/-- What a store's calls of a kernel tell. -/
def rdK (K : Kn) (b : Int) : List UInt8 × Int := (readR K.dk 1 b)
def wrK (K : Kn) (b : Int) (s : List UInt8) : Kn × Int := ({ K with dk := (writeR K.dk 1 b s).1 }, (writeR K.dk 1 b s).2)
def syK (K : Kn) : Kn × Int := ({ K with dk := (syncR K.dk).1 }, (syncR K.dk).2)
/-- What a call leaves of a kernel. -/
def KTo (B : Nat) (w w' : World) (lab lab' : Nat → Nat) (g : Nat) (K' : Kn) : Prop := KB B w' lab' g K' ∧ LStep w w' lab lab' ∧ Below B w w'
section
variable {B : Nat} {w w' w2 : World} {lab lab' lab2 : Nat → Nat} {g : Nat} {K K' K2 : Kn}
theorem KTo.new (h : KTo B w w' lab lab' g K') (hB : B ≤ w.heap.size) (k : Below w'.heap.size w' w2) : KTo B w w2 lab lab' g K' :=
  ⟨h.1.new k, h.2.1.trans (LStep.news lab' k), h.2.2.trans (k.mono (Nat.le_trans hB h.2.2.size))⟩
theorem KTo.trans (h : KTo B w w' lab lab' g K') (k : KTo B w' w2 lab' lab2 g K2) : KTo B w w2 lab lab2 g K2 := ⟨k.1, h.2.1.trans k.2.1, h.2.2.trans k.2.2⟩
theorem KTo.fresh (h : KB B w lab g K) (hB : B ≤ w.heap.size) (k : Below w.heap.size w w2) : KTo B w w2 lab lab g K := ⟨h.new k, LStep.news lab k, k.mono hB⟩
end

set_option maxRecDepth 100000 in
set_option maxHeartbeats 1000000 in
theorem read_any {B : Nat} {w : World} {lab : Nat → Nat} {g : Nat} {K : Kn} (h : KB B w lab g K) (hB : B ≤ w.heap.size) (n : Nat) (sm : K.Small n) (hn : n < 1000000) (b : Int) :
    Calls Tryz.prog 19 #[.pointer (some ⟨g, 0, none⟩), .int .i64 b] w fun e w' => ∃ A c, e = .returned (.tuple #[.slice A (rdK K b).1.length c, .int .i64 (rdK K b).2]) ∧
      ∃ lab', KTo B w w' lab lab' g K ∧ Src w' A (rdK K b).1.length c (rdK K b).1 ∧ Off (on lab') A (rdK K b).1.length := by
  have C := Lib.hid (call_kb h hB n sm hn (bare 6 1 b 0 0) noX (bare_in w lab 6 1 b 0 0 (by omega)))
  rw [show callR K (bare 6 1 b 0 0) = (K, 0, (rdK K b).1, (rdK K b).2) from callR_6 K 1 (.inl rfl) b 0 0 [] [] []] at C
  generalize rdK K b = r at *
  have HB := Lib.hid hB
  clear h hB sm
  go_enter Tryz.func19, Tryz.ntmps19
  go_wp2_with fail
  refine C.out.mono ?_; rintro e w1 ⟨A, c, rfl, lab1, k1, L1, b1, s1, o1⟩
  have b2 : Below w1.heap.size w1 (w1.alloc (.cells #[.int .i64 0, .slice A r.1.length c] 104)) := (Below.refl _ w1).alloc (Nat.le_refl _) _
  have T := Lib.hid (KTo.new ⟨k1, L1, b1⟩ HB.out b2)
  have S2 := Lib.hid (s1.below b2)
  have R2 := Lib.hid (Blk.new w1 104 #[.int .i64 0, .slice A r.1.length c])
  have O1 := Lib.hid o1
  clear k1 L1 b1 s1 o1 b2 C
  go_upto_region 2 with fail
  generalize w1.alloc (.cells #[.int .i64 0, .slice A r.1.length c] 104) = w2 at *
  have z1 := (R2.out.cell 1).trans (show _ = some (.slice A r.1.length c) from rfl)
  go_wp2
  go_ret2
  exact ⟨A, c, rfl, lab1, T.out, S2.out, O1.out⟩

set_option maxRecDepth 100000 in
set_option maxHeartbeats 1000000 in
theorem write_any {B : Nat} {w : World} {lab : Nat → Nat} {g : Nat} {K : Kn} (h : KB B w lab g K) (hB : B ≤ w.heap.size) (n : Nat) (sm : K.Small n) (hn : n < 1000000) (b : Int) (A : Option Addr) (c : Nat) (s : List UInt8) (hs : Src w A s.length c s) (ha : ∀ b o, A = some ⟨b, o, none⟩ → b < w.heap.size ∧ lab b = 0) :
    Calls Tryz.prog 26 #[.pointer (some ⟨g, 0, none⟩), .int .i64 b, .slice A s.length c] w fun e w' => e = .returned (.int .i64 (wrK K b s).2) ∧ ∃ lab', KTo B w w' lab lab' g (wrK K b s).1 := by
  have C := Lib.hid (call_kb h hB n sm hn ⟨7, 1, b, 0, 0, s, [], []⟩ ⟨A, c, none, 0, none, 0⟩ ⟨(by show (-9223372036854775808 : Int) ≤ 0 ∧ (0 : Int) ≤ 9223372036854775807; omega), hs, ha, fun i hi => absurd hi (by simp), fun _ => ⟨rfl, rfl⟩, by simp, fun p hp => (by cases hp), fun i hi => absurd hi (by simp), fun p hp => (by cases hp), fun b o e => (by cases e), Nat.le_refl _, by simp⟩)
  rw [show callR K ⟨7, 1, b, 0, 0, s, [], []⟩ = ((wrK K b s).1, 0, [], (wrK K b s).2) from callR_7 K 1 (.inl rfl) b 0 0 s [] []] at C
  generalize wrK K b s = r at *
  have HB := Lib.hid hB
  clear h hB sm hs ha
  go_enter Tryz.func26, Tryz.ntmps26
  go_wp2_with fail
  refine C.out.mono ?_; rintro e w1 ⟨A1, c1, rfl, lab1, k1, L1, b1, s1, o1⟩
  have b2 : Below w1.heap.size w1 (w1.alloc (.cells #[.int .i64 0, .slice A1 0 c1] 104)) := (Below.refl _ w1).alloc (Nat.le_refl _) _
  have T := Lib.hid (KTo.new ⟨k1, L1, b1⟩ HB.out b2)
  clear k1 L1 b1 s1 o1 b2 C
  go_upto_region 2 with fail
  have T := Lib.hid (show KTo B w (w1.alloc (.cells #[.int .i64 0, .slice A1 0 c1] 104)) lab lab1 g r.1 from T.out)
  generalize w1.alloc (.cells #[.int .i64 0, .slice A1 0 c1] 104) = w2 at *
  go_wp2
  go_ret
  exact ⟨rfl, lab1, T.out⟩

set_option maxRecDepth 100000 in
set_option maxHeartbeats 1000000 in
theorem sync_any {B : Nat} {w : World} {lab : Nat → Nat} {g : Nat} {K : Kn} (h : KB B w lab g K) (hB : B ≤ w.heap.size) (n : Nat) (sm : K.Small n) (hn : n < 1000000) :
    Calls Tryz.prog 28 #[.pointer (some ⟨g, 0, none⟩)] w fun e w' => e = .returned (.int .i64 (syK K).2) ∧ ∃ lab', KTo B w w' lab lab' g (syK K).1 := by
  have C := Lib.hid (call_kb h hB n sm hn (bare 8 1 0 0 0) noX (bare_in w lab 8 1 0 0 0 (by omega)))
  rw [show callR K (bare 8 1 0 0 0) = ((syK K).1, 0, [], (syK K).2) from callR_8 K 1 (.inl rfl) 0 0 0 [] [] []] at C
  generalize syK K = r at *
  have HB := Lib.hid hB
  clear h hB sm
  go_enter Tryz.func28, Tryz.ntmps28
  go_wp2_with fail
  refine C.out.mono ?_; rintro e w1 ⟨A1, c1, rfl, lab1, k1, L1, b1, s1, o1⟩
  have b2 : Below w1.heap.size w1 (w1.alloc (.cells #[.int .i64 0, .slice A1 0 c1] 104)) := (Below.refl _ w1).alloc (Nat.le_refl _) _
  have T := Lib.hid (KTo.new ⟨k1, L1, b1⟩ HB.out b2)
  clear k1 L1 b1 s1 o1 b2 C
  go_upto_region 2 with fail
  have T := Lib.hid (show KTo B w (w1.alloc (.cells #[.int .i64 0, .slice A1 0 c1] 104)) lab lab1 g r.1 from T.out)
  generalize w1.alloc (.cells #[.int .i64 0, .slice A1 0 c1] 104) = w2 at *
  go_wp2
  go_ret
  exact ⟨rfl, lab1, T.out⟩

theorem placeOf_any (gn : Nat) (A : Option Addr) (n c : Nat) (w : World) :
    Calls Tryz.prog 45 #[.agg #[.int .i64 (gn : Int), .slice A n c]] w fun e w' => e = .returned (.int .i64 ((gn % 2 : Nat) : Int)) ∧ Below w.heap.size w w' := by
  have B0 := Lib.hid ((Below.refl w.heap.size w).alloc (Nat.le_refl _) (.cells #[.int .i64 (gn : Int), .slice A n c] 49))
  have K0 := Lib.hid (Blk.new w 49 #[.int .i64 (gn : Int), .slice A n c])
  have e1 : (gn : Int).tmod 2 = ((gn % 2 : Nat) : Int) := by rw [Int.tmod_eq_emod_of_nonneg (by omega)]; omega
  have e2 : (gn : Int) % 2 = ((gn % 2 : Nat) : Int) := by omega
  have hw := IntWalk.i64_in ((gn % 2 : Nat) : Int) (by omega)
  generalize gn % 2 = q at *
  go_enter Tryz.func45, Tryz.ntmps45
  go_upto_region 1 with fail
  generalize w.alloc (.cells #[.int .i64 (gn : Int), .slice A n c] 49) = W at *
  have z0 := (K0.out.cell 0).trans (show _ = some (.int .i64 (gn : Int)) from rfl)
  go_wp2
  go_ret
  exact ⟨rfl, B0.out⟩
end Go.Proofs.YtefnkednnnlhoaaGreatDoor.Sr

/- Package store: writeRoot, Format. Conditions: those that each states. -/
namespace Go.Proofs.YtefnkednnnlhoaaGreatDoor.Sr
open Go.ChangeShapes Go.WideShapes Go.ChangeAt Go.RowKit Go.Deep Fr Di Ke Rk
set_option linter.unusedVariables false
set_option linter.unusedSimpArgs false

set_option maxRecDepth 100000 in
set_option maxHeartbeats 1000000 in
theorem writeRoot_any {B : Nat} {w : World} {lab : Nat → Nat} {g : Nat} {K : Kn} (h : KB B w lab g K) (hB : B ≤ w.heap.size) (n : Nat) (sm : K.Small n) (hn : n < 1000000) (gn : Nat) (A : Option Addr) (c : Nat) (ds : List Int) (hr : RowG w 1 A ds.length c (In.vi ds)) (hm : In.rootMay gn ds = true) :
    Calls Tryz.prog 27 #[.pointer (some ⟨g, 0, none⟩), .agg #[.int .i64 (gn : Int), .slice A ds.length c]] w fun e w' => e = .returned (.int .i64 (wrK K ((gn % 2 : Nat) : Int) (In.sealL (In.rootT gn ds))).2) ∧ ∃ lab', KTo B w w' lab lab' g (wrK K ((gn % 2 : Nat) : Int) (In.sealL (In.rootT gn ds))).1 := by
  have b0 : Below w.heap.size w (w.alloc (.cells #[.int .i64 (gn : Int), .slice A ds.length c] 49)) := (Below.refl _ w).alloc (Nat.le_refl _) _
  have B0 := Lib.hid b0
  have R0 := Lib.hid (Blk.new w 49 #[.int .i64 (gn : Int), .slice A ds.length c])
  have G0 := Lib.hid (hr.new b0)
  have H := Lib.hid h
  have HB := Lib.hid hB
  have SM := Lib.hid sm
  have HN := Lib.hid hn
  have HM := Lib.hid hm
  have SL := Lib.hid (show (In.sealL (In.rootT gn ds)).length = 256 from In.sealL_length (by
    unfold In.rootMay at hm
    simp only [Bool.and_eq_true, decide_eq_true_eq] at hm
    have := In.blkT_length ds
    simp [In.rootT, be_length]
    omega))
  obtain ⟨tx, htx⟩ : ∃ t, In.sealL (In.rootT gn ds) = t := ⟨_, rfl⟩
  obtain ⟨q, hq⟩ : ∃ q, gn % 2 = q := ⟨_, rfl⟩
  have PL := Lib.hid (fun w => placeOf_any gn A ds.length c w)
  rw [hq] at PL
  rw [htx] at SL
  rw [htx, hq]
  have HTX := Lib.hid htx
  clear b0 h hB sm hr hm htx hq
  go_enter Tryz.func27, Tryz.ntmps27
  go_upto_region 1 with fail
  generalize w.alloc (.cells #[.int .i64 (gn : Int), .slice A ds.length c] 49) = W at *
  have z0 := (R0.out.cell 0).trans (show _ = some (.int .i64 (gn : Int)) from rfl)
  have z1 := (R0.out.cell 1).trans (show _ = some (.slice A ds.length c) from rfl)
  go_wp2_with fail
  refine (In.packRoot_any (gn : Int) A c ds W G0.out).mono ?_; rintro e w1 ⟨b1, -, p1⟩
  obtain ⟨g1, c1, rfl, o1⟩ := p1 HM.out
  have B1 := Lib.hid (B0.out.trans (b1.mono B0.out.size))
  have R1 := Lib.hid (R0.out.older (older_below b1))
  rw [HTX.out] at o1
  have O1 := Lib.hid o1
  have WZ := Lib.hid (show w.heap.size ≤ W.heap.size from B0.out.size)
  clear b1 p1 o1 z0 z1 B0 R0 G0 HM
  have z0 := (R1.out.cell 0).trans (show _ = some (.int .i64 (gn : Int)) from rfl)
  have z1 := (R1.out.cell 1).trans (show _ = some (.slice A ds.length c) from rfl)
  go_wp2_with fail
  refine (PL.out w1).mono ?_; rintro e w2 ⟨rfl, b2⟩
  have B2 := Lib.hid (B1.out.trans (b2.mono B1.out.size))
  have O2 := Lib.hid (O1.out.below b2)
  clear b2 B1 R1 O1 z0 z1
  have KB2 := Lib.hid (H.out.new B2.out)
  have WR := Lib.hid (write_any KB2.out (Nat.le_trans HB.out B2.out.size) n SM.out HN.out (q : Int) (some ⟨g1, 0, none⟩) c1 tx (by rw [SL.out]; exact O2.out.src) (fun b o e => by
    have e2 : g1 = b := by simpa using congrArg (fun x => x.map Addr.block) e
    subst e2
    exact ⟨O2.out.lt, H.out.lab0 (Nat.le_trans WZ.out O2.out.base)⟩))
  rw [SL.out] at WR
  go_wp2_with fail
  refine WR.out.mono ?_; rintro e w3 ⟨rfl, lab3, T3⟩
  have T := Lib.hid ((KTo.fresh H.out HB.out B2.out).trans T3)
  clear T3 WR KB2
  go_wp2
  go_ret
  exact ⟨rfl, lab3, T.out⟩

/-- What Format does to a kernel. -/
def z256 : List UInt8 := List.replicate 256 0
def root1 : List UInt8 := In.sealL (In.rootT 1 [])
def fmtK (K : Kn) : Kn × Int :=
  if (wrK K 0 z256).2 ≠ 0 then wrK K 0 z256
  else if (wrK (wrK K 0 z256).1 1 root1).2 ≠ 0 then wrK (wrK K 0 z256).1 1 root1
  else syK (wrK (wrK K 0 z256).1 1 root1).1
theorem small_wr {K : Kn} {n : Nat} (h : K.Small n) (b : Int) (s : List UInt8) : (wrK K b s).1.Small (n + 1) := by
  have := small_call h ⟨7, 1, b, 0, 0, s, [], []⟩
  rw [callR_7 K 1 (.inl rfl) b 0 0 s [] []] at this
  exact this
theorem small_sy {K : Kn} {n : Nat} (h : K.Small n) : (syK K).1.Small (n + 1) := by
  have := small_call h (bare 8 1 0 0 0)
  rw [show callR K (bare 8 1 0 0 0) = ((syK K).1, 0, [], (syK K).2) from callR_8 K 1 (.inl rfl) 0 0 0 [] [] []] at this
  exact this

theorem format_nil (w : World) : Calls Tryz.prog 9 #[.pointer none] w fun e w' => e = .returned (.int .i64 3) ∧ w = w' := by
  go_enter Tryz.func9, Tryz.ntmps9
  go_wp2
  go_step3
  go_wp2
  rw [Exit.noGoto_ret]
  go_ret
  exact ⟨rfl, rfl⟩

set_option maxRecDepth 100000 in
set_option maxHeartbeats 1000000 in
theorem format_any {B : Nat} {w : World} {lab : Nat → Nat} {g : Nat} {K : Kn} (h : KB B w lab g K) (hB : B ≤ w.heap.size) (n : Nat) (sm : K.Small n) (hn : n + 3 < 1000000) :
    Calls Tryz.prog 9 #[.pointer (some ⟨g, 0, none⟩)] w fun e w' => e = .returned (.int .i64 (fmtK K).2) ∧ ∃ lab', KTo B w w' lab lab' g (fmtK K).1 := by
  have S1 := Lib.hid (small_wr sm 0 z256)
  have S2 := Lib.hid (small_wr S1.out 1 root1)
  have mk := fun W : World => make256 W
  have b1 : Below w.heap.size w (w.alloc (.cells (madeCells #[.int .u8 0] 256) 5)) := (Below.refl _ w).alloc (Nat.le_refl _) _
  have W1 := Lib.hid (show Calls Tryz.prog 26 #[.pointer (some ⟨g, 0, none⟩), .int .i64 0, .slice (some ⟨w.heap.size, 0, none⟩) 256 256] (w.alloc (.cells (madeCells #[.int .u8 0] 256) 5)) _ from write_any (h.new b1) (Nat.le_trans hB b1.size) n sm (by omega) 0 (some ⟨w.heap.size, 0, none⟩) 256 z256 (made256 w) (fun b o e => by
    have e2 : w.heap.size = b := by simpa using congrArg (fun x => x.map Addr.block) e
    subst e2
    exact ⟨by simp, h.lab0 (Nat.le_refl _)⟩))
  have T1 := Lib.hid (KTo.fresh h hB b1)
  have HB := Lib.hid hB
  have HN := Lib.hid hn
  have FK := Lib.hid (show fmtK K = if (wrK K 0 z256).2 ≠ 0 then wrK K 0 z256 else if (wrK (wrK K 0 z256).1 1 root1).2 ≠ 0 then wrK (wrK K 0 z256).1 1 root1 else syK (wrK (wrK K 0 z256).1 1 root1).1 from rfl)
  have W2 := Lib.hid (fun w lab (h : KB B w lab g (wrK K 0 z256).1) (hB : B ≤ w.heap.size) => show Calls Tryz.prog 27 #[.pointer (some ⟨g, 0, none⟩), .agg #[.int .i64 1, .slice none 0 0]] w (fun e w' => e = .returned (.int .i64 (wrK (wrK K 0 z256).1 1 root1).2) ∧ ∃ lab', KTo B w w' lab lab' g (wrK (wrK K 0 z256).1 1 root1).1) from writeRoot_any h hB (n + 1) S1.out (by omega) 1 none 0 [] (RowG.nil w 1) (by decide))
  have W3 := Lib.hid (fun w lab (h : KB B w lab g (wrK (wrK K 0 z256).1 1 root1).1) (hB : B ≤ w.heap.size) => sync_any h hB (n + 1 + 1) S2.out (by omega))
  obtain ⟨r, hr⟩ : ∃ r, fmtK K = r := ⟨_, rfl⟩
  rw [hr] at FK ⊢
  clear hr h hB sm hn b1 S1 S2
  generalize wrK K 0 z256 = r1 at *
  generalize wrK r1.1 1 root1 = r2 at *
  generalize syK r2.1 = r3 at *
  go_enter Tryz.func9, Tryz.ntmps9
  by_cases e1 : r1.2 = 0
  rotate_left
  · have e1' : (r1.2 == 0) = false := by simpa using e1
    have FK := Lib.hid (FK.out.trans (if_pos e1))
    clear W2 W3
    go_wp2
    refine scope_once 0 rfl ?_
    go_wp2_with fail
    refine W1.out.mono ?_; rintro e w1 ⟨rfl, lab1, T2⟩
    have T := Lib.hid (T1.out.trans T2)
    clear T2 W1 T1
    go_wp2
    go_step3
    refine ⟨rfl, ?_⟩
    go_wp2
    rw [Exit.noGoto_ret]
    go_ret
    exact ⟨by rw [FK.out]; rfl, lab1, by rw [FK.out]; exact T.out⟩
  have FK := Lib.hid (FK.out.trans (if_neg (fun h => h e1)))
  by_cases e2 : r2.2 = 0
  rotate_left
  · have e2' : (r2.2 == 0) = false := by simpa using e2
    have FK := Lib.hid (FK.out.trans (if_pos e2))
    clear W3
    go_wp2
    refine scope_once 0 rfl ?_
    go_wp2_with fail
    refine W1.out.mono ?_; rintro e w1 ⟨rfl, lab1, T2⟩
    have T := Lib.hid (T1.out.trans T2)
    clear T2 W1 T1
    have W2 := Lib.hid (W2.out w1 lab1 T.out.1 (Nat.le_trans HB.out T.out.2.2.size))
    go_wp2_with fail
    refine W2.out.mono ?_; rintro e w2 ⟨rfl, lab2, T2⟩
    have T := Lib.hid (T.out.trans T2)
    clear T2 W2
    go_wp2
    go_step3
    refine ⟨rfl, ?_⟩
    go_wp2
    rw [Exit.noGoto_ret]
    go_ret
    exact ⟨by rw [FK.out]; rfl, lab2, by rw [FK.out]; exact T.out⟩
  have FK := Lib.hid (FK.out.trans (if_neg (fun h => h e2)))
  go_wp2
  go_step3
  go_wp2_with fail
  refine W1.out.mono ?_; rintro e w1 ⟨rfl, lab1, T2⟩
  have T := Lib.hid (T1.out.trans T2)
  clear T2 W1 T1
  have W2 := Lib.hid (W2.out w1 lab1 T.out.1 (Nat.le_trans HB.out T.out.2.2.size))
  go_wp2_with fail
  refine W2.out.mono ?_; rintro e w2 ⟨rfl, lab2, T2⟩
  have T := Lib.hid (T.out.trans T2)
  clear T2 W2
  have W3 := Lib.hid (W3.out w2 lab2 T.out.1 (Nat.le_trans HB.out T.out.2.2.size))
  go_wp2_with fail
  refine W3.out.mono ?_; rintro e w3 ⟨rfl, lab3, T2⟩
  have T := Lib.hid (T.out.trans T2)
  clear T2 W3
  go_wp2
  go_step3
  go_wp2
  rw [Exit.noGoto_ret]
  go_ret
  exact ⟨by rw [FK.out]; rfl, lab3, by rw [FK.out]; exact T.out⟩
end Go.Proofs.YtefnkednnnlhoaaGreatDoor.Sr

/- append(text, make([]byte, k)...), text a row of the call's own. Conditions: those that each states. -/
namespace Go.Proofs.YtefnkednnnlhoaaGreatDoor.In
open Go.ChangeShapes Go.WideShapes Go.ChangeAt Go.RowKit Go.Deep Fl Rk
set_option linter.unusedVariables false

theorem zeroCells_bys (k : Nat) : Builtin.zeroCells (Value.int .u8 0).cells k = (bys (List.replicate k 0)).toArray := by
  apply Array.ext'
  refine List.ext_getElem (by rw [Array.length_toList, size_zeroCells]; simp [bys, Value.cells]) fun j h1 h2 => ?_
  have e : ∀ z : Array Value, z = #[.int .u8 0] → (Array.map (fun i => z[i % z.size]!) (Array.range (k * z.size)))[j]? = some (.int .u8 0) := by
    rintro z rfl
    have hj : j < k * 1 := by simpa [bys] using h2
    have hj' : j < k * (#[Value.int .u8 0] : Array Value).size := hj
    rw [Array.getElem?_map, Array.getElem?_range, if_pos hj']
    have e : j % (#[Value.int .u8 0] : Array Value).size = 0 := Nat.mod_one j
    simp only [Option.map_some, e]
    rfl
  have e2 : (Builtin.zeroCells (Value.int .u8 0).cells k).toList[j]? = some (.int .u8 0) := by rw [Array.getElem?_toList]; exact e _ rfl
  rw [List.getElem?_eq_getElem h1] at e2
  injection e2 with e2
  rw [e2]
  simp [bys]
theorem append_zeros (ty : TypeId) {w : World} {base g n c : Nat} {l : List UInt8} (h : OwnB w base g n c l) (k : Nat) (hk : k ≤ 1000) (hn : n ≤ 1000) (hbase : base ≤ w.heap.size) :
    ∃ g' c' w', (Builtin.append_ #[31, 3] ty #[.slice (some ⟨g, 0, none⟩) n c, .int .i64 (k : Int)]).run Tryz.prog w = .ok (.slice (some ⟨g', 0, none⟩) (n + k) c') w' ∧
      OwnB w' base g' (n + k) c' (l ++ List.replicate k 0) ∧ w.grownBy w' (some g) := by
  obtain ⟨i0, hi, hz0, hz1, hz2⟩ := u8_info
  have hlen := h.bytes.len
  have hkz : IntKind.i64.wrap (k : Int) = k := IntWalk.i64_in _ (by omega)
  rcases h.own.2 with ⟨e, _⟩ | ⟨g0, cap, cur, e, hbg, hh, hnc, hcm, hcs, htake⟩
  · cases e
  · injection e with e1 e2 e3
    injection e1 with e1
    injection e1 with e1
    subst e1 e3
    have hcs' : cur.size = c := by simpa using hcs
    have htake' : cur.toList.take n = bys l := by simpa using htake
    by_cases hroom : n + k ≤ c
    · have hst := run_storeCells_at Tryz.prog g n 5 (bys (List.replicate k 0)) 0 cur w hh (by rw [bys_length, List.length_replicate]; omega) (fun v hv => bys_one hv)
      simp only [Nat.add_zero, bys_length, List.length_replicate] at hst
      refine ⟨g, c, w.setRow g (cur.toList.take n ++ bys (List.replicate k 0) ++ cur.toList.drop (n + k)).toArray, ?_, ⟨⟨?_, .inr ⟨g, c, _, rfl, hbg, setRow_heap w g cur _ _ _ hh, hroom, hcm, ?_, ?_⟩⟩, h.base, by have := h.lt; simpa [World.setRow] using this, hroom, h.max⟩, ⟨rfl, rfl, rfl, by simp, fun j _ hj => setRow_other w g j _ (fun e => hj (by rw [e]))⟩⟩
      · have hneg : ¬ ((k : Int) < 0) := by omega
        have h48 : ¬ (281474976710656 < (k : Int)) := by omega
        by_cases hk0 : k = 0
        · subst hk0
          have e0 : w.setRow g (cur.toList.take n ++ bys (List.replicate 0 0) ++ cur.toList.drop (n + 0)).toArray = w := by
            have : bys (List.replicate 0 0) = [] := rfl
            rw [this, List.append_nil, Nat.add_zero, List.take_append_drop, Array.toArray_toList]
            exact setRow_self w g cur _ _ hh
          rw [e0]
          rw [Nat.add_zero] at hroom
          simp [Builtin.append_, run_underlying Tryz.underlying31, run_underlying Tryz.underlying3, sizeOf, typeInfo, hi, hz2, asInt, asIntOf, hroom, Addr.add_lit, storeCells, (show IntKind.i64.wrap 0 = 0 from rfl)]
        · simp [Builtin.append_, run_underlying Tryz.underlying31, run_underlying Tryz.underlying3, sizeOf, typeInfo, zeroValue, hi, hz0, hz1, hz2, asInt, asIntOf, hkz, hneg, h48, hk0, hroom, Addr.add_lit, zeroCells_bys, hst]
      · rw [bys_length, List.length_append, List.length_replicate, hlen, Nat.mul_one]
      · simp only [List.size_toArray, List.length_append, List.length_take, List.length_drop, Array.length_toList, bys_length, List.length_replicate]
        omega
      · rw [htake', ← bys_append, Nat.mul_one]
        show (bys (l ++ List.replicate k 0) ++ cur.toList.drop (n + k)).take (n + k) = _
        have e3 : (bys (l ++ List.replicate k 0)).length = n + k := by rw [bys_length, List.length_append, List.length_replicate, hlen]
        rw [List.take_append_of_le_length (Nat.le_of_eq e3.symm)]
        exact List.take_of_length_le (Nat.le_of_eq e3)
    · have holds : ∀ j u, (bys l)[j]? = some u → w.drew.cell? ((⟨g, 0, none⟩ : Addr).add j) = some u := fun j u hu => h.bytes.at_ _ j u hu
      have hfo := run_firstCells_some (P := Tryz.prog) w.drew i0.size n ⟨g, 0, none⟩ n c (bys l) (by rw [bys_length, hlen, hz1, Nat.mul_one]) holds
      have hr := Lib.run_append_grow_zeros (P := Tryz.prog) w 31 3 ty 5 i0 (.int .u8 0) .i64 .i64 Tryz.underlying31 Tryz.underlying3 hi hz0 (some ⟨g, 0, none⟩) n c (bys l) hfo k (by omega) (by rw [hz1]; omega) (by omega) (by omega) (by rw [hz2]; omega)
        (by rw [hz2]; exact growslice_fits (by omega) (by omega))
      have hge := grownCap_ge w (n + k) c 5
      have hcm2 : grownCap w (n + k) c 5 ≤ maxLen := grownCap_le_maxLen w (n + k) c 5 (by unfold maxLen; omega)
      refine ⟨_, _, _, hr, ⟨⟨?_, .inr ⟨w.heap.size, _, _, rfl, hbase, heap_alloc_new w.drew _, hge, hcm2, ?_, ?_⟩⟩, hbase, (Array.getElem?_eq_some_iff.1 (heap_alloc_new w.drew _)).1, hge, hcm2⟩, ⟨rfl, rfl, rfl, by simp, fun j hj _ => heap_alloc_old w.drew _ hj⟩⟩
      · rw [bys_length, List.length_append, List.length_replicate, hlen, Nat.mul_one]
      · have hz1 : (Value.int IntKind.u8 0).cells.size = 1 := rfl
        simp only [Array.size_append, List.size_toArray, size_zeroCells, hz1, bys_length, hlen]
        omega
      · rw [zeroCells_bys]
        simp only [Array.toList_append, List.append_assoc]
        rw [← List.append_assoc, ← bys_append]
        exact List.take_left' (by rw [bys_length, List.length_append, List.length_replicate, hlen, Nat.mul_one])
theorem wpList_append_zeros {ops : Array Oper} {rest : List Oper} {o : Oper} {a : Act} {Q : Exit → Act → World → Prop} {w : World} (hgd : o.guard = none) (s x : Operand)
    (ho : o.op = .call { callee := .builtin .append, args := #[s, x], argTypes := #[31, 3] }) {base g n c : Nat} {l : List UInt8} (hs : a.eval s = .slice (some ⟨g, 0, none⟩) n c) (hown : OwnB w base g n c l)
    {z : Int} (k : Nat) (hx : a.eval x = .int .i64 z) (hzk : z = (k : Int)) (hk : k ≤ 1000) (hn : n ≤ 1000) (hbase : base ≤ w.heap.size)
    (h : ∀ g' c' w', OwnB w' base g' (n + k) c' (l ++ List.replicate k 0) → Below base w w' → wpList Tryz.prog ops Q rest (a.put o.dst (.slice (some ⟨g', 0, none⟩) (n + k) c')) w') : wpList Tryz.prog ops Q (o :: rest) a w := by
  subst hzk
  refine wpList_plain hgd fun K hK => ?_
  obtain ⟨g', c', w', hr, h2, h3⟩ := append_zeros o.type hown k hk hn hbase
  unfold Oper.wp execOp
  simp only [ho, resolve, invoke, builtin, Sem.run_bind, Sem.run_pure, Result.andThen_ok, List.map_toArray, List.map_cons, List.map_nil, hs, hx, hr]
  exact hK _ _ (h g' c' w' h2 ⟨h3.os, h3.tape, h3.output, h3.size, fun i hi => h3.block i (by omega) (fun e => by have := hown.base; injection e with e; omega)⟩)
/-- append(text, name...), name a text. -/
theorem wpList_append_text {ops : Array Oper} {rest : List Oper} {o : Oper} {a : Act} {Q : Exit → Act → World → Prop} {w : World} (hgd : o.guard = none) (s x : Operand)
    (ho : o.op = .call { callee := .builtin .append, args := #[s, x], argTypes := #[31, 9] }) {base g n c : Nat} {l : List UInt8} (hs : a.eval s = .slice (some ⟨g, 0, none⟩) n c) (hown : OwnB w base g n c l)
    (t : List UInt8) (hx : a.eval x = .string ⟨t.toArray⟩) (hk : t.length ≤ 1000) (hn : n ≤ 1000) (hn0 : 0 < n) (hbase : base ≤ w.heap.size)
    (h : ∀ g' c' w', OwnB w' base g' (n + t.length) c' (l ++ t) → Below base w w' → wpList Tryz.prog ops Q rest (a.put o.dst (.slice (some ⟨g', 0, none⟩) (n + t.length) c')) w') : wpList Tryz.prog ops Q (o :: rest) a w := by
  obtain ⟨i0, hi, hz0, hz1, hz2⟩ := u8_info
  have hsz : (⟨t.toArray⟩ : ByteArray).size = t.length := rfl
  refine Lib.wpList_append_own_string w hgd s x 31 9 ho base 5 i0 Tryz.underlying31 Tryz.underlying9 hi hz0 hz1 hz2 _ n (bys l) hs hown.own ⟨t.toArray⟩ hx (by rw [hsz]; unfold maxLen; omega) (by rw [hsz]; omega) hbase ?_
  intro v' w' h1 h2 _
  have e : bys l ++ Lib.strCells ⟨t.toArray⟩ = bys (l ++ t) := by rw [bys_append]; congr 1
  rw [e, hsz] at h1
  obtain ⟨g', c', rfl, O⟩ := OwnB.of h1 (by omega)
  exact h g' c' w' O ⟨h2.os, h2.tape, h2.output, h2.size, fun i hi => h2.block i (by omega) (fun e => by have := hown.base; simp [Value.ownBlock] at e; omega)⟩
end Go.Proofs.YtefnkednnnlhoaaGreatDoor.In
