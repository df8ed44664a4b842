/- Package rto: a clock in plain words and in memory; its calls. Conditions: those that each states. -/
import Derived.Test.YtldmcoagjgeeoaaBase
import Derived.Test.YtldmcoagjgeeoaaApp
import Derived.RegionTactic
import Derived.BigRegion
import Derived.WalkMore
import Derived.StillTailTactics
import Derived.Deep.QuietTactic
import Derived.BigQuiet
import Derived.Deep.OwnRows
namespace Go.Proofs.Ytldmcoagjgeeoaa.Rt
open Go.ChangeShapes Go.WideShapes Go.ChangeAt Go.RowKit Go.Deep
set_option linter.unusedVariables false
set_option linter.unusedSimpArgs false

/-- A clock: eighths, quarters, whether there was a sample, the wait. -/
structure Clk where
  s : Int
  v : Int
  b : Bool
  w : Int
deriving DecidableEq
def cutR (n lo hi : Int) : Int := max lo (min n hi)
def k0 : Clk := ⟨0, 0, false, 4⟩
def smoothR (c : Clk) (t : Int) : Int := if c.b then c.s + (t - c.s / 8) else t * 8
def swingR (c : Clk) (t : Int) : Int := if c.b then c.v - c.v / 4 + max (t - c.s / 8) (-(t - c.s / 8)) else t * 2
def sampR (c : Clk) (n : Int) : Clk :=
  ⟨smoothR c (cutR n 0 64), swingR c (cutR n 0 64), true, cutR (smoothR c (cutR n 0 64) / 8 + max 1 (swingR c (cutR n 0 64))) 2 64⟩
def backR (c : Clk) : Clk := { c with w := min (c.w * 2) 64 }
/-- What is small. -/
structure Sm (c : Clk) : Prop where
  s : 0 ≤ c.s ∧ c.s ≤ 519
  v : 0 ≤ c.v ∧ c.v ≤ 259
  w : 2 ≤ c.w ∧ c.w ≤ 64
theorem cutR_in (n lo hi : Int) (h : lo ≤ hi) : lo ≤ cutR n lo hi ∧ cutR n lo hi ≤ hi := by unfold cutR; omega
theorem sm_0 : Sm k0 := ⟨by decide, by decide, by decide⟩
theorem sm_mid {c : Clk} (h : Sm c) {t : Int} (ht : 0 ≤ t ∧ t ≤ 64) : (0 ≤ smoothR c t ∧ smoothR c t ≤ 519) ∧ (0 ≤ swingR c t ∧ swingR c t ≤ 259) := by
  have h1 := h.s
  have h2 := h.v
  unfold smoothR swingR
  split <;> omega
theorem sm_samp {c : Clk} (h : Sm c) (n : Int) : Sm (sampR c n) :=
  ⟨(sm_mid h (cutR_in n 0 64 (by decide))).1, (sm_mid h (cutR_in n 0 64 (by decide))).2, cutR_in _ _ _ (by decide)⟩
theorem sm_back {c : Clk} (h : Sm c) : Sm (backR c) := ⟨h.s, h.v, by have := h.w; show 2 ≤ min (c.w * 2) 64 ∧ min (c.w * 2) 64 ≤ 64; omega⟩

/-- The clock in memory. -/
def vals (c : Clk) : Array Value := #[.int .i64 c.s, .int .i64 c.v, .bool c.b, .int .i64 c.w]
def At (w : World) (g : Nat) (c : Clk) : Prop := Blk w g 76 (vals c)
/-- What a call leaves of a clock of the call's own. -/
structure Own (w0 w : World) (g : Nat) (c : Clk) : Prop where
  at_ : At w g c
  below : Below w0.heap.size w0 w
  own : w0.heap.size ≤ g
theorem Own.drewN {w0 w : World} {g : Nat} {c : Clk} (h : Own w0 w g c) (m : Nat) : Own w0 (w.drewN m) g c := ⟨h.at_, below_drewN h.below m, h.own⟩
theorem Own.set {w0 w : World} {g : Nat} {c c' : Clk} (h : Own w0 w g c) (i : Nat) (u : Value) (hv : (vals c).setIfInBounds i u = vals c') : Own w0 (w.setCell ⟨g, i, none⟩ u) g c' :=
  ⟨by have := Blk.put h.at_ i u; rw [hv] at this; exact this, h.below.trans ((Chg.set w (S := fun k => k = g) i u rfl).below h.below.size (fun k hk => by have := h.own; omega)), h.own⟩
theorem Own.c0 {w0 w : World} {g : Nat} {c : Clk} (h : Own w0 w g c) : w.cell? ⟨g, 0, none⟩ = some (.int .i64 c.s) := (Blk.cell h.at_ 0)
theorem Own.c1 {w0 w : World} {g : Nat} {c : Clk} (h : Own w0 w g c) : w.cell? ⟨g, 1, none⟩ = some (.int .i64 c.v) := (Blk.cell h.at_ 1)
theorem Own.c2 {w0 w : World} {g : Nat} {c : Clk} (h : Own w0 w g c) : w.cell? ⟨g, 2, none⟩ = some (.bool c.b) := (Blk.cell h.at_ 2)
theorem Own.c3 {w0 w : World} {g : Nat} {c : Clk} (h : Own w0 w g c) : w.cell? ⟨g, 3, none⟩ = some (.int .i64 c.w) := (Blk.cell h.at_ 3)
theorem Own.fr {w0 w : World} {g : Nat} {c : Clk} (h : Own w0 w g c) (i : Nat) : w.frozen? ⟨g, i, none⟩ = false := Blk.frozen h.at_ i

/-- The clock beside a world that stood: only its block has turned. -/
structure Mv (w0 w : World) (g : Nat) (c : Clk) : Prop where
  at_ : At w g c
  chg : Chg w0 w (fun k => k = g)
theorem Mv.drewN {w0 w : World} {g : Nat} {c : Clk} (h : Mv w0 w g c) (m : Nat) : Mv w0 (w.drewN m) g c := ⟨h.at_, h.chg.drewN m⟩
theorem Mv.set {w0 w : World} {g : Nat} {c c' : Clk} (h : Mv w0 w g c) (i : Nat) (u : Value) (hv : (vals c).setIfInBounds i u = vals c') : Mv w0 (w.setCell ⟨g, i, none⟩ u) g c' :=
  ⟨by have := Blk.put h.at_ i u; rw [hv] at this; exact this, h.chg.trans (Chg.set w (S := fun k => k = g) i u rfl)⟩
theorem Mv.c0 {w0 w : World} {g : Nat} {c : Clk} (h : Mv w0 w g c) : w.cell? ⟨g, 0, none⟩ = some (.int .i64 c.s) := (Blk.cell h.at_ 0)
theorem Mv.c1 {w0 w : World} {g : Nat} {c : Clk} (h : Mv w0 w g c) : w.cell? ⟨g, 1, none⟩ = some (.int .i64 c.v) := (Blk.cell h.at_ 1)
theorem Mv.c2 {w0 w : World} {g : Nat} {c : Clk} (h : Mv w0 w g c) : w.cell? ⟨g, 2, none⟩ = some (.bool c.b) := (Blk.cell h.at_ 2)
theorem Mv.c3 {w0 w : World} {g : Nat} {c : Clk} (h : Mv w0 w g c) : w.cell? ⟨g, 3, none⟩ = some (.int .i64 c.w) := (Blk.cell h.at_ 3)
theorem Mv.fr {w0 w : World} {g : Nat} {c : Clk} (h : Mv w0 w g c) (i : Nat) : w.frozen? ⟨g, i, none⟩ = false := Blk.frozen h.at_ i

theorem cut_any (n lo hi : Int) (w : World) :
    Calls Try.prog 59 #[.int .i64 n, .int .i64 lo, .int .i64 hi] w fun e w' => e = .returned (.int .i64 (cutR n lo hi)) ∧ w' = w := by
  go_enter Try.func59, Try.ntmps59
  go_wp2
  all_goals go_ret
  all_goals (refine ⟨congrArg (fun x => Ending.returned (Value.int .i64 x)) ?_, rfl⟩; unfold cutR; omega)

theorem new_any (w : World) :
    Calls Try.prog 21 #[] w fun e w' => e = .returned (.pointer (some ⟨w.heap.size, 0, none⟩)) ∧ Own w w' w.heap.size k0 := by
  go_enter Try.func21, Try.ntmps21
  go_wp2
  go_ret
  exact ⟨rfl, Blk.new _ _ _, (Below.refl _ w).alloc (Nat.le_refl _) _, Nat.le_refl _⟩

theorem wait_any {w0 w : World} {g : Nat} {c : Clk} (h : Own w0 w g c) :
    Calls Try.prog 38 #[.pointer (some ⟨g, 0, none⟩)] w fun e w' => e = .returned (.int .i64 c.w) ∧ w' = w := by
  have c3 := h.c3
  clear h
  go_enter Try.func38, Try.ntmps38
  go_wp2
  go_ret
  exact ⟨rfl, rfl⟩
theorem back_mv {w0 w : World} {g : Nat} {c : Clk} (h : Mv w0 w g c) (hs : Sm c) :
    Calls Try.prog 32 #[.pointer (some ⟨g, 0, none⟩)] w fun e w' => e = .returned (.tuple #[]) ∧ Mv w0 w' g (backR c) := by
  have H := Lib.hid h
  have c3 := h.c3
  have f3 := h.fr 3
  have b3 := hs.w
  have x1 : wrap64 (c.w * 2) = c.w * 2 := by unfold wrap64; omega
  clear h
  go_enter Try.func32, Try.ntmps32
  go_wp2
  all_goals go_end0
  · exact ⟨rfl, H.out.set 3 _ (by rw [show backR c = { c with w := 64 } from congrArg (fun x => { c with w := x }) (by omega)]; rfl)⟩
  · exact ⟨rfl, H.out.set 3 _ (by rw [show backR c = { c with w := c.w * 2 } from congrArg (fun x => { c with w := x }) (by omega)]; rfl)⟩

theorem sample_mv {w0 w : World} {g : Nat} {c : Clk} (h : Mv w0 w g c) (hs : Sm c) (n : Int) :
    Calls Try.prog 55 #[.pointer (some ⟨g, 0, none⟩), .int .i64 n] w fun e w' => e = .returned (.tuple #[]) ∧ Mv w0 w' g (sampR c n) := by
  have T := cutR_in n 0 64 (by decide)
  have M := sm_mid hs T
  have s1 := hs.s
  have s2 := hs.v
  have E := Lib.hid (show sampR c n = ⟨smoothR c (cutR n 0 64), swingR c (cutR n 0 64), true, cutR (smoothR c (cutR n 0 64) / 8 + max 1 (swingR c (cutR n 0 64))) 2 64⟩ from rfl)
  obtain ⟨r, hr⟩ : ∃ r, r = sampR c n := ⟨_, rfl⟩
  rw [← hr] at E ⊢
  clear hr
  have H := Lib.hid h
  go_enter Try.func55, Try.ntmps55
  go_wp2_with fail
  refine (cut_any n 0 64 w).mono ?_; rintro e w' ⟨rfl, rfl⟩
  generalize cutR n 0 64 = t at *
  obtain ⟨a, ha⟩ : ∃ a, a = smoothR c t := ⟨_, rfl⟩
  obtain ⟨u, hu⟩ : ∃ u, u = swingR c t := ⟨_, rfl⟩
  rw [← ha, ← hu] at E M
  have c0 := h.c0
  have c1 := h.c1
  have c2 := h.c2
  have c3 := h.c3
  have f0 := h.fr 0
  have f1 := h.fr 1
  have f2 := h.fr 2
  have f3 := h.fr 3
  clear h
  have fin : ∀ (W : World), Mv w0 W g ⟨a, u, true, c.w⟩ → ∃ X, X = cutR (a / 8 + max 1 u) 2 64 ∧ Mv w0 (W.setCell ⟨g, 3, none⟩ (.int .i64 X)) g r := by
    intro W hW
    refine ⟨_, rfl, ?_⟩
    rw [E.out]
    exact hW.set 3 _ rfl
  have FIN := Lib.hid fin
  clear fin E
  cases hb : c.b with
  | true =>
    have x1 : a = c.s + (t - c.s / 8) := by rw [ha]; unfold smoothR; rw [hb]; rfl
    have x2 : u = c.v - c.v / 4 + max (t - c.s / 8) (-(t - c.s / 8)) := by rw [hu]; unfold swingR; rw [hb]; rfl
    rw [hb] at c2
    clear ha hu
    have X1 := Lib.hid x1
    have X2 := Lib.hid x2
    clear x1 x2
    go_wp2_with fail
    rw [← X1.out]
    have H1 := Lib.hid (show Mv w0 (w'.setCell ⟨g, 0, none⟩ (.int .i64 a)) g ⟨a, c.v, true, c.w⟩ from H.out.set 0 _ (by unfold vals; rw [hb]; rfl))
    generalize w'.setCell ⟨g, 0, none⟩ (.int .i64 a) = w1 at *
    clear H c0 c1 c2 c3 f0 f1 f2 f3
    have c0 := H1.out.c0
    have c1 := H1.out.c1
    have f1 := H1.out.fr 1
    have z1 := IntWalk.i64_in (t - c.s / 8) (by omega)
    generalize hd : t - c.s / 8 = d at *
    have y1 := IntWalk.i64_in (-d) (by omega)
    obtain ⟨m, hm⟩ : ∃ m, m = max d (-d) := ⟨_, rfl⟩
    have y2 : 0 ≤ m ∧ m ≤ 64 := by omega
    have y3 : (if d < -d then -d else d) = m := by omega
    rw [← hm] at X2
    clear hm
    have z2 := IntWalk.i64_in (m - c.v / 4) (by omega)
    have z3 : IntKind.i64.wrap (c.v + (m - c.v / 4)) = u := by rw [IntWalk.i64_in _ (by have := X2.out; omega)]; have := X2.out; omega
    clear X1 hd T X2
    refine wp_region_still_tail 17 (by kernel_rfl) (by kernel_rfl) ?_
    change wpStill _ _ w1.drew (fun a' => wpList _ _ _ _ a' w1.drew) _ _
    simp only [List.take_succ_cons, List.take_zero, List.drop_succ_cons, List.drop_zero]
    repeat still_step
    refine wpStill_nil ?_
    go_wp2_with fail
    generalize hW : (w1.setCell ⟨g, 1, none⟩ (.int .i64 u)).drew = w2 at *
    have H2 := Lib.hid (show Mv w0 w2 g ⟨a, u, true, c.w⟩ from by rw [← hW]; exact (H1.out.set 1 (.int .i64 u) rfl).drewN 1)
    clear hW H1 c0 c1 f1 y1 y3 z1 z2 z3
    have c0 := H2.out.c0
    have c1 := H2.out.c1
    have c3 := H2.out.c3
    have f3 := H2.out.fr 3
    obtain ⟨X, hX, F⟩ := FIN.out w2.drew (H2.out.drewN 1)
    have F' := Lib.hid F
    have y5 : (if 1 < u then u else 1) = max 1 u := by omega
    obtain ⟨mu, hmu⟩ : ∃ mu, mu = max 1 u := ⟨_, rfl⟩
    rw [← hmu] at y5 hX
    have y6 := IntWalk.i64_in (a / 8 + mu) (by omega)
    have CA := Lib.hid (fun W => cut_any (a / 8 + mu) 2 64 W)
    rw [← hX] at CA
    clear FIN F hmu hX
    refine wp_region_still_tail 15 (by kernel_rfl) (by kernel_rfl) ?_
    change wpStill _ _ w2.drew (fun a' => wpList _ _ _ _ a' w2.drew) _ _
    simp only [List.take_succ_cons, List.take_zero, List.drop_succ_cons, List.drop_zero]
    repeat still_step
    still_call (CA.out w2.drew)
    repeat still_step
    refine wpStill_nil ?_
    go_wp2
    go_end0
    exact ⟨rfl, F'.out⟩
  | false =>
    have x1 : a = t * 8 := by rw [ha]; unfold smoothR; rw [hb]; rfl
    have x2 : u = t * 4 / 2 := by rw [hu]; unfold swingR; rw [hb]; show t * 2 = _; omega
    rw [hb] at c2
    clear ha hu
    go_wp2_with fail
    rw [← x1, ← x2]
    clear x1 x2 T
    generalize hW : ((w'.setCell ⟨g, 0, none⟩ (.int .i64 a)).setCell ⟨g, 1, none⟩ (.int .i64 u)).setCell ⟨g, 2, none⟩ (.bool true) = w2 at *
    have H2 := Lib.hid (show Mv w0 w2 g ⟨a, u, true, c.w⟩ from by rw [← hW]; exact ((H.out.set 0 (.int .i64 a) (c' := ⟨a, c.v, c.b, c.w⟩) rfl).set 1 (.int .i64 u) (c' := ⟨a, u, c.b, c.w⟩) rfl).set 2 (.bool true) rfl)
    clear hW H c0 c1 c2 c3 f0 f1 f2 f3
    have c0 := H2.out.c0
    have c1 := H2.out.c1
    have c3 := H2.out.c3
    have f3 := H2.out.fr 3
    obtain ⟨X, hX, F⟩ := FIN.out w2.drew (H2.out.drewN 1)
    have F' := Lib.hid F
    have y5 : (if 1 < u then u else 1) = max 1 u := by omega
    obtain ⟨mu, hmu⟩ : ∃ mu, mu = max 1 u := ⟨_, rfl⟩
    rw [← hmu] at y5 hX
    have y6 := IntWalk.i64_in (a / 8 + mu) (by omega)
    have CA := Lib.hid (fun W => cut_any (a / 8 + mu) 2 64 W)
    rw [← hX] at CA
    clear FIN F hmu hX
    refine wp_region_still_tail 15 (by kernel_rfl) (by kernel_rfl) ?_
    change wpStill _ _ w2.drew (fun a' => wpList _ _ _ _ a' w2.drew) _ _
    simp only [List.take_succ_cons, List.take_zero, List.drop_succ_cons, List.drop_zero]
    repeat still_step
    still_call (CA.out w2.drew)
    repeat still_step
    refine wpStill_nil ?_
    go_wp2
    go_end0
    exact ⟨rfl, F'.out⟩


theorem Own.mv {w0 w w' : World} {g : Nat} {c c' : Clk} (h : Own w0 w g c) (k : Mv w w' g c') : Own w0 w' g c' :=
  ⟨k.at_, h.below.trans (k.chg.below h.below.size (fun i hi => by have := h.own; omega)), h.own⟩
theorem back_any {w0 w : World} {g : Nat} {c : Clk} (h : Own w0 w g c) (hs : Sm c) :
    Calls Try.prog 32 #[.pointer (some ⟨g, 0, none⟩)] w fun e w' => e = .returned (.tuple #[]) ∧ Own w0 w' g (backR c) ∧ Chg w w' (fun k => k = g) :=
  (back_mv (w0 := w) ⟨h.at_, Chg.refl _ _⟩ hs).mono fun e w' ⟨he, k⟩ => ⟨he, h.mv k, k.chg⟩
theorem sample_any {w0 w : World} {g : Nat} {c : Clk} (h : Own w0 w g c) (hs : Sm c) (n : Int) :
    Calls Try.prog 55 #[.pointer (some ⟨g, 0, none⟩), .int .i64 n] w fun e w' => e = .returned (.tuple #[]) ∧ Own w0 w' g (sampR c n) ∧ Chg w w' (fun k => k = g) :=
  (sample_mv (w0 := w) ⟨h.at_, Chg.refl _ _⟩ hs n).mono fun e w' ⟨he, k⟩ => ⟨he, h.mv k, k.chg⟩

theorem wait_nil (w : World) : Calls Try.prog 38 #[.pointer none] w fun e w' => e = .returned (.int .i64 0) ∧ w' = w := by
  go_enter Try.func38, Try.ntmps38
  go_wp2
  go_ret
  exact ⟨rfl, rfl⟩
theorem back_nil (w : World) : Calls Try.prog 32 #[.pointer none] w fun e w' => e = .returned (.tuple #[]) ∧ w' = w := by
  go_enter Try.func32, Try.ntmps32
  go_wp2
  (first | go_end0 | ((try simp only [Exit.inBlock, Exit.then]); refine bodyPost_ret (results_none rfl _ _ _) rfl ?_))
  exact ⟨rfl, rfl⟩
theorem sample_nil (n : Int) (w : World) : Calls Try.prog 55 #[.pointer none, .int .i64 n] w fun e w' => e = .returned (.tuple #[]) ∧ w' = w := by
  go_enter Try.func55, Try.ntmps55
  go_wp2
  (first | go_end0 | ((try simp only [Exit.inBlock, Exit.then]); refine bodyPost_ret (results_none rfl _ _ _) rfl ?_))
  exact ⟨rfl, rfl⟩
end Go.Proofs.Ytldmcoagjgeeoaa.Rt
