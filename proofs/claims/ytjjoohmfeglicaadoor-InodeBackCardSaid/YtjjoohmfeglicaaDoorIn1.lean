/- Layer 11: numbers, words, lists of blocks and of parts, put. Conditions: those that each states. -/
import Derived.Test.YtjjoohmfeglicaaDoorIn
import Derived.Test.YtjjoohmfeglicaaDoorPa3
import Derived.Laws.IdiomStrings
import Derived.Laws.BytesString
import Derived.Laws.BytesArg
namespace Go.Proofs.YtjjoohmfeglicaaDoor.In
open Go.ChangeShapes Go.WideShapes Go.ChangeAt Go.RowKit Go.Deep Fl Rk
set_option linter.unusedVariables false

theorem isBlock_any (b : Int) (w : World) : Calls Tryd.prog 44 #[.int .i64 b] w fun e w' => e = .returned (.bool (isBlk b)) ∧ w' = w := by
  unfold isBlk
  by_cases h1 : b ≥ 2
  · by_cases h2 : b < 512
    · rw [decide_eq_true ⟨h1, h2⟩]
      go_enter Tryd.func44, Tryd.ntmps44
      go_wp2
      go_ret
      exact ⟨rfl, rfl⟩
    · rw [decide_eq_false (by omega)]
      go_enter Tryd.func44, Tryd.ntmps44
      go_wp2
      go_ret
      exact ⟨rfl, rfl⟩
  · rw [decide_eq_false (by omega)]
    go_enter Tryd.func44, Tryd.ntmps44
    go_wp2
    go_ret
    exact ⟨rfl, rfl⟩
theorem mayCount_any (b : Int) (w : World) : Calls Tryd.prog 33 #[.int .i64 b] w fun e w' => e = .returned (.bool (mayCnt b)) ∧ w' = w := by
  unfold mayCnt
  by_cases h1 : b ≥ 1
  · by_cases h2 : b ≤ 1073741824
    · rw [decide_eq_true ⟨h1, h2⟩]
      go_enter Tryd.func33, Tryd.ntmps33
      go_wp2
      go_ret
      exact ⟨rfl, rfl⟩
    · rw [decide_eq_false (by omega)]
      go_enter Tryd.func33, Tryd.ntmps33
      go_wp2
      go_ret
      exact ⟨rfl, rfl⟩
  · rw [decide_eq_false (by omega)]
    go_enter Tryd.func33, Tryd.ntmps33
    go_wp2
    go_ret
    exact ⟨rfl, rfl⟩

theorem trunc_run (x : Nat) (w : World) (h : ∃ s m p, Ieee.double.read x = .number s m p) :
    (callFunc 64 #[.float .f64 x]).run Tryd.prog w = .ok (.value (.float .f64 (truncB x))) w := by
  obtain ⟨s, m, p, hr⟩ := h
  have hd : FloatKind.f64.decode x = .number s m p := hr
  have he : Extern.find Tryd.f64 = some (Extern.MathFloor.toIntegral "math.archTrunc" .zero) := by kernel_rfl
  rw [run_callFunc_extern Tryd.func64 (by kernel_rfl) (by kernel_rfl) (by kernel_rfl) he]
  have : (Extern.MathFloor.toIntegral "math.archTrunc" .zero #[.float .f64 x]).run Tryd.prog w = .ok (.float .f64 (truncB x)) w := by
    unfold truncB
    rw [hr]
    show Sem.run Tryd.prog (match FloatKind.f64.decode x with
      | .nan s t =>
        if FloatKind.f64.format.quiet t = t then pure (Value.float .f64 x) else do
        let kept ← choose (.extern "math.Floor,Ceil,Trunc,RoundToEven.signallingNaN kept" 2)
        pure (Value.float .f64 (if kept == 1 then x else FloatKind.f64.encode (.nan s (FloatKind.f64.format.quiet t))))
      | d => pure (Value.float .f64 (FloatKind.f64.encode (d.integral .zero)))) w = _
    rw [hd]
    rfl
  rw [this]; rfl
theorem trunc_any (x : Nat) (w : World) (h : ∃ s m p, Ieee.double.read x = .number s m p) :
    Calls Tryd.prog 59 #[.float .f64 x] w fun e w' => e = .returned (.float .f64 (truncB x)) ∧ w = w' := by
  have ha := fun w => trunc_run x w h
  go_enter Tryd.func59, Tryd.ntmps59
  go_wp2
  go_ret
  exact ⟨rfl, rfl⟩
theorem isWord_any (x : Nat) (w : World) : Calls Tryd.prog 55 #[.float .f64 x] w fun e w' => e = .returned (.bool (isW x)) ∧ w' = w := by
  by_cases h1 : geZ x = true
  · by_cases h2 : le16 x = true
    · have hf : ∃ s m p, Ieee.double.read x = .number s m p := by
        obtain ⟨s, m, k, hr, _⟩ := small_form16 h1 h2
        exact ⟨s, m, _, hr⟩
      have hw : isW x = (Ieee.double.order x (truncB x) == some .eq) := by unfold isW; rw [h1, h2]; rfl
      rw [hw]
      clear hw
      have g1 : (FloatKind.f64.format.order x 0 == some .gt || FloatKind.f64.format.order x 0 == some .eq) = true := h1
      have g2 : (FloatKind.f64.format.order x 4679239875398991872 == some .lt || FloatKind.f64.format.order x 4679239875398991872 == some .eq) = true := h2
      clear h1 h2
      go_enter Tryd.func55, Tryd.ntmps55
      go_wp2_with (go_at_call 59; refine (trunc_any _ _ (by assumption)).mono ?_; rintro e w' ⟨rfl, rfl⟩)
      go_ret
      exact ⟨rfl, rfl⟩
    · have hw : isW x = false := by unfold isW; rw [Bool.eq_false_iff.2 h2]; simp
      rw [hw]
      have g1 : (FloatKind.f64.format.order x 0 == some .gt || FloatKind.f64.format.order x 0 == some .eq) = true := h1
      have g2 : (FloatKind.f64.format.order x 4679239875398991872 == some .lt || FloatKind.f64.format.order x 4679239875398991872 == some .eq) = false := Bool.eq_false_iff.2 h2
      clear h1 h2 hw
      go_enter Tryd.func55, Tryd.ntmps55
      go_wp2
      go_ret
      exact ⟨rfl, rfl⟩
  · have hw : isW x = false := by unfold isW; rw [Bool.eq_false_iff.2 h1]; simp
    rw [hw]
    have g1 : (FloatKind.f64.format.order x 0 == some .gt || FloatKind.f64.format.order x 0 == some .eq) = false := Bool.eq_false_iff.2 h1
    clear h1 hw
    go_enter Tryd.func55, Tryd.ntmps55
    go_wp2
    go_ret
    exact ⟨rfl, rfl⟩

theorem all_take {α : Type} {p : α → Bool} {l : List α} {j : Nat} (h : j < l.length) : (l.take (j + 1)).all p = ((l.take j).all p && p l[j]) := by
  rw [List.take_succ_eq_append_getElem h, List.all_append]; simp
theorem all_no {α : Type} {p : α → Bool} {l : List α} {j : Nat} (h : j < l.length) (hp : p l[j] = false) : l.all p = false := by
  rw [Bool.eq_false_iff]
  intro ha
  rw [List.all_eq_true] at ha
  rw [ha _ (List.getElem_mem h)] at hp
  cases hp

theorem areBlocks_any (A : Option Addr) (c : Nat) (l : List Int) (w : World) (h : RowG w 1 A l.length c (vi l)) :
    Calls Tryd.prog 34 #[.slice A l.length c] w fun e w' => e = .returned (.bool (l.all isBlk)) ∧ w' = w := by
  have hmax : l.length ≤ 9223372036854775807 := Nat.le_trans h.cap h.max
  have H := Lib.hid h
  clear h
  go_enter Tryd.func34, Tryd.ntmps34
  go_wp2
  go_loopw [7] (fun i wr => ∃ j : Nat, j ≤ l.length ∧ i = .int .i64 (j : Int) ∧ Hid ((l.take j).all isBlk = true) ∧ wr = w) (fun i _ => l.length - (intOf i).toNat)
  case atStart => exact ⟨0, Nat.zero_le _, rfl, Lib.hid rfl, rfl⟩
  case round =>
    obtain ⟨j, hj, rfl, hq, rfl⟩ := hrel
    by_cases hlt : j < l.length
    · have hlt' : (j : Int) < (l.length : Int) := by omega
      have j0 : (0 : Int) ≤ (j : Int) := by omega
      have xj := IntWalk.i64_in ((j : Int) + 1) (by omega)
      obtain ⟨b, o, rfl, hbl, c0⟩ := H.out.cell (j := j) (by simpa [vi] using hlt)
      simp only [vi, List.getElem_map] at c0
      cases hb : isBlk l[j] with
      | true =>
        have NEXT : Hid ((l.take (j + 1)).all isBlk = true) := Lib.hid (by rw [all_take hlt, hq.out, hb]; rfl)
        go_wp2_with (go_at_call 44; refine (isBlock_any _ _).mono ?_; rintro e w' ⟨rfl, rfl⟩; rw [hb])
        go_roundw
        case rel => exact ⟨j + 1, by omega, by go_num, NEXT, by first | trivial | rfl⟩
        case measure => simp [intOf]; omega
      | false =>
        have NO := Lib.hid (all_no hlt hb)
        go_wp2_with (go_at_call 44; refine (isBlock_any _ _).mono ?_; rintro e w' ⟨rfl, rfl⟩; rw [hb])
        go_ret
        exact ⟨by rw [NO.out]; rfl, rfl⟩
    · have hlt' : ¬ (j : Int) < (l.length : Int) := by omega
      have ALL : Hid (l.all isBlk = true) := Lib.hid (by have := hq.out; rwa [List.take_of_length_le (by omega)] at this)
      go_wp2
      go_ret
      exact ⟨by rw [ALL.out]; rfl, rfl⟩
theorem areParts_any (A : Option Addr) (c : Nat) (l : List (Nat × Nat)) (w : World) (h : RowG w 1 A l.length c (vp l)) :
    Calls Tryd.prog 46 #[.slice A l.length c] w fun e w' => e = .returned (.bool (l.all isP)) ∧ w' = w := by
  have hmax : l.length ≤ 9223372036854775807 := Nat.le_trans h.cap h.max
  have H := Lib.hid h
  clear h
  go_enter Tryd.func46, Tryd.ntmps46
  go_wp2
  go_loopw [7] (fun i wr => ∃ j : Nat, j ≤ l.length ∧ i = .int .i64 (j : Int) ∧ Hid ((l.take j).all isP = true) ∧ wr = w) (fun i _ => l.length - (intOf i).toNat)
  case atStart => exact ⟨0, Nat.zero_le _, rfl, Lib.hid rfl, rfl⟩
  case round =>
    obtain ⟨j, hj, rfl, hq, rfl⟩ := hrel
    by_cases hlt : j < l.length
    · have hlt' : (j : Int) < (l.length : Int) := by omega
      have j0 : (0 : Int) ≤ (j : Int) := by omega
      have xj := IntWalk.i64_in ((j : Int) + 1) (by omega)
      obtain ⟨b, o, rfl, hbl, c0⟩ := H.out.cell (j := j) (by simpa [vp] using hlt)
      simp only [vp, List.getElem_map] at c0
      cases hb : isW l[j].1 with
      | true =>
        cases hb2 : isW l[j].2 with
        | true =>
          have NEXT : Hid ((l.take (j + 1)).all isP = true) := Lib.hid (by rw [all_take hlt, hq.out]; unfold isP; rw [hb, hb2]; rfl)
          go_wp2_with fail
          refine (isWord_any _ _).mono ?_; rintro e w' ⟨rfl, rfl⟩; rw [hb]
          go_wp2_with fail
          refine (isWord_any _ _).mono ?_; rintro e w' ⟨rfl, rfl⟩; rw [hb2]
          go_wp2
          go_roundw
          case rel => exact ⟨j + 1, by omega, by go_num, NEXT, by first | trivial | rfl⟩
          case measure => simp [intOf]; omega
        | false =>
          have NO := Lib.hid (all_no (p := isP) hlt (by unfold isP; rw [hb2]; simp))
          go_wp2_with fail
          refine (isWord_any _ _).mono ?_; rintro e w' ⟨rfl, rfl⟩; rw [hb]
          go_wp2_with fail
          refine (isWord_any _ _).mono ?_; rintro e w' ⟨rfl, rfl⟩; rw [hb2]
          go_wp2
          go_ret
          exact ⟨by rw [NO.out]; rfl, rfl⟩
      | false =>
        have NO := Lib.hid (all_no (p := isP) hlt (by unfold isP; rw [hb]; simp))
        go_wp2_with fail
        refine (isWord_any _ _).mono ?_; rintro e w' ⟨rfl, rfl⟩; rw [hb]
        go_wp2
        go_ret
        exact ⟨by rw [NO.out]; rfl, rfl⟩
    · have hlt' : ¬ (j : Int) < (l.length : Int) := by omega
      have ALL : Hid (l.all isP = true) := Lib.hid (by have := hq.out; rwa [List.take_of_length_le (by omega)] at this)
      go_wp2
      go_ret
      exact ⟨by rw [ALL.out]; rfl, rfl⟩
theorem blocksOf_any (n : Int) (w : World) (h0 : 0 ≤ n) (h1 : n ≤ 1000000) : Calls Tryd.prog 45 #[.int .i64 n] w fun e w' => e = .returned (.int .i64 (cntB n)) ∧ w' = w := by
  unfold cntB
  have e : n + 256 - 1 = n + 255 := by omega
  have x1 := IntWalk.i64_in (n + 256) (by omega)
  have x2 := IntWalk.i64_in (n + 255) (by omega)
  have x3 := IntWalk.i64_in ((n + 255).tdiv 256) (by have := Int.tdiv_eq_ediv_of_nonneg (a := n + 255) (b := 256) (by omega); omega)
  go_enter Tryd.func45, Tryd.ntmps45
  go_wp2
  go_ret
  refine ⟨?_, rfl⟩
  first | rfl | (congr 2; simp [e, x1, x2, x3]; done)
theorem put_any (A : Option Addr) (n c : Nat) (l : List UInt8) (a k : Nat) (w : World) (hb : Src w A n c l) (hn : n ≤ 1000) (h1 : 1 ≤ k) (h8 : k ≤ 8) (hf : a < 256 ^ k) (ha : a ≤ 9223372036854775807) :
    Calls Tryd.prog 21 #[.slice A n c, .int .i64 (a : Int), .int .i64 (k : Int)] w fun e w' => ∃ g c', e = .returned (.slice (some ⟨g, 0, none⟩) (n + k) c') ∧ OwnB w' w.heap.size g (n + k) c' (l ++ be a k) ∧ Below w.heap.size w w' := by
  have x := IntWalk.u64_in (a : Int) (by omega)
  have PU := Lib.hid (put_ok A n c l a k w hb (by omega) (by omega) h1 h8 hf)
  clear hf h1 h8
  go_enter Tryd.func21, Tryd.ntmps21
  go_wp2_with fail
  refine PU.out.mono ?_; rintro e w' ⟨g, c', rfl, o1, b1⟩
  go_wp2
  go_ret
  exact ⟨g, c', rfl, o1, b1⟩
end Go.Proofs.YtjjoohmfeglicaaDoor.In
