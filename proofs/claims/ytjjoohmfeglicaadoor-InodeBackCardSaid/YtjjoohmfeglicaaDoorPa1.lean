/- Package path: the bytes of a segment, segments. No condition. -/
import Derived.Test.YtjjoohmfeglicaaDoorPth
import Derived.Test.YtjjoohmfeglicaaDoorBase
import Derived.Test.YtjjoohmfeglicaaDoorShelf
import Derived.Lib.ConvBytes
import Derived.Deep.DeepCutAuto
namespace Go.Proofs.YtjjoohmfeglicaaDoor.Pt
open Go.ChangeShapes Go.WideShapes Go.ChangeAt Go.RowKit Go.Deep
set_option linter.unusedVariables false
theorem plainC_nat (c : UInt8) : plainC c = (decide (97 ≤ c.toNat ∧ c.toNat ≤ 122) || decide (65 ≤ c.toNat ∧ c.toNat ≤ 90) || decide (48 ≤ c.toNat ∧ c.toNat ≤ 57) || decide (c.toNat = 46) || decide (c.toNat = 45) || decide (c.toNat = 95)) := by
  have h : ∀ k : Fin 256, plainC (UInt8.ofNat k.1) = (decide (97 ≤ k.1 ∧ k.1 ≤ 122) || decide (65 ≤ k.1 ∧ k.1 ≤ 90) || decide (48 ≤ k.1 ∧ k.1 ≤ 57) || decide (k.1 = 46) || decide (k.1 = 45) || decide (k.1 = 95)) := by decide +kernel
  have := h ⟨c.toNat, c.toNat_lt⟩
  simpa using this
theorem inSeg_any (c : UInt8) (w : World) : Calls Tryd.prog 58 #[.int .u8 (c.toNat : Int)] w fun e w' => e = .returned (.bool (plainC c)) ∧ w' = w := by
  rw [plainC_nat]
  have hc := c.toNat_lt
  generalize c.toNat = x at *
  rcases (by omega : (x < 45) ∨ (x = 45) ∨ (x = 46) ∨ (x = 47) ∨ (48 ≤ x ∧ x ≤ 57) ∨ (58 ≤ x ∧ x ≤ 64) ∨ (65 ≤ x ∧ x ≤ 90) ∨ (91 ≤ x ∧ x ≤ 94) ∨ (x = 95) ∨ (x = 96) ∨ (97 ≤ x ∧ x ≤ 122) ∨ (122 < x)) with h | h | h | h | h | h | h | h | h | h | h | h
  · have hv : (decide (97 ≤ x ∧ x ≤ 122) || decide (65 ≤ x ∧ x ≤ 90) || decide (48 ≤ x ∧ x ≤ 57) || decide (x = 46) || decide (x = 45) || decide (x = 95)) = false := by simp; omega
    rw [hv]
    have f97 : ¬ (97 : Int) ≤ (x : Int) := by omega
    have f122 : (x : Int) ≤ 122 := by omega
    have f65 : ¬ (65 : Int) ≤ (x : Int) := by omega
    have f90 : (x : Int) ≤ 90 := by omega
    have f48 : ¬ (48 : Int) ≤ (x : Int) := by omega
    have f57 : (x : Int) ≤ 57 := by omega
    have q46 : ((x : Int) == 46) = false := by simp; omega
    have q45 : ((x : Int) == 45) = false := by simp; omega
    have q95 : ((x : Int) == 95) = false := by simp; omega
    clear hv hc h
    go_enter Tryd.func58, Tryd.ntmps58
    go_wp2
    go_ret
    exact ⟨rfl, rfl⟩
  · subst h
    have hv : (decide (97 ≤ 45 ∧ 45 ≤ 122) || decide (65 ≤ 45 ∧ 45 ≤ 90) || decide (48 ≤ 45 ∧ 45 ≤ 57) || decide (45 = 46) || decide (45 = 45) || decide (45 = 95)) = true := by decide
    rw [hv]
    clear hv hc
    go_enter Tryd.func58, Tryd.ntmps58
    go_wp2
    go_ret
    exact ⟨rfl, rfl⟩
  · subst h
    have hv : (decide (97 ≤ 46 ∧ 46 ≤ 122) || decide (65 ≤ 46 ∧ 46 ≤ 90) || decide (48 ≤ 46 ∧ 46 ≤ 57) || decide (46 = 46) || decide (46 = 45) || decide (46 = 95)) = true := by decide
    rw [hv]
    clear hv hc
    go_enter Tryd.func58, Tryd.ntmps58
    go_wp2
    go_ret
    exact ⟨rfl, rfl⟩
  · subst h
    have hv : (decide (97 ≤ 47 ∧ 47 ≤ 122) || decide (65 ≤ 47 ∧ 47 ≤ 90) || decide (48 ≤ 47 ∧ 47 ≤ 57) || decide (47 = 46) || decide (47 = 45) || decide (47 = 95)) = false := by decide
    rw [hv]
    clear hv hc
    go_enter Tryd.func58, Tryd.ntmps58
    go_wp2
    go_ret
    exact ⟨rfl, rfl⟩
  · have hv : (decide (97 ≤ x ∧ x ≤ 122) || decide (65 ≤ x ∧ x ≤ 90) || decide (48 ≤ x ∧ x ≤ 57) || decide (x = 46) || decide (x = 45) || decide (x = 95)) = true := by simp; omega
    rw [hv]
    have f97 : ¬ (97 : Int) ≤ (x : Int) := by omega
    have f122 : (x : Int) ≤ 122 := by omega
    have f65 : ¬ (65 : Int) ≤ (x : Int) := by omega
    have f90 : (x : Int) ≤ 90 := by omega
    have f48 : (48 : Int) ≤ (x : Int) := by omega
    have f57 : (x : Int) ≤ 57 := by omega
    have q46 : ((x : Int) == 46) = false := by simp; omega
    have q45 : ((x : Int) == 45) = false := by simp; omega
    have q95 : ((x : Int) == 95) = false := by simp; omega
    clear hv hc h
    go_enter Tryd.func58, Tryd.ntmps58
    go_wp2
    go_ret
    exact ⟨rfl, rfl⟩
  · have hv : (decide (97 ≤ x ∧ x ≤ 122) || decide (65 ≤ x ∧ x ≤ 90) || decide (48 ≤ x ∧ x ≤ 57) || decide (x = 46) || decide (x = 45) || decide (x = 95)) = false := by simp; omega
    rw [hv]
    have f97 : ¬ (97 : Int) ≤ (x : Int) := by omega
    have f122 : (x : Int) ≤ 122 := by omega
    have f65 : ¬ (65 : Int) ≤ (x : Int) := by omega
    have f90 : (x : Int) ≤ 90 := by omega
    have f48 : (48 : Int) ≤ (x : Int) := by omega
    have f57 : ¬ (x : Int) ≤ 57 := by omega
    have q46 : ((x : Int) == 46) = false := by simp; omega
    have q45 : ((x : Int) == 45) = false := by simp; omega
    have q95 : ((x : Int) == 95) = false := by simp; omega
    clear hv hc h
    go_enter Tryd.func58, Tryd.ntmps58
    go_wp2
    go_ret
    exact ⟨rfl, rfl⟩
  · have hv : (decide (97 ≤ x ∧ x ≤ 122) || decide (65 ≤ x ∧ x ≤ 90) || decide (48 ≤ x ∧ x ≤ 57) || decide (x = 46) || decide (x = 45) || decide (x = 95)) = true := by simp; omega
    rw [hv]
    have f97 : ¬ (97 : Int) ≤ (x : Int) := by omega
    have f122 : (x : Int) ≤ 122 := by omega
    have f65 : (65 : Int) ≤ (x : Int) := by omega
    have f90 : (x : Int) ≤ 90 := by omega
    have f48 : (48 : Int) ≤ (x : Int) := by omega
    have f57 : ¬ (x : Int) ≤ 57 := by omega
    have q46 : ((x : Int) == 46) = false := by simp; omega
    have q45 : ((x : Int) == 45) = false := by simp; omega
    have q95 : ((x : Int) == 95) = false := by simp; omega
    clear hv hc h
    go_enter Tryd.func58, Tryd.ntmps58
    go_wp2
    go_ret
    exact ⟨rfl, rfl⟩
  · have hv : (decide (97 ≤ x ∧ x ≤ 122) || decide (65 ≤ x ∧ x ≤ 90) || decide (48 ≤ x ∧ x ≤ 57) || decide (x = 46) || decide (x = 45) || decide (x = 95)) = false := by simp; omega
    rw [hv]
    have f97 : ¬ (97 : Int) ≤ (x : Int) := by omega
    have f122 : (x : Int) ≤ 122 := by omega
    have f65 : (65 : Int) ≤ (x : Int) := by omega
    have f90 : ¬ (x : Int) ≤ 90 := by omega
    have f48 : (48 : Int) ≤ (x : Int) := by omega
    have f57 : ¬ (x : Int) ≤ 57 := by omega
    have q46 : ((x : Int) == 46) = false := by simp; omega
    have q45 : ((x : Int) == 45) = false := by simp; omega
    have q95 : ((x : Int) == 95) = false := by simp; omega
    clear hv hc h
    go_enter Tryd.func58, Tryd.ntmps58
    go_wp2
    go_ret
    exact ⟨rfl, rfl⟩
  · subst h
    have hv : (decide (97 ≤ 95 ∧ 95 ≤ 122) || decide (65 ≤ 95 ∧ 95 ≤ 90) || decide (48 ≤ 95 ∧ 95 ≤ 57) || decide (95 = 46) || decide (95 = 45) || decide (95 = 95)) = true := by decide
    rw [hv]
    clear hv hc
    go_enter Tryd.func58, Tryd.ntmps58
    go_wp2
    go_ret
    exact ⟨rfl, rfl⟩
  · subst h
    have hv : (decide (97 ≤ 96 ∧ 96 ≤ 122) || decide (65 ≤ 96 ∧ 96 ≤ 90) || decide (48 ≤ 96 ∧ 96 ≤ 57) || decide (96 = 46) || decide (96 = 45) || decide (96 = 95)) = false := by decide
    rw [hv]
    clear hv hc
    go_enter Tryd.func58, Tryd.ntmps58
    go_wp2
    go_ret
    exact ⟨rfl, rfl⟩
  · have hv : (decide (97 ≤ x ∧ x ≤ 122) || decide (65 ≤ x ∧ x ≤ 90) || decide (48 ≤ x ∧ x ≤ 57) || decide (x = 46) || decide (x = 45) || decide (x = 95)) = true := by simp; omega
    rw [hv]
    have f97 : (97 : Int) ≤ (x : Int) := by omega
    have f122 : (x : Int) ≤ 122 := by omega
    have f65 : (65 : Int) ≤ (x : Int) := by omega
    have f90 : ¬ (x : Int) ≤ 90 := by omega
    have f48 : (48 : Int) ≤ (x : Int) := by omega
    have f57 : ¬ (x : Int) ≤ 57 := by omega
    have q46 : ((x : Int) == 46) = false := by simp; omega
    have q45 : ((x : Int) == 45) = false := by simp; omega
    have q95 : ((x : Int) == 95) = false := by simp; omega
    clear hv hc h
    go_enter Tryd.func58, Tryd.ntmps58
    go_wp2
    go_ret
    exact ⟨rfl, rfl⟩
  · have hv : (decide (97 ≤ x ∧ x ≤ 122) || decide (65 ≤ x ∧ x ≤ 90) || decide (48 ≤ x ∧ x ≤ 57) || decide (x = 46) || decide (x = 45) || decide (x = 95)) = false := by simp; omega
    rw [hv]
    have f97 : (97 : Int) ≤ (x : Int) := by omega
    have f122 : ¬ (x : Int) ≤ 122 := by omega
    have f65 : (65 : Int) ≤ (x : Int) := by omega
    have f90 : ¬ (x : Int) ≤ 90 := by omega
    have f48 : (48 : Int) ≤ (x : Int) := by omega
    have f57 : ¬ (x : Int) ≤ 57 := by omega
    have q46 : ((x : Int) == 46) = false := by simp; omega
    have q45 : ((x : Int) == 45) = false := by simp; omega
    have q95 : ((x : Int) == 95) = false := by simp; omega
    clear hv hc h
    go_enter Tryd.func58, Tryd.ntmps58
    go_wp2
    go_ret
    exact ⟨rfl, rfl⟩
theorem segB_iff (l : List UInt8) : segB l = true ↔ l ≠ [] ∧ l ≠ [46] ∧ l ≠ [46, 46] ∧ ∀ c ∈ l, plainC c = true := by
  unfold segB
  simp only [Bool.and_eq_true, bne_iff_ne, List.all_eq_true, and_assoc]
theorem ba_ne {l m : List UInt8} (h : l ≠ m) : (⟨l.toArray⟩ : ByteArray) ≠ ⟨m.toArray⟩ := by
  intro e
  apply h
  have := congrArg (fun b : ByteArray => b.data.toList) e
  simpa using this
theorem isSeg_any (l : List UInt8) (hl : l.length ≤ 1000) (w : World) : Calls Tryd.prog 54 #[.string ⟨l.toArray⟩] w fun e w' => e = .returned (.bool (segB l)) ∧ w' = w := by
  have hsz : (⟨l.toArray⟩ : ByteArray).size = l.length := rfl
  by_cases h1 : l = []
  · subst h1
    go_enter Tryd.func54, Tryd.ntmps54
    go_wp2
    go_ret
    exact ⟨rfl, rfl⟩
  by_cases h2 : l = [46]
  · subst h2
    go_enter Tryd.func54, Tryd.ntmps54
    go_wp2
    go_ret
    exact ⟨rfl, rfl⟩
  by_cases h3 : l = [46, 46]
  · subst h3
    go_enter Tryd.func54, Tryd.ntmps54
    go_wp2
    go_ret
    exact ⟨rfl, rfl⟩
  have HV := Lib.hid (show segB l = decide (∀ c ∈ l, plainC c = true) from by
    rw [Bool.eq_iff_iff, segB_iff, decide_eq_true_eq]
    exact ⟨fun h => h.2.2.2, fun h => ⟨h1, h2, h3, h⟩⟩)
  have i1 : l.isEmpty = false := by cases l <;> simp_all
  have i2 : (l == [46]) = false := by simpa using h2
  have i3 : (l == [46, 46]) = false := by simpa using h3
  go_enter Tryd.func54, Tryd.ntmps54
  go_wp2
  clear h1 h2 h3 i1 i2 i3
  go_loop [16] (fun i => ∃ j : Nat, j ≤ l.length ∧ i = .int .i64 (j : Int) ∧ Hid (∀ k (h : k < j) (h' : k < l.length), plainC l[k] = true)) (fun i => l.length - (intOf i).toNat)
  case atStart => exact ⟨0, Nat.zero_le _, rfl, Lib.hid (fun k h => absurd h (by omega))⟩
  case round =>
    obtain ⟨j, hj, rfl, HP⟩ := hrel
    by_cases hlt : j < l.length
    · have hlt' : (j : Int) < (l.length : Int) := by omega
      have j0 : (0 : Int) ≤ (j : Int) := by omega
      have xj := IntWalk.i64_in ((j : Int) + 1) (by omega)
      cases hp : plainC l[j] with
      | true =>
        have CI := Lib.hid (inSeg_any l[j] w)
        rw [hp] at CI
        have HP2 := Lib.hid (show ∀ k (h : k < j + 1) (h' : k < l.length), plainC l[k] = true from fun k h h' => by
          by_cases e : k = j
          · subst e; exact hp
          · exact HP.out k (by omega) h')
        clear hp HP
        go_wp2_with fail
        refine CI.out.mono ?_; rintro e w1 ⟨rfl, rfl⟩
        go_wp2
        go_round
        case rel => exact ⟨j + 1, by omega, by simp, HP2⟩
        case measure => simp [intOf]; omega
      | false =>
        have CI := Lib.hid (inSeg_any l[j] w)
        rw [hp] at CI
        have EV := Lib.hid (show segB l = false from by
          rw [HV.out, decide_eq_false_iff_not]
          intro h
          have := h l[j] (List.getElem_mem hlt)
          rw [hp] at this; cases this)
        clear hp HP
        go_wp2_with fail
        refine CI.out.mono ?_; rintro e w1 ⟨rfl, rfl⟩
        go_wp2
        go_ret
        exact ⟨by rw [EV.out]; rfl, rfl⟩
    · have hge : ¬ (j : Int) < (l.length : Int) := by omega
      have EV := Lib.hid (show segB l = true from by
        rw [HV.out, decide_eq_true_eq]
        intro c hc
        obtain ⟨k, hk, rfl⟩ := List.mem_iff_getElem.1 hc
        exact HP.out k (by omega) hk)
      go_wp2
      go_ret
      exact ⟨by rw [EV.out]; rfl, rfl⟩
end Go.Proofs.YtjjoohmfeglicaaDoor.Pt
