/- Are calls more than are looked at? Conditions: those that each states. -/
import Derived.Test.YtplmabnmkkkehaaDo
namespace Go.Proofs.Ytplmabnmkkkehaa
open Go.ChangeShapes Go.WideShapes Go.ChangeAt Go.RowKit Go.Deep Fr
set_option linter.unusedVariables false

/-- More calls than are looked at, or a greater text. -/
def isFar (n : Nat) (fn : Nat → Cmd) : Prop := 150 < n ∨ ∃ i, i < n ∧ 1000 < (fn i).s.size
theorem act_text {w : World} {b o : Nat} {a : Cmd} (h : w.rangeAt b o a.list) : w.cell? ⟨b, o + 5, none⟩ = some (.string a.s) := h 5 _ rfl

set_option maxRecDepth 100000 in
theorem far_any (w : World) (A : Option Addr) (n c : Nat) (fn : Nat → Cmd) (h : Acts w A n fn) (v : Bool) (hv : v = true ↔ isFar n fn) :
    Calls Try.prog 8 #[.slice A n c] w fun e w' => e = .returned (.bool v) ∧ w' = w := by
  have HV := Lib.hid hv
  clear hv
  by_cases hn : n ≤ 150
  · have g1 : ¬ (n : Int) > 150 := by omega
    have HA := Lib.hid h
    clear h
    go_enter Try.func8, Try.ntmps8
    go_wp2
    go_loopw [3] (fun i wr => ∃ (j : Nat), j ≤ n ∧ i = .int .i64 (j : Int) ∧ Hid (∀ x, x < j → (fn x).s.size ≤ 1000) ∧ wr = w) (fun i _ => n - (intOf i).toNat)
    case atStart => exact ⟨0, Nat.zero_le _, rfl, Lib.hid (fun _ h => absurd h (by omega)), rfl⟩
    case round =>
      obtain ⟨j, hj, rfl, HM, rfl⟩ := hrel
      by_cases hlt : j < n
      · have hlt' : (j : Int) < (n : Int) := by omega
        have j0 : (0 : Int) ≤ (j : Int) := by omega
        obtain ⟨b, o, rfl, _, hr, ok⟩ := HA.out j hlt
        have c5 := act_text hr
        have x1 := IntWalk.i64_in ((j : Int) + 1) (by omega)
        by_cases hs : (fn j).s.size ≤ 1000
        · have g2 : ¬ ((fn j).s.size : Int) > 1000 := by omega
          have HM2 : Hid (∀ x, x < j + 1 → (fn x).s.size ≤ 1000) := Lib.hid (fun x hx => by
            by_cases e : x = j
            · subst e; exact hs
            · exact HM.out x (by omega))
          generalize (fn j).s = t at *
          clear hr ok hs
          go_wp2
          go_roundw
          case rel => exact ⟨j + 1, by omega, by simp, HM2, by first | rfl | trivial⟩
          case measure => simp [intOf]; omega
        · have g2 : ((fn j).s.size : Int) > 1000 := by omega
          have F := Lib.hid (show isFar n fn from .inr ⟨j, hlt, by omega⟩)
          generalize (fn j).s = t at *
          clear hr ok hs
          go_wp2
          go_ret
          exact ⟨by rw [HV.out.2 F.out]; rfl, rfl⟩
      · have hge : ¬ (j : Int) < (n : Int) := by omega
        have F : Hid (¬ isFar n fn) := Lib.hid (by
          rintro (h | ⟨i, hi, h⟩)
          · omega
          · have := HM.out i (by omega); omega)
        go_wp2
        go_ret
        have ev : v = false := by
          cases v
          · rfl
          · exact absurd (HV.out.1 rfl) F.out
        exact ⟨by rw [ev]; rfl, rfl⟩
  · have g1 : (n : Int) > 150 := by omega
    have F := Lib.hid (show isFar n fn from .inl (by omega))
    clear h hn
    go_enter Try.func8, Try.ntmps8
    go_wp2
    go_ret
    exact ⟨by rw [HV.out.2 F.out]; rfl, rfl⟩
end Go.Proofs.Ytplmabnmkkkehaa
