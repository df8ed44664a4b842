/- Whatever bytes come in, 'pantlerlaw01.SumsParts' returns true and leaves them as they were. No condition. -/
import Derived.Test.YtojbpjdppbfkhaaRef01
namespace Go.Proofs.Ytojbpjdppbfkhaa.sumsParts
open Go.ChangeShapes Go.WideShapes Go.ChangeAt Go.RowKit Fl
set_option linter.unusedVariables false


theorem walk (w : World) (A : Option Addr) (n c : Nat) (l : List UInt8) (hb : Bytes w A n c l) :
    Calls Try.prog 3 #[.slice A n c] w fun e w' => e = .returned (.bool true) ∧ Below w.heap.size w w' := by
  have hlen := hb.len
  by_cases hn : n ≤ 5000
  · have hle := evs_le l
    have q1 := eqf (evs l) (by omega)
    have q2 := eqf (ods l) (by omega)
    have q3 := eqf' (evs l) (by omega)
    have q4 := eqf' (ods l) (by omega)
    have hfo := fo_le (256 * evs l + ods l)
    have h1 : evs l ≤ 1099511627776 := by omega
    have h2 : ods l ≤ 1099511627776 := by omega
    have r1 : Rep (Ieee.double.read (fl (evs l : Int))) (evs l : Int) := (read_fl (by omega)).rep
    have r2 : Rep (Ieee.double.read (fl (ods l : Int))) (ods l : Int) := (read_fl (by omega)).rep
    have hsub : ((65535 - fo (256 * evs l + ods l) : Nat) : Int) = 65535 - (fo (256 * evs l + ods l) : Int) := by omega
    have HSUB := Lib.hid hsub
    have hgd : (decide (fo (256 * evs l + ods l) = 65535) == ((65535 : Int) - (fo (256 * evs l + ods l) : Int) == 0)) = true := by
      by_cases h : fo (256 * evs l + ods l) = 65535
      · rw [h]; rfl
      · have h' : ((65535 : Int) - (fo (256 * evs l + ods l) : Int) == 0) = false := by simp; omega
        rw [h']; simp [h]
    clear hlen hle hsub
    go_enter Try.func3, Try.ntmps3
    go_wp2_with fail
    refine (alive_any _).mono ?_; rintro e w1 ⟨rfl, b1⟩
    have hb1 := hb.below b1
    go_wp2_with fail
    refine (part_ok _ _ _ l _ hb1 (by omega)).mono ?_; rintro e w2 ⟨rfl, m, rfl⟩
    have hb2 := hb1.drewN m
    go_wp2_with fail
    refine (of_any _ _ _ l _ hb2 (by omega)).mono ?_; rintro e w3 ⟨rfl, b3⟩
    have hb3 := hb2.below b3
    go_wp2_with fail
    have kb := Blk.new w3 29 #[.int .i64 (evs l), .int .i64 (ods l)]
    refine (number_any _ _ _).mono ?_; rintro e w4 ⟨rfl, b4⟩
    have kb4 := kb.below b4 (by simp)
    have hb4 := hb3.below (w' := w4) (((Below.refl _ w3).alloc (Nat.le_refl _) _).trans (b4.mono (by simp)))
    go_wp2_with fail
    refine (turn_any _ _ _).mono ?_; rintro e w' ⟨rfl, rfl⟩
    go_wp2_with fail
    refine (fold_ok _ _ (evs l) (ods l) _ r1 r2 h1 h2).mono ?_; rintro e w' ⟨rfl, rfl⟩
    go_wp2_with fail
    refine (sum_ok _ _ (evs l) (ods l) _ r1 r2 h1 h2).mono ?_; rintro e w' ⟨rfl, rfl⟩
    rw [HSUB.out]
    have c0 := kb4.cell 0
    have c1 := kb4.cell 1
    simp only [List.getElem?_toArray, List.getElem?_cons_zero, List.getElem?_cons_succ] at c0 c1
    go_wp2_with fail
    refine (rfold_any _ _ h1 h2 _).mono ?_; rintro e w5 ⟨rfl, b5⟩
    have hb5 := hb4.below b5
    go_wp2_with fail
    refine (scratch_any _ _ _ l _ hb5 (by omega)).mono ?_; rintro e w' ⟨rfl, rfl⟩
    go_wp2_with fail
    refine (good_ok _ _ _ l _ hb5 (by omega)).mono ?_; rintro e w6 ⟨rfl, m6, rfl⟩
    have hb6 := hb5.drewN m6
    go_wp2_with fail
    refine (scratch_any _ _ _ l _ hb6 (by omega)).mono ?_; rintro e w' ⟨rfl, rfl⟩
    go_wp2_with fail
    go_ret
    refine ⟨rfl, below_drewN ?_ _⟩
    refine Below.trans (b := w1) b1 ?_
    have k1 := b1.size
    have k3 := b3.size
    have k4 := b4.size
    simp at k3 k4
    refine Below.trans (b := w3) ((below_drewN (Below.refl _ _) m).trans (b3.mono (by simpa using k1))) ?_
    refine Below.trans (b := w4) (((Below.refl _ _).alloc (by omega) _).trans (b4.mono (by simp; omega))) ?_
    exact b5.mono (by omega)
  · go_enter Try.func3, Try.ntmps3
    go_wp2_with fail
    refine (alive_any _).mono ?_; rintro e w1 ⟨rfl, b1⟩
    go_wp2_with fail
    go_ret
    exact ⟨rfl, b1⟩

set_option maxRecDepth 100000 in
theorem lifted (os : Os) (started : os.Started) (H : Type) (enc : TypeId × Value → H) :
    ReturnsInHanded {} Try.checked os 3 .any (Rows.sumsPartsSpec.pre6 enc Try.prog Try.f3 Rows.sumsPartsRow.domain false) (Rows.sumsPartsSpec.post enc Try.prog Try.f3 false true false false) := by
  refine returnsInHanded_of_change (C := Try.checked) own started (by kernel_rfl) Try.func3
    (ChangeSpec.witness6 (enc := enc) (C := Try.checked) false ⟨#[], #[.slice none 0 0], []⟩ 8 (by kernel_rfl) (by kernel_rfl) (by kernel_rfl) (by kernel_rfl)) ?_
  intro W base args ds gs before hval0 hW hcnd _
  have hval : ∀ (j : Nat) t v, Try.f3.params[j]? = some t → args[j]? = some v → Value.okWide Try.prog W .any base t v := hval0
  have hW' := hW
  obtain ⟨p, q, hA0, hV, rfl, hfz, hnd⟩ := hW
  have hA : DataW.TrodAll enc Try.prog W 0 (fun _ => true) true Try.f3.params.toList args.toList ds p := hA0
  rw [Try.params3] at hA hval
  obtain ⟨v0, vs0, d0, ds0, p0, q0, hargs, rfl, rfl, h0, r0⟩ := trodAll_cons hA
  obtain ⟨rfl, rfl, rfl⟩ := trodAll_nil r0
  obtain rfl : args = #[v0] := by cases args; simp_all
  obtain ⟨A0, n0, c0, l0, rfl, b0⟩ := open_bytes Try.underlying22 Try.underlying5 (by kernel_rfl) (hval 0 22 v0 rfl rfl) h0
  clear hA0 hval0
  exact law_close hW' laidOut (by kernel_rfl) rfl Try.underlying4 rfl ⟨rfl, rfl, rfl⟩ (walk W A0 n0 c0 l0 b0)

theorem over : Rows.sumsPartsRow.holds Try.pinned (OpenSpec.ofChange Rows.sumsPartsSpec) :=
  OpenClaim.holds_of_wide 3 Try.f3 rfl rfl rfl rfl rfl rfl rfl ⟨rfl, rfl, rfl, rfl, rfl⟩ rfl rfl rfl rfl rfl (by kernel_rfl) Try.func3 (by kernel_rfl)
    (of_decide_eq_true (by kernel_rfl)) (by unfold Func.isWrapper; first | (rw [if_pos (by decide +kernel)]; kernel_rfl) | (rw [if_neg (by decide +kernel)]; exact ⟨rfl, rfl⟩))
    (fun os started H enc _ => lifted os started H enc)

theorem proved : Rows.SumsPartsSaid := over

end Go.Proofs.Ytojbpjdppbfkhaa.sumsParts
