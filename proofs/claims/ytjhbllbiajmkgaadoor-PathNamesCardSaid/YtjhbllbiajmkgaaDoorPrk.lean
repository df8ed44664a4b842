/- The document's Kind. Conditions: those that each states. -/
import Derived.Test.YtjhbllbiajmkgaaDoorPr1
namespace Go.Proofs.YtjhbllbiajmkgaaDoor.Pt
open Go.ChangeShapes Go.WideShapes Go.ChangeAt Go.RowKit Go.Deep
set_option linter.unusedVariables false
set_option maxRecDepth 100000 in
set_option maxHeartbeats 20000000 in
theorem rkind_any (l : List UInt8) (hl : l.length ≤ 1000000) (w : World) : Calls Tryd.prog 13 #[.string ⟨l.toArray⟩] w fun e w' => e = .returned (.string ⟨(kindR l).toArray⟩) ∧ w' = w := by
  have hsz : (⟨l.toArray⟩ : ByteArray).size = l.length := rfl
  have KS := Lib.hid (kScan_kind l)
  go_enter Tryd.func13, Tryd.ntmps13
  go_wp2
  go_loop [3, 4, 5] (fun s d i => ∃ (j : Nat) (b : Bool) (x : List UInt8), j ≤ l.length ∧ x.length ≤ j ∧ s = .string ⟨x.toArray⟩ ∧ d = .bool b ∧ i = .int .i64 (j : Int) ∧ Hid ((l.take j).foldl kScan (false, []) = (b, x))) (fun _ _ i => l.length - (intOf i).toNat)
  case atStart => exact ⟨0, false, [], by omega, Nat.le_refl _, rfl, rfl, rfl, Lib.hid rfl⟩
  case round =>
    obtain ⟨j, b, x, hj, hxl, rfl, rfl, rfl, HR⟩ := hrel
    by_cases hlt : j < l.length
    · have hlt' : (j : Int) < (l.length : Int) := by omega
      have j0 : (0 : Int) ≤ (j : Int) := by omega
      have xj := IntWalk.i64_in ((j : Int) + 1) (by omega)
      have hd : l.drop j = l[j] :: l.drop (j + 1) := (List.getElem_cons_drop hlt).symm
      have hnx : (l.take (j + 1)).foldl kScan (false, []) = kScan (b, x) l[j] := by
        rw [List.take_succ_eq_append_getElem hlt, List.foldl_append, HR.out]; rfl
      have hex : (⟨l.toArray⟩ : ByteArray).extract j (j + 1) = ⟨[l[j]].toArray⟩ := by
        rw [cut_str, hd, show j + 1 - j = 1 from by omega]; rfl
      have hat : (((⟨l.toArray⟩ : ByteArray)[j]'(by rw [hsz]; exact hlt)).toNat : Int) = (l[j].toNat : Int) := rfl
      have hss := str_add x [l[j]]
      have y1 : ¬ 9223372036854775807 < x.length + 1 := by omega
      by_cases h47 : l[j] = 47
      · have NX := Lib.hid (show (l.take (j + 1)).foldl kScan (false, []) = (false, []) from by rw [hnx]; unfold kScan; rw [if_pos h47])
        have q1 : ((((⟨l.toArray⟩ : ByteArray)[j]'(by rw [hsz]; exact hlt)).toNat : Int) == 47) = true := by rw [hat, h47]; rfl
        clear hnx hex hss hd hat h47
        go_wp2
        go_round
        case rel => exact ⟨j + 1, false, [], by omega, by simp, rfl, rfl, by simp, NX⟩
        case measure => simp [intOf]; omega
      · have q1 : ((((⟨l.toArray⟩ : ByteArray)[j]'(by rw [hsz]; exact hlt)).toNat : Int) == 47) = false := by
          rw [hat, beq_eq_false_iff_ne]
          intro h
          exact h47 (UInt8.toNat_inj.1 (by show l[j].toNat = 47; omega))
        by_cases h46 : l[j] = 46
        · have NX := Lib.hid (show (l.take (j + 1)).foldl kScan (false, []) = (true, []) from by rw [hnx]; unfold kScan; rw [if_neg h47, if_pos h46])
          have q2 : ((((⟨l.toArray⟩ : ByteArray)[j]'(by rw [hsz]; exact hlt)).toNat : Int) == 46) = true := by rw [hat, h46]; rfl
          clear hnx hex hss hd hat h46 h47
          go_wp2
          go_round
          case rel => exact ⟨j + 1, true, [], by omega, by simp, rfl, rfl, by simp, NX⟩
          case measure => simp [intOf]; omega
        · have NX := Lib.hid (show (l.take (j + 1)).foldl kScan (false, []) = (b, x ++ [l[j]]) from by rw [hnx]; unfold kScan; rw [if_neg h47, if_neg h46])
          have q2 : ((((⟨l.toArray⟩ : ByteArray)[j]'(by rw [hsz]; exact hlt)).toNat : Int) == 46) = false := by
            rw [hat, beq_eq_false_iff_ne]
            intro h
            exact h46 (UInt8.toNat_inj.1 (by show l[j].toNat = 46; omega))
          have HSS := Lib.hid hss
          have s1 : (0 : Int) ≤ (j : Int) + 1 := by omega
          have s2 : (j : Int) ≤ (j : Int) + 1 := by omega
          have s3 : (j : Int) + 1 ≤ (l.length : Int) := by omega
          have s4 : ((j : Int) + 1).toNat = j + 1 := by omega
          have s5 : j ≤ j + 1 := by omega
          have s6 : j + 1 ≤ l.length := hlt
          clear hnx hss hd hat h46 h47
          generalize l[j] = c at *
          go_wp2
          go_round
          case rel => exact ⟨j + 1, b, x ++ [c], by omega, by simp; omega, by rw [← HSS.out], rfl, by simp, NX⟩
          case measure => simp [intOf]; omega
    · have hge : ¬ (j : Int) < (l.length : Int) := by omega
      have hko : kOf (b, x) = kindR l := by
        rw [← KS.out, ← HR.out, List.take_of_length_le (by omega)]
      clear HR KS
      cases b with
      | false =>
        have KE := Lib.hid (show kindR l = unknownT from hko.symm)
        clear hko
        go_wp2
        go_ret
        exact ⟨by rw [KE.out]; rfl, rfl⟩
      | true =>
        have KR : kindR l = kindE x := hko.symm
        clear hko
        by_cases h0 : x = [104, 116, 109, 108]
        · have KE := Lib.hid (show kindR l = [116, 101, 120, 116, 47, 104, 116, 109, 108] from by rw [KR, h0]; decide +kernel)
          clear KR 
          subst h0
          go_wp2
          go_ret
          exact ⟨by rw [KE.out]; rfl, rfl⟩
        by_cases h1 : x = [116, 120, 116]
        · have KE := Lib.hid (show kindR l = [116, 101, 120, 116, 47, 112, 108, 97, 105, 110] from by rw [KR, h1]; decide +kernel)
          clear KR h0
          subst h1
          go_wp2
          go_ret
          exact ⟨by rw [KE.out]; rfl, rfl⟩
        by_cases h2 : x = [99, 115, 115]
        · have KE := Lib.hid (show kindR l = [116, 101, 120, 116, 47, 99, 115, 115] from by rw [KR, h2]; decide +kernel)
          clear KR h0 h1
          subst h2
          go_wp2
          go_ret
          exact ⟨by rw [KE.out]; rfl, rfl⟩
        by_cases h3 : x = [106, 115]
        · have KE := Lib.hid (show kindR l = [116, 101, 120, 116, 47, 106, 97, 118, 97, 115, 99, 114, 105, 112, 116] from by rw [KR, h3]; decide +kernel)
          clear KR h0 h1 h2
          subst h3
          go_wp2
          go_ret
          exact ⟨by rw [KE.out]; rfl, rfl⟩
        by_cases h4 : x = [112, 110, 103]
        · have KE := Lib.hid (show kindR l = [105, 109, 97, 103, 101, 47, 112, 110, 103] from by rw [KR, h4]; decide +kernel)
          clear KR h0 h1 h2 h3
          subst h4
          go_wp2
          go_ret
          exact ⟨by rw [KE.out]; rfl, rfl⟩
        by_cases h5 : x = [106, 115, 111, 110]
        · have KE := Lib.hid (show kindR l = [97, 112, 112, 108, 105, 99, 97, 116, 105, 111, 110, 47, 106, 115, 111, 110] from by rw [KR, h5]; decide +kernel)
          clear KR h0 h1 h2 h3 h4
          subst h5
          go_wp2
          go_ret
          exact ⟨by rw [KE.out]; rfl, rfl⟩
        have KE := Lib.hid (show kindR l = unknownT from by rw [KR]; simp only [kindE, if_neg h0, if_neg h1, if_neg h2, if_neg h3, if_neg h4, if_neg h5])
        have i0 : (x == [104, 116, 109, 108]) = false := by simpa using h0
        have i1 : (x == [116, 120, 116]) = false := by simpa using h1
        have i2 : (x == [99, 115, 115]) = false := by simpa using h2
        have i3 : (x == [106, 115]) = false := by simpa using h3
        have i4 : (x == [112, 110, 103]) = false := by simpa using h4
        have i5 : (x == [106, 115, 111, 110]) = false := by simpa using h5
        clear KR h0 h1 h2 h3 h4 h5
        go_wp2
        go_ret
        exact ⟨by rw [KE.out]; rfl, rfl⟩
end Go.Proofs.YtjhbllbiajmkgaaDoor.Pt
