/- The document's Name and Kind. Conditions: those that each states. -/
import Derived.Test.YtjhbllbiajmkgaaDoorPr1
namespace Go.Proofs.YtjhbllbiajmkgaaDoor.Pt
open Go.ChangeShapes Go.WideShapes Go.ChangeAt Go.RowKit Go.Deep
set_option linter.unusedVariables false
theorem scan_cons (part : List UInt8) (c : UInt8) (t : List UInt8) : nameScan part (c :: t) = if c = 47 then segB part && nameScan [] t else plainC c && nameScan (part ++ [c]) t := rfl
theorem scan_nil (part : List UInt8) : nameScan part [] = segB part := rfl
theorem segB_of {x : List UInt8} (h : ∀ c ∈ x, plainC c = true) (h1 : x ≠ []) (h2 : x ≠ [46]) (h3 : x ≠ [46, 46]) : segB x = true := (segB_iff x).2 ⟨h1, h2, h3, h⟩
theorem segB_not {x : List UInt8} (h : x = [] ∨ x = [46] ∨ x = [46, 46]) : segB x = false := by
  rcases h with rfl | rfl | rfl <;> decide
set_option maxRecDepth 100000 in
set_option maxHeartbeats 6000000 in
theorem rname_any (l : List UInt8) (hl : l.length ≤ 1000000) (w : World) : Calls Tryd.prog 9 #[.string ⟨l.toArray⟩] w fun e w' => e = .returned (.bool (nameB l)) ∧ w' = w := by
  have hsz : (⟨l.toArray⟩ : ByteArray).size = l.length := rfl
  have HN := Lib.hid (scan_name l)
  by_cases h0 : l.length < 1
  · have EV := Lib.hid (show nameB l = false from by
      have : l = [] := List.length_eq_zero_iff.1 (by omega)
      subst this; decide)
    have g1 : (l.length : Int) < 1 := by omega
    go_enter Tryd.func9, Tryd.ntmps9
    go_wp2
    go_ret
    exact ⟨by rw [EV.out]; rfl, rfl⟩
  have g1 : ¬ (l.length : Int) < 1 := by omega
  by_cases h24 : 24 < l.length
  · have EV := Lib.hid (show nameB l = false from by rw [← HN.out, decide_eq_false (by omega)]; rfl)
    have g2 : (l.length : Int) > 24 := by omega
    go_enter Tryd.func9, Tryd.ntmps9
    go_wp2
    go_ret
    exact ⟨by rw [EV.out]; rfl, rfl⟩
  have g2 : ¬ (l.length : Int) > 24 := by omega
  have HN2 := Lib.hid (show nameB l = nameScan [] l from by rw [← HN.out, decide_eq_true (by omega)]; rfl)
  have h24' : l.length ≤ 24 := by omega
  clear HN h0 h24
  go_enter Tryd.func9, Tryd.ntmps9
  go_wp2
  go_loop [3, 4] (fun s i => ∃ (j : Nat) (part : List UInt8), j ≤ l.length + 1 ∧ part.length ≤ j ∧ s = .string ⟨part.toArray⟩ ∧ i = .int .i64 (j : Int) ∧ Hid ((j ≤ l.length ∧ nameScan [] l = nameScan part (l.drop j) ∧ ∀ c ∈ part, plainC c = true) ∨ (j = l.length + 1 ∧ nameScan [] l = true))) (fun _ i => l.length + 1 - (intOf i).toNat)
  case atStart => exact ⟨0, [], by omega, Nat.le_refl _, rfl, rfl, Lib.hid (.inl ⟨Nat.zero_le _, rfl, fun c hc => by cases hc⟩)⟩
  case round =>
    obtain ⟨j, part, hj, hpl, rfl, rfl, HR⟩ := hrel
    by_cases hlt : j ≤ l.length
    · have hlt' : (j : Int) ≤ (l.length : Int) := by omega
      have j0 : (0 : Int) ≤ (j : Int) := by omega
      have xj := IntWalk.i64_in ((j : Int) + 1) (by omega)
      obtain ⟨hsc, hpp⟩ : nameScan [] l = nameScan part (l.drop j) ∧ ∀ c ∈ part, plainC c = true := by
        rcases HR.out with ⟨_, h1, h2⟩ | ⟨h1, _⟩
        · exact ⟨h1, h2⟩
        · omega
      by_cases hend : j = l.length ∨ ∃ h : j < l.length, l[j] = 47
      · -- a part ends here
        have HE := Lib.hid hend
        obtain ⟨tl, htl, hnx⟩ : ∃ tl, nameScan [] l = (segB part && tl) ∧ (segB part = true → Hid ((j + 1 ≤ l.length ∧ nameScan [] l = nameScan [] (l.drop (j + 1)) ∧ ∀ c ∈ ([] : List UInt8), plainC c = true) ∨ (j + 1 = l.length + 1 ∧ nameScan [] l = true))) := by
          rcases hend with h | ⟨h, hc⟩
          · refine ⟨true, by rw [hsc, h, List.drop_length, scan_nil, Bool.and_true], fun hs => Lib.hid (.inr ⟨by omega, by rw [hsc, h, List.drop_length, scan_nil, hs]⟩)⟩
          · have hd : l.drop j = 47 :: l.drop (j + 1) := by rw [← hc]; exact (List.getElem_cons_drop h).symm
            refine ⟨nameScan [] (l.drop (j + 1)), by rw [hsc, hd, scan_cons, if_pos rfl], fun hs => Lib.hid (.inl ⟨h, by rw [hsc, hd, scan_cons, if_pos rfl, hs, Bool.true_and], fun c hc => by cases hc⟩)⟩
        by_cases hbad : part = [] ∨ part = [46] ∨ part = [46, 46]
        · have EV := Lib.hid (show nameB l = false from by rw [HN2.out, htl, segB_not hbad, Bool.false_and])
          clear htl hnx hsc hpp HR
          rcases hbad with rfl | rfl | rfl
          · rcases HE.out with h | ⟨h, hc⟩
            · have q2 : ((j : Int) == (l.length : Int)) = true := by rw [beq_iff_eq]; omega
              have hje : (j : Int) = (l.length : Int) := by omega
              subst h
              clear HE hend
              go_wp2
              go_ret
              exact ⟨by rw [EV.out]; rfl, rfl⟩
            · have q2 : ((j : Int) == (l.length : Int)) = false := by rw [beq_eq_false_iff_ne]; omega
              have hne : ¬ (j : Int) = (l.length : Int) := by omega
              have hji : (j : Int) < (l.length : Int) := by omega
              have q1 : ((((⟨l.toArray⟩ : ByteArray)[j]'(by rw [hsz]; exact h)).toNat : Int) == 47) = true := by
                show ((l[j].toNat : Int) == 47) = true
                rw [hc]; rfl
              clear HE hend hc
              go_wp2
              go_ret
              exact ⟨by rw [EV.out]; rfl, rfl⟩
          · rcases HE.out with h | ⟨h, hc⟩
            · have q2 : ((j : Int) == (l.length : Int)) = true := by rw [beq_iff_eq]; omega
              have hje : (j : Int) = (l.length : Int) := by omega
              subst h
              clear HE hend
              go_wp2
              go_ret
              exact ⟨by rw [EV.out]; rfl, rfl⟩
            · have q2 : ((j : Int) == (l.length : Int)) = false := by rw [beq_eq_false_iff_ne]; omega
              have hne : ¬ (j : Int) = (l.length : Int) := by omega
              have hji : (j : Int) < (l.length : Int) := by omega
              have q1 : ((((⟨l.toArray⟩ : ByteArray)[j]'(by rw [hsz]; exact h)).toNat : Int) == 47) = true := by
                show ((l[j].toNat : Int) == 47) = true
                rw [hc]; rfl
              clear HE hend hc
              go_wp2
              go_ret
              exact ⟨by rw [EV.out]; rfl, rfl⟩
          · rcases HE.out with h | ⟨h, hc⟩
            · have q2 : ((j : Int) == (l.length : Int)) = true := by rw [beq_iff_eq]; omega
              have hje : (j : Int) = (l.length : Int) := by omega
              subst h
              clear HE hend
              go_wp2
              go_ret
              exact ⟨by rw [EV.out]; rfl, rfl⟩
            · have q2 : ((j : Int) == (l.length : Int)) = false := by rw [beq_eq_false_iff_ne]; omega
              have hne : ¬ (j : Int) = (l.length : Int) := by omega
              have hji : (j : Int) < (l.length : Int) := by omega
              have q1 : ((((⟨l.toArray⟩ : ByteArray)[j]'(by rw [hsz]; exact h)).toNat : Int) == 47) = true := by
                show ((l[j].toNat : Int) == 47) = true
                rw [hc]; rfl
              clear HE hend hc
              go_wp2
              go_ret
              exact ⟨by rw [EV.out]; rfl, rfl⟩
        · have hsg : segB part = true := segB_of hpp (fun h => hbad (.inl h)) (fun h => hbad (.inr (.inl h))) (fun h => hbad (.inr (.inr h)))
          have NX := hnx hsg
          have i1 : part.isEmpty = false := by
            cases part with
            | nil => exact absurd (.inl rfl) hbad
            | cons _ _ => rfl
          have i2 : (part == [46]) = false := by
            cases h : (part == [46]) with
            | false => rfl
            | true => exact absurd (.inr (.inl (by simpa using h))) hbad
          have i3 : (part == [46, 46]) = false := by
            cases h : (part == [46, 46]) with
            | false => rfl
            | true => exact absurd (.inr (.inr (by simpa using h))) hbad
          have n1 : ¬ part = [] := fun h => hbad (.inl h)
          have n2 : ¬ part = [46] := fun h => hbad (.inr (.inl h))
          have n3 : ¬ part = [46, 46] := fun h => hbad (.inr (.inr h))
          clear htl hnx hsc hpp HR hbad hsg
          rcases HE.out with h | ⟨h, hc⟩
          · have q2 : ((j : Int) == (l.length : Int)) = true := by rw [beq_iff_eq]; omega
            have hje : (j : Int) = (l.length : Int) := by omega
            subst h
            clear HE hend
            go_wp2
            go_round
            case rel => exact ⟨l.length + 1, [], by omega, by simp, rfl, by simp, NX⟩
            case measure => simp [intOf] <;> omega
          · have q2 : ((j : Int) == (l.length : Int)) = false := by rw [beq_eq_false_iff_ne]; omega
            have hne : ¬ (j : Int) = (l.length : Int) := by omega
            have hji : (j : Int) < (l.length : Int) := by omega
            have q1 : ((((⟨l.toArray⟩ : ByteArray)[j]'(by rw [hsz]; exact h)).toNat : Int) == 47) = true := by
              show ((l[j].toNat : Int) == 47) = true
              rw [hc]; rfl
            clear HE hend hc
            go_wp2
            go_round
            case rel => exact ⟨j + 1, [], by omega, by simp, rfl, by simp, NX⟩
            case measure => simp [intOf] <;> omega
      · -- a byte of a part
        have hlt2 : j < l.length := by
          rcases Nat.lt_or_ge j l.length with h | h
          · exact h
          · exact absurd (.inl (by omega)) hend
        have hc47 : l[j] ≠ 47 := fun h => hend (.inr ⟨hlt2, h⟩)
        have hd : l.drop j = l[j] :: l.drop (j + 1) := (List.getElem_cons_drop hlt2).symm
        have hs2 : nameScan [] l = (plainC l[j] && nameScan (part ++ [l[j]]) (l.drop (j + 1))) := by rw [hsc, hd, scan_cons, if_neg hc47]
        have q1 : ((((⟨l.toArray⟩ : ByteArray)[j]'(by rw [hsz]; exact hlt2)).toNat : Int) == 47) = false := by
          show ((l[j].toNat : Int) == 47) = false
          rw [beq_eq_false_iff_ne]
          intro h
          exact hc47 (UInt8.toNat_inj.1 (by show l[j].toNat = 47; omega))
        have q2 : ((j : Int) == (l.length : Int)) = false := by rw [beq_eq_false_iff_ne]; omega
        have hne : ¬ (j : Int) = (l.length : Int) := by omega
        have hji : (j : Int) < (l.length : Int) := by omega
        have PA := Lib.hid (plain_any l[j] w)
        have hex : (⟨l.toArray⟩ : ByteArray).extract j (j + 1) = ⟨[l[j]].toArray⟩ := by
          rw [cut_str, hd, show j + 1 - j = 1 from by omega]
          rfl
        have hss := str_add part [l[j]]
        have s1 : (0 : Int) ≤ (j : Int) + 1 := by omega
        have s2 : (j : Int) ≤ (j : Int) + 1 := by omega
        have s3 : (j : Int) + 1 ≤ (l.length : Int) := by omega
        have s4 : ((j : Int) + 1).toNat = j + 1 := by omega
        have s5 : j ≤ j + 1 := by omega
        have s6 : j + 1 ≤ l.length := hlt2
        cases hp : plainC l[j] with
        | false =>
          have EV := Lib.hid (show nameB l = false from by rw [HN2.out, hs2, hp, Bool.false_and])
          rw [hp] at PA
          clear hp hs2 hsc hpp HR hend hc47 hd hex hss
          go_wp2_with fail
          refine PA.out.mono ?_; rintro e w1 ⟨rfl, hw⟩; subst hw
          go_wp2
          go_ret
          exact ⟨by rw [EV.out]; rfl, rfl⟩
        | true =>
          rw [hp, Bool.true_and] at hs2
          rw [hp] at PA
          have NX := Lib.hid (show (j + 1 ≤ l.length ∧ nameScan [] l = nameScan (part ++ [l[j]]) (l.drop (j + 1)) ∧ ∀ c ∈ part ++ [l[j]], plainC c = true) ∨ (j + 1 = l.length + 1 ∧ nameScan [] l = true) from .inl ⟨hlt2, hs2, fun c hc => by
            rcases List.mem_append.1 hc with h | h
            · exact hpp c h
            · rw [List.mem_singleton.1 h]; exact hp⟩)
          have y1 : ¬ 9223372036854775807 < part.length + 1 := by omega
          clear hp hs2 hsc hpp HR hend hc47 hd
          have HSS := Lib.hid hss
          clear hss
          go_wp2_with fail
          refine PA.out.mono ?_; rintro e w1 ⟨rfl, hw⟩; subst hw
          go_wp2
          go_round
          case rel => exact ⟨j + 1, part ++ [l[j]], by omega, by simp; omega, by rw [← HSS.out], by simp, NX⟩
          case measure => simp [intOf] <;> omega
    · have hge : ¬ (j : Int) ≤ (l.length : Int) := by omega
      have EV := Lib.hid (show nameB l = true from by
        rw [HN2.out]
        rcases HR.out with ⟨h, _⟩ | ⟨_, h⟩
        · omega
        · exact h)
      go_wp2
      go_ret
      exact ⟨by rw [EV.out]; rfl, rfl⟩
end Go.Proofs.YtjhbllbiajmkgaaDoor.Pt
