/- Package path's Target, Kind; the chapter's examples. Conditions: those that each states. -/
import Derived.Test.YtjhbllbiajmkgaaDoorPa5
namespace Go.Proofs.YtjhbllbiajmkgaaDoor.Pt
open Go.ChangeShapes Go.WideShapes Go.ChangeAt Go.RowKit Go.Deep
set_option linter.unusedVariables false
theorem str_add (a b : List UInt8) : ((⟨a.toArray⟩ : ByteArray) ++ (⟨b.toArray⟩ : ByteArray)) = ⟨(a ++ b).toArray⟩ := by
  apply ByteArray.ext
  simp
theorem target_any (l : List UInt8) (hl : l.length ≤ 1000000) (w : World) : Calls Tryd.prog 10 #[.string ⟨l.toArray⟩] w fun e w' => e = .returned (.tuple #[.string ⟨(targetR l).1.toArray⟩, .int .i64 (targetR l).2]) ∧ Below w.heap.size w w' := by
  have hsz : (⟨l.toArray⟩ : ByteArray).size = l.length := rfl
  have NA := Lib.hid (name_any l (by omega) w)
  cases hb : nameB l with
  | true =>
    have TR := Lib.hid (show targetR l = (47 :: l, 0) from by unfold targetR; rw [if_pos hb])
    rw [hb] at NA
    clear hb
    have hss := str_add [47] l
    have HS := Lib.hid hss
    clear hss
    go_enter Tryd.func10, Tryd.ntmps10
    go_wp2_with fail
    refine NA.out.mono ?_; rintro e w1 ⟨rfl, b1⟩
    go_wp2
    go_ret2
    refine ⟨?_, b1⟩
    rw [TR.out]
    show Ending.returned (.tuple #[.string ((⟨[47].toArray⟩ : ByteArray) ++ ⟨l.toArray⟩), .int .i64 0]) = _
    rw [HS.out]
    rfl
  | false =>
    have TR := Lib.hid (show targetR l = ([], 70) from by unfold targetR; rw [if_neg (by rw [hb]; decide)])
    rw [hb] at NA
    clear hb
    go_enter Tryd.func10, Tryd.ntmps10
    go_wp2_with fail
    refine NA.out.mono ?_; rintro e w1 ⟨rfl, b1⟩
    go_wp2
    go_ret2
    exact ⟨by rw [TR.out]; rfl, b1⟩
theorem last_none {l : List UInt8} (h : (46 : UInt8) ∉ l) : Lib.lastIndexByte ⟨l.toArray⟩ 46 = -1 := by
  have hs : (⟨l.toArray⟩ : ByteArray).size = l.length := rfl
  unfold Lib.lastIndexByte
  rcases Lib.lastIdx_spec ⟨l.toArray⟩ 46 (⟨l.toArray⟩ : ByteArray).size with ⟨h1, _⟩ | ⟨i, hi, _, h2, _⟩
  · exact h1
  · exfalso
    rw [hs] at hi
    have e : (⟨l.toArray⟩ : ByteArray).data[i]! = l[i] := by
      show l.toArray[i]! = l[i]
      rw [getElem!_pos l.toArray i (by simpa using hi)]; simp
    rw [e] at h2
    exact h (by rw [show (46 : UInt8) = l[i] from (UInt8.toNat_inj.1 (by show 46 = l[i].toNat; omega))]; exact List.getElem_mem hi)
theorem last_at {a e : List UInt8} (h : (46 : UInt8) ∉ e) : Lib.lastIndexByte ⟨(a ++ 46 :: e).toArray⟩ 46 = a.length := by
  have hs : (⟨(a ++ 46 :: e).toArray⟩ : ByteArray).size = a.length + 1 + e.length := by
    show (a ++ 46 :: e).toArray.size = _
    simp; omega
  have hg : ∀ i, (hi : i < (a ++ 46 :: e).length) → (⟨(a ++ 46 :: e).toArray⟩ : ByteArray).data[i]! = (a ++ 46 :: e)[i] := fun i hi => by
    show (a ++ 46 :: e).toArray[i]! = _
    rw [getElem!_pos (a ++ 46 :: e).toArray i (by simpa using hi)]; simp
  have hl : (a ++ 46 :: e).length = a.length + 1 + e.length := by simp; omega
  have hm : ((⟨(a ++ 46 :: e).toArray⟩ : ByteArray).data[a.length]!).toNat = 46 := by
    rw [hg a.length (by omega), List.getElem_append_right (Nat.le_refl _)]
    simp
  unfold Lib.lastIndexByte
  rcases Lib.lastIdx_spec ⟨(a ++ 46 :: e).toArray⟩ 46 (⟨(a ++ 46 :: e).toArray⟩ : ByteArray).size with ⟨_, h1⟩ | ⟨i, hi, h1, h2, h3⟩
  · exact absurd (by rw [hm]; rfl) (h1 a.length (by omega))
  · rw [h1]
    rw [hs] at hi h3
    by_cases h4 : i < a.length
    · exact absurd (by rw [hm]; rfl) (h3 a.length h4 (by omega))
    · by_cases h5 : i = a.length
      · rw [h5]
      · exfalso
        rw [hg i (by omega), List.getElem_append_right (by omega)] at h2
        obtain ⟨k, hk⟩ : ∃ k, i - a.length = k + 1 := ⟨i - a.length - 1, by omega⟩
        have hke : k < e.length := by omega
        have : (46 :: e)[i - a.length]'(by simp; omega) = e[k] := by
          simp only [hk, List.getElem_cons_succ]
        rw [this] at h2
        exact h (by rw [show (46 : UInt8) = e[k] from (UInt8.toNat_inj.1 (by show 46 = e[k].toNat; omega))]; exact List.getElem_mem hke)
set_option maxHeartbeats 2000000 in
theorem kind_any (l : List UInt8) (hl : l.length ≤ 1000000) (w : World) : Calls Tryd.prog 12 #[.string ⟨l.toArray⟩] w fun e w' => e = .returned (.string ⟨(kindR l).toArray⟩) ∧ w' = w := by
  have hsz : (⟨l.toArray⟩ : ByteArray).size = l.length := rfl
  have LI := Tryd.strings_LastIndexByte ⟨l.toArray⟩ 46 (by rw [hsz]; omega) w
  cases he : endOf l with
  | none =>
    have KR := Lib.hid (show kindR l = unknownT from by unfold kindR; rw [he])
    rw [last_none (endOf_none.1 he)] at LI
    have LI := Lib.hid LI
    clear he
    go_enter Tryd.func12, Tryd.ntmps12
    go_wp2_with fail
    refine LI.out.mono ?_; rintro e w1 ⟨rfl, hw⟩; subst hw
    go_wp2
    go_ret
    exact ⟨by rw [KR.out]; rfl, rfl⟩
  | some e =>
    obtain ⟨a, rfl, hne⟩ := endOf_form he
    have hyl : (a ++ 46 :: e).length = a.length + 1 + e.length := by simp; omega
    have KR := show kindR (a ++ 46 :: e) = kindE e from by unfold kindR; rw [he]
    rw [last_at hne] at LI
    have LI := Lib.hid LI
    have hey : (⟨(a ++ 46 :: e).toArray⟩ : ByteArray).extract (a.length + 1) (a.length + 1 + e.length) = ⟨e.toArray⟩ := by
      rw [cut_str, drop_cut]
      congr 2
      rw [List.take_of_length_le (by omega)]
    have HEY := Lib.hid hey
    clear he hne hey
    go_enter Tryd.func12, Tryd.ntmps12
    go_wp2_with fail
    refine LI.out.mono ?_; rintro e1 w1 ⟨rfl, hw⟩; subst hw
    go_upto_region 5 with fail
    rw [show (⟨(a ++ 46 :: e).toArray⟩ : ByteArray).extract (a.length + 1) (a.length + 1 + e.length) = ⟨e.toArray⟩ from HEY.out]
    clear HEY hyl LI hsz hl
    by_cases h0 : e = [104, 116, 109, 108]
    · have KE := Lib.hid (show kindR (a ++ 46 :: e) = [116, 101, 120, 116, 47, 104, 116, 109, 108] from by rw [KR, h0]; decide +kernel)
      clear KR 
      subst h0
      go_wp2
      go_ret
      exact ⟨by rw [KE.out]; rfl, rfl⟩
    by_cases h1 : e = [116, 120, 116]
    · have KE := Lib.hid (show kindR (a ++ 46 :: e) = [116, 101, 120, 116, 47, 112, 108, 97, 105, 110] from by rw [KR, h1]; decide +kernel)
      clear KR h0
      subst h1
      go_wp2
      go_ret
      exact ⟨by rw [KE.out]; rfl, rfl⟩
    by_cases h2 : e = [99, 115, 115]
    · have KE := Lib.hid (show kindR (a ++ 46 :: e) = [116, 101, 120, 116, 47, 99, 115, 115] from by rw [KR, h2]; decide +kernel)
      clear KR h0 h1
      subst h2
      go_wp2
      go_ret
      exact ⟨by rw [KE.out]; rfl, rfl⟩
    by_cases h3 : e = [106, 115]
    · have KE := Lib.hid (show kindR (a ++ 46 :: e) = [116, 101, 120, 116, 47, 106, 97, 118, 97, 115, 99, 114, 105, 112, 116] from by rw [KR, h3]; decide +kernel)
      clear KR h0 h1 h2
      subst h3
      go_wp2
      go_ret
      exact ⟨by rw [KE.out]; rfl, rfl⟩
    by_cases h4 : e = [112, 110, 103]
    · have KE := Lib.hid (show kindR (a ++ 46 :: e) = [105, 109, 97, 103, 101, 47, 112, 110, 103] from by rw [KR, h4]; decide +kernel)
      clear KR h0 h1 h2 h3
      subst h4
      go_wp2
      go_ret
      exact ⟨by rw [KE.out]; rfl, rfl⟩
    by_cases h5 : e = [106, 115, 111, 110]
    · have KE := Lib.hid (show kindR (a ++ 46 :: e) = [97, 112, 112, 108, 105, 99, 97, 116, 105, 111, 110, 47, 106, 115, 111, 110] from by rw [KR, h5]; decide +kernel)
      clear KR h0 h1 h2 h3 h4
      subst h5
      go_wp2
      go_ret
      exact ⟨by rw [KE.out]; rfl, rfl⟩
    have KE := Lib.hid (show kindR (a ++ 46 :: e) = unknownT from by rw [KR]; simp only [kindE, if_neg h0, if_neg h1, if_neg h2, if_neg h3, if_neg h4, if_neg h5])
    have i0 : (e == [104, 116, 109, 108]) = false := by simpa using h0
    have i1 : (e == [116, 120, 116]) = false := by simpa using h1
    have i2 : (e == [99, 115, 115]) = false := by simpa using h2
    have i3 : (e == [106, 115]) = false := by simpa using h3
    have i4 : (e == [112, 110, 103]) = false := by simpa using h4
    have i5 : (e == [106, 115, 111, 110]) = false := by simpa using h5
    clear KR h0 h1 h2 h3 h4 h5
    go_wp2
    go_ret
    exact ⟨by rw [KE.out]; rfl, rfl⟩
/-! The chapter's examples. -/
theorem ex1 : ofR [47, 97, 37, 50, 69, 116, 120, 116, 63, 120] = ([97, 46, 116, 120, 116], 0) := by decide +kernel
theorem ex2 : ofR [47, 97, 47, 46, 46, 47, 98] = ([], 70) := by decide +kernel
theorem ex3 : ofR [47] = (indexT, 0) := by decide +kernel
theorem alive_any (w : World) (hv : VarsP w) : Calls Tryd.prog 8 #[] w fun e w' => e = .returned (.bool true) ∧ Below w.heap.size w w' := by
  have O1 := of_any [47, 97, 37, 50, 69, 116, 120, 116, 63, 120] (by decide) w hv
  rw [ex1] at O1
  have O1 := Lib.hid O1
  have O2 := fun (W : World) (hW : Below w.heap.size w W) => of_any [47, 97, 47, 46, 46, 47, 98] (by decide) W (hv.below hW)
  rw [ex2] at O2
  have O2 := Lib.hid O2
  have O3 := fun (W : World) (hW : Below w.heap.size w W) => of_any [47] (by decide) W (hv.below hW)
  rw [ex3] at O3
  have O3 := Lib.hid O3
  clear hv
  go_enter Tryd.func8, Tryd.ntmps8
  go_wp2_with fail
  refine O1.out.mono ?_; rintro e w1 ⟨rfl, b1⟩
  have B1 := Lib.hid b1
  clear b1
  go_wp2_with fail
  refine (O2.out w1 B1.out).mono ?_; rintro e w2 ⟨rfl, b2⟩
  have B2 := Lib.hid (B1.out.trans (b2.mono B1.out.size))
  clear b2
  go_wp2_with fail
  refine (O3.out w2 B2.out).mono ?_; rintro e w3 ⟨rfl, b3⟩
  have B3 := Lib.hid (B2.out.trans (b3.mono B2.out.size))
  clear b3
  go_wp2
  go_ret
  exact ⟨rfl, B3.out⟩
end Go.Proofs.YtjhbllbiajmkgaaDoor.Pt
