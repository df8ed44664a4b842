/- The document's Of. Conditions: those that each states. -/
import Derived.Test.YtjhbllbiajmkgaaDoorPr2
import Derived.Test.YtjhbllbiajmkgaaDoorTail
namespace Go.Proofs.YtjhbllbiajmkgaaDoor.Pt
open Go.ChangeShapes Go.WideShapes Go.ChangeAt Go.RowKit Go.Deep
set_option linter.unusedVariables false
def ansR : List UInt8 → List UInt8 × Int
  | [] => ([], 70)
  | c :: r => if c = 47 then (if r = [] then (indexT, 0) else nameOf r) else ([], 70)
theorem ofR_ans {l : List UInt8} (h : ¬ 128 < l.length) : ofR l = ansR (asked l) := by
  unfold ofR
  rw [if_neg h]
  cases asked l <;> rfl
theorem asked_all {l : List UInt8} (h : ∀ k (h' : k < l.length), l[k] ≠ 63) : asked l = l := by
  unfold asked
  have e := List.takeWhile_append_of_pos (p := fun x : UInt8 => x != 63) (l₁ := l) (l₂ := []) (by
    intro a ha
    obtain ⟨k, hk, rfl⟩ := List.mem_iff_getElem.1 ha
    simp [h k hk])
  simpa using e
theorem asked_cut {l : List UInt8} {j : Nat} (h : j < l.length) (hp : ∀ k (hk : k < j) (hk' : k < l.length), l[k] ≠ 63) (h63 : l[j] = 63) : asked l = l.take j := by
  have e : l = l.take j ++ l[j] :: l.drop (j + 1) := by rw [List.getElem_cons_drop h, List.take_append_drop]
  have e2 : asked l = asked (l.take j ++ l[j] :: l.drop (j + 1)) := by rw [← e]
  rw [e2]
  unfold asked
  rw [List.takeWhile_append_of_pos]
  · rw [h63]; simp
  · intro a ha
    obtain ⟨k, hk, rfl⟩ := List.mem_iff_getElem.1 ha
    have hk2 : k < j := by simp at hk; omega
    have hk3 : k < l.length := by omega
    have := hp k hk2 hk3
    rw [List.getElem_take]
    simp [this]
theorem head_cons {l : List UInt8} (h : 0 < l.length) : l = l[0] :: l.drop 1 := by
  cases l with
  | nil => cases h
  | cons a t => rfl
theorem digit_some {c : UInt8} (h : ¬ digitR c < 0) : ∃ x : Nat, hexV c = some x ∧ digitR c = (x : Int) ∧ x < 16 := by
  have hv : ∀ x : Fin 256, ∀ v, hexV (UInt8.ofNat x.1) = some v → v < 16 := by
    intro x v hh
    have : ∀ x : Fin 256, ((hexV (UInt8.ofNat x.1)).getD 0) < 16 := by decide +kernel
    have h2 := this x
    rw [hh] at h2
    exact h2
  cases hh : hexV c with
  | none => exact absurd (by unfold digitR; rw [hh]; decide) h
  | some x =>
    have e : UInt8.ofNat c.toNat = c := by simp
    exact ⟨x, rfl, by unfold digitR; rw [hh], hv ⟨c.toNat, c.toNat_lt⟩ x (by rw [show UInt8.ofNat (⟨c.toNat, c.toNat_lt⟩ : Fin 256).1 = c from e]; exact hh)⟩
theorem digit_none {c : UInt8} (h : digitR c < 0) : hexV c = none := by
  cases hh : hexV c with
  | none => rfl
  | some x => unfold digitR at h; rw [hh] at h; have h : (x : Int) < 0 := h; omega
theorem three {l : List UInt8} (h : ¬ l.length < 3) (h37 : l[0]'(by omega) = 37) : l = (37 : UInt8) :: l[1]'(by omega) :: l[2]'(by omega) :: l.drop 3 := by
  match l, h, h37 with
  | [], h, _ => exact absurd (by decide) h
  | [_], h, _ => exact absurd (by show 1 < 3; decide) h
  | [_, _], h, _ => exact absurd (by show 2 < 3; decide) h
  | a :: b :: c :: r, h, h37 => 
    have h37 : a = 37 := h37
    subst h37; rfl
theorem ref_short {l : List UInt8} (h0 : 0 < l.length) (h : l.length < 3) (h37 : l[0] = 37) : firstR l = none := by
  match l, h0, h, h37 with
  | [a], _, _, h37 => have h37 : a = 37 := h37; subst h37; rfl
  | [a, b], _, _, h37 => have h37 : a = 37 := h37; subst h37; rfl
  | _ :: _ :: _ :: _, _, h, _ => simp at h; omega
theorem first_three {l : List UInt8} (h : ¬ l.length < 3) (h37 : l[0]'(by omega) = 37) : firstR l = (twoV (l[1]'(by omega)) (l[2]'(by omega))).map fun x => (x, l.drop 3) := by
  have e := three h h37
  have e2 : firstR l = firstR ((37 : UInt8) :: l[1]'(by omega) :: l[2]'(by omega) :: l.drop 3) := by rw [← e]
  rw [e2]; rfl
theorem fin_nil (nm : List UInt8) : fin nm [] = if nameB nm = true then (nm, 0) else ([], 70) := by
  unfold fin
  rw [unesc_nil]
  show (if nameB (nm ++ []) = true then (nm ++ [], (0 : Int)) else ([], 70)) = _
  rw [List.append_nil]
set_option maxRecDepth 100000 in
set_option maxHeartbeats 20000000 in
theorem rof_any (l : List UInt8) (hl : l.length ≤ 1000000) (w : World) : Calls Tryd.prog 15 #[.string ⟨l.toArray⟩] w fun e w' => e = .returned (.tuple #[.string ⟨(ofR l).1.toArray⟩, .int .i64 (ofR l).2]) ∧ Below w.heap.size w w' := by
  have hsz : (⟨l.toArray⟩ : ByteArray).size = l.length := rfl
  by_cases h128 : 128 < l.length
  · have OF := Lib.hid (show ofR l = ([], 2) from by unfold ofR; rw [if_pos h128])
    have g1 : (l.length : Int) > 128 := by omega
    go_enter Tryd.func15, Tryd.ntmps15
    go_wp2
    go_ret2
    exact ⟨by rw [OF.out]; rfl, Below.refl _ _⟩
  have g1 : ¬ (l.length : Int) > 128 := by omega
  have HANS := Lib.hid (ofR_ans h128)
  go_enter Tryd.func15, Tryd.ntmps15
  go_wp2
  go_loop [0, 4] (fun s i => ∃ j : Nat, j ≤ l.length ∧ s = .string ⟨l.toArray⟩ ∧ i = .int .i64 (j : Int) ∧ Hid (∀ k (hk : k < j) (hk' : k < l.length), l[k] ≠ 63)) (fun _ i => l.length - (intOf i).toNat)
  case atStart => exact ⟨0, Nat.zero_le _, rfl, rfl, Lib.hid (fun k hk => absurd hk (by omega))⟩
  case round =>
    obtain ⟨j, hj, rfl, rfl, HP⟩ := hrel
    by_cases hlt : j < l.length
    · have hlt' : (j : Int) < (l.length : Int) := by omega
      have j0 : (0 : Int) ≤ (j : Int) := by omega
      have xj := IntWalk.i64_in ((j : Int) + 1) (by omega)
      by_cases hq : l[j] = 63
      · have q : ((((⟨l.toArray⟩ : ByteArray)[j]'(by rw [hsz]; exact hlt)).toNat : Int) == 63) = true := by
          show ((l[j].toNat : Int) == 63) = true
          rw [hq]; rfl
        have hask := asked_cut hlt HP.out hq
        have E := Lib.hid (show (⟨l.toArray⟩ : ByteArray).extract 0 j = ⟨(asked l).toArray⟩ from by rw [cut_str, hask]; simp)
        have s1 : (j : Int) ≤ (l.length : Int) := by omega
        have s2 : j ≤ l.length := hj
        have T := Lib.hid (show (asked l).length ≤ 128 from by rw [hask]; simp; omega)
        clear hq HP hask
        go_upto_region 8 with fail
        rw [show (⟨l.toArray⟩ : ByteArray).extract 0 j = ⟨(asked l).toArray⟩ from E.out]
        clear E
        generalize asked l = t0 at *
        have T := T.out
        have hst : (⟨t0.toArray⟩ : ByteArray).size = t0.length := rfl
        by_cases e1 : t0 = [47]
        · subst e1
          have OF := Lib.hid (show ofR l = (indexT, 0) from HANS.out)
          clear HANS
          go_wp2
          go_ret2
          exact ⟨by rw [OF.out]; rfl, Below.refl _ _⟩
        have i1 : (t0 == [47]) = false := by simpa using e1
        by_cases e2 : t0 = []
        · subst e2
          have OF := Lib.hid (show ofR l = ([], 70) from HANS.out)
          clear HANS
          go_wp2
          go_ret2
          exact ⟨by rw [OF.out]; rfl, Below.refl _ _⟩
        have i2 : (t0 == []) = false := by simpa using e2
        have i3 : t0.isEmpty = false := by
          cases t0 with
          | nil => exact absurd rfl e2
          | cons _ _ => rfl
        have hpos : 0 < t0.length := List.length_pos_iff.2 e2
        have hpos' : (0 : Int) < (t0.length : Int) := by omega
        by_cases e3 : ¬ t0[0] = 47
        · have q1 : ((((⟨t0.toArray⟩ : ByteArray)[0]'(by rw [hst]; exact hpos)).toNat : Int) == 47) = false := by
            show ((t0[0].toNat : Int) == 47) = false
            rw [beq_eq_false_iff_ne]
            intro h
            exact e3 (UInt8.toNat_inj.1 (by show t0[0].toNat = 47; omega))
          have q2 : ((((⟨t0.toArray⟩ : ByteArray)[0]'(by rw [hst]; exact hpos)).toNat : Int) != 47) = true := by rw [bne, q1]; rfl
          have OF := Lib.hid (show ofR l = ([], 70) from by
            rw [HANS.out, head_cons hpos]
            show (if t0[0] = 47 then _ else _) = _
            rw [if_neg e3])
          clear HANS e3 e1 e2
          go_wp2
          go_ret2
          exact ⟨by rw [OF.out]; rfl, Below.refl _ _⟩
        have e3 := Classical.not_not.1 e3
        have q1 : ((((⟨t0.toArray⟩ : ByteArray)[0]'(by rw [hst]; exact hpos)).toNat : Int) == 47) = true := by
          show ((t0[0].toNat : Int) == 47) = true
          rw [e3]; rfl
        have q2 : ((((⟨t0.toArray⟩ : ByteArray)[0]'(by rw [hst]; exact hpos)).toNat : Int) != 47) = false := by rw [bne, q1]; rfl
        have HF := Lib.hid (show ofR l = fin [] (t0.drop 1) from by
          rw [HANS.out, fin_nameOf]
          have e := head_cons hpos
          have hne : t0.drop 1 ≠ [] := fun h => e1 (by rw [e, h, e3])
          have : ansR t0 = ansR (47 :: t0.drop 1) := by rw [← e3, ← e]
          rw [this]
          show (if t0.drop 1 = [] then _ else _) = _
          rw [if_neg hne])
        have E1 := Lib.hid (show (⟨t0.toArray⟩ : ByteArray).extract 1 t0.length = ⟨(t0.drop 1).toArray⟩ from by
          rw [cut_str, List.take_of_length_le (by simp)])
        have s1 : (1 : Int) ≤ (t0.length : Int) := by omega
        have s2 : 1 ≤ t0.length := by omega
        clear HANS e3 e1 e2
        go_upto_region 13 with fail
        rw [show (⟨t0.toArray⟩ : ByteArray).extract 1 t0.length = ⟨(t0.drop 1).toArray⟩ from E1.out]
        have T1 := Lib.hid (show 0 + (t0.drop 1).length ≤ 128 from by simp; omega)
        clear E1
        generalize t0.drop 1 = t1 at *
        go_wp2
        go_loopw [0, 5, 6] (fun s0 s5 s6 wr => ∃ nm a : List UInt8, s0 = .string ⟨a.toArray⟩ ∧ s5 = .string ⟨nm.toArray⟩ ∧ nm.length + a.length ≤ 128 ∧ Hid (ofR l = fin nm a) ∧ Hid (Below w.heap.size w wr)) (fun s0 _ _ _ => match s0 with | .string b => b.size | _ => 0)
        case atStart => exact ⟨[], t1, rfl, rfl, T1.out, HF, Lib.hid (Below.refl _ _)⟩
        case round =>
          obtain ⟨nm, a, rfl, rfl, hlen, HF, HB⟩ := hrel
          clear T1 T
          have hsa : (⟨a.toArray⟩ : ByteArray).size = a.length := rfl
          by_cases hp : 0 < a.length
          · have hp' : (a.length : Int) > 0 := by omega
            have hp2 : (0 : Int) < (a.length : Int) := by omega
            have hne : a ≠ [] := List.length_pos_iff.1 hp
            by_cases h37 : a[0] = 37
            · have q1 : ((((⟨a.toArray⟩ : ByteArray)[0]'(by rw [hsa]; exact hp)).toNat : Int) == 37) = true := by
                show ((a[0].toNat : Int) == 37) = true
                rw [h37]; rfl
              have q2 : ((((⟨a.toArray⟩ : ByteArray)[0]'(by rw [hsa]; exact hp)).toNat : Int) != 37) = false := by rw [bne, q1]; rfl
              by_cases h3 : a.length < 3
              · have h3' : (a.length : Int) < 3 := by omega
                have OF := Lib.hid (show ofR l = ([], 70) from by rw [HF.out]; exact fin_none hne (ref_short hp h3 h37))
                clear HF h37 hne
                go_wp2
                go_ret2
                exact ⟨by rw [OF.out]; rfl, HB.out⟩
              · have h3' : ¬ (a.length : Int) < 3 := by omega
                have l1 : 1 < a.length := by omega
                have l2 : 2 < a.length := by omega
                have l1' : (1 : Int) < (a.length : Int) := by omega
                have l2' : (2 : Int) < (a.length : Int) := by omega
                have hfst := first_three h3 h37
                have DX : ∀ W : World, Calls Tryd.prog 24 #[.int .u8 (((⟨a.toArray⟩ : ByteArray)[1]'(by rw [hsa]; exact l1)).toNat : Int)] W fun e w' => e = .returned (.int .i64 (digitR a[1])) ∧ w' = W := fun W => digit_any a[1] W
                have DY : ∀ W : World, Calls Tryd.prog 24 #[.int .u8 (((⟨a.toArray⟩ : ByteArray)[2]'(by rw [hsa]; exact l2)).toNat : Int)] W fun e w' => e = .returned (.int .i64 (digitR a[2])) ∧ w' = W := fun W => digit_any a[2] W
                by_cases hx : digitR a[1] < 0
                · have OF := Lib.hid (show ofR l = ([], 70) from by
                    rw [HF.out]
                    refine fin_none hne ?_
                    rw [hfst]
                    unfold twoV
                    rw [digit_none hx]; rfl)
                  have DX := Lib.hid DX
                  clear HF h37 hne hfst DY
                  go_wp2_with fail
                  refine (DX.out _).mono ?_; rintro e w1 ⟨rfl, hw⟩; subst hw
                  go_wp2
                  go_ret2
                  exact ⟨by rw [OF.out]; rfl, HB.out⟩
                · obtain ⟨x, hxv, hxd, hxl⟩ := digit_some hx
                  rw [hxd] at DX hx
                  by_cases hy : digitR a[2] < 0
                  · have OF := Lib.hid (show ofR l = ([], 70) from by
                      rw [HF.out]
                      refine fin_none hne ?_
                      rw [hfst]
                      unfold twoV
                      rw [hxv, digit_none hy]; rfl)
                    have DX := Lib.hid DX
                    have DY := Lib.hid DY
                    clear HF h37 hne hfst hxv hxd
                    go_wp2_with fail
                    refine (DX.out _).mono ?_; rintro e w1 ⟨rfl, hw⟩; subst hw
                    go_wp2_with fail
                    refine (DY.out _).mono ?_; rintro e w1 ⟨rfl, hw⟩; subst hw
                    go_wp2
                    go_ret2
                    exact ⟨by rw [OF.out]; rfl, HB.out⟩
                  · obtain ⟨y, hyv, hyd, hyl⟩ := digit_some hy
                    rw [hyd] at DY hy
                    have htw : firstR a = if 16 * x + y = 47 then none else some (UInt8.ofNat (16 * x + y), a.drop 3) := by
                      rw [hfst]
                      unfold twoV
                      rw [hxv, hyv]
                      show Option.map _ (if 16 * x + y = 47 then none else some _) = _
                      by_cases e : 16 * x + y = 47
                      · rw [if_pos e, if_pos e]; rfl
                      · rw [if_neg e, if_neg e]; rfl
                    have HTW := Lib.hid htw
                    have DX := Lib.hid DX
                    have DY := Lib.hid DY
                    have HNE := Lib.hid hne
                    clear htw h37 hne hfst hxv hxd hyv hyd
                    go_wp2_with fail
                    refine (DX.out _).mono ?_; rintro e w1 ⟨rfl, hw⟩; subst hw
                    go_wp2_with fail
                    refine (DY.out _).mono ?_; rintro e w1 ⟨rfl, hw⟩; subst hw
                    go_upto_region 20 with fail
                    have y1 := IntWalk.i64_in ((x : Int) * 16) (by omega)
                    have y2 := IntWalk.i64_in ((x : Int) * 16 + (y : Int)) (by omega)
                    have y3 := IntWalk.u8_in ((x : Int) * 16 + (y : Int)) (by omega)
                    have HB1 := Lib.hid (HB.out.trans ((⟨rfl, rfl, rfl, Nat.le_refl _, fun _ _ => rfl⟩ : Below w1.heap.size w1 w1.drew).mono HB.out.size))
                    refine wp_region_held_drew (S := fun w' => Hid (Below w.heap.size w w')) (by kernel_rfl) ((show Hid (Below w.heap.size w w1.drew) from HB1)) (fun hS => ?_)
                    refine held_take (i := 0) (d := (some 61)) (v := ?_) rfl rfl (by kernel_rfl) (by kernel_rfl) (by kernel_rfl) (fun _ _ _ h => h) (by rfl) ?_ hS ?_
                    rotate_left
                    · intro w' hSw; (try dsimp only at hSw); go_simp <;> with_reducible rfl
                    simp only [Act.put, List.setIfInBounds_toArray, List.set_cons_zero, List.set_cons_succ]
                    refine held_take (i := 4) (d := (some 65)) (v := ?_) rfl rfl (by kernel_rfl) (by kernel_rfl) (by kernel_rfl) (fun _ _ _ h => h) (by rfl) ?_ hS ?_
                    rotate_left
                    · intro w' hSw; (try dsimp only at hSw); go_simp <;> with_reducible rfl
                    simp only [Act.put, List.setIfInBounds_toArray, List.set_cons_zero, List.set_cons_succ]
                    refine held_take (i := 1) (d := (some 62)) (v := ?_) rfl rfl (by kernel_rfl) (by kernel_rfl) (by kernel_rfl) (fun _ _ _ h => h) (by rfl) ?_ hS ?_
                    rotate_left
                    · intro w' hSw; (try dsimp only at hSw); go_simp <;> with_reducible rfl
                    simp only [Act.put, List.setIfInBounds_toArray, List.set_cons_zero, List.set_cons_succ]
                    refine held_take (i := 5) (d := (some 66)) (v := ?_) rfl rfl (by kernel_rfl) (by kernel_rfl) (by kernel_rfl) (fun _ _ _ h => h) (by rfl) ?_ hS ?_
                    rotate_left
                    · intro w' hSw; (try dsimp only at hSw); go_simp <;> with_reducible rfl
                    simp only [Act.put, List.setIfInBounds_toArray, List.set_cons_zero, List.set_cons_succ]
                    refine held_one (i := 2) (by kernel_rfl) rfl (by rfl) ?_
                    go_simp
                    refine (DX.out _).mono ?_; rintro e w5 ⟨rfl, hw⟩; subst hw
                    refine ⟨hS, ?_⟩
                    (try simp only [Act.put, List.setIfInBounds_toArray, List.set_cons_zero, List.set_cons_succ])
                    refine held_take (i := 3) (d := (some 64)) (v := ?_) rfl rfl (by kernel_rfl) (by kernel_rfl) (by kernel_rfl) (fun _ _ _ h => h) (by rfl) ?_ hS ?_
                    rotate_left
                    · intro w' hSw; (try dsimp only at hSw); go_simp <;> with_reducible rfl
                    simp only [Act.put, List.setIfInBounds_toArray, List.set_cons_zero, List.set_cons_succ]
                    refine held_one (i := 6) (by kernel_rfl) rfl (by rfl) ?_
                    go_simp
                    refine (DY.out _).mono ?_; rintro e w5 ⟨rfl, hw⟩; subst hw
                    refine ⟨hS, ?_⟩
                    (try simp only [Act.put, List.setIfInBounds_toArray, List.set_cons_zero, List.set_cons_succ])
                    refine held_take (i := 7) (d := (some 68)) (v := ?_) rfl rfl (by kernel_rfl) (by kernel_rfl) (by kernel_rfl) (fun _ _ _ h => h) (by rfl) ?_ hS ?_
                    rotate_left
                    · intro w' hSw; (try dsimp only at hSw); go_simp <;> with_reducible rfl
                    simp only [Act.put, List.setIfInBounds_toArray, List.set_cons_zero, List.set_cons_succ]
                    refine held_take (i := 8) (d := (some 69)) (v := ?_) rfl rfl (by kernel_rfl) (by kernel_rfl) (by kernel_rfl) (fun _ _ _ h => h) (by rfl) ?_ hS ?_
                    rotate_left
                    · intro w' hSw; (try dsimp only at hSw); go_simp <;> with_reducible rfl
                    simp only [Act.put, List.setIfInBounds_toArray, List.set_cons_zero, List.set_cons_succ]
                    refine held_take (i := 9) (d := (some 6)) (v := ?_) rfl rfl (by kernel_rfl) (by kernel_rfl) (by kernel_rfl) (fun _ _ _ h => h) (by rfl) ?_ hS ?_
                    rotate_left
                    · intro w' hSw; (try dsimp only at hSw); go_simp <;> with_reducible rfl
                    simp only [Act.put, List.setIfInBounds_toArray, List.set_cons_zero, List.set_cons_succ]
                    refine wpAnyH_done (by kernel_rfl) ?_ _
                    have HB2 := hS
                    clear y1 y2 y3
                    by_cases hv : 16 * x + y = 47
                    · have g : ((x : Int) * 16 + (y : Int) == 47) = true := by rw [beq_iff_eq]; omega
                      have OF := Lib.hid (show ofR l = ([], 70) from by rw [HF.out]; exact fin_none HNE.out (by rw [HTW.out, if_pos hv]))
                      clear HF HTW
                      go_wp2
                      go_ret2
                      exact ⟨by rw [OF.out]; rfl, HB2.out⟩
                    · have g : ((x : Int) * 16 + (y : Int) == 47) = false := by rw [beq_eq_false_iff_ne]; omega
                      have hf := Lib.hid (show ofR l = fin (nm ++ [UInt8.ofNat (16 * x + y)]) (a.drop 3) from by rw [HF.out]; exact fin_step HNE.out (by rw [HTW.out, if_neg hv]))
                      have hc : (x : Int) * 16 + (y : Int) = ((UInt8.ofNat (16 * x + y)).toNat : Int) := by
                        simp [UInt8.toNat_ofNat']; omega
                      have E2 := Lib.hid (show (⟨a.toArray⟩ : ByteArray).extract 3 a.length = ⟨(a.drop 3).toArray⟩ from by
                        rw [cut_str, List.take_of_length_le (by simp)])
                      have s1 : (3 : Int) ≤ (a.length : Int) := by omega
                      have s2 : 3 ≤ a.length := by omega
                      rw [hc] at g ⊢
                      clear HF HTW hc hv
                      generalize UInt8.ofNat (16 * x + y) = cc at *
                      have E3 := Lib.hid (str_add nm [cc])
                      have TL : ∀ W : World, (convert 37 9 (.slice (some ⟨W.heap.size, 0, none⟩) 1 1)).run Tryd.prog (W.alloc (.cells #[.int .u8 (cc.toNat : Int)] 5)).drew = .ok (.string ⟨[cc].toArray⟩) (W.alloc (.cells #[.int .u8 (cc.toNat : Int)] 5)).drew := fun W => told_str ((Src.one W cc).drewN 1)
                      have z1 : ¬ 9223372036854775807 < nm.length + 1 := by omega
                      have HB3 := Lib.hid ((HB2.out).alloc HB2.out.size (.cells #[.int .u8 (cc.toNat : Int)] 5))
                      go_wp2
                      go_roundw
                      case rel => exact ⟨nm ++ [cc], a.drop 3, by rw [← E2.out], by rw [← E3.out], by simp; omega, hf, HB3⟩
                      case measure => simp; omega
            · have q1 : ((((⟨a.toArray⟩ : ByteArray)[0]'(by rw [hsa]; exact hp)).toNat : Int) == 37) = false := by
                show ((a[0].toNat : Int) == 37) = false
                rw [beq_eq_false_iff_ne]
                intro h
                exact h37 (UInt8.toNat_inj.1 (by show a[0].toNat = 37; omega))
              have q2 : ((((⟨a.toArray⟩ : ByteArray)[0]'(by rw [hsa]; exact hp)).toNat : Int) != 37) = true := by rw [bne, q1]; rfl
              have hf := Lib.hid (show ofR l = fin (nm ++ [a[0]]) (a.drop 1) from by
                rw [HF.out]
                refine fin_step hne ?_
                have e := head_cons hp
                have : firstR a = firstR (a[0] :: a.drop 1) := by rw [← e]
                rw [this, firstR_plain h37])
              have E1 := Lib.hid (show (⟨a.toArray⟩ : ByteArray).extract 1 a.length = ⟨(a.drop 1).toArray⟩ from by
                rw [cut_str, List.take_of_length_le (by simp)])
              have e0 := head_cons hp
              have E0 := Lib.hid (show (⟨nm.toArray⟩ : ByteArray) ++ (⟨a.toArray⟩ : ByteArray).extract 0 1 = ⟨(nm ++ [a[0]]).toArray⟩ from by
                rw [cut_str, str_add]
                congr 3
                show List.take 1 (List.drop 0 a) = [a[0]]
                rw [List.drop_zero]
                cases a with
                | nil => exact absurd rfl hne
                | cons _ _ => rfl)
              have s1 : (1 : Int) ≤ (a.length : Int) := by omega
              have s2 : 1 ≤ a.length := by omega
              have z1 : ¬ 9223372036854775807 < nm.length + 1 := by omega
              clear HF h37 hne e0
              go_wp2
              go_roundw
              case rel => exact ⟨nm ++ [a[0]], a.drop 1, by rw [← E1.out], by rw [← E0.out], by simp; omega, hf, HB⟩
              case measure => simp; omega
          · obtain rfl : a = [] := List.length_eq_zero_iff.1 (by omega)
            have HF := HF.out
            rw [fin_nil] at HF
            have NA := Lib.hid (fun W => rname_any nm (by omega) W)
            cases hb : nameB nm with
            | true =>
              have OF := Lib.hid (show ofR l = (nm, 0) from by rw [HF, if_pos hb])
              rw [hb] at NA
              clear HF hb
              go_wp2_with fail
              refine (NA.out _).mono ?_; rintro e w1 ⟨rfl, hw⟩; subst hw
              go_wp2
              go_ret2
              exact ⟨by rw [OF.out]; rfl, HB.out⟩
            | false =>
              have OF := Lib.hid (show ofR l = ([], 70) from by rw [HF, if_neg (by rw [hb]; decide)])
              rw [hb] at NA
              clear HF hb
              go_wp2_with fail
              refine (NA.out _).mono ?_; rintro e w1 ⟨rfl, hw⟩; subst hw
              go_wp2
              go_ret2
              exact ⟨by rw [OF.out]; rfl, HB.out⟩
      · have q : ((((⟨l.toArray⟩ : ByteArray)[j]'(by rw [hsz]; exact hlt)).toNat : Int) == 63) = false := by
          show ((l[j].toNat : Int) == 63) = false
          rw [beq_eq_false_iff_ne]
          intro h
          exact hq (UInt8.toNat_inj.1 (by show l[j].toNat = 63; omega))
        have HP2 := Lib.hid (show ∀ k (hk : k < j + 1) (hk' : k < l.length), l[k] ≠ 63 from fun k hk hk' => by
          by_cases e : k = j
          · subst e; exact hq
          · exact HP.out k (by omega) hk')
        clear hq HP
        go_wp2
        go_round
        case rel => exact ⟨j + 1, by omega, rfl, by simp, HP2⟩
        case measure => simp [intOf]; omega
    · have hge : ¬ (j : Int) < (l.length : Int) := by omega
      have hask := asked_all (fun k hk => HP.out k (by omega) hk)
      have E := Lib.hid hask
      have T := Lib.hid (show (asked l).length ≤ 128 from by rw [hask]; omega)
      clear hask HP
      go_upto_region 8 with fail
      rw [show (⟨l.toArray⟩ : ByteArray) = ⟨(asked l).toArray⟩ from by rw [E.out]]
      clear E
      generalize asked l = t0 at *
      have T := T.out
      have hst : (⟨t0.toArray⟩ : ByteArray).size = t0.length := rfl
      by_cases e1 : t0 = [47]
      · subst e1
        have OF := Lib.hid (show ofR l = (indexT, 0) from HANS.out)
        clear HANS
        go_wp2
        go_ret2
        exact ⟨by rw [OF.out]; rfl, Below.refl _ _⟩
      have i1 : (t0 == [47]) = false := by simpa using e1
      by_cases e2 : t0 = []
      · subst e2
        have OF := Lib.hid (show ofR l = ([], 70) from HANS.out)
        clear HANS
        go_wp2
        go_ret2
        exact ⟨by rw [OF.out]; rfl, Below.refl _ _⟩
      have i2 : (t0 == []) = false := by simpa using e2
      have i3 : t0.isEmpty = false := by
        cases t0 with
        | nil => exact absurd rfl e2
        | cons _ _ => rfl
      have hpos : 0 < t0.length := List.length_pos_iff.2 e2
      have hpos' : (0 : Int) < (t0.length : Int) := by omega
      by_cases e3 : ¬ t0[0] = 47
      · have q1 : ((((⟨t0.toArray⟩ : ByteArray)[0]'(by rw [hst]; exact hpos)).toNat : Int) == 47) = false := by
          show ((t0[0].toNat : Int) == 47) = false
          rw [beq_eq_false_iff_ne]
          intro h
          exact e3 (UInt8.toNat_inj.1 (by show t0[0].toNat = 47; omega))
        have q2 : ((((⟨t0.toArray⟩ : ByteArray)[0]'(by rw [hst]; exact hpos)).toNat : Int) != 47) = true := by rw [bne, q1]; rfl
        have OF := Lib.hid (show ofR l = ([], 70) from by
          rw [HANS.out, head_cons hpos]
          show (if t0[0] = 47 then _ else _) = _
          rw [if_neg e3])
        clear HANS e3 e1 e2
        go_wp2
        go_ret2
        exact ⟨by rw [OF.out]; rfl, Below.refl _ _⟩
      have e3 := Classical.not_not.1 e3
      have q1 : ((((⟨t0.toArray⟩ : ByteArray)[0]'(by rw [hst]; exact hpos)).toNat : Int) == 47) = true := by
        show ((t0[0].toNat : Int) == 47) = true
        rw [e3]; rfl
      have q2 : ((((⟨t0.toArray⟩ : ByteArray)[0]'(by rw [hst]; exact hpos)).toNat : Int) != 47) = false := by rw [bne, q1]; rfl
      have HF := Lib.hid (show ofR l = fin [] (t0.drop 1) from by
        rw [HANS.out, fin_nameOf]
        have e := head_cons hpos
        have hne : t0.drop 1 ≠ [] := fun h => e1 (by rw [e, h, e3])
        have : ansR t0 = ansR (47 :: t0.drop 1) := by rw [← e3, ← e]
        rw [this]
        show (if t0.drop 1 = [] then _ else _) = _
        rw [if_neg hne])
      have E1 := Lib.hid (show (⟨t0.toArray⟩ : ByteArray).extract 1 t0.length = ⟨(t0.drop 1).toArray⟩ from by
        rw [cut_str, List.take_of_length_le (by simp)])
      have s1 : (1 : Int) ≤ (t0.length : Int) := by omega
      have s2 : 1 ≤ t0.length := by omega
      clear HANS e3 e1 e2
      go_upto_region 13 with fail
      rw [show (⟨t0.toArray⟩ : ByteArray).extract 1 t0.length = ⟨(t0.drop 1).toArray⟩ from E1.out]
      have T1 := Lib.hid (show 0 + (t0.drop 1).length ≤ 128 from by simp; omega)
      clear E1
      generalize t0.drop 1 = t1 at *
      go_wp2
      go_loopw [0, 5, 6] (fun s0 s5 s6 wr => ∃ nm a : List UInt8, s0 = .string ⟨a.toArray⟩ ∧ s5 = .string ⟨nm.toArray⟩ ∧ nm.length + a.length ≤ 128 ∧ Hid (ofR l = fin nm a) ∧ Hid (Below w.heap.size w wr)) (fun s0 _ _ _ => match s0 with | .string b => b.size | _ => 0)
      case atStart => exact ⟨[], t1, rfl, rfl, T1.out, HF, Lib.hid (Below.refl _ _)⟩
      case round =>
        obtain ⟨nm, a, rfl, rfl, hlen, HF, HB⟩ := hrel
        clear T1 T
        have hsa : (⟨a.toArray⟩ : ByteArray).size = a.length := rfl
        by_cases hp : 0 < a.length
        · have hp' : (a.length : Int) > 0 := by omega
          have hp2 : (0 : Int) < (a.length : Int) := by omega
          have hne : a ≠ [] := List.length_pos_iff.1 hp
          by_cases h37 : a[0] = 37
          · have q1 : ((((⟨a.toArray⟩ : ByteArray)[0]'(by rw [hsa]; exact hp)).toNat : Int) == 37) = true := by
              show ((a[0].toNat : Int) == 37) = true
              rw [h37]; rfl
            have q2 : ((((⟨a.toArray⟩ : ByteArray)[0]'(by rw [hsa]; exact hp)).toNat : Int) != 37) = false := by rw [bne, q1]; rfl
            by_cases h3 : a.length < 3
            · have h3' : (a.length : Int) < 3 := by omega
              have OF := Lib.hid (show ofR l = ([], 70) from by rw [HF.out]; exact fin_none hne (ref_short hp h3 h37))
              clear HF h37 hne
              go_wp2
              go_ret2
              exact ⟨by rw [OF.out]; rfl, HB.out⟩
            · have h3' : ¬ (a.length : Int) < 3 := by omega
              have l1 : 1 < a.length := by omega
              have l2 : 2 < a.length := by omega
              have l1' : (1 : Int) < (a.length : Int) := by omega
              have l2' : (2 : Int) < (a.length : Int) := by omega
              have hfst := first_three h3 h37
              have DX : ∀ W : World, Calls Tryd.prog 24 #[.int .u8 (((⟨a.toArray⟩ : ByteArray)[1]'(by rw [hsa]; exact l1)).toNat : Int)] W fun e w' => e = .returned (.int .i64 (digitR a[1])) ∧ w' = W := fun W => digit_any a[1] W
              have DY : ∀ W : World, Calls Tryd.prog 24 #[.int .u8 (((⟨a.toArray⟩ : ByteArray)[2]'(by rw [hsa]; exact l2)).toNat : Int)] W fun e w' => e = .returned (.int .i64 (digitR a[2])) ∧ w' = W := fun W => digit_any a[2] W
              by_cases hx : digitR a[1] < 0
              · have OF := Lib.hid (show ofR l = ([], 70) from by
                  rw [HF.out]
                  refine fin_none hne ?_
                  rw [hfst]
                  unfold twoV
                  rw [digit_none hx]; rfl)
                have DX := Lib.hid DX
                clear HF h37 hne hfst DY
                go_wp2_with fail
                refine (DX.out _).mono ?_; rintro e w1 ⟨rfl, hw⟩; subst hw
                go_wp2
                go_ret2
                exact ⟨by rw [OF.out]; rfl, HB.out⟩
              · obtain ⟨x, hxv, hxd, hxl⟩ := digit_some hx
                rw [hxd] at DX hx
                by_cases hy : digitR a[2] < 0
                · have OF := Lib.hid (show ofR l = ([], 70) from by
                    rw [HF.out]
                    refine fin_none hne ?_
                    rw [hfst]
                    unfold twoV
                    rw [hxv, digit_none hy]; rfl)
                  have DX := Lib.hid DX
                  have DY := Lib.hid DY
                  clear HF h37 hne hfst hxv hxd
                  go_wp2_with fail
                  refine (DX.out _).mono ?_; rintro e w1 ⟨rfl, hw⟩; subst hw
                  go_wp2_with fail
                  refine (DY.out _).mono ?_; rintro e w1 ⟨rfl, hw⟩; subst hw
                  go_wp2
                  go_ret2
                  exact ⟨by rw [OF.out]; rfl, HB.out⟩
                · obtain ⟨y, hyv, hyd, hyl⟩ := digit_some hy
                  rw [hyd] at DY hy
                  have htw : firstR a = if 16 * x + y = 47 then none else some (UInt8.ofNat (16 * x + y), a.drop 3) := by
                    rw [hfst]
                    unfold twoV
                    rw [hxv, hyv]
                    show Option.map _ (if 16 * x + y = 47 then none else some _) = _
                    by_cases e : 16 * x + y = 47
                    · rw [if_pos e, if_pos e]; rfl
                    · rw [if_neg e, if_neg e]; rfl
                  have HTW := Lib.hid htw
                  have DX := Lib.hid DX
                  have DY := Lib.hid DY
                  have HNE := Lib.hid hne
                  clear htw h37 hne hfst hxv hxd hyv hyd
                  go_wp2_with fail
                  refine (DX.out _).mono ?_; rintro e w1 ⟨rfl, hw⟩; subst hw
                  go_wp2_with fail
                  refine (DY.out _).mono ?_; rintro e w1 ⟨rfl, hw⟩; subst hw
                  go_upto_region 20 with fail
                  have y1 := IntWalk.i64_in ((x : Int) * 16) (by omega)
                  have y2 := IntWalk.i64_in ((x : Int) * 16 + (y : Int)) (by omega)
                  have y3 := IntWalk.u8_in ((x : Int) * 16 + (y : Int)) (by omega)
                  have HB1 := Lib.hid (HB.out.trans ((⟨rfl, rfl, rfl, Nat.le_refl _, fun _ _ => rfl⟩ : Below w1.heap.size w1 w1.drew).mono HB.out.size))
                  refine wp_region_held_drew (S := fun w' => Hid (Below w.heap.size w w')) (by kernel_rfl) ((show Hid (Below w.heap.size w w1.drew) from HB1)) (fun hS => ?_)
                  refine held_take (i := 0) (d := (some 61)) (v := ?_) rfl rfl (by kernel_rfl) (by kernel_rfl) (by kernel_rfl) (fun _ _ _ h => h) (by rfl) ?_ hS ?_
                  rotate_left
                  · intro w' hSw; (try dsimp only at hSw); go_simp <;> with_reducible rfl
                  simp only [Act.put, List.setIfInBounds_toArray, List.set_cons_zero, List.set_cons_succ]
                  refine held_take (i := 4) (d := (some 65)) (v := ?_) rfl rfl (by kernel_rfl) (by kernel_rfl) (by kernel_rfl) (fun _ _ _ h => h) (by rfl) ?_ hS ?_
                  rotate_left
                  · intro w' hSw; (try dsimp only at hSw); go_simp <;> with_reducible rfl
                  simp only [Act.put, List.setIfInBounds_toArray, List.set_cons_zero, List.set_cons_succ]
                  refine held_take (i := 1) (d := (some 62)) (v := ?_) rfl rfl (by kernel_rfl) (by kernel_rfl) (by kernel_rfl) (fun _ _ _ h => h) (by rfl) ?_ hS ?_
                  rotate_left
                  · intro w' hSw; (try dsimp only at hSw); go_simp <;> with_reducible rfl
                  simp only [Act.put, List.setIfInBounds_toArray, List.set_cons_zero, List.set_cons_succ]
                  refine held_take (i := 5) (d := (some 66)) (v := ?_) rfl rfl (by kernel_rfl) (by kernel_rfl) (by kernel_rfl) (fun _ _ _ h => h) (by rfl) ?_ hS ?_
                  rotate_left
                  · intro w' hSw; (try dsimp only at hSw); go_simp <;> with_reducible rfl
                  simp only [Act.put, List.setIfInBounds_toArray, List.set_cons_zero, List.set_cons_succ]
                  refine held_one (i := 2) (by kernel_rfl) rfl (by rfl) ?_
                  go_simp
                  refine (DX.out _).mono ?_; rintro e w5 ⟨rfl, hw⟩; subst hw
                  refine ⟨hS, ?_⟩
                  (try simp only [Act.put, List.setIfInBounds_toArray, List.set_cons_zero, List.set_cons_succ])
                  refine held_take (i := 3) (d := (some 64)) (v := ?_) rfl rfl (by kernel_rfl) (by kernel_rfl) (by kernel_rfl) (fun _ _ _ h => h) (by rfl) ?_ hS ?_
                  rotate_left
                  · intro w' hSw; (try dsimp only at hSw); go_simp <;> with_reducible rfl
                  simp only [Act.put, List.setIfInBounds_toArray, List.set_cons_zero, List.set_cons_succ]
                  refine held_one (i := 6) (by kernel_rfl) rfl (by rfl) ?_
                  go_simp
                  refine (DY.out _).mono ?_; rintro e w5 ⟨rfl, hw⟩; subst hw
                  refine ⟨hS, ?_⟩
                  (try simp only [Act.put, List.setIfInBounds_toArray, List.set_cons_zero, List.set_cons_succ])
                  refine held_take (i := 7) (d := (some 68)) (v := ?_) rfl rfl (by kernel_rfl) (by kernel_rfl) (by kernel_rfl) (fun _ _ _ h => h) (by rfl) ?_ hS ?_
                  rotate_left
                  · intro w' hSw; (try dsimp only at hSw); go_simp <;> with_reducible rfl
                  simp only [Act.put, List.setIfInBounds_toArray, List.set_cons_zero, List.set_cons_succ]
                  refine held_take (i := 8) (d := (some 69)) (v := ?_) rfl rfl (by kernel_rfl) (by kernel_rfl) (by kernel_rfl) (fun _ _ _ h => h) (by rfl) ?_ hS ?_
                  rotate_left
                  · intro w' hSw; (try dsimp only at hSw); go_simp <;> with_reducible rfl
                  simp only [Act.put, List.setIfInBounds_toArray, List.set_cons_zero, List.set_cons_succ]
                  refine held_take (i := 9) (d := (some 6)) (v := ?_) rfl rfl (by kernel_rfl) (by kernel_rfl) (by kernel_rfl) (fun _ _ _ h => h) (by rfl) ?_ hS ?_
                  rotate_left
                  · intro w' hSw; (try dsimp only at hSw); go_simp <;> with_reducible rfl
                  simp only [Act.put, List.setIfInBounds_toArray, List.set_cons_zero, List.set_cons_succ]
                  refine wpAnyH_done (by kernel_rfl) ?_ _
                  have HB2 := hS
                  clear y1 y2 y3
                  by_cases hv : 16 * x + y = 47
                  · have g : ((x : Int) * 16 + (y : Int) == 47) = true := by rw [beq_iff_eq]; omega
                    have OF := Lib.hid (show ofR l = ([], 70) from by rw [HF.out]; exact fin_none HNE.out (by rw [HTW.out, if_pos hv]))
                    clear HF HTW
                    go_wp2
                    go_ret2
                    exact ⟨by rw [OF.out]; rfl, HB2.out⟩
                  · have g : ((x : Int) * 16 + (y : Int) == 47) = false := by rw [beq_eq_false_iff_ne]; omega
                    have hf := Lib.hid (show ofR l = fin (nm ++ [UInt8.ofNat (16 * x + y)]) (a.drop 3) from by rw [HF.out]; exact fin_step HNE.out (by rw [HTW.out, if_neg hv]))
                    have hc : (x : Int) * 16 + (y : Int) = ((UInt8.ofNat (16 * x + y)).toNat : Int) := by
                      simp [UInt8.toNat_ofNat']; omega
                    have E2 := Lib.hid (show (⟨a.toArray⟩ : ByteArray).extract 3 a.length = ⟨(a.drop 3).toArray⟩ from by
                      rw [cut_str, List.take_of_length_le (by simp)])
                    have s1 : (3 : Int) ≤ (a.length : Int) := by omega
                    have s2 : 3 ≤ a.length := by omega
                    rw [hc] at g ⊢
                    clear HF HTW hc hv
                    generalize UInt8.ofNat (16 * x + y) = cc at *
                    have E3 := Lib.hid (str_add nm [cc])
                    have TL : ∀ W : World, (convert 37 9 (.slice (some ⟨W.heap.size, 0, none⟩) 1 1)).run Tryd.prog (W.alloc (.cells #[.int .u8 (cc.toNat : Int)] 5)).drew = .ok (.string ⟨[cc].toArray⟩) (W.alloc (.cells #[.int .u8 (cc.toNat : Int)] 5)).drew := fun W => told_str ((Src.one W cc).drewN 1)
                    have z1 : ¬ 9223372036854775807 < nm.length + 1 := by omega
                    have HB3 := Lib.hid ((HB2.out).alloc HB2.out.size (.cells #[.int .u8 (cc.toNat : Int)] 5))
                    go_wp2
                    go_roundw
                    case rel => exact ⟨nm ++ [cc], a.drop 3, by rw [← E2.out], by rw [← E3.out], by simp; omega, hf, HB3⟩
                    case measure => simp; omega
          · have q1 : ((((⟨a.toArray⟩ : ByteArray)[0]'(by rw [hsa]; exact hp)).toNat : Int) == 37) = false := by
              show ((a[0].toNat : Int) == 37) = false
              rw [beq_eq_false_iff_ne]
              intro h
              exact h37 (UInt8.toNat_inj.1 (by show a[0].toNat = 37; omega))
            have q2 : ((((⟨a.toArray⟩ : ByteArray)[0]'(by rw [hsa]; exact hp)).toNat : Int) != 37) = true := by rw [bne, q1]; rfl
            have hf := Lib.hid (show ofR l = fin (nm ++ [a[0]]) (a.drop 1) from by
              rw [HF.out]
              refine fin_step hne ?_
              have e := head_cons hp
              have : firstR a = firstR (a[0] :: a.drop 1) := by rw [← e]
              rw [this, firstR_plain h37])
            have E1 := Lib.hid (show (⟨a.toArray⟩ : ByteArray).extract 1 a.length = ⟨(a.drop 1).toArray⟩ from by
              rw [cut_str, List.take_of_length_le (by simp)])
            have e0 := head_cons hp
            have E0 := Lib.hid (show (⟨nm.toArray⟩ : ByteArray) ++ (⟨a.toArray⟩ : ByteArray).extract 0 1 = ⟨(nm ++ [a[0]]).toArray⟩ from by
              rw [cut_str, str_add]
              congr 3
              show List.take 1 (List.drop 0 a) = [a[0]]
              rw [List.drop_zero]
              cases a with
              | nil => exact absurd rfl hne
              | cons _ _ => rfl)
            have s1 : (1 : Int) ≤ (a.length : Int) := by omega
            have s2 : 1 ≤ a.length := by omega
            have z1 : ¬ 9223372036854775807 < nm.length + 1 := by omega
            clear HF h37 hne e0
            go_wp2
            go_roundw
            case rel => exact ⟨nm ++ [a[0]], a.drop 1, by rw [← E1.out], by rw [← E0.out], by simp; omega, hf, HB⟩
            case measure => simp; omega
        · obtain rfl : a = [] := List.length_eq_zero_iff.1 (by omega)
          have HF := HF.out
          rw [fin_nil] at HF
          have NA := Lib.hid (fun W => rname_any nm (by omega) W)
          cases hb : nameB nm with
          | true =>
            have OF := Lib.hid (show ofR l = (nm, 0) from by rw [HF, if_pos hb])
            rw [hb] at NA
            clear HF hb
            go_wp2_with fail
            refine (NA.out _).mono ?_; rintro e w1 ⟨rfl, hw⟩; subst hw
            go_wp2
            go_ret2
            exact ⟨by rw [OF.out]; rfl, HB.out⟩
          | false =>
            have OF := Lib.hid (show ofR l = ([], 70) from by rw [HF, if_neg (by rw [hb]; decide)])
            rw [hb] at NA
            clear HF hb
            go_wp2_with fail
            refine (NA.out _).mono ?_; rintro e w1 ⟨rfl, hw⟩; subst hw
            go_wp2
            go_ret2
            exact ⟨by rw [OF.out]; rfl, HB.out⟩
end Go.Proofs.YtjhbllbiajmkgaaDoor.Pt
