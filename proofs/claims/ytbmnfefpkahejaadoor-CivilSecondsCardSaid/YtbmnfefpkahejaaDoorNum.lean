/- Numbers read from texts, by the program and by the document. Conditions: those that each states. -/
import Derived.Test.YtbmnfefpkahejaaDoorPad
namespace Go.Proofs.YtbmnfefpkahejaaDoor
open Go.ChangeShapes Go.WideShapes Go.ChangeAt Go.RowKit Go.Deep

theorem str_size (l : List UInt8) : (⟨l.toArray⟩ : ByteArray).size = l.length := rfl
theorem take_snoc_at (l : List UInt8) (k : Nat) (h : k < l.length) : l.take (k + 1) = l.take k ++ [l[k]] := by
  rw [List.take_succ_eq_append_getElem h]
theorem num_bad {l : List UInt8} {k : Nat} (h : k < l.length) (hd : isDig l[k] = false) : numOf l = -1 := by
  have : l.all isDig = false := by
    rw [List.all_eq_false]
    exact ⟨l[k], List.getElem_mem h, by simp [hd]⟩
  simp [numOf, this]
theorem num_all {l : List UInt8} (h : l.all isDig = true) : numOf l = valOf l := by simp [numOf, h]

set_option maxRecDepth 100000 in
set_option maxHeartbeats 1000000 in
theorem number_any (l : List UInt8) (hl : l.length ≤ 4) (w : World) :
    Calls Tryd.prog 26 #[.string ⟨l.toArray⟩] w fun e w' => e = .returned (.int .i64 (numOf l)) ∧ w' = w := by
  have HB := Lib.hid (fun x => num_bad (l := l) (k := x))
  have HA := Lib.hid (num_all (l := l))
  generalize hN : numOf l = N at *
  clear hN
  go_enter Tryd.func26, Tryd.ntmps26
  go_wp2
  go_loop [3, 7] (fun sn si => ∃ j : Nat, si = .int .i64 (j : Int) ∧ j ≤ l.length ∧ sn = .int .i64 (valOf (l.take j)) ∧ Hid ((l.take j).all isDig = true)) (fun _ si => l.length - (intOf si).toNat)
  case atStart => exact ⟨0, rfl, Nat.zero_le _, rfl, Lib.hid rfl⟩
  case round =>
    obtain ⟨j, rfl, hj, rfl, hd⟩ := hrel
    have bd := valOf_bd _ hd.out (by rw [List.length_take]; omega)
    by_cases hlt : j < l.length
    · have hg : (⟨l.toArray⟩ : ByteArray)[j]'hlt = l[j] := rfl
      have hs := take_snoc_at l j hlt
      have hv := valOf_snoc (l.take j) l[j]
      rw [← hs] at hv
      have hc : (l[j]).toNat < 256 := UInt8.toNat_lt _
      have hdig : isDig l[j] = (decide (48 ≤ (l[j]).toNat) && decide ((l[j]).toNat ≤ 57)) := rfl
      have hbad := HB.out j hlt
      have hall : isDig l[j] = true → (l.take (j + 1)).all isDig = true := fun h => by rw [hs, List.all_append, hd.out]; simp [h]
      have HV := Lib.hid hv
      have HBD := Lib.hid hbad
      have HAL := Lib.hid hall
      have HDG := Lib.hid hdig
      clear hbad hdig hs hv hall HB HA
      generalize valOf (l.take j) = v at *
      generalize l[j] = c at *
      by_cases h48 : c.toNat < 48
      · have hN : N = -1 := (HBD.out (by rw [HDG.out]; simp; omega)).symm ▸ rfl
        have HN := Lib.hid hN
        have h48' : (c.toNat : Int) < 48 := by omega
        clear hN
        go_wp2
        go_ret
        exact ⟨ret_int HN.out.symm, rfl⟩
      · have h48' : ¬ (c.toNat : Int) < 48 := by omega
        by_cases h57 : c.toNat ≤ 57
        · have h57' : ¬ (c.toNat : Int) > 57 := by omega
          have HD := Lib.hid (HAL.out (by rw [HDG.out]; simp; omega))
          clear HAL
          go_wp2
          go_round
          case rel => exact ⟨j + 1, by go_num, hlt, congrArg _ (by have := HV.out; omega), HD⟩
          case measure => simp [intOf]; omega
        · have h57' : (c.toNat : Int) > 57 := by omega
          have hN : N = -1 := (HBD.out (by rw [HDG.out]; simp; omega)).symm ▸ rfl
          have HN := Lib.hid hN
          clear hN
          go_wp2
          go_ret
          exact ⟨ret_int HN.out.symm, rfl⟩
    · have hge : ¬ (j : Int) < (l.length : Int) := by omega
      have e : l.take j = l := List.take_of_length_le (by omega)
      rw [e] at hd
      have hn := HA.out hd.out
      rw [e]
      rw [← hn]
      clear e
      go_wp2
      go_ret
      exact ⟨rfl, rfl⟩
set_option maxRecDepth 100000 in
set_option maxHeartbeats 1000000 in
theorem read_any (l : List UInt8) (hl : l.length ≤ 4) (w : World) :
    Calls Tryd.prog 29 #[.string ⟨l.toArray⟩] w fun e w' => e = .returned (.int .i64 (numOf l)) ∧ w' = w := by
  have HB := Lib.hid (fun x => num_bad (l := l) (k := x))
  have HA := Lib.hid (num_all (l := l))
  generalize hN : numOf l = N at *
  clear hN
  go_enter Tryd.func29, Tryd.ntmps29
  go_wp2
  go_loop [3, 4] (fun sn si => ∃ j : Nat, si = .int .i64 (j : Int) ∧ j ≤ l.length ∧ sn = .int .i64 (valOf (l.take j)) ∧ Hid ((l.take j).all isDig = true)) (fun _ si => l.length - (intOf si).toNat)
  case atStart => exact ⟨0, rfl, Nat.zero_le _, rfl, Lib.hid rfl⟩
  case round =>
    obtain ⟨j, rfl, hj, rfl, hd⟩ := hrel
    have bd := valOf_bd _ hd.out (by rw [List.length_take]; omega)
    by_cases hlt : j < l.length
    · have hg : (⟨l.toArray⟩ : ByteArray)[j]'hlt = l[j] := rfl
      have hs := take_snoc_at l j hlt
      have hv := valOf_snoc (l.take j) l[j]
      rw [← hs] at hv
      have hc : (l[j]).toNat < 256 := UInt8.toNat_lt _
      have hdig : isDig l[j] = (decide (48 ≤ (l[j]).toNat) && decide ((l[j]).toNat ≤ 57)) := rfl
      have hbad := HB.out j hlt
      have hall : isDig l[j] = true → (l.take (j + 1)).all isDig = true := fun h => by rw [hs, List.all_append, hd.out]; simp [h]
      have HV := Lib.hid hv
      have HBD := Lib.hid hbad
      have HAL := Lib.hid hall
      have HDG := Lib.hid hdig
      clear hbad hdig hs hv hall HB HA
      generalize valOf (l.take j) = v at *
      generalize l[j] = c at *
      by_cases h48 : c.toNat < 48
      · have hN : N = -1 := (HBD.out (by rw [HDG.out]; simp; omega)).symm ▸ rfl
        have HN := Lib.hid hN
        have h48' : (c.toNat : Int) < 48 := by omega
        clear hN
        go_wp2
        go_ret
        exact ⟨ret_int HN.out.symm, rfl⟩
      · have h48' : ¬ (c.toNat : Int) < 48 := by omega
        by_cases h57 : c.toNat ≤ 57
        · have h57' : ¬ (c.toNat : Int) > 57 := by omega
          have HD := Lib.hid (HAL.out (by rw [HDG.out]; simp; omega))
          clear HAL
          go_wp2
          go_round
          case rel => exact ⟨j + 1, by go_num, hlt, congrArg _ (by have := HV.out; omega), HD⟩
          case measure => simp [intOf]; omega
        · have h57' : (c.toNat : Int) > 57 := by omega
          have hN : N = -1 := (HBD.out (by rw [HDG.out]; simp; omega)).symm ▸ rfl
          have HN := Lib.hid hN
          clear hN
          go_wp2
          go_ret
          exact ⟨ret_int HN.out.symm, rfl⟩
    · have hge : ¬ (j : Int) < (l.length : Int) := by omega
      have e : l.take j = l := List.take_of_length_le (by omega)
      rw [e] at hd
      have hn := HA.out hd.out
      rw [e]
      rw [← hn]
      clear e
      go_wp2
      go_ret
      exact ⟨rfl, rfl⟩
end Go.Proofs.YtbmnfefpkahejaaDoor
