/- strconv.ParseUint at base 16 and two digits; ParseMAC at what MAC tells. Conditions: those that each states. -/
import Derived.Test.YtflbckeebmlofaaDoorParse
import Derived.Lib.ConvBytes
import Derived.Deep.DeepCutAuto
namespace Go.Proofs.YtflbckeebmlofaaDoor
open Go.ChangeShapes Go.WideShapes Go.ChangeAt Go.RowKit Go.Deep
set_option linter.unusedVariables false

theorem hexd_lo {d : Nat} (h : d < 10) : (hexd d).toNat = 48 + d := by simp [hexd, h, UInt8.toNat_ofNat']; omega
theorem hexd_hi {d : Nat} (h : ¬ d < 10) (h2 : d < 16) : (hexd d).toNat = 87 + d := by simp [hexd, h, UInt8.toNat_ofNat']; omega

theorem lower_any (d : Nat) (h1 : ¬ d < 10) (h2 : d < 16) (w : World) :
    Calls Tryd.prog 43 #[.int .u8 (87 + (d : Int))] w fun e w' => e = .returned (.int .u8 (87 + (d : Int))) ∧ w' = w := by
  have h : d = 10 ∨ d = 11 ∨ d = 12 ∨ d = 13 ∨ d = 14 ∨ d = 15 := by omega
  rcases h with rfl | rfl | rfl | rfl | rfl | rfl
  all_goals
    go_enter Tryd.func43, Tryd.ntmps43
    go_wp2
    go_ret
    exact ⟨rfl, rfl⟩

set_option maxRecDepth 1000000 in
set_option maxHeartbeats 4000000 in
theorem inner_hex (a b : Nat) (ha : a < 16) (hb : b < 16) (w : World) :
    Calls Tryd.prog 36 #[.string ⟨[hexd a, hexd b].toArray⟩, .int .i64 16, .int .i64 8] w fun e w' => e = .returned (.tuple #[.int .u64 ((a * 16 + b : Nat) : Int), .nilIface]) ∧ Below w.heap.size w w' := by
  have hcv := Lib.run_convert_string_bytes (P := Tryd.prog) w 9 22 5 ⟨[hexd a, hexd b].toArray⟩ Tryd.underlying9 Tryd.underlying22 Tryd.underlying5
  have hsz : (⟨[hexd a, hexd b].toArray⟩ : ByteArray).size = 2 := rfl
  have c0 := Lib.bytesWorld_cell w 5 ⟨[hexd a, hexd b].toArray⟩ 0 (by rw [hsz]; decide)
  have c1 := Lib.bytesWorld_cell w 5 ⟨[hexd a, hexd b].toArray⟩ 1 (by rw [hsz]; decide)
  have bw := Lib.hid (Go.Joins.below_bytesWorld w.heap.size w 5 ⟨[hexd a, hexd b].toArray⟩ (Nat.le_refl _))
  rw [hsz] at hcv
  generalize grownCap w 2 0 5 = cp at hcv
  generalize Lib.bytesWorld w 5 ⟨[hexd a, hexd b].toArray⟩ = W1 at *
  simp at c0 c1
  go_enter Tryd.func36, Tryd.ntmps36
  go_wp2
  go_loop [12, 13, 15, 16, 17, 101] (fun u n _ _ _ i => ∃ j : Nat, j ≤ 2 ∧ i = .int .i64 (j : Int) ∧ u = .bool false ∧ n = .int .u64 ((if j = 0 then 0 else if j = 1 then a else a * 16 + b : Nat) : Int)) (fun _ _ _ _ _ i => 2 - (intOf i).toNat)
  case atStart => exact ⟨0, by omega, rfl, rfl, by simp⟩
  case round =>
    obtain ⟨j, hj, rfl, rfl, rfl⟩ := hrel
    by_cases hlt : j < 2
    · obtain ⟨x, n, hx, hn, hnx, hcx, hjn⟩ : ∃ x n : Nat, x < 16 ∧ n < 16 ∧ (if j + 1 = 0 then 0 else if j + 1 = 1 then a else a * 16 + b : Nat) = n * 16 + x ∧ W1.cell? ⟨w.heap.size, j, none⟩ = some (.int .u8 ((hexd x).toNat : Int)) ∧ (if j = 0 then 0 else if j = 1 then a else a * 16 + b : Nat) = n := by
        have : j = 0 ∨ j = 1 := by omega
        rcases this with rfl | rfl
        · exact ⟨a, 0, ha, by omega, by simp, c0, rfl⟩
        · exact ⟨b, a, hb, ha, by simp, c1, rfl⟩
      rw [hjn]
      have HNX := Lib.hid hnx
      have hlt' : (j : Int) < 2 := by omega
      have j0 : (0 : Int) ≤ j := by omega
      have x2 := IntWalk.i64_in ((j : Int) + 1) (by omega)
      clear hnx hjn c0 c1 hcv
      by_cases hd : x < 10
      · rw [hexd_lo hd] at hcx
        have hsub : (48 : Int) + (x : Int) - 48 = x := by omega
        have y0 : ¬ (1152921504606846976 : Int) ≤ (n : Int) := by omega
        have y1 : ¬ ((n : Int) * 16 + x < (n : Int) * 16) := by omega
        have y2 : ¬ ((255 : Int) < (n : Int) * 16 + x) := by omega
        go_wp2
        go_round
        case rel => exact ⟨j + 1, by omega, by simp, rfl, by rw [HNX.out]; simp⟩
        case measure => simp [intOf]; omega
      · rw [hexd_hi hd hx] at hcx
        go_wp2_with fail
        refine (lower_any x hd hx _).mono ?_; rintro e wq ⟨rfl, rfl⟩
        go_wp2_with fail
        refine (lower_any x hd hx _).mono ?_; rintro e wq ⟨rfl, rfl⟩
        go_wp2_with fail
        refine (lower_any x hd hx _).mono ?_; rintro e wq ⟨rfl, rfl⟩
        go_upto_region 46 with fail
        have z0 : (87 : Int) + (x : Int) - 97 + 10 = x := by omega
        rw [z0]
        clear z0 hcx
        generalize (87 : Int) + (x : Int) = c15 at *
        have hxx : (x : Int) < 16 := by omega
        clear hd
        have y0 : ¬ (1152921504606846976 : Int) ≤ (n : Int) := by omega
        have y1 : ¬ ((n : Int) * 16 + x < (n : Int) * 16) := by omega
        have y2 : ¬ ((255 : Int) < (n : Int) * 16 + x) := by omega
        go_wp2
        go_round
        case rel => exact ⟨j + 1, by omega, by simp, rfl, by rw [HNX.out]; simp⟩
        case measure => simp [intOf]; omega
    · have hge : ¬ (j : Int) < 2 := by omega
      have hjk : j = 2 := by omega
      subst hjk
      go_wp2
      go_ret2
      exact ⟨rfl, bw.out⟩

theorem outer_hex (a b : Nat) (ha : a < 16) (hb : b < 16) (w : World) :
    Calls Tryd.prog 32 #[.string ⟨[hexd a, hexd b].toArray⟩, .int .i64 16, .int .i64 8] w fun e w' => e = .returned (.tuple #[.int .u64 ((a * 16 + b : Nat) : Int), .nilIface]) ∧ Below w.heap.size w w' := by
  go_enter Tryd.func32, Tryd.ntmps32
  go_wp2_with fail
  refine (inner_hex a b ha hb _).mono ?_; rintro e w1 ⟨rfl, b1⟩
  go_wp2
  go_ret2
  exact ⟨by simp, b1⟩

/-- An address of six bytes, as words. -/
def hexW (v : Nat) : List UInt8 := [hexd (v / 16), hexd (v % 16)]
def macWords (a : Nat) : List (List UInt8) := [hexW (nb a 5).toNat, hexW (nb a 4).toNat, hexW (nb a 3).toNat, hexW (nb a 2).toNat, hexW (nb a 1).toNat, hexW (nb a 0).toNat]
theorem mac_join (a : Nat) : joinW 58 (macWords a) = macStr a := rfl
theorem num6 (a : Nat) (ha : a < 256 ^ 6) : numW [(nb a 5).toNat, (nb a 4).toNat, (nb a 3).toNat, (nb a 2).toNat, (nb a 1).toNat, (nb a 0).toNat] = a := by
  simp only [numW, List.foldl, nb_eq]
  simp only [Nat.reducePow] at *
  omega
theorem mac_length (a : Nat) : (macStr a).length < 1000 := by
  unfold macStr
  rw [macTail_length]
  omega
theorem hexd_ne {d : Nat} (h : d < 16) : (58 : UInt8) ≠ hexd d := by
  intro e
  have e2 := congrArg UInt8.toNat e
  by_cases h1 : d < 10
  · rw [hexd_lo h1] at e2; simp at e2; omega
  · rw [hexd_hi h1 h] at e2; simp at e2; omega
theorem hexW_pure {v : Nat} (h : v < 256) : (58 : UInt8) ∉ hexW v := by
  unfold hexW
  simp only [List.mem_cons, List.not_mem_nil, or_false, not_or]
  exact ⟨hexd_ne (by omega), hexd_ne (by omega)⟩

/-- ParseMAC at what MAC tells. -/
theorem parseMAC_ok (a : Nat) (ha : a < 256 ^ 6) (w : World) (hv : Vars w) :
    Calls Tryd.prog 21 #[.string ⟨(macStr a).toArray⟩] w fun e w' => e = .returned (.tuple #[.int .u64 (a : Int), .int .i64 0]) ∧ Below w.heap.size w w' := by
  have hpu : ∀ n, n < 256 → ∀ w, Calls Tryd.prog 32 #[.string ⟨(hexW n).toArray⟩, .int .i64 16, .int .i64 8] w fun e w' => e = .returned (.tuple #[.int .u64 (n : Int), .nilIface]) ∧ Below w.heap.size w w' := by
    intro n hn w
    have h := outer_hex (n / 16) (n % 16) (by omega) (by omega) w
    rw [show n / 16 * 16 + n % 16 = n by omega] at h
    exact h
  have hb := fun j => nb_lt a j
  have key := bytesOf_ok 58 (macWords a) [(nb a 5).toNat, (nb a 4).toNat, (nb a 3).toNat, (nb a 2).toNat, (nb a 1).toNat, (nb a 0).toNat] 6 16 (by simp [macWords]) rfl rfl (by omega)
    (by
      intro x hx
      simp only [macWords, List.mem_cons, List.not_mem_nil, or_false] at hx
      rcases hx with rfl | rfl | rfl | rfl | rfl | rfl <;> exact hexW_pure (hb _))
    (by rw [mac_join]; exact mac_length a)
    (by
      intro x hx
      simp only [List.mem_cons, List.not_mem_nil, or_false] at hx
      rcases hx with rfl | rfl | rfl | rfl | rfl | rfl <;> exact hb _)
    (by
      intro i h h' w
      have hi : i = 0 ∨ i = 1 ∨ i = 2 ∨ i = 3 ∨ i = 4 ∨ i = 5 := by simp [macWords] at h; omega
      rcases hi with rfl | rfl | rfl | rfl | rfl | rfl
      · exact hpu _ (hb 5) w
      · exact hpu _ (hb 4) w
      · exact hpu _ (hb 3) w
      · exact hpu _ (hb 2) w
      · exact hpu _ (hb 1) w
      · exact hpu _ (hb 0) w)
  rw [mac_join, num6 a ha] at key
  have HA := Lib.hid ha
  have HK := Lib.hid key
  clear ha key hb hpu
  go_enter Tryd.func21, Tryd.ntmps21
  go_wp2_with fail
  refine (HK.out _ hv).mono ?_; rintro e w1 ⟨rfl, b1⟩
  have B1 := Lib.hid b1
  clear b1
  go_wp2_with fail
  refine (mac_ok a HA.out _).mono ?_; rintro e w2 ⟨rfl, b2⟩
  have B2 := Lib.hid (B1.out.trans (b2.mono B1.out.size))
  clear b2
  go_wp2
  go_ret2
  exact ⟨rfl, B2.out⟩
end Go.Proofs.YtflbckeebmlofaaDoor
