/- Package octet's reading of addresses: bytesOf, ParseIP. Conditions: those that each states. -/
import Derived.Test.YtflbckeebmlofaaDoorAddr
namespace Go.Proofs.YtflbckeebmlofaaDoor
open Go.ChangeShapes Go.WideShapes Go.ChangeAt Go.RowKit Go.Deep

theorem joinW_length (c : UInt8) : ∀ ws : List (List UInt8), ws.length ≤ (joinW c ws).length + 1
  | [] => by simp
  | [_] => by simp
  | _ :: y :: r => by
    have := joinW_length c (y :: r)
    simp only [joinW, List.length_append, List.length_cons] at *
    omega

theorem split_any (c : UInt8) (ws : List (List UInt8)) (k : Nat) (hws : ws ≠ []) (hl : ws.length ≤ k + 1) (hc : ∀ x ∈ ws, c ∉ x) (hn : (joinW c ws).length < 1000) (hk : k ≤ 100) (w : World) (hv : Vars w) :
    Calls Tryd.prog 31 #[.string ⟨(joinW c ws).toArray⟩, .string ⟨#[c]⟩, .int .i64 ((k : Int) + 1)] w fun e w' => ∃ cp arr, e = .returned (.slice (some ⟨w.heap.size, 0, none⟩) ws.length cp) ∧
      Blk w' w.heap.size 9 arr ∧ (∀ i (h : i < ws.length), arr[i]? = some (.string ⟨ws[i].toArray⟩)) ∧ Below w.heap.size w w' := by
  obtain ⟨m, hm⟩ := hv.max
  have hsz : (⟨(joinW c ws).toArray⟩ : ByteArray).size = (joinW c ws).length := by simp [ByteArray.size]
  have hj := joinW_length c ws
  have hc1 := Tryd.strings_SplitN ⟨(joinW c ws).toArray⟩ ⟨#[c]⟩ (k + 1) m w (by omega) hm (Nat.le_refl 1) (by omega) (by omega)
  have hsp := split_bytes c (min (k + 1) ((⟨(joinW c ws).toArray⟩ : ByteArray).size + 1) - 1) ws hws (by omega) hc
  rw [hsp, show ((k + 1 : Nat) : Int) = (k : Int) + 1 by omega] at hc1
  refine hc1.mono ?_
  rintro e w' ⟨rfl, rfl⟩
  refine ⟨_, _, by rw [List.length_map], Blk.new _ _ _, fun i h => ?_, (Below.refl _ _).alloc (Nat.le_refl _) _⟩
  unfold Lib.cellsOf
  rw [List.getElem?_toArray, List.getElem?_append_left (by simpa using h)]
  simp [h]

/-- The number that bytes tell one by one. -/
def numW (l : List Nat) : Nat := l.foldl (fun a b => a * 256 + b) 0
theorem numW_snoc (l : List Nat) (b : Nat) : numW (l ++ [b]) = numW l * 256 + b := by simp [numW]
theorem numW_lt (vs : List Nat) (h : ∀ x ∈ vs, x < 256) : ∀ i, i ≤ vs.length → numW (vs.take i) < 256 ^ i
  | 0, _ => by simp [numW]
  | i + 1, hi => by
    have h1 := numW_lt vs h i (by omega)
    have h2 := h vs[i] (List.getElem_mem _)
    rw [List.take_succ_eq_append_getElem (by omega), numW_snoc, Nat.pow_succ]
    omega

set_option maxRecDepth 100000 in
set_option maxHeartbeats 2000000 in
theorem bytesOf_ok (c : UInt8) (ws : List (List UInt8)) (vs : List Nat) (k : Nat) (base : Int) (hws : ws ≠ []) (hl : ws.length = k) (hlv : vs.length = k) (hk : k ≤ 8) (hc : ∀ x ∈ ws, c ∉ x) (hn : (joinW c ws).length < 1000) (hvs : ∀ x ∈ vs, x < 256)
    (hp : ∀ i (h : i < ws.length) (h' : i < vs.length) w, Calls Tryd.prog 32 #[.string ⟨ws[i].toArray⟩, .int .i64 base, .int .i64 8] w fun e w' => e = .returned (.tuple #[.int .u64 (vs[i] : Int), .nilIface]) ∧ Below w.heap.size w w') (w : World) (hv : Vars w) :
    Calls Tryd.prog 26 #[.string ⟨(joinW c ws).toArray⟩, .string ⟨#[c]⟩, .int .i64 (k : Int), .int .i64 base] w fun e w' => e = .returned (.tuple #[.int .u64 (numW vs : Int), .bool true]) ∧ Below w.heap.size w w' := by
  have x0 := IntWalk.i64_in ((k : Int) + 1) (by omega)
  have HP := Lib.hid hp
  have HVS := Lib.hid hvs
  clear hp hvs
  go_enter Tryd.func26, Tryd.ntmps26
  go_wp2_with fail
  refine (split_any c ws k hws (by omega) hc hn (by omega) _ hv).mono ?_; rintro e w1 ⟨cp, arr, rfl, hb, hcell, b1⟩
  have HCELL := Lib.hid hcell
  have HB := Lib.hid hb
  have B1 := Lib.hid b1
  clear hcell hb b1 hc hn
  rw [hl]
  go_wp2
  go_loopw [11, 13, 14, 15, 27] (fun n _ _ _ i wr => ∃ j : Nat, j ≤ k ∧ i = .int .i64 (j : Int) ∧ n = .int .u64 (numW (vs.take j) : Int) ∧ Below w.heap.size w wr ∧ Blk wr w.heap.size 9 arr) (fun _ _ _ _ i _ => k - (intOf i).toNat)
  case atStart => exact ⟨0, Nat.zero_le _, rfl, rfl, B1.out, HB.out⟩
  case round =>
    obtain ⟨j, hj, rfl, rfl, hbel, hblk⟩ := hrel
    have HBEL := Lib.hid hbel
    have HBLK := Lib.hid hblk
    clear hbel B1 HB
    by_cases hlt : j < k
    · have hlt' : (j : Int) < k := by omega
      have j0 : (0 : Int) ≤ j := by omega
      have hc0 : wr.cell? ⟨w.heap.size, j, none⟩ = some (.string ⟨(ws[j]'(by omega)).toArray⟩) := by
        rw [hblk.cell]; exact HCELL.out j (by omega)
      have x2 := IntWalk.i64_in ((j : Int) + 1) (by omega)
      clear hblk
      go_wp2_with fail
      refine (HP.out j (by omega) (by omega) _).mono ?_; rintro e w2 ⟨rfl, b2⟩
      have HB2 := Lib.hid (HBLK.out.older (older_below b2))
      have B2 := Lib.hid (HBEL.out.trans (b2.mono HBEL.out.size))
      clear b2
      have hv1 := HVS.out (vs[j]'(by omega)) (List.getElem_mem _)
      have hn1 := numW_lt vs HVS.out j (by omega)
      have hn2 : 256 ^ j ≤ 256 ^ 7 := Nat.pow_le_pow_right (by omega) (by omega)
      have hst : numW (vs.take (j + 1)) = numW (vs.take j) * 256 + vs[j]'(by omega) := by
        rw [List.take_succ_eq_append_getElem (by omega), numW_snoc]
      generalize hvj : vs[j]'(by omega) = v at *
      generalize hnj : numW (vs.take j) = n at *
      clear hvj hnj
      have hor := or256 n v hv1 (by simp at hn2; omega)
      go_wp2
      go_roundw
      case rel => exact ⟨j + 1, by omega, by simp, by rw [hst]; simp, B2.out, HB2.out⟩
      case measure => simp [intOf]; omega
    · have hge : ¬ (j : Int) < k := by omega
      have hjk : j = k := by omega
      subst hjk
      clear hblk
      go_wp2
      go_ret2
      rw [List.take_of_length_le (by omega)]
      exact ⟨rfl, HBEL.out⟩

theorem bytesOf_not (c : UInt8) (ws : List (List UInt8)) (k : Nat) (base : Int) (hws : ws ≠ []) (hl : ws.length < k) (hk : k ≤ 8) (hc : ∀ x ∈ ws, c ∉ x) (hn : (joinW c ws).length < 1000) (w : World) (hv : Vars w) :
    Calls Tryd.prog 26 #[.string ⟨(joinW c ws).toArray⟩, .string ⟨#[c]⟩, .int .i64 (k : Int), .int .i64 base] w fun e w' => e = .returned (.tuple #[.int .u64 0, .bool false]) ∧ Below w.heap.size w w' := by
  have x0 := IntWalk.i64_in ((k : Int) + 1) (by omega)
  have hne : ¬ (ws.length : Int) = (k : Int) := by omega
  go_enter Tryd.func26, Tryd.ntmps26
  go_wp2_with fail
  refine (split_any c ws k hws (by omega) hc hn (by omega) _ hv).mono ?_; rintro e w1 ⟨cp, arr, rfl, hb, hcell, b1⟩
  clear hb hcell
  have B1 := Lib.hid b1
  clear b1
  go_wp2
  go_ret2
  exact ⟨rfl, B1.out⟩

/-- An address of four bytes, as words. -/
def ipWords (a : Nat) : List (List UInt8) := [Lib.decDigits (nb a 3).toNat, Lib.decDigits (nb a 2).toNat, Lib.decDigits (nb a 1).toNat, Lib.decDigits (nb a 0).toNat]
theorem ip_join (a : Nat) : joinW 46 (ipWords a) = ipStr a := rfl
theorem num4 (a : Nat) (ha : a < 256 ^ 4) : numW [(nb a 3).toNat, (nb a 2).toNat, (nb a 1).toNat, (nb a 0).toNat] = a := by
  simp only [numW, List.foldl, nb_eq]
  simp only [Nat.reducePow] at *
  omega
theorem ip_length (a : Nat) : (ipStr a).length < 1000 := by
  have h := fun j => dig_length (n := (nb a j).toNat) (by have := nb_lt a j; omega)
  have h0 := h 0; have h1 := h 1; have h2 := h 2; have h3 := h 3
  simp only [ipStr, ipTail, Nat.zero_add, Nat.reduceAdd, List.length_append, List.length_cons]
  omega

/-- ParseIP at what IP tells. -/
theorem parseIP_ok (a : Nat) (ha : a ≤ 4294967295) (w : World) (hv : Vars w) :
    Calls Tryd.prog 18 #[.string ⟨(ipStr a).toArray⟩] w fun e w' => e = .returned (.tuple #[.int .u32 (a : Int), .int .i64 0]) ∧ Below w.heap.size w w' := by
  have hpu : ∀ n, n < 256 → ∀ w, Calls Tryd.prog 32 #[.string ⟨(Lib.decDigits n).toArray⟩, .int .i64 10, .int .i64 8] w fun e w' => e = .returned (.tuple #[.int .u64 (n : Int), .nilIface]) ∧ Below w.heap.size w w' := by
    intro n hn w
    have hl := dig_length (n := n) (by omega)
    refine (Tryd.strconv_ParseUint_10_at8_ok ⟨(Lib.decDigits n).toArray⟩ (by simp [ByteArray.size]; omega) n (by simpa using dig_read hn) w).mono ?_
    rintro e w' ⟨rfl, h | h⟩
    · rw [h]; exact ⟨rfl, Below.refl _ _⟩
    · rw [h]; exact ⟨rfl, Go.Joins.below_bytesWorld _ _ _ _ (Nat.le_refl _)⟩
  have hb := fun j => nb_lt a j
  have key := bytesOf_ok 46 (ipWords a) [(nb a 3).toNat, (nb a 2).toNat, (nb a 1).toNat, (nb a 0).toNat] 4 10 (by simp [ipWords]) rfl rfl (by omega)
    (by
      intro x hx
      simp only [ipWords, List.mem_cons, List.not_mem_nil, or_false] at hx
      rcases hx with rfl | rfl | rfl | rfl <;> exact dig_pure (by have := hb 0; have := hb 1; have := hb 2; have := hb 3; omega) 46 (by decide))
    (by rw [ip_join]; exact ip_length a)
    (by
      intro x hx
      simp only [List.mem_cons, List.not_mem_nil, or_false] at hx
      rcases hx with rfl | rfl | rfl | rfl <;> exact hb _)
    (by
      intro i h h' w
      have hi : i = 0 ∨ i = 1 ∨ i = 2 ∨ i = 3 := by simp [ipWords] at h; omega
      rcases hi with rfl | rfl | rfl | rfl
      · exact hpu _ (hb 3) w
      · exact hpu _ (hb 2) w
      · exact hpu _ (hb 1) w
      · exact hpu _ (hb 0) w)
  rw [ip_join, num4 a (by simp; omega)] at key
  go_enter Tryd.func18, Tryd.ntmps18
  go_wp2_with fail
  refine (key _ hv).mono ?_; rintro e w1 ⟨rfl, b1⟩
  have hv1 := hv.below b1
  have B1 := Lib.hid b1
  clear b1
  go_wp2_with fail
  refine (ip_any a ha _ hv1).mono ?_; rintro e w2 ⟨rfl, b2⟩
  have B2 := Lib.hid (B1.out.trans (b2.mono B1.out.size))
  clear b2
  go_wp2
  go_ret2
  exact ⟨rfl, B2.out⟩

/-- ParseIP where there are too few words. -/
theorem parseIP_few (ws : List (List UInt8)) (hws : ws ≠ []) (hl : ws.length < 4) (hc : ∀ x ∈ ws, (46 : UInt8) ∉ x) (hn : (joinW 46 ws).length < 1000) (w : World) (hv : Vars w) :
    Calls Tryd.prog 18 #[.string ⟨(joinW 46 ws).toArray⟩] w fun e w' => e = .returned (.tuple #[.int .u32 0, .int .i64 50]) ∧ Below w.heap.size w w' := by
  go_enter Tryd.func18, Tryd.ntmps18
  go_wp2_with fail
  refine (bytesOf_not 46 ws 4 10 hws hl (by omega) hc hn _ hv).mono ?_; rintro e w1 ⟨rfl, b1⟩
  have B1 := Lib.hid b1
  clear b1
  go_wp2
  go_ret2
  exact ⟨rfl, B1.out⟩
end Go.Proofs.YtflbckeebmlofaaDoor
