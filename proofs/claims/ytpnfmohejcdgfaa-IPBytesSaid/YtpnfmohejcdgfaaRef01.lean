/- What the functions of package pantlerref01 do, said of their arguments. Conditions: those that each states. -/
import Derived.Test.YtpnfmohejcdgfaaPart
import Derived.RegionTactic
import Derived.ChangeAlike
namespace Go.Proofs.Ytpnfmohejcdgfaa
open Go.ChangeShapes Go.WideShapes Go.ChangeAt Go.RowKit Fl

def pair (a b : Int) : Value := .agg #[.int .i64 a, .int .i64 b]

theorem number_any (a b : Int) (w : World) : Calls Try.prog 18 #[.agg #[.int .i64 a, .int .i64 b]] w fun e w' => e = .returned (.complex .f64 (floatOfInt .f64 a) (floatOfInt .f64 b)) ∧ Below w.heap.size w w' := by
  go_enter Try.func18, Try.ntmps18
  go_wp2
  go_ret
  exact ⟨rfl, by go_grown⟩

theorem number_w (a b : Int) (w : World) : Calls Try.prog 18 #[.agg #[.int .i64 a, .int .i64 b]] w fun e w' => e = .returned (.complex .f64 (floatOfInt .f64 a) (floatOfInt .f64 b)) ∧ w.alloc (.cells #[.int .i64 a, .int .i64 b] 49) = w' := by
  go_enter Try.func18, Try.ntmps18
  go_wp2
  go_ret
  exact ⟨rfl, rfl⟩

theorem eqf (v : Int) (h : v.natAbs < 2 ^ 53) : (FloatKind.f64.format.order (fl v) (floatOfInt .f64 v) == some .eq) = true := by
  have : FloatKind.f64.format.order (fl v) (floatOfInt .f64 v) = some (compare v v) := fl_order h h
  rw [this]; simp [compare, compareOfLessAndEq]
theorem eqf' (v : Int) (h : v.natAbs < 2 ^ 53) : (FloatKind.f64.format.order (fl v) (fl v) == some .eq) = true := eqf v h
theorem eqf0 (v : Int) (h : v.natAbs < 2 ^ 53) : (FloatKind.f64.format.order (floatOfInt .f64 v) (floatOfInt .f64 v) == some .eq) = true := eqf v h

def mayP (a b : Int) : Bool := decide ((0 ≤ a ∧ a ≤ 1099511627776) ∧ (0 ≤ b ∧ b ≤ 1099511627776))

theorem of_any (A : Option Addr) (n c : Nat) (l : List UInt8) (w : World) (hb : Bytes w A n c l) (hn : n ≤ 16777216) :
    Calls Try.prog 19 #[.slice A n c] w fun e w' => e = .returned (.agg #[.int .i64 (evs l), .int .i64 (ods l)]) ∧ Below w.heap.size w w' := by
  have hlen := hb.len
  go_enter Try.func19, Try.ntmps19
  go_wp2
  go_loopw [4] (fun i wr => ∃ k : Nat, k ≤ n ∧ i = .int .i64 k ∧ Below w.heap.size w wr ∧ Blk wr w.heap.size 49 #[.int .i64 0, .int .i64 0] ∧ Blk wr (w.heap.size + 1) 49 #[.int .i64 (evs (l.take k)), .int .i64 (ods (l.take k))]) (fun i _ => n - (intOf i).toNat)
  case atStart =>
    refine ⟨0, by omega, rfl, by go_grown, (Blk.new _ _ _).alloc _, ?_⟩
    have := Blk.new (w.alloc (.cells #[.int .i64 0, .int .i64 0] 49)) 49 #[.int .i64 0, .int .i64 0]
    simpa [evs, ods] using this
  case round =>
    obtain ⟨k, hk, rfl, hbel, hb0, hb1⟩ := hrel
    have hsz := hbel.size
    have f0 := hb0.frozen 0
    have f1 := hb0.frozen 1
    have g0 := hb1.frozen 0
    have g1 := hb1.frozen 1
    have d0 := hb0.cell 0
    have d1 := hb0.cell 1
    have c0 := hb1.cell 0
    have c1 := hb1.cell 1
    simp only [List.getElem?_toArray, List.getElem?_cons_zero, List.getElem?_cons_succ] at c0 c1 d0 d1
    have hle := evs_le (l.take k)
    have hll : (l.take k).length ≤ k := List.length_take_le _ _
    by_cases hlt : k < n
    · obtain ⟨b, o, hl0, rfl, hbk, hc0⟩ := (hb.below hbel).byte (k := k) hlt
      have hs := evs_snoc (l := l) (p := k) (by omega)
      have hu := l[k].toNat_lt
      have HT := Lib.hid hs
      clear hs
      by_cases hp : k % 2 = 0
      · have hp1 : (k : Int) % 2 = 0 := by omega
        go_wp2
        go_region
        go_wp2
        go_roundw
        case rel =>
          refine ⟨k + 1, by omega, by go_num, by go_grown, ?_, ?_⟩
          · exact hb0.far (by simp) _
          · have h2 := hb1.put 0 (.int .i64 ((evs (l.take k) : Int) + (l[k].toNat : Int)))
            rw [HT.out.1, HT.out.2, if_pos hp, if_pos hp]
            exact h2
        case measure => simp [intOf]; omega
      · have hp1 : ((k : Int) % 2 == 0) = false := by simp; omega
        go_wp2
        go_region
        go_wp2
        go_roundw
        case rel =>
          refine ⟨k + 1, by omega, by go_num, by go_grown, ?_, ?_⟩
          · exact hb0.far (by simp) _
          · have h2 := hb1.put 1 (.int .i64 ((ods (l.take k) : Int) + (l[k].toNat : Int)))
            rw [HT.out.1, HT.out.2, if_neg hp, if_neg hp]
            exact h2
        case measure => simp [intOf]; omega
    · obtain rfl : n = k := by omega
      have ht : l.take n = l := List.take_of_length_le (by omega)
      rw [ht] at c0 c1
      have q0 := hb0.cell_put (i := 0) (by simp) (.int .i64 (evs l))
      have q1 := (hb0.put 0 (.int .i64 (evs l))).cell_put (i := 1) (by simp) (.int .i64 (ods l))
      have Q0 := Lib.hid q0
      have Q1 := Lib.hid q1
      clear hb0 hb1 q0 q1
      go_wp2
      exact bodyPost_ret (v := .agg #[.int .i64 (evs l), .int .i64 (ods l)]) (by simp [results, Try.results19, go_sem, Q0.out, Q1.out]) rfl ⟨rfl, by go_grown⟩
theorem fo_add (S x : Nat) (hx : x ≤ 65535) : fo (S + x) = if 65536 ≤ fo S + x then fo S + x - 65535 else fo S + x := by
  unfold fo
  by_cases h : S = 0
  · subst h
    by_cases h0 : x = 0
    · subst h0; rfl
    · rw [if_pos rfl, if_neg (by omega), if_neg (by omega)]; omega
  · rw [if_neg h, if_neg (by omega)]
    split <;> omega

theorem scratch_any (A : Option Addr) (n c : Nat) (l : List UInt8) (w : World) (hb : Bytes w A n c l) (hn : n ≤ 16777216) :
    Calls Try.prog 27 #[.slice A n c] w fun e w' => e = .returned (.int .i64 (65535 - (fo (256 * evs l + ods l) : Nat))) ∧ w = w' := by
  have hlen := hb.len
  go_enter Try.func27, Try.ntmps27
  go_wp2
  go_loop [3, 4, 5] (fun t i _ => ∃ p : Nat, p ≤ n + 1 ∧ p % 2 = 0 ∧ i = .int .i64 p ∧ t = .int .i64 (fo (256 * evs (l.take p) + ods (l.take p)) : Nat)) (fun _ i _ => n - (intOf i).toNat)
  case atStart => exact ⟨0, by omega, rfl, rfl, rfl⟩
  case round =>
    obtain ⟨p, hp, hpe, rfl, rfl⟩ := hrel
    have hfo := fo_le (256 * evs (l.take p) + ods (l.take p))
    by_cases hlt : p + 1 < n
    · obtain ⟨b, o, hl0, rfl, hbk, hc0⟩ := hb.byte (k := p) (by omega)
      obtain ⟨b', o', hl1, hA, _, hc1⟩ := hb.byte (k := p + 1) (by omega)
      cases hA
      have ht := evs_two (l := l) (p := p) (by omega) hpe
      have hu := l[p].toNat_lt
      have hu1 := l[p+1].toNat_lt
      have hs := fo_add (256 * evs (l.take p) + ods (l.take p)) (256 * l[p].toNat + l[p+1].toNat) (by omega)
      have he : 256 * evs (l.take (p + 2)) + ods (l.take (p + 2)) = 256 * evs (l.take p) + ods (l.take p) + (256 * l[p].toNat + l[p+1].toNat) := by rw [ht.1, ht.2]; omega
      rw [← he] at hs
      have HS := Lib.hid hs
      clear hs ht he
      have i2 : (p : Int) + 1 < (n : Int) := by omega
      have i3 : 0 ≤ (p : Int) + 1 := by omega
      have i4 : ((p : Int) + 1).toNat = p + 1 := by omega
      by_cases hc : 65536 ≤ fo (256 * evs (l.take p) + ods (l.take p)) + (256 * l[p].toNat + l[p+1].toNat)
      · have hc' : (65536 : Int) ≤ (fo (256 * evs (l.take p) + ods (l.take p)) : Int) + ((l[p].toNat : Int) * 256 + (l[p+1].toNat : Int)) := by omega
        go_wp2
        go_round
        case rel => exact ⟨p + 2, by omega, by omega, by go_num, by rw [HS.out, if_pos hc]; go_num⟩
        case measure => simp [intOf]; omega
      · have hc' : ¬ (65536 : Int) ≤ (fo (256 * evs (l.take p) + ods (l.take p)) : Int) + ((l[p].toNat : Int) * 256 + (l[p+1].toNat : Int)) := by omega
        go_wp2
        go_round
        case rel => exact ⟨p + 2, by omega, by omega, by go_num, by rw [HS.out, if_neg hc]; go_num⟩
        case measure => simp [intOf]; omega
    · by_cases he : p + 1 = n
      · obtain rfl : n = p + 1 := he.symm
        obtain ⟨b, o, hl0, rfl, hbk, hc0⟩ := hb.byte (k := p) (by omega)
        have ht := evs_one (l := l) (p := p) (by omega) hpe
        have hu := l[p].toNat_lt
        have hs := fo_add (256 * evs (l.take p) + ods (l.take p)) (256 * l[p].toNat) (by omega)
        have h2 : l.take (p + 2) = l := List.take_of_length_le (by omega)
        have he : 256 * evs (l.take (p + 2)) + ods (l.take (p + 2)) = 256 * evs (l.take p) + ods (l.take p) + 256 * l[p].toNat := by rw [h2, ht.1, ht.2]; omega
        rw [← he] at hs
        have HS := Lib.hid hs
        clear hs ht he h2
        by_cases hc : 65536 ≤ fo (256 * evs (l.take p) + ods (l.take p)) + 256 * l[p].toNat
        · have hc' : (65536 : Int) ≤ (fo (256 * evs (l.take p) + ods (l.take p)) : Int) + (l[p].toNat : Int) * 256 := by omega
          go_wp2
          go_round
          case rel => exact ⟨p + 2, by omega, by omega, by go_num, by rw [HS.out, if_pos hc]; go_num⟩
          case measure => simp [intOf]; omega
        · have hc' : ¬ (65536 : Int) ≤ (fo (256 * evs (l.take p) + ods (l.take p)) : Int) + (l[p].toNat : Int) * 256 := by omega
          go_wp2
          go_round
          case rel => exact ⟨p + 2, by omega, by omega, by go_num, by rw [HS.out, if_neg hc]; go_num⟩
          case measure => simp [intOf]; omega
      · have ht : l.take p = l := List.take_of_length_le (by omega)
        rw [ht] at hfo ⊢
        have hge : n ≤ p := by omega
        clear ht hlt he
        go_wp2
        go_ret
        exact ⟨rfl, rfl⟩

end Go.Proofs.Ytpnfmohejcdgfaa
