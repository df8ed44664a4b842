/- Package civil's texts: digits, names, numbers told and read. Conditions: those that each states. -/
import Derived.Test.YtbmnfefpkahejaaDoorTxt
import Derived.Test.YtbmnfefpkahejaaDoorSec2
import Derived.Laws.Concat
import Derived.Lib.Strings
import Derived.Lib.AppendIntMem
namespace Go.Proofs.YtbmnfefpkahejaaDoor
open Go.ChangeShapes Go.WideShapes Go.ChangeAt Go.RowKit Go.Deep

theorem ret_str {a b : ByteArray} (h : a = b) : Ending.returned (.string a) = .returned (.string b) := by rw [h]
theorem itoa_any (n : Nat) (hn : n < 10000) (w : World) (hv : Vars w) :
    Calls Tryd.prog 32 #[.int .i64 (n : Int)] w fun e w' => e = .returned (.string ⟨(Lib.decDigits n).toArray⟩) ∧ Below w.heap.size w w' := by
  refine (Tryd.strconv_Itoa (n : Int) (by omega) (by omega) w hv.tab).mono ?_
  rintro e w' ⟨rfl, k, os, rfl⟩
  refine ⟨?_, ?_⟩
  · have : Lib.itoa (n : Int) = Lib.decDigits n := by
      unfold Lib.itoa
      rw [if_neg (by omega)]
      simp
    rw [this]
  · exact Lib.below_grow _ w (Nat.le_refl _) k os

set_option maxRecDepth 100000 in
set_option maxHeartbeats 1000000 in
theorem padded_any (n k : Nat) (hn : n < 10000) (hl : (Lib.decDigits n).length ≤ k) (hk : k ≤ 4) (w : World) (hv : Vars w) :
    Calls Tryd.prog 21 #[.int .i64 (n : Int), .int .i64 (k : Int)] w fun e w' => e = .returned (.string ⟨(pad k (Lib.decDigits n)).toArray⟩) ∧ Below w.heap.size w w' := by
  have HI := Lib.hid (fun w hv => itoa_any n hn w hv)
  generalize Lib.decDigits n = ds at *
  go_enter Tryd.func21, Tryd.ntmps21
  go_wp2_with fail
  refine (HI.out _ hv).mono ?_; rintro e w1 ⟨rfl, b1⟩
  have B1 := Lib.hid b1
  clear b1 HI
  go_wp2
  go_loop [5] (fun s5 => ∃ l : List UInt8, s5 = .string ⟨l.toArray⟩ ∧ l.length ≤ k ∧ Hid (pad k l = pad k ds)) (fun s5 => match s5 with | .string s => k - s.size | _ => 0)
  case atStart => exact ⟨ds, rfl, hl, Lib.hid rfl⟩
  case round =>
    obtain ⟨l, rfl, hll, hp⟩ := hrel
    by_cases hlt : l.length < k
    · have hlen : ¬ 9223372036854775807 < 1 + l.length := by omega
      go_wp2
      go_round
      case rel => exact ⟨48 :: l, by rw [ByteArray.mk_append_mk]; rfl, by simp; omega, Lib.hid ((pad_more hlt).trans hp.out)⟩
      case measure => simp [ByteArray.size]; omega
    · have hge : k ≤ l.length := by omega
      go_wp2
      go_ret
      exact ⟨ret_str (by rw [← hp.out, pad_done hge]), B1.out⟩
theorem padTwo_any (n : Int) (h0 : 0 ≤ n) (h : n < 100) (w : World) (hv : Vars w) :
    Calls Tryd.prog 21 #[.int .i64 n, .int .i64 2] w fun e w' => e = .returned (.string ⟨(two n).toArray⟩) ∧ Below w.heap.size w w' := by
  obtain ⟨k, rfl⟩ : ∃ k : Nat, n = k := ⟨n.toNat, by omega⟩
  obtain ⟨e, hl⟩ := pad_two (n := k) (by omega)
  have := padded_any k 2 (by omega) hl (by omega) w hv
  rw [e] at this
  exact this
theorem padFour_any (n : Int) (h0 : 1000 ≤ n) (h : n < 10000) (w : World) (hv : Vars w) :
    Calls Tryd.prog 21 #[.int .i64 n, .int .i64 4] w fun e w' => e = .returned (.string ⟨(four n).toArray⟩) ∧ Below w.heap.size w w' := by
  obtain ⟨k, rfl⟩ : ∃ k : Nat, n = k := ⟨n.toNat, by omega⟩
  obtain ⟨e, hl⟩ := pad_four (n := k) (by omega) (by omega)
  have := padded_any k 4 (by omega) hl (by omega) w hv
  rw [e] at this
  exact this

/-- The month of a name, 0 where there is none; the weekday, -1. -/
def mnum (l : List UInt8) : Int := if idx moNames l < 12 then (idx moNames l : Int) + 1 else 0
def wnum (l : List UInt8) : Int := if idx wdNames l < 7 then (idx wdNames l : Int) else -1

set_option maxRecDepth 100000 in
set_option maxHeartbeats 1000000 in
theorem monthOf_any (l : List UInt8) (w : World) (hv : Vars w) :
    Calls Tryd.prog 27 #[.string ⟨l.toArray⟩] w fun e w' => e = .returned (.int .i64 (mnum l)) ∧ w' = w := by
  have hle : idx moNames l ≤ 12 := idx_le
  go_enter Tryd.func27, Tryd.ntmps27
  go_wp2
  go_loop [4] (fun s4 => ∃ j : Nat, s4 = .int .i64 (j : Int) ∧ j ≤ idx moNames l) (fun s4 => 12 - (intOf s4).toNat)
  case atStart => exact ⟨0, rfl, by omega⟩
  case round =>
    obtain ⟨j, rfl, hj⟩ := hrel
    by_cases hlt : j < 12
    · have hc := hv.mo j hlt
      have hlt' : (j : Int) < 12 := by omega
      by_cases he : moNames.getD j [] = l
      · have hi := idx_is hj hlt he
        have HI := Lib.hid hi
        rw [he] at hc
        clear he hi
        go_wp2
        go_ret
        exact ⟨ret_int (by unfold mnum; rw [← HI.out, if_pos hlt]), rfl⟩
      · have hb : (moNames.getD j [] == l) = false := by simpa using he
        have hn : j + 1 ≤ idx moNames l := by
          rcases Nat.lt_or_ge j (idx moNames l) with h1 | h1
          · omega
          · have e : j = idx moNames l := by omega
            have := idx_at (ns := moNames) (l := l) (by rw [← e]; exact hlt)
            rw [← e] at this
            exact absurd this he
        generalize moNames.getD j [] = x at *
        clear he
        go_wp2
        go_round
        case rel => exact ⟨j + 1, by go_num, hn⟩
        case measure => simp [intOf]; omega
    · have hge : ¬ (j : Int) < 12 := by omega
      have h12 : ¬ idx moNames l < 12 := by omega
      go_wp2
      go_ret
      exact ⟨ret_int (by unfold mnum; rw [if_neg h12]), rfl⟩

set_option maxRecDepth 100000 in
set_option maxHeartbeats 1000000 in
theorem weekdayOf_any (l : List UInt8) (w : World) (hv : Vars w) :
    Calls Tryd.prog 28 #[.string ⟨l.toArray⟩] w fun e w' => e = .returned (.int .i64 (wnum l)) ∧ w' = w := by
  have hle : idx wdNames l ≤ 7 := idx_le
  go_enter Tryd.func28, Tryd.ntmps28
  go_wp2
  go_loop [4] (fun s4 => ∃ j : Nat, s4 = .int .i64 (j : Int) ∧ j ≤ idx wdNames l) (fun s4 => 7 - (intOf s4).toNat)
  case atStart => exact ⟨0, rfl, by omega⟩
  case round =>
    obtain ⟨j, rfl, hj⟩ := hrel
    by_cases hlt : j < 7
    · have hc := hv.wd j hlt
      have hlt' : (j : Int) < 7 := by omega
      by_cases he : wdNames.getD j [] = l
      · have hi := idx_is hj hlt he
        have HI := Lib.hid hi
        rw [he] at hc
        clear he hi
        go_wp2
        go_ret
        exact ⟨ret_int (by unfold wnum; rw [← HI.out, if_pos hlt]), rfl⟩
      · have hb : (wdNames.getD j [] == l) = false := by simpa using he
        have hn : j + 1 ≤ idx wdNames l := by
          rcases Nat.lt_or_ge j (idx wdNames l) with h1 | h1
          · omega
          · have e : j = idx wdNames l := by omega
            have := idx_at (ns := wdNames) (l := l) (by rw [← e]; exact hlt)
            rw [← e] at this
            exact absurd this he
        generalize wdNames.getD j [] = x at *
        clear he
        go_wp2
        go_round
        case rel => exact ⟨j + 1, by go_num, hn⟩
        case measure => simp [intOf]; omega
    · have hge : ¬ (j : Int) < 7 := by omega
      have h12 : ¬ idx wdNames l < 7 := by omega
      go_wp2
      go_ret
      exact ⟨ret_int (by unfold wnum; rw [if_neg h12]), rfl⟩
end Go.Proofs.YtbmnfefpkahejaaDoor
