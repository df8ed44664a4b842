/- Package octet's reader: New, Num, Bytes, Rest, Err, Done, and what the document's own reader answers. Conditions: those that each states. -/
import Derived.Test.YtgemmciokioaiaaEy
namespace Go.Proofs.Ytgemmciokioaiaa
open Go.ChangeShapes Go.WideShapes Go.ChangeAt Go.RowKit Go.Deep

theorem new_any (A : Option Addr) (n c : Nat) (l : List UInt8) (w : World) (hb : Src w A n c l) (hn : n ≤ 1000000) :
    Calls Try.prog 31 #[.slice A n c] w fun e w' => ∃ g, e = .returned (.pointer (some ⟨g, 0, none⟩)) ∧ EyeAt w' w.heap.size g l 0 ∧ g < w'.heap.size ∧ Below w.heap.size w w' := by
  have hl := hb.len
  subst hl
  go_enter Try.func31, Try.ntmps31
  go_wp2_with fail
  refine (clone_any A l.length c l _ hb hn).mono ?_; rintro e w1 ⟨A', c', rfl, hs, hbs, b1⟩
  have e1 : EyeAt (w1.alloc (.cells #[.slice A' l.length c', .int .i64 0] 79)) w.heap.size w1.heap.size l 0 := by
    refine ⟨b1.size, hn, A', c', Blk.new _ _ _, hs.alloc _, fun hp b o e => ?_⟩
    obtain ⟨b0, o0, e0, hlt, _⟩ := hs.lies (by rw [bys_length]; exact hp)
    rw [e0] at e
    cases e
    omega
  have E1 := Lib.hid e1
  have B1 := Lib.hid (b1.alloc b1.size (.cells #[.slice A' l.length c', .int .i64 0] 79))
  clear hs hbs b1 e1 hb
  go_wp2
  go_ret
  exact ⟨_, rfl, E1.out, by simp, B1.out⟩

/-- The number that bytes tell. -/
def numB (l : List UInt8) : Nat := l.foldl (fun a c => a * 256 + c.toNat) 0
theorem numB_snoc (l : List UInt8) (c : UInt8) : numB (l ++ [c]) = numB l * 256 + c.toNat := by simp [numB]
theorem numB_lt (l : List UInt8) : ∀ i, i ≤ l.length → numB (l.take i) < 256 ^ i
  | 0, _ => by simp [numB]
  | i + 1, hi => by
    have h1 := numB_lt l i (by omega)
    have h2 := UInt8.toNat_lt l[i]
    rw [List.take_succ_eq_append_getElem (by omega), numB_snoc, Nat.pow_succ]
    omega

theorem next_nil (n lo hi : Int) (w : World) : Calls Try.prog 44 #[.pointer none, .int .i64 n, .int .i64 lo, .int .i64 hi] w fun e w' => e = .returned (.slice none 0 0) ∧ w' = w := by
  go_enter Try.func44, Try.ntmps44
  go_wp2
  go_step3
  go_wp2
  rw [Exit.noGoto_ret]
  go_ret
  exact ⟨rfl, rfl⟩

set_option maxRecDepth 100000 in
set_option maxHeartbeats 1000000 in
/-- Num, out of what next hands back. -/
theorem num_from (p : Option Addr) (n : Int) (w : World) (r : List UInt8) (R : World → Prop) (hr : r.length ≤ 8)
    (hnext : Calls Try.prog 44 #[.pointer p, .int .i64 n, .int .i64 1, .int .i64 8] w fun e w' => ∃ A c, e = .returned (.slice A r.length c) ∧ Src w' A r.length c r ∧ R w') :
    Calls Try.prog 41 #[.pointer p, .int .i64 n] w fun e w' => e = .returned (.int .u64 (numB r : Int)) ∧ R w' := by
  have HN := Lib.hid hnext
  clear hnext
  go_enter Try.func41, Try.ntmps41
  go_wp2_with fail
  refine HN.out.mono ?_; rintro e w1 ⟨A, c, rfl, hs, hR⟩
  have HR := Lib.hid hR
  have HS := Lib.hid hs
  clear hR hs
  go_wp2
  go_loop [5, 7, 12] (fun n _ i => ∃ j : Nat, j ≤ r.length ∧ i = .int .i64 (j : Int) ∧ n = .int .u64 (numB (r.take j) : Int)) (fun _ _ i => r.length - (intOf i).toNat)
  case atStart => exact ⟨0, Nat.zero_le _, rfl, by simp [numB]⟩
  case round =>
    obtain ⟨j, hj, rfl, rfl⟩ := hrel
    by_cases hlt : j < r.length
    · have hlt' : (j : Int) < r.length := by omega
      have j0 : (0 : Int) ≤ j := by omega
      obtain ⟨b, o, _, rfl, _, hc⟩ := HS.out.toBytes.byte hlt
      have x2 := IntWalk.i64_in ((j : Int) + 1) (by omega)
      have hn1 := numB_lt r j hj
      have hn2 : 256 ^ j ≤ 256 ^ 7 := Nat.pow_le_pow_right (by omega) (by omega)
      have hst : numB (r.take (j + 1)) = numB (r.take j) * 256 + (r[j]).toNat := by
        rw [List.take_succ_eq_append_getElem hlt, numB_snoc]
      have hc8 := UInt8.toNat_lt r[j]
      generalize hv : (r[j]).toNat = v at *
      generalize hn : numB (r.take j) = m at *
      have hor := or256 m v hc8 (by simp at hn2; omega)
      have HST := Lib.hid hst
      clear hv hn hst
      go_wp2
      go_round
      case rel => exact ⟨j + 1, by omega, by simp, by rw [HST.out]; simp⟩
      case measure => simp [intOf]; omega
    · have hge : ¬ (j : Int) < r.length := by omega
      have hjk : j = r.length := by omega
      subst hjk
      go_wp2
      go_ret
      exact ⟨rfl, HR.out⟩

/-- What Done tells. -/
def doneOf (l : List UInt8) (err : Int) : Int := if err = 0 ∧ 0 < l.length then 50 else err
end Go.Proofs.Ytgemmciokioaiaa
