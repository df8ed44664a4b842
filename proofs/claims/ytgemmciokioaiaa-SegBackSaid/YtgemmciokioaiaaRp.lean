/- The document's numbers in bytes (layer 2): Put, P. Needs no more than octet. Conditions: those that each states. -/
import Derived.Test.YtgemmciokioaiaaCom
import Derived.Test.YtgemmciokioaiaaTk
import Derived.Laws.BytesString
import Derived.Laws.IdiomStrings
namespace Go.Proofs.Ytgemmciokioaiaa
open Go.ChangeShapes Go.WideShapes Go.ChangeAt Go.RowKit Go.Deep Di

theorem refPut_wide (a : Nat) (z : Int) (w : World) (hz : z < 1 ∨ 8 < z) :
    Calls Try.prog 32 #[.int .u64 (a : Int), .int .i64 z] w fun e w' => e = .returned (.tuple #[.string ⟨#[]⟩, .int .i64 1]) ∧ w' = w := by
  rcases hz with h | h
  · go_enter Try.func32, Try.ntmps32
    go_wp2
    go_ret2
    exact ⟨rfl, rfl⟩
  · have h1 : ¬ z < 1 := by omega
    have h2 : z > 8 := h
    go_enter Try.func32, Try.ntmps32
    go_wp2
    go_ret2
    exact ⟨rfl, rfl⟩

set_option maxRecDepth 100000 in
set_option maxHeartbeats 1000000 in
theorem refPut_any (a k : Nat) (w : World) (ha : a ≤ 18446744073709551615) (h1 : 1 ≤ k) (h8 : k ≤ 8) :
    Calls Try.prog 32 #[.int .u64 (a : Int), .int .i64 (k : Int)] w fun e w' => e = .returned (if a < 256 ^ k then .tuple #[.string ⟨(be a k).toArray⟩, .int .i64 0] else .tuple #[.string ⟨#[]⟩, .int .i64 1]) ∧ Below w.heap.size w w' := by
  have k1 : ¬ (k : Int) < 1 := by omega
  have k8 : ¬ (k : Int) > 8 := by omega
  have B0 := Lib.hid (Below.refl w.heap.size w)
  go_enter Try.func32, Try.ntmps32
  go_wp2
  go_loopw [0, 6, 7] (fun n s i wr => ∃ j : Nat, j ≤ k ∧ i = .int .i64 (j : Int) ∧ n = .int .u64 ((a / 256 ^ j : Nat) : Int) ∧ s = .string ⟨(be a j).toArray⟩ ∧ Below w.heap.size w wr) (fun _ _ i _ => k - (intOf i).toNat)
  case atStart => exact ⟨0, Nat.zero_le _, rfl, by simp, rfl, B0.out⟩
  case round =>
    obtain ⟨j, hj, rfl, rfl, rfl, hbel⟩ := hrel
    have HBEL := Lib.hid hbel
    clear hbel B0
    by_cases hlt : j < k
    · have hlt' : (j : Int) < k := by omega
      have x2 := IntWalk.i64_in ((j : Int) + 1) (by omega)
      have hq : a / 256 ^ j ≤ 18446744073709551615 := Nat.le_trans (Nat.div_le_self _ _) ha
      have hbe : be a (j + 1) = nb a j :: be a j := rfl
      have hnb := nb_eq a j
      have hdiv : a / 256 ^ (j + 1) = a / 256 ^ j / 256 := by rw [Nat.pow_succ, Nat.div_div_eq_div_mul]
      generalize a / 256 ^ j = q at *
      have hcast : (q : Int) % 256 = ((nb a j).toNat : Int) := by omega
      have HBE := Lib.hid hbe
      have HDIV := Lib.hid hdiv
      clear hnb hbe hdiv
      generalize nb a j = c at *
      have ht := told_str (Src.one wr c)
      have hlen : ¬ 9223372036854775807 < 1 + (be a j).length := by rw [be_length]; omega
      have B2 := Lib.hid (HBEL.out.alloc HBEL.out.size (.cells #[.int .u8 (c.toNat : Int)] 5))
      go_wp2
      go_roundw
      case rel =>
        refine ⟨j + 1, by omega, by simp, ?_, ?_, B2.out⟩
        · rw [HDIV.out]; simp
        · rw [HBE.out, ByteArray.mk_append_mk]; simp
      case measure => simp [intOf]; omega
    · have hge : ¬ (j : Int) < k := by omega
      have hjk : j = k := by omega
      subst hjk
      by_cases hf : a < 256 ^ j
      · have HF := Lib.hid hf
        have hq := Nat.div_eq_of_lt hf
        generalize a / 256 ^ j = q at *
        subst hq
        clear hf
        go_wp2
        go_ret2
        all_goals first | exact ⟨rfl, HBEL.out⟩ | (have := HF.out; contradiction)
      · have HF := Lib.hid hf
        have hq : 0 < a / 256 ^ j := Nat.div_pos (by omega) (Nat.pow_pos (by decide))
        generalize a / 256 ^ j = q at *
        have hq' : (q : Int) > 0 := by omega
        clear hf
        go_wp2
        go_ret2
        all_goals first | exact ⟨rfl, HBEL.out⟩ | (have := HF.out; contradiction)

set_option maxRecDepth 100000 in
theorem refP_any (a k : Nat) (w : World) (ha : a ≤ 18446744073709551615) (h1 : 1 ≤ k) (h8 : k ≤ 8) (hf : a < 256 ^ k) :
    Calls Try.prog 19 #[.int .u64 (a : Int), .int .i64 (k : Int)] w fun e w' => e = .returned (.string ⟨(be a k).toArray⟩) ∧ Below w.heap.size w w' := by
  have RP := Lib.hid (refPut_any a k w ha h1 h8)
  rw [if_pos hf] at RP
  go_enter Try.func19, Try.ntmps19
  go_wp2_with fail
  refine RP.out.mono ?_; rintro e w' ⟨rfl, b⟩
  have B := Lib.hid b
  clear b
  go_wp2
  go_ret
  exact ⟨rfl, B.out⟩
end Go.Proofs.Ytgemmciokioaiaa
