/- The document's answers of layer 2 as the laws reckon them, and the chapter's examples. Conditions: those that each states. -/
import Derived.Test.YtflbckeebmlofaaDoorParse
import Derived.Laws.BytesString
import Derived.Laws.IdiomStrings
import Derived.Laws.BytesArg
namespace Go.Proofs.YtflbckeebmlofaaDoor
open Go.ChangeShapes Go.WideShapes Go.ChangeAt Go.RowKit Go.Deep

theorem ip_one : ipStr 3232235777 = [49, 57, 50, 46, 49, 54, 56, 46, 49, 46, 49] := by
  have h3 : (nb 3232235777 3).toNat = 192 := by rw [nb_eq]
  have h2 : (nb 3232235777 2).toNat = 168 := by rw [nb_eq]
  have h1 : (nb 3232235777 1).toNat = 1 := by rw [nb_eq]
  have h0 : (nb 3232235777 0).toNat = 1 := by rw [nb_eq]
  simp only [ipStr, ipTail, Nat.zero_add, Nat.reduceAdd, h0, h1, h2, h3]
  rw [dig3 (n := 192) (by decide) (by decide), dig3 (n := 168) (by decide) (by decide), dig1 (n := 1) (by decide)]
  rfl
theorem mac_one : macStr 1 = [48, 48, 58, 48, 48, 58, 48, 48, 58, 48, 48, 58, 48, 48, 58, 48, 49] := by
  simp only [macStr, macTail, nb_eq]
  rfl

theorem alive_any (w : World) (hv : Vars w) : Calls Tryd.prog 7 #[] w fun e w' => e = .returned (.bool true) ∧ Below w.heap.size w w' := by
  have k1 := fun w hv => parseIP_ok 3232235777 (by decide) w hv
  rw [ip_one] at k1
  have k2 := fun w hv => ip_any 3232235777 (by decide) w hv
  rw [ip_one] at k2
  have k3 := fun w => mac_ok 1 (by decide) w
  rw [mac_one] at k3
  have k4 := fun w hv => parseIP_few [[49], [50], [51]] (by decide) (by decide) (by decide) (by decide) w hv
  go_enter Tryd.func7, Tryd.ntmps7
  go_wp2_with fail
  refine (k3 _).mono ?_; rintro e w1 ⟨rfl, b1⟩
  have hv1 := hv.below b1
  have B1 := Lib.hid b1
  clear b1
  go_wp2_with fail
  refine (k1 _ hv1).mono ?_; rintro e w2 ⟨rfl, b2⟩
  have hv2 := hv1.below b2
  have B2 := Lib.hid (B1.out.trans (b2.mono B1.out.size))
  clear b2
  go_wp2_with fail
  refine (k4 _ hv2).mono ?_; rintro e w3 ⟨rfl, b3⟩
  have hv3 := hv2.below b3
  have B3 := Lib.hid (B2.out.trans (b3.mono B2.out.size))
  clear b3
  go_wp2_with fail
  refine (k2 _ hv3).mono ?_; rintro e w4 ⟨rfl, b4⟩
  have B4 := Lib.hid (B3.out.trans (b4.mono B3.out.size))
  clear b4
  go_wp2
  go_ret
  exact ⟨rfl, B4.out⟩

/-- 'string(b)'. -/
theorem told_str {w : World} {A : Option Addr} {n c : Nat} {l : List UInt8} (hb : Src w A n c l) : (convert 22 9 (.slice A n c)).run Tryd.prog w = .ok (.string ⟨l.toArray⟩) w := by
  have hl := hb.len
  cases A with
  | none =>
    have hc := hb.none_ rfl
    have hn : n = 0 := by have := hb.cap; omega
    subst hn
    rw [List.length_eq_zero_iff.1 hl]
    exact run_convert_bytes_nil w 22 5 Tryd.underlying22 Tryd.underlying5 0 c 9 Tryd.underlying9
  | some ad =>
    subst hl
    exact run_convert_bytes_back w 22 9 5 ad c l Tryd.underlying22 Tryd.underlying5 Tryd.underlying9 fun j hj => by
      rw [Bytes.at_ ad hb.toBytes j _ (bys_get hj)]

theorem refPut_wide (a : Nat) (z : Int) (w : World) (hz : z < 1 ∨ 8 < z) :
    Calls Tryd.prog 9 #[.int .u64 (a : Int), .int .i64 z] w fun e w' => e = .returned (.tuple #[.string ⟨#[]⟩, .int .i64 1]) ∧ w' = w := by
  rcases hz with h | h
  · go_enter Tryd.func9, Tryd.ntmps9
    go_wp2
    go_ret2
    exact ⟨rfl, rfl⟩
  · have h1 : ¬ z < 1 := by omega
    have h2 : z > 8 := h
    go_enter Tryd.func9, Tryd.ntmps9
    go_wp2
    go_ret2
    exact ⟨rfl, rfl⟩

set_option maxRecDepth 100000 in
set_option maxHeartbeats 1000000 in
theorem refPut_any (a k : Nat) (w : World) (ha : a ≤ 18446744073709551615) (h1 : 1 ≤ k) (h8 : k ≤ 8) :
    Calls Tryd.prog 9 #[.int .u64 (a : Int), .int .i64 (k : Int)] w fun e w' => e = .returned (if a < 256 ^ k then .tuple #[.string ⟨(be a k).toArray⟩, .int .i64 0] else .tuple #[.string ⟨#[]⟩, .int .i64 1]) ∧ Below w.heap.size w w' := by
  have k1 : ¬ (k : Int) < 1 := by omega
  have k8 : ¬ (k : Int) > 8 := by omega
  have B0 := Lib.hid (Below.refl w.heap.size w)
  go_enter Tryd.func9, Tryd.ntmps9
  go_wp2
  go_loopw [0, 6, 7] (fun n s i wr => ∃ j : Nat, j ≤ k ∧ i = .int .i64 (j : Int) ∧ n = .int .u64 ((a / 256 ^ j : Nat) : Int) ∧ s = .string ⟨(be a j).toArray⟩ ∧ Below w.heap.size w wr) (fun _ _ i _ => k - (intOf i).toNat)
  case atStart => exact ⟨0, Nat.zero_le _, rfl, by simp, rfl, B0.out⟩
  case round =>
    obtain ⟨j, hj, rfl, rfl, rfl, hbel⟩ := hrel
    have HBEL := Lib.hid hbel
    clear hbel B0
    by_cases hlt : j < k
    · have hlt' : (j : Int) < k := by omega
      have x2 := IntWalk.i64_in ((j : Int) + 1) (by omega)
      have hq : a / 256 ^ j ≤ 18446744073709551615 := Nat.le_trans (Nat.div_le_self _ _) ha
      have hbe : be a (j + 1) = nb a j :: be a j := rfl
      have hnb := nb_eq a j
      have hdiv : a / 256 ^ (j + 1) = a / 256 ^ j / 256 := by rw [Nat.pow_succ, Nat.div_div_eq_div_mul]
      generalize a / 256 ^ j = q at *
      have hcast : (q : Int) % 256 = ((nb a j).toNat : Int) := by omega
      have HBE := Lib.hid hbe
      have HDIV := Lib.hid hdiv
      clear hnb hbe hdiv
      generalize nb a j = c at *
      have ht := told_str (Src.one wr c)
      have hlen : ¬ 9223372036854775807 < 1 + (be a j).length := by rw [be_length]; omega
      have B2 := Lib.hid (HBEL.out.alloc HBEL.out.size (.cells #[.int .u8 (c.toNat : Int)] 5))
      go_wp2
      go_roundw
      case rel =>
        refine ⟨j + 1, by omega, by simp, ?_, ?_, B2.out⟩
        · rw [HDIV.out]; simp
        · rw [HBE.out, ByteArray.mk_append_mk]; simp
      case measure => simp [intOf]; omega
    · have hge : ¬ (j : Int) < k := by omega
      have hjk : j = k := by omega
      subst hjk
      by_cases hf : a < 256 ^ j
      · have HF := Lib.hid hf
        have hq := Nat.div_eq_of_lt hf
        generalize a / 256 ^ j = q at *
        subst hq
        clear hf
        go_wp2
        go_ret2
        all_goals first | exact ⟨rfl, HBEL.out⟩ | (have := HF.out; contradiction)
      · have HF := Lib.hid hf
        have hq : 0 < a / 256 ^ j := Nat.div_pos (by omega) (Nat.pow_pos (by decide))
        generalize a / 256 ^ j = q at *
        have hq' : (q : Int) > 0 := by omega
        clear hf
        go_wp2
        go_ret2
        all_goals first | exact ⟨rfl, HBEL.out⟩ | (have := HF.out; contradiction)
end Go.Proofs.YtflbckeebmlofaaDoor
