/- Whatever numbers come in, 'pantlerlaw23.LexDigits' returns true and leaves them as they were. No condition. -/
import Derived.Test.YtfkfnmoilagahaaLxS
import Derived.Deep.CutBlock
namespace Go.Proofs.Ytfkfnmoilagahaa.lexDigits
open Go.ChangeShapes Go.WideShapes Go.ChangeAt Go.RowKit Lx
set_option linter.unusedVariables false


theorem str_add (a b : List UInt8) : ((⟨a.toArray⟩ : ByteArray) ++ (⟨b.toArray⟩ : ByteArray)) = ⟨(a ++ b).toArray⟩ := by
  apply ByteArray.ext
  simp
theorem valN_from (l : List UInt8) : ∀ a : Nat, l.foldl (fun n c => n * 10 + (c.toNat - 48)) a = a * 10 ^ l.length + valN l := by
  induction l with
  | nil => intro a; simp [valN]
  | cons c l ih =>
    intro a
    have h1 := ih (a * 10 + (c.toNat - 48))
    have h2 := ih (0 * 10 + (c.toNat - 48))
    show l.foldl _ (a * 10 + (c.toNat - 48)) = _
    have h3 : valN (c :: l) = l.foldl (fun n c => n * 10 + (c.toNat - 48)) (0 * 10 + (c.toNat - 48)) := rfl
    rw [h1, h3, h2, List.length_cons, Nat.pow_succ, Nat.add_mul, Nat.zero_mul, Nat.zero_add, Nat.add_assoc]
    congr 1
    rw [Nat.mul_assoc, Nat.mul_comm 10]
theorem valN_cons (c : UInt8) (l : List UInt8) : valN (c :: l) = (c.toNat - 48) * 10 ^ l.length + valN l := by
  have := valN_from l (0 * 10 + (c.toNat - 48))
  have h3 : valN (c :: l) = l.foldl (fun n c => n * 10 + (c.toNat - 48)) (0 * 10 + (c.toNat - 48)) := rfl
  rw [h3, this]
  simp
theorem valN_zero (l : List UInt8) : valN (48 :: l) = valN l := by rw [valN_cons]; simp
/-- The digits that are laid ahead. -/
structure Laid (n k : Nat) (l : List UInt8) : Prop where
  sum : n = k * 10 ^ l.length + valN l
  dig : l.all (kB 8) = true
  len : l.length + k ≤ n
theorem dig_of (d : Nat) (h : d < 10) : kB 8 (UInt8.ofNat (48 + d)) = true ∧ (UInt8.ofNat (48 + d)).toNat = 48 + d := by
  have : ∀ i : Fin 10, kB 8 (UInt8.ofNat (48 + i.1)) = true ∧ (UInt8.ofNat (48 + i.1)).toNat = 48 + i.1 := by decide +kernel
  exact this ⟨d, h⟩
theorem Laid.step {n k : Nat} {l : List UInt8} (h : Laid n k l) (hk : 10 ≤ k) : Laid n (k / 10) (UInt8.ofNat (48 + k % 10) :: l) := by
  obtain ⟨h1, h2⟩ := dig_of (k % 10) (Nat.mod_lt _ (by decide))
  refine ⟨?_, ?_, ?_⟩
  · rw [valN_cons, h2, List.length_cons, Nat.pow_succ, show 48 + k % 10 - 48 = k % 10 by omega, ← Nat.add_assoc]
    rw [show k / 10 * (10 ^ l.length * 10) + k % 10 * 10 ^ l.length = (k / 10 * 10 + k % 10) * 10 ^ l.length by rw [Nat.add_mul, Nat.mul_assoc, Nat.mul_comm 10]]
    rw [show k / 10 * 10 + k % 10 = k by omega]
    exact h.sum
  · rw [List.all_cons, h1, h.dig]; rfl
  · have := h.len; rw [List.length_cons]; omega
theorem Laid.last {n k : Nat} {l : List UInt8} (h : Laid n k l) (hk : k < 10) : valN (UInt8.ofNat (48 + k % 10) :: l) = n ∧ (UInt8.ofNat (48 + k % 10) :: l).all (kB 8) = true ∧ (UInt8.ofNat (48 + k % 10) :: l).length ≤ n + 1 := by
  obtain ⟨h1, h2⟩ := dig_of (k % 10) (Nat.mod_lt _ (by decide))
  refine ⟨?_, ?_, ?_⟩
  · rw [valN_cons, h2, show 48 + k % 10 - 48 = k by omega]
    exact h.sum.symm
  · rw [List.all_cons, h1, h.dig]; rfl
  · have := h.len; rw [List.length_cons]; omega
/-- What is wanted of the text at the end. -/
def Done (n : Nat) (l : List UInt8) : Prop := valN l = n ∧ l.all (kB 8) = true ∧ l.isEmpty = false
theorem Done.num {n : Nat} {l : List UInt8} (h : Done n l) (most : Nat) : numT l (most : Int) = if n ≤ most then .tuple #[.int .i64 (n : Int), .bool true] else .tuple #[.int .i64 0, .bool false] := by
  obtain ⟨h1, h2, h3⟩ := h
  have e : okN l (most : Int) = decide (n ≤ most) := by
    unfold okN
    rw [h1, h2, h3]
    simp
  by_cases hn : n ≤ most
  · rw [if_pos hn, numT_yes (by rw [e]; simpa using hn), h1]
  · rw [if_neg hn, numT_no (by rw [e]; simpa using hn)]
theorem told_one (w : World) (d : UInt8) : (convert 29 9 (.slice (some ⟨w.heap.size, 0, none⟩) 1 1)).run Try.prog (w.alloc (.cells #[.int .u8 (d.toNat : Int)] 5)) = .ok (.string ⟨[d].toArray⟩) (w.alloc (.cells #[.int .u8 (d.toNat : Int)] 5)) := Di.told_str (Src.one w d)

set_option maxRecDepth 100000 in
set_option maxHeartbeats 4000000 in
theorem walk (w : World) (n0 : Int) (wn : (Lit.int .u32 n0).wf = true) (z0 : Int) (wz : (Lit.int .u8 z0).wf = true) (m0 : Int) (wm : (Lit.int .u32 m0).wf = true) :
    Calls Try.prog 4 #[.int .u32 n0, .int .u8 z0, .int .u32 m0] w fun e w' => e = .returned (.bool true) ∧ Below w.heap.size w w' := by
  obtain ⟨n, rfl, hn⟩ := wf_u32 wn
  obtain ⟨z, rfl, hz⟩ := wf_u8 wz
  obtain ⟨most, rfl, hm⟩ := wf_u32 wm
  have AL := Lib.hid (alive_any w)
  clear wn wz wm
  go_enter Try.func4, Try.ntmps4
  go_wp2_with fail
  refine AL.out.mono ?_; rintro e wa ⟨rfl, b1⟩
  have B1 := Lib.hid b1
  clear b1 AL
  go_upto_block 2 with fail
  go_loopw [7, 8] (fun s k wr => ∃ (l : List UInt8) (kk : Nat), s = .string ⟨l.toArray⟩ ∧ k = .int .u32 (kk : Int) ∧ Hid (Laid n kk l) ∧ Hid (Below w.heap.size w wr)) (fun _ k _ => (intOf k).toNat)
  case atStart => exact ⟨[], n, rfl, rfl, Lib.hid ⟨by simp [valN], rfl, by simp⟩, B1⟩
  case round =>
    obtain ⟨l, kk, rfl, rfl, HL, HB⟩ := hrel
    have hlen := HL.out.len
    obtain ⟨r, hr⟩ : ∃ r : Nat, r = kk % 10 := ⟨_, rfl⟩
    have hr10 : r < 10 := by omega
    have tm : (kk : Int).tmod 10 = (r : Int) := by rw [Int.tmod_eq_emod_of_nonneg (by omega)]; omega
    obtain ⟨d, hd⟩ : ∃ d, d = UInt8.ofNat (48 + r) := ⟨_, rfl⟩
    have hdn : d.toNat = 48 + r := by rw [hd]; exact (dig_of r hr10).2
    have x1 : IntKind.u32.wrap (r : Int) = (r : Int) := by simp [IntKind.wrap, IntKind.bits, IntKind.signed]; omega
    have x2 : IntKind.u32.wrap (48 + (r : Int)) = (d.toNat : Int) := by simp [IntKind.wrap, IntKind.bits, IntKind.signed]; omega
    have x3 : IntKind.u8.wrap (d.toNat : Int) = (d.toNat : Int) := by rw [IntKind.wrap_u8']; have := d.toNat_lt; omega
    clear hdn
    have TO := told_one wr d
    have BA := Lib.hid (HB.out.alloc HB.out.size (.cells #[.int .u8 (d.toNat : Int)] 5))
    have y1 : ¬ 9223372036854775807 < 1 + l.length := by omega
    have SA := Lib.hid (str_add [d] l)
    by_cases hk : kk < 10
    · have g1 : (kk : Int) < 10 := by omega
      have LA := Lib.hid (HL.out.last hk)
      rw [← hr, ← hd] at LA
      clear hr hd HL hlen
      go_upto_region 6 with fail
      go_wp2
      rw [show (⟨#[d]⟩ : ByteArray) ++ ⟨l.toArray⟩ = ⟨(d :: l).toArray⟩ from SA.out]
      have DN := Lib.hid (show Done n (d :: l) from ⟨LA.out.1, LA.out.2.1, rfl⟩)
      have LE := Lib.hid LA.out.2.2
      generalize d :: l = l0 at *
      generalize wr.alloc (.cells #[.int .u8 (d.toNat : Int)] 5) = wb at *
      clear LA SA
      obtain ⟨q, hq⟩ : ∃ q : Nat, q = z % 40 := ⟨_, rfl⟩
      have tz : (z : Int).tmod 40 = (q : Int) := by rw [Int.tmod_eq_emod_of_nonneg (by omega)]; omega
      have q40 : q < 40 := by omega
      have xq := IntWalk.i64_in (q : Int) (by omega)
      have xz := IntWalk.i64_in (z : Int) (by omega)
      clear hq
      go_loop [7, 9] (fun s i => ∃ (m : List UInt8) (j : Nat), s = .string ⟨m.toArray⟩ ∧ i = .int .i64 (j : Int) ∧ j ≤ q ∧ Hid (Done n m ∧ m.length ≤ n + 1 + j)) (fun _ i => 40 - (intOf i).toNat)
      case atStart => exact ⟨l0, 0, rfl, rfl, Nat.zero_le _, Lib.hid ⟨DN.out, LE.out⟩⟩
      case round =>
        obtain ⟨m, j, rfl, rfl, hj, HM⟩ := hrel
        have ml := HM.out.2
        have hsm : (⟨m.toArray⟩ : ByteArray).size = m.length := rfl
        by_cases hlt : j < q
        · have hlt' : (j : Int) < (q : Int) := by omega
          have xj := IntWalk.i64_in ((j : Int) + 1) (by omega)
          have y2 : ¬ 9223372036854775807 < 1 + m.length := by omega
          have SB := Lib.hid (str_add [48] m)
          have S := Lib.hid (show Done n (48 :: m) ∧ (48 :: m).length ≤ n + 1 + (j + 1) from ⟨⟨by rw [valN_zero]; exact HM.out.1.1, by
            rw [List.all_cons, HM.out.1.2.1]; decide +kernel, rfl⟩, by rw [List.length_cons]; omega⟩)
          clear ml HM
          go_wp2
          go_round
          case rel => exact ⟨48 :: m, j + 1, by rw [← show (⟨#[48]⟩ : ByteArray) ++ ⟨m.toArray⟩ = ⟨(48 :: m).toArray⟩ from SB.out], by simp, by omega, S⟩
          case measure => simp [intOf]; omega
        · have hge : ¬ (j : Int) < (q : Int) := by omega
          have NU := number_any m (most : Int) (by omega) (by omega) wb
          rw [HM.out.1.num most] at NU
          have xm : IntKind.i64.wrap (most : Int) = (most : Int) := IntWalk.i64_in _ (by omega)
          have xn : IntKind.i64.wrap (n : Int) = (n : Int) := IntWalk.i64_in _ (by omega)
          by_cases hnm : n ≤ most
          · have g3 : ¬ (n : Int) > (most : Int) := by omega
            rw [if_pos hnm] at NU
            have NU := Lib.hid NU
            have en : ((n : Int) == (n : Int)) = true := by simp
            clear ml HM
            go_wp2_with fail
            refine NU.out.mono ?_; rintro e wc ⟨rfl, h⟩
            have B3 := Lib.hid (BA.out.trans (h.mono BA.out.size))
            clear h
            go_wp2
            go_ret
            exact ⟨rfl, B3.out⟩
          · have g3 : (n : Int) > (most : Int) := by omega
            rw [if_neg hnm] at NU
            have NU := Lib.hid NU
            clear ml HM
            go_wp2_with fail
            refine NU.out.mono ?_; rintro e wc ⟨rfl, h⟩
            have B3 := Lib.hid (BA.out.trans (h.mono BA.out.size))
            clear h
            go_wp2
            go_ret
            exact ⟨rfl, B3.out⟩
    · have g1 : ¬ (kk : Int) < 10 := by omega
      have LA := Lib.hid (HL.out.step (by omega))
      rw [← hr, ← hd] at LA
      have tq : (kk : Int).tdiv 10 = ((kk / 10 : Nat) : Int) := by rw [Int.tdiv_eq_ediv_of_nonneg (by omega)]; omega
      obtain ⟨q, hq⟩ : ∃ q, q = kk / 10 := ⟨_, rfl⟩
      rw [← hq] at tq LA
      have x4 : IntKind.u32.wrap (q : Int) = (q : Int) := by simp [IntKind.wrap, IntKind.bits, IntKind.signed]; omega
      have qk : q < kk := by omega
      clear hr hd HL hlen hq
      go_wp2
      go_roundw
      case rel => exact ⟨d :: l, q, by rw [← show (⟨[d].toArray⟩ : ByteArray) ++ ⟨l.toArray⟩ = ⟨(d :: l).toArray⟩ from SA.out], rfl, LA, BA⟩
      case measure => simp [intOf]; omega

set_option maxRecDepth 100000 in
theorem lifted (os : Os) (started : os.Started) (H : Type) (enc : TypeId × Value → H) :
    ReturnsInHanded {} Try.checked os 4 .any (Rows.lexDigitsSpec.pre6 enc Try.prog Try.f4 Rows.lexDigitsRow.domain false) (Rows.lexDigitsSpec.post enc Try.prog Try.f4 false true false false) := by
  refine returnsInHanded_of_change (C := Try.checked) own started (by kernel_rfl) Try.func4
    (ChangeSpec.witness6 (enc := enc) (C := Try.checked) false ⟨#[], #[.int .u32 0, .int .u8 0, .int .u32 0], []⟩ 8 (by kernel_rfl) (by kernel_rfl) (by kernel_rfl) (by kernel_rfl)) ?_
  intro W base args ds gs before hval0 hW hcnd _
  have hval : ∀ (j : Nat) t v, Try.f4.params[j]? = some t → args[j]? = some v → Value.okWide Try.prog W .any base t v := hval0
  have hW' := hW
  obtain ⟨p, q, hA0, hV, rfl, hfz, hnd⟩ := hW
  have hA : DataW.TrodAll enc Try.prog W 0 (fun _ => true) true Try.f4.params.toList args.toList ds p := hA0
  rw [Try.params4] at hA hval
  obtain ⟨v0, vs0, d0, ds0, p0, q0, hargs, rfl, rfl, h0, r0⟩ := trodAll_cons hA
  obtain ⟨v1, vs1, d1, ds1, p1, q1, rfl, rfl, rfl, h1, r1⟩ := trodAll_cons r0
  obtain ⟨v2, vs2, d2, ds2, p2, q2, rfl, rfl, rfl, h2, r2⟩ := trodAll_cons r1
  obtain ⟨rfl, rfl, rfl⟩ := trodAll_nil r2
  obtain rfl : args = #[v0, v1, v2] := by cases args; simp_all
  obtain ⟨a0, rfl, _, _, w0⟩ := open_int Try.underlying28 (hval 0 28 v0 rfl rfl) h0
  obtain ⟨a1, rfl, _, _, w1⟩ := open_int Try.underlying5 (hval 1 5 v1 rfl rfl) h1
  obtain ⟨a2, rfl, _, _, w2⟩ := open_int Try.underlying28 (hval 2 28 v2 rfl rfl) h2
  clear hA0 hval0
  exact law_close hW' laidOut (by kernel_rfl) rfl Try.underlying4 rfl ⟨rfl, rfl, rfl⟩ (walk W a0 w0 a1 w1 a2 w2)

theorem over : Rows.lexDigitsRow.holds Try.pinned (OpenSpec.ofChange Rows.lexDigitsSpec) :=
  OpenClaim.holds_of_wide 4 Try.f4 rfl rfl rfl rfl rfl rfl rfl ⟨rfl, rfl, rfl, rfl, rfl⟩ rfl rfl rfl rfl rfl (by kernel_rfl) Try.func4 (by kernel_rfl)
    (of_decide_eq_true (by kernel_rfl)) (by unfold Func.isWrapper; first | (rw [if_pos (by decide +kernel)]; kernel_rfl) | (rw [if_neg (by decide +kernel)]; exact ⟨rfl, rfl⟩))
    (fun os started H enc _ => lifted os started H enc)

theorem proved : Rows.LexDigitsSaid := over

end Go.Proofs.Ytfkfnmoilagahaa.lexDigits
