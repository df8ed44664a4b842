/- Package octet's numbers in bytes, and its reader: what its functions do. Conditions: those that each states. -/
import Derived.Test.YtahmdogpnojcpaaApp
import Derived.Lib.SliceRun
import Derived.Laws.BitsAllLaws
namespace Go.Proofs.Ytahmdogpnojcpaa
open Go.ChangeShapes Go.WideShapes Go.ChangeAt Go.RowKit Go.Deep

/-- Byte number k of n. -/
def nb (n k : Nat) : UInt8 := UInt8.ofNat (n / 256 ^ k % 256)
theorem nb_eq (n k : Nat) : (nb n k).toNat = n / 256 ^ k % 256 := by simp [nb, UInt8.toNat_ofNat']
theorem nb_lt (n k : Nat) : (nb n k).toNat < 256 := UInt8.toNat_lt _
/-- n in k bytes, the highest first. -/
def be (n : Nat) : Nat → List UInt8
  | 0 => []
  | k + 1 => nb n k :: be n k
theorem be_length (n : Nat) : ∀ k, (be n k).length = k
  | 0 => rfl
  | k + 1 => by simp [be, be_length n k]

/-- 'n<<8 | v'. -/
theorem or256 (n v : Nat) (hv : v < 256) (hn : n * 256 + v < 18446744073709551616) : bits .or .u64 ((n : Int) * 256) (v : Int) = ((n * 256 + v : Nat) : Int) := by
  have h5 : ((n * 256 : Nat) : Int) = (n : Int) * 256 := Int.natCast_mul n 256
  have h1 : n * 256 < 18446744073709551616 := Nat.lt_of_le_of_lt (Nat.le_add_right _ v) hn
  have h2 : v < 18446744073709551616 := Nat.lt_of_lt_of_le hv (by decide)
  have e := Nat.two_pow_add_eq_or_of_lt (i := 8) (b := v) (by simpa using hv) n
  have h3 := u64_or_nat (n * 256) v h1 h2
  have h4 : n * 256 ||| v = n * 256 + v := by rw [Nat.mul_comm n 256]; exact e.symm
  rw [h4] at h3
  rw [h5] at h3
  exact h3
theorem fits_any (n k : Nat) (hn : n ≤ 18446744073709551615) (h1 : 1 ≤ k) (h8 : k ≤ 8) (w : World) :
    Calls Try.prog 38 #[.int .u64 (n : Int), .int .i64 (k : Int)] w fun e w' => e = .returned (.bool (decide (n < 256 ^ k))) ∧ w' = w := by
  obtain rfl | rfl | rfl | rfl | rfl | rfl | rfl | rfl : k = 1 ∨ k = 2 ∨ k = 3 ∨ k = 4 ∨ k = 5 ∨ k = 6 ∨ k = 7 ∨ k = 8 := by omega
  all_goals
    go_enter Try.func38, Try.ntmps38
    go_wp2
    go_ret
    refine ⟨congrArg (fun b => Ending.returned (Value.bool b)) ?_, rfl⟩
    rw [Bool.eq_iff_iff]
    simp only [beq_iff_eq, decide_eq_true_eq, Nat.reducePow]
    omega
theorem byteAt_any (n k : Nat) (hn : n ≤ 18446744073709551615) (h8 : k < 8) (w : World) :
    Calls Try.prog 39 #[.int .u64 (n : Int), .int .i64 (k : Int)] w fun e w' => e = .returned (.int .u8 ((nb n k).toNat : Int)) ∧ w' = w := by
  have e := nb_eq n k
  rw [e]
  obtain rfl | rfl | rfl | rfl | rfl | rfl | rfl | rfl : k = 0 ∨ k = 1 ∨ k = 2 ∨ k = 3 ∨ k = 4 ∨ k = 5 ∨ k = 6 ∨ k = 7 := by omega
  all_goals
    go_enter Try.func39, Try.ntmps39
    go_wp2
    go_ret
    refine ⟨congrArg (fun b => Ending.returned (Value.int .u8 b)) ?_, rfl⟩
    simp only [Nat.reducePow]
    omega

set_option maxRecDepth 100000 in
set_option maxHeartbeats 2000000 in
theorem clone_any (A : Option Addr) (n c : Nat) (l : List UInt8) (w : World) (hb : Src w A n c l) (hn : n ≤ 1000000) :
    Calls Try.prog 36 #[.slice A n c] w fun e w' => ∃ A' c', e = .returned (.slice A' n c') ∧ Src w' A' n c' l ∧ (∀ b o, A' = some ⟨b, o, none⟩ → w.heap.size ≤ b) ∧ Below w.heap.size w w' := by
  have he : ∀ W, (binOp .eql 27 (.slice A n c) (.slice none 0 0)).run Try.prog W = .ok (.bool A.isNone) W := fun W => Lib.run_eql_slice_nil W 27 5 A n c 0 0 Try.underlying27
  cases A with
  | none =>
    have hc := hb.none_ rfl
    have hm : n = 0 := by have := hb.cap; omega
    subst hc hm
    have hl := List.length_eq_zero_iff.1 hb.len
    subst hl
    have he := fun W => (he W).trans (congrArg (fun b => Result.ok (Value.bool b) W) (show (none : Option Addr).isNone = true from rfl))
    go_enter Try.func36, Try.ntmps36
    go_wp2
    go_ret
    exact ⟨none, 0, rfl, hb, fun _ _ e => by (cases e), Below.refl _ _⟩
  | some ad =>
    have he := fun W => (he W).trans (congrArg (fun b => Result.ok (Value.bool b) W) (show (some ad).isNone = false from rfl))
    have hown := World.ownsRow_lit (base := w.heap.size) (e := 5) (size := 1) w #[] 0 (Nat.le_refl _) (by decide) rfl
    have HB := Lib.hid hb
    clear hb
    go_enter Try.func36, Try.ntmps36
    go_wp2_with (at_builtin; refine Hid.out ?_)
    unfold Hid
    refine wpList_append_src rfl _ _ rfl w.heap.size _ 0 [] rfl hown (some ad) n c l rfl (HB.out.alloc _) (by omega) (by simp) ?_
    intro v' w' h1 h2
    rw [Nat.zero_add] at h1
    have b2 := (Below.refl w.heap.size w).alloc (Nat.le_refl _) (.cells #[] 5) |>.trans h2
    obtain ⟨A', c', rfl, hs, hbs⟩ := src_of_own h1
    clear h1 h2 hown he
    go_wp2
    go_ret
    exact ⟨A', c', rfl, hs, hbs, b2⟩

set_option maxRecDepth 100000 in
set_option maxHeartbeats 2000000 in
/-- Put, where the number has so many bytes. -/
theorem put_ok (A : Option Addr) (n c : Nat) (l : List UInt8) (a k : Nat) (w : World) (hb : Src w A n c l) (hn : n ≤ 1000000) (ha : a ≤ 18446744073709551615) (h1 : 1 ≤ k) (h8 : k ≤ 8) (hf : a < 256 ^ k) :
    Calls Try.prog 35 #[.slice A n c, .int .u64 (a : Int), .int .i64 (k : Int)] w fun e w' => ∃ g c', e = .returned (.tuple #[.slice (some ⟨g, 0, none⟩) (n + k) c', .int .i64 0]) ∧ OwnB w' w.heap.size g (n + k) c' (l ++ be a k) ∧ Below w.heap.size w w' := by
  have k1 : ¬ (k : Int) < 1 := by omega
  have k8 : ¬ (k : Int) > 8 := by omega
  have x0 := IntWalk.i64_in ((n : Int) + k) (by omega)
  have x1 := IntWalk.i64_in ((k : Int) - 1) (by omega)
  have hd : decide (a < 256 ^ k) = true := by simpa using hf
  go_enter Try.func35, Try.ntmps35
  go_wp2_with fail
  refine (fits_any a k ha h1 h8 _).mono ?_; rintro e w' ⟨rfl, rfl⟩
  rw [hd]
  have hmk := fun W => make_bytes (n + k) (by omega) W
  have hcast : ((n + k : Nat) : Int) = (n : Int) + k := by omega
  rw [hcast] at hmk
  have hown := World.ownsRow_made (base := w'.heap.size) (e := 5) (size := 1) w' (madeCells #[.int .u8 0] (n + k)) (n + k) (Nat.le_refl _) (by unfold maxLen; omega) (by rw [size_madeCells]; simp)
  have HB := Lib.hid hb
  clear hb
  go_wp2_with (at_builtin; refine Hid.out ?_)
  unfold Hid
  refine wpList_append_src rfl _ _ rfl w'.heap.size _ 0 [] rfl hown A n c l rfl (HB.out.alloc _) (by omega) (by simp) ?_
  intro v' w2 h1 h2
  rw [Nat.zero_add] at h1
  have b2 := (Below.refl w'.heap.size w').alloc (Nat.le_refl _) (.cells (madeCells #[.int .u8 0] (n + k)) 5) |>.trans h2
  clear h2 hown hmk HB
  have H1 := Lib.hid h1
  have B2 := Lib.hid b2
  clear h1 b2
  go_wp2
  go_loopw [8, 9] (fun v i wr => ∃ (j : Nat) (r : List UInt8) (z : Int), j ≤ k ∧ i = .int .i64 z ∧ z = (j : Int) - 1 ∧ wr.ownsRow w'.heap.size 5 1 v (n + (k - j)) (bys r) ∧ r ++ be a j = l ++ be a k ∧ Below w'.heap.size w' wr) (fun _ i _ => (intOf i + 1).toNat)
  case atStart =>
    refine ⟨k, l, (k : Int) - 1, Nat.le_refl _, rfl, rfl, ?_, rfl, B2.out⟩
    rw [Nat.sub_self, Nat.add_zero]
    exact H1.out
  case round =>
    obtain ⟨j, r, z, hj, rfl, hz, ho, hr, hbel⟩ := hrel
    have HO := Lib.hid ho
    have HR := Lib.hid hr
    have HBEL := Lib.hid hbel
    clear ho hr hbel H1 B2
    cases j with
    | zero =>
      have hz0 : z < 0 := by omega
      clear hz
      obtain ⟨g, c2, rfl, O⟩ := OwnB.of HO.out (by omega)
      have O := Lib.hid O
      go_wp2
      go_ret2
      refine ⟨g, c2, ?_, ?_, HBEL.out⟩
      · simp
      · have hr := HR.out
        simp only [be, List.append_nil] at hr
        rw [← hr]
        exact O.out
    | succ q =>
      obtain rfl : z = (q : Int) := by omega
      clear hz
      have x2 := IntWalk.i64_in ((q : Int) - 1) (by omega)
      have q0 : (0 : Int) ≤ (q : Int) := by omega
      go_wp2_with fail
      refine (byteAt_any a q ha (by omega) _).mono ?_; rintro e wq ⟨rfl, rfl⟩
      have hsz := HBEL.out.size
      have hs1 := Lib.hid (Src.one wq (nb a q))
      have ho1 := Lib.hid (HO.out.alloc (.cells #[.int .u8 ((nb a q).toNat : Int)] 5))
      generalize hcc : nb a q = cc at *
      have HCC := Lib.hid hcc
      clear hcc HO
      go_wp2_with (at_builtin; refine Hid.out ?_)
      unfold Hid
      refine wpList_append_src rfl _ _ rfl w'.heap.size _ (n + (k - (q + 1))) r rfl ho1.out _ 1 1 [cc] rfl hs1.out (by omega) (by simp; omega) ?_
      intro v3 w3 h31 h32
      have b3 := Lib.hid ((HBEL.out.alloc hsz (.cells #[.int .u8 (cc.toNat : Int)] 5)).trans h32)
      have h31 := Lib.hid h31
      clear h32 hs1 ho1 HBEL
      go_wp2
      go_roundw
      case rel =>
        refine ⟨q, r ++ [cc], (q : Int) - 1, by omega, rfl, rfl, ?_, ?_, b3.out⟩
        · have e : n + (k - (q + 1)) + 1 = n + (k - q) := by omega
          rw [← e]; exact h31.out
        · rw [← HR.out, ← HCC.out]; simp [be]
      case measure => simp [intOf]

/-- Put, where the width is none or the number has more bytes. -/
theorem put_wide (A : Option Addr) (n c : Nat) (a : Nat) (z : Int) (w : World) (hz : z < 1 ∨ 8 < z) :
    Calls Try.prog 35 #[.slice A n c, .int .u64 (a : Int), .int .i64 z] w fun e w' => e = .returned (.tuple #[.slice none 0 0, .int .i64 1]) ∧ w' = w := by
  rcases hz with h | h
  · go_enter Try.func35, Try.ntmps35
    go_wp2
    go_ret2
    exact ⟨rfl, rfl⟩
  · have h1 : ¬ z < 1 := by omega
    have h2 : z > 8 := h
    go_enter Try.func35, Try.ntmps35
    go_wp2
    go_ret2
    exact ⟨rfl, rfl⟩
theorem put_big (A : Option Addr) (n c : Nat) (a k : Nat) (w : World) (ha : a ≤ 18446744073709551615) (h1 : 1 ≤ k) (h8 : k ≤ 8) (hf : ¬ a < 256 ^ k) :
    Calls Try.prog 35 #[.slice A n c, .int .u64 (a : Int), .int .i64 (k : Int)] w fun e w' => e = .returned (.tuple #[.slice none 0 0, .int .i64 1]) ∧ w' = w := by
  have k1 : ¬ (k : Int) < 1 := by omega
  have k8 : ¬ (k : Int) > 8 := by omega
  have hd : decide (a < 256 ^ k) = false := by simpa using hf
  go_enter Try.func35, Try.ntmps35
  go_wp2_with fail
  refine (fits_any a k ha h1 h8 _).mono ?_; rintro e w' ⟨rfl, rfl⟩
  rw [hd]
  go_wp2
  go_ret2
  exact ⟨rfl, rfl⟩
end Go.Proofs.Ytahmdogpnojcpaa
