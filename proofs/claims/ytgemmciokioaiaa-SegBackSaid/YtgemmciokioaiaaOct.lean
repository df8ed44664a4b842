/- Package octet's numbers in bytes, and its reader: what its functions do. Conditions: those that each states. -/
import Derived.Test.YtgemmciokioaiaaApp
import Derived.Lib.SliceRun
import Derived.Laws.BitsAllLaws
namespace Go.Proofs.Ytgemmciokioaiaa
open Go.ChangeShapes Go.WideShapes Go.ChangeAt Go.RowKit Go.Deep

/-- Byte number k of n. -/
def nb (n k : Nat) : UInt8 := UInt8.ofNat (n / 256 ^ k % 256)
theorem nb_eq (n k : Nat) : (nb n k).toNat = n / 256 ^ k % 256 := by simp [nb, UInt8.toNat_ofNat']
theorem nb_lt (n k : Nat) : (nb n k).toNat < 256 := UInt8.toNat_lt _
/-- n in k bytes, the highest first. -/
def be (n : Nat) : Nat → List UInt8
  | 0 => []
  | k + 1 => nb n k :: be n k
theorem be_length (n : Nat) : ∀ k, (be n k).length = k
  | 0 => rfl
  | k + 1 => by simp [be, be_length n k]

/-- 'n<<8 | v'. -/
theorem or256 (n v : Nat) (hv : v < 256) (hn : n * 256 + v < 18446744073709551616) : bits .or .u64 ((n : Int) * 256) (v : Int) = ((n * 256 + v : Nat) : Int) := by
  have h5 : ((n * 256 : Nat) : Int) = (n : Int) * 256 := Int.natCast_mul n 256
  have h1 : n * 256 < 18446744073709551616 := Nat.lt_of_le_of_lt (Nat.le_add_right _ v) hn
  have h2 : v < 18446744073709551616 := Nat.lt_of_lt_of_le hv (by decide)
  have e := Nat.two_pow_add_eq_or_of_lt (i := 8) (b := v) (by simpa using hv) n
  have h3 := u64_or_nat (n * 256) v h1 h2
  have h4 : n * 256 ||| v = n * 256 + v := by rw [Nat.mul_comm n 256]; exact e.symm
  rw [h4] at h3
  rw [h5] at h3
  exact h3
set_option maxRecDepth 100000 in
set_option maxHeartbeats 2000000 in
theorem clone_any (A : Option Addr) (n c : Nat) (l : List UInt8) (w : World) (hb : Src w A n c l) (hn : n ≤ 1000000) :
    Calls Try.prog 42 #[.slice A n c] w fun e w' => ∃ A' c', e = .returned (.slice A' n c') ∧ Src w' A' n c' l ∧ (∀ b o, A' = some ⟨b, o, none⟩ → w.heap.size ≤ b) ∧ Below w.heap.size w w' := by
  have he : ∀ W, (binOp .eql 27 (.slice A n c) (.slice none 0 0)).run Try.prog W = .ok (.bool A.isNone) W := fun W => Lib.run_eql_slice_nil W 27 5 A n c 0 0 Try.underlying27
  cases A with
  | none =>
    have hc := hb.none_ rfl
    have hm : n = 0 := by have := hb.cap; omega
    subst hc hm
    have hl := List.length_eq_zero_iff.1 hb.len
    subst hl
    have he := fun W => (he W).trans (congrArg (fun b => Result.ok (Value.bool b) W) (show (none : Option Addr).isNone = true from rfl))
    go_enter Try.func42, Try.ntmps42
    go_wp2
    go_ret
    exact ⟨none, 0, rfl, hb, fun _ _ e => by (cases e), Below.refl _ _⟩
  | some ad =>
    have he := fun W => (he W).trans (congrArg (fun b => Result.ok (Value.bool b) W) (show (some ad).isNone = false from rfl))
    have hown := World.ownsRow_lit (base := w.heap.size) (e := 5) (size := 1) w #[] 0 (Nat.le_refl _) (by decide) rfl
    have HB := Lib.hid hb
    clear hb
    go_enter Try.func42, Try.ntmps42
    go_wp2_with (at_builtin; refine Hid.out ?_)
    unfold Hid
    refine wpList_append_src rfl _ _ rfl w.heap.size _ 0 [] rfl hown (some ad) n c l rfl (HB.out.alloc _) (by omega) (by simp) ?_
    intro v' w' h1 h2
    rw [Nat.zero_add] at h1
    have b2 := (Below.refl w.heap.size w).alloc (Nat.le_refl _) (.cells #[] 5) |>.trans h2
    obtain ⟨A', c', rfl, hs, hbs⟩ := src_of_own h1
    clear h1 h2 hown he
    go_wp2
    go_ret
    exact ⟨A', c', rfl, hs, hbs, b2⟩

end Go.Proofs.Ytgemmciokioaiaa
