/- A byte turned. Conditions: those that each states. -/
import Derived.Test.YtpnfmohejcdgfaaGz
namespace Go.Proofs.Ytpnfmohejcdgfaa.Ip
open Go.ChangeShapes Go.WideShapes Go.ChangeAt Go.RowKit Go.Deep
theorem xor8 (x : UInt8) (u : Nat) (hu : u ≤ 255) : bits .xor .u8 (x.toNat : Int) (u : Int) = ((x ^^^ UInt8.ofNat u).toNat : Int) := by
  show IntKind.u8.wrap ((BitVec.ofInt 8 (x.toNat : Int) ^^^ BitVec.ofInt 8 (u : Int)).toNat : Int) = _
  have hx := x.toNat_lt
  rw [BitVec.ofInt_natCast, BitVec.ofInt_natCast, BitVec.toNat_xor, BitVec.toNat_ofNat, BitVec.toNat_ofNat, IntKind.wrap_u8, UInt8.toNat_xor, UInt8.toNat_ofNat']
  have h1 : x.toNat % 2 ^ 8 = x.toNat := Nat.mod_eq_of_lt hx
  have h2 : u % 2 ^ 8 = u := Nat.mod_eq_of_lt (by omega)
  rw [h1, h2]
  have h3 : x.toNat ^^^ u < 2 ^ 8 := Nat.xor_lt_two_pow hx (by omega)
  omega
theorem xor_ne (x : UInt8) (u : Nat) (h0 : u ≠ 0) (hu : u ≤ 255) : x ^^^ UInt8.ofNat u ≠ x := by
  intro h
  have h1 : UInt8.ofNat u = 0 := by
    have := congrArg (x ^^^ ·) h
    simpa [← UInt8.xor_assoc] using this
  have h2 := congrArg UInt8.toNat h1
  rw [UInt8.toNat_ofNat'] at h2
  have h3 : u % 2 ^ 8 = u := Nat.mod_eq_of_lt (by omega)
  rw [h3] at h2
  exact h0 (by simpa using h2)
end Go.Proofs.Ytpnfmohejcdgfaa.Ip
