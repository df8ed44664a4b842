/- Package octet's addresses: how IP and MAC tell them. Conditions: those that each states. -/
import Derived.Test.YtflbckeebmlofaaDoorOct
import Derived.Test.YtflbckeebmlofaaDoorBld
import Derived.Test.YtflbckeebmlofaaDoorVars
import Derived.Test.YtflbckeebmlofaaDoorSplit
import Derived.Lib.AppendIntMem
namespace Go.Proofs.YtflbckeebmlofaaDoor
open Go.ChangeShapes Go.WideShapes Go.ChangeAt Go.RowKit Go.Deep

theorem Bld.below {w w' : World} {B b : Nat} {l : List UInt8} (h : Bld w B b l) (hb : Below w.heap.size w w') : Bld w' B b l := by
  have k : ∀ p, Lib.BuilderAtF 67 5 B b p (Lib.byteCells l) w → Lib.BuilderAtF 67 5 B b p (Lib.byteCells l) w' := by
    rintro p ⟨hB, v, hbk, hown, hne⟩
    have hlt : b < w.heap.size := (Array.getElem?_eq_some_iff.1 hbk).1
    exact ⟨hB, v, (hb.block b hlt).trans hbk, hown.kept (grown_of_below hb none) (by cases hv : v.ownBlock <;> simp), hne⟩
  rcases h with h | h
  · exact .inl (k _ h)
  · exact .inr (k _ h)

/-- The last j numbers of an address of four bytes, with dots between. -/
def ipTail (a : Nat) : Nat → List UInt8
  | 0 => []
  | 1 => Lib.decDigits (nb a 0).toNat
  | j + 2 => Lib.decDigits (nb a (j + 1)).toNat ++ 46 :: ipTail a (j + 1)
def ipStr (a : Nat) : List UInt8 := ipTail a 4

theorem itoa_any (n : Nat) (hn : n < 1000) (w : World) (hv : Vars w) :
    Calls Tryd.prog 28 #[.int .i64 (n : Int)] w fun e w' => e = .returned (.string ⟨(Lib.decDigits n).toArray⟩) ∧ Below w.heap.size w w' := by
  refine (Tryd.strconv_Itoa (n : Int) (by omega) (by omega) w hv.tab).mono ?_
  rintro e w' ⟨rfl, k, os, rfl⟩
  refine ⟨?_, ?_⟩
  · have : Lib.itoa (n : Int) = Lib.decDigits n := by
      unfold Lib.itoa
      rw [if_neg (by omega)]
      simp
    rw [this]
  · exact Lib.below_grow _ w (Nat.le_refl _) k os

set_option maxRecDepth 100000 in
set_option maxHeartbeats 2000000 in
theorem ip_any (a : Nat) (ha : a ≤ 4294967295) (w : World) (hv : Vars w) :
    Calls Tryd.prog 19 #[.int .u32 (a : Int)] w fun e w' => e = .returned (.string ⟨(ipStr a).toArray⟩) ∧ Below w.heap.size w w' := by
  have hB := Lib.hid (Bld.fresh w)
  have b0 := Lib.hid ((Below.refl w.heap.size w).alloc (Nat.le_refl _) (.cells #[.pointer none, .slice none 0 0] 67))
  go_enter Tryd.func19, Tryd.ntmps19
  go_wp2
  go_loopw [4] (fun i wr => ∃ (j : Nat) (r : List UInt8) (z : Int), j ≤ 4 ∧ i = .int .i64 z ∧ z = (j : Int) - 1 ∧ Bld wr w.heap.size w.heap.size r ∧ r ++ ipTail a j = ipStr a ∧ r.length ≤ 4 * (4 - j) ∧ Below w.heap.size w wr) (fun i _ => (intOf i + 1).toNat)
  case atStart => exact ⟨4, [], 3, by omega, rfl, by omega, hB.out, rfl, by simp, b0.out⟩
  case round =>
    obtain ⟨j, r, z, hj, rfl, hz, hbl, hr, hlen, hbel⟩ := hrel
    have HV := Lib.hid (hv.belowN hv hbel)
    have HB := Lib.hid hbl
    have HR := Lib.hid hr
    have HBEL := Lib.hid hbel
    have HLEN := Lib.hid hlen
    clear hbl hr hbel hB b0 hlen
    cases j with
    | zero =>
      have hz0 : z < 0 := by omega
      clear hz
      go_wp2_with fail
      have hsz := HBEL.out.size
      refine (told_any _ _ _ _ HB.out (by omega)).mono ?_; rintro e w4 ⟨rfl, b4⟩
      have hr := HR.out
      simp only [ipTail, List.append_nil] at hr
      subst hr
      have B4 := Lib.hid (HBEL.out.trans b4)
      clear b4 hsz
      go_wp2
      go_ret
      exact ⟨rfl, B4.out⟩
    | succ q =>
      obtain rfl : z = (q : Int) := by omega
      clear hz
      have x2 := IntWalk.i64_in ((q : Int) - 1) (by omega)
      have q0 : (0 : Int) ≤ (q : Int) := by omega
      have hsz := HBEL.out.size
      have hnb := nb_lt a q
      have x3 : wrap64 ((nb a q).toNat : Int) = ((nb a q).toNat : Int) := by unfold wrap64; omega
      go_wp2_with fail
      refine (byteAt_any a q (by omega) (by omega) _).mono ?_; rintro e wq ⟨rfl, rfl⟩
      go_wp2_with fail
      refine (itoa_any (nb a q).toNat (by have := nb_lt a q; omega) _ HV.out).mono ?_; rintro e w2 ⟨rfl, b2⟩
      have hs2 := b2.size
      have HB2 := Lib.hid (HB.out.below b2)
      have B2 := Lib.hid (HBEL.out.trans (b2.mono hsz))
      clear b2 HB HBEL
      have hdl := dig_length (n := (nb a q).toNat) (by have := nb_lt a q; omega)
      have hlen := HLEN.out
      go_wp2_with fail
      refine (putString_any _ _ _ _ _ HB2.out (by omega) (by omega)).mono ?_; rintro e w3 ⟨rfl, hb3, b3⟩
      have hs3 := b3.size
      have HB3 := Lib.hid hb3
      have B3 := Lib.hid (B2.out.trans b3)
      clear b3 B2 HB2 hb3
      have hr := HR.out
      cases q with
      | zero =>
        go_wp2
        go_roundw
        case rel =>
          refine ⟨0, r ++ Lib.decDigits (nb a 0).toNat, -1, by omega, rfl, rfl, HB3.out, ?_, ?_, B3.out⟩
          · rw [← hr]; simp [ipTail]
          · simp; omega
        case measure => simp [intOf]
      | succ p =>
        have q1 : ((p + 1 : Nat) : Int) > 0 := by omega
        have x4 := IntWalk.i64_in ((p : Int) + 1 - 1) (by omega)
        go_wp2_with fail
        refine (putByte_any _ _ _ 46 _ HB3.out (by simp; omega) (by omega)).mono ?_; rintro e w4 ⟨rfl, hb4, b4⟩
        have HB4 := Lib.hid hb4
        have B4 := Lib.hid (B3.out.trans b4)
        clear b4 hb4 B3 HB3
        go_wp2
        go_roundw
        case rel =>
          refine ⟨p + 1, r ++ Lib.decDigits (nb a (p + 1)).toNat ++ [46], _, by omega, rfl, by omega, HB4.out, ?_, ?_, B4.out⟩
          · rw [← hr]; simp [ipTail]
          · simp; omega
        case measure => simp [intOf]; omega

/-- The digit of base 16. -/
def hexd (d : Nat) : UInt8 := UInt8.ofNat (if d < 10 then 48 + d else 87 + d)
/-- The last j bytes of an address of six, two digits each, with colons between. -/
def macTail (a : Nat) : Nat → List UInt8
  | 0 => []
  | 1 => [hexd ((nb a 0).toNat / 16), hexd ((nb a 0).toNat % 16)]
  | j + 2 => [hexd ((nb a (j + 1)).toNat / 16), hexd ((nb a (j + 1)).toNat % 16)] ++ 58 :: macTail a (j + 1)
def macStr (a : Nat) : List UInt8 := macTail a 6
theorem macTail_length (a : Nat) : ∀ j, (macTail a j).length = 3 * j - 1
  | 0 => rfl
  | 1 => rfl
  | j + 2 => by simp [macTail, macTail_length a (j + 1)]; omega

theorem hex_get (d : Nat) (h : d < (⟨#[48, 49, 50, 51, 52, 53, 54, 55, 56, 57, 97, 98, 99, 100, 101, 102]⟩ : ByteArray).size) :
    (⟨#[48, 49, 50, 51, 52, 53, 54, 55, 56, 57, 97, 98, 99, 100, 101, 102]⟩ : ByteArray)[d] = hexd d := by
  have hd : d < 16 := h
  have h' : d = 0 ∨ d = 1 ∨ d = 2 ∨ d = 3 ∨ d = 4 ∨ d = 5 ∨ d = 6 ∨ d = 7 ∨ d = 8 ∨ d = 9 ∨ d = 10 ∨ d = 11 ∨ d = 12 ∨ d = 13 ∨ d = 14 ∨ d = 15 := by omega
  rcases h' with rfl | rfl | rfl | rfl | rfl | rfl | rfl | rfl | rfl | rfl | rfl | rfl | rfl | rfl | rfl | rfl <;> rfl

theorem mac_big (a : Nat) (ha : a ≤ 18446744073709551615) (hf : ¬ a < 256 ^ 6) (w : World) :
    Calls Tryd.prog 20 #[.int .u64 (a : Int)] w fun e w' => e = .returned (.tuple #[.string ⟨#[]⟩, .int .i64 1]) ∧ w' = w := by
  have hd : decide (a < 256 ^ 6) = false := by simpa using hf
  go_enter Tryd.func20, Tryd.ntmps20
  go_wp2_with fail
  refine (fits_any a 6 ha (by omega) (by omega) _).mono ?_; rintro e w' ⟨rfl, rfl⟩
  rw [hd]
  go_wp2
  go_ret2
  exact ⟨rfl, rfl⟩

set_option maxRecDepth 100000 in
set_option maxHeartbeats 3000000 in
theorem mac_ok (a : Nat) (ha : a < 256 ^ 6) (w : World) :
    Calls Tryd.prog 20 #[.int .u64 (a : Int)] w fun e w' => e = .returned (.tuple #[.string ⟨(macStr a).toArray⟩, .int .i64 0]) ∧ Below w.heap.size w w' := by
  have hd : decide (a < 256 ^ 6) = true := by simpa using ha
  have hn : a ≤ 18446744073709551615 := by simp at ha; omega
  have hB := Lib.hid (Bld.fresh w)
  have b0 := Lib.hid ((Below.refl w.heap.size w).alloc (Nat.le_refl _) (.cells #[.pointer none, .slice none 0 0] 67))
  go_enter Tryd.func20, Tryd.ntmps20
  go_wp2_with fail
  refine (fits_any a 6 hn (by omega) (by omega) _).mono ?_; rintro e w' ⟨rfl, rfl⟩
  rw [hd]
  go_wp2
  go_loopw [5, 6] (fun i _ wr => ∃ (j : Nat) (r : List UInt8) (z : Int), j ≤ 6 ∧ i = .int .i64 z ∧ z = (j : Int) - 1 ∧ Bld wr w'.heap.size w'.heap.size r ∧ r ++ macTail a j = macStr a ∧ r.length ≤ 3 * (6 - j) ∧ Below w'.heap.size w' wr) (fun i _ _ => (intOf i + 1).toNat)
  case atStart => exact ⟨6, [], 5, by omega, rfl, by omega, hB.out, rfl, by simp, b0.out⟩
  case round =>
    obtain ⟨j, r, z, hj, rfl, hz, hbl, hr, hlen, hbel⟩ := hrel
    have HB := Lib.hid hbl
    have HR := Lib.hid hr
    have HBEL := Lib.hid hbel
    have HLEN := Lib.hid hlen
    clear hbl hr hbel hB b0 hlen
    cases j with
    | zero =>
      have hz0 : z < 0 := by omega
      clear hz
      go_wp2_with fail
      have hsz := HBEL.out.size
      refine (told_any _ _ _ _ HB.out (by omega)).mono ?_; rintro e w4 ⟨rfl, b4⟩
      have hr := HR.out
      simp only [macTail, List.append_nil] at hr
      subst hr
      have B4 := Lib.hid (HBEL.out.trans b4)
      clear b4 hsz
      go_wp2
      go_ret2
      exact ⟨rfl, B4.out⟩
    | succ q =>
      obtain rfl : z = (q : Int) := by omega
      clear hz
      have x2 := IntWalk.i64_in ((q : Int) - 1) (by omega)
      have q0 : (0 : Int) ≤ (q : Int) := by omega
      have hsz := HBEL.out.size
      have hnb := nb_lt a q
      go_wp2_with fail
      refine (byteAt_any a q hn (by omega) _).mono ?_; rintro e wq ⟨rfl, rfl⟩
      generalize hc : nb a q = c at *
      have HC := Lib.hid hc
      clear hc
      have hlen := HLEN.out
      go_wp2_with fail
      refine (putByte_any _ _ _ _ _ HB.out (by omega) (by omega)).mono ?_; rintro e w4 ⟨rfl, hb4, b4⟩
      rw [hex_get] at hb4
      have s4 := b4.size
      have HB4 := Lib.hid hb4
      have B4 := Lib.hid (HBEL.out.trans b4)
      clear b4 hb4 HB HBEL
      go_wp2_with fail
      refine (putByte_any _ _ _ _ _ HB4.out (by simp; omega) (by omega)).mono ?_; rintro e w5 ⟨rfl, hb5, b5⟩
      rw [hex_get] at hb5
      have s5 := b5.size
      have HB5 := Lib.hid hb5
      have B5 := Lib.hid (B4.out.trans b5)
      clear b5 hb5 HB4 B4
      have hr := HR.out
      cases q with
      | zero =>
        go_wp2
        go_roundw
        case rel =>
          refine ⟨0, _, -1, by omega, rfl, rfl, HB5.out, ?_, ?_, B5.out⟩
          · rw [← hr, ← HC.out]; simp [macTail]
          · simp; omega
        case measure => simp [intOf]
      | succ p =>
        have q1 : ((p + 1 : Nat) : Int) > 0 := by omega
        have x4 := IntWalk.i64_in ((p : Int) + 1 - 1) (by omega)
        go_wp2_with fail
        refine (putByte_any _ _ _ 58 _ HB5.out (by simp; omega) (by omega)).mono ?_; rintro e w6 ⟨rfl, hb6, b6⟩
        have HB6 := Lib.hid hb6
        have B6 := Lib.hid (B5.out.trans b6)
        clear b6 hb6 B5 HB5
        go_wp2
        go_roundw
        case rel =>
          refine ⟨p + 1, _, _, by omega, rfl, by omega, HB6.out, ?_, ?_, B6.out⟩
          · rw [← hr, ← HC.out]; simp [macTail]
          · simp; omega
        case measure => simp [intOf]; omega
end Go.Proofs.YtflbckeebmlofaaDoor
