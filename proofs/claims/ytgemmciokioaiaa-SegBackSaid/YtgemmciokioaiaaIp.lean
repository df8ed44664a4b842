/- Package ipv4: words, the part of words; what a head's bytes are, in plain words. Conditions: those that each states. -/
import Derived.Test.YtgemmciokioaiaaRef01
import Derived.Test.YtgemmciokioaiaaRk0
import Derived.Test.YtgemmciokioaiaaOct
import Derived.Deep.Cut
import Derived.Deep.DeepCutAuto
namespace Go.Proofs.Ytgemmciokioaiaa.Ip
open Go.ChangeShapes Go.WideShapes Go.ChangeAt Go.RowKit Go.Deep Rk Fl
set_option linter.unusedVariables false

/-- The bytes of words, one behind the other. -/
def wb : List Nat → List UInt8
  | [] => []
  | x :: r => be x 2 ++ wb r
def vw (l : List Nat) : List Value := l.map fun (x : Nat) => .int .u16 (x : Int)
theorem vw_length (l : List Nat) : (vw l).length = l.length := by simp [vw]
theorem vw_get {l : List Nat} {j : Nat} (h : j < (vw l).length) (h' : j < l.length) : (vw l)[j] = .int .u16 (l[j] : Int) := by simp [vw]
theorem wb_append (a b : List Nat) : wb (a ++ b) = wb a ++ wb b := by
  induction a with
  | nil => rfl
  | cons x r ih => simp [wb, ih]
theorem wb_length (l : List Nat) : (wb l).length = 2 * l.length := by
  induction l with
  | nil => rfl
  | cons x r ih => simp only [wb, List.length_append, be_length, ih, List.length_cons]; omega
theorem be2 (x : Nat) : be x 2 = [nb x 1, nb x 0] := rfl
theorem nb1 {x : Nat} (h : x ≤ 65535) : (nb x 1).toNat = x / 256 := by rw [nb_eq]; omega
theorem nb0 (x : Nat) : (nb x 0).toNat = x % 256 := by rw [nb_eq, Nat.pow_zero, Nat.div_one]
theorem evs_word (x : Nat) (r : List UInt8) (h : x ≤ 65535) : evs (be x 2 ++ r) = x / 256 + evs r ∧ ods (be x 2 ++ r) = x % 256 + ods r := by
  rw [be2]
  simp only [List.cons_append, List.nil_append, evs, ods, nb1 h, nb0]
  exact ⟨trivial, trivial⟩
theorem evs_snocw (l : List Nat) (x : Nat) (h : x ≤ 65535) : evs (wb (l ++ [x])) = evs (wb l) + x / 256 ∧ ods (wb (l ++ [x])) = ods (wb l) + x % 256 := by
  have hl : (wb l).length % 2 = 0 := by rw [wb_length]; omega
  have h1 := evs_append (wb l) (wb [x])
  rw [if_pos hl, if_pos hl, ← wb_append] at h1
  have h2 := evs_word x [] h
  simp only [wb, evs, ods, Nat.add_zero] at h1 h2 ⊢
  rw [h1.1, h1.2, h2.1, h2.2]
  exact ⟨rfl, rfl⟩

theorem or16 (a b : Nat) (ha : a < 256) (hb : b < 256) : bits .or .u16 ((a : Int) * 256) (b : Int) = ((a * 256 + b : Nat) : Int) := by
  have h := (BitVec.ofNat 16 (a * 256)).toNat
  show IntKind.u16.wrap ((BitVec.ofInt 16 ((a : Int) * 256) ||| BitVec.ofInt 16 (b : Int)).toNat : Int) = _
  have e1 : BitVec.ofInt 16 ((a : Int) * 256) = BitVec.ofNat 16 (a * 256) := by rw [show ((a : Int) * 256) = ((a * 256 : Nat) : Int) from by omega]; exact BitVec.ofInt_natCast _ _
  have e2 : BitVec.ofInt 16 (b : Int) = BitVec.ofNat 16 b := BitVec.ofInt_natCast _ _
  rw [e1, e2, BitVec.toNat_or, BitVec.toNat_ofNat, BitVec.toNat_ofNat, IntKind.wrap_u16]
  have h1 : a * 256 % 2 ^ 16 = a * 256 := Nat.mod_eq_of_lt (by omega)
  have h2 : b % 2 ^ 16 = b := Nat.mod_eq_of_lt (by omega)
  have h3 : a * 256 ||| b = a * 256 + b := by
    have := Nat.two_pow_add_eq_or_of_lt (i := 8) (b := b) (by omega) a
    rw [Nat.mul_comm] at this
    exact this.symm
  rw [h1, h2, h3]
  omega

theorem word_any' (a b : Nat) (ha : a ≤ 255) (hb : b ≤ 255) (w : World) : Calls Try.prog 40 #[.int .u8 (a : Int), .int .u8 (b : Int)] w fun e w' => e = .returned (.int .u16 ((a : Int) * 256 + (b : Int))) ∧ w = w' := by
  have h := or16 a b (by omega) (by omega)
  go_enter Try.func40, Try.ntmps40
  go_wp2
  go_ret
  exact ⟨rfl, rfl⟩

theorem high_any (a : Nat) (ha : a ≤ 4294967295) (w : World) : Calls Try.prog 38 #[.int .u32 (a : Int)] w fun e w' => e = .returned (.int .u16 ((a : Int) / 65536)) ∧ w = w' := by
  go_enter Try.func38, Try.ntmps38
  go_wp2
  go_ret
  exact ⟨rfl, rfl⟩

theorem low_any (a : Nat) (ha : a ≤ 4294967295) (w : World) : Calls Try.prog 39 #[.int .u32 (a : Int)] w fun e w' => e = .returned (.int .u16 ((a : Int) % 65536)) ∧ w = w' := by
  go_enter Try.func39, Try.ntmps39
  go_wp2
  go_ret
  exact ⟨rfl, rfl⟩

set_option maxRecDepth 100000 in
/-- The part of words. -/
theorem partOf_any (A : Option Addr) (c : Nat) (ws : List Nat) (w : World) (h : RowG w 1 A ws.length c (vw ws)) (hw : ∀ x ∈ ws, x ≤ 65535) (h9 : ws.length ≤ 1000) :
    Calls Try.prog 37 #[.slice A ws.length c] w fun e w' => e = .returned (.complex .f64 (fl (evs (wb ws))) (fl (ods (wb ws)))) ∧ w = w' := by
  have H := Lib.hid h
  have HW := Lib.hid hw
  clear h hw
  go_enter Try.func37, Try.ntmps37
  go_wp2
  go_loop [3, 8] (fun z i => ∃ j : Nat, j ≤ ws.length ∧ i = .int .i64 (j : Int) ∧ z = .complex .f64 (fl (evs (wb (ws.take j)))) (fl (ods (wb (ws.take j))))) (fun _ i => ws.length - (intOf i).toNat)
  case atStart => exact ⟨0, Nat.zero_le _, rfl, rfl⟩
  case round =>
    obtain ⟨j, hj, rfl, rfl⟩ := hrel
    by_cases hlt : j < ws.length
    · have hlt' : (j : Int) < (ws.length : Int) := by omega
      obtain ⟨b, o, rfl, hb, c0⟩ := H.out.cell (j := j) (by rw [vw_length]; exact hlt)
      rw [vw_get _ hlt] at c0
      have hx := HW.out ws[j] (List.getElem_mem hlt)
      have ht : ws.take (j + 1) = ws.take j ++ [ws[j]] := List.take_succ_eq_append_getElem hlt
      have TK := Lib.hid (evs_snocw (ws.take j) ws[j] hx)
      rw [← ht] at TK
      have hle := evs_le (wb (ws.take j))
      rw [wb_length] at hle
      have hll : (ws.take j).length ≤ j := List.length_take_le _ _
      generalize ws[j] = x at *
      have hz : ∀ w, (binOp .add 40 (.complex .f64 (fl (evs (wb (ws.take j)))) (fl (ods (wb (ws.take j))))) (.complex .f64 (fl ((x : Int) / 256)) (fl ((x : Int) % 256)))).run Try.prog w = .ok (.complex .f64 (fl ((evs (wb (ws.take j)) : Int) + (x : Int) / 256)) (fl ((ods (wb (ws.take j)) : Int) + (x : Int) % 256))) w := cadd_fl (a := evs (wb (ws.take j))) (b := ods (wb (ws.take j))) (c := (x : Int) / 256) (d := (x : Int) % 256) 40 (by omega) (by omega) (by omega) (by omega) (by omega) (by omega)
      have WD := Lib.hid (fun W => word_any x hx W)
      clear ht hle hll hx
      go_wp2_with (go_at_call 26; refine (WD.out _).mono ?_; rintro e w' ⟨rfl, rfl⟩)
      go_round
      case rel => exact ⟨j + 1, by omega, by go_num, by rw [TK.out.1, TK.out.2]; rfl⟩
      case measure => simp [intOf]; omega
    · have hlt' : ¬ (j : Int) < (ws.length : Int) := by omega
      obtain rfl : j = ws.length := by omega
      have ht : ws.take ws.length = ws := List.take_length
      rw [ht]
      clear ht
      go_wp2
      go_ret
      exact ⟨rfl, rfl⟩
end Go.Proofs.Ytgemmciokioaiaa.Ip
