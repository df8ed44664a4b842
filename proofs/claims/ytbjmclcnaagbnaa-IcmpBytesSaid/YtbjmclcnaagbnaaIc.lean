/- Package icmp: its small functions; an echo's bytes, what is parsed, in plain words. Conditions: those that each states. -/
import Derived.Test.YtbjmclcnaagbnaaGy
import Derived.Test.YtbjmclcnaagbnaaGz
import Derived.Test.YtbjmclcnaagbnaaEs
import Derived.Test.YtbjmclcnaagbnaaRef01
import Derived.Test.YtbjmclcnaagbnaaRp
import Derived.Deep.Cut
import Derived.Deep.DeepCutAuto
namespace Go.Proofs.Ytbjmclcnaagbnaa.Ic
open Go.ChangeShapes Go.WideShapes Go.ChangeAt Go.RowKit Go.Deep Rk Fl Gx
open Es hiding src_chg chg_below chg_of_row src_apart
set_option linter.unusedVariables false
set_option linter.unusedSimpArgs false

/-- May an echo have that Type? -/
def tyB (t : Int) : Bool := decide (t = 0 ∨ t = 8)
theorem u8_eq {a b : UInt8} (h : a.toNat = b.toNat) : a = b := UInt8.toNat_inj.1 h
theorem nb1 {x : Nat} (h : x ≤ 65535) : (nb x 1).toNat = x / 256 := by rw [nb_eq]; omega
theorem nb0 (x : Nat) : (nb x 0).toNat = x % 256 := by rw [nb_eq, Nat.pow_zero, Nat.div_one]
theorem be2 (x : Nat) : be x 2 = [nb x 1, nb x 0] := rfl
/-- The sum of words, as a part's numbers tell it. -/
def tot (l : List UInt8) : Nat := 256 * evs l + ods l
theorem fo_add_sum {S : Nat} (h : 0 < S) : fo (S + (65535 - fo S)) = 65535 := by
  unfold fo
  rw [if_neg (by omega), if_neg (by omega)]
  omega
theorem fo_add_zero : fo (0 + (65535 - fo 0)) = 65535 := by decide
/-- An echo's bytes with the word k in the sum's place. -/
def icL (t i q k : Nat) (l : List UInt8) : List UInt8 := nb t 0 :: 0 :: nb k 1 :: nb k 0 :: nb i 1 :: nb i 0 :: nb q 1 :: nb q 0 :: l
def icK (t i q : Nat) (l : List UInt8) : Nat := 65535 - fo (tot (icL t i q 0 l))
/-- An echo's bytes. -/
def icB (t i q : Nat) (l : List UInt8) : List UInt8 := icL t i q (icK t i q l) l
theorem icK_le (t i q : Nat) (l : List UInt8) : icK t i q l ≤ 65535 := by unfold icK; omega
theorem icL_length (t i q k : Nat) (l : List UInt8) : (icL t i q k l).length = 8 + l.length := by simp [icL]; omega
theorem icB_length (t i q : Nat) (l : List UInt8) : (icB t i q l).length = 8 + l.length := icL_length ..
theorem tot_icL (t i q k : Nat) (l : List UInt8) (hk : k ≤ 65535) : tot (icL t i q k l) = tot (icL t i q 0 l) + k := by
  simp only [tot, icL, evs, ods, nb1 hk, nb0, nb1 (show (0:Nat) ≤ 65535 by omega)]
  omega
/-- What is built is good. -/
theorem icB_good (t i q : Nat) (l : List UInt8) : fo (tot (icB t i q l)) = 65535 := by
  unfold icB
  rw [tot_icL _ _ _ _ _ (icK_le ..)]
  unfold icK
  generalize tot (icL t i q 0 l) = S
  by_cases h : 0 < S
  · exact fo_add_sum h
  · obtain rfl : S = 0 := by omega
    exact fo_add_zero

/-- The number at a place. -/
def at2 (l : List UInt8) (i k : Nat) : Nat := numB ((l.drop i).take k)
theorem at2_lt (l : List UInt8) (i k : Nat) : at2 l i k < 256 ^ k := by
  have h := numB_lt256 ((l.drop i).take k)
  exact Nat.lt_of_lt_of_le h (Nat.pow_le_pow_right (by omega) (List.length_take_le _ _))
theorem at2_one (l : List UInt8) (i : Nat) (h : i < l.length) : at2 l i 1 = l[i].toNat := by
  unfold at2
  rw [List.drop_eq_getElem_cons h]
  show numB [l[i]] = _
  simp [numB]
theorem eye_num (l : List UInt8) (i k : Nat) (h1 : 1 ≤ k) (h8 : k ≤ 8) (hi : i + k ≤ l.length) : numS (l.drop i, 0) (k : Int) = (at2 l i k, (l.drop (i + k), 0)) := by
  rw [numS_ok _ k h1 h8 (by rw [List.length_drop]; omega), List.drop_drop]
  rfl
/-- The error of a Parse. -/
def icErr (l : List UInt8) : Int :=
  if l.length < 8 ∨ 990 < l.length then 50
  else if fo (tot l) ≠ 65535 then 51
  else if ¬ ((at2 l 0 1 = 0 ∨ at2 l 0 1 = 8) ∧ at2 l 1 1 = 0) then 50 else 0
/-- The echo of bytes. -/
def icP (l : List UInt8) : Nat × Nat × Nat × List UInt8 := if icErr l = 0 then (at2 l 0 1, at2 l 4 2, at2 l 6 2, l.drop 8) else (0, 0, 0, [])
theorem icErr_zero {l : List UInt8} (h : icErr l = 0) : 8 ≤ l.length ∧ l.length ≤ 990 ∧ fo (tot l) = 65535 ∧ (at2 l 0 1 = 0 ∨ at2 l 0 1 = 8) ∧ at2 l 1 1 = 0 := by
  unfold icErr at h
  split at h
  · cases h
  · split at h
    · cases h
    · rename_i h1 h2
      split at h
      · cases h
      · rename_i h3
        exact ⟨by omega, by omega, Classical.byContradiction h2, Classical.byContradiction fun hh => h3 fun h4 => hh h4.1, Classical.byContradiction fun hh => h3 fun h4 => hh h4.2⟩
theorem icErr_ok {l : List UInt8} (h1 : 8 ≤ l.length) (h2 : l.length ≤ 990) (h3 : fo (tot l) = 65535) (h4 : at2 l 0 1 = 0 ∨ at2 l 0 1 = 8) (h5 : at2 l 1 1 = 0) : icErr l = 0 := by
  unfold icErr
  rw [if_neg (by omega), if_neg (fun h => h h3), if_neg (fun h => h ⟨h4, h5⟩)]
theorem icP_ok {l : List UInt8} (h : icErr l = 0) : icP l = (at2 l 0 1, at2 l 4 2, at2 l 6 2, l.drop 8) := by unfold icP; rw [if_pos h]
theorem icP_no {l : List UInt8} (h : icErr l ≠ 0) : icP l = (0, 0, 0, []) := by unfold icP; rw [if_neg h]
theorem numB2 (a b : UInt8) : numB [a, b] = a.toNat * 256 + b.toNat := by simp [numB]
theorem numB1 (a : UInt8) : numB [a] = a.toNat := by simp [numB]
/-- What is built is parsed. -/
theorem icB_back (t i q : Nat) (l : List UInt8) (ht : t = 0 ∨ t = 8) (hi : i ≤ 65535) (hq : q ≤ 65535) (hl : l.length ≤ 982) : icErr (icB t i q l) = 0 ∧ icP (icB t i q l) = (t, i, q, l) := by
  have hn := icB_length t i q l
  have hg := icB_good t i q l
  have a0 : at2 (icB t i q l) 0 1 = t := by
    show numB [nb t 0] = t
    rw [numB1, nb0]; omega
  have a1 : at2 (icB t i q l) 1 1 = 0 := rfl
  have a4 : at2 (icB t i q l) 4 2 = i := by
    show numB [nb i 1, nb i 0] = i
    rw [numB2, nb1 hi, nb0]; omega
  have a6 : at2 (icB t i q l) 6 2 = q := by
    show numB [nb q 1, nb q 0] = q
    rw [numB2, nb1 hq, nb0]; omega
  have e : icErr (icB t i q l) = 0 := icErr_ok (by omega) (by omega) hg (by omega) a1
  refine ⟨e, ?_⟩
  rw [icP_ok e, a0, a4, a6]
  rfl
/-- What is answered. -/
def icIs (l : List UInt8) : Bool := decide (icErr l = 0 ∧ (icP l).1 = 8)
def icA (l : List UInt8) : List UInt8 := if icErr l = 0 ∧ (icP l).1 = 8 then icB 0 (icP l).2.1 (icP l).2.2.1 (icP l).2.2.2 else []
theorem icP_small (l : List UInt8) : (icP l).1 ≤ 255 ∧ (icP l).2.1 ≤ 65535 ∧ (icP l).2.2.1 ≤ 65535 ∧ (icP l).2.2.2.length ≤ 982 := by
  by_cases h : icErr l = 0
  · rw [icP_ok h]
    have h1 := at2_lt l 0 1
    have h2 := at2_lt l 4 2
    have h3 := at2_lt l 6 2
    have h4 := (icErr_zero h).2.1
    refine ⟨by omega, by show at2 l 4 2 ≤ 65535; omega, by show at2 l 6 2 ≤ 65535; omega, ?_⟩
    show (l.drop 8).length ≤ 982
    rw [List.length_drop]; omega
  · rw [icP_no h]; simp

abbrev ecV (t : Int) (i q : Nat) (A : Option Addr) (n c : Nat) : Array Value := #[.int .i64 t, .int .u16 (i : Int), .int .u16 (q : Int), .slice A n c]
abbrev ec0 : Array Value := #[.int .i64 0, .int .u16 0, .int .u16 0, .slice none 0 0]
theorem ec_info : (Try.prog.info? 31).map (·.size) = some 4 := by kernel_rfl

theorem isType_any (t : Int) (w : World) : Calls Try.prog 14 #[.int .i64 t] w fun e w' => e = .returned (.bool (tyB t)) ∧ w = w' := by
  by_cases h0 : t = 0
  · subst h0
    go_enter Try.func14, Try.ntmps14
    go_wp2
    go_ret
    exact ⟨rfl, rfl⟩
  · by_cases h8 : t = 8
    · subst h8
      go_enter Try.func14, Try.ntmps14
      go_wp2
      go_ret
      exact ⟨rfl, rfl⟩
    · have h0' : (t == 0) = false := by simpa using h0
      have h8' : (t == 8) = false := by simpa using h8
      have hb := Lib.hid (show tyB t = false from decide_eq_false (by omega))
      go_enter Try.func14, Try.ntmps14
      go_wp2
      go_ret
      refine ⟨?_, rfl⟩
      rw [hb.out]; first | rfl | simp [h0, h8]

theorem high_any (a : Nat) (ha : a ≤ 65535) (w : World) : Calls Try.prog 15 #[.int .u16 (a : Int)] w fun e w' => e = .returned (.int .u8 ((nb a 1).toNat : Int)) ∧ w = w' := by
  have hx := Lib.hid (nb1 ha)
  have u := IntWalk.u8_in ((a : Int) / 256) (by omega)
  go_enter Try.func15, Try.ntmps15
  go_wp2
  go_ret
  refine ⟨?_, rfl⟩
  rw [hx.out]; rfl

theorem low_any (a : Nat) (ha : a ≤ 65535) (w : World) : Calls Try.prog 16 #[.int .u16 (a : Int)] w fun e w' => e = .returned (.int .u8 ((nb a 0).toNat : Int)) ∧ w = w' := by
  have hx := Lib.hid (nb0 a)
  go_enter Try.func16, Try.ntmps16
  go_wp2
  go_ret
  refine ⟨?_, rfl⟩
  rw [hx.out]; rfl

set_option maxRecDepth 100000 in
set_option maxHeartbeats 2000000 in
/-- The sum of an owned row is put in its place. -/
theorem seal_any (B g n c : Nat) (l : List UInt8) (w : World) (h : OwnB w B g n c l) (h4 : 4 ≤ n) (hn : n ≤ 1000000) :
    Calls Try.prog 17 #[.slice (some ⟨g, 0, none⟩) n c] w fun e w' => e = .returned (.tuple #[.slice (some ⟨g, 0, none⟩) n c, .int .i64 0]) ∧ OwnB w' B g n c ((l.set 2 (nb (65535 - fo (tot l)) 1)).set 3 (nb (65535 - fo (tot l)) 0)) ∧ Chg w w' (fun b => b = g) := by
  have hlen := h.bytes.len
  have hle := evs_le l
  have h1 : evs l ≤ 1099511627776 := by omega
  have h2 : ods l ≤ 1099511627776 := by omega
  have PT := Lib.hid (part_ok (some ⟨g, 0, none⟩) n c l w h.bytes (by omega))
  have SM := Lib.hid (fun W => sum_ok (fl (evs l : Int)) (fl (ods l : Int)) (evs l) (ods l) W (read_fl (by omega)).rep (read_fl (by omega)).rep h1 h2)
  have hk : (65535 - fo (256 * evs l + ods l) : Nat) ≤ 65535 := by omega
  have KE := Lib.hid (show 65535 - fo (tot l) = 65535 - fo (256 * evs l + ods l) from rfl)
  rw [KE.out]
  generalize 65535 - fo (256 * evs l + ods l) = k at *
  have HI := Lib.hid (fun W => high_any k hk W)
  have LO := Lib.hid (fun W => low_any k hk W)
  have O := Lib.hid h
  clear h h1 h2 hle KE hk
  go_enter Try.func17, Try.ntmps17
  go_wp2_with fail
  refine PT.out.mono ?_; rintro e w1 ⟨rfl, m, hm⟩
  have C1 := Lib.hid (show Chg w w1 (fun b => b = g) from by rw [hm]; exact (Chg.refl w _).drewN m)
  have O1 := Lib.hid (show OwnB w1 B g n c l from by rw [hm]; exact O.out.drewN m)
  clear hm O PT
  go_wp2_with fail
  refine (SM.out w1).mono ?_; rintro e w2 ⟨rfl, rfl⟩
  clear SM
  go_wp2_with fail
  refine (HI.out _).mono ?_; rintro e w2 ⟨rfl, rfl⟩
  go_wp2_with fail
  refine (LO.out _).mono ?_; rintro e w2 ⟨rfl, rfl⟩
  clear HI LO
  obtain ⟨q2, c2⟩ := O1.out.cell (j := 2) (by omega)
  have f2 := O1.out.frozen 2
  have O2 := Lib.hid (O1.out.set (j := 2) (nb k 1))
  obtain ⟨q3, c3⟩ := O2.out.cell (j := 3) (by omega)
  have f3 := O2.out.frozen 3
  have O3 := Lib.hid (O2.out.set (j := 3) (nb k 0))
  have C3 := Lib.hid (C1.out.trans ((Chg.set w1 2 (.int .u8 ((nb k 1).toNat : Int)) (g := g) (S := fun b => b = g) rfl).trans (Chg.set _ 3 (.int .u8 ((nb k 0).toNat : Int)) (g := g) (S := fun b => b = g) rfl)))
  have i2 : (2 : Int) < (n : Int) := by omega
  have i3 : (3 : Int) < (n : Int) := by omega
  clear O1 O2 C1
  go_wp2
  go_ret2
  exact ⟨rfl, O3.out, C3.out⟩
end Go.Proofs.Ytbjmclcnaagbnaa.Ic
