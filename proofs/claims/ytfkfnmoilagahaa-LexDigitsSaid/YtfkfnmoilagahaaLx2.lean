/- Package lex: Token, Value, Trim, Number. Conditions: those that each states. -/
import Derived.Test.YtfkfnmoilagahaaLx1
namespace Go.Proofs.Ytfkfnmoilagahaa.Lx
open Go.ChangeShapes Go.WideShapes Go.ChangeAt Go.RowKit Go.Deep
set_option linter.unusedVariables false
set_option linter.unusedSimpArgs false

def tokenB (l : List UInt8) : Bool := !l.isEmpty && l.all (kB 1)
def valueB (l : List UInt8) : Bool := l.all (kB 2)

set_option maxRecDepth 100000 in
theorem token_any (l : List UInt8) (hl : l.length ≤ 140737488351232) (w : World) :
    Calls Try.prog 8 #[.string ⟨l.toArray⟩] w fun e w' => e = .returned (.bool (tokenB l)) ∧ Below w.heap.size w w' := by
  cases l with
  | nil =>
    go_enter Try.func8, Try.ntmps8
    go_wp2
    go_ret
    exact ⟨rfl, Below.refl _ _⟩
  | cons c l =>
    have NT := Lib.hid (newTable_any w)
    have TA := Lib.hid (fun W h => tall_any w.heap.size 1 (c :: l) (by decide) hl W h)
    have q : ((c :: l).isEmpty) = false := rfl
    have qe : ((c :: l) == ([] : List UInt8)) = false := rfl
    have E : tokenB (c :: l) = (c :: l).all (kB 1) := by unfold tokenB; simp
    rw [E]
    obtain ⟨b, hb⟩ : ∃ b, b = (c :: l).all (kB 1) := ⟨_, rfl⟩
    rw [← hb] at TA ⊢
    clear E hb
    go_enter Try.func8, Try.ntmps8
    go_wp2_with fail
    refine NT.out.mono ?_; rintro e w1 ⟨rfl, t1, b1⟩
    have T1 := Lib.hid t1
    have B1 := Lib.hid b1
    clear t1 b1
    go_wp2_with fail
    refine (TA.out _ T1.out).mono ?_; rintro e w2 ⟨rfl, rfl⟩
    go_wp2
    go_ret
    exact ⟨rfl, B1.out⟩

set_option maxRecDepth 100000 in
theorem value_any (l : List UInt8) (hl : l.length ≤ 140737488351232) (w : World) :
    Calls Try.prog 10 #[.string ⟨l.toArray⟩] w fun e w' => e = .returned (.bool (valueB l)) ∧ Below w.heap.size w w' := by
  have NT := Lib.hid (newTable_any w)
  have TA := Lib.hid (fun W h => tall_any w.heap.size 2 l (by decide) hl W h)
  unfold valueB
  obtain ⟨b, hb⟩ : ∃ b, b = l.all (kB 2) := ⟨_, rfl⟩
  rw [← hb] at TA ⊢
  clear hb
  go_enter Try.func10, Try.ntmps10
  go_wp2_with fail
  refine NT.out.mono ?_; rintro e w1 ⟨rfl, t1, b1⟩
  have T1 := Lib.hid t1
  have B1 := Lib.hid b1
  clear t1 b1
  go_wp2_with fail
  refine (TA.out _ T1.out).mono ?_; rintro e w2 ⟨rfl, rfl⟩
  go_wp2
  go_ret
  exact ⟨rfl, B1.out⟩

set_option maxRecDepth 100000 in
theorem trim_any (l : List UInt8) (hl : l.length ≤ 140737488351232) (w : World) :
    Calls Try.prog 12 #[.string ⟨l.toArray⟩] w fun e w' => e = .returned (.string ⟨(trimL l).toArray⟩) ∧ Below w.heap.size w w' := by
  have NT := Lib.hid (newTable_any w)
  have TA := Lib.hid (fun W h => ttrim_any w.heap.size l hl W h)
  obtain ⟨r, hr⟩ : ∃ r, r = trimL l := ⟨_, rfl⟩
  rw [← hr] at TA ⊢
  clear hr
  go_enter Try.func12, Try.ntmps12
  go_wp2_with fail
  refine NT.out.mono ?_; rintro e w1 ⟨rfl, t1, b1⟩
  have T1 := Lib.hid t1
  have B1 := Lib.hid b1
  clear t1 b1
  go_wp2_with fail
  refine (TA.out _ T1.out).mono ?_; rintro e w2 ⟨rfl, rfl⟩
  go_wp2
  go_ret
  exact ⟨rfl, B1.out⟩

/-! Digits as a number. -/
def valN (l : List UInt8) : Nat := l.foldl (fun n c => n * 10 + (c.toNat - 48)) 0
theorem valN_nil : valN [] = 0 := rfl
theorem valN_snoc (l : List UInt8) (c : UInt8) : valN (l ++ [c]) = valN l * 10 + (c.toNat - 48) := by unfold valN; rw [List.foldl_append]; rfl
theorem valN_step (l : List UInt8) {j : Nat} (h : j < l.length) : valN (l.take (j + 1)) = valN (l.take j) * 10 + (l[j].toNat - 48) := by
  rw [List.take_succ_eq_append_getElem h, valN_snoc]
theorem valN_mono (l : List UInt8) : ∀ (d j : Nat), j + d ≤ l.length → valN (l.take j) ≤ valN (l.take (j + d))
  | 0, _, _ => Nat.le_refl _
  | d + 1, j, h => by
    have h1 := valN_mono l d j (by omega)
    have h2 := valN_step l (j := j + d) (by omega)
    rw [← Nat.add_assoc, h2]
    omega
theorem valN_le (l : List UInt8) {j : Nat} (h : j ≤ l.length) : valN (l.take j) ≤ valN l := by
  have := valN_mono l (l.length - j) j (by omega)
  rw [show j + (l.length - j) = l.length by omega, List.take_length] at this
  exact this
/-- What Number tells. -/
def okN (l : List UInt8) (most : Int) : Bool := !l.isEmpty && l.all (kB 8) && decide ((valN l : Int) ≤ most)
def numT (l : List UInt8) (most : Int) : Value := .tuple #[.int .i64 (if okN l most then (valN l : Int) else 0), .bool (okN l most)]
theorem numT_no {l : List UInt8} {most : Int} (h : okN l most = false) : numT l most = .tuple #[.int .i64 0, .bool false] := by unfold numT; rw [h]; rfl
theorem numT_yes {l : List UInt8} {most : Int} (h : okN l most = true) : numT l most = .tuple #[.int .i64 (valN l : Int), .bool true] := by unfold numT; rw [h]; rfl
theorem dig_le {c : UInt8} (h : kB 8 c = true) : 48 ≤ c.toNat ∧ c.toNat ≤ 57 := by rw [kB_dig] at h; simpa [digB] using h

set_option maxRecDepth 100000 in
theorem number_any (l : List UInt8) (most : Int) (hl : l.length ≤ 140737488351232) (hm : -9223372036854775808 ≤ most ∧ most ≤ 9223372036854775807) (w : World) :
    Calls Try.prog 6 #[.string ⟨l.toArray⟩, .int .i64 most] w fun e w' => e = .returned (numT l most) ∧ Below w.heap.size w w' := by
  by_cases hn : l = []
  · subst hn
    go_enter Try.func6, Try.ntmps6
    go_wp2
    go_ret2
    exact ⟨rfl, Below.refl _ _⟩
  have NT := Lib.hid (newTable_any w)
  have TA := Lib.hid (fun W h => tall_any w.heap.size 8 l (by decide) hl W h)
  have hsz : (⟨l.toArray⟩ : ByteArray).size = l.length := rfl
  have q : l.isEmpty = false := by cases l <;> simp_all
  have qe : (l == ([] : List UInt8)) = false := by cases l <;> simp_all
  have NE := Lib.hid q
  cases hd : l.all (kB 8) with
  | false =>
    rw [hd] at TA
    rw [numT_no (by unfold okN; rw [hd]; simp)]
    clear hd hn
    go_enter Try.func6, Try.ntmps6
    go_wp2_with fail
    refine NT.out.mono ?_; rintro e w1 ⟨rfl, t1, b1⟩
    have T1 := Lib.hid t1
    have B1 := Lib.hid b1
    clear t1 b1
    go_wp2_with fail
    refine (TA.out _ T1.out).mono ?_; rintro e w2 ⟨rfl, rfl⟩
    go_wp2
    go_ret2
    exact ⟨rfl, B1.out⟩
  | true =>
    rw [hd] at TA
    have HD := Lib.hid hd
    clear hd hn
    have OKY := Lib.hid (fun h : (valN l : Int) ≤ most => numT_yes (l := l) (most := most) (by unfold okN; rw [HD.out, NE.out]; simpa using h))
    have OKN := Lib.hid (fun h : most < (valN l : Int) => numT_no (l := l) (most := most) (by unfold okN; rw [HD.out, NE.out]; simp; omega))
    obtain ⟨R, hR⟩ : ∃ R, R = numT l most := ⟨_, rfl⟩
    rw [← hR] at OKY OKN ⊢
    clear hR
    go_enter Try.func6, Try.ntmps6
    go_wp2_with fail
    refine NT.out.mono ?_; rintro e w1 ⟨rfl, t1, b1⟩
    have T1 := Lib.hid t1
    have B1 := Lib.hid b1
    clear t1 b1
    go_wp2_with fail
    refine (TA.out _ T1.out).mono ?_; rintro e w2 ⟨rfl, rfl⟩
    go_upto_region 5 with fail
    go_loop [6, 19] (fun n i => ∃ j : Nat, ∃ v : Int, j ≤ l.length ∧ n = .int .i64 v ∧ i = .int .i64 (j : Int) ∧ Hid (v = (valN (l.take j) : Int) ∧ (0 < j → v ≤ most))) (fun _ i => l.length - (intOf i).toNat)
    case atStart => exact ⟨0, 0, Nat.zero_le _, rfl, rfl, Lib.hid ⟨rfl, fun h => absurd h (by omega)⟩⟩
    case round =>
      obtain ⟨j, v, hj, rfl, rfl, HP⟩ := hrel
      by_cases hlt : j < l.length
      · have hlt' : (j : Int) < (l.length : Int) := by omega
        have j0 : (0 : Int) ≤ (j : Int) := by omega
        have xj := IntWalk.i64_in ((j : Int) + 1) (by omega)
        have dg := dig_le (List.all_eq_true.1 HD.out l[j] (List.getElem_mem hlt))
        obtain ⟨d, hdd⟩ : ∃ d : Nat, d = l[j].toNat - 48 := ⟨_, rfl⟩
        have d9 : d ≤ 9 := by omega
        have st := valN_step l hlt
        rw [← hdd] at st
        have lel := valN_le l (j := j + 1) (by omega)
        rw [st] at lel
        have xd : IntKind.u8.wrap ((((⟨l.toArray⟩ : ByteArray)[j]'(by rw [hsz]; exact hlt)).toNat : Int) - 48) = (d : Int) := by
          show IntKind.u8.wrap ((l[j].toNat : Int) - 48) = _
          rw [show (l[j].toNat : Int) - 48 = (d : Int) by omega, IntKind.wrap_u8']
          omega
        have xd2 := IntWalk.i64_in (d : Int) (by omega)
        have v0 : 0 ≤ v := by have := HP.out.1; omega
        have vv := HP.out.1
        by_cases hgt : (d : Int) > most
        · have EV := Lib.hid (OKN.out (by omega))
          clear dg hdd st lel HP vv
          go_wp2
          go_ret2
          exact ⟨by rw [EV.out]; rfl, B1.out⟩
        have m0 : 0 ≤ most := by omega
        have td : (most - (d : Int)).tdiv 10 = (most - (d : Int)) / 10 := Int.tdiv_eq_ediv_of_nonneg (by omega)
        have xs := IntWalk.i64_in (most - (d : Int)) (by omega)
        obtain ⟨u, hu⟩ : ∃ u : Int, u = (most - (d : Int)) / 10 := ⟨_, rfl⟩
        rw [← hu] at td
        have xu := IntWalk.i64_in u (by omega)
        by_cases hv : v > u
        · have EV := Lib.hid (OKN.out (by omega))
          clear dg hdd st lel HP vv hu
          go_wp2
          go_ret2
          exact ⟨by rw [EV.out]; rfl, B1.out⟩
        · have x10 := IntWalk.i64_in (v * 10) (by omega)
          have x11 := IntWalk.i64_in (v * 10 + (d : Int)) (by omega)
          have HP2 := Lib.hid (show v * 10 + (d : Int) = (valN (l.take (j + 1)) : Int) ∧ (0 < j + 1 → v * 10 + (d : Int) ≤ most) from ⟨by rw [st]; omega, fun _ => by omega⟩)
          clear dg hdd st lel HP vv hu
          go_wp2
          go_round
          case rel => exact ⟨j + 1, v * 10 + (d : Int), by omega, rfl, by simp, HP2⟩
          case measure => simp [intOf]; omega
      · have je : j = l.length := by omega
        subst je
        have hge : ¬ (l.length : Int) < (l.length : Int) := by omega
        have hp := HP.out
        rw [List.take_length] at hp
        have l0 : 0 < l.length := by
          cases l with
          | nil => exact absurd NE.out (by simp)
          | cons _ _ => simp
        have EV := Lib.hid (OKY.out (by rw [← hp.1]; exact hp.2 l0))
        have VV := Lib.hid hp.1
        clear hp HP l0
        go_wp2
        go_ret2
        exact ⟨by rw [EV.out, ← VV.out]; rfl, B1.out⟩
end Go.Proofs.Ytfkfnmoilagahaa.Lx
