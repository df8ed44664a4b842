/- Package lex: is, all, trim. Conditions: those that each states. -/
import Derived.Test.YtfkfnmoilagahaaLx
import Derived.Deep.CutBlock
namespace Go.Proofs.Ytfkfnmoilagahaa.Lx
open Go.ChangeShapes Go.WideShapes Go.ChangeAt Go.RowKit Go.Deep
set_option linter.unusedVariables false
set_option linter.unusedSimpArgs false

/-- Is the byte c of one of the kinds k? -/
def kB (k : Nat) (c : UInt8) : Bool := decide (¬ kindN c.toNat &&& k = 0)
theorem kB_of (p : Nat → Bool) (k : Nat) (h : ∀ i : Fin 256, decide (¬ kindN i.1 &&& k = 0) = p i.1) (c : UInt8) : kB k c = p c.toNat := h ⟨c.toNat, c.toNat_lt⟩
theorem kB_tok (c : UInt8) : kB 1 c = tokB c.toNat := kB_of tokB 1 (by decide +kernel) c
theorem kB_val (c : UInt8) : kB 2 c = valB c.toNat := kB_of valB 2 (by decide +kernel) c
theorem kB_bla (c : UInt8) : kB 4 c = blaB c.toNat := kB_of blaB 4 (by decide +kernel) c
theorem kB_dig (c : UInt8) : kB 8 c = digB c.toNat := kB_of digB 8 (by decide +kernel) c
theorem kB_cap (c : UInt8) : kB 16 c = capB c.toNat := kB_of capB 16 (by decide +kernel) c

set_option maxRecDepth 100000 in
theorem is_any (g k : Nat) (c : UInt8) (hk : k < 256) (w : World) (h : Tab w g kindN) :
    Calls Try.prog 21 #[.pointer (some ⟨g, 0, none⟩), .int .u8 (c.toNat : Int), .int .u8 (k : Int)] w fun e w' => e = .returned (.bool (kB k c)) ∧ w' = w := by
  have hc := c.toNat_lt
  have cj := h.1.cell c.toNat
  rw [tv_get _ hc] at cj
  have ob := u8_and_nat (kindN c.toNat) k (kindN_lt _) hk
  have c0 : (0 : Int) ≤ (c.toNat : Int) := by omega
  have c1 : (c.toNat : Int) < 256 := by omega
  have E : (decide (¬ kindN c.toNat &&& k = 0)) = kB k c := rfl
  clear h
  by_cases hz : kindN c.toNat &&& k = 0
  · have e : kB k c = false := by unfold kB; simp [hz]
    rw [hz] at ob
    rw [e]
    go_enter Try.func21, Try.ntmps21
    go_wp2
    go_ret
    exact ⟨rfl, rfl⟩
  · have e : kB k c = true := by unfold kB; simp [hz]
    obtain ⟨x, hx⟩ : ∃ x, x = kindN c.toNat &&& k := ⟨_, rfl⟩
    rw [← hx] at ob hz
    have q : ((x : Int) == 0) = false := by simp; omega
    have q2 : ¬ (x : Int) = 0 := by omega
    have q3 : ((x : Int) != 0) = true := by simp; omega
    clear hx hz E
    rw [e]
    go_enter Try.func21, Try.ntmps21
    go_wp2
    go_ret
    exact ⟨rfl, rfl⟩

set_option maxRecDepth 100000 in
theorem tall_any (g k : Nat) (l : List UInt8) (hk : k < 256) (hl : l.length ≤ 140737488351232) (w : World) (h : Tab w g kindN) :
    Calls Try.prog 18 #[.pointer (some ⟨g, 0, none⟩), .string ⟨l.toArray⟩, .int .u8 (k : Int)] w fun e w' => e = .returned (.bool (l.all (kB k))) ∧ w' = w := by
  have hsz : (⟨l.toArray⟩ : ByteArray).size = l.length := rfl
  have IS := Lib.hid (fun c => is_any g k c hk w h)
  clear h
  go_enter Try.func18, Try.ntmps18
  go_upto_region 2 with fail
  go_loop [10] (fun i => ∃ j : Nat, j ≤ l.length ∧ i = .int .i64 (j : Int) ∧ Hid (∀ n (h : n < j) (h' : n < l.length), kB k l[n] = true)) (fun i => l.length - (intOf i).toNat)
  case atStart => exact ⟨0, Nat.zero_le _, rfl, Lib.hid (fun n h => absurd h (by omega))⟩
  case round =>
    obtain ⟨j, hj, rfl, HP⟩ := hrel
    by_cases hlt : j < l.length
    · have hlt' : (j : Int) < (l.length : Int) := by omega
      have j0 : (0 : Int) ≤ (j : Int) := by omega
      have xj := IntWalk.i64_in ((j : Int) + 1) (by omega)
      have CI := Lib.hid (IS.out l[j])
      cases hp : kB k l[j] with
      | true =>
        rw [hp] at CI
        have HP2 := Lib.hid (show ∀ n (h : n < j + 1) (h' : n < l.length), kB k l[n] = true from fun n h h' => by
          by_cases e : n = j
          · subst e; exact hp
          · exact HP.out n (by omega) h')
        clear hp HP
        go_wp2_with fail
        refine CI.out.mono ?_; rintro e w1 ⟨rfl, rfl⟩
        go_wp2
        go_round
        case rel => exact ⟨j + 1, by omega, by simp, HP2⟩
        case measure => simp [intOf]; omega
      | false =>
        rw [hp] at CI
        have EV := Lib.hid (show l.all (kB k) = false from by
          rw [List.all_eq_false]
          exact ⟨l[j], List.getElem_mem hlt, by simp [hp]⟩)
        clear hp HP
        go_wp2_with fail
        refine CI.out.mono ?_; rintro e w1 ⟨rfl, rfl⟩
        go_wp2
        go_ret
        exact ⟨by rw [EV.out]; rfl, rfl⟩
    · have hge : ¬ (j : Int) < (l.length : Int) := by omega
      have EV := Lib.hid (show l.all (kB k) = true from by
        rw [List.all_eq_true]
        intro c hc
        obtain ⟨n, hn, rfl⟩ := List.mem_iff_getElem.1 hc
        exact HP.out n (by omega) hn)
      go_wp2
      go_ret
      exact ⟨by rw [EV.out]; rfl, rfl⟩

/-- Without blanks ahead, behind, at both ends. -/
def trimF (l : List UInt8) : List UInt8 := l.dropWhile (kB 4)
def trimR (l : List UInt8) : List UInt8 := (l.reverse.dropWhile (kB 4)).reverse
def trimL (l : List UInt8) : List UInt8 := trimR (trimF l)
theorem trimF_nil : trimF [] = [] := rfl
theorem trimF_yes {c : UInt8} {l : List UInt8} (h : kB 4 c = true) : trimF (c :: l) = trimF l := by unfold trimF; rw [List.dropWhile_cons_of_pos h]
theorem trimF_no {c : UInt8} {l : List UInt8} (h : kB 4 c = false) : trimF (c :: l) = c :: l := by unfold trimF; rw [List.dropWhile_cons_of_neg (by simp [h])]
theorem trimR_nil : trimR [] = [] := rfl
theorem trimR_yes {c : UInt8} {l : List UInt8} (h : kB 4 c = true) : trimR (l ++ [c]) = trimR l := by unfold trimR; rw [List.reverse_append]; simp only [List.reverse_cons, List.reverse_nil, List.nil_append, List.singleton_append]; rw [List.dropWhile_cons_of_pos h]
theorem trimR_no {c : UInt8} {l : List UInt8} (h : kB 4 c = false) : trimR (l ++ [c]) = l ++ [c] := by unfold trimR; rw [List.reverse_append]; simp only [List.reverse_cons, List.reverse_nil, List.nil_append, List.singleton_append]; rw [List.dropWhile_cons_of_neg (by simp [h])]; simp
theorem last_split {l : List UInt8} (h : l ≠ []) : ∃ r c, l = r ++ [c] := ⟨l.dropLast, l.getLast h, (List.dropLast_concat_getLast h).symm⟩
theorem trimF_le : ∀ (l : List UInt8), (trimF l).length ≤ l.length := fun l => (List.dropWhile_suffix (kB 4)).length_le
theorem trimL_le (l : List UInt8) : (trimL l).length ≤ l.length := by
  unfold trimL trimR
  rw [List.length_reverse]
  refine Nat.le_trans (List.dropWhile_suffix (kB 4)).length_le ?_
  rw [List.length_reverse]
  exact trimF_le l

theorem cut_text (l : List UInt8) (a b : Nat) : (⟨l.toArray⟩ : ByteArray).extract a b = ⟨((l.drop a).take (b - a)).toArray⟩ := by
  apply ByteArray.ext
  rw [← Array.toList_inj]
  exact Lib.extract_data ⟨l.toArray⟩ a b
theorem back_one (c : UInt8) (r : List UInt8) : (⟨(c :: r).toArray⟩ : ByteArray).extract 1 (r.length + 1) = ⟨r.toArray⟩ := by
  rw [cut_text]; simp
theorem front_one (c : UInt8) (r : List UInt8) : (⟨(r ++ [c]).toArray⟩ : ByteArray).extract 0 r.length = ⟨r.toArray⟩ := by
  rw [cut_text]; simp
set_option maxRecDepth 100000 in
theorem ttrim_any (g : Nat) (l : List UInt8) (hl : l.length ≤ 140737488351232) (w : World) (h : Tab w g kindN) :
    Calls Try.prog 20 #[.pointer (some ⟨g, 0, none⟩), .string ⟨l.toArray⟩] w fun e w' => e = .returned (.string ⟨(trimL l).toArray⟩) ∧ w' = w := by
  have IS := Lib.hid (fun c => is_any g 4 c (by decide) w h)
  clear h
  go_enter Try.func20, Try.ntmps20
  go_upto_block 0 with fail
  go_cut [1] (fun i wx => ∃ r : List UInt8, i = .string ⟨r.toArray⟩ ∧ Hid (r.length ≤ l.length ∧ trimF l = r) ∧ Hid (wx = w))
  case first =>
    go_wp2_with fail
    go_loop [1] (fun i => ∃ r : List UInt8, i = .string ⟨r.toArray⟩ ∧ Hid (r.length ≤ l.length ∧ trimF l = trimF r)) (fun i => match i with | .string b => b.size | _ => 0)
    case atStart => exact ⟨l, rfl, Lib.hid ⟨Nat.le_refl _, rfl⟩⟩
    case round =>
      obtain ⟨r, rfl, HP⟩ := hrel
      cases r with
      | nil =>
        go_wp2
        go_meet
        exact ⟨[], rfl, Lib.hid ⟨Nat.zero_le _, HP.out.2⟩, Lib.hid rfl⟩
      | cons c r =>
        have CI := Lib.hid (IS.out c)
        have q : ((c :: r).isEmpty) = false := rfl
        have qe : ((c :: r) == ([] : List UInt8)) = false := rfl
        cases hp : kB 4 c with
        | true =>
          rw [hp] at CI
          have HP2 := Lib.hid (show r.length ≤ l.length ∧ trimF l = trimF r from ⟨by have := HP.out.1; rw [List.length_cons] at this; omega, by rw [HP.out.2, trimF_yes hp]⟩)
          clear hp HP
          go_wp2_with fail
          refine CI.out.mono ?_; rintro e w1 ⟨rfl, rfl⟩
          go_wp2
          go_round
          case rel => exact ⟨r, by rw [back_one c r], HP2⟩
          case measure => rw [back_one c r]; show r.length < (c :: r).length; simp
        | false =>
          rw [hp] at CI
          have HP2 := Lib.hid (show (c :: r).length ≤ l.length ∧ trimF l = c :: r from ⟨HP.out.1, by rw [HP.out.2, trimF_no hp]⟩)
          clear hp HP
          go_wp2_with fail
          refine CI.out.mono ?_; rintro e w1 ⟨rfl, rfl⟩
          go_wp2
          go_meet
          exact ⟨c :: r, rfl, HP2, Lib.hid rfl⟩
  case rest =>
    obtain ⟨m, rfl, HM, HW⟩ := hcut
    have hwc := HW.out
    subst hwc
    clear HW
    go_upto_region 3 with fail
    go_loop [1] (fun i => ∃ r : List UInt8, i = .string ⟨r.toArray⟩ ∧ Hid (r.length ≤ l.length ∧ trimR m = trimR r)) (fun i => match i with | .string b => b.size | _ => 0)
    case atStart => exact ⟨m, rfl, Lib.hid ⟨HM.out.1, rfl⟩⟩
    case round =>
      obtain ⟨r0, rfl, HP⟩ := hrel
      by_cases hr : r0 = []
      · subst hr
        have EV := Lib.hid (show trimL l = [] from by unfold trimL; rw [HM.out.2, HP.out.2, trimR_nil])
        go_wp2
        go_ret
        exact ⟨by rw [EV.out]; rfl, rfl⟩
      · obtain ⟨r, c, rfl⟩ := last_split hr
        have hz : (⟨(r ++ [c]).toArray⟩ : ByteArray).size = r.length + 1 := by show (r ++ [c]).length = _; simp
        have CI := Lib.hid (IS.out ((r ++ [c])[r.length]'(by simp)))
        rw [show kB 4 ((r ++ [c])[r.length]'(by simp)) = kB 4 c from by simp] at CI
        have q : ((r ++ [c]).isEmpty) = false := by simp
        have qe : ((r ++ [c]) == ([] : List UInt8)) = false := by simp
        have x1 : ((r.length : Int) + 1) - 1 = (r.length : Int) := by omega
        have hlr : r.length + 1 ≤ l.length := by have := HP.out.1; rw [List.length_append] at this; exact this
        have x2 := IntWalk.i64_in ((r.length : Int)) (by omega)
        have x3 : (r.length : Int) < (r.length : Int) + 1 := by omega
        clear hr
        cases hp : kB 4 c with
        | true =>
          rw [hp] at CI
          have HP2 := Lib.hid (show r.length ≤ l.length ∧ trimR m = trimR r from ⟨by omega, by rw [HP.out.2, trimR_yes hp]⟩)
          clear hp HP
          go_wp2_with fail
          refine CI.out.mono ?_; rintro e w1 ⟨rfl, rfl⟩
          go_wp2
          go_round
          case rel => exact ⟨r, by rw [front_one c r], HP2⟩
          case measure => rw [front_one c r]; show r.length < (r ++ [c]).length; simp
        | false =>
          rw [hp] at CI
          have EV := Lib.hid (show trimL l = r ++ [c] from by unfold trimL; rw [HM.out.2, HP.out.2, trimR_no hp])
          clear hp HP
          go_wp2_with fail
          refine CI.out.mono ?_; rintro e w1 ⟨rfl, rfl⟩
          go_wp2
          go_ret
          exact ⟨by rw [EV.out]; rfl, rfl⟩
end Go.Proofs.Ytfkfnmoilagahaa.Lx
