/- The document's answers of layer 23: has, Token, Value, Trim, Lower, Number; the chapter's example. Conditions: those that each states. -/
import Derived.Test.YtfkfnmoilagahaaLx3
namespace Go.Proofs.Ytfkfnmoilagahaa.Lx
open Go.ChangeShapes Go.WideShapes Go.ChangeAt Go.RowKit Go.Deep
set_option linter.unusedVariables false
set_option linter.unusedSimpArgs false

def tokS : List UInt8 := [97, 98, 99, 100, 101, 102, 103, 104, 105, 106, 107, 108, 109, 110, 111, 112, 113, 114, 115, 116, 117, 118, 119, 120, 121, 122, 65, 66, 67, 68, 69, 70, 71, 72, 73, 74, 75, 76, 77, 78, 79, 80, 81, 82, 83, 84, 85, 86, 87, 88, 89, 90, 48, 49, 50, 51, 52, 53, 54, 55, 56, 57, 33, 35, 36, 37, 38, 39, 42, 43, 45, 46, 94, 95, 96, 124, 126]
def hasB (l : List UInt8) (c : UInt8) : Bool := l.contains c
theorem tokS_is (c : UInt8) : hasB tokS c = kB 1 c := by
  unfold hasB
  have h : ∀ i : Fin 256, tokS.contains (UInt8.ofNat i.1) = kB 1 (UInt8.ofNat i.1) := by decide +kernel
  have := h ⟨c.toNat, c.toNat_lt⟩
  simpa using this

set_option maxRecDepth 100000 in
theorem has_any (l : List UInt8) (c : UInt8) (hl : l.length ≤ 140737488351232) (w : World) :
    Calls Try.prog 19 #[.string ⟨l.toArray⟩, .int .u8 (c.toNat : Int)] w fun e w' => e = .returned (.bool (hasB l c)) ∧ w' = w := by
  have hsz : (⟨l.toArray⟩ : ByteArray).size = l.length := rfl
  go_enter Try.func19, Try.ntmps19
  go_upto_region 2 with fail
  go_loop [5] (fun i => ∃ j : Nat, j ≤ l.length ∧ i = .int .i64 (j : Int) ∧ Hid (∀ n (h : n < j) (h' : n < l.length), l[n] ≠ c)) (fun i => l.length - (intOf i).toNat)
  case atStart => exact ⟨0, Nat.zero_le _, rfl, Lib.hid (fun n h => absurd h (by omega))⟩
  case round =>
    obtain ⟨j, hj, rfl, HP⟩ := hrel
    by_cases hlt : j < l.length
    · have hlt' : (j : Int) < (l.length : Int) := by omega
      have j0 : (0 : Int) ≤ (j : Int) := by omega
      have xj := IntWalk.i64_in ((j : Int) + 1) (by omega)
      by_cases hq : l[j] = c
      · have q : ((((⟨l.toArray⟩ : ByteArray)[j]'(by rw [hsz]; exact hlt)).toNat : Int) == (c.toNat : Int)) = true := by
          show ((l[j].toNat : Int) == (c.toNat : Int)) = true
          rw [hq, beq_iff_eq]
        have EV := Lib.hid (show hasB l c = true from by unfold hasB; rw [List.contains_iff_mem, ← hq]; exact List.getElem_mem hlt)
        clear hq HP
        go_wp2
        go_ret
        exact ⟨by rw [EV.out]; rfl, rfl⟩
      · have q : ((((⟨l.toArray⟩ : ByteArray)[j]'(by rw [hsz]; exact hlt)).toNat : Int) == (c.toNat : Int)) = false := by
          show ((l[j].toNat : Int) == (c.toNat : Int)) = false
          rw [beq_eq_false_iff_ne]
          intro h
          exact hq (UInt8.toNat_inj.1 (by omega))
        have HP2 := Lib.hid (show ∀ n (h : n < j + 1) (h' : n < l.length), l[n] ≠ c from fun n h h' => by
          by_cases e : n = j
          · subst e; exact hq
          · exact HP.out n (by omega) h')
        clear hq HP
        go_wp2
        go_round
        case rel => exact ⟨j + 1, by omega, by simp, HP2⟩
        case measure => simp [intOf]; omega
    · have hge : ¬ (j : Int) < (l.length : Int) := by omega
      have EV := Lib.hid (show hasB l c = false from by
        unfold hasB
        cases h : l.contains c with
        | false => rfl
        | true =>
          exfalso
          obtain ⟨n, hn, e⟩ := List.mem_iff_getElem.1 (List.contains_iff_mem.1 h)
          exact HP.out n (by omega) hn e)
      go_wp2
      go_ret
      exact ⟨by rw [EV.out]; rfl, rfl⟩

set_option maxRecDepth 100000 in
theorem rtoken_any (l : List UInt8) (hl : l.length ≤ 140737488351232) (w : World) :
    Calls Try.prog 9 #[.string ⟨l.toArray⟩] w fun e w' => e = .returned (.bool (tokenB l)) ∧ w' = w := by
  have hsz : (⟨l.toArray⟩ : ByteArray).size = l.length := rfl
  have HA := Lib.hid (fun c => has_any tokS c (by decide) w)
  go_enter Try.func9, Try.ntmps9
  go_upto_region 2 with fail
  go_loop [3] (fun i => ∃ j : Nat, j ≤ l.length ∧ i = .int .i64 (j : Int) ∧ Hid (∀ n (h : n < j) (h' : n < l.length), kB 1 l[n] = true)) (fun i => l.length - (intOf i).toNat)
  case atStart => exact ⟨0, Nat.zero_le _, rfl, Lib.hid (fun n h => absurd h (by omega))⟩
  case round =>
    obtain ⟨j, hj, rfl, HP⟩ := hrel
    by_cases hlt : j < l.length
    · have hlt' : (j : Int) < (l.length : Int) := by omega
      have j0 : (0 : Int) ≤ (j : Int) := by omega
      have xj := IntWalk.i64_in ((j : Int) + 1) (by omega)
      have CI := Lib.hid (HA.out l[j])
      rw [tokS_is] at CI
      cases hp : kB 1 l[j] with
      | true =>
        rw [hp] at CI
        have HP2 := Lib.hid (show ∀ n (h : n < j + 1) (h' : n < l.length), kB 1 l[n] = true from fun n h h' => by
          by_cases e : n = j
          · subst e; exact hp
          · exact HP.out n (by omega) h')
        clear hp HP
        go_wp2_with fail
        refine CI.out.mono ?_; rintro e w1 ⟨rfl, rfl⟩
        go_wp2
        go_round
        case rel => exact ⟨j + 1, by omega, by simp, HP2⟩
        case measure => simp [intOf]; omega
      | false =>
        rw [hp] at CI
        have EV := Lib.hid (show tokenB l = false from by
          have : l.all (kB 1) = false := by rw [List.all_eq_false]; exact ⟨l[j], List.getElem_mem hlt, by simp [hp]⟩
          unfold tokenB; rw [this]; simp)
        clear hp HP
        go_wp2_with fail
        refine CI.out.mono ?_; rintro e w1 ⟨rfl, rfl⟩
        go_wp2
        go_ret
        exact ⟨by rw [EV.out]; rfl, rfl⟩
    · have hge : ¬ (j : Int) < (l.length : Int) := by omega
      have hal : l.all (kB 1) = true := by
        rw [List.all_eq_true]
        intro c hc
        obtain ⟨n, hn, rfl⟩ := List.mem_iff_getElem.1 hc
        exact HP.out n (by omega) hn
      by_cases hz : 0 < l.length
      · have g : (l.length : Int) > 0 := by omega
        have EV := Lib.hid (show tokenB l = true from by unfold tokenB; rw [hal]; cases l <;> simp_all)
        clear hal
        go_wp2
        go_ret
        exact ⟨by rw [EV.out]; rfl, rfl⟩
      · have g : ¬ (l.length : Int) > 0 := by omega
        have EV := Lib.hid (show tokenB l = false from by unfold tokenB; cases l <;> simp_all)
        clear hal
        go_wp2
        go_ret
        exact ⟨by rw [EV.out]; rfl, rfl⟩

theorem kB_val_iff (c : UInt8) : kB 2 c = true ↔ ¬ ((c.toNat < 32 ∧ ¬ c.toNat = 9) ∨ c.toNat = 127) := by
  rw [kB_val]
  have := c.toNat_lt
  simp only [valB, decide_eq_true_eq]
  omega
set_option maxRecDepth 100000 in
theorem rvalue_any (l : List UInt8) (hl : l.length ≤ 140737488351232) (w : World) :
    Calls Try.prog 11 #[.string ⟨l.toArray⟩] w fun e w' => e = .returned (.bool (valueB l)) ∧ w' = w := by
  have hsz : (⟨l.toArray⟩ : ByteArray).size = l.length := rfl
  go_enter Try.func11, Try.ntmps11
  go_upto_region 2 with fail
  go_loop [3] (fun i => ∃ j : Nat, j ≤ l.length ∧ i = .int .i64 (j : Int) ∧ Hid (∀ n (h : n < j) (h' : n < l.length), kB 2 l[n] = true)) (fun i => l.length - (intOf i).toNat)
  case atStart => exact ⟨0, Nat.zero_le _, rfl, Lib.hid (fun n h => absurd h (by omega))⟩
  case round =>
    obtain ⟨j, hj, rfl, HP⟩ := hrel
    by_cases hlt : j < l.length
    · have hlt' : (j : Int) < (l.length : Int) := by omega
      have j0 : (0 : Int) ≤ (j : Int) := by omega
      have xj := IntWalk.i64_in ((j : Int) + 1) (by omega)
      obtain ⟨c, hc⟩ : ∃ c, c = l[j] := ⟨_, rfl⟩
      have hw : ((((⟨l.toArray⟩ : ByteArray)[j]'(by rw [hsz]; exact hlt)).toNat : Int)) = (c.toNat : Int) := by rw [hc]; rfl
      have KV := Lib.hid (kB_val_iff c)
      have step : kB 2 c = true → Hid (∀ n (h : n < j + 1) (h' : n < l.length), kB 2 l[n] = true) := fun hp => Lib.hid fun n h h' => by
        by_cases e : n = j
        · subst e; rw [← hc]; exact hp
        · exact HP.out n (by omega) h'
      have stop : kB 2 c = false → Hid (valueB l = false) := fun hp => Lib.hid (by
        unfold valueB; rw [List.all_eq_false]; exact ⟨l[j], List.getElem_mem hlt, by rw [← hc, hp]; simp⟩)
      have STEP := Lib.hid step
      have STOP := Lib.hid stop
      clear step stop hc HP
      go_upto_region 5 with fail
      clear hw
      generalize c.toNat = x at *
      by_cases h1 : x < 32
      · have g1 : (x : Int) < 32 := by omega
        by_cases h2 : x = 9
        · subst h2
          have S := STEP.out (KV.out.2 (by omega))
          go_wp2
          go_round
          case rel => exact ⟨j + 1, by omega, by simp, S⟩
          case measure => simp [intOf]; omega
        · have g2 : ((x : Int) == 9) = false := by simp; omega
          have g3 : ¬ (x : Int) = 9 := by omega
          have EV := STOP.out (by
            cases h : kB 2 c with
            | false => rfl
            | true => exact absurd (KV.out.1 h) (by omega))
          go_wp2
          go_ret
          exact ⟨by rw [EV.out]; rfl, rfl⟩
      · have g1 : ¬ (x : Int) < 32 := by omega
        by_cases h2 : x = 127
        · subst h2
          have EV := STOP.out (by
            cases h : kB 2 c with
            | false => rfl
            | true => exact absurd (KV.out.1 h) (by omega))
          go_wp2
          go_ret
          exact ⟨by rw [EV.out]; rfl, rfl⟩
        · have g2 : ((x : Int) == 127) = false := by simp; omega
          have S := STEP.out (KV.out.2 (by omega))
          go_wp2
          go_round
          case rel => exact ⟨j + 1, by omega, by simp, S⟩
          case measure => simp [intOf]; omega
    · have hge : ¬ (j : Int) < (l.length : Int) := by omega
      have EV := Lib.hid (show valueB l = true from by
        unfold valueB
        rw [List.all_eq_true]
        intro c hc
        obtain ⟨n, hn, rfl⟩ := List.mem_iff_getElem.1 hc
        exact HP.out n (by omega) hn)
      go_wp2
      go_ret
      exact ⟨by rw [EV.out]; rfl, rfl⟩
theorem kB_bla_iff (c : UInt8) : kB 4 c = (decide (c.toNat = 32) || decide (c.toNat = 9)) := by
  rw [kB_bla, blaB]
  by_cases h : c.toNat = 32 <;> by_cases h' : c.toNat = 9 <;> simp [h, h']
set_option maxRecDepth 100000 in
theorem rtrim_any (l : List UInt8) (hl : l.length ≤ 140737488351232) (w : World) :
    Calls Try.prog 13 #[.string ⟨l.toArray⟩] w fun e w' => e = .returned (.string ⟨(trimL l).toArray⟩) ∧ w' = w := by
  go_enter Try.func13, Try.ntmps13
  go_upto_block 0 with fail
  go_cut [0] (fun i wx => ∃ r : List UInt8, i = .string ⟨r.toArray⟩ ∧ Hid (r.length ≤ l.length ∧ trimF l = r) ∧ Hid (wx = w))
  case first =>
    go_wp2_with fail
    go_loop [0] (fun i => ∃ r : List UInt8, i = .string ⟨r.toArray⟩ ∧ Hid (r.length ≤ l.length ∧ trimF l = trimF r)) (fun i => match i with | .string b => b.size | _ => 0)
    case atStart => exact ⟨l, rfl, Lib.hid ⟨Nat.le_refl _, rfl⟩⟩
    case round =>
      obtain ⟨r, rfl, HP⟩ := hrel
      cases r with
      | nil =>
        go_wp2
        go_meet
        exact ⟨[], rfl, Lib.hid ⟨Nat.zero_le _, HP.out.2⟩, Lib.hid rfl⟩
      | cons c r =>
        have hz : (⟨(c :: r).toArray⟩ : ByteArray).size = r.length + 1 := rfl
        have hp0 : (r.length : Int) + 1 > 0 := by omega
        have hw : ((((⟨(c :: r).toArray⟩ : ByteArray)[0]'(by rw [hz]; omega)).toNat : Int)) = (c.toNat : Int) := rfl
        have KB := Lib.hid (kB_bla_iff c)
        have YES := Lib.hid (fun hp : kB 4 c = true => (show r.length ≤ l.length ∧ trimF l = trimF r from ⟨by have := HP.out.1; rw [List.length_cons] at this; omega, by rw [HP.out.2, trimF_yes hp]⟩))
        have NO := Lib.hid (fun hp : kB 4 c = false => (show (c :: r).length ≤ l.length ∧ trimF l = c :: r from ⟨HP.out.1, by rw [HP.out.2, trimF_no hp]⟩))
        obtain ⟨x, hx⟩ : ∃ x : Nat, x = c.toNat := ⟨_, rfl⟩
        rw [← hx] at hw KB
        clear HP hx
        by_cases h1 : x = 32
        · have S := Lib.hid (YES.out (by rw [KB.out, h1]; rfl))
          subst h1
          go_wp2
          go_round
          case rel => exact ⟨r, by rw [back_one c r], S⟩
          case measure => rw [back_one c r]; show r.length < (c :: r).length; simp
        · have g1 : ((x : Int) == 32) = false := by simp; omega
          by_cases h2 : x = 9
          · have S := Lib.hid (YES.out (by rw [KB.out, h2]; rfl))
            subst h2
            go_wp2
            go_round
            case rel => exact ⟨r, by rw [back_one c r], S⟩
            case measure => rw [back_one c r]; show r.length < (c :: r).length; simp
          · have g2 : ((x : Int) == 9) = false := by simp; omega
            have S := Lib.hid (NO.out (by rw [KB.out]; simp [h1, h2]))
            clear h1 h2
            go_wp2
            go_meet
            exact ⟨c :: r, rfl, S, Lib.hid rfl⟩
  case rest =>
    obtain ⟨m, rfl, HM, HW⟩ := hcut
    have hwc := HW.out
    subst hwc
    clear HW
    go_upto_region 3 with fail
    go_loop [0] (fun i => ∃ r : List UInt8, i = .string ⟨r.toArray⟩ ∧ Hid (r.length ≤ l.length ∧ trimR m = trimR r)) (fun i => match i with | .string b => b.size | _ => 0)
    case atStart => exact ⟨m, rfl, Lib.hid ⟨HM.out.1, rfl⟩⟩
    case round =>
      obtain ⟨r0, rfl, HP⟩ := hrel
      by_cases hr : r0 = []
      · subst hr
        have EV := Lib.hid (show trimL l = [] from by unfold trimL; rw [HM.out.2, HP.out.2, trimR_nil])
        go_wp2
        go_ret
        exact ⟨by rw [EV.out]; rfl, rfl⟩
      · obtain ⟨r, c, rfl⟩ := last_split hr
        have hz : (⟨(r ++ [c]).toArray⟩ : ByteArray).size = r.length + 1 := by show (r ++ [c]).length = _; simp
        have hp0 : (r.length : Int) + 1 > 0 := by omega
        have hw : ((((⟨(r ++ [c]).toArray⟩ : ByteArray)[r.length]'(by rw [hz]; omega)).toNat : Int)) = (c.toNat : Int) := by
          show (((r ++ [c])[r.length]'(by simp)).toNat : Int) = _
          simp
        have KB := Lib.hid (kB_bla_iff c)
        have x1 : ((r.length : Int) + 1) - 1 = (r.length : Int) := by omega
        have hlr : r.length + 1 ≤ l.length := by have := HP.out.1; rw [List.length_append] at this; exact this
        have x2 := IntWalk.i64_in ((r.length : Int)) (by omega)
        have x3 : (r.length : Int) < (r.length : Int) + 1 := by omega
        have YES := Lib.hid (fun hp : kB 4 c = true => (show r.length ≤ l.length ∧ trimR m = trimR r from ⟨by omega, by rw [HP.out.2, trimR_yes hp]⟩))
        have NO := Lib.hid (fun hp : kB 4 c = false => (show trimL l = r ++ [c] from by unfold trimL; rw [HM.out.2, HP.out.2, trimR_no hp]))
        obtain ⟨x, hx⟩ : ∃ x : Nat, x = c.toNat := ⟨_, rfl⟩
        rw [← hx] at hw KB
        clear HP hx hr
        by_cases h1 : x = 32
        · have S := Lib.hid (YES.out (by rw [KB.out, h1]; rfl))
          subst h1
          go_wp2
          go_round
          case rel => exact ⟨r, by rw [front_one c r], S⟩
          case measure => rw [front_one c r]; show r.length < (r ++ [c]).length; simp
        · have g1 : ((x : Int) == 32) = false := by simp; omega
          by_cases h2 : x = 9
          · have S := Lib.hid (YES.out (by rw [KB.out, h2]; rfl))
            subst h2
            go_wp2
            go_round
            case rel => exact ⟨r, by rw [front_one c r], S⟩
            case measure => rw [front_one c r]; show r.length < (r ++ [c]).length; simp
          · have g2 : ((x : Int) == 9) = false := by simp; omega
            have S := Lib.hid (NO.out (by rw [KB.out]; simp [h1, h2]))
            clear h1 h2
            go_wp2
            go_ret
            exact ⟨by rw [S.out]; rfl, rfl⟩
end Go.Proofs.Ytfkfnmoilagahaa.Lx
