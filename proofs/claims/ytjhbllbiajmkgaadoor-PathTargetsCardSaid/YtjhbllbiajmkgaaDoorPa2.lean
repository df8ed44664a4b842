/- Package strconv's ParseUint at base 16, of two bytes; package path's first. Conditions: those that each states. -/
import Derived.Test.YtjhbllbiajmkgaaDoorPa1
namespace Go.Proofs.YtjhbllbiajmkgaaDoor.Pt
open Go.ChangeShapes Go.WideShapes Go.ChangeAt Go.RowKit Go.Deep
set_option linter.unusedVariables false
theorem low_val (c : UInt8) : bits .or .u8 (c.toNat : Int) 32 = ((c.toNat ||| 32 : Nat) : Int) := by
  have h : ∀ k : Fin 256, bits .or .u8 ((k.1 : Nat) : Int) 32 = ((k.1 ||| 32 : Nat) : Int) := by decide +kernel
  exact h ⟨c.toNat, c.toNat_lt⟩
theorem hexV_dig (c : UInt8) (h : 48 ≤ c.toNat ∧ c.toNat ≤ 57) : hexV c = some (c.toNat - 48) := by
  unfold hexV
  rw [if_pos (show 48 ≤ c ∧ c ≤ 57 from ⟨UInt8.le_iff_toNat_le.2 (by simpa using h.1), UInt8.le_iff_toNat_le.2 (by simpa using h.2)⟩)]
theorem hexV_let (c : UInt8) (h : ¬ (48 ≤ c.toNat ∧ c.toNat ≤ 57)) : hexV c = if 97 ≤ (c.toNat ||| 32) ∧ (c.toNat ||| 32) ≤ 102 then some ((c.toNat ||| 32) - 87) else none := by
  have h1 : ∀ k : Fin 256, ¬ (48 ≤ k.1 ∧ k.1 ≤ 57) → hexV (UInt8.ofNat k.1) = if 97 ≤ (k.1 ||| 32) ∧ (k.1 ||| 32) ≤ 102 then some ((k.1 ||| 32) - 87) else none := by decide +kernel
  have := h1 ⟨c.toNat, c.toNat_lt⟩ h
  simpa using this
theorem hexV_lt {c : UInt8} {x : Nat} (h : hexV c = some x) : x < 16 := by
  by_cases hd : 48 ≤ c.toNat ∧ c.toNat ≤ 57
  · rw [hexV_dig c hd] at h
    injection h with h
    omega
  · rw [hexV_let c hd] at h
    split at h
    · injection h with h; omega
    · cases h
theorem or_lt {k : Nat} (h : k < 256) : (k ||| 32) < 256 := Nat.or_lt_two_pow (n := 8) h (by decide)
theorem lower_c (c : UInt8) (w : World) : Calls Tryd.prog 42 #[.int .u8 (c.toNat : Int)] w fun e w' => e = .returned (.int .u8 ((c.toNat ||| 32 : Nat) : Int)) ∧ w' = w := by
  have := Tryd.internal_strconv_lower (c.toNat : Int) w
  rw [low_val] at this
  exact this
/-- What internal ParseUint answers. -/
def hexAns (a b : UInt8) : Value := match hexV a, hexV b with | some x, some y => .tuple #[.int .u64 ((x * 16 + y : Nat) : Int), .nilIface] | _, _ => .tuple #[.int .u64 0, .iface 57 (.int .i64 2)]
set_option maxRecDepth 1000000 in
set_option maxHeartbeats 4000000 in
theorem inner16 (a b : UInt8) (w : World) :
    Calls Tryd.prog 35 #[.string ⟨[a, b].toArray⟩, .int .i64 16, .int .i64 8] w fun e w' => e = .returned (hexAns a b) ∧ Below w.heap.size w w' := by
  have hcv := Lib.run_convert_string_bytes (P := Tryd.prog) w 9 37 5 ⟨[a, b].toArray⟩ Tryd.underlying9 Tryd.underlying37 Tryd.underlying5
  have hsz : (⟨[a, b].toArray⟩ : ByteArray).size = 2 := rfl
  have c0 := Lib.bytesWorld_cell w 5 ⟨[a, b].toArray⟩ 0 (by rw [hsz]; decide)
  have c1 := Lib.bytesWorld_cell w 5 ⟨[a, b].toArray⟩ 1 (by rw [hsz]; decide)
  have bw := Lib.hid (Go.Joins.below_bytesWorld w.heap.size w 5 ⟨[a, b].toArray⟩ (Nat.le_refl _))
  rw [hsz] at hcv
  generalize grownCap w 2 0 5 = cp at hcv
  generalize Lib.bytesWorld w 5 ⟨[a, b].toArray⟩ = W1 at *
  simp at c0 c1
  go_enter Tryd.func35, Tryd.ntmps35
  go_wp2
  go_loop [12, 13, 15, 16, 17, 101] (fun u n _ _ _ i => ∃ (j v : Nat), j ≤ 2 ∧ v < 256 ∧ i = .int .i64 (j : Int) ∧ u = .bool false ∧ n = .int .u64 (v : Int) ∧ (j = 1 → v < 16) ∧ (j = 0 → v = 0) ∧ Hid ((j = 0 ∧ v = 0) ∨ (j = 1 ∧ hexV a = some v) ∨ (j = 2 ∧ ∃ x y, hexV a = some x ∧ hexV b = some y ∧ v = x * 16 + y))) (fun _ _ _ _ _ i => 2 - (intOf i).toNat)
  case atStart => exact ⟨0, 0, by omega, by omega, rfl, rfl, rfl, fun _ => by omega, fun _ => rfl, Lib.hid (.inl ⟨rfl, rfl⟩)⟩
  case round =>
    obtain ⟨j, v, hj, hv256, rfl, rfl, rfl, hv1, hv0, HV⟩ := hrel
    by_cases hlt : j < 2
    · obtain ⟨c, hcx, hno, hyes⟩ : ∃ c : UInt8, W1.cell? ⟨w.heap.size, j, none⟩ = some (.int .u8 (c.toNat : Int)) ∧ (hexV c = none → hexAns a b = .tuple #[.int .u64 0, .iface 57 (.int .i64 2)]) ∧
          (∀ x, hexV c = some x → ((j + 1 = 1 ∧ hexV a = some (v * 16 + x)) ∨ (j + 1 = 2 ∧ ∃ x' y, hexV a = some x' ∧ hexV b = some y ∧ v * 16 + x = x' * 16 + y)) ∧ v < 16) := by
        have h2 : j = 0 ∨ j = 1 := by omega
        rcases h2 with rfl | rfl
        · have hv := hv0 rfl
          subst hv
          exact ⟨a, c0, fun h => by unfold hexAns; rw [h], fun x hx => ⟨.inl ⟨rfl, by simpa using hx⟩, by omega⟩⟩
        · obtain hva : hexV a = some v := by
            rcases HV.out with ⟨h, _⟩ | ⟨_, h⟩ | ⟨h, _⟩
            · omega
            · exact h
            · omega
          exact ⟨b, c1, fun h => by unfold hexAns; rw [h, hva], fun x hx => ⟨.inr ⟨rfl, v, x, hva, hx, rfl⟩, hv1 rfl⟩⟩
      have HNO := Lib.hid hno
      have HYES := Lib.hid hyes
      have hlt' : (j : Int) < 2 := by omega
      have j0 : (0 : Int) ≤ j := by omega
      have x2 := IntWalk.i64_in ((j : Int) + 1) (by omega)
      have hc256 := c.toNat_lt
      clear hno hyes c0 c1 hcv HV hv1 hv0
      by_cases hd : 48 ≤ c.toNat ∧ c.toNat ≤ 57
      · obtain ⟨x, hx⟩ : ∃ x, c.toNat = 48 + x := ⟨c.toNat - 48, by omega⟩
        have hxv : hexV c = some x := by rw [hexV_dig c hd]; congr 1; omega
        obtain ⟨hst, hv16⟩ := HYES.out x hxv
        have HST := Lib.hid hst
        rw [hx] at hcx
        have hx10 : x < 10 := by omega
        clear hst hxv hd HYES HNO hx hc256
        have hsub : (48 : Int) + (x : Int) - 48 = x := by omega
        have y0 : ¬ (1152921504606846976 : Int) ≤ (v : Int) := by omega
        have y1 : ¬ ((v : Int) * 16 + x < (v : Int) * 16) := by omega
        have y2 : ¬ ((255 : Int) < (v : Int) * 16 + x) := by omega
        go_wp2
        go_round
        case rel => exact ⟨j + 1, v * 16 + x, by omega, by omega, by simp, rfl, by simp, (fun h => by rcases HST.out with ⟨_, h1⟩ | ⟨h1, _⟩; exact hexV_lt h1; omega), (fun h => by omega), Lib.hid (.inr HST.out)⟩
        case measure => simp [intOf]; omega
      · have LO := Lib.hid (lower_c c)
        have HL := hexV_let c hd
        have hLlt := or_lt hc256
        rcases (by omega : c.toNat < 48 ∨ 57 < c.toNat) with hs | hs
        · by_cases hlet : 97 ≤ (c.toNat ||| 32) ∧ (c.toNat ||| 32) ≤ 122
          · obtain ⟨x, hx⟩ : ∃ x, (c.toNat ||| 32) = 87 + x := ⟨(c.toNat ||| 32) - 87, by omega⟩
            have hq : c.toNat ≠ 95 := by rintro h; rw [h] at hlet; revert hlet; decide
            by_cases hx16 : x < 16
            · have hxv : hexV c = some x := by rw [HL, if_pos ⟨by omega, by omega⟩]; congr 1; omega
              obtain ⟨hst, hv16⟩ := HYES.out x hxv
              have HST := Lib.hid hst
              clear hst hxv hd HYES HNO HL
              have d1 : ¬ (48 : Int) ≤ (c.toNat : Int) := by omega
              have d2 : (c.toNat : Int) ≤ 57 := by omega
              rw [hx] at LO
              have q95 : ((c.toNat : Int) == 95) = false := by rw [beq_eq_false_iff_ne]; omega
              clear hq
              go_wp2_with fail
              refine (LO.out _).mono ?_; rintro e wq ⟨rfl, rfl⟩
              go_wp2_with fail
              refine (LO.out _).mono ?_; rintro e wq ⟨rfl, rfl⟩
              go_wp2_with fail
              refine (LO.out _).mono ?_; rintro e wq ⟨rfl, rfl⟩
              go_upto_region 46 with fail
              have z1 : (87 : Int) + (x : Int) - 97 + 10 = x := by omega
              simp only [z1]
              clear z1 hcx LO
              have hxx : (x : Int) < 16 := by omega
              have y0 : ¬ (1152921504606846976 : Int) ≤ (v : Int) := by omega
              have y1 : ¬ ((v : Int) * 16 + x < (v : Int) * 16) := by omega
              have y2 : ¬ ((255 : Int) < (v : Int) * 16 + x) := by omega
              go_wp2
              go_round
              case rel => exact ⟨j + 1, v * 16 + x, by omega, by omega, by simp, rfl, by simp, (fun h => by rcases HST.out with ⟨_, h1⟩ | ⟨h1, _⟩; exact hexV_lt h1; omega), (fun h => by omega), Lib.hid (.inr HST.out)⟩
              case measure => simp [intOf]; omega
            · have EV := Lib.hid (HNO.out (by rw [HL, if_neg (by omega)]))
              clear hd HYES HNO HL
              have d1 : ¬ (48 : Int) ≤ (c.toNat : Int) := by omega
              have d2 : (c.toNat : Int) ≤ 57 := by omega
              rw [hx] at LO
              have q95 : ((c.toNat : Int) == 95) = false := by rw [beq_eq_false_iff_ne]; omega
              clear hq
              go_wp2_with fail
              refine (LO.out _).mono ?_; rintro e wq ⟨rfl, rfl⟩
              go_wp2_with fail
              refine (LO.out _).mono ?_; rintro e wq ⟨rfl, rfl⟩
              go_wp2_with fail
              refine (LO.out _).mono ?_; rintro e wq ⟨rfl, rfl⟩
              go_upto_region 46 with fail
              have z1 : (87 : Int) + (x : Int) - 97 + 10 = x := by omega
              simp only [z1]
              clear z1 hcx LO
              have hxx : ¬ (x : Int) < 16 := by omega
              go_wp2
              go_ret2
              exact ⟨by rw [EV.out]; rfl, bw.out⟩
          · rcases (by omega : (c.toNat ||| 32) < 97 ∨ 122 < (c.toNat ||| 32)) with hL | hL
            · have hq : c.toNat ≠ 95 := by rintro h; rw [h] at hL; revert hL; decide
              have EV := Lib.hid (HNO.out (by rw [HL, if_neg (by omega)]))
              clear hd HYES HNO HL
              have d1 : ¬ (48 : Int) ≤ (c.toNat : Int) := by omega
              have d2 : (c.toNat : Int) ≤ 57 := by omega
              generalize c.toNat ||| 32 = L at *
              have q95 : ((c.toNat : Int) == 95) = false := by rw [beq_eq_false_iff_ne]; omega
              clear hq
              have g97 : ¬ (97 : Int) ≤ (L : Int) := by omega
              clear hlet
              go_wp2_with fail
              refine (LO.out _).mono ?_; rintro e wq ⟨rfl, rfl⟩
              go_wp2
              go_ret2
              exact ⟨by rw [EV.out]; rfl, bw.out⟩
            · by_cases hq : c.toNat = 95
              · have EV := Lib.hid (HNO.out (by rw [HL, if_neg (by omega)]))
                clear hd HYES HNO HL
                have d1 : ¬ (48 : Int) ≤ (c.toNat : Int) := by omega
                have d2 : (c.toNat : Int) ≤ 57 := by omega
                generalize c.toNat ||| 32 = L at *
                have q95 : ((c.toNat : Int) == 95) = true := by rw [beq_iff_eq]; omega
                clear hq
                have g97 : (97 : Int) ≤ (L : Int) := by omega
                have g122 : ¬ (L : Int) ≤ 122 := by omega
                clear hlet
                go_wp2_with fail
                refine (LO.out _).mono ?_; rintro e wq ⟨rfl, rfl⟩
                go_wp2_with fail
                refine (LO.out _).mono ?_; rintro e wq ⟨rfl, rfl⟩
                go_wp2
                go_ret2
                exact ⟨by rw [EV.out]; rfl, bw.out⟩
              · have EV := Lib.hid (HNO.out (by rw [HL, if_neg (by omega)]))
                clear hd HYES HNO HL
                have d1 : ¬ (48 : Int) ≤ (c.toNat : Int) := by omega
                have d2 : (c.toNat : Int) ≤ 57 := by omega
                generalize c.toNat ||| 32 = L at *
                have q95 : ((c.toNat : Int) == 95) = false := by rw [beq_eq_false_iff_ne]; omega
                clear hq
                have g97 : (97 : Int) ≤ (L : Int) := by omega
                have g122 : ¬ (L : Int) ≤ 122 := by omega
                clear hlet
                go_wp2_with fail
                refine (LO.out _).mono ?_; rintro e wq ⟨rfl, rfl⟩
                go_wp2_with fail
                refine (LO.out _).mono ?_; rintro e wq ⟨rfl, rfl⟩
                go_wp2
                go_ret2
                exact ⟨by rw [EV.out]; rfl, bw.out⟩
        · by_cases hlet : 97 ≤ (c.toNat ||| 32) ∧ (c.toNat ||| 32) ≤ 122
          · obtain ⟨x, hx⟩ : ∃ x, (c.toNat ||| 32) = 87 + x := ⟨(c.toNat ||| 32) - 87, by omega⟩
            have hq : c.toNat ≠ 95 := by rintro h; rw [h] at hlet; revert hlet; decide
            by_cases hx16 : x < 16
            · have hxv : hexV c = some x := by rw [HL, if_pos ⟨by omega, by omega⟩]; congr 1; omega
              obtain ⟨hst, hv16⟩ := HYES.out x hxv
              have HST := Lib.hid hst
              clear hst hxv hd HYES HNO HL
              have d1 : (48 : Int) ≤ (c.toNat : Int) := by omega
              have d2 : ¬ (c.toNat : Int) ≤ 57 := by omega
              rw [hx] at LO
              have q95 : ((c.toNat : Int) == 95) = false := by rw [beq_eq_false_iff_ne]; omega
              clear hq
              go_wp2_with fail
              refine (LO.out _).mono ?_; rintro e wq ⟨rfl, rfl⟩
              go_wp2_with fail
              refine (LO.out _).mono ?_; rintro e wq ⟨rfl, rfl⟩
              go_wp2_with fail
              refine (LO.out _).mono ?_; rintro e wq ⟨rfl, rfl⟩
              go_upto_region 46 with fail
              have z1 : (87 : Int) + (x : Int) - 97 + 10 = x := by omega
              simp only [z1]
              clear z1 hcx LO
              have hxx : (x : Int) < 16 := by omega
              have y0 : ¬ (1152921504606846976 : Int) ≤ (v : Int) := by omega
              have y1 : ¬ ((v : Int) * 16 + x < (v : Int) * 16) := by omega
              have y2 : ¬ ((255 : Int) < (v : Int) * 16 + x) := by omega
              go_wp2
              go_round
              case rel => exact ⟨j + 1, v * 16 + x, by omega, by omega, by simp, rfl, by simp, (fun h => by rcases HST.out with ⟨_, h1⟩ | ⟨h1, _⟩; exact hexV_lt h1; omega), (fun h => by omega), Lib.hid (.inr HST.out)⟩
              case measure => simp [intOf]; omega
            · have EV := Lib.hid (HNO.out (by rw [HL, if_neg (by omega)]))
              clear hd HYES HNO HL
              have d1 : (48 : Int) ≤ (c.toNat : Int) := by omega
              have d2 : ¬ (c.toNat : Int) ≤ 57 := by omega
              rw [hx] at LO
              have q95 : ((c.toNat : Int) == 95) = false := by rw [beq_eq_false_iff_ne]; omega
              clear hq
              go_wp2_with fail
              refine (LO.out _).mono ?_; rintro e wq ⟨rfl, rfl⟩
              go_wp2_with fail
              refine (LO.out _).mono ?_; rintro e wq ⟨rfl, rfl⟩
              go_wp2_with fail
              refine (LO.out _).mono ?_; rintro e wq ⟨rfl, rfl⟩
              go_upto_region 46 with fail
              have z1 : (87 : Int) + (x : Int) - 97 + 10 = x := by omega
              simp only [z1]
              clear z1 hcx LO
              have hxx : ¬ (x : Int) < 16 := by omega
              go_wp2
              go_ret2
              exact ⟨by rw [EV.out]; rfl, bw.out⟩
          · rcases (by omega : (c.toNat ||| 32) < 97 ∨ 122 < (c.toNat ||| 32)) with hL | hL
            · have hq : c.toNat ≠ 95 := by rintro h; rw [h] at hL; revert hL; decide
              have EV := Lib.hid (HNO.out (by rw [HL, if_neg (by omega)]))
              clear hd HYES HNO HL
              have d1 : (48 : Int) ≤ (c.toNat : Int) := by omega
              have d2 : ¬ (c.toNat : Int) ≤ 57 := by omega
              generalize c.toNat ||| 32 = L at *
              have q95 : ((c.toNat : Int) == 95) = false := by rw [beq_eq_false_iff_ne]; omega
              clear hq
              have g97 : ¬ (97 : Int) ≤ (L : Int) := by omega
              clear hlet
              go_wp2_with fail
              refine (LO.out _).mono ?_; rintro e wq ⟨rfl, rfl⟩
              go_wp2
              go_ret2
              exact ⟨by rw [EV.out]; rfl, bw.out⟩
            · by_cases hq : c.toNat = 95
              · have EV := Lib.hid (HNO.out (by rw [HL, if_neg (by omega)]))
                clear hd HYES HNO HL
                have d1 : (48 : Int) ≤ (c.toNat : Int) := by omega
                have d2 : ¬ (c.toNat : Int) ≤ 57 := by omega
                generalize c.toNat ||| 32 = L at *
                have q95 : ((c.toNat : Int) == 95) = true := by rw [beq_iff_eq]; omega
                clear hq
                have g97 : (97 : Int) ≤ (L : Int) := by omega
                have g122 : ¬ (L : Int) ≤ 122 := by omega
                clear hlet
                go_wp2_with fail
                refine (LO.out _).mono ?_; rintro e wq ⟨rfl, rfl⟩
                go_wp2_with fail
                refine (LO.out _).mono ?_; rintro e wq ⟨rfl, rfl⟩
                go_wp2
                go_ret2
                exact ⟨by rw [EV.out]; rfl, bw.out⟩
              · have EV := Lib.hid (HNO.out (by rw [HL, if_neg (by omega)]))
                clear hd HYES HNO HL
                have d1 : (48 : Int) ≤ (c.toNat : Int) := by omega
                have d2 : ¬ (c.toNat : Int) ≤ 57 := by omega
                generalize c.toNat ||| 32 = L at *
                have q95 : ((c.toNat : Int) == 95) = false := by rw [beq_eq_false_iff_ne]; omega
                clear hq
                have g97 : (97 : Int) ≤ (L : Int) := by omega
                have g122 : ¬ (L : Int) ≤ 122 := by omega
                clear hlet
                go_wp2_with fail
                refine (LO.out _).mono ?_; rintro e wq ⟨rfl, rfl⟩
                go_wp2_with fail
                refine (LO.out _).mono ?_; rintro e wq ⟨rfl, rfl⟩
                go_wp2
                go_ret2
                exact ⟨by rw [EV.out]; rfl, bw.out⟩
    · have hge : ¬ (j : Int) < 2 := by omega
      have hjk : j = 2 := by omega
      subst hjk
      have EV := Lib.hid (show hexAns a b = .tuple #[.int .u64 (v : Int), .nilIface] from by
        rcases HV.out with ⟨h, _⟩ | ⟨h, _⟩ | ⟨_, x, y, h1, h2, h3⟩
        · omega
        · omega
        · unfold hexAns; rw [h1, h2, h3])
      go_wp2
      go_ret2
      exact ⟨by rw [EV.out]; rfl, bw.out⟩
/-- What the library's calls read. -/
def VarsP (w : World) : Prop := ∃ ev, w.cell? ⟨3, 0, none⟩ = some ev ∧ (ev = .nilIface ∨ ∃ te pe, ev = .iface te pe)
theorem VarsP.lt {w : World} (h : VarsP w) : 3 < w.heap.size := by obtain ⟨ev, h1, _⟩ := h; exact World.block_lt_of_cell? w _ h1
theorem VarsP.below {w w' : World} (h : VarsP w) (k : Below w.heap.size w w') : VarsP w' := by
  obtain ⟨ev, h1, h2⟩ := h
  exact ⟨ev, (k.cell (p := ⟨3, 0, none⟩) (World.block_lt_of_cell? w _ h1)).trans h1, h2⟩
theorem VarsP.belowN {w w' : World} {B : Nat} (h : VarsP w) (hB : 3 < B) (k : Below B w w') : VarsP w' := by
  obtain ⟨ev, h1, h2⟩ := h
  refine ⟨ev, ?_, h2⟩
  rw [World.cell?_of_block (w := w) (w' := w') (a := ⟨3, 0, none⟩) (k.block _ hB)]
  exact h1
theorem VarsP.drewN {w : World} (h : VarsP w) (n : Nat) : VarsP (w.drewN n) := h
theorem toErr (a b : UInt8) (W : World) (hW : VarsP W) : Calls Tryd.prog 36 #[.string ⟨#[80, 97, 114, 115, 101, 85, 105, 110, 116]⟩, .string ⟨[a, b].toArray⟩, .int .i64 16, .int .i64 8, .iface 57 (.int .i64 2)] W fun e w' => (∃ N, e = .returned (.iface 59 (.pointer (some ⟨N, 0, none⟩)))) ∧ Below W.heap.size W w' := by
  obtain ⟨ev, h1, h2⟩ := hW
  exact (Tryd.strconv_toError_syntax ⟨#[80, 97, 114, 115, 101, 85, 105, 110, 116]⟩ ⟨[a, b].toArray⟩ 16 8 ev W (show (2 : Nat) ≤ _ by decide) h1 h2).mono fun e w' ⟨N, he, _, _, hb⟩ => ⟨⟨N, he⟩, hb⟩
theorem outer16 (a b : UInt8) (w : World) (hv : VarsP w) :
    Calls Tryd.prog 29 #[.string ⟨[a, b].toArray⟩, .int .i64 16, .int .i64 8] w fun e w' => Below w.heap.size w w' ∧
      ((∃ x y, hexV a = some x ∧ hexV b = some y ∧ e = .returned (.tuple #[.int .u64 ((x * 16 + y : Nat) : Int), .nilIface])) ∨ ((hexV a = none ∨ hexV b = none) ∧ ∃ t N, e = .returned (.tuple #[.int .u64 0, .iface t (.pointer (some ⟨N, 0, none⟩))]))) := by
  have IN := Lib.hid (inner16 a b w)
  by_cases h : ∃ x y, hexV a = some x ∧ hexV b = some y
  · obtain ⟨x, y, hx, hy⟩ := h
    have e0 : hexAns a b = .tuple #[.int .u64 ((x * 16 + y : Nat) : Int), .nilIface] := by unfold hexAns; rw [hx, hy]
    rw [e0] at IN
    have H := Lib.hid (And.intro hx hy)
    clear hx hy
    go_enter Tryd.func29, Tryd.ntmps29
    go_wp2_with fail
    refine IN.out.mono ?_; rintro e w1 ⟨rfl, b1⟩
    go_wp2
    go_ret2
    exact ⟨b1, .inl ⟨x, y, H.out.1, H.out.2, by simp⟩⟩
  · have hn : hexV a = none ∨ hexV b = none := by
      cases ha : hexV a with
      | none => exact .inl rfl
      | some x =>
        cases hb : hexV b with
        | none => exact .inr rfl
        | some y => exact absurd ⟨x, y, ha, hb⟩ h
    have e0 : hexAns a b = .tuple #[.int .u64 0, .iface 57 (.int .i64 2)] := by
      unfold hexAns
      rcases hn with e | e
      · rw [e]
      · rw [e]; cases hexV a <;> rfl
    rw [e0] at IN
    clear e0 h
    have HN := Lib.hid hn
    clear hn
    have TE := Lib.hid (fun (W : World) (hW : VarsP W) => toErr a b W hW)
    go_enter Tryd.func29, Tryd.ntmps29
    go_wp2_with fail
    refine IN.out.mono ?_; rintro e w1 ⟨rfl, b1⟩
    have T1 := Lib.hid (TE.out w1 (hv.below b1))
    have B1 := Lib.hid b1
    clear TE b1
    go_wp2_with fail
    refine T1.out.mono ?_; rintro e w2 ⟨⟨N, rfl⟩, b2⟩
    go_wp2
    go_ret2
    exact ⟨B1.out.trans (b2.mono B1.out.size), .inr ⟨HN.out, _, N, rfl⟩⟩
theorem cut_str (l : List UInt8) (a b : Nat) : (⟨l.toArray⟩ : ByteArray).extract a b = ⟨((l.drop a).take (b - a)).toArray⟩ := by
  apply ByteArray.ext
  rw [← Array.toList_inj]
  exact Lib.extract_data ⟨l.toArray⟩ a b
/-- What first answers. -/
def firstAns (l : List UInt8) : Value := match firstR l with
  | some (c, r) => .tuple #[.int .u8 (c.toNat : Int), .string ⟨r.toArray⟩, .bool true]
  | none => .tuple #[.int .u8 0, .string ⟨#[]⟩, .bool false]
theorem first_plain (c : UInt8) (t : List UInt8) (hc : c ≠ 37) (hl : t.length ≤ 1000) (w : World) :
    Calls Tryd.prog 22 #[.string ⟨(c :: t).toArray⟩] w fun e w' => e = .returned (.tuple #[.int .u8 (c.toNat : Int), .string ⟨t.toArray⟩, .bool true]) ∧ Below w.heap.size w w' := by
  have hsz : (⟨(c :: t).toArray⟩ : ByteArray).size = t.length + 1 := rfl
  have q : ((c.toNat : Int) == 37) = false := by
    rw [beq_eq_false_iff_ne]
    intro h
    exact hc (UInt8.toNat_inj.1 (by show c.toNat = 37; omega))
  have q2 : ((((⟨(c :: t).toArray⟩ : ByteArray)[0]'(by rw [hsz]; omega)).toNat : Int) != 37) = true := by
    show ((c.toNat : Int) != 37) = true
    rw [bne, q]; rfl
  have hx : (⟨(c :: t).toArray⟩ : ByteArray).extract 1 (t.length + 1) = ⟨t.toArray⟩ := by
    rw [cut_str]
    simp
  have HX := Lib.hid hx
  clear hc q hx
  go_enter Tryd.func22, Tryd.ntmps22
  go_upto_region 2 with fail
  go_region
  go_wp2
  go_ret3
  refine ⟨?_, ⟨rfl, rfl, rfl, Nat.le_refl _, fun _ _ => rfl⟩⟩
  rw [← HX.out]; rfl
theorem first_short (t : List UInt8) (hl : t.length < 2) (w : World) :
    Calls Tryd.prog 22 #[.string ⟨(37 :: t).toArray⟩] w fun e w' => e = .returned (.tuple #[.int .u8 0, .string ⟨#[]⟩, .bool false]) ∧ Below w.heap.size w w' := by
  have hsz : (⟨(37 :: t).toArray⟩ : ByteArray).size = t.length + 1 := rfl
  have q2 : ((((⟨(37 :: t).toArray⟩ : ByteArray)[0]'(by rw [hsz]; omega)).toNat : Int) != 37) = false := rfl
  have h3 : ((t.length : Int) + 1) < 3 := by omega
  go_enter Tryd.func22, Tryd.ntmps22
  go_wp2
  go_ret3
  exact ⟨rfl, Below.refl _ _⟩
def pctAns (a b : UInt8) (r : List UInt8) : Value := match twoV a b with | some x => .tuple #[.int .u8 (x.toNat : Int), .string ⟨r.toArray⟩, .bool true] | none => .tuple #[.int .u8 0, .string ⟨#[]⟩, .bool false]
theorem first_pct (a b : UInt8) (r : List UInt8) (hl : r.length ≤ 1000) (w : World) (hv : VarsP w) :
    Calls Tryd.prog 22 #[.string ⟨(37 :: a :: b :: r).toArray⟩] w fun e w' => e = .returned (pctAns a b r) ∧ Below w.heap.size w w' := by
  have hsz : (⟨(37 :: a :: b :: r).toArray⟩ : ByteArray).size = r.length + 3 := rfl
  have q2 : ((((⟨(37 :: a :: b :: r).toArray⟩ : ByteArray)[0]'(by rw [hsz]; omega)).toNat : Int) != 37) = false := rfl
  have h3 : ¬ ((r.length : Int) + 3) < 3 := by omega
  have hx : (⟨(37 :: a :: b :: r).toArray⟩ : ByteArray).extract 1 3 = ⟨[a, b].toArray⟩ := by
    rw [cut_str]; rfl
  have hy : (⟨(37 :: a :: b :: r).toArray⟩ : ByteArray).extract 3 (r.length + 3) = ⟨r.toArray⟩ := by
    rw [cut_str]
    simp
  have HX := Lib.hid hx
  have HY := Lib.hid hy
  have OU := Lib.hid (outer16 a b w hv)
  clear hx hy
  go_enter Tryd.func22, Tryd.ntmps22
  go_wp2_with fail
  rw [show (⟨(37 :: a :: b :: r).toArray⟩ : ByteArray).extract 1 3 = ⟨[a, b].toArray⟩ from HX.out]
  refine OU.out.mono ?_; rintro e w1 ⟨b1, h⟩
  have B1 := Lib.hid b1
  clear b1
  rcases h with ⟨x, y, ha, hb, rfl⟩ | ⟨hn, t, N, rfl⟩
  · have hx16 := hexV_lt ha
    have hy16 := hexV_lt hb
    by_cases h47 : 16 * x + y = 47
    · have TV := Lib.hid (show pctAns a b r = .tuple #[.int .u8 0, .string ⟨#[]⟩, .bool false] from by unfold pctAns; rw [show twoV a b = none from by unfold twoV; rw [ha, hb]; exact if_pos h47])
      have q4 : (((x * 16 + y : Nat) : Int) == 47) = true := by rw [beq_iff_eq]; omega
      generalize hz : x * 16 + y = z at *
      clear hz
      go_wp2
      go_ret3
      exact ⟨by rw [TV.out]; rfl, B1.out⟩
    · have TV := Lib.hid (show pctAns a b r = .tuple #[.int .u8 ((UInt8.ofNat (x * 16 + y)).toNat : Int), .string ⟨r.toArray⟩, .bool true] from by unfold pctAns; rw [show twoV a b = some (UInt8.ofNat (x * 16 + y)) from by unfold twoV; rw [ha, hb]; show (if 16 * x + y = 47 then _ else _) = _; rw [if_neg h47, Nat.mul_comm]])
      have q4 : (((x * 16 + y : Nat) : Int) == 47) = false := by rw [beq_eq_false_iff_ne]; omega
      have hw8 : IntKind.u8.wrap ((x * 16 + y : Nat) : Int) = ((x * 16 + y : Nat) : Int) := by
        unfold IntKind.wrap
        simp [IntKind.signed, IntKind.bits]
        omega
      have hto : (UInt8.ofNat (x * 16 + y)).toNat = x * 16 + y := by simp [UInt8.toNat_ofNat']; omega
      have HT := Lib.hid hto
      have hz256 : x * 16 + y < 256 := by omega
      clear hto
      generalize x * 16 + y = z at *
      clear h47 ha hb
      go_upto_region 8 with fail
      go_region
      go_wp2
      go_ret3
      refine ⟨?_, B1.out.trans ⟨rfl, rfl, rfl, Nat.le_refl _, fun _ _ => rfl⟩⟩
      rw [TV.out]
      rw [HT.out, ← HY.out]
      rfl
  · have tw : twoV a b = none := by
      unfold twoV
      rcases hn with e | e
      · rw [e]
      · rw [e]; cases hexV a <;> rfl
    have TV := Lib.hid (show pctAns a b r = .tuple #[.int .u8 0, .string ⟨#[]⟩, .bool false] from by unfold pctAns; rw [tw])
    clear tw
    clear hn
    go_wp2
    go_ret3
    exact ⟨by rw [TV.out]; rfl, B1.out⟩
theorem first_any (l : List UInt8) (hne : l ≠ []) (hl : l.length ≤ 1000) (w : World) (hv : VarsP w) :
    Calls Tryd.prog 22 #[.string ⟨l.toArray⟩] w fun e w' => e = .returned (firstAns l) ∧ Below w.heap.size w w' := by
  cases l with
  | nil => exact absurd rfl hne
  | cons c t =>
    have hl' : t.length ≤ 1000 := by simp at hl; omega
    by_cases hc : c = 37
    · subst hc
      match t, hl' with
      | [], _ => exact first_short [] (by decide) w
      | [x], _ => exact first_short [x] (by simp) w
      | x :: y :: r, hl' =>
        refine (first_pct x y r (by simp at hl'; omega) w hv).mono ?_
        rintro e w' ⟨rfl, h⟩
        refine ⟨?_, h⟩
        unfold firstAns pctAns
        rw [firstR_pct]
        show _ = Ending.returned (match (twoV x y).map (fun v => (v, r)) with | some (c, r) => .tuple #[.int .u8 (c.toNat : Int), .string ⟨r.toArray⟩, .bool true] | none => .tuple #[.int .u8 0, .string ⟨#[]⟩, .bool false])
        cases twoV x y <;> rfl
    · refine (first_plain c t hc hl' w).mono ?_
      rintro e w' ⟨rfl, h⟩
      refine ⟨?_, h⟩
      unfold firstAns
      rw [firstR_plain hc]
end Go.Proofs.YtjhbllbiajmkgaaDoor.Pt
