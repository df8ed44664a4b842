/- Package filter: which programs may be. Conditions: those that each states. -/
import Derived.Test.YthnpalcjfgbjeaaGreatFlt1
import Derived.Deep.LoopGhost
namespace Go.Proofs.YthnpalcjfgbjeaaGreat
open Go.ChangeShapes Go.WideShapes Go.ChangeAt Go.RowKit Go.Deep
set_option linter.unusedVariables false
theorem op_info : (Tryz.prog.info? 148).map (·.size) = some 4 := by kernel_rfl
set_option maxRecDepth 100000 in
set_option maxHeartbeats 2000000 in
theorem check_v (A : Option Addr) (c : Nat) (p : List Ins) (w : World) (hp : Prg w A p) (hmax : p.length ≤ 1000000) (v : Int) (hv : (Chk p ∧ v = 0) ∨ (¬ Chk p ∧ v = 40)) :
    Calls Tryz.prog 71 #[.slice A p.length c] w fun e w' => e = .returned (.int .i64 v) ∧ Below w.heap.size w w' := by
  have V := Lib.hid hv
  have P := Lib.hid hp
  have B0 := Lib.hid (Below.refl w.heap.size w)
  clear hv hp
  by_cases h1 : p.length < 1
  · have h1' : (p.length : Int) < 1 := by omega
    have e : v = 40 := by
      rcases V.out with h | h
      · exact absurd h.1.n1 (by omega)
      · exact h.2
    subst e
    clear V h1
    go_enter Tryz.func71, Tryz.ntmps71
    go_wp2
    go_ret
    exact ⟨rfl, B0.out⟩
  by_cases h2 : p.length > 64
  · have h1' : ¬ (p.length : Int) < 1 := by omega
    have h2' : (p.length : Int) > 64 := by omega
    have e : v = 40 := by
      rcases V.out with h | h
      · exact absurd h.1.n2 (by omega)
      · exact h.2
    subst e
    clear V h1 h2
    go_enter Tryz.func71, Tryz.ntmps71
    go_wp2
    go_ret
    exact ⟨rfl, B0.out⟩
  have h1' : ¬ (p.length : Int) < 1 := by omega
  have h2' : ¬ (p.length : Int) > 64 := by omega
  have n1 : 1 ≤ p.length := by omega
  have n2 : p.length ≤ 64 := by omega
  clear h1 h2
  go_enter Tryz.func71, Tryz.ntmps71
  go_wp2
  go_loopw [16] (fun i wr => ∃ (j : Nat), j ≤ p.length ∧ i = .int .i64 (j : Int) ∧ Below w.heap.size w wr ∧ Hid (∀ i (h : i < p.length), i < j → mayB p[i] ((p.length : Int) - 1 - i) = true)) (fun i _ => p.length - (intOf i).toNat)
  case atStart => exact ⟨0, Nat.zero_le _, rfl, B0.out, Lib.hid (fun i h h0 => absurd h0 (by omega))⟩
  case round =>
    clear B0
    obtain ⟨j, hj, rfl, hb, HM⟩ := hrel
    have HB := Lib.hid hb
    have hgs : w.heap.size ≤ wr.heap.size := hb.size
    have P1 := Lib.hid (P.out.new hb)
    clear hb
    by_cases hlt : j < p.length
    · have hlt' : (j : Int) < (p.length : Int) := by omega
      have j0 : (0 : Int) ≤ (j : Int) := by omega
      have xj := IntWalk.i64_in ((j : Int) + 1) (by omega)
      have x1 := IntWalk.i64_in ((p.length : Int) - 1) (by omega)
      have x2 := IntWalk.i64_in ((p.length : Int) - 1 - (j : Int)) (by omega)
      obtain ⟨b, o, rfl, hbl, hr⟩ := P1.out j hlt
      have LD := Lib.hid (show wr.rangeAt b (o + j * 4) [.int .i64 p[j].code, .int .u32 p[j].k, .int .i64 p[j].t, .int .i64 p[j].f] from hr)
      have HA := Lib.hid (HB.out.trans (((Below.refl wr.heap.size wr).alloc (Nat.le_refl _) (.cells #[.int .i64 p[j].code, .int .u32 p[j].k, .int .i64 p[j].t, .int .i64 p[j].f] 148)).mono hgs))
      have HSZ : w.heap.size ≤ (wr.alloc (.cells #[.int .i64 p[j].code, .int .u32 p[j].k, .int .i64 p[j].t, .int .i64 p[j].f] 148)).heap.size := by have := HA.out.size; exact this
      have HSZ := Lib.hid HSZ
      have ST := Lib.hid (fun (v : Bool) (hv : v = mayB p[j] ((p.length : Int) - 1 - j)) (w : World) => stand_v p[j] ((p.length : Int) - 1 - j) v hv w)
      have HM2 := Lib.hid (fun (hm : mayB p[j] ((p.length : Int) - 1 - j) = true) i (h : i < p.length) (hi : i < j + 1) => show mayB p[i] ((p.length : Int) - 1 - i) = true from by
        by_cases e : i = j
        · subst e; exact hm
        · exact HM.out i h (by omega))
      have NO := Lib.hid (fun (hm : mayB p[j] ((p.length : Int) - 1 - j) = false) => show v = 40 from by
        rcases V.out with h | h
        · have := h.1.may j hlt
          rw [hm] at this; cases this
        · exact h.2)
      generalize hmv : mayB p[j] ((p.length : Int) - 1 - j) = mv at *
      have ST := Lib.hid (fun w => ST.out mv rfl w)
      generalize p[j].code = qc at *
      generalize p[j].k = qk at *
      generalize p[j].t = qt at *
      generalize p[j].f = qf at *
      clear hr hmv
      cases mv with
      | true =>
        have HM3 := Lib.hid (HM2.out rfl)
        clear NO HM HM2
        go_wp2_with (first
          | (refine wpList_load_mid rfl 148 (.tmp 19) rfl b (o + j * 4) rfl _ _ LD.out Tryz.underlying148 rfl op_info ?_)
          | fail)
        refine (ST.out _).mono ?_; rintro e w4 ⟨rfl, b4⟩
        have HB4 := Lib.hid (HA.out.trans (b4.mono HSZ.out))
        clear b4
        go_wp2
        go_roundw
        case rel => exact ⟨j + 1, by omega, by simp, HB4.out, HM3⟩
        case measure => simp [intOf]; omega
      | false =>
        have e : v = 40 := NO.out rfl
        subst e
        clear NO HM HM2 V
        go_wp2_with (first
          | (refine wpList_load_mid rfl 148 (.tmp 19) rfl b (o + j * 4) rfl _ _ LD.out Tryz.underlying148 rfl op_info ?_)
          | fail)
        refine (ST.out _).mono ?_; rintro e w4 ⟨rfl, b4⟩
        have HB4 := Lib.hid (HA.out.trans (b4.mono HSZ.out))
        clear b4
        go_wp2
        go_ret
        exact ⟨rfl, HB4.out⟩
    · have hge : ¬ (j : Int) < (p.length : Int) := by omega
      obtain rfl : j = p.length := by omega
      have hl : p.length - 1 < p.length := by omega
      have l0 : (0 : Int) ≤ (p.length : Int) - 1 := by omega
      have l1 : (p.length : Int) - 1 < (p.length : Int) := by omega
      have x1 := IntWalk.i64_in ((p.length : Int) - 1) (by omega)
      have x3 : ((p.length : Int) - 1).toNat = p.length - 1 := by omega
      obtain ⟨b, o, rfl, hbl, hr⟩ := P1.out (p.length - 1) hl
      have LD := Lib.hid (show wr.rangeAt b (o + (p.length - 1) * 4) [.int .i64 p[p.length - 1].code, .int .u32 p[p.length - 1].k, .int .i64 p[p.length - 1].t, .int .i64 p[p.length - 1].f] from hr)
      have HA := Lib.hid (HB.out.trans (((Below.refl wr.heap.size wr).alloc (Nat.le_refl _) (.cells #[.int .i64 p[p.length - 1].code, .int .u32 p[p.length - 1].k, .int .i64 p[p.length - 1].t, .int .i64 p[p.length - 1].f] 148)).mono hgs))
      have YES := Lib.hid (fun (h : p[p.length - 1].code = 7 ∨ p[p.length - 1].code = 8) => show v = 0 from by
        rcases V.out with h3 | h3
        · exact h3.2
        · exact absurd ⟨n1, n2, fun i h0 => HM.out i h0 h0, fun _ => h⟩ h3.1)
      have NO := Lib.hid (fun (h7 : ¬ p[p.length - 1].code = 7) (h8 : ¬ p[p.length - 1].code = 8) => show v = 40 from by
        rcases V.out with h3 | h3
        · rcases h3.1.last hl with h4 | h4
          · exact absurd h4 h7
          · exact absurd h4 h8
        · exact h3.2)
      generalize p[p.length - 1].code = qc at *
      generalize p[p.length - 1].k = qk at *
      generalize p[p.length - 1].t = qt at *
      generalize p[p.length - 1].f = qf at *
      clear hr HM V hj hlt
      by_cases e7 : qc = 7
      · have e : v = 0 := YES.out (.inl e7)
        subst e e7
        clear YES NO
        go_wp2_with (first
          | (refine wpList_load_mid rfl 148 (.tmp 34) rfl b (o + (p.length - 1) * 4) rfl _ _ LD.out Tryz.underlying148 rfl op_info ?_)
          | fail)
        go_ret
        exact ⟨rfl, HA.out⟩
      · by_cases e8 : qc = 8
        · have e : v = 0 := YES.out (.inr e8)
          subst e e8
          clear YES NO
          go_wp2_with (first
            | (refine wpList_load_mid rfl 148 (.tmp 34) rfl b (o + (p.length - 1) * 4) rfl _ _ LD.out Tryz.underlying148 rfl op_info ?_)
            | fail)
          go_ret
          exact ⟨rfl, HA.out⟩
        · have e : v = 40 := NO.out e7 e8
          subst e
          have m7 : (qc != 7) = true := by simpa using e7
          have m8 : (qc != 8) = true := by simpa using e8
          have n7 : (qc == 7) = false := by simpa using e7
          have n8 : (qc == 8) = false := by simpa using e8
          clear YES NO
          go_wp2_with (first
            | (refine wpList_load_mid rfl 148 (.tmp 34) rfl b (o + (p.length - 1) * 4) rfl _ _ LD.out Tryz.underlying148 rfl op_info ?_)
            | fail)
          go_ret
          exact ⟨rfl, HA.out⟩
end Go.Proofs.YthnpalcjfgbjeaaGreat
