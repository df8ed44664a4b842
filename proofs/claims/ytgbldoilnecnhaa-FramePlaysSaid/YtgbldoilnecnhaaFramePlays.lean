/- Whatever size and calls come in, 'pantlerlaw05.FramePlays' returns true and leaves them as they were. No condition. -/
import Derived.Test.YtgbldoilnecnhaaShows
import Derived.Test.YtgbldoilnecnhaaRefNew
import Derived.Test.YtgbldoilnecnhaaRefDoAll
namespace Go.Proofs.Ytgbldoilnecnhaa.framePlays
open Go.ChangeShapes Go.WideShapes Go.ChangeAt Go.RowKit Go.Deep Fr
set_option linter.unusedVariables false


set_option maxRecDepth 100000 in
set_option maxHeartbeats 4000000 in
theorem walk (w : World) (n : Int) (wn : (Lit.int .i64 n).wf = true) (Aa : Option Addr) (na ca : Nat) (fn : Nat → Cmd) (ha : Acts w Aa na fn) :
    Calls Try.prog 3 #[.int .i64 n, .slice Aa na ca] w fun e w' => e = .returned (.bool true) ∧ Below w.heap.size w w' := by
  have HA := Lib.hid ha
  clear ha wn
  by_cases hfar : isFar na fn
  · have FAR := Lib.hid (fun W A n c fn (h : Acts W A n fn) (hf : isFar n fn) => far_any W A n c fn h true (by simp [hf]))
    have HF := Lib.hid hfar
    clear hfar
    go_enter Try.func3, Try.ntmps3
    go_wp2_with fail
    refine (alive_any _).mono ?_; rintro e w0 ⟨rfl, b0⟩
    have B0 := Lib.hid b0
    have hw0 : w.heap.size ≤ w0.heap.size := b0.size
    clear b0
    go_wp2_with fail
    refine (FAR.out _ _ _ _ _ (HA.out.older (older_below B0.out)) HF.out).mono ?_; rintro e w2 ⟨rfl, rfl⟩
    go_wp2
    go_ret
    exact ⟨rfl, B0.out⟩
  · have FAR := Lib.hid (fun W A n c fn (h : Acts W A n fn) (hf : ¬ isFar n fn) => far_any W A n c fn h false (by simp [hf]))
    have HF := Lib.hid hfar
    have hna : na ≤ 150 := by
      by_cases h : na ≤ 150
      · exact h
      · exact absurd (.inl (by omega)) hfar
    have HSZ := Lib.hid (fun i (hi : i < na) => show (fn i).s.size ≤ 1000 by
      by_cases h : (fn i).s.size ≤ 1000
      · exact h
      · exact absurd (.inr ⟨i, hi, by omega⟩) hfar)
    clear hfar
    by_cases h1 : n < 1
    · have NEW := Lib.hid (fun w => new_no n w (.inl h1))
      have g1 : ¬ n > 40 := by omega
      go_enter Try.func3, Try.ntmps3
      go_wp2_with fail
      refine (alive_any _).mono ?_; rintro e w0 ⟨rfl, b0⟩
      have B0 := Lib.hid b0
      have hw0 : w.heap.size ≤ w0.heap.size := b0.size
      clear b0
      go_wp2_with fail
      refine (FAR.out _ _ _ _ _ (HA.out.older (older_below B0.out)) HF.out).mono ?_; rintro e w2 ⟨rfl, rfl⟩
      go_wp2_with fail
      refine (NEW.out _).mono ?_; rintro e w1 ⟨rfl, rfl⟩
      go_wp2
      go_ret
      exact ⟨rfl, B0.out⟩
    · by_cases h2 : n > 256
      · have NEW := Lib.hid (fun w => new_no n w (.inr h2))
        have g1 : n > 40 := by omega
        have g2 : ¬ n ≤ 256 := by omega
        go_enter Try.func3, Try.ntmps3
        go_wp2_with fail
        refine (alive_any _).mono ?_; rintro e w0 ⟨rfl, b0⟩
        have B0 := Lib.hid b0
        have hw0 : w.heap.size ≤ w0.heap.size := b0.size
        clear b0
        go_wp2_with fail
        refine (FAR.out _ _ _ _ _ (HA.out.older (older_below B0.out)) HF.out).mono ?_; rintro e w2 ⟨rfl, rfl⟩
        go_wp2_with fail
        refine (NEW.out _).mono ?_; rintro e w1 ⟨rfl, rfl⟩
        go_wp2
        go_ret
        exact ⟨rfl, B0.out⟩
      · by_cases h3 : n > 40
        · have g2 : n ≤ 256 := by omega
          go_enter Try.func3, Try.ntmps3
          go_wp2_with fail
          refine (alive_any _).mono ?_; rintro e w0 ⟨rfl, b0⟩
          have B0 := Lib.hid b0
          have hw0 : w.heap.size ≤ w0.heap.size := b0.size
          clear b0
          go_wp2_with fail
          refine (FAR.out _ _ _ _ _ (HA.out.older (older_below B0.out)) HF.out).mono ?_; rintro e w2 ⟨rfl, rfl⟩
          go_wp2
          go_ret
          exact ⟨rfl, B0.out⟩
        · obtain ⟨m, rfl⟩ : ∃ m : Nat, n = (m : Int) := ⟨n.toNat, by omega⟩
          have m1 : 1 ≤ m := by omega
          have m2 : m ≤ 256 := by omega
          have NEW := Lib.hid (fun w => new_ok m w m1 m2)
          have RNEW := Lib.hid (fun w => RD.rnew_any m m1 m2 w)
          go_enter Try.func3, Try.ntmps3
          go_wp2_with fail
          refine (alive_any _).mono ?_; rintro e w0 ⟨rfl, b0⟩
          have B0 := Lib.hid b0
          have hw0 : w.heap.size ≤ w0.heap.size := b0.size
          clear b0
          go_wp2_with fail
          refine (FAR.out _ _ _ _ _ (HA.out.older (older_below B0.out)) HF.out).mono ?_; rintro e w2 ⟨rfl, rfl⟩
          go_wp2_with fail
          refine (NEW.out _).mono ?_; rintro e w1 ⟨rfl, t1, b1, z1⟩
          have T1 := Lib.hid t1
          have B1 := Lib.hid (B0.out.trans (b1.mono hw0))
          have hw1 : w.heap.size ≤ w1.heap.size := by omega
          clear t1 b1
          go_wp2_with fail
          refine (RNEW.out _).mono ?_; rintro e w3 ⟨rfl, ⟨bo, bh, bb, co, ch, cb, r3⟩, b3⟩
          have R3 := Lib.hid r3
          have T3 := Lib.hid (T1.out.new b3)
          have B3 := Lib.hid (B1.out.trans (b3.mono hw1))
          have hgm : w2.heap.size + 2 ≤ w1.heap.size := by omega
          clear r3 b3 T1 B1 NEW RNEW FAR HF
          generalize hgs : w2.heap.size = gs at *
          generalize hgmm : w1.heap.size = gm at *
          clear hgs hgmm B0 z1 hw1
          go_wp2
          go_loopw [8] (fun i wr => ∃ (j : Nat) (ps : List Pg), j ≤ na ∧ i = .int .i64 (j : Int) ∧ (∀ p ∈ ps, p.holds ≤ j) ∧ Tab wr gs (gs + 1) ps ∧ RefT wr gm bo bh bb co ch cb ps ∧ Below w.heap.size w wr) (fun i _ => na - (intOf i).toNat)
          case atStart => exact ⟨0, _, Nat.zero_le _, rfl, fun p hp => by rw [(List.mem_replicate.1 hp).2]; exact Nat.le_refl _, T3.out, R3.out, B3.out⟩
          case round =>
            clear T3 R3 B3
            obtain ⟨j, ps, hj, rfl, hhold, hT, hR, hbel⟩ := hrel
            have HT := Lib.hid hT
            have HR := Lib.hid hR
            have HB := Lib.hid hbel
            have HH := Lib.hid hhold
            have hgb : gm < bo ∧ gm < bh ∧ gm < bb := ⟨hR.ho, hR.hh, hR.hb⟩
            clear hT hR hbel hhold
            by_cases hlt : j < na
            · have hlt' : (j : Int) < na := by omega
              have j0 : (0 : Int) ≤ j := by omega
              have xj := IntWalk.i64_in ((j : Int) + 1) (by omega)
              obtain ⟨b, o, rfl, hbl, hr, ok⟩ := HA.out.older (older_below HB.out) j hlt
              have hss := HSZ.out j hlt
              have HAJ := Lib.hid (fun (W : World) (hb : Below w.heap.size w W) => (HA.out.older (older_below hb)) j hlt)
              generalize fn j = act at *
              obtain ⟨kind, env, f, off, q, s⟩ := act
              have hr' : wr.rangeAt b (o + j * 6) [.int .i64 kind, .int .i64 env, .int .i64 f, .int .i64 off, .int .i64 q, .string s] := hr
              have c0 : wr.cell? ⟨b, o + j * 6, none⟩ = some (.int .i64 kind) := by
                have := hr' 0 _ rfl
                rwa [Nat.add_zero] at this
              have LD := Lib.hid hr'
              have WO := Lib.hid ok.off
              have SS := Lib.hid (show s.size ≤ 1000 from hss)
              have hgsz : w.heap.size ≤ wr.heap.size := HB.out.size
              clear hr hr' ok hss
              by_cases k0 : kind < 0
              · have REL := Lib.hid (show ∃ (j' : Nat) (ps : List Pg), j' ≤ na ∧ (.int .i64 ((j : Int) + 1) : Value) = .int .i64 (j' : Int) ∧ (∀ p ∈ ps, p.holds ≤ j') ∧ Tab wr gs (gs + 1) ps ∧ RefT wr gm bo bh bb co ch cb ps ∧ Below w.heap.size w wr from
                  ⟨j + 1, ps, by omega, by simp, fun p hp => Nat.le_succ_of_le (HH.out p hp), HT.out, HR.out, HB.out⟩)
                clear LD
                go_wp2
                go_roundw
                case rel => exact REL.out
                case measure => simp [intOf]; omega
              · by_cases k7 : kind > 7
                · have REL := Lib.hid (show ∃ (j' : Nat) (ps : List Pg), j' ≤ na ∧ (.int .i64 ((j : Int) + 1) : Value) = .int .i64 (j' : Int) ∧ (∀ p ∈ ps, p.holds ≤ j') ∧ Tab wr gs (gs + 1) ps ∧ RefT wr gm bo bh bb co ch cb ps ∧ Below w.heap.size w wr from
                    ⟨j + 1, ps, by omega, by simp, fun p hp => Nat.le_succ_of_le (HH.out p hp), HT.out, HR.out, HB.out⟩)
                  clear LD
                  go_wp2
                  go_roundw
                  case rel => exact REL.out
                  case measure => simp [intOf]; omega
                · have DO := Lib.hid (do_any HT.out kind env f off q s WO.out SS.out (fun p hp => by have := HH.out p hp; omega))
                  have RDO := Lib.hid (fun (W : World) (h : RefT W gm bo bh bb co ch cb ps) => RD.refDo_any h kind env f off q s (by omega) (by omega) (fun p hp => by have := HH.out p hp; omega))
                  have TN := Lib.hid (doR_turn ps ⟨kind, env, f, off, q, s⟩)
                  generalize doR ps ⟨kind, env, f, off, q, s⟩ = r at *
                  obtain ⟨ps', m', t', e'⟩ := r
                  have HM := Lib.hid (TN.out.holds HH.out)
                  clear TN
                  go_upto_region 13 with fail
                  go_wp2_with (first
                    | (refine wpList_load_mid rfl 32 (.tmp 70) rfl b (o + j * 6) rfl [.int .i64 kind, .int .i64 env, .int .i64 f, .int .i64 off, .int .i64 q, .string s] _ LD.out Try.underlying32 rfl act_info ?_)
                    | fail)
                  refine DO.out.mono ?_; rintro e w4 ⟨rfl, t4, k4⟩
                  have T4 := Lib.hid t4
                  have R4 := Lib.hid (HR.out.chg k4 (fun i hi => by omega))
                  have b4 := HB.out.trans (k4.below hgsz (fun i hi => by omega))
                  have B4 := Lib.hid b4
                  have hw4 : w.heap.size ≤ w4.heap.size := Nat.le_trans hgsz k4.size
                  obtain ⟨b', o', e', _, hr4, _⟩ := HAJ.out _ b4
                  cases e'
                  have LD4 := Lib.hid (show w4.rangeAt b (o + j * 6) [.int .i64 kind, .int .i64 env, .int .i64 f, .int .i64 off, .int .i64 q, .string s] from hr4)
                  clear t4 k4 b4 hr4 HT HR HB DO LD c0
                  go_wp2_with (first
                    | (refine wpList_load_mid rfl 32 (.tmp 80) rfl b (o + j * 6) rfl [.int .i64 kind, .int .i64 env, .int .i64 f, .int .i64 off, .int .i64 q, .string s] _ LD4.out Try.underlying32 rfl act_info ?_)
                    | fail)
                  refine (RDO.out _ R4.out).mono ?_; rintro e w5 ⟨rfl, r5, k5⟩
                  have R5 := Lib.hid r5
                  have T5 := Lib.hid (T4.out.chg k5 (by rintro (h | h | h) <;> omega) (by rintro (h | h | h) <;> omega))
                  have B5 := Lib.hid (B4.out.trans (k5.below hw4 (by rintro i (h | h | h) <;> omega)))
                  have hw5 : w.heap.size ≤ w5.heap.size := Nat.le_trans hw4 k5.size
                  clear r5 k5 T4 R4 B4 LD4
                  go_wp2_with fail
                  refine (shows_any T5.out R5.out).mono ?_; rintro e w6 ⟨rfl, b6⟩
                  have REL := Lib.hid (show ∃ (j' : Nat) (ps : List Pg), j' ≤ na ∧ (.int .i64 ((j : Int) + 1) : Value) = .int .i64 (j' : Int) ∧ (∀ p ∈ ps, p.holds ≤ j') ∧ Tab w6 gs (gs + 1) ps ∧ RefT w6 gm bo bh bb co ch cb ps ∧ Below w.heap.size w w6 from
                    ⟨j + 1, ps', by omega, by simp, HM.out, T5.out.new b6, R5.out.new b6, B5.out.trans (b6.mono hw5)⟩)
                  clear b6 T5 R5 B5
                  go_wp2
                  go_roundw
                  case rel => exact REL.out
                  case measure => simp [intOf]; omega
            · have hge : ¬ (j : Int) < na := by omega
              go_wp2
              go_ret
              exact ⟨rfl, HB.out⟩

set_option maxRecDepth 100000 in
theorem lifted (os : Os) (started : os.Started) (H : Type) (enc : TypeId × Value → H) :
    ReturnsInHanded {} Try.checked os 3 .any (Rows.framePlaysSpec.pre6 enc Try.prog Try.f3 Rows.framePlaysRow.domain false) (Rows.framePlaysSpec.post enc Try.prog Try.f3 false true false false) := by
  refine returnsInHanded_of_change (C := Try.checked) own started (by kernel_rfl) Try.func3
    (ChangeSpec.witness6 (enc := enc) (C := Try.checked) false ⟨#[], #[.int .i64 0, .slice none 0 0], []⟩ 8 (by kernel_rfl) (by kernel_rfl) (by kernel_rfl) (by kernel_rfl)) ?_
  intro W base args ds gs before hval0 hW hcnd _
  have hval : ∀ (j : Nat) t v, Try.f3.params[j]? = some t → args[j]? = some v → Value.okWide Try.prog W .any base t v := hval0
  have hW' := hW
  obtain ⟨p, q, hA0, hV, rfl, hfz, hnd⟩ := hW
  have hA : DataW.TrodAll enc Try.prog W 0 (fun _ => true) true Try.f3.params.toList args.toList ds p := hA0
  rw [Try.params3] at hA hval
  obtain ⟨v0, vs0, d0, ds0, p0, q0, hargs, rfl, rfl, h0, r0⟩ := trodAll_cons hA
  obtain ⟨v1, vs1, d1, ds1, p1, q1, rfl, rfl, rfl, h1, r1⟩ := trodAll_cons r0
  obtain ⟨rfl, rfl, rfl⟩ := trodAll_nil r1
  obtain rfl : args = #[v0, v1] := by cases args; simp_all
  obtain ⟨a0, rfl, _, _, w0⟩ := open_int Try.underlying3 (hval 0 3 v0 rfl rfl) h0
  obtain ⟨A1, n1, c1, f1, rfl, b1⟩ := open_acts Try.underlying22 Try.underlying32 (by kernel_rfl) rfl rfl rfl rfl rfl rfl (by kernel_rfl) (by kernel_rfl) (by kernel_rfl) (by kernel_rfl) (by kernel_rfl) (by kernel_rfl) Try.underlying3 Try.underlying3 Try.underlying3 Try.underlying3 Try.underlying3 Try.underlying9 (hval 1 22 v1 rfl rfl) h1
  clear hA0 hval0
  exact law_close hW' laidOut (by kernel_rfl) rfl Try.underlying4 rfl ⟨rfl, rfl, rfl⟩ (walk W a0 w0 A1 n1 c1 f1 b1)

theorem over : Rows.framePlaysRow.holds Try.pinned (OpenSpec.ofChange Rows.framePlaysSpec) :=
  OpenClaim.holds_of_wide 3 Try.f3 rfl rfl rfl rfl rfl rfl rfl ⟨rfl, rfl, rfl, rfl, rfl⟩ rfl rfl rfl rfl rfl (by kernel_rfl) Try.func3 (by kernel_rfl)
    (of_decide_eq_true (by kernel_rfl)) (by unfold Func.isWrapper; first | (rw [if_pos (by decide +kernel)]; kernel_rfl) | (rw [if_neg (by decide +kernel)]; exact ⟨rfl, rfl⟩))
    (fun os started H enc _ => lifted os started H enc)

theorem proved : Rows.FramePlaysSaid := over

end Go.Proofs.Ytgbldoilnecnhaa.framePlays
