/- Whatever calls come in, 'pantlerlaw05.FrameCounts' returns true and leaves them as they were. No condition. -/
import Derived.Test.YtgbldoilnecnhaaDoP
import Derived.Deep.RegionWith
import Derived.Deep.RegionHeld3
import Derived.Deep.RegionLaw
import Derived.Deep.DeepCutAuto
import Derived.Deep.CutBlock
import Derived.Deep.QuietTactic
import Derived.BigQuiet
namespace Go.Proofs.Ytgbldoilnecnhaa.frameCounts
open Go.ChangeShapes Go.WideShapes Go.ChangeAt Go.RowKit Go.Deep Fr
set_option linter.unusedVariables false


theorem info32 : (Try.prog.info? 32).map (·.size) = some 6 := by kernel_rfl
theorem one6 (a b c d e : Int) (s : ByteArray) : (#[.int .i64 a, .int .i64 b, .int .i64 c, .int .i64 d, .int .i64 e, .string s] : Array Value).all (·.oneCell') = true := by simp [Value.oneCell']

set_option maxRecDepth 100000 in
set_option maxHeartbeats 4000000 in
theorem walk (w : World) (Aa : Option Addr) (na ca : Nat) (fn : Nat → Cmd) (ha : Acts w Aa na fn) :
    Calls Try.prog 6 #[.slice Aa na ca] w fun e w' => e = .returned (.bool true) ∧ Below w.heap.size w w' := by
  have HA := Lib.hid ha
  clear ha
  by_cases hfar : isFar na fn
  · have FAR := Lib.hid (fun W A n c fn (h : Acts W A n fn) (hf : isFar n fn) => far_any W A n c fn h true (by simp [hf]))
    have HF := Lib.hid hfar
    clear hfar
    go_enter Try.func6, Try.ntmps6
    go_wp2_with fail
    refine (alive_any _).mono ?_; rintro e w1 ⟨rfl, b1⟩
    have B1 := Lib.hid b1
    clear b1
    go_wp2_with fail
    refine (FAR.out _ _ _ _ _ (HA.out.older (older_below B1.out)) HF.out).mono ?_; rintro e w2 ⟨rfl, rfl⟩
    go_wp2
    go_ret
    exact ⟨rfl, B1.out⟩
  · have FAR := Lib.hid (fun W A n c fn (h : Acts W A n fn) (hf : ¬ isFar n fn) => far_any W A n c fn h false (by simp [hf]))
    have HF := Lib.hid hfar
    have hna : na ≤ 150 := by
      by_cases h : na ≤ 150
      · exact h
      · exact absurd (.inl (by omega)) hfar
    have HSZ := Lib.hid (fun i (hi : i < na) => show (fn i).s.size ≤ 1000 by
      by_cases h : (fn i).s.size ≤ 1000
      · exact h
      · exact absurd (.inr ⟨i, hi, by omega⟩) hfar)
    clear hfar
    have NEW := Lib.hid (fun w => new_ok 6 w (by decide) (by decide))
    go_enter Try.func6, Try.ntmps6
    go_wp2_with fail
    refine (alive_any _).mono ?_; rintro e w0 ⟨rfl, b0⟩
    have B0 := Lib.hid b0
    have hw0 : w.heap.size ≤ w0.heap.size := b0.size
    clear b0
    go_wp2_with fail
    refine (FAR.out _ _ _ _ _ (HA.out.older (older_below B0.out)) HF.out).mono ?_; rintro e w2 ⟨rfl, rfl⟩
    go_wp2_with fail
    refine (NEW.out _).mono ?_; rintro e w1 ⟨rfl, t1, b1, z1⟩
    have T1 := Lib.hid t1
    have B1 := Lib.hid (B0.out.trans (b1.mono hw0))
    clear t1 b1
    generalize hgs : w2.heap.size = gs at *
    clear hgs B0 FAR HF
    go_wp2
    go_loopw [5] (fun i wr => ∃ (j : Nat) (ps : List Pg), j ≤ na ∧ i = .int .i64 (j : Int) ∧ ps.length = 6 ∧ (∀ p ∈ ps, p.holds ≤ j) ∧ Tab wr gs (gs + 1) ps ∧ Below w.heap.size w wr ∧ gs + 2 ≤ wr.heap.size) (fun i _ => na - (intOf i).toNat)
    case atStart => exact ⟨0, _, Nat.zero_le _, rfl, List.length_replicate, fun p hp => by rw [(List.mem_replicate.1 hp).2]; exact Nat.le_refl _, T1.out, B1.out, by omega⟩
    case round =>
      clear T1 B1 z1
      obtain ⟨j, ps, hj, rfl, hlen, hhold, hT, hbel, hsz⟩ := hrel
      have HT := Lib.hid hT
      have HB := Lib.hid hbel
      have HH := Lib.hid hhold
      clear hT hbel hhold
      by_cases hlt : j < na
      · have hlt' : (j : Int) < na := by omega
        have j0 : (0 : Int) ≤ j := by omega
        obtain ⟨b, o, rfl, _, hr, ok⟩ := HA.out.older (older_below HB.out) j hlt
        have hss := HSZ.out j hlt
        generalize fn j = act at *
        obtain ⟨kind, env, f, off, n, s⟩ := act
        have LD := Lib.hid (show wr.rangeAt b (o + j * 6) [.int .i64 kind, .int .i64 env, .int .i64 f, .int .i64 off, .int .i64 n, .string s] from hr)
        have WO := Lib.hid ok.off
        have SS := Lib.hid (show s.size ≤ 1000 from hss)
        have hgsz : w.heap.size ≤ wr.heap.size := HB.out.size
        have K9 := Lib.hid ((Blk.new wr 32 #[.int .i64 0, .int .i64 0, .int .i64 0, .int .i64 0, .int .i64 0, .string ⟨#[]⟩]).row #[.int .i64 kind, .int .i64 env, .int .i64 f, .int .i64 off, .int .i64 n, .string s])
        have T9 := Lib.hid ((HT.out.alloc (.cells #[.int .i64 0, .int .i64 0, .int .i64 0, .int .i64 0, .int .i64 0, .string ⟨#[]⟩] 32)).chg (Chg.setRow (S := fun k => k = wr.heap.size) (wr.alloc (.cells #[.int .i64 0, .int .i64 0, .int .i64 0, .int .i64 0, .int .i64 0, .string ⟨#[]⟩] 32)) #[.int .i64 kind, .int .i64 env, .int .i64 f, .int .i64 off, .int .i64 n, .string s] rfl) (by omega) (by omega))
        have B9 := Lib.hid (below_setRow (HB.out.alloc hgsz (.cells #[.int .i64 0, .int .i64 0, .int .i64 0, .int .i64 0, .int .i64 0, .string ⟨#[]⟩] 32)) hgsz #[.int .i64 kind, .int .i64 env, .int .i64 f, .int .i64 off, .int .i64 n, .string s])
        have Z9 : ((wr.alloc (.cells #[.int .i64 0, .int .i64 0, .int .i64 0, .int .i64 0, .int .i64 0, .string ⟨#[]⟩] 32)).setRow wr.heap.size #[.int .i64 kind, .int .i64 env, .int .i64 f, .int .i64 off, .int .i64 n, .string s]).heap.size = wr.heap.size + 1 := by simp
        have KZ := Lib.hid (Blk.new wr 32 #[.int .i64 0, .int .i64 0, .int .i64 0, .int .i64 0, .int .i64 0, .string ⟨#[]⟩])
        clear hr ok hss
        go_upto_region 10 with (first
          | (refine wpList_load_mid rfl 32 (.tmp 30) rfl b (o + j * 6) rfl [.int .i64 kind, .int .i64 env, .int .i64 f, .int .i64 off, .int .i64 n, .string s] _ LD.out Try.underlying32 rfl act_info ?_)
          | (refine wpList_store_row rfl 32 (.tmp 6) (.tmp 31) rfl wr.heap.size #[.int .i64 kind, .int .i64 env, .int .i64 f, .int .i64 off, .int .i64 n, .string s] rfl rfl 32 _ KZ.out info32 rfl (one6 _ _ _ _ _ _) ?_))
        generalize ((wr.alloc (.cells #[.int .i64 0, .int .i64 0, .int .i64 0, .int .i64 0, .int .i64 0, .string ⟨#[]⟩] 32)).setRow wr.heap.size #[.int .i64 kind, .int .i64 env, .int .i64 f, .int .i64 off, .int .i64 n, .string s]) = w1 at *
        generalize hga : wr.heap.size = ga at *
        clear hga KZ LD HT HB
        have FC := Lib.hid (freeCount_any T9.out)
        go_wp2_with fail
        refine FC.out.mono ?_; rintro e w2 ⟨rfl, rfl⟩
        have DO := Lib.hid (do_any T9.out kind env f off n s WO.out SS.out (fun p hp => by have := HH.out p hp; omega))
        have TN := Lib.hid (doR_turn ps ⟨kind, env, f, off, n, s⟩)
        generalize doR ps ⟨kind, env, f, off, n, s⟩ = r at *
        obtain ⟨ps', m', t', e'⟩ := r
        have hln : ps'.length = 6 := TN.out.length.trans hlen
        have LN := Lib.hid hln
        have HM := Lib.hid (TN.out.holds HH.out)
        go_upto_region 12 with (first
          | (refine wpList_load_row rfl 32 (.tmp 6) rfl ga rfl 32 _ (0, 0) _ K9.out Try.underlying32 rfl info32 ?_)
          | fail)
        refine DO.out.mono ?_; rintro e w3 ⟨rfl, t3, k3⟩
        have T3 := Lib.hid t3
        have B3 := Lib.hid (B9.out.trans (k3.below (by omega) (fun i hi => by omega)))
        have K3 := Lib.hid (K9.out.chg k3 (by omega))
        have hw3 : gs + 2 ≤ w3.heap.size := Nat.le_trans (by omega) k3.size
        clear t3 k3 T9 B9 K9 DO
        have FC3 := Lib.hid (fun k => freeCount_any (T3.out.drewN k))
        have OW3 := Lib.hid (fun k (hk : k < ps'.length) => owner_yes T3.out k hk)
        have UF := Lib.hid (used_free ps')
        have US := Lib.hid (used_step ps')
        have hfr : freeN ps ≤ 6 := by
          have := used_free ps
          omega
        have c0 := K3.out.cell 0
        have c2 := K3.out.cell 2
        have c4 := K3.out.cell 4
        simp only [List.getElem?_toArray, List.getElem?_cons_zero, List.getElem?_cons_succ] at c0 c2 c4
        generalize hfree : freeN ps = fr at *
        generalize hfree' : freeN ps' = fr' at *
        have HFR := Lib.hid hfree
        have HFR' := Lib.hid hfree'
        clear hfree hfree'
        go_wp2
        go_loopw [11, 12] (fun c i wi => ∃ (x : Nat), x ≤ 6 ∧ c = .int .i64 (usedN (ps'.take x) : Int) ∧ i = .int .i64 (x : Int) ∧ wi = w3) (fun _ i _ => 6 - (intOf i).toNat)
        case atStart => exact ⟨0, Nat.zero_le _, rfl, rfl, rfl⟩
        case round =>
          obtain ⟨x, hx, rfl, rfl, rfl⟩ := hrel
          by_cases hxl : x < 6
          · have hxl' : (x : Int) < 6 := by omega
            have x0 : (0 : Int) ≤ x := by omega
            have OW := Lib.hid (OW3.out x (by omega))
            have us := US.out x (by omega)
            have x1 := IntWalk.i64_in ((x : Int) + 1) (by omega)
            have hun : usedN (ps'.take x) ≤ 6 := Nat.le_trans (List.length_filter_le _ _) (Nat.le_trans (List.length_take_le _ _) hx)
            have x2 := IntWalk.i64_in ((usedN (ps'.take x) : Int) + 1) (by omega)
            by_cases ho : ps'[x].owner = 0
            · rw [if_pos ho, Nat.add_zero] at us
              have USX := Lib.hid us
              rw [ho] at OW
              clear us
              generalize usedN (ps'.take x) = u at *
              clear ho
              go_wp2_with fail
              refine OW.out.mono ?_; rintro e w4 ⟨rfl, rfl⟩
              go_wp2
              go_roundw
              case rel => exact ⟨x + 1, by omega, by rw [USX.out]; simp, by simp, by first | rfl | trivial⟩
              case measure => simp [intOf]; omega
            · rw [if_neg ho] at us
              have USX := Lib.hid us
              have ho' : ((ps'[x].owner : Int) == 0) = false := by simpa using ho
              clear us
              generalize usedN (ps'.take x) = u at *
              generalize (ps'[x].owner : Int) = ow at *
              clear ho
              go_wp2_with fail
              refine OW.out.mono ?_; rintro e w4 ⟨rfl, rfl⟩
              go_wp2
              go_roundw
              case rel => exact ⟨x + 1, by omega, by rw [USX.out]; simp, by simp, by first | rfl | trivial⟩
              case measure => simp [intOf]; omega
          · have hge : ¬ (x : Int) < 6 := by omega
            obtain rfl : x = 6 := by omega
            have ht6 : ps'.take 6 = ps' := List.take_of_length_le (by omega)
            rw [ht6]
            have uf := UF.out
            have hun6 : usedN ps' ≤ 6 := by omega
            have xs : IntKind.i64.wrap ((usedN ps' : Int) + (fr' : Int)) = 6 := by rw [IntWalk.i64_in _ (by omega)]; omega
            have xm : IntKind.i64.wrap ((fr : Int) - 1) = (fr : Int) - 1 := IntWalk.i64_in _ (by omega)
            have xp : IntKind.i64.wrap ((fr : Int) + 1) = (fr : Int) + 1 := IntWalk.i64_in _ (by omega)
            have xj := IntWalk.i64_in ((j : Int) + 1) (by omega)
            have FC4 := Lib.hid (FC3.out 0)
            clear ht6 uf hun6 hge
            generalize usedN ps' = us at *
            have REL := Lib.hid (show ∀ k, ∃ (j' : Nat) (ps : List Pg), j' ≤ na ∧ (.int .i64 ((j : Int) + 1) : Value) = .int .i64 (j' : Int) ∧ ps.length = 6 ∧ (∀ p ∈ ps, p.holds ≤ j') ∧ Tab (wr.drewN k) gs (gs + 1) ps ∧ Below w.heap.size w (wr.drewN k) ∧ gs + 2 ≤ (wr.drewN k).heap.size from
              fun k => ⟨j + 1, ps', by omega, by simp, hln, HM.out, T3.out.drewN _, below_drewN B3.out _, hw3⟩)
            by_cases he : e' = 0
            · subst he
              by_cases q0 : kind = 0
              · subst q0
                have hfr0 := TN.out.free0 rfl rfl
                rw [HFR.out, HFR'.out] at hfr0
                have FCE := Lib.hid (fun k => by have := FC3.out k; rw [show (fr' : Int) = (fr : Int) - 1 by omega] at this; exact this)
                go_wp2_with fail
                refine FC4.out.mono ?_; rintro e w4 ⟨rfl, rfl⟩
                go_wp2_with fail
                go_quiet (first
                  | (go_at_call 21; exact Calls.quiet_of_same (FCE.out _)))
                go_wp2
                go_roundw
                case rel => exact REL.out _
                case measure => simp [intOf]; omega
              · have d0 : (kind == 0) = false := by simpa using q0
                by_cases q1 : kind = 1
                · subst q1
                  obtain ⟨hfr0, k, hk, hfk, hok⟩ := TN.out.free1 rfl rfl
                  rw [HFR.out, HFR'.out] at hfr0
                  have hfk' : f = (k : Int) := hfk
                  subst hfk'
                  have OWN := Lib.hid (fun q => by have := owner_yes (T3.out.drewN q) k hk; rw [hok] at this; exact this)
                  have FCE := Lib.hid (fun q => by have := FC3.out q; rw [show (fr' : Int) = (fr : Int) + 1 by omega] at this; exact this)
                  clear q0 d0 hfk hok hfr0
                  go_wp2_with fail
                  refine FC4.out.mono ?_; rintro e w4 ⟨rfl, rfl⟩
                  go_wp2_with fail
                  refine (OWN.out 0).mono ?_; rintro e w4 ⟨rfl, rfl⟩
                  go_wp2_with fail
                  go_quiet (first
                    | (go_at_call 21; exact Calls.quiet_of_same (FCE.out _)))
                  go_wp2
                  go_roundw
                  case rel => exact REL.out _
                  case measure => simp [intOf]; omega
                · have d1 : (kind == 1) = false := by simpa using q1
                  have hfr0 := TN.out.freeN (fun x => x.2.elim q0 q1)
                  rw [HFR.out, HFR'.out] at hfr0
                  subst hfr0
                  have FCE := Lib.hid FC3.out
                  by_cases q2 : kind = 2
                  · subst q2
                    obtain ⟨k, hk, hfk, hok⟩ := TN.out.free2 rfl rfl
                    have hfk' : f = (k : Int) := hfk
                    subst hfk'
                    have hok' : (ps'[k].owner : Int) = n := hok
                    have OWN := Lib.hid (fun q => by have := owner_yes (T3.out.drewN q) k hk; rw [hok'] at this; exact this)
                    clear q0 d0 q1 d1 hfk hok hok'
                    go_wp2_with fail
                    refine FC4.out.mono ?_; rintro e w4 ⟨rfl, rfl⟩
                    go_wp2_with fail
                    go_quiet (first
                      | (go_at_call 21; exact Calls.quiet_of_same (FCE.out _))
                      | (go_at_call 19; exact Calls.quiet_of_same (OWN.out _)))
                    go_wp2
                    go_roundw
                    case rel => exact REL.out _
                    case measure => simp [intOf]; omega
                  · have d2 : (kind == 2) = false := by simpa using q2
                    clear q0 q1 q2
                    go_wp2_with fail
                    refine FC4.out.mono ?_; rintro e w4 ⟨rfl, rfl⟩
                    go_wp2_with fail
                    go_quiet (first
                      | (go_at_call 21; exact Calls.quiet_of_same (FCE.out _)))
                    go_wp2
                    go_roundw
                    case rel => exact REL.out _
                    case measure => simp [intOf]; omega
            · have hfr0 := TN.out.freeN (by rintro ⟨h, _⟩; exact he h)
              rw [HFR.out, HFR'.out] at hfr0
              subst hfr0
              have FCE := Lib.hid FC3.out
              have de : (e' == 0) = false := by simpa using he
              clear he
              go_wp2_with fail
              refine FC4.out.mono ?_; rintro e w4 ⟨rfl, rfl⟩
              go_wp2_with fail
              go_quiet (first
                | (go_at_call 21; exact Calls.quiet_of_same (FCE.out _)))
              go_wp2
              go_roundw
              case rel => exact REL.out _
              case measure => simp [intOf]; omega
      · have hge : ¬ (j : Int) < na := by omega
        go_wp2
        go_ret
        exact ⟨rfl, HB.out⟩

set_option maxRecDepth 100000 in
theorem lifted (os : Os) (started : os.Started) (H : Type) (enc : TypeId × Value → H) :
    ReturnsInHanded {} Try.checked os 6 .any (Rows.frameCountsSpec.pre6 enc Try.prog Try.f6 Rows.frameCountsRow.domain false) (Rows.frameCountsSpec.post enc Try.prog Try.f6 false true false false) := by
  refine returnsInHanded_of_change (C := Try.checked) own started (by kernel_rfl) Try.func6
    (ChangeSpec.witness6 (enc := enc) (C := Try.checked) false ⟨#[], #[.slice none 0 0], []⟩ 8 (by kernel_rfl) (by kernel_rfl) (by kernel_rfl) (by kernel_rfl)) ?_
  intro W base args ds gs before hval0 hW hcnd _
  have hval : ∀ (j : Nat) t v, Try.f6.params[j]? = some t → args[j]? = some v → Value.okWide Try.prog W .any base t v := hval0
  have hW' := hW
  obtain ⟨p, q, hA0, hV, rfl, hfz, hnd⟩ := hW
  have hA : DataW.TrodAll enc Try.prog W 0 (fun _ => true) true Try.f6.params.toList args.toList ds p := hA0
  rw [Try.params6] at hA hval
  obtain ⟨v0, vs0, d0, ds0, p0, q0, hargs, rfl, rfl, h0, r0⟩ := trodAll_cons hA
  obtain ⟨rfl, rfl, rfl⟩ := trodAll_nil r0
  obtain rfl : args = #[v0] := by cases args; simp_all
  obtain ⟨A0, n0, c0, f0, rfl, b0⟩ := open_acts Try.underlying22 Try.underlying32 (by kernel_rfl) rfl rfl rfl rfl rfl rfl (by kernel_rfl) (by kernel_rfl) (by kernel_rfl) (by kernel_rfl) (by kernel_rfl) (by kernel_rfl) Try.underlying3 Try.underlying3 Try.underlying3 Try.underlying3 Try.underlying3 Try.underlying9 (hval 0 22 v0 rfl rfl) h0
  clear hA0 hval0
  exact law_close hW' laidOut (by kernel_rfl) rfl Try.underlying4 rfl ⟨rfl, rfl, rfl⟩ (walk W A0 n0 c0 f0 b0)

theorem over : Rows.frameCountsRow.holds Try.pinned (OpenSpec.ofChange Rows.frameCountsSpec) :=
  OpenClaim.holds_of_wide 6 Try.f6 rfl rfl rfl rfl rfl rfl rfl ⟨rfl, rfl, rfl, rfl, rfl⟩ rfl rfl rfl rfl rfl (by kernel_rfl) Try.func6 (by kernel_rfl)
    (of_decide_eq_true (by kernel_rfl)) (by unfold Func.isWrapper; first | (rw [if_pos (by decide +kernel)]; kernel_rfl) | (rw [if_neg (by decide +kernel)]; exact ⟨rfl, rfl⟩))
    (fun os started H enc _ => lifted os started H enc)

theorem proved : Rows.FrameCountsSaid := over

end Go.Proofs.Ytgbldoilnecnhaa.frameCounts
