/- Whatever program, packet and bytes come in, 'pantlerlaw07.FilterEnds' returns true and leaves them as they were. No condition. -/
import Derived.Test.YtmalkimhngealaaFltO
import Derived.Deep.QuietTactic
import Derived.BigQuiet
namespace Go.Proofs.Ytmalkimhngealaa.filterEnds
open Go.ChangeShapes Go.WideShapes Go.ChangeAt Go.RowKit Go.Deep
set_option linter.unusedVariables false


set_option maxRecDepth 100000 in
set_option maxHeartbeats 4000000 in
theorem walk (w : World) (A0 : Option Addr) (c0 : Nat) (p : List Ins) (h0 : Prg w A0 p ∧ (∀ q ∈ p, q.Ok) ∧ (A0 = none → p = [] ∧ c0 = 0)) (s : ByteArray) (ws : s.size ≤ maxLen) (At : Option Addr) (mt ct : Nat) (lt : List UInt8) (ht : Src w At mt ct lt) :
    Calls Try.prog 4 #[.slice A0 p.length c0, .string s, .slice At mt ct] w fun e w' => e = .returned (.bool true) ∧ Below w.heap.size w w' := by
  obtain ⟨hp, hok, hn⟩ := h0
  have HP := Lib.hid hp
  have HT := Lib.hid ht
  clear hp hn ht ws
  by_cases l1 : (p.length : Int) > 300
  · go_enter Try.func4, Try.ntmps4
    go_wp2_with fail
    refine (alive_any _).mono ?_; rintro e w0 ⟨rfl, b0⟩
    have B0 := Lib.hid b0
    clear b0
    go_wp2
    go_ret
    exact ⟨rfl, B0.out⟩
  by_cases l3 : (s.size : Int) > 400
  · go_enter Try.func4, Try.ntmps4
    go_wp2_with fail
    refine (alive_any _).mono ?_; rintro e w0 ⟨rfl, b0⟩
    have B0 := Lib.hid b0
    clear b0
    go_wp2
    go_ret
    exact ⟨rfl, B0.out⟩
  by_cases l2 : (mt : Int) > 400
  · go_enter Try.func4, Try.ntmps4
    go_wp2_with fail
    refine (alive_any _).mono ?_; rintro e w0 ⟨rfl, b0⟩
    have B0 := Lib.hid b0
    clear b0
    go_wp2
    go_ret
    exact ⟨rfl, B0.out⟩
  have l4 : p.length ≤ 300 := by omega
  have l5 : mt ≤ 400 := by omega
  have l6 : s.size ≤ 400 := by omega
  have hs1 : s.size ≤ 1000000 := by omega
  have OF0 := Lib.hid (fun W (hb : Below w.heap.size w W) => of_any A0 c0 p W (HP.out.new hb) (by omega))
  by_cases hc : Chk p
  · go_enter Try.func4, Try.ntmps4
    go_wp2_with fail
    refine (alive_any _).mono ?_; rintro e w0 ⟨rfl, b0⟩
    have B0 := Lib.hid b0
    clear b0
    go_wp2_with fail
    refine (OF0.out _ B0.out).mono ?_; rintro e w1 ⟨Aw1, cw1, rfl, hpw1, bw1⟩
    have B1 := Lib.hid (B0.out.trans (bw1.mono B0.out.size))
    have CKw2 := Lib.hid (check_v Aw1 cw1 p w1 hpw1 (by omega) 0 (.inl ⟨hc, rfl⟩))
    clear hpw1 bw1
    go_wp2_with fail
    refine CKw2.out.mono ?_; rintro e w2 ⟨rfl, bw2⟩
    have B2 := Lib.hid (B1.out.trans (bw2.mono B1.out.size))
    clear bw2 CKw2
    go_wp2_with fail
    refine (OF0.out _ B2.out).mono ?_; rintro e w5 ⟨Aw5, cw5, rfl, hpw5, bw5⟩
    have B5 := Lib.hid (B2.out.trans (bw5.mono B2.out.size))
    obtain ⟨cc, W5, hrun5, hconv5, hbc5⟩ := conv_any s hs1 w5
    have B5' := Lib.hid (B5.out.trans (hbc5.mono B5.out.size))
    generalize hR : runP p s.data.toList = R at *
    have HR := Lib.hid hR
    have RUN5 := Lib.hid (run_src Aw5 (some ⟨w5.heap.size, 0, none⟩) cw5 cc s.size p s.data.toList W5 (hpw5.new hbc5) hconv5.src hok hc (by omega) R hR)
    clear hpw5 bw5 hconv5 hbc5 hR
    go_wp2_with fail
    refine RUN5.out.mono ?_; rintro e w6 ⟨rfl, b6⟩
    have B6 := Lib.hid (B5'.out.trans (b6.mono B5'.out.size))
    clear b6 RUN5 hrun5
    go_wp2_with fail
    refine (OF0.out _ B6.out).mono ?_; rintro e w7 ⟨Aw7, cw7, rfl, hpw7, bw7⟩
    have B7 := Lib.hid (B6.out.trans (bw7.mono B6.out.size))
    obtain ⟨cd, W7, hrun7, hconv7, hbc7⟩ := conv_any s hs1 w7
    have B7' := Lib.hid (B7.out.trans (hbc7.mono B7.out.size))
    have HC7 := Lib.hid hconv7
    have HP7 := Lib.hid hpw7
    have HB7 := Lib.hid hbc7
    have hlt7 : w.heap.size ≤ w7.heap.size := B7.out.size
    clear hpw7 bw7 hconv7 hbc7
    go_wp2_with (at_builtin; refine Hid.out ?_)
    unfold Hid
    refine wpList_append_conv (B := w7.heap.size) rfl (.tmp 48) (.tmp 49) rfl rfl HC7.out (Nat.le_refl _) At mt ct lt rfl (HT.out.below B7'.out) (by omega) ?_
    intro A8 c8 w8 hs8 hb8
    have B8 := Lib.hid (B7'.out.trans (hb8.mono hlt7))
    have RUN9 := Lib.hid (fun v hv => run_src Aw7 A8 cw7 c8 (s.size + mt) p (s.data.toList ++ lt) w8 (HP7.out.new (HB7.out.trans hb8)) hs8 hok hc (by omega) v hv)
    obtain ⟨R2, hR2⟩ : ∃ R2, R2 = runP p (s.data.toList ++ lt) := ⟨_, rfl⟩
    have RUN9 := Lib.hid (RUN9.out R2 hR2.symm)
    have HR2 := Lib.hid hR2
    clear hs8 hb8 hrun7 HC7 HP7 HB7 hR2
    go_wp2_with fail
    refine RUN9.out.mono ?_; rintro e w9 ⟨rfl, b9⟩
    have B9 := Lib.hid (B8.out.trans (b9.mono B8.out.size))
    clear b9 RUN9
    have EQ := Lib.hid (fun (hf : ∀ i (h : i < p.length), far s.data.toList p[i] = false) => show R2 = R from by rw [HR2.out, runP_more hc hok s.data.toList lt hf, HR.out])
    clear HR2 HR
    go_wp2
    go_loopw [11, 12] (fun bz i wr => ∃ (j : Nat) (bv : Bool), j ≤ p.length ∧ i = .int .i64 (j : Int) ∧ bz = .bool bv ∧ Hid (bv = false → ∀ i (h : i < p.length), i < j → far s.data.toList p[i] = false) ∧ wr = w9) (fun _ i _ => p.length - (intOf i).toNat)
    case atStart => exact ⟨0, false, Nat.zero_le _, rfl, rfl, Lib.hid (fun _ i h h0 => absurd h0 (by omega)), rfl⟩
    case round =>
      obtain ⟨j, bv, hj, rfl, rfl, HF, hw9⟩ := hrel
      subst hw9
      by_cases hlt : j < p.length
      · have hlt' : (j : Int) < (p.length : Int) := by omega
        have j0 : (0 : Int) ≤ (j : Int) := by omega
        have xj := IntWalk.i64_in ((j : Int) + 1) (by omega)
        obtain ⟨b, o, rfl, hbl, e0, e1, _, _⟩ := (HP.out.new B9.out).cells hlt
        have QK := Lib.hid (hok p[j] (List.getElem_mem hlt)).k
        have hfe : far s.data.toList p[j] = (decide (p[j].code ≤ 2) && decide (p[j].k + 4 > (s.size : Int))) := by
          unfold far
          rw [show (s.data.toList.length : Int) = (s.size : Int) from by rw [Array.length_toList]; rfl]
        have HF2 := Lib.hid (fun (h1 : bv = false) (h2 : far s.data.toList p[j] = false) => show ∀ i (h : i < p.length), i < j + 1 → far s.data.toList p[i] = false from fun i h hi => by
          by_cases e : i = j
          · subst e; exact h2
          · exact HF.out h1 i h (by omega))
        rw [hfe] at HF2
        have e1' : wr.cell? ⟨b, o + j * 4 + 1, none⟩ = some (.int .u32 p[j].k) := e1
        generalize p[j].code = qc at *
        generalize p[j].k = qk at *
        obtain ⟨k0, k1⟩ := QK.out
        have xq := IntWalk.i64_in (qk + 4) (by omega)
        clear hfe HF e1
        cases bv with
        | true =>
          clear HF2
          go_wp2
          go_roundw
          case rel => exact ⟨j + 1, true, by omega, by simp, rfl, Lib.hid (fun h => by cases h), by first | rfl | trivial⟩
          case measure => simp [intOf]; omega
        | false =>
          by_cases d1 : qc ≤ 2
          · by_cases d2 : qk + 4 > (s.size : Int)
            · clear HF2
              go_wp2
              go_roundw
              case rel => exact ⟨j + 1, true, by omega, by simp, rfl, Lib.hid (fun h => by cases h), by first | rfl | trivial⟩
              case measure => simp [intOf]; omega
            · have HF3 := Lib.hid (HF2.out rfl (by rw [decide_eq_false d2, Bool.and_false]))
              clear HF2
              go_wp2
              go_roundw
              case rel => exact ⟨j + 1, false, by omega, by simp, rfl, Lib.hid (fun _ => HF3.out), by first | rfl | trivial⟩
              case measure => simp [intOf]; omega
          · have HF3 := Lib.hid (HF2.out rfl (by rw [decide_eq_false d1, Bool.false_and]))
            clear HF2
            go_wp2
            go_roundw
            case rel => exact ⟨j + 1, false, by omega, by simp, rfl, Lib.hid (fun _ => HF3.out), by first | rfl | trivial⟩
            case measure => simp [intOf]; omega
      · have hge : ¬ (j : Int) < (p.length : Int) := by omega
        obtain rfl : j = p.length := by omega
        have BZ := B9
        have REF := Lib.hid (ref_ends A0 c0 p s _ (HP.out.new BZ.out) hok hc hs1)
        have EQ2 := Lib.hid (fun (h : bv = false) => EQ.out (fun i hi => HF.out h i hi hi))
        clear HF EQ
        go_wp2_with fail
        refine REF.out.mono ?_; rintro e wz ⟨⟨x, k, rfl, hk⟩, bz⟩
        have BY := Lib.hid (BZ.out.trans (bz.mono BZ.out.size))
        have hk' : (k : Int) ≤ (p.length : Int) := by omega
        clear bz REF
        cases bv with
        | true =>
          clear EQ2
          go_wp2
          go_ret
          exact ⟨rfl, BY.out⟩
        | false =>
          obtain rfl : R2 = R := EQ2.out rfl
          clear EQ2
          go_wp2
          go_ret
          exact ⟨rfl, BY.out⟩
  · go_enter Try.func4, Try.ntmps4
    go_wp2_with fail
    refine (alive_any _).mono ?_; rintro e w0 ⟨rfl, b0⟩
    have B0 := Lib.hid b0
    clear b0
    go_wp2_with fail
    refine (OF0.out _ B0.out).mono ?_; rintro e w1 ⟨Aw1, cw1, rfl, hpw1, bw1⟩
    have B1 := Lib.hid (B0.out.trans (bw1.mono B0.out.size))
    have CKw2 := Lib.hid (check_v Aw1 cw1 p w1 hpw1 (by omega) 40 (.inr ⟨hc, rfl⟩))
    clear hpw1 bw1
    go_wp2_with fail
    refine CKw2.out.mono ?_; rintro e w2 ⟨rfl, bw2⟩
    have B2 := Lib.hid (B1.out.trans (bw2.mono B1.out.size))
    clear bw2 CKw2
    go_wp2
    go_ret
    exact ⟨rfl, B2.out⟩

set_option maxRecDepth 100000 in
theorem lifted (os : Os) (started : os.Started) (H : Type) (enc : TypeId × Value → H) :
    ReturnsInHanded {} Try.checked os 4 .any (Rows.filterEndsSpec.pre6 enc Try.prog Try.f4 Rows.filterEndsRow.domain false) (Rows.filterEndsSpec.post enc Try.prog Try.f4 false true false false) := by
  refine returnsInHanded_of_change (C := Try.checked) own started (by kernel_rfl) Try.func4
    (ChangeSpec.witness6 (enc := enc) (C := Try.checked) false ⟨#[], #[.slice none 0 0, .string ⟨#[]⟩, .slice none 0 0], []⟩ 8 (by kernel_rfl) (by kernel_rfl) (by kernel_rfl) (by kernel_rfl)) ?_
  intro W base args ds gs before hval0 hW hcnd _
  have hval : ∀ (j : Nat) t v, Try.f4.params[j]? = some t → args[j]? = some v → Value.okWide Try.prog W .any base t v := hval0
  have hW' := hW
  obtain ⟨p, q, hA0, hV, rfl, hfz, hnd⟩ := hW
  have hA : DataW.TrodAll enc Try.prog W 0 (fun _ => true) true Try.f4.params.toList args.toList ds p := hA0
  rw [Try.params4] at hA hval
  obtain ⟨v0, vs0, d0, ds0, p0, q0, hargs, rfl, rfl, h0, r0⟩ := trodAll_cons hA
  obtain ⟨v1, vs1, d1, ds1, p1, q1, rfl, rfl, rfl, h1, r1⟩ := trodAll_cons r0
  obtain ⟨v2, vs2, d2, ds2, p2, q2, rfl, rfl, rfl, h2, r2⟩ := trodAll_cons r1
  obtain ⟨rfl, rfl, rfl⟩ := trodAll_nil r2
  obtain rfl : args = #[v0, v1, v2] := by cases args; simp_all
  obtain ⟨A0, c0, f0, rfl, b0⟩ := open_prg Try.underlying34 Try.underlying38 (by kernel_rfl) rfl rfl rfl rfl (by kernel_rfl) (by kernel_rfl) (by kernel_rfl) (by kernel_rfl) Try.underlying3 Try.underlying24 Try.underlying3 Try.underlying3 (hval 0 34 v0 rfl rfl) h0
  obtain ⟨a1, rfl, _, _, w1⟩ := Go.ChangeMaps.open_string Try.underlying9 (hval 1 9 v1 rfl rfl) h1
  obtain ⟨A2, n2, c2, l2, rfl, b2⟩ := open_src Try.underlying30 Try.underlying5 (by kernel_rfl) (hval 2 30 v2 rfl rfl) h2
  clear hA0 hval0
  exact law_close hW' laidOut (by kernel_rfl) rfl Try.underlying4 rfl ⟨rfl, rfl, rfl⟩ (walk W A0 c0 f0 b0 a1 w1 A2 n2 c2 l2 b2)

theorem over : Rows.filterEndsRow.holds Try.pinned (OpenSpec.ofChange Rows.filterEndsSpec) :=
  OpenClaim.holds_of_wide 4 Try.f4 rfl rfl rfl rfl rfl rfl rfl ⟨rfl, rfl, rfl, rfl, rfl⟩ rfl rfl rfl rfl rfl (by kernel_rfl) Try.func4 (by kernel_rfl)
    (of_decide_eq_true (by kernel_rfl)) (by unfold Func.isWrapper; first | (rw [if_pos (by decide +kernel)]; kernel_rfl) | (rw [if_neg (by decide +kernel)]; exact ⟨rfl, rfl⟩))
    (fun os started H enc _ => lifted os started H enc)

theorem proved : Rows.FilterEndsSaid := over

end Go.Proofs.Ytmalkimhngealaa.filterEnds
