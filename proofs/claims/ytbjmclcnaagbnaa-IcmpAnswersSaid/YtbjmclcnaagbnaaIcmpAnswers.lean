/- Whatever text comes in, 'pantlerlaw16.IcmpAnswers' returns true and leaves it as it was. No condition. -/
import Derived.Test.YtbjmclcnaagbnaaIcB
namespace Go.Proofs.Ytbjmclcnaagbnaa.icmpAnswers
open Go.ChangeShapes Go.WideShapes Go.ChangeAt Go.RowKit Go.Deep Rk Fl Gx Di Ic
set_option linter.unusedVariables false


set_option maxRecDepth 100000 in
set_option maxHeartbeats 8000000 in
theorem walk (w : World) (x : ByteArray) (wx : x.size ≤ maxLen) :
    Calls Try.prog 4 #[.string x] w fun e w' => e = .returned (.bool true) ∧ Below w.heap.size w w' := by
  obtain ⟨s, rfl⟩ := text_of x
  have hss : (⟨s.toArray⟩ : ByteArray).size = s.length := rfl
  have AL := Lib.hid (fun W => Ic.alive_any W)
  go_enter Try.func4, Try.ntmps4
  go_wp2_with fail
  refine (AL.out w).mono ?_; rintro e w1 ⟨rfl, b1⟩
  have B1 := Lib.hid b1
  clear b1 AL
  by_cases hs : (s.length : Int) > 3000
  · go_wp2
    go_ret
    exact ⟨rfl, B1.out⟩
  have HS := Lib.hid (show s.length ≤ 3000 from by omega)
  obtain ⟨A6, c6, w6, hconv, hsr, hb, -⟩ := conv_src ⟨s.toArray⟩ (by show s.length ≤ 1000000; have := HS.out; omega) w1
  replace hconv : (convert 9 26 (.string ⟨s.toArray⟩)).run Try.prog w1 = .ok (.slice A6 s.length c6) w6 := hconv
  have S6 := Lib.hid (show Src w6 A6 s.length c6 s from hsr)
  have B6 := Lib.hid (B1.out.trans (hb.mono B1.out.size))
  clear hb hsr B1
  go_wp2_with fail
  refine (Ic.answer_any A6 s.length c6 s w6 S6.out (by have := HS.out; omega)).mono ?_; rintro e w7 ⟨⟨A7, c7, rfl, s7⟩, b7⟩
  have S7 := Lib.hid s7
  have B7 := Lib.hid (B6.out.trans (b7.mono B6.out.size))
  clear s7 b7 S6 B6 hconv
  have DPA := Lib.hid (fun W => Ic.refParse_any s W (by have := HS.out; omega))
  unfold DParsed at DPA
  have SM := Lib.hid (icP_small s)
  go_wp2_with fail
  refine (DPA.out w7).mono ?_; rintro e w8 ⟨rfl, b8⟩
  have S8 := Lib.hid (S7.out.below b8)
  have B8 := Lib.hid (B7.out.trans (b8.mono B7.out.size))
  clear b8 DPA S7 B7
  obtain ⟨p, hp⟩ : ∃ p, icP s = p := ⟨_, rfl⟩
  obtain ⟨t, i, q, d⟩ := p
  rw [hp] at SM ⊢
  (try dsimp only at SM ⊢)
  have HP := Lib.hid hp
  obtain ⟨er, her⟩ : ∃ er, icErr s = er := ⟨_, rfl⟩
  rw [her]
  have HE := Lib.hid her
  have b9 : Below w8.heap.size w8 (w8.alloc (.cells (dcV t i q d) 24)) := (Below.refl _ w8).alloc (Nat.le_refl _) _
  have B9 := Lib.hid (B8.out.trans (b9.mono B8.out.size))
  have WZ := Lib.hid B8.out.size
  have S9 := Lib.hid (S8.out.below b9)
  have K9 := Lib.hid (Blk.new w8 24 (dcV t i q d))
  have AB := Lib.hid (fun (h : 0 < (icA s).length) (b o : Nat) (e : A7 = some ⟨b, o, none⟩) => show ¬ b = w8.heap.size from by
    obtain ⟨b', o', _, e', h', _⟩ := S8.out.toBytes.byte (k := 0) (by have := S8.out.len; omega)
    rw [e] at e'; cases e'; exact Nat.ne_of_lt h')
  clear S8 B8 b9 hp her
  go_upto_region 7 with fail
  generalize w8.alloc (.cells (dcV t i q d) 24) = w9 at *
  generalize w8.heap.size = g at *
  have x0 := (K9.out.cell 0).trans (show _ = some (.int .i64 (t : Int)) from rfl)
  by_cases h0 : er = 0
  rotate_left
  · have h0' : (er == 0) = false := by simpa using h0
    have h0'' : (er != 0) = true := by simpa using h0
    have N := Ic.icA_no (l := s) (fun h => h0 (by rw [← HE.out]; exact h.1))
    rw [N.1, N.2]
    clear N
    go_wp2
    go_ret
    exact ⟨rfl, B9.out⟩
  subst h0
  by_cases h8 : t = 8
  rotate_left
  · have h8' : ¬ (t : Int) = 8 := by omega
    have h8'' : ((t : Int) == 8) = false := by simpa using h8'
    have N := Ic.icA_no (l := s) (fun h => h8 (by rw [← h.2, HP.out]))
    rw [N.1, N.2]
    clear N
    go_wp2
    go_ret
    exact ⟨rfl, B9.out⟩
  subst h8
  have Y := Ic.icA_yes HE.out HP.out
  rw [Y.1] at S9 AB
  rw [Y.1, Y.2]
  clear Y HE HP
  have f0 := K9.out.frozen 0
  have K10 := Lib.hid (K9.out.put 0 (.int .i64 0))
  have k10 : Chg w9 (w9.setCell ⟨g, 0, none⟩ (.int .i64 0)) (fun b => b = g) := Chg.set w9 0 _ (g := g) (S := fun b => b = g) rfl
  have S10 := Lib.hid (src_chg S9.out k10 AB.out)
  have B10 := Lib.hid (B9.out.trans (k10.below B9.out.size (fun k e => by rw [e]; exact WZ.out)))
  clear k10 S9 B9 AB WZ K9
  go_upto_region 10 with fail
  generalize w9.setCell ⟨g, 0, none⟩ (.int .i64 0) = w10 at *
  clear x0 f0
  have K10 := Lib.hid (show Blk w10 g 24 (dcV 0 i q d) from K10.out)
  have x0 := (K10.out.cell 0).trans (show _ = some (.int .i64 0) from rfl)
  have x1 := (K10.out.cell 1).trans (show _ = some (.int .u16 (i : Int)) from rfl)
  have x2 := (K10.out.cell 2).trans (show _ = some (.int .u16 (q : Int)) from rfl)
  have x3 := (K10.out.cell 3).trans (show _ = some (.string ⟨d.toArray⟩) from rfl)
  have RB := Lib.hid (Ic.refBytes_ok0 i q SM.out.2.1 SM.out.2.2.1 d SM.out.2.2.2 w10)
  go_wp2_with fail
  refine RB.out.mono ?_; rintro e w11 ⟨rfl, b11⟩
  have S11 := Lib.hid (S10.out.below b11)
  have B11 := Lib.hid (B10.out.trans (b11.mono B10.out.size))
  clear b11 S10 B10 K10 x0 x1 x2 x3 RB
  have LB := Lib.hid (icB_length 0 i q d)
  have BK := Lib.hid (icB_back 0 i q d (.inl rfl) SM.out.2.1 SM.out.2.2.1 SM.out.2.2.2)
  have N := Lib.hid (Ic.icA_no (l := icB 0 i q d) (fun h => by have := h.2; rw [BK.out.2] at this; cases this))
  have AN := Lib.hid (Ic.answer_any A7 (icB 0 i q d).length c7 (icB 0 i q d) w11 S11.out (by rw [LB.out]; have := SM.out.2.2.2; omega))
  unfold Answered at AN
  rw [N.out.1, N.out.2] at AN
  generalize icB 0 i q d = Z at *
  go_wp2_with fail
  refine AN.out.mono ?_; rintro e w12 ⟨⟨A8, c8, rfl, _⟩, b12⟩
  have S12 := Lib.hid (S11.out.below b12)
  have B12 := Lib.hid (B11.out.trans (b12.mono B11.out.size))
  clear b12 S11 B11 AN
  have TS := told_str S12.out
  go_wp2
  go_ret
  exact ⟨rfl, B12.out⟩

set_option maxRecDepth 100000 in
theorem lifted (os : Os) (started : os.Started) (H : Type) (enc : TypeId × Value → H) :
    ReturnsInHanded {} Try.checked os 4 .any (Rows.icmpAnswersSpec.pre6 enc Try.prog Try.f4 Rows.icmpAnswersRow.domain false) (Rows.icmpAnswersSpec.post enc Try.prog Try.f4 false true false false) := by
  refine returnsInHanded_of_change (C := Try.checked) own started (by kernel_rfl) Try.func4
    (ChangeSpec.witness6 (enc := enc) (C := Try.checked) false ⟨#[], #[.string ⟨#[]⟩], []⟩ 8 (by kernel_rfl) (by kernel_rfl) (by kernel_rfl) (by kernel_rfl)) ?_
  intro W base args ds gs before hval0 hW hcnd _
  have hval : ∀ (j : Nat) t v, Try.f4.params[j]? = some t → args[j]? = some v → Value.okWide Try.prog W .any base t v := hval0
  have hW' := hW
  obtain ⟨p, q, hA0, hV, rfl, hfz, hnd⟩ := hW
  have hA : DataW.TrodAll enc Try.prog W 0 (fun _ => true) true Try.f4.params.toList args.toList ds p := hA0
  rw [Try.params4] at hA hval
  obtain ⟨v0, vs0, d0, ds0, p0, q0, hargs, rfl, rfl, h0, r0⟩ := trodAll_cons hA
  obtain ⟨rfl, rfl, rfl⟩ := trodAll_nil r0
  obtain rfl : args = #[v0] := by cases args; simp_all
  obtain ⟨a0, rfl, _, _, w0⟩ := Go.ChangeMaps.open_string Try.underlying9 (hval 0 9 v0 rfl rfl) h0
  clear hA0 hval0
  exact law_close hW' laidOut (by kernel_rfl) rfl Try.underlying4 rfl ⟨rfl, rfl, rfl⟩ (walk W a0 w0)

theorem over : Rows.icmpAnswersRow.holds Try.pinned (OpenSpec.ofChange Rows.icmpAnswersSpec) :=
  OpenClaim.holds_of_wide 4 Try.f4 rfl rfl rfl rfl rfl rfl rfl ⟨rfl, rfl, rfl, rfl, rfl⟩ rfl rfl rfl rfl rfl (by kernel_rfl) Try.func4 (by kernel_rfl)
    (of_decide_eq_true (by kernel_rfl)) (by unfold Func.isWrapper; first | (rw [if_pos (by decide +kernel)]; kernel_rfl) | (rw [if_neg (by decide +kernel)]; exact ⟨rfl, rfl⟩))
    (fun os started H enc _ => lifted os started H enc)

theorem proved : Rows.IcmpAnswersSaid := over

end Go.Proofs.Ytbjmclcnaagbnaa.icmpAnswers
