/- Whatever addresses, protocol and length come in, 'pantlerlaw15.IPPseudo' returns true and leaves them as they were. No condition. -/
import Derived.Test.YtpnfmohejcdgfaaIpC
namespace Go.Proofs.Ytpnfmohejcdgfaa.iPPseudo
open Go.ChangeShapes Go.WideShapes Go.ChangeAt Go.RowKit Go.Deep Rk Fl Gx Di Ip
set_option linter.unusedVariables false


set_option maxRecDepth 100000 in
set_option maxHeartbeats 8000000 in
theorem walk (w : World) (s : Int) (ws : (Lit.int .u32 s).wf = true) (d : Int) (wd : (Lit.int .u32 d).wf = true) (p : Int) (wp' : (Lit.int .u8 p).wf = true) (k : Int) (wk : (Lit.int .u32 k).wf = true) :
    Calls Try.prog 5 #[.int .u32 s, .int .u32 d, .int .u8 p, .int .u32 k] w fun e w' => e = .returned (.bool true) ∧ Below w.heap.size w w' := by
  obtain ⟨s, rfl, hs⟩ := wf_u32 ws
  obtain ⟨d, rfl, hd⟩ := wf_u32 wd
  obtain ⟨p, rfl, hp⟩ := wf_u8 wp'
  obtain ⟨k, rfl, hk⟩ := wf_u32 wk
  have AL := Lib.hid (fun W => Ip.alive_any W)
  have u0 := IntWalk.i64_in (k : Int) (by omega)
  have PS := Lib.hid (fun W => pseudo_any s d p k hs hd hp hk W)
  have RS := Lib.hid (fun W => refPseudo_any s d p k hs hd hp hk W)
  have L12 : (wb (psW s d p k)).length = 12 := wb_length _
  have hle := evs_le (wb (psW s d p k))
  generalize wb (psW s d p k) = X at *
  go_enter Try.func5, Try.ntmps5
  go_wp2_with fail
  refine (AL.out w).mono ?_; rintro e w1 ⟨rfl, b1⟩
  have B1 := Lib.hid b1
  clear b1
  go_wp2_with fail
  refine (PS.out w1).mono ?_; rintro e w2 ⟨rfl, b2⟩
  have B2 := Lib.hid (B1.out.trans (b2.mono B1.out.size))
  clear b2 B1
  go_wp2_with fail
  refine (RS.out w2).mono ?_; rintro e w3 ⟨rfl, b3⟩
  have B3 := Lib.hid (B2.out.trans (b3.mono B2.out.size))
  clear b3 B2
  obtain ⟨A6, c6, w6, hconv, hsr, hb, -⟩ := conv_src ⟨X.toArray⟩ (by show X.length ≤ 1000000; omega) w3
  replace hconv : (convert 9 27 (.string ⟨X.toArray⟩)).run Try.prog w3 = .ok (.slice A6 X.length c6) w6 := hconv
  replace hsr : Src w6 A6 X.length c6 X := hsr
  have OF := Lib.hid (Go.Proofs.Ytpnfmohejcdgfaa.of_any A6 X.length c6 X w6 hsr.toBytes (by omega))
  have B6 := Lib.hid (B3.out.trans (hb.mono B3.out.size))
  have q1 := eqf (evs X) (by omega)
  have q2 := eqf (ods X) (by omega)
  clear hb hsr B3 hle L12
  go_wp2_with fail
  refine OF.out.mono ?_; rintro e w7 ⟨rfl, b7⟩
  have B7 := Lib.hid (B6.out.trans (b7.mono B6.out.size))
  clear b7 B6
  go_wp2_with fail
  refine (number_any _ _ w7).mono ?_; rintro e w8 ⟨rfl, b8⟩
  have B8 := Lib.hid (B7.out.trans (b8.mono B7.out.size))
  clear b8 B7
  go_wp2
  go_ret
  exact ⟨rfl, B8.out⟩

set_option maxRecDepth 100000 in
theorem lifted (os : Os) (started : os.Started) (H : Type) (enc : TypeId × Value → H) :
    ReturnsInHanded {} Try.checked os 5 .any (Rows.iPPseudoSpec.pre6 enc Try.prog Try.f5 Rows.iPPseudoRow.domain false) (Rows.iPPseudoSpec.post enc Try.prog Try.f5 false true false false) := by
  refine returnsInHanded_of_change (C := Try.checked) own started (by kernel_rfl) Try.func5
    (ChangeSpec.witness6 (enc := enc) (C := Try.checked) false ⟨#[], #[.int .u32 0, .int .u32 0, .int .u8 0, .int .u32 0], []⟩ 8 (by kernel_rfl) (by kernel_rfl) (by kernel_rfl) (by kernel_rfl)) ?_
  intro W base args ds gs before hval0 hW hcnd _
  have hval : ∀ (j : Nat) t v, Try.f5.params[j]? = some t → args[j]? = some v → Value.okWide Try.prog W .any base t v := hval0
  have hW' := hW
  obtain ⟨p, q, hA0, hV, rfl, hfz, hnd⟩ := hW
  have hA : DataW.TrodAll enc Try.prog W 0 (fun _ => true) true Try.f5.params.toList args.toList ds p := hA0
  rw [Try.params5] at hA hval
  obtain ⟨v0, vs0, d0, ds0, p0, q0, hargs, rfl, rfl, h0, r0⟩ := trodAll_cons hA
  obtain ⟨v1, vs1, d1, ds1, p1, q1, rfl, rfl, rfl, h1, r1⟩ := trodAll_cons r0
  obtain ⟨v2, vs2, d2, ds2, p2, q2, rfl, rfl, rfl, h2, r2⟩ := trodAll_cons r1
  obtain ⟨v3, vs3, d3, ds3, p3, q3, rfl, rfl, rfl, h3, r3⟩ := trodAll_cons r2
  obtain ⟨rfl, rfl, rfl⟩ := trodAll_nil r3
  obtain rfl : args = #[v0, v1, v2, v3] := by cases args; simp_all
  obtain ⟨a0, rfl, _, _, w0⟩ := open_int Try.underlying23 (hval 0 23 v0 rfl rfl) h0
  obtain ⟨a1, rfl, _, _, w1⟩ := open_int Try.underlying23 (hval 1 23 v1 rfl rfl) h1
  obtain ⟨a2, rfl, _, _, w2⟩ := open_int Try.underlying5 (hval 2 5 v2 rfl rfl) h2
  obtain ⟨a3, rfl, _, _, w3⟩ := open_int Try.underlying23 (hval 3 23 v3 rfl rfl) h3
  clear hA0 hval0
  exact law_close hW' laidOut (by kernel_rfl) rfl Try.underlying4 rfl ⟨rfl, rfl, rfl⟩ (walk W a0 w0 a1 w1 a2 w2 a3 w3)

theorem over : Rows.iPPseudoRow.holds Try.pinned (OpenSpec.ofChange Rows.iPPseudoSpec) :=
  OpenClaim.holds_of_wide 5 Try.f5 rfl rfl rfl rfl rfl rfl rfl ⟨rfl, rfl, rfl, rfl, rfl⟩ rfl rfl rfl rfl rfl (by kernel_rfl) Try.func5 (by kernel_rfl)
    (of_decide_eq_true (by kernel_rfl)) (by unfold Func.isWrapper; first | (rw [if_pos (by decide +kernel)]; kernel_rfl) | (rw [if_neg (by decide +kernel)]; exact ⟨rfl, rfl⟩))
    (fun os started H enc _ => lifted os started H enc)

theorem proved : Rows.IPPseudoSaid := over

end Go.Proofs.Ytpnfmohejcdgfaa.iPPseudo
