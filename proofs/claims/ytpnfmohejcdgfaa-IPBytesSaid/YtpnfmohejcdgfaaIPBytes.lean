/- Whatever packet and length come in, 'pantlerlaw15.IPBytes' returns true and leaves them as they were. No condition. -/
import Derived.Test.YtpnfmohejcdgfaaIpC
namespace Go.Proofs.Ytpnfmohejcdgfaa.iPBytes
open Go.ChangeShapes Go.WideShapes Go.ChangeAt Go.RowKit Go.Deep Rk Fl Gx Di Ip
set_option linter.unusedVariables false


set_option maxRecDepth 100000 in
set_option maxHeartbeats 8000000 in
theorem walk (w : World) (i t p s d : Nat) (l : List UInt8) (hi : i ≤ 65535) (ht : t ≤ 255) (hpp : p ≤ 255) (hs : s ≤ 4294967295) (hd : d ≤ 4294967295) (hl0 : l.length ≤ maxLen) (m : Int) (wm : (Lit.int .i64 m).wf = true) :
    Calls Try.prog 3 #[.agg (dpV i t p s d l), .int .i64 m] w fun e w' => e = .returned (.bool true) ∧ Below w.heap.size w w' := by
  have hp : Pk i t p s d := ⟨hi, ht, hpp, hs, hd⟩
  have hsz : (⟨l.toArray⟩ : ByteArray).size = l.length := rfl
  have b0 : Below w.heap.size w (w.alloc (.cells (dpV i t p s d l) 25)) := (Below.refl _ w).alloc (Nat.le_refl _) _
  have B0 := Lib.hid b0
  have P0 := Lib.hid (Blk.new w 25 (dpV i t p s d l))
  have AL := Lib.hid (fun W => alive_any W)
  clear b0
  obtain ⟨mb, hmb⟩ : ∃ b, decide (0 ≤ m ∧ m ≤ 990) = b := ⟨_, rfl⟩
  have HD := Lib.hid (fun A c W => show Calls Try.prog 9 #[.agg (pkV i t p s d A l.length c), .int .i64 m] W (fun e w' => Tells W w' e mb (ipHead i t p s d m.toNat) 2 ∧ Below W.heap.size W w') from by rw [← hmb]; exact head_any i t p s d hp A l.length c m W)
  have RH := Lib.hid (fun W => show Calls Try.prog 12 #[.agg (dpV i t p s d l), .int .i64 m] W (fun e w' => STells e mb (ipHead i t p s d m.toNat) 2 ∧ Below W.heap.size W w') from by rw [← hmb]; exact refHead_any i t p s d hp l m W)
  clear hmb
  go_enter Try.func3, Try.ntmps3
  go_upto_region 1 with fail
  generalize w.alloc (.cells (dpV i t p s d l) 25) = W at *
  go_wp2_with fail
  refine (AL.out W).mono ?_; rintro e w1 ⟨rfl, b1⟩
  have B1 := Lib.hid (B0.out.trans (b1.mono B0.out.size))
  have P1 := Lib.hid (P0.out.older (older_below b1))
  clear B0 P0 
  clear b1 AL
  have z0 := (P1.out.cell 0).trans (show _ = some (.int .u16 (i : Int)) from rfl)
  have z1 := (P1.out.cell 1).trans (show _ = some (.int .u8 (t : Int)) from rfl)
  have z2 := (P1.out.cell 2).trans (show _ = some (.int .u8 (p : Int)) from rfl)
  have z3 := (P1.out.cell 3).trans (show _ = some (.int .u32 (s : Int)) from rfl)
  have z4 := (P1.out.cell 4).trans (show _ = some (.int .u32 (d : Int)) from rfl)
  have z5 := (P1.out.cell 5).trans (show _ = some (.string ⟨l.toArray⟩) from rfl)
  by_cases hl : (l.length : Int) > 3000
  · go_wp2
    go_ret
    exact ⟨rfl, B1.out⟩
  have HL := Lib.hid (show l.length ≤ 3000 from by omega)
  have OF := Lib.hid (fun W => Ip.of_any i t p s d l W (by have := HL.out; omega))
  go_wp2_with fail
  refine (OF.out w1).mono ?_; rintro e w2 ⟨A2, c2, rfl, s2, b2⟩
  have B2 := Lib.hid (B1.out.trans (b2.mono B1.out.size))
  have P2 := Lib.hid (P1.out.older (older_below b2))
  clear B1 P1 
  clear b2 s2 z0 z1 z2 z3 z4 z5
  go_wp2_with fail
  refine (HD.out A2 c2 w2).mono ?_; rintro e w3 ⟨T, b3⟩
  obtain ⟨A3, c3, rfl, r3⟩ := T.form
  have SA3 := Lib.hid r3
  have B3 := Lib.hid (B2.out.trans (b3.mono B2.out.size))
  have P3 := Lib.hid (P2.out.older (older_below b3))
  clear B2 P2 
  clear T b3 r3
  have z0 := (P3.out.cell 0).trans (show _ = some (.int .u16 (i : Int)) from rfl)
  have z1 := (P3.out.cell 1).trans (show _ = some (.int .u8 (t : Int)) from rfl)
  have z2 := (P3.out.cell 2).trans (show _ = some (.int .u8 (p : Int)) from rfl)
  have z3 := (P3.out.cell 3).trans (show _ = some (.int .u32 (s : Int)) from rfl)
  have z4 := (P3.out.cell 4).trans (show _ = some (.int .u32 (d : Int)) from rfl)
  have z5 := (P3.out.cell 5).trans (show _ = some (.string ⟨l.toArray⟩) from rfl)
  go_wp2_with fail
  refine (OF.out w3).mono ?_; rintro e w4 ⟨A4, c4, rfl, s4, b4⟩
  have T4 := Lib.hid s4
  have B4 := Lib.hid (B3.out.trans (b4.mono B3.out.size))
  have P4 := Lib.hid (P3.out.older (older_below b4))
  have SA4 := Lib.hid (SA3.out.below b4)
  clear B3 P3 SA3
  clear b4 s4 z0 z1 z2 z3 z4 z5
  go_wp2_with fail
  refine (bytes_any' i t p s d hp A4 l.length c4 l w4 T4.out (by have := HL.out; omega)).mono ?_; rintro e w5 ⟨T, b5⟩
  obtain ⟨A5, c5, rfl, r5⟩ := T.form
  have SB5 := Lib.hid r5
  have B5 := Lib.hid (B4.out.trans (b5.mono B4.out.size))
  have P5 := Lib.hid (P4.out.older (older_below b5))
  have SA5 := Lib.hid (SA4.out.below b5)
  clear B4 P4 SA4
  clear T b5 T4 r5 OF
  have z0 := (P5.out.cell 0).trans (show _ = some (.int .u16 (i : Int)) from rfl)
  have z1 := (P5.out.cell 1).trans (show _ = some (.int .u8 (t : Int)) from rfl)
  have z2 := (P5.out.cell 2).trans (show _ = some (.int .u8 (p : Int)) from rfl)
  have z3 := (P5.out.cell 3).trans (show _ = some (.int .u32 (s : Int)) from rfl)
  have z4 := (P5.out.cell 4).trans (show _ = some (.int .u32 (d : Int)) from rfl)
  have z5 := (P5.out.cell 5).trans (show _ = some (.string ⟨l.toArray⟩) from rfl)
  go_wp2_with fail
  refine (RH.out w5).mono ?_; rintro e w6 ⟨T, b6⟩
  obtain rfl := T.form
  have B6 := Lib.hid (B5.out.trans (b6.mono B5.out.size))
  have P6 := Lib.hid (P5.out.older (older_below b6))
  have SA6 := Lib.hid (SA5.out.below b6)
  have SB6 := Lib.hid (SB5.out.below b6)
  clear B5 P5 SA5 SB5
  clear T b6 z0 z1 z2 z3 z4 z5
  have z0 := (P6.out.cell 0).trans (show _ = some (.int .u16 (i : Int)) from rfl)
  have z1 := (P6.out.cell 1).trans (show _ = some (.int .u8 (t : Int)) from rfl)
  have z2 := (P6.out.cell 2).trans (show _ = some (.int .u8 (p : Int)) from rfl)
  have z3 := (P6.out.cell 3).trans (show _ = some (.int .u32 (s : Int)) from rfl)
  have z4 := (P6.out.cell 4).trans (show _ = some (.int .u32 (d : Int)) from rfl)
  have z5 := (P6.out.cell 5).trans (show _ = some (.string ⟨l.toArray⟩) from rfl)
  go_wp2_with fail
  refine (refBytes_any i t p s d hp l w6 (by have := HL.out; omega)).mono ?_; rintro e w7 ⟨T, b7⟩
  obtain rfl := T.form
  have B7 := Lib.hid (B6.out.trans (b7.mono B6.out.size))
  have P7 := Lib.hid (P6.out.older (older_below b7))
  have SA7 := Lib.hid (SA6.out.below b7)
  have SB7 := Lib.hid (SB6.out.below b7)
  clear B6 P6 SA6 SB6
  clear T b7 z0 z1 z2 z3 z4 z5
  have TX := told_str SA7.out
  have TY := told_str SB7.out
  generalize textOf mb (ipHead i t p s d m.toNat) = X at *
  generalize textOf (decide (l.length ≤ 990)) (ipHead i t p s d l.length ++ l) = Y at *
  generalize errIf mb 2 = er1 at *
  generalize errIf (decide (l.length ≤ 990)) 2 = er2 at *
  go_wp2
  go_ret
  exact ⟨rfl, B7.out⟩

set_option maxRecDepth 100000 in
theorem lifted (os : Os) (started : os.Started) (H : Type) (enc : TypeId × Value → H) :
    ReturnsInHanded {} Try.checked os 3 .any (Rows.iPBytesSpec.pre6 enc Try.prog Try.f3 Rows.iPBytesRow.domain false) (Rows.iPBytesSpec.post enc Try.prog Try.f3 false true false false) := by
  refine returnsInHanded_of_change (C := Try.checked) own started (by kernel_rfl) Try.func3
    (ChangeSpec.witness6 (enc := enc) (C := Try.checked) false ⟨#[], #[.agg #[.int .u16 0, .int .u8 0, .int .u8 0, .int .u32 0, .int .u32 0, .string ⟨#[]⟩], .int .i64 0], []⟩ 8 (by kernel_rfl) (by kernel_rfl) (by kernel_rfl) (by kernel_rfl)) ?_
  intro W base args ds gs before hval0 hW hcnd _
  have hval : ∀ (j : Nat) t v, Try.f3.params[j]? = some t → args[j]? = some v → Value.okWide Try.prog W .any base t v := hval0
  have hW' := hW
  obtain ⟨p, q, hA0, hV, rfl, hfz, hnd⟩ := hW
  have hA : DataW.TrodAll enc Try.prog W 0 (fun _ => true) true Try.f3.params.toList args.toList ds p := hA0
  rw [Try.params3] at hA hval
  obtain ⟨v0, vs0, d0, ds0, p0, q0, hargs, rfl, rfl, h0, r0⟩ := trodAll_cons hA
  obtain ⟨v1, vs1, d1, ds1, p1, q1, rfl, rfl, rfl, h1, r1⟩ := trodAll_cons r0
  obtain ⟨rfl, rfl, rfl⟩ := trodAll_nil r1
  obtain rfl : args = #[v0, v1] := by cases args; simp_all
  obtain ⟨a0_0, a0_1, a0_2, a0_3, a0_4, a0_5, rfl, w0_0, w0_1, w0_2, w0_3, w0_4, w0_5⟩ := Ip.open_pk (hval 0 25 v0 rfl rfl) h0
  obtain ⟨a1, rfl, _, _, w1⟩ := open_int Try.underlying3 (hval 1 3 v1 rfl rfl) h1
  clear hA0 hval0
  exact law_close hW' laidOut (by kernel_rfl) rfl Try.underlying4 rfl ⟨rfl, rfl, rfl⟩ (walk W a0_0 a0_1 a0_2 a0_3 a0_4 a0_5 w0_0 w0_1 w0_2 w0_3 w0_4 w0_5 a1 w1)

theorem over : Rows.iPBytesRow.holds Try.pinned (OpenSpec.ofChange Rows.iPBytesSpec) :=
  OpenClaim.holds_of_wide 3 Try.f3 rfl rfl rfl rfl rfl rfl rfl ⟨rfl, rfl, rfl, rfl, rfl⟩ rfl rfl rfl rfl rfl (by kernel_rfl) Try.func3 (by kernel_rfl)
    (of_decide_eq_true (by kernel_rfl)) (by unfold Func.isWrapper; first | (rw [if_pos (by decide +kernel)]; kernel_rfl) | (rw [if_neg (by decide +kernel)]; exact ⟨rfl, rfl⟩))
    (fun os started H enc _ => lifted os started H enc)

theorem proved : Rows.IPBytesSaid := over

end Go.Proofs.Ytpnfmohejcdgfaa.iPBytes
