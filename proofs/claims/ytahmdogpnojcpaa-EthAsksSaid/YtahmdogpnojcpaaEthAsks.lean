/- Whatever message and text come in, 'pantlerlaw14.EthAsks' returns true and leaves them as they were. No condition. -/
import Derived.Test.YtahmdogpnojcpaaEtC
namespace Go.Proofs.Ytahmdogpnojcpaa.ethAsks
open Go.ChangeShapes Go.WideShapes Go.ChangeAt Go.RowKit Go.Deep Rk Es Di Et
set_option linter.unusedVariables false


set_option maxRecDepth 100000 in
set_option maxHeartbeats 8000000 in
theorem walk (w : World) (o : Int) (m i m' i' : Nat) (ho : -9223372036854775808 ≤ o ∧ o ≤ 9223372036854775807) (hm : m ≤ 18446744073709551615) (hi : i ≤ 4294967295) (hm' : m' ≤ 18446744073709551615) (hi' : i' ≤ 4294967295) (s : ByteArray) (ws : s.size ≤ maxLen) :
    Calls Try.prog 4 #[.agg (arV o m i m' i'), .string s] w fun e w' => e = .returned (.bool true) ∧ Below w.heap.size w w' := by
  obtain ⟨l, rfl⟩ := text_of s
  have hsz : (⟨l.toArray⟩ : ByteArray).size = l.length := rfl
  rw [hsz] at ws
  have b0 : Below w.heap.size w (w.alloc (.cells (arV o m i m' i') 44)) := (Below.refl _ w).alloc (Nat.le_refl _) _
  have B0 := Lib.hid b0
  have K0 := Lib.hid (Blk.new w 44 (arV o m i m' i'))
  have AL := Lib.hid (fun W => alive_any W)
  clear b0
  go_enter Try.func4, Try.ntmps4
  go_upto_region 1 with fail
  generalize w.alloc (.cells (arV o m i m' i') 44) = W at *
  go_wp2_with fail
  refine (AL.out W).mono ?_; rintro e w1 ⟨rfl, b1⟩
  have B1 := Lib.hid (B0.out.trans (b1.mono B0.out.size))
  have K1 := Lib.hid (K0.out.older (older_below b1))
  clear b1 AL B0 K0
  by_cases hl : (l.length : Int) > 3000
  · go_wp2
    go_ret
    exact ⟨rfl, B1.out⟩
  have HL := Lib.hid hl
  have AB := Lib.hid (fun W => arBytes_any o m i m' i' hm hi hm' hi' W)
  have MB := Lib.hid (fun W => refMessage_any o m i m' i' hm hi hm' hi' W)
  have z0 := (K1.out.cell 0).trans (show _ = some (.int .i64 o) from rfl)
  have z1 := (K1.out.cell 1).trans (show _ = some (.int .u64 (m : Int)) from rfl)
  have z2 := (K1.out.cell 2).trans (show _ = some (.int .u32 (i : Int)) from rfl)
  have z3 := (K1.out.cell 3).trans (show _ = some (.int .u64 (m' : Int)) from rfl)
  have z4 := (K1.out.cell 4).trans (show _ = some (.int .u32 (i' : Int)) from rfl)
  go_wp2_with fail
  refine (AB.out w1).mono ?_; rintro e w2 ⟨T, b2⟩
  obtain ⟨A2, c2, rfl, S2⟩ := T.form
  have S2 := Lib.hid S2
  have B2 := Lib.hid (B1.out.trans (b2.mono B1.out.size))
  have K2 := Lib.hid (K1.out.older (older_below b2))
  clear T b2 AB B1 K1 z0 z1 z2 z3 z4
  have z0 := (K2.out.cell 0).trans (show _ = some (.int .i64 o) from rfl)
  have z1 := (K2.out.cell 1).trans (show _ = some (.int .u64 (m : Int)) from rfl)
  have z2 := (K2.out.cell 2).trans (show _ = some (.int .u32 (i : Int)) from rfl)
  have z3 := (K2.out.cell 3).trans (show _ = some (.int .u64 (m' : Int)) from rfl)
  have z4 := (K2.out.cell 4).trans (show _ = some (.int .u32 (i' : Int)) from rfl)
  go_wp2_with fail
  refine (MB.out w2).mono ?_; rintro e w3 ⟨T, b3⟩
  obtain rfl := T.form
  have S3 := Lib.hid (S2.out.below b3)
  have B3 := Lib.hid (B2.out.trans (b3.mono B2.out.size))
  clear T b3 MB B2 S2 K2 z0 z1 z2 z3 z4
  generalize textOf (arMay o m m') (arL o m i m' i') = X at *
  generalize errIf (arMay o m m') 1 = er at *
  obtain ⟨A4, c4, w4, hconv, hs, hb, -⟩ := conv_src ⟨l.toArray⟩ (by rw [hsz]; have := HL.out; omega) w3
  have hconv : (convert 9 27 (.string ⟨l.toArray⟩)).run Try.prog w3 = .ok (.slice A4 l.length c4) w4 := hconv
  have S4 := Lib.hid (show Src w4 A4 l.length c4 l from hs)
  have X4 := Lib.hid (S3.out.below hb)
  have B4 := Lib.hid (B3.out.trans (hb.mono B3.out.size))
  clear hs hb S3 B3
  obtain ⟨o', n', j', n2', j2', F1, F2⟩ := ar_form l
  have F1 := Lib.hid F1
  have F2 := Lib.hid F2
  have PA := Lib.hid (fun W (h : Src W A4 l.length c4 l) => parseARP_any A4 l.length c4 l W h (by have := HL.out; omega))
  have PB := Lib.hid (fun W => refParseARP_any l W (by have := HL.out; omega))
  go_wp2_with fail
  refine (PA.out w4 S4.out).mono ?_; rintro e w5 ⟨T, b5⟩
  obtain rfl := F1.out e T
  have B5 := Lib.hid (B4.out.trans (b5.mono B4.out.size))
  have X5 := Lib.hid (X4.out.below b5)
  clear T b5 PA S4 B4 X4 F1 hconv
  have b6 : Below w5.heap.size w5 (w5.alloc (.cells (arV o' n' j' n2' j2') 45)) := (Below.refl _ w5).alloc (Nat.le_refl _) _
  have B6 := Lib.hid (B5.out.trans (b6.mono B5.out.size))
  have X6 := Lib.hid (X5.out.below b6)
  have Q6 := Lib.hid (Blk.new w5 45 (arV o' n' j' n2' j2'))
  clear b6 B5 X5
  go_upto_region 8 with fail
  generalize w5.alloc (.cells (arV o' n' j' n2' j2') 45) = w6 at *
  go_wp2_with fail
  refine (PB.out w6).mono ?_; rintro e w7 ⟨T, b7⟩
  obtain rfl := F2.out e T
  have B7 := Lib.hid (B6.out.trans (b7.mono B6.out.size))
  have X7 := Lib.hid (X6.out.below b7)
  have Q7 := Lib.hid (Q6.out.older (older_below b7))
  clear T b7 PB B6 X6 Q6 F2
  have b8 : Below w7.heap.size w7 (w7.alloc (.cells (arV o' n' j' n2' j2') 44)) := (Below.refl _ w7).alloc (Nat.le_refl _) _
  have B8 := Lib.hid (B7.out.trans (b8.mono B7.out.size))
  have X8 := Lib.hid (X7.out.below b8)
  have Q8 := Lib.hid (Q7.out.older (older_below b8))
  have D8 := Lib.hid (Blk.new w7 44 (arV o' n' j' n2' j2'))
  clear b8 B7 X7 Q7
  go_upto_region 9 with fail
  generalize w7.alloc (.cells (arV o' n' j' n2' j2') 44) = w8 at *
  have TS := told_str X8.out
  have q0 := (Q8.out.cell 0).trans (show _ = some (.int .i64 o') from rfl)
  have q1 := (Q8.out.cell 1).trans (show _ = some (.int .u64 (n' : Int)) from rfl)
  have q2 := (Q8.out.cell 2).trans (show _ = some (.int .u32 (j' : Int)) from rfl)
  have q3 := (Q8.out.cell 3).trans (show _ = some (.int .u64 (n2' : Int)) from rfl)
  have q4 := (Q8.out.cell 4).trans (show _ = some (.int .u32 (j2' : Int)) from rfl)
  have d0 := (D8.out.cell 0).trans (show _ = some (.int .i64 o') from rfl)
  have d1 := (D8.out.cell 1).trans (show _ = some (.int .u64 (n' : Int)) from rfl)
  have d2 := (D8.out.cell 2).trans (show _ = some (.int .u32 (j' : Int)) from rfl)
  have d3 := (D8.out.cell 3).trans (show _ = some (.int .u64 (n2' : Int)) from rfl)
  have d4 := (D8.out.cell 4).trans (show _ = some (.int .u32 (j2' : Int)) from rfl)
  clear X8 Q8 D8 hsz
  cases arOk l with
  | true =>
    rw [show errIf true 50 = 0 from rfl]
    go_wp2
    go_ret
    exact ⟨rfl, B8.out⟩
  | false =>
    rw [show errIf false 50 = 50 from rfl]
    go_wp2
    go_ret
    exact ⟨rfl, B8.out⟩

set_option maxRecDepth 100000 in
theorem lifted (os : Os) (started : os.Started) (H : Type) (enc : TypeId × Value → H) :
    ReturnsInHanded {} Try.checked os 4 .any (Rows.ethAsksSpec.pre6 enc Try.prog Try.f4 Rows.ethAsksRow.domain false) (Rows.ethAsksSpec.post enc Try.prog Try.f4 false true false false) := by
  refine returnsInHanded_of_change (C := Try.checked) own started (by kernel_rfl) Try.func4
    (ChangeSpec.witness6 (enc := enc) (C := Try.checked) false ⟨#[], #[.agg #[.int .i64 0, .int .u64 0, .int .u32 0, .int .u64 0, .int .u32 0], .string ⟨#[]⟩], []⟩ 8 (by kernel_rfl) (by kernel_rfl) (by kernel_rfl) (by kernel_rfl)) ?_
  intro W base args ds gs before hval0 hW hcnd _
  have hval : ∀ (j : Nat) t v, Try.f4.params[j]? = some t → args[j]? = some v → Value.okWide Try.prog W .any base t v := hval0
  have hW' := hW
  obtain ⟨p, q, hA0, hV, rfl, hfz, hnd⟩ := hW
  have hA : DataW.TrodAll enc Try.prog W 0 (fun _ => true) true Try.f4.params.toList args.toList ds p := hA0
  rw [Try.params4] at hA hval
  obtain ⟨v0, vs0, d0, ds0, p0, q0, hargs, rfl, rfl, h0, r0⟩ := trodAll_cons hA
  obtain ⟨v1, vs1, d1, ds1, p1, q1, rfl, rfl, rfl, h1, r1⟩ := trodAll_cons r0
  obtain ⟨rfl, rfl, rfl⟩ := trodAll_nil r1
  obtain rfl : args = #[v0, v1] := by cases args; simp_all
  obtain ⟨a0_0, a0_1, a0_2, a0_3, a0_4, rfl, w0_0, w0_1, w0_2, w0_3, w0_4⟩ := Et.open_ar (hval 0 44 v0 rfl rfl) h0
  obtain ⟨a1, rfl, _, _, w1⟩ := Go.ChangeMaps.open_string Try.underlying9 (hval 1 9 v1 rfl rfl) h1
  clear hA0 hval0
  exact law_close hW' laidOut (by kernel_rfl) rfl Try.underlying4 rfl ⟨rfl, rfl, rfl⟩ (walk W a0_0 a0_1 a0_2 a0_3 a0_4 w0_0 w0_1 w0_2 w0_3 w0_4 a1 w1)

theorem over : Rows.ethAsksRow.holds Try.pinned (OpenSpec.ofChange Rows.ethAsksSpec) :=
  OpenClaim.holds_of_wide 4 Try.f4 rfl rfl rfl rfl rfl rfl rfl ⟨rfl, rfl, rfl, rfl, rfl⟩ rfl rfl rfl rfl rfl (by kernel_rfl) Try.func4 (by kernel_rfl)
    (of_decide_eq_true (by kernel_rfl)) (by unfold Func.isWrapper; first | (rw [if_pos (by decide +kernel)]; kernel_rfl) | (rw [if_neg (by decide +kernel)]; exact ⟨rfl, rfl⟩))
    (fun os started H enc _ => lifted os started H enc)

theorem proved : Rows.EthAsksSaid := over

end Go.Proofs.Ytahmdogpnojcpaa.ethAsks
