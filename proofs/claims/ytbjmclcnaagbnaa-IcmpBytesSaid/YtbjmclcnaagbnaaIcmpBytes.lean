/- Whatever echo and text come in, 'pantlerlaw16.IcmpBytes' returns true and leaves them as they were. No condition. -/
import Derived.Test.YtbjmclcnaagbnaaIcB
namespace Go.Proofs.Ytbjmclcnaagbnaa.icmpBytes
open Go.ChangeShapes Go.WideShapes Go.ChangeAt Go.RowKit Go.Deep Rk Fl Gx Di Ic
set_option linter.unusedVariables false


set_option maxRecDepth 100000 in
set_option maxHeartbeats 8000000 in
theorem walk (w : World) (t : Int) (i q : Nat) (l : List UInt8) (ht : -9223372036854775808 ≤ t ∧ t ≤ 9223372036854775807) (hi : i ≤ 65535) (hq : q ≤ 65535) (hl0 : l.length ≤ maxLen) (x : ByteArray) (wx : x.size ≤ maxLen) :
    Calls Try.prog 3 #[.agg (dcV t i q l), .string x] w fun e w' => e = .returned (.bool true) ∧ Below w.heap.size w w' := by
  obtain ⟨s, rfl⟩ := text_of x
  have hsz : (⟨l.toArray⟩ : ByteArray).size = l.length := rfl
  have hss : (⟨s.toArray⟩ : ByteArray).size = s.length := rfl
  have b0 : Below w.heap.size w (w.alloc (.cells (dcV t i q l) 24)) := (Below.refl _ w).alloc (Nat.le_refl _) _
  have B0 := Lib.hid b0
  have P0 := Lib.hid (Blk.new w 24 (dcV t i q l))
  have AL := Lib.hid (fun W => Ic.alive_any W)
  clear b0
  go_enter Try.func3, Try.ntmps3
  go_upto_region 1 with fail
  generalize w.alloc (.cells (dcV t i q l) 24) = W at *
  go_wp2_with fail
  refine (AL.out W).mono ?_; rintro e w1 ⟨rfl, b1⟩
  have B1 := Lib.hid (B0.out.trans (b1.mono B0.out.size))
  have P1 := Lib.hid (P0.out.older (older_below b1))
  clear B0 P0
  clear b1 AL
  have z0 := (P1.out.cell 0).trans (show _ = some (.int .i64 t) from rfl)
  have z1 := (P1.out.cell 1).trans (show _ = some (.int .u16 (i : Int)) from rfl)
  have z2 := (P1.out.cell 2).trans (show _ = some (.int .u16 (q : Int)) from rfl)
  have z3 := (P1.out.cell 3).trans (show _ = some (.string ⟨l.toArray⟩) from rfl)
  by_cases hl : (l.length : Int) > 3000
  · go_wp2
    go_ret
    exact ⟨rfl, B1.out⟩
  by_cases hs : (s.length : Int) > 3000
  · go_wp2
    go_ret
    exact ⟨rfl, B1.out⟩
  have HL := Lib.hid (show l.length ≤ 3000 from by omega)
  have HS := Lib.hid (show s.length ≤ 3000 from by omega)
  have OF := Lib.hid (fun W => Ic.of_any t i q l W (by have := HL.out; omega))
  go_wp2_with fail
  refine (OF.out w1).mono ?_; rintro e w2 ⟨A2, c2, rfl, s2, b2⟩
  have S2 := Lib.hid s2
  have B2 := Lib.hid (B1.out.trans (b2.mono B1.out.size))
  have P2 := Lib.hid (P1.out.older (older_below b2))
  clear B1 P1
  clear b2 s2 z0 z1 z2 z3 OF
  go_wp2_with fail
  refine (Ic.bytes_any t i q hi hq A2 c2 l w2 S2.out).mono ?_; rintro e w3 ⟨T, b3⟩
  obtain ⟨A3, c3, rfl, r3⟩ := T.form
  have SB3 := Lib.hid r3
  have B3 := Lib.hid (B2.out.trans (b3.mono B2.out.size))
  have P3 := Lib.hid (P2.out.older (older_below b3))
  clear B2 P2
  clear T b3 r3 S2
  have z0 := (P3.out.cell 0).trans (show _ = some (.int .i64 t) from rfl)
  have z1 := (P3.out.cell 1).trans (show _ = some (.int .u16 (i : Int)) from rfl)
  have z2 := (P3.out.cell 2).trans (show _ = some (.int .u16 (q : Int)) from rfl)
  have z3 := (P3.out.cell 3).trans (show _ = some (.string ⟨l.toArray⟩) from rfl)
  go_wp2_with fail
  refine (refBytes_any t i q hi hq l w3).mono ?_; rintro e w4 ⟨T, b4⟩
  obtain rfl := T.form
  have B4 := Lib.hid (B3.out.trans (b4.mono B3.out.size))
  have P4 := Lib.hid (P3.out.older (older_below b4))
  have SB4 := Lib.hid (SB3.out.below b4)
  clear B3 P3 SB3
  clear T b4 z0 z1 z2 z3
  generalize textOf (icMay t l.length) (icB t.toNat i q l) = X at *
  generalize errIf (icMay t l.length) (icEr t) = er at *
  obtain ⟨A6, c6, w6, hconv, hsr, hb, -⟩ := conv_src ⟨s.toArray⟩ (by show s.length ≤ 1000000; have := HS.out; omega) w4
  replace hconv : (convert 9 26 (.string ⟨s.toArray⟩)).run Try.prog w4 = .ok (.slice A6 s.length c6) w6 := hconv
  have S6 := Lib.hid (show Src w6 A6 s.length c6 s from hsr)
  have B6 := Lib.hid (B4.out.trans (hb.mono B4.out.size))
  have P6 := Lib.hid (P4.out.older (older_below hb))
  have SB6 := Lib.hid (SB4.out.below hb)
  clear B4 P4 SB4
  clear hb hsr P6
  go_wp2_with fail
  refine (parse_any A6 s.length c6 s w6 S6.out (by have := HS.out; omega)).mono ?_; rintro e w7 ⟨T, b7⟩
  obtain ⟨Ac, cc, rfl, r7⟩ := T
  have SC7 := Lib.hid r7
  have B7 := Lib.hid (B6.out.trans (b7.mono B6.out.size))
  have SB7 := Lib.hid (SB6.out.below b7)
  clear B6 SB6
  clear b7 r7 S6 hconv
  have DPA := Lib.hid (fun W => refParse_any s W (by have := HS.out; omega))
  unfold DParsed at DPA
  generalize icErr s = es at *
  generalize icP s = p at *
  have b8 : Below w7.heap.size w7 (w7.alloc (.cells (ecV (p.1 : Int) p.2.1 p.2.2.1 Ac p.2.2.2.length cc) 31)) := (Below.refl _ w7).alloc (Nat.le_refl _) _
  have CB8 := Lib.hid (Blk.new w7 31 (ecV (p.1 : Int) p.2.1 p.2.2.1 Ac p.2.2.2.length cc))
  have B8 := Lib.hid (B7.out.trans (b8.mono B7.out.size))
  have SB8 := Lib.hid (SB7.out.below b8)
  have SC8 := Lib.hid (SC7.out.below b8)
  clear B7 SB7 SC7
  clear b8
  go_upto_region 8 with fail
  generalize w7.alloc (.cells (ecV (p.1 : Int) p.2.1 p.2.2.1 Ac p.2.2.2.length cc) 31) = w8 at *
  go_wp2_with fail
  refine (DPA.out w8).mono ?_; rintro e w9 ⟨rfl, b9⟩
  have B9 := Lib.hid (B8.out.trans (b9.mono B8.out.size))
  have CB9 := Lib.hid (CB8.out.older (older_below b9))
  have SB9 := Lib.hid (SB8.out.below b9)
  have SC9 := Lib.hid (SC8.out.below b9)
  clear B8 CB8 SB8 SC8
  clear b9 DPA
  have b10 : Below w9.heap.size w9 (w9.alloc (.cells (dcV (p.1 : Int) p.2.1 p.2.2.1 p.2.2.2) 24)) := (Below.refl _ w9).alloc (Nat.le_refl _) _
  have DB := Lib.hid (Blk.new w9 24 (dcV (p.1 : Int) p.2.1 p.2.2.1 p.2.2.2))
  have B10 := Lib.hid (B9.out.trans (b10.mono B9.out.size))
  have CB10 := Lib.hid (CB9.out.older (older_below b10))
  have SB10 := Lib.hid (SB9.out.below b10)
  have SC10 := Lib.hid (SC9.out.below b10)
  clear B9 CB9 SB9 SC9
  have CB := CB10
  have SB := SB10
  have SC := SC10
  clear b10 CB10 SB10 SC10
  go_upto_region 9 with fail
  generalize w9.alloc (.cells (dcV (p.1 : Int) p.2.1 p.2.2.1 p.2.2.2) 24) = W at *
  refine wp_region_held_drew (S := fun w' => Hid (Below W.heap.size W w')) (by kernel_rfl) (Lib.hid ((Below.refl W.heap.size W).drew)) (fun hS => ?_)
  refine held_take (i := 0) (d := (some 46)) (v := ?_) rfl rfl (by kernel_rfl) (by kernel_rfl) (by kernel_rfl) (fun _ _ _ h => h) (by rfl) ?_ hS ?_
  rotate_left
  · intro w' hSw; (try dsimp only at hSw); go_simp <;> with_reducible rfl
  simp only [Act.put, List.setIfInBounds_toArray, List.set_cons_zero, List.set_cons_succ]
  refine held_take (i := 1) (d := (some 47)) (v := ?_) rfl rfl (by kernel_rfl) (by kernel_rfl) (by kernel_rfl) (fun _ _ _ h => h) (by rfl) ?_ hS ?_
  rotate_left
  · intro w' hSw; have TY := told_str (SB.out.below hSw.out); clear hSw; go_simp <;> with_reducible rfl
  simp only [Act.put, List.setIfInBounds_toArray, List.set_cons_zero, List.set_cons_succ]
  refine held_take (i := 2) (d := (some 48)) (v := ?_) rfl rfl (by kernel_rfl) (by kernel_rfl) (by kernel_rfl) (fun _ _ _ h => h) (by rfl) ?_ hS ?_
  rotate_left
  · intro w' hSw; (try dsimp only at hSw); go_simp <;> with_reducible rfl
  simp only [Act.put, List.setIfInBounds_toArray, List.set_cons_zero, List.set_cons_succ]
  refine held_take (i := 3) (d := (some 49)) (v := ?_) rfl rfl (by kernel_rfl) (by kernel_rfl) (by kernel_rfl) (fun _ _ _ h => h) (by rfl) ?_ hS ?_
  rotate_left
  · intro w' hSw; (try dsimp only at hSw); go_simp <;> with_reducible rfl
  simp only [Act.put, List.setIfInBounds_toArray, List.set_cons_zero, List.set_cons_succ]
  refine held_take (i := 4) (d := (some 50)) (v := ?_) rfl rfl (by kernel_rfl) (by kernel_rfl) (by kernel_rfl) (fun _ _ _ h => h) (by rfl) ?_ hS ?_
  rotate_left
  · intro w' hSw; (try dsimp only at hSw); go_simp <;> with_reducible rfl
  simp only [Act.put, List.setIfInBounds_toArray, List.set_cons_zero, List.set_cons_succ]
  refine held_take (i := 5) (d := (some 51)) (v := ?_) rfl rfl (by kernel_rfl) (by kernel_rfl) (by kernel_rfl) (fun _ _ _ h => h) (by rfl) ?_ hS ?_
  rotate_left
  · intro w' hSw; (try dsimp only at hSw); go_simp <;> with_reducible rfl
  simp only [Act.put, List.setIfInBounds_toArray, List.set_cons_zero, List.set_cons_succ]
  refine held_take (i := 6) (d := (some 52)) (v := ?_) rfl rfl (by kernel_rfl) (by kernel_rfl) (by kernel_rfl) (fun _ _ _ h => h) (by rfl) ?_ hS ?_
  rotate_left
  · intro w' hSw; (try dsimp only at hSw); go_simp <;> with_reducible rfl
  simp only [Act.put, List.setIfInBounds_toArray, List.set_cons_zero, List.set_cons_succ]
  refine held_take (i := 7) (d := (some 53)) (v := ?_) rfl rfl (by kernel_rfl) (by kernel_rfl) (by kernel_rfl) (fun _ _ _ h => h) (by rfl) ?_ hS ?_
  rotate_left
  · intro w' hSw; (try dsimp only at hSw); go_simp <;> with_reducible rfl
  simp only [Act.put, List.setIfInBounds_toArray, List.set_cons_zero, List.set_cons_succ]
  refine held_take (i := 8) (d := (some 54)) (v := ?_) rfl rfl (by kernel_rfl) (by kernel_rfl) (by kernel_rfl) (fun _ _ _ h => h) (by rfl) ?_ hS ?_
  rotate_left
  · intro w' hSw; (try dsimp only at hSw); go_simp <;> with_reducible rfl
  simp only [Act.put, List.setIfInBounds_toArray, List.set_cons_zero, List.set_cons_succ]
  refine held_take (i := 9) (d := (some 55)) (v := ?_) rfl rfl (by kernel_rfl) (by kernel_rfl) (by kernel_rfl) (fun _ _ _ h => h) (by rfl) ?_ hS ?_
  rotate_left
  · intro w' hSw; (try dsimp only at hSw); go_simp <;> with_reducible rfl
  simp only [Act.put, List.setIfInBounds_toArray, List.set_cons_zero, List.set_cons_succ]
  refine held_take (i := 10) (d := (some 56)) (v := ?_) rfl rfl (by kernel_rfl) (by kernel_rfl) (by kernel_rfl) (fun _ _ _ h => h) (by rfl) ?_ hS ?_
  rotate_left
  · intro w' hSw; have kb := hSw.out; clear hSw; have z0 := ((CB.out.older (older_below kb)).cell 0).trans (show _ = some (.int .i64 (p.1 : Int)) from rfl); have z1 := ((CB.out.older (older_below kb)).cell 1).trans (show _ = some (.int .u16 (p.2.1 : Int)) from rfl); have z2 := ((CB.out.older (older_below kb)).cell 2).trans (show _ = some (.int .u16 (p.2.2.1 : Int)) from rfl); have z3 := ((CB.out.older (older_below kb)).cell 3).trans (show _ = some (.slice Ac p.2.2.2.length cc) from rfl); clear kb; go_simp <;> with_reducible rfl
  simp only [Act.put, List.setIfInBounds_toArray, List.set_cons_zero, List.set_cons_succ]
  refine held_take (i := 12) (d := (some 58)) (v := ?_) rfl rfl (by kernel_rfl) (by kernel_rfl) (by kernel_rfl) (fun _ _ _ h => h) (by rfl) ?_ hS ?_
  rotate_left
  · intro w' hSw; have kb := hSw.out; clear hSw; have z0 := ((DB.out.older (older_below kb)).cell 0).trans (show _ = some (.int .i64 (p.1 : Int)) from rfl); have z1 := ((DB.out.older (older_below kb)).cell 1).trans (show _ = some (.int .u16 (p.2.1 : Int)) from rfl); have z2 := ((DB.out.older (older_below kb)).cell 2).trans (show _ = some (.int .u16 (p.2.2.1 : Int)) from rfl); have z3 := ((DB.out.older (older_below kb)).cell 3).trans (show _ = some (.string ⟨p.2.2.2.toArray⟩) from rfl); clear kb; go_simp <;> with_reducible rfl
  simp only [Act.put, List.setIfInBounds_toArray, List.set_cons_zero, List.set_cons_succ]
  refine held_one (i := 11) (by kernel_rfl) rfl (by rfl) ?_
  go_simp
  refine (to_any (p.1 : Int) p.2.1 p.2.2.1 Ac p.2.2.2.length cc p.2.2.2 _ (SC.out.below hS.out)).mono ?_; rintro e wt ⟨rfl, bt⟩
  have hS : Hid (Below W.heap.size W wt) := Lib.hid (hS.out.trans (bt.mono hS.out.size))
  refine ⟨hS, ?_⟩
  clear bt
  (try simp only [Act.put, List.setIfInBounds_toArray, List.set_cons_zero, List.set_cons_succ])
  refine held_take (i := 13) (d := (some 59)) (v := ?_) rfl rfl (by kernel_rfl) (by kernel_rfl) (by kernel_rfl) (fun _ _ _ h => h) (by rfl) ?_ hS ?_
  rotate_left
  · intro w' hSw; (try dsimp only at hSw); go_simp <;> with_reducible rfl
  simp only [Act.put, List.setIfInBounds_toArray, List.set_cons_zero, List.set_cons_succ]
  refine held_take (i := 14) (d := (some 60)) (v := ?_) rfl rfl (by kernel_rfl) (by kernel_rfl) (by kernel_rfl) (fun _ _ _ h => h) (by rfl) ?_ hS ?_
  rotate_left
  · intro w' hSw; (try dsimp only at hSw); go_simp <;> with_reducible rfl
  simp only [Act.put, List.setIfInBounds_toArray, List.set_cons_zero, List.set_cons_succ]
  refine held_take (i := 15) (d := (some 61)) (v := ?_) rfl rfl (by kernel_rfl) (by kernel_rfl) (by kernel_rfl) (fun _ _ _ h => h) (by rfl) ?_ hS ?_
  rotate_left
  · intro w' hSw; (try dsimp only at hSw); go_simp <;> with_reducible rfl
  simp only [Act.put, List.setIfInBounds_toArray, List.set_cons_zero, List.set_cons_succ]
  refine held_take (i := 16) (d := (some 62)) (v := ?_) rfl rfl (by kernel_rfl) (by kernel_rfl) (by kernel_rfl) (fun _ _ _ h => h) (by rfl) ?_ hS ?_
  rotate_left
  · intro w' hSw; (try dsimp only at hSw); go_simp <;> with_reducible rfl
  simp only [Act.put, List.setIfInBounds_toArray, List.set_cons_zero, List.set_cons_succ]
  refine held_take (i := 17) (d := (some 63)) (v := ?_) rfl rfl (by kernel_rfl) (by kernel_rfl) (by kernel_rfl) (fun _ _ _ h => h) (by rfl) ?_ hS ?_
  rotate_left
  · intro w' hSw; (try dsimp only at hSw); go_simp <;> with_reducible rfl
  simp only [Act.put, List.setIfInBounds_toArray, List.set_cons_zero, List.set_cons_succ]
  refine held_take (i := 18) (d := (some 64)) (v := ?_) rfl rfl (by kernel_rfl) (by kernel_rfl) (by kernel_rfl) (fun _ _ _ h => h) (by rfl) ?_ hS ?_
  rotate_left
  · intro w' hSw; (try dsimp only at hSw); go_simp <;> with_reducible rfl
  simp only [Act.put, List.setIfInBounds_toArray, List.set_cons_zero, List.set_cons_succ]
  refine held_take (i := 19) (d := (some 65)) (v := ?_) rfl rfl (by kernel_rfl) (by kernel_rfl) (by kernel_rfl) (fun _ _ _ h => h) (by rfl) ?_ hS ?_
  rotate_left
  · intro w' hSw; (try dsimp only at hSw); go_simp <;> with_reducible rfl
  simp only [Act.put, List.setIfInBounds_toArray, List.set_cons_zero, List.set_cons_succ]
  refine held_take (i := 20) (d := (some 4)) (v := ?_) rfl rfl (by kernel_rfl) (by kernel_rfl) (by kernel_rfl) (fun _ _ _ h => h) (by rfl) ?_ hS ?_
  rotate_left
  · intro w' hSw; (try dsimp only at hSw); go_simp <;> with_reducible rfl
  simp only [Act.put, List.setIfInBounds_toArray, List.set_cons_zero, List.set_cons_succ]
  refine wpAnyH_done (by kernel_rfl) ?_ _
  have BZ := Lib.hid (B10.out.trans (hS.out.mono B10.out.size))
  go_wp2
  go_ret
  exact ⟨rfl, BZ.out⟩

set_option maxRecDepth 100000 in
theorem lifted (os : Os) (started : os.Started) (H : Type) (enc : TypeId × Value → H) :
    ReturnsInHanded {} Try.checked os 3 .any (Rows.icmpBytesSpec.pre6 enc Try.prog Try.f3 Rows.icmpBytesRow.domain false) (Rows.icmpBytesSpec.post enc Try.prog Try.f3 false true false false) := by
  refine returnsInHanded_of_change (C := Try.checked) own started (by kernel_rfl) Try.func3
    (ChangeSpec.witness6 (enc := enc) (C := Try.checked) false ⟨#[], #[.agg #[.int .i64 0, .int .u16 0, .int .u16 0, .string ⟨#[]⟩], .string ⟨#[]⟩], []⟩ 8 (by kernel_rfl) (by kernel_rfl) (by kernel_rfl) (by kernel_rfl)) ?_
  intro W base args ds gs before hval0 hW hcnd _
  have hval : ∀ (j : Nat) t v, Try.f3.params[j]? = some t → args[j]? = some v → Value.okWide Try.prog W .any base t v := hval0
  have hW' := hW
  obtain ⟨p, q, hA0, hV, rfl, hfz, hnd⟩ := hW
  have hA : DataW.TrodAll enc Try.prog W 0 (fun _ => true) true Try.f3.params.toList args.toList ds p := hA0
  rw [Try.params3] at hA hval
  obtain ⟨v0, vs0, d0, ds0, p0, q0, hargs, rfl, rfl, h0, r0⟩ := trodAll_cons hA
  obtain ⟨v1, vs1, d1, ds1, p1, q1, rfl, rfl, rfl, h1, r1⟩ := trodAll_cons r0
  obtain ⟨rfl, rfl, rfl⟩ := trodAll_nil r1
  obtain rfl : args = #[v0, v1] := by cases args; simp_all
  obtain ⟨a0_0, a0_1, a0_2, a0_3, rfl, w0_0, w0_1, w0_2, w0_3⟩ := Ic.open_ec (hval 0 24 v0 rfl rfl) h0
  obtain ⟨a1, rfl, _, _, w1⟩ := Go.ChangeMaps.open_string Try.underlying9 (hval 1 9 v1 rfl rfl) h1
  clear hA0 hval0
  exact law_close hW' laidOut (by kernel_rfl) rfl Try.underlying4 rfl ⟨rfl, rfl, rfl⟩ (walk W a0_0 a0_1 a0_2 a0_3 w0_0 w0_1 w0_2 w0_3 a1 w1)

theorem over : Rows.icmpBytesRow.holds Try.pinned (OpenSpec.ofChange Rows.icmpBytesSpec) :=
  OpenClaim.holds_of_wide 3 Try.f3 rfl rfl rfl rfl rfl rfl rfl ⟨rfl, rfl, rfl, rfl, rfl⟩ rfl rfl rfl rfl rfl (by kernel_rfl) Try.func3 (by kernel_rfl)
    (of_decide_eq_true (by kernel_rfl)) (by unfold Func.isWrapper; first | (rw [if_pos (by decide +kernel)]; kernel_rfl) | (rw [if_neg (by decide +kernel)]; exact ⟨rfl, rfl⟩))
    (fun os started H enc _ => lifted os started H enc)

theorem proved : Rows.IcmpBytesSaid := over

end Go.Proofs.Ytbjmclcnaagbnaa.icmpBytes
