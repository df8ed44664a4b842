/- Whatever text comes in, 'pantlerlaw15.IPParses' returns true and leaves it as it was. No condition. -/
import Derived.Test.YtpnfmohejcdgfaaIpC
namespace Go.Proofs.Ytpnfmohejcdgfaa.iPParses
open Go.ChangeShapes Go.WideShapes Go.ChangeAt Go.RowKit Go.Deep Rk Fl Gx Di Ip
set_option linter.unusedVariables false


set_option maxRecDepth 100000 in
set_option maxHeartbeats 8000000 in
theorem walk (w : World) (x : ByteArray) (wx : x.size ≤ maxLen) :
    Calls Try.prog 4 #[.string x] w fun e w' => e = .returned (.bool true) ∧ Below w.heap.size w w' := by
  obtain ⟨l, rfl⟩ := text_of x
  have hsz : (⟨l.toArray⟩ : ByteArray).size = l.length := rfl
  have AL := Lib.hid (fun W => Ip.alive_any W)
  go_enter Try.func4, Try.ntmps4
  go_wp2_with fail
  refine (AL.out w).mono ?_; rintro e w1 ⟨rfl, b1⟩
  have B1 := Lib.hid b1
  clear b1 AL
  by_cases hl : (l.length : Int) > 3000
  · go_wp2
    go_ret
    exact ⟨rfl, B1.out⟩
  have HL := Lib.hid (show l.length ≤ 3000 from by omega)
  obtain ⟨A6, c6, w6, hconv, hsr, hb, -⟩ := conv_src ⟨l.toArray⟩ (by show l.length ≤ 1000000; omega) w1
  replace hconv : (convert 9 27 (.string ⟨l.toArray⟩)).run Try.prog w1 = .ok (.slice A6 l.length c6) w6 := hconv
  have S6 := Lib.hid (show Src w6 A6 l.length c6 l from hsr)
  have B6 := Lib.hid (B1.out.trans (hb.mono B1.out.size))
  clear hb hsr B1
  obtain ⟨i, t, p, s, d, lb, F1, F2⟩ := pk_form l
  have F1 := Lib.hid F1
  have F2 := Lib.hid F2
  go_wp2_with fail
  refine (parse_any A6 l.length c6 l w6 S6.out (by have := HL.out; omega)).mono ?_; rintro e w7 ⟨T, b7⟩
  obtain ⟨Ac, cc, rfl, r7⟩ := F1.out w6 w7 e T
  have SC7 := Lib.hid r7
  have B7 := Lib.hid (B6.out.trans (b7.mono B6.out.size))
  clear T b7 r7 B6 S6 F1 hconv
  have b8 : Below w7.heap.size w7 (w7.alloc (.cells (pkV i t p s d Ac lb.length cc) 32)) := (Below.refl _ w7).alloc (Nat.le_refl _) _
  have CB8 := Lib.hid (Blk.new w7 32 (pkV i t p s d Ac lb.length cc))
  have B8 := Lib.hid (B7.out.trans (b8.mono B7.out.size))
  have SC8 := Lib.hid (SC7.out.below b8)
  clear b8 B7 SC7
  go_upto_region 6 with fail
  generalize w7.alloc (.cells (pkV i t p s d Ac lb.length cc) 32) = w8 at *
  go_wp2_with fail
  refine (refParse_any l w8 (by have := HL.out; omega)).mono ?_; rintro e w9 ⟨T, b9⟩
  obtain rfl := F2.out e T
  have CB9 := Lib.hid (CB8.out.older (older_below b9))
  have SC9 := Lib.hid (SC8.out.below b9)
  have B9 := Lib.hid (B8.out.trans (b9.mono B8.out.size))
  clear T b9 B8 CB8 SC8 F2
  have b10 : Below w9.heap.size w9 (w9.alloc (.cells (dpV i t p s d lb) 25)) := (Below.refl _ w9).alloc (Nat.le_refl _) _
  have DB := Lib.hid (Blk.new w9 25 (dpV i t p s d lb))
  have CB := Lib.hid (CB9.out.older (older_below b10))
  have SC := Lib.hid (SC9.out.below b10)
  have B10 := Lib.hid (B9.out.trans (b10.mono B9.out.size))
  clear b10 B9 CB9 SC9
  go_upto_region 7 with fail
  generalize w9.alloc (.cells (dpV i t p s d lb) 25) = W at *
  generalize parErr l = er at *
  refine wp_region_held_drew (S := fun w' => Hid (Below W.heap.size W w')) (by kernel_rfl) (Lib.hid ((Below.refl W.heap.size W).drew)) (fun hS => ?_)
  refine held_take (i := 0) (d := (some 23)) (v := ?_) rfl rfl (by kernel_rfl) (by kernel_rfl) (by kernel_rfl) (fun _ _ _ h => h) (by rfl) ?_ hS ?_
  rotate_left
  · intro w' hSw; have kb := hSw.out; clear hSw; have z0 := ((CB.out.older (older_below kb)).cell 0).trans (show _ = some (.int .u16 (i : Int)) from rfl); have z1 := ((CB.out.older (older_below kb)).cell 1).trans (show _ = some (.int .u8 (t : Int)) from rfl); have z2 := ((CB.out.older (older_below kb)).cell 2).trans (show _ = some (.int .u8 (p : Int)) from rfl); have z3 := ((CB.out.older (older_below kb)).cell 3).trans (show _ = some (.int .u32 (s : Int)) from rfl); have z4 := ((CB.out.older (older_below kb)).cell 4).trans (show _ = some (.int .u32 (d : Int)) from rfl); have z5 := ((CB.out.older (older_below kb)).cell 5).trans (show _ = some (.slice Ac lb.length cc) from rfl); clear kb; go_simp <;> with_reducible rfl
  simp only [Act.put, List.setIfInBounds_toArray, List.set_cons_zero, List.set_cons_succ]
  refine held_take (i := 2) (d := (some 25)) (v := ?_) rfl rfl (by kernel_rfl) (by kernel_rfl) (by kernel_rfl) (fun _ _ _ h => h) (by rfl) ?_ hS ?_
  rotate_left
  · intro w' hSw; have kb := hSw.out; clear hSw; have z0 := ((DB.out.older (older_below kb)).cell 0).trans (show _ = some (.int .u16 (i : Int)) from rfl); have z1 := ((DB.out.older (older_below kb)).cell 1).trans (show _ = some (.int .u8 (t : Int)) from rfl); have z2 := ((DB.out.older (older_below kb)).cell 2).trans (show _ = some (.int .u8 (p : Int)) from rfl); have z3 := ((DB.out.older (older_below kb)).cell 3).trans (show _ = some (.int .u32 (s : Int)) from rfl); have z4 := ((DB.out.older (older_below kb)).cell 4).trans (show _ = some (.int .u32 (d : Int)) from rfl); have z5 := ((DB.out.older (older_below kb)).cell 5).trans (show _ = some (.string ⟨lb.toArray⟩) from rfl); clear kb; go_simp <;> with_reducible rfl
  simp only [Act.put, List.setIfInBounds_toArray, List.set_cons_zero, List.set_cons_succ]
  refine held_one (i := 1) (by kernel_rfl) rfl (by rfl) ?_
  go_simp
  refine (to_any i t p s d Ac lb.length cc lb _ (SC.out.below hS.out)).mono ?_; rintro e wt ⟨rfl, bt⟩
  have hS : Hid (Below W.heap.size W wt) := Lib.hid (hS.out.trans (bt.mono hS.out.size))
  refine ⟨hS, ?_⟩
  clear bt
  (try simp only [Act.put, List.setIfInBounds_toArray, List.set_cons_zero, List.set_cons_succ])
  refine held_take (i := 3) (d := (some 26)) (v := ?_) rfl rfl (by kernel_rfl) (by kernel_rfl) (by kernel_rfl) (fun _ _ _ h => h) (by rfl) ?_ hS ?_
  rotate_left
  · intro w' hSw; (try dsimp only at hSw); go_simp <;> with_reducible rfl
  simp only [Act.put, List.setIfInBounds_toArray, List.set_cons_zero, List.set_cons_succ]
  refine held_take (i := 4) (d := (some 27)) (v := ?_) rfl rfl (by kernel_rfl) (by kernel_rfl) (by kernel_rfl) (fun _ _ _ h => h) (by rfl) ?_ hS ?_
  rotate_left
  · intro w' hSw; (try dsimp only at hSw); go_simp <;> with_reducible rfl
  simp only [Act.put, List.setIfInBounds_toArray, List.set_cons_zero, List.set_cons_succ]
  refine held_take (i := 5) (d := (some 28)) (v := ?_) rfl rfl (by kernel_rfl) (by kernel_rfl) (by kernel_rfl) (fun _ _ _ h => h) (by rfl) ?_ hS ?_
  rotate_left
  · intro w' hSw; (try dsimp only at hSw); go_simp <;> with_reducible rfl
  simp only [Act.put, List.setIfInBounds_toArray, List.set_cons_zero, List.set_cons_succ]
  refine held_take (i := 6) (d := (some 29)) (v := ?_) rfl rfl (by kernel_rfl) (by kernel_rfl) (by kernel_rfl) (fun _ _ _ h => h) (by rfl) ?_ hS ?_
  rotate_left
  · intro w' hSw; (try dsimp only at hSw); go_simp <;> with_reducible rfl
  simp only [Act.put, List.setIfInBounds_toArray, List.set_cons_zero, List.set_cons_succ]
  refine held_take (i := 7) (d := (some 30)) (v := ?_) rfl rfl (by kernel_rfl) (by kernel_rfl) (by kernel_rfl) (fun _ _ _ h => h) (by rfl) ?_ hS ?_
  rotate_left
  · intro w' hSw; (try dsimp only at hSw); go_simp <;> with_reducible rfl
  simp only [Act.put, List.setIfInBounds_toArray, List.set_cons_zero, List.set_cons_succ]
  refine held_take (i := 8) (d := (some 31)) (v := ?_) rfl rfl (by kernel_rfl) (by kernel_rfl) (by kernel_rfl) (fun _ _ _ h => h) (by rfl) ?_ hS ?_
  rotate_left
  · intro w' hSw; (try dsimp only at hSw); go_simp <;> with_reducible rfl
  simp only [Act.put, List.setIfInBounds_toArray, List.set_cons_zero, List.set_cons_succ]
  refine held_take (i := 9) (d := (some 2)) (v := ?_) rfl rfl (by kernel_rfl) (by kernel_rfl) (by kernel_rfl) (fun _ _ _ h => h) (by rfl) ?_ hS ?_
  rotate_left
  · intro w' hSw; (try dsimp only at hSw); go_simp <;> with_reducible rfl
  simp only [Act.put, List.setIfInBounds_toArray, List.set_cons_zero, List.set_cons_succ]
  refine wpAnyH_done (by kernel_rfl) ?_ _
  have BZ := Lib.hid (B10.out.trans (hS.out.mono B10.out.size))
  go_wp2
  go_ret
  exact ⟨rfl, BZ.out⟩

set_option maxRecDepth 100000 in
theorem lifted (os : Os) (started : os.Started) (H : Type) (enc : TypeId × Value → H) :
    ReturnsInHanded {} Try.checked os 4 .any (Rows.iPParsesSpec.pre6 enc Try.prog Try.f4 Rows.iPParsesRow.domain false) (Rows.iPParsesSpec.post enc Try.prog Try.f4 false true false false) := by
  refine returnsInHanded_of_change (C := Try.checked) own started (by kernel_rfl) Try.func4
    (ChangeSpec.witness6 (enc := enc) (C := Try.checked) false ⟨#[], #[.string ⟨#[]⟩], []⟩ 8 (by kernel_rfl) (by kernel_rfl) (by kernel_rfl) (by kernel_rfl)) ?_
  intro W base args ds gs before hval0 hW hcnd _
  have hval : ∀ (j : Nat) t v, Try.f4.params[j]? = some t → args[j]? = some v → Value.okWide Try.prog W .any base t v := hval0
  have hW' := hW
  obtain ⟨p, q, hA0, hV, rfl, hfz, hnd⟩ := hW
  have hA : DataW.TrodAll enc Try.prog W 0 (fun _ => true) true Try.f4.params.toList args.toList ds p := hA0
  rw [Try.params4] at hA hval
  obtain ⟨v0, vs0, d0, ds0, p0, q0, hargs, rfl, rfl, h0, r0⟩ := trodAll_cons hA
  obtain ⟨rfl, rfl, rfl⟩ := trodAll_nil r0
  obtain rfl : args = #[v0] := by cases args; simp_all
  obtain ⟨a0, rfl, _, _, w0⟩ := Go.ChangeMaps.open_string Try.underlying9 (hval 0 9 v0 rfl rfl) h0
  clear hA0 hval0
  exact law_close hW' laidOut (by kernel_rfl) rfl Try.underlying4 rfl ⟨rfl, rfl, rfl⟩ (walk W a0 w0)

theorem over : Rows.iPParsesRow.holds Try.pinned (OpenSpec.ofChange Rows.iPParsesSpec) :=
  OpenClaim.holds_of_wide 4 Try.f4 rfl rfl rfl rfl rfl rfl rfl ⟨rfl, rfl, rfl, rfl, rfl⟩ rfl rfl rfl rfl rfl (by kernel_rfl) Try.func4 (by kernel_rfl)
    (of_decide_eq_true (by kernel_rfl)) (by unfold Func.isWrapper; first | (rw [if_pos (by decide +kernel)]; kernel_rfl) | (rw [if_neg (by decide +kernel)]; exact ⟨rfl, rfl⟩))
    (fun os started H enc _ => lifted os started H enc)

theorem proved : Rows.IPParsesSaid := over

end Go.Proofs.Ytpnfmohejcdgfaa.iPParses
