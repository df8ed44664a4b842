/- The document's answers of layer 16 (icmp): Bytes, Parse. Conditions: those that each states. -/
import Derived.Test.YtbjmclcnaagbnaaIc2
namespace Go.Proofs.Ytbjmclcnaagbnaa.Ic
open Go.ChangeShapes Go.WideShapes Go.ChangeAt Go.RowKit Go.Deep Rk Fl Gx Di
open Es hiding src_chg chg_below chg_of_row src_apart
set_option linter.unusedVariables false
set_option linter.unusedSimpArgs false

abbrev dcV (t : Int) (i q : Nat) (l : List UInt8) : Array Value := #[.int .i64 t, .int .u16 (i : Int), .int .u16 (q : Int), .string ⟨l.toArray⟩]
abbrev dc0 : Array Value := #[.int .i64 0, .int .u16 0, .int .u16 0, .string ⟨#[]⟩]
theorem dc_info : (Try.prog.info? 24).map (·.size) = some 4 := by kernel_rfl

set_option maxRecDepth 100000 in
set_option maxHeartbeats 4000000 in
theorem refBytes_ok0 (i q : Nat) (hi : i ≤ 65535) (hq : q ≤ 65535) (l : List UInt8) (hl : l.length ≤ 982) (w : World) :
    Calls Try.prog 9 #[.agg (dcV 0 i q l)] w fun e w' => e = .returned (.tuple #[.string ⟨(icB 0 i q l).toArray⟩, .int .i64 0]) ∧ Below w.heap.size w w' := by
  have b1 : Below w.heap.size w (w.alloc (.cells (dcV 0 i q l) 24)) := (Below.refl _ w).alloc (Nat.le_refl _) _
  have B1 := Lib.hid b1
  have K1 := Lib.hid (Blk.new w 24 (dcV 0 i q l))
  have P1 := Lib.hid (fun W => refP_any i 2 W (by omega) (by omega) (by omega) (by simp; omega))
  have P2 := Lib.hid (fun W => refP_any q 2 W (by omega) (by omega) (by omega) (by simp; omega))
  have P3 := Lib.hid (fun W => refP_any (icK 0 i q l) 2 W (by have := icK_le 0 i q l; omega) (by omega) (by omega) (by have := icK_le 0 i q l; simp; omega))
  have u1 := IntWalk.u64_in (i : Int) (by omega)
  have u2 := IntWalk.u64_in (q : Int) (by omega)
  have hsz : (⟨l.toArray⟩ : ByteArray).size = l.length := rfl
  have hl9 : ¬ (l.length : Int) > 982 := by omega
  clear b1
  obtain ⟨X, hX⟩ : ∃ X : List UInt8, [0, 0] = X := ⟨_, rfl⟩
  have HX := Lib.hid hX
  have lX : X.length = 2 := by rw [← hX]; rfl
  have TS := Lib.hid (fun (W : World) => show (convert 26 9 (.slice (some ⟨W.heap.size, 0, none⟩) 2 2)).run Try.prog (W.alloc (.cells #[.int .u8 0, .int .u8 0] 5)) = .ok (.string ⟨X.toArray⟩) (W.alloc (.cells #[.int .u8 0, .int .u8 0] 5)) from by rw [← hX]; exact told_str (src_new W [0, 0] (by decide)))
  clear hX
  go_enter Try.func9, Try.ntmps9
  go_upto_region 1 with fail
  generalize w.alloc (.cells (dcV 0 i q l) 24) = W at *
  have z0 := (K1.out.cell 0).trans (show _ = some (.int .i64 0) from rfl)
  have z1 := (K1.out.cell 1).trans (show _ = some (.int .u16 (i : Int)) from rfl)
  have z2 := (K1.out.cell 2).trans (show _ = some (.int .u16 (q : Int)) from rfl)
  have z3 := (K1.out.cell 3).trans (show _ = some (.string ⟨l.toArray⟩) from rfl)
  have ts := TS.out W
  have B2 := Lib.hid (B1.out.alloc B1.out.size (.cells #[.int .u8 0, .int .u8 0] 5))
  have K2 := Lib.hid (K1.out.alloc (.cells #[.int .u8 0, .int .u8 0] 5))
  go_upto_region 6 with fail
  generalize W.alloc (.cells #[.int .u8 0, .int .u8 0] 5) = W2 at *
  clear z0 z1 z2 z3 ts TS B1 K1
  refine wp_region_held_drew (S := fun w' => Hid (Below W2.heap.size W2 w')) (by kernel_rfl) (Lib.hid ((Below.refl W2.heap.size W2).drew)) (fun hS => ?_)
  refine held_take (i := 0) (d := (some 24)) (v := ?_) rfl rfl (by kernel_rfl) (by kernel_rfl) (by kernel_rfl) (fun _ _ _ h => h) (by rfl) ?_ hS ?_
  rotate_left
  · intro w' hSw; (try dsimp only at hSw); go_simp <;> with_reducible rfl
  simp only [Act.put, List.setIfInBounds_toArray, List.set_cons_zero, List.set_cons_succ]
  refine held_take (i := 1) (d := (some 25)) (v := ?_) rfl rfl (by kernel_rfl) (by kernel_rfl) (by kernel_rfl) (fun _ _ _ h => h) (by rfl) ?_ hS ?_
  rotate_left
  · intro w' hSw; have kb := hSw.out; clear hSw; have z1 := ((K2.out.older (older_below kb)).cell 1).trans (show _ = some (.int .u16 (i : Int)) from rfl); clear kb; go_simp <;> with_reducible rfl
  simp only [Act.put, List.setIfInBounds_toArray, List.set_cons_zero, List.set_cons_succ]
  refine held_take (i := 2) (d := (some 26)) (v := ?_) rfl rfl (by kernel_rfl) (by kernel_rfl) (by kernel_rfl) (fun _ _ _ h => h) (by rfl) ?_ hS ?_
  rotate_left
  · intro w' hSw; (try dsimp only at hSw); go_simp <;> with_reducible rfl
  simp only [Act.put, List.setIfInBounds_toArray, List.set_cons_zero, List.set_cons_succ]
  refine held_take (i := 4) (d := (some 28)) (v := ?_) rfl rfl (by kernel_rfl) (by kernel_rfl) (by kernel_rfl) (fun _ _ _ h => h) (by rfl) ?_ hS ?_
  rotate_left
  · intro w' hSw; (try dsimp only at hSw); go_simp <;> with_reducible rfl
  simp only [Act.put, List.setIfInBounds_toArray, List.set_cons_zero, List.set_cons_succ]
  refine held_take (i := 5) (d := (some 29)) (v := ?_) rfl rfl (by kernel_rfl) (by kernel_rfl) (by kernel_rfl) (fun _ _ _ h => h) (by rfl) ?_ hS ?_
  rotate_left
  · intro w' hSw; have kb := hSw.out; clear hSw; have z2 := ((K2.out.older (older_below kb)).cell 2).trans (show _ = some (.int .u16 (q : Int)) from rfl); clear kb; go_simp <;> with_reducible rfl
  simp only [Act.put, List.setIfInBounds_toArray, List.set_cons_zero, List.set_cons_succ]
  refine held_take (i := 6) (d := (some 30)) (v := ?_) rfl rfl (by kernel_rfl) (by kernel_rfl) (by kernel_rfl) (fun _ _ _ h => h) (by rfl) ?_ hS ?_
  rotate_left
  · intro w' hSw; (try dsimp only at hSw); go_simp <;> with_reducible rfl
  simp only [Act.put, List.setIfInBounds_toArray, List.set_cons_zero, List.set_cons_succ]
  refine held_take (i := 9) (d := (some 33)) (v := ?_) rfl rfl (by kernel_rfl) (by kernel_rfl) (by kernel_rfl) (fun _ _ _ h => h) (by rfl) ?_ hS ?_
  rotate_left
  · intro w' hSw; (try dsimp only at hSw); go_simp <;> with_reducible rfl
  simp only [Act.put, List.setIfInBounds_toArray, List.set_cons_zero, List.set_cons_succ]
  refine held_take (i := 10) (d := (some 34)) (v := ?_) rfl rfl (by kernel_rfl) (by kernel_rfl) (by kernel_rfl) (fun _ _ _ h => h) (by rfl) ?_ hS ?_
  rotate_left
  · intro w' hSw; have kb := hSw.out; clear hSw; have z3 := ((K2.out.older (older_below kb)).cell 3).trans (show _ = some (.string ⟨l.toArray⟩) from rfl); clear kb; go_simp <;> with_reducible rfl
  simp only [Act.put, List.setIfInBounds_toArray, List.set_cons_zero, List.set_cons_succ]
  refine held_one (i := 3) (by kernel_rfl) rfl (by rfl) ?_
  go_simp
  refine (P1.out _).mono ?_; rintro e wp ⟨rfl, bp⟩
  have hS : Hid (Below W2.heap.size W2 wp) := Lib.hid (hS.out.trans (bp.mono hS.out.size))
  refine ⟨hS, ?_⟩
  clear bp
  (try simp only [Act.put, List.setIfInBounds_toArray, List.set_cons_zero, List.set_cons_succ])
  refine held_one (i := 7) (by kernel_rfl) rfl (by rfl) ?_
  go_simp
  refine (P2.out _).mono ?_; rintro e wp ⟨rfl, bp⟩
  have hS : Hid (Below W2.heap.size W2 wp) := Lib.hid (hS.out.trans (bp.mono hS.out.size))
  refine ⟨hS, ?_⟩
  clear bp
  (try simp only [Act.put, List.setIfInBounds_toArray, List.set_cons_zero, List.set_cons_succ])
  refine held_take (i := 8) (d := (some 32)) (v := .string ⟨(be i 2 ++ be q 2).toArray⟩) rfl rfl (by kernel_rfl) (by kernel_rfl) (by kernel_rfl) (fun _ _ _ h => h) (by rfl) (fun w' _ => exec_cat rfl rfl rfl (by simp [be_length]) w') hS ?_
  simp only [Act.put, List.setIfInBounds_toArray, List.set_cons_zero, List.set_cons_succ]
  refine held_take (i := 11) (d := (some 35)) (v := .string ⟨((be i 2 ++ be q 2) ++ l).toArray⟩) rfl rfl (by kernel_rfl) (by kernel_rfl) (by kernel_rfl) (fun _ _ _ h => h) (by rfl) (fun w' _ => exec_cat rfl rfl rfl (by rw [List.length_append, be_length, be_length]; omega) w') hS ?_
  simp only [Act.put, List.setIfInBounds_toArray, List.set_cons_zero, List.set_cons_succ]
  refine held_take (i := 12) (d := (some 5)) (v := ?_) rfl rfl (by kernel_rfl) (by kernel_rfl) (by kernel_rfl) (fun _ _ _ h => h) (by rfl) ?_ hS ?_
  rotate_left
  · intro w' hSw; (try dsimp only at hSw); go_simp <;> with_reducible rfl
  simp only [Act.put, List.setIfInBounds_toArray, List.set_cons_zero, List.set_cons_succ]
  refine wpAnyH_done (by kernel_rfl) ?_ _
  have B3 := Lib.hid (B2.out.trans (hS.out.mono B2.out.size))
  clear hS K2 B2 P1 P2 u1 u2 hl9 hsz
  obtain ⟨Y, hY⟩ : ∃ Y, (be i 2 ++ be q 2) ++ l = Y := ⟨_, rfl⟩
  have HY := Lib.hid hY
  have lY : Y.length = 4 + l.length := by rw [← hY]; simp [be_length]; omega
  have hY2 : be i 2 ++ (be q 2 ++ l) = Y := by rw [← List.append_assoc]; exact hY
  have eZ : X ++ 0 :: 0 :: Y = icL 0 i q 0 l := by rw [← HX.out, ← hY]; rfl
  have EK := Lib.hid (show X ++ (be (icK 0 i q l) 2 ++ Y) = icB 0 i q l from by rw [← HX.out, ← hY]; rfl)
  (try rw [hY]); (try rw [hY2])
  obtain ⟨Z, hZ⟩ : ∃ Z, X ++ 0 :: 0 :: Y = Z := ⟨_, rfl⟩
  have lZ : Z.length = 8 + l.length := by rw [← hZ]; simp [lX, lY]; omega
  rw [hZ] at eZ
  have eb : (⟨X.toArray⟩ : ByteArray) ++ ⟨#[0, 0]⟩ ++ ⟨Y.toArray⟩ = ⟨Z.toArray⟩ := by rw [ByteArray.mk_append_mk, ByteArray.mk_append_mk, ← hZ]; simp
  obtain ⟨A6, c6, w6, hconv, hsr, hb, -⟩ := conv_src ⟨Z.toArray⟩ (by show Z.length ≤ 1000000; omega) wp
  replace hconv : (convert 9 26 (.string ⟨Z.toArray⟩)).run Try.prog wp = .ok (.slice A6 Z.length c6) w6 := hconv
  replace hsr : Src w6 A6 Z.length c6 Z := hsr
  have SC := Lib.hid (scratch_any A6 Z.length c6 Z w6 hsr.toBytes (by omega))
  have eS : (65535 - ((fo (256 * evs Z + ods Z) : Nat) : Int)) = ((icK 0 i q l : Nat) : Int) := by
    rw [eZ]; unfold icK tot
    have := fo_le (256 * evs (icL 0 i q 0 l) + ods (icL 0 i q 0 l))
    omega
  rw [eS] at SC
  have B6 := Lib.hid (B3.out.trans (hb.mono B3.out.size))
  have hk := icK_le 0 i q l
  have u7 := IntWalk.u64_in (icK 0 i q l : Int) (by omega)
  have la : ¬ 9223372036854775807 < X.length + 2 := by omega
  have lb : ¬ 9223372036854775807 < X.length + 2 + Y.length := by omega
  have lc : ¬ 9223372036854775807 < X.length + (be (icK 0 i q l) 2).length := by rw [be_length]; omega
  have ld : ¬ 9223372036854775807 < X.length + (be (icK 0 i q l) 2).length + Y.length := by rw [be_length]; omega
  clear hsr hb eZ eS hY hY2 hk B3 HX HY
  generalize icK 0 i q l = k at *
  have EL := Lib.hid lX
  have EM := Lib.hid lY
  have EN := Lib.hid lZ
  clear lX lY lZ
  go_wp2_with fail
  refine SC.out.mono ?_; rintro e wq ⟨rfl, rfl⟩
  go_wp2_with fail
  refine (P3.out _).mono ?_; rintro e w7 ⟨rfl, b7⟩
  have B7 := Lib.hid (B6.out.trans (b7.mono B6.out.size))
  clear b7
  have es : (⟨X.toArray⟩ : ByteArray) ++ ⟨(be k 2).toArray⟩ ++ ⟨Y.toArray⟩ = ⟨(icB 0 i q l).toArray⟩ := by rw [ByteArray.mk_append_mk, ByteArray.mk_append_mk, ← EK.out]; simp
  go_wp2
  go_ret2
  exact ⟨rfl, B7.out⟩

set_option maxRecDepth 100000 in
set_option maxHeartbeats 4000000 in
theorem refBytes_ok8 (i q : Nat) (hi : i ≤ 65535) (hq : q ≤ 65535) (l : List UInt8) (hl : l.length ≤ 982) (w : World) :
    Calls Try.prog 9 #[.agg (dcV 8 i q l)] w fun e w' => e = .returned (.tuple #[.string ⟨(icB 8 i q l).toArray⟩, .int .i64 0]) ∧ Below w.heap.size w w' := by
  have b1 : Below w.heap.size w (w.alloc (.cells (dcV 8 i q l) 24)) := (Below.refl _ w).alloc (Nat.le_refl _) _
  have B1 := Lib.hid b1
  have K1 := Lib.hid (Blk.new w 24 (dcV 8 i q l))
  have P1 := Lib.hid (fun W => refP_any i 2 W (by omega) (by omega) (by omega) (by simp; omega))
  have P2 := Lib.hid (fun W => refP_any q 2 W (by omega) (by omega) (by omega) (by simp; omega))
  have P3 := Lib.hid (fun W => refP_any (icK 8 i q l) 2 W (by have := icK_le 8 i q l; omega) (by omega) (by omega) (by have := icK_le 8 i q l; simp; omega))
  have u1 := IntWalk.u64_in (i : Int) (by omega)
  have u2 := IntWalk.u64_in (q : Int) (by omega)
  have hsz : (⟨l.toArray⟩ : ByteArray).size = l.length := rfl
  have hl9 : ¬ (l.length : Int) > 982 := by omega
  clear b1
  obtain ⟨X, hX⟩ : ∃ X : List UInt8, [8, 0] = X := ⟨_, rfl⟩
  have HX := Lib.hid hX
  have lX : X.length = 2 := by rw [← hX]; rfl
  have TS := Lib.hid (fun (W : World) => show (convert 26 9 (.slice (some ⟨W.heap.size, 0, none⟩) 2 2)).run Try.prog (W.alloc (.cells #[.int .u8 8, .int .u8 0] 5)) = .ok (.string ⟨X.toArray⟩) (W.alloc (.cells #[.int .u8 8, .int .u8 0] 5)) from by rw [← hX]; exact told_str (src_new W [8, 0] (by decide)))
  clear hX
  go_enter Try.func9, Try.ntmps9
  go_upto_region 1 with fail
  generalize w.alloc (.cells (dcV 8 i q l) 24) = W at *
  have z0 := (K1.out.cell 0).trans (show _ = some (.int .i64 8) from rfl)
  have z1 := (K1.out.cell 1).trans (show _ = some (.int .u16 (i : Int)) from rfl)
  have z2 := (K1.out.cell 2).trans (show _ = some (.int .u16 (q : Int)) from rfl)
  have z3 := (K1.out.cell 3).trans (show _ = some (.string ⟨l.toArray⟩) from rfl)
  have ts := TS.out W
  have B2 := Lib.hid (B1.out.alloc B1.out.size (.cells #[.int .u8 8, .int .u8 0] 5))
  have K2 := Lib.hid (K1.out.alloc (.cells #[.int .u8 8, .int .u8 0] 5))
  go_upto_region 6 with fail
  generalize W.alloc (.cells #[.int .u8 8, .int .u8 0] 5) = W2 at *
  clear z0 z1 z2 z3 ts TS B1 K1
  refine wp_region_held_drew (S := fun w' => Hid (Below W2.heap.size W2 w')) (by kernel_rfl) (Lib.hid ((Below.refl W2.heap.size W2).drew)) (fun hS => ?_)
  refine held_take (i := 0) (d := (some 24)) (v := ?_) rfl rfl (by kernel_rfl) (by kernel_rfl) (by kernel_rfl) (fun _ _ _ h => h) (by rfl) ?_ hS ?_
  rotate_left
  · intro w' hSw; (try dsimp only at hSw); go_simp <;> with_reducible rfl
  simp only [Act.put, List.setIfInBounds_toArray, List.set_cons_zero, List.set_cons_succ]
  refine held_take (i := 1) (d := (some 25)) (v := ?_) rfl rfl (by kernel_rfl) (by kernel_rfl) (by kernel_rfl) (fun _ _ _ h => h) (by rfl) ?_ hS ?_
  rotate_left
  · intro w' hSw; have kb := hSw.out; clear hSw; have z1 := ((K2.out.older (older_below kb)).cell 1).trans (show _ = some (.int .u16 (i : Int)) from rfl); clear kb; go_simp <;> with_reducible rfl
  simp only [Act.put, List.setIfInBounds_toArray, List.set_cons_zero, List.set_cons_succ]
  refine held_take (i := 2) (d := (some 26)) (v := ?_) rfl rfl (by kernel_rfl) (by kernel_rfl) (by kernel_rfl) (fun _ _ _ h => h) (by rfl) ?_ hS ?_
  rotate_left
  · intro w' hSw; (try dsimp only at hSw); go_simp <;> with_reducible rfl
  simp only [Act.put, List.setIfInBounds_toArray, List.set_cons_zero, List.set_cons_succ]
  refine held_take (i := 4) (d := (some 28)) (v := ?_) rfl rfl (by kernel_rfl) (by kernel_rfl) (by kernel_rfl) (fun _ _ _ h => h) (by rfl) ?_ hS ?_
  rotate_left
  · intro w' hSw; (try dsimp only at hSw); go_simp <;> with_reducible rfl
  simp only [Act.put, List.setIfInBounds_toArray, List.set_cons_zero, List.set_cons_succ]
  refine held_take (i := 5) (d := (some 29)) (v := ?_) rfl rfl (by kernel_rfl) (by kernel_rfl) (by kernel_rfl) (fun _ _ _ h => h) (by rfl) ?_ hS ?_
  rotate_left
  · intro w' hSw; have kb := hSw.out; clear hSw; have z2 := ((K2.out.older (older_below kb)).cell 2).trans (show _ = some (.int .u16 (q : Int)) from rfl); clear kb; go_simp <;> with_reducible rfl
  simp only [Act.put, List.setIfInBounds_toArray, List.set_cons_zero, List.set_cons_succ]
  refine held_take (i := 6) (d := (some 30)) (v := ?_) rfl rfl (by kernel_rfl) (by kernel_rfl) (by kernel_rfl) (fun _ _ _ h => h) (by rfl) ?_ hS ?_
  rotate_left
  · intro w' hSw; (try dsimp only at hSw); go_simp <;> with_reducible rfl
  simp only [Act.put, List.setIfInBounds_toArray, List.set_cons_zero, List.set_cons_succ]
  refine held_take (i := 9) (d := (some 33)) (v := ?_) rfl rfl (by kernel_rfl) (by kernel_rfl) (by kernel_rfl) (fun _ _ _ h => h) (by rfl) ?_ hS ?_
  rotate_left
  · intro w' hSw; (try dsimp only at hSw); go_simp <;> with_reducible rfl
  simp only [Act.put, List.setIfInBounds_toArray, List.set_cons_zero, List.set_cons_succ]
  refine held_take (i := 10) (d := (some 34)) (v := ?_) rfl rfl (by kernel_rfl) (by kernel_rfl) (by kernel_rfl) (fun _ _ _ h => h) (by rfl) ?_ hS ?_
  rotate_left
  · intro w' hSw; have kb := hSw.out; clear hSw; have z3 := ((K2.out.older (older_below kb)).cell 3).trans (show _ = some (.string ⟨l.toArray⟩) from rfl); clear kb; go_simp <;> with_reducible rfl
  simp only [Act.put, List.setIfInBounds_toArray, List.set_cons_zero, List.set_cons_succ]
  refine held_one (i := 3) (by kernel_rfl) rfl (by rfl) ?_
  go_simp
  refine (P1.out _).mono ?_; rintro e wp ⟨rfl, bp⟩
  have hS : Hid (Below W2.heap.size W2 wp) := Lib.hid (hS.out.trans (bp.mono hS.out.size))
  refine ⟨hS, ?_⟩
  clear bp
  (try simp only [Act.put, List.setIfInBounds_toArray, List.set_cons_zero, List.set_cons_succ])
  refine held_one (i := 7) (by kernel_rfl) rfl (by rfl) ?_
  go_simp
  refine (P2.out _).mono ?_; rintro e wp ⟨rfl, bp⟩
  have hS : Hid (Below W2.heap.size W2 wp) := Lib.hid (hS.out.trans (bp.mono hS.out.size))
  refine ⟨hS, ?_⟩
  clear bp
  (try simp only [Act.put, List.setIfInBounds_toArray, List.set_cons_zero, List.set_cons_succ])
  refine held_take (i := 8) (d := (some 32)) (v := .string ⟨(be i 2 ++ be q 2).toArray⟩) rfl rfl (by kernel_rfl) (by kernel_rfl) (by kernel_rfl) (fun _ _ _ h => h) (by rfl) (fun w' _ => exec_cat rfl rfl rfl (by simp [be_length]) w') hS ?_
  simp only [Act.put, List.setIfInBounds_toArray, List.set_cons_zero, List.set_cons_succ]
  refine held_take (i := 11) (d := (some 35)) (v := .string ⟨((be i 2 ++ be q 2) ++ l).toArray⟩) rfl rfl (by kernel_rfl) (by kernel_rfl) (by kernel_rfl) (fun _ _ _ h => h) (by rfl) (fun w' _ => exec_cat rfl rfl rfl (by rw [List.length_append, be_length, be_length]; omega) w') hS ?_
  simp only [Act.put, List.setIfInBounds_toArray, List.set_cons_zero, List.set_cons_succ]
  refine held_take (i := 12) (d := (some 5)) (v := ?_) rfl rfl (by kernel_rfl) (by kernel_rfl) (by kernel_rfl) (fun _ _ _ h => h) (by rfl) ?_ hS ?_
  rotate_left
  · intro w' hSw; (try dsimp only at hSw); go_simp <;> with_reducible rfl
  simp only [Act.put, List.setIfInBounds_toArray, List.set_cons_zero, List.set_cons_succ]
  refine wpAnyH_done (by kernel_rfl) ?_ _
  have B3 := Lib.hid (B2.out.trans (hS.out.mono B2.out.size))
  clear hS K2 B2 P1 P2 u1 u2 hl9 hsz
  obtain ⟨Y, hY⟩ : ∃ Y, (be i 2 ++ be q 2) ++ l = Y := ⟨_, rfl⟩
  have HY := Lib.hid hY
  have lY : Y.length = 4 + l.length := by rw [← hY]; simp [be_length]; omega
  have hY2 : be i 2 ++ (be q 2 ++ l) = Y := by rw [← List.append_assoc]; exact hY
  have eZ : X ++ 0 :: 0 :: Y = icL 8 i q 0 l := by rw [← HX.out, ← hY]; rfl
  have EK := Lib.hid (show X ++ (be (icK 8 i q l) 2 ++ Y) = icB 8 i q l from by rw [← HX.out, ← hY]; rfl)
  (try rw [hY]); (try rw [hY2])
  obtain ⟨Z, hZ⟩ : ∃ Z, X ++ 0 :: 0 :: Y = Z := ⟨_, rfl⟩
  have lZ : Z.length = 8 + l.length := by rw [← hZ]; simp [lX, lY]; omega
  rw [hZ] at eZ
  have eb : (⟨X.toArray⟩ : ByteArray) ++ ⟨#[0, 0]⟩ ++ ⟨Y.toArray⟩ = ⟨Z.toArray⟩ := by rw [ByteArray.mk_append_mk, ByteArray.mk_append_mk, ← hZ]; simp
  obtain ⟨A6, c6, w6, hconv, hsr, hb, -⟩ := conv_src ⟨Z.toArray⟩ (by show Z.length ≤ 1000000; omega) wp
  replace hconv : (convert 9 26 (.string ⟨Z.toArray⟩)).run Try.prog wp = .ok (.slice A6 Z.length c6) w6 := hconv
  replace hsr : Src w6 A6 Z.length c6 Z := hsr
  have SC := Lib.hid (scratch_any A6 Z.length c6 Z w6 hsr.toBytes (by omega))
  have eS : (65535 - ((fo (256 * evs Z + ods Z) : Nat) : Int)) = ((icK 8 i q l : Nat) : Int) := by
    rw [eZ]; unfold icK tot
    have := fo_le (256 * evs (icL 8 i q 0 l) + ods (icL 8 i q 0 l))
    omega
  rw [eS] at SC
  have B6 := Lib.hid (B3.out.trans (hb.mono B3.out.size))
  have hk := icK_le 8 i q l
  have u7 := IntWalk.u64_in (icK 8 i q l : Int) (by omega)
  have la : ¬ 9223372036854775807 < X.length + 2 := by omega
  have lb : ¬ 9223372036854775807 < X.length + 2 + Y.length := by omega
  have lc : ¬ 9223372036854775807 < X.length + (be (icK 8 i q l) 2).length := by rw [be_length]; omega
  have ld : ¬ 9223372036854775807 < X.length + (be (icK 8 i q l) 2).length + Y.length := by rw [be_length]; omega
  clear hsr hb eZ eS hY hY2 hk B3 HX HY
  generalize icK 8 i q l = k at *
  have EL := Lib.hid lX
  have EM := Lib.hid lY
  have EN := Lib.hid lZ
  clear lX lY lZ
  go_wp2_with fail
  refine SC.out.mono ?_; rintro e wq ⟨rfl, rfl⟩
  go_wp2_with fail
  refine (P3.out _).mono ?_; rintro e w7 ⟨rfl, b7⟩
  have B7 := Lib.hid (B6.out.trans (b7.mono B6.out.size))
  clear b7
  have es : (⟨X.toArray⟩ : ByteArray) ++ ⟨(be k 2).toArray⟩ ++ ⟨Y.toArray⟩ = ⟨(icB 8 i q l).toArray⟩ := by rw [ByteArray.mk_append_mk, ByteArray.mk_append_mk, ← EK.out]; simp
  go_wp2
  go_ret2
  exact ⟨rfl, B7.out⟩

set_option maxRecDepth 100000 in
set_option maxHeartbeats 1000000 in
theorem refBytes_any (t : Int) (i q : Nat) (hi : i ≤ 65535) (hq : q ≤ 65535) (l : List UInt8) (w : World) :
    Calls Try.prog 9 #[.agg (dcV t i q l)] w fun e w' => STells e (icMay t l.length) (icB t.toNat i q l) (icEr t) ∧ Below w.heap.size w w' := by
  have B1 := Lib.hid ((Below.refl w.heap.size w).alloc (Nat.le_refl _) (.cells (dcV t i q l) 24))
  have K1 := Lib.hid (Blk.new w 24 (dcV t i q l))
  have hsz : (⟨l.toArray⟩ : ByteArray).size = l.length := rfl
  by_cases h0 : t = 0 ∨ t = 8
  rotate_left
  · have hm := Lib.hid (show icMay t l.length = false from by unfold icMay tyB; rw [decide_eq_false h0]; rfl)
    have he := Lib.hid (show icEr t = 1 from by unfold icEr tyB; rw [decide_eq_false h0]; rfl)
    have n0 : ¬ t = 0 := fun h => h0 (.inl h)
    have n8 : ¬ t = 8 := fun h => h0 (.inr h)
    have n0' : (t == 0) = false := by simpa using n0
    have n8' : (t == 8) = false := by simpa using n8
    have m0' : (t != 0) = true := by simpa using n0
    have m8' : (t != 8) = true := by simpa using n8
    clear h0
    go_enter Try.func9, Try.ntmps9
    go_upto_region 1 with fail
    generalize w.alloc (.cells (dcV t i q l) 24) = W at *
    have z0 := (K1.out.cell 0).trans (show _ = some (.int .i64 t) from rfl)
    have z1 := (K1.out.cell 1).trans (show _ = some (.int .u16 (i : Int)) from rfl)
    have z2 := (K1.out.cell 2).trans (show _ = some (.int .u16 (q : Int)) from rfl)
    have z3 := (K1.out.cell 3).trans (show _ = some (.string ⟨l.toArray⟩) from rfl)
    go_wp2
    go_ret2
    exact ⟨by unfold STells; rw [hm.out, he.out]; rfl, B1.out⟩
  · have ht := Lib.hid (show tyB t = true from decide_eq_true h0)
    by_cases hl : l.length ≤ 982
    · have hm := Lib.hid (show icMay t l.length = true from by unfold icMay; rw [ht.out, decide_eq_true hl]; rfl)
      rcases h0 with rfl | rfl
      · refine (refBytes_ok0 i q hi hq l hl w).mono ?_
        rintro e w' ⟨rfl, b⟩
        exact ⟨by unfold STells; rw [hm.out]; rfl, b⟩
      · refine (refBytes_ok8 i q hi hq l hl w).mono ?_
        rintro e w' ⟨rfl, b⟩
        exact ⟨by unfold STells; rw [hm.out]; rfl, b⟩
    · have hm := Lib.hid (show icMay t l.length = false from by unfold icMay; rw [decide_eq_false hl, Bool.and_false])
      have he := Lib.hid (show icEr t = 2 from by unfold icEr; rw [ht.out]; rfl)
      have hl9 : (l.length : Int) > 982 := by omega
      clear ht
      rcases h0 with rfl | rfl
      · go_enter Try.func9, Try.ntmps9
        go_upto_region 1 with fail
        generalize w.alloc (.cells (dcV 0 i q l) 24) = W at *
        have z0 := (K1.out.cell 0).trans (show _ = some (.int .i64 0) from rfl)
        have z1 := (K1.out.cell 1).trans (show _ = some (.int .u16 (i : Int)) from rfl)
        have z2 := (K1.out.cell 2).trans (show _ = some (.int .u16 (q : Int)) from rfl)
        have z3 := (K1.out.cell 3).trans (show _ = some (.string ⟨l.toArray⟩) from rfl)
        go_wp2
        go_ret2
        exact ⟨by unfold STells; rw [hm.out, he.out]; rfl, B1.out⟩
      · go_enter Try.func9, Try.ntmps9
        go_upto_region 1 with fail
        generalize w.alloc (.cells (dcV 8 i q l) 24) = W at *
        have z0 := (K1.out.cell 0).trans (show _ = some (.int .i64 8) from rfl)
        have z1 := (K1.out.cell 1).trans (show _ = some (.int .u16 (i : Int)) from rfl)
        have z2 := (K1.out.cell 2).trans (show _ = some (.int .u16 (q : Int)) from rfl)
        have z3 := (K1.out.cell 3).trans (show _ = some (.string ⟨l.toArray⟩) from rfl)
        go_wp2
        go_ret2
        exact ⟨by unfold STells; rw [hm.out, he.out]; rfl, B1.out⟩

/-- What the document's Parse tells of bytes l. -/
def DParsed (e : Ending) (l : List UInt8) : Prop := e = .returned (.tuple #[.agg (dcV (icP l).1 (icP l).2.1 (icP l).2.2.1 (icP l).2.2.2), .int .i64 (icErr l)])
theorem dparsed_no {e : Ending} {l : List UInt8} (h : icErr l ≠ 0) (he : e = .returned (.tuple #[.agg dc0, .int .i64 (icErr l)])) : DParsed e l := by
  unfold DParsed
  rw [icP_no h]
  exact he

set_option maxRecDepth 100000 in
set_option maxHeartbeats 4000000 in
theorem refParse_any (l : List UInt8) (w : World) (hl : l.length ≤ 1000000) :
    Calls Try.prog 11 #[.string ⟨l.toArray⟩] w fun e w' => DParsed e l ∧ Below w.heap.size w w' := by
  have b1 : Below w.heap.size w (w.alloc (.cells dc0 24)) := (Below.refl _ w).alloc (Nat.le_refl _) _
  have B1 := Lib.hid b1
  have K1 := Lib.hid (Blk.new w 24 dc0)
  have hs : (⟨l.toArray⟩ : ByteArray).size = l.length := rfl
  clear b1
  obtain ⟨W, hW⟩ : ∃ W, w.alloc (.cells dc0 24) = W := ⟨_, rfl⟩
  rw [hW] at K1 B1
  have HW := Lib.hid hW
  clear hW
  by_cases h1 : (l.length : Int) < 8
  · have E := Lib.hid (show icErr l = 50 from by unfold icErr; rw [if_pos (.inl (by omega))])
    go_enter Try.func11, Try.ntmps11
    go_upto_region 1 with fail
    rw [HW.out]
    have KZ := Lib.hid (below_setRow B1.out (Nat.le_refl w.heap.size) dc0)
    go_wp2_with (first
      | (refine wpList_store_row rfl 24 (.tmp 2) (.tmp 12) rfl w.heap.size dc0 rfl rfl 24 _ K1.out dc_info rfl (by simp [Value.oneCell']) ?_)
      | fail)
    refine bodyPost_ret (v := .tuple #[.agg dc0, .int .i64 50]) ?_ rfl ?_
    · exact results_cell_tmp Try.results11 _ _ w.heap.size 24 _ (0, 0) _ rfl (K1.out.row _) Try.underlying24 rfl dc_info
    exact ⟨dparsed_no (by rw [E.out]; decide) (by rw [E.out]), KZ.out⟩

  by_cases h2 : (l.length : Int) > 990
  · have E := Lib.hid (show icErr l = 50 from by unfold icErr; rw [if_pos (.inr (by omega))])
    go_enter Try.func11, Try.ntmps11
    go_upto_region 1 with fail
    rw [HW.out]
    have KZ := Lib.hid (below_setRow B1.out (Nat.le_refl w.heap.size) dc0)
    go_wp2_with (first
      | (refine wpList_store_row rfl 24 (.tmp 2) (.tmp 12) rfl w.heap.size dc0 rfl rfl 24 _ K1.out dc_info rfl (by simp [Value.oneCell']) ?_)
      | fail)
    refine bodyPost_ret (v := .tuple #[.agg dc0, .int .i64 50]) ?_ rfl ?_
    · exact results_cell_tmp Try.results11 _ _ w.heap.size 24 _ (0, 0) _ rfl (K1.out.row _) Try.underlying24 rfl dc_info
    exact ⟨dparsed_no (by rw [E.out]; decide) (by rw [E.out]), KZ.out⟩

  have P1 := Lib.hid (show ¬ (l.length < 8 ∨ 990 < l.length) from by omega)
  have hl8 : 8 ≤ l.length := by omega
  obtain ⟨A6, c6, W2, hconv, hsr, hb, -⟩ := conv_src ⟨l.toArray⟩ (by show l.length ≤ 1000000; omega) W
  replace hconv : (convert 9 26 (.string ⟨l.toArray⟩)).run Try.prog W = .ok (.slice A6 l.length c6) W2 := hconv
  replace hsr : Src W2 A6 l.length c6 l := hsr
  have SC := Lib.hid (scratch_any A6 l.length c6 l W2 hsr.toBytes (by omega))
  have B2 := Lib.hid (B1.out.trans (hb.mono B1.out.size))
  have K2 := Lib.hid (K1.out.older (older_below hb))
  have hf := fo_le (256 * evs l + ods l)
  clear hsr hb B1 K1
  go_enter Try.func11, Try.ntmps11
  go_upto_region 1 with fail
  rw [HW.out]
  clear HW
  go_wp2_with fail
  refine SC.out.mono ?_; rintro e wq ⟨rfl, rfl⟩
  clear SC hconv
  by_cases h5 : fo (256 * evs l + ods l) = 65535
  rotate_left
  · have E := Lib.hid (show icErr l = 51 from by unfold icErr; rw [if_neg P1.out, if_pos (show fo (tot l) ≠ 65535 from h5)])
    obtain ⟨f, hff⟩ : ∃ f : Nat, fo (256 * evs l + ods l) = f := ⟨_, rfl⟩
    rw [hff] at h5 hf ⊢
    have hn : ¬ (65535 : Int) - (f : Int) = 0 := by omega
    have hn' : ((65535 : Int) - (f : Int) == 0) = false := by simpa using hn
    clear hff h5
    have KZ := Lib.hid (below_setRow B2.out (Nat.le_refl w.heap.size) dc0)
    go_wp2_with (first
      | (refine wpList_store_row rfl 24 (.tmp 2) (.tmp 17) rfl w.heap.size dc0 rfl rfl 24 _ K2.out dc_info rfl (by simp [Value.oneCell']) ?_)
      | fail)
    refine bodyPost_ret (v := .tuple #[.agg dc0, .int .i64 51]) ?_ rfl ?_
    · exact results_cell_tmp Try.results11 _ _ w.heap.size 24 _ (0, 0) _ rfl (K2.out.row _) Try.underlying24 rfl dc_info
    exact ⟨dparsed_no (by rw [E.out]; decide) (by rw [E.out]), KZ.out⟩

  rw [h5]
  have P2 := Lib.hid (show ¬ fo (tot l) ≠ 65535 from fun h => h h5)
  clear h5 hf
  have e0 := at2_one l 0 (by omega)
  have e1 := at2_one l 1 (by omega)
  have EV := Lib.hid (show icErr l = if ¬ ((l[0].toNat = 0 ∨ l[0].toNat = 8) ∧ l[1].toNat = 0) then 50 else 0 from by
    unfold icErr
    rw [if_neg P1.out, if_neg P2.out, e0, e1])
  have E0 := Lib.hid e0
  have g0 := bget l 0 (by omega) (by omega)
  have g1 := bget l 1 (by omega) (by omega)
  have i0 : (0 : Int) < (l.length : Int) := by omega
  have i1 : (1 : Int) < (l.length : Int) := by omega
  have q0 := l[0].toNat_lt
  have q1 := l[1].toNat_lt
  clear e0 e1
  go_upto_region 5 with fail
  go_cut [30] (fun x wx => ∃ b : Bool, x = .bool b ∧ Hid ((b = false → ((l[0].toNat = 0 ∨ l[0].toNat = 8) ∧ l[1].toNat = 0)) ∧ (((l[0].toNat = 0 ∨ l[0].toNat = 8) ∧ l[1].toNat = 0) → b = false)) ∧ wx = W2)
  case first =>
    by_cases k1 : l[1].toNat = 0
    · have k1i : (l[1].toNat : Int) = 0 := by omega
      by_cases k0 : l[0].toNat = 0
      · have k0i : (l[0].toNat : Int) = 0 := by omega
        go_wp2
        go_meet
        exact ⟨_, rfl, Lib.hid ⟨fun _ => ⟨.inl k0, k1⟩, fun _ => rfl⟩, rfl⟩
      · have k0i : ¬ (l[0].toNat : Int) = 0 := by omega
        have k0b : ((l[0].toNat : Int) == 0) = false := by simpa using k0
        by_cases k8 : l[0].toNat = 8
        · have k8i : (l[0].toNat : Int) = 8 := by omega
          clear k0b k0i k0
          go_wp2
          go_meet
          exact ⟨_, rfl, Lib.hid ⟨fun _ => ⟨.inr k8, k1⟩, fun _ => rfl⟩, rfl⟩
        · have k8i : ¬ (l[0].toNat : Int) = 8 := by omega
          have k8b : ((l[0].toNat : Int) == 8) = false := by rw [beq_eq_false_iff_ne]; omega
          go_wp2
          go_meet
          exact ⟨_, rfl, Lib.hid ⟨fun h => absurd h (by first | decide | simp), fun h => absurd h (by omega)⟩, rfl⟩
    · have k1i : ¬ (l[1].toNat : Int) = 0 := by omega
      have k1b : ((l[1].toNat : Int) == 0) = false := by rw [beq_eq_false_iff_ne]; omega
      by_cases k0 : l[0].toNat = 0
      · have k0i : (l[0].toNat : Int) = 0 := by omega
        go_wp2
        go_meet
        exact ⟨_, rfl, Lib.hid ⟨fun h => absurd h (by first | decide | simpa using k1i), fun h => absurd h (by omega)⟩, rfl⟩
      · have k0i : ¬ (l[0].toNat : Int) = 0 := by omega
        have k0b : ((l[0].toNat : Int) == 0) = false := by simpa using k0
        by_cases k8 : l[0].toNat = 8
        · have k8i : (l[0].toNat : Int) = 8 := by omega
          clear k0b k0i k0
          go_wp2
          go_meet
          exact ⟨_, rfl, Lib.hid ⟨fun h => absurd h (by first | decide | simpa using k1i), fun h => absurd h (by omega)⟩, rfl⟩
        · have k8i : ¬ (l[0].toNat : Int) = 8 := by omega
          have k8b : ((l[0].toNat : Int) == 8) = false := by rw [beq_eq_false_iff_ne]; omega
          go_wp2
          go_meet
          exact ⟨_, rfl, Lib.hid ⟨fun h => absurd h (by first | decide | simpa using k1i), fun h => absurd h (by omega)⟩, rfl⟩
  case rest =>
    obtain ⟨b, rfl, OB, rfl⟩ := hcut
    cases b with
    | true =>
      have E := Lib.hid (show icErr l = 50 from by rw [EV.out, if_pos (fun h => by have := OB.out.2 h; cases this)])
      have KZ := Lib.hid (below_setRow B2.out (Nat.le_refl w.heap.size) dc0)
      go_wp2_with (first
        | (refine wpList_store_row rfl 24 (.tmp 2) (.tmp 31) rfl w.heap.size dc0 rfl rfl 24 _ K2.out dc_info rfl (by simp [Value.oneCell']) ?_)
        | fail)
      refine bodyPost_ret (v := .tuple #[.agg dc0, .int .i64 50]) ?_ rfl ?_
      · exact results_cell_tmp Try.results11 _ _ w.heap.size 24 _ (0, 0) _ rfl (K2.out.row _) Try.underlying24 rfl dc_info
      exact ⟨dparsed_no (by rw [E.out]; decide) (by rw [E.out]), KZ.out⟩
    | false =>
      have E := Lib.hid (show icErr l = 0 from by rw [EV.out, if_neg (fun h => h (OB.out.1 rfl))])
      clear EV OB g1 q1
      have d4 : ∀ W, (Instr.slice 9 (.string ⟨l.toArray⟩) (some (.int .i64 4)) (some (.int .i64 6)) none).run Try.prog W = .ok (.string ⟨((l.drop 4).take 2).toArray⟩) W := fun W => run_cut_text l 4 6 (by omega) (by omega) hl W
      have d8 : ∀ W, (Instr.slice 9 (.string ⟨l.toArray⟩) (some (.int .i64 6)) (some (.int .i64 8)) none).run Try.prog W = .ok (.string ⟨((l.drop 6).take 2).toArray⟩) W := fun W => run_cut_text l 6 8 (by omega) (by omega) hl W
      have d12 : ∀ W, (Instr.slice 9 (.string ⟨l.toArray⟩) (some (.int .i64 8)) none none).run Try.prog W = .ok (.string ⟨(l.drop 8).toArray⟩) W := fun W => run_back_text l 8 (by omega) W
      have e4 := at2_lt l 4 2
      have u4 := IntWalk.u16_in (numB ((l.drop 4).take 2) : Int) (by unfold at2 at e4; omega)
      have e6 := at2_lt l 6 2
      have u6 := IntWalk.u16_in (numB ((l.drop 6).take 2) : Int) (by unfold at2 at e6; omega)
      have j0 : 0 < l.length := by omega
      have uu0 := IntWalk.i64_in (l[0].toNat : Int) (by omega)
      go_upto_region 7 with fail
      have hS := Lib.hid ((Below.refl wc.heap.size wc).drew)
      refine wp_head_held (S := fun w' => Hid (Below wc.heap.size wc w')) 14 (by kernel_rfl) rfl rfl (by kernel_rfl) ?_
      simp only [List.take_succ_cons, List.take_zero, List.drop_succ_cons, List.drop_zero]
      refine held_take (i := 0) (d := (some 32)) (v := ?_) rfl rfl (by kernel_rfl) (by kernel_rfl) (by kernel_rfl) (fun _ _ _ h => h) (by rfl) ?_ hS ?_
      rotate_left
      · intro w' hSw; (try dsimp only at hSw); go_simp <;> with_reducible rfl
      simp only [Act.put, List.setIfInBounds_toArray, List.set_cons_zero, List.set_cons_succ]
      refine held_take (i := 1) (d := (some 33)) (v := ?_) rfl rfl (by kernel_rfl) (by kernel_rfl) (by kernel_rfl) (fun _ _ _ h => h) (by rfl) ?_ hS ?_
      rotate_left
      · intro w' hSw; (try dsimp only at hSw); go_simp <;> with_reducible rfl
      simp only [Act.put, List.setIfInBounds_toArray, List.set_cons_zero, List.set_cons_succ]
      refine held_take (i := 2) (d := (some 34)) (v := ?_) rfl rfl (by kernel_rfl) (by kernel_rfl) (by kernel_rfl) (fun _ _ _ h => h) (by rfl) ?_ hS ?_
      rotate_left
      · intro w' hSw; (try dsimp only at hSw); go_simp <;> with_reducible rfl
      simp only [Act.put, List.setIfInBounds_toArray, List.set_cons_zero, List.set_cons_succ]
      refine held_take (i := 3) (d := (some 35)) (v := ?_) rfl rfl (by kernel_rfl) (by kernel_rfl) (by kernel_rfl) (fun _ _ _ h => h) (by rfl) ?_ hS ?_
      rotate_left
      · intro w' hSw; (try dsimp only at hSw); go_simp <;> with_reducible rfl
      simp only [Act.put, List.setIfInBounds_toArray, List.set_cons_zero, List.set_cons_succ]
      refine held_take (i := 4) (d := (some 36)) (v := .string ⟨((l.drop 4).take 2).toArray⟩) rfl rfl (by kernel_rfl) (by kernel_rfl) (by kernel_rfl) (fun _ _ _ h => h) (by rfl) (fun w' _ => exec_slice Try.underlying9 (y := .string ⟨l.toArray⟩) (lo' := some (.int .i64 4)) (hi' := some (.int .i64 6)) rfl rfl rfl rfl (d4 w')) hS ?_
      simp only [Act.put, List.setIfInBounds_toArray, List.set_cons_zero, List.set_cons_succ]
      refine held_take (i := 7) (d := (some 39)) (v := ?_) rfl rfl (by kernel_rfl) (by kernel_rfl) (by kernel_rfl) (fun _ _ _ h => h) (by rfl) ?_ hS ?_
      rotate_left
      · intro w' hSw; (try dsimp only at hSw); go_simp <;> with_reducible rfl
      simp only [Act.put, List.setIfInBounds_toArray, List.set_cons_zero, List.set_cons_succ]
      refine held_take (i := 8) (d := (some 40)) (v := .string ⟨((l.drop 6).take 2).toArray⟩) rfl rfl (by kernel_rfl) (by kernel_rfl) (by kernel_rfl) (fun _ _ _ h => h) (by rfl) (fun w' _ => exec_slice Try.underlying9 (y := .string ⟨l.toArray⟩) (lo' := some (.int .i64 6)) (hi' := some (.int .i64 8)) rfl rfl rfl rfl (d8 w')) hS ?_
      simp only [Act.put, List.setIfInBounds_toArray, List.set_cons_zero, List.set_cons_succ]
      refine held_take (i := 11) (d := (some 43)) (v := ?_) rfl rfl (by kernel_rfl) (by kernel_rfl) (by kernel_rfl) (fun _ _ _ h => h) (by rfl) ?_ hS ?_
      rotate_left
      · intro w' hSw; (try dsimp only at hSw); go_simp <;> with_reducible rfl
      simp only [Act.put, List.setIfInBounds_toArray, List.set_cons_zero, List.set_cons_succ]
      refine held_take (i := 12) (d := (some 44)) (v := .string ⟨(l.drop 8).toArray⟩) rfl rfl (by kernel_rfl) (by kernel_rfl) (by kernel_rfl) (fun _ _ _ h => h) (by rfl) (fun w' _ => exec_slice Try.underlying9 (y := .string ⟨l.toArray⟩) (lo' := some (.int .i64 8)) (hi' := none) rfl rfl rfl rfl (d12 w')) hS ?_
      simp only [Act.put, List.setIfInBounds_toArray, List.set_cons_zero, List.set_cons_succ]
      refine held_one (i := 5) (by kernel_rfl) rfl (by rfl) ?_
      go_simp
      refine (refNum_any _ (by simp <;> omega) _).mono ?_; rintro e wn ⟨rfl, rfl⟩
      refine ⟨hS, ?_⟩
      (try simp only [Act.put, List.setIfInBounds_toArray, List.set_cons_zero, List.set_cons_succ])
      refine held_take (i := 6) (d := (some 38)) (v := ?_) rfl rfl (by kernel_rfl) (by kernel_rfl) (by kernel_rfl) (fun _ _ _ h => h) (by rfl) ?_ hS ?_
      rotate_left
      · intro w' hSw; (try dsimp only at hSw); go_simp <;> with_reducible rfl
      simp only [Act.put, List.setIfInBounds_toArray, List.set_cons_zero, List.set_cons_succ]
      refine held_one (i := 9) (by kernel_rfl) rfl (by rfl) ?_
      go_simp
      refine (refNum_any _ (by simp <;> omega) _).mono ?_; rintro e wn ⟨rfl, rfl⟩
      refine ⟨hS, ?_⟩
      (try simp only [Act.put, List.setIfInBounds_toArray, List.set_cons_zero, List.set_cons_succ])
      refine held_take (i := 10) (d := (some 42)) (v := ?_) rfl rfl (by kernel_rfl) (by kernel_rfl) (by kernel_rfl) (fun _ _ _ h => h) (by rfl) ?_ hS ?_
      rotate_left
      · intro w' hSw; (try dsimp only at hSw); go_simp <;> with_reducible rfl
      simp only [Act.put, List.setIfInBounds_toArray, List.set_cons_zero, List.set_cons_succ]
      refine held_take (i := 13) (d := (some 45)) (v := ?_) rfl rfl (by kernel_rfl) (by kernel_rfl) (by kernel_rfl) (fun _ _ _ h => h) (by rfl) ?_ hS ?_
      rotate_left
      · intro w' hSw; (try dsimp only at hSw); go_simp <;> with_reducible rfl
      simp only [Act.put, List.setIfInBounds_toArray, List.set_cons_zero, List.set_cons_succ]
      refine wpAnyH_done (by kernel_rfl) ?_ _
      show wpList _ _ _ _ _ _
      have B4 := Lib.hid (B2.out.trans (hS.out.mono B2.out.size))
      have K4 := Lib.hid (K2.out.older (older_below hS.out))
      have KZ := Lib.hid (below_setRow B4.out (Nat.le_refl w.heap.size) (dcV (l[0].toNat : Int) (numB ((l.drop 4).take 2)) (numB ((l.drop 6).take 2)) (l.drop 8)))
      go_wp2_with (first
        | (refine wpList_store_row rfl 24 (.tmp 2) (.tmp 45) rfl w.heap.size (dcV (l[0].toNat : Int) (numB ((l.drop 4).take 2)) (numB ((l.drop 6).take 2)) (l.drop 8)) rfl rfl 24 _ K4.out dc_info rfl (by simp [Value.oneCell']) ?_)
        | fail)
      refine bodyPost_ret (v := .tuple #[.agg (dcV (l[0].toNat : Int) (numB ((l.drop 4).take 2)) (numB ((l.drop 6).take 2)) (l.drop 8)), .int .i64 0]) ?_ rfl ?_
      · exact results_cell_tmp Try.results11 _ _ w.heap.size 24 _ (0, 0) _ rfl (K4.out.row _) Try.underlying24 rfl dc_info
      refine ⟨?_, KZ.out⟩
      unfold DParsed
      rw [icP_ok E.out, E.out, E0.out]
      rfl
end Go.Proofs.Ytbjmclcnaagbnaa.Ic
