/- TcbNil says true for every input: what no connection answers. Conditions: none beyond the given statement's. -/
import Derived.Test.YtldmcoagjgeeoaaTsF
namespace Go.Proofs.Ytldmcoagjgeeoaa.tcbNil
open Go.ChangeShapes Go.WideShapes Go.ChangeAt Go.RowKit Tc Rk
set_option linter.unusedVariables false


theorem act_info : (Try.prog.info? 41).map (·.size) = some 10 := by kernel_rfl
set_option maxRecDepth 100000 in
set_option maxHeartbeats 1000000 in
theorem walk (w : World) (a0 a1 : Int) (a2 a3 a4 a5 : Nat) (a6 : Int) (a7 : Nat) (a8 : Int) (a9 : List UInt8) (w0 : -9223372036854775808 ≤ a0 ∧ a0 ≤ 9223372036854775807) (w1 : -9223372036854775808 ≤ a1 ∧ a1 ≤ 9223372036854775807) (w2 : a2 ≤ 65535) (w3 : a3 ≤ 65535) (w4 : a4 ≤ 4294967295) (w5 : a5 ≤ 4294967295) (w6 : -9223372036854775808 ≤ a6 ∧ a6 ≤ 9223372036854775807) (w7 : a7 ≤ 65535) (w8 : -9223372036854775808 ≤ a8 ∧ a8 ≤ 9223372036854775807) (w9 : a9.length ≤ maxLen) :
    Calls Try.prog 4 #[.agg #[.int .i64 a0, .int .i64 a1, .int .u16 (a2 : Int), .int .u16 (a3 : Int), .int .u32 (a4 : Int), .int .u32 (a5 : Int), .int .i64 a6, .int .u16 (a7 : Int), .int .i64 a8, .string ⟨a9.toArray⟩]] w fun e w' => e = .returned (.bool true) ∧ Below w.heap.size w w' := by
  obtain ⟨q, hq⟩ : ∃ q : Tc.Act, q = ⟨a0, a1, a2, a3, a4, a5, a6, a7, a8, a9⟩ := ⟨_, rfl⟩
  have hc : q.cells = [.int .i64 a0, .int .i64 a1, .int .u16 (a2 : Int), .int .u16 (a3 : Int), .int .u32 (a4 : Int), .int .u32 (a5 : Int), .int .i64 a6, .int .u16 (a7 : Int), .int .i64 a8, .string ⟨a9.toArray⟩] := by rw [hq]; rfl
  have hs : q.s = a9 := by rw [hq]
  obtain ⟨W, hW⟩ : ∃ W, w.alloc (.cells #[.int .i64 a0, .int .i64 a1, .int .u16 (a2 : Int), .int .u16 (a3 : Int), .int .u32 (a4 : Int), .int .u32 (a5 : Int), .int .i64 a6, .int .u16 (a7 : Int), .int .i64 a8, .string ⟨a9.toArray⟩] 41) = W := ⟨_, rfl⟩
  have b0 : Below w.heap.size w W := by rw [← hW]; exact (Below.refl w.heap.size w).alloc (Nat.le_refl _) _
  have KB := Lib.hid (show Blk W w.heap.size 41 #[.int .i64 a0, .int .i64 a1, .int .u16 (a2 : Int), .int .u16 (a3 : Int), .int .u32 (a4 : Int), .int .u32 (a5 : Int), .int .i64 a6, .int .u16 (a7 : Int), .int .i64 a8, .string ⟨a9.toArray⟩] from by rw [← hW]; exact Blk.new w _ _)
  have B0 := Lib.hid b0
  have HW := Lib.hid hW
  have HC := Lib.hid hc
  have HS := Lib.hid hs
  clear w0 w1 w2 w3 w4 w5 w6 w7 w8 w9 hW b0 hq hc hs
  go_enter Try.func4, Try.ntmps4
  go_upto_region 1 with fail
  rw [HW.out]
  go_wp2_with fail
  refine (alive_any W).mono ?_; rintro e w1 ⟨rfl, b1⟩
  have KB1 := Lib.hid (KB.out.below b1 KB.out.lt)
  have B1 := Lib.hid (B0.out.trans (b1.mono B0.out.size))
  clear b1 KB B0
  go_wp2_with (first
    | (refine wpList_load_row rfl 41 (.tmp 1) rfl w.heap.size rfl 41 _ (0, 0) _ KB1.out Try.underlying41 rfl act_info ?_)
    | fail)
  have NB := (Below.refl w1.heap.size w1).alloc (Nat.le_refl _) (.cells #[.int .i64 a0, .int .i64 a1, .int .u16 (a2 : Int), .int .u16 (a3 : Int), .int .u32 (a4 : Int), .int .u32 (a5 : Int), .int .i64 a6, .int .u16 (a7 : Int), .int .i64 a8, .string ⟨a9.toArray⟩] 41)
  have RG : RowG (w1.alloc (.cells #[.int .i64 a0, .int .i64 a1, .int .u16 (a2 : Int), .int .u16 (a3 : Int), .int .u32 (a4 : Int), .int .u32 (a5 : Int), .int .i64 a6, .int .u16 (a7 : Int), .int .i64 a8, .string ⟨a9.toArray⟩] 41)) 10 (some ⟨w1.heap.size, 0, none⟩) 1 1 (([q] : List Tc.Act).flatMap Tc.Act.cells) := by
    have e : ([q] : List Tc.Act).flatMap Tc.Act.cells = q.cells := by simp
    rw [e, HC.out]
    exact G_one w1 _ _ 10 rfl
  have FR := Lib.hid (far_any (some ⟨w1.heap.size, 0, none⟩) 1 [q] _ RG (by simp))
  have KB2 := Lib.hid (KB1.out.below NB KB1.out.lt)
  have B2 := Lib.hid (B1.out.trans (NB.mono B1.out.size))
  clear RG NB KB1 B1
  generalize w1.alloc (.cells #[.int .i64 a0, .int .i64 a1, .int .u16 (a2 : Int), .int .u16 (a3 : Int), .int .u32 (a4 : Int), .int .u32 (a5 : Int), .int .i64 a6, .int .u16 (a7 : Int), .int .i64 a8, .string ⟨a9.toArray⟩] 41) = w2 at *
  refine FR.out.mono ?_; rintro e w3 ⟨⟨b, rfl, hb⟩, rfl⟩
  have HB := Lib.hid hb
  clear hb FR
  cases b with
  | true =>
    go_wp2
    go_ret
    exact ⟨rfl, B2.out⟩
  | false =>
    have L9 : a9.length ≤ 1000 := by
      have := (HB.out rfl).2 0 (by simp)
      rw [← HS.out]; exact this
    have z1 := (KB2.out.cell 1).trans (show _ = some (.int .i64 a1) from rfl)
    have LD := Lib.hid (show w3.rangeAt w.heap.size 2 (dsV a2 a3 a4 a5 a6 a7 a8 a9).toList from fun j v hv => by
      rw [KB2.out.cell]
      match j, hv with
      | 0, hv => cases hv; rfl
      | 1, hv => cases hv; rfl
      | 2, hv => cases hv; rfl
      | 3, hv => cases hv; rfl
      | 4, hv => cases hv; rfl
      | 5, hv => cases hv; rfl
      | 6, hv => cases hv; rfl
      | 7, hv => cases hv; rfl
      | j + 8, hv => cases hv)
    go_wp2_with fail
    refine (write_nil a1 _).mono ?_; rintro e w4 ⟨rfl, rfl⟩
    go_wp2_with fail
    refine (close_nil _).mono ?_; rintro e w5 ⟨rfl, rfl⟩
    go_wp2_with fail
    refine (read_nil _).mono ?_; rintro e w6 ⟨rfl, rfl⟩
    go_wp2_with fail
    refine (places_nil _).mono ?_; rintro e w7 ⟨rfl, rfl⟩
    go_wp2_with (first
      | (refine wpList_load_mid rfl 39 (.tmp 42) rfl w.heap.size 2 rfl _ _ LD.out Try.underlying39 rfl ds_info ?_)
      | fail)
    refine (of_any a2 a3 a4 a5 a6 a7 a8 a9 _ (by omega)).mono ?_; rintro e w8 ⟨A8, c8, rfl, _, b8⟩
    have B8 := Lib.hid (B2.out.trans (b8.mono B2.out.size))
    clear b8 B2
    go_wp2_with fail
    refine (in_nil _ _).mono ?_; rintro e w9 ⟨rfl, b9⟩
    have B9 := Lib.hid (B8.out.trans (b9.mono B8.out.size))
    clear b9 B8
    go_wp2_with fail
    refine (tick_nil _).mono ?_; rintro e wa ⟨rfl, rfl⟩
    go_wp2_with fail
    refine (abort_nil _).mono ?_; rintro e wb ⟨rfl, rfl⟩
    go_wp2_with fail
    refine (state_nil _).mono ?_; rintro e wd ⟨rfl, rfl⟩
    go_wp2_with fail
    refine (done_nil _).mono ?_; rintro e we ⟨rfl, rfl⟩
    go_wp2
    go_ret
    exact ⟨rfl, B9.out⟩

set_option maxRecDepth 100000 in
theorem lifted (os : Os) (started : os.Started) (H : Type) (enc : TypeId × Value → H) :
    ReturnsInHanded {} Try.checked os 4 .any (Rows.tcbNilSpec.pre6 enc Try.prog Try.f4 Rows.tcbNilRow.domain false) (Rows.tcbNilSpec.post enc Try.prog Try.f4 false true false false) := by
  refine returnsInHanded_of_change (C := Try.checked) own started (by kernel_rfl) Try.func4
    (ChangeSpec.witness6 (enc := enc) (C := Try.checked) false ⟨#[], #[.agg #[.int .i64 0, .int .i64 0, .int .u16 0, .int .u16 0, .int .u32 0, .int .u32 0, .int .i64 0, .int .u16 0, .int .i64 0, .string ⟨#[]⟩]], []⟩ 8 (by kernel_rfl) (by kernel_rfl) (by kernel_rfl) (by kernel_rfl)) ?_
  intro W base args ds gs before hval0 hW hcnd _
  have hval : ∀ (j : Nat) t v, Try.f4.params[j]? = some t → args[j]? = some v → Value.okWide Try.prog W .any base t v := hval0
  have hW' := hW
  obtain ⟨p, q, hA0, hV, rfl, hfz, hnd⟩ := hW
  have hA : DataW.TrodAll enc Try.prog W 0 (fun _ => true) true Try.f4.params.toList args.toList ds p := hA0
  rw [Try.params4] at hA hval
  obtain ⟨v0, vs0, d0, ds0, p0, q0, hargs, rfl, rfl, h0, r0⟩ := trodAll_cons hA
  obtain ⟨rfl, rfl, rfl⟩ := trodAll_nil r0
  obtain rfl : args = #[v0] := by cases args; simp_all
  obtain ⟨a0_0, a0_1, a0_2, a0_3, a0_4, a0_5, a0_6, a0_7, a0_8, a0_9, rfl, w0_0, w0_1, w0_2, w0_3, w0_4, w0_5, w0_6, w0_7, w0_8, w0_9⟩ := open_One (hval 0 41 v0 rfl rfl) h0
  clear hA0 hval0
  exact law_close hW' laidOut (by kernel_rfl) rfl Try.underlying4 rfl ⟨rfl, rfl, rfl⟩ (walk W a0_0 a0_1 a0_2 a0_3 a0_4 a0_5 a0_6 a0_7 a0_8 a0_9 w0_0 w0_1 w0_2 w0_3 w0_4 w0_5 w0_6 w0_7 w0_8 w0_9)

theorem over : Rows.tcbNilRow.holds Try.pinned (OpenSpec.ofChange Rows.tcbNilSpec) :=
  OpenClaim.holds_of_wide 4 Try.f4 rfl rfl rfl rfl rfl rfl rfl ⟨rfl, rfl, rfl, rfl, rfl⟩ rfl rfl rfl rfl rfl (by kernel_rfl) Try.func4 (by kernel_rfl)
    (of_decide_eq_true (by kernel_rfl)) (by unfold Func.isWrapper; first | (rw [if_pos (by decide +kernel)]; kernel_rfl) | (rw [if_neg (by decide +kernel)]; exact ⟨rfl, rfl⟩))
    (fun os started H enc _ => lifted os started H enc)

theorem proved : Rows.TcbNilSaid := over

end Go.Proofs.Ytldmcoagjgeeoaa.tcbNil
