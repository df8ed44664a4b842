/- Whatever call and text come in, 'pantlerlaw09.KernNil' returns true and leaves them as they were. No condition. -/
import Derived.Test.YtbdhogbipempfaaKnD
namespace Go.Proofs.Ytbdhogbipempfaa.kernNil
open Go.ChangeShapes Go.WideShapes Go.ChangeAt Go.RowKit Go.Deep Di
set_option linter.unusedVariables false


set_option maxRecDepth 100000 in
theorem call_nil (op env qa qb qc : Int) (Ab Ap Al : Option Addr) (nb cb np cp nl cl : Nat) (w : World) :
    Calls Try.prog 10 #[.pointer none, .agg #[.int .i64 op, .int .i64 env, .int .i64 qa, .int .i64 qb, .int .i64 qc, .slice Ab nb cb, .slice Ap np cp, .slice Al nl cl]] w fun e w' => e = .returned (.tuple #[.agg #[.int .i64 0, .slice none 0 0], .int .i64 3]) ∧ Below w.heap.size w w' := by
  obtain ⟨W, hW⟩ : ∃ W, W = (w.alloc (.cells #[.int .i64 op, .int .i64 env, .int .i64 qa, .int .i64 qb, .int .i64 qc, .slice Ab nb cb, .slice Ap np cp, .slice Al nl cl] 37)).alloc (.cells #[.int .i64 0, .slice none 0 0] 31) := ⟨_, rfl⟩
  have hb : Below w.heap.size w W := by rw [hW]; exact ((Below.refl _ w).alloc (Nat.le_refl _) _).alloc (by simp) _
  have ba : Blk W (w.heap.size + 1) 31 #[.int .i64 0, .slice none 0 0] := by
    rw [hW]
    have := Blk.new (w.alloc (.cells #[.int .i64 op, .int .i64 env, .int .i64 qa, .int .i64 qb, .int .i64 qc, .slice Ab nb cb, .slice Ap np cp, .slice Al nl cl] 37)) 31 #[.int .i64 0, .slice none 0 0]
    simpa using this
  have d0 := (ba.cell 0).trans (show _ = some (.int .i64 0) from rfl)
  have d1 := (ba.cell 1).trans (show _ = some (.slice none 0 0) from rfl)
  have e0 := ba.frozen 0
  have e1 := ba.frozen 1
  have FIN := Lib.hid (show Below w.heap.size w ((W.setCell ⟨w.heap.size + 1, 0, none⟩ (.int .i64 0)).setCell ⟨w.heap.size + 1, 1, none⟩ (.slice none 0 0)) from (hb.setCell (by show w.heap.size ≤ w.heap.size + 1; omega) _).setCell (by show w.heap.size ≤ w.heap.size + 1; omega) _)
  have R0 := Lib.hid (show Blk ((W.setCell ⟨w.heap.size + 1, 0, none⟩ (.int .i64 0)).setCell ⟨w.heap.size + 1, 1, none⟩ (.slice none 0 0)) (w.heap.size + 1) 31 #[.int .i64 0, .slice none 0 0] from (ba.put 0 _).put 1 _)
  have HW := Lib.hid hW
  clear hW hb ba
  go_enter Try.func10, Try.ntmps10
  go_upto_region 1 with fail
  rw [show (w.alloc (.cells #[.int .i64 op, .int .i64 env, .int .i64 qa, .int .i64 qb, .int .i64 qc, .slice Ab nb cb, .slice Ap np cp, .slice Al nl cl] 37)).alloc (.cells #[.int .i64 0, .slice none 0 0] 31) = W from HW.out.symm]
  go_wp2
  refine bodyPost_ret (v := .tuple #[.agg #[.int .i64 0, .slice none 0 0], .int .i64 3]) ?_ rfl ?_
  · exact results_cell_tmp Try.results10 _ _ (w.heap.size + 1) 31 _ (0, 0) _ rfl R0.out Try.underlying31 rfl Ke.ainfo
  · exact ⟨rfl, FIN.out⟩
theorem arrive_nil (A : Option Addr) (n c : Nat) (w : World) : Calls Try.prog 14 #[.pointer none, .slice A n c] w fun e w' => e = .returned (.tuple #[.int .i64 0, .int .i64 3]) ∧ w' = w := by
  go_enter Try.func14, Try.ntmps14
  go_wp2
  go_ret2
  exact ⟨rfl, rfl⟩
theorem depart_nil (w : World) : Calls Try.prog 11 #[.pointer none] w fun e w' => e = .returned (.tuple #[.slice none 0 0, .int .i64 0, .int .i64 3]) ∧ w' = w := by
  go_enter Try.func11, Try.ntmps11
  go_wp2
  refine bodyPost_ret (results_tmp3 rfl _ _ _) rfl ?_
  exact ⟨rfl, rfl⟩
theorem table_nil (w : World) : Calls Try.prog 16 #[.pointer none] w fun e w' => e = .returned (.pointer none) ∧ w' = w := by
  go_enter Try.func16, Try.ntmps16
  go_wp2
  go_ret
  exact ⟨rfl, rfl⟩
theorem disk_nil (w : World) : Calls Try.prog 19 #[.pointer none] w fun e w' => e = .returned (.pointer none) ∧ w' = w := by
  go_enter Try.func19, Try.ntmps19
  go_wp2
  go_ret
  exact ⟨rfl, rfl⟩
theorem size_nil (w : World) : Calls Try.prog 76 #[.pointer none] w fun e w' => e = .returned (.int .i64 0) ∧ w' = w := by
  go_enter Try.func76, Try.ntmps76
  go_wp2
  go_ret
  exact ⟨rfl, rfl⟩
theorem has_nil (w : World) : Calls Try.prog 46 #[.pointer none, .int .i64 0] w fun e w' => e = .returned (.bool false) ∧ w' = w := by
  go_enter Try.func46, Try.ntmps46
  go_wp2_with fail
  refine (size_nil w).mono ?_; rintro e w1 ⟨rfl, hw1⟩; subst w1
  go_wp2
  go_ret
  exact ⟨rfl, rfl⟩
theorem owner_nil (w : World) : Calls Try.prog 42 #[.pointer none, .int .i64 0] w fun e w' => e = .returned (.int .i64 0) ∧ w' = w := by
  go_enter Try.func42, Try.ntmps42
  go_wp2_with fail
  refine (has_nil w).mono ?_; rintro e w1 ⟨rfl, hw1⟩; subst w1
  go_wp2
  go_ret
  exact ⟨rfl, rfl⟩
theorem owned_nil (w : World) : Calls Try.prog 13 #[.pointer none, .int .i64 1, .int .i64 0] w fun e w' => e = .returned (.bool false) ∧ w' = w := by
  go_enter Try.func13, Try.ntmps13
  go_wp2_with fail
  refine (Ke.kenv_yes 1 (by omega) w).mono ?_; rintro e w1 ⟨rfl, hw1⟩; subst w1
  go_wp2_with fail
  refine (table_nil w).mono ?_; rintro e w1 ⟨rfl, hw1⟩; subst w1
  go_wp2_with fail
  refine (owner_nil w).mono ?_; rintro e w1 ⟨rfl, hw1⟩; subst w1
  go_wp2
  go_ret
  exact ⟨rfl, rfl⟩
theorem conv_far (s : ByteArray) (w : World) : ∃ A c W', (convert 9 29 (.string s)).run Try.prog w = .ok (.slice A s.size c) W' ∧ Below w.heap.size w W' :=
  ⟨_, _, _, run_bytes_of_string w 9 29 5 s Try.underlying9 Try.underlying29 Try.underlying5, (⟨rfl, rfl, rfl, Nat.le_refl _, fun _ _ => rfl⟩ : Below w.heap.size w w.drew).alloc (Nat.le_refl _) _⟩
theorem kc_new {w w' : World} {q : KC} (h : q.In w) (k : Below w.heap.size w w') : q.In w' :=
  ⟨h.a, h.b, h.c, h.s, h.p.new k, h.pok, h.pn, h.l.new k, h.lok, h.ln⟩
set_option maxRecDepth 100000 in
set_option maxHeartbeats 2000000 in
theorem walk (w : World) (q : KC) (hq : q.In w) (s : ByteArray) (ws : s.size ≤ maxLen) :
    Calls Try.prog 5 #[.agg #[.int .i64 q.op, .int .i64 q.env, .int .i64 q.a, .int .i64 q.b, .int .i64 q.c, .string q.s, .slice q.Ap q.p.length q.cp, .slice q.Al q.l.length q.cl], .string s] w fun e w' => e = .returned (.bool true) ∧ Below w.heap.size w w' := by
  obtain ⟨W, hW⟩ : ∃ W, W = w.alloc (.cells #[.int .i64 q.op, .int .i64 q.env, .int .i64 q.a, .int .i64 q.b, .int .i64 q.c, .string q.s, .slice q.Ap q.p.length q.cp, .slice q.Al q.l.length q.cl] 44) := ⟨_, rfl⟩
  have hb : Below w.heap.size w W := by rw [hW]; exact (Below.refl _ w).alloc (Nat.le_refl _) _
  have bq : Blk W w.heap.size 44 #[.int .i64 q.op, .int .i64 q.env, .int .i64 q.a, .int .i64 q.b, .int .i64 q.c, .string q.s, .slice q.Ap q.p.length q.cp, .slice q.Al q.l.length q.cl] := by rw [hW]; exact Blk.new w _ _
  have HW := Lib.hid hW
  have HB := Lib.hid hb
  have BQ := Lib.hid bq
  have HQ := Lib.hid hq
  clear hW hb bq hq
  by_cases hn : Ke.Near q
  · have FA := Lib.hid (fun W' => Ke.kfar_any q false ⟨fun h => absurd h (by decide), fun h => absurd hn h⟩ W')
    have OF := Lib.hid (fun (W' : World) (hw : Below w.heap.size w W') => Ke.of_call q W' (kc_new HQ.out hw) (by have := hn.1; omega) (by have := hn.2.1; omega) (by have := hn.2.2; omega))
    clear hn
    go_enter Try.func5, Try.ntmps5
    go_upto_region 1 with fail
    rw [show w.alloc (.cells #[.int .i64 q.op, .int .i64 q.env, .int .i64 q.a, .int .i64 q.b, .int .i64 q.c, .string q.s, .slice q.Ap q.p.length q.cp, .slice q.Al q.l.length q.cl] 44) = W from HW.out.symm]
    go_wp2_with fail
    refine (Ke.alive_any W).mono ?_; rintro e w1 ⟨rfl, b1⟩
    have B1 := Lib.hid (HB.out.trans (b1.mono HB.out.size))
    have Q1 := Lib.hid (BQ.out.older (older_below b1))
    clear b1
    go_wp2_with (first
      | (refine wpList_load_row rfl 44 (.tmp 2) rfl w.heap.size rfl 44 _ (0, 0) _ Q1.out Try.underlying44 rfl Ke.rcall_info ?_)
      | fail)
    refine (FA.out _).mono ?_; rintro e w2 ⟨rfl, b2⟩
    have B2 := Lib.hid (B1.out.trans (b2.mono B1.out.size))
    have Q2 := Lib.hid (Q1.out.older (older_below b2))
    clear b2
    go_wp2_with (first
      | (refine wpList_load_row rfl 44 (.tmp 2) rfl w.heap.size rfl 44 _ (0, 0) _ Q2.out Try.underlying44 rfl Ke.rcall_info ?_)
      | fail)
    refine (OF.out _ B2.out).mono ?_; rintro e w3 ⟨x, rfl, mq⟩
    have B3 := Lib.hid (B2.out.trans (mq.below.mono B2.out.size))
    clear mq
    go_wp2_with fail
    refine (call_nil _ _ _ _ _ _ _ _ _ _ _ _ _ _ w3).mono ?_; rintro e w4 ⟨rfl, b4⟩
    have B4 := Lib.hid (B3.out.trans (b4.mono B3.out.size))
    clear b4
    obtain ⟨A5, c5, w5, heq, b5⟩ := conv_far s (w4.alloc (.cells #[.int .i64 0, .slice none 0 0] 31))
    have b4' := B4.out.alloc B4.out.size (.cells #[.int .i64 0, .slice none 0 0] 31)
    have B5 := Lib.hid (b4'.trans (b5.mono b4'.size))
    clear b4'
    clear b5
    go_wp2_with fail
    refine (arrive_nil _ _ _ w5).mono ?_; rintro e w6 ⟨rfl, hw6⟩; subst w6
    clear heq
    go_wp2_with fail
    refine (depart_nil w5).mono ?_; rintro e w6 ⟨rfl, hw6⟩; subst w6
    go_wp2_with fail
    refine (table_nil w5).mono ?_; rintro e w6 ⟨rfl, hw6⟩; subst w6
    go_wp2_with fail
    refine (disk_nil w5).mono ?_; rintro e w6 ⟨rfl, hw6⟩; subst w6
    go_wp2_with fail
    refine (owned_nil w5).mono ?_; rintro e w6 ⟨rfl, hw6⟩; subst w6
    go_wp2
    go_ret
    exact ⟨rfl, B5.out⟩
  · have FA := Lib.hid (fun W' => Ke.kfar_any q true ⟨fun _ => hn, fun _ => rfl⟩ W')
    clear hn
    go_enter Try.func5, Try.ntmps5
    go_upto_region 1 with fail
    rw [show w.alloc (.cells #[.int .i64 q.op, .int .i64 q.env, .int .i64 q.a, .int .i64 q.b, .int .i64 q.c, .string q.s, .slice q.Ap q.p.length q.cp, .slice q.Al q.l.length q.cl] 44) = W from HW.out.symm]
    go_wp2_with fail
    refine (Ke.alive_any W).mono ?_; rintro e w1 ⟨rfl, b1⟩
    have B1 := Lib.hid (HB.out.trans (b1.mono HB.out.size))
    have Q1 := Lib.hid (BQ.out.older (older_below b1))
    clear b1
    go_wp2_with (first
      | (refine wpList_load_row rfl 44 (.tmp 2) rfl w.heap.size rfl 44 _ (0, 0) _ Q1.out Try.underlying44 rfl Ke.rcall_info ?_)
      | fail)
    refine (FA.out _).mono ?_; rintro e w2 ⟨rfl, b2⟩
    have B2 := Lib.hid (B1.out.trans (b2.mono B1.out.size))
    clear b2
    go_wp2
    go_ret
    exact ⟨rfl, B2.out⟩

set_option maxRecDepth 100000 in
theorem lifted (os : Os) (started : os.Started) (H : Type) (enc : TypeId × Value → H) :
    ReturnsInHanded {} Try.checked os 5 .any (Rows.kernNilSpec.pre6 enc Try.prog Try.f5 Rows.kernNilRow.domain false) (Rows.kernNilSpec.post enc Try.prog Try.f5 false true false false) := by
  refine returnsInHanded_of_change (C := Try.checked) own started (by kernel_rfl) Try.func5
    (ChangeSpec.witness6 (enc := enc) (C := Try.checked) false ⟨#[], #[.agg #[.int .i64 0, .int .i64 0, .int .i64 0, .int .i64 0, .int .i64 0, .string ⟨#[]⟩, .slice none 0 0, .slice none 0 0], .string ⟨#[]⟩], []⟩ 8 (by kernel_rfl) (by kernel_rfl) (by kernel_rfl) (by kernel_rfl)) ?_
  intro W base args ds gs before hval0 hW hcnd _
  have hval : ∀ (j : Nat) t v, Try.f5.params[j]? = some t → args[j]? = some v → Value.okWide Try.prog W .any base t v := hval0
  have hW' := hW
  obtain ⟨p, q, hA0, hV, rfl, hfz, hnd⟩ := hW
  have hA : DataW.TrodAll enc Try.prog W 0 (fun _ => true) true Try.f5.params.toList args.toList ds p := hA0
  rw [Try.params5] at hA hval
  obtain ⟨v0, vs0, d0, ds0, p0, q0, hargs, rfl, rfl, h0, r0⟩ := trodAll_cons hA
  obtain ⟨v1, vs1, d1, ds1, p1, q1, rfl, rfl, rfl, h1, r1⟩ := trodAll_cons r0
  obtain ⟨rfl, rfl, rfl⟩ := trodAll_nil r1
  obtain rfl : args = #[v0, v1] := by cases args; simp_all
  obtain ⟨q0, rfl, b0⟩ := open_kcall (hval 0 44 v0 rfl rfl) h0
  obtain ⟨a1, rfl, _, _, w1⟩ := Go.ChangeMaps.open_string Try.underlying9 (hval 1 9 v1 rfl rfl) h1
  clear hA0 hval0
  exact law_close hW' laidOut (by kernel_rfl) rfl Try.underlying4 rfl ⟨rfl, rfl, rfl⟩ (walk W q0 b0 a1 w1)

theorem over : Rows.kernNilRow.holds Try.pinned (OpenSpec.ofChange Rows.kernNilSpec) :=
  OpenClaim.holds_of_wide 5 Try.f5 rfl rfl rfl rfl rfl rfl rfl ⟨rfl, rfl, rfl, rfl, rfl⟩ rfl rfl rfl rfl rfl (by kernel_rfl) Try.func5 (by kernel_rfl)
    (of_decide_eq_true (by kernel_rfl)) (by unfold Func.isWrapper; first | (rw [if_pos (by decide +kernel)]; kernel_rfl) | (rw [if_neg (by decide +kernel)]; exact ⟨rfl, rfl⟩))
    (fun os started H enc _ => lifted os started H enc)

theorem proved : Rows.KernNilSaid := over

end Go.Proofs.Ytbdhogbipempfaa.kernNil
