/- Package tcb: send, withBytes, pay. Conditions: those that each states. -/
import Derived.Test.YtldmcoagjgeeoaaTc1
namespace Go.Proofs.Ytldmcoagjgeeoaa.Tc
open Go.ChangeShapes Go.WideShapes Go.ChangeAt Go.RowKit Go.Deep Rk Rv
set_option linter.unusedVariables false
set_option linter.unusedSimpArgs false

section
variable {w0 w w' : World} {P : Pl} {T : TC} {A : Option Addr} {c : Nat} {l : List OutV}

theorem out_shape : Try.prog.underlying 28 = some (.slice 55) ∧ ∃ i z, Try.prog.info? 55 = some i ∧ i.zero = some z ∧ i.size = 7 ∧ z.cells.size = 7 ∧ i.bytes ≤ 1000 := by
  refine ⟨by kernel_rfl, ?_⟩
  cases h : Try.prog.info? 55 with
  | none => exact absurd h (by decide +kernel)
  | some i =>
    have h2 : (Try.prog.info? 55).map (fun i => (i.size, i.zero.isSome, (i.zero.map (·.cells.size)), decide (i.bytes ≤ 1000))) = some (7, true, some 7, true) := by kernel_rfl
    rw [h] at h2
    simp only [Option.map_some, Option.some.injEq, Prod.mk.injEq] at h2
    obtain ⟨q1, q2, q3, q4⟩ := h2
    cases hz : i.zero with
    | none => rw [hz] at q2; cases q2
    | some z =>
      rw [hz] at q3
      exact ⟨i, z, rfl, hz, q1, Option.some.inj q3, of_decide_eq_true q4⟩

theorem G_one (w : World) (E : TypeId) (cs : List Value) (sz : Nat) (h : cs.length = sz) : RowG (w.alloc (.cells cs.toArray E)) sz (some ⟨w.heap.size, 0, none⟩) 1 1 cs :=
  ⟨by rw [h, Nat.one_mul], Nat.le_refl _, by unfold maxLen; omega, fun e => (by cases e), fun a e _ => by
    cases e
    refine ⟨rfl, by simp, fun j hj => ?_⟩
    rw [Nat.zero_add, (Blk.new w E cs.toArray).cell, List.getElem?_toArray, List.getElem?_eq_getElem hj]⟩

set_option maxRecDepth 100000 in
theorem send_any (h : CO w0 w P T A c l) (o : OutV) (hl : l.length ≤ 900000) : Calls Try.prog 37 #[.pointer (some ⟨P.g, 0, none⟩), .slice A l.length c, .agg (outA o)] w fun e w' => ∃ A' c', e = .returned (.slice A' (l ++ [o]).length c') ∧ CO w0 w' P (sentR T) A' c' (l ++ [o]) ∧ Ap w w' P A A' := by
  obtain ⟨W, hW⟩ : ∃ W, w.alloc (.cells (outA o) 55) = W := ⟨_, rfl⟩
  have b0 : Below w.heap.size w W := by rw [← hW]; exact (Below.refl w.heap.size w).alloc (Nat.le_refl _) _
  have RB := Lib.hid (show Blk W w.heap.size 55 (outA o) from by rw [← hW]; exact Blk.new w _ _)
  have h1 := h.new b0
  have k1 : Chg w W P.In := Chg.of_new b0 _
  have c20 := h1.con.c20
  have f20 := h1.con.fz 20
  have HW := Lib.hid hW
  have LT := h.con.lt P.g (.inl rfl)
  obtain ⟨W2, hW2⟩ : ∃ W2, W.setCell ⟨P.g, 20, none⟩ (.int .i64 (-1)) = W2 := ⟨_, rfl⟩
  have hs : CA (W.setCell ⟨P.g, 20, none⟩ (.int .i64 (-1))) P (sentR T) := h1.con.set 20 _ rfl rfl rfl rfl rfl
  have ks := set_in W P 20 (.int .i64 (-1))
  rw [hW2] at hs ks
  have H2 := Lib.hid (h1.step hs ks)
  have K2 := Lib.hid (k1.trans ks)
  have RB2 := Lib.hid (RB.out.chg ks (fun e => by have := h.con.lt _ e; omega))
  have HW2 := Lib.hid hW2
  obtain ⟨q1, i, z, q2, q3, q4, q5, q6⟩ := out_shape
  have len1 : (l ++ [o]).length = l.length + 1 := by simp
  have LEN := Lib.hid len1
  rw [len1]
  clear h h1 hW b0 hs ks k1 hW2 RB len1
  go_enter Try.func37, Try.ntmps37
  go_upto_region 1 with fail
  rw [HW.out]
  go_upto_region 2 with fail
  rw [HW2.out]
  have NB := (Below.refl W2.heap.size W2).alloc (Nat.le_refl _) (.cells (outA o) 55)
  have BS := Lib.hid (show ∀ X : World, (Instr.buildSlice 28 1 #[(0, .agg (outA o))]).run Try.prog X = .ok (.slice (some ⟨X.heap.size, 0, none⟩) 1 1) (X.alloc (.cells (outA o) 55)) from fun X => by go_simp)
  go_wp2_with (first
    | (refine wpList_load_row rfl 55 (.tmp 5) rfl w.heap.size rfl 55 _ (0, 0) _ RB2.out Try.underlying55 rfl out_info ?_)
    | (at_builtin; refine Hid.out ?_)
    | fail)
  unfold Hid
  refine wpList_append_V rfl (.tmp 10) (.tmp 12) 28 rfl 55 i z 7 i.bytes q1 q2 q3 q4 rfl q5 (by decide) q6 A l.length c _ rfl (H2.out.out.new NB) (some ⟨W2.heap.size, 0, none⟩) 1 1 (outC o) rfl (G_one W2 55 (outC o) 7 rfl) (by simp [outC, Value.oneCell']) (by omega) ?_
  intro A2 c2 w2 r2 k2 n2
  go_wp2
  go_ret
  have HC := H2.out
  have cn : CA w2 P (sentR T) := (HC.con.new NB).chg k2 (fun i hi hh => by
    obtain ⟨a, e, e2⟩ := hh
    exact HC.off a e (e2 ▸ hi))
  have ap : Ap W2 w2 P A A2 := ⟨((Chg.of_new NB _).trans k2).weak fun _ => .inr, fun k hk => (n2 k hk).imp id (fun h => by simp at h; omega)⟩
  have rr : RowV w2 55 7 A2 (l ++ [o]).length c2 (outsC (l ++ [o])) := by
    rw [LEN.out, outsC_append]
    have : outsC [o] = outC o := by simp [outsC]
    rw [this]; exact r2
  refine ⟨A2, c2, rfl, HC.ap ap cn rr, ?_⟩
  exact (Ap.of K2.out).trans ap

set_option maxRecDepth 100000 in
theorem pay_any (h : CO w0 w P T A c l) (hd : T.done = false) (hl : l.length ≤ 900000) : Calls Try.prog 31 #[.pointer (some ⟨P.g, 0, none⟩), .slice A l.length c] w fun e w' => ∃ A' c', e = .returned (.slice A' (payL T l).length c') ∧ CO w0 w' P (payT T) A' c' (payL T l) ∧ Ap w w' P A A' := by
  have c20 := h.con.c20
  by_cases h0 : T.due = 0
  · have E1 : payL T l = l ++ [plainR T] := if_pos h0
    have E2 : payT T = sentR T := if_pos h0
    rw [E1, E2]
    have P1 := Lib.hid (plain_any h.con hd)
    have S1 := Lib.hid (fun W (k : Below w.heap.size w W) => show Calls _ _ _ _ _ from send_any (h.new k) (plainR T) hl)
    have AP := Lib.hid (fun W (k : Below w.heap.size w W) => show Ap w W P A A from Ap.of (Chg.of_new k _))
    rw [h0] at c20
    obtain ⟨l2, hl2⟩ : ∃ l2, l ++ [plainR T] = l2 := ⟨_, rfl⟩
    rw [hl2] at S1 ⊢
    clear h E1 E2 hl2
    go_enter Try.func31, Try.ntmps31
    go_wp2_with fail
    refine P1.out.mono ?_; rintro e w1 ⟨rfl, b1⟩
    have B1 := Lib.hid b1
    clear b1
    go_wp2_with fail
    refine (S1.out _ B1.out).mono ?_; rintro e w2 ⟨A2, c2, rfl, h2, a2⟩
    have F := Lib.hid (show CO w0 w2 P (sentR T) A2 c2 l2 ∧ Ap w w2 P A A2 from ⟨h2, (AP.out _ B1.out).trans a2⟩)
    clear h2 a2
    go_wp2
    go_ret
    exact ⟨A2, c2, rfl, F.out⟩
  · have E1 : payL T l = l := if_neg h0
    have E2 : payT T = T := if_neg h0
    rw [E1, E2]
    have H := Lib.hid h
    clear h E1 E2
    go_enter Try.func31, Try.ntmps31
    go_wp2
    go_ret
    exact ⟨A, c, rfl, H.out, Ap.refl _ _ _⟩

set_option maxRecDepth 100000 in
theorem with_any (h : CA w P T) (o : OutV) (ho : o.f = 16) (fr n : Int) (h1 : 0 ≤ fr ∧ fr ≤ 2199023255552) (h2 : 0 ≤ n ∧ n ≤ 1000000) : Calls Try.prog 49 #[.pointer (some ⟨P.g, 0, none⟩), .agg (outA o), .int .i64 fr, .int .i64 n] w fun e w' => e = .returned (.agg (outA (withR T o fr n))) ∧ Below w.heap.size w w' := by
  obtain ⟨W, hW⟩ : ∃ W, (w.alloc (.cells (outA o) 55)).alloc (.cells (outA ⟨0, 0, 0, 0, 0, 0, 0⟩) 55) = W := ⟨_, rfl⟩
  have b0 : Below w.heap.size w W := by rw [← hW]; exact ((Below.refl w.heap.size w).alloc (Nat.le_refl _) _).alloc (by simp) _
  have PB := Lib.hid (show Blk W w.heap.size 55 (outA o) from by rw [← hW]; exact (Blk.new w _ _).alloc _)
  have RB := Lib.hid (show Blk W (w.heap.size + 1) 55 (outA ⟨0, 0, 0, 0, 0, 0, 0⟩) from by rw [← hW]; have := Blk.new (w.alloc (.cells (outA o) 55)) 55 (outA ⟨0, 0, 0, 0, 0, 0, 0⟩); simpa using this)
  have k1 := h.new b0
  have c5 := k1.c5
  have N1 := Lib.hid (number_any k1 fr)
  have LT := h.lt P.g (.inl rfl)
  have B0 := Lib.hid b0
  have HW := Lib.hid hW
  have c5' : ∀ u v, ((W.setCell ⟨w.heap.size, 1, none⟩ u).setCell ⟨w.heap.size, 4, none⟩ v).cell? ⟨P.g, 5, none⟩ = some (.int .i64 T.en) := fun u v => by
    rw [((k1.head.far (p := ⟨w.heap.size, 1, none⟩) (by show P.g ≠ w.heap.size; omega) u).far (p := ⟨w.heap.size, 4, none⟩) (by show P.g ≠ w.heap.size; omega) v).cell]; rfl
  have x1 := IntWalk.i64_in (fr + n) (by omega)
  obtain ⟨q, hq⟩ : ∃ q : Int, q = if fr + n = T.en then 24 else 16 := ⟨_, rfl⟩
  rw [show withR T o fr n = ⟨q, numR T fr, o.a, o.w, fr, n, o.m⟩ from by rw [hq]; rfl]
  have EQ := Lib.hid hq
  generalize numR T fr = qn at *
  obtain ⟨of', os, oa, ow, ofr, ol, om'⟩ := o
  obtain rfl : of' = 16 := ho
  dsimp only
  -- the struct, as it is put together
  obtain ⟨W2, hW2⟩ : ∃ W2, ((W.setCell ⟨w.heap.size, 1, none⟩ (.int .u32 qn)).setCell ⟨w.heap.size, 4, none⟩ (.int .i64 fr)).setCell ⟨w.heap.size, 5, none⟩ (.int .i64 n) = W2 := ⟨_, rfl⟩
  have PB2 := Lib.hid (show Blk W2 w.heap.size 55 (outA ⟨16, qn, oa, ow, fr, n, om'⟩) from by rw [← hW2]; exact ((PB.out.put 1 _).put 4 _).put 5 _)
  have K2 := Lib.hid (show Chg W W2 (fun k => k = w.heap.size) from by rw [← hW2]; exact ((Chg.set W (S := fun k => k = w.heap.size) 1 _ rfl).trans (Chg.set _ (S := fun k => k = w.heap.size) 4 _ rfl)).trans (Chg.set _ (S := fun k => k = w.heap.size) 5 _ rfl))
  have RB2 := Lib.hid (RB.out.chg K2.out (by omega))
  have k2 := k1.chg K2.out (fun i hi e => by have := h.lt i hi; omega)
  have c5w := k2.c5
  have B2 := Lib.hid (show Below w.heap.size w W2 from b0.trans (K2.out.below b0.size (fun k e => by omega)))
  have HW2 := Lib.hid hW2
  have p1 := PB.out.cell 1
  have p4 := PB.out.cell 4
  have p5 := PB.out.cell 5
  have f1 := PB.out.frozen 1
  have f4 := PB.out.frozen 4
  have f5 := PB.out.frozen 5
  have p0 := (PB2.out.cell 0).trans (show _ = some (.int .i64 16) from rfl)
  have f0 := PB2.out.frozen 0
  clear h k1 k2 hW hW2 b0 hq PB c5' c5
  go_enter Try.func49, Try.ntmps49
  go_upto_region 1 with fail
  rw [HW.out]
  go_wp2_with fail
  refine N1.out.mono ?_; rintro e w' ⟨rfl, rfl⟩
  go_upto_region 2 with fail
  rw [HW2.out]
  by_cases he : fr + n = T.en
  · obtain rfl : q = 24 := by rw [EQ.out, if_pos he]
    obtain ⟨W3, hW3⟩ : ∃ W3, W2.setCell ⟨w.heap.size, 0, none⟩ (.int .i64 24) = W3 := ⟨_, rfl⟩
    have PB3 := Lib.hid (show Blk W3 w.heap.size 55 (outA ⟨24, qn, oa, ow, fr, n, om'⟩) from by rw [← hW3]; exact PB2.out.put 0 _)
    have K3 : Chg W2 W3 (fun k => k = w.heap.size) := by rw [← hW3]; exact Chg.set _ (S := fun k => k = w.heap.size) 0 _ rfl
    have RB3 := Lib.hid (RB2.out.chg K3 (by omega))
    have B3 := Lib.hid (B2.out.trans (K3.below B2.out.size (fun k e => by omega)))
    have HW3 := Lib.hid hW3
    have KZ := Lib.hid (below_setRow B3.out (show w.heap.size ≤ w.heap.size + 1 by omega) (outA ⟨24, qn, oa, ow, fr, n, om'⟩))
    rw [← he] at c5w
    clear K3 hW3 EQ he
    go_upto_region 4 with fail
    rw [show bits .or .i64 16 8 = 24 from by decide +kernel, HW3.out]
    go_wp2_with (first
      | (refine wpList_load_row rfl 55 (.tmp 5) rfl w.heap.size rfl 55 _ (0, 0) _ PB3.out Try.underlying55 rfl out_info ?_)
      | (refine wpList_store_row rfl 55 (.tmp 8) (.tmp 29) rfl (w.heap.size + 1) (outA ⟨24, qn, oa, ow, fr, n, om'⟩) rfl rfl 55 _ RB3.out out_info rfl (by simp [Value.oneCell']) ?_)
      | fail)
    refine bodyPost_ret (v := .agg (outA ⟨24, qn, oa, ow, fr, n, om'⟩)) ?_ rfl ?_
    · exact results_cell_row Try.results49 _ _ (w.heap.size + 1) 55 _ (0, 0) _ rfl (RB3.out.row _) Try.underlying55 rfl out_info
    exact ⟨rfl, KZ.out⟩
  · obtain rfl : q = 16 := by rw [EQ.out, if_neg he]
    have KZ := Lib.hid (below_setRow B2.out (show w.heap.size ≤ w.heap.size + 1 by omega) (outA ⟨16, qn, oa, ow, fr, n, om'⟩))
    clear EQ
    go_upto_region 4 with fail
    go_wp2_with (first
      | (refine wpList_load_row rfl 55 (.tmp 5) rfl w.heap.size rfl 55 _ (0, 0) _ PB2.out Try.underlying55 rfl out_info ?_)
      | (refine wpList_store_row rfl 55 (.tmp 8) (.tmp 29) rfl (w.heap.size + 1) (outA ⟨16, qn, oa, ow, fr, n, om'⟩) rfl rfl 55 _ RB2.out out_info rfl (by simp [Value.oneCell']) ?_)
      | fail)
    refine bodyPost_ret (v := .agg (outA ⟨16, qn, oa, ow, fr, n, om'⟩)) ?_ rfl ?_
    · exact results_cell_row Try.results49 _ _ (w.heap.size + 1) 55 _ (0, 0) _ rfl (RB2.out.row _) Try.underlying55 rfl out_info
    exact ⟨rfl, KZ.out⟩
end
end Go.Proofs.Ytldmcoagjgeeoaa.Tc
