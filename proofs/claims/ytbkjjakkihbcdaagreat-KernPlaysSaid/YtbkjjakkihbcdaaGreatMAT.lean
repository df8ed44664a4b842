/- The document's kernel: Call, a filter is unbound. Conditions: those that each states. -/
import Derived.Test.YtbkjjakkihbcdaaGreatMAS
import Derived.Test.YtbkjjakkihbcdaaGreatMAN
import Derived.Test.YtbkjjakkihbcdaaGreatMAO
import Derived.Test.YtbkjjakkihbcdaaGreatRk6
import Derived.Test.YtbkjjakkihbcdaaGreatRk7
import Derived.Test.YtbkjjakkihbcdaaGreatRk8
import Derived.Test.YtbkjjakkihbcdaaGreatMAR
import Derived.StillTailTactics
import Derived.Deep.QuietTactic
import Derived.BigQuiet
namespace Go.Proofs.YtbkjjakkihbcdaaGreat.Rk
open Go.ChangeShapes Go.WideShapes Go.ChangeAt Go.RowKit Go.Deep Fr Di RE Ke
set_option linter.unusedVariables false
set_option linter.unusedSimpArgs false
section
variable {B g : Nat} {w : World} {K : Kn} {a : RP}
end
theorem fin_info : ∃ i0 z, Tryz.prog.info? 118 = some i0 ∧ i0.zero = some z ∧ z.cells.size = 3 ∧ i0.size = 3 ∧ i0.bytes = 40 := by
 obtain ⟨i, hi, hs⟩ := Option.map_eq_some_iff.1 (show (Tryz.prog.info? 118).map (fun i => (i.zero.map (·.cells.size), i.size, i.bytes)) = some (some 3, 3, 40) by kernel_rfl)
 simp only [Prod.mk.injEq] at hs
 obtain ⟨h0, h1, h2⟩ := hs
 obtain ⟨z, hz, hzs⟩ := Option.map_eq_some_iff.1 h0
 exact ⟨i, z, hi, hz, hzs, h1, h2⟩
theorem one_fin_info (l : List (Fil × Option Addr × Nat)) : ∀ u ∈ filsC l, u.oneCell' = true := by
 intro u hu
 unfold filsC at hu
 rw [List.mem_flatten] at hu
 obtain ⟨r, hr, hu⟩ := hu
 obtain ⟨q, _, rfl⟩ := List.mem_map.1 hr
 unfold filC at hu
 simp only [List.mem_cons, List.not_mem_nil, or_false] at hu
 rcases hu with rfl | rfl | rfl <;> rfl
section
variable {B g : Nat} {w : World} {K : Kn} {a : RP}
set_option maxRecDepth 100000 in
set_option maxHeartbeats 4000000 in
theorem rc10 (h : RKAt B w g K a) (ok : K.Ok) (sm : K.next ≤ 1000000 ∧ K.f3 + K.out.length ≤ 1000000 ∧ K.dk.line.length < 1000000) (env : Int) (he : env = 1 ∨ env = 2) (qa qb qc : Int) (wa : -9223372036854775808 ≤ qa ∧ qa ≤ 9223372036854775807) (s : ByteArray) (hs : s.size ≤ 1000) (Ap : Option Addr) (cp : Nat) (p : List Ins) (hp : Prg w Ap p) (pok : ∀ x ∈ p, x.Ok) (gp : Given B Ap p.length) (pm : p.length ≤ 1000000) (Al : Option Addr) (cl : Nat) (l : List Pc) (hl : Pcs w Al l) (lok : ∀ x ∈ l, x.Ok) (gl : Given B Al l.length) (lm : l.length ≤ 1000000) :
  Calls Tryz.prog 10 #[.pointer (some ⟨g, 0, none⟩), .agg #[.int .i64 10, .int .i64 env, .int .i64 qa, .int .i64 qb, .int .i64 qc, .string s, .slice Ap p.length cp, .slice Al l.length cl]] w (RCPost B w g K a ⟨10, env, qa, qb, qc, s.data.toList, p, l⟩) := by
 have g1 : ¬ env < 1 := by omega
 have g2 : ¬ env > 2 := by omega
 have X1 := Lib.hid (Blk.new w 34 #[.int .i64 10, .int .i64 env, .int .i64 qa, .int .i64 qb, .int .i64 qc, .string s, .slice Ap p.length cp, .slice Al l.length cl])
 have b1 : Below w.heap.size w (w.alloc (.cells #[.int .i64 10, .int .i64 env, .int .i64 qa, .int .i64 qb, .int .i64 qc, .string s, .slice Ap p.length cp, .slice Al l.length cl] 34)) := (Below.refl _ w).alloc (Nat.le_refl _) _
 have B1 := Lib.hid b1
 have H1 := Lib.hid (h.new b1)
 have HP := Lib.hid (hp.new b1)
 have HL := Lib.hid (hl.new b1)
 have NQ := Lib.hid (show ¬ a.foot g w.heap.size from fun e => absurd (h.lt _ e) (Nat.lt_irrefl _))
 have HM := Lib.hid (show ∀ x ∈ K.ps, x.holds ≤ 256 from fun x hx => by
  obtain ⟨k, hk, rfl⟩ := List.mem_iff_getElem.1 hx
  rw [ok.holds k hk]
  have := heldN_le ok.out (k : Int)
  have := ok.no
  omega)
 have OK := Lib.hid ok
 have SM := Lib.hid sm
 have HE := Lib.hid he
 have POK := Lib.hid pok
 have LOK := Lib.hid lok
 have GP := Lib.hid gp
 have GL := Lib.hid gl
 clear h ok sm hp hl pok lok gp gl he
 go_enter Tryz.func10, Tryz.ntmps10
 go_upto_region 1 with fail
 generalize w.alloc (.cells #[.int .i64 10, .int .i64 env, .int .i64 qa, .int .i64 qb, .int .i64 qc, .string s, .slice Ap p.length cp, .slice Al l.length cl] 34) = W1 at *
 have q0 := (X1.out.cell 0).trans (show _ = some (.int .i64 10) from rfl)
 have q1 := (X1.out.cell 1).trans (show _ = some (.int .i64 env) from rfl)
 have q2 := (X1.out.cell 2).trans (show _ = some (.int .i64 qa) from rfl)
 have q3 := (X1.out.cell 3).trans (show _ = some (.int .i64 qb) from rfl)
 have q4 := (X1.out.cell 4).trans (show _ = some (.int .i64 qc) from rfl)
 have q5 := (X1.out.cell 5).trans (show _ = some (.string s) from rfl)
 have q6 := (X1.out.cell 6).trans (show _ = some (.slice Ap p.length cp) from rfl)
 have q7 := (X1.out.cell 7).trans (show _ = some (.slice Al l.length cl) from rfl)
 have Q0 := Lib.hid q0
 have Q1 := Lib.hid q1
 have Q2 := Lib.hid q2
 have Q3 := Lib.hid q3
 have Q4 := Lib.hid q4
 have Q5 := Lib.hid q5
 have Q6 := Lib.hid q6
 have Q7 := Lib.hid q7
 clear b1
 obtain ⟨ev, hev⟩ : ∃ ev : Nat, env = (ev : Int) := ⟨env.toNat, by have := HE.out; omega⟩
 subst hev
 have F8 := OK.out.f8
 have hfx : a.fx.length = K.fs.length := by have := congrArg List.length H1.out.fx; simpa using this
 have HFX := Lib.hid hfx
 obtain ⟨iw, zw, hi, hz, hzc, hs2, hby⟩ := fin_info
 have INF := Lib.hid (And.intro hi (And.intro hz (And.intro hzc (And.intro hs2 hby))))
 have XLT := Lib.hid X1.out.lt
 clear hi hz hzc hs2 hby hfx
 go_upto_region 32 with fail
 clear q0 q1 q2 q3 q4 q5 q6 q7
 go_wp2
 go_loopw [13] (fun i wr => ∃ j : Nat, j ≤ K.fs.length ∧ i = .int .i64 (j : Int) ∧ Hid (∀ k (hk : k < K.fs.length), k < j → isFil qa (ev : Int) K.fs[k] = false) ∧ Hid (Below W1.heap.size W1 wr)) (fun i _ => K.fs.length - (intOf i).toNat)
 case atStart => exact ⟨0, Nat.zero_le _, rfl, Lib.hid (fun k _ h => absurd h (Nat.not_lt_zero k)), Lib.hid (Below.refl _ _)⟩
 case round =>
  obtain ⟨j, hj, rfl, NO, BR⟩ := hrel
  have HR := Lib.hid (H1.out.new BR.out)
  have c2' := HR.out.heads.2.2.1
  by_cases hlt : j < K.fs.length
  ·have hlt' : (j : Int) < (K.fs.length : Int) := by omega
   have j0 : (0 : Int) ≤ (j : Int) := by omega
   have xj := IntWalk.i64_in ((j : Int) + 1) (by omega)
   have hja : j < a.fx.length := by have := HFX.out; omega
   obtain ⟨f, A, c, hx⟩ : ∃ f A c, a.fx[j] = (f, A, c) := ⟨_, _, _, rfl⟩
   have hf : K.fs[j] = f := by
    have e := HR.out.fx
    have : (a.fx.map (·.1))[j]'(by simpa using hja) = f := by rw [List.getElem_map, hx]
    rw [← this]
    exact (List.getElem_of_eq e.symm hlt)
   obtain ⟨b, o, hA, hb, e0⟩ := row_cell filC_len HR.out.fil (i := j) (j := 0) hja (by decide) (v := .int .i64 (f.id : Int)) (by simp [hx, filC])
   obtain ⟨b', o', hA', -, e1⟩ := row_cell filC_len HR.out.fil (i := j) (j := 1) hja (by decide) (v := .int .i64 (f.env : Int)) (by simp [hx, filC])
   rw [Nat.add_zero] at e0
   rw [hA] at hA' c2'
   cases hA'
   have XR := Lib.hid (X1.out.older (older_below BR.out))
   have q1 := (XR.out.cell 1).trans (show _ = some (.int .i64 (ev : Int)) from rfl)
   have q2 := (XR.out.cell 2).trans (show _ = some (.int .i64 qa) from rfl)
   obtain ⟨cO, hcO⟩ : ∃ x, a.cf = x := ⟨_, rfl⟩
   rw [hcO] at c2'
   have hcap := HR.out.fil.cap
   have hcapm := HR.out.fil.max
   rw [hcO] at hcap hcapm
   have HF := Lib.hid hf
   have HB := Lib.hid hb
   have HAA := Lib.hid hA
   have HCO := Lib.hid hcO
   clear hx hA hf hja hb hcO
   by_cases hm : (f.id : Int) = qa ∧ (f.env : Int) = (ev : Int)
   ·obtain ⟨m1, m2⟩ := hm
    have ISF := Lib.hid (show isFil qa (ev : Int) K.fs[j] = true from by rw [HF.out]; unfold isFil; simp [m1, m2])
    rw [m1] at e0
    rw [m2] at e1
    clear m1 m2
    go_wp2_with fail
    go_quiet (fail)
    have BK := Lib.hid (BR.out.trans ((below_drewN (Below.refl wr.heap.size wr) nq).mono BR.out.size))
    have HK := Lib.hid (H1.out.new BK.out)
    clear e0 e1 c2' q1 q2 HR XR
    generalize wr.drewN nq = wk at *
    have HGL := Lib.hid (HK.out.lt g (.inl rfl))
    have CI := Lib.hid (show wk.cell? ⟨g, 2, none⟩ = some (.slice (some ⟨b, o, none⟩) K.fs.length cO) from by have := HK.out.heads.2.2.1; rw [HAA.out, HCO.out] at this; exact this)
    have FI := Lib.hid (HK.out.head.frozen 2)
    have HD := Lib.hid HK.out.head
    have RFIL := HK.out.fil
    rw [HAA.out, HCO.out] at RFIL
    have RF := Lib.hid (show RowG wk 3 (some ⟨b, o, none⟩) j cO (filsC (a.fx.take j)) from by
     have := RFIL.sub (i := 0) (m := j) (Nat.zero_le _) (by omega)
     simp only [Option.map_some, Nat.zero_mul, Nat.add_zero, Nat.sub_zero, List.drop_zero] at this
     rw [show filsC a.fx = ((a.fx.map filC).flatten) from rfl, flat_take filC_len] at this
     exact this)
    obtain ⟨AB, hAB⟩ : ∃ AB, (if cO = j + 1 then some (⟨b, o, none⟩ : Addr) else some ⟨b, o + (j + 1) * 3, none⟩) = AB := ⟨_, rfl⟩
    have RB := Lib.hid (show RowG wk 3 AB (K.fs.length - (j + 1)) (cO - (j + 1)) (filsC (a.fx.drop (j + 1))) from by
     have h0 := RFIL.sub (i := j + 1) (m := K.fs.length) (by omega) (Nat.le_refl _)
     simp only [Option.map_some] at h0
     rw [List.take_of_length_le (by have := RFIL.len; simp; omega), show filsC a.fx = ((a.fx.map filC).flatten) from rfl, flat_drop filC_len] at h0
     rw [← hAB]
     split
     ·have e0 : K.fs.length - (j + 1) = 0 := by omega
      rw [e0] at h0 ⊢
      exact ⟨h0.len, h0.cap, h0.max, fun e => (by cases e), fun x _ h => absurd h (Nat.lt_irrefl _)⟩
     ·exact h0)
    clear RFIL
    have s1 : ¬ cO < j := by omega
    have s3 : ¬ (K.fs.length : Int) < (j : Int) + 1 := by omega
    have s4 : (j : Int) ≤ (cO : Int) := by omega
    have s5 : (j : Int) + 1 ≤ (K.fs.length : Int) := by omega
    have s6 : (K.fs.length : Int) ≤ (cO : Int) := by omega
    have s7 : (0 : Int) ≤ (j : Int) + 1 := by omega
    have LF := Lib.hid (show ∀ W' : World, Below wk.heap.size wk W' → (Instr.loadAt 62 (.pointer (some ⟨g, 2, none⟩))).run Tryz.prog W' = .ok (.slice (some ⟨b, o, none⟩) K.fs.length cO) W' from fun W' h => by have := (h.cell (p := ⟨g, 2, none⟩) HGL.out).trans CI.out; go_simp)
    go_upto_region 36 with fail
    go_cut [] (fun wx => ∃ AF4 cF, Hid (Chg wk wx (fun k => k = g) ∧ Blk wx g 67 ((headC K a).set! 2 (.slice AF4 (j + (K.fs.length - (j + 1))) cF)) ∧ RowG wx 3 AF4 (j + (K.fs.length - (j + 1))) cF (filsC (a.fx.take j) ++ filsC (a.fx.drop (j + 1))) ∧ ∀ x, AF4 = some x → wk.heap.size ≤ x.block ∧ x.block < wx.heap.size))
    case first =>
     have hb0 : Below wk.heap.size wk wk.drew := ⟨rfl, rfl, rfl, Nat.le_refl _, fun _ _ => rfl⟩
     have BS0 := Lib.hid (show ∀ W' : World, (Instr.buildSlice 62 0 #[]).run Tryz.prog W' = .ok (.slice (some ⟨W'.heap.size, 0, none⟩) 0 0) (W'.alloc (.cells #[] 118)) from fun W' => by go_simp)
     refine wp_head_held (S := Below wk.heap.size wk) 19 (by kernel_rfl) rfl rfl (by kernel_rfl) ?_
     simp only [List.take_succ_cons, List.take_zero, List.drop_succ_cons, List.drop_zero]
     refine ht 0 (some 247) (v := .pointer (some ⟨g, 0, none⟩)) rfl rfl (fun w _ => by go_simp) hb0 ?_
     refine ht 2 (some 249) (v := .pointer (some ⟨g, 0, none⟩)) rfl rfl (fun w _ => by go_simp) hb0 ?_
     simp only [Act.put, List.setIfInBounds_toArray, List.set_cons_zero, List.set_cons_succ]
     refine ht 3 (some 250) (v := .pointer (some ⟨g, 0, none⟩)) rfl rfl (fun w _ => by go_simp) hb0 ?_
     refine ht 4 (some 251) (v := .pointer (some ⟨g, 2, none⟩)) rfl rfl (fun w _ => by go_simp) hb0 ?_
     simp only [Act.put, List.setIfInBounds_toArray, List.set_cons_zero, List.set_cons_succ]
     refine ht 5 (some 252) (v := .slice (some ⟨b, o, none⟩) K.fs.length cO) rfl rfl (fun w' hw => exec_load (y := .pointer (some ⟨g, 2, none⟩)) rfl rfl (LF.out w' hw)) hb0 ?_
     refine ht 6 (some 253) (v := .int .i64 (j : Int)) rfl rfl (fun w _ => by go_simp) hb0 ?_
     simp only [Act.put, List.setIfInBounds_toArray, List.set_cons_zero, List.set_cons_succ]
     refine ht 7 (some 254) (v := .slice (some ⟨b, o, none⟩) j cO) rfl rfl (fun w _ => by go_simp) hb0 ?_
     refine ht 9 (some 256) (v := .pointer (some ⟨g, 0, none⟩)) rfl rfl (fun w _ => by go_simp) hb0 ?_
     simp only [Act.put, List.setIfInBounds_toArray, List.set_cons_zero, List.set_cons_succ]
     refine ht 10 (some 257) (v := .pointer (some ⟨g, 0, none⟩)) rfl rfl (fun w _ => by go_simp) hb0 ?_
     refine ht 11 (some 258) (v := .pointer (some ⟨g, 2, none⟩)) rfl rfl (fun w _ => by go_simp) hb0 ?_
     simp only [Act.put, List.setIfInBounds_toArray, List.set_cons_zero, List.set_cons_succ]
     refine ht 12 (some 259) (v := .slice (some ⟨b, o, none⟩) K.fs.length cO) rfl rfl (fun w' hw => exec_load (y := .pointer (some ⟨g, 2, none⟩)) rfl rfl (LF.out w' hw)) hb0 ?_
     refine ht 13 (some 260) (v := .int .i64 (j : Int)) rfl rfl (fun w _ => by go_simp) hb0 ?_
     simp only [Act.put, List.setIfInBounds_toArray, List.set_cons_zero, List.set_cons_succ]
     refine ht 14 (some 261) (v := .int .i64 ((j : Int) + 1)) rfl rfl (fun w _ => by go_simp) hb0 ?_
     refine ht 15 (some 262) (v := .slice AB (K.fs.length - (j + 1)) (cO - (j + 1))) rfl rfl (fun w _ => by rw [← hAB]; go_simp) hb0 ?_
     simp only [Act.put, List.setIfInBounds_toArray, List.set_cons_zero, List.set_cons_succ]
     refine held_one (i := 1) (by kernel_rfl) rfl (by rfl) ?_
     have hb1 : Below wk.heap.size wk (wk.drew.alloc (.cells #[] 118)) := hb0.alloc hb0.size _
     have r1 : (wk.drew.alloc (.cells #[] 118)).ownsRow wk.heap.size 118 3 (.slice (some ⟨wk.drew.heap.size, 0, none⟩) 0 0) 0 [] := World.ownsRow_lit wk.drew #[] 0 hb0.size (by decide) rfl
     refine wp_slice_d (d := some 248) (ps := #[]) rfl rfl (by go_simp) (BS0.out _) ?_
     refine ⟨hb1, ?_⟩
     simp only [Act.put, List.setIfInBounds_toArray, List.set_cons_zero, List.set_cons_succ]
     refine held_one (i := 8) (by kernel_rfl) rfl (by rfl) ?_
     refine wp_append_G (d := some 255) rfl (.tmp 248) (.tmp 254) 62 rfl wk.heap.size 118 iw zw 3 40 Tryz.underlying62 INF.out.1 INF.out.2.1 INF.out.2.2.2.1 INF.out.2.2.2.2 INF.out.2.2.1 (by decide) _ 0 [] rfl r1 (some ⟨b, o, none⟩) j cO (filsC (a.fx.take j)) rfl (RowG.new RF.out hb1) (one_fin_info _) (by unfold maxLen; omega) (by omega) hb1.size ?_
     intro v1 w_2 ho2 hg2 hat2
     rw [Nat.zero_add, List.nil_append] at ho2
     have hb2 : Below wk.heap.size wk w_2 := hb1.grown hg2 hb1.size (fun k e => (r1.lt k e).1)
     refine ⟨hb2, ?_⟩
     simp only [Act.put, List.setIfInBounds_toArray, List.set_cons_zero, List.set_cons_succ]
     refine held_one (i := 16) (by kernel_rfl) rfl (by rfl) ?_
     refine wp_append_G (d := some 263) rfl (.tmp 255) (.tmp 262) 62 rfl wk.heap.size 118 iw zw 3 40 Tryz.underlying62 INF.out.1 INF.out.2.1 INF.out.2.2.2.1 INF.out.2.2.2.2 INF.out.2.2.1 (by decide) v1 j (filsC (a.fx.take j)) rfl ho2 AB (K.fs.length - (j + 1)) (cO - (j + 1)) (filsC (a.fx.drop (j + 1))) rfl (RowG.new RB.out hb2) (one_fin_info _) (by unfold maxLen; omega) (by omega) hb2.size ?_
     intro v4 w4 ho4 hg4 hat4
     have hb4 : Below wk.heap.size wk w4 := hb2.grown hg4 hb2.size (fun k e => (ho2.lt k e).1)
     refine ⟨hb4, ?_⟩
     refine ht 17 (some 264) (v := .pointer (some ⟨g, 0, none⟩)) rfl rfl (fun w _ => by go_simp) hb4 ?_
     simp only [Act.put, List.setIfInBounds_toArray, List.set_cons_zero, List.set_cons_succ]
     refine ht 18 (some 265) (v := .pointer (some ⟨g, 2, none⟩)) rfl rfl (fun w _ => by go_simp) hb4 ?_
     simp only [Act.put, List.setIfInBounds_toArray, List.set_cons_zero, List.set_cons_succ]
     refine wpAnyH_done (by kernel_rfl) ?_ _
     clear ho2 hg2 hat2 hg4 hat4 hb0 hb1 hb2 r1
     show wpList _ _ _ _ _ _
     obtain ⟨AF4, cF, rfl, rg4, hA4⟩ := RowG.of_owns ho4
     have q' : w4.cell? ⟨g, 2, none⟩ = some (.slice (some ⟨b, o, none⟩) K.fs.length cO) := (hb4.cell (p := ⟨g, 2, none⟩) HGL.out).trans CI.out
     have f' : w4.frozen? ⟨g, 2, none⟩ = false := (hb4.frozen (p := ⟨g, 2, none⟩) HGL.out).trans FI.out
     have k5 : Chg wk (w4.setCell ⟨g, 2, none⟩ (.slice AF4 (j + (K.fs.length - (j + 1))) cF)) (fun i => i = g) := (Chg.of_new hb4 _).trans (Chg.set _ _ _ rfl)
     have FIN := Lib.hid (And.intro k5 (And.intro (show Blk (w4.setCell ⟨g, 2, none⟩ (.slice AF4 (j + (K.fs.length - (j + 1))) cF)) g 67 ((headC K a).set! 2 (.slice AF4 (j + (K.fs.length - (j + 1))) cF)) from (HD.out.older (older_below hb4)).put 2 _) (And.intro (rg4.chg (Chg.set w4 2 (.slice AF4 (j + (K.fs.length - (j + 1))) cF) (g := g) (S := fun i => i = g) rfl) (fun x e h => by have h1 := (hA4 x e).1; have h2 := HGL.out; have h' : x.block = g := h; omega)) (show ∀ x, AF4 = some x → wk.heap.size ≤ x.block ∧ x.block < (w4.setCell ⟨g, 2, none⟩ (.slice AF4 (j + (K.fs.length - (j + 1))) cF)).heap.size from fun x e => by have h1 := hA4 x e; simpa using h1))))
     clear ho4 hb4 rg4 hA4 k5
     go_wp2
     go_meet
     exact ⟨AF4, cF, FIN⟩
    case rest => as_aux_lemma =>
     obtain ⟨AF4, cF, hc⟩ := hcut
     obtain ⟨k5, hd, rg, hA4⟩ := hc.out
     have er : callR K ⟨10, ev, qa, qb, qc, s.data.toList, p, l⟩ = ({ K with fs := K.fs.eraseIdx j }, 0, [], 0) := by
      rw [callR_10 K ev HE.out]
      unfold unbindR
      rw [List.findIdx?_eq_some_iff_getElem.2 ⟨hlt, ISF.out, fun k hk => by rw [NO.out k (by omega) hk]; decide⟩]
     have ER := Lib.hid er
     have ln : (K.fs.eraseIdx j).length = j + (K.fs.length - (j + 1)) := by rw [List.length_eraseIdx, if_pos hlt]; omega
     have lf : a.fx.take j ++ a.fx.drop (j + 1) = a.fx.eraseIdx j := (List.eraseIdx_eq_take_drop_succ a.fx j).symm
     have st := Lib.hid (HK.out.setRows k5 AF4 cF (a.fx.eraseIdx j) a.A1 a.c1 a.A2 a.c2 a.Ao a.cO a.ox { K with fs := K.fs.eraseIdx j } rfl rfl (by
       have e : (headC K a).set! 2 (.slice AF4 (j + (K.fs.length - (j + 1))) cF) = headC { K with fs := K.fs.eraseIdx j } { a with Af := AF4, cf := cF, fx := a.fx.eraseIdx j } := by
        unfold headC
        simp [ln]
       exact (congrArg (Blk _ _ _) e).mp hd)
      (by show List.map (·.1) (a.fx.eraseIdx j) = K.fs.eraseIdx j; rw [← HK.out.fx]; simp only [List.eraseIdx_eq_take_drop_succ, List.map_append, List.map_take, List.map_drop])
      (by rw [ln, ← lf]; exact (by rw [show filsC (a.fx.take j ++ a.fx.drop (j + 1)) = filsC (a.fx.take j) ++ filsC (a.fx.drop (j + 1)) from by unfold filsC; simp]; exact rg))
      (fun x hx => HK.out.fpC k5 HK.out.hB x (List.mem_of_mem_eraseIdx hx))
      (HK.out.in1C k5 HK.out.hR) (HK.out.in2C k5 HK.out.hR) HK.out.ox (HK.out.outC k5 HK.out.hR) (HK.out.opC k5 HK.out.hB)
      (fun x e => by
        rcases e with e | e | e | e
        ·exact .inr (hA4 x e)
        ·exact .inl (.inr (.inl ⟨x, e, rfl⟩))
        ·exact .inl (.inr (.inr (.inl ⟨x, e, rfl⟩)))
        ·exact .inl (.inr (.inr (.inr ⟨x, e, rfl⟩)))))
     clear hc k5 hd rg hA4 er ln lf
     go_wp2
     go_ret3
     exact rcpost_of ER.out ((st.out.first BK.out).first B1.out)
   ·have ISF := Lib.hid (show isFil qa (ev : Int) K.fs[j] = false from by
     rw [HF.out]
     unfold isFil
     by_cases m1 : (f.id : Int) = qa
     ·have m2 : ¬ (f.env : Int) = (ev : Int) := fun e => hm ⟨m1, e⟩
      simp [m1, m2]
     ·simp [m1])
    have NO2 := Lib.hid (show ∀ k (hk : k < K.fs.length), k < j + 1 → isFil qa (ev : Int) K.fs[k] = false from fun k hk h => by
     by_cases e : k < j
     ·exact NO.out k hk e
     ·obtain rfl : k = j := by omega
      exact ISF.out)
    have BK := Lib.hid (fun n => BR.out.trans ((below_drewN (Below.refl wr.heap.size wr) n).mono BR.out.size))
    by_cases m1 : (f.id : Int) = qa
    ·have m2 : ((f.env : Int) == (ev : Int)) = false := by simpa using fun e => hm ⟨m1, e⟩
     rw [m1] at e0
     clear hm m1 HR XR
     go_wp2_with fail
     go_quiet (fail)
     go_wp2
     go_roundw
     case rel => exact ⟨j + 1, by omega, by go_num, NO2, Lib.hid (BK.out _)⟩
     case measure => simp [intOf]; omega
    ·have m0 : ((f.id : Int) == qa) = false := by simpa using m1
     clear hm m1 HR XR
     go_wp2_with fail
     go_quiet (fail)
     go_wp2
     go_roundw
     case rel => exact ⟨j + 1, by omega, by go_num, NO2, Lib.hid (BK.out _)⟩
     case measure => simp [intOf]; omega
  ·have hlt' : ¬ (j : Int) < (K.fs.length : Int) := by omega
   obtain rfl : j = K.fs.length := by omega
   have er : callR K ⟨10, ev, qa, qb, qc, s.data.toList, p, l⟩ = (K, 0, [], 11) := by
    rw [callR_10 K ev HE.out]
    unfold unbindR
    rw [List.findIdx?_eq_none_iff.2 (fun x hx => by
     obtain ⟨k, hk, rfl⟩ := List.mem_iff_getElem.1 hx
     exact NO.out k hk hk)]
   have ER := Lib.hid er
   have ST0 := Lib.hid ((H1.out.same BR.out).first B1.out)
   clear er
   go_wp2
   go_ret3
   exact rcpost_of ER.out ST0.out
end
end Go.Proofs.YtbkjjakkihbcdaaGreat.Rk

/- Depart: the bytes that depart lie in a new block. Conditions: those that each states. -/
namespace Go.Proofs.YtbkjjakkihbcdaaGreat.Ke
open Go.ChangeShapes Go.WideShapes Go.ChangeAt Go.RowKit Go.Deep Fr Di
set_option linter.unusedVariables false
section
variable {w : World} {lab : Nat → Nat} {g : Nat} {K : Kn} {a : Ad}
def Gone2 (w : World) (lab : Nat → Nat) (g : Nat) (r : Kn × List UInt8 × Int × Int) (e : Ending) (w' : World) : Prop :=
 ∃ A c, e = .returned (.tuple #[.slice A r.2.1.length c, .int .i64 r.2.2.1, .int .i64 r.2.2.2]) ∧ Left w w' lab g r.1 ∧ Src w' A r.2.1.length c r.2.1 ∧ Fresh w A r.2.1.length
set_option maxRecDepth 100000 in
set_option maxHeartbeats 4000000 in
theorem depart2_any (h : KA w lab g K) (ok : K.Ok) (n : Nat) (sm : K.Small n) (hn : n < 1000000) :
  Calls Tryz.prog 13 #[.pointer (some ⟨g, 0, none⟩)] w (Gone2 w lab g (departR K)) := by
 obtain ⟨a, h⟩ := h
 have c6 := (h.head.cell 6).trans (show _ = some (.pointer (some ⟨a.b3, 0, none⟩)) from rfl)
 cases ho : K.out with
 | nil =>
  have er : departR K = (K, [], 0, 11) := by unfold departR; rw [ho]
  have hp := h.p3
  rw [ho] at hp
  have hx := hp.nil_inv
  have hr := h.r3
  rw [hx] at hr
  have CA := Lib.hid (RgT.take_empty a.a3 a.b3 16 K.f3 w hr)
  have H := Lib.hid h
  rw [er]
  clear h ok sm ho er hp hx hr
  go_enter Tryz.func13, Tryz.ntmps13
  go_wp2_with fail
  refine CA.out.mono ?_; rintro e w3 ⟨rfl, b3⟩
  have B3 := Lib.hid (b3.alloc b3.size (.cells #[.int .i64 0, .slice none 0 0] 130))
  clear b3
  go_wp2
  refine bodyPost_ret (results_tmp3 rfl _ _ _) rfl ?_
  exact ⟨none, 0, rfl, Left.same H.out B3.out, Src.nil _, fun _ b o e => (by cases e)⟩
 | cons t r =>
  have htm : t ∈ K.out := by rw [ho]; exact List.mem_cons_self
  have hto := ok.out t htm
  have er : departR K = ({ K with ps := dropN K.ps t.l, out := r, f3 := K.f3 + 1, done := K.done + 1 }, gatherB (txt K.ps) t.l, (t.env : Int), 0) := by
   unfold departR; rw [ho]; dsimp only; rw [ok.drops htm]
  have hp := h.p3
  rw [ho] at hp
  obtain ⟨u, x', hx, ⟨A, c, rfl, hpc, hof, hlc⟩, hp2⟩ := hp.cons_inv
  have hr := h.r3
  rw [hx] at hr
  have CA := Lib.hid (RgT.take_ok a.a3 a.b3 16 K.f3 x' (t.env : Int) A t.l.length c w hr)
  have H := Lib.hid h
  have PC := Lib.hid hpc
  have OF := Lib.hid hof
  have PR := Lib.hid hp2
  have hgets := ok.gets htm
  have hdrops := ok.drops htm
  have hl0 : 0 < t.l.length := List.length_pos_iff.2 hto.ne
  have hmax : t.l.length ≤ 1000000 := by have := hto.n; omega
  have NB := Lib.hid (show ∀ b o, A = some ⟨b, o, none⟩ → lab b = 0 from fun b o e => by
   have := hof hl0 b o e
   by_cases h0 : lab b = 0
   ·exact h0
   ·exact absurd h0 this)
  have FEG := Lib.hid (fun (W : World) (hT : Fr.Tab W a.gs a.gt K.ps) (hP : Pcs W A t.l) => Rg.fetch_list hT A c t.l hP hto.ok hmax)
  rw [hgets] at FEG
  have DR := Lib.hid (fun (W : World) (hT : Fr.Tab W a.gs a.gt K.ps) (hP : Pcs W A t.l) => drop_list hT A c t.l hP (fun b o e hb => by have h1 := NB.out b o e; have h2 := H.out.lt1; rw [hb] at h1; omega) hmax)
  rw [hdrops] at DR
  have hd1 := sm.done
  have xd := IntWalk.i64_in ((K.done : Int) + 1) (by omega)
  rw [er]
  clear h ok sm ho er hp hx hr hpc hof hp2 hgets hdrops hto hmax hl0 hlc
  go_enter Tryz.func13, Tryz.ntmps13
  go_wp2_with fail
  refine CA.out.mono ?_; rintro e w3 ⟨rfl, r3, k3⟩
  obtain ⟨h3, l3⟩ := H.out.setRing3 (o' := r) k3 r3 PR.out
  obtain ⟨W4, hW4⟩ : ∃ W4, W4 = w3.alloc (.cells #[.int .i64 (t.env : Int), .slice A t.l.length c] 130) := ⟨_, rfl⟩
  have b4 : Below w3.heap.size w3 W4 := by rw [hW4]; exact (Below.refl _ w3).alloc (Nat.le_refl _) _
  have D4 := Lib.hid (show Blk W4 w3.heap.size 130 #[.int .i64 (t.env : Int), .slice A t.l.length c] by rw [hW4]; exact Blk.new w3 _ _)
  have H4 := Lib.hid (h3.new b4)
  have L4 := Lib.hid (l3.trans (LStep.news lab b4))
  have P4 := Lib.hid (Pcs.step PC.out L4.out.step OF.out)
  have HGL := Lib.hid (show g < w3.heap.size from h3.head.lt)
  have HZ := Lib.hid (show ¬ w3.heap.size = a.gs from fun e => by have := H.out.all a.gs (by have := H.out.lt1; omega); have := k3.size; omega)
  have FE := Lib.hid (FEG.out W4.drew (H4.out.tab.drewN 1) (P4.out.drewN 1))
  have HW4 := Lib.hid hW4
  clear r3 k3 h3 l3 hW4 b4 c6 FEG
  go_upto_region 4 with fail
  rw [show w3.alloc (.cells #[.int .i64 (t.env : Int), .slice A t.l.length c] 130) = W4 from HW4.out.symm]
  go_upto_region 6 with fail
  refine wp_region_held_drew (S := fun w' => Hid (w'.cell? ⟨g, 0, none⟩ = some (.pointer (some ⟨a.gt, 0, none⟩)) ∧ Blk w' w3.heap.size 130 #[.int .i64 (t.env : Int), .slice A t.l.length c])) (by kernel_rfl) ((show Hid (W4.drew.cell? ⟨g, 0, none⟩ = some (.pointer (some ⟨a.gt, 0, none⟩)) ∧ Blk W4.drew w3.heap.size 130 #[.int .i64 (t.env : Int), .slice A t.l.length c]) from Lib.hid ⟨(H4.out.head.cell 0).trans rfl, D4.out⟩)) (fun hS => ?_)
  refine ht 0 (some 22) (v := ?_) rfl rfl ?_ hS ?_
  rotate_left
  ·intro w' hSw; go_simp <;> with_reducible rfl
  refine ht 1 (some 23) (v := ?_) rfl rfl ?_ hS ?_
  rotate_left
  ·intro w' hSw; go_simp <;> with_reducible rfl
  simp only [Act.put, List.setIfInBounds_toArray, List.set_cons_zero, List.set_cons_succ]
  refine ht 2 (some 24) (v := ?_) rfl rfl ?_ hS ?_
  rotate_left
  ·intro w' hSw; go_simp <;> with_reducible rfl
  refine ht 3 (some 25) (v := ?_) rfl rfl ?_ hS ?_
  rotate_left
  ·intro w' hSw; have hc := hSw.out.1; clear hSw; go_simp <;> with_reducible rfl
  simp only [Act.put, List.setIfInBounds_toArray, List.set_cons_zero, List.set_cons_succ]
  refine ht 4 (some 26) (v := ?_) rfl rfl ?_ hS ?_
  rotate_left
  ·intro w' hSw; go_simp <;> with_reducible rfl
  refine ht 5 (some 27) (v := ?_) rfl rfl ?_ hS ?_
  rotate_left
  ·intro w' hSw; have hc := (hSw.out.2.cell 1).trans (show _ = some (.slice A t.l.length c) from rfl); clear hSw; go_simp <;> with_reducible rfl
  simp only [Act.put, List.setIfInBounds_toArray, List.set_cons_zero, List.set_cons_succ]
  refine held_one (i := 6) (by kernel_rfl) rfl (by rfl) ?_
  go_simp
  refine FE.out.mono ?_; rintro e w5 ⟨A5, c5, rfl, s5, bl5⟩
  have B5 := Lib.hid (show Below W4.heap.size W4 w5 from ⟨bl5.os, bl5.tape, bl5.output, bl5.size, bl5.block⟩)
  have S5 := Lib.hid s5.toSrc
  have F5 := Lib.hid s5.fresh
  have O5 := Lib.hid (show Off (on lab) A5 (gatherB (txt K.ps) t.l).length from Fresh.off (w := W4.drewN 1) s5.fresh H4.out.all)
  have hS : Hid (w5.cell? ⟨g, 0, none⟩ = some (.pointer (some ⟨a.gt, 0, none⟩)) ∧ Blk w5 w3.heap.size 130 #[.int .i64 (t.env : Int), .slice A t.l.length c]) := Lib.hid ⟨((H4.out.new B5.out).head.cell 0).trans rfl, D4.out.older (older_below B5.out)⟩
  refine ⟨hS, ?_⟩
  clear s5 bl5
  (try simp only [Act.put, List.setIfInBounds_toArray, List.set_cons_zero, List.set_cons_succ])
  refine ht 7 (some 21) (v := ?_) rfl rfl ?_ hS ?_
  rotate_left
  ·intro w' hSw; go_simp <;> with_reducible rfl
  refine ht 8 (some 29) (v := ?_) rfl rfl ?_ hS ?_
  rotate_left
  ·intro w' hSw; go_simp <;> with_reducible rfl
  simp only [Act.put, List.setIfInBounds_toArray, List.set_cons_zero, List.set_cons_succ]
  refine ht 9 (some 30) (v := ?_) rfl rfl ?_ hS ?_
  rotate_left
  ·intro w' hSw; go_simp <;> with_reducible rfl
  refine ht 10 (some 7) (v := ?_) rfl rfl ?_ hS ?_
  rotate_left
  ·intro w' hSw; go_simp <;> with_reducible rfl
  simp only [Act.put, List.setIfInBounds_toArray, List.set_cons_zero, List.set_cons_succ]
  refine ht 11 (some 6) (v := ?_) rfl rfl ?_ hS ?_
  rotate_left
  ·intro w' hSw; go_simp <;> with_reducible rfl
  simp only [Act.put, List.setIfInBounds_toArray, List.set_cons_zero, List.set_cons_succ]
  refine wpAnyH_done (by kernel_rfl) ?_ _
  go_upto_region 7 with fail
  refine wp_region_held_drew (S := fun w' => Hid (w'.cell? ⟨g, 0, none⟩ = some (.pointer (some ⟨a.gt, 0, none⟩)) ∧ Blk w' w3.heap.size 130 #[.int .i64 (t.env : Int), .slice A t.l.length c])) (by kernel_rfl) ((show Hid (w5.drew.cell? ⟨g, 0, none⟩ = some (.pointer (some ⟨a.gt, 0, none⟩)) ∧ Blk w5.drew w3.heap.size 130 #[.int .i64 (t.env : Int), .slice A t.l.length c]) from Lib.hid ⟨((H4.out.new B5.out).head.cell 0).trans rfl, (D4.out.older (older_below B5.out)).drewN 1⟩)) (fun hS => ?_)
  refine ht 0 (some 31) (v := ?_) rfl rfl ?_ hS ?_
  rotate_left
  ·intro w' hSw; go_simp <;> with_reducible rfl
  refine ht 1 (some 32) (v := ?_) rfl rfl ?_ hS ?_
  rotate_left
  ·intro w' hSw; go_simp <;> with_reducible rfl
  simp only [Act.put, List.setIfInBounds_toArray, List.set_cons_zero, List.set_cons_succ]
  refine ht 2 (some 33) (v := ?_) rfl rfl ?_ hS ?_
  rotate_left
  ·intro w' hSw; go_simp <;> with_reducible rfl
  refine ht 3 (some 34) (v := ?_) rfl rfl ?_ hS ?_
  rotate_left
  ·intro w' hSw; have hc := hSw.out.1; clear hSw; go_simp <;> with_reducible rfl
  simp only [Act.put, List.setIfInBounds_toArray, List.set_cons_zero, List.set_cons_succ]
  refine ht 4 (some 35) (v := ?_) rfl rfl ?_ hS ?_
  rotate_left
  ·intro w' hSw; go_simp <;> with_reducible rfl
  refine ht 5 (some 36) (v := ?_) rfl rfl ?_ hS ?_
  rotate_left
  ·intro w' hSw; have hc := (hSw.out.2.cell 1).trans (show _ = some (.slice A t.l.length c) from rfl); clear hSw; go_simp <;> with_reducible rfl
  simp only [Act.put, List.setIfInBounds_toArray, List.set_cons_zero, List.set_cons_succ]
  refine held_one (i := 6) (by kernel_rfl) rfl (by rfl) ?_
  go_simp
  refine (DR.out _ (((H4.out.new B5.out).tab.drewN 1)) ((P4.out.new B5.out).drewN 1)).mono ?_; rintro e w6 ⟨rfl, t6, k6⟩
  have hp6 := ((H4.out.new B5.out).drewN 1).setPs k6 t6
  have H6 := Lib.hid hp6.1
  have L6 := Lib.hid hp6.2
  have D6 := Lib.hid (((D4.out.older (older_below B5.out)).drewN 1).chg k6 HZ.out)
  have hS : Hid (w6.cell? ⟨g, 0, none⟩ = some (.pointer (some ⟨a.gt, 0, none⟩)) ∧ Blk w6 w3.heap.size 130 #[.int .i64 (t.env : Int), .slice A t.l.length c]) := Lib.hid ⟨(H6.out.head.cell 0).trans rfl, D6.out⟩
  refine ⟨hS, ?_⟩
  clear t6 k6 hp6
  (try simp only [Act.put, List.setIfInBounds_toArray, List.set_cons_zero, List.set_cons_succ])
  refine wpAnyH_done (by kernel_rfl) ?_ _
  have c7 := (H6.out.head.cell 7).trans (show _ = some (.int .i64 (K.done : Int)) from rfl)
  have f7 := H6.out.head.frozen 7
  obtain ⟨h7, l7⟩ := H6.out.setDone (K.done + 1)
  obtain ⟨W7, hW7⟩ : ∃ W7, W7 = w6.setCell ⟨g, 7, none⟩ (.int .i64 ((K.done : Int) + 1)) := ⟨_, rfl⟩
  have D7 := Lib.hid (show Blk W7 w3.heap.size 130 #[.int .i64 (t.env : Int), .slice A t.l.length c] by
   rw [hW7]
   exact D6.out.far (p := ⟨g, 7, none⟩) (by have := HGL.out; intro e; have e' : w3.heap.size = g := e; omega) _)
  have d70 := (D7.out.cell 0).trans (show _ = some (.int .i64 (t.env : Int)) from rfl)
  have LL := Lib.hid (show LStep W4 W7 lab lab by
   rw [hW7]
   exact (((LStep.news lab B5.out).trans (LStep.drawn lab 1)).trans L6.out).trans l7)
  have H7 := Lib.hid (show KAt W7 lab g _ _ by rw [hW7]; exact h7)
  have S7 := Lib.hid (show Src W7 A5 (gatherB (txt K.ps) t.l).length c5 (gatherB (txt K.ps) t.l) by
   rw [hW7]
   exact Src.step S5.out (((LStep.drawn lab 1).trans L6.out).trans l7).step O5.out)
  have HW7 := Lib.hid hW7
  clear h7 l7 hW7
  go_upto_region 9 with fail
  rw [show w6.setCell ⟨g, 7, none⟩ (.int .i64 ((K.done : Int) + 1)) = W7 from HW7.out.symm]
  go_wp2_with fail
  go_quiet (fail)
  go_wp2
  refine bodyPost_ret (results_tmp3 rfl _ _ _) rfl ?_
  exact ⟨A5, c5, rfl, ⟨lab, ⟨_, H7.out.drewN _⟩, (L4.out.trans LL.out).trans (LStep.drawn lab _)⟩, S7.out.drewN _, fun h0 b o e => Nat.le_trans L4.out.chg.size (F5.out h0 b o e)⟩
end
end Go.Proofs.YtbkjjakkihbcdaaGreat.Ke

/- The document's kernel beside the program's: any call; what each side's step leaves of the other. Conditions: those that each states. -/
namespace Go.Proofs.YtbkjjakkihbcdaaGreat.Rk
open Go.ChangeShapes Go.WideShapes Go.ChangeAt Go.RowKit Go.Deep Fr Di RE Ke
set_option linter.unusedVariables false
set_option linter.unusedSimpArgs false
section
variable {B g gk : Nat} {w w' : World} {K K' K2 : Kn} {a : RP} {lab lab' : Nat → Nat}
theorem rcall_any (h : RKAt B w g K a) (ok : K.Ok) (sm : K.next ≤ 1000000 ∧ K.f3 + K.out.length ≤ 1000000 ∧ K.dk.line.length < 1000000) (q : KC) (hq : q.In w) (hs : q.s.size ≤ 1000) (pm : q.p.length ≤ 1000000) (lm : q.l.length ≤ 1000000) (gp : Given B q.Ap q.p.length) (gl : Given B q.Al q.l.length) :
  Calls Tryz.prog 10 #[.pointer (some ⟨g, 0, none⟩), .agg #[.int .i64 q.op, .int .i64 q.env, .int .i64 q.a, .int .i64 q.b, .int .i64 q.c, .string q.s, .slice q.Ap q.p.length q.cp, .slice q.Al q.l.length q.cl]] w (RCPost B w g K a (kq q)) := by
 obtain ⟨op, env, qa, qb, qc, s, Ap, cp, p, Al, cl, l⟩ := q
 have wa := hq.a
 have hp := hq.p
 have pok := hq.pok
 have hl := hq.l
 have lok := hq.lok
 unfold kq
 dsimp only at *
 by_cases he : env = 1 ∨ env = 2
 ·by_cases ho : 1 ≤ op ∧ op ≤ 13
  ·rcases (show op = 1 ∨ op = 2 ∨ op = 3 ∨ op = 4 ∨ op = 5 ∨ op = 6 ∨ op = 7 ∨ op = 8 ∨ op = 9 ∨ op = 10 ∨ op = 11 ∨ op = 12 ∨ op = 13 from by omega) with e | e | e | e | e | e | e | e | e | e | e | e | e
   ·subst e; exact rc1 h ok sm env he qa qb qc wa s hs Ap cp p hp pok gp pm Al cl l hl lok gl lm
   ·subst e; exact rc2 h ok sm env he qa qb qc wa s hs Ap cp p hp pok gp pm Al cl l hl lok gl lm
   ·subst e; exact rc3 h ok sm env he qa qb qc wa s hs Ap cp p hp pok gp pm Al cl l hl lok gl lm
   ·subst e; exact rc4 h ok sm env he qa qb qc wa s hs Ap cp p hp pok gp pm Al cl l hl lok gl lm
   ·subst e; exact rc5 h ok sm env he qa qb qc wa s hs Ap cp p hp pok gp pm Al cl l hl lok gl lm
   ·subst e; exact rc6 h ok sm env he qa qb qc wa s hs Ap cp p hp pok gp pm Al cl l hl lok gl lm
   ·subst e; exact rc7 h ok sm env he qa qb qc wa s hs Ap cp p hp pok gp pm Al cl l hl lok gl lm
   ·subst e; exact rc8 h ok sm env he qa qb qc wa s hs Ap cp p hp pok gp pm Al cl l hl lok gl lm
   ·subst e; exact rc9 h ok sm env he qa qb qc wa s hs Ap cp p hp pok gp pm Al cl l hl lok gl lm
   ·subst e; exact rc10 h ok sm env he qa qb qc wa s hs Ap cp p hp pok gp pm Al cl l hl lok gl lm
   ·subst e; exact rc11 h ok sm env he qa qb qc wa s hs Ap cp p hp pok gp pm Al cl l hl lok gl lm
   ·subst e; exact rc12 h ok sm env he qa qb qc wa s hs Ap cp p hp pok gp pm Al cl l hl lok gl lm
   ·subst e; exact rc13 h ok sm env he qa qb qc wa s hs Ap cp p hp pok gp pm Al cl l hl lok gl lm
  ·exact rc_no h op env qa qb qc s Ap cp p Al cl l (by omega)
 ·exact rc_no h op env qa qb qc s Ap cp p Al cl l (by omega)
theorem src_chg0 {A : Option Addr} {n c : Nat} {l : List UInt8} {S : Nat → Prop} (h : Src w A n c l) (k : Chg w w' S) (hn : 0 < n → ∀ b o, A = some ⟨b, o, none⟩ → ¬ S b) : Src w' A n c l := by
 refine ⟨⟨fun hp => ?_, h.len, h.cap, h.max⟩, h.none_⟩
 have h0 : 0 < n := by rw [bys_length] at hp; rw [← h.len]; exact hp
 obtain ⟨b, o, e, hb, hc⟩ := h.lies hp
 refine ⟨b, o, e, Nat.lt_of_lt_of_le hb k.size, fun j hj => ?_⟩
 rw [World.cell?_of_block (w := w) (w' := w') (a := ⟨b, o + j, none⟩) (k.block b hb (hn h0 b o e))]
 exact hc j hj
def Nine (lab : Nat → Nat) (a : RP) (g : Nat) : Prop := ∀ k, a.foot g k → lab k = 9
theorem RKAt.beside (h : RKAt B w g K a) (n : Nine lab a g) (ge : ∀ k, lab k ≠ 0 → B ≤ k) (L : LStep w w' lab lab') : RKAt B w' g K a ∧ Nine lab' a g :=
 ⟨h.chg L.chg (fun i hi => ge i hi.1) (fun i hi hf => by have := n i hf; omega), fun k hk => by rw [L.keep k (by rw [n k hk]; decide)]; exact n k hk⟩
theorem KAt.nine {ad : Ad} (h : KAt w lab gk K ad) (k : Chg w w' (fun i => lab i = 9)) (F : Nat → Prop) (hF : ∀ i, F i → lab i = 9 ∨ w.heap.size ≤ i) (hlt : ∀ i, F i → i < w'.heap.size) (m : Nat → Nat) (m1 : ∀ i, F i → m i = 9) (m0 : ∀ i, ¬ F i → m i = lab i) : KAt w' m gk K ad := by
 obtain ⟨q1, q2, q3, q4, q5, q6, q7, _⟩ := h.keep (m := 9) k (by omega)
 have ne : ∀ i, lab i ≠ 0 → lab i ≠ 9 → ¬ F i := fun i h1 h2 hf => by
  rcases hF i hf with hr | hr
  ·exact h2 hr
  ·have := h.all i h1; omega
 have hs : Step w w' (on lab) (on m) := ⟨k.weak (fun i hi => by show lab i ≠ 0; omega), fun i hi => by
  by_cases e : F i
  ·rcases hF i e with hr | hr
   ·exact .inl (by show lab i ≠ 0; omega)
   ·exact .inr hr
  ·have : m i ≠ 0 := hi
   rw [m0 i e] at this
   exact .inl this⟩
 have h3 : (fun i => m i = 3) = (fun i => lab i = 3) := by
  funext i
  by_cases e : F i
  ·rw [m1 i e]
   rcases hF i e with hr | hr
   ·simp [hr]
   ·have hz : lab i ≠ 3 := fun hh => by have := h.all i (by omega); omega
    simp [hz]
  ·rw [m0 i e]
 have lb : ∀ i n, lab i = n → n ≠ 0 → n ≠ 9 → m i = n := fun i n e h1 h2 => by rw [m0 i (ne i (by omega) (by omega))]; exact e
 exact ⟨q1 (by omega), q2 (by omega), by rw [h3]; exact q3 (by omega), q4 (by omega), h.fil.weak (fun _ _ _ h => h.step hs), q5 (by omega), h.p1.weak (fun _ _ _ h => h.step hs), q6 (by omega), h.p2.weak (fun _ _ _ h => h.step hs), q7 (by omega), h.p3.weak (fun _ _ _ h => h.step hs),
  lb _ _ h.lg (by omega) (by omega), lb _ _ h.lt1 (by omega) (by omega), lb _ _ h.lt2 (by omega) (by omega), fun b hb => lb _ _ (h.lr b hb) (by omega) (by omega), lb _ _ h.l11 (by omega) (by omega), lb _ _ h.l12 (by omega) (by omega), lb _ _ h.l21 (by omega) (by omega), lb _ _ h.l22 (by omega) (by omega), lb _ _ h.l31 (by omega) (by omega), lb _ _ h.l32 (by omega) (by omega), fun i hi => by
   by_cases e : F i
   ·exact hlt i e
   ·rw [m0 i e] at hi
    exact Nat.lt_of_lt_of_le (h.all i hi) k.size⟩
theorem KB.beside (h : KB B w lab gk K) (hB : B ≤ w.heap.size) (n : Nine lab a g) (s : RStep B w w' g K' a) :
  ∃ lab' a', KB B w' lab' gk K ∧ RKAt B w' g K' a' ∧ Nine lab' a' g ∧ Chg w w' (a.foot g) ∧ Below B w w' := by
 classical
 obtain ⟨a', r, k, f⟩ := s
 obtain ⟨ad, ha⟩ := h.ka
 have k9 : Chg w w' (fun i => lab i = 9) := k.weak n
 have hF : ∀ i, a'.foot g i → lab i = 9 ∨ w.heap.size ≤ i := fun i hi => (f i hi).imp (n i) id
 refine ⟨fun i => if a'.foot g i then 9 else lab i, a', ⟨⟨ad, KAt.nine ha k9 (a'.foot g) hF r.lt _ (fun i hi => if_pos hi) (fun i hi => if_neg hi)⟩, fun i => ?_, fun i hi => ?_, h.ok⟩, r, fun i hi => if_pos hi, k, k.below hB (fun i hi => h.ge i (by have := n i hi; omega))⟩
 ·show (if _ then _ else _) ≠ 8
  split
  ·omega
  ·exact h.n8 i
 ·split at hi
  ·rename_i e
   exact r.far i e
  ·exact h.ge i hi
theorem KB.besideNew (h : KB B w lab gk K) (r : RKAt w.heap.size w' g K' a) (hf : K'.fs = []) (ho : K'.out = []) (hB : B ≤ w.heap.size) (k : Below w.heap.size w w') : ∃ lab', KB B w' lab' gk K ∧ RKAt B w' g K' a ∧ Nine lab' a g := by
 classical
 obtain ⟨ad, ha⟩ := h.ka
 have hF : ∀ i, a.foot g i → lab i = 9 ∨ w.heap.size ≤ i := fun i hi => .inr (r.far i hi)
 have nf : ∀ x, x ∈ a.fx → False := fun x hx => by have e := r.fx; rw [hf, List.map_eq_nil_iff] at e; rw [e] at hx; cases hx
 have no : ∀ x, x ∈ a.ox → False := fun x hx => by have e := r.ox; rw [ho, List.map_eq_nil_iff] at e; rw [e] at hx; cases hx
 refine ⟨fun i => if a.foot g i then 9 else lab i, ⟨⟨ad, KAt.nine ha (Chg.of_new k _) (a.foot g) hF r.lt _ (fun i hi => if_pos hi) (fun i hi => if_neg hi)⟩, fun i => ?_, fun i hi => ?_, h.ok⟩,
  ⟨r.head, r.tab, r.dsk, r.fx, r.fil, fun x hx => ⟨(r.fp x hx).1, fun y e hl => (nf x hx).elim⟩, r.in1, r.in2, r.ox, r.out, fun x hx => ⟨(r.op x hx).1, fun y e hl => (no x hx).elim⟩, fun i hi => Nat.le_trans hB (r.far i hi), r.lt, r.gt, r.gd, r.gr, r.td, r.tr, r.dr⟩, fun i hi => if_pos hi⟩
 ·show (if _ then _ else _) ≠ 8
  split
  ·omega
  ·exact h.n8 i
 ·split at hi
  ·rename_i e
   exact Nat.le_trans hB (r.far i e)
  ·exact h.ge i hi
theorem given_prg {A : Option Addr} {p : List Ins} (h : Prg w A p) (hB : w.heap.size ≤ B) : Given B A p.length := fun y e hl => by
 obtain ⟨b, o, e2, hb, _⟩ := h 0 hl
 rw [e2] at e
 cases e
 exact Nat.lt_of_lt_of_le hb hB
theorem given_pcs {A : Option Addr} {l : List Pc} (h : Pcs w A l) (hB : w.heap.size ≤ B) : Given B A l.length := fun y e hl => by
 obtain ⟨b, o, e2, hb, _⟩ := h 0 hl
 rw [e2] at e
 cases e
 exact Nat.lt_of_lt_of_le hb hB
theorem kdisk_any {ad : Ad} (h : KAt w lab gk K ad) : Calls Tryz.prog 17 #[.pointer (some ⟨gk, 0, none⟩)] w fun e w' => e = .returned (.pointer (some ⟨ad.gd, 0, none⟩)) ∧ w' = w := by
 have c0 := (h.head.cell 1).trans (show _ = some (.pointer (some ⟨ad.gd, 0, none⟩)) from rfl)
 clear h
 go_enter Tryz.func17, Tryz.ntmps17
 go_wp2
 go_ret
 exact ⟨rfl, rfl⟩
theorem kwaits_any {ad : Ad} (h : KAt w lab gk K ad) : Calls Tryz.prog 18 #[.pointer (some ⟨ad.gd, 0, none⟩)] w fun e w' => e = .returned (.int .i64 (K.dk.line.length : Int)) ∧ w' = w := by
 obtain ⟨gb, Al, cl, Ae, ce, d, _⟩ := h.dk
 exact waits_any d
end
end Go.Proofs.YtbkjjakkihbcdaaGreat.Rk

/- Does a table show what the document's does? (where FreeCount stands whole) Conditions: those that each states. -/
namespace Go.Proofs.YtbkjjakkihbcdaaGreat.Fr
open Go.ChangeShapes Go.WideShapes Go.ChangeAt Go.RowKit Go.Deep
set_option linter.unusedVariables false
section
variable {gs g : Nat} {ps : List Pg} {w : World}
set_option maxRecDepth 100000 in
theorem freeCountZ_any (h : Tab w gs g ps) :
  Calls Tryz.prog 55 #[.pointer (some ⟨g, 0, none⟩)] w fun e w' => e = .returned (.int .i64 (freeN ps : Int)) ∧ w' = w := by
 have c0 := head_cell h
 have n2 := h.n2
 have SZ := Lib.hid (size_any h)
 have OW := Lib.hid (fun k (hk : k < ps.length) => h.owner hk)
 have hstep : ∀ j, (hj : j < ps.length) → freeN (ps.take (j + 1)) = freeN (ps.take j) + (if ps[j].owner = 0 then 1 else 0) := by
  intro j hj
  unfold freeN
  rw [List.take_succ_eq_append_getElem hj, List.filter_append, List.length_append]
  by_cases e : ps[j].owner = 0 <;> simp [e]
 have HST := Lib.hid hstep
 have hle : ∀ j, freeN (ps.take j) ≤ j := fun j => Nat.le_trans (List.length_filter_le _ _) (List.length_take_le _ _)
 have HLE := Lib.hid hle
 clear h hstep hle
 go_enter Tryz.func55, Tryz.ntmps55
 go_wp2_with fail
 refine SZ.out.mono ?_; rintro e w1 ⟨rfl, rfl⟩
 go_wp2
 go_loopw [3, 7] (fun c i wr => ∃ (j : Nat), j ≤ ps.length ∧ c = .int .i64 (freeN (ps.take j) : Int) ∧ i = .int .i64 (j : Int) ∧ wr = w1) (fun _ i _ => ps.length - (intOf i).toNat)
 case atStart => exact ⟨0, Nat.zero_le _, rfl, rfl, rfl⟩
 case round =>
  obtain ⟨j, hj, rfl, rfl, rfl⟩ := hrel
  have hc := HLE.out j
  by_cases hlt : j < ps.length
  ·have hlt' : (j : Int) < (ps.length : Int) := by omega
   have j0 : (0 : Int) ≤ (j : Int) := by omega
   have c1 := OW.out j hlt
   have hs := HST.out j hlt
   have x0 := IntWalk.i64_in ((freeN (ps.take j) : Int) + 1) (by omega)
   have x1 := IntWalk.i64_in ((j : Int) + 1) (by omega)
   by_cases ho : ps[j].owner = 0
   ·rw [if_pos ho] at hs
    have HS := Lib.hid hs
    rw [ho] at c1
    clear hs
    generalize freeN (ps.take j) = q at *
    go_wp2
    go_roundw
    case rel => exact ⟨j + 1, by omega, by rw [HS.out]; simp, by simp, by first | rfl | trivial⟩
    case measure => simp [intOf]; omega
   ·rw [if_neg ho] at hs
    have HS := Lib.hid hs
    have ho' : ((ps[j].owner : Int) == 0) = false := by simpa using ho
    clear hs
    generalize freeN (ps.take j) = q at *
    generalize (ps[j].owner : Int) = v at *
    clear ho
    go_wp2
    go_roundw
    case rel => exact ⟨j + 1, by omega, by rw [HS.out]; simp, by simp, by first | rfl | trivial⟩
    case measure => simp [intOf]; omega
  ·have hge : ¬ (j : Int) < (ps.length : Int) := by omega
   obtain rfl : j = ps.length := by omega
   rw [List.take_length]
   go_wp2
   go_ret
   exact ⟨rfl, rfl⟩

end
end Go.Proofs.YtbkjjakkihbcdaaGreat.Fr
namespace Go.Proofs.YtbkjjakkihbcdaaGreat
open Go.ChangeShapes Go.WideShapes Go.ChangeAt Go.RowKit Go.Deep Fr
set_option maxRecDepth 100000 in
set_option maxHeartbeats 4000000 in
theorem showsZ_any {gs g gm bo bh bb co ch cb : Nat} {ps : List Pg} {w : World} (hT : Tab w gs g ps) (hR : RefT w gm bo bh bb co ch cb ps) :
  Calls Tryz.prog 15 #[.pointer (some ⟨g, 0, none⟩), .pointer (some ⟨gm, 0, none⟩)] w fun e w' => e = .returned (.bool true) ∧ Below w.heap.size w w' := by
 have T := Lib.hid hT
 have R := Lib.hid hR
 have c0 := hR.heads.1
 have hlen := hR.len
 have SZ := Lib.hid (fun k => Fr.size_any (hT.drewN k))
 have FC := Lib.hid (fun k => freeCountZ_any (hT.drewN k))
 have RFC := Lib.hid (fun k => rfreeCount_any (hR.drewN k))
 clear hT hR
 go_enter Tryz.func15, Tryz.ntmps15
 go_wp2_with fail
 go_quiet (first
  | (go_at_call 54; exact Calls.quiet_of_same (SZ.out _))
  | (go_at_call 55; exact Calls.quiet_of_same (FC.out _))
  | (go_at_call 56; exact Calls.quiet_of_same (RFC.out _)))
 generalize nq = nq1 at *
 clear SZ FC RFC
 go_wp2
 go_loopw [5] (fun i wr => ∃ (j : Nat), j ≤ ps.length ∧ i = .int .i64 (j : Int) ∧ Below w.heap.size w wr) (fun i _ => ps.length - (intOf i).toNat)
 case atStart => exact ⟨0, Nat.zero_le _, rfl, below_drewN (Below.refl _ w) _⟩
 case round =>
  clear c0
  obtain ⟨j, hj, rfl, hbel⟩ := hrel
  have HB := Lib.hid hbel
  have T1 := Lib.hid (T.out.new hbel)
  have R1 := Lib.hid (R.out.new hbel)
  obtain ⟨c0, c1, c2⟩ := R1.out.heads
  have OW := Lib.hid (fun k f => owner_any (T1.out.drewN k) f)
  have HO := Lib.hid (fun k f => holds_any (T1.out.drewN k) f)
  clear hbel
  by_cases hlt : j < ps.length
  ·have hlt' : (j : Int) < (ps.length : Int) := by omega
   have j0 : (0 : Int) ≤ (j : Int) := by omega
   have o1 := R1.out.ownC hlt
   have h1 := R1.out.holdC hlt
   have v1 := ownerV_at (ps := ps) hlt
   have v2 := holdsV_at (ps := ps) hlt
   have xj := IntWalk.i64_in ((j : Int) + 1) (by omega)
   have oko := R1.out.at_ hlt
   have rda : ps[j].owner ≠ 0 → _ := read_all hlt oko.t oko.o
   have RDA := Lib.hid rda
   have RD := Lib.hid (fun k => read_any (T1.out.drewN k) (ps[j].owner : Int) (j : Int) 0 256 (by omega))
   have TL := Lib.hid oko.t
   have TXC := Lib.hid (fun (W : World) (hb : Below w.heap.size w W) => (R.out.new hb).textC hlt)
   clear rda oko
   by_cases ho : ps[j].owner = 0
   ·rw [ho] at o1 v1
    clear RD RDA TL TXC
    generalize (ps[j].holds : Int) = hv at *
    go_wp2_with fail
    go_quiet (first
     | (go_at_call 57; exact Calls.quiet_of_same (OW.out _ _))
     | (go_at_call 58; exact Calls.quiet_of_same (HO.out _ _)))
    go_wp2
    go_roundw
    case rel => exact ⟨j + 1, by omega, by simp, below_drewN HB.out _⟩
    case measure => simp [intOf]; omega
   ·have ho' : ((ps[j].owner : Int) == 0) = false := by simpa using ho
    have hrd := RDA.out ho
    rw [hrd, TL.out] at RD
    clear hrd RDA TL ho
    generalize (ps[j].holds : Int) = hv at *
    generalize (ps[j].owner : Int) = ov at *
    go_wp2_with fail
    go_quiet (first
     | (go_at_call 57; exact Calls.quiet_of_same (OW.out _ _))
     | (go_at_call 58; exact Calls.quiet_of_same (HO.out _ _)))
    generalize nq = nq2 at *
    go_wp2_with fail
    refine (RD.out _).mono ?_; rintro e w3 ⟨A', c', rfl, s3, b3⟩
    have tl := fun k => told_str (s3.drewN k)
    have B3 := Lib.hid ((below_drewN HB.out nq2).trans (b3.mono HB.out.size))
    have c2' := (R.out.new B3.out).heads.2.2
    have tx := TXC.out _ B3.out
    generalize ps[j].text.toArray = pt at *
    clear s3 b3 c0 c1 c2 o1 h1 v1 v2
    go_wp2_with fail
    go_quiet (fail)
    go_wp2
    go_roundw
    case rel => exact ⟨j + 1, by omega, by simp, below_drewN B3.out _⟩
    case measure => simp [intOf]; omega
  ·have hge : ¬ (j : Int) < (ps.length : Int) := by omega
   have v1 := ownerV_neg (ps := ps)
   have v2 := holdsV_neg (ps := ps)
   have v3 := ownerV_len (ps := ps)
   go_wp2_with fail
   go_quiet (first
    | (go_at_call 57; exact Calls.quiet_of_same (OW.out _ _))
    | (go_at_call 58; exact Calls.quiet_of_same (HO.out _ _)))
   go_wp2
   go_ret
   exact ⟨rfl, below_drewN HB.out _⟩
end Go.Proofs.YtbkjjakkihbcdaaGreat
