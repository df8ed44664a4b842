/- The document's kernel: Call, a list is sent. Conditions: those that each states. -/
import Derived.Test.YtbkjjakkihbcdaaGreatMAS
namespace Go.Proofs.YtbkjjakkihbcdaaGreat.Rk
open Go.ChangeShapes Go.WideShapes Go.ChangeAt Go.RowKit Go.Deep Fr Di RE Ke
set_option linter.unusedVariables false
set_option linter.unusedSimpArgs false
section
variable {B g : Nat} {w : World} {K : Kn} {a : RP}
end
theorem tr_info : ∃ i0 z, Tryz.prog.info? 121 = some i0 ∧ i0.zero = some z ∧ z.cells.size = 2 ∧ i0.size = 2 ∧ i0.bytes = 32 := by
 obtain ⟨i, hi, hs⟩ := Option.map_eq_some_iff.1 (show (Tryz.prog.info? 121).map (fun i => (i.zero.map (·.cells.size), i.size, i.bytes)) = some (some 2, 2, 32) by kernel_rfl)
 simp only [Prod.mk.injEq] at hs
 obtain ⟨h0, h1, h2⟩ := hs
 obtain ⟨z, hz, hzs⟩ := Option.map_eq_some_iff.1 h0
 exact ⟨i, z, hi, hz, hzs, h1, h2⟩
theorem one_tr_info (l : List (Tr × Option Addr × Nat)) : ∀ u ∈ trsC l, u.oneCell' = true := by
 intro u hu
 unfold trsC at hu
 rw [List.mem_flatten] at hu
 obtain ⟨r, hr, hu⟩ := hu
 obtain ⟨q, _, rfl⟩ := List.mem_map.1 hr
 unfold trC at hu
 simp only [List.mem_cons, List.not_mem_nil, or_false] at hu
 rcases hu with rfl | rfl <;> rfl
theorem one_tr_info1 (q : Tr × Option Addr × Nat) : ∀ u ∈ trC q, u.oneCell' = true := by
 intro u hu
 unfold trC at hu
 simp only [List.mem_cons, List.not_mem_nil, or_false] at hu
 rcases hu with rfl | rfl <;> rfl
section
variable {B g : Nat} {w : World} {K : Kn} {a : RP}
set_option maxRecDepth 100000 in
set_option maxHeartbeats 4000000 in
theorem rc11 (h : RKAt B w g K a) (ok : K.Ok) (sm : K.next ≤ 1000000 ∧ K.f3 + K.out.length ≤ 1000000 ∧ K.dk.line.length < 1000000) (env : Int) (he : env = 1 ∨ env = 2) (qa qb qc : Int) (wa : -9223372036854775808 ≤ qa ∧ qa ≤ 9223372036854775807) (s : ByteArray) (hs : s.size ≤ 1000) (Ap : Option Addr) (cp : Nat) (p : List Ins) (hp : Prg w Ap p) (pok : ∀ x ∈ p, x.Ok) (gp : Given B Ap p.length) (pm : p.length ≤ 1000000) (Al : Option Addr) (cl : Nat) (l : List Pc) (hl : Pcs w Al l) (lok : ∀ x ∈ l, x.Ok) (gl : Given B Al l.length) (lm : l.length ≤ 1000000) :
  Calls Tryz.prog 10 #[.pointer (some ⟨g, 0, none⟩), .agg #[.int .i64 11, .int .i64 env, .int .i64 qa, .int .i64 qb, .int .i64 qc, .string s, .slice Ap p.length cp, .slice Al l.length cl]] w (RCPost B w g K a ⟨11, env, qa, qb, qc, s.data.toList, p, l⟩) := by
 have g1 : ¬ env < 1 := by omega
 have g2 : ¬ env > 2 := by omega
 have X1 := Lib.hid (Blk.new w 34 #[.int .i64 11, .int .i64 env, .int .i64 qa, .int .i64 qb, .int .i64 qc, .string s, .slice Ap p.length cp, .slice Al l.length cl])
 have b1 : Below w.heap.size w (w.alloc (.cells #[.int .i64 11, .int .i64 env, .int .i64 qa, .int .i64 qb, .int .i64 qc, .string s, .slice Ap p.length cp, .slice Al l.length cl] 34)) := (Below.refl _ w).alloc (Nat.le_refl _) _
 have B1 := Lib.hid b1
 have H1 := Lib.hid (h.new b1)
 have HP := Lib.hid (hp.new b1)
 have HL := Lib.hid (hl.new b1)
 have NQ := Lib.hid (show ¬ a.foot g w.heap.size from fun e => absurd (h.lt _ e) (Nat.lt_irrefl _))
 have HM := Lib.hid (show ∀ x ∈ K.ps, x.holds ≤ 256 from fun x hx => by
  obtain ⟨k, hk, rfl⟩ := List.mem_iff_getElem.1 hx
  rw [ok.holds k hk]
  have := heldN_le ok.out (k : Int)
  have := ok.no
  omega)
 have OK := Lib.hid ok
 have SM := Lib.hid sm
 have HE := Lib.hid he
 have POK := Lib.hid pok
 have LOK := Lib.hid lok
 have GP := Lib.hid gp
 have GL := Lib.hid gl
 clear h ok sm hp hl pok lok gp gl he
 go_enter Tryz.func10, Tryz.ntmps10
 go_upto_region 1 with fail
 generalize w.alloc (.cells #[.int .i64 11, .int .i64 env, .int .i64 qa, .int .i64 qb, .int .i64 qc, .string s, .slice Ap p.length cp, .slice Al l.length cl] 34) = W1 at *
 have q0 := (X1.out.cell 0).trans (show _ = some (.int .i64 11) from rfl)
 have q1 := (X1.out.cell 1).trans (show _ = some (.int .i64 env) from rfl)
 have q2 := (X1.out.cell 2).trans (show _ = some (.int .i64 qa) from rfl)
 have q3 := (X1.out.cell 3).trans (show _ = some (.int .i64 qb) from rfl)
 have q4 := (X1.out.cell 4).trans (show _ = some (.int .i64 qc) from rfl)
 have q5 := (X1.out.cell 5).trans (show _ = some (.string s) from rfl)
 have q6 := (X1.out.cell 6).trans (show _ = some (.slice Ap p.length cp) from rfl)
 have q7 := (X1.out.cell 7).trans (show _ = some (.slice Al l.length cl) from rfl)
 have Q0 := Lib.hid q0
 have Q1 := Lib.hid q1
 have Q2 := Lib.hid q2
 have Q3 := Lib.hid q3
 have Q4 := Lib.hid q4
 have Q5 := Lib.hid q5
 have Q6 := Lib.hid q6
 have Q7 := Lib.hid q7
 clear b1
 obtain ⟨ev, hev⟩ : ∃ ev : Nat, env = (ev : Int) := ⟨env.toNat, by have := HE.out; omega⟩
 subst hev
 have c7 := H1.out.heads.2.2.2.2.2.2.1
 have ST0 := Lib.hid ((H1.out.same (Below.refl _ _)).first B1.out)
 by_cases hf : (K.out.length : Int) ≥ 16
 ·have er : callR K ⟨11, ev, qa, qb, qc, s.data.toList, p, l⟩ = (K, 0, [], 10) := by
   rw [callR_11 K ev HE.out]
   unfold submitR
   rw [if_pos (by omega)]
  have ER := Lib.hid er
  clear er
  go_wp2
  go_ret3
  exact rcpost_of ER.out ST0.out
 have hf8 : ¬ 16 ≤ K.out.length := by omega
 have C0 := Lib.hid H1.out.heads.1
 have GLT := Lib.hid (H1.out.lt g (.inl rfl))
 have HGT := Lib.hid (show ∀ b o, Al = some ⟨b, o, none⟩ → 0 < l.length → b < a.gt from fun b o e hl => Nat.lt_of_lt_of_le (GL.out _ e hl) (H1.out.far _ (.inr (.inl (.inl rfl)))))
 go_upto_region 42 with fail
 clear q0 q1 q2 q3 q4 q5 q6 q7 c7
 refine wp_region_held_drew (S := fun w' => Hid (Chg W1 w' a.tabB)) (by kernel_rfl) (Lib.hid ((Chg.refl W1 a.tabB).drew)) (fun hS => ?_)
 refine ht 0 (some 274) (v := ?_) rfl rfl ?_ hS ?_
 rotate_left
 ·intro w' hSw; go_simp <;> with_reducible rfl
 refine ht 1 (some 275) (v := ?_) rfl rfl ?_ hS ?_
 rotate_left
 ·intro w' hSw; go_simp <;> with_reducible rfl
 simp only [Act.put, List.setIfInBounds_toArray, List.set_cons_zero, List.set_cons_succ]
 refine ht 2 (some 276) (v := ?_) rfl rfl ?_ hS ?_
 rotate_left
 ·intro w' hSw; go_simp <;> with_reducible rfl
 refine ht 3 (some 277) (v := ?_) rfl rfl ?_ hS ?_
 rotate_left
 ·intro w' hSw; have kb := hSw.out; clear hSw; have z := (chg_cell (p := ⟨g, 0, none⟩) kb GLT.out H1.out.gt).trans C0.out; clear kb; go_simp <;> with_reducible rfl
 simp only [Act.put, List.setIfInBounds_toArray, List.set_cons_zero, List.set_cons_succ]
 refine ht 4 (some 278) (v := ?_) rfl rfl ?_ hS ?_
 rotate_left
 ·intro w' hSw; go_simp <;> with_reducible rfl
 refine ht 5 (some 279) (v := ?_) rfl rfl ?_ hS ?_
 rotate_left
 ·intro w' hSw; have kb := hSw.out; clear hSw; have z := (chg_cell (p := ⟨w.heap.size, 1, none⟩) kb X1.out.lt (fun e => NQ.out (.inr (.inl e)))).trans Q1.out; clear kb; go_simp <;> with_reducible rfl
 simp only [Act.put, List.setIfInBounds_toArray, List.set_cons_zero, List.set_cons_succ]
 refine ht 6 (some 280) (v := ?_) rfl rfl ?_ hS ?_
 rotate_left
 ·intro w' hSw; go_simp <;> with_reducible rfl
 refine ht 7 (some 281) (v := ?_) rfl rfl ?_ hS ?_
 rotate_left
 ·intro w' hSw; have kb := hSw.out; clear hSw; have z := (chg_cell (p := ⟨w.heap.size, 7, none⟩) kb X1.out.lt (fun e => NQ.out (.inr (.inl e)))).trans Q7.out; clear kb; go_simp <;> with_reducible rfl
 simp only [Act.put, List.setIfInBounds_toArray, List.set_cons_zero, List.set_cons_succ]
 refine held_one (i := 8) (by kernel_rfl) rfl (by rfl) ?_
 go_simp
 refine (ghold_any (H1.out.tab.drewN 1) (ev : Int) Al cl l (pcs_chg HL.out (Chg.refl W1 (fun _ => False)).drew (fun _ _ _ h => h)) LOK.out HGT.out (fun x hx => by have := HM.out x hx; omega) lm).mono ?_; rintro e wk ⟨rfl, t4, k4⟩
 have hS : Hid (Chg W1 wk a.tabB) := Lib.hid ((Chg.refl W1 a.tabB).drew.trans (k4.weak (fun i e => .inr (.inr (.inl e)))))
 have td := Lib.hid t4
 have kd := Lib.hid hS.out
 refine ⟨hS, ?_⟩
 clear t4 k4
 (try simp only [Act.put, List.setIfInBounds_toArray, List.set_cons_zero, List.set_cons_succ])
 refine ht 9 (some 14) (v := ?_) rfl rfl ?_ hS ?_
 rotate_left
 ·intro w' hSw; go_simp <;> with_reducible rfl
 simp only [Act.put, List.setIfInBounds_toArray, List.set_cons_zero, List.set_cons_succ]
 refine wpAnyH_done (by kernel_rfl) ?_ _
 obtain ⟨hr, hh⟩ : ∃ hr, holdG K.ps (ev : Int) l = hr := ⟨_, rfl⟩
 rw [hh] at td ⊢
 obtain ⟨hps, hE⟩ := hr
 have HH := Lib.hid hh
 clear hh hS
 dsimp only at td ⊢
 by_cases hz : hE = 0
 ·subst hz
  have er : callR K ⟨11, ev, qa, qb, qc, s.data.toList, p, l⟩ = ({ K with ps := hps, out := K.out ++ [⟨ev, l⟩] }, (K.f3 : Int) + (K.out.length : Int), [], 0) := by
   rw [callR_11 K ev HE.out]
   unfold submitR
   rw [if_neg hf8, HH.out, if_pos rfl, Int.toNat_natCast]
  have ER := Lib.hid er
  clear er
  obtain ⟨b, hb, qb', fb⟩ := H1.out.setTab td.out kd.out (fun i e => e)
  have HC := Lib.hid hb
  have QB := Lib.hid qb'
  have FB := Lib.hid fb
  have XLT := Lib.hid X1.out.lt
  have XC := Lib.hid (X1.out.chg kd.out (fun e => NQ.out (.inr (.inl e))))
  have PL := Lib.hid (pcs_chg HL.out kd.out (fun y e hl h => by have h1 := GL.out y e hl; have h2 := H1.out.far _ (.inr (.inl h)); omega))
  clear hb qb' fb td kd
  have CI := Lib.hid HC.out.heads.2.2.2.2.2.2.1
  have CE := Lib.hid ((XC.out.cell 1).trans (show _ = some (.int .i64 (ev : Int)) from rfl))
  have CP := Lib.hid ((XC.out.cell 7).trans (show _ = some (.slice Al l.length cl) from rfl))
  have FI := Lib.hid (HC.out.head.frozen 7)
  have HGL := Lib.hid (HC.out.lt g (.inl rfl))
  have HXL := Lib.hid XC.out.lt
  have HD := Lib.hid HC.out.head
  have RO := Lib.hid (show RowG wk 2 b.Ao K.out.length b.cO (trsC b.ox) from HC.out.out)
  have CI : Hid (wk.cell? ⟨g, 7, none⟩ = some (.slice b.Ao K.out.length b.cO)) := CI
  have hi16 : K.out.length < 16 := by omega
  obtain ⟨iw, zw, hi, hz, hzc, hs2, hby⟩ := tr_info
  have INF := Lib.hid (And.intro hi (And.intro hz (And.intro hzc (And.intro hs2 hby))))
  clear hi hz hzc hs2 hby
  have BD := Lib.hid (show ∀ W' : World, (Instr.build 121 #[(0, .int .i64 (ev : Int)), (1, .slice Al l.length cl)]).run Tryz.prog W' = .ok (.agg #[.int .i64 (ev : Int), .slice Al l.length cl]) W' from fun W' => by go_simp)
  have LF := Lib.hid (show ∀ W' : World, Below wk.heap.size wk W' → (Instr.loadAt 65 (.pointer (some ⟨g, 7, none⟩))).run Tryz.prog W' = .ok (.slice b.Ao K.out.length b.cO) W' from fun W' h => by have := (h.cell (p := ⟨g, 7, none⟩) HGL.out).trans CI.out; go_simp)
  have LE := Lib.hid (show ∀ W' : World, Below wk.heap.size wk W' → (Instr.loadAt 3 (.pointer (some ⟨w.heap.size, 1, none⟩))).run Tryz.prog W' = .ok (.int .i64 (ev : Int)) W' from fun W' h => by have := (h.cell (p := ⟨w.heap.size, 1, none⟩) HXL.out).trans CE.out; go_simp)
  have LP := Lib.hid (show ∀ W' : World, Below wk.heap.size wk W' → (Instr.loadAt 32 (.pointer (some ⟨w.heap.size, 7, none⟩))).run Tryz.prog W' = .ok (.slice Al l.length cl) W' from fun W' h => by have := (h.cell (p := ⟨w.heap.size, 7, none⟩) HXL.out).trans CP.out; go_simp)
  go_upto_region 45 with fail
  go_cut [] (fun wx => ∃ gF cF, Hid (Chg wk wx (fun k => k = g) ∧ Blk wx g 67 ((headC { K with ps := hps } b).set! 7 (.slice (some ⟨gF, 0, none⟩) (K.out.length + 1) cF)) ∧ RowG wx 2 (some ⟨gF, 0, none⟩) (K.out.length + 1) cF (trsC b.ox ++ trC (⟨ev, l⟩, Al, cl)) ∧ wk.heap.size ≤ gF ∧ gF < wx.heap.size))
  case first =>
   have hb0 : Below wk.heap.size wk (wk).drew := ⟨rfl, rfl, rfl, Nat.le_refl _, fun _ _ => rfl⟩
   have BS0 := Lib.hid (show ∀ W' : World, (Instr.buildSlice 65 0 #[]).run Tryz.prog W' = .ok (.slice (some ⟨W'.heap.size, 0, none⟩) 0 0) (W'.alloc (.cells #[] 121)) from fun W' => by go_simp)
   have BS1 := Lib.hid (show ∀ W' : World, (Instr.buildSlice 65 1 #[(0, (.agg #[.int .i64 (ev : Int), .slice Al l.length cl]))]).run Tryz.prog W' = .ok (.slice (some ⟨W'.heap.size, 0, none⟩) 1 1) (W'.alloc (.cells #[.int .i64 (ev : Int), .slice Al l.length cl] 121)) from fun W' => by go_simp)
   refine wp_head_held (S := Below wk.heap.size wk) 16 (by kernel_rfl) rfl rfl (by kernel_rfl) ?_
   simp only [List.take_succ_cons, List.take_zero, List.drop_succ_cons, List.drop_zero]
   refine ht 0 (some 286) (v := .pointer (some ⟨g, 0, none⟩)) rfl rfl (fun w _ => by go_simp) hb0 ?_
   refine ht 2 (some 288) (v := .pointer (some ⟨g, 0, none⟩)) rfl rfl (fun w _ => by go_simp) hb0 ?_
   simp only [Act.put, List.setIfInBounds_toArray, List.set_cons_zero, List.set_cons_succ]
   refine ht 3 (some 289) (v := .pointer (some ⟨g, 0, none⟩)) rfl rfl (fun w _ => by go_simp) hb0 ?_
   refine ht 4 (some 290) (v := .pointer (some ⟨g, 7, none⟩)) rfl rfl (fun w _ => by go_simp) hb0 ?_
   simp only [Act.put, List.setIfInBounds_toArray, List.set_cons_zero, List.set_cons_succ]
   refine ht 5 (some 291) (v := .slice b.Ao K.out.length b.cO) rfl rfl (fun w' hw => exec_load (y := .pointer (some ⟨g, 7, none⟩)) rfl rfl (LF.out w' hw)) hb0 ?_
   refine ht 7 (some 293) (v := .pointer (some ⟨w.heap.size, 1, none⟩)) rfl rfl (fun w _ => by go_simp) hb0 ?_
   simp only [Act.put, List.setIfInBounds_toArray, List.set_cons_zero, List.set_cons_succ]
   refine ht 8 (some 294) (v := .int .i64 (ev : Int)) rfl rfl (fun w' hw => exec_load (y := .pointer (some ⟨w.heap.size, 1, none⟩)) rfl rfl (LE.out w' hw)) hb0 ?_
   refine ht 9 (some 295) (v := .pointer (some ⟨w.heap.size, 7, none⟩)) rfl rfl (fun w _ => by go_simp) hb0 ?_
   simp only [Act.put, List.setIfInBounds_toArray, List.set_cons_zero, List.set_cons_succ]
   refine ht 10 (some 296) (v := .slice Al l.length cl) rfl rfl (fun w' hw => exec_load (y := .pointer (some ⟨w.heap.size, 7, none⟩)) rfl rfl (LP.out w' hw)) hb0 ?_
   refine ht 11 (some 297) (v := (.agg #[.int .i64 (ev : Int), .slice Al l.length cl])) rfl rfl (fun w' _ => exec_build' (ps := #[(0, .int .i64 (ev : Int)), (1, .slice Al l.length cl)]) rfl (by go_simp) BD.out w') hb0 ?_
   simp only [Act.put, List.setIfInBounds_toArray, List.set_cons_zero, List.set_cons_succ]
   refine held_two (i := 1) (j := 12) (by kernel_rfl) rfl rfl (by rfl) (by rfl) ?_ ?_
   ·have hb1 : Below wk.heap.size wk (((wk).drew).alloc (.cells #[] 121)) := hb0.alloc hb0.size _
    have r1 : ((((wk).drew).alloc (.cells #[] 121))).ownsRow wk.heap.size 121 2 (.slice (some ⟨((wk).drew).heap.size, 0, none⟩) 0 0) 0 [] := World.ownsRow_lit ((wk).drew) #[] 0 hb0.size (by decide) rfl
    refine wp_slice_d (d := some 287) (ps := #[]) rfl rfl (by go_simp) (BS0.out _) ?_
    refine ⟨hb1, ?_⟩
    simp only [Act.put, List.setIfInBounds_toArray, List.set_cons_zero, List.set_cons_succ]
    refine held_two (i := 6) (j := 12) (by kernel_rfl) rfl rfl (by rfl) (by rfl) ?_ ?_
    ·refine wp_append_G (d := some 292) rfl (.tmp 287) (.tmp 291) 65 rfl wk.heap.size 121 iw zw 2 32 Tryz.underlying65 INF.out.1 INF.out.2.1 INF.out.2.2.2.1 INF.out.2.2.2.2 INF.out.2.2.1 (by decide) _ 0 [] rfl r1 b.Ao (K.out.length) b.cO (trsC b.ox) rfl (RowG.new RO.out hb1) (one_tr_info _) (by unfold maxLen; omega) (by omega) hb1.size ?_
     intro v1 w_2 ho2 hg2 hat2
     rw [Nat.zero_add, List.nil_append] at ho2
     have hb2 : Below wk.heap.size wk w_2 := hb1.grown hg2 hb1.size (fun k e => (r1.lt k e).1)
     refine ⟨hb2, ?_⟩
     simp only [Act.put, List.setIfInBounds_toArray, List.set_cons_zero, List.set_cons_succ]
     refine held_one (i := 12) (by kernel_rfl) rfl (by rfl) ?_
     have hb3 : Below wk.heap.size wk ((w_2).alloc (.cells #[.int .i64 (ev : Int), .slice Al l.length cl] 121)) := hb2.alloc hb2.size _
     have n3 : Blk ((w_2).alloc (.cells #[.int .i64 (ev : Int), .slice Al l.length cl] 121)) (w_2).heap.size 121 #[.int .i64 (ev : Int), .slice Al l.length cl] := Blk.new (w_2) 121 _
     refine wp_slice_d (d := some 298) (ps := #[(0, (.agg #[.int .i64 (ev : Int), .slice Al l.length cl]))]) rfl rfl (by go_simp) (BS1.out _) ?_
     refine ⟨hb3, ?_⟩
     simp only [Act.put, List.setIfInBounds_toArray, List.set_cons_zero, List.set_cons_succ]
     refine held_one (i := 13) (by kernel_rfl) rfl (by rfl) ?_
     refine wp_append_d (d := some 299) rfl (.tmp 292) (.tmp 298) 65 rfl wk.heap.size 121 iw zw 2 32 Tryz.underlying65 INF.out.1 INF.out.2.1 INF.out.2.2.2.1 INF.out.2.2.2.2 INF.out.2.2.1 (by decide) v1 (K.out.length) (trsC b.ox) rfl (ho2.alloc _) ⟨w_2.heap.size, 0, none⟩ 1 1 (trC (⟨ev, l⟩, Al, cl)) rfl rfl (World.news_of_block n3) (one_tr_info1 _) (by decide) (by unfold maxLen; omega) (by omega) hb3.size ?_
     intro gF cF w4 ho4 hg4 hat4 hl4
     have hb4 : Below wk.heap.size wk w4 := hb3.grown hg4 hb3.size (fun k e => (ho2.lt k e).1)
     refine ⟨hb4, ?_⟩
     refine ht 14 (some 300) (v := .pointer (some ⟨g, 0, none⟩)) rfl rfl (fun w _ => by go_simp) hb4 ?_
     simp only [Act.put, List.setIfInBounds_toArray, List.set_cons_zero, List.set_cons_succ]
     refine ht 15 (some 301) (v := .pointer (some ⟨g, 7, none⟩)) rfl rfl (fun w _ => by go_simp) hb4 ?_
     simp only [Act.put, List.setIfInBounds_toArray, List.set_cons_zero, List.set_cons_succ]
     refine wpAnyH_done (by kernel_rfl) ?_ _
     clear ho2 hg2 hat2 hg4 hat4 hl4 hb0 hb1 hb2 hb3 r1 n3
     show wpList _ _ _ _ _ _
     have q' : w4.cell? ⟨g, 7, none⟩ = some (.slice b.Ao K.out.length b.cO) := (hb4.cell (p := ⟨g, 7, none⟩) HGL.out).trans CI.out
     have f' : w4.frozen? ⟨g, 7, none⟩ = false := (hb4.frozen (p := ⟨g, 7, none⟩) HGL.out).trans FI.out
     have FIN := Lib.hid (after_store (i := 7) HD.out hb4 ho4)
     clear ho4 hb4
     go_wp2
     go_meet
     exact ⟨gF, cF, FIN⟩
    ·have hb2 : Below wk.heap.size wk (((((wk).drew).alloc (.cells #[] 121))).alloc (.cells #[.int .i64 (ev : Int), .slice Al l.length cl] 121)) := hb1.alloc hb1.size _
     have n2 : Blk (((((wk).drew).alloc (.cells #[] 121))).alloc (.cells #[.int .i64 (ev : Int), .slice Al l.length cl] 121)) ((((wk).drew).alloc (.cells #[] 121))).heap.size 121 #[.int .i64 (ev : Int), .slice Al l.length cl] := Blk.new ((((wk).drew).alloc (.cells #[] 121))) 121 _
     refine wp_slice_d (d := some 298) (ps := #[(0, (.agg #[.int .i64 (ev : Int), .slice Al l.length cl]))]) rfl rfl (by go_simp) (BS1.out _) ?_
     refine ⟨hb2, ?_⟩
     simp only [Act.put, List.setIfInBounds_toArray, List.set_cons_zero, List.set_cons_succ]
     refine held_one (i := 6) (by kernel_rfl) rfl (by rfl) ?_
     refine wp_append_G (d := some 292) rfl (.tmp 287) (.tmp 291) 65 rfl wk.heap.size 121 iw zw 2 32 Tryz.underlying65 INF.out.1 INF.out.2.1 INF.out.2.2.2.1 INF.out.2.2.2.2 INF.out.2.2.1 (by decide) _ 0 [] rfl (r1.alloc _) b.Ao (K.out.length) b.cO (trsC b.ox) rfl (RowG.new RO.out hb2) (one_tr_info _) (by unfold maxLen; omega) (by omega) hb2.size ?_
     intro v1 w_3 ho3 hg3 hat3
     rw [Nat.zero_add, List.nil_append] at ho3
     have hb3 : Below wk.heap.size wk w_3 := hb2.grown hg3 hb2.size (fun k e => (r1.lt k e).1)
     refine ⟨hb3, ?_⟩
     simp only [Act.put, List.setIfInBounds_toArray, List.set_cons_zero, List.set_cons_succ]
     have n3 := n2.chg (Di.chg_of_grown (A := some ⟨(wk).drew.heap.size, 0, none⟩) (Below.refl _ _) hg3) (fun e => by have := Di.inB_some e; simp at this)
     refine held_one (i := 13) (by kernel_rfl) rfl (by rfl) ?_
     refine wp_append_d (d := some 299) rfl (.tmp 292) (.tmp 298) 65 rfl wk.heap.size 121 iw zw 2 32 Tryz.underlying65 INF.out.1 INF.out.2.1 INF.out.2.2.2.1 INF.out.2.2.2.2 INF.out.2.2.1 (by decide) v1 (K.out.length) (trsC b.ox) rfl ho3 ⟨((((wk).drew).alloc (.cells #[] 121))).heap.size, 0, none⟩ 1 1 (trC (⟨ev, l⟩, Al, cl)) rfl rfl (World.news_of_block n3) (one_tr_info1 _) (by decide) (by unfold maxLen; omega) (by omega) hb3.size ?_
     intro gF cF w4 ho4 hg4 hat4 hl4
     have hb4 : Below wk.heap.size wk w4 := hb3.grown hg4 hb3.size (fun k e => (ho3.lt k e).1)
     refine ⟨hb4, ?_⟩
     refine ht 14 (some 300) (v := .pointer (some ⟨g, 0, none⟩)) rfl rfl (fun w _ => by go_simp) hb4 ?_
     simp only [Act.put, List.setIfInBounds_toArray, List.set_cons_zero, List.set_cons_succ]
     refine ht 15 (some 301) (v := .pointer (some ⟨g, 7, none⟩)) rfl rfl (fun w _ => by go_simp) hb4 ?_
     simp only [Act.put, List.setIfInBounds_toArray, List.set_cons_zero, List.set_cons_succ]
     refine wpAnyH_done (by kernel_rfl) ?_ _
     clear ho3 hg3 hat3 hg4 hat4 hl4 hb0 hb1 hb2 hb3 r1 n2 n3
     show wpList _ _ _ _ _ _
     have q' : w4.cell? ⟨g, 7, none⟩ = some (.slice b.Ao K.out.length b.cO) := (hb4.cell (p := ⟨g, 7, none⟩) HGL.out).trans CI.out
     have f' : w4.frozen? ⟨g, 7, none⟩ = false := (hb4.frozen (p := ⟨g, 7, none⟩) HGL.out).trans FI.out
     have FIN := Lib.hid (after_store (i := 7) HD.out hb4 ho4)
     clear ho4 hb4
     go_wp2
     go_meet
     exact ⟨gF, cF, FIN⟩
   ·have hb1 : Below wk.heap.size wk (((wk).drew).alloc (.cells #[.int .i64 (ev : Int), .slice Al l.length cl] 121)) := hb0.alloc hb0.size _
    have n1 : Blk (((wk).drew).alloc (.cells #[.int .i64 (ev : Int), .slice Al l.length cl] 121)) ((wk).drew).heap.size 121 #[.int .i64 (ev : Int), .slice Al l.length cl] := Blk.new ((wk).drew) 121 _
    refine wp_slice_d (d := some 298) (ps := #[(0, (.agg #[.int .i64 (ev : Int), .slice Al l.length cl]))]) rfl rfl (by go_simp) (BS1.out _) ?_
    refine ⟨hb1, ?_⟩
    simp only [Act.put, List.setIfInBounds_toArray, List.set_cons_zero, List.set_cons_succ]
    refine held_one (i := 1) (by kernel_rfl) rfl (by rfl) ?_
    have hb2 : Below wk.heap.size wk (((((wk).drew).alloc (.cells #[.int .i64 (ev : Int), .slice Al l.length cl] 121))).alloc (.cells #[] 121)) := hb1.alloc hb1.size _
    have r2 : ((((((wk).drew).alloc (.cells #[.int .i64 (ev : Int), .slice Al l.length cl] 121))).alloc (.cells #[] 121))).ownsRow wk.heap.size 121 2 (.slice (some ⟨((((wk).drew).alloc (.cells #[.int .i64 (ev : Int), .slice Al l.length cl] 121))).heap.size, 0, none⟩) 0 0) 0 [] := World.ownsRow_lit ((((wk).drew).alloc (.cells #[.int .i64 (ev : Int), .slice Al l.length cl] 121))) #[] 0 hb1.size (by decide) rfl
    refine wp_slice_d (d := some 287) (ps := #[]) rfl rfl (by go_simp) (BS0.out _) ?_
    refine ⟨hb2, ?_⟩
    simp only [Act.put, List.setIfInBounds_toArray, List.set_cons_zero, List.set_cons_succ]
    refine held_one (i := 6) (by kernel_rfl) rfl (by rfl) ?_
    refine wp_append_G (d := some 292) rfl (.tmp 287) (.tmp 291) 65 rfl wk.heap.size 121 iw zw 2 32 Tryz.underlying65 INF.out.1 INF.out.2.1 INF.out.2.2.2.1 INF.out.2.2.2.2 INF.out.2.2.1 (by decide) _ 0 [] rfl r2 b.Ao (K.out.length) b.cO (trsC b.ox) rfl (RowG.new RO.out hb2) (one_tr_info _) (by unfold maxLen; omega) (by omega) hb2.size ?_
    intro v1 w_3 ho3 hg3 hat3
    rw [Nat.zero_add, List.nil_append] at ho3
    have hb3 : Below wk.heap.size wk w_3 := hb2.grown hg3 hb2.size (fun k e => (r2.lt k e).1)
    refine ⟨hb3, ?_⟩
    simp only [Act.put, List.setIfInBounds_toArray, List.set_cons_zero, List.set_cons_succ]
    have n3 := (n1.chg (Chg.of_new ((Below.refl _ _).alloc (Nat.le_refl _) (.cells #[] 121)) (fun _ => False)) (fun e => e)).chg (Di.chg_of_grown (A := some ⟨(((wk).drew).alloc (.cells #[.int .i64 (ev : Int), .slice Al l.length cl] 121)).heap.size, 0, none⟩) (Below.refl _ _) hg3) (fun e => by have := Di.inB_some e; simp at this)
    refine held_one (i := 13) (by kernel_rfl) rfl (by rfl) ?_
    refine wp_append_d (d := some 299) rfl (.tmp 292) (.tmp 298) 65 rfl wk.heap.size 121 iw zw 2 32 Tryz.underlying65 INF.out.1 INF.out.2.1 INF.out.2.2.2.1 INF.out.2.2.2.2 INF.out.2.2.1 (by decide) v1 (K.out.length) (trsC b.ox) rfl ho3 ⟨((wk).drew).heap.size, 0, none⟩ 1 1 (trC (⟨ev, l⟩, Al, cl)) rfl rfl (World.news_of_block n3) (one_tr_info1 _) (by decide) (by unfold maxLen; omega) (by omega) hb3.size ?_
    intro gF cF w4 ho4 hg4 hat4 hl4
    have hb4 : Below wk.heap.size wk w4 := hb3.grown hg4 hb3.size (fun k e => (ho3.lt k e).1)
    refine ⟨hb4, ?_⟩
    refine ht 14 (some 300) (v := .pointer (some ⟨g, 0, none⟩)) rfl rfl (fun w _ => by go_simp) hb4 ?_
    simp only [Act.put, List.setIfInBounds_toArray, List.set_cons_zero, List.set_cons_succ]
    refine ht 15 (some 301) (v := .pointer (some ⟨g, 7, none⟩)) rfl rfl (fun w _ => by go_simp) hb4 ?_
    simp only [Act.put, List.setIfInBounds_toArray, List.set_cons_zero, List.set_cons_succ]
    refine wpAnyH_done (by kernel_rfl) ?_ _
    clear ho3 hg3 hat3 hg4 hat4 hl4 hb0 hb1 hb2 hb3 n1 r2 n3
    show wpList _ _ _ _ _ _
    have q' : w4.cell? ⟨g, 7, none⟩ = some (.slice b.Ao K.out.length b.cO) := (hb4.cell (p := ⟨g, 7, none⟩) HGL.out).trans CI.out
    have f' : w4.frozen? ⟨g, 7, none⟩ = false := (hb4.frozen (p := ⟨g, 7, none⟩) HGL.out).trans FI.out
    have FIN := Lib.hid (after_store (i := 7) HD.out hb4 ho4)
    clear ho4 hb4
    go_wp2
    go_meet
    exact ⟨gF, cF, FIN⟩
  case rest => as_aux_lemma =>
   obtain ⟨gF, cF, hc⟩ := hcut
   have CX := Lib.hid hc.out
   have c3 : wc.cell? ⟨g, 8, none⟩ = some (.int .i64 ((K.f3 + K.out.length : Nat) : Int)) := hc.out.2.1.cell 8
   have f3 := hc.out.2.1.frozen 8
   obtain ⟨sn, hsn⟩ : ∃ sn : Nat, K.f3 + K.out.length = sn := ⟨_, rfl⟩
   have hsm : sn ≤ 1000000 := by rw [← hsn]; exact SM.out.2.1
   have n2 : (K.f3 : Int) + (K.out.length : Int) = (sn : Int) := by omega
   rw [hsn] at c3
   rw [n2] at ER
   have HSN := Lib.hid hsn
   have xn := IntWalk.i64_in ((sn : Int) + 1) (by omega)
   have xm := IntWalk.i64_in (sn : Int) (by omega)
   have n1 : (sn : Int) + 1 - 1 = (sn : Int) := by omega
   clear hc hsn n2
   go_upto_region 47 with fail
   have k5 : Chg wk (wc.setCell ⟨g, 8, none⟩ (.int .i64 ((sn : Int) + 1))) (fun i => i = g) := CX.out.1.trans (Chg.set _ _ _ rfl)
   have hd5 : Blk (wc.setCell ⟨g, 8, none⟩ (.int .i64 ((sn : Int) + 1))) g 67 (headC { K with ps := hps, out := K.out ++ [⟨ev, l⟩] } { b with Ao := some ⟨gF, 0, none⟩, cO := cF, ox := b.ox ++ [(⟨ev, l⟩, Al, cl)] }) := by
    have h0 := CX.out.2.1.put 8 (.int .i64 ((sn : Int) + 1))
    have e : ((headC { K with ps := hps } b).set! 7 (.slice (some ⟨gF, 0, none⟩) (K.out.length + 1) cF)).set! 8 (.int .i64 ((sn : Int) + 1)) = headC { K with ps := hps, out := K.out ++ [⟨ev, l⟩] } { b with Ao := some ⟨gF, 0, none⟩, cO := cF, ox := b.ox ++ [(⟨ev, l⟩, Al, cl)] } := by
     have := HSN.out
     unfold headC
     simp
     omega
    rw [← e]
    exact h0
   have ln : (K.out ++ [(⟨ev, l⟩ : Tr)]).length = K.out.length + 1 := by simp
   have kx : Chg wc (wc.setCell ⟨g, 8, none⟩ (.int .i64 ((sn : Int) + 1))) (fun i => i = g) := Chg.set _ _ _ rfl
   have st := Lib.hid (HC.out.setRows k5 b.Af b.cf b.fx b.A1 b.c1 b.A2 b.c2 (some ⟨gF, 0, none⟩) cF (b.ox ++ [(⟨ev, l⟩, Al, cl)]) { K with ps := hps, out := K.out ++ [⟨ev, l⟩] } rfl rfl hd5 HC.out.fx (HC.out.filC k5 HC.out.hR) (HC.out.fpC k5 HC.out.hB)
    (HC.out.in1C k5 HC.out.hR) (HC.out.in2C k5 HC.out.hR)
    (by rw [List.map_append, HC.out.ox]; rfl)
    (by rw [ln, trsC_snoc]; exact CX.out.2.2.1.chg kx (fun x e h => by cases e; have h1 := CX.out.2.2.2.1; have h2 := HGL.out; have h' : gF = g := h; omega))
    (fun x hx => by
      rcases List.mem_append.1 hx with hx | hx
      ·exact HC.out.opC k5 HC.out.hB x hx
      ·rw [List.mem_singleton.1 hx]
       exact ⟨pcs_chg PL.out k5 (fun y e hl h => by have h1 := GL.out y e hl; have h2 := HC.out.hB _ h; omega), GL.out⟩)
    (fun x e => by
      rcases e with e | e | e | e
      ·exact .inl (.inl ⟨x, e, rfl⟩)
      ·exact .inl (.inr (.inl ⟨x, e, rfl⟩))
      ·exact .inl (.inr (.inr (.inl ⟨x, e, rfl⟩)))
      ·cases e; exact .inr ⟨CX.out.2.2.2.1, Nat.lt_of_lt_of_le CX.out.2.2.2.2 kx.size⟩))
   have c3' : (wc.setCell ⟨g, 8, none⟩ (.int .i64 ((sn : Int) + 1))).cell? ⟨g, 8, none⟩ = some (.int .i64 ((sn : Int) + 1)) := (CX.out.2.1.put 8 (.int .i64 ((sn : Int) + 1))).cell 8
   clear k5 hd5 kx ln c3 f3
   generalize wc.setCell ⟨g, 8, none⟩ (.int .i64 ((sn : Int) + 1)) = wy at *
   go_wp2
   go_ret3
   exact rcpost_of ER.out ((RStep.trans QB.out FB.out st.out).first B1.out)
 ·have hps0 : hps = K.ps := by
   have := HH.out
   unfold holdG at this
   split at this
   ·cases this; exact absurd rfl hz
   ·cases this; rfl
  subst hps0
  have er : callR K ⟨11, ev, qa, qb, qc, s.data.toList, p, l⟩ = (K, 0, [], hE) := by
   rw [callR_11 K ev HE.out]
   unfold submitR
   rw [if_neg hf8, HH.out, if_neg hz]
  have ER := Lib.hid er
  have ST := Lib.hid ((H1.out.setTab td.out kd.out (fun i e => e)).first B1.out)
  clear er td kd
  go_wp2
  go_ret3
  exact rcpost_of ER.out ST.out
end
end Go.Proofs.YtbkjjakkihbcdaaGreat.Rk
