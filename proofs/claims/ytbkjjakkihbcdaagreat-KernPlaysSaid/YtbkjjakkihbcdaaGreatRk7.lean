/- The document's kernel: Call, a filter is bound. Conditions: those that each states. -/
import Derived.Test.YtbkjjakkihbcdaaGreatMAS
namespace Go.Proofs.YtbkjjakkihbcdaaGreat.Rk
open Go.ChangeShapes Go.WideShapes Go.ChangeAt Go.RowKit Go.Deep Fr Di RE Ke
set_option linter.unusedVariables false
set_option linter.unusedSimpArgs false
section
variable {B g : Nat} {w : World} {K : Kn} {a : RP}
end
theorem fil_info : ∃ i0 z, Tryz.prog.info? 118 = some i0 ∧ i0.zero = some z ∧ z.cells.size = 3 ∧ i0.size = 3 ∧ i0.bytes = 40 := by
 obtain ⟨i, hi, hs⟩ := Option.map_eq_some_iff.1 (show (Tryz.prog.info? 118).map (fun i => (i.zero.map (·.cells.size), i.size, i.bytes)) = some (some 3, 3, 40) by kernel_rfl)
 simp only [Prod.mk.injEq] at hs
 obtain ⟨h0, h1, h2⟩ := hs
 obtain ⟨z, hz, hzs⟩ := Option.map_eq_some_iff.1 h0
 exact ⟨i, z, hi, hz, hzs, h1, h2⟩
theorem one_fil_info (l : List (Fil × Option Addr × Nat)) : ∀ u ∈ filsC l, u.oneCell' = true := by
 intro u hu
 unfold filsC at hu
 rw [List.mem_flatten] at hu
 obtain ⟨r, hr, hu⟩ := hu
 obtain ⟨q, _, rfl⟩ := List.mem_map.1 hr
 unfold filC at hu
 simp only [List.mem_cons, List.not_mem_nil, or_false] at hu
 rcases hu with rfl | rfl | rfl <;> rfl
theorem one_fil_info1 (q : Fil × Option Addr × Nat) : ∀ u ∈ filC q, u.oneCell' = true := by
 intro u hu
 unfold filC at hu
 simp only [List.mem_cons, List.not_mem_nil, or_false] at hu
 rcases hu with rfl | rfl | rfl <;> rfl
section
variable {B g : Nat} {w : World} {K : Kn} {a : RP}
set_option maxRecDepth 100000 in
set_option maxHeartbeats 4000000 in
theorem rc9 (h : RKAt B w g K a) (ok : K.Ok) (sm : K.next ≤ 1000000 ∧ K.f3 + K.out.length ≤ 1000000 ∧ K.dk.line.length < 1000000) (env : Int) (he : env = 1 ∨ env = 2) (qa qb qc : Int) (wa : -9223372036854775808 ≤ qa ∧ qa ≤ 9223372036854775807) (s : ByteArray) (hs : s.size ≤ 1000) (Ap : Option Addr) (cp : Nat) (p : List Ins) (hp : Prg w Ap p) (pok : ∀ x ∈ p, x.Ok) (gp : Given B Ap p.length) (pm : p.length ≤ 1000000) (Al : Option Addr) (cl : Nat) (l : List Pc) (hl : Pcs w Al l) (lok : ∀ x ∈ l, x.Ok) (gl : Given B Al l.length) (lm : l.length ≤ 1000000) :
  Calls Tryz.prog 10 #[.pointer (some ⟨g, 0, none⟩), .agg #[.int .i64 9, .int .i64 env, .int .i64 qa, .int .i64 qb, .int .i64 qc, .string s, .slice Ap p.length cp, .slice Al l.length cl]] w (RCPost B w g K a ⟨9, env, qa, qb, qc, s.data.toList, p, l⟩) := by
 have g1 : ¬ env < 1 := by omega
 have g2 : ¬ env > 2 := by omega
 have X1 := Lib.hid (Blk.new w 34 #[.int .i64 9, .int .i64 env, .int .i64 qa, .int .i64 qb, .int .i64 qc, .string s, .slice Ap p.length cp, .slice Al l.length cl])
 have b1 : Below w.heap.size w (w.alloc (.cells #[.int .i64 9, .int .i64 env, .int .i64 qa, .int .i64 qb, .int .i64 qc, .string s, .slice Ap p.length cp, .slice Al l.length cl] 34)) := (Below.refl _ w).alloc (Nat.le_refl _) _
 have B1 := Lib.hid b1
 have H1 := Lib.hid (h.new b1)
 have HP := Lib.hid (hp.new b1)
 have HL := Lib.hid (hl.new b1)
 have NQ := Lib.hid (show ¬ a.foot g w.heap.size from fun e => absurd (h.lt _ e) (Nat.lt_irrefl _))
 have HM := Lib.hid (show ∀ x ∈ K.ps, x.holds ≤ 256 from fun x hx => by
  obtain ⟨k, hk, rfl⟩ := List.mem_iff_getElem.1 hx
  rw [ok.holds k hk]
  have := heldN_le ok.out (k : Int)
  have := ok.no
  omega)
 have OK := Lib.hid ok
 have SM := Lib.hid sm
 have HE := Lib.hid he
 have POK := Lib.hid pok
 have LOK := Lib.hid lok
 have GP := Lib.hid gp
 have GL := Lib.hid gl
 clear h ok sm hp hl pok lok gp gl he
 go_enter Tryz.func10, Tryz.ntmps10
 go_upto_region 1 with fail
 generalize w.alloc (.cells #[.int .i64 9, .int .i64 env, .int .i64 qa, .int .i64 qb, .int .i64 qc, .string s, .slice Ap p.length cp, .slice Al l.length cl] 34) = W1 at *
 have q0 := (X1.out.cell 0).trans (show _ = some (.int .i64 9) from rfl)
 have q1 := (X1.out.cell 1).trans (show _ = some (.int .i64 env) from rfl)
 have q2 := (X1.out.cell 2).trans (show _ = some (.int .i64 qa) from rfl)
 have q3 := (X1.out.cell 3).trans (show _ = some (.int .i64 qb) from rfl)
 have q4 := (X1.out.cell 4).trans (show _ = some (.int .i64 qc) from rfl)
 have q5 := (X1.out.cell 5).trans (show _ = some (.string s) from rfl)
 have q6 := (X1.out.cell 6).trans (show _ = some (.slice Ap p.length cp) from rfl)
 have q7 := (X1.out.cell 7).trans (show _ = some (.slice Al l.length cl) from rfl)
 have Q0 := Lib.hid q0
 have Q1 := Lib.hid q1
 have Q2 := Lib.hid q2
 have Q3 := Lib.hid q3
 have Q4 := Lib.hid q4
 have Q5 := Lib.hid q5
 have Q6 := Lib.hid q6
 have Q7 := Lib.hid q7
 clear b1
 obtain ⟨ev, hev⟩ : ∃ ev : Nat, env = (ev : Int) := ⟨env.toNat, by have := HE.out; omega⟩
 subst hev
 have c2 := H1.out.heads.2.2.1
 have ST0 := Lib.hid ((H1.out.same (Below.refl _ _)).first B1.out)
 by_cases hf : (K.fs.length : Int) ≥ 8
 ·have er : callR K ⟨9, ev, qa, qb, qc, s.data.toList, p, l⟩ = (K, 0, [], 10) := by
   rw [callR_9 K ev HE.out]
   unfold bindR
   rw [if_pos (by omega)]
  have ER := Lib.hid er
  clear er
  go_wp2
  go_ret3
  exact rcpost_of ER.out ST0.out
 have hf8 : ¬ 8 ≤ K.fs.length := by omega
 have CH := Lib.hid (R7.check_is Ap cp p W1 HP.out pm (chkB p) (chkB_iff p))
 obtain ⟨cv, hcv⟩ : ∃ cv, chkB p = cv := ⟨_, rfl⟩
 rw [hcv] at CH
 have HCV := Lib.hid hcv
 clear hcv
 go_wp2_with fail
 refine CH.out.mono ?_; rintro e wk ⟨rfl, bc⟩
 have BC := Lib.hid bc
 clear bc CH c2 q0 q1 q2 q3 q4 q5 q6 q7
 cases cv with
 | false =>
  have er : callR K ⟨9, ev, qa, qb, qc, s.data.toList, p, l⟩ = (K, 0, [], 40) := by
   rw [callR_9 K ev HE.out]
   unfold bindR
   rw [if_neg hf8, HCV.out]
   rfl
  have ER := Lib.hid er
  clear er
  go_wp2
  go_ret3
  exact rcpost_of ER.out (ST0.out.last BC.out)
 | true =>
  have er : callR K ⟨9, ev, qa, qb, qc, s.data.toList, p, l⟩ = ({ K with fs := K.fs ++ [⟨K.next, ev, p⟩], next := K.next + 1 }, (K.next : Int), [], 0) := by
   rw [callR_9 K ev HE.out]
   unfold bindR
   rw [if_neg hf8, HCV.out, Int.toNat_natCast]
   rfl
  have ER := Lib.hid er
  clear er
  have HC := Lib.hid (H1.out.new BC.out)
  have XLT := Lib.hid X1.out.lt
  have XC := Lib.hid (X1.out.older (older_below BC.out))
  have CI := Lib.hid HC.out.heads.2.2.1
  have CN := Lib.hid HC.out.heads.2.2.2.1
  have CE := Lib.hid ((XC.out.cell 1).trans (show _ = some (.int .i64 (ev : Int)) from rfl))
  have CP := Lib.hid ((XC.out.cell 6).trans (show _ = some (.slice Ap p.length cp) from rfl))
  have FI := Lib.hid (HC.out.head.frozen 2)
  have HGL := Lib.hid (HC.out.lt g (.inl rfl))
  have HXL := Lib.hid XC.out.lt
  have HD := Lib.hid HC.out.head
  have RO := Lib.hid HC.out.fil
  have hi8 : K.fs.length < 8 := by omega
  obtain ⟨iw, zw, hi, hz, hzc, hs2, hby⟩ := fil_info
  have INF := Lib.hid (And.intro hi (And.intro hz (And.intro hzc (And.intro hs2 hby))))
  clear hi hz hzc hs2 hby
  have BD := Lib.hid (show ∀ W' : World, (Instr.build 118 #[(0, .int .i64 (K.next : Int)), (1, .int .i64 (ev : Int)), (2, .slice Ap p.length cp)]).run Tryz.prog W' = .ok (.agg #[.int .i64 (K.next : Int), .int .i64 (ev : Int), .slice Ap p.length cp]) W' from fun W' => by go_simp)
  have LF := Lib.hid (show ∀ W' : World, Below wk.heap.size wk W' → (Instr.loadAt 62 (.pointer (some ⟨g, 2, none⟩))).run Tryz.prog W' = .ok (.slice a.Af K.fs.length a.cf) W' from fun W' h => by have := (h.cell (p := ⟨g, 2, none⟩) HGL.out).trans CI.out; go_simp)
  have LN := Lib.hid (show ∀ W' : World, Below wk.heap.size wk W' → (Instr.loadAt 3 (.pointer (some ⟨g, 3, none⟩))).run Tryz.prog W' = .ok (.int .i64 (K.next : Int)) W' from fun W' h => by have := (h.cell (p := ⟨g, 3, none⟩) HGL.out).trans CN.out; go_simp)
  have LE := Lib.hid (show ∀ W' : World, Below wk.heap.size wk W' → (Instr.loadAt 3 (.pointer (some ⟨w.heap.size, 1, none⟩))).run Tryz.prog W' = .ok (.int .i64 (ev : Int)) W' from fun W' h => by have := (h.cell (p := ⟨w.heap.size, 1, none⟩) HXL.out).trans CE.out; go_simp)
  have LP := Lib.hid (show ∀ W' : World, Below wk.heap.size wk W' → (Instr.loadAt 31 (.pointer (some ⟨w.heap.size, 6, none⟩))).run Tryz.prog W' = .ok (.slice Ap p.length cp) W' from fun W' h => by have := (h.cell (p := ⟨w.heap.size, 6, none⟩) HXL.out).trans CP.out; go_simp)
  go_upto_region 28 with fail
  go_cut [] (fun wx => ∃ gF cF, Hid (Chg wk wx (fun k => k = g) ∧ Blk wx g 67 ((headC K a).set! 2 (.slice (some ⟨gF, 0, none⟩) (K.fs.length + 1) cF)) ∧ RowG wx 3 (some ⟨gF, 0, none⟩) (K.fs.length + 1) cF (filsC a.fx ++ filC (⟨K.next, ev, p⟩, Ap, cp)) ∧ wk.heap.size ≤ gF ∧ gF < wx.heap.size))
  case first =>
   have hb0 : Below wk.heap.size wk (wk).drew := ⟨rfl, rfl, rfl, Nat.le_refl _, fun _ _ => rfl⟩
   have BS0 := Lib.hid (show ∀ W' : World, (Instr.buildSlice 62 0 #[]).run Tryz.prog W' = .ok (.slice (some ⟨W'.heap.size, 0, none⟩) 0 0) (W'.alloc (.cells #[] 118)) from fun W' => by go_simp)
   have BS1 := Lib.hid (show ∀ W' : World, (Instr.buildSlice 62 1 #[(0, (.agg #[.int .i64 (K.next : Int), .int .i64 (ev : Int), .slice Ap p.length cp]))]).run Tryz.prog W' = .ok (.slice (some ⟨W'.heap.size, 0, none⟩) 1 1) (W'.alloc (.cells #[.int .i64 (K.next : Int), .int .i64 (ev : Int), .slice Ap p.length cp] 118)) from fun W' => by go_simp)
   refine wp_head_held (S := Below wk.heap.size wk) 20 (by kernel_rfl) rfl rfl (by kernel_rfl) ?_
   simp only [List.take_succ_cons, List.take_zero, List.drop_succ_cons, List.drop_zero]
   refine ht 0 (some 180) (v := .pointer (some ⟨g, 0, none⟩)) rfl rfl (fun w _ => by go_simp) hb0 ?_
   refine ht 2 (some 182) (v := .pointer (some ⟨g, 0, none⟩)) rfl rfl (fun w _ => by go_simp) hb0 ?_
   simp only [Act.put, List.setIfInBounds_toArray, List.set_cons_zero, List.set_cons_succ]
   refine ht 3 (some 183) (v := .pointer (some ⟨g, 0, none⟩)) rfl rfl (fun w _ => by go_simp) hb0 ?_
   refine ht 4 (some 184) (v := .pointer (some ⟨g, 2, none⟩)) rfl rfl (fun w _ => by go_simp) hb0 ?_
   simp only [Act.put, List.setIfInBounds_toArray, List.set_cons_zero, List.set_cons_succ]
   refine ht 5 (some 185) (v := .slice a.Af K.fs.length a.cf) rfl rfl (fun w' hw => exec_load (y := .pointer (some ⟨g, 2, none⟩)) rfl rfl (LF.out w' hw)) hb0 ?_
   refine ht 7 (some 187) (v := .pointer (some ⟨g, 0, none⟩)) rfl rfl (fun w _ => by go_simp) hb0 ?_
   simp only [Act.put, List.setIfInBounds_toArray, List.set_cons_zero, List.set_cons_succ]
   refine ht 8 (some 188) (v := .pointer (some ⟨g, 0, none⟩)) rfl rfl (fun w _ => by go_simp) hb0 ?_
   refine ht 9 (some 189) (v := .pointer (some ⟨g, 3, none⟩)) rfl rfl (fun w _ => by go_simp) hb0 ?_
   simp only [Act.put, List.setIfInBounds_toArray, List.set_cons_zero, List.set_cons_succ]
   refine ht 10 (some 190) (v := .int .i64 (K.next : Int)) rfl rfl (fun w' hw => exec_load (y := .pointer (some ⟨g, 3, none⟩)) rfl rfl (LN.out w' hw)) hb0 ?_
   refine ht 11 (some 191) (v := .pointer (some ⟨w.heap.size, 1, none⟩)) rfl rfl (fun w _ => by go_simp) hb0 ?_
   simp only [Act.put, List.setIfInBounds_toArray, List.set_cons_zero, List.set_cons_succ]
   refine ht 12 (some 192) (v := .int .i64 (ev : Int)) rfl rfl (fun w' hw => exec_load (y := .pointer (some ⟨w.heap.size, 1, none⟩)) rfl rfl (LE.out w' hw)) hb0 ?_
   refine ht 13 (some 193) (v := .pointer (some ⟨w.heap.size, 6, none⟩)) rfl rfl (fun w _ => by go_simp) hb0 ?_
   simp only [Act.put, List.setIfInBounds_toArray, List.set_cons_zero, List.set_cons_succ]
   refine ht 14 (some 194) (v := .slice Ap p.length cp) rfl rfl (fun w' hw => exec_load (y := .pointer (some ⟨w.heap.size, 6, none⟩)) rfl rfl (LP.out w' hw)) hb0 ?_
   refine ht 15 (some 195) (v := (.agg #[.int .i64 (K.next : Int), .int .i64 (ev : Int), .slice Ap p.length cp])) rfl rfl (fun w' _ => exec_build' (ps := #[(0, .int .i64 (K.next : Int)), (1, .int .i64 (ev : Int)), (2, .slice Ap p.length cp)]) rfl (by go_simp) BD.out w') hb0 ?_
   simp only [Act.put, List.setIfInBounds_toArray, List.set_cons_zero, List.set_cons_succ]
   refine held_two (i := 1) (j := 16) (by kernel_rfl) rfl rfl (by rfl) (by rfl) ?_ ?_
   ·have hb1 : Below wk.heap.size wk (((wk).drew).alloc (.cells #[] 118)) := hb0.alloc hb0.size _
    have r1 : ((((wk).drew).alloc (.cells #[] 118))).ownsRow wk.heap.size 118 3 (.slice (some ⟨((wk).drew).heap.size, 0, none⟩) 0 0) 0 [] := World.ownsRow_lit ((wk).drew) #[] 0 hb0.size (by decide) rfl
    refine wp_slice_d (d := some 181) (ps := #[]) rfl rfl (by go_simp) (BS0.out _) ?_
    refine ⟨hb1, ?_⟩
    simp only [Act.put, List.setIfInBounds_toArray, List.set_cons_zero, List.set_cons_succ]
    refine held_two (i := 6) (j := 16) (by kernel_rfl) rfl rfl (by rfl) (by rfl) ?_ ?_
    ·refine wp_append_G (d := some 186) rfl (.tmp 181) (.tmp 185) 62 rfl wk.heap.size 118 iw zw 3 40 Tryz.underlying62 INF.out.1 INF.out.2.1 INF.out.2.2.2.1 INF.out.2.2.2.2 INF.out.2.2.1 (by decide) _ 0 [] rfl r1 a.Af (K.fs.length) a.cf (filsC a.fx) rfl (RowG.new RO.out hb1) (one_fil_info _) (by unfold maxLen; omega) (by omega) hb1.size ?_
     intro v1 w_2 ho2 hg2 hat2
     rw [Nat.zero_add, List.nil_append] at ho2
     have hb2 : Below wk.heap.size wk w_2 := hb1.grown hg2 hb1.size (fun k e => (r1.lt k e).1)
     refine ⟨hb2, ?_⟩
     simp only [Act.put, List.setIfInBounds_toArray, List.set_cons_zero, List.set_cons_succ]
     refine held_one (i := 16) (by kernel_rfl) rfl (by rfl) ?_
     have hb3 : Below wk.heap.size wk ((w_2).alloc (.cells #[.int .i64 (K.next : Int), .int .i64 (ev : Int), .slice Ap p.length cp] 118)) := hb2.alloc hb2.size _
     have n3 : Blk ((w_2).alloc (.cells #[.int .i64 (K.next : Int), .int .i64 (ev : Int), .slice Ap p.length cp] 118)) (w_2).heap.size 118 #[.int .i64 (K.next : Int), .int .i64 (ev : Int), .slice Ap p.length cp] := Blk.new (w_2) 118 _
     refine wp_slice_d (d := some 196) (ps := #[(0, (.agg #[.int .i64 (K.next : Int), .int .i64 (ev : Int), .slice Ap p.length cp]))]) rfl rfl (by go_simp) (BS1.out _) ?_
     refine ⟨hb3, ?_⟩
     simp only [Act.put, List.setIfInBounds_toArray, List.set_cons_zero, List.set_cons_succ]
     refine held_one (i := 17) (by kernel_rfl) rfl (by rfl) ?_
     refine wp_append_d (d := some 197) rfl (.tmp 186) (.tmp 196) 62 rfl wk.heap.size 118 iw zw 3 40 Tryz.underlying62 INF.out.1 INF.out.2.1 INF.out.2.2.2.1 INF.out.2.2.2.2 INF.out.2.2.1 (by decide) v1 (K.fs.length) (filsC a.fx) rfl (ho2.alloc _) ⟨w_2.heap.size, 0, none⟩ 1 1 (filC (⟨K.next, ev, p⟩, Ap, cp)) rfl rfl (World.news_of_block n3) (one_fil_info1 _) (by decide) (by unfold maxLen; omega) (by omega) hb3.size ?_
     intro gF cF w4 ho4 hg4 hat4 hl4
     have hb4 : Below wk.heap.size wk w4 := hb3.grown hg4 hb3.size (fun k e => (ho2.lt k e).1)
     refine ⟨hb4, ?_⟩
     refine ht 18 (some 198) (v := .pointer (some ⟨g, 0, none⟩)) rfl rfl (fun w _ => by go_simp) hb4 ?_
     simp only [Act.put, List.setIfInBounds_toArray, List.set_cons_zero, List.set_cons_succ]
     refine ht 19 (some 199) (v := .pointer (some ⟨g, 2, none⟩)) rfl rfl (fun w _ => by go_simp) hb4 ?_
     simp only [Act.put, List.setIfInBounds_toArray, List.set_cons_zero, List.set_cons_succ]
     refine wpAnyH_done (by kernel_rfl) ?_ _
     clear ho2 hg2 hat2 hg4 hat4 hl4 hb0 hb1 hb2 hb3 r1 n3
     show wpList _ _ _ _ _ _
     have q' : w4.cell? ⟨g, 2, none⟩ = some (.slice a.Af K.fs.length a.cf) := (hb4.cell (p := ⟨g, 2, none⟩) HGL.out).trans CI.out
     have f' : w4.frozen? ⟨g, 2, none⟩ = false := (hb4.frozen (p := ⟨g, 2, none⟩) HGL.out).trans FI.out
     have FIN := Lib.hid (after_store (i := 2) HD.out hb4 ho4)
     clear ho4 hb4
     go_wp2
     go_meet
     exact ⟨gF, cF, FIN⟩
    ·have hb2 : Below wk.heap.size wk (((((wk).drew).alloc (.cells #[] 118))).alloc (.cells #[.int .i64 (K.next : Int), .int .i64 (ev : Int), .slice Ap p.length cp] 118)) := hb1.alloc hb1.size _
     have n2 : Blk (((((wk).drew).alloc (.cells #[] 118))).alloc (.cells #[.int .i64 (K.next : Int), .int .i64 (ev : Int), .slice Ap p.length cp] 118)) ((((wk).drew).alloc (.cells #[] 118))).heap.size 118 #[.int .i64 (K.next : Int), .int .i64 (ev : Int), .slice Ap p.length cp] := Blk.new ((((wk).drew).alloc (.cells #[] 118))) 118 _
     refine wp_slice_d (d := some 196) (ps := #[(0, (.agg #[.int .i64 (K.next : Int), .int .i64 (ev : Int), .slice Ap p.length cp]))]) rfl rfl (by go_simp) (BS1.out _) ?_
     refine ⟨hb2, ?_⟩
     simp only [Act.put, List.setIfInBounds_toArray, List.set_cons_zero, List.set_cons_succ]
     refine held_one (i := 6) (by kernel_rfl) rfl (by rfl) ?_
     refine wp_append_G (d := some 186) rfl (.tmp 181) (.tmp 185) 62 rfl wk.heap.size 118 iw zw 3 40 Tryz.underlying62 INF.out.1 INF.out.2.1 INF.out.2.2.2.1 INF.out.2.2.2.2 INF.out.2.2.1 (by decide) _ 0 [] rfl (r1.alloc _) a.Af (K.fs.length) a.cf (filsC a.fx) rfl (RowG.new RO.out hb2) (one_fil_info _) (by unfold maxLen; omega) (by omega) hb2.size ?_
     intro v1 w_3 ho3 hg3 hat3
     rw [Nat.zero_add, List.nil_append] at ho3
     have hb3 : Below wk.heap.size wk w_3 := hb2.grown hg3 hb2.size (fun k e => (r1.lt k e).1)
     refine ⟨hb3, ?_⟩
     simp only [Act.put, List.setIfInBounds_toArray, List.set_cons_zero, List.set_cons_succ]
     have n3 := n2.chg (Di.chg_of_grown (A := some ⟨(wk).drew.heap.size, 0, none⟩) (Below.refl _ _) hg3) (fun e => by have := Di.inB_some e; simp at this)
     refine held_one (i := 17) (by kernel_rfl) rfl (by rfl) ?_
     refine wp_append_d (d := some 197) rfl (.tmp 186) (.tmp 196) 62 rfl wk.heap.size 118 iw zw 3 40 Tryz.underlying62 INF.out.1 INF.out.2.1 INF.out.2.2.2.1 INF.out.2.2.2.2 INF.out.2.2.1 (by decide) v1 (K.fs.length) (filsC a.fx) rfl ho3 ⟨((((wk).drew).alloc (.cells #[] 118))).heap.size, 0, none⟩ 1 1 (filC (⟨K.next, ev, p⟩, Ap, cp)) rfl rfl (World.news_of_block n3) (one_fil_info1 _) (by decide) (by unfold maxLen; omega) (by omega) hb3.size ?_
     intro gF cF w4 ho4 hg4 hat4 hl4
     have hb4 : Below wk.heap.size wk w4 := hb3.grown hg4 hb3.size (fun k e => (ho3.lt k e).1)
     refine ⟨hb4, ?_⟩
     refine ht 18 (some 198) (v := .pointer (some ⟨g, 0, none⟩)) rfl rfl (fun w _ => by go_simp) hb4 ?_
     simp only [Act.put, List.setIfInBounds_toArray, List.set_cons_zero, List.set_cons_succ]
     refine ht 19 (some 199) (v := .pointer (some ⟨g, 2, none⟩)) rfl rfl (fun w _ => by go_simp) hb4 ?_
     simp only [Act.put, List.setIfInBounds_toArray, List.set_cons_zero, List.set_cons_succ]
     refine wpAnyH_done (by kernel_rfl) ?_ _
     clear ho3 hg3 hat3 hg4 hat4 hl4 hb0 hb1 hb2 hb3 r1 n2 n3
     show wpList _ _ _ _ _ _
     have q' : w4.cell? ⟨g, 2, none⟩ = some (.slice a.Af K.fs.length a.cf) := (hb4.cell (p := ⟨g, 2, none⟩) HGL.out).trans CI.out
     have f' : w4.frozen? ⟨g, 2, none⟩ = false := (hb4.frozen (p := ⟨g, 2, none⟩) HGL.out).trans FI.out
     have FIN := Lib.hid (after_store (i := 2) HD.out hb4 ho4)
     clear ho4 hb4
     go_wp2
     go_meet
     exact ⟨gF, cF, FIN⟩
   ·have hb1 : Below wk.heap.size wk (((wk).drew).alloc (.cells #[.int .i64 (K.next : Int), .int .i64 (ev : Int), .slice Ap p.length cp] 118)) := hb0.alloc hb0.size _
    have n1 : Blk (((wk).drew).alloc (.cells #[.int .i64 (K.next : Int), .int .i64 (ev : Int), .slice Ap p.length cp] 118)) ((wk).drew).heap.size 118 #[.int .i64 (K.next : Int), .int .i64 (ev : Int), .slice Ap p.length cp] := Blk.new ((wk).drew) 118 _
    refine wp_slice_d (d := some 196) (ps := #[(0, (.agg #[.int .i64 (K.next : Int), .int .i64 (ev : Int), .slice Ap p.length cp]))]) rfl rfl (by go_simp) (BS1.out _) ?_
    refine ⟨hb1, ?_⟩
    simp only [Act.put, List.setIfInBounds_toArray, List.set_cons_zero, List.set_cons_succ]
    refine held_one (i := 1) (by kernel_rfl) rfl (by rfl) ?_
    have hb2 : Below wk.heap.size wk (((((wk).drew).alloc (.cells #[.int .i64 (K.next : Int), .int .i64 (ev : Int), .slice Ap p.length cp] 118))).alloc (.cells #[] 118)) := hb1.alloc hb1.size _
    have r2 : ((((((wk).drew).alloc (.cells #[.int .i64 (K.next : Int), .int .i64 (ev : Int), .slice Ap p.length cp] 118))).alloc (.cells #[] 118))).ownsRow wk.heap.size 118 3 (.slice (some ⟨((((wk).drew).alloc (.cells #[.int .i64 (K.next : Int), .int .i64 (ev : Int), .slice Ap p.length cp] 118))).heap.size, 0, none⟩) 0 0) 0 [] := World.ownsRow_lit ((((wk).drew).alloc (.cells #[.int .i64 (K.next : Int), .int .i64 (ev : Int), .slice Ap p.length cp] 118))) #[] 0 hb1.size (by decide) rfl
    refine wp_slice_d (d := some 181) (ps := #[]) rfl rfl (by go_simp) (BS0.out _) ?_
    refine ⟨hb2, ?_⟩
    simp only [Act.put, List.setIfInBounds_toArray, List.set_cons_zero, List.set_cons_succ]
    refine held_one (i := 6) (by kernel_rfl) rfl (by rfl) ?_
    refine wp_append_G (d := some 186) rfl (.tmp 181) (.tmp 185) 62 rfl wk.heap.size 118 iw zw 3 40 Tryz.underlying62 INF.out.1 INF.out.2.1 INF.out.2.2.2.1 INF.out.2.2.2.2 INF.out.2.2.1 (by decide) _ 0 [] rfl r2 a.Af (K.fs.length) a.cf (filsC a.fx) rfl (RowG.new RO.out hb2) (one_fil_info _) (by unfold maxLen; omega) (by omega) hb2.size ?_
    intro v1 w_3 ho3 hg3 hat3
    rw [Nat.zero_add, List.nil_append] at ho3
    have hb3 : Below wk.heap.size wk w_3 := hb2.grown hg3 hb2.size (fun k e => (r2.lt k e).1)
    refine ⟨hb3, ?_⟩
    simp only [Act.put, List.setIfInBounds_toArray, List.set_cons_zero, List.set_cons_succ]
    have n3 := (n1.chg (Chg.of_new ((Below.refl _ _).alloc (Nat.le_refl _) (.cells #[] 118)) (fun _ => False)) (fun e => e)).chg (Di.chg_of_grown (A := some ⟨(((wk).drew).alloc (.cells #[.int .i64 (K.next : Int), .int .i64 (ev : Int), .slice Ap p.length cp] 118)).heap.size, 0, none⟩) (Below.refl _ _) hg3) (fun e => by have := Di.inB_some e; simp at this)
    refine held_one (i := 17) (by kernel_rfl) rfl (by rfl) ?_
    refine wp_append_d (d := some 197) rfl (.tmp 186) (.tmp 196) 62 rfl wk.heap.size 118 iw zw 3 40 Tryz.underlying62 INF.out.1 INF.out.2.1 INF.out.2.2.2.1 INF.out.2.2.2.2 INF.out.2.2.1 (by decide) v1 (K.fs.length) (filsC a.fx) rfl ho3 ⟨((wk).drew).heap.size, 0, none⟩ 1 1 (filC (⟨K.next, ev, p⟩, Ap, cp)) rfl rfl (World.news_of_block n3) (one_fil_info1 _) (by decide) (by unfold maxLen; omega) (by omega) hb3.size ?_
    intro gF cF w4 ho4 hg4 hat4 hl4
    have hb4 : Below wk.heap.size wk w4 := hb3.grown hg4 hb3.size (fun k e => (ho3.lt k e).1)
    refine ⟨hb4, ?_⟩
    refine ht 18 (some 198) (v := .pointer (some ⟨g, 0, none⟩)) rfl rfl (fun w _ => by go_simp) hb4 ?_
    simp only [Act.put, List.setIfInBounds_toArray, List.set_cons_zero, List.set_cons_succ]
    refine ht 19 (some 199) (v := .pointer (some ⟨g, 2, none⟩)) rfl rfl (fun w _ => by go_simp) hb4 ?_
    simp only [Act.put, List.setIfInBounds_toArray, List.set_cons_zero, List.set_cons_succ]
    refine wpAnyH_done (by kernel_rfl) ?_ _
    clear ho3 hg3 hat3 hg4 hat4 hl4 hb0 hb1 hb2 hb3 n1 r2 n3
    show wpList _ _ _ _ _ _
    have q' : w4.cell? ⟨g, 2, none⟩ = some (.slice a.Af K.fs.length a.cf) := (hb4.cell (p := ⟨g, 2, none⟩) HGL.out).trans CI.out
    have f' : w4.frozen? ⟨g, 2, none⟩ = false := (hb4.frozen (p := ⟨g, 2, none⟩) HGL.out).trans FI.out
    have FIN := Lib.hid (after_store (i := 2) HD.out hb4 ho4)
    clear ho4 hb4
    go_wp2
    go_meet
    exact ⟨gF, cF, FIN⟩
  case rest => as_aux_lemma =>
   obtain ⟨gF, cF, hc⟩ := hcut
   have CX := Lib.hid hc.out
   have c3 : wc.cell? ⟨g, 3, none⟩ = some (.int .i64 (K.next : Int)) := hc.out.2.1.cell 3
   have f3 := hc.out.2.1.frozen 3
   have xn := IntWalk.i64_in ((K.next : Int) + 1) (by have := SM.out.1; omega)
   have xm := IntWalk.i64_in (K.next : Int) (by have := SM.out.1; omega)
   have n1 : (K.next : Int) + 1 - 1 = (K.next : Int) := by omega
   clear hc
   go_upto_region 30 with fail
   have k5 : Chg wk (wc.setCell ⟨g, 3, none⟩ (.int .i64 ((K.next : Int) + 1))) (fun i => i = g) := CX.out.1.trans (Chg.set _ _ _ rfl)
   have hd5 : Blk (wc.setCell ⟨g, 3, none⟩ (.int .i64 ((K.next : Int) + 1))) g 67 (headC { K with fs := K.fs ++ [⟨K.next, ev, p⟩], next := K.next + 1 } { a with Af := some ⟨gF, 0, none⟩, cf := cF, fx := a.fx ++ [(⟨K.next, ev, p⟩, Ap, cp)] }) := by
    have h0 := CX.out.2.1.put 3 (.int .i64 ((K.next : Int) + 1))
    have e : ((headC K a).set! 2 (.slice (some ⟨gF, 0, none⟩) (K.fs.length + 1) cF)).set! 3 (.int .i64 ((K.next : Int) + 1)) = headC { K with fs := K.fs ++ [⟨K.next, ev, p⟩], next := K.next + 1 } { a with Af := some ⟨gF, 0, none⟩, cf := cF, fx := a.fx ++ [(⟨K.next, ev, p⟩, Ap, cp)] } := by
     unfold headC
     simp
    rw [← e]
    exact h0
   have ln : (K.fs ++ [(⟨K.next, ev, p⟩ : Fil)]).length = K.fs.length + 1 := by simp
   have kx : Chg wc (wc.setCell ⟨g, 3, none⟩ (.int .i64 ((K.next : Int) + 1))) (fun i => i = g) := Chg.set _ _ _ rfl
   have st := Lib.hid (HC.out.setRows k5 (some ⟨gF, 0, none⟩) cF (a.fx ++ [(⟨K.next, ev, p⟩, Ap, cp)]) a.A1 a.c1 a.A2 a.c2 a.Ao a.cO a.ox { K with fs := K.fs ++ [⟨K.next, ev, p⟩], next := K.next + 1 } rfl rfl hd5
    (by rw [List.map_append, HC.out.fx]; rfl)
    (by rw [ln, filsC_snoc]; exact CX.out.2.2.1.chg kx (fun x e h => by cases e; have h1 := CX.out.2.2.2.1; have h2 := HGL.out; have h' : gF = g := h; omega))
    (fun x hx => by
      rcases List.mem_append.1 hx with hx | hx
      ·exact HC.out.fpC k5 HC.out.hB x hx
      ·rw [List.mem_singleton.1 hx]
       exact ⟨prg_chg (HP.out.new BC.out) k5 (fun y e hl h => by have h1 := GP.out y e hl; have h2 := HC.out.hB _ h; omega), GP.out⟩)
    (HC.out.in1C k5 HC.out.hR) (HC.out.in2C k5 HC.out.hR) HC.out.ox (HC.out.outC k5 HC.out.hR) (HC.out.opC k5 HC.out.hB)
    (fun x e => by
      rcases e with e | e | e | e
      ·cases e; exact .inr ⟨CX.out.2.2.2.1, Nat.lt_of_lt_of_le CX.out.2.2.2.2 kx.size⟩
      ·exact .inl (.inr (.inl ⟨x, e, rfl⟩))
      ·exact .inl (.inr (.inr (.inl ⟨x, e, rfl⟩)))
      ·exact .inl (.inr (.inr (.inr ⟨x, e, rfl⟩)))))
   have c3' : (wc.setCell ⟨g, 3, none⟩ (.int .i64 ((K.next : Int) + 1))).cell? ⟨g, 3, none⟩ = some (.int .i64 ((K.next : Int) + 1)) := (CX.out.2.1.put 3 (.int .i64 ((K.next : Int) + 1))).cell 3
   clear k5 hd5 kx ln c3 f3
   generalize wc.setCell ⟨g, 3, none⟩ (.int .i64 ((K.next : Int) + 1)) = wy at *
   go_wp2
   go_ret3
   exact rcpost_of ER.out ((st.out.first BC.out).first B1.out)
end
end Go.Proofs.YtbkjjakkihbcdaaGreat.Rk
