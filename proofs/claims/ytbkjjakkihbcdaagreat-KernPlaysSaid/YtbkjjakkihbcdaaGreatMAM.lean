/- The document's disk: a Write that waits. Conditions: those that each states. -/
import Derived.Test.YtbkjjakkihbcdaaGreatMAL
import Derived.Test.YtbkjjakkihbcdaaGreatMAA
import Derived.Test.YtbkjjakkihbcdaaGreatMAG
import Derived.Test.YtbkjjakkihbcdaaGreatMAJ
import Derived.Deep.Slices
import Derived.ChangeSame
import Derived.Test.YtbkjjakkihbcdaaGreatMAC
import Derived.Test.YtbkjjakkihbcdaaGreatMAD
import Derived.Test.YtbkjjakkihbcdaaGreatMAH
import Derived.Test.YtbkjjakkihbcdaaGreatMAI
import Derived.Test.YtbkjjakkihbcdaaGreatMGD
namespace Go.Proofs.YtbkjjakkihbcdaaGreat.RE
open Go.ChangeShapes Go.WideShapes Go.ChangeAt Go.RowKit Go.Deep Di
set_option linter.unusedVariables false
section
variable {w w' w1 w2 : World} {gm bt bo ct co cl cl' co' ct' : Nat} {Al Al' : Option Addr} {d d' : Dk} {S R : Nat → Prop}
theorem wr2_infos : (Tryz.prog.info? 184).map (fun i => (i.zero.map (·.cells.size), i.size, i.bytes)) = some (some 2, 2, 24) := by kernel_rfl
theorem wr2_info : ∃ i0 z, Tryz.prog.info? 184 = some i0 ∧ i0.zero = some z ∧ z.cells.size = 2 ∧ i0.size = 2 ∧ i0.bytes = 24 := by
 obtain ⟨i, hi, hs⟩ := Option.map_eq_some_iff.1 wr2_infos
 simp only [Prod.mk.injEq] at hs
 obtain ⟨h0, h1, h2⟩ := hs
 obtain ⟨z, hz, hzs⟩ := Option.map_eq_some_iff.1 h0
 exact ⟨i, z, hi, hz, hzs, h1, h2⟩
def addL (d : Dk) (b : Nat) (t : List UInt8) : Dk := { d with line := d.line ++ [⟨b, t⟩] }
theorem lineD_snoc (l : List Wr) (q : Wr) : lineD (l ++ [q]) = lineD l ++ Wr.two q := by unfold lineD; simp
theorem one_lineD (l : List Wr) : ∀ u ∈ lineD l, u.oneCell' = true := by
 intro u hu
 unfold lineD at hu
 rw [List.mem_flatten] at hu
 obtain ⟨r, hr, hu⟩ := hu
 obtain ⟨q, _, rfl⟩ := List.mem_map.1 hr
 rcases List.mem_cons.1 hu with rfl | hu
 ·rfl
 ·rw [List.mem_singleton.1 hu]; rfl
theorem one_two (q : Wr) : ∀ u ∈ Wr.two q, u.oneCell' = true := by
 intro u hu
 rcases List.mem_cons.1 hu with rfl | hu
 ·rfl
 ·rw [List.mem_singleton.1 hu]; rfl
theorem lay_done (h : RefAt w gm bt bo ct co Al cl d) (hb : Below w.heap.size w w') {g cap b : Nat} {t : List UInt8}
  (hown : w'.ownsRow w.heap.size 184 2 (.slice (some ⟨g, 0, none⟩) (d.line.length + 1) cap) (d.line.length + 1) (lineD d.line ++ Wr.two (Wr.mk b t))) (ok : (addL d b t).Ok) :
  RefAt (w'.setCell ⟨gm, 2, none⟩ (.slice (some ⟨g, 0, none⟩) (d.line.length + 1) cap)) gm bt bo ct co (some ⟨g, 0, none⟩) cap (addL d b t) ∧ Chg w (w'.setCell ⟨gm, 2, none⟩ (.slice (some ⟨g, 0, none⟩) (d.line.length + 1) cap)) (rfoot gm bt bo Al) ∧ w.heap.size ≤ g := by
 have hg : w.heap.size ≤ g := (hown.lt g rfl).1
 have lm := h.lt (k := gm) (.inl rfl)
 have lt := h.lt (k := bt) (.inr (.inl rfl))
 have lo := h.lt (k := bo) (.inr (.inr (.inl rfl)))
 have h' := h.new hb
 have k : Chg w' (w'.setCell ⟨gm, 2, none⟩ (.slice (some ⟨g, 0, none⟩) (d.line.length + 1) cap)) (fun k => k = gm) := Chg.set _ _ _ rfl
 have hl : (addL d b t).line.length = d.line.length + 1 := by unfold addL; simp
 refine ⟨⟨?_, h'.text.chg k (fun e => h.nt (by have e' : bt = gm := e; exact e'.symm)), h'.own.chg k (fun e => h.no (by have e' : bo = gm := e; exact e'.symm)), ?_, h.nt, h.no, h.tn, ?_, ?_, ?_, ok⟩, (Chg.of_new hb _).trans (k.weak (fun i hi => .inl hi)), hg⟩
 ·have := h'.head.put 2 (.slice (some ⟨g, 0, none⟩) (d.line.length + 1) cap)
  rw [hl]
  show Blk _ _ _ #[.slice (some ⟨bt, 0, none⟩) d.blocks.length ct, .slice (some ⟨bo, 0, none⟩) d.blocks.length co, .slice (some ⟨g, 0, none⟩) (d.line.length + 1) cap, .bool (!d.on), .int .i64 d.armed]
  simpa using this
 ·rw [hl]
  have e : lineD (addL d b t).line = lineD d.line ++ Wr.two (Wr.mk b t) := lineD_snoc _ _
  rw [e]
  have r : RowW w' 184 2 (some ⟨g, 0, none⟩) (d.line.length + 1) cap (lineD d.line ++ Wr.two (Wr.mk b t)) := ⟨owns_mono hown (Nat.zero_le _)⟩
  exact r.chg k (fun b hb e => by have e' : b = gm := e; have := inB_some hb; omega)
 ·intro e; have := inB_some e; omega
 ·intro e; have := inB_some e; omega
 ·intro e; have := inB_some e; omega
set_option maxRecDepth 100000 in
set_option maxHeartbeats 4000000 in
theorem rdo2_lay1 (h : RefAt w gm bt bo ct co Al cl d) (env a b : Int) (s : ByteArray) (he : askE d env a = 0) (hs : s.size = 256) (hcnt : d.line.length < 1000000) (h0 : d.armed = -1) :
  Calls Tryz.prog 42 #[.pointer (some ⟨gm, 0, none⟩), .agg #[.int .i64 2, .int .i64 env, .int .i64 a, .int .i64 b, .string s]] w (RPost w gm bt bo Al (laid d a.toNat s.data.toList) [] 0) := by
 obtain ⟨_, bk, rfl, hbl, _⟩ := askE_zero he
 rw [Int.toNat_natCast]
 have hsl : s.data.toList.length = 256 := by rw [Array.length_toList]; exact hs
 have OK := Lib.hid (show (addL d bk s.data.toList).Ok from by
  have := h.ok.laid hbl hsl (by omega)
  have e : laid d bk s.data.toList = addL d bk s.data.toList := by unfold laid addL; rw [if_pos h0, ← h0]
  rw [← e]; exact this)
 have EQ : laid d bk s.data.toList = addL d bk s.data.toList := by unfold laid addL; rw [if_pos h0, ← h0]
 rw [EQ]
 clear EQ
 have hB := (Below.refl w.heap.size w).alloc (Nat.le_refl _) (.cells #[.int .i64 2, .int .i64 env, .int .i64 (bk : Int), .int .i64 b, .string s] 115)
 have hq := Blk.new w 115 #[.int .i64 2, .int .i64 env, .int .i64 (bk : Int), .int .i64 b, .string s]
 have H := Lib.hid (h.new hB)
 have HB := Lib.hid hB
 have HQ := Lib.hid hq
 have hgl := h.head.lt
 clear hB hq
 go_enter Tryz.func42, Tryz.ntmps42
 go_upto_region 1 with fail
 generalize (w.alloc (.cells #[.int .i64 2, .int .i64 env, .int .i64 (bk : Int), .int .i64 b, .string s] 115)) = w1 at *
 obtain ⟨a0, a1, a2, a3, a4⟩ := act_cells HQ.out
 obtain ⟨c0, c1, c2, c3, c4⟩ := H.out.heads
 have f2 := H.out.head.frozen 2
 have f3 := H.out.head.frozen 3
 have f4 := H.out.head.frozen 4
 have ok := H.out.ok
 clear h
 obtain ⟨iw, zw, hi, hz, hzc, hs2, hby⟩ := wr2_info
 have INF := Lib.hid (And.intro hi (And.intro hz (And.intro hzc (And.intro hs2 hby))))
 clear hi hz hzc hs2 hby
 have MAY := Lib.hid (rmay_any H.out env bk)
 rw [he] at MAY
 rw [h0] at c4
 clear he h0
 go_wp2_with fail
 refine MAY.out.mono ?_; rintro e wm ⟨rfl, rfl⟩
 have DD := H
 have FINOF := Lib.hid (show ∀ (W' : World) (g cap : Nat), Below wm.heap.size wm W' → W'.ownsRow wm.heap.size 184 2 (.slice (some ⟨g, 0, none⟩) (d.line.length + 1) cap) (d.line.length + 1) (lineD d.line ++ Wr.two (Wr.mk bk s.data.toList)) → ∃ R', RA (W'.setCell ⟨gm, 2, none⟩ (.slice (some ⟨g, 0, none⟩) (d.line.length + 1) cap)) R' gm _ ∧ Step w (W'.setCell ⟨gm, 2, none⟩ (.slice (some ⟨g, 0, none⟩) (d.line.length + 1) cap)) (rfoot gm bt bo Al) R' from fun W' g cap h1 h2 => by
  obtain ⟨l1, l2, l3⟩ := lay_done DD.out h1 h2 OK.out
  refine post_of l1 HB.out ((Chg.refl wm (rfoot gm bt bo Al)).trans l2) (fun i hi => .inr ?_)
  have := inB_some hi
  have := HB.out.size
  have := (Chg.refl wm (rfoot gm bt bo Al)).size
  omega)
 go_wp2_with fail
 have hgl := DD.out.head.lt
 have hq1 : w.heap.size < wm.heap.size := HQ.out.lt
 have hb0 : Below wm.heap.size wm (wm).drew := ⟨rfl, rfl, rfl, Nat.le_refl _, fun _ _ => rfl⟩
 have LL := Lib.hid (show ∀ W' : World, Below wm.heap.size wm W' → (Instr.loadAt 72 (.pointer (some ⟨gm, 2, none⟩))).run Tryz.prog W' = .ok (.slice Al d.line.length cl) W' from fun W' h => by have := (h.cell (p := ⟨gm, 2, none⟩) hgl).trans c2; go_simp)
 have L2 := Lib.hid (show ∀ W' : World, Below wm.heap.size wm W' → (Instr.loadAt 3 (.pointer (some ⟨w.heap.size, 2, none⟩))).run Tryz.prog W' = .ok (.int .i64 (bk : Int)) W' from fun W' h => by have := (h.cell (p := ⟨w.heap.size, 2, none⟩) hq1).trans a2; go_simp)
 have L4 := Lib.hid (show ∀ W' : World, Below wm.heap.size wm W' → (Instr.loadAt 9 (.pointer (some ⟨w.heap.size, 4, none⟩))).run Tryz.prog W' = .ok (.string s) W' from fun W' h => by have := (h.cell (p := ⟨w.heap.size, 4, none⟩) hq1).trans a4; go_simp)
 have BD := Lib.hid (show ∀ W' : World, (Instr.build 184 #[(0, .int .i64 (bk : Int)), (1, .string s)]).run Tryz.prog W' = .ok (.agg #[.int .i64 (bk : Int), .string s]) W' from fun W' => by go_simp)
 have BS0 := Lib.hid (show ∀ W' : World, (Instr.buildSlice 72 0 #[]).run Tryz.prog W' = .ok (.slice (some ⟨W'.heap.size, 0, none⟩) 0 0) (W'.alloc (.cells #[] 184)) from fun W' => by go_simp)
 have BS1 := Lib.hid (show ∀ W' : World, (Instr.buildSlice 72 1 #[(0, (.agg #[.int .i64 (bk : Int), .string s]))]).run Tryz.prog W' = .ok (.slice (some ⟨W'.heap.size, 0, none⟩) 1 1) (W'.alloc (.cells #[.int .i64 (bk : Int), .string s] 184)) from fun W' => by go_simp)
 refine wp_head_held (S := Below wm.heap.size wm) 16 (by kernel_rfl) rfl rfl (by kernel_rfl) ?_
 simp only [List.take_succ_cons, List.take_zero, List.drop_succ_cons, List.drop_zero]
 refine ht 0 (some 146) (v := .pointer (some ⟨gm, 0, none⟩)) rfl rfl (fun w _ => by go_simp) hb0 ?_
 refine ht 2 (some 148) (v := .pointer (some ⟨gm, 0, none⟩)) rfl rfl (fun w _ => by go_simp) hb0 ?_
 simp only [Act.put, List.setIfInBounds_toArray, List.set_cons_zero, List.set_cons_succ]
 refine ht 3 (some 149) (v := .pointer (some ⟨gm, 0, none⟩)) rfl rfl (fun w _ => by go_simp) hb0 ?_
 refine ht 4 (some 150) (v := .pointer (some ⟨gm, 2, none⟩)) rfl rfl (fun w _ => by go_simp) hb0 ?_
 simp only [Act.put, List.setIfInBounds_toArray, List.set_cons_zero, List.set_cons_succ]
 refine ht 5 (some 151) (v := .slice Al d.line.length cl) rfl rfl (fun w hw => exec_load (y := .pointer (some ⟨gm, 2, none⟩)) rfl rfl (LL.out w hw)) hb0 ?_
 refine ht 7 (some 153) (v := .pointer (some ⟨w.heap.size, 2, none⟩)) rfl rfl (fun w _ => by go_simp) hb0 ?_
 simp only [Act.put, List.setIfInBounds_toArray, List.set_cons_zero, List.set_cons_succ]
 refine ht 8 (some 154) (v := .int .i64 (bk : Int)) rfl rfl (fun w' hw => exec_load (y := .pointer (some ⟨w.heap.size, 2, none⟩)) rfl rfl (L2.out w' hw)) hb0 ?_
 refine ht 9 (some 155) (v := .pointer (some ⟨w.heap.size, 4, none⟩)) rfl rfl (fun w _ => by go_simp) hb0 ?_
 simp only [Act.put, List.setIfInBounds_toArray, List.set_cons_zero, List.set_cons_succ]
 refine ht 10 (some 156) (v := .string s) rfl rfl (fun w' hw => exec_load (y := .pointer (some ⟨w.heap.size, 4, none⟩)) rfl rfl (L4.out w' hw)) hb0 ?_
 refine ht 11 (some 157) (v := (.agg #[.int .i64 (bk : Int), .string s])) rfl rfl (fun w' _ => exec_build' (ps := #[(0, .int .i64 (bk : Int)), (1, .string s)]) rfl (by go_simp) BD.out w') hb0 ?_
 simp only [Act.put, List.setIfInBounds_toArray, List.set_cons_zero, List.set_cons_succ]
 refine held_two (i := 1) (j := 12) (by kernel_rfl) rfl rfl (by rfl) (by rfl) ?_ ?_
 ·have hb1 : Below wm.heap.size wm (((wm).drew).alloc (.cells #[] 184)) := hb0.alloc hb0.size _
  have r1 : ((((wm).drew).alloc (.cells #[] 184))).ownsRow wm.heap.size 184 2 (.slice (some ⟨((wm).drew).heap.size, 0, none⟩) 0 0) 0 [] := World.ownsRow_lit ((wm).drew) #[] 0 hb0.size (by decide) rfl
  refine wp_slice_d (d := some 147) (ps := #[]) rfl rfl (by go_simp) (BS0.out _) ?_
  refine ⟨hb1, ?_⟩
  simp only [Act.put, List.setIfInBounds_toArray, List.set_cons_zero, List.set_cons_succ]
  refine held_two (i := 6) (j := 12) (by kernel_rfl) rfl rfl (by rfl) (by rfl) ?_ ?_
  ·refine wp_append_copy (d := some 152) rfl (.tmp 147) (.tmp 151) 72 rfl wm.heap.size 184 iw zw 2 24 Tryz.underlying72 INF.out.1 INF.out.2.1 INF.out.2.2.2.1 INF.out.2.2.2.2 INF.out.2.2.1 (by decide) _ 0 [] rfl r1 Al d.line.length cl (lineD d.line) rfl (DD.out.new hb1).line.own (one_lineD _) (by unfold maxLen; omega) (by omega) hb1.size ?_
   intro v1 w_2 ho2 hg2 hat2
   rw [Nat.zero_add, List.nil_append] at ho2
   have hb2 : Below wm.heap.size wm w_2 := hb1.grown hg2 hb1.size (fun k e => (r1.lt k e).1)
   refine ⟨hb2, ?_⟩
   simp only [Act.put, List.setIfInBounds_toArray, List.set_cons_zero, List.set_cons_succ]
   refine held_one (i := 12) (by kernel_rfl) rfl (by rfl) ?_
   have hb3 : Below wm.heap.size wm ((w_2).alloc (.cells #[.int .i64 (bk : Int), .string s] 184)) := hb2.alloc hb2.size _
   have n3 : Blk ((w_2).alloc (.cells #[.int .i64 (bk : Int), .string s] 184)) (w_2).heap.size 184 #[.int .i64 (bk : Int), .string s] := Blk.new (w_2) 184 _
   refine wp_slice_d (d := some 158) (ps := #[(0, (.agg #[.int .i64 (bk : Int), .string s]))]) rfl rfl (by go_simp) (BS1.out _) ?_
   refine ⟨hb3, ?_⟩
   simp only [Act.put, List.setIfInBounds_toArray, List.set_cons_zero, List.set_cons_succ]
   refine held_one (i := 13) (by kernel_rfl) rfl (by rfl) ?_
   refine wp_append_d (d := some 159) rfl (.tmp 152) (.tmp 158) 72 rfl wm.heap.size 184 iw zw 2 24 Tryz.underlying72 INF.out.1 INF.out.2.1 INF.out.2.2.2.1 INF.out.2.2.2.2 INF.out.2.2.1 (by decide) v1 d.line.length (lineD d.line) rfl (ho2.alloc _) ⟨w_2.heap.size, 0, none⟩ 1 1 [.int .i64 (bk : Int), .string s] rfl rfl (World.news_of_block n3) (one_two ⟨bk, s.data.toList⟩) (by decide) (by unfold maxLen; omega) (by omega) hb3.size ?_
   intro g cap w_4 ho4 hg4 hat4 hl4
   have hb4 : Below wm.heap.size wm w_4 := hb3.grown hg4 hb3.size (fun k e => (ho2.lt k e).1)
   refine ⟨hb4, ?_⟩
   refine ht 14 (some 160) (v := .pointer (some ⟨gm, 0, none⟩)) rfl rfl (fun w _ => by go_simp) hb4 ?_
   simp only [Act.put, List.setIfInBounds_toArray, List.set_cons_zero, List.set_cons_succ]
   refine ht 15 (some 161) (v := .pointer (some ⟨gm, 2, none⟩)) rfl rfl (fun w _ => by go_simp) hb4 ?_
   simp only [Act.put, List.setIfInBounds_toArray, List.set_cons_zero, List.set_cons_succ]
   refine wpAnyH_done (by kernel_rfl) ?_ _
   have FIN := Lib.hid (FINOF.out w_4 g cap hb4 ho4)
   have c2' : w_4.cell? ⟨gm, 2, none⟩ = some (.slice Al d.line.length cl) := (hb4.cell (p := ⟨gm, 2, none⟩) hgl).trans c2
   have f2' : w_4.frozen? ⟨gm, 2, none⟩ = false := (hb4.frozen (p := ⟨gm, 2, none⟩) hgl).trans f2
   clear ho2 hg2 hat2 ho4 hg4 hat4 hl4 hb0 hb1 hb2 hb3 hb4 r1 n3
   show wpList _ _ _ _ _ _
   go_wp2
   go_ret2
   exact ⟨rfl, FIN.out⟩
  ·have hb2 : Below wm.heap.size wm (((((wm).drew).alloc (.cells #[] 184))).alloc (.cells #[.int .i64 (bk : Int), .string s] 184)) := hb1.alloc hb1.size _
   have n2 : Blk (((((wm).drew).alloc (.cells #[] 184))).alloc (.cells #[.int .i64 (bk : Int), .string s] 184)) ((((wm).drew).alloc (.cells #[] 184))).heap.size 184 #[.int .i64 (bk : Int), .string s] := Blk.new ((((wm).drew).alloc (.cells #[] 184))) 184 _
   refine wp_slice_d (d := some 158) (ps := #[(0, (.agg #[.int .i64 (bk : Int), .string s]))]) rfl rfl (by go_simp) (BS1.out _) ?_
   refine ⟨hb2, ?_⟩
   simp only [Act.put, List.setIfInBounds_toArray, List.set_cons_zero, List.set_cons_succ]
   refine held_one (i := 6) (by kernel_rfl) rfl (by rfl) ?_
   refine wp_append_copy (d := some 152) rfl (.tmp 147) (.tmp 151) 72 rfl wm.heap.size 184 iw zw 2 24 Tryz.underlying72 INF.out.1 INF.out.2.1 INF.out.2.2.2.1 INF.out.2.2.2.2 INF.out.2.2.1 (by decide) _ 0 [] rfl (r1.alloc _) Al d.line.length cl (lineD d.line) rfl (DD.out.new hb2).line.own (one_lineD _) (by unfold maxLen; omega) (by omega) hb2.size ?_
   intro v1 w_3 ho3 hg3 hat3
   rw [Nat.zero_add, List.nil_append] at ho3
   have hb3 : Below wm.heap.size wm w_3 := hb2.grown hg3 hb2.size (fun k e => (r1.lt k e).1)
   refine ⟨hb3, ?_⟩
   simp only [Act.put, List.setIfInBounds_toArray, List.set_cons_zero, List.set_cons_succ]
   have n3 := n2.chg (chg_of_grown (A := some ⟨(wm).drew.heap.size, 0, none⟩) (Below.refl _ _) hg3) (fun e => by have := inB_some e; simp at this)
   refine held_one (i := 13) (by kernel_rfl) rfl (by rfl) ?_
   refine wp_append_d (d := some 159) rfl (.tmp 152) (.tmp 158) 72 rfl wm.heap.size 184 iw zw 2 24 Tryz.underlying72 INF.out.1 INF.out.2.1 INF.out.2.2.2.1 INF.out.2.2.2.2 INF.out.2.2.1 (by decide) v1 d.line.length (lineD d.line) rfl ho3 ⟨((((wm).drew).alloc (.cells #[] 184))).heap.size, 0, none⟩ 1 1 [.int .i64 (bk : Int), .string s] rfl rfl (World.news_of_block n3) (one_two ⟨bk, s.data.toList⟩) (by decide) (by unfold maxLen; omega) (by omega) hb3.size ?_
   intro g cap w_4 ho4 hg4 hat4 hl4
   have hb4 : Below wm.heap.size wm w_4 := hb3.grown hg4 hb3.size (fun k e => (ho3.lt k e).1)
   refine ⟨hb4, ?_⟩
   refine ht 14 (some 160) (v := .pointer (some ⟨gm, 0, none⟩)) rfl rfl (fun w _ => by go_simp) hb4 ?_
   simp only [Act.put, List.setIfInBounds_toArray, List.set_cons_zero, List.set_cons_succ]
   refine ht 15 (some 161) (v := .pointer (some ⟨gm, 2, none⟩)) rfl rfl (fun w _ => by go_simp) hb4 ?_
   simp only [Act.put, List.setIfInBounds_toArray, List.set_cons_zero, List.set_cons_succ]
   refine wpAnyH_done (by kernel_rfl) ?_ _
   have FIN := Lib.hid (FINOF.out w_4 g cap hb4 ho4)
   have c2' : w_4.cell? ⟨gm, 2, none⟩ = some (.slice Al d.line.length cl) := (hb4.cell (p := ⟨gm, 2, none⟩) hgl).trans c2
   have f2' : w_4.frozen? ⟨gm, 2, none⟩ = false := (hb4.frozen (p := ⟨gm, 2, none⟩) hgl).trans f2
   clear ho3 hg3 hat3 ho4 hg4 hat4 hl4 hb0 hb1 hb2 hb3 hb4 r1 n2 n3
   show wpList _ _ _ _ _ _
   go_wp2
   go_ret2
   exact ⟨rfl, FIN.out⟩
 ·have hb1 : Below wm.heap.size wm (((wm).drew).alloc (.cells #[.int .i64 (bk : Int), .string s] 184)) := hb0.alloc hb0.size _
  have n1 : Blk (((wm).drew).alloc (.cells #[.int .i64 (bk : Int), .string s] 184)) ((wm).drew).heap.size 184 #[.int .i64 (bk : Int), .string s] := Blk.new ((wm).drew) 184 _
  refine wp_slice_d (d := some 158) (ps := #[(0, (.agg #[.int .i64 (bk : Int), .string s]))]) rfl rfl (by go_simp) (BS1.out _) ?_
  refine ⟨hb1, ?_⟩
  simp only [Act.put, List.setIfInBounds_toArray, List.set_cons_zero, List.set_cons_succ]
  refine held_one (i := 1) (by kernel_rfl) rfl (by rfl) ?_
  have hb2 : Below wm.heap.size wm (((((wm).drew).alloc (.cells #[.int .i64 (bk : Int), .string s] 184))).alloc (.cells #[] 184)) := hb1.alloc hb1.size _
  have r2 : ((((((wm).drew).alloc (.cells #[.int .i64 (bk : Int), .string s] 184))).alloc (.cells #[] 184))).ownsRow wm.heap.size 184 2 (.slice (some ⟨((((wm).drew).alloc (.cells #[.int .i64 (bk : Int), .string s] 184))).heap.size, 0, none⟩) 0 0) 0 [] := World.ownsRow_lit ((((wm).drew).alloc (.cells #[.int .i64 (bk : Int), .string s] 184))) #[] 0 hb1.size (by decide) rfl
  refine wp_slice_d (d := some 147) (ps := #[]) rfl rfl (by go_simp) (BS0.out _) ?_
  refine ⟨hb2, ?_⟩
  simp only [Act.put, List.setIfInBounds_toArray, List.set_cons_zero, List.set_cons_succ]
  refine held_one (i := 6) (by kernel_rfl) rfl (by rfl) ?_
  refine wp_append_copy (d := some 152) rfl (.tmp 147) (.tmp 151) 72 rfl wm.heap.size 184 iw zw 2 24 Tryz.underlying72 INF.out.1 INF.out.2.1 INF.out.2.2.2.1 INF.out.2.2.2.2 INF.out.2.2.1 (by decide) _ 0 [] rfl r2 Al d.line.length cl (lineD d.line) rfl (DD.out.new hb2).line.own (one_lineD _) (by unfold maxLen; omega) (by omega) hb2.size ?_
  intro v1 w_3 ho3 hg3 hat3
  rw [Nat.zero_add, List.nil_append] at ho3
  have hb3 : Below wm.heap.size wm w_3 := hb2.grown hg3 hb2.size (fun k e => (r2.lt k e).1)
  refine ⟨hb3, ?_⟩
  simp only [Act.put, List.setIfInBounds_toArray, List.set_cons_zero, List.set_cons_succ]
  have n3 := (n1.chg (Chg.of_new ((Below.refl _ _).alloc (Nat.le_refl _) (.cells #[] 184)) (fun _ => False)) (fun e => e)).chg (chg_of_grown (A := some ⟨(((wm).drew).alloc (.cells #[.int .i64 (bk : Int), .string s] 184)).heap.size, 0, none⟩) (Below.refl _ _) hg3) (fun e => by have := inB_some e; simp at this)
  refine held_one (i := 13) (by kernel_rfl) rfl (by rfl) ?_
  refine wp_append_d (d := some 159) rfl (.tmp 152) (.tmp 158) 72 rfl wm.heap.size 184 iw zw 2 24 Tryz.underlying72 INF.out.1 INF.out.2.1 INF.out.2.2.2.1 INF.out.2.2.2.2 INF.out.2.2.1 (by decide) v1 d.line.length (lineD d.line) rfl ho3 ⟨((wm).drew).heap.size, 0, none⟩ 1 1 [.int .i64 (bk : Int), .string s] rfl rfl (World.news_of_block n3) (one_two ⟨bk, s.data.toList⟩) (by decide) (by unfold maxLen; omega) (by omega) hb3.size ?_
  intro g cap w_4 ho4 hg4 hat4 hl4
  have hb4 : Below wm.heap.size wm w_4 := hb3.grown hg4 hb3.size (fun k e => (ho3.lt k e).1)
  refine ⟨hb4, ?_⟩
  refine ht 14 (some 160) (v := .pointer (some ⟨gm, 0, none⟩)) rfl rfl (fun w _ => by go_simp) hb4 ?_
  simp only [Act.put, List.setIfInBounds_toArray, List.set_cons_zero, List.set_cons_succ]
  refine ht 15 (some 161) (v := .pointer (some ⟨gm, 2, none⟩)) rfl rfl (fun w _ => by go_simp) hb4 ?_
  simp only [Act.put, List.setIfInBounds_toArray, List.set_cons_zero, List.set_cons_succ]
  refine wpAnyH_done (by kernel_rfl) ?_ _
  have FIN := Lib.hid (FINOF.out w_4 g cap hb4 ho4)
  have c2' : w_4.cell? ⟨gm, 2, none⟩ = some (.slice Al d.line.length cl) := (hb4.cell (p := ⟨gm, 2, none⟩) hgl).trans c2
  have f2' : w_4.frozen? ⟨gm, 2, none⟩ = false := (hb4.frozen (p := ⟨gm, 2, none⟩) hgl).trans f2
  clear ho3 hg3 hat3 ho4 hg4 hat4 hl4 hb0 hb1 hb2 hb3 hb4 r2 n1 n3
  show wpList _ _ _ _ _ _
  go_wp2
  go_ret2
  exact ⟨rfl, FIN.out⟩

set_option maxRecDepth 100000 in
set_option maxHeartbeats 4000000 in
theorem rdo2_lay2 (h : RefAt w gm bt bo ct co Al cl d) (env a b : Int) (s : ByteArray) (he : askE d env a = 0) (hs : s.size = 256) (hcnt : d.line.length < 1000000) (h0 : d.armed ≠ 0) (hm : d.armed ≠ -1) :
  Calls Tryz.prog 42 #[.pointer (some ⟨gm, 0, none⟩), .agg #[.int .i64 2, .int .i64 env, .int .i64 a, .int .i64 b, .string s]] w (RPost w gm bt bo Al (laid d a.toNat s.data.toList) [] 0) := by
 obtain ⟨_, bk, rfl, hbl, _⟩ := askE_zero he
 rw [Int.toNat_natCast]
 have hsl : s.data.toList.length = 256 := by rw [Array.length_toList]; exact hs
 have har := h.ok.ar
 have h1 : 0 < d.armed := by omega
 have h1' : d.armed > 0 := h1
 have EQ : laid d bk s.data.toList = addL { d with armed := d.armed - 1 } bk s.data.toList := by unfold laid addL; rw [if_neg hm]
 have OK := Lib.hid (show (addL { d with armed := d.armed - 1 } bk s.data.toList).Ok from by rw [← EQ]; exact h.ok.laid hbl hsl h0)
 rw [EQ]
 clear EQ
 have h0' : (d.armed == 0) = false := beq_eq_false_iff_ne.2 h0
 have xs := IntWalk.i64_in (d.armed - 1) (by omega)
 have hB := (Below.refl w.heap.size w).alloc (Nat.le_refl _) (.cells #[.int .i64 2, .int .i64 env, .int .i64 (bk : Int), .int .i64 b, .string s] 115)
 have hq := Blk.new w 115 #[.int .i64 2, .int .i64 env, .int .i64 (bk : Int), .int .i64 b, .string s]
 have H := Lib.hid (h.new hB)
 have HB := Lib.hid hB
 have HQ := Lib.hid hq
 have hgl := h.head.lt
 clear hB hq
 go_enter Tryz.func42, Tryz.ntmps42
 go_upto_region 1 with fail
 generalize (w.alloc (.cells #[.int .i64 2, .int .i64 env, .int .i64 (bk : Int), .int .i64 b, .string s] 115)) = w1 at *
 obtain ⟨a0, a1, a2, a3, a4⟩ := act_cells HQ.out
 obtain ⟨c0, c1, c2, c3, c4⟩ := H.out.heads
 have f2 := H.out.head.frozen 2
 have f3 := H.out.head.frozen 3
 have f4 := H.out.head.frozen 4
 have ok := H.out.ok
 clear h
 obtain ⟨iw, zw, hi, hz, hzc, hs2, hby⟩ := wr2_info
 have INF := Lib.hid (And.intro hi (And.intro hz (And.intro hzc (And.intro hs2 hby))))
 clear hi hz hzc hs2 hby
 have MAY := Lib.hid (rmay_any H.out env bk)
 rw [he] at MAY
 clear he h0 hm
 go_wp2_with fail
 refine MAY.out.mono ?_; rintro e wm ⟨rfl, rfl⟩
 have LST := Lib.hid (H.out.setLeft (d.armed - 1) (by omega))
 have hq4 : ¬ gm = w.heap.size := by omega
 go_upto_region 31 with fail
 have q2 := (HQ.out.chg (Chg.set (S := fun k => k = gm) wm 4 (.int .i64 (d.armed - 1)) rfl) (fun e => hq4 (by have e' : w.heap.size = gm := e; exact e'.symm)))
 generalize hW : wm.setCell ⟨gm, 4, none⟩ (.int .i64 (d.armed - 1)) = wn at *
 clear hW c0 c1 c2 c3 c4 f2 f3 f4 a0 a1 a2 a3 a4
 obtain ⟨a0, a1, a2, a3, a4⟩ := act_cells q2
 obtain ⟨c0, c1, c2, c3, c4⟩ := LST.out.1.heads
 have f2 := LST.out.1.head.frozen 2
 have HQ := Lib.hid q2
 clear q2 hgl
 have KK := Lib.hid LST.out.2
 have DD := Lib.hid LST.out.1
 clear LST
 generalize hd : ({ d with armed := d.armed - 1 } : Dk) = dd at *
 have hll : d.line = dd.line := by rw [← hd]
 rw [hll] at hcnt
 have FINOF := Lib.hid (show ∀ (W' : World) (g cap : Nat), Below wn.heap.size wn W' → W'.ownsRow wn.heap.size 184 2 (.slice (some ⟨g, 0, none⟩) (dd.line.length + 1) cap) (dd.line.length + 1) (lineD dd.line ++ Wr.two (Wr.mk bk s.data.toList)) → ∃ R', RA (W'.setCell ⟨gm, 2, none⟩ (.slice (some ⟨g, 0, none⟩) (dd.line.length + 1) cap)) R' gm _ ∧ Step w (W'.setCell ⟨gm, 2, none⟩ (.slice (some ⟨g, 0, none⟩) (dd.line.length + 1) cap)) (rfoot gm bt bo Al) R' from fun W' g cap h1 h2 => by
  obtain ⟨l1, l2, l3⟩ := lay_done DD.out h1 h2 OK.out
  refine post_of l1 HB.out ((KK.out).trans l2) (fun i hi => .inr ?_)
  have := inB_some hi
  have := HB.out.size
  have := (KK.out).size
  omega)
 have hgl := DD.out.head.lt
 have hq1 : w.heap.size < wn.heap.size := HQ.out.lt
 have hb0 : Below wn.heap.size wn (wn).drew := ⟨rfl, rfl, rfl, Nat.le_refl _, fun _ _ => rfl⟩
 have LL := Lib.hid (show ∀ W' : World, Below wn.heap.size wn W' → (Instr.loadAt 72 (.pointer (some ⟨gm, 2, none⟩))).run Tryz.prog W' = .ok (.slice Al dd.line.length cl) W' from fun W' h => by have := (h.cell (p := ⟨gm, 2, none⟩) hgl).trans c2; go_simp)
 have L2 := Lib.hid (show ∀ W' : World, Below wn.heap.size wn W' → (Instr.loadAt 3 (.pointer (some ⟨w.heap.size, 2, none⟩))).run Tryz.prog W' = .ok (.int .i64 (bk : Int)) W' from fun W' h => by have := (h.cell (p := ⟨w.heap.size, 2, none⟩) hq1).trans a2; go_simp)
 have L4 := Lib.hid (show ∀ W' : World, Below wn.heap.size wn W' → (Instr.loadAt 9 (.pointer (some ⟨w.heap.size, 4, none⟩))).run Tryz.prog W' = .ok (.string s) W' from fun W' h => by have := (h.cell (p := ⟨w.heap.size, 4, none⟩) hq1).trans a4; go_simp)
 have BD := Lib.hid (show ∀ W' : World, (Instr.build 184 #[(0, .int .i64 (bk : Int)), (1, .string s)]).run Tryz.prog W' = .ok (.agg #[.int .i64 (bk : Int), .string s]) W' from fun W' => by go_simp)
 have BS0 := Lib.hid (show ∀ W' : World, (Instr.buildSlice 72 0 #[]).run Tryz.prog W' = .ok (.slice (some ⟨W'.heap.size, 0, none⟩) 0 0) (W'.alloc (.cells #[] 184)) from fun W' => by go_simp)
 have BS1 := Lib.hid (show ∀ W' : World, (Instr.buildSlice 72 1 #[(0, (.agg #[.int .i64 (bk : Int), .string s]))]).run Tryz.prog W' = .ok (.slice (some ⟨W'.heap.size, 0, none⟩) 1 1) (W'.alloc (.cells #[.int .i64 (bk : Int), .string s] 184)) from fun W' => by go_simp)
 refine wp_head_held (S := Below wn.heap.size wn) 16 (by kernel_rfl) rfl rfl (by kernel_rfl) ?_
 simp only [List.take_succ_cons, List.take_zero, List.drop_succ_cons, List.drop_zero]
 refine ht 0 (some 146) (v := .pointer (some ⟨gm, 0, none⟩)) rfl rfl (fun w _ => by go_simp) hb0 ?_
 refine ht 2 (some 148) (v := .pointer (some ⟨gm, 0, none⟩)) rfl rfl (fun w _ => by go_simp) hb0 ?_
 simp only [Act.put, List.setIfInBounds_toArray, List.set_cons_zero, List.set_cons_succ]
 refine ht 3 (some 149) (v := .pointer (some ⟨gm, 0, none⟩)) rfl rfl (fun w _ => by go_simp) hb0 ?_
 refine ht 4 (some 150) (v := .pointer (some ⟨gm, 2, none⟩)) rfl rfl (fun w _ => by go_simp) hb0 ?_
 simp only [Act.put, List.setIfInBounds_toArray, List.set_cons_zero, List.set_cons_succ]
 refine ht 5 (some 151) (v := .slice Al dd.line.length cl) rfl rfl (fun w hw => exec_load (y := .pointer (some ⟨gm, 2, none⟩)) rfl rfl (LL.out w hw)) hb0 ?_
 refine ht 7 (some 153) (v := .pointer (some ⟨w.heap.size, 2, none⟩)) rfl rfl (fun w _ => by go_simp) hb0 ?_
 simp only [Act.put, List.setIfInBounds_toArray, List.set_cons_zero, List.set_cons_succ]
 refine ht 8 (some 154) (v := .int .i64 (bk : Int)) rfl rfl (fun w' hw => exec_load (y := .pointer (some ⟨w.heap.size, 2, none⟩)) rfl rfl (L2.out w' hw)) hb0 ?_
 refine ht 9 (some 155) (v := .pointer (some ⟨w.heap.size, 4, none⟩)) rfl rfl (fun w _ => by go_simp) hb0 ?_
 simp only [Act.put, List.setIfInBounds_toArray, List.set_cons_zero, List.set_cons_succ]
 refine ht 10 (some 156) (v := .string s) rfl rfl (fun w' hw => exec_load (y := .pointer (some ⟨w.heap.size, 4, none⟩)) rfl rfl (L4.out w' hw)) hb0 ?_
 refine ht 11 (some 157) (v := (.agg #[.int .i64 (bk : Int), .string s])) rfl rfl (fun w' _ => exec_build' (ps := #[(0, .int .i64 (bk : Int)), (1, .string s)]) rfl (by go_simp) BD.out w') hb0 ?_
 simp only [Act.put, List.setIfInBounds_toArray, List.set_cons_zero, List.set_cons_succ]
 refine held_two (i := 1) (j := 12) (by kernel_rfl) rfl rfl (by rfl) (by rfl) ?_ ?_
 ·have hb1 : Below wn.heap.size wn (((wn).drew).alloc (.cells #[] 184)) := hb0.alloc hb0.size _
  have r1 : ((((wn).drew).alloc (.cells #[] 184))).ownsRow wn.heap.size 184 2 (.slice (some ⟨((wn).drew).heap.size, 0, none⟩) 0 0) 0 [] := World.ownsRow_lit ((wn).drew) #[] 0 hb0.size (by decide) rfl
  refine wp_slice_d (d := some 147) (ps := #[]) rfl rfl (by go_simp) (BS0.out _) ?_
  refine ⟨hb1, ?_⟩
  simp only [Act.put, List.setIfInBounds_toArray, List.set_cons_zero, List.set_cons_succ]
  refine held_two (i := 6) (j := 12) (by kernel_rfl) rfl rfl (by rfl) (by rfl) ?_ ?_
  ·refine wp_append_copy (d := some 152) rfl (.tmp 147) (.tmp 151) 72 rfl wn.heap.size 184 iw zw 2 24 Tryz.underlying72 INF.out.1 INF.out.2.1 INF.out.2.2.2.1 INF.out.2.2.2.2 INF.out.2.2.1 (by decide) _ 0 [] rfl r1 Al dd.line.length cl (lineD dd.line) rfl (DD.out.new hb1).line.own (one_lineD _) (by unfold maxLen; omega) (by omega) hb1.size ?_
   intro v1 w_2 ho2 hg2 hat2
   rw [Nat.zero_add, List.nil_append] at ho2
   have hb2 : Below wn.heap.size wn w_2 := hb1.grown hg2 hb1.size (fun k e => (r1.lt k e).1)
   refine ⟨hb2, ?_⟩
   simp only [Act.put, List.setIfInBounds_toArray, List.set_cons_zero, List.set_cons_succ]
   refine held_one (i := 12) (by kernel_rfl) rfl (by rfl) ?_
   have hb3 : Below wn.heap.size wn ((w_2).alloc (.cells #[.int .i64 (bk : Int), .string s] 184)) := hb2.alloc hb2.size _
   have n3 : Blk ((w_2).alloc (.cells #[.int .i64 (bk : Int), .string s] 184)) (w_2).heap.size 184 #[.int .i64 (bk : Int), .string s] := Blk.new (w_2) 184 _
   refine wp_slice_d (d := some 158) (ps := #[(0, (.agg #[.int .i64 (bk : Int), .string s]))]) rfl rfl (by go_simp) (BS1.out _) ?_
   refine ⟨hb3, ?_⟩
   simp only [Act.put, List.setIfInBounds_toArray, List.set_cons_zero, List.set_cons_succ]
   refine held_one (i := 13) (by kernel_rfl) rfl (by rfl) ?_
   refine wp_append_d (d := some 159) rfl (.tmp 152) (.tmp 158) 72 rfl wn.heap.size 184 iw zw 2 24 Tryz.underlying72 INF.out.1 INF.out.2.1 INF.out.2.2.2.1 INF.out.2.2.2.2 INF.out.2.2.1 (by decide) v1 dd.line.length (lineD dd.line) rfl (ho2.alloc _) ⟨w_2.heap.size, 0, none⟩ 1 1 [.int .i64 (bk : Int), .string s] rfl rfl (World.news_of_block n3) (one_two ⟨bk, s.data.toList⟩) (by decide) (by unfold maxLen; omega) (by omega) hb3.size ?_
   intro g cap w_4 ho4 hg4 hat4 hl4
   have hb4 : Below wn.heap.size wn w_4 := hb3.grown hg4 hb3.size (fun k e => (ho2.lt k e).1)
   refine ⟨hb4, ?_⟩
   refine ht 14 (some 160) (v := .pointer (some ⟨gm, 0, none⟩)) rfl rfl (fun w _ => by go_simp) hb4 ?_
   simp only [Act.put, List.setIfInBounds_toArray, List.set_cons_zero, List.set_cons_succ]
   refine ht 15 (some 161) (v := .pointer (some ⟨gm, 2, none⟩)) rfl rfl (fun w _ => by go_simp) hb4 ?_
   simp only [Act.put, List.setIfInBounds_toArray, List.set_cons_zero, List.set_cons_succ]
   refine wpAnyH_done (by kernel_rfl) ?_ _
   have FIN := Lib.hid (FINOF.out w_4 g cap hb4 ho4)
   have c2' : w_4.cell? ⟨gm, 2, none⟩ = some (.slice Al dd.line.length cl) := (hb4.cell (p := ⟨gm, 2, none⟩) hgl).trans c2
   have f2' : w_4.frozen? ⟨gm, 2, none⟩ = false := (hb4.frozen (p := ⟨gm, 2, none⟩) hgl).trans f2
   clear ho2 hg2 hat2 ho4 hg4 hat4 hl4 hb0 hb1 hb2 hb3 hb4 r1 n3
   show wpList _ _ _ _ _ _
   go_wp2
   go_ret2
   exact ⟨rfl, FIN.out⟩
  ·have hb2 : Below wn.heap.size wn (((((wn).drew).alloc (.cells #[] 184))).alloc (.cells #[.int .i64 (bk : Int), .string s] 184)) := hb1.alloc hb1.size _
   have n2 : Blk (((((wn).drew).alloc (.cells #[] 184))).alloc (.cells #[.int .i64 (bk : Int), .string s] 184)) ((((wn).drew).alloc (.cells #[] 184))).heap.size 184 #[.int .i64 (bk : Int), .string s] := Blk.new ((((wn).drew).alloc (.cells #[] 184))) 184 _
   refine wp_slice_d (d := some 158) (ps := #[(0, (.agg #[.int .i64 (bk : Int), .string s]))]) rfl rfl (by go_simp) (BS1.out _) ?_
   refine ⟨hb2, ?_⟩
   simp only [Act.put, List.setIfInBounds_toArray, List.set_cons_zero, List.set_cons_succ]
   refine held_one (i := 6) (by kernel_rfl) rfl (by rfl) ?_
   refine wp_append_copy (d := some 152) rfl (.tmp 147) (.tmp 151) 72 rfl wn.heap.size 184 iw zw 2 24 Tryz.underlying72 INF.out.1 INF.out.2.1 INF.out.2.2.2.1 INF.out.2.2.2.2 INF.out.2.2.1 (by decide) _ 0 [] rfl (r1.alloc _) Al dd.line.length cl (lineD dd.line) rfl (DD.out.new hb2).line.own (one_lineD _) (by unfold maxLen; omega) (by omega) hb2.size ?_
   intro v1 w_3 ho3 hg3 hat3
   rw [Nat.zero_add, List.nil_append] at ho3
   have hb3 : Below wn.heap.size wn w_3 := hb2.grown hg3 hb2.size (fun k e => (r1.lt k e).1)
   refine ⟨hb3, ?_⟩
   simp only [Act.put, List.setIfInBounds_toArray, List.set_cons_zero, List.set_cons_succ]
   have n3 := n2.chg (chg_of_grown (A := some ⟨(wn).drew.heap.size, 0, none⟩) (Below.refl _ _) hg3) (fun e => by have := inB_some e; simp at this)
   refine held_one (i := 13) (by kernel_rfl) rfl (by rfl) ?_
   refine wp_append_d (d := some 159) rfl (.tmp 152) (.tmp 158) 72 rfl wn.heap.size 184 iw zw 2 24 Tryz.underlying72 INF.out.1 INF.out.2.1 INF.out.2.2.2.1 INF.out.2.2.2.2 INF.out.2.2.1 (by decide) v1 dd.line.length (lineD dd.line) rfl ho3 ⟨((((wn).drew).alloc (.cells #[] 184))).heap.size, 0, none⟩ 1 1 [.int .i64 (bk : Int), .string s] rfl rfl (World.news_of_block n3) (one_two ⟨bk, s.data.toList⟩) (by decide) (by unfold maxLen; omega) (by omega) hb3.size ?_
   intro g cap w_4 ho4 hg4 hat4 hl4
   have hb4 : Below wn.heap.size wn w_4 := hb3.grown hg4 hb3.size (fun k e => (ho3.lt k e).1)
   refine ⟨hb4, ?_⟩
   refine ht 14 (some 160) (v := .pointer (some ⟨gm, 0, none⟩)) rfl rfl (fun w _ => by go_simp) hb4 ?_
   simp only [Act.put, List.setIfInBounds_toArray, List.set_cons_zero, List.set_cons_succ]
   refine ht 15 (some 161) (v := .pointer (some ⟨gm, 2, none⟩)) rfl rfl (fun w _ => by go_simp) hb4 ?_
   simp only [Act.put, List.setIfInBounds_toArray, List.set_cons_zero, List.set_cons_succ]
   refine wpAnyH_done (by kernel_rfl) ?_ _
   have FIN := Lib.hid (FINOF.out w_4 g cap hb4 ho4)
   have c2' : w_4.cell? ⟨gm, 2, none⟩ = some (.slice Al dd.line.length cl) := (hb4.cell (p := ⟨gm, 2, none⟩) hgl).trans c2
   have f2' : w_4.frozen? ⟨gm, 2, none⟩ = false := (hb4.frozen (p := ⟨gm, 2, none⟩) hgl).trans f2
   clear ho3 hg3 hat3 ho4 hg4 hat4 hl4 hb0 hb1 hb2 hb3 hb4 r1 n2 n3
   show wpList _ _ _ _ _ _
   go_wp2
   go_ret2
   exact ⟨rfl, FIN.out⟩
 ·have hb1 : Below wn.heap.size wn (((wn).drew).alloc (.cells #[.int .i64 (bk : Int), .string s] 184)) := hb0.alloc hb0.size _
  have n1 : Blk (((wn).drew).alloc (.cells #[.int .i64 (bk : Int), .string s] 184)) ((wn).drew).heap.size 184 #[.int .i64 (bk : Int), .string s] := Blk.new ((wn).drew) 184 _
  refine wp_slice_d (d := some 158) (ps := #[(0, (.agg #[.int .i64 (bk : Int), .string s]))]) rfl rfl (by go_simp) (BS1.out _) ?_
  refine ⟨hb1, ?_⟩
  simp only [Act.put, List.setIfInBounds_toArray, List.set_cons_zero, List.set_cons_succ]
  refine held_one (i := 1) (by kernel_rfl) rfl (by rfl) ?_
  have hb2 : Below wn.heap.size wn (((((wn).drew).alloc (.cells #[.int .i64 (bk : Int), .string s] 184))).alloc (.cells #[] 184)) := hb1.alloc hb1.size _
  have r2 : ((((((wn).drew).alloc (.cells #[.int .i64 (bk : Int), .string s] 184))).alloc (.cells #[] 184))).ownsRow wn.heap.size 184 2 (.slice (some ⟨((((wn).drew).alloc (.cells #[.int .i64 (bk : Int), .string s] 184))).heap.size, 0, none⟩) 0 0) 0 [] := World.ownsRow_lit ((((wn).drew).alloc (.cells #[.int .i64 (bk : Int), .string s] 184))) #[] 0 hb1.size (by decide) rfl
  refine wp_slice_d (d := some 147) (ps := #[]) rfl rfl (by go_simp) (BS0.out _) ?_
  refine ⟨hb2, ?_⟩
  simp only [Act.put, List.setIfInBounds_toArray, List.set_cons_zero, List.set_cons_succ]
  refine held_one (i := 6) (by kernel_rfl) rfl (by rfl) ?_
  refine wp_append_copy (d := some 152) rfl (.tmp 147) (.tmp 151) 72 rfl wn.heap.size 184 iw zw 2 24 Tryz.underlying72 INF.out.1 INF.out.2.1 INF.out.2.2.2.1 INF.out.2.2.2.2 INF.out.2.2.1 (by decide) _ 0 [] rfl r2 Al dd.line.length cl (lineD dd.line) rfl (DD.out.new hb2).line.own (one_lineD _) (by unfold maxLen; omega) (by omega) hb2.size ?_
  intro v1 w_3 ho3 hg3 hat3
  rw [Nat.zero_add, List.nil_append] at ho3
  have hb3 : Below wn.heap.size wn w_3 := hb2.grown hg3 hb2.size (fun k e => (r2.lt k e).1)
  refine ⟨hb3, ?_⟩
  simp only [Act.put, List.setIfInBounds_toArray, List.set_cons_zero, List.set_cons_succ]
  have n3 := (n1.chg (Chg.of_new ((Below.refl _ _).alloc (Nat.le_refl _) (.cells #[] 184)) (fun _ => False)) (fun e => e)).chg (chg_of_grown (A := some ⟨(((wn).drew).alloc (.cells #[.int .i64 (bk : Int), .string s] 184)).heap.size, 0, none⟩) (Below.refl _ _) hg3) (fun e => by have := inB_some e; simp at this)
  refine held_one (i := 13) (by kernel_rfl) rfl (by rfl) ?_
  refine wp_append_d (d := some 159) rfl (.tmp 152) (.tmp 158) 72 rfl wn.heap.size 184 iw zw 2 24 Tryz.underlying72 INF.out.1 INF.out.2.1 INF.out.2.2.2.1 INF.out.2.2.2.2 INF.out.2.2.1 (by decide) v1 dd.line.length (lineD dd.line) rfl ho3 ⟨((wn).drew).heap.size, 0, none⟩ 1 1 [.int .i64 (bk : Int), .string s] rfl rfl (World.news_of_block n3) (one_two ⟨bk, s.data.toList⟩) (by decide) (by unfold maxLen; omega) (by omega) hb3.size ?_
  intro g cap w_4 ho4 hg4 hat4 hl4
  have hb4 : Below wn.heap.size wn w_4 := hb3.grown hg4 hb3.size (fun k e => (ho3.lt k e).1)
  refine ⟨hb4, ?_⟩
  refine ht 14 (some 160) (v := .pointer (some ⟨gm, 0, none⟩)) rfl rfl (fun w _ => by go_simp) hb4 ?_
  simp only [Act.put, List.setIfInBounds_toArray, List.set_cons_zero, List.set_cons_succ]
  refine ht 15 (some 161) (v := .pointer (some ⟨gm, 2, none⟩)) rfl rfl (fun w _ => by go_simp) hb4 ?_
  simp only [Act.put, List.setIfInBounds_toArray, List.set_cons_zero, List.set_cons_succ]
  refine wpAnyH_done (by kernel_rfl) ?_ _
  have FIN := Lib.hid (FINOF.out w_4 g cap hb4 ho4)
  have c2' : w_4.cell? ⟨gm, 2, none⟩ = some (.slice Al dd.line.length cl) := (hb4.cell (p := ⟨gm, 2, none⟩) hgl).trans c2
  have f2' : w_4.frozen? ⟨gm, 2, none⟩ = false := (hb4.frozen (p := ⟨gm, 2, none⟩) hgl).trans f2
  clear ho3 hg3 hat3 ho4 hg4 hat4 hl4 hb0 hb1 hb2 hb3 hb4 r2 n1 n3
  show wpList _ _ _ _ _ _
  go_wp2
  go_ret2
  exact ⟨rfl, FIN.out⟩

end
end Go.Proofs.YtbkjjakkihbcdaaGreat.RE

/- A slice of calls to a disk that came in; one call that came in by value. Conditions: those that each states. -/
namespace Go.Proofs.YtbkjjakkihbcdaaGreat.Di
open Go.ChangeShapes Go.WideShapes Go.ChangeAt Go.RowKit Go.Deep Di
set_option linter.unusedVariables false

structure Cmd where
 kind : Int
 env : Int
 a : Int
 b : Int
 s : ByteArray
def doD (d : Dk) (c : Cmd) : Dk × List UInt8 × Int :=
 if c.kind = 0 then ((grantR d c.env c.a c.b).1, [], (grantR d c.env c.a c.b).2)
 else if c.kind = 1 then (d, (readR d c.env c.a).1, (readR d c.env c.a).2)
 else if c.kind = 2 then ((writeR d c.env c.a c.s.data.toList).1, [], (writeR d c.env c.a c.s.data.toList).2)
 else if c.kind = 3 then ((syncR d).1, [], (syncR d).2)
 else if c.kind = 4 then (armR d c.a, [], 0)
 else if c.kind = 5 then (cutR d, [], 0)
 else if c.kind = 6 then ((reviveR d c.a).1, [], (reviveR d c.a).2)
 else (d, [], 0)

end Go.Proofs.YtbkjjakkihbcdaaGreat.Di

/- The document's disk: any call. Conditions: those that each states. -/
namespace Go.Proofs.YtbkjjakkihbcdaaGreat.RE
open Go.ChangeShapes Go.WideShapes Go.ChangeAt Go.RowKit Go.Deep Di
set_option linter.unusedVariables false
section
variable {w w' w1 w2 : World} {gm bt bo ct co cl cl' co' ct' : Nat} {Al Al' : Option Addr} {d d' : Dk} {S R : Nat → Prop}
theorem rdo2 (h : RefAt w gm bt bo ct co Al cl d) (env a b : Int) (s : ByteArray) (hs : s.size ≤ 1000) (hcnt : d.line.length < 1000000) :
  Calls Tryz.prog 42 #[.pointer (some ⟨gm, 0, none⟩), .agg #[.int .i64 2, .int .i64 env, .int .i64 a, .int .i64 b, .string s]] w (RPost w gm bt bo Al (writeR d env a s.data.toList).1 [] (writeR d env a s.data.toList).2) := by
 have hl : s.data.toList.length = s.size := Array.length_toList
 unfold writeR
 by_cases he : askE d env a = 0
 ·rw [if_pos he]
  by_cases h1 : s.size = 256
  ·rw [if_pos (by rw [hl]; exact h1)]
   by_cases h0 : d.armed = 0
   ·rw [if_pos h0]
    exact rdo2_cut h env a b s he h1 h0
   ·rw [if_neg h0]
    by_cases hm : d.armed = -1
    ·exact rdo2_lay1 h env a b s he h1 hcnt hm
    ·exact rdo2_lay2 h env a b s he h1 hcnt h0 hm
  ·rw [if_neg (by rw [hl]; exact h1)]
   exact rdo2_len h env a b s he h1 hs
 ·rw [if_neg he]
  exact rdo2_ask h env a b s he
theorem rdo_at (h : RefAt w gm bt bo ct co Al cl d) (kind env a b : Int) (s : ByteArray) (wa : -9223372036854775808 ≤ a ∧ a ≤ 9223372036854775807) (hs : s.size ≤ 1000) (hcnt : d.line.length < 1000000) :
  Calls Tryz.prog 42 #[.pointer (some ⟨gm, 0, none⟩), .agg #[.int .i64 kind, .int .i64 env, .int .i64 a, .int .i64 b, .string s]] w (RPost w gm bt bo Al (doD d ⟨kind, env, a, b, s⟩).1 (doD d ⟨kind, env, a, b, s⟩).2.1 (doD d ⟨kind, env, a, b, s⟩).2.2) := by
 by_cases q0 : kind = 0
 ·subst q0; exact rdo0 h env a b s wa
 by_cases q1 : kind = 1
 ·subst q1; exact rdo1 h env a b s
 by_cases q2 : kind = 2
 ·subst q2; exact rdo2 h env a b s hs hcnt
 by_cases q3 : kind = 3
 ·subst q3; exact rdo3 h env a b s
 by_cases q4 : kind = 4
 ·subst q4; exact rdo4 h env a b s wa.2
 by_cases q5 : kind = 5
 ·subst q5; exact rdo5 h env a b s
 by_cases q6 : kind = 6
 ·subst q6; exact rdo6 h env a b s
 have e : doD d ⟨kind, env, a, b, s⟩ = (d, [], 0) := by unfold doD; simp only [q0, q1, q2, q3, q4, q5, q6, if_false]
 rw [e]
 exact rdo7 h kind env a b s q0 q1 q2 q3 q4 q5 q6
theorem rdo_any (h : RA w R gm d) (kind env a b : Int) (s : ByteArray) (wa : -9223372036854775808 ≤ a ∧ a ≤ 9223372036854775807) (hs : s.size ≤ 1000) (hcnt : d.line.length < 1000000) :
  Calls Tryz.prog 42 #[.pointer (some ⟨gm, 0, none⟩), .agg #[.int .i64 kind, .int .i64 env, .int .i64 a, .int .i64 b, .string s]] w fun e w' => e = .returned (.tuple #[.string ⟨(doD d ⟨kind, env, a, b, s⟩).2.1.toArray⟩, .int .i64 (doD d ⟨kind, env, a, b, s⟩).2.2]) ∧ ∃ R', RA w' R' gm (doD d ⟨kind, env, a, b, s⟩).1 ∧ Step w w' R R' := by
 obtain ⟨bt, bo, ct, co, Al, cl, D, hF⟩ := h
 have hFe : R = rfoot gm bt bo Al := funext fun k => propext (hF k)
 subst hFe
 exact (rdo_at D kind env a b s wa hs hcnt).mono fun _ _ h => h
end
end Go.Proofs.YtbkjjakkihbcdaaGreat.RE

/- The document's kernel in memory. Conditions: those that each states. -/
namespace Go.Proofs.YtbkjjakkihbcdaaGreat.Rk
open Go.ChangeShapes Go.WideShapes Go.ChangeAt Go.RowKit Go.Deep Fr Di RE Ke
set_option linter.unusedVariables false
theorem refT_far {w w' : World} {gm bo bh bb co ch cb : Nat} {ps : List Pg} {S : Nat → Prop} (h : RefT w gm bo bh bb co ch cb ps) (k : Chg w w' S) (n1 : ¬ S gm) (n2 : ¬ S bo) (n3 : ¬ S bh) (n4 : ¬ S bb) : RefT w' gm bo bh bb co ch cb ps :=
 ⟨h.head.chg k n1, h.ho, h.hh, h.hb, h.oh, h.ob, h.hbn, h.own.chg k n2, h.holds.chg k n3, h.text.chg k n4, h.len, h.ok⟩
def filC (x : Fil × Option Addr × Nat) : List Value := [.int .i64 (x.1.id : Int), .int .i64 (x.1.env : Int), .slice x.2.1 x.1.p.length x.2.2]
def filsC (l : List (Fil × Option Addr × Nat)) : List Value := (l.map filC).flatten
def trC (x : Tr × Option Addr × Nat) : List Value := [.int .i64 (x.1.env : Int), .slice x.2.1 x.1.l.length x.2.2]
def trsC (l : List (Tr × Option Addr × Nat)) : List Value := (l.map trC).flatten
def strC (l : List (List UInt8)) : List Value := l.map fun s => .string ⟨s.toArray⟩
structure RP where
 gt : Nat
 bo : Nat
 bh : Nat
 bb : Nat
 co : Nat
 ch : Nat
 cb : Nat
 gd : Nat
 R : Nat → Prop
 Af : Option Addr
 cf : Nat
 fx : List (Fil × Option Addr × Nat)
 A1 : Option Addr
 c1 : Nat
 A2 : Option Addr
 c2 : Nat
 Ao : Option Addr
 cO : Nat
 ox : List (Tr × Option Addr × Nat)
def RP.tabB (a : RP) : Nat → Prop := fun k => k = a.gt ∨ k = a.bo ∨ k = a.bh ∨ k = a.bb
def RP.rows (a : RP) : Nat → Prop := fun k => (∃ x, a.Af = some x ∧ x.block = k) ∨ (∃ x, a.A1 = some x ∧ x.block = k) ∨ (∃ x, a.A2 = some x ∧ x.block = k) ∨ (∃ x, a.Ao = some x ∧ x.block = k)
def RP.foot (a : RP) (g : Nat) : Nat → Prop := fun k => k = g ∨ a.tabB k ∨ a.R k ∨ a.rows k
def headC (K : Kn) (a : RP) : Array Value := #[.pointer (some ⟨a.gt, 0, none⟩), .pointer (some ⟨a.gd, 0, none⟩), .slice a.Af K.fs.length a.cf, .int .i64 (K.next : Int), .slice none 0 0, .slice a.A1 K.i1.length a.c1, .slice a.A2 K.i2.length a.c2, .slice a.Ao K.out.length a.cO, .int .i64 (((K.f3 + K.out.length : Nat)) : Int), .int .i64 (K.done : Int)]
def Given (B : Nat) (A : Option Addr) (n : Nat) : Prop := ∀ y, A = some y → 0 < n → y.block < B
structure RKAt (B : Nat) (w : World) (g : Nat) (K : Kn) (a : RP) : Prop where
 head : Blk w g 67 (headC K a)
 tab : RefT w a.gt a.bo a.bh a.bb a.co a.ch a.cb K.ps
 dsk : RA w a.R a.gd K.dk
 fx : a.fx.map (·.1) = K.fs
 fil : RowG w 3 a.Af K.fs.length a.cf (filsC a.fx)
 fp : ∀ x ∈ a.fx, Prg w x.2.1 x.1.p ∧ Given B x.2.1 x.1.p.length
 in1 : RowG w 1 a.A1 K.i1.length a.c1 (strC K.i1)
 in2 : RowG w 1 a.A2 K.i2.length a.c2 (strC K.i2)
 ox : a.ox.map (·.1) = K.out
 out : RowG w 2 a.Ao K.out.length a.cO (trsC a.ox)
 op : ∀ x ∈ a.ox, Pcs w x.2.1 x.1.l ∧ Given B x.2.1 x.1.l.length
 far : ∀ k, a.foot g k → B ≤ k
 lt : ∀ k, a.foot g k → k < w.heap.size
 gt : ¬ a.tabB g
 gd : ¬ a.R g
 gr : ¬ a.rows g
 td : ∀ k, a.tabB k → ¬ a.R k
 tr : ∀ k, a.tabB k → ¬ a.rows k
 dr : ∀ k, a.R k → ¬ a.rows k
section
variable {B g : Nat} {w w' : World} {K K' : Kn} {a : RP} {S : Nat → Prop}
theorem prg_chg {A : Option Addr} {p : List Ins} (h : Prg w A p) (k : Chg w w' S) (hn : ∀ y, A = some y → 0 < p.length → ¬ S y.block) : Prg w' A p := by
 intro i hi
 obtain ⟨b, o, e, hb, h1⟩ := h i hi
 refine ⟨b, o, e, Nat.lt_of_lt_of_le hb k.size, fun j v hj => ?_⟩
 rw [World.cell?_of_block (w := w) (w' := w') (a := ⟨b, o + i * 4 + j, none⟩) (k.block b hb (hn _ e (by omega)))]
 exact h1 j v hj
theorem pcs_chg {A : Option Addr} {l : List Pc} (h : Pcs w A l) (k : Chg w w' S) (hn : ∀ y, A = some y → 0 < l.length → ¬ S y.block) : Pcs w' A l := by
 intro i hi
 obtain ⟨b, o, e, hb, h1⟩ := h i hi
 refine ⟨b, o, e, Nat.lt_of_lt_of_le hb k.size, fun j v hj => ?_⟩
 rw [World.cell?_of_block (w := w) (w' := w') (a := ⟨b, o + i * 3 + j, none⟩) (k.block b hb (hn _ e (by omega)))]
 exact h1 j v hj
theorem RKAt.fpC (h : RKAt B w g K a) (k : Chg w w' S) (hB : ∀ i, S i → B ≤ i) : ∀ x ∈ a.fx, Prg w' x.2.1 x.1.p ∧ Given B x.2.1 x.1.p.length :=
 fun x hx => ⟨prg_chg (h.fp x hx).1 k (fun y e hl hs => Nat.lt_irrefl _ (Nat.lt_of_lt_of_le ((h.fp x hx).2 y e hl) (hB _ hs))), (h.fp x hx).2⟩
theorem RKAt.opC (h : RKAt B w g K a) (k : Chg w w' S) (hB : ∀ i, S i → B ≤ i) : ∀ x ∈ a.ox, Pcs w' x.2.1 x.1.l ∧ Given B x.2.1 x.1.l.length :=
 fun x hx => ⟨pcs_chg (h.op x hx).1 k (fun y e hl hs => Nat.lt_irrefl _ (Nat.lt_of_lt_of_le ((h.op x hx).2 y e hl) (hB _ hs))), (h.op x hx).2⟩
theorem RKAt.filC (h : RKAt B w g K a) (k : Chg w w' S) (hn : ∀ i, a.rows i → ¬ S i) : RowG w' 3 a.Af K.fs.length a.cf (filsC a.fx) := h.fil.chg k fun x e => hn _ (.inl ⟨x, e, rfl⟩)
theorem RKAt.in1C (h : RKAt B w g K a) (k : Chg w w' S) (hn : ∀ i, a.rows i → ¬ S i) : RowG w' 1 a.A1 K.i1.length a.c1 (strC K.i1) := h.in1.chg k fun x e => hn _ (.inr (.inl ⟨x, e, rfl⟩))
theorem RKAt.in2C (h : RKAt B w g K a) (k : Chg w w' S) (hn : ∀ i, a.rows i → ¬ S i) : RowG w' 1 a.A2 K.i2.length a.c2 (strC K.i2) := h.in2.chg k fun x e => hn _ (.inr (.inr (.inl ⟨x, e, rfl⟩)))
theorem RKAt.outC (h : RKAt B w g K a) (k : Chg w w' S) (hn : ∀ i, a.rows i → ¬ S i) : RowG w' 2 a.Ao K.out.length a.cO (trsC a.ox) := h.out.chg k fun x e => hn _ (.inr (.inr (.inr ⟨x, e, rfl⟩)))
theorem RKAt.tabC (h : RKAt B w g K a) (k : Chg w w' S) (hn : ∀ i, a.tabB i → ¬ S i) : RefT w' a.gt a.bo a.bh a.bb a.co a.ch a.cb K.ps :=
 refT_far h.tab k (hn _ (.inl rfl)) (hn _ (.inr (.inl rfl))) (hn _ (.inr (.inr (.inl rfl)))) (hn _ (.inr (.inr (.inr rfl))))
theorem RKAt.chg (h : RKAt B w g K a) (k : Chg w w' S) (hB : ∀ i, S i → B ≤ i) (hn : ∀ i, S i → ¬ a.foot g i) : RKAt B w' g K a := by
 have nf : ∀ i, a.foot g i → ¬ S i := fun i hf hs => hn i hs hf
 exact ⟨h.head.chg k (nf _ (.inl rfl)), h.tabC k (fun i hi => nf _ (.inr (.inl hi))), h.dsk.chg k (fun i hs hr => hn i hs (.inr (.inr (.inl hr)))), h.fx,
  h.filC k (fun i hi => nf _ (.inr (.inr (.inr hi)))), h.fpC k hB, h.in1C k (fun i hi => nf _ (.inr (.inr (.inr hi)))), h.in2C k (fun i hi => nf _ (.inr (.inr (.inr hi)))), h.ox,
  h.outC k (fun i hi => nf _ (.inr (.inr (.inr hi)))), h.opC k hB, h.far, fun i hi => Nat.lt_of_lt_of_le (h.lt i hi) k.size, h.gt, h.gd, h.gr, h.td, h.tr, h.dr⟩
theorem RKAt.new (h : RKAt B w g K a) (k : Below w.heap.size w w') : RKAt B w' g K a := h.chg (Chg.of_new k fun _ => False) (fun _ e => e.elim) (fun _ e => e.elim)
def RStep (B : Nat) (w w' : World) (g : Nat) (K' : Kn) (a : RP) : Prop := ∃ a', RKAt B w' g K' a' ∧ Chg w w' (a.foot g) ∧ ∀ k, a'.foot g k → a.foot g k ∨ w.heap.size ≤ k
theorem RKAt.same (h : RKAt B w g K a) (k : Below w.heap.size w w') : RStep B w w' g K a := ⟨a, h.new k, Chg.of_new k _, fun _ h => .inl h⟩
theorem RStep.first {w0 : World} (h : RStep B w w' g K' a) (k : Below w0.heap.size w0 w) : RStep B w0 w' g K' a := by
 obtain ⟨a', h1, h2, h3⟩ := h
 exact ⟨a', h1, (Chg.of_new k _).trans h2, fun i hi => (h3 i hi).imp id (fun e => Nat.le_trans k.size e)⟩
theorem RStep.last {w2 : World} (h : RStep B w w' g K' a) (k : Below w'.heap.size w' w2) : RStep B w w2 g K' a := by
 obtain ⟨a', h1, h2, h3⟩ := h
 exact ⟨a', h1.new k, h2.trans (Chg.of_new k _), h3⟩
theorem RKAt.setTab (h : RKAt B w g K a) {ps : List Pg} (t : RefT w' a.gt a.bo a.bh a.bb a.co a.ch a.cb ps) (k : Chg w w' S) (hS : ∀ i, S i → a.tabB i) : RStep B w w' g { K with ps := ps } a := by
 have hB : ∀ i, S i → B ≤ i := fun i hi => h.far i (.inr (.inl (hS i hi)))
 have hr : ∀ i, a.rows i → ¬ S i := fun i hi hs => h.tr i (hS i hs) hi
 exact ⟨a, ⟨h.head.chg k (fun hs => h.gt (hS _ hs)), t, h.dsk.chg k (fun i hs hr => h.td i (hS i hs) hr), h.fx, h.filC k hr, h.fpC k hB, h.in1C k hr, h.in2C k hr, h.ox, h.outC k hr, h.opC k hB, h.far, fun i hi => Nat.lt_of_lt_of_le (h.lt i hi) k.size, h.gt, h.gd, h.gr, h.td, h.tr, h.dr⟩,
  k.weak (fun i hi => .inr (.inl (hS i hi))), fun _ h => .inl h⟩
theorem RKAt.setDsk (h : RKAt B w g K a) {dk : Dk} {R' : Nat → Prop} (t : RA w' R' a.gd dk) (k : Step w w' a.R R') : RStep B w w' g { K with dk := dk } a := by
 obtain ⟨k, hR⟩ := k
 have hB : ∀ i, a.R i → B ≤ i := fun i hi => h.far i (.inr (.inr (.inl hi)))
 have hr : ∀ i, a.rows i → ¬ a.R i := fun i hi hs => h.dr i hs hi
 have hg := h.lt g (.inl rfl)
 have wB : B ≤ w.heap.size := Nat.le_of_lt (Nat.lt_of_le_of_lt (h.far g (.inl rfl)) hg)
 refine ⟨{ a with R := R' }, ⟨h.head.chg k h.gd, h.tabC k h.td, t, h.fx, h.filC k hr, h.fpC k hB, h.in1C k hr, h.in2C k hr, h.ox, h.outC k hr, h.opC k hB, ?_, ?_, h.gt, ?_, h.gr, ?_, h.tr, ?_⟩, k.weak (fun i hi => .inr (.inr (.inl hi))), ?_⟩
 ·intro i hi
  rcases hi with hi | hi | hi | hi
  ·exact h.far i (.inl hi)
  ·exact h.far i (.inr (.inl hi))
  ·exact (hR i hi).elim (fun e => hB i e) (fun e => Nat.le_trans wB e)
  ·exact h.far i (.inr (.inr (.inr hi)))
 ·intro i hi
  rcases hi with hi | hi | hi | hi
  ·exact Nat.lt_of_lt_of_le (h.lt i (.inl hi)) k.size
  ·exact Nat.lt_of_lt_of_le (h.lt i (.inr (.inl hi))) k.size
  ·exact t.lt hi
  ·exact Nat.lt_of_lt_of_le (h.lt i (.inr (.inr (.inr hi)))) k.size
 ·exact fun e => (hR g e).elim h.gd (fun e => by omega)
 ·exact fun i hi e => (hR i e).elim (h.td i hi) (fun e => by have := h.lt i (.inr (.inl hi)); omega)
 ·exact fun i e hi => (hR i e).elim (fun e => h.dr i e hi) (fun e => by have := h.lt i (.inr (.inr (.inr hi))); omega)
 ·intro i hi
  rcases hi with hi | hi | hi | hi
  ·exact .inl (.inl hi)
  ·exact .inl (.inr (.inl hi))
  ·exact (hR i hi).imp (fun e => .inr (.inr (.inl e))) id
  ·exact .inl (.inr (.inr (.inr hi)))
theorem RKAt.setRows (h : RKAt B w g K a) (k : Chg w w' (fun i => i = g)) (Af : Option Addr) (cf : Nat) (fx : List (Fil × Option Addr × Nat)) (A1 : Option Addr) (c1 : Nat) (A2 : Option Addr) (c2 : Nat) (Ao : Option Addr) (cO : Nat) (ox : List (Tr × Option Addr × Nat))
  (K' : Kn) (ep : K'.ps = K.ps) (ed : K'.dk = K.dk) (hd : Blk w' g 67 (headC K' { a with Af := Af, cf := cf, fx := fx, A1 := A1, c1 := c1, A2 := A2, c2 := c2, Ao := Ao, cO := cO, ox := ox }))
  (hfx : fx.map (·.1) = K'.fs) (hfil : RowG w' 3 Af K'.fs.length cf (filsC fx)) (hfp : ∀ x ∈ fx, Prg w' x.2.1 x.1.p ∧ Given B x.2.1 x.1.p.length)
  (h1 : RowG w' 1 A1 K'.i1.length c1 (strC K'.i1)) (h2 : RowG w' 1 A2 K'.i2.length c2 (strC K'.i2))
  (hox : ox.map (·.1) = K'.out) (hout : RowG w' 2 Ao K'.out.length cO (trsC ox)) (hop : ∀ x ∈ ox, Pcs w' x.2.1 x.1.l ∧ Given B x.2.1 x.1.l.length)
  (hr : ∀ x, (Af = some x ∨ A1 = some x ∨ A2 = some x ∨ Ao = some x) → a.rows x.block ∨ (w.heap.size ≤ x.block ∧ x.block < w'.heap.size)) : RStep B w w' g K' a := by
 have hg := h.lt g (.inl rfl)
 have wB : B ≤ w.heap.size := Nat.le_of_lt (Nat.lt_of_le_of_lt (h.far g (.inl rfl)) hg)
 have hR : ∀ i, RP.rows { a with Af := Af, cf := cf, fx := fx, A1 := A1, c1 := c1, A2 := A2, c2 := c2, Ao := Ao, cO := cO, ox := ox } i → a.rows i ∨ (w.heap.size ≤ i ∧ i < w'.heap.size) := by
  intro i hi
  rcases hi with ⟨x, e, rfl⟩ | ⟨x, e, rfl⟩ | ⟨x, e, rfl⟩ | ⟨x, e, rfl⟩
  ·exact hr x (.inl e)
  ·exact hr x (.inr (.inl e))
  ·exact hr x (.inr (.inr (.inl e)))
  ·exact hr x (.inr (.inr (.inr e)))
 refine ⟨{ a with Af := Af, cf := cf, fx := fx, A1 := A1, c1 := c1, A2 := A2, c2 := c2, Ao := Ao, cO := cO, ox := ox }, ⟨hd, ?_, ?_, hfx, hfil, hfp, h1, h2, hox, hout, hop, ?_, ?_, h.gt, h.gd, ?_, h.td, ?_, ?_⟩, k.weak (fun i hi => .inl hi), ?_⟩
 ·rw [ep]; exact h.tabC k (fun i hi e => h.gt (by rw [← e]; exact hi))
 ·rw [ed]; exact h.dsk.chg k (fun i e hi => h.gd (by rw [← e]; exact hi))
 ·intro i hi
  rcases hi with hi | hi | hi | hi
  ·exact h.far i (.inl hi)
  ·exact h.far i (.inr (.inl hi))
  ·exact h.far i (.inr (.inr (.inl hi)))
  ·exact (hR i hi).elim (fun e => h.far i (.inr (.inr (.inr e)))) (fun e => Nat.le_trans wB e.1)
 ·intro i hi
  rcases hi with hi | hi | hi | hi
  ·exact Nat.lt_of_lt_of_le (h.lt i (.inl hi)) k.size
  ·exact Nat.lt_of_lt_of_le (h.lt i (.inr (.inl hi))) k.size
  ·exact Nat.lt_of_lt_of_le (h.lt i (.inr (.inr (.inl hi)))) k.size
  ·exact (hR i hi).elim (fun e => Nat.lt_of_lt_of_le (h.lt i (.inr (.inr (.inr e)))) k.size) (fun e => e.2)
 ·exact fun e => (hR g e).elim h.gr (fun e => by omega)
 ·exact fun i hi e => (hR i e).elim (h.tr i hi) (fun e => by have := h.lt i (.inr (.inl hi)); omega)
 ·exact fun i hi e => (hR i e).elim (h.dr i hi) (fun e => by have := h.lt i (.inr (.inr (.inl hi))); omega)
 ·intro i hi
  rcases hi with hi | hi | hi | hi
  ·exact .inl (.inl hi)
  ·exact .inl (.inr (.inl hi))
  ·exact .inl (.inr (.inr (.inl hi)))
  ·exact (hR i hi).imp (fun e => .inr (.inr (.inr e))) (fun e => e.1)
end
/-! The cells of rows. -/
theorem filsC_snoc (l : List (Fil × Option Addr × Nat)) (x : Fil × Option Addr × Nat) : filsC (l ++ [x]) = filsC l ++ filC x := by unfold filsC; simp
theorem trsC_snoc (l : List (Tr × Option Addr × Nat)) (x : Tr × Option Addr × Nat) : trsC (l ++ [x]) = trsC l ++ trC x := by unfold trsC; simp
theorem strC_snoc (l : List (List UInt8)) (s : List UInt8) : strC (l ++ [s]) = strC l ++ [.string ⟨s.toArray⟩] := by unfold strC; simp
theorem flat_at {α : Type} {f : α → List Value} {sz : Nat} (hf : ∀ a, (f a).length = sz) : ∀ (l : List α) (i j : Nat) (hi : i < l.length) (hj : j < sz), ((l.map f).flatten)[i * sz + j]? = (f l[i])[j]?
 | a :: l, 0, j, _, hj => by
  rw [List.map_cons, List.flatten_cons, List.getElem?_append_left (by rw [hf]; omega), Nat.zero_mul, Nat.zero_add]; rfl
 | a :: l, i + 1, j, hi, hj => by
  have := flat_at hf l i j (by simpa using hi) hj
  rw [List.map_cons, List.flatten_cons, List.getElem?_append_right (by rw [hf, Nat.succ_mul]; omega), hf, show (i + 1) * sz + j - sz = i * sz + j from by rw [Nat.succ_mul]; omega, this]
  rfl
theorem flat_len {α : Type} {f : α → List Value} {sz : Nat} (hf : ∀ a, (f a).length = sz) (l : List α) : ((l.map f).flatten).length = l.length * sz := by
 induction l with
 | nil => simp
 | cons a l ih => rw [List.map_cons, List.flatten_cons, List.length_append, ih, hf, List.length_cons, Nat.succ_mul]; omega
theorem flat_drop {α : Type} {f : α → List Value} {sz : Nat} (hf : ∀ a, (f a).length = sz) : ∀ (l : List α) (i : Nat), ((l.map f).flatten).drop (i * sz) = ((l.drop i).map f).flatten
 | [], i => by simp
 | a :: l, 0 => by simp
 | a :: l, i + 1 => by
  rw [List.map_cons, List.flatten_cons, List.drop_succ_cons, ← flat_drop hf l i, List.drop_append, hf, show (i + 1) * sz - sz = i * sz from by rw [Nat.succ_mul]; omega, List.drop_eq_nil_of_le (by rw [hf, Nat.succ_mul]; omega), List.nil_append]
theorem flat_take {α : Type} {f : α → List Value} {sz : Nat} (hf : ∀ a, (f a).length = sz) : ∀ (l : List α) (i : Nat), ((l.map f).flatten).take (i * sz) = ((l.take i).map f).flatten
 | [], i => by simp
 | a :: l, 0 => by simp
 | a :: l, i + 1 => by
  rw [List.map_cons, List.flatten_cons, List.take_succ_cons, List.map_cons, List.flatten_cons, ← flat_take hf l i, List.take_append, hf, show (i + 1) * sz - sz = i * sz from by rw [Nat.succ_mul]; omega, List.take_of_length_le (by rw [hf, Nat.succ_mul]; omega)]
theorem row_cell {α : Type} {f : α → List Value} {sz n c : Nat} {w : World} {A : Option Addr} {l : List α} (hf : ∀ a, (f a).length = sz) (h : RowG w sz A n c ((l.map f).flatten)) {i j : Nat} (hi : i < l.length) (hj : j < sz) {v : Value} (hv : (f l[i])[j]? = some v) :
  ∃ b o, A = some ⟨b, o, none⟩ ∧ b < w.heap.size ∧ w.cell? ⟨b, o + i * sz + j, none⟩ = some v := by
 have hl := flat_len hf l
 have hij : i * sz + j < l.length * sz := Nat.lt_of_lt_of_le (show i * sz + j < (i + 1) * sz from by rw [Nat.succ_mul]; omega) (Nat.mul_le_mul_right sz hi)
 obtain ⟨b, o, e, hb, hc⟩ := h.cell (j := i * sz + j) (by rw [hl]; exact hij)
 have g := flat_at hf l i j hi hj
 rw [hv, List.getElem?_eq_getElem (by rw [hl]; exact hij)] at g
 injection g with g
 rw [g] at hc
 exact ⟨b, o, e, hb, by rw [Nat.add_assoc]; exact hc⟩
theorem filC_len (x : Fil × Option Addr × Nat) : (filC x).length = 3 := rfl
theorem trC_len (x : Tr × Option Addr × Nat) : (trC x).length = 2 := rfl
theorem after_store {W w4 : World} {g i gF cap m sz : Nat} {T E : TypeId} {cells : Array Value} {zs : List Value} (H : Blk W g T cells) (b : Below W.heap.size W w4) (o : w4.ownsRow W.heap.size E sz (.slice (some ⟨gF, 0, none⟩) m cap) m zs) :
  Chg W (w4.setCell ⟨g, i, none⟩ (.slice (some ⟨gF, 0, none⟩) m cap)) (fun k => k = g) ∧ Blk (w4.setCell ⟨g, i, none⟩ (.slice (some ⟨gF, 0, none⟩) m cap)) g T (cells.set! i (.slice (some ⟨gF, 0, none⟩) m cap)) ∧
   RowG (w4.setCell ⟨g, i, none⟩ (.slice (some ⟨gF, 0, none⟩) m cap)) sz (some ⟨gF, 0, none⟩) m cap zs ∧ W.heap.size ≤ gF ∧ gF < (w4.setCell ⟨g, i, none⟩ (.slice (some ⟨gF, 0, none⟩) m cap)).heap.size := by
 have hg := H.lt
 obtain ⟨A, c, e, r, hA⟩ := RowG.of_owns o
 injection e with e1 _ e3
 subst e1 e3
 have hF := hA _ rfl
 have hF1 : W.heap.size ≤ gF := hF.1
 have hF2 : gF < w4.heap.size := hF.2
 have k : Chg w4 (w4.setCell ⟨g, i, none⟩ (.slice (some ⟨gF, 0, none⟩) m cap)) (fun k => k = g) := Chg.set _ _ _ rfl
 refine ⟨(Chg.of_new b _).trans k, (H.older (older_below b)).put i _, r.chg k (fun x e h => ?_), hF1, Nat.lt_of_lt_of_le hF2 k.size⟩
 cases e
 have h' : gF = g := h
 omega
end Go.Proofs.YtbkjjakkihbcdaaGreat.Rk
