/- The document's disk: a Write that waits. Conditions: those that each states. -/
import Derived.Test.YthnapmcjnfeimaaRf6
import Derived.Test.YthnapmcjnfeimaaTail
namespace Go.Proofs.Ythnapmcjnfeimaa.RD
open Go.ChangeShapes Go.WideShapes Go.ChangeAt Go.RowKit Go.Deep Di
set_option linter.unusedVariables false
section
variable {w w' w1 w2 : World} {gm bt bo ct co cl cl' co' ct' : Nat} {Al Al' : Option Addr} {d d' : Dk} {S R : Nat → Prop}
theorem wr2_infos : (Try.prog.info? 61).map (fun i => (i.zero.map (·.cells.size), i.size, i.bytes)) = some (some 2, 2, 24) := by kernel_rfl
theorem wr2_info : ∃ i0 z, Try.prog.info? 61 = some i0 ∧ i0.zero = some z ∧ z.cells.size = 2 ∧ i0.size = 2 ∧ i0.bytes = 24 := by
  obtain ⟨i, hi, hs⟩ := Option.map_eq_some_iff.1 wr2_infos
  simp only [Prod.mk.injEq] at hs
  obtain ⟨h0, h1, h2⟩ := hs
  obtain ⟨z, hz, hzs⟩ := Option.map_eq_some_iff.1 h0
  exact ⟨i, z, hi, hz, hzs, h1, h2⟩
def addL (d : Dk) (b : Nat) (t : List UInt8) : Dk := { d with line := d.line ++ [⟨b, t⟩] }
theorem lineD_snoc (l : List Wr) (q : Wr) : lineD (l ++ [q]) = lineD l ++ Wr.two q := by unfold lineD; simp
theorem one_lineD (l : List Wr) : ∀ u ∈ lineD l, u.oneCell' = true := by
  intro u hu
  unfold lineD at hu
  rw [List.mem_flatten] at hu
  obtain ⟨r, hr, hu⟩ := hu
  obtain ⟨q, _, rfl⟩ := List.mem_map.1 hr
  rcases List.mem_cons.1 hu with rfl | hu
  · rfl
  · rw [List.mem_singleton.1 hu]; rfl
theorem one_two (q : Wr) : ∀ u ∈ Wr.two q, u.oneCell' = true := by
  intro u hu
  rcases List.mem_cons.1 hu with rfl | hu
  · rfl
  · rw [List.mem_singleton.1 hu]; rfl
/-- What stands when the new line has been made and is stored. -/
theorem lay_done (h : RefAt w gm bt bo ct co Al cl d) (hb : Below w.heap.size w w') {g cap b : Nat} {t : List UInt8}
    (hown : w'.ownsRow w.heap.size 61 2 (.slice (some ⟨g, 0, none⟩) (d.line.length + 1) cap) (d.line.length + 1) (lineD d.line ++ Wr.two (Wr.mk b t))) (ok : (addL d b t).Ok) :
    RefAt (w'.setCell ⟨gm, 2, none⟩ (.slice (some ⟨g, 0, none⟩) (d.line.length + 1) cap)) gm bt bo ct co (some ⟨g, 0, none⟩) cap (addL d b t) ∧ Chg w (w'.setCell ⟨gm, 2, none⟩ (.slice (some ⟨g, 0, none⟩) (d.line.length + 1) cap)) (rfoot gm bt bo Al) ∧ w.heap.size ≤ g := by
  have hg : w.heap.size ≤ g := (hown.lt g rfl).1
  have lm := h.lt (k := gm) (.inl rfl)
  have lt := h.lt (k := bt) (.inr (.inl rfl))
  have lo := h.lt (k := bo) (.inr (.inr (.inl rfl)))
  have h' := h.new hb
  have k : Chg w' (w'.setCell ⟨gm, 2, none⟩ (.slice (some ⟨g, 0, none⟩) (d.line.length + 1) cap)) (fun k => k = gm) := Chg.set _ _ _ rfl
  have hl : (addL d b t).line.length = d.line.length + 1 := by unfold addL; simp
  refine ⟨⟨?_, h'.text.chg k (fun e => h.nt (by have e' : bt = gm := e; exact e'.symm)), h'.own.chg k (fun e => h.no (by have e' : bo = gm := e; exact e'.symm)), ?_, h.nt, h.no, h.tn, ?_, ?_, ?_, ok⟩, (Chg.of_new hb _).trans (k.weak (fun i hi => .inl hi)), hg⟩
  · have := h'.head.put 2 (.slice (some ⟨g, 0, none⟩) (d.line.length + 1) cap)
    rw [hl]
    show Blk _ _ _ #[.slice (some ⟨bt, 0, none⟩) d.blocks.length ct, .slice (some ⟨bo, 0, none⟩) d.blocks.length co, .slice (some ⟨g, 0, none⟩) (d.line.length + 1) cap, .bool (!d.on), .int .i64 d.armed]
    simpa using this
  · rw [hl]
    have e : lineD (addL d b t).line = lineD d.line ++ Wr.two (Wr.mk b t) := lineD_snoc _ _
    rw [e]
    have r : RowW w' 61 2 (some ⟨g, 0, none⟩) (d.line.length + 1) cap (lineD d.line ++ Wr.two (Wr.mk b t)) := ⟨owns_mono hown (Nat.zero_le _)⟩
    exact r.chg k (fun b hb e => by have e' : b = gm := e; have := inB_some hb; omega)
  · intro e; have := inB_some e; omega
  · intro e; have := inB_some e; omega
  · intro e; have := inB_some e; omega
set_option maxRecDepth 100000 in
set_option maxHeartbeats 4000000 in
theorem rdo2_lay1 (h : RefAt w gm bt bo ct co Al cl d) (env a b : Int) (s : ByteArray) (he : askE d env a = 0) (hs : s.size = 256) (hcnt : d.line.length < 1000000) (h0 : d.armed = -1) :
    Calls Try.prog 9 #[.pointer (some ⟨gm, 0, none⟩), .agg #[.int .i64 2, .int .i64 env, .int .i64 a, .int .i64 b, .string s]] w (RPost w gm bt bo Al (laid d a.toNat s.data.toList) [] 0) := by
  obtain ⟨_, bk, rfl, hbl, _⟩ := askE_zero he
  rw [Int.toNat_natCast]
  have hsl : s.data.toList.length = 256 := by rw [Array.length_toList]; exact hs
  have OK := Lib.hid (show (addL d bk s.data.toList).Ok from by
    have := h.ok.laid hbl hsl (by omega)
    have e : laid d bk s.data.toList = addL d bk s.data.toList := by unfold laid addL; rw [if_pos h0, ← h0]
    rw [← e]; exact this)
  have EQ : laid d bk s.data.toList = addL d bk s.data.toList := by unfold laid addL; rw [if_pos h0, ← h0]
  rw [EQ]
  clear EQ
  have hB := (Below.refl w.heap.size w).alloc (Nat.le_refl _) (.cells #[.int .i64 2, .int .i64 env, .int .i64 (bk : Int), .int .i64 b, .string s] 34)
  have hq := Blk.new w 34 #[.int .i64 2, .int .i64 env, .int .i64 (bk : Int), .int .i64 b, .string s]
  have H := Lib.hid (h.new hB)
  have HB := Lib.hid hB
  have HQ := Lib.hid hq
  have hgl := h.head.lt
  clear hB hq
  go_enter Try.func9, Try.ntmps9
  go_upto_region 1 with fail
  generalize (w.alloc (.cells #[.int .i64 2, .int .i64 env, .int .i64 (bk : Int), .int .i64 b, .string s] 34)) = w1 at *
  obtain ⟨a0, a1, a2, a3, a4⟩ := act_cells HQ.out
  obtain ⟨c0, c1, c2, c3, c4⟩ := H.out.heads
  have f2 := H.out.head.frozen 2
  have f3 := H.out.head.frozen 3
  have f4 := H.out.head.frozen 4
  have ok := H.out.ok
  clear h
  obtain ⟨iw, zw, hi, hz, hzc, hs2, hby⟩ := wr2_info
  have INF := Lib.hid (And.intro hi (And.intro hz (And.intro hzc (And.intro hs2 hby))))
  clear hi hz hzc hs2 hby
  have MAY := Lib.hid (rmay_any H.out env bk)
  rw [he] at MAY
  rw [h0] at c4
  clear he h0
  go_wp2_with fail
  refine MAY.out.mono ?_; rintro e wm ⟨rfl, rfl⟩
  have DD := H
  have FINOF := Lib.hid (show ∀ (W' : World) (g cap : Nat), Below wm.heap.size wm W' → W'.ownsRow wm.heap.size 61 2 (.slice (some ⟨g, 0, none⟩) (d.line.length + 1) cap) (d.line.length + 1) (lineD d.line ++ Wr.two (Wr.mk bk s.data.toList)) → ∃ R', RA (W'.setCell ⟨gm, 2, none⟩ (.slice (some ⟨g, 0, none⟩) (d.line.length + 1) cap)) R' gm _ ∧ Step w (W'.setCell ⟨gm, 2, none⟩ (.slice (some ⟨g, 0, none⟩) (d.line.length + 1) cap)) (rfoot gm bt bo Al) R' from fun W' g cap h1 h2 => by
    obtain ⟨l1, l2, l3⟩ := lay_done DD.out h1 h2 OK.out
    refine post_of l1 HB.out ((Chg.refl wm (rfoot gm bt bo Al)).trans l2) (fun i hi => .inr ?_)
    have := inB_some hi
    have := HB.out.size
    have := (Chg.refl wm (rfoot gm bt bo Al)).size
    omega)
  go_wp2_with fail
  have hgl := DD.out.head.lt
  have hq1 : w.heap.size < wm.heap.size := HQ.out.lt
  have hb0 : Below wm.heap.size wm (wm).drew := ⟨rfl, rfl, rfl, Nat.le_refl _, fun _ _ => rfl⟩
  have LL := Lib.hid (show ∀ W' : World, Below wm.heap.size wm W' → (Instr.loadAt 38 (.pointer (some ⟨gm, 2, none⟩))).run Try.prog W' = .ok (.slice Al d.line.length cl) W' from fun W' h => by have := (h.cell (p := ⟨gm, 2, none⟩) hgl).trans c2; go_simp)
  have L2 := Lib.hid (show ∀ W' : World, Below wm.heap.size wm W' → (Instr.loadAt 3 (.pointer (some ⟨w.heap.size, 2, none⟩))).run Try.prog W' = .ok (.int .i64 (bk : Int)) W' from fun W' h => by have := (h.cell (p := ⟨w.heap.size, 2, none⟩) hq1).trans a2; go_simp)
  have L4 := Lib.hid (show ∀ W' : World, Below wm.heap.size wm W' → (Instr.loadAt 9 (.pointer (some ⟨w.heap.size, 4, none⟩))).run Try.prog W' = .ok (.string s) W' from fun W' h => by have := (h.cell (p := ⟨w.heap.size, 4, none⟩) hq1).trans a4; go_simp)
  have BD := Lib.hid (show ∀ W' : World, (Instr.build 61 #[(0, .int .i64 (bk : Int)), (1, .string s)]).run Try.prog W' = .ok (.agg #[.int .i64 (bk : Int), .string s]) W' from fun W' => by go_simp)
  have BS0 := Lib.hid (show ∀ W' : World, (Instr.buildSlice 38 0 #[]).run Try.prog W' = .ok (.slice (some ⟨W'.heap.size, 0, none⟩) 0 0) (W'.alloc (.cells #[] 61)) from fun W' => by go_simp)
  have BS1 := Lib.hid (show ∀ W' : World, (Instr.buildSlice 38 1 #[(0, (.agg #[.int .i64 (bk : Int), .string s]))]).run Try.prog W' = .ok (.slice (some ⟨W'.heap.size, 0, none⟩) 1 1) (W'.alloc (.cells #[.int .i64 (bk : Int), .string s] 61)) from fun W' => by go_simp)
  refine wp_head_held (S := Below wm.heap.size wm) 16 (by kernel_rfl) rfl rfl (by kernel_rfl) ?_
  simp only [List.take_succ_cons, List.take_zero, List.drop_succ_cons, List.drop_zero]
  refine held_take (i := 0) (d := some 146) (v := .pointer (some ⟨gm, 0, none⟩)) rfl rfl (by kernel_rfl) (by kernel_rfl) (by kernel_rfl) (fun _ _ _ h => h) (by rfl) (fun w _ => by go_simp) hb0 ?_
  simp only [Act.put, List.setIfInBounds_toArray, List.set_cons_zero, List.set_cons_succ]
  refine held_take (i := 2) (d := some 148) (v := .pointer (some ⟨gm, 0, none⟩)) rfl rfl (by kernel_rfl) (by kernel_rfl) (by kernel_rfl) (fun _ _ _ h => h) (by rfl) (fun w _ => by go_simp) hb0 ?_
  simp only [Act.put, List.setIfInBounds_toArray, List.set_cons_zero, List.set_cons_succ]
  refine held_take (i := 3) (d := some 149) (v := .pointer (some ⟨gm, 0, none⟩)) rfl rfl (by kernel_rfl) (by kernel_rfl) (by kernel_rfl) (fun _ _ _ h => h) (by rfl) (fun w _ => by go_simp) hb0 ?_
  simp only [Act.put, List.setIfInBounds_toArray, List.set_cons_zero, List.set_cons_succ]
  refine held_take (i := 4) (d := some 150) (v := .pointer (some ⟨gm, 2, none⟩)) rfl rfl (by kernel_rfl) (by kernel_rfl) (by kernel_rfl) (fun _ _ _ h => h) (by rfl) (fun w _ => by go_simp) hb0 ?_
  simp only [Act.put, List.setIfInBounds_toArray, List.set_cons_zero, List.set_cons_succ]
  refine held_take (i := 5) (d := some 151) (v := .slice Al d.line.length cl) rfl rfl (by kernel_rfl) (by kernel_rfl) (by kernel_rfl) (fun _ _ _ h => h) (by rfl) (fun w hw => exec_load (y := .pointer (some ⟨gm, 2, none⟩)) rfl rfl (LL.out w hw)) hb0 ?_
  simp only [Act.put, List.setIfInBounds_toArray, List.set_cons_zero, List.set_cons_succ]
  refine held_take (i := 7) (d := some 153) (v := .pointer (some ⟨w.heap.size, 2, none⟩)) rfl rfl (by kernel_rfl) (by kernel_rfl) (by kernel_rfl) (fun _ _ _ h => h) (by rfl) (fun w _ => by go_simp) hb0 ?_
  simp only [Act.put, List.setIfInBounds_toArray, List.set_cons_zero, List.set_cons_succ]
  refine held_take (i := 8) (d := some 154) (v := .int .i64 (bk : Int)) rfl rfl (by kernel_rfl) (by kernel_rfl) (by kernel_rfl) (fun _ _ _ h => h) (by rfl) (fun w' hw => exec_load (y := .pointer (some ⟨w.heap.size, 2, none⟩)) rfl rfl (L2.out w' hw)) hb0 ?_
  simp only [Act.put, List.setIfInBounds_toArray, List.set_cons_zero, List.set_cons_succ]
  refine held_take (i := 9) (d := some 155) (v := .pointer (some ⟨w.heap.size, 4, none⟩)) rfl rfl (by kernel_rfl) (by kernel_rfl) (by kernel_rfl) (fun _ _ _ h => h) (by rfl) (fun w _ => by go_simp) hb0 ?_
  simp only [Act.put, List.setIfInBounds_toArray, List.set_cons_zero, List.set_cons_succ]
  refine held_take (i := 10) (d := some 156) (v := .string s) rfl rfl (by kernel_rfl) (by kernel_rfl) (by kernel_rfl) (fun _ _ _ h => h) (by rfl) (fun w' hw => exec_load (y := .pointer (some ⟨w.heap.size, 4, none⟩)) rfl rfl (L4.out w' hw)) hb0 ?_
  simp only [Act.put, List.setIfInBounds_toArray, List.set_cons_zero, List.set_cons_succ]
  refine held_take (i := 11) (d := some 157) (v := (.agg #[.int .i64 (bk : Int), .string s])) rfl rfl (by kernel_rfl) (by kernel_rfl) (by kernel_rfl) (fun _ _ _ h => h) (by rfl) (fun w' _ => exec_build' (ps := #[(0, .int .i64 (bk : Int)), (1, .string s)]) rfl (by go_simp) BD.out w') hb0 ?_
  simp only [Act.put, List.setIfInBounds_toArray, List.set_cons_zero, List.set_cons_succ]
  refine held_two (i := 1) (j := 12) (by kernel_rfl) rfl rfl (by rfl) (by rfl) ?_ ?_
  · have hb1 : Below wm.heap.size wm (((wm).drew).alloc (.cells #[] 61)) := hb0.alloc hb0.size _
    have r1 : ((((wm).drew).alloc (.cells #[] 61))).ownsRow wm.heap.size 61 2 (.slice (some ⟨((wm).drew).heap.size, 0, none⟩) 0 0) 0 [] := World.ownsRow_lit ((wm).drew) #[] 0 hb0.size (by decide) rfl
    refine wp_slice_d (d := some 147) (ps := #[]) rfl rfl (by go_simp) (BS0.out _) ?_
    refine ⟨hb1, ?_⟩
    simp only [Act.put, List.setIfInBounds_toArray, List.set_cons_zero, List.set_cons_succ]
    refine held_two (i := 6) (j := 12) (by kernel_rfl) rfl rfl (by rfl) (by rfl) ?_ ?_
    · refine wp_append_copy (d := some 152) rfl (.tmp 147) (.tmp 151) 38 rfl wm.heap.size 61 iw zw 2 24 Try.underlying38 INF.out.1 INF.out.2.1 INF.out.2.2.2.1 INF.out.2.2.2.2 INF.out.2.2.1 (by decide) _ 0 [] rfl r1 Al d.line.length cl (lineD d.line) rfl (DD.out.new hb1).line.own (one_lineD _) (by unfold maxLen; omega) (by omega) hb1.size ?_
      intro v1 w_2 ho2 hg2 hat2
      rw [Nat.zero_add, List.nil_append] at ho2
      have hb2 : Below wm.heap.size wm w_2 := hb1.grown hg2 hb1.size (fun k e => (r1.lt k e).1)
      refine ⟨hb2, ?_⟩
      simp only [Act.put, List.setIfInBounds_toArray, List.set_cons_zero, List.set_cons_succ]
      refine held_one (i := 12) (by kernel_rfl) rfl (by rfl) ?_
      have hb3 : Below wm.heap.size wm ((w_2).alloc (.cells #[.int .i64 (bk : Int), .string s] 61)) := hb2.alloc hb2.size _
      have n3 : Blk ((w_2).alloc (.cells #[.int .i64 (bk : Int), .string s] 61)) (w_2).heap.size 61 #[.int .i64 (bk : Int), .string s] := Blk.new (w_2) 61 _
      refine wp_slice_d (d := some 158) (ps := #[(0, (.agg #[.int .i64 (bk : Int), .string s]))]) rfl rfl (by go_simp) (BS1.out _) ?_
      refine ⟨hb3, ?_⟩
      simp only [Act.put, List.setIfInBounds_toArray, List.set_cons_zero, List.set_cons_succ]
      refine held_one (i := 13) (by kernel_rfl) rfl (by rfl) ?_
      refine wp_append_d (d := some 159) rfl (.tmp 152) (.tmp 158) 38 rfl wm.heap.size 61 iw zw 2 24 Try.underlying38 INF.out.1 INF.out.2.1 INF.out.2.2.2.1 INF.out.2.2.2.2 INF.out.2.2.1 (by decide) v1 d.line.length (lineD d.line) rfl (ho2.alloc _) ⟨w_2.heap.size, 0, none⟩ 1 1 [.int .i64 (bk : Int), .string s] rfl rfl (World.news_of_block n3) (one_two ⟨bk, s.data.toList⟩) (by decide) (by unfold maxLen; omega) (by omega) hb3.size ?_
      intro g cap w_4 ho4 hg4 hat4 hl4
      have hb4 : Below wm.heap.size wm w_4 := hb3.grown hg4 hb3.size (fun k e => (ho2.lt k e).1)
      refine ⟨hb4, ?_⟩
      simp only [Act.put, List.setIfInBounds_toArray, List.set_cons_zero, List.set_cons_succ]
      refine held_take (i := 14) (d := some 160) (v := .pointer (some ⟨gm, 0, none⟩)) rfl rfl (by kernel_rfl) (by kernel_rfl) (by kernel_rfl) (fun _ _ _ h => h) (by rfl) (fun w _ => by go_simp) hb4 ?_
      simp only [Act.put, List.setIfInBounds_toArray, List.set_cons_zero, List.set_cons_succ]
      refine held_take (i := 15) (d := some 161) (v := .pointer (some ⟨gm, 2, none⟩)) rfl rfl (by kernel_rfl) (by kernel_rfl) (by kernel_rfl) (fun _ _ _ h => h) (by rfl) (fun w _ => by go_simp) hb4 ?_
      simp only [Act.put, List.setIfInBounds_toArray, List.set_cons_zero, List.set_cons_succ]
      refine wpAnyH_done (by kernel_rfl) ?_ _
      have FIN := Lib.hid (FINOF.out w_4 g cap hb4 ho4)
      have c2' : w_4.cell? ⟨gm, 2, none⟩ = some (.slice Al d.line.length cl) := (hb4.cell (p := ⟨gm, 2, none⟩) hgl).trans c2
      have f2' : w_4.frozen? ⟨gm, 2, none⟩ = false := (hb4.frozen (p := ⟨gm, 2, none⟩) hgl).trans f2
      clear ho2 hg2 hat2 ho4 hg4 hat4 hl4 hb0 hb1 hb2 hb3 hb4 r1 n3
      show wpList _ _ _ _ _ _
      go_wp2
      go_ret2
      exact ⟨rfl, FIN.out⟩
    · have hb2 : Below wm.heap.size wm (((((wm).drew).alloc (.cells #[] 61))).alloc (.cells #[.int .i64 (bk : Int), .string s] 61)) := hb1.alloc hb1.size _
      have n2 : Blk (((((wm).drew).alloc (.cells #[] 61))).alloc (.cells #[.int .i64 (bk : Int), .string s] 61)) ((((wm).drew).alloc (.cells #[] 61))).heap.size 61 #[.int .i64 (bk : Int), .string s] := Blk.new ((((wm).drew).alloc (.cells #[] 61))) 61 _
      refine wp_slice_d (d := some 158) (ps := #[(0, (.agg #[.int .i64 (bk : Int), .string s]))]) rfl rfl (by go_simp) (BS1.out _) ?_
      refine ⟨hb2, ?_⟩
      simp only [Act.put, List.setIfInBounds_toArray, List.set_cons_zero, List.set_cons_succ]
      refine held_one (i := 6) (by kernel_rfl) rfl (by rfl) ?_
      refine wp_append_copy (d := some 152) rfl (.tmp 147) (.tmp 151) 38 rfl wm.heap.size 61 iw zw 2 24 Try.underlying38 INF.out.1 INF.out.2.1 INF.out.2.2.2.1 INF.out.2.2.2.2 INF.out.2.2.1 (by decide) _ 0 [] rfl (r1.alloc _) Al d.line.length cl (lineD d.line) rfl (DD.out.new hb2).line.own (one_lineD _) (by unfold maxLen; omega) (by omega) hb2.size ?_
      intro v1 w_3 ho3 hg3 hat3
      rw [Nat.zero_add, List.nil_append] at ho3
      have hb3 : Below wm.heap.size wm w_3 := hb2.grown hg3 hb2.size (fun k e => (r1.lt k e).1)
      refine ⟨hb3, ?_⟩
      simp only [Act.put, List.setIfInBounds_toArray, List.set_cons_zero, List.set_cons_succ]
      have n3 := n2.chg (chg_of_grown (A := some ⟨(wm).drew.heap.size, 0, none⟩) (Below.refl _ _) hg3) (fun e => by have := inB_some e; simp at this)
      refine held_one (i := 13) (by kernel_rfl) rfl (by rfl) ?_
      refine wp_append_d (d := some 159) rfl (.tmp 152) (.tmp 158) 38 rfl wm.heap.size 61 iw zw 2 24 Try.underlying38 INF.out.1 INF.out.2.1 INF.out.2.2.2.1 INF.out.2.2.2.2 INF.out.2.2.1 (by decide) v1 d.line.length (lineD d.line) rfl ho3 ⟨((((wm).drew).alloc (.cells #[] 61))).heap.size, 0, none⟩ 1 1 [.int .i64 (bk : Int), .string s] rfl rfl (World.news_of_block n3) (one_two ⟨bk, s.data.toList⟩) (by decide) (by unfold maxLen; omega) (by omega) hb3.size ?_
      intro g cap w_4 ho4 hg4 hat4 hl4
      have hb4 : Below wm.heap.size wm w_4 := hb3.grown hg4 hb3.size (fun k e => (ho3.lt k e).1)
      refine ⟨hb4, ?_⟩
      simp only [Act.put, List.setIfInBounds_toArray, List.set_cons_zero, List.set_cons_succ]
      refine held_take (i := 14) (d := some 160) (v := .pointer (some ⟨gm, 0, none⟩)) rfl rfl (by kernel_rfl) (by kernel_rfl) (by kernel_rfl) (fun _ _ _ h => h) (by rfl) (fun w _ => by go_simp) hb4 ?_
      simp only [Act.put, List.setIfInBounds_toArray, List.set_cons_zero, List.set_cons_succ]
      refine held_take (i := 15) (d := some 161) (v := .pointer (some ⟨gm, 2, none⟩)) rfl rfl (by kernel_rfl) (by kernel_rfl) (by kernel_rfl) (fun _ _ _ h => h) (by rfl) (fun w _ => by go_simp) hb4 ?_
      simp only [Act.put, List.setIfInBounds_toArray, List.set_cons_zero, List.set_cons_succ]
      refine wpAnyH_done (by kernel_rfl) ?_ _
      have FIN := Lib.hid (FINOF.out w_4 g cap hb4 ho4)
      have c2' : w_4.cell? ⟨gm, 2, none⟩ = some (.slice Al d.line.length cl) := (hb4.cell (p := ⟨gm, 2, none⟩) hgl).trans c2
      have f2' : w_4.frozen? ⟨gm, 2, none⟩ = false := (hb4.frozen (p := ⟨gm, 2, none⟩) hgl).trans f2
      clear ho3 hg3 hat3 ho4 hg4 hat4 hl4 hb0 hb1 hb2 hb3 hb4 r1 n2 n3
      show wpList _ _ _ _ _ _
      go_wp2
      go_ret2
      exact ⟨rfl, FIN.out⟩
  · have hb1 : Below wm.heap.size wm (((wm).drew).alloc (.cells #[.int .i64 (bk : Int), .string s] 61)) := hb0.alloc hb0.size _
    have n1 : Blk (((wm).drew).alloc (.cells #[.int .i64 (bk : Int), .string s] 61)) ((wm).drew).heap.size 61 #[.int .i64 (bk : Int), .string s] := Blk.new ((wm).drew) 61 _
    refine wp_slice_d (d := some 158) (ps := #[(0, (.agg #[.int .i64 (bk : Int), .string s]))]) rfl rfl (by go_simp) (BS1.out _) ?_
    refine ⟨hb1, ?_⟩
    simp only [Act.put, List.setIfInBounds_toArray, List.set_cons_zero, List.set_cons_succ]
    refine held_one (i := 1) (by kernel_rfl) rfl (by rfl) ?_
    have hb2 : Below wm.heap.size wm (((((wm).drew).alloc (.cells #[.int .i64 (bk : Int), .string s] 61))).alloc (.cells #[] 61)) := hb1.alloc hb1.size _
    have r2 : ((((((wm).drew).alloc (.cells #[.int .i64 (bk : Int), .string s] 61))).alloc (.cells #[] 61))).ownsRow wm.heap.size 61 2 (.slice (some ⟨((((wm).drew).alloc (.cells #[.int .i64 (bk : Int), .string s] 61))).heap.size, 0, none⟩) 0 0) 0 [] := World.ownsRow_lit ((((wm).drew).alloc (.cells #[.int .i64 (bk : Int), .string s] 61))) #[] 0 hb1.size (by decide) rfl
    refine wp_slice_d (d := some 147) (ps := #[]) rfl rfl (by go_simp) (BS0.out _) ?_
    refine ⟨hb2, ?_⟩
    simp only [Act.put, List.setIfInBounds_toArray, List.set_cons_zero, List.set_cons_succ]
    refine held_one (i := 6) (by kernel_rfl) rfl (by rfl) ?_
    refine wp_append_copy (d := some 152) rfl (.tmp 147) (.tmp 151) 38 rfl wm.heap.size 61 iw zw 2 24 Try.underlying38 INF.out.1 INF.out.2.1 INF.out.2.2.2.1 INF.out.2.2.2.2 INF.out.2.2.1 (by decide) _ 0 [] rfl r2 Al d.line.length cl (lineD d.line) rfl (DD.out.new hb2).line.own (one_lineD _) (by unfold maxLen; omega) (by omega) hb2.size ?_
    intro v1 w_3 ho3 hg3 hat3
    rw [Nat.zero_add, List.nil_append] at ho3
    have hb3 : Below wm.heap.size wm w_3 := hb2.grown hg3 hb2.size (fun k e => (r2.lt k e).1)
    refine ⟨hb3, ?_⟩
    simp only [Act.put, List.setIfInBounds_toArray, List.set_cons_zero, List.set_cons_succ]
    have n3 := (n1.chg (Chg.of_new ((Below.refl _ _).alloc (Nat.le_refl _) (.cells #[] 61)) (fun _ => False)) (fun e => e)).chg (chg_of_grown (A := some ⟨(((wm).drew).alloc (.cells #[.int .i64 (bk : Int), .string s] 61)).heap.size, 0, none⟩) (Below.refl _ _) hg3) (fun e => by have := inB_some e; simp at this)
    refine held_one (i := 13) (by kernel_rfl) rfl (by rfl) ?_
    refine wp_append_d (d := some 159) rfl (.tmp 152) (.tmp 158) 38 rfl wm.heap.size 61 iw zw 2 24 Try.underlying38 INF.out.1 INF.out.2.1 INF.out.2.2.2.1 INF.out.2.2.2.2 INF.out.2.2.1 (by decide) v1 d.line.length (lineD d.line) rfl ho3 ⟨((wm).drew).heap.size, 0, none⟩ 1 1 [.int .i64 (bk : Int), .string s] rfl rfl (World.news_of_block n3) (one_two ⟨bk, s.data.toList⟩) (by decide) (by unfold maxLen; omega) (by omega) hb3.size ?_
    intro g cap w_4 ho4 hg4 hat4 hl4
    have hb4 : Below wm.heap.size wm w_4 := hb3.grown hg4 hb3.size (fun k e => (ho3.lt k e).1)
    refine ⟨hb4, ?_⟩
    simp only [Act.put, List.setIfInBounds_toArray, List.set_cons_zero, List.set_cons_succ]
    refine held_take (i := 14) (d := some 160) (v := .pointer (some ⟨gm, 0, none⟩)) rfl rfl (by kernel_rfl) (by kernel_rfl) (by kernel_rfl) (fun _ _ _ h => h) (by rfl) (fun w _ => by go_simp) hb4 ?_
    simp only [Act.put, List.setIfInBounds_toArray, List.set_cons_zero, List.set_cons_succ]
    refine held_take (i := 15) (d := some 161) (v := .pointer (some ⟨gm, 2, none⟩)) rfl rfl (by kernel_rfl) (by kernel_rfl) (by kernel_rfl) (fun _ _ _ h => h) (by rfl) (fun w _ => by go_simp) hb4 ?_
    simp only [Act.put, List.setIfInBounds_toArray, List.set_cons_zero, List.set_cons_succ]
    refine wpAnyH_done (by kernel_rfl) ?_ _
    have FIN := Lib.hid (FINOF.out w_4 g cap hb4 ho4)
    have c2' : w_4.cell? ⟨gm, 2, none⟩ = some (.slice Al d.line.length cl) := (hb4.cell (p := ⟨gm, 2, none⟩) hgl).trans c2
    have f2' : w_4.frozen? ⟨gm, 2, none⟩ = false := (hb4.frozen (p := ⟨gm, 2, none⟩) hgl).trans f2
    clear ho3 hg3 hat3 ho4 hg4 hat4 hl4 hb0 hb1 hb2 hb3 hb4 r2 n1 n3
    show wpList _ _ _ _ _ _
    go_wp2
    go_ret2
    exact ⟨rfl, FIN.out⟩

set_option maxRecDepth 100000 in
set_option maxHeartbeats 4000000 in
theorem rdo2_lay2 (h : RefAt w gm bt bo ct co Al cl d) (env a b : Int) (s : ByteArray) (he : askE d env a = 0) (hs : s.size = 256) (hcnt : d.line.length < 1000000) (h0 : d.armed ≠ 0) (hm : d.armed ≠ -1) :
    Calls Try.prog 9 #[.pointer (some ⟨gm, 0, none⟩), .agg #[.int .i64 2, .int .i64 env, .int .i64 a, .int .i64 b, .string s]] w (RPost w gm bt bo Al (laid d a.toNat s.data.toList) [] 0) := by
  obtain ⟨_, bk, rfl, hbl, _⟩ := askE_zero he
  rw [Int.toNat_natCast]
  have hsl : s.data.toList.length = 256 := by rw [Array.length_toList]; exact hs
  have har := h.ok.ar
  have h1 : 0 < d.armed := by omega
  have h1' : d.armed > 0 := h1
  have EQ : laid d bk s.data.toList = addL { d with armed := d.armed - 1 } bk s.data.toList := by unfold laid addL; rw [if_neg hm]
  have OK := Lib.hid (show (addL { d with armed := d.armed - 1 } bk s.data.toList).Ok from by rw [← EQ]; exact h.ok.laid hbl hsl h0)
  rw [EQ]
  clear EQ
  have h0' : (d.armed == 0) = false := beq_eq_false_iff_ne.2 h0
  have xs := IntWalk.i64_in (d.armed - 1) (by omega)
  have hB := (Below.refl w.heap.size w).alloc (Nat.le_refl _) (.cells #[.int .i64 2, .int .i64 env, .int .i64 (bk : Int), .int .i64 b, .string s] 34)
  have hq := Blk.new w 34 #[.int .i64 2, .int .i64 env, .int .i64 (bk : Int), .int .i64 b, .string s]
  have H := Lib.hid (h.new hB)
  have HB := Lib.hid hB
  have HQ := Lib.hid hq
  have hgl := h.head.lt
  clear hB hq
  go_enter Try.func9, Try.ntmps9
  go_upto_region 1 with fail
  generalize (w.alloc (.cells #[.int .i64 2, .int .i64 env, .int .i64 (bk : Int), .int .i64 b, .string s] 34)) = w1 at *
  obtain ⟨a0, a1, a2, a3, a4⟩ := act_cells HQ.out
  obtain ⟨c0, c1, c2, c3, c4⟩ := H.out.heads
  have f2 := H.out.head.frozen 2
  have f3 := H.out.head.frozen 3
  have f4 := H.out.head.frozen 4
  have ok := H.out.ok
  clear h
  obtain ⟨iw, zw, hi, hz, hzc, hs2, hby⟩ := wr2_info
  have INF := Lib.hid (And.intro hi (And.intro hz (And.intro hzc (And.intro hs2 hby))))
  clear hi hz hzc hs2 hby
  have MAY := Lib.hid (rmay_any H.out env bk)
  rw [he] at MAY
  clear he h0 hm
  go_wp2_with fail
  refine MAY.out.mono ?_; rintro e wm ⟨rfl, rfl⟩
  have LST := Lib.hid (H.out.setLeft (d.armed - 1) (by omega))
  have hq4 : ¬ gm = w.heap.size := by omega
  go_upto_region 31 with fail
  have q2 := (HQ.out.chg (Chg.set (S := fun k => k = gm) wm 4 (.int .i64 (d.armed - 1)) rfl) (fun e => hq4 (by have e' : w.heap.size = gm := e; exact e'.symm)))
  generalize hW : wm.setCell ⟨gm, 4, none⟩ (.int .i64 (d.armed - 1)) = wn at *
  clear hW c0 c1 c2 c3 c4 f2 f3 f4 a0 a1 a2 a3 a4
  obtain ⟨a0, a1, a2, a3, a4⟩ := act_cells q2
  obtain ⟨c0, c1, c2, c3, c4⟩ := LST.out.1.heads
  have f2 := LST.out.1.head.frozen 2
  have HQ := Lib.hid q2
  clear q2 hgl
  have KK := Lib.hid LST.out.2
  have DD := Lib.hid LST.out.1
  clear LST
  generalize hd : ({ d with armed := d.armed - 1 } : Dk) = dd at *
  have hll : d.line = dd.line := by rw [← hd]
  rw [hll] at hcnt
  have FINOF := Lib.hid (show ∀ (W' : World) (g cap : Nat), Below wn.heap.size wn W' → W'.ownsRow wn.heap.size 61 2 (.slice (some ⟨g, 0, none⟩) (dd.line.length + 1) cap) (dd.line.length + 1) (lineD dd.line ++ Wr.two (Wr.mk bk s.data.toList)) → ∃ R', RA (W'.setCell ⟨gm, 2, none⟩ (.slice (some ⟨g, 0, none⟩) (dd.line.length + 1) cap)) R' gm _ ∧ Step w (W'.setCell ⟨gm, 2, none⟩ (.slice (some ⟨g, 0, none⟩) (dd.line.length + 1) cap)) (rfoot gm bt bo Al) R' from fun W' g cap h1 h2 => by
    obtain ⟨l1, l2, l3⟩ := lay_done DD.out h1 h2 OK.out
    refine post_of l1 HB.out ((KK.out).trans l2) (fun i hi => .inr ?_)
    have := inB_some hi
    have := HB.out.size
    have := (KK.out).size
    omega)
  have hgl := DD.out.head.lt
  have hq1 : w.heap.size < wn.heap.size := HQ.out.lt
  have hb0 : Below wn.heap.size wn (wn).drew := ⟨rfl, rfl, rfl, Nat.le_refl _, fun _ _ => rfl⟩
  have LL := Lib.hid (show ∀ W' : World, Below wn.heap.size wn W' → (Instr.loadAt 38 (.pointer (some ⟨gm, 2, none⟩))).run Try.prog W' = .ok (.slice Al dd.line.length cl) W' from fun W' h => by have := (h.cell (p := ⟨gm, 2, none⟩) hgl).trans c2; go_simp)
  have L2 := Lib.hid (show ∀ W' : World, Below wn.heap.size wn W' → (Instr.loadAt 3 (.pointer (some ⟨w.heap.size, 2, none⟩))).run Try.prog W' = .ok (.int .i64 (bk : Int)) W' from fun W' h => by have := (h.cell (p := ⟨w.heap.size, 2, none⟩) hq1).trans a2; go_simp)
  have L4 := Lib.hid (show ∀ W' : World, Below wn.heap.size wn W' → (Instr.loadAt 9 (.pointer (some ⟨w.heap.size, 4, none⟩))).run Try.prog W' = .ok (.string s) W' from fun W' h => by have := (h.cell (p := ⟨w.heap.size, 4, none⟩) hq1).trans a4; go_simp)
  have BD := Lib.hid (show ∀ W' : World, (Instr.build 61 #[(0, .int .i64 (bk : Int)), (1, .string s)]).run Try.prog W' = .ok (.agg #[.int .i64 (bk : Int), .string s]) W' from fun W' => by go_simp)
  have BS0 := Lib.hid (show ∀ W' : World, (Instr.buildSlice 38 0 #[]).run Try.prog W' = .ok (.slice (some ⟨W'.heap.size, 0, none⟩) 0 0) (W'.alloc (.cells #[] 61)) from fun W' => by go_simp)
  have BS1 := Lib.hid (show ∀ W' : World, (Instr.buildSlice 38 1 #[(0, (.agg #[.int .i64 (bk : Int), .string s]))]).run Try.prog W' = .ok (.slice (some ⟨W'.heap.size, 0, none⟩) 1 1) (W'.alloc (.cells #[.int .i64 (bk : Int), .string s] 61)) from fun W' => by go_simp)
  refine wp_head_held (S := Below wn.heap.size wn) 16 (by kernel_rfl) rfl rfl (by kernel_rfl) ?_
  simp only [List.take_succ_cons, List.take_zero, List.drop_succ_cons, List.drop_zero]
  refine held_take (i := 0) (d := some 146) (v := .pointer (some ⟨gm, 0, none⟩)) rfl rfl (by kernel_rfl) (by kernel_rfl) (by kernel_rfl) (fun _ _ _ h => h) (by rfl) (fun w _ => by go_simp) hb0 ?_
  simp only [Act.put, List.setIfInBounds_toArray, List.set_cons_zero, List.set_cons_succ]
  refine held_take (i := 2) (d := some 148) (v := .pointer (some ⟨gm, 0, none⟩)) rfl rfl (by kernel_rfl) (by kernel_rfl) (by kernel_rfl) (fun _ _ _ h => h) (by rfl) (fun w _ => by go_simp) hb0 ?_
  simp only [Act.put, List.setIfInBounds_toArray, List.set_cons_zero, List.set_cons_succ]
  refine held_take (i := 3) (d := some 149) (v := .pointer (some ⟨gm, 0, none⟩)) rfl rfl (by kernel_rfl) (by kernel_rfl) (by kernel_rfl) (fun _ _ _ h => h) (by rfl) (fun w _ => by go_simp) hb0 ?_
  simp only [Act.put, List.setIfInBounds_toArray, List.set_cons_zero, List.set_cons_succ]
  refine held_take (i := 4) (d := some 150) (v := .pointer (some ⟨gm, 2, none⟩)) rfl rfl (by kernel_rfl) (by kernel_rfl) (by kernel_rfl) (fun _ _ _ h => h) (by rfl) (fun w _ => by go_simp) hb0 ?_
  simp only [Act.put, List.setIfInBounds_toArray, List.set_cons_zero, List.set_cons_succ]
  refine held_take (i := 5) (d := some 151) (v := .slice Al dd.line.length cl) rfl rfl (by kernel_rfl) (by kernel_rfl) (by kernel_rfl) (fun _ _ _ h => h) (by rfl) (fun w hw => exec_load (y := .pointer (some ⟨gm, 2, none⟩)) rfl rfl (LL.out w hw)) hb0 ?_
  simp only [Act.put, List.setIfInBounds_toArray, List.set_cons_zero, List.set_cons_succ]
  refine held_take (i := 7) (d := some 153) (v := .pointer (some ⟨w.heap.size, 2, none⟩)) rfl rfl (by kernel_rfl) (by kernel_rfl) (by kernel_rfl) (fun _ _ _ h => h) (by rfl) (fun w _ => by go_simp) hb0 ?_
  simp only [Act.put, List.setIfInBounds_toArray, List.set_cons_zero, List.set_cons_succ]
  refine held_take (i := 8) (d := some 154) (v := .int .i64 (bk : Int)) rfl rfl (by kernel_rfl) (by kernel_rfl) (by kernel_rfl) (fun _ _ _ h => h) (by rfl) (fun w' hw => exec_load (y := .pointer (some ⟨w.heap.size, 2, none⟩)) rfl rfl (L2.out w' hw)) hb0 ?_
  simp only [Act.put, List.setIfInBounds_toArray, List.set_cons_zero, List.set_cons_succ]
  refine held_take (i := 9) (d := some 155) (v := .pointer (some ⟨w.heap.size, 4, none⟩)) rfl rfl (by kernel_rfl) (by kernel_rfl) (by kernel_rfl) (fun _ _ _ h => h) (by rfl) (fun w _ => by go_simp) hb0 ?_
  simp only [Act.put, List.setIfInBounds_toArray, List.set_cons_zero, List.set_cons_succ]
  refine held_take (i := 10) (d := some 156) (v := .string s) rfl rfl (by kernel_rfl) (by kernel_rfl) (by kernel_rfl) (fun _ _ _ h => h) (by rfl) (fun w' hw => exec_load (y := .pointer (some ⟨w.heap.size, 4, none⟩)) rfl rfl (L4.out w' hw)) hb0 ?_
  simp only [Act.put, List.setIfInBounds_toArray, List.set_cons_zero, List.set_cons_succ]
  refine held_take (i := 11) (d := some 157) (v := (.agg #[.int .i64 (bk : Int), .string s])) rfl rfl (by kernel_rfl) (by kernel_rfl) (by kernel_rfl) (fun _ _ _ h => h) (by rfl) (fun w' _ => exec_build' (ps := #[(0, .int .i64 (bk : Int)), (1, .string s)]) rfl (by go_simp) BD.out w') hb0 ?_
  simp only [Act.put, List.setIfInBounds_toArray, List.set_cons_zero, List.set_cons_succ]
  refine held_two (i := 1) (j := 12) (by kernel_rfl) rfl rfl (by rfl) (by rfl) ?_ ?_
  · have hb1 : Below wn.heap.size wn (((wn).drew).alloc (.cells #[] 61)) := hb0.alloc hb0.size _
    have r1 : ((((wn).drew).alloc (.cells #[] 61))).ownsRow wn.heap.size 61 2 (.slice (some ⟨((wn).drew).heap.size, 0, none⟩) 0 0) 0 [] := World.ownsRow_lit ((wn).drew) #[] 0 hb0.size (by decide) rfl
    refine wp_slice_d (d := some 147) (ps := #[]) rfl rfl (by go_simp) (BS0.out _) ?_
    refine ⟨hb1, ?_⟩
    simp only [Act.put, List.setIfInBounds_toArray, List.set_cons_zero, List.set_cons_succ]
    refine held_two (i := 6) (j := 12) (by kernel_rfl) rfl rfl (by rfl) (by rfl) ?_ ?_
    · refine wp_append_copy (d := some 152) rfl (.tmp 147) (.tmp 151) 38 rfl wn.heap.size 61 iw zw 2 24 Try.underlying38 INF.out.1 INF.out.2.1 INF.out.2.2.2.1 INF.out.2.2.2.2 INF.out.2.2.1 (by decide) _ 0 [] rfl r1 Al dd.line.length cl (lineD dd.line) rfl (DD.out.new hb1).line.own (one_lineD _) (by unfold maxLen; omega) (by omega) hb1.size ?_
      intro v1 w_2 ho2 hg2 hat2
      rw [Nat.zero_add, List.nil_append] at ho2
      have hb2 : Below wn.heap.size wn w_2 := hb1.grown hg2 hb1.size (fun k e => (r1.lt k e).1)
      refine ⟨hb2, ?_⟩
      simp only [Act.put, List.setIfInBounds_toArray, List.set_cons_zero, List.set_cons_succ]
      refine held_one (i := 12) (by kernel_rfl) rfl (by rfl) ?_
      have hb3 : Below wn.heap.size wn ((w_2).alloc (.cells #[.int .i64 (bk : Int), .string s] 61)) := hb2.alloc hb2.size _
      have n3 : Blk ((w_2).alloc (.cells #[.int .i64 (bk : Int), .string s] 61)) (w_2).heap.size 61 #[.int .i64 (bk : Int), .string s] := Blk.new (w_2) 61 _
      refine wp_slice_d (d := some 158) (ps := #[(0, (.agg #[.int .i64 (bk : Int), .string s]))]) rfl rfl (by go_simp) (BS1.out _) ?_
      refine ⟨hb3, ?_⟩
      simp only [Act.put, List.setIfInBounds_toArray, List.set_cons_zero, List.set_cons_succ]
      refine held_one (i := 13) (by kernel_rfl) rfl (by rfl) ?_
      refine wp_append_d (d := some 159) rfl (.tmp 152) (.tmp 158) 38 rfl wn.heap.size 61 iw zw 2 24 Try.underlying38 INF.out.1 INF.out.2.1 INF.out.2.2.2.1 INF.out.2.2.2.2 INF.out.2.2.1 (by decide) v1 dd.line.length (lineD dd.line) rfl (ho2.alloc _) ⟨w_2.heap.size, 0, none⟩ 1 1 [.int .i64 (bk : Int), .string s] rfl rfl (World.news_of_block n3) (one_two ⟨bk, s.data.toList⟩) (by decide) (by unfold maxLen; omega) (by omega) hb3.size ?_
      intro g cap w_4 ho4 hg4 hat4 hl4
      have hb4 : Below wn.heap.size wn w_4 := hb3.grown hg4 hb3.size (fun k e => (ho2.lt k e).1)
      refine ⟨hb4, ?_⟩
      simp only [Act.put, List.setIfInBounds_toArray, List.set_cons_zero, List.set_cons_succ]
      refine held_take (i := 14) (d := some 160) (v := .pointer (some ⟨gm, 0, none⟩)) rfl rfl (by kernel_rfl) (by kernel_rfl) (by kernel_rfl) (fun _ _ _ h => h) (by rfl) (fun w _ => by go_simp) hb4 ?_
      simp only [Act.put, List.setIfInBounds_toArray, List.set_cons_zero, List.set_cons_succ]
      refine held_take (i := 15) (d := some 161) (v := .pointer (some ⟨gm, 2, none⟩)) rfl rfl (by kernel_rfl) (by kernel_rfl) (by kernel_rfl) (fun _ _ _ h => h) (by rfl) (fun w _ => by go_simp) hb4 ?_
      simp only [Act.put, List.setIfInBounds_toArray, List.set_cons_zero, List.set_cons_succ]
      refine wpAnyH_done (by kernel_rfl) ?_ _
      have FIN := Lib.hid (FINOF.out w_4 g cap hb4 ho4)
      have c2' : w_4.cell? ⟨gm, 2, none⟩ = some (.slice Al dd.line.length cl) := (hb4.cell (p := ⟨gm, 2, none⟩) hgl).trans c2
      have f2' : w_4.frozen? ⟨gm, 2, none⟩ = false := (hb4.frozen (p := ⟨gm, 2, none⟩) hgl).trans f2
      clear ho2 hg2 hat2 ho4 hg4 hat4 hl4 hb0 hb1 hb2 hb3 hb4 r1 n3
      show wpList _ _ _ _ _ _
      go_wp2
      go_ret2
      exact ⟨rfl, FIN.out⟩
    · have hb2 : Below wn.heap.size wn (((((wn).drew).alloc (.cells #[] 61))).alloc (.cells #[.int .i64 (bk : Int), .string s] 61)) := hb1.alloc hb1.size _
      have n2 : Blk (((((wn).drew).alloc (.cells #[] 61))).alloc (.cells #[.int .i64 (bk : Int), .string s] 61)) ((((wn).drew).alloc (.cells #[] 61))).heap.size 61 #[.int .i64 (bk : Int), .string s] := Blk.new ((((wn).drew).alloc (.cells #[] 61))) 61 _
      refine wp_slice_d (d := some 158) (ps := #[(0, (.agg #[.int .i64 (bk : Int), .string s]))]) rfl rfl (by go_simp) (BS1.out _) ?_
      refine ⟨hb2, ?_⟩
      simp only [Act.put, List.setIfInBounds_toArray, List.set_cons_zero, List.set_cons_succ]
      refine held_one (i := 6) (by kernel_rfl) rfl (by rfl) ?_
      refine wp_append_copy (d := some 152) rfl (.tmp 147) (.tmp 151) 38 rfl wn.heap.size 61 iw zw 2 24 Try.underlying38 INF.out.1 INF.out.2.1 INF.out.2.2.2.1 INF.out.2.2.2.2 INF.out.2.2.1 (by decide) _ 0 [] rfl (r1.alloc _) Al dd.line.length cl (lineD dd.line) rfl (DD.out.new hb2).line.own (one_lineD _) (by unfold maxLen; omega) (by omega) hb2.size ?_
      intro v1 w_3 ho3 hg3 hat3
      rw [Nat.zero_add, List.nil_append] at ho3
      have hb3 : Below wn.heap.size wn w_3 := hb2.grown hg3 hb2.size (fun k e => (r1.lt k e).1)
      refine ⟨hb3, ?_⟩
      simp only [Act.put, List.setIfInBounds_toArray, List.set_cons_zero, List.set_cons_succ]
      have n3 := n2.chg (chg_of_grown (A := some ⟨(wn).drew.heap.size, 0, none⟩) (Below.refl _ _) hg3) (fun e => by have := inB_some e; simp at this)
      refine held_one (i := 13) (by kernel_rfl) rfl (by rfl) ?_
      refine wp_append_d (d := some 159) rfl (.tmp 152) (.tmp 158) 38 rfl wn.heap.size 61 iw zw 2 24 Try.underlying38 INF.out.1 INF.out.2.1 INF.out.2.2.2.1 INF.out.2.2.2.2 INF.out.2.2.1 (by decide) v1 dd.line.length (lineD dd.line) rfl ho3 ⟨((((wn).drew).alloc (.cells #[] 61))).heap.size, 0, none⟩ 1 1 [.int .i64 (bk : Int), .string s] rfl rfl (World.news_of_block n3) (one_two ⟨bk, s.data.toList⟩) (by decide) (by unfold maxLen; omega) (by omega) hb3.size ?_
      intro g cap w_4 ho4 hg4 hat4 hl4
      have hb4 : Below wn.heap.size wn w_4 := hb3.grown hg4 hb3.size (fun k e => (ho3.lt k e).1)
      refine ⟨hb4, ?_⟩
      simp only [Act.put, List.setIfInBounds_toArray, List.set_cons_zero, List.set_cons_succ]
      refine held_take (i := 14) (d := some 160) (v := .pointer (some ⟨gm, 0, none⟩)) rfl rfl (by kernel_rfl) (by kernel_rfl) (by kernel_rfl) (fun _ _ _ h => h) (by rfl) (fun w _ => by go_simp) hb4 ?_
      simp only [Act.put, List.setIfInBounds_toArray, List.set_cons_zero, List.set_cons_succ]
      refine held_take (i := 15) (d := some 161) (v := .pointer (some ⟨gm, 2, none⟩)) rfl rfl (by kernel_rfl) (by kernel_rfl) (by kernel_rfl) (fun _ _ _ h => h) (by rfl) (fun w _ => by go_simp) hb4 ?_
      simp only [Act.put, List.setIfInBounds_toArray, List.set_cons_zero, List.set_cons_succ]
      refine wpAnyH_done (by kernel_rfl) ?_ _
      have FIN := Lib.hid (FINOF.out w_4 g cap hb4 ho4)
      have c2' : w_4.cell? ⟨gm, 2, none⟩ = some (.slice Al dd.line.length cl) := (hb4.cell (p := ⟨gm, 2, none⟩) hgl).trans c2
      have f2' : w_4.frozen? ⟨gm, 2, none⟩ = false := (hb4.frozen (p := ⟨gm, 2, none⟩) hgl).trans f2
      clear ho3 hg3 hat3 ho4 hg4 hat4 hl4 hb0 hb1 hb2 hb3 hb4 r1 n2 n3
      show wpList _ _ _ _ _ _
      go_wp2
      go_ret2
      exact ⟨rfl, FIN.out⟩
  · have hb1 : Below wn.heap.size wn (((wn).drew).alloc (.cells #[.int .i64 (bk : Int), .string s] 61)) := hb0.alloc hb0.size _
    have n1 : Blk (((wn).drew).alloc (.cells #[.int .i64 (bk : Int), .string s] 61)) ((wn).drew).heap.size 61 #[.int .i64 (bk : Int), .string s] := Blk.new ((wn).drew) 61 _
    refine wp_slice_d (d := some 158) (ps := #[(0, (.agg #[.int .i64 (bk : Int), .string s]))]) rfl rfl (by go_simp) (BS1.out _) ?_
    refine ⟨hb1, ?_⟩
    simp only [Act.put, List.setIfInBounds_toArray, List.set_cons_zero, List.set_cons_succ]
    refine held_one (i := 1) (by kernel_rfl) rfl (by rfl) ?_
    have hb2 : Below wn.heap.size wn (((((wn).drew).alloc (.cells #[.int .i64 (bk : Int), .string s] 61))).alloc (.cells #[] 61)) := hb1.alloc hb1.size _
    have r2 : ((((((wn).drew).alloc (.cells #[.int .i64 (bk : Int), .string s] 61))).alloc (.cells #[] 61))).ownsRow wn.heap.size 61 2 (.slice (some ⟨((((wn).drew).alloc (.cells #[.int .i64 (bk : Int), .string s] 61))).heap.size, 0, none⟩) 0 0) 0 [] := World.ownsRow_lit ((((wn).drew).alloc (.cells #[.int .i64 (bk : Int), .string s] 61))) #[] 0 hb1.size (by decide) rfl
    refine wp_slice_d (d := some 147) (ps := #[]) rfl rfl (by go_simp) (BS0.out _) ?_
    refine ⟨hb2, ?_⟩
    simp only [Act.put, List.setIfInBounds_toArray, List.set_cons_zero, List.set_cons_succ]
    refine held_one (i := 6) (by kernel_rfl) rfl (by rfl) ?_
    refine wp_append_copy (d := some 152) rfl (.tmp 147) (.tmp 151) 38 rfl wn.heap.size 61 iw zw 2 24 Try.underlying38 INF.out.1 INF.out.2.1 INF.out.2.2.2.1 INF.out.2.2.2.2 INF.out.2.2.1 (by decide) _ 0 [] rfl r2 Al dd.line.length cl (lineD dd.line) rfl (DD.out.new hb2).line.own (one_lineD _) (by unfold maxLen; omega) (by omega) hb2.size ?_
    intro v1 w_3 ho3 hg3 hat3
    rw [Nat.zero_add, List.nil_append] at ho3
    have hb3 : Below wn.heap.size wn w_3 := hb2.grown hg3 hb2.size (fun k e => (r2.lt k e).1)
    refine ⟨hb3, ?_⟩
    simp only [Act.put, List.setIfInBounds_toArray, List.set_cons_zero, List.set_cons_succ]
    have n3 := (n1.chg (Chg.of_new ((Below.refl _ _).alloc (Nat.le_refl _) (.cells #[] 61)) (fun _ => False)) (fun e => e)).chg (chg_of_grown (A := some ⟨(((wn).drew).alloc (.cells #[.int .i64 (bk : Int), .string s] 61)).heap.size, 0, none⟩) (Below.refl _ _) hg3) (fun e => by have := inB_some e; simp at this)
    refine held_one (i := 13) (by kernel_rfl) rfl (by rfl) ?_
    refine wp_append_d (d := some 159) rfl (.tmp 152) (.tmp 158) 38 rfl wn.heap.size 61 iw zw 2 24 Try.underlying38 INF.out.1 INF.out.2.1 INF.out.2.2.2.1 INF.out.2.2.2.2 INF.out.2.2.1 (by decide) v1 dd.line.length (lineD dd.line) rfl ho3 ⟨((wn).drew).heap.size, 0, none⟩ 1 1 [.int .i64 (bk : Int), .string s] rfl rfl (World.news_of_block n3) (one_two ⟨bk, s.data.toList⟩) (by decide) (by unfold maxLen; omega) (by omega) hb3.size ?_
    intro g cap w_4 ho4 hg4 hat4 hl4
    have hb4 : Below wn.heap.size wn w_4 := hb3.grown hg4 hb3.size (fun k e => (ho3.lt k e).1)
    refine ⟨hb4, ?_⟩
    simp only [Act.put, List.setIfInBounds_toArray, List.set_cons_zero, List.set_cons_succ]
    refine held_take (i := 14) (d := some 160) (v := .pointer (some ⟨gm, 0, none⟩)) rfl rfl (by kernel_rfl) (by kernel_rfl) (by kernel_rfl) (fun _ _ _ h => h) (by rfl) (fun w _ => by go_simp) hb4 ?_
    simp only [Act.put, List.setIfInBounds_toArray, List.set_cons_zero, List.set_cons_succ]
    refine held_take (i := 15) (d := some 161) (v := .pointer (some ⟨gm, 2, none⟩)) rfl rfl (by kernel_rfl) (by kernel_rfl) (by kernel_rfl) (fun _ _ _ h => h) (by rfl) (fun w _ => by go_simp) hb4 ?_
    simp only [Act.put, List.setIfInBounds_toArray, List.set_cons_zero, List.set_cons_succ]
    refine wpAnyH_done (by kernel_rfl) ?_ _
    have FIN := Lib.hid (FINOF.out w_4 g cap hb4 ho4)
    have c2' : w_4.cell? ⟨gm, 2, none⟩ = some (.slice Al dd.line.length cl) := (hb4.cell (p := ⟨gm, 2, none⟩) hgl).trans c2
    have f2' : w_4.frozen? ⟨gm, 2, none⟩ = false := (hb4.frozen (p := ⟨gm, 2, none⟩) hgl).trans f2
    clear ho3 hg3 hat3 ho4 hg4 hat4 hl4 hb0 hb1 hb2 hb3 hb4 r2 n1 n3
    show wpList _ _ _ _ _ _
    go_wp2
    go_ret2
    exact ⟨rfl, FIN.out⟩

end
end Go.Proofs.Ythnapmcjnfeimaa.RD
