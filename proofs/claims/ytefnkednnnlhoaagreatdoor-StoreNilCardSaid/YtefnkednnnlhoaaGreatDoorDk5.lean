/- Package disk: Write. Conditions: those that each states. -/
import Derived.Test.YtefnkednnnlhoaaGreatDoorMAJ
import Derived.Great.BuildSlice
namespace Go.Proofs.YtefnkednnnlhoaaGreatDoor.Di
open Go.ChangeShapes Go.WideShapes Go.ChangeAt Go.RowKit Go.Deep
set_option linter.unusedVariables false

theorem fill_two (z : Array Value) (hz : z.size = 257) (v : Value) (hv : v.cells = #[v]) (Z : Array Value) (hZ : Z.size = 256) (p : Nat → Option (Nat × Nat)) (h0 : p 0 = some (0, 1)) (h1 : p 1 = some (1, 256)) :
    Instr.fill p z [(0, v), (1, .agg Z)] = some (#[v] ++ Z) := by
  have hc : (Value.agg Z).cells = Z := rfl
  unfold Instr.fill
  rw [h0]
  simp only [hv]
  rw [if_neg (by simp [hz])]
  unfold Instr.fill
  rw [h1]
  simp only [hc]
  have hs1 : (Array.foldl (fun cs (x : Value × Nat) => cs.setIfInBounds (0 + x.2) x.1) z (#[v] : Array Value).zipIdx).size = 257 := by
    rw [← Array.foldl_toList, Array.toList_zipIdx]
    rw [(Great.foldl_set 0 _ 0 z).1, hz]
  rw [if_neg (by rw [hs1, hZ]; decide)]
  unfold Instr.fill
  congr 1
  apply Array.ext_getElem?
  intro k
  rw [← Array.foldl_toList, Array.toList_zipIdx, (Great.foldl_set 1 Z.toList 0 _).2 k, ← Array.foldl_toList, Array.toList_zipIdx, (Great.foldl_set 0 [v] 0 z).1, (Great.foldl_set 0 [v] 0 z).2 k, hz]
  by_cases hk : 1 + 0 ≤ k ∧ k < 1 + 0 + Z.toList.length ∧ k < 257
  · rw [if_pos hk, Array.getElem?_append_right (by simp; omega)]
    simp
  · rw [if_neg hk]
    rw [Array.length_toList, hZ] at hk
    by_cases hk0 : k = 0
    · subst hk0
      rw [if_pos (by simp), Array.getElem?_append_left (by simp)]
      rfl
    · rw [if_neg (by simp; omega), Array.getElem?_eq_none (by omega), Array.getElem?_eq_none (by simp; omega)]
theorem wr_infos : ∃ i0 z, Tryz.prog.info? 197 = some i0 ∧ i0.zero = some z ∧ z.cells.size = 257 ∧ i0.size = 257 ∧ i0.bytes = 264 := by
  obtain ⟨i, hi, hs⟩ := Option.map_eq_some_iff.1 (show (Tryz.prog.info? 197).map (fun i => (i.zero.map (·.cells.size), i.size, i.bytes)) = some (some 257, 257, 264) by kernel_rfl)
  simp only [Prod.mk.injEq] at hs
  obtain ⟨h0, h1, h2⟩ := hs
  obtain ⟨z, hz, hzc⟩ := Option.map_eq_some_iff.1 h0
  exact ⟨i, z, hi, hz, hzc, h1, h2⟩
theorem wr_fields : ∃ fields, Tryz.prog.underlying 197 = some (.struct fields) ∧ fields.toList.mapM (fun f => (Tryz.prog.info? f.type).map fun i => (f.offset, i.size)) = some [(0, 1), (1, 256)] :=
  ⟨_, Tryz.underlying197, by kernel_rfl⟩
theorem run_build_wr (v : Value) (hv : v.cells = #[v]) (Z : Array Value) (hZ : Z.size = 256) (W : World) : (Instr.build 197 #[(0, v), (1, .agg Z)]).run Tryz.prog W = .ok (.agg (#[v] ++ Z)) W := by
  obtain ⟨i, z, hi, hz, hzc, _, _⟩ := wr_infos
  obtain ⟨fs, hu, hm⟩ := wr_fields
  refine run_build W 197 _ _ ?_
  unfold Program.built
  simp only [hi, hu, hz, hm]
  exact fill_two z.cells hzc v hv Z hZ _ rfl rfl
theorem run_slice_wr (C : Array Value) (hC : C.size = 257) (W : World) : (Instr.buildSlice 99 1 #[(0, .agg C)]).run Tryz.prog W = .ok (.slice (some ⟨W.heap.size, 0, none⟩) 1 1) (W.alloc (.cells C 197)) := by
  obtain ⟨i, z, hi, hz, hzc, hs, _⟩ := wr_infos
  refine run_buildSlice W 99 197 1 _ C i z Tryz.underlying99 hi hz (by rw [hs]; decide) (by rw [hs]; decide) ?_
  rw [hs]
  have h := Great.fill_whole (s := 257) (by decide) [.agg C] ((Array.range (1 * 257)).map (z.cells[· % z.cells.size]!)) (fun v hv => by rw [List.mem_singleton.1 hv]; exact hC) (by simp)
  have e : ([Value.agg C].flatMap fun v => v.cells.toList).toArray = C := by simp [Value.cells]
  rw [e] at h
  exact h

section
variable {gb g cl ce q cap : Nat} {Al Ae : Option Addr} {d : Dk} {w w1 w2 : World} {F : Nat → Prop}
/-- One write more waits: the store of the line's head. -/
theorem lay_at (h : DskAt w gb g Al cl Ae ce d) (hb : Below w.heap.size w w1) {H : Nat} (hz : w.heap.size ≤ H) (hg : w1.grownBy w2 (Value.slice Al d.line.length cl).ownBlock) (hat : (Value.slice Al d.line.length cl).ownBlock = some q ∨ q = H) {x : Wr} {d' : Dk}
    (hown : w2.ownsRow 0 197 257 (.slice (some ⟨q, 0, none⟩) (d.line.length + 1) cap) (d.line.length + 1) (lineC d.line ++ x.cells))
    (e1 : d'.blocks = d.blocks) (e2 : d'.line = d.line ++ [x]) (e3 : d'.exts = d.exts) (e4 : d'.on = d.on) (e5 : d'.armed = d.armed) (ok : d'.Ok) :
    Blk w2 g 102 #[.slice (some ⟨gb, 0, none⟩) d.blocks.length d.blocks.length, .slice Al d.line.length cl, .slice Ae d.exts.length ce, .bool d.on, .int .i64 d.armed] ∧
    DA (w2.setCell ⟨g, 1, none⟩ (.slice (some ⟨q, 0, none⟩) (d.line.length + 1) cap)) (foot gb g (some ⟨q, 0, none⟩) Ae) g d' ∧
    Step w (w2.setCell ⟨g, 1, none⟩ (.slice (some ⟨q, 0, none⟩) (d.line.length + 1) cap)) (foot gb g Al Ae) (foot gb g (some ⟨q, 0, none⟩) Ae) := by
  have k := chg_of_grown hb hg
  have ha := at_of hz hat
  have hgl := h.head.lt
  have hbl := h.tab.lt
  have b1 := h.head.chg k h.lg
  have t1 := h.tab.chg k h.lb
  have l1 := h.exts.chg k (fun b hb e => h.le b e hb)
  have r1 : RowW w2 197 257 (some ⟨q, 0, none⟩) (d.line.length + 1) cap (lineC d.line ++ x.cells) := ⟨hown⟩
  have hqg : q ≠ g := fun e => by
    rcases ha with e1 | e1
    · exact h.lg (by rw [← e]; exact e1)
    · omega
  have hqb : q ≠ gb := fun e => by
    rcases ha with e1 | e1
    · exact h.lb (by rw [← e]; exact e1)
    · omega
  have ks : Chg w2 (w2.setCell ⟨g, 1, none⟩ (.slice (some ⟨q, 0, none⟩) (d.line.length + 1) cap)) (fun k => k = g) := Chg.set _ _ _ rfl
  have el : d'.line.length = d.line.length + 1 := by rw [e2]; simp
  refine ⟨b1, ⟨gb, _, cap, Ae, ce, ⟨?_, ?_, ?_, ?_, h.ne, fun e => hqb (inB_some e).symm, fun e => hqg (inB_some e).symm, h.eb, h.eg, h.le.new (fun b hb => h.exts.lt b hb) ha, ok⟩, fun _ => Iff.rfl⟩, ⟨?_, ?_⟩⟩
  · have := b1.put 1 (.slice (some ⟨q, 0, none⟩) (d.line.length + 1) cap)
    simp at this
    rw [e1, e3, e4, e5, el]
    exact this
  · rw [e1]; exact t1.chg ks h.ne
  · rw [el, e2, lineC_snoc]
    exact r1.chg ks (fun b hb e => hqg (by have e' : b = g := e; rw [← e']; exact (inB_some hb).symm))
  · rw [e3]; exact l1.chg ks (fun b hb e => h.eg (by have e' : b = g := e; rw [← e']; exact hb))
  · exact (k.weak (fun i hi => .inr (.inr (.inl hi)))).trans (ks.weak (fun i hi => .inr (.inl hi)))
  · rintro i (rfl | rfl | h1 | h1)
    · exact .inl (.inl rfl)
    · exact .inl (.inr (.inl rfl))
    · rw [inB_some h1]
      rcases ha with e1 | e1
      · exact .inl (.inr (.inr (.inl e1)))
      · exact .inr e1
    · exact .inl (.inr (.inr (.inr h1)))

set_option maxRecDepth 100000 in
set_option maxHeartbeats 2000000 in
theorem write_no (h : DskAt w gb g Al cl Ae ce d) (env block : Int) (A : Option Addr) (n c : Nat) (he : askE d env block ≠ 0) :
    Calls Tryz.prog 66 #[.pointer (some ⟨g, 0, none⟩), .int .i64 env, .int .i64 block, .slice A n c] w fun e w' => e = .returned (.int .i64 (askE d env block)) ∧ Below w.heap.size w w' := by
  have AS := Lib.hid (asked_any h env block)
  have hv : (askE d env block == 0) = false := by simpa using he
  generalize askE d env block = v at *
  clear h he
  go_enter Tryz.func66, Tryz.ntmps66
  go_wp2_with fail
  refine AS.out.mono ?_; rintro e w1 ⟨rfl, b1⟩
  have B1 := Lib.hid b1
  clear b1
  go_wp2
  go_ret
  exact ⟨rfl, B1.out⟩
set_option maxRecDepth 100000 in
set_option maxHeartbeats 2000000 in
theorem write_short (h : DskAt w gb g Al cl Ae ce d) (env block : Int) (A : Option Addr) (n c : Nat) (he : askE d env block = 0) (hn : n ≠ 256) :
    Calls Tryz.prog 66 #[.pointer (some ⟨g, 0, none⟩), .int .i64 env, .int .i64 block, .slice A n c] w fun e w' => e = .returned (.int .i64 1) ∧ Below w.heap.size w w' := by
  have AS := Lib.hid (asked_any h env block)
  rw [he] at AS
  have hv : ((n : Int) == 256) = false := beq_eq_false_iff_ne.2 (by omega)
  clear h he
  go_enter Tryz.func66, Tryz.ntmps66
  go_wp2_with fail
  refine AS.out.mono ?_; rintro e w1 ⟨rfl, b1⟩
  have B1 := Lib.hid b1
  clear b1
  go_wp2
  go_ret
  exact ⟨rfl, B1.out⟩
set_option maxRecDepth 100000 in
set_option maxHeartbeats 2000000 in
theorem write_cut (h : DskAt w gb g Al cl Ae ce d) (env block : Int) (A : Option Addr) (c : Nat) (he : askE d env block = 0) (h0 : d.armed = 0) :
    Calls Tryz.prog 66 #[.pointer (some ⟨g, 0, none⟩), .int .i64 env, .int .i64 block, .slice A 256 c] w fun e w' => e = .returned (.int .i64 30) ∧ DA w' (foot gb g Al Ae) g (cutR d) ∧ Step w w' (foot gb g Al Ae) (foot gb g Al Ae) := by
  have AS := Lib.hid (asked_any h env block)
  rw [he] at AS
  have H := Lib.hid h
  have H0 := Lib.hid h0
  clear h he h0
  go_enter Tryz.func66, Tryz.ntmps66
  go_wp2_with fail
  refine AS.out.mono ?_; rintro e w1 ⟨rfl, b1⟩
  have D1 := Lib.hid (H.out.new b1)
  have B1 := Lib.hid b1
  have c4 := (heads D1.out).2.2.2.2
  rw [H0.out] at c4
  clear b1 AS
  go_wp2_with fail
  refine (cut_any D1.out).mono ?_; rintro e w2 ⟨rfl, d2, k2⟩
  have D2 := Lib.hid d2
  have S2 := Lib.hid ((Step.new B1.out (foot gb g Al Ae)).trans (show Step w1 w2 (foot gb g Al Ae) (foot gb g Al Ae) from ⟨k2.weak (fun i hi => .inr (.inl hi)), fun _ h => .inl h⟩))
  clear d2 k2
  go_wp2
  go_ret
  exact ⟨rfl, D2.out.da, S2.out⟩
-- LAY
theorem page_size : (Tryz.prog.info? 195).map (·.size) = some 256 := by kernel_rfl
set_option maxRecDepth 100000 in
set_option maxHeartbeats 4000000 in
theorem write_lay (h : DskAt w gb g Al cl Ae ce d) (env : Int) (b : Nat) (hb : b < d.blocks.length) (A : Option Addr) (c : Nat) (s : List UInt8) (hs : Src w A 256 c s) (hap : ∀ b o, A = some ⟨b, o, none⟩ → ¬ foot gb g Al Ae b) (he : askE d env b = 0) (h0 : d.armed ≠ 0) (hcnt : d.line.length < 1000000) :
    Calls Tryz.prog 66 #[.pointer (some ⟨g, 0, none⟩), .int .i64 env, .int .i64 (b : Int), .slice A 256 c] w fun e w' => e = .returned (.int .i64 0) ∧ ∃ F', DA w' F' g (laid d b s) ∧ Step w w' (foot gb g Al Ae) F' := by
  have AS := Lib.hid (asked_any h env b)
  rw [he] at AS
  have hsl : s.length = 256 := hs.len
  have hbl : (bys s).length = 256 := by rw [bys_length]; exact hsl
  obtain ⟨ab, ao, rfl, hal, hac⟩ := hs.lies (by omega)
  have hap' := hap ab ao rfl
  have hr : w.rangeAt ab ao (bys s) := fun j v hj => by
    obtain ⟨hj1, e⟩ := List.getElem?_eq_some_iff.1 hj
    rw [hac j hj1, e]
  have har := h.ok.ar
  have H := Lib.hid h
  have hat := run_arrayAt (P := Tryz.prog)
  have hat := fun W => hat W 195 5 256 (some ⟨ab, ao, none⟩) 256 c Tryz.underlying195 (Nat.le_refl _)
  have bd := run_build_wr (.int .i64 (b : Int)) rfl (bys s).toArray (by simpa using hbl)
  have hC1 : (#[Value.int .i64 (b : Int)] ++ (bys s).toArray).size = 257 := by simp [hbl]
  have hC2 : (#[Value.int .i64 (b : Int)] ++ (bys s).toArray).toList = (⟨b, s⟩ : Wr).cells := by simp [Wr.cells]
  have hC3 : ∀ u ∈ (#[Value.int .i64 (b : Int)] ++ (bys s).toArray).toList, u.oneCell' = true := by
    intro u hu
    rw [hC2] at hu
    rcases List.mem_cons.1 hu with rfl | hu
    · rfl
    · exact bys_one hu
  have bs := run_slice_wr (#[Value.int .i64 (b : Int)] ++ (bys s).toArray) hC1
  have HC := Lib.hid (And.intro hC1 (And.intro hC2 hC3))
  generalize #[Value.int .i64 (b : Int)] ++ (bys s).toArray = C at *
  have HL := Lib.hid hbl
  obtain ⟨bt, hbt⟩ : ∃ bt, bt = (bys s).toArray := ⟨_, rfl⟩
  rw [← hbt] at bd
  have HBL := Lib.hid (show (bys s).toArray = bt from hbt.symm)
  obtain ⟨iw, zw, hi, hz, hzc, hs2, hby⟩ := wr_infos
  have INF := Lib.hid (And.intro hi (And.intro hz (And.intro hzc (And.intro hs2 hby))))
  have HR0 := Lib.hid hr
  have OK0 := Lib.hid (h.ok.laid hb hsl h0)
  have h0' : (d.armed == 0) = false := beq_eq_false_iff_ne.2 h0
  clear h he hs hac hr hap hbl hC1 hC2 hC3 hbt hi hz hzc hs2 hby h0 hal
  go_enter Tryz.func66, Tryz.ntmps66
  go_wp2_with fail
  refine AS.out.mono ?_; rintro e w1 ⟨rfl, b1⟩
  have D1 := Lib.hid (H.out.new b1)
  have B1 := Lib.hid b1
  have R1 := Lib.hid (show w1.rangeAt ab ao (bys s) from fun j v hj => by
    have hc := HR0.out j v hj
    have hlt : ab < w.heap.size := by
      unfold World.cell? at hc
      cases hh : w.heap[ab]? with
      | none => simp only [hh] at hc; cases hc
      | some ob => exact (Array.getElem?_eq_some_iff.1 hh).1
    rw [World.cell?_of_block (w := w) (w' := w1) (a := ⟨ab, ao + j, none⟩) (b1.block ab hlt)]
    exact hc)
  obtain ⟨_, _, _, _, c4⟩ := heads D1.out
  have f4 := D1.out.head.frozen 4
  clear b1 AS HR0
  by_cases hm : d.armed = -1
  · have EA := Lib.hid (show (laid d b s).armed = d.armed by show (if d.armed = -1 then -1 else d.armed - 1) = d.armed; rw [if_pos hm]; exact hm.symm)
    have DD := D1
    have HR := R1
    have OK := OK0
    have SW := Lib.hid (Step.new B1.out (foot gb g Al Ae))
    rw [hm] at c4
    clear h0' hm har
    go_upto_region 11 with fail
    have c1 := (heads DD.out).2.1
    have c1d : (w1).drew.cell? ⟨g, 1, none⟩ = some (.slice Al d.line.length cl) := c1
    have hgl1 : g < w1.heap.size := DD.out.head.lt
    have LP1 := run_loadAt_mid (P := Tryz.prog) (w1).drew ab ao 195 (bys s) _ (show (w1).drew.rangeAt ab ao (bys s) from HR.out) Tryz.underlying195 rfl (page_size.trans (congrArg some HL.out.symm))
    have hba : Below w1.heap.size w1 ((w1).drew.alloc (.cells C 197)) := (show Below w1.heap.size w1 (w1).drew from ⟨rfl, rfl, rfl, Nat.le_refl _, fun _ _ => rfl⟩).alloc (Nat.le_refl _) _
    have hnews := World.news_of_block (Blk.new (w1).drew 197 C)
    have HN := Lib.hid hnews
    have hrow := (DD.out.line.new hba).own
    have HROW := Lib.hid hrow
    have HBA := Lib.hid hba
    clear hba hnews hrow
    rw [HBL.out] at LP1
    have LL : ∀ W' : World, W'.cell? ⟨g, 1, none⟩ = some (.slice Al d.line.length cl) → (Instr.loadAt 99 (.pointer (some ⟨g, 1, none⟩))).run Tryz.prog W' = .ok (.slice Al d.line.length cl) W' := fun W' h => by go_simp
    have ca : ((w1).drew.alloc (.cells C 197)).cell? ⟨g, 1, none⟩ = some (.slice Al d.line.length cl) := (DD.out.new HBA.out).head.cell 1
    refine wp_region_any (by kernel_rfl) ?_
    change wpAny _ _ _ _ _ _ _ (World.drew _)
    refine wpAny_take (i := 0) (v := .pointer (some ⟨g, 0, none⟩)) rfl (by kernel_rfl) (by kernel_rfl) (by kernel_rfl) (fun _ _ _ h => h) (Or.inl ⟨by rfl, fun w => by go_simp⟩) ?_
    refine wpAny_take (i := 1) (v := .pointer (some ⟨g, 0, none⟩)) rfl (by kernel_rfl) (by kernel_rfl) (by kernel_rfl) (fun _ _ _ h => h) (Or.inl ⟨by rfl, fun w => by go_simp⟩) ?_
    refine wpAny_take (i := 2) (v := .pointer (some ⟨g, 0, none⟩)) rfl (by kernel_rfl) (by kernel_rfl) (by kernel_rfl) (fun _ _ _ h => h) (Or.inl ⟨by rfl, fun w => by go_simp⟩) ?_
    refine wpAny_take (i := 3) (v := .pointer (some ⟨g, 1, none⟩)) rfl (by kernel_rfl) (by kernel_rfl) (by kernel_rfl) (fun _ _ _ h => h) (Or.inl ⟨by rfl, fun w => by go_simp⟩) ?_
    refine wpAny_take (i := 5) (v := .int .i64 (b : Int)) rfl (by kernel_rfl) (by kernel_rfl) (by kernel_rfl) (fun _ _ _ h => h) (Or.inl ⟨by rfl, fun w => by go_simp⟩) ?_
    refine wpAny_take (i := 6) (v := .slice (some ⟨ab, ao, none⟩) 256 c) rfl (by kernel_rfl) (by kernel_rfl) (by kernel_rfl) (fun _ _ _ h => h) (Or.inl ⟨by rfl, fun w => by go_simp⟩) ?_
    refine wpAny_take (i := 7) (v := .pointer (some ⟨ab, ao, none⟩)) rfl (by kernel_rfl) (by kernel_rfl) (by kernel_rfl) (fun _ _ _ h => h) (Or.inl ⟨by rfl, exec_arrayAt (y := .slice (some ⟨ab, ao, none⟩) 256 c) rfl rfl hat⟩) ?_
    go_simp
    refine any_two (i := 4) (j := 8) (by kernel_rfl) rfl rfl (by rfl) (by rfl) ?_ ?_
    · refine wp_load_is (y := .pointer (some ⟨g, 1, none⟩)) rfl rfl (LL (w1).drew c1d) ?_
      go_simp
      refine any_one (i := 8) (by kernel_rfl) rfl (by rfl) ?_
      refine wp_load_is (y := .pointer (some ⟨ab, ao, none⟩)) rfl rfl LP1 ?_
      go_simp
      refine wpAny_take (i := 9) (v := .agg C) rfl (by kernel_rfl) (by kernel_rfl) (by kernel_rfl) (fun _ _ _ h => h) (Or.inl ⟨by rfl, exec_build (ps := #[(0, .int .i64 (b : Int)), (1, .agg bt)]) rfl (by go_simp) bd⟩) ?_
      go_simp
      refine any_one (i := 10) (by kernel_rfl) rfl (by rfl) ?_
      refine wp_slice_is (ps := #[(0, .agg C)]) rfl (by go_simp) (bs (w1).drew) ?_
      go_simp
      refine any_one (i := 11) (by kernel_rfl) rfl (by rfl) ?_
      refine wp_append_lies _ (.tmp 43) (.tmp 49) 99 rfl 0 197 iw zw 257 264 Tryz.underlying99 INF.out.1 INF.out.2.1 INF.out.2.2.2.1 INF.out.2.2.2.2 INF.out.2.2.1 (by decide) _ d.line.length (lineC d.line) rfl HROW.out ⟨w1.heap.size, 0, none⟩ 1 1 C.toList rfl (by rw [Array.length_toList, HC.out.1]) HN.out HC.out.2.2 (by decide) (by unfold maxLen; omega) (by omega) (Nat.zero_le _) (w1.heap.size + 1) (by simp) ?_
      intro q cap w3 hown hgrow hat3 hlg
      rw [HC.out.2.1] at hown
      have hl3 := lay_at (d' := laid d b s) DD.out HBA.out (Nat.le_succ _) hgrow hat3 hown rfl rfl rfl rfl EA.out OK.out
      have c3 : w3.cell? ⟨g, 1, none⟩ = some (.slice Al d.line.length cl) := hl3.1.cell 1
      have f3 := hl3.1.frozen 1
      have HL3 := Lib.hid hl3.2
      clear hl3 hown hgrow hat3
      have SS : (Instr.storeAt 99 (.pointer (some ⟨g, 1, none⟩)) (.slice (some ⟨q, 0, none⟩) (d.line.length + 1) cap)).run Tryz.prog w3 = .ok () (w3.setCell ⟨g, 1, none⟩ (.slice (some ⟨q, 0, none⟩) (d.line.length + 1) cap)) := by go_simp
      go_simp
      refine wpAny_take (i := 12) (v := .pointer (some ⟨g, 0, none⟩)) rfl (by kernel_rfl) (by kernel_rfl) (by kernel_rfl) (fun _ _ _ h => h) (Or.inl ⟨by rfl, fun w => by go_simp⟩) ?_
      refine wpAny_take (i := 13) (v := .pointer (some ⟨g, 1, none⟩)) rfl (by kernel_rfl) (by kernel_rfl) (by kernel_rfl) (fun _ _ _ h => h) (Or.inl ⟨by rfl, fun w => by go_simp⟩) ?_
      go_simp
      refine any_one (i := 14) (by kernel_rfl) rfl (by rfl) ?_
      refine wp_store_is (vx := .pointer (some ⟨g, 1, none⟩)) (vy := .slice (some ⟨q, 0, none⟩) (d.line.length + 1) cap) rfl rfl rfl SS ?_
      refine wpAny_done (by kernel_rfl) ?_ _
      go_wp2
      go_ret
      exact ⟨rfl, _, HL3.out.1, SW.out.trans HL3.out.2⟩
    · refine wp_load_is (y := .pointer (some ⟨ab, ao, none⟩)) rfl rfl LP1 ?_
      go_simp
      refine wpAny_take (i := 9) (v := .agg C) rfl (by kernel_rfl) (by kernel_rfl) (by kernel_rfl) (fun _ _ _ h => h) (Or.inl ⟨by rfl, exec_build (ps := #[(0, .int .i64 (b : Int)), (1, .agg bt)]) rfl (by go_simp) bd⟩) ?_
      go_simp
      refine any_two (i := 4) (j := 10) (by kernel_rfl) rfl rfl (by rfl) (by rfl) ?_ ?_
      · refine wp_load_is (y := .pointer (some ⟨g, 1, none⟩)) rfl rfl (LL (w1).drew c1d) ?_
        go_simp
        refine any_one (i := 10) (by kernel_rfl) rfl (by rfl) ?_
        refine wp_slice_is (ps := #[(0, .agg C)]) rfl (by go_simp) (bs (w1).drew) ?_
        go_simp
        refine any_one (i := 11) (by kernel_rfl) rfl (by rfl) ?_
        refine wp_append_lies _ (.tmp 43) (.tmp 49) 99 rfl 0 197 iw zw 257 264 Tryz.underlying99 INF.out.1 INF.out.2.1 INF.out.2.2.2.1 INF.out.2.2.2.2 INF.out.2.2.1 (by decide) _ d.line.length (lineC d.line) rfl HROW.out ⟨w1.heap.size, 0, none⟩ 1 1 C.toList rfl (by rw [Array.length_toList, HC.out.1]) HN.out HC.out.2.2 (by decide) (by unfold maxLen; omega) (by omega) (Nat.zero_le _) (w1.heap.size + 1) (by simp) ?_
        intro q cap w3 hown hgrow hat3 hlg
        rw [HC.out.2.1] at hown
        have hl3 := lay_at (d' := laid d b s) DD.out HBA.out (Nat.le_succ _) hgrow hat3 hown rfl rfl rfl rfl EA.out OK.out
        have c3 : w3.cell? ⟨g, 1, none⟩ = some (.slice Al d.line.length cl) := hl3.1.cell 1
        have f3 := hl3.1.frozen 1
        have HL3 := Lib.hid hl3.2
        clear hl3 hown hgrow hat3
        have SS : (Instr.storeAt 99 (.pointer (some ⟨g, 1, none⟩)) (.slice (some ⟨q, 0, none⟩) (d.line.length + 1) cap)).run Tryz.prog w3 = .ok () (w3.setCell ⟨g, 1, none⟩ (.slice (some ⟨q, 0, none⟩) (d.line.length + 1) cap)) := by go_simp
        go_simp
        refine wpAny_take (i := 12) (v := .pointer (some ⟨g, 0, none⟩)) rfl (by kernel_rfl) (by kernel_rfl) (by kernel_rfl) (fun _ _ _ h => h) (Or.inl ⟨by rfl, fun w => by go_simp⟩) ?_
        refine wpAny_take (i := 13) (v := .pointer (some ⟨g, 1, none⟩)) rfl (by kernel_rfl) (by kernel_rfl) (by kernel_rfl) (fun _ _ _ h => h) (Or.inl ⟨by rfl, fun w => by go_simp⟩) ?_
        go_simp
        refine any_one (i := 14) (by kernel_rfl) rfl (by rfl) ?_
        refine wp_store_is (vx := .pointer (some ⟨g, 1, none⟩)) (vy := .slice (some ⟨q, 0, none⟩) (d.line.length + 1) cap) rfl rfl rfl SS ?_
        refine wpAny_done (by kernel_rfl) ?_ _
        go_wp2
        go_ret
        exact ⟨rfl, _, HL3.out.1, SW.out.trans HL3.out.2⟩
      · refine wp_slice_is (ps := #[(0, .agg C)]) rfl (by go_simp) (bs (w1).drew) ?_
        go_simp
        refine any_one (i := 4) (by kernel_rfl) rfl (by rfl) ?_
        refine wp_load_is (y := .pointer (some ⟨g, 1, none⟩)) rfl rfl (LL _ ca) ?_
        go_simp
        refine any_one (i := 11) (by kernel_rfl) rfl (by rfl) ?_
        refine wp_append_lies _ (.tmp 43) (.tmp 49) 99 rfl 0 197 iw zw 257 264 Tryz.underlying99 INF.out.1 INF.out.2.1 INF.out.2.2.2.1 INF.out.2.2.2.2 INF.out.2.2.1 (by decide) _ d.line.length (lineC d.line) rfl HROW.out ⟨w1.heap.size, 0, none⟩ 1 1 C.toList rfl (by rw [Array.length_toList, HC.out.1]) HN.out HC.out.2.2 (by decide) (by unfold maxLen; omega) (by omega) (Nat.zero_le _) (w1.heap.size + 1) (by simp) ?_
        intro q cap w3 hown hgrow hat3 hlg
        rw [HC.out.2.1] at hown
        have hl3 := lay_at (d' := laid d b s) DD.out HBA.out (Nat.le_succ _) hgrow hat3 hown rfl rfl rfl rfl EA.out OK.out
        have c3 : w3.cell? ⟨g, 1, none⟩ = some (.slice Al d.line.length cl) := hl3.1.cell 1
        have f3 := hl3.1.frozen 1
        have HL3 := Lib.hid hl3.2
        clear hl3 hown hgrow hat3
        have SS : (Instr.storeAt 99 (.pointer (some ⟨g, 1, none⟩)) (.slice (some ⟨q, 0, none⟩) (d.line.length + 1) cap)).run Tryz.prog w3 = .ok () (w3.setCell ⟨g, 1, none⟩ (.slice (some ⟨q, 0, none⟩) (d.line.length + 1) cap)) := by go_simp
        go_simp
        refine wpAny_take (i := 12) (v := .pointer (some ⟨g, 0, none⟩)) rfl (by kernel_rfl) (by kernel_rfl) (by kernel_rfl) (fun _ _ _ h => h) (Or.inl ⟨by rfl, fun w => by go_simp⟩) ?_
        refine wpAny_take (i := 13) (v := .pointer (some ⟨g, 1, none⟩)) rfl (by kernel_rfl) (by kernel_rfl) (by kernel_rfl) (fun _ _ _ h => h) (Or.inl ⟨by rfl, fun w => by go_simp⟩) ?_
        go_simp
        refine any_one (i := 14) (by kernel_rfl) rfl (by rfl) ?_
        refine wp_store_is (vx := .pointer (some ⟨g, 1, none⟩)) (vy := .slice (some ⟨q, 0, none⟩) (d.line.length + 1) cap) rfl rfl rfl SS ?_
        refine wpAny_done (by kernel_rfl) ?_ _
        go_wp2
        go_ret
        exact ⟨rfl, _, HL3.out.1, SW.out.trans HL3.out.2⟩
  · have e1 : (laid d b s).armed = d.armed - 1 := by show (if d.armed = -1 then -1 else d.armed - 1) = _; rw [if_neg hm]
    have xa : IntKind.i64.wrap (d.armed - 1) = d.armed - 1 := IntWalk.i64_in _ (by omega)
    have hm' : (d.armed == -1) = false := beq_eq_false_iff_ne.2 hm
    have kk : Chg w1 (w1.setCell ⟨g, 4, none⟩ (.int .i64 (d.armed - 1))) (fun k => k = g) := Chg.set _ _ _ rfl
    have oks : ({ d with armed := d.armed - 1 } : Dk).Ok := by
      have o := D1.out.ok
      exact ⟨o.n1, o.n2, o.bl, o.ow, o.ex, o.mt, o.li, by have := o.ar; have := beq_eq_false_iff_ne.1 h0'; show -1 ≤ d.armed - 1 ∧ d.armed - 1 ≤ _; omega⟩
    have dd : DskAt (w1.setCell ⟨g, 4, none⟩ (.int .i64 (d.armed - 1))) gb g Al cl Ae ce { d with armed := d.armed - 1 } := rehead D1.out kk rfl rfl rfl (by
      have := D1.out.head.put 4 (.int .i64 (d.armed - 1))
      simp at this
      exact this) oks
    have rr : (w1.setCell ⟨g, 4, none⟩ (.int .i64 (d.armed - 1))).rangeAt ab ao (bys s) := fun j v hj => by
      have hc := R1.out j v hj
      have hlt : ab < w1.heap.size := by
        unfold World.cell? at hc
        cases hh : w1.heap[ab]? with
        | none => simp only [hh] at hc; cases hc
        | some ob => exact (Array.getElem?_eq_some_iff.1 hh).1
      rw [World.cell?_of_block (w := w1) (a := ⟨ab, ao + j, none⟩) (kk.block ab hlt (fun e => hap' (.inr (.inl e))))]
      exact hc
    have SW := Lib.hid ((Step.new B1.out (foot gb g Al Ae)).trans (show Step w1 (w1.setCell ⟨g, 4, none⟩ (.int .i64 (d.armed - 1))) (foot gb g Al Ae) (foot gb g Al Ae) from ⟨kk.weak (fun i hi => .inr (.inl hi)), fun _ h => .inl h⟩))
    have HR := Lib.hid rr
    have HDD := Lib.hid dd
    have E1 := Lib.hid e1
    have OK := OK0
    clear hm har kk oks dd rr e1 R1 D1
    generalize d.armed = am at *
    go_upto_region 11 with fail
    generalize w1.setCell ⟨g, 4, none⟩ (.int .i64 (am - 1)) = wA at *
    have DD := HDD
    have EA := E1
    clear c4 f4
    have c1 := (heads DD.out).2.1
    have c1d : (wA).drew.cell? ⟨g, 1, none⟩ = some (.slice Al d.line.length cl) := c1
    have hgl1 : g < wA.heap.size := DD.out.head.lt
    have LP1 := run_loadAt_mid (P := Tryz.prog) (wA).drew ab ao 195 (bys s) _ (show (wA).drew.rangeAt ab ao (bys s) from HR.out) Tryz.underlying195 rfl (page_size.trans (congrArg some HL.out.symm))
    have hba : Below wA.heap.size wA ((wA).drew.alloc (.cells C 197)) := (show Below wA.heap.size wA (wA).drew from ⟨rfl, rfl, rfl, Nat.le_refl _, fun _ _ => rfl⟩).alloc (Nat.le_refl _) _
    have hnews := World.news_of_block (Blk.new (wA).drew 197 C)
    have HN := Lib.hid hnews
    have hrow := (DD.out.line.new hba).own
    have HROW := Lib.hid hrow
    have HBA := Lib.hid hba
    clear hba hnews hrow
    rw [HBL.out] at LP1
    have LL : ∀ W' : World, W'.cell? ⟨g, 1, none⟩ = some (.slice Al d.line.length cl) → (Instr.loadAt 99 (.pointer (some ⟨g, 1, none⟩))).run Tryz.prog W' = .ok (.slice Al d.line.length cl) W' := fun W' h => by go_simp
    have ca : ((wA).drew.alloc (.cells C 197)).cell? ⟨g, 1, none⟩ = some (.slice Al d.line.length cl) := (DD.out.new HBA.out).head.cell 1
    refine wp_region_any (by kernel_rfl) ?_
    change wpAny _ _ _ _ _ _ _ (World.drew _)
    refine wpAny_take (i := 0) (v := .pointer (some ⟨g, 0, none⟩)) rfl (by kernel_rfl) (by kernel_rfl) (by kernel_rfl) (fun _ _ _ h => h) (Or.inl ⟨by rfl, fun w => by go_simp⟩) ?_
    refine wpAny_take (i := 1) (v := .pointer (some ⟨g, 0, none⟩)) rfl (by kernel_rfl) (by kernel_rfl) (by kernel_rfl) (fun _ _ _ h => h) (Or.inl ⟨by rfl, fun w => by go_simp⟩) ?_
    refine wpAny_take (i := 2) (v := .pointer (some ⟨g, 0, none⟩)) rfl (by kernel_rfl) (by kernel_rfl) (by kernel_rfl) (fun _ _ _ h => h) (Or.inl ⟨by rfl, fun w => by go_simp⟩) ?_
    refine wpAny_take (i := 3) (v := .pointer (some ⟨g, 1, none⟩)) rfl (by kernel_rfl) (by kernel_rfl) (by kernel_rfl) (fun _ _ _ h => h) (Or.inl ⟨by rfl, fun w => by go_simp⟩) ?_
    refine wpAny_take (i := 5) (v := .int .i64 (b : Int)) rfl (by kernel_rfl) (by kernel_rfl) (by kernel_rfl) (fun _ _ _ h => h) (Or.inl ⟨by rfl, fun w => by go_simp⟩) ?_
    refine wpAny_take (i := 6) (v := .slice (some ⟨ab, ao, none⟩) 256 c) rfl (by kernel_rfl) (by kernel_rfl) (by kernel_rfl) (fun _ _ _ h => h) (Or.inl ⟨by rfl, fun w => by go_simp⟩) ?_
    refine wpAny_take (i := 7) (v := .pointer (some ⟨ab, ao, none⟩)) rfl (by kernel_rfl) (by kernel_rfl) (by kernel_rfl) (fun _ _ _ h => h) (Or.inl ⟨by rfl, exec_arrayAt (y := .slice (some ⟨ab, ao, none⟩) 256 c) rfl rfl hat⟩) ?_
    go_simp
    refine any_two (i := 4) (j := 8) (by kernel_rfl) rfl rfl (by rfl) (by rfl) ?_ ?_
    · refine wp_load_is (y := .pointer (some ⟨g, 1, none⟩)) rfl rfl (LL (wA).drew c1d) ?_
      go_simp
      refine any_one (i := 8) (by kernel_rfl) rfl (by rfl) ?_
      refine wp_load_is (y := .pointer (some ⟨ab, ao, none⟩)) rfl rfl LP1 ?_
      go_simp
      refine wpAny_take (i := 9) (v := .agg C) rfl (by kernel_rfl) (by kernel_rfl) (by kernel_rfl) (fun _ _ _ h => h) (Or.inl ⟨by rfl, exec_build (ps := #[(0, .int .i64 (b : Int)), (1, .agg bt)]) rfl (by go_simp) bd⟩) ?_
      go_simp
      refine any_one (i := 10) (by kernel_rfl) rfl (by rfl) ?_
      refine wp_slice_is (ps := #[(0, .agg C)]) rfl (by go_simp) (bs (wA).drew) ?_
      go_simp
      refine any_one (i := 11) (by kernel_rfl) rfl (by rfl) ?_
      refine wp_append_lies _ (.tmp 43) (.tmp 49) 99 rfl 0 197 iw zw 257 264 Tryz.underlying99 INF.out.1 INF.out.2.1 INF.out.2.2.2.1 INF.out.2.2.2.2 INF.out.2.2.1 (by decide) _ d.line.length (lineC d.line) rfl HROW.out ⟨wA.heap.size, 0, none⟩ 1 1 C.toList rfl (by rw [Array.length_toList, HC.out.1]) HN.out HC.out.2.2 (by decide) (by unfold maxLen; omega) (by omega) (Nat.zero_le _) (wA.heap.size + 1) (by simp) ?_
      intro q cap w3 hown hgrow hat3 hlg
      rw [HC.out.2.1] at hown
      have hl3 := lay_at (d' := laid d b s) DD.out HBA.out (Nat.le_succ _) hgrow hat3 hown rfl rfl rfl rfl EA.out OK.out
      have c3 : w3.cell? ⟨g, 1, none⟩ = some (.slice Al d.line.length cl) := hl3.1.cell 1
      have f3 := hl3.1.frozen 1
      have HL3 := Lib.hid hl3.2
      clear hl3 hown hgrow hat3
      have SS : (Instr.storeAt 99 (.pointer (some ⟨g, 1, none⟩)) (.slice (some ⟨q, 0, none⟩) (d.line.length + 1) cap)).run Tryz.prog w3 = .ok () (w3.setCell ⟨g, 1, none⟩ (.slice (some ⟨q, 0, none⟩) (d.line.length + 1) cap)) := by go_simp
      go_simp
      refine wpAny_take (i := 12) (v := .pointer (some ⟨g, 0, none⟩)) rfl (by kernel_rfl) (by kernel_rfl) (by kernel_rfl) (fun _ _ _ h => h) (Or.inl ⟨by rfl, fun w => by go_simp⟩) ?_
      refine wpAny_take (i := 13) (v := .pointer (some ⟨g, 1, none⟩)) rfl (by kernel_rfl) (by kernel_rfl) (by kernel_rfl) (fun _ _ _ h => h) (Or.inl ⟨by rfl, fun w => by go_simp⟩) ?_
      go_simp
      refine any_one (i := 14) (by kernel_rfl) rfl (by rfl) ?_
      refine wp_store_is (vx := .pointer (some ⟨g, 1, none⟩)) (vy := .slice (some ⟨q, 0, none⟩) (d.line.length + 1) cap) rfl rfl rfl SS ?_
      refine wpAny_done (by kernel_rfl) ?_ _
      go_wp2
      go_ret
      exact ⟨rfl, _, HL3.out.1, SW.out.trans HL3.out.2⟩
    · refine wp_load_is (y := .pointer (some ⟨ab, ao, none⟩)) rfl rfl LP1 ?_
      go_simp
      refine wpAny_take (i := 9) (v := .agg C) rfl (by kernel_rfl) (by kernel_rfl) (by kernel_rfl) (fun _ _ _ h => h) (Or.inl ⟨by rfl, exec_build (ps := #[(0, .int .i64 (b : Int)), (1, .agg bt)]) rfl (by go_simp) bd⟩) ?_
      go_simp
      refine any_two (i := 4) (j := 10) (by kernel_rfl) rfl rfl (by rfl) (by rfl) ?_ ?_
      · refine wp_load_is (y := .pointer (some ⟨g, 1, none⟩)) rfl rfl (LL (wA).drew c1d) ?_
        go_simp
        refine any_one (i := 10) (by kernel_rfl) rfl (by rfl) ?_
        refine wp_slice_is (ps := #[(0, .agg C)]) rfl (by go_simp) (bs (wA).drew) ?_
        go_simp
        refine any_one (i := 11) (by kernel_rfl) rfl (by rfl) ?_
        refine wp_append_lies _ (.tmp 43) (.tmp 49) 99 rfl 0 197 iw zw 257 264 Tryz.underlying99 INF.out.1 INF.out.2.1 INF.out.2.2.2.1 INF.out.2.2.2.2 INF.out.2.2.1 (by decide) _ d.line.length (lineC d.line) rfl HROW.out ⟨wA.heap.size, 0, none⟩ 1 1 C.toList rfl (by rw [Array.length_toList, HC.out.1]) HN.out HC.out.2.2 (by decide) (by unfold maxLen; omega) (by omega) (Nat.zero_le _) (wA.heap.size + 1) (by simp) ?_
        intro q cap w3 hown hgrow hat3 hlg
        rw [HC.out.2.1] at hown
        have hl3 := lay_at (d' := laid d b s) DD.out HBA.out (Nat.le_succ _) hgrow hat3 hown rfl rfl rfl rfl EA.out OK.out
        have c3 : w3.cell? ⟨g, 1, none⟩ = some (.slice Al d.line.length cl) := hl3.1.cell 1
        have f3 := hl3.1.frozen 1
        have HL3 := Lib.hid hl3.2
        clear hl3 hown hgrow hat3
        have SS : (Instr.storeAt 99 (.pointer (some ⟨g, 1, none⟩)) (.slice (some ⟨q, 0, none⟩) (d.line.length + 1) cap)).run Tryz.prog w3 = .ok () (w3.setCell ⟨g, 1, none⟩ (.slice (some ⟨q, 0, none⟩) (d.line.length + 1) cap)) := by go_simp
        go_simp
        refine wpAny_take (i := 12) (v := .pointer (some ⟨g, 0, none⟩)) rfl (by kernel_rfl) (by kernel_rfl) (by kernel_rfl) (fun _ _ _ h => h) (Or.inl ⟨by rfl, fun w => by go_simp⟩) ?_
        refine wpAny_take (i := 13) (v := .pointer (some ⟨g, 1, none⟩)) rfl (by kernel_rfl) (by kernel_rfl) (by kernel_rfl) (fun _ _ _ h => h) (Or.inl ⟨by rfl, fun w => by go_simp⟩) ?_
        go_simp
        refine any_one (i := 14) (by kernel_rfl) rfl (by rfl) ?_
        refine wp_store_is (vx := .pointer (some ⟨g, 1, none⟩)) (vy := .slice (some ⟨q, 0, none⟩) (d.line.length + 1) cap) rfl rfl rfl SS ?_
        refine wpAny_done (by kernel_rfl) ?_ _
        go_wp2
        go_ret
        exact ⟨rfl, _, HL3.out.1, SW.out.trans HL3.out.2⟩
      · refine wp_slice_is (ps := #[(0, .agg C)]) rfl (by go_simp) (bs (wA).drew) ?_
        go_simp
        refine any_one (i := 4) (by kernel_rfl) rfl (by rfl) ?_
        refine wp_load_is (y := .pointer (some ⟨g, 1, none⟩)) rfl rfl (LL _ ca) ?_
        go_simp
        refine any_one (i := 11) (by kernel_rfl) rfl (by rfl) ?_
        refine wp_append_lies _ (.tmp 43) (.tmp 49) 99 rfl 0 197 iw zw 257 264 Tryz.underlying99 INF.out.1 INF.out.2.1 INF.out.2.2.2.1 INF.out.2.2.2.2 INF.out.2.2.1 (by decide) _ d.line.length (lineC d.line) rfl HROW.out ⟨wA.heap.size, 0, none⟩ 1 1 C.toList rfl (by rw [Array.length_toList, HC.out.1]) HN.out HC.out.2.2 (by decide) (by unfold maxLen; omega) (by omega) (Nat.zero_le _) (wA.heap.size + 1) (by simp) ?_
        intro q cap w3 hown hgrow hat3 hlg
        rw [HC.out.2.1] at hown
        have hl3 := lay_at (d' := laid d b s) DD.out HBA.out (Nat.le_succ _) hgrow hat3 hown rfl rfl rfl rfl EA.out OK.out
        have c3 : w3.cell? ⟨g, 1, none⟩ = some (.slice Al d.line.length cl) := hl3.1.cell 1
        have f3 := hl3.1.frozen 1
        have HL3 := Lib.hid hl3.2
        clear hl3 hown hgrow hat3
        have SS : (Instr.storeAt 99 (.pointer (some ⟨g, 1, none⟩)) (.slice (some ⟨q, 0, none⟩) (d.line.length + 1) cap)).run Tryz.prog w3 = .ok () (w3.setCell ⟨g, 1, none⟩ (.slice (some ⟨q, 0, none⟩) (d.line.length + 1) cap)) := by go_simp
        go_simp
        refine wpAny_take (i := 12) (v := .pointer (some ⟨g, 0, none⟩)) rfl (by kernel_rfl) (by kernel_rfl) (by kernel_rfl) (fun _ _ _ h => h) (Or.inl ⟨by rfl, fun w => by go_simp⟩) ?_
        refine wpAny_take (i := 13) (v := .pointer (some ⟨g, 1, none⟩)) rfl (by kernel_rfl) (by kernel_rfl) (by kernel_rfl) (fun _ _ _ h => h) (Or.inl ⟨by rfl, fun w => by go_simp⟩) ?_
        go_simp
        refine any_one (i := 14) (by kernel_rfl) rfl (by rfl) ?_
        refine wp_store_is (vx := .pointer (some ⟨g, 1, none⟩)) (vy := .slice (some ⟨q, 0, none⟩) (d.line.length + 1) cap) rfl rfl rfl SS ?_
        refine wpAny_done (by kernel_rfl) ?_ _
        go_wp2
        go_ret
        exact ⟨rfl, _, HL3.out.1, SW.out.trans HL3.out.2⟩
theorem write_any (h : DA w F g d) (env block : Int) (A : Option Addr) (n c : Nat) (s : List UInt8) (hs : Src w A n c s) (hap : ∀ b o, A = some ⟨b, o, none⟩ → ¬ F b) (hcnt : d.line.length < 1000000) :
    Calls Tryz.prog 66 #[.pointer (some ⟨g, 0, none⟩), .int .i64 env, .int .i64 block, .slice A n c] w fun e w' => e = .returned (.int .i64 (writeR d env block s).2) ∧ ∃ F', DA w' F' g (writeR d env block s).1 ∧ Step w w' F F' := by
  obtain ⟨gb, Al, cl, Ae, ce, D, hF⟩ := h
  have hFe : F = foot gb g Al Ae := funext fun k => propext (hF k)
  subst hFe
  unfold writeR
  by_cases he : askE d env block = 0
  · rw [if_pos he]
    by_cases hl : s.length = 256
    · rw [if_pos hl]
      obtain rfl : n = 256 := by rw [← hs.len]; exact hl
      by_cases h0 : d.armed = 0
      · rw [if_pos h0]
        refine (write_cut D env block A c he h0).mono ?_
        rintro e w' ⟨rfl, a, b⟩
        exact ⟨rfl, _, a, b⟩
      · rw [if_neg h0]
        obtain ⟨_, b, rfl, hb, _⟩ := askE_zero he
        rw [Int.toNat_natCast]
        exact write_lay D env b hb A c s hs hap he h0 hcnt
    · rw [if_neg hl]
      refine (write_short D env block A n c he (by rw [← hs.len]; exact hl)).mono ?_
      rintro e w' ⟨rfl, b⟩
      exact ⟨rfl, _, (D.new b).da, Step.new b _⟩
  · rw [if_neg he]
    refine (write_no D env block A n c he).mono ?_
    rintro e w' ⟨rfl, b⟩
    exact ⟨rfl, _, (D.new b).da, Step.new b _⟩
end
end Go.Proofs.YtefnkednnnlhoaaGreatDoor.Di
