/- Package disk: Grant. Conditions: those that each states. -/
import Derived.Test.YtefnkednnnlhoaaGreatDoorMAI
import Derived.Deep.AppendLies
import Derived.Deep.RegionWith
import Derived.Deep.RegionHeld3
import Derived.Deep.RegionLaw
import Derived.Deep.DeepCutAuto
import Derived.Deep.CutBlock
namespace Go.Proofs.YtefnkednnnlhoaaGreatDoor.Di
open Go.ChangeShapes Go.WideShapes Go.ChangeAt Go.RowKit Go.Deep
set_option linter.unusedVariables false

section
variable {gb g cl ce q cap : Nat} {Al Ae : Option Addr} {d : Dk} {w w1 w2 : World} {F : Nat → Prop}
theorem extsC_snoc (l : List Ex) (x : Ex) : extsC (l ++ [x]) = extsC l ++ x.cells := by simp [extsC]
theorem lineC_snoc (l : List Wr) (x : Wr) : lineC (l ++ [x]) = lineC l ++ x.cells := by simp [lineC]
/-- One extent more. -/
theorem grant_at (h : DskAt w gb g Al cl Ae ce d) (hb : Below w.heap.size w w1) {H : Nat} (hz : w.heap.size ≤ H) (hg : w1.grownBy w2 (Value.slice Ae d.exts.length ce).ownBlock) (hat : (Value.slice Ae d.exts.length ce).ownBlock = some q ∨ q = H) {e f n : Nat}
    (hown : w2.ownsRow 0 134 3 (.slice (some ⟨q, 0, none⟩) (d.exts.length + 1) cap) (d.exts.length + 1) (extsC d.exts ++ (⟨e, f, n⟩ : Ex).cells)) (ok : (granted d e f n).Ok) :
    Blk w2 g 102 #[.slice (some ⟨gb, 0, none⟩) d.blocks.length d.blocks.length, .slice Al d.line.length cl, .slice Ae d.exts.length ce, .bool d.on, .int .i64 d.armed] ∧
    DA (w2.setCell ⟨g, 2, none⟩ (.slice (some ⟨q, 0, none⟩) (d.exts.length + 1) cap)) (foot gb g Al (some ⟨q, 0, none⟩)) g (granted d e f n) ∧
    Step w (w2.setCell ⟨g, 2, none⟩ (.slice (some ⟨q, 0, none⟩) (d.exts.length + 1) cap)) (foot gb g Al Ae) (foot gb g Al (some ⟨q, 0, none⟩)) := by
  have k := chg_of_grown hb hg
  have ha := at_of hz hat
  have hgl := h.head.lt
  have hbl := h.tab.lt
  have b1 := h.head.chg k h.eg
  have t1 := h.tab.chg k h.eb
  have l1 := h.line.chg k (fun b hb e => h.le b hb e)
  have r1 : RowW w2 134 3 (some ⟨q, 0, none⟩) (d.exts.length + 1) cap (extsC d.exts ++ (⟨e, f, n⟩ : Ex).cells) := ⟨hown⟩
  have hqg : q ≠ g := fun e => by
    rcases ha with e1 | e1
    · exact h.eg (by rw [← e]; exact e1)
    · omega
  have hqb : q ≠ gb := fun e => by
    rcases ha with e1 | e1
    · exact h.eb (by rw [← e]; exact e1)
    · omega
  have ks : Chg w2 (w2.setCell ⟨g, 2, none⟩ (.slice (some ⟨q, 0, none⟩) (d.exts.length + 1) cap)) (fun k => k = g) := Chg.set _ _ _ rfl
  refine ⟨b1, ⟨gb, Al, cl, _, cap, ⟨?_, t1.chg ks h.ne, l1.chg ks (fun b hb e => h.lg (by have e' : b = g := e; rw [← e']; exact hb)), ?_, h.ne, h.lb, h.lg, fun e => hqb (inB_some e).symm, fun e => hqg (inB_some e).symm, (h.le.symm.new (fun b hb => h.line.lt b hb) ha).symm, ok⟩, fun _ => Iff.rfl⟩, ⟨?_, ?_⟩⟩
  · have := b1.put 2 (.slice (some ⟨q, 0, none⟩) (d.exts.length + 1) cap)
    simp at this
    have e1 : (granted d e f n).exts.length = d.exts.length + 1 := by simp [granted]
    rw [e1]
    exact this
  · have e1 : (granted d e f n).exts.length = d.exts.length + 1 := by simp [granted]
    rw [e1]
    have e2 : extsC (granted d e f n).exts = extsC d.exts ++ (⟨e, f, n⟩ : Ex).cells := extsC_snoc _ _
    rw [e2]
    exact r1.chg ks (fun b hb e => hqg (by have e' : b = g := e; rw [← e']; exact (inB_some hb).symm))
  · exact (k.weak (fun i hi => .inr (.inr (.inr hi)))).trans (ks.weak (fun i hi => .inr (.inl hi)))
  · rintro i (rfl | rfl | h1 | h1)
    · exact .inl (.inl rfl)
    · exact .inl (.inr (.inl rfl))
    · exact .inl (.inr (.inr (.inl h1)))
    · rw [inB_some h1]
      rcases ha with e1 | e1
      · exact .inl (.inr (.inr (.inr e1)))
      · exact .inr e1
theorem ext_infos : ∃ i0 z, Tryz.prog.info? 134 = some i0 ∧ i0.zero = some z ∧ z.cells.size = 3 ∧ i0.size = 3 ∧ i0.bytes = 24 := by
  obtain ⟨i, hi, hs⟩ := Option.map_eq_some_iff.1 (show (Tryz.prog.info? 134).map (fun i => (i.zero.map (·.cells.size), i.size, i.bytes)) = some (some 3, 3, 24) by kernel_rfl)
  simp only [Prod.mk.injEq] at hs
  obtain ⟨h0, h1, h2⟩ := hs
  obtain ⟨z, hz, hzc⟩ := Option.map_eq_some_iff.1 h0
  exact ⟨i, z, hi, hz, hzc, h1, h2⟩
theorem ints_one (a b c : Int) : ∀ u ∈ ([.int .i64 a, .int .i64 b, .int .i64 c] : List Value), u.oneCell' = true := by
  intro u hu
  simp only [List.mem_cons, List.not_mem_nil, or_false] at hu
  rcases hu with rfl | rfl | rfl <;> rfl

set_option maxRecDepth 100000 in
set_option maxHeartbeats 2000000 in
theorem grant_no (h : DskAt w gb g Al cl Ae ce d) (env first n : Int) (wf : -9223372036854775808 ≤ first ∧ first ≤ 9223372036854775807) (hn : noGrant d env first n) :
    Calls Tryz.prog 31 #[.pointer (some ⟨g, 0, none⟩), .int .i64 env, .int .i64 first, .int .i64 n] w fun e w' => e = .returned (.int .i64 1) ∧ w' = w := by
  have SZ := Lib.hid (size_any h)
  have n2 := h.ok.n2
  unfold noGrant at hn
  by_cases h1 : env < 1
  · clear h hn
    go_enter Tryz.func31, Tryz.ntmps31
    go_wp2
    go_ret
    exact ⟨rfl, rfl⟩
  by_cases h2 : env > 2
  · clear h hn
    go_enter Tryz.func31, Tryz.ntmps31
    go_wp2
    go_ret
    exact ⟨rfl, rfl⟩
  by_cases h3 : n ≤ 0
  · clear h hn
    go_enter Tryz.func31, Tryz.ntmps31
    go_wp2
    go_ret
    exact ⟨rfl, rfl⟩
  by_cases h4 : first < 0
  · clear h hn
    go_enter Tryz.func31, Tryz.ntmps31
    go_wp2
    go_ret
    exact ⟨rfl, rfl⟩
  have x0 : IntKind.i64.wrap ((d.blocks.length : Int) - first) = (d.blocks.length : Int) - first := IntWalk.i64_in _ (by omega)
  have h5 : n > (d.blocks.length : Int) - first := by
    rcases hn with hn | hn | hn | hn | hn
    · exact absurd hn h1
    · exact absurd hn h2
    · exact absurd hn h3
    · exact absurd hn h4
    · exact hn
  clear h hn
  go_enter Tryz.func31, Tryz.ntmps31
  go_wp2_with fail
  refine SZ.out.mono ?_; rintro e w1 ⟨rfl, rfl⟩
  go_wp2
  go_ret
  exact ⟨rfl, rfl⟩

set_option maxRecDepth 100000 in
set_option maxHeartbeats 2000000 in
theorem grant_yes (h : DskAt w gb g Al cl Ae ce d) (env : Int) (e0 f n : Nat) (he : env = (e0 : Int)) (he2 : 1 ≤ e0 ∧ e0 ≤ 2) (hn : 1 ≤ n) (hf : f + n ≤ d.blocks.length) (hcnt : d.exts.length < 1000000) (r : Dk × Int) (hr : r = if busy d f n = true then (d, 20) else (granted d e0 f n, 0)) :
    Calls Tryz.prog 31 #[.pointer (some ⟨g, 0, none⟩), .int .i64 env, .int .i64 (f : Int), .int .i64 (n : Int)] w fun e w' => e = .returned (.int .i64 r.2) ∧ ∃ F', DA w' F' g r.1 ∧ Step w w' (foot gb g Al Ae) F' := by
  have SZ := Lib.hid (size_any h)
  have n2 := h.ok.n2
  have H := Lib.hid h
  have R := Lib.hid hr
  have hgl := h.head.lt
  have x0 : IntKind.i64.wrap ((d.blocks.length : Int) - (f : Int)) = (d.blocks.length : Int) - (f : Int) := IntWalk.i64_in _ (by omega)
  have x1 : IntKind.i64.wrap ((f : Int) + (n : Int)) = (f : Int) + (n : Int) := IntWalk.i64_in _ (by omega)
  have g1 : ¬ env < 1 := by omega
  have g2 : ¬ env > 2 := by omega
  have g3 : ¬ (n : Int) ≤ 0 := by omega
  have g4 : ¬ (f : Int) < 0 := by omega
  have g5 : ¬ (n : Int) > (d.blocks.length : Int) - (f : Int) := by omega
  subst he
  obtain ⟨ie, ze, hi, hz, hzc, hs, hby⟩ := ext_infos
  have INF := Lib.hid (And.intro hi (And.intro hz (And.intro hzc (And.intro hs hby))))
  clear h hr hi hz hzc hs hby
  go_enter Tryz.func31, Tryz.ntmps31
  go_wp2_with fail
  refine SZ.out.mono ?_; rintro e w1 ⟨rfl, rfl⟩
  go_wp2
  go_loopw [9] (fun i wr => ∃ (j : Nat), f ≤ j ∧ j ≤ f + n ∧ i = .int .i64 (j : Int) ∧ Hid (∀ b, f ≤ b → b < j → d.own b = 0) ∧ Below w1.heap.size w1 wr) (fun i _ => f + n - (intOf i).toNat)
  case atStart => exact ⟨f, Nat.le_refl _, by omega, rfl, Lib.hid (fun _ _ _ => by omega), Below.refl _ _⟩
  case round =>
    obtain ⟨j, hj, hj2, rfl, NO, hbel⟩ := hrel
    by_cases hlt : j < f + n
    · have j1 : (j : Int) < (f : Int) + (n : Int) := by omega
      have xj := IntWalk.i64_in ((j : Int) + 1) (by omega)
      have GR := Lib.hid (granted_any (H.out.new hbel) j (by omega))
      have hsz : w1.heap.size ≤ wr.heap.size := hbel.size
      have HB := Lib.hid hbel
      clear hbel
      by_cases ho : d.own j ≠ 0
      · have hd : decide (d.own j ≠ 0) = true := decide_eq_true ho
        rw [hd] at GR
        have RV := Lib.hid (show r = (d, 20) from R.out.trans (if_pos (busy_yes hj (by omega) ho)))
        clear hd ho
        go_wp2_with fail
        refine GR.out.mono ?_; rintro e w2 ⟨rfl, b2⟩
        have B2 := Lib.hid (HB.out.trans (b2.mono hsz))
        clear b2
        go_wp2
        go_ret
        rw [RV.out]
        exact ⟨rfl, _, H.out.da.new B2.out, Step.new B2.out _⟩
      · have ho' : d.own j = 0 := by omega
        have hd : decide (d.own j ≠ 0) = false := decide_eq_false ho
        rw [hd] at GR
        have NO2 : Hid (∀ b, f ≤ b → b < j + 1 → d.own b = 0) := Lib.hid (fun b h1 h2 => by
          by_cases e : b = j
          · subst e; exact ho'
          · exact NO.out b h1 (by omega))
        clear hd ho ho'
        go_wp2_with fail
        refine GR.out.mono ?_; rintro e w2 ⟨rfl, b2⟩
        have B2 := Lib.hid (HB.out.trans (b2.mono hsz))
        clear b2
        go_wp2
        go_roundw
        case rel => exact ⟨j + 1, by omega, by omega, by simp, NO2, B2.out⟩
        case measure => simp [intOf]; omega
    · have hge : ¬ (j : Int) < (f : Int) + (n : Int) := by omega
      obtain rfl : j = f + n := by omega
      have hbusy : busy d f n = false := busy_of (fun b h1 h2 => NO.out b h1 h2)
      have RV := Lib.hid (show r = (granted d e0 f n, 0) from R.out.trans (by rw [hbusy]; rfl))
      have OK := Lib.hid (H.out.ok.granted he2 hn hf hbusy)
      have hsz : w1.heap.size ≤ wr.heap.size := hbel.size
      have HD := Lib.hid (H.out.new hbel)
      have HB := Lib.hid hbel
      have c2 := (heads HD.out).2.2.1
      have hgl2 : g < wr.heap.size := HD.out.head.lt
      have hcell : ∀ j u, ([.int .i64 (e0 : Int), .int .i64 (f : Int), .int .i64 (n : Int)] : List Value)[j]? = some u → (wr.alloc (.cells #[.int .i64 (e0 : Int), .int .i64 (f : Int), .int .i64 (n : Int)] 134)).cell? ((⟨wr.heap.size, 0, none⟩ : Addr).add j) = some u :=
        World.news_of_block (Blk.new wr _ _)
      have HC := Lib.hid hcell
      clear hbel hbusy hcell
      go_wp2_with (at_builtin; refine Hid.out ?_)
      unfold Hid
      refine wpList_append_lies _ rfl (.tmp 49) (.tmp 54) 100 rfl 0 134 ie ze 3 24 Tryz.underlying100 INF.out.1 INF.out.2.1 INF.out.2.2.2.1 INF.out.2.2.2.2 INF.out.2.2.1 (by decide) _ d.exts.length (extsC d.exts) rfl (HD.out.exts.new ((Below.refl _ wr).alloc (Nat.le_refl _) _)).own ⟨wr.heap.size, 0, none⟩ 1 1 [.int .i64 (e0 : Int), .int .i64 (f : Int), .int .i64 (n : Int)] rfl rfl HC.out (ints_one _ _ _) (by decide) (by unfold maxLen; omega) (by omega) (by omega) (wr.heap.size + 1) (by simp) ?_
      intro q cap w2 hown hgrow hat hlg
      obtain ⟨hd1, hda, hst⟩ := grant_at HD.out ((Below.refl _ wr).alloc (Nat.le_refl _) (.cells #[.int .i64 (e0 : Int), .int .i64 (f : Int), .int .i64 (n : Int)] 134)) (Nat.le_succ _) hgrow hat hown OK.out
      have c1 : w2.cell? ⟨g, 2, none⟩ = some (.slice Ae d.exts.length ce) := hd1.cell 2
      have f1 := hd1.frozen 2
      have FIN := Lib.hid (And.intro hda ((Step.new HB.out _).trans hst))
      clear hown hgrow hat hd1 hda hst c2
      go_wp2
      go_ret
      rw [RV.out]
      exact ⟨rfl, _, FIN.out⟩
theorem grant_any (h : DA w F g d) (env first n : Int) (wf : -9223372036854775808 ≤ first ∧ first ≤ 9223372036854775807) (hcnt : d.exts.length < 1000000) :
    Calls Tryz.prog 31 #[.pointer (some ⟨g, 0, none⟩), .int .i64 env, .int .i64 first, .int .i64 n] w fun e w' => e = .returned (.int .i64 (grantR d env first n).2) ∧ ∃ F', DA w' F' g (grantR d env first n).1 ∧ Step w w' F F' := by
  obtain ⟨gb, Al, cl, Ae, ce, D, hF⟩ := h
  have hFe : F = foot gb g Al Ae := funext fun k => propext (hF k)
  subst hFe
  unfold grantR
  by_cases hn : noGrant d env first n
  · rw [if_pos hn]
    refine (grant_no D env first n wf hn).mono ?_
    rintro e w' ⟨rfl, rfl⟩
    exact ⟨rfl, _, D.da, Step.refl _ _⟩
  · rw [if_neg hn]
    unfold noGrant at hn
    obtain ⟨e0, rfl⟩ : ∃ e0 : Nat, env = (e0 : Int) := ⟨env.toNat, by omega⟩
    obtain ⟨f, rfl⟩ : ∃ f : Nat, first = (f : Int) := ⟨first.toNat, by omega⟩
    obtain ⟨m, rfl⟩ : ∃ m : Nat, n = (m : Int) := ⟨n.toNat, by omega⟩
    simp only [Int.toNat_natCast]
    exact grant_yes D _ e0 f m rfl (by omega) (by omega) (by omega) hcnt _ rfl
end
end Go.Proofs.YtefnkednnnlhoaaGreatDoor.Di

/- Package disk: Read. Conditions: those that each states. -/
namespace Go.Proofs.YtefnkednnnlhoaaGreatDoor.Di
open Go.ChangeShapes Go.WideShapes Go.ChangeAt Go.RowKit Go.Deep
set_option linter.unusedVariables false

theorem page_under : Tryz.prog.underlying 195 = some (.array (Tryz.prog.arrayLen 195) (Tryz.prog.elem 195)) := by kernel_rfl
theorem page_len : Tryz.prog.arrayLen 195 = 256 := by kernel_rfl
theorem page_elem : Tryz.prog.elem 195 = 5 := by kernel_rfl
theorem size_u8 (W : World) : (sizeOf 5).run Tryz.prog W = .ok 1 W := by
  obtain ⟨i, hi, hs⟩ := Option.map_eq_some_iff.1 u8_size
  simp [sizeOf, typeInfo, hi, hs]
/-- 'text[:]'. -/
theorem run_cut (b o : Nat) (W : World) : (Instr.sliceAt 195 (.pointer (some ⟨b, o, none⟩)) none none none).run Tryz.prog W = .ok (.slice (some ⟨b, o, none⟩) 256 256) W := by
  rw [run_sliceAt_array_all W 195 ⟨b, o, none⟩ page_under, page_elem, size_u8, page_len]
  simp only [Result.andThen_ok, slicedAt]
  rw [if_neg (by decide)]
  have ea : (⟨b, o, none⟩ : Addr).add (0 * 1) = ⟨b, o, none⟩ := by unfold Addr.add; split <;> simp_all
  rw [ea]

section
variable {gb g cl ce : Nat} {Al Ae : Option Addr} {d : Dk} {w : World} {F : Nat → Prop}
theorem src_of_range {b o : Nat} {l : List UInt8} (hb : b < w.heap.size) (hl : l.length = 256) (h : w.rangeAt b o (bys l)) : Src w (some ⟨b, o, none⟩) 256 256 l :=
  ⟨⟨fun hp => ⟨b, o, rfl, hb, fun j hj => h j _ (List.getElem?_eq_getElem hj)⟩, hl, Nat.le_refl _, by omega⟩, fun e => by cases e⟩
theorem block_src (h : DskAt w gb g Al cl Ae ce d) {b : Nat} (hb : b < d.blocks.length) : Src w (some ⟨gb, b * 256, none⟩) 256 256 d.blocks[b] :=
  src_of_range h.tab.lt (h.ok.bl _ (List.getElem_mem hb)) (h.block hb)
theorem wr_parts (h : DskAt w gb g Al cl Ae ce d) {i : Nat} (hi : i < d.line.length) : ∃ l, Al = some ⟨l, 0, none⟩ ∧ l < w.heap.size ∧ w.cell? ⟨l, i * 257, none⟩ = some (.int .i64 (d.line[i].block : Int)) ∧ w.rangeAt l (i * 257 + 1) (bys d.line[i].text) ∧ Src w (some ⟨l, i * 257 + 1, none⟩) 256 256 d.line[i].text := by
  obtain ⟨l, rfl, hl, _, _, hr⟩ := h.wr hi
  have hr2 : w.rangeAt l (i * 257 + 1) (bys d.line[i].text) := by
    intro j v hj
    have := hr (j + 1) v (by rw [← hj]; rfl)
    rw [← Nat.add_assoc] at this
    rw [show i * 257 + 1 + j = i * 257 + j + 1 by omega]
    exact this
  refine ⟨l, rfl, hl, ?_, hr2, src_of_range hl (h.ok.li _ (List.getElem_mem hi)).2 hr2⟩
  have := hr 0 _ rfl
  rwa [Nat.add_zero] at this

set_option maxRecDepth 100000 in
set_option maxHeartbeats 2000000 in
theorem read_no (h : DskAt w gb g Al cl Ae ce d) (env block : Int) (he : askE d env block ≠ 0) :
    Calls Tryz.prog 65 #[.pointer (some ⟨g, 0, none⟩), .int .i64 env, .int .i64 block] w fun e w' => e = .returned (.tuple #[.slice none 0 0, .int .i64 (askE d env block)]) ∧ Below w.heap.size w w' := by
  have AS := Lib.hid (asked_any h env block)
  have hv : (askE d env block == 0) = false := by simpa using he
  generalize askE d env block = v at *
  clear h he
  go_enter Tryz.func65, Tryz.ntmps65
  go_wp2_with fail
  refine AS.out.mono ?_; rintro e w1 ⟨rfl, b1⟩
  have B1 := Lib.hid b1
  clear b1
  go_wp2
  go_ret2
  exact ⟨rfl, B1.out⟩
theorem see_len (h : d.Ok) {b : Nat} (hb : b < d.blocks.length) : (see d b).length = 256 := by
  have h1 := put_get d.blocks d.line b hb
  have h2 := put_mem (p := fun t => t.length = 256) h.bl (fun q hq => (h.li q hq).2)
  unfold see
  rw [← h1]
  have hb' : b < (put d.blocks d.line).length := by rw [put_len]; exact hb
  simp only [List.getD_eq_getElem?_getD, List.getElem?_eq_getElem hb', Option.getD_some]
  exact h2 _ (List.getElem_mem _)
end
end Go.Proofs.YtefnkednnnlhoaaGreatDoor.Di
