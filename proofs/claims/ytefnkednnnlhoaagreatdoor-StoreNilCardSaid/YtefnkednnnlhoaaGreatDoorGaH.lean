/- Package gather: Hold takes its holds back by a deferred step. Conditions: those that each states. -/
import Derived.Test.YtefnkednnnlhoaaGreatDoorMAH
import Derived.Test.YtefnkednnnlhoaaGreatDoorMAB
import Derived.Defers
namespace Go.Proofs.YtefnkednnnlhoaaGreatDoor
open Go.ChangeShapes Go.WideShapes Go.ChangeAt Go.RowKit Go.Deep Fr
set_option linter.unusedVariables false

theorem run_front (A : Option Addr) (c n k : Nat) (h0 : ∀ x, A = some x → x.spot = none) (hk : k ≤ n) (hn : n ≤ c) (W : World) :
    (Instr.slice 108 (.slice A n c) none (some (.int .i64 (k : Int))) none).run Tryz.prog W = .ok (.slice A k c) W := by
  have ht : Tryz.prog.underlying 108 = some (.slice (Tryz.prog.elem 108)) := by kernel_rfl
  have he : (Tryz.prog.info? (Tryz.prog.elem 108)).map (·.size) = some 3 := by kernel_rfl
  obtain ⟨i, hi, hs⟩ := Option.map_eq_some_iff.1 he
  rw [run_slice_h W 108 A n c ht .i64 (k : Int) (by omega) (by omega)]
  have hz : (sizeOf (Tryz.prog.elem 108)).run Tryz.prog W = .ok i.size W := by simp [sizeOf, typeInfo, hi]
  rw [hz]
  simp only [Result.andThen_ok, sliced]
  cases A with
  | none => simp
  | some x =>
    obtain ⟨b, o, sp⟩ := x
    have e := h0 _ rfl
    dsimp only at e
    subst e
    have ea : (⟨b, o, none⟩ : Addr).add 0 = ⟨b, o, none⟩ := by unfold Addr.add; split <;> simp_all
    simp [ea]
set_option maxRecDepth 100000 in
theorem undo_no (E T L H : Nat) (u : FrameMode) (w : World) (hE : w.cell? ⟨E, 0, none⟩ = some (.int .i64 0)) :
    CallsD Tryz.prog 139 #[.pointer (some ⟨E, 0, none⟩), .pointer (some ⟨T, 0, none⟩), .pointer (some ⟨L, 0, none⟩), .pointer (some ⟨H, 0, none⟩)] u w fun e u' w' => u' = u ∧ (e = .returned (.tuple #[]) ∧ w' = w) := by
  go_enter_d Tryz.func139, Tryz.ntmps139
  go_wp2
  go_end0
  exact ⟨rfl, rfl⟩

/-- 'x[:y]' in a region that draws. -/
theorem exec_slice {P : Program} {a : Act} {o : Oper} {t : TypeId} {s h : Operand} (ho : o.op = .slice t s none (some h) none) {x y v : Value} (hx : a.eval s = x) (hy : a.eval h = y) {w : World} (hr : (Instr.sliceAt t x none (some y) none).run P w = .ok v w) : (execOp a.eval o).run P w = .ok (.value v) w := by
  unfold execOp
  simp only [ho, hx, hy, Option.map_none, Option.map_some, Sem.run_bind, hr, Result.andThen_ok, Sem.run_pure]
section
variable {gs g : Nat} {ps : List Pg} {w : World}
set_option maxRecDepth 100000 in
set_option maxHeartbeats 1000000 in
theorem undo_yes (h : Tab w gs g ps) (E T L H : Nat) (u : FrameMode) (ev : Int) (hv : ev ≠ 0) (A : Option Addr) (c : Nat) (l : List Pc) (j : Nat) (hj : j ≤ l.length) (hc : l.length ≤ c)
    (hE : w.cell? ⟨E, 0, none⟩ = some (.int .i64 ev)) (hT : w.cell? ⟨T, 0, none⟩ = some (.pointer (some ⟨g, 0, none⟩))) (hL : w.cell? ⟨L, 0, none⟩ = some (.slice A l.length c)) (hH : w.cell? ⟨H, 0, none⟩ = some (.int .i64 (j : Int)))
    (hp : Pcs w A l) (hA : ∀ b o, A = some ⟨b, o, none⟩ → b ≠ gs) (hs : ∀ x, A = some x → x.spot = none) (lT : T < w.heap.size) (lL : L < w.heap.size) (lH : H < w.heap.size) (nT : T ≠ gs) (nL : L ≠ gs) (nH : H ≠ gs) (hmax : l.length ≤ 1000000) :
    CallsD Tryz.prog 139 #[.pointer (some ⟨E, 0, none⟩), .pointer (some ⟨T, 0, none⟩), .pointer (some ⟨L, 0, none⟩), .pointer (some ⟨H, 0, none⟩)] u w fun e u' w' => u' = u ∧ (e = .returned (.tuple #[]) ∧ Tab w' gs g (dropG ps (l.take j)).1 ∧ Chg w w' (fun k => k = gs)) := by
  have SL := Lib.hid (fun W => (run_sliceAt_slice (P := Tryz.prog) (w := W) 108 (.slice A l.length c) none (some (.int .i64 (j : Int))) none (by kernel_rfl)).trans (run_front A c l.length j hs hj hc W))
  have hpf : Pcs w.drew A (l.take j) := by
    intro i hi
    rw [List.length_take] at hi
    obtain ⟨b, o, e, hb, hr⟩ := hp i (by omega)
    rw [List.getElem_take]
    exact ⟨b, o, e, hb, hr⟩
  have dr := drop_list h.drew A c (l.take j) hpf hA (by rw [List.length_take]; omega)
  rw [List.length_take, Nat.min_eq_left hj] at dr
  have DR := Lib.hid dr
  have hv' : (ev == 0) = false := by simpa using hv
  clear hpf dr hp hA hv h
  go_enter_d Tryz.func139, Tryz.ntmps139
  go_upto_region 1 with fail
  refine wp_region_held_drew (S := fun w' => (w'.cell? ⟨T, 0, none⟩ = some (.pointer (some ⟨g, 0, none⟩)) ∧ w'.cell? ⟨L, 0, none⟩ = some (.slice A l.length c) ∧ w'.cell? ⟨H, 0, none⟩ = some (.int .i64 (j : Int))) ∧ Hid (Chg w w' (fun k => k = gs))) (by kernel_rfl) (⟨⟨hT, hL, hH⟩, Lib.hid ((Chg.refl w _).drew)⟩) (fun hS => ?_)
  refine held_take (i := 0) (d := (some 6)) (v := ?_) rfl rfl (by kernel_rfl) (by kernel_rfl) (by kernel_rfl) (fun _ _ _ h => h) (by rfl) ?_ hS ?_
  rotate_left
  · intro w' hSw; (try dsimp only at hSw); go_simp <;> with_reducible rfl
  simp only [Act.put, List.setIfInBounds_toArray, List.set_cons_zero, List.set_cons_succ]
  refine held_take (i := 1) (d := (some 7)) (v := ?_) rfl rfl (by kernel_rfl) (by kernel_rfl) (by kernel_rfl) (fun _ _ _ h => h) (by rfl) ?_ hS ?_
  rotate_left
  · intro w' hSw; (try dsimp only at hSw); go_simp <;> with_reducible rfl
  simp only [Act.put, List.setIfInBounds_toArray, List.set_cons_zero, List.set_cons_succ]
  refine held_take (i := 2) (d := (some 8)) (v := ?_) rfl rfl (by kernel_rfl) (by kernel_rfl) (by kernel_rfl) (fun _ _ _ h => h) (by rfl) ?_ hS ?_
  rotate_left
  · intro w' hSw; (try dsimp only at hSw); go_simp <;> with_reducible rfl
  simp only [Act.put, List.setIfInBounds_toArray, List.set_cons_zero, List.set_cons_succ]
  refine held_take (i := 3) (d := (some 9)) (v := (.slice A j c)) rfl rfl (by kernel_rfl) (by kernel_rfl) (by kernel_rfl) (fun _ _ _ h => h) (by rfl) (fun w' _ => exec_slice (x := .slice A l.length c) (y := .int .i64 (j : Int)) rfl rfl rfl (SL.out w')) hS ?_
  simp only [Act.put, List.setIfInBounds_toArray, List.set_cons_zero, List.set_cons_succ]
  refine held_one (i := 4) (by kernel_rfl) rfl (by rfl) ?_
  go_simp
  refine DR.out.mono ?_; rintro e w5 ⟨rfl, t5, k5⟩
  have T5 := Lib.hid t5
  have K5 := Lib.hid ((hS.2.out).trans k5)
  have CC := fun (p : Addr) (hb : p.block < w.heap.size) (hn : p.block ≠ gs) => (World.cell?_of_block (w := w) (w' := w5) (a := p) (K5.out.block p.block hb hn))
  refine ⟨⟨⟨(CC ⟨T, 0, none⟩ lT nT).trans hT, (CC ⟨L, 0, none⟩ lL nL).trans hL, (CC ⟨H, 0, none⟩ lH nH).trans hH⟩, K5⟩, ?_⟩
  clear t5 k5 CC
  (try simp only [Act.put, List.setIfInBounds_toArray, List.set_cons_zero, List.set_cons_succ])
  refine wpAnyH_done (by kernel_rfl) ?_ _
  clear hS
  go_wp2
  go_end0
  exact ⟨rfl, T5.out, K5.out⟩
end

theorem holdR_2 (ps : List Pg) (env f : Int) : (Fr.holdR ps env f).2 = ownErr ps env f := by
  unfold Fr.holdR
  split
  · rename_i h; rw [h]
  · rfl
/-- What stands while Hold is under way. -/
structure HoldSt (w : World) (H gs g : Nat) (env : Int) (ps : List Pg) (A : Option Addr) (c : Nat) (l : List Pc) (wr : World) (j : Nat) : Prop where
  bt : Blk wr w.heap.size 79 #[.pointer (some ⟨g, 0, none⟩)]
  bl : Blk wr (w.heap.size + 1) 108 #[.slice A l.length c]
  be : Blk wr (w.heap.size + 1 + 1) 28 #[.int .i64 0]
  bh : Blk wr H 3 #[.int .i64 (j : Int)]
  tab : Tab wr gs g (holdN ps env (l.take j))
  ok : ∀ x (hx : x < l.length), x < j → ownErr ps env l[x].frame = 0
  chg : Chg w wr (fun k => k = gs)
theorem chg_new {w w' w2 : World} {S S' : Nat → Prop} (h : Chg w w' S) (k : Chg w' w2 S') (hS : ∀ i, S' i → w.heap.size ≤ i) : Chg w w2 S :=
  ⟨k.os.trans h.os, k.tape.trans h.tape, k.output.trans h.output, Nat.le_trans h.size k.size, fun i hi hn => (k.block i (Nat.lt_of_lt_of_le hi h.size) (fun s => absurd (hS i s) (by omega))).trans (h.block i hi hn)⟩
theorem check_ok {ps : List Pg} {env : Int} {l : List Pc} (hf : fitsR ps.length env l = 0) (h : ∀ p ∈ l, ownErr ps env p.frame = 0) : checkR ps env l = 0 := by
  unfold checkR
  rw [if_pos hf, if_pos]
  intro p hp
  obtain ⟨k, hk, ek, _, ho⟩ := ownErr_zero (h p hp)
  rw [ek, pg_at hk]
  exact ho
theorem check_bad {ps : List Pg} {env : Int} {l : List Pc} (hf : fitsR ps.length env l = 0) {p : Pc} (hp : p ∈ l) (h : ownErr ps env p.frame ≠ 0) : checkR ps env l = ownErr ps env p.frame := by
  obtain ⟨he, _, hall, _⟩ := fits_of_zero hf
  obtain ⟨_, _, h3, h4⟩ := hall p hp
  rw [owner_ownErr he ⟨h3, h4⟩] at h ⊢
  by_cases ho : ((pg ps p.frame).owner : Int) = env
  · rw [if_pos ho] at h; exact absurd rfl h
  · rw [if_neg ho]
    unfold checkR
    rw [if_pos hf, if_neg (fun h5 => ho (h5 p hp))]
theorem door (tmps : Array Value) (E : Nat) (v : Value) (W : World) (R : Ending → World → Prop) (h6 : tmps.getD 6 undef = .pointer (some ⟨E, 0, none⟩)) (hc : W.cell? ⟨E, 0, none⟩ = some v) (hR : R (.returned v) W) :
    Leaves Tryz.prog Tryz.f112 tmps R [] .returning W := by
  have h6' : tmps[6]?.getD undef = .pointer (some ⟨E, 0, none⟩) := by simpa using h6
  refine ⟨v, ?_, hR⟩
  simp [results, Tryz.results112, go_sem, h6', hc]
section
variable {gs g : Nat} {ps : List Pg} {w : World}
set_option maxRecDepth 100000 in
set_option maxHeartbeats 4000000 in
theorem hold_list (h : Tab w gs g ps) (env : Int) (A : Option Addr) (c : Nat) (l : List Pc) (hp : Pcs w A l) (hok : ∀ p ∈ l, p.Ok) (hA : ∀ b o, A = some ⟨b, o, none⟩ → b ≠ gs) (hc : l.length ≤ c) (hm : ∀ p ∈ ps, p.holds + 16 < 1000000) (hmax : l.length ≤ 1000000) :
    Calls Tryz.prog 112 #[.pointer (some ⟨g, 0, none⟩), .int .i64 env, .slice A l.length c] w fun e w' => e = .returned (.int .i64 (holdG ps env l).2) ∧ Tab w' gs g (holdG ps env l).1 ∧ Chg w w' (fun k => k = gs) := by
  have T := Lib.hid h
  have P := Lib.hid hp
  have HA := Lib.hid hA
  have HM := Lib.hid hm
  have n2 := h.n2
  have hgl : gs < w.heap.size := h.blk
  have hb0 := (((Below.refl w.heap.size w).alloc (Nat.le_refl _) (.cells #[.pointer (some ⟨g, 0, none⟩)] 79)).alloc (by simp) (.cells #[.slice A l.length c] 108)).alloc (by simp; omega) (.cells #[.int .i64 0] 28)
  have hT0 := ((Blk.new w 79 #[.pointer (some ⟨g, 0, none⟩)]).alloc (.cells #[.slice A l.length c] 108)).alloc (.cells #[.int .i64 0] 28)
  have hL0 := (Blk.new (w.alloc (.cells #[.pointer (some ⟨g, 0, none⟩)] 79)) 108 #[.slice A l.length c]).alloc (.cells #[.int .i64 0] 28)
  have hE0 := Blk.new ((w.alloc (.cells #[.pointer (some ⟨g, 0, none⟩)] 79)).alloc (.cells #[.slice A l.length c] 108)) 28 #[.int .i64 0]
  simp only [World.size_alloc] at hL0 hE0
  generalize hW0 : ((w.alloc (.cells #[.pointer (some ⟨g, 0, none⟩)] 79)).alloc (.cells #[.slice A l.length c] 108)).alloc (.cells #[.int .i64 0] 28) = W0 at *
  have HW0 := Lib.hid hW0
  have FI := Lib.hid (gfits_any (h.new hb0) env A c l (hp.new hb0) hok hmax)
  have B0 := Lib.hid hb0
  have BT0 := Lib.hid hT0
  have BL0 := Lib.hid hL0
  have BE0 := Lib.hid hE0
  clear hp hok hA hm h hb0 hT0 hL0 hE0 hW0
  go_enter_defers Tryz.func112, Tryz.ntmps112
  go_wp2_with fail
  rw [HW0.out]
  refine FI.out.mono ?_; rintro e w1 ⟨rfl, b1⟩
  have BT1 := BT0.out.older (older_below b1)
  have BL1 := BL0.out.older (older_below b1)
  have BE1 := BE0.out.older (older_below b1)
  have cE1 := BE1.cell 0
  have fE1 := BE1.frozen 0
  have B1 := Lib.hid (B0.out.trans (b1.mono B0.out.size))
  have hz : w.heap.size + 1 + 1 < w1.heap.size := BE1.lt
  have ke : ∀ (W : World) v, Chg W (W.setCell ⟨w.heap.size + 1 + 1, 0, none⟩ v) (fun k => k = w.heap.size + 1 + 1) := fun W v => Chg.set W 0 v rfl
  have KE := Lib.hid ke
  have BT1 := Lib.hid BT1
  have BL1 := Lib.hid BL1
  have BE1 := Lib.hid BE1
  clear ke b1 B0 BT0 BL0 BE0 HW0 FI
  by_cases hf : fitsR ps.length env l = 0
  · rw [hf]
    have hmf : ∀ (fn : Fn) (first cap : Array Value) (w : World), (Instr.makeFunc fn first cap).run Tryz.prog w = .ok (.func fn first cap) w := fun _ _ _ _ => rfl
    have hH := BE1.out.lt
    have hBE2 := (BE1.out.put 0 (.int .i64 0)).alloc (.cells #[.int .i64 0] 3)
    have hBT2 := (BT1.out.far (p := ⟨w.heap.size + 1 + 1, 0, none⟩) (by show w.heap.size ≠ w.heap.size + 1 + 1; omega) (.int .i64 0)).alloc (.cells #[.int .i64 0] 3)
    have hBL2 := (BL1.out.far (p := ⟨w.heap.size + 1 + 1, 0, none⟩) (by show w.heap.size + 1 ≠ w.heap.size + 1 + 1; omega) (.int .i64 0)).alloc (.cells #[.int .i64 0] 3)
    have hBH2 : Blk ((w1.setCell ⟨w.heap.size + 1 + 1, 0, none⟩ (.int .i64 0)).alloc (.cells #[.int .i64 0] 3)) w1.heap.size 3 #[.int .i64 0] := by
      have := Blk.new (w1.setCell ⟨w.heap.size + 1 + 1, 0, none⟩ (.int .i64 0)) 3 #[.int .i64 0]
      simpa [World.setCell] using this
    have hb2 := (B1.out.trans (((KE.out w1 (.int .i64 0)).below (B := w.heap.size) (by omega) (fun i (hi : i = w.heap.size + 1 + 1) => by omega)))).alloc (by simp [World.setCell]; omega) (.cells #[.int .i64 0] 3)
    have ST0 := Lib.hid (show HoldSt w w1.heap.size gs g env ps A c l ((w1.setCell ⟨w.heap.size + 1 + 1, 0, none⟩ (.int .i64 0)).alloc (.cells #[.int .i64 0] 3)) 0 from
      ⟨hBT2, hBL2, by simpa using hBE2, hBH2, T.out.new hb2, fun x hx h => absurd h (by omega), Chg.of_new hb2 _⟩)
    obtain ⟨hE, hne, hall, hl16, _⟩ := fits_of_zero hf
    have ALL := Lib.hid (And.intro hE hall)
    have HF := Lib.hid hf
    have hgg : g < w.heap.size := T.out.head.lt
    clear hBE2 hBT2 hBL2 hBH2 hb2 hall hne hE hf
    go_wp2
    generalize w1.heap.size = H at *
    go_loopw [] (fun wx => ∃ (j : Nat), j ≤ l.length ∧ Hid (HoldSt w H gs g env ps A c l wx j)) (fun wx => l.length - (intOf ((wx.cell? ⟨H, 0, none⟩).getD undef)).toNat)
    case atStart => exact ⟨0, Nat.zero_le _, ST0⟩
    case round =>
      clear ST0 cE1 fE1 BT1 BL1 BE1 B1
      obtain ⟨j, hj, ST⟩ := hrel
      have cT := ST.out.bt.cell 0
      have cL := ST.out.bl.cell 0
      have cE := ST.out.be.cell 0
      have cH := ST.out.bh.cell 0
      have fE := ST.out.be.frozen 0
      have fH := ST.out.bh.frozen 0
      replace cT : wr.cell? ⟨w.heap.size, 0, none⟩ = some (.pointer (some ⟨g, 0, none⟩)) := cT
      replace cL : wr.cell? ⟨w.heap.size + 1, 0, none⟩ = some (.slice A l.length c) := cL
      replace cE : wr.cell? ⟨w.heap.size + 1 + 1, 0, none⟩ = some (.int .i64 0) := cE
      replace cH : wr.cell? ⟨H, 0, none⟩ = some (.int .i64 (j : Int)) := cH
      by_cases hlt : j < l.length
      · have hlt' : (j : Int) < (l.length : Int) := by omega
        have j0 : (0 : Int) ≤ (j : Int) := by omega
        have xj := IntWalk.i64_in ((j : Int) + 1) (by omega)
        obtain ⟨b, o, rfl, hbl, hr⟩ := P.out j hlt
        have nb := HA.out b o rfl
        have cF : wr.cell? ⟨b, o + j * 3, none⟩ = some (.int .i64 l[j].frame) := (World.cell?_of_block (w := w) (w' := wr) (a := ⟨b, o + j * 3, none⟩) (ST.out.chg.block b hbl nb)).trans (hr 0 _ rfl)
        have hTur := holdN_turned (l.take j) (fun p hp => by
          obtain ⟨x, hx, rfl⟩ := List.mem_iff_getElem.1 hp
          rw [List.length_take] at hx
          rw [List.getElem_take]
          exact ST.out.ok x (by omega) (by omega)) (Turned.refl ps)
        have hmx := holdN_max (m := 1000000) (l := l.take j) (fun p hp => by
          obtain ⟨x, hx, rfl⟩ := List.mem_iff_getElem.1 hp
          rw [List.length_take] at hx
          rw [List.getElem_take]
          exact ST.out.ok x (by omega) (by omega)) (fun p hp => by have := HM.out p hp; rw [List.length_take]; omega)
        have ho := Fr.hold_any (ST.out.tab.drew) env l[j].frame hmx
        rw [holdR_2, ← holdN_succ hlt, hTur.ownErr] at ho
        have HO := Lib.hid ho
        have BE := Lib.hid ST.out.be
        have lT := ST.out.bt.lt
        have lL := ST.out.bl.lt
        have lH := ST.out.bh.lt
        have nHE : H ≠ w.heap.size + 1 + 1 := ST.out.bh.apart ST.out.be (by decide)
        have nHg : H ≠ gs := by omega
        have ZZ := Lib.hid (show w.heap.size < wr.heap.size ∧ w.heap.size ≠ gs ∧ w.heap.size + 1 < wr.heap.size ∧ w.heap.size + 1 ≠ gs ∧ H < wr.heap.size ∧ H ≠ gs ∧ H ≠ w.heap.size + 1 + 1 ∧ b < wr.heap.size ∧ b ≠ gs ∧ b ≠ w.heap.size + 1 + 1 from
          ⟨lT, by omega, lL, by omega, lH, nHg, nHE, by omega, nb, by omega⟩)
        have GOK := Lib.hid (show ownErr ps env l[j].frame = 0 → ∀ x (hx : x < l.length), x < j + 1 → ownErr ps env l[x].frame = 0 from fun h1 x hx h => by
          by_cases e : x = j
          · subst e; exact h1
          · exact ST.out.ok x hx (by omega))
        have BADK := Lib.hid (show ownErr ps env l[j].frame ≠ 0 → holdG ps env l = (ps, ownErr ps env l[j].frame) from fun h1 => by
          have e := check_bad HF.out (List.getElem_mem hlt) h1
          unfold holdG
          rw [e, if_neg h1])
        have HQ := Lib.hid (show ownErr ps env l[j].frame ≠ 0 → holdN ps env (l.take (j + 1)) = holdN ps env (l.take j) from fun h1 => by
          rw [holdN_succ hlt]
          unfold Fr.holdR
          rw [hTur.ownErr, if_neg h1])
        have HBK := Lib.hid (show dropG (holdN ps env (l.take j)) (l.take j) = (ps, 0) from dropG_holdN (fun p hp => by
          obtain ⟨x, hx, rfl⟩ := List.mem_iff_getElem.1 hp
          rw [List.length_take] at hx
          rw [List.getElem_take]
          exact ST.out.ok x (by omega) (by omega)))
        have HTU := Lib.hid hTur
        generalize hev : ownErr ps env l[j].frame = ev at *
        generalize l[j].frame = qf at *
        clear hr ho hmx hTur hev
        go_upto_region 7 with fail
        refine wp_region_noPanic ?_
        refine wp_region_held_drew (S := fun w' => (w'.cell? ⟨w.heap.size, 0, none⟩ = some (.pointer (some ⟨g, 0, none⟩)) ∧ w'.cell? ⟨w.heap.size + 1, 0, none⟩ = some (.slice (some ⟨b, o, none⟩) l.length c) ∧ w'.cell? ⟨H, 0, none⟩ = some (.int .i64 (j : Int)) ∧ w'.cell? ⟨b, o + j * 3, none⟩ = some (.int .i64 qf)) ∧ Hid (Chg wr w' (fun k => k = gs ∨ k = w.heap.size + 1 + 1))) (by kernel_rfl) (⟨⟨cT, cL, cH, cF⟩, Lib.hid ((Chg.refl wr _).drew)⟩) (fun hS => ?_)
        refine held_take (i := 0) (d := (some 20)) (v := ?_) rfl rfl (by kernel_rfl) (by kernel_rfl) (by kernel_rfl) (fun _ _ _ h => h) (by rfl) ?_ hS ?_
        rotate_left
        · intro w' hSw; (try dsimp only at hSw); go_simp <;> with_reducible rfl
        simp only [Act.put, List.setIfInBounds_toArray, List.set_cons_zero, List.set_cons_succ]
        refine held_take (i := 1) (d := (some 21)) (v := ?_) rfl rfl (by kernel_rfl) (by kernel_rfl) (by kernel_rfl) (fun _ _ _ h => h) (by rfl) ?_ hS ?_
        rotate_left
        · intro w' hSw; (try dsimp only at hSw); go_simp <;> with_reducible rfl
        simp only [Act.put, List.setIfInBounds_toArray, List.set_cons_zero, List.set_cons_succ]
        refine held_take (i := 2) (d := (some 22)) (v := ?_) rfl rfl (by kernel_rfl) (by kernel_rfl) (by kernel_rfl) (fun _ _ _ h => h) (by rfl) ?_ hS ?_
        rotate_left
        · intro w' hSw; (try dsimp only at hSw); go_simp <;> with_reducible rfl
        simp only [Act.put, List.setIfInBounds_toArray, List.set_cons_zero, List.set_cons_succ]
        refine held_take (i := 3) (d := (some 23)) (v := ?_) rfl rfl (by kernel_rfl) (by kernel_rfl) (by kernel_rfl) (fun _ _ _ h => h) (by rfl) ?_ hS ?_
        rotate_left
        · intro w' hSw; (try dsimp only at hSw); go_simp <;> with_reducible rfl
        simp only [Act.put, List.setIfInBounds_toArray, List.set_cons_zero, List.set_cons_succ]
        refine held_take (i := 4) (d := (some 24)) (v := ?_) rfl rfl (by kernel_rfl) (by kernel_rfl) (by kernel_rfl) (fun _ _ _ h => h) (by rfl) ?_ hS ?_
        rotate_left
        · intro w' hSw; (try dsimp only at hSw); go_simp <;> with_reducible rfl
        simp only [Act.put, List.setIfInBounds_toArray, List.set_cons_zero, List.set_cons_succ]
        refine held_take (i := 5) (d := (some 25)) (v := ?_) rfl rfl (by kernel_rfl) (by kernel_rfl) (by kernel_rfl) (fun _ _ _ h => h) (by rfl) ?_ hS ?_
        rotate_left
        · intro w' hSw; (try dsimp only at hSw); go_simp <;> with_reducible rfl
        simp only [Act.put, List.setIfInBounds_toArray, List.set_cons_zero, List.set_cons_succ]
        refine held_take (i := 6) (d := (some 26)) (v := ?_) rfl rfl (by kernel_rfl) (by kernel_rfl) (by kernel_rfl) (fun _ _ _ h => h) (by rfl) ?_ hS ?_
        rotate_left
        · intro w' hSw; (try dsimp only at hSw); go_simp <;> with_reducible rfl
        simp only [Act.put, List.setIfInBounds_toArray, List.set_cons_zero, List.set_cons_succ]
        refine held_one (i := 7) (by kernel_rfl) rfl (by rfl) ?_
        go_simp
        refine HO.out.mono ?_; rintro e w5 ⟨rfl, t5, k5⟩
        have T5 := Lib.hid t5
        have K5 := Lib.hid ((hS.2.out).trans (k5.weak (fun k h => .inl h)))
        have CC := fun (p : Addr) (hb : p.block < wr.heap.size) (hn : p.block ≠ gs) (hn2 : p.block ≠ w.heap.size + 1 + 1) => (World.cell?_of_block (w := wr) (w' := w5) (a := p) (K5.out.block p.block hb (fun h => h.elim hn hn2)))
        have hS : (w5.cell? ⟨w.heap.size, 0, none⟩ = some (.pointer (some ⟨g, 0, none⟩)) ∧ w5.cell? ⟨w.heap.size + 1, 0, none⟩ = some (.slice (some ⟨b, o, none⟩) l.length c) ∧ w5.cell? ⟨H, 0, none⟩ = some (.int .i64 (j : Int)) ∧ w5.cell? ⟨b, o + j * 3, none⟩ = some (.int .i64 qf)) ∧ Hid (Chg wr w5 (fun k => k = gs ∨ k = w.heap.size + 1 + 1)) :=
          ⟨⟨(CC ⟨w.heap.size, 0, none⟩ ZZ.out.1 ZZ.out.2.1 (by show w.heap.size ≠ w.heap.size + 1 + 1; omega)).trans cT, (CC ⟨w.heap.size + 1, 0, none⟩ ZZ.out.2.2.1 ZZ.out.2.2.2.1 (by show w.heap.size + 1 ≠ w.heap.size + 1 + 1; omega)).trans cL, (CC ⟨H, 0, none⟩ ZZ.out.2.2.2.2.1 ZZ.out.2.2.2.2.2.1 ZZ.out.2.2.2.2.2.2.1).trans cH, (CC ⟨b, o + j * 3, none⟩ ZZ.out.2.2.2.2.2.2.2.1 ZZ.out.2.2.2.2.2.2.2.2.1 ZZ.out.2.2.2.2.2.2.2.2.2).trans cF⟩, K5⟩
        refine ⟨hS, ?_⟩
        have BE5 := Lib.hid ((show Blk wr.drew (w.heap.size + 1 + 1) 28 #[.int .i64 0] from BE.out).chg k5 (by show ¬ (w.heap.size + 1 + 1 = gs); omega))
        have cE5 := BE5.out.cell 0
        have BT5 := Lib.hid ((show Blk wr.drew w.heap.size 79 #[.pointer (some ⟨g, 0, none⟩)] from ST.out.bt).chg k5 ZZ.out.2.1)
        have BL5 := Lib.hid ((show Blk wr.drew (w.heap.size + 1) 108 #[.slice (some ⟨b, o, none⟩) l.length c] from ST.out.bl).chg k5 ZZ.out.2.2.2.1)
        have BH5 := Lib.hid ((show Blk wr.drew H 3 #[.int .i64 (j : Int)] from ST.out.bh).chg k5 ZZ.out.2.2.2.2.2.1)
        have KK5 := Lib.hid (ST.out.chg.trans ((Chg.refl wr _).drew.trans k5))
        have fE5 := BE5.out.frozen 0
        clear t5 k5 CC
        (try simp only [Act.put, List.setIfInBounds_toArray, List.set_cons_zero, List.set_cons_succ])
        refine held_one (i := 8) (by kernel_rfl) rfl (by rfl) ?_
        go_simp
        refine ⟨Lib.hid (K5.out.trans ((KE.out w5 (.int .i64 ev)).weak (fun k h => .inr h))), ?_⟩
        (try simp only [Act.put, List.setIfInBounds_toArray, List.set_cons_zero, List.set_cons_succ])
        refine wpAnyH_done (by kernel_rfl) ?_ _
        refine NoPanic.normal ?_
        clear hS ZZ
        by_cases he0 : ev = 0
        · subst he0
          have G2 := Lib.hid (GOK.out rfl)
          have b6 := BE5.out.put 0 (.int .i64 0)
          have h6 := BH5.out.far (p := ⟨w.heap.size + 1 + 1, 0, none⟩) nHE (.int .i64 0)
          have c6E : (w5.setCell ⟨w.heap.size + 1 + 1, 0, none⟩ (.int .i64 0)).cell? ⟨w.heap.size + 1 + 1, 0, none⟩ = some (.int .i64 0) := by rw [b6.cell]; rfl
          have c6H : (w5.setCell ⟨w.heap.size + 1 + 1, 0, none⟩ (.int .i64 0)).cell? ⟨H, 0, none⟩ = some (.int .i64 (j : Int)) := by rw [h6.cell]; rfl
          have f6H := h6.frozen 0
          have nE : ∀ i, (fun k => k = w.heap.size + 1 + 1) i → w.heap.size ≤ i := fun i (hi : i = w.heap.size + 1 + 1) => by omega
          have kH : Chg (w5.setCell ⟨w.heap.size + 1 + 1, 0, none⟩ (.int .i64 0)) ((w5.setCell ⟨w.heap.size + 1 + 1, 0, none⟩ (.int .i64 0)).setCell ⟨H, 0, none⟩ (.int .i64 ((j : Int) + 1))) (fun k => k = H) := Chg.set _ 0 _ rfl
          have ST2 := Lib.hid (show HoldSt w H gs g env ps (some ⟨b, o, none⟩) c l ((w5.setCell ⟨w.heap.size + 1 + 1, 0, none⟩ (.int .i64 0)).setCell ⟨H, 0, none⟩ (.int .i64 ((j : Int) + 1))) (j + 1) from
            ⟨(BT5.out.chg (KE.out w5 (.int .i64 0)) (by show ¬ w.heap.size = w.heap.size + 1 + 1; omega)).chg kH (by show ¬ w.heap.size = H; omega),
             (BL5.out.chg (KE.out w5 (.int .i64 0)) (by show ¬ w.heap.size + 1 = w.heap.size + 1 + 1; omega)).chg kH (by show ¬ w.heap.size + 1 = H; omega),
             (show Blk _ _ _ #[.int .i64 0] from b6).chg kH (by show ¬ w.heap.size + 1 + 1 = H; omega),
             by have := h6.put 0 (.int .i64 ((j : Int) + 1)); simpa using this,
             (T5.out.chg (KE.out w5 (.int .i64 0)) (by show ¬ gs = w.heap.size + 1 + 1; omega) (by show ¬ g = w.heap.size + 1 + 1; omega)).chg kH (by show ¬ gs = H; omega) (by show ¬ g = H; omega),
             G2.out, chg_new (chg_new KK5.out (KE.out w5 (.int .i64 0)) nE) kH (fun i (hi : i = H) => by omega)⟩)
          have c7H : ((w5.setCell ⟨w.heap.size + 1 + 1, 0, none⟩ (.int .i64 0)).setCell ⟨H, 0, none⟩ (.int .i64 ((j : Int) + 1))).cell? ⟨H, 0, none⟩ = some (.int .i64 ((j : Int) + 1)) := by rw [ST2.out.bh.cell]; simp
          have C7 := Lib.hid c7H
          have CH := Lib.hid cH
          clear b6 h6 nE kH c7H
          go_wp2
          refine ⟨⟨j + 1, by omega, ST2⟩, ?_⟩
          rw [C7.out, CH.out]
          simp [intOf]
          omega
        · have hv : (ev == 0) = false := by simpa using he0
          have b6 := BE5.out.put 0 (.int .i64 ev)
          have b7 := b6.put 0 (.int .i64 ev)
          have c6E : (w5.setCell ⟨w.heap.size + 1 + 1, 0, none⟩ (.int .i64 ev)).cell? ⟨w.heap.size + 1 + 1, 0, none⟩ = some (.int .i64 ev) := by rw [b6.cell]; rfl
          have c7E : ((w5.setCell ⟨w.heap.size + 1 + 1, 0, none⟩ (.int .i64 ev)).setCell ⟨w.heap.size + 1 + 1, 0, none⟩ (.int .i64 ev)).cell? ⟨w.heap.size + 1 + 1, 0, none⟩ = some (.int .i64 ev) := by rw [b7.cell]; rfl
          have f6E := b6.frozen 0
          have nE : ∀ i, (fun k => k = w.heap.size + 1 + 1) i → w.heap.size ≤ i := fun i (hi : i = w.heap.size + 1 + 1) => by omega
          have k7 := (KE.out w5 (.int .i64 ev)).trans (KE.out _ (.int .i64 ev))
          have K7 := Lib.hid (chg_new KK5.out k7 nE)
          have bt7 := BT5.out.chg k7 (by show ¬ w.heap.size = w.heap.size + 1 + 1; omega)
          have bl7 := BL5.out.chg k7 (by show ¬ w.heap.size + 1 = w.heap.size + 1 + 1; omega)
          have bh7 := BH5.out.chg k7 nHE
          have t7 := T5.out.chg k7 (by show ¬ gs = w.heap.size + 1 + 1; omega) (by show ¬ g = w.heap.size + 1 + 1; omega)
          rw [HQ.out he0] at t7
          have UN := Lib.hid (undo_yes t7 (w.heap.size + 1 + 1) w.heap.size (w.heap.size + 1) H .returning ev he0 (some ⟨b, o, none⟩) c l j (by omega) hc c7E (by rw [bt7.cell]; rfl) (by rw [bl7.cell]; rfl) (by rw [bh7.cell]; rfl) (P.out.chg K7.out (fun b o e h => HA.out b o e h)) HA.out (fun x h => by cases h; rfl) bt7.lt bl7.lt bh7.lt (by omega) (by omega) nHg hmax)
          rw [HBK.out] at UN
          have C7 := Lib.hid c7E
          have L7 := Lib.hid b7.lt
          clear b6 b7 nE k7 bt7 bl7 bh7 t7 c7E
          go_wp2
          simp only [bodyPostD]
          refine leaves_cons (f := 139) (args := #[.pointer (some ⟨w.heap.size + 1 + 1, 0, none⟩), .pointer (some ⟨w.heap.size, 0, none⟩), .pointer (some ⟨w.heap.size + 1, 0, none⟩), .pointer (some ⟨H, 0, none⟩)]) (by simp) (by simp [go_sem]) ?_
          refine UN.out.mono ?_
          rintro e u' w8 ⟨rfl, rfl, t8, k8⟩
          show Leaves _ _ _ _ [] .returning w8
          have c8 : w8.cell? ⟨w.heap.size + 1 + 1, 0, none⟩ = some (.int .i64 ev) := (World.cell?_of_block (w := ((w5.setCell ⟨w.heap.size + 1 + 1, 0, none⟩ (.int .i64 ev)).setCell ⟨w.heap.size + 1 + 1, 0, none⟩ (.int .i64 ev))) (w' := w8) (a := ⟨w.heap.size + 1 + 1, 0, none⟩) (k8.block _ L7.out (by show ¬ w.heap.size + 1 + 1 = gs; omega))).trans C7.out
          refine door _ (w.heap.size + 1 + 1) (.int .i64 ev) _ _ rfl c8 ?_
          rw [BADK.out he0]
          exact ⟨rfl, t8, K7.out.trans k8⟩
      · have hge : ¬ (j : Int) < (l.length : Int) := by omega
        obtain rfl : j = l.length := by omega
        have ER := Lib.hid (show holdG ps env l = (holdN ps env l, 0) by
          unfold holdG
          rw [if_pos (check_ok HF.out (fun p hp => by
            obtain ⟨x, hx, rfl⟩ := List.mem_iff_getElem.1 hp
            exact ST.out.ok x hx hx))])
        have t1 := ST.out.tab
        rw [List.take_length] at t1
        have nE : ∀ i, (fun k => k = w.heap.size + 1 + 1) i → w.heap.size ≤ i := fun i (hi : i = w.heap.size + 1 + 1) => by omega
        have T7 := Lib.hid (t1.chg (KE.out wr (.int .i64 0)) (by show ¬ gs = w.heap.size + 1 + 1; omega) (by show ¬ g = w.heap.size + 1 + 1; omega))
        have K7 := Lib.hid (chg_new ST.out.chg (KE.out wr (.int .i64 0)) nE)
        have c7 : (wr.setCell ⟨w.heap.size + 1 + 1, 0, none⟩ (.int .i64 0)).cell? ⟨w.heap.size + 1 + 1, 0, none⟩ = some (.int .i64 0) := by rw [(ST.out.be.put 0 (.int .i64 0)).cell]; rfl
        have C7 := Lib.hid c7
        have UN := Lib.hid (undo_no (w.heap.size + 1 + 1) w.heap.size (w.heap.size + 1) H .returning _ c7)
        clear t1 nE c7
        go_wp2
        simp only [bodyPostD]
        refine leaves_cons (f := 139) (args := #[.pointer (some ⟨w.heap.size + 1 + 1, 0, none⟩), .pointer (some ⟨w.heap.size, 0, none⟩), .pointer (some ⟨w.heap.size + 1, 0, none⟩), .pointer (some ⟨H, 0, none⟩)]) (by simp) (by simp [go_sem]) ?_
        refine UN.out.mono ?_
        rintro e u' w8 ⟨rfl, rfl, rfl⟩
        show Leaves _ _ _ _ [] .returning _
        refine door _ (w.heap.size + 1 + 1) (.int .i64 0) _ _ rfl C7.out ?_
        rw [ER.out]
        exact ⟨rfl, T7.out, K7.out⟩
  · have hv : (fitsR ps.length env l == 0) = false := by simpa using hf
    have ER := Lib.hid (show holdG ps env l = (ps, fitsR ps.length env l) by
      have e : checkR ps env l = fitsR ps.length env l := by unfold checkR; rw [if_neg hf]
      unfold holdG; rw [e, if_neg hf])
    generalize fitsR ps.length env l = fv at *
    have BE2 := (BE1.out.put 0 (.int .i64 fv)).put 0 (.int .i64 fv)
    have c2 := BE2.cell 0
    have cE2 := (BE1.out.put 0 (.int .i64 fv)).cell 0
    have fE2 := (BE1.out.put 0 (.int .i64 fv)).frozen 0
    have B3 := Lib.hid ((B1.out.trans (((KE.out w1 (.int .i64 fv)).below (B := w.heap.size) (by omega) (fun i (hi : i = w.heap.size + 1 + 1) => by omega)))).trans ((KE.out _ (.int .i64 fv)).below (B := w.heap.size) (by simp [World.setCell]; omega) (fun i (hi : i = w.heap.size + 1 + 1) => by omega)))
    clear hf BE2
    go_wp2
    simp only [bodyPostD]
    refine door _ (w.heap.size + 1 + 1) (.int .i64 fv) _ _ rfl c2 ?_
    rw [ER.out]
    exact ⟨rfl, T.out.new B3.out, Chg.of_new B3.out _⟩
end
end Go.Proofs.YtefnkednnnlhoaaGreatDoor
