/- Package gather: Hold takes its holds back by a deferred step. Conditions: those that each states. -/
import Derived.Test.YtbkjjakkihbcdaaGreatMAE
import Derived.Test.YtbkjjakkihbcdaaGreatMAA
import Derived.Defers
import Derived.RegionTactic
import Derived.BigRegion
import Derived.WalkMore
import Derived.StillTailTactics
import Derived.Deep.QuietTactic
import Derived.BigQuiet
import Derived.Deep.OwnRows
import Derived.Deep.AppendLies
import Derived.Deep.RegionWith
import Derived.Deep.RegionHeld3
import Derived.Deep.RegionLaw
import Derived.Deep.DeepCutAuto
import Derived.Deep.CutBlock
namespace Go.Proofs.YtbkjjakkihbcdaaGreat
open Go.ChangeShapes Go.WideShapes Go.ChangeAt Go.RowKit Go.Deep Fr
set_option linter.unusedVariables false

theorem run_front (A : Option Addr) (c n k : Nat) (h0 : ∀ x, A = some x → x.spot = none) (hk : k ≤ n) (hn : n ≤ c) (W : World) :
  (Instr.slice 43 (.slice A n c) none (some (.int .i64 (k : Int))) none).run Tryz.prog W = .ok (.slice A k c) W := by
 have ht : Tryz.prog.underlying 43 = some (.slice (Tryz.prog.elem 43)) := by kernel_rfl
 have he : (Tryz.prog.info? (Tryz.prog.elem 43)).map (·.size) = some 3 := by kernel_rfl
 obtain ⟨i, hi, hs⟩ := Option.map_eq_some_iff.1 he
 rw [run_slice_h W 43 A n c ht .i64 (k : Int) (by omega) (by omega)]
 have hz : (sizeOf (Tryz.prog.elem 43)).run Tryz.prog W = .ok i.size W := by simp [sizeOf, typeInfo, hi]
 rw [hz]
 simp only [Result.andThen_ok, sliced]
 cases A with
 | none => simp
 | some x =>
  obtain ⟨b, o, sp⟩ := x
  have e := h0 _ rfl
  dsimp only at e
  subst e
  have ea : (⟨b, o, none⟩ : Addr).add 0 = ⟨b, o, none⟩ := by unfold Addr.add; split <;> simp_all
  simp [ea]
set_option maxRecDepth 100000 in
theorem undo_no (E T L H : Nat) (u : FrameMode) (w : World) (hE : w.cell? ⟨E, 0, none⟩ = some (.int .i64 0)) :
  CallsD Tryz.prog 101 #[.pointer (some ⟨E, 0, none⟩), .pointer (some ⟨T, 0, none⟩), .pointer (some ⟨L, 0, none⟩), .pointer (some ⟨H, 0, none⟩)] u w fun e u' w' => u' = u ∧ (e = .returned (.tuple #[]) ∧ w' = w) := by
 go_enter_d Tryz.func101, Tryz.ntmps101
 go_wp2
 go_end0
 exact ⟨rfl, rfl⟩

theorem exec_slice {P : Program} {a : Act} {o : Oper} {t : TypeId} {s h : Operand} (ho : o.op = .slice t s none (some h) none) {x y v : Value} (hx : a.eval s = x) (hy : a.eval h = y) {w : World} (hr : (Instr.sliceAt t x none (some y) none).run P w = .ok v w) : (execOp a.eval o).run P w = .ok (.value v) w := by
 unfold execOp
 simp only [ho, hx, hy, Option.map_none, Option.map_some, Sem.run_bind, hr, Result.andThen_ok, Sem.run_pure]
section
variable {gs g : Nat} {ps : List Pg} {w : World}
set_option maxRecDepth 100000 in
set_option maxHeartbeats 1000000 in
theorem undo_yes (h : Tab w gs g ps) (E T L H : Nat) (u : FrameMode) (ev : Int) (hv : ev ≠ 0) (A : Option Addr) (c : Nat) (l : List Pc) (j : Nat) (hj : j ≤ l.length) (hc : l.length ≤ c)
  (hE : w.cell? ⟨E, 0, none⟩ = some (.int .i64 ev)) (hT : w.cell? ⟨T, 0, none⟩ = some (.pointer (some ⟨g, 0, none⟩))) (hL : w.cell? ⟨L, 0, none⟩ = some (.slice A l.length c)) (hH : w.cell? ⟨H, 0, none⟩ = some (.int .i64 (j : Int)))
  (hp : Pcs w A l) (hA : ∀ b o, A = some ⟨b, o, none⟩ → b ≠ gs) (hs : ∀ x, A = some x → x.spot = none) (lT : T < w.heap.size) (lL : L < w.heap.size) (lH : H < w.heap.size) (nT : T ≠ gs) (nL : L ≠ gs) (nH : H ≠ gs) (hmax : l.length ≤ 1000000) :
  CallsD Tryz.prog 101 #[.pointer (some ⟨E, 0, none⟩), .pointer (some ⟨T, 0, none⟩), .pointer (some ⟨L, 0, none⟩), .pointer (some ⟨H, 0, none⟩)] u w fun e u' w' => u' = u ∧ (e = .returned (.tuple #[]) ∧ Tab w' gs g (dropG ps (l.take j)).1 ∧ Chg w w' (fun k => k = gs)) := by
 have SL := Lib.hid (fun W => (run_sliceAt_slice (P := Tryz.prog) (w := W) 43 (.slice A l.length c) none (some (.int .i64 (j : Int))) none (by kernel_rfl)).trans (run_front A c l.length j hs hj hc W))
 have hpf : Pcs w.drew A (l.take j) := by
  intro i hi
  rw [List.length_take] at hi
  obtain ⟨b, o, e, hb, hr⟩ := hp i (by omega)
  rw [List.getElem_take]
  exact ⟨b, o, e, hb, hr⟩
 have dr := drop_list h.drew A c (l.take j) hpf hA (by rw [List.length_take]; omega)
 rw [List.length_take, Nat.min_eq_left hj] at dr
 have DR := Lib.hid dr
 have hv' : (ev == 0) = false := by simpa using hv
 clear hpf dr hp hA hv h
 go_enter_d Tryz.func101, Tryz.ntmps101
 go_upto_region 1 with fail
 refine wp_region_held_drew (S := fun w' => (w'.cell? ⟨T, 0, none⟩ = some (.pointer (some ⟨g, 0, none⟩)) ∧ w'.cell? ⟨L, 0, none⟩ = some (.slice A l.length c) ∧ w'.cell? ⟨H, 0, none⟩ = some (.int .i64 (j : Int))) ∧ Hid (Chg w w' (fun k => k = gs))) (by kernel_rfl) (⟨⟨hT, hL, hH⟩, Lib.hid ((Chg.refl w _).drew)⟩) (fun hS => ?_)
 refine ht 0 (some 6) (v := ?_) rfl rfl ?_ hS ?_
 rotate_left
 ·intro w' hSw; go_simp <;> with_reducible rfl
 refine ht 1 (some 7) (v := ?_) rfl rfl ?_ hS ?_
 rotate_left
 ·intro w' hSw; go_simp <;> with_reducible rfl
 simp only [Act.put, List.setIfInBounds_toArray, List.set_cons_zero, List.set_cons_succ]
 refine ht 2 (some 8) (v := ?_) rfl rfl ?_ hS ?_
 rotate_left
 ·intro w' hSw; go_simp <;> with_reducible rfl
 refine ht 3 (some 9) (v := (.slice A j c)) rfl rfl (fun w' _ => exec_slice (x := .slice A l.length c) (y := .int .i64 (j : Int)) rfl rfl rfl (SL.out w')) hS ?_
 simp only [Act.put, List.setIfInBounds_toArray, List.set_cons_zero, List.set_cons_succ]
 refine held_one (i := 4) (by kernel_rfl) rfl (by rfl) ?_
 go_simp
 refine DR.out.mono ?_; rintro e w5 ⟨rfl, t5, k5⟩
 have T5 := Lib.hid t5
 have K5 := Lib.hid ((hS.2.out).trans k5)
 have CC := fun (p : Addr) (hb : p.block < w.heap.size) (hn : p.block ≠ gs) => (World.cell?_of_block (w := w) (w' := w5) (a := p) (K5.out.block p.block hb hn))
 refine ⟨⟨⟨(CC ⟨T, 0, none⟩ lT nT).trans hT, (CC ⟨L, 0, none⟩ lL nL).trans hL, (CC ⟨H, 0, none⟩ lH nH).trans hH⟩, K5⟩, ?_⟩
 clear t5 k5 CC
 (try simp only [Act.put, List.setIfInBounds_toArray, List.set_cons_zero, List.set_cons_succ])
 refine wpAnyH_done (by kernel_rfl) ?_ _
 clear hS
 go_wp2
 go_end0
 exact ⟨rfl, T5.out, K5.out⟩
end

theorem holdR_2 (ps : List Pg) (env f : Int) : (Fr.holdR ps env f).2 = ownErr ps env f := by
 unfold Fr.holdR
 split
 ·rename_i h; rw [h]
 ·rfl
structure HoldSt (w : World) (H gs g : Nat) (env : Int) (ps : List Pg) (A : Option Addr) (c : Nat) (l : List Pc) (wr : World) (j : Nat) : Prop where
 bt : Blk wr w.heap.size 58 #[.pointer (some ⟨g, 0, none⟩)]
 bl : Blk wr (w.heap.size + 1) 43 #[.slice A l.length c]
 be : Blk wr (w.heap.size + 1 + 1) 26 #[.int .i64 0]
 bh : Blk wr H 3 #[.int .i64 (j : Int)]
 tab : Tab wr gs g (holdN ps env (l.take j))
 ok : ∀ x (hx : x < l.length), x < j → ownErr ps env l[x].frame = 0
 chg : Chg w wr (fun k => k = gs)
theorem chg_new {w w' w2 : World} {S S' : Nat → Prop} (h : Chg w w' S) (k : Chg w' w2 S') (hS : ∀ i, S' i → w.heap.size ≤ i) : Chg w w2 S :=
 ⟨k.os.trans h.os, k.tape.trans h.tape, k.output.trans h.output, Nat.le_trans h.size k.size, fun i hi hn => (k.block i (Nat.lt_of_lt_of_le hi h.size) (fun s => absurd (hS i s) (by omega))).trans (h.block i hi hn)⟩
theorem check_ok {ps : List Pg} {env : Int} {l : List Pc} (hf : fitsR ps.length env l = 0) (h : ∀ p ∈ l, ownErr ps env p.frame = 0) : checkR ps env l = 0 := by
 unfold checkR
 rw [if_pos hf, if_pos]
 intro p hp
 obtain ⟨k, hk, ek, _, ho⟩ := ownErr_zero (h p hp)
 rw [ek, pg_at hk]
 exact ho
theorem check_bad {ps : List Pg} {env : Int} {l : List Pc} (hf : fitsR ps.length env l = 0) {p : Pc} (hp : p ∈ l) (h : ownErr ps env p.frame ≠ 0) : checkR ps env l = ownErr ps env p.frame := by
 obtain ⟨he, _, hall, _⟩ := fits_of_zero hf
 obtain ⟨_, _, h3, h4⟩ := hall p hp
 rw [owner_ownErr he ⟨h3, h4⟩] at h ⊢
 by_cases ho : ((pg ps p.frame).owner : Int) = env
 ·rw [if_pos ho] at h; exact absurd rfl h
 ·rw [if_neg ho]
  unfold checkR
  rw [if_pos hf, if_neg (fun h5 => ho (h5 p hp))]
theorem door (tmps : Array Value) (E : Nat) (v : Value) (W : World) (R : Ending → World → Prop) (h6 : tmps.getD 6 undef = .pointer (some ⟨E, 0, none⟩)) (hc : W.cell? ⟨E, 0, none⟩ = some v) (hR : R (.returned v) W) :
  Leaves Tryz.prog Tryz.f77 tmps R [] .returning W := by
 have h6' : tmps[6]?.getD undef = .pointer (some ⟨E, 0, none⟩) := by simpa using h6
 refine ⟨v, ?_, hR⟩
 simp [results, Tryz.results77, go_sem, h6', hc]
section
variable {gs g : Nat} {ps : List Pg} {w : World}
set_option maxRecDepth 100000 in
set_option maxHeartbeats 4000000 in
theorem hold_list (h : Tab w gs g ps) (env : Int) (A : Option Addr) (c : Nat) (l : List Pc) (hp : Pcs w A l) (hok : ∀ p ∈ l, p.Ok) (hA : ∀ b o, A = some ⟨b, o, none⟩ → b ≠ gs) (hc : l.length ≤ c) (hm : ∀ p ∈ ps, p.holds + 16 < 1000000) (hmax : l.length ≤ 1000000) :
  Calls Tryz.prog 77 #[.pointer (some ⟨g, 0, none⟩), .int .i64 env, .slice A l.length c] w fun e w' => e = .returned (.int .i64 (holdG ps env l).2) ∧ Tab w' gs g (holdG ps env l).1 ∧ Chg w w' (fun k => k = gs) := by
 have T := Lib.hid h
 have P := Lib.hid hp
 have HA := Lib.hid hA
 have HM := Lib.hid hm
 have n2 := h.n2
 have hgl : gs < w.heap.size := h.blk
 have hb0 := (((Below.refl w.heap.size w).alloc (Nat.le_refl _) (.cells #[.pointer (some ⟨g, 0, none⟩)] 58)).alloc (by simp) (.cells #[.slice A l.length c] 43)).alloc (by simp; omega) (.cells #[.int .i64 0] 26)
 have hT0 := ((Blk.new w 58 #[.pointer (some ⟨g, 0, none⟩)]).alloc (.cells #[.slice A l.length c] 43)).alloc (.cells #[.int .i64 0] 26)
 have hL0 := (Blk.new (w.alloc (.cells #[.pointer (some ⟨g, 0, none⟩)] 58)) 43 #[.slice A l.length c]).alloc (.cells #[.int .i64 0] 26)
 have hE0 := Blk.new ((w.alloc (.cells #[.pointer (some ⟨g, 0, none⟩)] 58)).alloc (.cells #[.slice A l.length c] 43)) 26 #[.int .i64 0]
 simp only [World.size_alloc] at hL0 hE0
 generalize hW0 : ((w.alloc (.cells #[.pointer (some ⟨g, 0, none⟩)] 58)).alloc (.cells #[.slice A l.length c] 43)).alloc (.cells #[.int .i64 0] 26) = W0 at *
 have HW0 := Lib.hid hW0
 have FI := Lib.hid (fits_any (h.new hb0) env A c l (hp.new hb0) hok hmax)
 have B0 := Lib.hid hb0
 have BT0 := Lib.hid hT0
 have BL0 := Lib.hid hL0
 have BE0 := Lib.hid hE0
 clear hp hok hA hm h hb0 hT0 hL0 hE0 hW0
 go_enter_defers Tryz.func77, Tryz.ntmps77
 go_wp2_with fail
 rw [HW0.out]
 refine FI.out.mono ?_; rintro e w1 ⟨rfl, b1⟩
 have BT1 := BT0.out.older (older_below b1)
 have BL1 := BL0.out.older (older_below b1)
 have BE1 := BE0.out.older (older_below b1)
 have cE1 := BE1.cell 0
 have fE1 := BE1.frozen 0
 have B1 := Lib.hid (B0.out.trans (b1.mono B0.out.size))
 have hz : w.heap.size + 1 + 1 < w1.heap.size := BE1.lt
 have ke : ∀ (W : World) v, Chg W (W.setCell ⟨w.heap.size + 1 + 1, 0, none⟩ v) (fun k => k = w.heap.size + 1 + 1) := fun W v => Chg.set W 0 v rfl
 have KE := Lib.hid ke
 have BT1 := Lib.hid BT1
 have BL1 := Lib.hid BL1
 have BE1 := Lib.hid BE1
 clear ke b1 B0 BT0 BL0 BE0 HW0 FI
 by_cases hf : fitsR ps.length env l = 0
 ·rw [hf]
  have hmf : ∀ (fn : Fn) (first cap : Array Value) (w : World), (Instr.makeFunc fn first cap).run Tryz.prog w = .ok (.func fn first cap) w := fun _ _ _ _ => rfl
  have hH := BE1.out.lt
  have hBE2 := (BE1.out.put 0 (.int .i64 0)).alloc (.cells #[.int .i64 0] 3)
  have hBT2 := (BT1.out.far (p := ⟨w.heap.size + 1 + 1, 0, none⟩) (by show w.heap.size ≠ w.heap.size + 1 + 1; omega) (.int .i64 0)).alloc (.cells #[.int .i64 0] 3)
  have hBL2 := (BL1.out.far (p := ⟨w.heap.size + 1 + 1, 0, none⟩) (by show w.heap.size + 1 ≠ w.heap.size + 1 + 1; omega) (.int .i64 0)).alloc (.cells #[.int .i64 0] 3)
  have hBH2 : Blk ((w1.setCell ⟨w.heap.size + 1 + 1, 0, none⟩ (.int .i64 0)).alloc (.cells #[.int .i64 0] 3)) w1.heap.size 3 #[.int .i64 0] := by
   have := Blk.new (w1.setCell ⟨w.heap.size + 1 + 1, 0, none⟩ (.int .i64 0)) 3 #[.int .i64 0]
   simpa [World.setCell] using this
  have hb2 := (B1.out.trans (((KE.out w1 (.int .i64 0)).below (B := w.heap.size) (by omega) (fun i (hi : i = w.heap.size + 1 + 1) => by omega)))).alloc (by simp [World.setCell]; omega) (.cells #[.int .i64 0] 3)
  have ST0 := Lib.hid (show HoldSt w w1.heap.size gs g env ps A c l ((w1.setCell ⟨w.heap.size + 1 + 1, 0, none⟩ (.int .i64 0)).alloc (.cells #[.int .i64 0] 3)) 0 from
   ⟨hBT2, hBL2, by simpa using hBE2, hBH2, T.out.new hb2, fun x hx h => absurd h (by omega), Chg.of_new hb2 _⟩)
  obtain ⟨hE, hne, hall, hl16, _⟩ := fits_of_zero hf
  have ALL := Lib.hid (And.intro hE hall)
  have HF := Lib.hid hf
  have hgg : g < w.heap.size := T.out.head.lt
  clear hBE2 hBT2 hBL2 hBH2 hb2 hall hne hE hf
  go_wp2
  generalize w1.heap.size = H at *
  go_loopw [] (fun wx => ∃ (j : Nat), j ≤ l.length ∧ Hid (HoldSt w H gs g env ps A c l wx j)) (fun wx => l.length - (intOf ((wx.cell? ⟨H, 0, none⟩).getD undef)).toNat)
  case atStart => exact ⟨0, Nat.zero_le _, ST0⟩
  case round =>
   clear ST0 cE1 fE1 BT1 BL1 BE1 B1
   obtain ⟨j, hj, ST⟩ := hrel
   have cT := ST.out.bt.cell 0
   have cL := ST.out.bl.cell 0
   have cE := ST.out.be.cell 0
   have cH := ST.out.bh.cell 0
   have fE := ST.out.be.frozen 0
   have fH := ST.out.bh.frozen 0
   replace cT : wr.cell? ⟨w.heap.size, 0, none⟩ = some (.pointer (some ⟨g, 0, none⟩)) := cT
   replace cL : wr.cell? ⟨w.heap.size + 1, 0, none⟩ = some (.slice A l.length c) := cL
   replace cE : wr.cell? ⟨w.heap.size + 1 + 1, 0, none⟩ = some (.int .i64 0) := cE
   replace cH : wr.cell? ⟨H, 0, none⟩ = some (.int .i64 (j : Int)) := cH
   by_cases hlt : j < l.length
   ·have hlt' : (j : Int) < (l.length : Int) := by omega
    have j0 : (0 : Int) ≤ (j : Int) := by omega
    have xj := IntWalk.i64_in ((j : Int) + 1) (by omega)
    obtain ⟨b, o, rfl, hbl, hr⟩ := P.out j hlt
    have nb := HA.out b o rfl
    have cF : wr.cell? ⟨b, o + j * 3, none⟩ = some (.int .i64 l[j].frame) := (World.cell?_of_block (w := w) (w' := wr) (a := ⟨b, o + j * 3, none⟩) (ST.out.chg.block b hbl nb)).trans (hr 0 _ rfl)
    have hTur := holdN_turned (l.take j) (fun p hp => by
     obtain ⟨x, hx, rfl⟩ := List.mem_iff_getElem.1 hp
     rw [List.length_take] at hx
     rw [List.getElem_take]
     exact ST.out.ok x (by omega) (by omega)) (Turned.refl ps)
    have hmx := holdN_max (m := 1000000) (l := l.take j) (fun p hp => by
     obtain ⟨x, hx, rfl⟩ := List.mem_iff_getElem.1 hp
     rw [List.length_take] at hx
     rw [List.getElem_take]
     exact ST.out.ok x (by omega) (by omega)) (fun p hp => by have := HM.out p hp; rw [List.length_take]; omega)
    have ho := Fr.hold_any (ST.out.tab.drew) env l[j].frame hmx
    rw [holdR_2, ← holdN_succ hlt, hTur.ownErr] at ho
    have HO := Lib.hid ho
    have BE := Lib.hid ST.out.be
    have lT := ST.out.bt.lt
    have lL := ST.out.bl.lt
    have lH := ST.out.bh.lt
    have nHE : H ≠ w.heap.size + 1 + 1 := ST.out.bh.apart ST.out.be (by decide)
    have nHg : H ≠ gs := by omega
    have ZZ := Lib.hid (show w.heap.size < wr.heap.size ∧ w.heap.size ≠ gs ∧ w.heap.size + 1 < wr.heap.size ∧ w.heap.size + 1 ≠ gs ∧ H < wr.heap.size ∧ H ≠ gs ∧ H ≠ w.heap.size + 1 + 1 ∧ b < wr.heap.size ∧ b ≠ gs ∧ b ≠ w.heap.size + 1 + 1 from
     ⟨lT, by omega, lL, by omega, lH, nHg, nHE, by omega, nb, by omega⟩)
    have GOK := Lib.hid (show ownErr ps env l[j].frame = 0 → ∀ x (hx : x < l.length), x < j + 1 → ownErr ps env l[x].frame = 0 from fun h1 x hx h => by
     by_cases e : x = j
     ·subst e; exact h1
     ·exact ST.out.ok x hx (by omega))
    have BADK := Lib.hid (show ownErr ps env l[j].frame ≠ 0 → holdG ps env l = (ps, ownErr ps env l[j].frame) from fun h1 => by
     have e := check_bad HF.out (List.getElem_mem hlt) h1
     unfold holdG
     rw [e, if_neg h1])
    have HQ := Lib.hid (show ownErr ps env l[j].frame ≠ 0 → holdN ps env (l.take (j + 1)) = holdN ps env (l.take j) from fun h1 => by
     rw [holdN_succ hlt]
     unfold Fr.holdR
     rw [hTur.ownErr, if_neg h1])
    have HBK := Lib.hid (show dropG (holdN ps env (l.take j)) (l.take j) = (ps, 0) from dropG_holdN (fun p hp => by
     obtain ⟨x, hx, rfl⟩ := List.mem_iff_getElem.1 hp
     rw [List.length_take] at hx
     rw [List.getElem_take]
     exact ST.out.ok x (by omega) (by omega)))
    have HTU := Lib.hid hTur
    generalize hev : ownErr ps env l[j].frame = ev at *
    generalize l[j].frame = qf at *
    clear hr ho hmx hTur hev
    go_upto_region 7 with fail
    refine wp_region_noPanic ?_
    refine wp_region_held_drew (S := fun w' => (w'.cell? ⟨w.heap.size, 0, none⟩ = some (.pointer (some ⟨g, 0, none⟩)) ∧ w'.cell? ⟨w.heap.size + 1, 0, none⟩ = some (.slice (some ⟨b, o, none⟩) l.length c) ∧ w'.cell? ⟨H, 0, none⟩ = some (.int .i64 (j : Int)) ∧ w'.cell? ⟨b, o + j * 3, none⟩ = some (.int .i64 qf)) ∧ Hid (Chg wr w' (fun k => k = gs ∨ k = w.heap.size + 1 + 1))) (by kernel_rfl) (⟨⟨cT, cL, cH, cF⟩, Lib.hid ((Chg.refl wr _).drew)⟩) (fun hS => ?_)
    refine ht 0 (some 20) (v := ?_) rfl rfl ?_ hS ?_
    rotate_left
    ·intro w' hSw; go_simp <;> with_reducible rfl
    refine ht 1 (some 21) (v := ?_) rfl rfl ?_ hS ?_
    rotate_left
    ·intro w' hSw; go_simp <;> with_reducible rfl
    simp only [Act.put, List.setIfInBounds_toArray, List.set_cons_zero, List.set_cons_succ]
    refine ht 2 (some 22) (v := ?_) rfl rfl ?_ hS ?_
    rotate_left
    ·intro w' hSw; go_simp <;> with_reducible rfl
    refine ht 3 (some 23) (v := ?_) rfl rfl ?_ hS ?_
    rotate_left
    ·intro w' hSw; go_simp <;> with_reducible rfl
    simp only [Act.put, List.setIfInBounds_toArray, List.set_cons_zero, List.set_cons_succ]
    refine ht 4 (some 24) (v := ?_) rfl rfl ?_ hS ?_
    rotate_left
    ·intro w' hSw; go_simp <;> with_reducible rfl
    refine ht 5 (some 25) (v := ?_) rfl rfl ?_ hS ?_
    rotate_left
    ·intro w' hSw; go_simp <;> with_reducible rfl
    simp only [Act.put, List.setIfInBounds_toArray, List.set_cons_zero, List.set_cons_succ]
    refine ht 6 (some 26) (v := ?_) rfl rfl ?_ hS ?_
    rotate_left
    ·intro w' hSw; go_simp <;> with_reducible rfl
    simp only [Act.put, List.setIfInBounds_toArray, List.set_cons_zero, List.set_cons_succ]
    refine held_one (i := 7) (by kernel_rfl) rfl (by rfl) ?_
    go_simp
    refine HO.out.mono ?_; rintro e w5 ⟨rfl, t5, k5⟩
    have T5 := Lib.hid t5
    have K5 := Lib.hid ((hS.2.out).trans (k5.weak (fun k h => .inl h)))
    have CC := fun (p : Addr) (hb : p.block < wr.heap.size) (hn : p.block ≠ gs) (hn2 : p.block ≠ w.heap.size + 1 + 1) => (World.cell?_of_block (w := wr) (w' := w5) (a := p) (K5.out.block p.block hb (fun h => h.elim hn hn2)))
    have hS : (w5.cell? ⟨w.heap.size, 0, none⟩ = some (.pointer (some ⟨g, 0, none⟩)) ∧ w5.cell? ⟨w.heap.size + 1, 0, none⟩ = some (.slice (some ⟨b, o, none⟩) l.length c) ∧ w5.cell? ⟨H, 0, none⟩ = some (.int .i64 (j : Int)) ∧ w5.cell? ⟨b, o + j * 3, none⟩ = some (.int .i64 qf)) ∧ Hid (Chg wr w5 (fun k => k = gs ∨ k = w.heap.size + 1 + 1)) :=
     ⟨⟨(CC ⟨w.heap.size, 0, none⟩ ZZ.out.1 ZZ.out.2.1 (by show w.heap.size ≠ w.heap.size + 1 + 1; omega)).trans cT, (CC ⟨w.heap.size + 1, 0, none⟩ ZZ.out.2.2.1 ZZ.out.2.2.2.1 (by show w.heap.size + 1 ≠ w.heap.size + 1 + 1; omega)).trans cL, (CC ⟨H, 0, none⟩ ZZ.out.2.2.2.2.1 ZZ.out.2.2.2.2.2.1 ZZ.out.2.2.2.2.2.2.1).trans cH, (CC ⟨b, o + j * 3, none⟩ ZZ.out.2.2.2.2.2.2.2.1 ZZ.out.2.2.2.2.2.2.2.2.1 ZZ.out.2.2.2.2.2.2.2.2.2).trans cF⟩, K5⟩
    refine ⟨hS, ?_⟩
    have BE5 := Lib.hid ((show Blk wr.drew (w.heap.size + 1 + 1) 26 #[.int .i64 0] from BE.out).chg k5 (by show ¬ (w.heap.size + 1 + 1 = gs); omega))
    have cE5 := BE5.out.cell 0
    have BT5 := Lib.hid ((show Blk wr.drew w.heap.size 58 #[.pointer (some ⟨g, 0, none⟩)] from ST.out.bt).chg k5 ZZ.out.2.1)
    have BL5 := Lib.hid ((show Blk wr.drew (w.heap.size + 1) 43 #[.slice (some ⟨b, o, none⟩) l.length c] from ST.out.bl).chg k5 ZZ.out.2.2.2.1)
    have BH5 := Lib.hid ((show Blk wr.drew H 3 #[.int .i64 (j : Int)] from ST.out.bh).chg k5 ZZ.out.2.2.2.2.2.1)
    have KK5 := Lib.hid (ST.out.chg.trans ((Chg.refl wr _).drew.trans k5))
    have fE5 := BE5.out.frozen 0
    clear t5 k5 CC
    (try simp only [Act.put, List.setIfInBounds_toArray, List.set_cons_zero, List.set_cons_succ])
    refine held_one (i := 8) (by kernel_rfl) rfl (by rfl) ?_
    go_simp
    refine ⟨Lib.hid (K5.out.trans ((KE.out w5 (.int .i64 ev)).weak (fun k h => .inr h))), ?_⟩
    (try simp only [Act.put, List.setIfInBounds_toArray, List.set_cons_zero, List.set_cons_succ])
    refine wpAnyH_done (by kernel_rfl) ?_ _
    refine NoPanic.normal ?_
    clear hS ZZ
    by_cases he0 : ev = 0
    ·subst he0
     have G2 := Lib.hid (GOK.out rfl)
     have b6 := BE5.out.put 0 (.int .i64 0)
     have h6 := BH5.out.far (p := ⟨w.heap.size + 1 + 1, 0, none⟩) nHE (.int .i64 0)
     have c6E : (w5.setCell ⟨w.heap.size + 1 + 1, 0, none⟩ (.int .i64 0)).cell? ⟨w.heap.size + 1 + 1, 0, none⟩ = some (.int .i64 0) := by rw [b6.cell]; rfl
     have c6H : (w5.setCell ⟨w.heap.size + 1 + 1, 0, none⟩ (.int .i64 0)).cell? ⟨H, 0, none⟩ = some (.int .i64 (j : Int)) := by rw [h6.cell]; rfl
     have f6H := h6.frozen 0
     have nE : ∀ i, (fun k => k = w.heap.size + 1 + 1) i → w.heap.size ≤ i := fun i (hi : i = w.heap.size + 1 + 1) => by omega
     have kH : Chg (w5.setCell ⟨w.heap.size + 1 + 1, 0, none⟩ (.int .i64 0)) ((w5.setCell ⟨w.heap.size + 1 + 1, 0, none⟩ (.int .i64 0)).setCell ⟨H, 0, none⟩ (.int .i64 ((j : Int) + 1))) (fun k => k = H) := Chg.set _ 0 _ rfl
     have ST2 := Lib.hid (show HoldSt w H gs g env ps (some ⟨b, o, none⟩) c l ((w5.setCell ⟨w.heap.size + 1 + 1, 0, none⟩ (.int .i64 0)).setCell ⟨H, 0, none⟩ (.int .i64 ((j : Int) + 1))) (j + 1) from
      ⟨(BT5.out.chg (KE.out w5 (.int .i64 0)) (by show ¬ w.heap.size = w.heap.size + 1 + 1; omega)).chg kH (by show ¬ w.heap.size = H; omega),
       (BL5.out.chg (KE.out w5 (.int .i64 0)) (by show ¬ w.heap.size + 1 = w.heap.size + 1 + 1; omega)).chg kH (by show ¬ w.heap.size + 1 = H; omega),
       (show Blk _ _ _ #[.int .i64 0] from b6).chg kH (by show ¬ w.heap.size + 1 + 1 = H; omega),
       by have := h6.put 0 (.int .i64 ((j : Int) + 1)); simpa using this,
       (T5.out.chg (KE.out w5 (.int .i64 0)) (by show ¬ gs = w.heap.size + 1 + 1; omega) (by show ¬ g = w.heap.size + 1 + 1; omega)).chg kH (by show ¬ gs = H; omega) (by show ¬ g = H; omega),
       G2.out, chg_new (chg_new KK5.out (KE.out w5 (.int .i64 0)) nE) kH (fun i (hi : i = H) => by omega)⟩)
     have c7H : ((w5.setCell ⟨w.heap.size + 1 + 1, 0, none⟩ (.int .i64 0)).setCell ⟨H, 0, none⟩ (.int .i64 ((j : Int) + 1))).cell? ⟨H, 0, none⟩ = some (.int .i64 ((j : Int) + 1)) := by rw [ST2.out.bh.cell]; simp
     have C7 := Lib.hid c7H
     have CH := Lib.hid cH
     clear b6 h6 nE kH c7H
     go_wp2
     refine ⟨⟨j + 1, by omega, ST2⟩, ?_⟩
     rw [C7.out, CH.out]
     simp [intOf]
     omega
    ·have hv : (ev == 0) = false := by simpa using he0
     have b6 := BE5.out.put 0 (.int .i64 ev)
     have b7 := b6.put 0 (.int .i64 ev)
     have c6E : (w5.setCell ⟨w.heap.size + 1 + 1, 0, none⟩ (.int .i64 ev)).cell? ⟨w.heap.size + 1 + 1, 0, none⟩ = some (.int .i64 ev) := by rw [b6.cell]; rfl
     have c7E : ((w5.setCell ⟨w.heap.size + 1 + 1, 0, none⟩ (.int .i64 ev)).setCell ⟨w.heap.size + 1 + 1, 0, none⟩ (.int .i64 ev)).cell? ⟨w.heap.size + 1 + 1, 0, none⟩ = some (.int .i64 ev) := by rw [b7.cell]; rfl
     have f6E := b6.frozen 0
     have nE : ∀ i, (fun k => k = w.heap.size + 1 + 1) i → w.heap.size ≤ i := fun i (hi : i = w.heap.size + 1 + 1) => by omega
     have k7 := (KE.out w5 (.int .i64 ev)).trans (KE.out _ (.int .i64 ev))
     have K7 := Lib.hid (chg_new KK5.out k7 nE)
     have bt7 := BT5.out.chg k7 (by show ¬ w.heap.size = w.heap.size + 1 + 1; omega)
     have bl7 := BL5.out.chg k7 (by show ¬ w.heap.size + 1 = w.heap.size + 1 + 1; omega)
     have bh7 := BH5.out.chg k7 nHE
     have t7 := T5.out.chg k7 (by show ¬ gs = w.heap.size + 1 + 1; omega) (by show ¬ g = w.heap.size + 1 + 1; omega)
     rw [HQ.out he0] at t7
     have UN := Lib.hid (undo_yes t7 (w.heap.size + 1 + 1) w.heap.size (w.heap.size + 1) H .returning ev he0 (some ⟨b, o, none⟩) c l j (by omega) hc c7E (by rw [bt7.cell]; rfl) (by rw [bl7.cell]; rfl) (by rw [bh7.cell]; rfl) (P.out.chg K7.out (fun b o e h => HA.out b o e h)) HA.out (fun x h => by cases h; rfl) bt7.lt bl7.lt bh7.lt (by omega) (by omega) nHg hmax)
     rw [HBK.out] at UN
     have C7 := Lib.hid c7E
     have L7 := Lib.hid b7.lt
     clear b6 b7 nE k7 bt7 bl7 bh7 t7 c7E
     go_wp2
     simp only [bodyPostD]
     refine leaves_cons (f := 101) (args := #[.pointer (some ⟨w.heap.size + 1 + 1, 0, none⟩), .pointer (some ⟨w.heap.size, 0, none⟩), .pointer (some ⟨w.heap.size + 1, 0, none⟩), .pointer (some ⟨H, 0, none⟩)]) (by simp) (by simp [go_sem]) ?_
     refine UN.out.mono ?_
     rintro e u' w8 ⟨rfl, rfl, t8, k8⟩
     show Leaves _ _ _ _ [] .returning w8
     have c8 : w8.cell? ⟨w.heap.size + 1 + 1, 0, none⟩ = some (.int .i64 ev) := (World.cell?_of_block (w := ((w5.setCell ⟨w.heap.size + 1 + 1, 0, none⟩ (.int .i64 ev)).setCell ⟨w.heap.size + 1 + 1, 0, none⟩ (.int .i64 ev))) (w' := w8) (a := ⟨w.heap.size + 1 + 1, 0, none⟩) (k8.block _ L7.out (by show ¬ w.heap.size + 1 + 1 = gs; omega))).trans C7.out
     refine door _ (w.heap.size + 1 + 1) (.int .i64 ev) _ _ rfl c8 ?_
     rw [BADK.out he0]
     exact ⟨rfl, t8, K7.out.trans k8⟩
   ·have hge : ¬ (j : Int) < (l.length : Int) := by omega
    obtain rfl : j = l.length := by omega
    have ER := Lib.hid (show holdG ps env l = (holdN ps env l, 0) by
     unfold holdG
     rw [if_pos (check_ok HF.out (fun p hp => by
      obtain ⟨x, hx, rfl⟩ := List.mem_iff_getElem.1 hp
      exact ST.out.ok x hx hx))])
    have t1 := ST.out.tab
    rw [List.take_length] at t1
    have nE : ∀ i, (fun k => k = w.heap.size + 1 + 1) i → w.heap.size ≤ i := fun i (hi : i = w.heap.size + 1 + 1) => by omega
    have T7 := Lib.hid (t1.chg (KE.out wr (.int .i64 0)) (by show ¬ gs = w.heap.size + 1 + 1; omega) (by show ¬ g = w.heap.size + 1 + 1; omega))
    have K7 := Lib.hid (chg_new ST.out.chg (KE.out wr (.int .i64 0)) nE)
    have c7 : (wr.setCell ⟨w.heap.size + 1 + 1, 0, none⟩ (.int .i64 0)).cell? ⟨w.heap.size + 1 + 1, 0, none⟩ = some (.int .i64 0) := by rw [(ST.out.be.put 0 (.int .i64 0)).cell]; rfl
    have C7 := Lib.hid c7
    have UN := Lib.hid (undo_no (w.heap.size + 1 + 1) w.heap.size (w.heap.size + 1) H .returning _ c7)
    clear t1 nE c7
    go_wp2
    simp only [bodyPostD]
    refine leaves_cons (f := 101) (args := #[.pointer (some ⟨w.heap.size + 1 + 1, 0, none⟩), .pointer (some ⟨w.heap.size, 0, none⟩), .pointer (some ⟨w.heap.size + 1, 0, none⟩), .pointer (some ⟨H, 0, none⟩)]) (by simp) (by simp [go_sem]) ?_
    refine UN.out.mono ?_
    rintro e u' w8 ⟨rfl, rfl, rfl⟩
    show Leaves _ _ _ _ [] .returning _
    refine door _ (w.heap.size + 1 + 1) (.int .i64 0) _ _ rfl C7.out ?_
    rw [ER.out]
    exact ⟨rfl, T7.out, K7.out⟩
 ·have hv : (fitsR ps.length env l == 0) = false := by simpa using hf
  have ER := Lib.hid (show holdG ps env l = (ps, fitsR ps.length env l) by
   have e : checkR ps env l = fitsR ps.length env l := by unfold checkR; rw [if_neg hf]
   unfold holdG; rw [e, if_neg hf])
  generalize fitsR ps.length env l = fv at *
  have BE2 := (BE1.out.put 0 (.int .i64 fv)).put 0 (.int .i64 fv)
  have c2 := BE2.cell 0
  have cE2 := (BE1.out.put 0 (.int .i64 fv)).cell 0
  have fE2 := (BE1.out.put 0 (.int .i64 fv)).frozen 0
  have B3 := Lib.hid ((B1.out.trans (((KE.out w1 (.int .i64 fv)).below (B := w.heap.size) (by omega) (fun i (hi : i = w.heap.size + 1 + 1) => by omega)))).trans ((KE.out _ (.int .i64 fv)).below (B := w.heap.size) (by simp [World.setCell]; omega) (fun i (hi : i = w.heap.size + 1 + 1) => by omega)))
  clear hf BE2
  go_wp2
  simp only [bodyPostD]
  refine door _ (w.heap.size + 1 + 1) (.int .i64 fv) _ _ rfl c2 ?_
  rw [ER.out]
  exact ⟨rfl, T.out.new B3.out, Chg.of_new B3.out _⟩
end
end Go.Proofs.YtbkjjakkihbcdaaGreat

/- A disk in plain words (blocks, owners, extents, the line of writes, power, arming), what each call does to it, and how it lies in memory. Conditions: those that each states. -/
namespace Go.Proofs.YtbkjjakkihbcdaaGreat
open Go.ChangeShapes Go.WideShapes Go.ChangeAt Go.RowKit Go.Deep Di
set_option linter.unusedVariables false

structure Wr where
 block : Nat
 text : List UInt8
structure Ex where
 env : Nat
 first : Nat
 n : Nat
def Ex.has (x : Ex) (b : Nat) : Prop := x.first ≤ b ∧ b < x.first + x.n
instance (x : Ex) (b : Nat) : Decidable (x.has b) := inferInstanceAs (Decidable (_ ∧ _))
structure Dk where
 blocks : List (List UInt8)
 owners : List Nat
 exts : List Ex
 line : List Wr
 on : Bool
 armed : Int
def Dk.own (d : Dk) (b : Nat) : Nat := d.owners.getD b 0
structure Dk.Ok (d : Dk) : Prop where
 n1 : 1 ≤ d.blocks.length
 n2 : d.blocks.length ≤ 512
 bl : ∀ t ∈ d.blocks, t.length = 256
 ow : d.owners.length = d.blocks.length
 ex : ∀ x ∈ d.exts, 1 ≤ x.env ∧ x.env ≤ 2 ∧ 1 ≤ x.n ∧ x.first + x.n ≤ d.blocks.length
 mt : ∀ b, b < d.blocks.length → ∀ e : Nat, 1 ≤ e → ((∃ x ∈ d.exts, x.env = e ∧ x.has b) ↔ d.own b = e)
 li : ∀ q ∈ d.line, q.block < d.blocks.length ∧ q.text.length = 256
 ar : -1 ≤ d.armed ∧ d.armed ≤ 9223372036854775807
theorem Dk.Ok.gr {d : Dk} (h : d.Ok) {b : Nat} (hb : b < d.blocks.length) : (∃ x ∈ d.exts, x.has b) ↔ d.own b ≠ 0 := by
 constructor
 ·rintro ⟨x, hx, hh⟩
  have := (h.mt b hb x.env (h.ex x hx).1).1 ⟨x, hx, rfl, hh⟩
  have := (h.ex x hx).1
  omega
 ·intro hn
  obtain ⟨x, hx, _, hh⟩ := (h.mt b hb (d.own b) (by omega)).2 rfl
  exact ⟨x, hx, hh⟩
def busy (d : Dk) (f n : Nat) : Bool := (List.range n).any fun i => d.own (f + i) != 0
theorem busy_no {d : Dk} {f n : Nat} (h : busy d f n = false) {b : Nat} (h1 : f ≤ b) (h2 : b < f + n) : d.own b = 0 := by
 unfold busy at h
 rw [List.any_eq_false] at h
 have := h (b - f) (List.mem_range.2 (by omega))
 rw [show f + (b - f) = b by omega] at this
 simpa using this
theorem busy_yes {d : Dk} {f n b : Nat} (h1 : f ≤ b) (h2 : b < f + n) (h : d.own b ≠ 0) : busy d f n = true := by
 unfold busy
 rw [List.any_eq_true]
 exact ⟨b - f, List.mem_range.2 (by omega), by rw [show f + (b - f) = b by omega]; simpa using h⟩
theorem busy_of {d : Dk} {f n : Nat} (h : ∀ b, f ≤ b → b < f + n → d.own b = 0) : busy d f n = false := by
 unfold busy
 rw [List.any_eq_false]
 intro i hi
 have := h (f + i) (by omega) (by have := List.mem_range.1 hi; omega)
 simp [this]
def lent (os : List Nat) (f n e : Nat) : List Nat := os.take f ++ List.replicate n e ++ os.drop (f + n)
theorem lent_len {os : List Nat} {f n e : Nat} (h : f + n ≤ os.length) : (lent os f n e).length = os.length := by simp [lent]; omega
theorem lent_get {os : List Nat} {f n e : Nat} (h : f + n ≤ os.length) (b : Nat) : (lent os f n e).getD b 0 = if f ≤ b ∧ b < f + n then e else os.getD b 0 := by
 unfold lent
 have hm : (os.take f).length = f := by simp; omega
 simp only [List.getD_eq_getElem?_getD]
 rw [List.append_assoc]
 by_cases h1 : b < f
 ·rw [List.getElem?_append_left (by omega), List.getElem?_take, if_pos h1, if_neg (by omega)]
 ·rw [List.getElem?_append_right (by omega), hm]
  by_cases h2 : b < f + n
  ·rw [List.getElem?_append_left (by simp; omega), if_pos ⟨by omega, h2⟩, List.getElem?_replicate, if_pos (by omega)]; rfl
  ·rw [List.getElem?_append_right (by simp; omega), if_neg (by omega), List.getElem?_drop, List.length_replicate, show f + n + (b - f - n) = b by omega]

def askE (d : Dk) (env block : Int) : Int :=
 if d.on = false then 30 else if block < 0 ∨ (d.blocks.length : Int) ≤ block then 31 else if (d.own block.toNat : Int) = env ∧ env ≠ 0 then 0 else 20
def noGrant (d : Dk) (env first n : Int) : Prop := env < 1 ∨ 2 < env ∨ n ≤ 0 ∨ first < 0 ∨ (d.blocks.length : Int) - first < n
instance (d : Dk) (env first n : Int) : Decidable (noGrant d env first n) := inferInstanceAs (Decidable (_ ∨ _))
def granted (d : Dk) (e f n : Nat) : Dk := { d with exts := d.exts ++ [⟨e, f, n⟩], owners := lent d.owners f n e }
def grantR (d : Dk) (env first n : Int) : Dk × Int :=
 if noGrant d env first n then (d, 1) else if busy d first.toNat n.toNat = true then (d, 20) else (granted d env.toNat first.toNat n.toNat, 0)
def seen (l : List Wr) (b : Nat) (t : List UInt8) : List UInt8 := l.foldl (fun s q => if q.block = b then q.text else s) t
def see (d : Dk) (b : Nat) : List UInt8 := seen d.line b (d.blocks.getD b [])
def readR (d : Dk) (env block : Int) : List UInt8 × Int := if askE d env block = 0 then (see d block.toNat, 0) else ([], askE d env block)
def cutR (d : Dk) : Dk := { d with on := false, armed := -1 }
def laid (d : Dk) (b : Nat) (s : List UInt8) : Dk := { d with armed := if d.armed = -1 then -1 else d.armed - 1, line := d.line ++ [⟨b, s⟩] }
def writeR (d : Dk) (env block : Int) (s : List UInt8) : Dk × Int :=
 if askE d env block = 0 then (if s.length = 256 then (if d.armed = 0 then (cutR d, 30) else (laid d block.toNat s, 0)) else (d, 1)) else (d, askE d env block)
def put (bs : List (List UInt8)) (l : List Wr) : List (List UInt8) := l.foldl (fun bs q => bs.set q.block q.text) bs
def settleR (d : Dk) (k : Nat) : Dk := { d with blocks := put d.blocks (d.line.take k), line := [] }
def syncR (d : Dk) : Dk × Int := if d.on = true then (settleR d d.line.length, 0) else (d, 30)
def armR (d : Dk) (k : Int) : Dk := { d with armed := if k < -1 then -1 else k }
def reviveR (d : Dk) (keep : Int) : Dk × Int := if d.on = true then (d, 21) else ({ settleR d keep.toNat with on := true }, 0)

theorem seen_append (l r : List Wr) (b : Nat) (t : List UInt8) : seen (l ++ r) b t = seen r b (seen l b t) := List.foldl_append
theorem seen_none {l : List Wr} {b : Nat} (h : ∀ q ∈ l, q.block ≠ b) (t : List UInt8) : seen l b t = t := by
 induction l generalizing t with
 | nil => rfl
 | cons q l ih =>
  show seen l b (if q.block = b then q.text else t) = t
  rw [if_neg (h q (by simp)), ih (fun q hq => h q (by simp [hq]))]
theorem seen_last {l : List Wr} {b i : Nat} (hi : i < l.length) (he : l[i].block = b) (h : ∀ j (hj : j < l.length), i < j → l[j].block ≠ b) (t : List UInt8) : seen l b t = l[i].text := by
 have e : l = l.take i ++ [l[i]] ++ l.drop (i + 1) := by
  rw [List.append_assoc, List.singleton_append, List.getElem_cons_drop, List.take_append_drop]
 have hn : ∀ q ∈ l.drop (i + 1), q.block ≠ b := by
  intro q hq
  obtain ⟨j, hj, rfl⟩ := List.mem_iff_getElem.1 hq
  rw [List.getElem_drop]
  rw [List.length_drop] at hj
  exact h _ (by omega) (by omega)
 have e2 : seen l b t = seen (l.take i ++ [l[i]] ++ l.drop (i + 1)) b t := by rw [← e]
 rw [e2, seen_append, seen_append, seen_none hn]
 show (if l[i].block = b then l[i].text else _) = _
 rw [if_pos he]
theorem put_len (bs : List (List UInt8)) (l : List Wr) : (put bs l).length = bs.length := by
 induction l generalizing bs with
 | nil => rfl
 | cons q l ih =>
  show (put (bs.set q.block q.text) l).length = _
  rw [ih, List.length_set]
theorem put_append (bs : List (List UInt8)) (l r : List Wr) : put bs (l ++ r) = put (put bs l) r := List.foldl_append
theorem put_mem {bs : List (List UInt8)} {l : List Wr} {p : List UInt8 → Prop} (h1 : ∀ t ∈ bs, p t) (h2 : ∀ q ∈ l, p q.text) : ∀ t ∈ put bs l, p t := by
 induction l generalizing bs with
 | nil => exact h1
 | cons q l ih =>
  refine ih (bs := bs.set q.block q.text) (fun t ht => ?_) (fun q hq => h2 q (by simp [hq]))
  rcases List.mem_or_eq_of_mem_set ht with h | rfl
  ·exact h1 t h
  ·exact h2 q (by simp)

theorem Dk.Ok.granted {d : Dk} (h : d.Ok) {e f n : Nat} (he : 1 ≤ e ∧ e ≤ 2) (hn : 1 ≤ n) (hf : f + n ≤ d.blocks.length) (hb : busy d f n = false) : (granted d e f n).Ok := by
 have hl : f + n ≤ d.owners.length := by rw [h.ow]; exact hf
 refine ⟨h.n1, h.n2, h.bl, by show (lent d.owners f n e).length = _; rw [lent_len hl]; exact h.ow, ?_, ?_, h.li, h.ar⟩
 ·intro x hx
  rcases List.mem_append.1 hx with h1 | h1
  ·exact h.ex x h1
  ·rw [List.mem_singleton.1 h1]; exact ⟨he.1, he.2, hn, hf⟩
 ·intro b hbl e' he'
  show (∃ x ∈ d.exts ++ [⟨e, f, n⟩], x.env = e' ∧ x.has b) ↔ (lent d.owners f n e).getD b 0 = e'
  rw [lent_get hl]
  by_cases hin : f ≤ b ∧ b < f + n
  ·rw [if_pos hin]
   constructor
   ·rintro ⟨x, hx, h1, h2⟩
    rcases List.mem_append.1 hx with h3 | h3
    ·exfalso
     exact (h.gr hbl).1 ⟨x, h3, h2⟩ (busy_no hb hin.1 hin.2)
    ·rw [List.mem_singleton.1 h3] at h1; exact h1
   ·intro e1
    exact ⟨⟨e, f, n⟩, by simp, e1, hin⟩
  ·rw [if_neg hin]
   refine Iff.trans ?_ (h.mt b hbl e' he')
   constructor
   ·rintro ⟨x, hx, h1, h2⟩
    rcases List.mem_append.1 hx with h3 | h3
    ·exact ⟨x, h3, h1, h2⟩
    ·rw [List.mem_singleton.1 h3] at h2; exact absurd h2 hin
   ·rintro ⟨x, hx, h1, h2⟩
    exact ⟨x, List.mem_append_left _ hx, h1, h2⟩
theorem Dk.Ok.cut {d : Dk} (h : d.Ok) : (cutR d).Ok := ⟨h.n1, h.n2, h.bl, h.ow, h.ex, h.mt, h.li, by show (-1 : Int) ≤ -1 ∧ (-1 : Int) ≤ _; omega⟩
theorem Dk.Ok.laid {d : Dk} (h : d.Ok) {b : Nat} {s : List UInt8} (hb : b < d.blocks.length) (hs : s.length = 256) (h0 : d.armed ≠ 0) : (laid d b s).Ok := by
 refine ⟨h.n1, h.n2, h.bl, h.ow, h.ex, h.mt, ?_, ?_⟩
 ·intro q hq
  rcases List.mem_append.1 hq with h1 | h1
  ·exact h.li q h1
  ·rw [List.mem_singleton.1 h1]; exact ⟨hb, hs⟩
 ·have := h.ar
  show -1 ≤ (if d.armed = -1 then -1 else d.armed - 1) ∧ (if d.armed = -1 then -1 else d.armed - 1) ≤ _
  split <;> omega
theorem Dk.Ok.settle {d : Dk} (h : d.Ok) (k : Nat) : (settleR d k).Ok := by
 have e : (put d.blocks (d.line.take k)).length = d.blocks.length := put_len _ _
 refine ⟨by show 1 ≤ (put _ _).length; rw [e]; exact h.n1, by show (put _ _).length ≤ 512; rw [e]; exact h.n2, put_mem h.bl (fun q hq => (h.li q (List.mem_of_mem_take hq)).2), by show _ = (put _ _).length; rw [e]; exact h.ow, ?_, ?_, fun q hq => (by cases hq), h.ar⟩
 ·intro x hx
  show _ ∧ _ ∧ _ ∧ _ ≤ (put _ _).length
  rw [e]; exact h.ex x hx
 ·intro b hb
  exact h.mt b (by have hb' : b < (put d.blocks (d.line.take k)).length := hb; omega)
theorem askE_zero {d : Dk} {env block : Int} (h : askE d env block = 0) : d.on = true ∧ ∃ b : Nat, block = (b : Int) ∧ b < d.blocks.length ∧ (d.own b : Int) = env ∧ env ≠ 0 := by
 unfold askE at h
 by_cases h1 : d.on = false
 ·rw [if_pos h1] at h; omega
 ·rw [if_neg h1] at h
  by_cases h2 : block < 0 ∨ (d.blocks.length : Int) ≤ block
  ·rw [if_pos h2] at h; omega
  ·rw [if_neg h2] at h
   by_cases h3 : (d.own block.toNat : Int) = env ∧ env ≠ 0
   ·exact ⟨by simpa using h1, block.toNat, by omega, by omega, h3⟩
   ·rw [if_neg h3] at h; omega

def zeros : List UInt8 := List.replicate 256 0
def newD (n : Nat) : Dk := ⟨List.replicate n zeros, List.replicate n 0, [], [], true, -1⟩
theorem newD_ok {n : Nat} (h1 : 1 ≤ n) (h2 : n ≤ 512) : (newD n).Ok := by
 refine ⟨by simpa [newD] using h1, by simpa [newD] using h2, fun t ht => by rw [(List.mem_replicate.1 ht).2]; exact List.length_replicate, by simp [newD], fun x hx => (by cases hx), fun b hb e he => ?_, fun q hq => (by cases hq), by show (-1 : Int) ≤ -1 ∧ (-1 : Int) ≤ _; omega⟩
 constructor
 ·rintro ⟨x, hx, _⟩; cases hx
 ·intro h
  exfalso
  have : (List.replicate n 0).getD b 0 = 0 := by
   simp only [List.getD_eq_getElem?_getD, List.getElem?_replicate]; split <;> rfl
  have h' : (List.replicate n 0).getD b 0 = e := h
  omega

def Wr.cells (q : Wr) : List Value := .int .i64 (q.block : Int) :: bys q.text
def Ex.cells (x : Ex) : List Value := [.int .i64 (x.env : Int), .int .i64 (x.first : Int), .int .i64 (x.n : Int)]
def blocksC (bs : List (List UInt8)) : List Value := (bs.map bys).flatten
def lineC (l : List Wr) : List Value := (l.map Wr.cells).flatten
def extsC (l : List Ex) : List Value := (l.map Ex.cells).flatten

structure DskAt (w : World) (gb g : Nat) (Al : Option Addr) (cl : Nat) (Ae : Option Addr) (ce : Nat) (d : Dk) : Prop where
 head : Blk w g 144 #[.slice (some ⟨gb, 0, none⟩) d.blocks.length d.blocks.length, .slice Al d.line.length cl, .slice Ae d.exts.length ce, .bool d.on, .int .i64 d.armed]
 tab : Blk w gb 162 (blocksC d.blocks).toArray
 line : RowW w 164 257 Al d.line.length cl (lineC d.line)
 exts : RowW w 149 3 Ae d.exts.length ce (extsC d.exts)
 ne : gb ≠ g
 lb : ¬ inB Al gb
 lg : ¬ inB Al g
 eb : ¬ inB Ae gb
 eg : ¬ inB Ae g
 le : Apart Al Ae
 ok : d.Ok
def foot (gb g : Nat) (Al Ae : Option Addr) : Nat → Prop := fun k => k = gb ∨ k = g ∨ inB Al k ∨ inB Ae k
def DA (w : World) (F : Nat → Prop) (g : Nat) (d : Dk) : Prop := ∃ gb Al cl Ae ce, DskAt w gb g Al cl Ae ce d ∧ ∀ k, F k ↔ foot gb g Al Ae k
def Step (w w' : World) (F F' : Nat → Prop) : Prop := Chg w w' F ∧ ∀ k, F' k → F k ∨ w.heap.size ≤ k
section
variable {w w' w2 : World} {F F' F2 S : Nat → Prop} {g gb cl ce : Nat} {Al Ae : Option Addr} {d : Dk}
theorem Step.refl (w : World) (F : Nat → Prop) : Step w w F F := ⟨Chg.refl _ _, fun _ h => .inl h⟩
theorem Step.trans (h : Step w w' F F') (k : Step w' w2 F' F2) : Step w w2 F F2 := by
 refine ⟨⟨k.1.os.trans h.1.os, k.1.tape.trans h.1.tape, k.1.output.trans h.1.output, Nat.le_trans h.1.size k.1.size, fun i hi hn => ?_⟩, fun i hi => ?_⟩
 ·refine (k.1.block i (Nat.lt_of_lt_of_le hi h.1.size) fun hf => ?_).trans (h.1.block i hi hn)
  rcases h.2 i hf with h1 | h1
  ·exact hn h1
  ·omega
 ·rcases k.2 i hi with h1 | h1
  ·exact h.2 i h1
  ·exact .inr (Nat.le_trans h.1.size h1)
theorem Step.new (k : Below w.heap.size w w') (F : Nat → Prop) : Step w w' F F := ⟨Chg.of_new k _, fun _ h => .inl h⟩
theorem Step.below {B : Nat} (h : Step w w' F F') (hB : B ≤ w.heap.size) (hs : ∀ k, F k → B ≤ k) : Below B w w' ∧ ∀ k, F' k → B ≤ k :=
 ⟨h.1.below hB hs, fun k hk => by
  rcases h.2 k hk with h1 | h1
  ·exact hs k h1
  ·omega⟩
theorem DskAt.lt (h : DskAt w gb g Al cl Ae ce d) {k : Nat} (hk : foot gb g Al Ae k) : k < w.heap.size := by
 rcases hk with rfl | rfl | h1 | h1
 ·exact h.tab.lt
 ·exact h.head.lt
 ·exact h.line.lt k h1
 ·exact h.exts.lt k h1
theorem DskAt.chg (h : DskAt w gb g Al cl Ae ce d) (k : Chg w w' S) (hn : ∀ i, S i → ¬ foot gb g Al Ae i) : DskAt w' gb g Al cl Ae ce d :=
 ⟨h.head.chg k (fun s => hn _ s (.inr (.inl rfl))), h.tab.chg k (fun s => hn _ s (.inl rfl)), h.line.chg k (fun b hb s => hn _ s (.inr (.inr (.inl hb)))), h.exts.chg k (fun b hb s => hn _ s (.inr (.inr (.inr hb)))), h.ne, h.lb, h.lg, h.eb, h.eg, h.le, h.ok⟩
theorem DskAt.new (h : DskAt w gb g Al cl Ae ce d) (k : Below w.heap.size w w') : DskAt w' gb g Al cl Ae ce d := h.chg (Chg.of_new k fun _ => False) (fun _ s => s.elim)
theorem DskAt.drewN (h : DskAt w gb g Al cl Ae ce d) (n : Nat) : DskAt (w.drewN n) gb g Al cl Ae ce d := ⟨h.head, h.tab, h.line.drewN n, h.exts.drewN n, h.ne, h.lb, h.lg, h.eb, h.eg, h.le, h.ok⟩
theorem DA.lt (h : DA w F g d) {k : Nat} (hk : F k) : k < w.heap.size := by
 obtain ⟨gb, Al, cl, Ae, ce, D, hF⟩ := h
 exact D.lt ((hF k).1 hk)
theorem DA.chg (h : DA w F g d) (k : Chg w w' S) (hn : ∀ i, S i → ¬ F i) : DA w' F g d := by
 obtain ⟨gb, Al, cl, Ae, ce, D, hF⟩ := h
 exact ⟨gb, Al, cl, Ae, ce, D.chg k (fun i hi hf => hn i hi ((hF i).2 hf)), hF⟩
theorem DA.new (h : DA w F g d) (k : Below w.heap.size w w') : DA w' F g d := h.chg (Chg.of_new k fun _ => False) (fun _ s => s.elim)
theorem DA.drewN (h : DA w F g d) (n : Nat) : DA (w.drewN n) F g d := by
 obtain ⟨gb, Al, cl, Ae, ce, D, hF⟩ := h
 exact ⟨gb, Al, cl, Ae, ce, D.drewN n, hF⟩
theorem DskAt.da (h : DskAt w gb g Al cl Ae ce d) : DA w (foot gb g Al Ae) g d := ⟨gb, Al, cl, Ae, ce, h, fun _ => Iff.rfl⟩

theorem blocks_rows {d : Dk} (h : d.Ok) : ∀ r ∈ d.blocks.map bys, r.length = 256 := by
 intro r hr
 obtain ⟨t, ht, rfl⟩ := List.mem_map.1 hr
 rw [bys_length]; exact h.bl t ht
theorem line_rows {d : Dk} (h : d.Ok) : ∀ r ∈ d.line.map Wr.cells, r.length = 257 := by
 intro r hr
 obtain ⟨q, hq, rfl⟩ := List.mem_map.1 hr
 simp [Wr.cells, bys_length, (h.li q hq).2]
theorem exts_rows (l : List Ex) : ∀ r ∈ l.map Ex.cells, r.length = 3 := by
 intro r hr
 obtain ⟨q, hq, rfl⟩ := List.mem_map.1 hr
 rfl
theorem blocks_len {d : Dk} (h : d.Ok) : (blocksC d.blocks).length = d.blocks.length * 256 := by
 have := flat_len (blocks_rows h); simpa [blocksC] using this
theorem DskAt.block (h : DskAt w gb g Al cl Ae ce d) {b : Nat} (hb : b < d.blocks.length) : w.rangeAt gb (b * 256) (bys d.blocks[b]) := by
 intro j v hj
 have hl : (bys d.blocks[b]).length = 256 := by rw [bys_length]; exact h.ok.bl _ (List.getElem_mem hb)
 have hj' : j < 256 := by have := (List.getElem?_eq_some_iff.1 hj).1; omega
 rw [h.tab.cell, List.getElem?_toArray]
 unfold blocksC
 rw [flat_get (blocks_rows h.ok) (by simpa using hb) hj', ← hj]
 simp
theorem DskAt.wr (h : DskAt w gb g Al cl Ae ce d) {i : Nat} (hi : i < d.line.length) : ∃ l, Al = some ⟨l, 0, none⟩ ∧ l < w.heap.size ∧ l ≠ gb ∧ l ≠ g ∧ w.rangeAt l (i * 257) d.line[i].cells := by
 obtain ⟨l, rfl, hl, hc⟩ := h.line.form (by omega)
 refine ⟨l, rfl, hl, fun e => h.lb (by rw [← e]; exact inB_self _ _), fun e => h.lg (by rw [← e]; exact inB_self _ _), fun j v hj => ?_⟩
 have hlen : d.line[i].cells.length = 257 := by simp [Wr.cells, bys_length, (h.ok.li _ (List.getElem_mem hi)).2]
 have hj' : j < 257 := by have := (List.getElem?_eq_some_iff.1 hj).1; omega
 have hL : (lineC d.line).length = d.line.length * 257 := h.line.len
 have hlt : i * 257 + j < (lineC d.line).length := by omega
 rw [hc _ hlt, ← List.getElem?_eq_getElem hlt, ← hj]
 unfold lineC
 rw [flat_get (line_rows h.ok) (by simpa using hi) hj']
 simp
theorem DskAt.ext (h : DskAt w gb g Al cl Ae ce d) {i : Nat} (hi : i < d.exts.length) : ∃ l, Ae = some ⟨l, 0, none⟩ ∧ l < w.heap.size ∧ w.rangeAt l (i * 3) d.exts[i].cells := by
 obtain ⟨l, rfl, hl, hc⟩ := h.exts.form (by omega)
 refine ⟨l, rfl, hl, fun j v hj => ?_⟩
 have hj' : j < 3 := (List.getElem?_eq_some_iff.1 hj).1
 have hL : (extsC d.exts).length = d.exts.length * 3 := h.exts.len
 have hlt : i * 3 + j < (extsC d.exts).length := by omega
 rw [hc _ hlt, ← List.getElem?_eq_getElem hlt, ← hj]
 unfold extsC
 rw [flat_get (exts_rows _) (by simpa using hi) hj']
 simp
end
end Go.Proofs.YtbkjjakkihbcdaaGreat

/- Package disk: its small functions. Conditions: those that each states. -/
namespace Go.Proofs.YtbkjjakkihbcdaaGreat.Di
open Go.ChangeShapes Go.WideShapes Go.ChangeAt Go.RowKit Go.Deep
set_option linter.unusedVariables false

theorem has_any (x : Ex) (b : Nat) (hb : b ≤ 1000) (h1 : x.first ≤ 1000) (h2 : x.n ≤ 1000) (w : World) :
  Calls Tryz.prog 97 #[.agg #[.int .i64 (x.env : Int), .int .i64 (x.first : Int), .int .i64 (x.n : Int)], .int .i64 (b : Int)] w fun e w' => e = .returned (.bool (decide (x.has b))) ∧ Below w.heap.size w w' := by
 have B := Lib.hid ((Below.refl _ w).alloc (Nat.le_refl _) (.cells #[.int .i64 (x.env : Int), .int .i64 (x.first : Int), .int .i64 (x.n : Int)] 149))
 by_cases g1 : (b : Int) ≥ (x.first : Int)
 ·have x0 : IntKind.i64.wrap ((b : Int) - (x.first : Int)) = (b : Int) - (x.first : Int) := IntWalk.i64_in _ (by omega)
  by_cases g2 : (b : Int) - (x.first : Int) < (x.n : Int)
  ·have hv : decide (x.has b) = true := decide_eq_true (show x.has b from ⟨by omega, by omega⟩)
   rw [hv]
   generalize (x.first : Int) = a1 at *
   generalize (x.n : Int) = a2 at *
   generalize (x.env : Int) = a3 at *
   clear hv h1 h2 hb
   go_enter Tryz.func97, Tryz.ntmps97
   go_wp2
   go_ret
   exact ⟨rfl, B.out⟩
  ·have hv : decide (x.has b) = false := decide_eq_false (fun h => by have := h.2; omega)
   rw [hv]
   have G3 := Lib.hid (decide_eq_false g2)
   generalize (x.first : Int) = a1 at *
   generalize (x.n : Int) = a2 at *
   generalize (x.env : Int) = a3 at *
   clear hv h1 h2 hb
   go_enter Tryz.func97, Tryz.ntmps97
   go_wp2
   go_ret
   exact ⟨by first | rfl | (rw [G3.out]), B.out⟩
 ·have hv : decide (x.has b) = false := decide_eq_false (fun h => by have := h.1; omega)
  rw [hv]
  generalize (x.first : Int) = a1 at *
  generalize (x.n : Int) = a2 at *
  generalize (x.env : Int) = a3 at *
  clear hv h1 h2 hb
  go_enter Tryz.func97, Tryz.ntmps97
  go_wp2
  go_ret
  exact ⟨rfl, B.out⟩

section
variable {gb g cl ce : Nat} {Al Ae : Option Addr} {d : Dk} {w : World}
theorem heads (h : DskAt w gb g Al cl Ae ce d) : w.cell? ⟨g, 0, none⟩ = some (.slice (some ⟨gb, 0, none⟩) d.blocks.length d.blocks.length) ∧ w.cell? ⟨g, 1, none⟩ = some (.slice Al d.line.length cl) ∧ w.cell? ⟨g, 2, none⟩ = some (.slice Ae d.exts.length ce) ∧ w.cell? ⟨g, 3, none⟩ = some (.bool d.on) ∧ w.cell? ⟨g, 4, none⟩ = some (.int .i64 d.armed) :=
 ⟨h.head.cell 0, h.head.cell 1, h.head.cell 2, h.head.cell 3, h.head.cell 4⟩
theorem size_any (h : DskAt w gb g Al cl Ae ce d) :
  Calls Tryz.prog 59 #[.pointer (some ⟨g, 0, none⟩)] w fun e w' => e = .returned (.int .i64 (d.blocks.length : Int)) ∧ w' = w := by
 have c0 := (heads h).1
 clear h
 go_enter Tryz.func59, Tryz.ntmps59
 go_wp2
 go_ret
 exact ⟨rfl, rfl⟩
theorem waits_any (h : DskAt w gb g Al cl Ae ce d) :
  Calls Tryz.prog 18 #[.pointer (some ⟨g, 0, none⟩)] w fun e w' => e = .returned (.int .i64 (d.line.length : Int)) ∧ w' = w := by
 have c0 := (heads h).2.1
 clear h
 go_enter Tryz.func18, Tryz.ntmps18
 go_wp2
 go_ret
 exact ⟨rfl, rfl⟩
theorem ext_info : (Tryz.prog.info? 149).map (·.size) = some 3 := by kernel_rfl
set_option maxRecDepth 100000 in
theorem granted_v (h : DskAt w gb g Al cl Ae ce d) (b : Nat) (hb : b < d.blocks.length) (v : Bool) (hv : v = decide (d.own b ≠ 0)) :
  Calls Tryz.prog 60 #[.pointer (some ⟨g, 0, none⟩), .int .i64 (b : Int)] w fun e w' => e = .returned (.bool v) ∧ Below w.heap.size w w' := by
 have V := Lib.hid hv
 clear hv
 have c0 := (heads h).2.2.1
 have hlt : g < w.heap.size := h.head.lt
 have hok := h.ok
 have n2 := hok.n2
 have hel : d.exts.length ≤ 9223372036854775807 := by have := h.exts.capMax; unfold maxLen at this; omega
 have GR := Lib.hid (hok.gr hb)
 have H := Lib.hid h
 clear h
 go_enter Tryz.func60, Tryz.ntmps60
 go_wp2
 go_loopw [12] (fun i wr => ∃ (j : Nat), j ≤ d.exts.length ∧ i = .int .i64 (j : Int) ∧ Hid (∀ k (hk : k < d.exts.length), k < j → ¬ (d.exts[k]).has b) ∧ Below w.heap.size w wr) (fun i _ => d.exts.length - (intOf i).toNat)
 case atStart => exact ⟨0, Nat.zero_le _, rfl, Lib.hid (fun _ _ h => absurd h (by omega)), Below.refl _ _⟩
 case round =>
  obtain ⟨j, hj, rfl, NO, hbel⟩ := hrel
  by_cases hlt' : j < d.exts.length
  ·have j1 : (j : Int) < (d.exts.length : Int) := by omega
   have j0 : (0 : Int) ≤ (j : Int) := by omega
   have xj := IntWalk.i64_in ((j : Int) + 1) (by omega)
   obtain ⟨l, rfl, hl, hr⟩ := (H.out.new hbel).ext hlt'
   have LD := Lib.hid hr
   have HB := Lib.hid hbel
   have hx := hok.ex _ (List.getElem_mem hlt')
   have HAS := Lib.hid (fun W => has_any d.exts[j] b (by omega) (by omega) (by omega) W)
   have hsz : w.heap.size ≤ wr.heap.size := hbel.size
   clear hr hbel hx
   have e0 : d.exts[j].cells = [.int .i64 (d.exts[j].env : Int), .int .i64 (d.exts[j].first : Int), .int .i64 (d.exts[j].n : Int)] := rfl
   have fin := (Below.refl wr.heap.size wr).alloc (Nat.le_refl _) (.cells #[.int .i64 (d.exts[j].env : Int), .int .i64 (d.exts[j].first : Int), .int .i64 (d.exts[j].n : Int)] 149)
   have FIN := Lib.hid (fun W2 (b2 : Below (wr.alloc (.cells #[.int .i64 (d.exts[j].env : Int), .int .i64 (d.exts[j].first : Int), .int .i64 (d.exts[j].n : Int)] 149)).heap.size (wr.alloc (.cells #[.int .i64 (d.exts[j].env : Int), .int .i64 (d.exts[j].first : Int), .int .i64 (d.exts[j].n : Int)] 149)) W2) => HB.out.trans ((fin.trans (b2.mono (by simp))).mono hsz))
   clear fin
   by_cases hh : (d.exts[j]).has b
   ·have HV := Lib.hid (show v = true from V.out.trans (decide_eq_true (GR.out.1 ⟨_, List.getElem_mem hlt', hh⟩)))
    have hd : decide ((d.exts[j]).has b) = true := decide_eq_true hh
    rw [hd] at HAS
    clear hh hd
    generalize d.exts[j] = xj' at *
    go_wp2_with (first
     | (refine wpList_load_mid rfl 149 (.tmp 14) rfl l (j * 3) rfl _ _ LD.out Tryz.underlying149 rfl ext_info ?_)
     | fail)
    refine (HAS.out _).mono ?_; rintro e w2 ⟨rfl, b2⟩
    have B2 := Lib.hid (FIN.out _ b2)
    clear b2
    go_wp2
    go_ret
    exact ⟨by rw [HV.out]; rfl, B2.out⟩
   ·have NO2 : Hid (∀ k (hk : k < d.exts.length), k < j + 1 → ¬ (d.exts[k]).has b) := Lib.hid (fun k hk h => by
     by_cases e : k = j
     ·subst e; exact hh
     ·exact NO.out k hk (by omega))
    have hd : decide ((d.exts[j]).has b) = false := decide_eq_false hh
    rw [hd] at HAS
    clear hh hd
    generalize d.exts[j] = xj' at *
    go_wp2_with (first
     | (refine wpList_load_mid rfl 149 (.tmp 14) rfl l (j * 3) rfl _ _ LD.out Tryz.underlying149 rfl ext_info ?_)
     | fail)
    refine (HAS.out _).mono ?_; rintro e w2 ⟨rfl, b2⟩
    have B2 := Lib.hid (FIN.out _ b2)
    clear b2
    go_wp2
    go_roundw
    case rel => exact ⟨j + 1, by omega, by simp, NO2, B2.out⟩
    case measure => simp [intOf]; omega
  ·have hge : ¬ (j : Int) < (d.exts.length : Int) := by omega
   have HB := Lib.hid hbel
   have HV := Lib.hid (show v = false from V.out.trans (decide_eq_false (fun hn => by
    obtain ⟨x, hx, hh⟩ := GR.out.2 hn
    obtain ⟨k, hk, rfl⟩ := List.mem_iff_getElem.1 hx
    exact NO.out k hk (by omega) hh)))
   clear hbel
   go_wp2
   go_ret
   exact ⟨by rw [HV.out]; rfl, HB.out⟩
theorem granted_any (h : DskAt w gb g Al cl Ae ce d) (b : Nat) (hb : b < d.blocks.length) :
  Calls Tryz.prog 60 #[.pointer (some ⟨g, 0, none⟩), .int .i64 (b : Int)] w fun e w' => e = .returned (.bool (decide (d.own b ≠ 0))) ∧ Below w.heap.size w w' := granted_v h b hb _ rfl

set_option maxRecDepth 100000 in
theorem asked_off (h : DskAt w gb g Al cl Ae ce d) (env block : Int) (h0 : d.on = false) :
  Calls Tryz.prog 68 #[.pointer (some ⟨g, 0, none⟩), .int .i64 env, .int .i64 block] w fun e w' => e = .returned (.int .i64 30) ∧ w' = w := by
 have c3 := (heads h).2.2.2.1
 rw [h0] at c3
 clear h h0
 go_enter Tryz.func68, Tryz.ntmps68
 go_wp2
 go_ret
 exact ⟨rfl, rfl⟩
set_option maxRecDepth 100000 in
theorem asked_out (h : DskAt w gb g Al cl Ae ce d) (env block : Int) (h0 : d.on = true) (h1 : block < 0 ∨ (d.blocks.length : Int) ≤ block) :
  Calls Tryz.prog 68 #[.pointer (some ⟨g, 0, none⟩), .int .i64 env, .int .i64 block] w fun e w' => e = .returned (.int .i64 31) ∧ w' = w := by
 have c3 := (heads h).2.2.2.1
 rw [h0] at c3
 have SZ := Lib.hid (size_any h)
 clear h h0
 by_cases h2 : block < 0
 ·clear h1
  go_enter Tryz.func68, Tryz.ntmps68
  go_wp2
  go_ret
  exact ⟨rfl, rfl⟩
 ·have h3 : block ≥ (d.blocks.length : Int) := by omega
  clear h1
  go_enter Tryz.func68, Tryz.ntmps68
  go_wp2_with fail
  refine SZ.out.mono ?_; rintro e w1 ⟨rfl, rfl⟩
  go_wp2
  go_ret
  exact ⟨rfl, rfl⟩
set_option maxRecDepth 100000 in
set_option maxHeartbeats 2000000 in
theorem asked_in (h : DskAt w gb g Al cl Ae ce d) (env : Int) (b : Nat) (h0 : d.on = true) (hb : b < d.blocks.length) (v : Int) (hv : v = if (d.own b : Int) = env ∧ env ≠ 0 then 0 else 20) :
  Calls Tryz.prog 68 #[.pointer (some ⟨g, 0, none⟩), .int .i64 env, .int .i64 (b : Int)] w fun e w' => e = .returned (.int .i64 v) ∧ Below w.heap.size w w' := by
 have V := Lib.hid hv
 clear hv
 have c3 := (heads h).2.2.2.1
 rw [h0] at c3
 have c0 := (heads h).2.2.1
 have SZ := Lib.hid (size_any h)
 have hlt : g < w.heap.size := h.head.lt
 have hok := h.ok
 have n2 := hok.n2
 have hel : d.exts.length ≤ 9223372036854775807 := by have := h.exts.capMax; unfold maxLen at this; omega
 have MT : Hid ((∃ x ∈ d.exts, (x.env : Int) = env ∧ x.has b) ↔ (d.own b : Int) = env ∧ env ≠ 0) := Lib.hid (by
  constructor
  ·rintro ⟨x, hx, h1, h2⟩
   have hx1 := (hok.ex x hx).1
   have := (hok.mt b hb x.env hx1).1 ⟨x, hx, rfl, h2⟩
   omega
  ·rintro ⟨h1, h2⟩
   obtain ⟨x, hx, h3, h4⟩ := (hok.mt b hb (d.own b) (by omega)).2 rfl
   exact ⟨x, hx, by omega, h4⟩)
 have H := Lib.hid h
 have b1 : ¬ (b : Int) < 0 := by omega
 have b2 : ¬ (b : Int) ≥ (d.blocks.length : Int) := by omega
 have b3 : decide (d.blocks.length ≤ b) = false := decide_eq_false (by omega)
 clear h h0
 go_enter Tryz.func68, Tryz.ntmps68
 go_wp2_with fail
 refine SZ.out.mono ?_; rintro e w1 ⟨rfl, rfl⟩
 go_wp2
 go_loopw [29] (fun i wr => ∃ (j : Nat), j ≤ d.exts.length ∧ i = .int .i64 (j : Int) ∧ Hid (∀ k (hk : k < d.exts.length), k < j → ¬ ((d.exts[k].env : Int) = env ∧ (d.exts[k]).has b)) ∧ Below w1.heap.size w1 wr) (fun i _ => d.exts.length - (intOf i).toNat)
 case atStart => exact ⟨0, Nat.zero_le _, rfl, Lib.hid (fun _ _ h => absurd h (by omega)), Below.refl _ _⟩
 case round =>
  obtain ⟨j, hj, rfl, NO, hbel⟩ := hrel
  by_cases hlt' : j < d.exts.length
  ·have j1 : (j : Int) < (d.exts.length : Int) := by omega
   have j0 : (0 : Int) ≤ (j : Int) := by omega
   have xj := IntWalk.i64_in ((j : Int) + 1) (by omega)
   obtain ⟨l, rfl, hl, hr⟩ := (H.out.new hbel).ext hlt'
   have LD := Lib.hid hr
   have HB := Lib.hid hbel
   have hx := hok.ex _ (List.getElem_mem hlt')
   have HAS := Lib.hid (fun W => has_any d.exts[j] b (by omega) (by omega) (by omega) W)
   have hsz : w1.heap.size ≤ wr.heap.size := hbel.size
   clear hr hbel hx
   have e0 : d.exts[j].cells = [.int .i64 (d.exts[j].env : Int), .int .i64 (d.exts[j].first : Int), .int .i64 (d.exts[j].n : Int)] := rfl
   have fin := (Below.refl wr.heap.size wr).alloc (Nat.le_refl _) (.cells #[.int .i64 (d.exts[j].env : Int), .int .i64 (d.exts[j].first : Int), .int .i64 (d.exts[j].n : Int)] 149)
   have FIN0 := Lib.hid (HB.out.trans (fin.mono hsz))
   have FIN := Lib.hid (fun W2 (b2 : Below (wr.alloc (.cells #[.int .i64 (d.exts[j].env : Int), .int .i64 (d.exts[j].first : Int), .int .i64 (d.exts[j].n : Int)] 149)).heap.size (wr.alloc (.cells #[.int .i64 (d.exts[j].env : Int), .int .i64 (d.exts[j].first : Int), .int .i64 (d.exts[j].n : Int)] 149)) W2) => HB.out.trans ((fin.trans (b2.mono (by simp))).mono hsz))
   clear fin
   by_cases he : (d.exts[j].env : Int) = env
   ·by_cases hh : (d.exts[j]).has b
    ·have HV := Lib.hid (show v = 0 from V.out.trans (if_pos (MT.out.1 ⟨_, List.getElem_mem hlt', he, hh⟩)))
     have hd : decide ((d.exts[j]).has b) = true := decide_eq_true hh
     rw [hd] at HAS
     subst he
     clear hh hd
     generalize d.exts[j] = xj' at *
     go_wp2_with (first
      | (refine wpList_load_mid rfl 149 (.tmp 31) rfl l (j * 3) rfl _ _ LD.out Tryz.underlying149 rfl ext_info ?_)
      | fail)
     refine (HAS.out _).mono ?_; rintro e w2 ⟨rfl, b2⟩
     have B2 := Lib.hid (FIN.out _ b2)
     clear b2
     go_wp2
     go_ret
     exact ⟨by rw [HV.out]; rfl, B2.out⟩
    ·have NO2 : Hid (∀ k (hk : k < d.exts.length), k < j + 1 → ¬ ((d.exts[k].env : Int) = env ∧ (d.exts[k]).has b)) := Lib.hid (fun k hk h => by
      by_cases e : k = j
      ·subst e; exact fun q => hh q.2
      ·exact NO.out k hk (by omega))
     have hd : decide ((d.exts[j]).has b) = false := decide_eq_false hh
     rw [hd] at HAS
     subst he
     clear hh hd
     generalize d.exts[j] = xj' at *
     go_wp2_with (first
      | (refine wpList_load_mid rfl 149 (.tmp 31) rfl l (j * 3) rfl _ _ LD.out Tryz.underlying149 rfl ext_info ?_)
      | fail)
     refine (HAS.out _).mono ?_; rintro e w2 ⟨rfl, b2⟩
     have B2 := Lib.hid (FIN.out _ b2)
     clear b2
     go_wp2
     go_roundw
     case rel => exact ⟨j + 1, by omega, by simp, NO2, B2.out⟩
     case measure => simp [intOf]; omega
   ·have NO2 : Hid (∀ k (hk : k < d.exts.length), k < j + 1 → ¬ ((d.exts[k].env : Int) = env ∧ (d.exts[k]).has b)) := Lib.hid (fun k hk h => by
     by_cases e : k = j
     ·subst e; exact fun q => he q.1
     ·exact NO.out k hk (by omega))
    have he' : ((d.exts[j].env : Int) == env) = false := by simpa using he
    clear he
    generalize d.exts[j] = xj' at *
    go_wp2_with (first
     | (refine wpList_load_mid rfl 149 (.tmp 31) rfl l (j * 3) rfl _ _ LD.out Tryz.underlying149 rfl ext_info ?_)
     | fail)
    go_roundw
    case rel => exact ⟨j + 1, by omega, by simp, NO2, FIN0.out⟩
    case measure => simp [intOf]; omega
  ·have hge : ¬ (j : Int) < (d.exts.length : Int) := by omega
   have HB := Lib.hid hbel
   have HV := Lib.hid (show v = 20 from V.out.trans (if_neg (fun hn => by
    obtain ⟨x, hx, hh⟩ := MT.out.2 hn
    obtain ⟨k, hk, rfl⟩ := List.mem_iff_getElem.1 hx
    exact NO.out k hk (by omega) hh)))
   clear hbel
   go_wp2
   go_ret
   exact ⟨by rw [HV.out]; rfl, HB.out⟩
theorem asked_any (h : DskAt w gb g Al cl Ae ce d) (env block : Int) :
  Calls Tryz.prog 68 #[.pointer (some ⟨g, 0, none⟩), .int .i64 env, .int .i64 block] w fun e w' => e = .returned (.int .i64 (askE d env block)) ∧ Below w.heap.size w w' := by
 unfold askE
 by_cases h0 : d.on = false
 ·rw [if_pos h0]
  exact (asked_off h env block h0).mono fun e w' ⟨a, b⟩ => ⟨a, by rw [b]; exact Below.refl _ _⟩
 ·rw [if_neg h0]
  have h0' : d.on = true := by simpa using h0
  by_cases h1 : block < 0 ∨ (d.blocks.length : Int) ≤ block
  ·rw [if_pos h1]
   exact (asked_out h env block h0' h1).mono fun e w' ⟨a, b⟩ => ⟨a, by rw [b]; exact Below.refl _ _⟩
  ·rw [if_neg h1]
   obtain ⟨b, rfl⟩ : ∃ b : Nat, block = (b : Int) := ⟨block.toNat, by omega⟩
   rw [Int.toNat_natCast]
   exact asked_in h env b h0' (by omega) _ rfl
end
end Go.Proofs.YtbkjjakkihbcdaaGreat.Di

/- Package disk: New, Cut, Arm, Grant. Conditions: those that each states. -/
namespace Go.Proofs.YtbkjjakkihbcdaaGreat.Di
open Go.ChangeShapes Go.WideShapes Go.ChangeAt Go.RowKit Go.Deep
set_option linter.unusedVariables false

theorem page_info : (Tryz.prog.info? 162).map (fun i => (i.zero.map (·.cells), i.size, i.bytes)) = some (some (bys zeros).toArray, 256, 256) := by kernel_rfl
theorem make_pages (n : Nat) (hn : n ≤ 512) (W : World) :
  (Instr.makeSlice 140 (.int .i64 (n : Int)) (.int .i64 (n : Int))).run Tryz.prog W = .ok (.slice (some ⟨W.heap.size, 0, none⟩) n n) (W.alloc (.cells (madeCells (bys zeros).toArray (n * 256)) 162)) := by
 obtain ⟨i, hi, hs⟩ := Option.map_eq_some_iff.1 page_info
 simp only [Prod.mk.injEq] at hs
 obtain ⟨h0, h1, h2⟩ := hs
 obtain ⟨z, hz, hzc⟩ := Option.map_eq_some_iff.1 h0
 have hr := run_make (P := Tryz.prog) W 140 162 i z Tryz.underlying140 hi hz .i64 .i64 (n : Int) (n : Int) (by omega) (by omega) (by rw [h2]; omega) (by omega)
 simp only [h1, hzc, Int.toNat_natCast] at hr
 exact hr
theorem bys_zeros : bys zeros = List.replicate 256 (.int .u8 0) := by
 unfold bys zeros
 rw [List.map_replicate]; rfl
set_option maxRecDepth 100000 in
theorem made_blocks (n : Nat) : madeCells (bys zeros).toArray (n * 256) = (blocksC (List.replicate n zeros)).toArray := by
 have e1 : blocksC (List.replicate n zeros) = List.replicate (n * 256) (.int .u8 0) := by
  unfold blocksC
  rw [List.map_replicate, bys_zeros, List.flatten_replicate_replicate]
 rw [e1, bys_zeros]
 unfold madeCells
 apply Array.ext
 ·rw [Array.size_map, Array.size_range, List.size_toArray, List.length_replicate]
 ·intro i h1 h2
  have hs : (List.replicate 256 (Value.int .u8 0)).toArray.size = 256 := by rw [List.size_toArray, List.length_replicate]
  simp only [Array.getElem_map, Array.getElem_range, List.getElem_toArray, List.getElem_replicate, hs]
  have hi : i % 256 < (List.replicate 256 (Value.int .u8 0)).toArray.size := by rw [hs]; exact Nat.mod_lt _ (by decide)
  rw [getElem!_pos (List.replicate 256 (Value.int .u8 0)).toArray (i % 256) hi, List.getElem_toArray, List.getElem_replicate]

set_option maxRecDepth 100000 in
theorem new_ok (n : Nat) (w : World) (h1 : 1 ≤ n) (h2 : n ≤ 512) :
  Calls Tryz.prog 21 #[.int .i64 (n : Int)] w fun e w' => e = .returned (.tuple #[.pointer (some ⟨w.heap.size + 1, 0, none⟩), .int .i64 0]) ∧ DskAt w' w.heap.size (w.heap.size + 1) none 0 none 0 (newD n) ∧ Below w.heap.size w w' ∧ w'.heap.size = w.heap.size + 2 := by
 have g1 : ¬ (n : Int) < 1 := by omega
 have g2 : ¬ (n : Int) > 512 := by omega
 have fin : ∀ W1 W2 : World, W1 = w.alloc (.cells (madeCells (bys zeros).toArray (n * 256)) 162) → W2 = W1.alloc (.cells #[.slice (some ⟨w.heap.size, 0, none⟩) n n, .slice none 0 0, .slice none 0 0, .bool true, .int .i64 (-1)] 144) → DskAt W2 w.heap.size (w.heap.size + 1) none 0 none 0 (newD n) ∧ Below w.heap.size w W2 ∧ W2.heap.size = w.heap.size + 2 := by
  rintro W1 W2 rfl rfl
  refine ⟨⟨?_, ?_, RowW.nil _ _ _, RowW.nil _ _ _, by omega, inB_none _, inB_none _, inB_none _, inB_none _, fun b h => (inB_none _ h).elim, newD_ok h1 h2⟩, ((Below.refl _ w).alloc (Nat.le_refl _) _).alloc (by simp) _, by simp⟩
  ·have := Blk.new (w.alloc (.cells (madeCells (bys zeros).toArray (n * 256)) 162)) 144 #[.slice (some ⟨w.heap.size, 0, none⟩) n n, .slice none 0 0, .slice none 0 0, .bool true, .int .i64 (-1)]
   simpa [newD] using this
  ·have := (Blk.new w 162 (madeCells (bys zeros).toArray (n * 256))).alloc (.cells #[.slice (some ⟨w.heap.size, 0, none⟩) n n, .slice none 0 0, .slice none 0 0, .bool true, .int .i64 (-1)] 144)
   rw [made_blocks] at this ⊢
   exact this
 have FIN := Lib.hid fin
 have hm := fun W => make_pages n h2 W
 clear fin
 generalize madeCells (bys zeros).toArray (n * 256) = Z at *
 go_enter Tryz.func21, Tryz.ntmps21
 go_wp2
 go_ret2
 exact ⟨rfl, FIN.out _ _ rfl rfl⟩
theorem new_no (n : Int) (w : World) (h : n < 1 ∨ 512 < n) :
  Calls Tryz.prog 21 #[.int .i64 n] w fun e w' => e = .returned (.tuple #[.pointer none, .int .i64 1]) ∧ w' = w := by
 by_cases h1 : n < 1
 ·clear h
  go_enter Tryz.func21, Tryz.ntmps21
  go_wp2
  go_ret2
  exact ⟨rfl, rfl⟩
 ·have h2 : n > 512 := by omega
  clear h
  go_enter Tryz.func21, Tryz.ntmps21
  go_wp2
  go_ret2
  exact ⟨rfl, rfl⟩

section
variable {gb g cl ce : Nat} {Al Ae : Option Addr} {d d' : Dk} {w w' : World}
theorem rehead (h : DskAt w gb g Al cl Ae ce d) (k : Chg w w' (fun k => k = g)) (e1 : d'.blocks = d.blocks) (e2 : d'.line = d.line) (e3 : d'.exts = d.exts)
  (hd : Blk w' g 144 #[.slice (some ⟨gb, 0, none⟩) d.blocks.length d.blocks.length, .slice Al d.line.length cl, .slice Ae d.exts.length ce, .bool d'.on, .int .i64 d'.armed]) (ok : d'.Ok) : DskAt w' gb g Al cl Ae ce d' :=
 ⟨by rw [e1, e2, e3]; exact hd, by rw [e1]; exact h.tab.chg k h.ne, by rw [e2]; exact h.line.chg k (fun b hb e => h.lg (by have e' : b = g := e; rw [← e']; exact hb)), by rw [e3]; exact h.exts.chg k (fun b hb e => h.eg (by have e' : b = g := e; rw [← e']; exact hb)), h.ne, h.lb, h.lg, h.eb, h.eg, h.le, ok⟩
theorem cut_at (h : DskAt w gb g Al cl Ae ce d) : DskAt ((w.setCell ⟨g, 3, none⟩ (.bool false)).setCell ⟨g, 4, none⟩ (.int .i64 (-1))) gb g Al cl Ae ce (cutR d) ∧ Chg w ((w.setCell ⟨g, 3, none⟩ (.bool false)).setCell ⟨g, 4, none⟩ (.int .i64 (-1))) (fun k => k = g) := by
 have k := (Chg.set (S := fun k => k = g) w 3 (.bool false) rfl).trans (Chg.set (S := fun k => k = g) (w.setCell ⟨g, 3, none⟩ (.bool false)) 4 (.int .i64 (-1)) rfl)
 refine ⟨rehead h k rfl rfl rfl ?_ h.ok.cut, k⟩
 have := (h.head.put 3 (.bool false)).put 4 (.int .i64 (-1))
 simp at this
 exact this
theorem cut_any (h : DskAt w gb g Al cl Ae ce d) :
  Calls Tryz.prog 69 #[.pointer (some ⟨g, 0, none⟩)] w fun e w' => e = .returned (.tuple #[]) ∧ DskAt w' gb g Al cl Ae ce (cutR d) ∧ Chg w w' (fun k => k = g) := by
 have c3 := (heads h).2.2.2.1
 have c4 := (heads h).2.2.2.2
 have f3 := h.head.frozen 3
 have f4 := h.head.frozen 4
 have FIN := Lib.hid (cut_at h)
 clear h
 go_enter Tryz.func69, Tryz.ntmps69
 go_wp2
 go_end0
 exact ⟨rfl, FIN.out⟩
end
end Go.Proofs.YtbkjjakkihbcdaaGreat.Di

/- Package disk: Grant. Conditions: those that each states. -/
namespace Go.Proofs.YtbkjjakkihbcdaaGreat.Di
open Go.ChangeShapes Go.WideShapes Go.ChangeAt Go.RowKit Go.Deep
set_option linter.unusedVariables false

section
variable {gb g cl ce q cap : Nat} {Al Ae : Option Addr} {d : Dk} {w w1 w2 : World} {F : Nat → Prop}
theorem extsC_snoc (l : List Ex) (x : Ex) : extsC (l ++ [x]) = extsC l ++ x.cells := by simp [extsC]
theorem lineC_snoc (l : List Wr) (x : Wr) : lineC (l ++ [x]) = lineC l ++ x.cells := by simp [lineC]
theorem grant_at (h : DskAt w gb g Al cl Ae ce d) (hb : Below w.heap.size w w1) {H : Nat} (hz : w.heap.size ≤ H) (hg : w1.grownBy w2 (Value.slice Ae d.exts.length ce).ownBlock) (hat : (Value.slice Ae d.exts.length ce).ownBlock = some q ∨ q = H) {e f n : Nat}
  (hown : w2.ownsRow 0 149 3 (.slice (some ⟨q, 0, none⟩) (d.exts.length + 1) cap) (d.exts.length + 1) (extsC d.exts ++ (⟨e, f, n⟩ : Ex).cells)) (ok : (granted d e f n).Ok) :
  Blk w2 g 144 #[.slice (some ⟨gb, 0, none⟩) d.blocks.length d.blocks.length, .slice Al d.line.length cl, .slice Ae d.exts.length ce, .bool d.on, .int .i64 d.armed] ∧
  DA (w2.setCell ⟨g, 2, none⟩ (.slice (some ⟨q, 0, none⟩) (d.exts.length + 1) cap)) (foot gb g Al (some ⟨q, 0, none⟩)) g (granted d e f n) ∧
  Step w (w2.setCell ⟨g, 2, none⟩ (.slice (some ⟨q, 0, none⟩) (d.exts.length + 1) cap)) (foot gb g Al Ae) (foot gb g Al (some ⟨q, 0, none⟩)) := by
 have k := chg_of_grown hb hg
 have ha := at_of hz hat
 have hgl := h.head.lt
 have hbl := h.tab.lt
 have b1 := h.head.chg k h.eg
 have t1 := h.tab.chg k h.eb
 have l1 := h.line.chg k (fun b hb e => h.le b hb e)
 have r1 : RowW w2 149 3 (some ⟨q, 0, none⟩) (d.exts.length + 1) cap (extsC d.exts ++ (⟨e, f, n⟩ : Ex).cells) := ⟨hown⟩
 have hqg : q ≠ g := fun e => by
  rcases ha with e1 | e1
  ·exact h.eg (by rw [← e]; exact e1)
  ·omega
 have hqb : q ≠ gb := fun e => by
  rcases ha with e1 | e1
  ·exact h.eb (by rw [← e]; exact e1)
  ·omega
 have ks : Chg w2 (w2.setCell ⟨g, 2, none⟩ (.slice (some ⟨q, 0, none⟩) (d.exts.length + 1) cap)) (fun k => k = g) := Chg.set _ _ _ rfl
 refine ⟨b1, ⟨gb, Al, cl, _, cap, ⟨?_, t1.chg ks h.ne, l1.chg ks (fun b hb e => h.lg (by have e' : b = g := e; rw [← e']; exact hb)), ?_, h.ne, h.lb, h.lg, fun e => hqb (inB_some e).symm, fun e => hqg (inB_some e).symm, (h.le.symm.new (fun b hb => h.line.lt b hb) ha).symm, ok⟩, fun _ => Iff.rfl⟩, ⟨?_, ?_⟩⟩
 ·have := b1.put 2 (.slice (some ⟨q, 0, none⟩) (d.exts.length + 1) cap)
  simp at this
  have e1 : (granted d e f n).exts.length = d.exts.length + 1 := by simp [granted]
  rw [e1]
  exact this
 ·have e1 : (granted d e f n).exts.length = d.exts.length + 1 := by simp [granted]
  rw [e1]
  have e2 : extsC (granted d e f n).exts = extsC d.exts ++ (⟨e, f, n⟩ : Ex).cells := extsC_snoc _ _
  rw [e2]
  exact r1.chg ks (fun b hb e => hqg (by have e' : b = g := e; rw [← e']; exact (inB_some hb).symm))
 ·exact (k.weak (fun i hi => .inr (.inr (.inr hi)))).trans (ks.weak (fun i hi => .inr (.inl hi)))
 ·rintro i (rfl | rfl | h1 | h1)
  ·exact .inl (.inl rfl)
  ·exact .inl (.inr (.inl rfl))
  ·exact .inl (.inr (.inr (.inl h1)))
  ·rw [inB_some h1]
   rcases ha with e1 | e1
   ·exact .inl (.inr (.inr (.inr e1)))
   ·exact .inr e1
theorem ext_infos : ∃ i0 z, Tryz.prog.info? 149 = some i0 ∧ i0.zero = some z ∧ z.cells.size = 3 ∧ i0.size = 3 ∧ i0.bytes = 24 := by
 obtain ⟨i, hi, hs⟩ := Option.map_eq_some_iff.1 (show (Tryz.prog.info? 149).map (fun i => (i.zero.map (·.cells.size), i.size, i.bytes)) = some (some 3, 3, 24) by kernel_rfl)
 simp only [Prod.mk.injEq] at hs
 obtain ⟨h0, h1, h2⟩ := hs
 obtain ⟨z, hz, hzc⟩ := Option.map_eq_some_iff.1 h0
 exact ⟨i, z, hi, hz, hzc, h1, h2⟩
theorem ints_one (a b c : Int) : ∀ u ∈ ([.int .i64 a, .int .i64 b, .int .i64 c] : List Value), u.oneCell' = true := by
 intro u hu
 simp only [List.mem_cons, List.not_mem_nil, or_false] at hu
 rcases hu with rfl | rfl | rfl <;> rfl

set_option maxRecDepth 100000 in
set_option maxHeartbeats 2000000 in
theorem grant_no (h : DskAt w gb g Al cl Ae ce d) (env first n : Int) (wf : -9223372036854775808 ≤ first ∧ first ≤ 9223372036854775807) (hn : noGrant d env first n) :
  Calls Tryz.prog 22 #[.pointer (some ⟨g, 0, none⟩), .int .i64 env, .int .i64 first, .int .i64 n] w fun e w' => e = .returned (.int .i64 1) ∧ w' = w := by
 have SZ := Lib.hid (size_any h)
 have n2 := h.ok.n2
 unfold noGrant at hn
 by_cases h1 : env < 1
 ·clear h hn
  go_enter Tryz.func22, Tryz.ntmps22
  go_wp2
  go_ret
  exact ⟨rfl, rfl⟩
 by_cases h2 : env > 2
 ·clear h hn
  go_enter Tryz.func22, Tryz.ntmps22
  go_wp2
  go_ret
  exact ⟨rfl, rfl⟩
 by_cases h3 : n ≤ 0
 ·clear h hn
  go_enter Tryz.func22, Tryz.ntmps22
  go_wp2
  go_ret
  exact ⟨rfl, rfl⟩
 by_cases h4 : first < 0
 ·clear h hn
  go_enter Tryz.func22, Tryz.ntmps22
  go_wp2
  go_ret
  exact ⟨rfl, rfl⟩
 have x0 : IntKind.i64.wrap ((d.blocks.length : Int) - first) = (d.blocks.length : Int) - first := IntWalk.i64_in _ (by omega)
 have h5 : n > (d.blocks.length : Int) - first := by
  rcases hn with hn | hn | hn | hn | hn
  ·exact absurd hn h1
  ·exact absurd hn h2
  ·exact absurd hn h3
  ·exact absurd hn h4
  ·exact hn
 clear h hn
 go_enter Tryz.func22, Tryz.ntmps22
 go_wp2_with fail
 refine SZ.out.mono ?_; rintro e w1 ⟨rfl, rfl⟩
 go_wp2
 go_ret
 exact ⟨rfl, rfl⟩

set_option maxRecDepth 100000 in
set_option maxHeartbeats 2000000 in
theorem grant_yes (h : DskAt w gb g Al cl Ae ce d) (env : Int) (e0 f n : Nat) (he : env = (e0 : Int)) (he2 : 1 ≤ e0 ∧ e0 ≤ 2) (hn : 1 ≤ n) (hf : f + n ≤ d.blocks.length) (hcnt : d.exts.length < 1000000) (r : Dk × Int) (hr : r = if busy d f n = true then (d, 20) else (granted d e0 f n, 0)) :
  Calls Tryz.prog 22 #[.pointer (some ⟨g, 0, none⟩), .int .i64 env, .int .i64 (f : Int), .int .i64 (n : Int)] w fun e w' => e = .returned (.int .i64 r.2) ∧ ∃ F', DA w' F' g r.1 ∧ Step w w' (foot gb g Al Ae) F' := by
 have SZ := Lib.hid (size_any h)
 have n2 := h.ok.n2
 have H := Lib.hid h
 have R := Lib.hid hr
 have hgl := h.head.lt
 have x0 : IntKind.i64.wrap ((d.blocks.length : Int) - (f : Int)) = (d.blocks.length : Int) - (f : Int) := IntWalk.i64_in _ (by omega)
 have x1 : IntKind.i64.wrap ((f : Int) + (n : Int)) = (f : Int) + (n : Int) := IntWalk.i64_in _ (by omega)
 have g1 : ¬ env < 1 := by omega
 have g2 : ¬ env > 2 := by omega
 have g3 : ¬ (n : Int) ≤ 0 := by omega
 have g4 : ¬ (f : Int) < 0 := by omega
 have g5 : ¬ (n : Int) > (d.blocks.length : Int) - (f : Int) := by omega
 subst he
 obtain ⟨ie, ze, hi, hz, hzc, hs, hby⟩ := ext_infos
 have INF := Lib.hid (And.intro hi (And.intro hz (And.intro hzc (And.intro hs hby))))
 clear h hr hi hz hzc hs hby
 go_enter Tryz.func22, Tryz.ntmps22
 go_wp2_with fail
 refine SZ.out.mono ?_; rintro e w1 ⟨rfl, rfl⟩
 go_wp2
 go_loopw [9] (fun i wr => ∃ (j : Nat), f ≤ j ∧ j ≤ f + n ∧ i = .int .i64 (j : Int) ∧ Hid (∀ b, f ≤ b → b < j → d.own b = 0) ∧ Below w1.heap.size w1 wr) (fun i _ => f + n - (intOf i).toNat)
 case atStart => exact ⟨f, Nat.le_refl _, by omega, rfl, Lib.hid (fun _ _ _ => by omega), Below.refl _ _⟩
 case round =>
  obtain ⟨j, hj, hj2, rfl, NO, hbel⟩ := hrel
  by_cases hlt : j < f + n
  ·have j1 : (j : Int) < (f : Int) + (n : Int) := by omega
   have xj := IntWalk.i64_in ((j : Int) + 1) (by omega)
   have GR := Lib.hid (granted_any (H.out.new hbel) j (by omega))
   have hsz : w1.heap.size ≤ wr.heap.size := hbel.size
   have HB := Lib.hid hbel
   clear hbel
   by_cases ho : d.own j ≠ 0
   ·have hd : decide (d.own j ≠ 0) = true := decide_eq_true ho
    rw [hd] at GR
    have RV := Lib.hid (show r = (d, 20) from R.out.trans (if_pos (busy_yes hj (by omega) ho)))
    clear hd ho
    go_wp2_with fail
    refine GR.out.mono ?_; rintro e w2 ⟨rfl, b2⟩
    have B2 := Lib.hid (HB.out.trans (b2.mono hsz))
    clear b2
    go_wp2
    go_ret
    rw [RV.out]
    exact ⟨rfl, _, H.out.da.new B2.out, Step.new B2.out _⟩
   ·have ho' : d.own j = 0 := by omega
    have hd : decide (d.own j ≠ 0) = false := decide_eq_false ho
    rw [hd] at GR
    have NO2 : Hid (∀ b, f ≤ b → b < j + 1 → d.own b = 0) := Lib.hid (fun b h1 h2 => by
     by_cases e : b = j
     ·subst e; exact ho'
     ·exact NO.out b h1 (by omega))
    clear hd ho ho'
    go_wp2_with fail
    refine GR.out.mono ?_; rintro e w2 ⟨rfl, b2⟩
    have B2 := Lib.hid (HB.out.trans (b2.mono hsz))
    clear b2
    go_wp2
    go_roundw
    case rel => exact ⟨j + 1, by omega, by omega, by simp, NO2, B2.out⟩
    case measure => simp [intOf]; omega
  ·have hge : ¬ (j : Int) < (f : Int) + (n : Int) := by omega
   obtain rfl : j = f + n := by omega
   have hbusy : busy d f n = false := busy_of (fun b h1 h2 => NO.out b h1 h2)
   have RV := Lib.hid (show r = (granted d e0 f n, 0) from R.out.trans (by rw [hbusy]; rfl))
   have OK := Lib.hid (H.out.ok.granted he2 hn hf hbusy)
   have hsz : w1.heap.size ≤ wr.heap.size := hbel.size
   have HD := Lib.hid (H.out.new hbel)
   have HB := Lib.hid hbel
   have c2 := (heads HD.out).2.2.1
   have hgl2 : g < wr.heap.size := HD.out.head.lt
   have hcell : ∀ j u, ([.int .i64 (e0 : Int), .int .i64 (f : Int), .int .i64 (n : Int)] : List Value)[j]? = some u → (wr.alloc (.cells #[.int .i64 (e0 : Int), .int .i64 (f : Int), .int .i64 (n : Int)] 149)).cell? ((⟨wr.heap.size, 0, none⟩ : Addr).add j) = some u :=
    World.news_of_block (Blk.new wr _ _)
   have HC := Lib.hid hcell
   clear hbel hbusy hcell
   go_wp2_with (at_builtin; refine Hid.out ?_)
   unfold Hid
   refine wpList_append_lies _ rfl (.tmp 49) (.tmp 54) 142 rfl 0 149 ie ze 3 24 Tryz.underlying142 INF.out.1 INF.out.2.1 INF.out.2.2.2.1 INF.out.2.2.2.2 INF.out.2.2.1 (by decide) _ d.exts.length (extsC d.exts) rfl (HD.out.exts.new ((Below.refl _ wr).alloc (Nat.le_refl _) _)).own ⟨wr.heap.size, 0, none⟩ 1 1 [.int .i64 (e0 : Int), .int .i64 (f : Int), .int .i64 (n : Int)] rfl rfl HC.out (ints_one _ _ _) (by decide) (by unfold maxLen; omega) (by omega) (by omega) (wr.heap.size + 1) (by simp) ?_
   intro q cap w2 hown hgrow hat hlg
   obtain ⟨hd1, hda, hst⟩ := grant_at HD.out ((Below.refl _ wr).alloc (Nat.le_refl _) (.cells #[.int .i64 (e0 : Int), .int .i64 (f : Int), .int .i64 (n : Int)] 149)) (Nat.le_succ _) hgrow hat hown OK.out
   have c1 : w2.cell? ⟨g, 2, none⟩ = some (.slice Ae d.exts.length ce) := hd1.cell 2
   have f1 := hd1.frozen 2
   have FIN := Lib.hid (And.intro hda ((Step.new HB.out _).trans hst))
   clear hown hgrow hat hd1 hda hst c2
   go_wp2
   go_ret
   rw [RV.out]
   exact ⟨rfl, _, FIN.out⟩
theorem grant_any (h : DA w F g d) (env first n : Int) (wf : -9223372036854775808 ≤ first ∧ first ≤ 9223372036854775807) (hcnt : d.exts.length < 1000000) :
  Calls Tryz.prog 22 #[.pointer (some ⟨g, 0, none⟩), .int .i64 env, .int .i64 first, .int .i64 n] w fun e w' => e = .returned (.int .i64 (grantR d env first n).2) ∧ ∃ F', DA w' F' g (grantR d env first n).1 ∧ Step w w' F F' := by
 obtain ⟨gb, Al, cl, Ae, ce, D, hF⟩ := h
 have hFe : F = foot gb g Al Ae := funext fun k => propext (hF k)
 subst hFe
 unfold grantR
 by_cases hn : noGrant d env first n
 ·rw [if_pos hn]
  refine (grant_no D env first n wf hn).mono ?_
  rintro e w' ⟨rfl, rfl⟩
  exact ⟨rfl, _, D.da, Step.refl _ _⟩
 ·rw [if_neg hn]
  unfold noGrant at hn
  obtain ⟨e0, rfl⟩ : ∃ e0 : Nat, env = (e0 : Int) := ⟨env.toNat, by omega⟩
  obtain ⟨f, rfl⟩ : ∃ f : Nat, first = (f : Int) := ⟨first.toNat, by omega⟩
  obtain ⟨m, rfl⟩ : ∃ m : Nat, n = (m : Int) := ⟨n.toNat, by omega⟩
  simp only [Int.toNat_natCast]
  exact grant_yes D _ e0 f m rfl (by omega) (by omega) (by omega) hcnt _ rfl
end
end Go.Proofs.YtbkjjakkihbcdaaGreat.Di
