/- Package gather: Check and Fetch. Conditions: those that each states. -/
import Derived.Test.YtefnkednnnlhoaaGreatDoorGaT
import Derived.Test.YtefnkednnnlhoaaGreatDoorMAG
namespace Go.Proofs.YtefnkednnnlhoaaGreatDoor
open Go.ChangeShapes Go.WideShapes Go.ChangeAt Go.RowKit Go.Deep Fr
set_option linter.unusedVariables false

def checkR (ps : List Pg) (env : Int) (l : List Pc) : Int :=
  if fitsR ps.length env l = 0 then (if ∀ p ∈ l, ((pg ps p.frame).owner : Int) = env then 0 else 20) else fitsR ps.length env l
theorem fits_of_zero {n : Nat} {env : Int} {l : List Pc} (h : fitsR n env l = 0) : (env = 1 ∨ env = 2) ∧ l ≠ [] ∧ (∀ p ∈ l, p.Fits n) ∧ l.length ≤ 16 ∧ sizeR l ≤ 1024 := by
  unfold fitsR at h
  split at h
  · rename_i h1
    split at h
    · cases h
    · exact ⟨h1.1, h1.2.1, h1.2.2, by omega, by omega⟩
  · cases h
instance (ps : List Pg) (f : Int) : Decidable (isF ps f) := inferInstanceAs (Decidable (_ ∧ _))
section
variable {gs g : Nat} {ps : List Pg} {w : World}
end
end Go.Proofs.YtefnkednnnlhoaaGreatDoor

/- What Owner and Holds tell. Conditions: those that each states. -/
namespace Go.Proofs.YtefnkednnnlhoaaGreatDoor
open Go.ChangeShapes Go.WideShapes Go.ChangeAt Go.RowKit Go.Deep Fr
set_option linter.unusedVariables false

def holdsV (ps : List Pg) (f : Int) : Int := if isF ps f then ((pg ps f).holds : Int) else 0
theorem isF_nat {ps : List Pg} {f : Int} (h : isF ps f) : ∃ k : Nat, ∃ hk : k < ps.length, f = (k : Int) := ⟨f.toNat, by have := h.1; have := h.2; omega, by have := h.1; omega⟩
section
variable {gs g : Nat} {ps : List Pg} {w : World}
theorem holds_any (h : Tab w gs g ps) (f : Int) :
    Calls Tryz.prog 160 #[.pointer (some ⟨g, 0, none⟩), .int .i64 f] w fun e w' => e = .returned (.int .i64 (holdsV ps f)) ∧ w' = w := by
  unfold holdsV
  by_cases hf : isF ps f
  · rw [if_pos hf]
    obtain ⟨k, hk, rfl⟩ := isF_nat hf
    rw [pg_at hk]
    exact holds_yes h k hk
  · rw [if_neg hf]
    exact holds_no h f hf
end
end Go.Proofs.YtefnkednnnlhoaaGreatDoor

/- Package gather: Drop. Conditions: those that each states. -/
namespace Go.Proofs.YtefnkednnnlhoaaGreatDoor
open Go.ChangeShapes Go.WideShapes Go.ChangeAt Go.RowKit Go.Deep Fr
set_option linter.unusedVariables false

theorem wpList_alloc_was {P : Program} {ops : Array Oper} {rest : List Oper} {o : Oper} {a : Act} {w : World} {Q : Exit → Act → World → Prop} (hgd : o.guard = none) (t : TypeId) (ho : o.op = .alloc t) (cells : Array Value) (hi : (P.info? t).map (fun i => (i.zero.map (·.cells))) = some (some cells))
    (h : wpList P ops Q rest (a.put o.dst (.pointer (some ⟨w.heap.size, 0, none⟩))) (w.alloc (.cells cells t))) : wpList P ops Q (o :: rest) a w := by
  obtain ⟨i, hi', hs⟩ := Option.map_eq_some_iff.1 hi
  obtain ⟨z, hz, rfl⟩ := Option.map_eq_some_iff.1 hs
  clear hi hs
  refine wpList_plain hgd fun K hK => ?_
  have hrun : (Instr.alloc t true (.tuple #[])).run P w = .ok (.pointer (some ⟨w.heap.size, 0, none⟩)) (w.alloc (.cells z.cells t)) := by
    simp [Instr.alloc, zeroValue, typeInfo, hi', hz, newVar, newRow]
  unfold Oper.wp execOp
  simp only [ho, Sem.run_bind, hrun, Result.andThen_ok, Sem.run_pure]
  exact hK _ _ h
/-- How often a frame stands in a list. -/
def cnt (l : List Pc) (f : Int) : Nat := l.countP (fun p => decide (p.frame = f))
theorem cnt_succ {l : List Pc} {j : Nat} (hj : j < l.length) (f : Int) : cnt (l.take (j + 1)) f = cnt (l.take j) f + if l[j].frame = f then 1 else 0 := by
  unfold cnt
  rw [List.take_succ_eq_append_getElem hj, List.countP_append]
  by_cases e : l[j].frame = f <;> simp [e]
theorem cnt_le (l : List Pc) (j : Nat) (f : Int) : cnt (l.take j) f ≤ cnt l f := by
  have h := List.countP_append (p := fun p => decide (p.frame = f)) (l₁ := l.take j) (l₂ := l.drop j)
  rw [List.take_append_drop] at h
  unfold cnt
  omega
theorem cnt_len (l : List Pc) (f : Int) : cnt l f ≤ l.length := List.countP_le_length
def dropN (ps : List Pg) (l : List Pc) : List Pg := l.foldl (fun ps p => (dropR ps p.frame).1) ps
theorem dropN_succ {ps : List Pg} {l : List Pc} {j : Nat} (hj : j < l.length) : dropN ps (l.take (j + 1)) = (dropR (dropN ps (l.take j)) l[j].frame).1 := by
  unfold dropN
  rw [List.take_succ_eq_append_getElem hj, List.foldl_append]
  rfl
def Pc.Drops (ps : List Pg) (l : List Pc) (p : Pc) : Prop := isF ps p.frame ∧ cnt l p.frame ≤ (pg ps p.frame).holds
instance (ps : List Pg) (l : List Pc) (p : Pc) : Decidable (p.Drops ps l) := inferInstanceAs (Decidable (_ ∧ _))
def dropG (ps : List Pg) (l : List Pc) : List Pg × Int := if ∀ p ∈ l, p.Drops ps l then (dropN ps l, 0) else (ps, 1)
theorem times_infos : (Tryz.prog.info? 248).map (fun i => (i.zero.map (·.cells))) = some (some (Array.replicate 256 (.int .i64 0))) := by kernel_rfl
/-- The counters of frames. -/
structure Times (w : World) (D : Nat) (l : List Pc) : Prop where
  row : ∃ cs : Array Value, Blk w D 248 cs ∧ cs.size = 256 ∧ ∀ f : Nat, f < 256 → cs[f]? = some (.int .i64 (cnt l (f : Int) : Int))
theorem Times.new {w w' : World} {D : Nat} {l : List Pc} (h : Times w D l) (k : Below w.heap.size w w') : Times w' D l := by
  obtain ⟨cs, hb, r⟩ := h.row
  exact ⟨cs, hb.older (older_below k), r⟩
theorem Times.cell {w : World} {D : Nat} {l : List Pc} (h : Times w D l) {f : Nat} (hf : f < 256) : w.cell? ⟨D, f, none⟩ = some (.int .i64 (cnt l (f : Int) : Int)) := by
  obtain ⟨cs, hb, _, hc⟩ := h.row
  rw [hb.cell, hc f hf]
theorem Times.thaw {w : World} {D : Nat} {l : List Pc} (h : Times w D l) (f : Nat) : w.frozen? ⟨D, f, none⟩ = false := by
  obtain ⟨cs, hb, _⟩ := h.row
  exact hb.frozen f
theorem Times.lt {w : World} {D : Nat} {l : List Pc} (h : Times w D l) : D < w.heap.size := by
  obtain ⟨cs, hb, _⟩ := h.row
  exact hb.lt
theorem Times.put {w : World} {D : Nat} {l : List Pc} {j : Nat} (hj : j < l.length) (h : Times w D (l.take j)) {k : Nat} (hk : k < 256) (hf : l[j].frame = (k : Int)) : Times (w.setCell ⟨D, k, none⟩ (.int .i64 ((cnt (l.take j) (k : Int) : Int) + 1))) D (l.take (j + 1)) := by
  obtain ⟨cs, hb, hs, hc⟩ := h.row
  refine ⟨_, hb.put _ _, by simpa using hs, fun f hf' => ?_⟩
  rw [cnt_succ hj, hf, Array.getElem?_setIfInBounds]
  by_cases e : k = f
  · subst e
    rw [if_pos rfl, if_pos (by omega), if_pos rfl]
    simp
  · rw [if_neg e, hc f hf', if_neg (by omega)]
    simp
theorem Times.zero (w : World) : Times (w.alloc (.cells (Array.replicate 256 (.int .i64 0)) 248)) w.heap.size [] := by
  refine ⟨_, Blk.new w _ _, by simp, fun f hf => ?_⟩
  rw [Array.getElem?_replicate, if_pos hf]
  rfl
theorem Pcs.chg {w w' : World} {A : Option Addr} {l : List Pc} {S : Nat → Prop} (h : Pcs w A l) (k : Chg w w' S) (hn : ∀ b o, A = some ⟨b, o, none⟩ → ¬ S b) : Pcs w' A l := by
  intro i hi
  obtain ⟨b, o, e, hb, h1⟩ := h i hi
  refine ⟨b, o, e, Nat.lt_of_lt_of_le hb k.size, fun j v hj => ?_⟩
  rw [World.cell?_of_block (w := w) (w' := w') (a := ⟨b, o + i * 3 + j, none⟩) (k.block b hb (hn b o e))]
  exact h1 j v hj
section
variable {gs g : Nat} {ps : List Pg} {w : World}
set_option maxRecDepth 100000 in
set_option maxHeartbeats 4000000 in
theorem drop_list (h : Tab w gs g ps) (A : Option Addr) (c : Nat) (l : List Pc) (hp : Pcs w A l) (hA : ∀ b o, A = some ⟨b, o, none⟩ → b ≠ gs) (hmax : l.length ≤ 1000000) :
    Calls Tryz.prog 140 #[.pointer (some ⟨g, 0, none⟩), .slice A l.length c] w fun e w' => e = .returned (.int .i64 (dropG ps l).2) ∧ Tab w' gs g (dropG ps l).1 ∧ Chg w w' (fun k => k = gs) := by
  have T := Lib.hid h
  have P := Lib.hid hp
  have HA := Lib.hid hA
  have n2 := h.n2
  have hgl : gs < w.heap.size := h.blk
  obtain ⟨Z, hZ⟩ : ∃ Z : Array Value, Z = Array.replicate 256 (.int .i64 0) := ⟨_, rfl⟩
  have B0 := Lib.hid ((Below.refl w.heap.size w).alloc (Nat.le_refl _) (.cells Z 248))
  have TM0 := Times.zero w
  have hinf := times_infos
  rw [← hZ] at TM0 hinf
  have TM0 := Lib.hid TM0
  have INF := Lib.hid hinf
  have HDR := Lib.hid (fun W (T : Tab W gs g ps) (f : Int) => holds_any T f)
  clear hp hA h hZ hinf
  go_enter Tryz.func140, Tryz.ntmps140
  go_wp2_with (refine wpList_alloc_was rfl 248 rfl Z INF.out ?_)
  go_loopw [14] (fun i wr => ∃ (j : Nat), j ≤ l.length ∧ i = .int .i64 (j : Int) ∧ Hid (∀ x (hx : x < l.length), x < j → isF ps l[x].frame ∧ cnt (l.take j) l[x].frame ≤ (pg ps l[x].frame).holds) ∧ Hid (Times wr w.heap.size (l.take j)) ∧ Hid (Below w.heap.size w wr)) (fun i _ => l.length - (intOf i).toNat)
  case atStart => exact ⟨0, Nat.zero_le _, rfl, Lib.hid (fun x hx h => absurd h (by omega)), TM0, B0⟩
  case round =>
    clear B0 TM0
    obtain ⟨j, hj, rfl, hg, TM, HB⟩ := hrel
    have hgs : w.heap.size ≤ wr.heap.size := HB.out.size
    have P1 := Lib.hid (P.out.new HB.out)
    by_cases hlt : j < l.length
    · have hlt' : (j : Int) < (l.length : Int) := by omega
      have j0 : (0 : Int) ≤ (j : Int) := by omega
      have xj := IntWalk.i64_in ((j : Int) + 1) (by omega)
      obtain ⟨b, o, rfl, hbl, hr⟩ := P1.out j hlt
      have LD := Lib.hid (show wr.rangeAt b (o + j * 3) [.int .i64 l[j].frame, .int .i64 l[j].off, .int .i64 l[j].len] from hr)
      have hb1 := (Below.refl wr.heap.size wr).alloc (Nat.le_refl _) (.cells #[.int .i64 l[j].frame, .int .i64 l[j].off, .int .i64 l[j].len] 213)
      have HB2 := Lib.hid (HB.out.trans (hb1.mono hgs))
      have HO := Lib.hid (HDR.out _ ((T.out.new HB.out).new hb1) l[j].frame)
      have T2 := Lib.hid ((T.out.new HB.out).new hb1)
      by_cases h0 : holdsV ps l[j].frame = 0
      · have BAD := Lib.hid (show dropG ps l = (ps, 1) by
          unfold dropG
          rw [if_neg]
          intro h1
          obtain ⟨h2, h3⟩ := h1 _ (List.getElem_mem hlt)
          have h4 : 1 ≤ cnt l l[j].frame := by
            have := cnt_le l (j + 1) l[j].frame
            have := cnt_succ hlt l[j].frame
            rw [if_pos rfl] at this
            omega
          unfold holdsV at h0
          rw [if_pos h2] at h0
          omega)
        rw [h0] at HO
        generalize l[j].frame = qf at *
        generalize l[j].off = qo at *
        generalize l[j].len = qn at *
        clear hr hb1 hg h0
        go_wp2_with (first
          | (refine wpList_load_mid rfl 213 (.tmp 16) rfl b (o + j * 3) rfl _ _ LD.out Tryz.underlying213 rfl piece_info ?_)
          | fail)
        refine HO.out.mono ?_; rintro e w2 ⟨rfl, rfl⟩
        go_wp2
        go_ret
        rw [BAD.out]
        exact ⟨rfl, T2.out, Chg.of_new HB2.out _⟩
      · have hF : isF ps l[j].frame := by
          by_cases hF : isF ps l[j].frame
          · exact hF
          · exact absurd (by unfold holdsV; rw [if_neg hF]) h0
        obtain ⟨k, hk, ek⟩ := isF_nat hF
        have k256 : k < 256 := by omega
        have TM2 := TM.out.new hb1
        have c3 := TM2.cell k256
        have f3 := TM2.thaw k
        have TM3 := Times.put hlt TM2 k256 ek
        have hne : wr.heap.size ≠ w.heap.size := by have := TM.out.lt; omega
        have hcl := cnt_len (l.take j) (k : Int)
        rw [List.length_take] at hcl
        have hcs := cnt_succ hlt (k : Int)
        rw [ek, if_pos rfl] at hcs
        have hle := cnt_le l (j + 1) (k : Int)
        have ehv : holdsV ps l[j].frame = ((pg ps l[j].frame).holds : Int) := by unfold holdsV; rw [if_pos hF]
        have GD := Lib.hid (show (cnt (l.take j) (k : Int) : Int) + 1 ≤ holdsV ps l[j].frame → ∀ x (hx : x < l.length), x < j + 1 → isF ps l[x].frame ∧ cnt (l.take (j + 1)) l[x].frame ≤ (pg ps l[x].frame).holds from fun h1 x hx h => by
          by_cases e : l[x].frame = l[j].frame
          · rw [e, ek]
            rw [ek] at hF ehv h1
            rw [ehv] at h1
            exact ⟨hF, by omega⟩
          · have hxj : x < j := by
              by_cases e2 : x = j
              · subst e2; exact absurd rfl e
              · omega
            obtain ⟨g1, g2⟩ := hg.out x hx hxj
            refine ⟨g1, ?_⟩
            rw [cnt_succ hlt, if_neg (fun e2 => e e2.symm)]
            exact g2)
        have BAD := Lib.hid (show ¬ (cnt (l.take j) (k : Int) : Int) + 1 ≤ holdsV ps l[j].frame → dropG ps l = (ps, 1) from fun h1 => by
          unfold dropG
          rw [if_neg]
          intro h2
          have h3 := (h2 _ (List.getElem_mem hlt)).2
          rw [ehv] at h1
          rw [ek] at h3 h1
          omega)
        rw [ek] at LD HO h0 GD BAD
        rw [ek] at hb1 HB2 T2 c3 f3 TM3 TM2
        have hb3 : Below w.heap.size (wr.alloc (.cells #[.int .i64 (k : Int), .int .i64 l[j].off, .int .i64 l[j].len] 213)) ((wr.alloc (.cells #[.int .i64 (k : Int), .int .i64 l[j].off, .int .i64 l[j].len] 213)).setCell ⟨w.heap.size, k, none⟩ (.int .i64 ((cnt (l.take j) (k : Int) : Int) + 1))) :=
          (Chg.set (S := fun i => i = w.heap.size) _ k _ rfl).below (by simp; omega) (fun i (hi : i = w.heap.size) => by omega)
        have HB3 := Lib.hid (HB2.out.trans hb3)
        have P3 : ((wr.alloc (.cells #[.int .i64 (k : Int), .int .i64 l[j].off, .int .i64 l[j].len] 213)).setCell ⟨w.heap.size, k, none⟩ (.int .i64 ((cnt (l.take j) (k : Int) : Int) + 1))).cell? ⟨wr.heap.size, 0, none⟩ = some (.int .i64 (k : Int)) := by
          have := (Blk.new wr 213 #[.int .i64 (k : Int), .int .i64 l[j].off, .int .i64 l[j].len]).far (p := ⟨w.heap.size, k, none⟩) hne (.int .i64 ((cnt (l.take j) (k : Int) : Int) + 1))
          rw [this.cell]; rfl
        have C3 := TM3.cell k256
        rw [hcs] at C3
        replace C3 : ((wr.alloc (.cells #[.int .i64 (k : Int), .int .i64 l[j].off, .int .i64 l[j].len] 213)).setCell ⟨w.heap.size, k, none⟩ (.int .i64 ((cnt (l.take j) (k : Int) : Int) + 1))).cell? ⟨w.heap.size, k, none⟩ = some (.int .i64 ((cnt (l.take j) (k : Int) : Int) + 1)) := by simpa using C3
        have HO3 := Lib.hid (fun n => HDR.out _ ((T.out.new HB3.out).drewN n) (k : Int))
        have T3 := Lib.hid (T.out.new HB3.out)
        replace TM3 := Lib.hid TM3
        have k0 : (0 : Int) ≤ (k : Int) := by omega
        have k1 : (k : Int) < 256 := by omega
        have x1 : IntKind.i64.wrap ((cnt (l.take j) (k : Int) : Int) + 1) = (cnt (l.take j) (k : Int) : Int) + 1 := IntWalk.i64_in _ (by omega)
        have h0' : (holdsV ps (k : Int) == 0) = false := by simpa using h0
        generalize holdsV ps (k : Int) = hv at *
        generalize l[j].off = qo at *
        generalize l[j].len = qn at *
        generalize (cnt (l.take j) (k : Int) : Int) = tt at *
        generalize hW3 : (wr.alloc (.cells #[.int .i64 (k : Int), .int .i64 qo, .int .i64 qn] 213)).setCell ⟨w.heap.size, k, none⟩ (.int .i64 (tt + 1)) = W3 at *
        have HW3 := Lib.hid hW3
        replace P3 := Lib.hid P3
        replace C3 := Lib.hid C3
        clear hr hb1 hg h0 hF hcl hcs hle ehv TM2 hb3 T2 HB2 ek hW3 hne
        go_upto_region 10 with (first
          | (refine wpList_load_mid rfl 213 (.tmp 16) rfl b (o + j * 3) rfl _ _ LD.out Tryz.underlying213 rfl piece_info ?_)
          | (refine HO.out.mono ?_; rintro e w2 ⟨rfl, rfl⟩)
          | fail)
        have hp := P3.out
        have hc := C3.out
        rw [HW3.out]
        clear f3 c3 HO LD
        by_cases hgt : tt + 1 > hv
        · have B := Lib.hid (BAD.out (by omega))
          have hd := decide_eq_true hgt
          go_quiet ((go_at_call 160; exact Calls.quiet_of_same (HO3.out _)))
          go_wp2
          go_ret
          rw [B.out]
          exact ⟨rfl, T3.out.drewN _, (Chg.of_new HB3.out _).drewN _⟩
        · have G2 := Lib.hid (GD.out (by omega))
          have hd := decide_eq_false hgt
          go_quiet ((go_at_call 160; exact Calls.quiet_of_same (HO3.out _)))
          go_wp2
          go_roundw
          case rel => exact ⟨j + 1, by omega, by simp, G2, Lib.hid ⟨TM3.out.row⟩, Lib.hid ⟨HB3.out.os, HB3.out.tape, HB3.out.output, HB3.out.size, HB3.out.block⟩⟩
          case measure => simp [intOf]; omega
    · have hge : ¬ (j : Int) < (l.length : Int) := by omega
      obtain rfl : j = l.length := by omega
      have ER := Lib.hid (show dropG ps l = (dropN ps l, 0) by
        unfold dropG
        rw [if_pos]
        intro p hp
        obtain ⟨x, hx, rfl⟩ := List.mem_iff_getElem.1 hp
        have := hg.out x hx hx
        rw [List.take_length] at this
        exact this)
      have T1 := Lib.hid (show Tab wr gs g (dropN ps (l.take 0)) from T.out.new HB.out)
      have K1 := Lib.hid (Chg.of_new HB.out (fun k => k = gs))
      have P1 := Lib.hid (P.out.chg K1.out (fun b o e h => HA.out b o e h))
      clear hg TM HB hgs TM0 INF HDR
      go_wp2
      go_loopw [41] (fun i wx => ∃ (j : Nat), j ≤ l.length ∧ i = .int .i64 (j : Int) ∧ Hid (Tab wx gs g (dropN ps (l.take j))) ∧ Hid (Chg w wx (fun k => k = gs))) (fun i _ => l.length - (intOf i).toNat)
      case atStart => exact ⟨0, Nat.zero_le _, rfl, T1, K1⟩
      case round =>
        clear T1 K1 P1
        obtain ⟨j, hj, rfl, T1, K1⟩ := hrel
        have P1 := Lib.hid (P.out.chg K1.out (fun b o e h => HA.out b o e h))
        by_cases hlt : j < l.length
        · have hlt' : (j : Int) < (l.length : Int) := by omega
          have j0 : (0 : Int) ≤ (j : Int) := by omega
          have xj := IntWalk.i64_in ((j : Int) + 1) (by omega)
          obtain ⟨b, o, rfl, hbl, hr⟩ := P1.out j hlt
          have LD := Lib.hid (show wr.rangeAt b (o + j * 3) [.int .i64 l[j].frame, .int .i64 l[j].off, .int .i64 l[j].len] from hr)
          have DR := Lib.hid (Fr.drop_any (T1.out.alloc (.cells #[.int .i64 l[j].frame, .int .i64 l[j].off, .int .i64 l[j].len] 213)) l[j].frame)
          have K2 := Lib.hid (K1.out.alloc (.cells #[.int .i64 l[j].frame, .int .i64 l[j].off, .int .i64 l[j].len] 213))
          have HS := Lib.hid (dropN_succ (ps := ps) hlt)
          rw [← HS.out] at DR
          generalize (dropR (dropN ps (l.take j)) l[j].frame).2 = dv at *
          generalize l[j].frame = qf at *
          generalize l[j].off = qo at *
          generalize l[j].len = qn at *
          clear hr HS
          go_wp2_with (first
            | (refine wpList_load_mid rfl 213 (.tmp 43) rfl b (o + j * 3) rfl _ _ LD.out Tryz.underlying213 rfl piece_info ?_)
            | fail)
          refine DR.out.mono ?_; rintro e w2 ⟨rfl, t2, k2⟩
          have T2 := Lib.hid t2
          have K3 := Lib.hid (K2.out.trans k2)
          clear t2 k2
          go_wp2
          go_roundw
          case rel => exact ⟨j + 1, by omega, by simp, T2, K3⟩
          case measure => simp [intOf]; omega
        · have hge : ¬ (j : Int) < (l.length : Int) := by omega
          obtain rfl : j = l.length := by omega
          have t1 := T1.out
          rw [List.take_length] at t1
          have T2 := Lib.hid t1
          clear t1
          go_wp2
          go_ret
          rw [ER.out]
          exact ⟨rfl, T2.out, K1.out⟩
end
end Go.Proofs.YtefnkednnnlhoaaGreatDoor

/- What Hold and Drop do to a table, in plain words. Conditions: those that each states. -/
namespace Go.Proofs.YtefnkednnnlhoaaGreatDoor
open Go.ChangeShapes Go.WideShapes Go.ChangeAt Go.RowKit Go.Deep Fr
set_option linter.unusedVariables false

def holdN (ps : List Pg) (env : Int) (l : List Pc) : List Pg := l.foldl (fun ps p => (Fr.holdR ps env p.frame).1) ps
theorem holdN_succ {ps : List Pg} {env : Int} {l : List Pc} {j : Nat} (hj : j < l.length) : holdN ps env (l.take (j + 1)) = (Fr.holdR (holdN ps env (l.take j)) env l[j].frame).1 := by
  unfold holdN
  rw [List.take_succ_eq_append_getElem hj, List.foldl_append]
  rfl
def holdG (ps : List Pg) (env : Int) (l : List Pc) : List Pg × Int := if checkR ps env l = 0 then (holdN ps env l, 0) else (ps, checkR ps env l)
/-- qs is ps with other holds: those of d. -/
def Turned (ps qs : List Pg) (d : Nat → Nat) : Prop := qs.length = ps.length ∧ ∀ k (h : k < ps.length) (h' : k < qs.length), qs[k] = { ps[k] with holds := d k }
theorem Turned.refl (ps : List Pg) : Turned ps ps (fun k => (ps.getD k .blank).holds) := ⟨rfl, fun k h h' => by simp [h]⟩
theorem Turned.ext {ps qs rs : List Pg} {d : Nat → Nat} (h : Turned ps qs d) (h2 : Turned ps rs d) : qs = rs := by
  refine List.ext_getElem (h.1.trans h2.1.symm) fun k hk hk' => ?_
  rw [h.2 k (by rw [← h.1]; exact hk) hk, h2.2 k (by rw [← h.1]; exact hk) hk']
theorem Turned.pg {ps qs : List Pg} {d : Nat → Nat} (h : Turned ps qs d) {f : Int} (hf : isF ps f) : pg qs f = { pg ps f with holds := d f.toNat } := by
  obtain ⟨k, hk, rfl⟩ := isF_nat hf
  rw [pg_at hk, pg_at (by rw [h.1]; exact hk), h.2 k hk (by rw [h.1]; exact hk), Int.toNat_natCast]
theorem Turned.isF {ps qs : List Pg} {d : Nat → Nat} (h : Turned ps qs d) (f : Int) : isF qs f ↔ isF ps f := by unfold Fr.isF; rw [h.1]
theorem Turned.ownErr {ps qs : List Pg} {d : Nat → Nat} (h : Turned ps qs d) (env f : Int) : ownErr qs env f = ownErr ps env f := by
  unfold Fr.ownErr
  by_cases hE : isE env ∧ Fr.isF ps f
  · have hq : isE env ∧ Fr.isF qs f := ⟨hE.1, (h.isF f).2 hE.2⟩
    have e : (Fr.pg qs f).owner = (Fr.pg ps f).owner := by rw [h.pg hE.2]
    rw [if_pos hE, if_pos hq, e]
  · rw [if_neg hE, if_neg (fun h1 => hE ⟨h1.1, (h.isF f).1 h1.2⟩)]
theorem drop_turned {ps qs : List Pg} {d : Nat → Nat} (h : Turned ps qs d) (f : Int) : Turned ps (dropR qs f).1 (fun k => d k - if f = (k : Int) then 1 else 0) := by
  unfold dropR
  by_cases hh : isH qs f
  · rw [if_pos hh]
    obtain ⟨hF, h0⟩ := hh
    obtain ⟨j, hj, rfl⟩ := isF_nat hF
    refine ⟨by rw [List.length_set]; exact h.1, fun k hk hk' => ?_⟩
    rw [List.length_set] at hk'
    simp only [Int.toNat_natCast, pg_at hj]
    by_cases e : j = k
    · subst e
      simp [h.2 j hk hj]
    · rw [List.getElem_set_ne e, h.2 k hk hk', if_neg (by omega)]
      simp
  · rw [if_neg hh]
    refine ⟨h.1, fun k hk hk1 => ?_⟩
    have hk' : k < qs.length := hk1
    rw [h.2 k hk hk']
    by_cases e : f = (k : Int)
    · subst e
      have hF : isF qs (k : Int) := ⟨by omega, by omega⟩
      have h0 : (pg qs (k : Int)).holds = 0 := by
        by_cases e0 : (pg qs (k : Int)).holds = 0
        · exact e0
        · exact absurd ⟨hF, e0⟩ hh
      rw [pg_at hk', h.2 k hk hk'] at h0
      have h0' : d k = 0 := h0
      simp [h0']
    · simp [e]
theorem hold_turned {ps qs : List Pg} {d : Nat → Nat} (h : Turned ps qs d) {env f : Int} (he : ownErr ps env f = 0) : Turned ps (Fr.holdR qs env f).1 (fun k => d k + if f = (k : Int) then 1 else 0) := by
  unfold Fr.holdR
  rw [h.ownErr, if_pos he]
  obtain ⟨j, hj, rfl, _, _⟩ := ownErr_zero he
  have hj' : j < qs.length := by rw [h.1]; exact hj
  refine ⟨by rw [List.length_set]; exact h.1, fun k hk hk' => ?_⟩
  rw [List.length_set] at hk'
  simp only [Int.toNat_natCast, pg_at hj']
  by_cases e : j = k
  · subst e
    simp [h.2 j hk hj']
  · rw [List.getElem_set_ne e, h.2 k hk hk', if_neg (by omega)]
    simp
theorem cnt_cons (p : Pc) (l : List Pc) (f : Int) : cnt (p :: l) f = cnt l f + if p.frame = f then 1 else 0 := by
  unfold cnt
  rw [List.countP_cons]
  by_cases e : p.frame = f <;> simp [e]
theorem dropN_turned {ps : List Pg} (l : List Pc) {qs : List Pg} {d : Nat → Nat} (h : Turned ps qs d) : Turned ps (dropN qs l) (fun k => d k - cnt l (k : Int)) := by
  induction l generalizing qs d with
  | nil => simpa [dropN, cnt] using h
  | cons p l ih =>
    have h1 := ih (drop_turned h p.frame)
    have e : (fun k => d k - (if p.frame = (k : Int) then 1 else 0) - cnt l (k : Int)) = (fun k => d k - cnt (p :: l) (k : Int)) := by
      funext k
      rw [cnt_cons]
      omega
    rw [e] at h1
    exact h1
theorem holdN_turned {ps : List Pg} {env : Int} (l : List Pc) (hl : ∀ p ∈ l, ownErr ps env p.frame = 0) {qs : List Pg} {d : Nat → Nat} (h : Turned ps qs d) : Turned ps (holdN qs env l) (fun k => d k + cnt l (k : Int)) := by
  induction l generalizing qs d with
  | nil => simpa [holdN, cnt] using h
  | cons p l ih =>
    have h1 := ih (fun q hq => hl q (by simp [hq])) (hold_turned h (hl p (by simp)))
    have e : (fun k => d k + (if p.frame = (k : Int) then 1 else 0) + cnt l (k : Int)) = (fun k => d k + cnt (p :: l) (k : Int)) := by
      funext k
      rw [cnt_cons]
      omega
    rw [e] at h1
    exact h1
/-- What has been held and is dropped is as it was. -/
theorem dropG_holdN {ps : List Pg} {env : Int} {l : List Pc} (hl : ∀ p ∈ l, ownErr ps env p.frame = 0) : dropG (holdN ps env l) l = (ps, 0) := by
  have h1 := holdN_turned l hl (Turned.refl ps)
  have h2 := dropN_turned l h1
  have e : (fun k => (ps.getD k .blank).holds + cnt l (k : Int) - cnt l (k : Int)) = fun k => (ps.getD k .blank).holds := by funext k; omega
  rw [e] at h2
  unfold dropG
  rw [if_pos]
  · rw [h2.ext (Turned.refl ps)]
  · intro p hp
    obtain ⟨j, hj, ej, _, _⟩ := ownErr_zero (hl p hp)
    have hF : isF ps p.frame := by rw [ej]; exact ⟨by omega, by omega⟩
    refine ⟨(h1.isF _).2 hF, ?_⟩
    rw [h1.pg hF, ej]
    show cnt l (j : Int) ≤ (ps.getD _ Pg.blank).holds + cnt l (((j : Int).toNat : Nat) : Int)
    rw [Int.toNat_natCast]
    omega
theorem owner_ownErr {ps : List Pg} {env f : Int} (he : env = 1 ∨ env = 2) (hF : isF ps f) : ownErr ps env f = if ((pg ps f).owner : Int) = env then 0 else 20 := by
  unfold ownErr; rw [if_pos ⟨he, hF⟩]
theorem check_zero {ps : List Pg} {env : Int} {l : List Pc} (h : checkR ps env l = 0) : fitsR ps.length env l = 0 ∧ ∀ p ∈ l, ownErr ps env p.frame = 0 := by
  unfold checkR at h
  by_cases hf : fitsR ps.length env l = 0
  · rw [if_pos hf] at h
    obtain ⟨he, _, hall, _⟩ := fits_of_zero hf
    refine ⟨hf, fun p hp => ?_⟩
    obtain ⟨_, _, h3, h4⟩ := hall p hp
    rw [owner_ownErr he ⟨h3, h4⟩]
    split at h
    · rename_i h5
      rw [if_pos (h5 p hp)]
    · cases h
  · rw [if_neg hf] at h
    exact absurd h hf
theorem Turned.max {ps qs : List Pg} {d : Nat → Nat} (h : Turned ps qs d) {m : Nat} (hd : ∀ k, k < ps.length → d k < m) : ∀ p ∈ qs, p.holds < m := by
  intro p hp
  obtain ⟨k, hk, rfl⟩ := List.mem_iff_getElem.1 hp
  have hk' : k < ps.length := by rw [← h.1]; exact hk
  rw [h.2 k hk' hk]
  exact hd k hk'
theorem holdN_max {ps : List Pg} {env : Int} {l : List Pc} {m : Nat} (hl : ∀ p ∈ l, ownErr ps env p.frame = 0) (hm : ∀ p ∈ ps, p.holds + l.length < m) : ∀ p ∈ holdN ps env l, p.holds < m := by
  refine (holdN_turned l hl (Turned.refl ps)).max fun k hk => ?_
  have h1 := hm ps[k] (List.getElem_mem hk)
  have h2 := cnt_len l (k : Int)
  have e : (ps.getD k Pg.blank) = ps[k] := by simp [hk]
  rw [e]
  omega
end Go.Proofs.YtefnkednnnlhoaaGreatDoor
