/- All that KernPlays wants, in one place. -/
import Derived.Test.YtbkjjakkihbcdaaGreatMAM
import Derived.Test.YtbkjjakkihbcdaaGreatMAO
import Derived.Test.YtbkjjakkihbcdaaGreatMAP
import Derived.Test.YtbkjjakkihbcdaaGreatMAQ
import Derived.Test.YtbkjjakkihbcdaaGreatMAR
import Derived.Test.YtbkjjakkihbcdaaGreatGr3
namespace Go.Proofs.YtbkjjakkihbcdaaGreat.Rk
end Go.Proofs.YtbkjjakkihbcdaaGreat.Rk

/- The document's kernel: Depart. Conditions: those that each states. -/
namespace Go.Proofs.YtbkjjakkihbcdaaGreat.Rk
open Go.ChangeShapes Go.WideShapes Go.ChangeAt Go.RowKit Go.Deep Fr Di RE Ke RD
set_option linter.unusedVariables false
set_option linter.unusedSimpArgs false
section
variable {B g : Nat} {w w' : World} {K K' : Kn} {a : RP} {S : Nat → Prop}
theorem RKAt.heads (h : RKAt B w g K a) : w.cell? ⟨g, 0, none⟩ = some (.pointer (some ⟨a.gt, 0, none⟩)) ∧ w.cell? ⟨g, 1, none⟩ = some (.pointer (some ⟨a.gd, 0, none⟩)) ∧ w.cell? ⟨g, 2, none⟩ = some (.slice a.Af K.fs.length a.cf) ∧ w.cell? ⟨g, 3, none⟩ = some (.int .i64 (K.next : Int)) ∧
  w.cell? ⟨g, 5, none⟩ = some (.slice a.A1 K.i1.length a.c1) ∧ w.cell? ⟨g, 6, none⟩ = some (.slice a.A2 K.i2.length a.c2) ∧ w.cell? ⟨g, 7, none⟩ = some (.slice a.Ao K.out.length a.cO) ∧ w.cell? ⟨g, 8, none⟩ = some (.int .i64 ((K.f3 + K.out.length : Nat) : Int)) ∧ w.cell? ⟨g, 9, none⟩ = some (.int .i64 (K.done : Int)) :=
 ⟨h.head.cell 0, h.head.cell 1, h.head.cell 2, h.head.cell 3, h.head.cell 5, h.head.cell 6, h.head.cell 7, h.head.cell 8, h.head.cell 9⟩
theorem RStep.trans {a1 : RP} {w1 w2 : World} {K2 : Kn} (k1 : Chg w w1 (a.foot g)) (f1 : ∀ k, a1.foot g k → a.foot g k ∨ w.heap.size ≤ k) (h : RStep B w1 w2 g K2 a1) : RStep B w w2 g K2 a := by
 obtain ⟨a2, r, k2, f2⟩ := h
 refine ⟨a2, r, ⟨k2.os.trans k1.os, k2.tape.trans k1.tape, k2.output.trans k1.output, Nat.le_trans k1.size k2.size, fun i hi hn => (k2.block i (Nat.lt_of_lt_of_le hi k1.size) (fun e => (f1 i e).elim hn (fun e => by omega))).trans (k1.block i hi hn)⟩, fun i hi => ?_⟩
 rcases f2 i hi with e | e
 ·exact f1 i e
 ·exact .inr (Nat.le_trans k1.size e)
theorem RKAt.hB (h : RKAt B w g K a) : ∀ i, i = g → B ≤ i := fun i e => h.far i (.inl e)
theorem RKAt.hR (h : RKAt B w g K a) : ∀ i, a.rows i → ¬ i = g := fun i hi e => h.gr (by rw [← e]; exact hi)
theorem RKAt.setHead (h : RKAt B w g K a) (k : Chg w w' (fun i => i = g)) (e1 : K'.ps = K.ps) (e2 : K'.dk = K.dk) (e3 : K'.fs = K.fs) (e4 : K'.i1 = K.i1) (e5 : K'.i2 = K.i2) (e6 : K'.out = K.out) (hd : Blk w' g 67 (headC K' a)) : RStep B w w' g K' a :=
 h.setRows k a.Af a.cf a.fx a.A1 a.c1 a.A2 a.c2 a.Ao a.cO a.ox K' e1 e2 hd (by rw [e3]; exact h.fx) (by rw [e3]; exact h.filC k h.hR) (h.fpC k h.hB) (by rw [e4]; exact h.in1C k h.hR) (by rw [e5]; exact h.in2C k h.hR) (by rw [e6]; exact h.ox) (by rw [e6]; exact h.outC k h.hR) (h.opC k h.hB)
  (fun x e => .inl (by
    rcases e with e | e | e | e
    ·exact .inl ⟨x, e, rfl⟩
    ·exact .inr (.inl ⟨x, e, rfl⟩)
    ·exact .inr (.inr (.inl ⟨x, e, rfl⟩))
    ·exact .inr (.inr (.inr ⟨x, e, rfl⟩))))
theorem RowG.tail {sz n c b o : Nat} {xs : List Value} (h : RowG w sz (some ⟨b, o, none⟩) (n + 1) c xs) : RowG w sz (if c = 1 then some ⟨b, o, none⟩ else some ⟨b, o + sz, none⟩) n (c - 1) (xs.drop sz) := by
 have hl := h.len
 have hc := h.cap
 have hm := h.max
 rw [Nat.succ_mul] at hl
 by_cases e : c = 1
 ·rw [if_pos e]
  exact ⟨by simp; omega, by omega, by omega, fun e => (by cases e), fun a _ h0 => by omega⟩
 ·rw [if_neg e]
  have s := h.sub (i := 1) (m := n + 1) (by omega) (Nat.le_refl _)
  simp only [Option.map_some, Nat.one_mul, Nat.add_sub_cancel] at s
  have e2 : (xs.drop sz).take (n * sz) = xs.drop sz := List.take_of_length_le (by simp; omega)
  rw [e2] at s
  exact s
theorem tail_block {c b o sz : Nat} {x : Addr} (h : (if c = 1 then some (⟨b, o, none⟩ : Addr) else some ⟨b, o + sz, none⟩) = some x) : x.block = b := by
 split at h <;> cases h <;> rfl
theorem chg_cell {p : Addr} (k : Chg w w' S) (hb : p.block < w.heap.size) (hn : ¬ S p.block) : w'.cell? p = w.cell? p := World.cell?_of_block (k.block p.block hb hn)
set_option maxRecDepth 100000 in
set_option maxHeartbeats 4000000 in
theorem rdepart_any (h : RKAt B w g K a) (ok : K.Ok) (sm : K.f3 + K.out.length ≤ 1000000) :
  Calls Tryz.prog 14 #[.pointer (some ⟨g, 0, none⟩)] w fun e w' => e = .returned (.tuple #[.string ⟨(departR K).2.1.toArray⟩, .int .i64 (departR K).2.2.1, .int .i64 (departR K).2.2.2]) ∧ RStep B w w' g (departR K).1 a := by
 obtain ⟨c0, -, -, -, -, -, c7, -, c9⟩ := h.heads
 cases hK : K.out with
 | nil =>
  have e : departR K = (K, [], 0, 11) := by unfold departR; rw [hK]
  have H := Lib.hid (h.same (Below.refl _ w))
  rw [e]
  rw [hK] at c7
  clear h ok e hK
  go_enter Tryz.func14, Tryz.ntmps14
  go_wp2
  go_ret3
  exact ⟨rfl, H.out⟩
 | cons t r =>
  have e : departR K = ({ K with ps := (dropG K.ps t.l).1, out := r, f3 := K.f3 + 1, done := K.done + 1 }, gatherB (txt K.ps) t.l, (t.env : Int), 0) := by unfold departR; rw [hK]
  rw [e]
  have ht : t ∈ K.out := by rw [hK]; exact List.mem_cons_self
  have tok := ok.out t ht
  have gets := ok.gets ht
  have smd : K.done ≤ 1000000 := by have := ok.f3; omega
  have hlen : K.out.length = r.length + 1 := by rw [hK]; rfl
  rw [hlen] at c7 sm
  obtain ⟨⟨t', A, c⟩, ox, hx⟩ : ∃ x ox, a.ox = x :: ox := by
   cases hx : a.ox with
   | nil => have := h.ox; rw [hx, hK] at this; cases this
   | cons x ox => exact ⟨x, ox, rfl⟩
  have hxx := h.ox
  rw [hx, hK, List.map_cons] at hxx
  injection hxx with ex hox
  have ex : t' = t := ex
  subst ex
  obtain ⟨b, o, hA, hb, e0⟩ := row_cell trC_len h.out (i := 0) (j := 0) (by rw [hx]; simp) (by decide) (v := .int .i64 (t'.env : Int)) (by simp [hx, trC])
  obtain ⟨b', o', hA', -, e1⟩ := row_cell trC_len h.out (i := 0) (j := 1) (by rw [hx]; simp) (by decide) (v := .slice A t'.l.length c) (by simp [hx, trC])
  rw [hA] at hA'
  cases hA'
  rw [hA] at c7
  obtain ⟨hP, hG⟩ := h.op (t', A, c) (by rw [hx]; exact List.mem_cons_self)
  have hP : Pcs w A t'.l := hP
  have hG : Given B A t'.l.length := hG
  have hcap := h.out.cap
  have hcapm := h.out.max
  rw [hlen] at hcap
  have H := Lib.hid h
  have EO := Lib.hid e
  have TOK := Lib.hid tok
  have GETS := Lib.hid gets
  have HK := Lib.hid hK
  have HX := Lib.hid hx
  have HOX := Lib.hid hox
  have HA := Lib.hid hA
  have HP := Lib.hid hP
  have SM := Lib.hid smd
  have HG := Lib.hid hG
  clear h ok ht tok gets hK hx hox hA hP hG e hlen smd
  rw [show o + 0 * 2 + 0 = o from by omega] at e0
  rw [show o + 0 * 2 + 1 = o + 1 from by omega] at e1
  obtain ⟨cO, hcO⟩ : ∃ x, a.cO = x := ⟨_, rfl⟩
  rw [hcO] at c7 hcap hcapm
  have HCO := Lib.hid hcO
  clear hcO
  have i1 : ¬ ((r.length + 1 : Nat) : Int) = 0 := by omega
  go_enter Tryz.func14, Tryz.ntmps14
  go_upto_region 4 with fail
  have X1 := Lib.hid (Blk.new w 121 #[.int .i64 (t'.env : Int), .slice A t'.l.length c])
  have b1 : Below w.heap.size w (w.alloc (.cells #[.int .i64 (t'.env : Int), .slice A t'.l.length c] 121)) := (Below.refl _ w).alloc (Nat.le_refl _) _
  have z1 := X1.out.lt
  generalize w.alloc (.cells #[.int .i64 (t'.env : Int), .slice A t'.l.length c] 121) = W1 at *
  have H1 := Lib.hid (H.out.new b1)
  have d7 := (b1.cell (p := ⟨g, 7, none⟩) (H.out.lt g (.inl rfl))).trans c7
  have f7 := H1.out.head.frozen 7
  have i2 : (1 : Int) ≤ (r.length : Int) + 1 := by omega
  have i3 : (r.length : Int) + 1 ≤ (cO : Int) := by omega
  have B1 := Lib.hid b1
  clear c0 c7 c9 e0 e1 hb b1
  go_upto_region 5 with fail
  obtain ⟨A7, hA7⟩ : ∃ A7, (if cO = 1 then some (⟨b, o, none⟩ : Addr) else some ⟨b, o + 2, none⟩) = A7 := ⟨_, rfl⟩
  have row7 : RowG w 2 A7 r.length (cO - 1) (trsC ox) := by
   have h0 := H.out.out
   rw [HA.out, show K.out.length = r.length + 1 from by rw [HK.out]; rfl, HX.out, HCO.out] at h0
   rw [← hA7]
   exact RowG.tail h0
  have blk7 : ∀ x, A7 = some x → x.block = b := fun x e => tail_block (hA7.trans e)
  rw [hA7]
  have k2 : Chg W1 (W1.setCell ⟨g, 7, none⟩ (.slice A7 r.length (cO - 1))) (fun i => i = g) := Chg.set _ _ _ rfl
  have hd2 : Blk (W1.setCell ⟨g, 7, none⟩ (.slice A7 r.length (cO - 1))) g 67 (headC { K with out := r, f3 := K.f3 + 1 } { a with Ao := A7, cO := cO - 1, ox := ox }) := by
   have h0 := H1.out.head.put 7 (.slice A7 r.length (cO - 1))
   have e : (headC K a).set! 7 (.slice A7 r.length (cO - 1)) = headC { K with out := r, f3 := K.f3 + 1 } { a with Ao := A7, cO := cO - 1, ox := ox } := by
    unfold headC
    rw [HK.out]
    simp
    omega
   rw [← e]
   exact h0
  have X2 := Lib.hid (X1.out.chg (Chg.set W1 7 (.slice A7 r.length (cO - 1)) (g := g) (S := fun i => i = g) rfl) (fun e => by have := H.out.lt g (.inl rfl); omega))
  have z2 : w.heap.size < (W1.setCell ⟨g, 7, none⟩ (.slice A7 r.length (cO - 1))).heap.size := X2.out.lt
  have st := H1.out.setRows k2 a.Af a.cf a.fx a.A1 a.c1 a.A2 a.c2 A7 (cO - 1) ox { K with out := r, f3 := K.f3 + 1 } rfl rfl hd2 H1.out.fx (H1.out.filC k2 H1.out.hR) (H1.out.fpC k2 H1.out.hB) (H1.out.in1C k2 H1.out.hR) (H1.out.in2C k2 H1.out.hR) HOX.out
   ((row7.new B1.out).chg k2 (fun x e h => H1.out.gr (.inr (.inr (.inr ⟨_, HA.out, (blk7 x e).symm.trans h⟩))))) (fun x hx => H1.out.opC k2 H1.out.hB x (by rw [HX.out]; exact List.mem_cons_of_mem _ hx))
   (fun x e => .inl (by
     rcases e with e | e | e | e
     ·exact .inl ⟨x, e, rfl⟩
     ·exact .inr (.inl ⟨x, e, rfl⟩)
     ·exact .inr (.inr (.inl ⟨x, e, rfl⟩))
     ·exact .inr (.inr (.inr ⟨_, HA.out, (blk7 x e).symm⟩))))
  obtain ⟨a1, r1, q1, f1⟩ := st
  have HP2 := Lib.hid (pcs_chg (HP.out.new B1.out) k2 (fun y e hl h => by have h1 := HG.out y e hl; have h2 := H.out.hB _ h; omega))
  have gne : ¬ w.heap.size = g := by have := H.out.lt g (.inl rfl); omega
  clear hd2 k2 d7 f7 row7 blk7
  generalize W1.setCell ⟨g, 7, none⟩ (.slice A7 r.length (cO - 1)) = W2 at *
  have R1 := Lib.hid r1
  have Q1 := Lib.hid q1
  have F1 := Lib.hid f1
  have HA7 := Lib.hid hA7
  obtain ⟨c0, -, -, -, -, -, -, -, c9⟩ := r1.heads
  have x1 := (X2.out.cell 1).trans (show _ = some (.slice A t'.l.length c) from rfl)
  have FE := Lib.hid (gfetch_any r1.tab A c t'.l HP2.out TOK.out.ok (by have := TOK.out.n; omega))
  rw [show fetchG K.ps t'.l = _ from GETS.out] at FE
  have LT1 := Lib.hid (r1.lt g (.inl rfl))
  have C0 := Lib.hid c0
  have XX1 := Lib.hid x1
  have Z2 := Lib.hid z2
  have Z1 := Lib.hid z1
  clear r1 q1 f1 hA7 c0 c9 x1 z2 z1 gne
  refine wp_region_held_drew (S := fun w' => Hid (Below W2.heap.size W2 w')) (by kernel_rfl) (Lib.hid ((Below.refl W2.heap.size W2).drew)) (fun hS => ?_)
  refine ht 0 (some 29) (v := ?_) rfl rfl ?_ hS ?_
  rotate_left
  ·intro w' hSw; go_simp <;> with_reducible rfl
  refine ht 1 (some 30) (v := ?_) rfl rfl ?_ hS ?_
  rotate_left
  ·intro w' hSw; go_simp <;> with_reducible rfl
  simp only [Act.put, List.setIfInBounds_toArray, List.set_cons_zero, List.set_cons_succ]
  refine ht 2 (some 31) (v := ?_) rfl rfl ?_ hS ?_
  rotate_left
  ·intro w' hSw; go_simp <;> with_reducible rfl
  refine ht 3 (some 32) (v := ?_) rfl rfl ?_ hS ?_
  rotate_left
  ·intro w' hSw; have kb := hSw.out; clear hSw; have z := (kb.cell (p := ⟨g, 0, none⟩) LT1.out).trans C0.out; clear kb; go_simp <;> with_reducible rfl
  simp only [Act.put, List.setIfInBounds_toArray, List.set_cons_zero, List.set_cons_succ]
  refine ht 4 (some 33) (v := ?_) rfl rfl ?_ hS ?_
  rotate_left
  ·intro w' hSw; go_simp <;> with_reducible rfl
  refine ht 5 (some 34) (v := ?_) rfl rfl ?_ hS ?_
  rotate_left
  ·intro w' hSw; have kb := hSw.out; clear hSw; have z := (kb.cell (p := ⟨w.heap.size, 1, none⟩) Z2.out).trans XX1.out; clear kb; go_simp <;> with_reducible rfl
  simp only [Act.put, List.setIfInBounds_toArray, List.set_cons_zero, List.set_cons_succ]
  refine held_one (i := 6) (by kernel_rfl) rfl (by rfl) ?_
  go_simp
  refine (gfetch_any (R1.out.tab.drewN 1) A c t'.l (pcs_chg HP2.out (Chg.refl W2 (fun _ => False)).drew (fun _ _ _ h => h)) TOK.out.ok (by have := TOK.out.n; omega)).mono ?_; rintro e w3 ⟨rfl, b3⟩
  rw [show fetchG K.ps t'.l = _ from GETS.out]
  have hS : Hid (Below W2.heap.size W2 w3) := Lib.hid ((Below.refl W2.heap.size W2).drew.trans b3)
  refine ⟨hS, ?_⟩
  clear b3
  (try simp only [Act.put, List.setIfInBounds_toArray, List.set_cons_zero, List.set_cons_succ])
  refine ht 7 (some 28) (v := ?_) rfl rfl ?_ hS ?_
  rotate_left
  ·intro w' hSw; go_simp <;> with_reducible rfl
  refine ht 8 (some 36) (v := ?_) rfl rfl ?_ hS ?_
  rotate_left
  ·intro w' hSw; go_simp <;> with_reducible rfl
  simp only [Act.put, List.setIfInBounds_toArray, List.set_cons_zero, List.set_cons_succ]
  refine ht 9 (some 37) (v := ?_) rfl rfl ?_ hS ?_
  rotate_left
  ·intro w' hSw; go_simp <;> with_reducible rfl
  refine ht 10 (some 6) (v := ?_) rfl rfl ?_ hS ?_
  rotate_left
  ·intro w' hSw; go_simp <;> with_reducible rfl
  simp only [Act.put, List.setIfInBounds_toArray, List.set_cons_zero, List.set_cons_succ]
  refine ht 11 (some 7) (v := ?_) rfl rfl ?_ hS ?_
  rotate_left
  ·intro w' hSw; go_simp <;> with_reducible rfl
  simp only [Act.put, List.setIfInBounds_toArray, List.set_cons_zero, List.set_cons_succ]
  refine wpAnyH_done (by kernel_rfl) ?_ _
  have B3 := Lib.hid hS.out
  have R3 := Lib.hid (R1.out.new B3.out)
  have P3 := Lib.hid (HP2.out.new B3.out)
  have X3 := Lib.hid (X2.out.older (older_below B3.out))
  have N1 := Lib.hid (show ¬ g = a1.bh from fun e => R3.out.gt (.inr (.inr (.inl e))))
  have N2 := Lib.hid (show ¬ w.heap.size = a1.bh from fun e => by
   have h1 := F1.out a1.bh (.inr (.inl (.inr (.inr (.inl rfl)))))
   rcases h1 with h1 | h1
   ·have := H.out.lt _ h1; omega
   ·have := Z1.out; omega)
  have C0 := Lib.hid R3.out.heads.1
  have XX1 := Lib.hid ((X3.out.cell 1).trans (show _ = some (.slice A t'.l.length c) from rfl))
  have LT3 := Lib.hid (R3.out.lt g (.inl rfl))
  have HGT := Lib.hid (show ∀ b o, A = some ⟨b, o, none⟩ → 0 < t'.l.length → b < a1.gt from fun b o e hl => Nat.lt_of_lt_of_le (HG.out _ e hl) (R3.out.far _ (.inr (.inl (.inl rfl)))))
  clear FE hS LT1 Z2
  go_upto_region 6 with fail
  refine wp_region_held_drew (S := fun w' => Hid (Chg w3 w' (fun i => i = a1.bh))) (by kernel_rfl) (Lib.hid ((Chg.refl w3 (fun i => i = a1.bh)).drew)) (fun hS => ?_)
  refine ht 0 (some 38) (v := ?_) rfl rfl ?_ hS ?_
  rotate_left
  ·intro w' hSw; go_simp <;> with_reducible rfl
  refine ht 1 (some 39) (v := ?_) rfl rfl ?_ hS ?_
  rotate_left
  ·intro w' hSw; go_simp <;> with_reducible rfl
  simp only [Act.put, List.setIfInBounds_toArray, List.set_cons_zero, List.set_cons_succ]
  refine ht 2 (some 40) (v := ?_) rfl rfl ?_ hS ?_
  rotate_left
  ·intro w' hSw; go_simp <;> with_reducible rfl
  refine ht 3 (some 41) (v := ?_) rfl rfl ?_ hS ?_
  rotate_left
  ·intro w' hSw; have kb := hSw.out; clear hSw; have z := (chg_cell (p := ⟨g, 0, none⟩) kb LT3.out N1.out).trans C0.out; clear kb; go_simp <;> with_reducible rfl
  simp only [Act.put, List.setIfInBounds_toArray, List.set_cons_zero, List.set_cons_succ]
  refine ht 4 (some 42) (v := ?_) rfl rfl ?_ hS ?_
  rotate_left
  ·intro w' hSw; go_simp <;> with_reducible rfl
  refine ht 5 (some 43) (v := ?_) rfl rfl ?_ hS ?_
  rotate_left
  ·intro w' hSw; have kb := hSw.out; clear hSw; have z := (chg_cell (p := ⟨w.heap.size, 1, none⟩) kb X3.out.lt N2.out).trans XX1.out; clear kb; go_simp <;> with_reducible rfl
  simp only [Act.put, List.setIfInBounds_toArray, List.set_cons_zero, List.set_cons_succ]
  refine held_one (i := 6) (by kernel_rfl) rfl (by rfl) ?_
  go_simp
  refine (gdrop_any (R3.out.tab.drewN 1) A c t'.l (pcs_chg P3.out (Chg.refl w3 (fun _ => False)).drew (fun _ _ _ h => h)) TOK.out.ok HGT.out (by have := TOK.out.n; omega)).mono ?_; rintro e w4 ⟨rfl, t4, k4⟩
  have hS : Hid (Chg w3 w4 (fun i => i = a1.bh)) := Lib.hid ((Chg.refl w3 (fun i => i = a1.bh)).drew.trans k4)
  have td := Lib.hid t4
  have kd := Lib.hid hS.out
  refine ⟨hS, ?_⟩
  clear t4 k4
  (try simp only [Act.put, List.setIfInBounds_toArray, List.set_cons_zero, List.set_cons_succ])
  refine wpAnyH_done (by kernel_rfl) ?_ _
  have K4 := Lib.hid kd.out
  have R4 := R3.out.setTab td.out (S := fun i => i = a1.bh) kd.out (fun i e => .inr (.inr (.inl e)))
  obtain ⟨a2, r2, q2, f2⟩ := R4
  have X4 := Lib.hid (X3.out.chg K4.out N2.out)
  obtain ⟨-, -, -, -, -, -, -, -, c9⟩ := r2.heads
  have f9 := r2.head.frozen 9
  have R2' := Lib.hid r2
  have Q2 := Lib.hid q2
  have F2 := Lib.hid f2
  have N3 := Lib.hid (show ¬ w.heap.size = g from by have := H.out.lt g (.inl rfl); omega)
  clear r2 q2 f2 hS kd td XX1 C0 N2
  have xd := IntWalk.i64_in ((K.done : Int) + 1) (by have := SM.out; omega)
  go_upto_region 8 with fail
  have k5 : Chg w4 (w4.setCell ⟨g, 9, none⟩ (.int .i64 ((K.done : Int) + 1))) (fun i => i = g) := Chg.set _ _ _ rfl
  have hd5 : Blk (w4.setCell ⟨g, 9, none⟩ (.int .i64 ((K.done : Int) + 1))) g 67 (headC { K with ps := (dropG K.ps t'.l).1, out := r, f3 := K.f3 + 1, done := K.done + 1 } a2) := by
   have h0 := R2'.out.head.put 9 (.int .i64 ((K.done : Int) + 1))
   exact h0
  have R5 := Lib.hid (R2'.out.setHead k5 (K' := { K with ps := (dropG K.ps t'.l).1, out := r, f3 := K.f3 + 1, done := K.done + 1 }) rfl rfl rfl rfl rfl rfl hd5)
  have x0 := ((X4.out.chg k5 N3.out).cell 0).trans (show _ = some (.int .i64 (t'.env : Int)) from rfl)
  clear c9 f9 k5 hd5
  generalize w4.setCell ⟨g, 9, none⟩ (.int .i64 ((K.done : Int) + 1)) = w5 at *
  go_wp2_with fail
  go_quiet (fail)
  go_wp2
  go_ret3
  refine ⟨rfl, ?_⟩
  refine RStep.last (w' := w5) ?_ (below_drewN (Below.refl _ _) _)
  exact (RStep.trans Q1.out F1.out ((RStep.trans Q2.out F2.out R5.out).first B3.out)).first B1.out
end
end Go.Proofs.YtbkjjakkihbcdaaGreat.Rk

/- The document's kernel: Arrive. Conditions: those that each states. -/
namespace Go.Proofs.YtbkjjakkihbcdaaGreat.Rk
open Go.ChangeShapes Go.WideShapes Go.ChangeAt Go.RowKit Go.Deep Fr Di RE Ke RD R7
set_option linter.unusedVariables false
set_option linter.unusedSimpArgs false
section
variable {P : Program} {Q : Exit → Act → World → Prop}
theorem wp_append_G {o : Oper} {a : Act} {w : World} {K : Act → World → Prop} {d : Option Tmp} (hd : o.dst = d) (s x : Operand) (t : TypeId) (ho : o.op = .call { callee := .builtin .append, args := #[s, x], argTypes := #[t, t] })
  (base : Nat) (e : TypeId) (i : TypeInfo) (z : Value) (size bytes : Nat) (ht : P.underlying t = some (.slice e)) (hi : P.info? e = some i) (hz : i.zero = some z)
  (hsize : i.size = size) (hby : i.bytes = bytes) (hzs : z.cells.size = size) (hsz : 0 < size)
  (v : Value) (n : Nat) (xs : List Value) (hs : a.eval s = v) (hown : w.ownsRow base e size v n xs)
  (A : Option Addr) (m c : Nat) (ys : List Value) (hx : a.eval x = .slice A m c) (hsrc : RowG w size A m c ys) (h1 : ∀ u ∈ ys, u.oneCell' = true)
  (h63 : n + m ≤ maxLen) (hbytes : (n + m) * bytes ≤ 140737488355328) (hbase : base ≤ w.heap.size)
  (h : ∀ v' w', w'.ownsRow base e size v' (n + m) (xs ++ ys) → w.grownBy w' v.ownBlock → (v'.ownBlock = v.ownBlock ∨ v'.ownBlock = some w.heap.size) → K (a.put d v') w') : o.wp P a w K Q := by
 subst hd
 cases A with
 | none =>
  obtain ⟨rfl, rfl⟩ := hsrc.none_ rfl
  have hy : ys = [] := List.length_eq_zero_iff.1 (by rw [hsrc.len, Nat.zero_mul])
  subst hy
  have hrun := run_append_owned_none (P := P) (w := w) base t o.type e i size ht hi v n xs hown
  unfold Oper.wp execOp
  simp only [ho, resolve, invoke, builtin, Sem.run_bind, Sem.run_pure, Result.andThen_ok, List.map_toArray, List.map_cons, List.map_nil, hs, hx, hrun]
  exact h v w (by rw [List.append_nil]; exact hown) (World.grownBy.refl _ _) (.inl rfl)
 | some ad =>
  obtain ⟨v', w', hr, h2, h3, _, h5⟩ := run_append_own_at (P := P) w base t o.type e i z size bytes ht hi hz hsize hby hzs hsz v n xs hown ad m c ys hsrc.len (fun j u hu => by
   have hj : j < ys.length := (List.getElem?_eq_some_iff.1 hu).1
   obtain ⟨b, o', e, _, hc⟩ := hsrc.cell hj
   cases e
   have ea : (⟨b, o', none⟩ : Addr).add j = ⟨b, o' + j, none⟩ := by unfold Addr.add; split <;> simp_all
   rw [ea, hc]
   exact (List.getElem?_eq_some_iff.1 hu).2 ▸ rfl) h1 h63 hbytes hbase
  unfold Oper.wp execOp
  simp only [ho, resolve, invoke, builtin, Sem.run_bind, Sem.run_pure, Result.andThen_ok, List.map_toArray, List.map_cons, List.map_nil, hs, hx, hr]
  exact h v' w' h2 h3 h5
end
theorem rstr_info : ∃ i0 z, Tryz.prog.info? 9 = some i0 ∧ i0.zero = some z ∧ z.cells.size = 1 ∧ i0.size = 1 ∧ i0.bytes = 16 := by
 obtain ⟨i, hi, hs⟩ := Option.map_eq_some_iff.1 (show (Tryz.prog.info? 9).map (fun i => (i.zero.map (·.cells.size), i.size, i.bytes)) = some (some 1, 1, 16) by kernel_rfl)
 simp only [Prod.mk.injEq] at hs
 obtain ⟨h0, h1, h2⟩ := hs
 obtain ⟨z, hz, hzs⟩ := Option.map_eq_some_iff.1 h0
 exact ⟨i, z, hi, hz, hzs, h1, h2⟩
theorem one_strC (l : List (List UInt8)) : ∀ u ∈ strC l, u.oneCell' = true := by
 intro u hu
 unfold strC at hu
 obtain ⟨s, _, rfl⟩ := List.mem_map.1 hu
 rfl
theorem one_one (s : ByteArray) : ∀ u ∈ [Value.string s], u.oneCell' = true := by
 intro u hu
 rw [List.mem_singleton.1 hu]
 rfl
section
variable {B g : Nat} {w w' : World} {K K' : Kn} {a : RP} {S : Nat → Prop}
theorem find_none_iff {l : List Fil} {p : Fil → Bool} (h : ∀ k (hk : k < l.length), p l[k] = false) : l.find? p = none := by
 rw [List.find?_eq_none]
 intro x hx
 obtain ⟨k, hk, rfl⟩ := List.mem_iff_getElem.1 hx
 rw [h k hk]; decide
theorem find_at {l : List Fil} {p : Fil → Bool} {j : Nat} (hj : j < l.length) (h : ∀ k (hk : k < l.length), k < j → p l[k] = false) (hp : p l[j] = true) : l.find? p = some l[j] := by
 rw [List.find?_eq_some_iff_getElem]
 exact ⟨hp, j, hj, rfl, fun k hk => by rw [h k (by omega) hk]; rfl⟩
set_option maxRecDepth 100000 in
set_option maxHeartbeats 4000000 in
theorem rarrive_any (h : RKAt B w g K a) (ok : K.Ok) (s : List UInt8) (hs : s.length ≤ 1000000) :
  Calls Tryz.prog 12 #[.pointer (some ⟨g, 0, none⟩), .string ⟨s.toArray⟩] w fun e w' => e = .returned (.tuple #[.int .i64 (arriveR K s).2.1, .int .i64 (arriveR K s).2.2]) ∧ RStep B w w' g (arriveR K s).1 a := by
 have hsz : (⟨s.toArray⟩ : ByteArray).size = s.length := rfl
 have H := Lib.hid h
 have OK := Lib.hid ok
 by_cases hl : (s.length : Int) > 1024
 ·have er : arriveR K s = (K, 0, 2) := by
   unfold arriveR
   rw [if_pos (by omega)]
  rw [er]
  have HS := Lib.hid (h.same (Below.refl _ w))
  clear h ok er
  go_enter Tryz.func12, Tryz.ntmps12
  go_wp2
  go_ret2
  exact ⟨rfl, HS.out⟩
 have SL := Lib.hid (show ¬ 1024 < s.length from by omega)
 obtain ⟨iw, zw, hi, hz, hzc, hs2, hby⟩ := rstr_info
 have INF := Lib.hid (And.intro hi (And.intro hz (And.intro hzc (And.intro hs2 hby))))
 have F8 := ok.f8
 have hfx : a.fx.length = K.fs.length := by have := congrArg List.length h.fx; simpa using this
 have HFX := Lib.hid hfx
 clear hi hz hzc hs2 hby h ok hfx
 go_enter Tryz.func12, Tryz.ntmps12
 go_wp2
 go_loopw [6] (fun i wr => ∃ j : Nat, j ≤ K.fs.length ∧ i = .int .i64 (j : Int) ∧ Hid (∀ k (hk : k < K.fs.length), k < j → wants s K.fs[k] = false) ∧ Hid (Below w.heap.size w wr)) (fun i _ => K.fs.length - (intOf i).toNat)
 case atStart => exact ⟨0, Nat.zero_le _, rfl, Lib.hid (fun k _ h => absurd h (Nat.not_lt_zero k)), Lib.hid (Below.refl _ _)⟩
 case round =>
  obtain ⟨j, hj, rfl, NO, BR⟩ := hrel
  have HR := Lib.hid (H.out.new BR.out)
  have c2' := HR.out.heads.2.2.1
  by_cases hlt : j < K.fs.length
  ·have hlt' : (j : Int) < (K.fs.length : Int) := by omega
   have j0 : (0 : Int) ≤ (j : Int) := by omega
   have xj := IntWalk.i64_in ((j : Int) + 1) (by omega)
   have hja : j < a.fx.length := by have := HFX.out; omega
   obtain ⟨f, A, c, hx⟩ : ∃ f A c, a.fx[j] = (f, A, c) := ⟨_, _, _, rfl⟩
   have hf : K.fs[j] = f := by
    have e := HR.out.fx
    have : (a.fx.map (·.1))[j]'(by simpa using hja) = f := by rw [List.getElem_map, hx]
    rw [← this]
    exact (List.getElem_of_eq e.symm hlt)
   have hmem : (f, A, c) ∈ a.fx := by rw [← hx]; exact List.getElem_mem hja
   have fok := OK.out.fs f (by rw [← hf]; exact List.getElem_mem hlt)
   obtain ⟨b, o, hA, hb, e1⟩ := row_cell filC_len HR.out.fil (i := j) (j := 1) hja (by decide) (v := .int .i64 (f.env : Int)) (by simp [hx, filC])
   obtain ⟨b', o', hA', -, e2⟩ := row_cell filC_len HR.out.fil (i := j) (j := 2) hja (by decide) (v := .slice A f.p.length c) (by simp [hx, filC])
   rw [hA] at hA' c2'
   cases hA'
   obtain ⟨hP, -⟩ := HR.out.fp _ hmem
   have hP : Prg wr A f.p := hP
   have RUN := Lib.hid (fun W (k : Below wr.heap.size wr W) => run_is A c f.p s W (hP.new k) fok.ok fok.chk hs)
   have FOK := Lib.hid fok
   have E1 := Lib.hid e1
   have HF := Lib.hid hf
   have HB := Lib.hid hb
   have HAA := Lib.hid hA
   clear hx hmem fok hP hA hf hja e1
   go_wp2_with fail
   refine (RUN.out _ (Below.refl _ _)).mono ?_; rintro e w2 ⟨⟨kk, rfl⟩, b2⟩
   have B2 := Lib.hid (BR.out.trans (b2.mono BR.out.size))
   have HR2 := Lib.hid (H.out.new B2.out)
   have e1 := (b2.cell (p := ⟨b, o + j * 3 + 1, none⟩) HB.out).trans E1.out
   have c2' := HR2.out.heads.2.2.1
   rw [HAA.out] at c2'
   obtain ⟨-, -, -, -, c1, c2, -⟩ := HR2.out.heads
   clear b2 RUN HR
   have HR := HR2
   have BR0 := BR
   have BR := B2
   clear HR2 B2 BR0
   have WR := Lib.hid (show wants s f = decide (runP f.p s ≠ 0) from rfl)
   generalize runP f.p s = rn at *
   by_cases hz0 : rn = 0
   ·subst hz0
    have NO2 : Hid (∀ k (hk : k < K.fs.length), k < j + 1 → wants s K.fs[k] = false) := Lib.hid (fun k hk h => by
     by_cases e : k < j
     ·exact NO.out k hk e
     ·obtain rfl : k = j := by omega
      rw [HF.out, WR.out]; rfl)
    clear c1 c2 e1 c2'
    go_wp2
    go_roundw
    case rel => exact ⟨j + 1, by omega, by go_num, NO2, BR⟩
    case measure => simp [intOf]; omega
   ·have FD := Lib.hid (show K.fs.find? (wants s) = some f from by
     have := find_at hlt (p := wants s) (fun k hk h => NO.out k hk h) (by rw [HF.out, WR.out]; simpa using hz0)
     rw [this, HF.out])
    have hz1 : (rn == 0) = false := by simpa using hz0
    rcases (show f.env = 1 ∨ f.env = 2 from by have := FOK.out.e1; have := FOK.out.e2; omega) with hev | hev
    ·rw [hev] at e1
     have EV := Lib.hid hev
     clear hev
     go_upto_region 9 with fail
     have CI := Lib.hid c1
     have FI := Lib.hid (HR.out.head.frozen 5)
     have HGL := Lib.hid (HR.out.lt g (.inl rfl))
     have HD := Lib.hid HR.out.head
     have RO := Lib.hid HR.out.in1
     have LL := Lib.hid (show ∀ W' : World, Below w2.heap.size w2 W' → (Instr.loadAt 63 (.pointer (some ⟨g, 5, none⟩))).run Tryz.prog W' = .ok (.slice a.A1 K.i1.length a.c1) W' from fun W' h => by have := (h.cell (p := ⟨g, 5, none⟩) HGL.out).trans CI.out; go_simp)
     by_cases hfull : (K.i1.length : Int) ≥ 16
     ·have er : arriveR K s = (K, 0, 10) := by
       have h16 : 16 ≤ K.i1.length := by omega
       unfold arriveR
       rw [if_neg SL.out, FD.out]
       simp [EV.out, h16]
      have ER := Lib.hid er
      clear er
      go_wp2
      go_ret2
      rw [ER.out]
      exact ⟨rfl, H.out.same BR.out⟩
     ·have er : arriveR K s = ({ K with i1 := K.i1 ++ [s] }, 1, 0) := by
       have h16 : ¬ 16 ≤ K.i1.length := by omega
       unfold arriveR
       rw [if_neg SL.out, FD.out]
       simp [EV.out, h16]
      have ER := Lib.hid er
      clear er
      have hi16 : K.i1.length < 16 := by omega
      go_upto_region 11 with fail
      go_cut [] (fun wx => ∃ gF cF, Hid (Chg w2 wx (fun k => k = g) ∧ Blk wx g 67 ((headC K a).set! 5 (.slice (some ⟨gF, 0, none⟩) (K.i1.length + 1) cF)) ∧ RowG wx 1 (some ⟨gF, 0, none⟩) (K.i1.length + 1) cF (strC K.i1 ++ [.string ⟨s.toArray⟩]) ∧ w2.heap.size ≤ gF ∧ gF < wx.heap.size))
      case first =>
       clear c1 c2 H HR
       have hb0 : Below w2.heap.size w2 (w2).drew := ⟨rfl, rfl, rfl, Nat.le_refl _, fun _ _ => rfl⟩
       have BS0 := Lib.hid (show ∀ W' : World, (Instr.buildSlice 63 0 #[]).run Tryz.prog W' = .ok (.slice (some ⟨W'.heap.size, 0, none⟩) 0 0) (W'.alloc (.cells #[] 9)) from fun W' => by go_simp)
       have BS1 := Lib.hid (show ∀ W' : World, (Instr.buildSlice 63 1 #[(0, .string ⟨s.toArray⟩)]).run Tryz.prog W' = .ok (.slice (some ⟨W'.heap.size, 0, none⟩) 1 1) (W'.alloc (.cells #[.string ⟨s.toArray⟩] 9)) from fun W' => by go_simp)
       refine wp_head_held (S := Below w2.heap.size w2) 16 (by kernel_rfl) rfl rfl (by kernel_rfl) ?_
       simp only [List.take_succ_cons, List.take_zero, List.drop_succ_cons, List.drop_zero]
       refine ht 0 (some 53) (v := .pointer (some ⟨g, 0, none⟩)) rfl rfl (fun w _ => by go_simp) hb0 ?_
       refine ht 1 (some 54) (v := .int .i64 1) rfl rfl (fun w _ => by go_simp) hb0 ?_
       simp only [Act.put, List.setIfInBounds_toArray, List.set_cons_zero, List.set_cons_succ]
       refine ht 3 (some 56) (v := .pointer (some ⟨g, 0, none⟩)) rfl rfl (fun w _ => by go_simp) hb0 ?_
       refine ht 4 (some 57) (v := .int .i64 1) rfl rfl (fun w _ => by go_simp) hb0 ?_
       simp only [Act.put, List.setIfInBounds_toArray, List.set_cons_zero, List.set_cons_succ]
       refine ht 5 (some 58) (v := .pointer (some ⟨g, 0, none⟩)) rfl rfl (fun w _ => by go_simp) hb0 ?_
       refine ht 6 (some 59) (v := .pointer (some ⟨g, 4, none⟩)) rfl rfl (fun w _ => by go_simp) hb0 ?_
       simp only [Act.put, List.setIfInBounds_toArray, List.set_cons_zero, List.set_cons_succ]
       refine ht 7 (some 60) (v := .pointer (some ⟨g, 5, none⟩)) rfl rfl (fun w _ => by go_simp) hb0 ?_
       refine ht 8 (some 61) (v := .slice a.A1 K.i1.length a.c1) rfl rfl (fun w' hw => exec_load (y := .pointer (some ⟨g, 5, none⟩)) rfl rfl (LL.out w' hw)) hb0 ?_
       simp only [Act.put, List.setIfInBounds_toArray, List.set_cons_zero, List.set_cons_succ]
       refine ht 10 (some 63) (v := .string ⟨s.toArray⟩) rfl rfl (fun w _ => by go_simp) hb0 ?_
       refine ht 13 (some 66) (v := .pointer (some ⟨g, 0, none⟩)) rfl rfl (fun w _ => by go_simp) hb0 ?_
       simp only [Act.put, List.setIfInBounds_toArray, List.set_cons_zero, List.set_cons_succ]
       refine ht 14 (some 67) (v := .pointer (some ⟨g, 4, none⟩)) rfl rfl (fun w _ => by go_simp) hb0 ?_
       simp only [Act.put, List.setIfInBounds_toArray, List.set_cons_zero, List.set_cons_succ]
       refine held_two (i := 2) (j := 11) (by kernel_rfl) rfl rfl (by rfl) (by rfl) ?_ ?_
       ·have hb1 : Below w2.heap.size w2 (((w2).drew).alloc (.cells #[] 9)) := hb0.alloc hb0.size _
        have r1 : ((((w2).drew).alloc (.cells #[] 9))).ownsRow w2.heap.size 9 1 (.slice (some ⟨((w2).drew).heap.size, 0, none⟩) 0 0) 0 [] := World.ownsRow_lit ((w2).drew) #[] 0 hb0.size (by decide) rfl
        refine wp_slice_d (d := some 55) (ps := #[]) rfl rfl (by go_simp) (BS0.out _) ?_
        refine ⟨hb1, ?_⟩
        simp only [Act.put, List.setIfInBounds_toArray, List.set_cons_zero, List.set_cons_succ]
        refine held_two (i := 9) (j := 11) (by kernel_rfl) rfl rfl (by rfl) (by rfl) ?_ ?_
        ·refine wp_append_G (d := some 62) rfl (.tmp 55) (.tmp 61) 63 rfl w2.heap.size 9 iw zw 1 16 Tryz.underlying63 INF.out.1 INF.out.2.1 INF.out.2.2.2.1 INF.out.2.2.2.2 INF.out.2.2.1 (by decide) _ 0 [] rfl r1 a.A1 (K.i1.length) a.c1 (strC K.i1) rfl (RowG.new RO.out hb1) (one_strC _) (by unfold maxLen; omega) (by omega) hb1.size ?_
         intro v1 w_2 ho2 hg2 hat2
         rw [Nat.zero_add, List.nil_append] at ho2
         have hb2 : Below w2.heap.size w2 w_2 := hb1.grown hg2 hb1.size (fun k e => (r1.lt k e).1)
         refine ⟨hb2, ?_⟩
         simp only [Act.put, List.setIfInBounds_toArray, List.set_cons_zero, List.set_cons_succ]
         refine held_one (i := 11) (by kernel_rfl) rfl (by rfl) ?_
         have hb3 : Below w2.heap.size w2 ((w_2).alloc (.cells #[.string ⟨s.toArray⟩] 9)) := hb2.alloc hb2.size _
         have n3 : Blk ((w_2).alloc (.cells #[.string ⟨s.toArray⟩] 9)) (w_2).heap.size 9 #[.string ⟨s.toArray⟩] := Blk.new (w_2) 9 _
         refine wp_slice_d (d := some 64) (ps := #[(0, .string ⟨s.toArray⟩)]) rfl rfl (by go_simp) (BS1.out _) ?_
         refine ⟨hb3, ?_⟩
         simp only [Act.put, List.setIfInBounds_toArray, List.set_cons_zero, List.set_cons_succ]
         refine held_one (i := 12) (by kernel_rfl) rfl (by rfl) ?_
         refine wp_append_d (d := some 65) rfl (.tmp 62) (.tmp 64) 63 rfl w2.heap.size 9 iw zw 1 16 Tryz.underlying63 INF.out.1 INF.out.2.1 INF.out.2.2.2.1 INF.out.2.2.2.2 INF.out.2.2.1 (by decide) v1 (K.i1.length) (strC K.i1) rfl (ho2.alloc _) ⟨w_2.heap.size, 0, none⟩ 1 1 [.string ⟨s.toArray⟩] rfl rfl (World.news_of_block n3) (one_one _) (by decide) (by unfold maxLen; omega) (by omega) hb3.size ?_
         intro gF cF w4 ho4 hg4 hat4 hl4
         have hb4 : Below w2.heap.size w2 w4 := hb3.grown hg4 hb3.size (fun k e => (ho2.lt k e).1)
         refine ⟨hb4, ?_⟩
         refine ht 15 (some 68) (v := .pointer (some ⟨g, 5, none⟩)) rfl rfl (fun w _ => by go_simp) hb4 ?_
         simp only [Act.put, List.setIfInBounds_toArray, List.set_cons_zero, List.set_cons_succ]
         refine wpAnyH_done (by kernel_rfl) ?_ _
         clear ho2 hg2 hat2 hg4 hat4 hl4 hb0 hb1 hb2 hb3 r1 n3
         show wpList _ _ _ _ _ _
         have q' : w4.cell? ⟨g, 5, none⟩ = some (.slice a.A1 K.i1.length a.c1) := (hb4.cell (p := ⟨g, 5, none⟩) HGL.out).trans CI.out
         have f' : w4.frozen? ⟨g, 5, none⟩ = false := (hb4.frozen (p := ⟨g, 5, none⟩) HGL.out).trans FI.out
         have FIN := Lib.hid (after_store (i := 5) HD.out hb4 ho4)
         clear ho4 hb4
         go_wp2
         go_meet
         exact ⟨gF, cF, FIN⟩
        ·have hb2 : Below w2.heap.size w2 (((((w2).drew).alloc (.cells #[] 9))).alloc (.cells #[.string ⟨s.toArray⟩] 9)) := hb1.alloc hb1.size _
         have n2 : Blk (((((w2).drew).alloc (.cells #[] 9))).alloc (.cells #[.string ⟨s.toArray⟩] 9)) ((((w2).drew).alloc (.cells #[] 9))).heap.size 9 #[.string ⟨s.toArray⟩] := Blk.new ((((w2).drew).alloc (.cells #[] 9))) 9 _
         refine wp_slice_d (d := some 64) (ps := #[(0, .string ⟨s.toArray⟩)]) rfl rfl (by go_simp) (BS1.out _) ?_
         refine ⟨hb2, ?_⟩
         simp only [Act.put, List.setIfInBounds_toArray, List.set_cons_zero, List.set_cons_succ]
         refine held_one (i := 9) (by kernel_rfl) rfl (by rfl) ?_
         refine wp_append_G (d := some 62) rfl (.tmp 55) (.tmp 61) 63 rfl w2.heap.size 9 iw zw 1 16 Tryz.underlying63 INF.out.1 INF.out.2.1 INF.out.2.2.2.1 INF.out.2.2.2.2 INF.out.2.2.1 (by decide) _ 0 [] rfl (r1.alloc _) a.A1 (K.i1.length) a.c1 (strC K.i1) rfl (RowG.new RO.out hb2) (one_strC _) (by unfold maxLen; omega) (by omega) hb2.size ?_
         intro v1 w_3 ho3 hg3 hat3
         rw [Nat.zero_add, List.nil_append] at ho3
         have hb3 : Below w2.heap.size w2 w_3 := hb2.grown hg3 hb2.size (fun k e => (r1.lt k e).1)
         refine ⟨hb3, ?_⟩
         simp only [Act.put, List.setIfInBounds_toArray, List.set_cons_zero, List.set_cons_succ]
         have n3 := n2.chg (Di.chg_of_grown (A := some ⟨(w2).drew.heap.size, 0, none⟩) (Below.refl _ _) hg3) (fun e => by have := Di.inB_some e; simp at this)
         refine held_one (i := 12) (by kernel_rfl) rfl (by rfl) ?_
         refine wp_append_d (d := some 65) rfl (.tmp 62) (.tmp 64) 63 rfl w2.heap.size 9 iw zw 1 16 Tryz.underlying63 INF.out.1 INF.out.2.1 INF.out.2.2.2.1 INF.out.2.2.2.2 INF.out.2.2.1 (by decide) v1 (K.i1.length) (strC K.i1) rfl ho3 ⟨((((w2).drew).alloc (.cells #[] 9))).heap.size, 0, none⟩ 1 1 [.string ⟨s.toArray⟩] rfl rfl (World.news_of_block n3) (one_one _) (by decide) (by unfold maxLen; omega) (by omega) hb3.size ?_
         intro gF cF w4 ho4 hg4 hat4 hl4
         have hb4 : Below w2.heap.size w2 w4 := hb3.grown hg4 hb3.size (fun k e => (ho3.lt k e).1)
         refine ⟨hb4, ?_⟩
         refine ht 15 (some 68) (v := .pointer (some ⟨g, 5, none⟩)) rfl rfl (fun w _ => by go_simp) hb4 ?_
         simp only [Act.put, List.setIfInBounds_toArray, List.set_cons_zero, List.set_cons_succ]
         refine wpAnyH_done (by kernel_rfl) ?_ _
         clear ho3 hg3 hat3 hg4 hat4 hl4 hb0 hb1 hb2 hb3 r1 n2 n3
         show wpList _ _ _ _ _ _
         have q' : w4.cell? ⟨g, 5, none⟩ = some (.slice a.A1 K.i1.length a.c1) := (hb4.cell (p := ⟨g, 5, none⟩) HGL.out).trans CI.out
         have f' : w4.frozen? ⟨g, 5, none⟩ = false := (hb4.frozen (p := ⟨g, 5, none⟩) HGL.out).trans FI.out
         have FIN := Lib.hid (after_store (i := 5) HD.out hb4 ho4)
         clear ho4 hb4
         go_wp2
         go_meet
         exact ⟨gF, cF, FIN⟩
       ·have hb1 : Below w2.heap.size w2 (((w2).drew).alloc (.cells #[.string ⟨s.toArray⟩] 9)) := hb0.alloc hb0.size _
        have n1 : Blk (((w2).drew).alloc (.cells #[.string ⟨s.toArray⟩] 9)) ((w2).drew).heap.size 9 #[.string ⟨s.toArray⟩] := Blk.new ((w2).drew) 9 _
        refine wp_slice_d (d := some 64) (ps := #[(0, .string ⟨s.toArray⟩)]) rfl rfl (by go_simp) (BS1.out _) ?_
        refine ⟨hb1, ?_⟩
        simp only [Act.put, List.setIfInBounds_toArray, List.set_cons_zero, List.set_cons_succ]
        refine held_one (i := 2) (by kernel_rfl) rfl (by rfl) ?_
        have hb2 : Below w2.heap.size w2 (((((w2).drew).alloc (.cells #[.string ⟨s.toArray⟩] 9))).alloc (.cells #[] 9)) := hb1.alloc hb1.size _
        have r2 : ((((((w2).drew).alloc (.cells #[.string ⟨s.toArray⟩] 9))).alloc (.cells #[] 9))).ownsRow w2.heap.size 9 1 (.slice (some ⟨((((w2).drew).alloc (.cells #[.string ⟨s.toArray⟩] 9))).heap.size, 0, none⟩) 0 0) 0 [] := World.ownsRow_lit ((((w2).drew).alloc (.cells #[.string ⟨s.toArray⟩] 9))) #[] 0 hb1.size (by decide) rfl
        refine wp_slice_d (d := some 55) (ps := #[]) rfl rfl (by go_simp) (BS0.out _) ?_
        refine ⟨hb2, ?_⟩
        simp only [Act.put, List.setIfInBounds_toArray, List.set_cons_zero, List.set_cons_succ]
        refine held_one (i := 9) (by kernel_rfl) rfl (by rfl) ?_
        refine wp_append_G (d := some 62) rfl (.tmp 55) (.tmp 61) 63 rfl w2.heap.size 9 iw zw 1 16 Tryz.underlying63 INF.out.1 INF.out.2.1 INF.out.2.2.2.1 INF.out.2.2.2.2 INF.out.2.2.1 (by decide) _ 0 [] rfl r2 a.A1 (K.i1.length) a.c1 (strC K.i1) rfl (RowG.new RO.out hb2) (one_strC _) (by unfold maxLen; omega) (by omega) hb2.size ?_
        intro v1 w_3 ho3 hg3 hat3
        rw [Nat.zero_add, List.nil_append] at ho3
        have hb3 : Below w2.heap.size w2 w_3 := hb2.grown hg3 hb2.size (fun k e => (r2.lt k e).1)
        refine ⟨hb3, ?_⟩
        simp only [Act.put, List.setIfInBounds_toArray, List.set_cons_zero, List.set_cons_succ]
        have n3 := (n1.chg (Chg.of_new ((Below.refl _ _).alloc (Nat.le_refl _) (.cells #[] 9)) (fun _ => False)) (fun e => e)).chg (Di.chg_of_grown (A := some ⟨(((w2).drew).alloc (.cells #[.string ⟨s.toArray⟩] 9)).heap.size, 0, none⟩) (Below.refl _ _) hg3) (fun e => by have := Di.inB_some e; simp at this)
        refine held_one (i := 12) (by kernel_rfl) rfl (by rfl) ?_
        refine wp_append_d (d := some 65) rfl (.tmp 62) (.tmp 64) 63 rfl w2.heap.size 9 iw zw 1 16 Tryz.underlying63 INF.out.1 INF.out.2.1 INF.out.2.2.2.1 INF.out.2.2.2.2 INF.out.2.2.1 (by decide) v1 (K.i1.length) (strC K.i1) rfl ho3 ⟨((w2).drew).heap.size, 0, none⟩ 1 1 [.string ⟨s.toArray⟩] rfl rfl (World.news_of_block n3) (one_one _) (by decide) (by unfold maxLen; omega) (by omega) hb3.size ?_
        intro gF cF w4 ho4 hg4 hat4 hl4
        have hb4 : Below w2.heap.size w2 w4 := hb3.grown hg4 hb3.size (fun k e => (ho3.lt k e).1)
        refine ⟨hb4, ?_⟩
        refine ht 15 (some 68) (v := .pointer (some ⟨g, 5, none⟩)) rfl rfl (fun w _ => by go_simp) hb4 ?_
        simp only [Act.put, List.setIfInBounds_toArray, List.set_cons_zero, List.set_cons_succ]
        refine wpAnyH_done (by kernel_rfl) ?_ _
        clear ho3 hg3 hat3 hg4 hat4 hl4 hb0 hb1 hb2 hb3 n1 r2 n3
        show wpList _ _ _ _ _ _
        have q' : w4.cell? ⟨g, 5, none⟩ = some (.slice a.A1 K.i1.length a.c1) := (hb4.cell (p := ⟨g, 5, none⟩) HGL.out).trans CI.out
        have f' : w4.frozen? ⟨g, 5, none⟩ = false := (hb4.frozen (p := ⟨g, 5, none⟩) HGL.out).trans FI.out
        have FIN := Lib.hid (after_store (i := 5) HD.out hb4 ho4)
        clear ho4 hb4
        go_wp2
        go_meet
        exact ⟨gF, cF, FIN⟩
      case rest => as_aux_lemma =>
       obtain ⟨gF, cF, hc⟩ := hcut
       obtain ⟨k1, hd, rw_, l1, l2⟩ := hc.out
       have k1' := k1
       have ln : (K.i1 ++ [s]).length = K.i1.length + 1 := by simp
       have st := Lib.hid (HR.out.setRows k1 a.Af a.cf a.fx (some ⟨gF, 0, none⟩) cF a.A2 a.c2 a.Ao a.cO a.ox { K with i1 := K.i1 ++ [s] } rfl rfl (by
        have e : (headC K a).set! 5 (.slice (some ⟨gF, 0, none⟩) (K.i1.length + 1) cF) = headC { K with i1 := K.i1 ++ [s] } { a with A1 := some ⟨gF, 0, none⟩, c1 := cF } := by
         unfold headC
         simp
        exact (congrArg (Blk _ _ _) e).mp hd) HR.out.fx (HR.out.filC k1 HR.out.hR) (HR.out.fpC k1 HR.out.hB) (by rw [ln, strC_snoc]; exact rw_) (HR.out.in2C k1 HR.out.hR) HR.out.ox (HR.out.outC k1 HR.out.hR) (HR.out.opC k1 HR.out.hB)
        (fun x e => by
          rcases e with e | e | e | e
          ·exact .inl (.inl ⟨x, e, rfl⟩)
          ·cases e; exact .inr ⟨l1, l2⟩
          ·exact .inl (.inr (.inr (.inl ⟨x, e, rfl⟩)))
          ·exact .inl (.inr (.inr (.inr ⟨x, e, rfl⟩)))))
       clear hc k1 hd rw_ l1 l2 k1' ln c1 c2 CI FI
       go_wp2
       go_ret2
       rw [ER.out]
       exact ⟨rfl, st.out.first BR.out⟩
    ·rw [hev] at e1
     have EV := Lib.hid hev
     clear hev
     go_upto_region 9 with fail
     have CI := Lib.hid c2
     have FI := Lib.hid (HR.out.head.frozen 6)
     have HGL := Lib.hid (HR.out.lt g (.inl rfl))
     have HD := Lib.hid HR.out.head
     have RO := Lib.hid HR.out.in2
     have LL := Lib.hid (show ∀ W' : World, Below w2.heap.size w2 W' → (Instr.loadAt 63 (.pointer (some ⟨g, 6, none⟩))).run Tryz.prog W' = .ok (.slice a.A2 K.i2.length a.c2) W' from fun W' h => by have := (h.cell (p := ⟨g, 6, none⟩) HGL.out).trans CI.out; go_simp)
     by_cases hfull : (K.i2.length : Int) ≥ 16
     ·have er : arriveR K s = (K, 0, 10) := by
       have h16 : 16 ≤ K.i2.length := by omega
       unfold arriveR
       rw [if_neg SL.out, FD.out]
       simp [EV.out, h16]
      have ER := Lib.hid er
      clear er
      go_wp2
      go_ret2
      rw [ER.out]
      exact ⟨rfl, H.out.same BR.out⟩
     ·have er : arriveR K s = ({ K with i2 := K.i2 ++ [s] }, 2, 0) := by
       have h16 : ¬ 16 ≤ K.i2.length := by omega
       unfold arriveR
       rw [if_neg SL.out, FD.out]
       simp [EV.out, h16]
      have ER := Lib.hid er
      clear er
      have hi16 : K.i2.length < 16 := by omega
      go_upto_region 11 with fail
      go_cut [] (fun wx => ∃ gF cF, Hid (Chg w2 wx (fun k => k = g) ∧ Blk wx g 67 ((headC K a).set! 6 (.slice (some ⟨gF, 0, none⟩) (K.i2.length + 1) cF)) ∧ RowG wx 1 (some ⟨gF, 0, none⟩) (K.i2.length + 1) cF (strC K.i2 ++ [.string ⟨s.toArray⟩]) ∧ w2.heap.size ≤ gF ∧ gF < wx.heap.size))
      case first =>
       clear c1 c2 H HR
       have hb0 : Below w2.heap.size w2 (w2).drew := ⟨rfl, rfl, rfl, Nat.le_refl _, fun _ _ => rfl⟩
       have BS0 := Lib.hid (show ∀ W' : World, (Instr.buildSlice 63 0 #[]).run Tryz.prog W' = .ok (.slice (some ⟨W'.heap.size, 0, none⟩) 0 0) (W'.alloc (.cells #[] 9)) from fun W' => by go_simp)
       have BS1 := Lib.hid (show ∀ W' : World, (Instr.buildSlice 63 1 #[(0, .string ⟨s.toArray⟩)]).run Tryz.prog W' = .ok (.slice (some ⟨W'.heap.size, 0, none⟩) 1 1) (W'.alloc (.cells #[.string ⟨s.toArray⟩] 9)) from fun W' => by go_simp)
       refine wp_head_held (S := Below w2.heap.size w2) 16 (by kernel_rfl) rfl rfl (by kernel_rfl) ?_
       simp only [List.take_succ_cons, List.take_zero, List.drop_succ_cons, List.drop_zero]
       refine ht 0 (some 53) (v := .pointer (some ⟨g, 0, none⟩)) rfl rfl (fun w _ => by go_simp) hb0 ?_
       refine ht 1 (some 54) (v := .int .i64 2) rfl rfl (fun w _ => by go_simp) hb0 ?_
       simp only [Act.put, List.setIfInBounds_toArray, List.set_cons_zero, List.set_cons_succ]
       refine ht 3 (some 56) (v := .pointer (some ⟨g, 0, none⟩)) rfl rfl (fun w _ => by go_simp) hb0 ?_
       refine ht 4 (some 57) (v := .int .i64 2) rfl rfl (fun w _ => by go_simp) hb0 ?_
       simp only [Act.put, List.setIfInBounds_toArray, List.set_cons_zero, List.set_cons_succ]
       refine ht 5 (some 58) (v := .pointer (some ⟨g, 0, none⟩)) rfl rfl (fun w _ => by go_simp) hb0 ?_
       refine ht 6 (some 59) (v := .pointer (some ⟨g, 4, none⟩)) rfl rfl (fun w _ => by go_simp) hb0 ?_
       simp only [Act.put, List.setIfInBounds_toArray, List.set_cons_zero, List.set_cons_succ]
       refine ht 7 (some 60) (v := .pointer (some ⟨g, 6, none⟩)) rfl rfl (fun w _ => by go_simp) hb0 ?_
       refine ht 8 (some 61) (v := .slice a.A2 K.i2.length a.c2) rfl rfl (fun w' hw => exec_load (y := .pointer (some ⟨g, 6, none⟩)) rfl rfl (LL.out w' hw)) hb0 ?_
       simp only [Act.put, List.setIfInBounds_toArray, List.set_cons_zero, List.set_cons_succ]
       refine ht 10 (some 63) (v := .string ⟨s.toArray⟩) rfl rfl (fun w _ => by go_simp) hb0 ?_
       refine ht 13 (some 66) (v := .pointer (some ⟨g, 0, none⟩)) rfl rfl (fun w _ => by go_simp) hb0 ?_
       simp only [Act.put, List.setIfInBounds_toArray, List.set_cons_zero, List.set_cons_succ]
       refine ht 14 (some 67) (v := .pointer (some ⟨g, 4, none⟩)) rfl rfl (fun w _ => by go_simp) hb0 ?_
       simp only [Act.put, List.setIfInBounds_toArray, List.set_cons_zero, List.set_cons_succ]
       refine held_two (i := 2) (j := 11) (by kernel_rfl) rfl rfl (by rfl) (by rfl) ?_ ?_
       ·have hb1 : Below w2.heap.size w2 (((w2).drew).alloc (.cells #[] 9)) := hb0.alloc hb0.size _
        have r1 : ((((w2).drew).alloc (.cells #[] 9))).ownsRow w2.heap.size 9 1 (.slice (some ⟨((w2).drew).heap.size, 0, none⟩) 0 0) 0 [] := World.ownsRow_lit ((w2).drew) #[] 0 hb0.size (by decide) rfl
        refine wp_slice_d (d := some 55) (ps := #[]) rfl rfl (by go_simp) (BS0.out _) ?_
        refine ⟨hb1, ?_⟩
        simp only [Act.put, List.setIfInBounds_toArray, List.set_cons_zero, List.set_cons_succ]
        refine held_two (i := 9) (j := 11) (by kernel_rfl) rfl rfl (by rfl) (by rfl) ?_ ?_
        ·refine wp_append_G (d := some 62) rfl (.tmp 55) (.tmp 61) 63 rfl w2.heap.size 9 iw zw 1 16 Tryz.underlying63 INF.out.1 INF.out.2.1 INF.out.2.2.2.1 INF.out.2.2.2.2 INF.out.2.2.1 (by decide) _ 0 [] rfl r1 a.A2 (K.i2.length) a.c2 (strC K.i2) rfl (RowG.new RO.out hb1) (one_strC _) (by unfold maxLen; omega) (by omega) hb1.size ?_
         intro v1 w_2 ho2 hg2 hat2
         rw [Nat.zero_add, List.nil_append] at ho2
         have hb2 : Below w2.heap.size w2 w_2 := hb1.grown hg2 hb1.size (fun k e => (r1.lt k e).1)
         refine ⟨hb2, ?_⟩
         simp only [Act.put, List.setIfInBounds_toArray, List.set_cons_zero, List.set_cons_succ]
         refine held_one (i := 11) (by kernel_rfl) rfl (by rfl) ?_
         have hb3 : Below w2.heap.size w2 ((w_2).alloc (.cells #[.string ⟨s.toArray⟩] 9)) := hb2.alloc hb2.size _
         have n3 : Blk ((w_2).alloc (.cells #[.string ⟨s.toArray⟩] 9)) (w_2).heap.size 9 #[.string ⟨s.toArray⟩] := Blk.new (w_2) 9 _
         refine wp_slice_d (d := some 64) (ps := #[(0, .string ⟨s.toArray⟩)]) rfl rfl (by go_simp) (BS1.out _) ?_
         refine ⟨hb3, ?_⟩
         simp only [Act.put, List.setIfInBounds_toArray, List.set_cons_zero, List.set_cons_succ]
         refine held_one (i := 12) (by kernel_rfl) rfl (by rfl) ?_
         refine wp_append_d (d := some 65) rfl (.tmp 62) (.tmp 64) 63 rfl w2.heap.size 9 iw zw 1 16 Tryz.underlying63 INF.out.1 INF.out.2.1 INF.out.2.2.2.1 INF.out.2.2.2.2 INF.out.2.2.1 (by decide) v1 (K.i2.length) (strC K.i2) rfl (ho2.alloc _) ⟨w_2.heap.size, 0, none⟩ 1 1 [.string ⟨s.toArray⟩] rfl rfl (World.news_of_block n3) (one_one _) (by decide) (by unfold maxLen; omega) (by omega) hb3.size ?_
         intro gF cF w4 ho4 hg4 hat4 hl4
         have hb4 : Below w2.heap.size w2 w4 := hb3.grown hg4 hb3.size (fun k e => (ho2.lt k e).1)
         refine ⟨hb4, ?_⟩
         refine ht 15 (some 68) (v := .pointer (some ⟨g, 6, none⟩)) rfl rfl (fun w _ => by go_simp) hb4 ?_
         simp only [Act.put, List.setIfInBounds_toArray, List.set_cons_zero, List.set_cons_succ]
         refine wpAnyH_done (by kernel_rfl) ?_ _
         clear ho2 hg2 hat2 hg4 hat4 hl4 hb0 hb1 hb2 hb3 r1 n3
         show wpList _ _ _ _ _ _
         have q' : w4.cell? ⟨g, 6, none⟩ = some (.slice a.A2 K.i2.length a.c2) := (hb4.cell (p := ⟨g, 6, none⟩) HGL.out).trans CI.out
         have f' : w4.frozen? ⟨g, 6, none⟩ = false := (hb4.frozen (p := ⟨g, 6, none⟩) HGL.out).trans FI.out
         have FIN := Lib.hid (after_store (i := 6) HD.out hb4 ho4)
         clear ho4 hb4
         go_wp2
         go_meet
         exact ⟨gF, cF, FIN⟩
        ·have hb2 : Below w2.heap.size w2 (((((w2).drew).alloc (.cells #[] 9))).alloc (.cells #[.string ⟨s.toArray⟩] 9)) := hb1.alloc hb1.size _
         have n2 : Blk (((((w2).drew).alloc (.cells #[] 9))).alloc (.cells #[.string ⟨s.toArray⟩] 9)) ((((w2).drew).alloc (.cells #[] 9))).heap.size 9 #[.string ⟨s.toArray⟩] := Blk.new ((((w2).drew).alloc (.cells #[] 9))) 9 _
         refine wp_slice_d (d := some 64) (ps := #[(0, .string ⟨s.toArray⟩)]) rfl rfl (by go_simp) (BS1.out _) ?_
         refine ⟨hb2, ?_⟩
         simp only [Act.put, List.setIfInBounds_toArray, List.set_cons_zero, List.set_cons_succ]
         refine held_one (i := 9) (by kernel_rfl) rfl (by rfl) ?_
         refine wp_append_G (d := some 62) rfl (.tmp 55) (.tmp 61) 63 rfl w2.heap.size 9 iw zw 1 16 Tryz.underlying63 INF.out.1 INF.out.2.1 INF.out.2.2.2.1 INF.out.2.2.2.2 INF.out.2.2.1 (by decide) _ 0 [] rfl (r1.alloc _) a.A2 (K.i2.length) a.c2 (strC K.i2) rfl (RowG.new RO.out hb2) (one_strC _) (by unfold maxLen; omega) (by omega) hb2.size ?_
         intro v1 w_3 ho3 hg3 hat3
         rw [Nat.zero_add, List.nil_append] at ho3
         have hb3 : Below w2.heap.size w2 w_3 := hb2.grown hg3 hb2.size (fun k e => (r1.lt k e).1)
         refine ⟨hb3, ?_⟩
         simp only [Act.put, List.setIfInBounds_toArray, List.set_cons_zero, List.set_cons_succ]
         have n3 := n2.chg (Di.chg_of_grown (A := some ⟨(w2).drew.heap.size, 0, none⟩) (Below.refl _ _) hg3) (fun e => by have := Di.inB_some e; simp at this)
         refine held_one (i := 12) (by kernel_rfl) rfl (by rfl) ?_
         refine wp_append_d (d := some 65) rfl (.tmp 62) (.tmp 64) 63 rfl w2.heap.size 9 iw zw 1 16 Tryz.underlying63 INF.out.1 INF.out.2.1 INF.out.2.2.2.1 INF.out.2.2.2.2 INF.out.2.2.1 (by decide) v1 (K.i2.length) (strC K.i2) rfl ho3 ⟨((((w2).drew).alloc (.cells #[] 9))).heap.size, 0, none⟩ 1 1 [.string ⟨s.toArray⟩] rfl rfl (World.news_of_block n3) (one_one _) (by decide) (by unfold maxLen; omega) (by omega) hb3.size ?_
         intro gF cF w4 ho4 hg4 hat4 hl4
         have hb4 : Below w2.heap.size w2 w4 := hb3.grown hg4 hb3.size (fun k e => (ho3.lt k e).1)
         refine ⟨hb4, ?_⟩
         refine ht 15 (some 68) (v := .pointer (some ⟨g, 6, none⟩)) rfl rfl (fun w _ => by go_simp) hb4 ?_
         simp only [Act.put, List.setIfInBounds_toArray, List.set_cons_zero, List.set_cons_succ]
         refine wpAnyH_done (by kernel_rfl) ?_ _
         clear ho3 hg3 hat3 hg4 hat4 hl4 hb0 hb1 hb2 hb3 r1 n2 n3
         show wpList _ _ _ _ _ _
         have q' : w4.cell? ⟨g, 6, none⟩ = some (.slice a.A2 K.i2.length a.c2) := (hb4.cell (p := ⟨g, 6, none⟩) HGL.out).trans CI.out
         have f' : w4.frozen? ⟨g, 6, none⟩ = false := (hb4.frozen (p := ⟨g, 6, none⟩) HGL.out).trans FI.out
         have FIN := Lib.hid (after_store (i := 6) HD.out hb4 ho4)
         clear ho4 hb4
         go_wp2
         go_meet
         exact ⟨gF, cF, FIN⟩
       ·have hb1 : Below w2.heap.size w2 (((w2).drew).alloc (.cells #[.string ⟨s.toArray⟩] 9)) := hb0.alloc hb0.size _
        have n1 : Blk (((w2).drew).alloc (.cells #[.string ⟨s.toArray⟩] 9)) ((w2).drew).heap.size 9 #[.string ⟨s.toArray⟩] := Blk.new ((w2).drew) 9 _
        refine wp_slice_d (d := some 64) (ps := #[(0, .string ⟨s.toArray⟩)]) rfl rfl (by go_simp) (BS1.out _) ?_
        refine ⟨hb1, ?_⟩
        simp only [Act.put, List.setIfInBounds_toArray, List.set_cons_zero, List.set_cons_succ]
        refine held_one (i := 2) (by kernel_rfl) rfl (by rfl) ?_
        have hb2 : Below w2.heap.size w2 (((((w2).drew).alloc (.cells #[.string ⟨s.toArray⟩] 9))).alloc (.cells #[] 9)) := hb1.alloc hb1.size _
        have r2 : ((((((w2).drew).alloc (.cells #[.string ⟨s.toArray⟩] 9))).alloc (.cells #[] 9))).ownsRow w2.heap.size 9 1 (.slice (some ⟨((((w2).drew).alloc (.cells #[.string ⟨s.toArray⟩] 9))).heap.size, 0, none⟩) 0 0) 0 [] := World.ownsRow_lit ((((w2).drew).alloc (.cells #[.string ⟨s.toArray⟩] 9))) #[] 0 hb1.size (by decide) rfl
        refine wp_slice_d (d := some 55) (ps := #[]) rfl rfl (by go_simp) (BS0.out _) ?_
        refine ⟨hb2, ?_⟩
        simp only [Act.put, List.setIfInBounds_toArray, List.set_cons_zero, List.set_cons_succ]
        refine held_one (i := 9) (by kernel_rfl) rfl (by rfl) ?_
        refine wp_append_G (d := some 62) rfl (.tmp 55) (.tmp 61) 63 rfl w2.heap.size 9 iw zw 1 16 Tryz.underlying63 INF.out.1 INF.out.2.1 INF.out.2.2.2.1 INF.out.2.2.2.2 INF.out.2.2.1 (by decide) _ 0 [] rfl r2 a.A2 (K.i2.length) a.c2 (strC K.i2) rfl (RowG.new RO.out hb2) (one_strC _) (by unfold maxLen; omega) (by omega) hb2.size ?_
        intro v1 w_3 ho3 hg3 hat3
        rw [Nat.zero_add, List.nil_append] at ho3
        have hb3 : Below w2.heap.size w2 w_3 := hb2.grown hg3 hb2.size (fun k e => (r2.lt k e).1)
        refine ⟨hb3, ?_⟩
        simp only [Act.put, List.setIfInBounds_toArray, List.set_cons_zero, List.set_cons_succ]
        have n3 := (n1.chg (Chg.of_new ((Below.refl _ _).alloc (Nat.le_refl _) (.cells #[] 9)) (fun _ => False)) (fun e => e)).chg (Di.chg_of_grown (A := some ⟨(((w2).drew).alloc (.cells #[.string ⟨s.toArray⟩] 9)).heap.size, 0, none⟩) (Below.refl _ _) hg3) (fun e => by have := Di.inB_some e; simp at this)
        refine held_one (i := 12) (by kernel_rfl) rfl (by rfl) ?_
        refine wp_append_d (d := some 65) rfl (.tmp 62) (.tmp 64) 63 rfl w2.heap.size 9 iw zw 1 16 Tryz.underlying63 INF.out.1 INF.out.2.1 INF.out.2.2.2.1 INF.out.2.2.2.2 INF.out.2.2.1 (by decide) v1 (K.i2.length) (strC K.i2) rfl ho3 ⟨((w2).drew).heap.size, 0, none⟩ 1 1 [.string ⟨s.toArray⟩] rfl rfl (World.news_of_block n3) (one_one _) (by decide) (by unfold maxLen; omega) (by omega) hb3.size ?_
        intro gF cF w4 ho4 hg4 hat4 hl4
        have hb4 : Below w2.heap.size w2 w4 := hb3.grown hg4 hb3.size (fun k e => (ho3.lt k e).1)
        refine ⟨hb4, ?_⟩
        refine ht 15 (some 68) (v := .pointer (some ⟨g, 6, none⟩)) rfl rfl (fun w _ => by go_simp) hb4 ?_
        simp only [Act.put, List.setIfInBounds_toArray, List.set_cons_zero, List.set_cons_succ]
        refine wpAnyH_done (by kernel_rfl) ?_ _
        clear ho3 hg3 hat3 hg4 hat4 hl4 hb0 hb1 hb2 hb3 n1 r2 n3
        show wpList _ _ _ _ _ _
        have q' : w4.cell? ⟨g, 6, none⟩ = some (.slice a.A2 K.i2.length a.c2) := (hb4.cell (p := ⟨g, 6, none⟩) HGL.out).trans CI.out
        have f' : w4.frozen? ⟨g, 6, none⟩ = false := (hb4.frozen (p := ⟨g, 6, none⟩) HGL.out).trans FI.out
        have FIN := Lib.hid (after_store (i := 6) HD.out hb4 ho4)
        clear ho4 hb4
        go_wp2
        go_meet
        exact ⟨gF, cF, FIN⟩
      case rest => as_aux_lemma =>
       obtain ⟨gF, cF, hc⟩ := hcut
       obtain ⟨k1, hd, rw_, l1, l2⟩ := hc.out
       have k1' := k1
       have ln : (K.i2 ++ [s]).length = K.i2.length + 1 := by simp
       have st := Lib.hid (HR.out.setRows k1 a.Af a.cf a.fx a.A1 a.c1 (some ⟨gF, 0, none⟩) cF a.Ao a.cO a.ox { K with i2 := K.i2 ++ [s] } rfl rfl (by
        have e : (headC K a).set! 6 (.slice (some ⟨gF, 0, none⟩) (K.i2.length + 1) cF) = headC { K with i2 := K.i2 ++ [s] } { a with A2 := some ⟨gF, 0, none⟩, c2 := cF } := by
         unfold headC
         simp
        exact (congrArg (Blk _ _ _) e).mp hd) HR.out.fx (HR.out.filC k1 HR.out.hR) (HR.out.fpC k1 HR.out.hB) (HR.out.in1C k1 HR.out.hR) (by rw [ln, strC_snoc]; exact rw_) HR.out.ox (HR.out.outC k1 HR.out.hR) (HR.out.opC k1 HR.out.hB)
        (fun x e => by
          rcases e with e | e | e | e
          ·exact .inl (.inl ⟨x, e, rfl⟩)
          ·exact .inl (.inr (.inl ⟨x, e, rfl⟩))
          ·cases e; exact .inr ⟨l1, l2⟩
          ·exact .inl (.inr (.inr (.inr ⟨x, e, rfl⟩)))))
       clear hc k1 hd rw_ l1 l2 k1' ln c1 c2 CI FI
       go_wp2
       go_ret2
       rw [ER.out]
       exact ⟨rfl, st.out.first BR.out⟩
  ·have hlt' : ¬ (j : Int) < (K.fs.length : Int) := by omega
   obtain rfl : j = K.fs.length := by omega
   have er : arriveR K s = (K, 0, 11) := by
    unfold arriveR
    rw [if_neg SL.out, find_none_iff (p := wants s) (fun k hk => NO.out k hk hk)]
   have ER := Lib.hid er
   clear er
   go_wp2
   go_ret2
   rw [ER.out]
   exact ⟨rfl, H.out.same BR.out⟩
end
end Go.Proofs.YtbkjjakkihbcdaaGreat.Rk

/- The document's kernel: New. Conditions: those that each states. -/
namespace Go.Proofs.YtbkjjakkihbcdaaGreat.Rk
open Go.ChangeShapes Go.WideShapes Go.ChangeAt Go.RowKit Go.Deep Fr Di RE Ke
set_option linter.unusedVariables false
set_option linter.unusedSimpArgs false
theorem newK_owners (n b : Nat) : (newK n b).dk.owners = List.replicate (b - b / 4) 1 ++ List.replicate (b / 4) 2 := by
 have h1 : b - b / 4 + b / 4 = b := by omega
 have e : (newK n b).dk.owners = lent (lent (List.replicate b 0) 0 (b - b / 4) 1) (b - b / 4) (b / 4) 2 := rfl
 rw [e]
 generalize b - b / 4 = m at *
 generalize b / 4 = q at *
 subst h1
 simp [lent]
def ownF (b j : Nat) : List Nat := (List.replicate (b - b / 4) 1 ++ List.replicate (b / 4) 2).take j ++ List.replicate (b - j) 0
theorem ownF_len {b j : Nat} (h : j ≤ b) : (ownF b j).length = b := by unfold ownF; simp; omega
theorem ownF_end (n b : Nat) : ownF b b = (newK n b).dk.owners := by
 rw [newK_owners]
 unfold ownF
 rw [List.take_of_length_le (by simp; omega), Nat.sub_self]
 simp
theorem ownF_succ {b j x : Nat} (hj : j < b) (hx : x = if b - b / 4 ≤ j then 2 else 1) : (ownF b j).set j x = ownF b (j + 1) := by
 have hl : (List.replicate (b - b / 4) 1 ++ List.replicate (b / 4) 2).length = b := by simp; omega
 have hg : (List.replicate (b - b / 4) 1 ++ List.replicate (b / 4) 2)[j]'(by rw [hl]; exact hj) = x := by
  rw [hx, List.getElem_append]
  simp only [List.length_replicate, List.getElem_replicate]
  split <;> split <;> first | rfl | omega
 unfold ownF
 rw [List.take_succ_eq_append_getElem (by rw [hl]; exact hj), hg]
 have ht : ((List.replicate (b - b / 4) 1 ++ List.replicate (b / 4) 2).take j).length = j := by rw [List.length_take, hl]; omega
 rw [List.set_append_right _ _ (by rw [ht]; exact Nat.le_refl _), ht, Nat.sub_self, show b - j = (b - (j + 1)) + 1 from by omega, List.replicate_succ, List.set_cons_zero, List.append_assoc]
 rfl
set_option maxRecDepth 100000 in
set_option maxHeartbeats 4000000 in
theorem rknew_any (n b : Nat) (w : World) (h1 : 1 ≤ n) (h2 : n ≤ 256) (h3 : 4 ≤ b) (h4 : b ≤ 512) :
  Calls Tryz.prog 7 #[.int .i64 (n : Int), .int .i64 (b : Int)] w fun e w' => ∃ g a, e = .returned (.pointer (some ⟨g, 0, none⟩)) ∧ RKAt w.heap.size w' g (newK n b) a ∧ Below w.heap.size w w' := by
 have KOK := Lib.hid (newK_ok h1 h2 h3 h4)
 have T0 := Lib.hid (RD.rnew_any n (by omega) h2 w)
 have D0 := Lib.hid (fun w => RE.rnew_any b (by omega) h4 w)
 go_enter Tryz.func7, Tryz.ntmps7
 go_wp2_with fail
 refine T0.out.mono ?_; rintro e w1 ⟨rfl, ⟨bo, bh, bb, co, ch, cb, t1⟩, b1⟩
 have T1 := Lib.hid t1
 have B1 := Lib.hid b1
 have GT := Lib.hid (show w.heap.size < w1.heap.size from t1.head.lt)
 have Z1 := Lib.hid (show bo < w1.heap.size ∧ bh < w1.heap.size ∧ bb < w1.heap.size from ⟨t1.own.lt, t1.holds.lt, t1.text.lt⟩)
 clear t1 b1 T0
 go_wp2_with fail
 refine (D0.out w1).mono ?_; rintro e w2 ⟨rfl, ⟨R, ⟨bt, bod, ct, cod, Al, cl, rd, hR⟩, fR⟩, b2⟩
 have B2 := Lib.hid b2
 have FR := Lib.hid fR
 have HR := Lib.hid hR
 have b3 : Below w2.heap.size w2 (w2.alloc (.cells #[.pointer (some ⟨w.heap.size, 0, none⟩), .pointer (some ⟨w1.heap.size, 0, none⟩), .slice none 0 0, .int .i64 0, .slice none 0 0, .slice none 0 0, .slice none 0 0, .slice none 0 0, .int .i64 0, .int .i64 0] 67)) := (Below.refl _ w2).alloc (Nat.le_refl _) _
 have X3 := Lib.hid (Blk.new w2 67 #[.pointer (some ⟨w.heap.size, 0, none⟩), .pointer (some ⟨w1.heap.size, 0, none⟩), .slice none 0 0, .int .i64 0, .slice none 0 0, .slice none 0 0, .slice none 0 0, .slice none 0 0, .int .i64 0, .int .i64 0])
 have RD0 := Lib.hid rd
 have LTR := Lib.hid (show ∀ k, R k → k < w2.heap.size from fun k hk => RA.lt (R := R) ⟨bt, bod, ct, cod, Al, cl, rd, hR⟩ hk)
 have B3 := Lib.hid b3
 have hs2 := b2.size
 clear b2 fR hR rd D0
 go_upto_region 2 with fail
 have z3 := X3.out.lt
 generalize w2.alloc (.cells #[.pointer (some ⟨w.heap.size, 0, none⟩), .pointer (some ⟨w1.heap.size, 0, none⟩), .slice none 0 0, .int .i64 0, .slice none 0 0, .slice none 0 0, .slice none 0 0, .slice none 0 0, .int .i64 0, .int .i64 0] 67) = w3 at *
 have BL : bod ≠ w2.heap.size := fun e => by have := LTR.out bod ((HR.out bod).2 (.inr (.inr (.inl rfl)))); omega
 have H0 := Lib.hid (show Heads w3 bod 3 (ownsD (ownF b 0)) from by
  have := RD0.out.own.chg (Chg.of_new B3.out (fun _ => False)) id
  have e : ownF b 0 = (newD b).owners := by unfold ownF newD; simp
  rw [e]; exact this)
 have RD3 := Lib.hid (RD0.out.chg (Chg.of_new B3.out (fun _ => False)) (fun _ h => h.elim))
 obtain ⟨Q, hQ⟩ : ∃ Q, b / 4 = Q := ⟨_, rfl⟩
 have hq0 : (b : Int).tdiv 4 = (Q : Int) := by rw [Int.tdiv_eq_ediv_of_nonneg (by omega)]; omega
 have hq1 := IntWalk.i64_in (Q : Int) (by omega)
 have hq2 := IntWalk.i64_in ((b : Int) - (Q : Int)) (by omega)
 have HQ := Lib.hid hQ
 have QB := Lib.hid (show Q ≤ b from by omega)
 have BLH := Lib.hid BL
 have Z3 := Lib.hid z3
 clear BL hQ z3 b3
 go_wp2
 go_loopw [6] (fun i wr => ∃ j : Nat, j ≤ b ∧ i = .int .i64 (j : Int) ∧ Hid (Heads wr bod 3 (ownsD (ownF b j))) ∧ Hid (Chg w3 wr (fun k => k = bod))) (fun i _ => b - (intOf i).toNat)
 case atStart => exact ⟨0, Nat.zero_le _, rfl, H0, Lib.hid (Chg.refl _ _)⟩
 case round =>
  obtain ⟨j, hj, rfl, HO, KC⟩ := hrel
  by_cases hlt : j < b
  ·have hlt' : (j : Int) < (b : Int) := by omega
   have j0 : (0 : Int) ≤ (j : Int) := by omega
   have xj := IntWalk.i64_in ((j : Int) + 1) (by omega)
   have nd := RD3.out.no
   have c1 := ((X3.out.chg KC.out (fun e => BLH.out e.symm)).cell 1).trans (show _ = some (.pointer (some ⟨w1.heap.size, 0, none⟩)) from rfl)
   have d1 := ((RD3.out.head.chg KC.out nd).cell 1).trans (show _ = some (.slice (some ⟨bod, 0, none⟩) (newD b).blocks.length cod) from rfl)
   rw [show (newD b).blocks.length = b from by unfold newD; simp] at d1
   obtain ⟨ov, co0⟩ := heads_any HO.out (i := j) (by rw [ownF_len (by omega)]; exact hlt)
   have f0 := HO.out.frozen j
   have HO1 := Lib.hid (heads_set (i := j) (e := 1) HO.out)
   have KC1 := Lib.hid (KC.out.trans (Chg.set (S := fun k => k = bod) wr j (.int .i64 ((1 : Nat) : Int)) rfl))
   clear nd
   go_upto_region 6 with fail
   generalize hW1 : wr.setCell ⟨bod, j, none⟩ (.int .i64 1) = wr1 at *
   have HO1 : Hid (Heads wr1 bod 3 (ownsD ((ownF b j).set j 1))) := HO1
   have KC1 : Hid (Chg w3 wr1 (fun k => k = bod)) := KC1
   clear hW1 c1 d1 co0 f0
   by_cases hge : (j : Int) ≥ (b : Int) - (Q : Int)
   ·have nd := RD3.out.no
    have c1 := ((X3.out.chg KC1.out (fun e => BLH.out e.symm)).cell 1).trans (show _ = some (.pointer (some ⟨w1.heap.size, 0, none⟩)) from rfl)
    have d1 := ((RD3.out.head.chg KC1.out nd).cell 1).trans (show _ = some (.slice (some ⟨bod, 0, none⟩) (newD b).blocks.length cod) from rfl)
    rw [show (newD b).blocks.length = b from by unfold newD; simp] at d1
    obtain ⟨ov2, co0⟩ := heads_any HO1.out (i := j) (by rw [List.length_set, ownF_len (by omega)]; exact hlt)
    have f0 := HO1.out.frozen j
    have HO2 := Lib.hid (heads_set (i := j) (e := 2) HO1.out)
    have KC2 := Lib.hid (KC1.out.trans (Chg.set (S := fun k => k = bod) wr1 j (.int .i64 ((2 : Nat) : Int)) rfl))
    have E2 := Lib.hid (show ((ownF b j).set j 1).set j 2 = ownF b (j + 1) from by
     rw [List.set_set]
     exact ownF_succ hlt (by have := HQ.out; have := QB.out; rw [if_pos (by omega)]))
    clear nd
    go_wp2
    go_roundw
    case rel => exact ⟨j + 1, by omega, by go_num, Lib.hid (by rw [← E2.out]; exact HO2.out), Lib.hid KC2.out⟩
    case measure => simp [intOf]; omega
   ·have E1 := Lib.hid (show (ownF b j).set j 1 = ownF b (j + 1) from ownF_succ hlt (by have := HQ.out; have := QB.out; rw [if_neg (by omega)]))
    go_wp2
    go_roundw
    case rel => exact ⟨j + 1, by omega, by go_num, Lib.hid (by rw [← E1.out]; exact HO1.out), KC1⟩
    case measure => simp [intOf]; omega
  ·have hlt' : ¬ (j : Int) < (b : Int) := by omega
   obtain rfl : j = b := by omega
   go_wp2
   go_ret
   have kc := KC.out
   have nR : ∀ k, k = w.heap.size ∨ k = bo ∨ k = bh ∨ k = bb → ¬ R k := fun k hk h => by
    have h5 := FR.out k h
    have h6 := Z1.out
    have h7 := GT.out
    rcases hk with e | e | e | e <;> omega
   have rb : R bod := (HR.out bod).2 (.inr (.inr (.inl rfl)))
   have hz := GT.out
   have hs := B2.out.size
   have hs3 := B3.out.size
   refine ⟨w2.heap.size, rfl, ⟨⟨w.heap.size, bo, bh, bb, co, ch, cb, w1.heap.size, R, none, 0, [], none, 0, none, 0, none, 0, []⟩, ⟨X3.out.chg kc (fun e => BLH.out e.symm), ?_, ?_, rfl, RowG.nil _ _, fun x hx => (by cases hx), RowG.nil _ _, RowG.nil _ _, rfl, RowG.nil _ _, fun x hx => (by cases hx), ?_, ?_, ?_, ?_, ?_, ?_, ?_, ?_⟩⟩, ?_⟩
   ·have t3 := (T1.out.new B2.out).new B3.out
    have n1 : ¬ w.heap.size = bod := fun e => nR _ (.inl rfl) (by rw [e]; exact rb)
    have n2 : ¬ bo = bod := fun e => nR _ (.inr (.inl rfl)) (by rw [e]; exact rb)
    have n3 : ¬ bh = bod := fun e => nR _ (.inr (.inr (.inl rfl))) (by rw [e]; exact rb)
    have n4 : ¬ bb = bod := fun e => nR _ (.inr (.inr (.inr rfl))) (by rw [e]; exact rb)
    exact refT_far t3 kc n1 n2 n3 n4
   ·have r := RD3.out
    have ho : Heads wr bod 3 (ownsD (newK n j).dk.owners) := by rw [← ownF_end n j]; exact HO.out
    exact ⟨bt, bod, ct, cod, Al, cl, ⟨r.head.chg kc r.no, r.text.chg kc r.tn, ho, r.line.chg kc (fun b hb e => r.lo (by have e' : b = bod := e; rw [← e']; exact hb)), r.nt, r.no, r.tn, r.lm, r.lt_, r.lo, KOK.out.dok⟩, HR.out⟩
   ·intro k hk
    rcases hk with hk | hk | hk | hk
    ·omega
    ·have h6 := T1.out.ho; have h7 := T1.out.hh; have h8 := T1.out.hb
     rcases hk with e | e | e | e
     ·exact Nat.le_of_eq e.symm
     ·rw [e]; exact Nat.le_of_lt h6
     ·rw [e]; exact Nat.le_of_lt h7
     ·rw [e]; exact Nat.le_of_lt h8
    ·have := FR.out k hk; omega
    ·rcases hk with ⟨x, e, _⟩ | ⟨x, e, _⟩ | ⟨x, e, _⟩ | ⟨x, e, _⟩ <;> cases e
   ·have hc := kc.size
    have hz3 := Z3.out
    intro k hk
    rcases hk with hk | hk | hk | hk
    ·omega
    ·have h6 := Z1.out
     have : k < w1.heap.size := by rcases hk with e | e | e | e <;> rw [e] <;> first | exact hz | exact h6.1 | exact h6.2.1 | exact h6.2.2
     omega
    ·have := LTR.out k hk; omega
    ·rcases hk with ⟨x, e, _⟩ | ⟨x, e, _⟩ | ⟨x, e, _⟩ | ⟨x, e, _⟩ <;> cases e
   ·intro hk
    have h6 := Z1.out
    have : w2.heap.size < w1.heap.size := by rcases hk with e | e | e | e <;> rw [e] <;> first | exact hz | exact h6.1 | exact h6.2.1 | exact h6.2.2
    omega
   ·intro hk; have := LTR.out _ hk; omega
   ·intro hk; rcases hk with ⟨x, e, _⟩ | ⟨x, e, _⟩ | ⟨x, e, _⟩ | ⟨x, e, _⟩ <;> cases e
   ·exact nR
   ·intro k _ hk; rcases hk with ⟨x, e, _⟩ | ⟨x, e, _⟩ | ⟨x, e, _⟩ | ⟨x, e, _⟩ <;> cases e
   ·intro k _ hk; rcases hk with ⟨x, e, _⟩ | ⟨x, e, _⟩ | ⟨x, e, _⟩ | ⟨x, e, _⟩ <;> cases e
   ·have bw := B1.out.trans ((B2.out.trans (B3.out.mono B2.out.size)).mono B1.out.size)
    exact bw.trans (kc.below (by have := bw.size; exact this) (fun k e => by have := FR.out _ rb; have e' : k = bod := e; omega))
end Go.Proofs.YtbkjjakkihbcdaaGreat.Rk

/- The document's kernel: Call, what is refused, and the calls 1 to 8 and 13. Conditions: those that each states. -/
namespace Go.Proofs.YtbkjjakkihbcdaaGreat.Rk
open Go.ChangeShapes Go.WideShapes Go.ChangeAt Go.RowKit Go.Deep Fr Di RE Ke
set_option linter.unusedVariables false
set_option linter.unusedSimpArgs false
def RCPost (B : Nat) (w : World) (g : Nat) (K : Kn) (a : RP) (q : KQ) : Ending → World → Prop := fun e w' => e = .returned (.tuple #[.int .i64 (callR K q).2.1, .string ⟨(callR K q).2.2.1.toArray⟩, .int .i64 (callR K q).2.2.2]) ∧ RStep B w w' g (callR K q).1 a
section
variable (K : Kn) (env : Int) (he : env = 1 ∨ env = 2) (a b c : Int) (s : List UInt8) (p : List Ins) (l : List Pc)
include he
theorem callR_3 : callR K ⟨3, env, a, b, c, s, p, l⟩ = ({ K with ps := (Fr.giveR K.ps env a b).1 }, 0, [], (Fr.giveR K.ps env a b).2) := by unfold callR; rw [if_neg (fun h => h he)]; rfl
theorem callR_8 : callR K ⟨8, env, a, b, c, s, p, l⟩ = ({ K with dk := (syncR K.dk).1 }, 0, [], (syncR K.dk).2) := by unfold callR; rw [if_neg (fun h => h he)]; rfl
theorem callR_10 : callR K ⟨10, env, a, b, c, s, p, l⟩ = ((unbindR K env a).1, 0, [], (unbindR K env a).2) := by unfold callR; rw [if_neg (fun h => h he)]; rfl
end
theorem rcpost_of {B : Nat} {w w' : World} {g : Nat} {K K' : Kn} {a : RP} {q : KQ} {n : Int} {t : List UInt8} {E : Int} (hc : callR K q = (K', n, t, E)) (h : RStep B w w' g K' a) : RCPost B w g K a q (.returned (.tuple #[.int .i64 n, .string ⟨t.toArray⟩, .int .i64 E])) w' := by
 unfold RCPost
 rw [hc]
 exact ⟨rfl, h⟩
section
variable {B g : Nat} {w : World} {K : Kn} {a : RP}
set_option maxRecDepth 100000 in
set_option maxHeartbeats 4000000 in
theorem rc1 (h : RKAt B w g K a) (ok : K.Ok) (sm : K.next ≤ 1000000 ∧ K.f3 + K.out.length ≤ 1000000 ∧ K.dk.line.length < 1000000) (env : Int) (he : env = 1 ∨ env = 2) (qa qb qc : Int) (wa : -9223372036854775808 ≤ qa ∧ qa ≤ 9223372036854775807) (s : ByteArray) (hs : s.size ≤ 1000) (Ap : Option Addr) (cp : Nat) (p : List Ins) (hp : Prg w Ap p) (pok : ∀ x ∈ p, x.Ok) (gp : Given B Ap p.length) (pm : p.length ≤ 1000000) (Al : Option Addr) (cl : Nat) (l : List Pc) (hl : Pcs w Al l) (lok : ∀ x ∈ l, x.Ok) (gl : Given B Al l.length) (lm : l.length ≤ 1000000) :
  Calls Tryz.prog 10 #[.pointer (some ⟨g, 0, none⟩), .agg #[.int .i64 1, .int .i64 env, .int .i64 qa, .int .i64 qb, .int .i64 qc, .string s, .slice Ap p.length cp, .slice Al l.length cl]] w (RCPost B w g K a ⟨1, env, qa, qb, qc, s.data.toList, p, l⟩) := by
 have g1 : ¬ env < 1 := by omega
 have g2 : ¬ env > 2 := by omega
 have X1 := Lib.hid (Blk.new w 34 #[.int .i64 1, .int .i64 env, .int .i64 qa, .int .i64 qb, .int .i64 qc, .string s, .slice Ap p.length cp, .slice Al l.length cl])
 have b1 : Below w.heap.size w (w.alloc (.cells #[.int .i64 1, .int .i64 env, .int .i64 qa, .int .i64 qb, .int .i64 qc, .string s, .slice Ap p.length cp, .slice Al l.length cl] 34)) := (Below.refl _ w).alloc (Nat.le_refl _) _
 have B1 := Lib.hid b1
 have H1 := Lib.hid (h.new b1)
 have HP := Lib.hid (hp.new b1)
 have HL := Lib.hid (hl.new b1)
 have NQ := Lib.hid (show ¬ a.foot g w.heap.size from fun e => absurd (h.lt _ e) (Nat.lt_irrefl _))
 have HM := Lib.hid (show ∀ x ∈ K.ps, x.holds ≤ 256 from fun x hx => by
  obtain ⟨k, hk, rfl⟩ := List.mem_iff_getElem.1 hx
  rw [ok.holds k hk]
  have := heldN_le ok.out (k : Int)
  have := ok.no
  omega)
 have OK := Lib.hid ok
 have SM := Lib.hid sm
 have HE := Lib.hid he
 have POK := Lib.hid pok
 have LOK := Lib.hid lok
 have GP := Lib.hid gp
 have GL := Lib.hid gl
 clear h ok sm hp hl pok lok gp gl he
 go_enter Tryz.func10, Tryz.ntmps10
 go_upto_region 1 with fail
 generalize w.alloc (.cells #[.int .i64 1, .int .i64 env, .int .i64 qa, .int .i64 qb, .int .i64 qc, .string s, .slice Ap p.length cp, .slice Al l.length cl] 34) = W1 at *
 have q0 := (X1.out.cell 0).trans (show _ = some (.int .i64 1) from rfl)
 have q1 := (X1.out.cell 1).trans (show _ = some (.int .i64 env) from rfl)
 have q2 := (X1.out.cell 2).trans (show _ = some (.int .i64 qa) from rfl)
 have q3 := (X1.out.cell 3).trans (show _ = some (.int .i64 qb) from rfl)
 have q4 := (X1.out.cell 4).trans (show _ = some (.int .i64 qc) from rfl)
 have q5 := (X1.out.cell 5).trans (show _ = some (.string s) from rfl)
 have q6 := (X1.out.cell 6).trans (show _ = some (.slice Ap p.length cp) from rfl)
 have q7 := (X1.out.cell 7).trans (show _ = some (.slice Al l.length cl) from rfl)
 have Q0 := Lib.hid q0
 have Q1 := Lib.hid q1
 have Q2 := Lib.hid q2
 have Q3 := Lib.hid q3
 have Q4 := Lib.hid q4
 have Q5 := Lib.hid q5
 have Q6 := Lib.hid q6
 have Q7 := Lib.hid q7
 clear b1
 have C0 := Lib.hid H1.out.heads.1
 have GLT := Lib.hid (H1.out.lt g (.inl rfl))
 go_upto_region 5 with fail
 clear q0 q1 q2 q3 q4 q5 q6 q7
 refine wp_region_held_drew (S := fun w' => Hid (Chg W1 w' a.tabB)) (by kernel_rfl) (Lib.hid ((Chg.refl W1 a.tabB).drew)) (fun hS => ?_)
 refine ht 0 (some 38) (v := ?_) rfl rfl ?_ hS ?_
 rotate_left
 ·intro w' hSw; go_simp <;> with_reducible rfl
 refine ht 1 (some 39) (v := ?_) rfl rfl ?_ hS ?_
 rotate_left
 ·intro w' hSw; go_simp <;> with_reducible rfl
 simp only [Act.put, List.setIfInBounds_toArray, List.set_cons_zero, List.set_cons_succ]
 refine ht 2 (some 40) (v := ?_) rfl rfl ?_ hS ?_
 rotate_left
 ·intro w' hSw; go_simp <;> with_reducible rfl
 refine ht 3 (some 41) (v := ?_) rfl rfl ?_ hS ?_
 rotate_left
 ·intro w' hSw; have kb := hSw.out; clear hSw; have z := (chg_cell (p := ⟨g, 0, none⟩) kb GLT.out H1.out.gt).trans C0.out; clear kb; go_simp <;> with_reducible rfl
 simp only [Act.put, List.setIfInBounds_toArray, List.set_cons_zero, List.set_cons_succ]
 refine ht 4 (some 42) (v := ?_) rfl rfl ?_ hS ?_
 rotate_left
 ·intro w' hSw; go_simp <;> with_reducible rfl
 refine ht 5 (some 43) (v := ?_) rfl rfl ?_ hS ?_
 rotate_left
 ·intro w' hSw; have kb := hSw.out; clear hSw; have z := (chg_cell (p := ⟨w.heap.size, 1, none⟩) kb X1.out.lt (fun e => NQ.out (.inr (.inl e)))).trans Q1.out; clear kb; go_simp <;> with_reducible rfl
 simp only [Act.put, List.setIfInBounds_toArray, List.set_cons_zero, List.set_cons_succ]
 refine ht 6 (some 44) (v := ?_) rfl rfl ?_ hS ?_
 rotate_left
 ·intro w' hSw; go_simp <;> with_reducible rfl
 simp only [Act.put, List.setIfInBounds_toArray, List.set_cons_zero, List.set_cons_succ]
 refine held_one (i := 7) (by kernel_rfl) rfl (by rfl) ?_
 go_simp
 refine (RD.refDo_any (H1.out.tab.drewN 1) 0 env 0 0 0 ⟨#[]⟩ (by decide) (by decide) (fun x hx => by have := HM.out x hx; omega)).mono ?_; rintro e w4 ⟨rfl, t4, k4⟩
 have hS : Hid (Chg W1 w4 a.tabB) := Lib.hid ((Chg.refl W1 a.tabB).drew.trans (k4.weak (fun i e => .inr e)))
 have td := Lib.hid t4
 have kd := Lib.hid hS.out
 refine ⟨hS, ?_⟩
 clear t4 k4
 (try simp only [Act.put, List.setIfInBounds_toArray, List.set_cons_zero, List.set_cons_succ])
 refine ht 8 (some 46) (v := ?_) rfl rfl ?_ hS ?_
 rotate_left
 ·intro w' hSw; go_simp <;> with_reducible rfl
 refine ht 9 (some 47) (v := ?_) rfl rfl ?_ hS ?_
 rotate_left
 ·intro w' hSw; go_simp <;> with_reducible rfl
 simp only [Act.put, List.setIfInBounds_toArray, List.set_cons_zero, List.set_cons_succ]
 refine ht 10 (some 48) (v := ?_) rfl rfl ?_ hS ?_
 rotate_left
 ·intro w' hSw; go_simp <;> with_reducible rfl
 refine ht 11 (some 4) (v := ?_) rfl rfl ?_ hS ?_
 rotate_left
 ·intro w' hSw; go_simp <;> with_reducible rfl
 simp only [Act.put, List.setIfInBounds_toArray, List.set_cons_zero, List.set_cons_succ]
 refine ht 12 (some 5) (v := ?_) rfl rfl ?_ hS ?_
 rotate_left
 ·intro w' hSw; go_simp <;> with_reducible rfl
 refine ht 13 (some 6) (v := ?_) rfl rfl ?_ hS ?_
 rotate_left
 ·intro w' hSw; go_simp <;> with_reducible rfl
 simp only [Act.put, List.setIfInBounds_toArray, List.set_cons_zero, List.set_cons_succ]
 refine wpAnyH_done (by kernel_rfl) ?_ _
 have ST := Lib.hid ((H1.out.setTab td.out kd.out (fun i e => e)).first B1.out)
 clear hS td kd
 go_wp2
 go_ret3
 exact rcpost_of (callR_1 K env HE.out qa qb qc s.data.toList p l) ST.out
set_option maxRecDepth 100000 in
set_option maxHeartbeats 4000000 in
theorem rc2 (h : RKAt B w g K a) (ok : K.Ok) (sm : K.next ≤ 1000000 ∧ K.f3 + K.out.length ≤ 1000000 ∧ K.dk.line.length < 1000000) (env : Int) (he : env = 1 ∨ env = 2) (qa qb qc : Int) (wa : -9223372036854775808 ≤ qa ∧ qa ≤ 9223372036854775807) (s : ByteArray) (hs : s.size ≤ 1000) (Ap : Option Addr) (cp : Nat) (p : List Ins) (hp : Prg w Ap p) (pok : ∀ x ∈ p, x.Ok) (gp : Given B Ap p.length) (pm : p.length ≤ 1000000) (Al : Option Addr) (cl : Nat) (l : List Pc) (hl : Pcs w Al l) (lok : ∀ x ∈ l, x.Ok) (gl : Given B Al l.length) (lm : l.length ≤ 1000000) :
  Calls Tryz.prog 10 #[.pointer (some ⟨g, 0, none⟩), .agg #[.int .i64 2, .int .i64 env, .int .i64 qa, .int .i64 qb, .int .i64 qc, .string s, .slice Ap p.length cp, .slice Al l.length cl]] w (RCPost B w g K a ⟨2, env, qa, qb, qc, s.data.toList, p, l⟩) := by
 have g1 : ¬ env < 1 := by omega
 have g2 : ¬ env > 2 := by omega
 have X1 := Lib.hid (Blk.new w 34 #[.int .i64 2, .int .i64 env, .int .i64 qa, .int .i64 qb, .int .i64 qc, .string s, .slice Ap p.length cp, .slice Al l.length cl])
 have b1 : Below w.heap.size w (w.alloc (.cells #[.int .i64 2, .int .i64 env, .int .i64 qa, .int .i64 qb, .int .i64 qc, .string s, .slice Ap p.length cp, .slice Al l.length cl] 34)) := (Below.refl _ w).alloc (Nat.le_refl _) _
 have B1 := Lib.hid b1
 have H1 := Lib.hid (h.new b1)
 have HP := Lib.hid (hp.new b1)
 have HL := Lib.hid (hl.new b1)
 have NQ := Lib.hid (show ¬ a.foot g w.heap.size from fun e => absurd (h.lt _ e) (Nat.lt_irrefl _))
 have HM := Lib.hid (show ∀ x ∈ K.ps, x.holds ≤ 256 from fun x hx => by
  obtain ⟨k, hk, rfl⟩ := List.mem_iff_getElem.1 hx
  rw [ok.holds k hk]
  have := heldN_le ok.out (k : Int)
  have := ok.no
  omega)
 have OK := Lib.hid ok
 have SM := Lib.hid sm
 have HE := Lib.hid he
 have POK := Lib.hid pok
 have LOK := Lib.hid lok
 have GP := Lib.hid gp
 have GL := Lib.hid gl
 clear h ok sm hp hl pok lok gp gl he
 go_enter Tryz.func10, Tryz.ntmps10
 go_upto_region 1 with fail
 generalize w.alloc (.cells #[.int .i64 2, .int .i64 env, .int .i64 qa, .int .i64 qb, .int .i64 qc, .string s, .slice Ap p.length cp, .slice Al l.length cl] 34) = W1 at *
 have q0 := (X1.out.cell 0).trans (show _ = some (.int .i64 2) from rfl)
 have q1 := (X1.out.cell 1).trans (show _ = some (.int .i64 env) from rfl)
 have q2 := (X1.out.cell 2).trans (show _ = some (.int .i64 qa) from rfl)
 have q3 := (X1.out.cell 3).trans (show _ = some (.int .i64 qb) from rfl)
 have q4 := (X1.out.cell 4).trans (show _ = some (.int .i64 qc) from rfl)
 have q5 := (X1.out.cell 5).trans (show _ = some (.string s) from rfl)
 have q6 := (X1.out.cell 6).trans (show _ = some (.slice Ap p.length cp) from rfl)
 have q7 := (X1.out.cell 7).trans (show _ = some (.slice Al l.length cl) from rfl)
 have Q0 := Lib.hid q0
 have Q1 := Lib.hid q1
 have Q2 := Lib.hid q2
 have Q3 := Lib.hid q3
 have Q4 := Lib.hid q4
 have Q5 := Lib.hid q5
 have Q6 := Lib.hid q6
 have Q7 := Lib.hid q7
 clear b1
 have C0 := Lib.hid H1.out.heads.1
 have GLT := Lib.hid (H1.out.lt g (.inl rfl))
 go_upto_region 7 with fail
 clear q0 q1 q2 q3 q4 q5 q6 q7
 refine wp_region_held_drew (S := fun w' => Hid (Chg W1 w' a.tabB)) (by kernel_rfl) (Lib.hid ((Chg.refl W1 a.tabB).drew)) (fun hS => ?_)
 refine ht 0 (some 51) (v := ?_) rfl rfl ?_ hS ?_
 rotate_left
 ·intro w' hSw; go_simp <;> with_reducible rfl
 refine ht 1 (some 52) (v := ?_) rfl rfl ?_ hS ?_
 rotate_left
 ·intro w' hSw; go_simp <;> with_reducible rfl
 simp only [Act.put, List.setIfInBounds_toArray, List.set_cons_zero, List.set_cons_succ]
 refine ht 2 (some 53) (v := ?_) rfl rfl ?_ hS ?_
 rotate_left
 ·intro w' hSw; go_simp <;> with_reducible rfl
 refine ht 3 (some 54) (v := ?_) rfl rfl ?_ hS ?_
 rotate_left
 ·intro w' hSw; have kb := hSw.out; clear hSw; have z := (chg_cell (p := ⟨g, 0, none⟩) kb GLT.out H1.out.gt).trans C0.out; clear kb; go_simp <;> with_reducible rfl
 simp only [Act.put, List.setIfInBounds_toArray, List.set_cons_zero, List.set_cons_succ]
 refine ht 4 (some 55) (v := ?_) rfl rfl ?_ hS ?_
 rotate_left
 ·intro w' hSw; go_simp <;> with_reducible rfl
 refine ht 5 (some 56) (v := ?_) rfl rfl ?_ hS ?_
 rotate_left
 ·intro w' hSw; have kb := hSw.out; clear hSw; have z := (chg_cell (p := ⟨w.heap.size, 1, none⟩) kb X1.out.lt (fun e => NQ.out (.inr (.inl e)))).trans Q1.out; clear kb; go_simp <;> with_reducible rfl
 simp only [Act.put, List.setIfInBounds_toArray, List.set_cons_zero, List.set_cons_succ]
 refine ht 6 (some 57) (v := ?_) rfl rfl ?_ hS ?_
 rotate_left
 ·intro w' hSw; go_simp <;> with_reducible rfl
 refine ht 7 (some 58) (v := ?_) rfl rfl ?_ hS ?_
 rotate_left
 ·intro w' hSw; have kb := hSw.out; clear hSw; have z := (chg_cell (p := ⟨w.heap.size, 2, none⟩) kb X1.out.lt (fun e => NQ.out (.inr (.inl e)))).trans Q2.out; clear kb; go_simp <;> with_reducible rfl
 simp only [Act.put, List.setIfInBounds_toArray, List.set_cons_zero, List.set_cons_succ]
 refine ht 8 (some 59) (v := ?_) rfl rfl ?_ hS ?_
 rotate_left
 ·intro w' hSw; go_simp <;> with_reducible rfl
 simp only [Act.put, List.setIfInBounds_toArray, List.set_cons_zero, List.set_cons_succ]
 refine held_one (i := 9) (by kernel_rfl) rfl (by rfl) ?_
 go_simp
 refine (RD.refDo_any (H1.out.tab.drewN 1) 1 env qa 0 0 ⟨#[]⟩ (by decide) (by decide) (fun x hx => by have := HM.out x hx; omega)).mono ?_; rintro e w4 ⟨rfl, t4, k4⟩
 have hS : Hid (Chg W1 w4 a.tabB) := Lib.hid ((Chg.refl W1 a.tabB).drew.trans (k4.weak (fun i e => .inr e)))
 have td := Lib.hid t4
 have kd := Lib.hid hS.out
 refine ⟨hS, ?_⟩
 clear t4 k4
 (try simp only [Act.put, List.setIfInBounds_toArray, List.set_cons_zero, List.set_cons_succ])
 refine ht 10 (some 61) (v := ?_) rfl rfl ?_ hS ?_
 rotate_left
 ·intro w' hSw; go_simp <;> with_reducible rfl
 refine ht 11 (some 62) (v := ?_) rfl rfl ?_ hS ?_
 rotate_left
 ·intro w' hSw; go_simp <;> with_reducible rfl
 simp only [Act.put, List.setIfInBounds_toArray, List.set_cons_zero, List.set_cons_succ]
 refine ht 12 (some 63) (v := ?_) rfl rfl ?_ hS ?_
 rotate_left
 ·intro w' hSw; go_simp <;> with_reducible rfl
 refine ht 13 (some 4) (v := ?_) rfl rfl ?_ hS ?_
 rotate_left
 ·intro w' hSw; go_simp <;> with_reducible rfl
 simp only [Act.put, List.setIfInBounds_toArray, List.set_cons_zero, List.set_cons_succ]
 refine ht 14 (some 5) (v := ?_) rfl rfl ?_ hS ?_
 rotate_left
 ·intro w' hSw; go_simp <;> with_reducible rfl
 refine ht 15 (some 6) (v := ?_) rfl rfl ?_ hS ?_
 rotate_left
 ·intro w' hSw; go_simp <;> with_reducible rfl
 simp only [Act.put, List.setIfInBounds_toArray, List.set_cons_zero, List.set_cons_succ]
 refine wpAnyH_done (by kernel_rfl) ?_ _
 have ST := Lib.hid ((H1.out.setTab td.out kd.out (fun i e => e)).first B1.out)
 clear hS td kd
 go_wp2
 go_ret3
 exact rcpost_of (callR_2 K env HE.out qa qb qc s.data.toList p l) ST.out
set_option maxRecDepth 100000 in
set_option maxHeartbeats 4000000 in
theorem rc3 (h : RKAt B w g K a) (ok : K.Ok) (sm : K.next ≤ 1000000 ∧ K.f3 + K.out.length ≤ 1000000 ∧ K.dk.line.length < 1000000) (env : Int) (he : env = 1 ∨ env = 2) (qa qb qc : Int) (wa : -9223372036854775808 ≤ qa ∧ qa ≤ 9223372036854775807) (s : ByteArray) (hs : s.size ≤ 1000) (Ap : Option Addr) (cp : Nat) (p : List Ins) (hp : Prg w Ap p) (pok : ∀ x ∈ p, x.Ok) (gp : Given B Ap p.length) (pm : p.length ≤ 1000000) (Al : Option Addr) (cl : Nat) (l : List Pc) (hl : Pcs w Al l) (lok : ∀ x ∈ l, x.Ok) (gl : Given B Al l.length) (lm : l.length ≤ 1000000) :
  Calls Tryz.prog 10 #[.pointer (some ⟨g, 0, none⟩), .agg #[.int .i64 3, .int .i64 env, .int .i64 qa, .int .i64 qb, .int .i64 qc, .string s, .slice Ap p.length cp, .slice Al l.length cl]] w (RCPost B w g K a ⟨3, env, qa, qb, qc, s.data.toList, p, l⟩) := by
 have g1 : ¬ env < 1 := by omega
 have g2 : ¬ env > 2 := by omega
 have X1 := Lib.hid (Blk.new w 34 #[.int .i64 3, .int .i64 env, .int .i64 qa, .int .i64 qb, .int .i64 qc, .string s, .slice Ap p.length cp, .slice Al l.length cl])
 have b1 : Below w.heap.size w (w.alloc (.cells #[.int .i64 3, .int .i64 env, .int .i64 qa, .int .i64 qb, .int .i64 qc, .string s, .slice Ap p.length cp, .slice Al l.length cl] 34)) := (Below.refl _ w).alloc (Nat.le_refl _) _
 have B1 := Lib.hid b1
 have H1 := Lib.hid (h.new b1)
 have HP := Lib.hid (hp.new b1)
 have HL := Lib.hid (hl.new b1)
 have NQ := Lib.hid (show ¬ a.foot g w.heap.size from fun e => absurd (h.lt _ e) (Nat.lt_irrefl _))
 have HM := Lib.hid (show ∀ x ∈ K.ps, x.holds ≤ 256 from fun x hx => by
  obtain ⟨k, hk, rfl⟩ := List.mem_iff_getElem.1 hx
  rw [ok.holds k hk]
  have := heldN_le ok.out (k : Int)
  have := ok.no
  omega)
 have OK := Lib.hid ok
 have SM := Lib.hid sm
 have HE := Lib.hid he
 have POK := Lib.hid pok
 have LOK := Lib.hid lok
 have GP := Lib.hid gp
 have GL := Lib.hid gl
 clear h ok sm hp hl pok lok gp gl he
 go_enter Tryz.func10, Tryz.ntmps10
 go_upto_region 1 with fail
 generalize w.alloc (.cells #[.int .i64 3, .int .i64 env, .int .i64 qa, .int .i64 qb, .int .i64 qc, .string s, .slice Ap p.length cp, .slice Al l.length cl] 34) = W1 at *
 have q0 := (X1.out.cell 0).trans (show _ = some (.int .i64 3) from rfl)
 have q1 := (X1.out.cell 1).trans (show _ = some (.int .i64 env) from rfl)
 have q2 := (X1.out.cell 2).trans (show _ = some (.int .i64 qa) from rfl)
 have q3 := (X1.out.cell 3).trans (show _ = some (.int .i64 qb) from rfl)
 have q4 := (X1.out.cell 4).trans (show _ = some (.int .i64 qc) from rfl)
 have q5 := (X1.out.cell 5).trans (show _ = some (.string s) from rfl)
 have q6 := (X1.out.cell 6).trans (show _ = some (.slice Ap p.length cp) from rfl)
 have q7 := (X1.out.cell 7).trans (show _ = some (.slice Al l.length cl) from rfl)
 have Q0 := Lib.hid q0
 have Q1 := Lib.hid q1
 have Q2 := Lib.hid q2
 have Q3 := Lib.hid q3
 have Q4 := Lib.hid q4
 have Q5 := Lib.hid q5
 have Q6 := Lib.hid q6
 have Q7 := Lib.hid q7
 clear b1
 have C0 := Lib.hid H1.out.heads.1
 have GLT := Lib.hid (H1.out.lt g (.inl rfl))
 go_upto_region 9 with fail
 clear q0 q1 q2 q3 q4 q5 q6 q7
 refine wp_region_held_drew (S := fun w' => Hid (Chg W1 w' a.tabB)) (by kernel_rfl) (Lib.hid ((Chg.refl W1 a.tabB).drew)) (fun hS => ?_)
 refine ht 0 (some 66) (v := ?_) rfl rfl ?_ hS ?_
 rotate_left
 ·intro w' hSw; go_simp <;> with_reducible rfl
 refine ht 1 (some 67) (v := ?_) rfl rfl ?_ hS ?_
 rotate_left
 ·intro w' hSw; go_simp <;> with_reducible rfl
 simp only [Act.put, List.setIfInBounds_toArray, List.set_cons_zero, List.set_cons_succ]
 refine ht 2 (some 68) (v := ?_) rfl rfl ?_ hS ?_
 rotate_left
 ·intro w' hSw; go_simp <;> with_reducible rfl
 refine ht 3 (some 69) (v := ?_) rfl rfl ?_ hS ?_
 rotate_left
 ·intro w' hSw; have kb := hSw.out; clear hSw; have z := (chg_cell (p := ⟨g, 0, none⟩) kb GLT.out H1.out.gt).trans C0.out; clear kb; go_simp <;> with_reducible rfl
 simp only [Act.put, List.setIfInBounds_toArray, List.set_cons_zero, List.set_cons_succ]
 refine ht 4 (some 70) (v := ?_) rfl rfl ?_ hS ?_
 rotate_left
 ·intro w' hSw; go_simp <;> with_reducible rfl
 refine ht 5 (some 71) (v := ?_) rfl rfl ?_ hS ?_
 rotate_left
 ·intro w' hSw; have kb := hSw.out; clear hSw; have z := (chg_cell (p := ⟨w.heap.size, 1, none⟩) kb X1.out.lt (fun e => NQ.out (.inr (.inl e)))).trans Q1.out; clear kb; go_simp <;> with_reducible rfl
 simp only [Act.put, List.setIfInBounds_toArray, List.set_cons_zero, List.set_cons_succ]
 refine ht 6 (some 72) (v := ?_) rfl rfl ?_ hS ?_
 rotate_left
 ·intro w' hSw; go_simp <;> with_reducible rfl
 refine ht 7 (some 73) (v := ?_) rfl rfl ?_ hS ?_
 rotate_left
 ·intro w' hSw; have kb := hSw.out; clear hSw; have z := (chg_cell (p := ⟨w.heap.size, 2, none⟩) kb X1.out.lt (fun e => NQ.out (.inr (.inl e)))).trans Q2.out; clear kb; go_simp <;> with_reducible rfl
 simp only [Act.put, List.setIfInBounds_toArray, List.set_cons_zero, List.set_cons_succ]
 refine ht 8 (some 74) (v := ?_) rfl rfl ?_ hS ?_
 rotate_left
 ·intro w' hSw; go_simp <;> with_reducible rfl
 refine ht 9 (some 75) (v := ?_) rfl rfl ?_ hS ?_
 rotate_left
 ·intro w' hSw; have kb := hSw.out; clear hSw; have z := (chg_cell (p := ⟨w.heap.size, 3, none⟩) kb X1.out.lt (fun e => NQ.out (.inr (.inl e)))).trans Q3.out; clear kb; go_simp <;> with_reducible rfl
 simp only [Act.put, List.setIfInBounds_toArray, List.set_cons_zero, List.set_cons_succ]
 refine ht 10 (some 76) (v := ?_) rfl rfl ?_ hS ?_
 rotate_left
 ·intro w' hSw; go_simp <;> with_reducible rfl
 simp only [Act.put, List.setIfInBounds_toArray, List.set_cons_zero, List.set_cons_succ]
 refine held_one (i := 11) (by kernel_rfl) rfl (by rfl) ?_
 go_simp
 refine (RD.refDo_any (H1.out.tab.drewN 1) 2 env qa 0 qb ⟨#[]⟩ (by decide) (by decide) (fun x hx => by have := HM.out x hx; omega)).mono ?_; rintro e w4 ⟨rfl, t4, k4⟩
 have hS : Hid (Chg W1 w4 a.tabB) := Lib.hid ((Chg.refl W1 a.tabB).drew.trans (k4.weak (fun i e => .inr e)))
 have td := Lib.hid t4
 have kd := Lib.hid hS.out
 refine ⟨hS, ?_⟩
 clear t4 k4
 (try simp only [Act.put, List.setIfInBounds_toArray, List.set_cons_zero, List.set_cons_succ])
 refine ht 12 (some 78) (v := ?_) rfl rfl ?_ hS ?_
 rotate_left
 ·intro w' hSw; go_simp <;> with_reducible rfl
 refine ht 13 (some 79) (v := ?_) rfl rfl ?_ hS ?_
 rotate_left
 ·intro w' hSw; go_simp <;> with_reducible rfl
 simp only [Act.put, List.setIfInBounds_toArray, List.set_cons_zero, List.set_cons_succ]
 refine ht 14 (some 80) (v := ?_) rfl rfl ?_ hS ?_
 rotate_left
 ·intro w' hSw; go_simp <;> with_reducible rfl
 refine ht 15 (some 4) (v := ?_) rfl rfl ?_ hS ?_
 rotate_left
 ·intro w' hSw; go_simp <;> with_reducible rfl
 simp only [Act.put, List.setIfInBounds_toArray, List.set_cons_zero, List.set_cons_succ]
 refine ht 16 (some 5) (v := ?_) rfl rfl ?_ hS ?_
 rotate_left
 ·intro w' hSw; go_simp <;> with_reducible rfl
 refine ht 17 (some 6) (v := ?_) rfl rfl ?_ hS ?_
 rotate_left
 ·intro w' hSw; go_simp <;> with_reducible rfl
 simp only [Act.put, List.setIfInBounds_toArray, List.set_cons_zero, List.set_cons_succ]
 refine wpAnyH_done (by kernel_rfl) ?_ _
 have ST := Lib.hid ((H1.out.setTab td.out kd.out (fun i e => e)).first B1.out)
 clear hS td kd
 go_wp2
 go_ret3
 exact rcpost_of (callR_3 K env HE.out qa qb qc s.data.toList p l) ST.out
set_option maxRecDepth 100000 in
set_option maxHeartbeats 4000000 in
theorem rc4 (h : RKAt B w g K a) (ok : K.Ok) (sm : K.next ≤ 1000000 ∧ K.f3 + K.out.length ≤ 1000000 ∧ K.dk.line.length < 1000000) (env : Int) (he : env = 1 ∨ env = 2) (qa qb qc : Int) (wa : -9223372036854775808 ≤ qa ∧ qa ≤ 9223372036854775807) (s : ByteArray) (hs : s.size ≤ 1000) (Ap : Option Addr) (cp : Nat) (p : List Ins) (hp : Prg w Ap p) (pok : ∀ x ∈ p, x.Ok) (gp : Given B Ap p.length) (pm : p.length ≤ 1000000) (Al : Option Addr) (cl : Nat) (l : List Pc) (hl : Pcs w Al l) (lok : ∀ x ∈ l, x.Ok) (gl : Given B Al l.length) (lm : l.length ≤ 1000000) :
  Calls Tryz.prog 10 #[.pointer (some ⟨g, 0, none⟩), .agg #[.int .i64 4, .int .i64 env, .int .i64 qa, .int .i64 qb, .int .i64 qc, .string s, .slice Ap p.length cp, .slice Al l.length cl]] w (RCPost B w g K a ⟨4, env, qa, qb, qc, s.data.toList, p, l⟩) := by
 have g1 : ¬ env < 1 := by omega
 have g2 : ¬ env > 2 := by omega
 have X1 := Lib.hid (Blk.new w 34 #[.int .i64 4, .int .i64 env, .int .i64 qa, .int .i64 qb, .int .i64 qc, .string s, .slice Ap p.length cp, .slice Al l.length cl])
 have b1 : Below w.heap.size w (w.alloc (.cells #[.int .i64 4, .int .i64 env, .int .i64 qa, .int .i64 qb, .int .i64 qc, .string s, .slice Ap p.length cp, .slice Al l.length cl] 34)) := (Below.refl _ w).alloc (Nat.le_refl _) _
 have B1 := Lib.hid b1
 have H1 := Lib.hid (h.new b1)
 have HP := Lib.hid (hp.new b1)
 have HL := Lib.hid (hl.new b1)
 have NQ := Lib.hid (show ¬ a.foot g w.heap.size from fun e => absurd (h.lt _ e) (Nat.lt_irrefl _))
 have HM := Lib.hid (show ∀ x ∈ K.ps, x.holds ≤ 256 from fun x hx => by
  obtain ⟨k, hk, rfl⟩ := List.mem_iff_getElem.1 hx
  rw [ok.holds k hk]
  have := heldN_le ok.out (k : Int)
  have := ok.no
  omega)
 have OK := Lib.hid ok
 have SM := Lib.hid sm
 have HE := Lib.hid he
 have POK := Lib.hid pok
 have LOK := Lib.hid lok
 have GP := Lib.hid gp
 have GL := Lib.hid gl
 clear h ok sm hp hl pok lok gp gl he
 go_enter Tryz.func10, Tryz.ntmps10
 go_upto_region 1 with fail
 generalize w.alloc (.cells #[.int .i64 4, .int .i64 env, .int .i64 qa, .int .i64 qb, .int .i64 qc, .string s, .slice Ap p.length cp, .slice Al l.length cl] 34) = W1 at *
 have q0 := (X1.out.cell 0).trans (show _ = some (.int .i64 4) from rfl)
 have q1 := (X1.out.cell 1).trans (show _ = some (.int .i64 env) from rfl)
 have q2 := (X1.out.cell 2).trans (show _ = some (.int .i64 qa) from rfl)
 have q3 := (X1.out.cell 3).trans (show _ = some (.int .i64 qb) from rfl)
 have q4 := (X1.out.cell 4).trans (show _ = some (.int .i64 qc) from rfl)
 have q5 := (X1.out.cell 5).trans (show _ = some (.string s) from rfl)
 have q6 := (X1.out.cell 6).trans (show _ = some (.slice Ap p.length cp) from rfl)
 have q7 := (X1.out.cell 7).trans (show _ = some (.slice Al l.length cl) from rfl)
 have Q0 := Lib.hid q0
 have Q1 := Lib.hid q1
 have Q2 := Lib.hid q2
 have Q3 := Lib.hid q3
 have Q4 := Lib.hid q4
 have Q5 := Lib.hid q5
 have Q6 := Lib.hid q6
 have Q7 := Lib.hid q7
 clear b1
 have C0 := Lib.hid H1.out.heads.1
 have GLT := Lib.hid (H1.out.lt g (.inl rfl))
 go_upto_region 11 with fail
 clear q0 q1 q2 q3 q4 q5 q6 q7
 refine wp_region_held_drew (S := fun w' => Hid (Chg W1 w' a.tabB)) (by kernel_rfl) (Lib.hid ((Chg.refl W1 a.tabB).drew)) (fun hS => ?_)
 refine ht 0 (some 83) (v := ?_) rfl rfl ?_ hS ?_
 rotate_left
 ·intro w' hSw; go_simp <;> with_reducible rfl
 refine ht 1 (some 84) (v := ?_) rfl rfl ?_ hS ?_
 rotate_left
 ·intro w' hSw; go_simp <;> with_reducible rfl
 simp only [Act.put, List.setIfInBounds_toArray, List.set_cons_zero, List.set_cons_succ]
 refine ht 2 (some 85) (v := ?_) rfl rfl ?_ hS ?_
 rotate_left
 ·intro w' hSw; go_simp <;> with_reducible rfl
 refine ht 3 (some 86) (v := ?_) rfl rfl ?_ hS ?_
 rotate_left
 ·intro w' hSw; have kb := hSw.out; clear hSw; have z := (chg_cell (p := ⟨g, 0, none⟩) kb GLT.out H1.out.gt).trans C0.out; clear kb; go_simp <;> with_reducible rfl
 simp only [Act.put, List.setIfInBounds_toArray, List.set_cons_zero, List.set_cons_succ]
 refine ht 4 (some 87) (v := ?_) rfl rfl ?_ hS ?_
 rotate_left
 ·intro w' hSw; go_simp <;> with_reducible rfl
 refine ht 5 (some 88) (v := ?_) rfl rfl ?_ hS ?_
 rotate_left
 ·intro w' hSw; have kb := hSw.out; clear hSw; have z := (chg_cell (p := ⟨w.heap.size, 1, none⟩) kb X1.out.lt (fun e => NQ.out (.inr (.inl e)))).trans Q1.out; clear kb; go_simp <;> with_reducible rfl
 simp only [Act.put, List.setIfInBounds_toArray, List.set_cons_zero, List.set_cons_succ]
 refine ht 6 (some 89) (v := ?_) rfl rfl ?_ hS ?_
 rotate_left
 ·intro w' hSw; go_simp <;> with_reducible rfl
 refine ht 7 (some 90) (v := ?_) rfl rfl ?_ hS ?_
 rotate_left
 ·intro w' hSw; have kb := hSw.out; clear hSw; have z := (chg_cell (p := ⟨w.heap.size, 2, none⟩) kb X1.out.lt (fun e => NQ.out (.inr (.inl e)))).trans Q2.out; clear kb; go_simp <;> with_reducible rfl
 simp only [Act.put, List.setIfInBounds_toArray, List.set_cons_zero, List.set_cons_succ]
 refine ht 8 (some 91) (v := ?_) rfl rfl ?_ hS ?_
 rotate_left
 ·intro w' hSw; go_simp <;> with_reducible rfl
 refine ht 9 (some 92) (v := ?_) rfl rfl ?_ hS ?_
 rotate_left
 ·intro w' hSw; have kb := hSw.out; clear hSw; have z := (chg_cell (p := ⟨w.heap.size, 3, none⟩) kb X1.out.lt (fun e => NQ.out (.inr (.inl e)))).trans Q3.out; clear kb; go_simp <;> with_reducible rfl
 simp only [Act.put, List.setIfInBounds_toArray, List.set_cons_zero, List.set_cons_succ]
 refine ht 10 (some 93) (v := ?_) rfl rfl ?_ hS ?_
 rotate_left
 ·intro w' hSw; go_simp <;> with_reducible rfl
 refine ht 11 (some 94) (v := ?_) rfl rfl ?_ hS ?_
 rotate_left
 ·intro w' hSw; have kb := hSw.out; clear hSw; have z := (chg_cell (p := ⟨w.heap.size, 4, none⟩) kb X1.out.lt (fun e => NQ.out (.inr (.inl e)))).trans Q4.out; clear kb; go_simp <;> with_reducible rfl
 simp only [Act.put, List.setIfInBounds_toArray, List.set_cons_zero, List.set_cons_succ]
 refine ht 12 (some 95) (v := ?_) rfl rfl ?_ hS ?_
 rotate_left
 ·intro w' hSw; go_simp <;> with_reducible rfl
 simp only [Act.put, List.setIfInBounds_toArray, List.set_cons_zero, List.set_cons_succ]
 refine held_one (i := 13) (by kernel_rfl) rfl (by rfl) ?_
 go_simp
 refine (RD.refDo_any (H1.out.tab.drewN 1) 3 env qa qb qc ⟨#[]⟩ (by decide) (by decide) (fun x hx => by have := HM.out x hx; omega)).mono ?_; rintro e w4 ⟨rfl, t4, k4⟩
 have hS : Hid (Chg W1 w4 a.tabB) := Lib.hid ((Chg.refl W1 a.tabB).drew.trans (k4.weak (fun i e => .inr e)))
 have td := Lib.hid t4
 have kd := Lib.hid hS.out
 refine ⟨hS, ?_⟩
 clear t4 k4
 (try simp only [Act.put, List.setIfInBounds_toArray, List.set_cons_zero, List.set_cons_succ])
 refine ht 14 (some 97) (v := ?_) rfl rfl ?_ hS ?_
 rotate_left
 ·intro w' hSw; go_simp <;> with_reducible rfl
 refine ht 15 (some 98) (v := ?_) rfl rfl ?_ hS ?_
 rotate_left
 ·intro w' hSw; go_simp <;> with_reducible rfl
 simp only [Act.put, List.setIfInBounds_toArray, List.set_cons_zero, List.set_cons_succ]
 refine ht 16 (some 99) (v := ?_) rfl rfl ?_ hS ?_
 rotate_left
 ·intro w' hSw; go_simp <;> with_reducible rfl
 refine ht 17 (some 4) (v := ?_) rfl rfl ?_ hS ?_
 rotate_left
 ·intro w' hSw; go_simp <;> with_reducible rfl
 simp only [Act.put, List.setIfInBounds_toArray, List.set_cons_zero, List.set_cons_succ]
 refine ht 18 (some 5) (v := ?_) rfl rfl ?_ hS ?_
 rotate_left
 ·intro w' hSw; go_simp <;> with_reducible rfl
 refine ht 19 (some 6) (v := ?_) rfl rfl ?_ hS ?_
 rotate_left
 ·intro w' hSw; go_simp <;> with_reducible rfl
 simp only [Act.put, List.setIfInBounds_toArray, List.set_cons_zero, List.set_cons_succ]
 refine wpAnyH_done (by kernel_rfl) ?_ _
 have ST := Lib.hid ((H1.out.setTab td.out kd.out (fun i e => e)).first B1.out)
 clear hS td kd
 go_wp2
 go_ret3
 exact rcpost_of (callR_4 K env HE.out qa qb qc s.data.toList p l) ST.out
set_option maxRecDepth 100000 in
set_option maxHeartbeats 4000000 in
theorem rc5 (h : RKAt B w g K a) (ok : K.Ok) (sm : K.next ≤ 1000000 ∧ K.f3 + K.out.length ≤ 1000000 ∧ K.dk.line.length < 1000000) (env : Int) (he : env = 1 ∨ env = 2) (qa qb qc : Int) (wa : -9223372036854775808 ≤ qa ∧ qa ≤ 9223372036854775807) (s : ByteArray) (hs : s.size ≤ 1000) (Ap : Option Addr) (cp : Nat) (p : List Ins) (hp : Prg w Ap p) (pok : ∀ x ∈ p, x.Ok) (gp : Given B Ap p.length) (pm : p.length ≤ 1000000) (Al : Option Addr) (cl : Nat) (l : List Pc) (hl : Pcs w Al l) (lok : ∀ x ∈ l, x.Ok) (gl : Given B Al l.length) (lm : l.length ≤ 1000000) :
  Calls Tryz.prog 10 #[.pointer (some ⟨g, 0, none⟩), .agg #[.int .i64 5, .int .i64 env, .int .i64 qa, .int .i64 qb, .int .i64 qc, .string s, .slice Ap p.length cp, .slice Al l.length cl]] w (RCPost B w g K a ⟨5, env, qa, qb, qc, s.data.toList, p, l⟩) := by
 have g1 : ¬ env < 1 := by omega
 have g2 : ¬ env > 2 := by omega
 have X1 := Lib.hid (Blk.new w 34 #[.int .i64 5, .int .i64 env, .int .i64 qa, .int .i64 qb, .int .i64 qc, .string s, .slice Ap p.length cp, .slice Al l.length cl])
 have b1 : Below w.heap.size w (w.alloc (.cells #[.int .i64 5, .int .i64 env, .int .i64 qa, .int .i64 qb, .int .i64 qc, .string s, .slice Ap p.length cp, .slice Al l.length cl] 34)) := (Below.refl _ w).alloc (Nat.le_refl _) _
 have B1 := Lib.hid b1
 have H1 := Lib.hid (h.new b1)
 have HP := Lib.hid (hp.new b1)
 have HL := Lib.hid (hl.new b1)
 have NQ := Lib.hid (show ¬ a.foot g w.heap.size from fun e => absurd (h.lt _ e) (Nat.lt_irrefl _))
 have HM := Lib.hid (show ∀ x ∈ K.ps, x.holds ≤ 256 from fun x hx => by
  obtain ⟨k, hk, rfl⟩ := List.mem_iff_getElem.1 hx
  rw [ok.holds k hk]
  have := heldN_le ok.out (k : Int)
  have := ok.no
  omega)
 have OK := Lib.hid ok
 have SM := Lib.hid sm
 have HE := Lib.hid he
 have POK := Lib.hid pok
 have LOK := Lib.hid lok
 have GP := Lib.hid gp
 have GL := Lib.hid gl
 clear h ok sm hp hl pok lok gp gl he
 go_enter Tryz.func10, Tryz.ntmps10
 go_upto_region 1 with fail
 generalize w.alloc (.cells #[.int .i64 5, .int .i64 env, .int .i64 qa, .int .i64 qb, .int .i64 qc, .string s, .slice Ap p.length cp, .slice Al l.length cl] 34) = W1 at *
 have q0 := (X1.out.cell 0).trans (show _ = some (.int .i64 5) from rfl)
 have q1 := (X1.out.cell 1).trans (show _ = some (.int .i64 env) from rfl)
 have q2 := (X1.out.cell 2).trans (show _ = some (.int .i64 qa) from rfl)
 have q3 := (X1.out.cell 3).trans (show _ = some (.int .i64 qb) from rfl)
 have q4 := (X1.out.cell 4).trans (show _ = some (.int .i64 qc) from rfl)
 have q5 := (X1.out.cell 5).trans (show _ = some (.string s) from rfl)
 have q6 := (X1.out.cell 6).trans (show _ = some (.slice Ap p.length cp) from rfl)
 have q7 := (X1.out.cell 7).trans (show _ = some (.slice Al l.length cl) from rfl)
 have Q0 := Lib.hid q0
 have Q1 := Lib.hid q1
 have Q2 := Lib.hid q2
 have Q3 := Lib.hid q3
 have Q4 := Lib.hid q4
 have Q5 := Lib.hid q5
 have Q6 := Lib.hid q6
 have Q7 := Lib.hid q7
 clear b1
 have C0 := Lib.hid H1.out.heads.1
 have GLT := Lib.hid (H1.out.lt g (.inl rfl))
 go_upto_region 13 with fail
 clear q0 q1 q2 q3 q4 q5 q6 q7
 refine wp_region_held_drew (S := fun w' => Hid (Chg W1 w' a.tabB)) (by kernel_rfl) (Lib.hid ((Chg.refl W1 a.tabB).drew)) (fun hS => ?_)
 refine ht 0 (some 102) (v := ?_) rfl rfl ?_ hS ?_
 rotate_left
 ·intro w' hSw; go_simp <;> with_reducible rfl
 refine ht 1 (some 103) (v := ?_) rfl rfl ?_ hS ?_
 rotate_left
 ·intro w' hSw; go_simp <;> with_reducible rfl
 simp only [Act.put, List.setIfInBounds_toArray, List.set_cons_zero, List.set_cons_succ]
 refine ht 2 (some 104) (v := ?_) rfl rfl ?_ hS ?_
 rotate_left
 ·intro w' hSw; go_simp <;> with_reducible rfl
 refine ht 3 (some 105) (v := ?_) rfl rfl ?_ hS ?_
 rotate_left
 ·intro w' hSw; have kb := hSw.out; clear hSw; have z := (chg_cell (p := ⟨g, 0, none⟩) kb GLT.out H1.out.gt).trans C0.out; clear kb; go_simp <;> with_reducible rfl
 simp only [Act.put, List.setIfInBounds_toArray, List.set_cons_zero, List.set_cons_succ]
 refine ht 4 (some 106) (v := ?_) rfl rfl ?_ hS ?_
 rotate_left
 ·intro w' hSw; go_simp <;> with_reducible rfl
 refine ht 5 (some 107) (v := ?_) rfl rfl ?_ hS ?_
 rotate_left
 ·intro w' hSw; have kb := hSw.out; clear hSw; have z := (chg_cell (p := ⟨w.heap.size, 1, none⟩) kb X1.out.lt (fun e => NQ.out (.inr (.inl e)))).trans Q1.out; clear kb; go_simp <;> with_reducible rfl
 simp only [Act.put, List.setIfInBounds_toArray, List.set_cons_zero, List.set_cons_succ]
 refine ht 6 (some 108) (v := ?_) rfl rfl ?_ hS ?_
 rotate_left
 ·intro w' hSw; go_simp <;> with_reducible rfl
 refine ht 7 (some 109) (v := ?_) rfl rfl ?_ hS ?_
 rotate_left
 ·intro w' hSw; have kb := hSw.out; clear hSw; have z := (chg_cell (p := ⟨w.heap.size, 2, none⟩) kb X1.out.lt (fun e => NQ.out (.inr (.inl e)))).trans Q2.out; clear kb; go_simp <;> with_reducible rfl
 simp only [Act.put, List.setIfInBounds_toArray, List.set_cons_zero, List.set_cons_succ]
 refine ht 8 (some 110) (v := ?_) rfl rfl ?_ hS ?_
 rotate_left
 ·intro w' hSw; go_simp <;> with_reducible rfl
 refine ht 9 (some 111) (v := ?_) rfl rfl ?_ hS ?_
 rotate_left
 ·intro w' hSw; have kb := hSw.out; clear hSw; have z := (chg_cell (p := ⟨w.heap.size, 3, none⟩) kb X1.out.lt (fun e => NQ.out (.inr (.inl e)))).trans Q3.out; clear kb; go_simp <;> with_reducible rfl
 simp only [Act.put, List.setIfInBounds_toArray, List.set_cons_zero, List.set_cons_succ]
 refine ht 10 (some 112) (v := ?_) rfl rfl ?_ hS ?_
 rotate_left
 ·intro w' hSw; go_simp <;> with_reducible rfl
 refine ht 11 (some 113) (v := ?_) rfl rfl ?_ hS ?_
 rotate_left
 ·intro w' hSw; have kb := hSw.out; clear hSw; have z := (chg_cell (p := ⟨w.heap.size, 5, none⟩) kb X1.out.lt (fun e => NQ.out (.inr (.inl e)))).trans Q5.out; clear kb; go_simp <;> with_reducible rfl
 simp only [Act.put, List.setIfInBounds_toArray, List.set_cons_zero, List.set_cons_succ]
 refine ht 12 (some 114) (v := ?_) rfl rfl ?_ hS ?_
 rotate_left
 ·intro w' hSw; go_simp <;> with_reducible rfl
 simp only [Act.put, List.setIfInBounds_toArray, List.set_cons_zero, List.set_cons_succ]
 refine held_one (i := 13) (by kernel_rfl) rfl (by rfl) ?_
 go_simp
 refine (RD.refDo_any (H1.out.tab.drewN 1) 4 env qa qb 0 s (by decide) (by decide) (fun x hx => by have := HM.out x hx; omega)).mono ?_; rintro e w4 ⟨rfl, t4, k4⟩
 have hS : Hid (Chg W1 w4 a.tabB) := Lib.hid ((Chg.refl W1 a.tabB).drew.trans (k4.weak (fun i e => .inr e)))
 have td := Lib.hid t4
 have kd := Lib.hid hS.out
 refine ⟨hS, ?_⟩
 clear t4 k4
 (try simp only [Act.put, List.setIfInBounds_toArray, List.set_cons_zero, List.set_cons_succ])
 refine ht 14 (some 116) (v := ?_) rfl rfl ?_ hS ?_
 rotate_left
 ·intro w' hSw; go_simp <;> with_reducible rfl
 refine ht 15 (some 117) (v := ?_) rfl rfl ?_ hS ?_
 rotate_left
 ·intro w' hSw; go_simp <;> with_reducible rfl
 simp only [Act.put, List.setIfInBounds_toArray, List.set_cons_zero, List.set_cons_succ]
 refine ht 16 (some 118) (v := ?_) rfl rfl ?_ hS ?_
 rotate_left
 ·intro w' hSw; go_simp <;> with_reducible rfl
 refine ht 17 (some 4) (v := ?_) rfl rfl ?_ hS ?_
 rotate_left
 ·intro w' hSw; go_simp <;> with_reducible rfl
 simp only [Act.put, List.setIfInBounds_toArray, List.set_cons_zero, List.set_cons_succ]
 refine ht 18 (some 5) (v := ?_) rfl rfl ?_ hS ?_
 rotate_left
 ·intro w' hSw; go_simp <;> with_reducible rfl
 refine ht 19 (some 6) (v := ?_) rfl rfl ?_ hS ?_
 rotate_left
 ·intro w' hSw; go_simp <;> with_reducible rfl
 simp only [Act.put, List.setIfInBounds_toArray, List.set_cons_zero, List.set_cons_succ]
 refine wpAnyH_done (by kernel_rfl) ?_ _
 have ST := Lib.hid ((H1.out.setTab td.out kd.out (fun i e => e)).first B1.out)
 clear hS td kd
 go_wp2
 go_ret3
 exact rcpost_of (callR_5 K env HE.out qa qb qc s.data.toList p l) ST.out
set_option maxRecDepth 100000 in
set_option maxHeartbeats 4000000 in
theorem rc6 (h : RKAt B w g K a) (ok : K.Ok) (sm : K.next ≤ 1000000 ∧ K.f3 + K.out.length ≤ 1000000 ∧ K.dk.line.length < 1000000) (env : Int) (he : env = 1 ∨ env = 2) (qa qb qc : Int) (wa : -9223372036854775808 ≤ qa ∧ qa ≤ 9223372036854775807) (s : ByteArray) (hs : s.size ≤ 1000) (Ap : Option Addr) (cp : Nat) (p : List Ins) (hp : Prg w Ap p) (pok : ∀ x ∈ p, x.Ok) (gp : Given B Ap p.length) (pm : p.length ≤ 1000000) (Al : Option Addr) (cl : Nat) (l : List Pc) (hl : Pcs w Al l) (lok : ∀ x ∈ l, x.Ok) (gl : Given B Al l.length) (lm : l.length ≤ 1000000) :
  Calls Tryz.prog 10 #[.pointer (some ⟨g, 0, none⟩), .agg #[.int .i64 6, .int .i64 env, .int .i64 qa, .int .i64 qb, .int .i64 qc, .string s, .slice Ap p.length cp, .slice Al l.length cl]] w (RCPost B w g K a ⟨6, env, qa, qb, qc, s.data.toList, p, l⟩) := by
 have g1 : ¬ env < 1 := by omega
 have g2 : ¬ env > 2 := by omega
 have X1 := Lib.hid (Blk.new w 34 #[.int .i64 6, .int .i64 env, .int .i64 qa, .int .i64 qb, .int .i64 qc, .string s, .slice Ap p.length cp, .slice Al l.length cl])
 have b1 : Below w.heap.size w (w.alloc (.cells #[.int .i64 6, .int .i64 env, .int .i64 qa, .int .i64 qb, .int .i64 qc, .string s, .slice Ap p.length cp, .slice Al l.length cl] 34)) := (Below.refl _ w).alloc (Nat.le_refl _) _
 have B1 := Lib.hid b1
 have H1 := Lib.hid (h.new b1)
 have HP := Lib.hid (hp.new b1)
 have HL := Lib.hid (hl.new b1)
 have NQ := Lib.hid (show ¬ a.foot g w.heap.size from fun e => absurd (h.lt _ e) (Nat.lt_irrefl _))
 have HM := Lib.hid (show ∀ x ∈ K.ps, x.holds ≤ 256 from fun x hx => by
  obtain ⟨k, hk, rfl⟩ := List.mem_iff_getElem.1 hx
  rw [ok.holds k hk]
  have := heldN_le ok.out (k : Int)
  have := ok.no
  omega)
 have OK := Lib.hid ok
 have SM := Lib.hid sm
 have HE := Lib.hid he
 have POK := Lib.hid pok
 have LOK := Lib.hid lok
 have GP := Lib.hid gp
 have GL := Lib.hid gl
 clear h ok sm hp hl pok lok gp gl he
 go_enter Tryz.func10, Tryz.ntmps10
 go_upto_region 1 with fail
 generalize w.alloc (.cells #[.int .i64 6, .int .i64 env, .int .i64 qa, .int .i64 qb, .int .i64 qc, .string s, .slice Ap p.length cp, .slice Al l.length cl] 34) = W1 at *
 have q0 := (X1.out.cell 0).trans (show _ = some (.int .i64 6) from rfl)
 have q1 := (X1.out.cell 1).trans (show _ = some (.int .i64 env) from rfl)
 have q2 := (X1.out.cell 2).trans (show _ = some (.int .i64 qa) from rfl)
 have q3 := (X1.out.cell 3).trans (show _ = some (.int .i64 qb) from rfl)
 have q4 := (X1.out.cell 4).trans (show _ = some (.int .i64 qc) from rfl)
 have q5 := (X1.out.cell 5).trans (show _ = some (.string s) from rfl)
 have q6 := (X1.out.cell 6).trans (show _ = some (.slice Ap p.length cp) from rfl)
 have q7 := (X1.out.cell 7).trans (show _ = some (.slice Al l.length cl) from rfl)
 have Q0 := Lib.hid q0
 have Q1 := Lib.hid q1
 have Q2 := Lib.hid q2
 have Q3 := Lib.hid q3
 have Q4 := Lib.hid q4
 have Q5 := Lib.hid q5
 have Q6 := Lib.hid q6
 have Q7 := Lib.hid q7
 clear b1
 have C0 := Lib.hid H1.out.heads.2.1
 have GLT := Lib.hid (H1.out.lt g (.inl rfl))
 go_upto_region 15 with fail
 clear q0 q1 q2 q3 q4 q5 q6 q7
 refine wp_region_held_drew (S := fun w' => Hid (Chg W1 w' a.R)) (by kernel_rfl) (Lib.hid ((Chg.refl W1 a.R).drew)) (fun hS => ?_)
 refine ht 0 (some 122) (v := ?_) rfl rfl ?_ hS ?_
 rotate_left
 ·intro w' hSw; go_simp <;> with_reducible rfl
 refine ht 1 (some 123) (v := ?_) rfl rfl ?_ hS ?_
 rotate_left
 ·intro w' hSw; go_simp <;> with_reducible rfl
 simp only [Act.put, List.setIfInBounds_toArray, List.set_cons_zero, List.set_cons_succ]
 refine ht 2 (some 124) (v := ?_) rfl rfl ?_ hS ?_
 rotate_left
 ·intro w' hSw; go_simp <;> with_reducible rfl
 refine ht 3 (some 125) (v := ?_) rfl rfl ?_ hS ?_
 rotate_left
 ·intro w' hSw; have kb := hSw.out; clear hSw; have z := (chg_cell (p := ⟨g, 1, none⟩) kb GLT.out H1.out.gd).trans C0.out; clear kb; go_simp <;> with_reducible rfl
 simp only [Act.put, List.setIfInBounds_toArray, List.set_cons_zero, List.set_cons_succ]
 refine ht 4 (some 126) (v := ?_) rfl rfl ?_ hS ?_
 rotate_left
 ·intro w' hSw; go_simp <;> with_reducible rfl
 refine ht 5 (some 127) (v := ?_) rfl rfl ?_ hS ?_
 rotate_left
 ·intro w' hSw; have kb := hSw.out; clear hSw; have z := (chg_cell (p := ⟨w.heap.size, 1, none⟩) kb X1.out.lt (fun e => NQ.out (.inr (.inr (.inl e))))).trans Q1.out; clear kb; go_simp <;> with_reducible rfl
 simp only [Act.put, List.setIfInBounds_toArray, List.set_cons_zero, List.set_cons_succ]
 refine ht 6 (some 128) (v := ?_) rfl rfl ?_ hS ?_
 rotate_left
 ·intro w' hSw; go_simp <;> with_reducible rfl
 refine ht 7 (some 129) (v := ?_) rfl rfl ?_ hS ?_
 rotate_left
 ·intro w' hSw; have kb := hSw.out; clear hSw; have z := (chg_cell (p := ⟨w.heap.size, 2, none⟩) kb X1.out.lt (fun e => NQ.out (.inr (.inr (.inl e))))).trans Q2.out; clear kb; go_simp <;> with_reducible rfl
 simp only [Act.put, List.setIfInBounds_toArray, List.set_cons_zero, List.set_cons_succ]
 refine ht 8 (some 130) (v := ?_) rfl rfl ?_ hS ?_
 rotate_left
 ·intro w' hSw; go_simp <;> with_reducible rfl
 simp only [Act.put, List.setIfInBounds_toArray, List.set_cons_zero, List.set_cons_succ]
 refine held_one (i := 9) (by kernel_rfl) rfl (by rfl) ?_
 go_simp
 refine (RE.rdo_any (RE.RA.drewN H1.out.dsk 1) 1 env qa 0 ⟨#[]⟩ wa (by decide) SM.out.2.2).mono ?_; rintro e w4 ⟨rfl, R4, t4, k4, f4⟩
 have hS : Hid (Chg W1 w4 a.R) := Lib.hid ((Chg.refl W1 a.R).drew.trans k4)
 have td := Lib.hid t4
 have kd := Lib.hid hS.out
 have fd := Lib.hid f4
 refine ⟨hS, ?_⟩
 clear t4 k4 f4
 (try simp only [Act.put, List.setIfInBounds_toArray, List.set_cons_zero, List.set_cons_succ])
 refine ht 10 (some 121) (v := ?_) rfl rfl ?_ hS ?_
 rotate_left
 ·intro w' hSw; go_simp <;> with_reducible rfl
 refine ht 11 (some 132) (v := ?_) rfl rfl ?_ hS ?_
 rotate_left
 ·intro w' hSw; go_simp <;> with_reducible rfl
 simp only [Act.put, List.setIfInBounds_toArray, List.set_cons_zero, List.set_cons_succ]
 refine ht 12 (some 133) (v := ?_) rfl rfl ?_ hS ?_
 rotate_left
 ·intro w' hSw; go_simp <;> with_reducible rfl
 refine ht 13 (some 7) (v := ?_) rfl rfl ?_ hS ?_
 rotate_left
 ·intro w' hSw; go_simp <;> with_reducible rfl
 simp only [Act.put, List.setIfInBounds_toArray, List.set_cons_zero, List.set_cons_succ]
 refine ht 14 (some 8) (v := ?_) rfl rfl ?_ hS ?_
 rotate_left
 ·intro w' hSw; go_simp <;> with_reducible rfl
 simp only [Act.put, List.setIfInBounds_toArray, List.set_cons_zero, List.set_cons_succ]
 refine wpAnyH_done (by kernel_rfl) ?_ _
 have ST := Lib.hid ((H1.out.setDsk td.out ⟨kd.out, fd.out⟩).first B1.out)
 clear hS td kd fd
 go_wp2
 go_ret3
 exact rcpost_of (callR_6 K env HE.out qa qb qc s.data.toList p l) ST.out
set_option maxRecDepth 100000 in
set_option maxHeartbeats 4000000 in
theorem rc7 (h : RKAt B w g K a) (ok : K.Ok) (sm : K.next ≤ 1000000 ∧ K.f3 + K.out.length ≤ 1000000 ∧ K.dk.line.length < 1000000) (env : Int) (he : env = 1 ∨ env = 2) (qa qb qc : Int) (wa : -9223372036854775808 ≤ qa ∧ qa ≤ 9223372036854775807) (s : ByteArray) (hs : s.size ≤ 1000) (Ap : Option Addr) (cp : Nat) (p : List Ins) (hp : Prg w Ap p) (pok : ∀ x ∈ p, x.Ok) (gp : Given B Ap p.length) (pm : p.length ≤ 1000000) (Al : Option Addr) (cl : Nat) (l : List Pc) (hl : Pcs w Al l) (lok : ∀ x ∈ l, x.Ok) (gl : Given B Al l.length) (lm : l.length ≤ 1000000) :
  Calls Tryz.prog 10 #[.pointer (some ⟨g, 0, none⟩), .agg #[.int .i64 7, .int .i64 env, .int .i64 qa, .int .i64 qb, .int .i64 qc, .string s, .slice Ap p.length cp, .slice Al l.length cl]] w (RCPost B w g K a ⟨7, env, qa, qb, qc, s.data.toList, p, l⟩) := by
 have g1 : ¬ env < 1 := by omega
 have g2 : ¬ env > 2 := by omega
 have X1 := Lib.hid (Blk.new w 34 #[.int .i64 7, .int .i64 env, .int .i64 qa, .int .i64 qb, .int .i64 qc, .string s, .slice Ap p.length cp, .slice Al l.length cl])
 have b1 : Below w.heap.size w (w.alloc (.cells #[.int .i64 7, .int .i64 env, .int .i64 qa, .int .i64 qb, .int .i64 qc, .string s, .slice Ap p.length cp, .slice Al l.length cl] 34)) := (Below.refl _ w).alloc (Nat.le_refl _) _
 have B1 := Lib.hid b1
 have H1 := Lib.hid (h.new b1)
 have HP := Lib.hid (hp.new b1)
 have HL := Lib.hid (hl.new b1)
 have NQ := Lib.hid (show ¬ a.foot g w.heap.size from fun e => absurd (h.lt _ e) (Nat.lt_irrefl _))
 have HM := Lib.hid (show ∀ x ∈ K.ps, x.holds ≤ 256 from fun x hx => by
  obtain ⟨k, hk, rfl⟩ := List.mem_iff_getElem.1 hx
  rw [ok.holds k hk]
  have := heldN_le ok.out (k : Int)
  have := ok.no
  omega)
 have OK := Lib.hid ok
 have SM := Lib.hid sm
 have HE := Lib.hid he
 have POK := Lib.hid pok
 have LOK := Lib.hid lok
 have GP := Lib.hid gp
 have GL := Lib.hid gl
 clear h ok sm hp hl pok lok gp gl he
 go_enter Tryz.func10, Tryz.ntmps10
 go_upto_region 1 with fail
 generalize w.alloc (.cells #[.int .i64 7, .int .i64 env, .int .i64 qa, .int .i64 qb, .int .i64 qc, .string s, .slice Ap p.length cp, .slice Al l.length cl] 34) = W1 at *
 have q0 := (X1.out.cell 0).trans (show _ = some (.int .i64 7) from rfl)
 have q1 := (X1.out.cell 1).trans (show _ = some (.int .i64 env) from rfl)
 have q2 := (X1.out.cell 2).trans (show _ = some (.int .i64 qa) from rfl)
 have q3 := (X1.out.cell 3).trans (show _ = some (.int .i64 qb) from rfl)
 have q4 := (X1.out.cell 4).trans (show _ = some (.int .i64 qc) from rfl)
 have q5 := (X1.out.cell 5).trans (show _ = some (.string s) from rfl)
 have q6 := (X1.out.cell 6).trans (show _ = some (.slice Ap p.length cp) from rfl)
 have q7 := (X1.out.cell 7).trans (show _ = some (.slice Al l.length cl) from rfl)
 have Q0 := Lib.hid q0
 have Q1 := Lib.hid q1
 have Q2 := Lib.hid q2
 have Q3 := Lib.hid q3
 have Q4 := Lib.hid q4
 have Q5 := Lib.hid q5
 have Q6 := Lib.hid q6
 have Q7 := Lib.hid q7
 clear b1
 have C0 := Lib.hid H1.out.heads.2.1
 have GLT := Lib.hid (H1.out.lt g (.inl rfl))
 go_upto_region 18 with fail
 clear q0 q1 q2 q3 q4 q5 q6 q7
 refine wp_region_held_drew (S := fun w' => Hid (Chg W1 w' a.R)) (by kernel_rfl) (Lib.hid ((Chg.refl W1 a.R).drew)) (fun hS => ?_)
 refine ht 0 (some 139) (v := ?_) rfl rfl ?_ hS ?_
 rotate_left
 ·intro w' hSw; go_simp <;> with_reducible rfl
 refine ht 1 (some 140) (v := ?_) rfl rfl ?_ hS ?_
 rotate_left
 ·intro w' hSw; go_simp <;> with_reducible rfl
 simp only [Act.put, List.setIfInBounds_toArray, List.set_cons_zero, List.set_cons_succ]
 refine ht 2 (some 141) (v := ?_) rfl rfl ?_ hS ?_
 rotate_left
 ·intro w' hSw; go_simp <;> with_reducible rfl
 refine ht 3 (some 142) (v := ?_) rfl rfl ?_ hS ?_
 rotate_left
 ·intro w' hSw; have kb := hSw.out; clear hSw; have z := (chg_cell (p := ⟨g, 1, none⟩) kb GLT.out H1.out.gd).trans C0.out; clear kb; go_simp <;> with_reducible rfl
 simp only [Act.put, List.setIfInBounds_toArray, List.set_cons_zero, List.set_cons_succ]
 refine ht 4 (some 143) (v := ?_) rfl rfl ?_ hS ?_
 rotate_left
 ·intro w' hSw; go_simp <;> with_reducible rfl
 refine ht 5 (some 144) (v := ?_) rfl rfl ?_ hS ?_
 rotate_left
 ·intro w' hSw; have kb := hSw.out; clear hSw; have z := (chg_cell (p := ⟨w.heap.size, 1, none⟩) kb X1.out.lt (fun e => NQ.out (.inr (.inr (.inl e))))).trans Q1.out; clear kb; go_simp <;> with_reducible rfl
 simp only [Act.put, List.setIfInBounds_toArray, List.set_cons_zero, List.set_cons_succ]
 refine ht 6 (some 145) (v := ?_) rfl rfl ?_ hS ?_
 rotate_left
 ·intro w' hSw; go_simp <;> with_reducible rfl
 refine ht 7 (some 146) (v := ?_) rfl rfl ?_ hS ?_
 rotate_left
 ·intro w' hSw; have kb := hSw.out; clear hSw; have z := (chg_cell (p := ⟨w.heap.size, 2, none⟩) kb X1.out.lt (fun e => NQ.out (.inr (.inr (.inl e))))).trans Q2.out; clear kb; go_simp <;> with_reducible rfl
 simp only [Act.put, List.setIfInBounds_toArray, List.set_cons_zero, List.set_cons_succ]
 refine ht 8 (some 147) (v := ?_) rfl rfl ?_ hS ?_
 rotate_left
 ·intro w' hSw; go_simp <;> with_reducible rfl
 refine ht 9 (some 148) (v := ?_) rfl rfl ?_ hS ?_
 rotate_left
 ·intro w' hSw; have kb := hSw.out; clear hSw; have z := (chg_cell (p := ⟨w.heap.size, 5, none⟩) kb X1.out.lt (fun e => NQ.out (.inr (.inr (.inl e))))).trans Q5.out; clear kb; go_simp <;> with_reducible rfl
 simp only [Act.put, List.setIfInBounds_toArray, List.set_cons_zero, List.set_cons_succ]
 refine ht 10 (some 149) (v := ?_) rfl rfl ?_ hS ?_
 rotate_left
 ·intro w' hSw; go_simp <;> with_reducible rfl
 simp only [Act.put, List.setIfInBounds_toArray, List.set_cons_zero, List.set_cons_succ]
 refine held_one (i := 11) (by kernel_rfl) rfl (by rfl) ?_
 go_simp
 refine (RE.rdo_any (RE.RA.drewN H1.out.dsk 1) 2 env qa 0 s wa hs SM.out.2.2).mono ?_; rintro e w4 ⟨rfl, R4, t4, k4, f4⟩
 have hS : Hid (Chg W1 w4 a.R) := Lib.hid ((Chg.refl W1 a.R).drew.trans k4)
 have td := Lib.hid t4
 have kd := Lib.hid hS.out
 have fd := Lib.hid f4
 refine ⟨hS, ?_⟩
 clear t4 k4 f4
 (try simp only [Act.put, List.setIfInBounds_toArray, List.set_cons_zero, List.set_cons_succ])
 refine ht 12 (some 138) (v := ?_) rfl rfl ?_ hS ?_
 rotate_left
 ·intro w' hSw; go_simp <;> with_reducible rfl
 refine ht 13 (some 151) (v := ?_) rfl rfl ?_ hS ?_
 rotate_left
 ·intro w' hSw; go_simp <;> with_reducible rfl
 simp only [Act.put, List.setIfInBounds_toArray, List.set_cons_zero, List.set_cons_succ]
 refine ht 14 (some 152) (v := ?_) rfl rfl ?_ hS ?_
 rotate_left
 ·intro w' hSw; go_simp <;> with_reducible rfl
 refine ht 15 (some 9) (v := ?_) rfl rfl ?_ hS ?_
 rotate_left
 ·intro w' hSw; go_simp <;> with_reducible rfl
 simp only [Act.put, List.setIfInBounds_toArray, List.set_cons_zero, List.set_cons_succ]
 refine ht 16 (some 10) (v := ?_) rfl rfl ?_ hS ?_
 rotate_left
 ·intro w' hSw; go_simp <;> with_reducible rfl
 simp only [Act.put, List.setIfInBounds_toArray, List.set_cons_zero, List.set_cons_succ]
 refine wpAnyH_done (by kernel_rfl) ?_ _
 have ST := Lib.hid ((H1.out.setDsk td.out ⟨kd.out, fd.out⟩).first B1.out)
 clear hS td kd fd
 go_wp2
 go_ret3
 exact rcpost_of (callR_7 K env HE.out qa qb qc s.data.toList p l) ST.out
set_option maxRecDepth 100000 in
set_option maxHeartbeats 4000000 in
theorem rc8 (h : RKAt B w g K a) (ok : K.Ok) (sm : K.next ≤ 1000000 ∧ K.f3 + K.out.length ≤ 1000000 ∧ K.dk.line.length < 1000000) (env : Int) (he : env = 1 ∨ env = 2) (qa qb qc : Int) (wa : -9223372036854775808 ≤ qa ∧ qa ≤ 9223372036854775807) (s : ByteArray) (hs : s.size ≤ 1000) (Ap : Option Addr) (cp : Nat) (p : List Ins) (hp : Prg w Ap p) (pok : ∀ x ∈ p, x.Ok) (gp : Given B Ap p.length) (pm : p.length ≤ 1000000) (Al : Option Addr) (cl : Nat) (l : List Pc) (hl : Pcs w Al l) (lok : ∀ x ∈ l, x.Ok) (gl : Given B Al l.length) (lm : l.length ≤ 1000000) :
  Calls Tryz.prog 10 #[.pointer (some ⟨g, 0, none⟩), .agg #[.int .i64 8, .int .i64 env, .int .i64 qa, .int .i64 qb, .int .i64 qc, .string s, .slice Ap p.length cp, .slice Al l.length cl]] w (RCPost B w g K a ⟨8, env, qa, qb, qc, s.data.toList, p, l⟩) := by
 have g1 : ¬ env < 1 := by omega
 have g2 : ¬ env > 2 := by omega
 have X1 := Lib.hid (Blk.new w 34 #[.int .i64 8, .int .i64 env, .int .i64 qa, .int .i64 qb, .int .i64 qc, .string s, .slice Ap p.length cp, .slice Al l.length cl])
 have b1 : Below w.heap.size w (w.alloc (.cells #[.int .i64 8, .int .i64 env, .int .i64 qa, .int .i64 qb, .int .i64 qc, .string s, .slice Ap p.length cp, .slice Al l.length cl] 34)) := (Below.refl _ w).alloc (Nat.le_refl _) _
 have B1 := Lib.hid b1
 have H1 := Lib.hid (h.new b1)
 have HP := Lib.hid (hp.new b1)
 have HL := Lib.hid (hl.new b1)
 have NQ := Lib.hid (show ¬ a.foot g w.heap.size from fun e => absurd (h.lt _ e) (Nat.lt_irrefl _))
 have HM := Lib.hid (show ∀ x ∈ K.ps, x.holds ≤ 256 from fun x hx => by
  obtain ⟨k, hk, rfl⟩ := List.mem_iff_getElem.1 hx
  rw [ok.holds k hk]
  have := heldN_le ok.out (k : Int)
  have := ok.no
  omega)
 have OK := Lib.hid ok
 have SM := Lib.hid sm
 have HE := Lib.hid he
 have POK := Lib.hid pok
 have LOK := Lib.hid lok
 have GP := Lib.hid gp
 have GL := Lib.hid gl
 clear h ok sm hp hl pok lok gp gl he
 go_enter Tryz.func10, Tryz.ntmps10
 go_upto_region 1 with fail
 generalize w.alloc (.cells #[.int .i64 8, .int .i64 env, .int .i64 qa, .int .i64 qb, .int .i64 qc, .string s, .slice Ap p.length cp, .slice Al l.length cl] 34) = W1 at *
 have q0 := (X1.out.cell 0).trans (show _ = some (.int .i64 8) from rfl)
 have q1 := (X1.out.cell 1).trans (show _ = some (.int .i64 env) from rfl)
 have q2 := (X1.out.cell 2).trans (show _ = some (.int .i64 qa) from rfl)
 have q3 := (X1.out.cell 3).trans (show _ = some (.int .i64 qb) from rfl)
 have q4 := (X1.out.cell 4).trans (show _ = some (.int .i64 qc) from rfl)
 have q5 := (X1.out.cell 5).trans (show _ = some (.string s) from rfl)
 have q6 := (X1.out.cell 6).trans (show _ = some (.slice Ap p.length cp) from rfl)
 have q7 := (X1.out.cell 7).trans (show _ = some (.slice Al l.length cl) from rfl)
 have Q0 := Lib.hid q0
 have Q1 := Lib.hid q1
 have Q2 := Lib.hid q2
 have Q3 := Lib.hid q3
 have Q4 := Lib.hid q4
 have Q5 := Lib.hid q5
 have Q6 := Lib.hid q6
 have Q7 := Lib.hid q7
 clear b1
 have C0 := Lib.hid H1.out.heads.2.1
 have c1 := C0.out
 clear q2 q3 q4 q5 q6 q7
 go_wp2_with fail
 refine (RE.rdo_any H1.out.dsk 3 0 0 0 ⟨#[]⟩ (by decide) (by decide) SM.out.2.2).mono ?_; rintro e w4 ⟨rfl, R4, t4, k4, f4⟩
 have ST := Lib.hid ((H1.out.setDsk t4 ⟨k4, f4⟩).first B1.out)
 clear t4 k4 f4 c1
 go_wp2
 go_ret3
 exact rcpost_of (callR_8 K env HE.out qa qb qc s.data.toList p l) ST.out
set_option maxRecDepth 100000 in
set_option maxHeartbeats 4000000 in
theorem rc13 (h : RKAt B w g K a) (ok : K.Ok) (sm : K.next ≤ 1000000 ∧ K.f3 + K.out.length ≤ 1000000 ∧ K.dk.line.length < 1000000) (env : Int) (he : env = 1 ∨ env = 2) (qa qb qc : Int) (wa : -9223372036854775808 ≤ qa ∧ qa ≤ 9223372036854775807) (s : ByteArray) (hs : s.size ≤ 1000) (Ap : Option Addr) (cp : Nat) (p : List Ins) (hp : Prg w Ap p) (pok : ∀ x ∈ p, x.Ok) (gp : Given B Ap p.length) (pm : p.length ≤ 1000000) (Al : Option Addr) (cl : Nat) (l : List Pc) (hl : Pcs w Al l) (lok : ∀ x ∈ l, x.Ok) (gl : Given B Al l.length) (lm : l.length ≤ 1000000) :
  Calls Tryz.prog 10 #[.pointer (some ⟨g, 0, none⟩), .agg #[.int .i64 13, .int .i64 env, .int .i64 qa, .int .i64 qb, .int .i64 qc, .string s, .slice Ap p.length cp, .slice Al l.length cl]] w (RCPost B w g K a ⟨13, env, qa, qb, qc, s.data.toList, p, l⟩) := by
 have g1 : ¬ env < 1 := by omega
 have g2 : ¬ env > 2 := by omega
 have X1 := Lib.hid (Blk.new w 34 #[.int .i64 13, .int .i64 env, .int .i64 qa, .int .i64 qb, .int .i64 qc, .string s, .slice Ap p.length cp, .slice Al l.length cl])
 have b1 : Below w.heap.size w (w.alloc (.cells #[.int .i64 13, .int .i64 env, .int .i64 qa, .int .i64 qb, .int .i64 qc, .string s, .slice Ap p.length cp, .slice Al l.length cl] 34)) := (Below.refl _ w).alloc (Nat.le_refl _) _
 have B1 := Lib.hid b1
 have H1 := Lib.hid (h.new b1)
 have HP := Lib.hid (hp.new b1)
 have HL := Lib.hid (hl.new b1)
 have NQ := Lib.hid (show ¬ a.foot g w.heap.size from fun e => absurd (h.lt _ e) (Nat.lt_irrefl _))
 have HM := Lib.hid (show ∀ x ∈ K.ps, x.holds ≤ 256 from fun x hx => by
  obtain ⟨k, hk, rfl⟩ := List.mem_iff_getElem.1 hx
  rw [ok.holds k hk]
  have := heldN_le ok.out (k : Int)
  have := ok.no
  omega)
 have OK := Lib.hid ok
 have SM := Lib.hid sm
 have HE := Lib.hid he
 have POK := Lib.hid pok
 have LOK := Lib.hid lok
 have GP := Lib.hid gp
 have GL := Lib.hid gl
 clear h ok sm hp hl pok lok gp gl he
 go_enter Tryz.func10, Tryz.ntmps10
 go_upto_region 1 with fail
 generalize w.alloc (.cells #[.int .i64 13, .int .i64 env, .int .i64 qa, .int .i64 qb, .int .i64 qc, .string s, .slice Ap p.length cp, .slice Al l.length cl] 34) = W1 at *
 have q0 := (X1.out.cell 0).trans (show _ = some (.int .i64 13) from rfl)
 have q1 := (X1.out.cell 1).trans (show _ = some (.int .i64 env) from rfl)
 have q2 := (X1.out.cell 2).trans (show _ = some (.int .i64 qa) from rfl)
 have q3 := (X1.out.cell 3).trans (show _ = some (.int .i64 qb) from rfl)
 have q4 := (X1.out.cell 4).trans (show _ = some (.int .i64 qc) from rfl)
 have q5 := (X1.out.cell 5).trans (show _ = some (.string s) from rfl)
 have q6 := (X1.out.cell 6).trans (show _ = some (.slice Ap p.length cp) from rfl)
 have q7 := (X1.out.cell 7).trans (show _ = some (.slice Al l.length cl) from rfl)
 have Q0 := Lib.hid q0
 have Q1 := Lib.hid q1
 have Q2 := Lib.hid q2
 have Q3 := Lib.hid q3
 have Q4 := Lib.hid q4
 have Q5 := Lib.hid q5
 have Q6 := Lib.hid q6
 have Q7 := Lib.hid q7
 clear b1
 have c9 := H1.out.heads.2.2.2.2.2.2.2.2
 have ST := Lib.hid ((H1.out.same (Below.refl _ _)).first B1.out)
 go_wp2
 go_ret3
 exact rcpost_of (callR_13 K env HE.out qa qb qc s.data.toList p l) ST.out
set_option maxRecDepth 100000 in
set_option maxHeartbeats 4000000 in
theorem rc_no (h : RKAt B w g K a) (op env qa qb qc : Int) (s : ByteArray) (Ap : Option Addr) (cp : Nat) (p : List Ins) (Al : Option Addr) (cl : Nat) (l : List Pc) (hno : env < 1 ∨ env > 2 ∨ op < 1 ∨ op > 13) :
  Calls Tryz.prog 10 #[.pointer (some ⟨g, 0, none⟩), .agg #[.int .i64 op, .int .i64 env, .int .i64 qa, .int .i64 qb, .int .i64 qc, .string s, .slice Ap p.length cp, .slice Al l.length cl]] w (RCPost B w g K a ⟨op, env, qa, qb, qc, s.data.toList, p, l⟩) := by
 have hc : callR K ⟨op, env, qa, qb, qc, s.data.toList, p, l⟩ = (K, 0, [], 1) := by
  unfold callR
  dsimp only
  by_cases h1 : env = 1 ∨ env = 2
  ·rw [if_neg (by omega)]
   rw [if_neg (by omega), if_neg (by omega), if_neg (by omega), if_neg (by omega), if_neg (by omega), if_neg (by omega), if_neg (by omega), if_neg (by omega), if_neg (by omega), if_neg (by omega), if_neg (by omega), if_neg (by omega), if_neg (by omega)]
  ·rw [if_pos h1]
 have HC := Lib.hid hc
 have X1 := Lib.hid (Blk.new w 34 #[.int .i64 op, .int .i64 env, .int .i64 qa, .int .i64 qb, .int .i64 qc, .string s, .slice Ap p.length cp, .slice Al l.length cl])
 have b1 : Below w.heap.size w (w.alloc (.cells #[.int .i64 op, .int .i64 env, .int .i64 qa, .int .i64 qb, .int .i64 qc, .string s, .slice Ap p.length cp, .slice Al l.length cl] 34)) := (Below.refl _ w).alloc (Nat.le_refl _) _
 have ST := Lib.hid (fun n => (h.new b1).same (below_drewN (Below.refl _ _) n) |>.first b1)
 clear h hc
 go_enter Tryz.func10, Tryz.ntmps10
 go_upto_region 1 with fail
 generalize w.alloc (.cells #[.int .i64 op, .int .i64 env, .int .i64 qa, .int .i64 qb, .int .i64 qc, .string s, .slice Ap p.length cp, .slice Al l.length cl] 34) = W1 at *
 have q0 := (X1.out.cell 0).trans (show _ = some (.int .i64 op) from rfl)
 have q1 := (X1.out.cell 1).trans (show _ = some (.int .i64 env) from rfl)
 clear b1
 by_cases h1 : env < 1
 ·go_wp2
  go_ret3
  exact rcpost_of HC.out (ST.out 0)
 ·by_cases h2 : env > 2
  ·go_wp2
   go_ret3
   exact rcpost_of HC.out (ST.out 0)
  ·by_cases h3 : op < 1
   ·go_wp2
    go_ret3
    exact rcpost_of HC.out (ST.out 0)
   ·have h4 : op > 13 := by omega
    go_wp2
    go_ret3
    exact rcpost_of HC.out (ST.out 0)
end
end Go.Proofs.YtbkjjakkihbcdaaGreat.Rk
