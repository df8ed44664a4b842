/- The document's kernel: Call, a packet is taken. Conditions: those that each states. -/
import Derived.Test.YtbkjjakkihbcdaaGreatMAS
namespace Go.Proofs.YtbkjjakkihbcdaaGreat.Rk
open Go.ChangeShapes Go.WideShapes Go.ChangeAt Go.RowKit Go.Deep Fr Di RE Ke
set_option linter.unusedVariables false
set_option linter.unusedSimpArgs false
section
variable {B g : Nat} {w : World} {K : Kn} {a : RP}
set_option maxRecDepth 100000 in
set_option maxHeartbeats 4000000 in
theorem rc12 (h : RKAt B w g K a) (ok : K.Ok) (sm : K.next ≤ 1000000 ∧ K.f3 + K.out.length ≤ 1000000 ∧ K.dk.line.length < 1000000) (env : Int) (he : env = 1 ∨ env = 2) (qa qb qc : Int) (wa : -9223372036854775808 ≤ qa ∧ qa ≤ 9223372036854775807) (s : ByteArray) (hs : s.size ≤ 1000) (Ap : Option Addr) (cp : Nat) (p : List Ins) (hp : Prg w Ap p) (pok : ∀ x ∈ p, x.Ok) (gp : Given B Ap p.length) (pm : p.length ≤ 1000000) (Al : Option Addr) (cl : Nat) (l : List Pc) (hl : Pcs w Al l) (lok : ∀ x ∈ l, x.Ok) (gl : Given B Al l.length) (lm : l.length ≤ 1000000) :
  Calls Tryz.prog 10 #[.pointer (some ⟨g, 0, none⟩), .agg #[.int .i64 12, .int .i64 env, .int .i64 qa, .int .i64 qb, .int .i64 qc, .string s, .slice Ap p.length cp, .slice Al l.length cl]] w (RCPost B w g K a ⟨12, env, qa, qb, qc, s.data.toList, p, l⟩) := by
 have g1 : ¬ env < 1 := by omega
 have g2 : ¬ env > 2 := by omega
 have X1 := Lib.hid (Blk.new w 34 #[.int .i64 12, .int .i64 env, .int .i64 qa, .int .i64 qb, .int .i64 qc, .string s, .slice Ap p.length cp, .slice Al l.length cl])
 have b1 : Below w.heap.size w (w.alloc (.cells #[.int .i64 12, .int .i64 env, .int .i64 qa, .int .i64 qb, .int .i64 qc, .string s, .slice Ap p.length cp, .slice Al l.length cl] 34)) := (Below.refl _ w).alloc (Nat.le_refl _) _
 have B1 := Lib.hid b1
 have H1 := Lib.hid (h.new b1)
 have HP := Lib.hid (hp.new b1)
 have HL := Lib.hid (hl.new b1)
 have NQ := Lib.hid (show ¬ a.foot g w.heap.size from fun e => absurd (h.lt _ e) (Nat.lt_irrefl _))
 have HM := Lib.hid (show ∀ x ∈ K.ps, x.holds ≤ 256 from fun x hx => by
  obtain ⟨k, hk, rfl⟩ := List.mem_iff_getElem.1 hx
  rw [ok.holds k hk]
  have := heldN_le ok.out (k : Int)
  have := ok.no
  omega)
 have OK := Lib.hid ok
 have SM := Lib.hid sm
 have HE := Lib.hid he
 have POK := Lib.hid pok
 have LOK := Lib.hid lok
 have GP := Lib.hid gp
 have GL := Lib.hid gl
 clear h ok sm hp hl pok lok gp gl he
 go_enter Tryz.func10, Tryz.ntmps10
 go_upto_region 1 with fail
 generalize w.alloc (.cells #[.int .i64 12, .int .i64 env, .int .i64 qa, .int .i64 qb, .int .i64 qc, .string s, .slice Ap p.length cp, .slice Al l.length cl] 34) = W1 at *
 have q0 := (X1.out.cell 0).trans (show _ = some (.int .i64 12) from rfl)
 have q1 := (X1.out.cell 1).trans (show _ = some (.int .i64 env) from rfl)
 have q2 := (X1.out.cell 2).trans (show _ = some (.int .i64 qa) from rfl)
 have q3 := (X1.out.cell 3).trans (show _ = some (.int .i64 qb) from rfl)
 have q4 := (X1.out.cell 4).trans (show _ = some (.int .i64 qc) from rfl)
 have q5 := (X1.out.cell 5).trans (show _ = some (.string s) from rfl)
 have q6 := (X1.out.cell 6).trans (show _ = some (.slice Ap p.length cp) from rfl)
 have q7 := (X1.out.cell 7).trans (show _ = some (.slice Al l.length cl) from rfl)
 have Q0 := Lib.hid q0
 have Q1 := Lib.hid q1
 have Q2 := Lib.hid q2
 have Q3 := Lib.hid q3
 have Q4 := Lib.hid q4
 have Q5 := Lib.hid q5
 have Q6 := Lib.hid q6
 have Q7 := Lib.hid q7
 clear b1
 rcases HE.out with hev | hev
 ·subst hev
  have HE := Lib.hid (show (1 : Int) = 1 ∨ (1 : Int) = 2 from by decide)
  obtain ⟨-, -, -, -, c1, c2, -⟩ := H1.out.heads
  have GLT := Lib.hid (H1.out.lt g (.inl rfl))
  cases hi : K.i1 with
  | nil =>
   have er : callR K ⟨12, 1, qa, qb, qc, s.data.toList, p, l⟩ = (K, 0, [], 11) := by
    rw [callR_12 K 1 HE.out]
    unfold takeR
    simp [hi]
   rw [hi] at c1
   have ST := Lib.hid (fun n => ((H1.out.same (below_drewN (Below.refl _ _) n)).first B1.out))
   have ER := Lib.hid er
   clear hi er
   go_wp2_with fail
   go_quiet (fail)
   go_wp2
   go_ret3
   exact rcpost_of ER.out (ST.out _)
  | cons s0 r =>
   have er : callR K ⟨12, 1, qa, qb, qc, s.data.toList, p, l⟩ = ({ K with i1 := r, f1 := K.f1 + 1 }, 0, s0, 0) := by
    rw [callR_12 K 1 HE.out]
    unfold takeR
    simp [hi]
   have ER := Lib.hid er
   have hlen : K.i1.length = r.length + 1 := by rw [hi]; rfl
   have hrow := H1.out.in1
   obtain ⟨b, o, hA, hb, e0x⟩ := hrow.cell (j := 0) (by rw [hi]; simp [strC])
   have e0 : W1.cell? ⟨b, o, none⟩ = some (.string ⟨s0.toArray⟩) := by
    have h2 : (strC K.i1)[0]'(by rw [hi]; simp [strC]) = .string ⟨s0.toArray⟩ := by simp [hi, strC]
    rw [h2] at e0x
    exact e0x
   clear e0x
   obtain ⟨cO, hcO⟩ : ∃ x, a.c1 = x := ⟨_, rfl⟩
   rw [hA, hlen, hcO] at c1 hrow
   have hcap := hrow.cap
   have hmax := hrow.max
   have HROW := Lib.hid hrow
   have HI := Lib.hid hi
   have HA := Lib.hid hA
   have HB := Lib.hid hb
   have E0 := Lib.hid e0
   have i1 : ¬ ((r.length : Int) + 1) = 0 := by omega
   have i2 : (1 : Int) ≤ (r.length : Int) + 1 := by omega
   have i3 : (r.length : Int) + 1 ≤ (cO : Int) := by omega
   have CI := Lib.hid c1
   have FI := Lib.hid (H1.out.head.frozen 5)
   have XLT := Lib.hid X1.out.lt
   clear hi er hA hrow hcO hlen hb e0
   go_upto_region 49 with fail
   go_quiet (fail)
   have B12 := Lib.hid (below_drewN (Below.refl W1.heap.size W1) nq)
   generalize W1.drewN nq = W2 at *
   have H2 := Lib.hid (H1.out.new B12.out)
   have XLT2 := Lib.hid (Nat.lt_of_lt_of_le XLT.out B12.out.size)
   have Q12 := Lib.hid ((B12.out.cell (p := ⟨w.heap.size, 1, none⟩) XLT.out).trans Q1.out)
   clear q0 q1 q2 q3 q4 q5 q6 q7 c1 c2
   go_upto_region 52 with fail
   have GB := Lib.hid (show ¬ b = g from fun e => H1.out.gr (by rw [← e]; exact .inr (.inl ⟨_, HA.out, rfl⟩)))
   have hS := Lib.hid ((Below.refl W2.heap.size W2).drew)
   refine wp_head_held (S := fun w' => Hid (Below W2.heap.size W2 w')) 8 (by kernel_rfl) rfl rfl (by kernel_rfl) ?_
   simp only [List.take_succ_cons, List.take_zero, List.drop_succ_cons, List.drop_zero]
   refine ht 0 (some 326) (v := ?_) rfl rfl ?_ hS ?_
   rotate_left
   ·intro w' hSw; go_simp <;> with_reducible rfl
   refine ht 1 (some 327) (v := ?_) rfl rfl ?_ hS ?_
   rotate_left
   ·intro w' hSw; go_simp <;> with_reducible rfl
   simp only [Act.put, List.setIfInBounds_toArray, List.set_cons_zero, List.set_cons_succ]
   refine ht 2 (some 328) (v := ?_) rfl rfl ?_ hS ?_
   rotate_left
   ·intro w' hSw; have kb := hSw.out; clear hSw; have z := (kb.cell (p := ⟨w.heap.size, 1, none⟩) XLT2.out).trans Q12.out; clear kb; go_simp <;> with_reducible rfl
   refine ht 3 (some 329) (v := ?_) rfl rfl ?_ hS ?_
   rotate_left
   ·intro w' hSw; go_simp <;> with_reducible rfl
   simp only [Act.put, List.setIfInBounds_toArray, List.set_cons_zero, List.set_cons_succ]
   refine ht 4 (some 330) (v := ?_) rfl rfl ?_ hS ?_
   rotate_left
   ·intro w' hSw; go_simp <;> with_reducible rfl
   refine ht 5 (some 331) (v := ?_) rfl rfl ?_ hS ?_
   rotate_left
   ·intro w' hSw; go_simp <;> with_reducible rfl
   simp only [Act.put, List.setIfInBounds_toArray, List.set_cons_zero, List.set_cons_succ]
   refine ht 6 (some 332) (v := ?_) rfl rfl ?_ hS ?_
   rotate_left
   ·intro w' hSw; go_simp <;> with_reducible rfl
   refine ht 7 (some 333) (v := ?_) rfl rfl ?_ hS ?_
   rotate_left
   ·intro w' hSw; go_simp <;> with_reducible rfl
   simp only [Act.put, List.setIfInBounds_toArray, List.set_cons_zero, List.set_cons_succ]
   refine wpAnyH_done (by kernel_rfl) ?_ _
   show wpList _ _ _ _ _ _
   have BD := Lib.hid (show Below W1.heap.size W1 W2.drew from B12.out.drew)
   have HDD := Lib.hid (show Blk W2.drew g 67 (headC K a) from H2.out.head)
   clear hS
   generalize W2.drew = Wd at *
   have cI : Wd.cell? ⟨g, 5, none⟩ = some (.slice (some ⟨b, o, none⟩) (r.length + 1) cO) := (BD.out.cell (p := ⟨g, 5, none⟩) GLT.out).trans CI.out
   have fI : Wd.frozen? ⟨g, 5, none⟩ = false := (BD.out.frozen (p := ⟨g, 5, none⟩) GLT.out).trans FI.out
   go_upto_region 53 with fail
   obtain ⟨A7, hA7⟩ : ∃ A7, (if cO = 1 then some (⟨b, o, none⟩ : Addr) else some ⟨b, o + 1, none⟩) = A7 := ⟨_, rfl⟩
   have row7 : RowG W1 1 A7 r.length (cO - 1) (strC r) := by
    have h0 := HROW.out
    rw [HI.out] at h0
    rw [← hA7]
    exact RowG.tail h0
   have blk7 : ∀ x, A7 = some x → x.block = b := fun x e => tail_block (hA7.trans e)
   rw [hA7]
   have k2 : Chg W1 (Wd.setCell ⟨g, 5, none⟩ (.slice A7 r.length (cO - 1))) (fun i => i = g) := (Chg.of_new BD.out _).trans (Chg.set _ _ _ rfl)
   have hd2 : Blk (Wd.setCell ⟨g, 5, none⟩ (.slice A7 r.length (cO - 1))) g 67 (headC { K with i1 := r, f1 := K.f1 + 1 } { a with A1 := A7, c1 := cO - 1 }) := by
    have h0 := HDD.out.put 5 (.slice A7 r.length (cO - 1))
    have e : (headC K a).set! 5 (.slice A7 r.length (cO - 1)) = headC { K with i1 := r, f1 := K.f1 + 1 } { a with A1 := A7, c1 := cO - 1 } := by
     unfold headC
     simp
    rw [← e]
    exact h0
   have st := H1.out.setRows k2 a.Af a.cf a.fx A7 (cO - 1) a.A2 a.c2 a.Ao a.cO a.ox { K with i1 := r, f1 := K.f1 + 1 } rfl rfl hd2 H1.out.fx (H1.out.filC k2 H1.out.hR) (H1.out.fpC k2 H1.out.hB) (row7.chg k2 (fun x e h => GB.out ((blk7 x e).symm.trans h))) (H1.out.in2C k2 H1.out.hR) H1.out.ox (H1.out.outC k2 H1.out.hR) (H1.out.opC k2 H1.out.hB)
    (fun x e => .inl (by
      rcases e with e | e | e | e
      ·exact .inl ⟨x, e, rfl⟩
      ·exact .inr (.inl ⟨_, HA.out, (blk7 x e).symm⟩)
      ·exact .inr (.inr (.inl ⟨x, e, rfl⟩))
      ·exact .inr (.inr (.inr ⟨x, e, rfl⟩))))
   have ST := Lib.hid st
   have e0 := (chg_cell (p := ⟨b, o, none⟩) k2 HB.out GB.out).trans E0.out
   have hb3 : b < (Wd.setCell ⟨g, 5, none⟩ (.slice A7 r.length (cO - 1))).heap.size := Nat.lt_of_lt_of_le HB.out k2.size
   clear st hd2 k2 row7 blk7 cI fI
   generalize Wd.setCell ⟨g, 5, none⟩ (.slice A7 r.length (cO - 1)) = W3 at *
   have E3 := Lib.hid e0
   have HB3 := Lib.hid hb3
   clear e0 hb3
   go_upto_region 53 with fail
   refine wp_region_held_drew (S := fun w' => Hid (Below W3.heap.size W3 w')) (by kernel_rfl) (Lib.hid ((Below.refl W3.heap.size W3).drew)) (fun hS => ?_)
   refine ht 0 (some 334) (v := ?_) rfl rfl ?_ hS ?_
   rotate_left
   ·intro w' hSw; go_simp <;> with_reducible rfl
   refine ht 1 (some 335) (v := ?_) rfl rfl ?_ hS ?_
   rotate_left
   ·intro w' hSw; go_simp <;> with_reducible rfl
   simp only [Act.put, List.setIfInBounds_toArray, List.set_cons_zero, List.set_cons_succ]
   refine ht 2 (some 336) (v := ?_) rfl rfl ?_ hS ?_
   rotate_left
   ·intro w' hSw; have kb := hSw.out; clear hSw; have z := (kb.cell (p := ⟨b, o, none⟩) HB3.out).trans E3.out; clear kb; go_simp <;> with_reducible rfl
   refine ht 3 (some 4) (v := ?_) rfl rfl ?_ hS ?_
   rotate_left
   ·intro w' hSw; go_simp <;> with_reducible rfl
   simp only [Act.put, List.setIfInBounds_toArray, List.set_cons_zero, List.set_cons_succ]
   refine ht 4 (some 5) (v := ?_) rfl rfl ?_ hS ?_
   rotate_left
   ·intro w' hSw; go_simp <;> with_reducible rfl
   refine ht 5 (some 6) (v := ?_) rfl rfl ?_ hS ?_
   rotate_left
   ·intro w' hSw; go_simp <;> with_reducible rfl
   simp only [Act.put, List.setIfInBounds_toArray, List.set_cons_zero, List.set_cons_succ]
   refine wpAnyH_done (by kernel_rfl) ?_ _
   go_wp2
   go_ret3
   exact rcpost_of ER.out ((ST.out.last (below_drewN (Below.refl _ _) 1)).first B1.out)
 ·subst hev
  have HE := Lib.hid (show (2 : Int) = 1 ∨ (2 : Int) = 2 from by decide)
  obtain ⟨-, -, -, -, c1, c2, -⟩ := H1.out.heads
  have GLT := Lib.hid (H1.out.lt g (.inl rfl))
  cases hi : K.i2 with
  | nil =>
   have er : callR K ⟨12, 2, qa, qb, qc, s.data.toList, p, l⟩ = (K, 0, [], 11) := by
    rw [callR_12 K 2 HE.out]
    unfold takeR
    simp [hi]
   rw [hi] at c2
   have ST := Lib.hid (fun n => ((H1.out.same (below_drewN (Below.refl _ _) n)).first B1.out))
   have ER := Lib.hid er
   clear hi er
   go_wp2_with fail
   go_quiet (fail)
   go_wp2
   go_ret3
   exact rcpost_of ER.out (ST.out _)
  | cons s0 r =>
   have er : callR K ⟨12, 2, qa, qb, qc, s.data.toList, p, l⟩ = ({ K with i2 := r, f2 := K.f2 + 1 }, 0, s0, 0) := by
    rw [callR_12 K 2 HE.out]
    unfold takeR
    simp [hi]
   have ER := Lib.hid er
   have hlen : K.i2.length = r.length + 1 := by rw [hi]; rfl
   have hrow := H1.out.in2
   obtain ⟨b, o, hA, hb, e0x⟩ := hrow.cell (j := 0) (by rw [hi]; simp [strC])
   have e0 : W1.cell? ⟨b, o, none⟩ = some (.string ⟨s0.toArray⟩) := by
    have h2 : (strC K.i2)[0]'(by rw [hi]; simp [strC]) = .string ⟨s0.toArray⟩ := by simp [hi, strC]
    rw [h2] at e0x
    exact e0x
   clear e0x
   obtain ⟨cO, hcO⟩ : ∃ x, a.c2 = x := ⟨_, rfl⟩
   rw [hA, hlen, hcO] at c2 hrow
   have hcap := hrow.cap
   have hmax := hrow.max
   have HROW := Lib.hid hrow
   have HI := Lib.hid hi
   have HA := Lib.hid hA
   have HB := Lib.hid hb
   have E0 := Lib.hid e0
   have i1 : ¬ ((r.length : Int) + 1) = 0 := by omega
   have i2 : (1 : Int) ≤ (r.length : Int) + 1 := by omega
   have i3 : (r.length : Int) + 1 ≤ (cO : Int) := by omega
   have CI := Lib.hid c2
   have FI := Lib.hid (H1.out.head.frozen 6)
   have XLT := Lib.hid X1.out.lt
   clear hi er hA hrow hcO hlen hb e0
   go_upto_region 49 with fail
   go_quiet (fail)
   have B12 := Lib.hid (below_drewN (Below.refl W1.heap.size W1) nq)
   generalize W1.drewN nq = W2 at *
   have H2 := Lib.hid (H1.out.new B12.out)
   have XLT2 := Lib.hid (Nat.lt_of_lt_of_le XLT.out B12.out.size)
   have Q12 := Lib.hid ((B12.out.cell (p := ⟨w.heap.size, 1, none⟩) XLT.out).trans Q1.out)
   clear q0 q1 q2 q3 q4 q5 q6 q7 c1 c2
   go_upto_region 52 with fail
   have GB := Lib.hid (show ¬ b = g from fun e => H1.out.gr (by rw [← e]; exact .inr (.inr (.inl ⟨_, HA.out, rfl⟩))))
   have hS := Lib.hid ((Below.refl W2.heap.size W2).drew)
   refine wp_head_held (S := fun w' => Hid (Below W2.heap.size W2 w')) 8 (by kernel_rfl) rfl rfl (by kernel_rfl) ?_
   simp only [List.take_succ_cons, List.take_zero, List.drop_succ_cons, List.drop_zero]
   refine ht 0 (some 326) (v := ?_) rfl rfl ?_ hS ?_
   rotate_left
   ·intro w' hSw; go_simp <;> with_reducible rfl
   refine ht 1 (some 327) (v := ?_) rfl rfl ?_ hS ?_
   rotate_left
   ·intro w' hSw; go_simp <;> with_reducible rfl
   simp only [Act.put, List.setIfInBounds_toArray, List.set_cons_zero, List.set_cons_succ]
   refine ht 2 (some 328) (v := ?_) rfl rfl ?_ hS ?_
   rotate_left
   ·intro w' hSw; have kb := hSw.out; clear hSw; have z := (kb.cell (p := ⟨w.heap.size, 1, none⟩) XLT2.out).trans Q12.out; clear kb; go_simp <;> with_reducible rfl
   refine ht 3 (some 329) (v := ?_) rfl rfl ?_ hS ?_
   rotate_left
   ·intro w' hSw; go_simp <;> with_reducible rfl
   simp only [Act.put, List.setIfInBounds_toArray, List.set_cons_zero, List.set_cons_succ]
   refine ht 4 (some 330) (v := ?_) rfl rfl ?_ hS ?_
   rotate_left
   ·intro w' hSw; go_simp <;> with_reducible rfl
   refine ht 5 (some 331) (v := ?_) rfl rfl ?_ hS ?_
   rotate_left
   ·intro w' hSw; go_simp <;> with_reducible rfl
   simp only [Act.put, List.setIfInBounds_toArray, List.set_cons_zero, List.set_cons_succ]
   refine ht 6 (some 332) (v := ?_) rfl rfl ?_ hS ?_
   rotate_left
   ·intro w' hSw; go_simp <;> with_reducible rfl
   refine ht 7 (some 333) (v := ?_) rfl rfl ?_ hS ?_
   rotate_left
   ·intro w' hSw; go_simp <;> with_reducible rfl
   simp only [Act.put, List.setIfInBounds_toArray, List.set_cons_zero, List.set_cons_succ]
   refine wpAnyH_done (by kernel_rfl) ?_ _
   show wpList _ _ _ _ _ _
   have BD := Lib.hid (show Below W1.heap.size W1 W2.drew from B12.out.drew)
   have HDD := Lib.hid (show Blk W2.drew g 67 (headC K a) from H2.out.head)
   clear hS
   generalize W2.drew = Wd at *
   have cI : Wd.cell? ⟨g, 6, none⟩ = some (.slice (some ⟨b, o, none⟩) (r.length + 1) cO) := (BD.out.cell (p := ⟨g, 6, none⟩) GLT.out).trans CI.out
   have fI : Wd.frozen? ⟨g, 6, none⟩ = false := (BD.out.frozen (p := ⟨g, 6, none⟩) GLT.out).trans FI.out
   go_upto_region 53 with fail
   obtain ⟨A7, hA7⟩ : ∃ A7, (if cO = 1 then some (⟨b, o, none⟩ : Addr) else some ⟨b, o + 1, none⟩) = A7 := ⟨_, rfl⟩
   have row7 : RowG W1 1 A7 r.length (cO - 1) (strC r) := by
    have h0 := HROW.out
    rw [HI.out] at h0
    rw [← hA7]
    exact RowG.tail h0
   have blk7 : ∀ x, A7 = some x → x.block = b := fun x e => tail_block (hA7.trans e)
   rw [hA7]
   have k2 : Chg W1 (Wd.setCell ⟨g, 6, none⟩ (.slice A7 r.length (cO - 1))) (fun i => i = g) := (Chg.of_new BD.out _).trans (Chg.set _ _ _ rfl)
   have hd2 : Blk (Wd.setCell ⟨g, 6, none⟩ (.slice A7 r.length (cO - 1))) g 67 (headC { K with i2 := r, f2 := K.f2 + 1 } { a with A2 := A7, c2 := cO - 1 }) := by
    have h0 := HDD.out.put 6 (.slice A7 r.length (cO - 1))
    have e : (headC K a).set! 6 (.slice A7 r.length (cO - 1)) = headC { K with i2 := r, f2 := K.f2 + 1 } { a with A2 := A7, c2 := cO - 1 } := by
     unfold headC
     simp
    rw [← e]
    exact h0
   have st := H1.out.setRows k2 a.Af a.cf a.fx a.A1 a.c1 A7 (cO - 1) a.Ao a.cO a.ox { K with i2 := r, f2 := K.f2 + 1 } rfl rfl hd2 H1.out.fx (H1.out.filC k2 H1.out.hR) (H1.out.fpC k2 H1.out.hB) (H1.out.in1C k2 H1.out.hR) (row7.chg k2 (fun x e h => GB.out ((blk7 x e).symm.trans h))) H1.out.ox (H1.out.outC k2 H1.out.hR) (H1.out.opC k2 H1.out.hB)
    (fun x e => .inl (by
      rcases e with e | e | e | e
      ·exact .inl ⟨x, e, rfl⟩
      ·exact .inr (.inl ⟨x, e, rfl⟩)
      ·exact .inr (.inr (.inl ⟨_, HA.out, (blk7 x e).symm⟩))
      ·exact .inr (.inr (.inr ⟨x, e, rfl⟩))))
   have ST := Lib.hid st
   have e0 := (chg_cell (p := ⟨b, o, none⟩) k2 HB.out GB.out).trans E0.out
   have hb3 : b < (Wd.setCell ⟨g, 6, none⟩ (.slice A7 r.length (cO - 1))).heap.size := Nat.lt_of_lt_of_le HB.out k2.size
   clear st hd2 k2 row7 blk7 cI fI
   generalize Wd.setCell ⟨g, 6, none⟩ (.slice A7 r.length (cO - 1)) = W3 at *
   have E3 := Lib.hid e0
   have HB3 := Lib.hid hb3
   clear e0 hb3
   go_upto_region 53 with fail
   refine wp_region_held_drew (S := fun w' => Hid (Below W3.heap.size W3 w')) (by kernel_rfl) (Lib.hid ((Below.refl W3.heap.size W3).drew)) (fun hS => ?_)
   refine ht 0 (some 334) (v := ?_) rfl rfl ?_ hS ?_
   rotate_left
   ·intro w' hSw; go_simp <;> with_reducible rfl
   refine ht 1 (some 335) (v := ?_) rfl rfl ?_ hS ?_
   rotate_left
   ·intro w' hSw; go_simp <;> with_reducible rfl
   simp only [Act.put, List.setIfInBounds_toArray, List.set_cons_zero, List.set_cons_succ]
   refine ht 2 (some 336) (v := ?_) rfl rfl ?_ hS ?_
   rotate_left
   ·intro w' hSw; have kb := hSw.out; clear hSw; have z := (kb.cell (p := ⟨b, o, none⟩) HB3.out).trans E3.out; clear kb; go_simp <;> with_reducible rfl
   refine ht 3 (some 4) (v := ?_) rfl rfl ?_ hS ?_
   rotate_left
   ·intro w' hSw; go_simp <;> with_reducible rfl
   simp only [Act.put, List.setIfInBounds_toArray, List.set_cons_zero, List.set_cons_succ]
   refine ht 4 (some 5) (v := ?_) rfl rfl ?_ hS ?_
   rotate_left
   ·intro w' hSw; go_simp <;> with_reducible rfl
   refine ht 5 (some 6) (v := ?_) rfl rfl ?_ hS ?_
   rotate_left
   ·intro w' hSw; go_simp <;> with_reducible rfl
   simp only [Act.put, List.setIfInBounds_toArray, List.set_cons_zero, List.set_cons_succ]
   refine wpAnyH_done (by kernel_rfl) ?_ _
   go_wp2
   go_ret3
   exact rcpost_of ER.out ((ST.out.last (below_drewN (Below.refl _ _) 1)).first B1.out)
end
end Go.Proofs.YtbkjjakkihbcdaaGreat.Rk
