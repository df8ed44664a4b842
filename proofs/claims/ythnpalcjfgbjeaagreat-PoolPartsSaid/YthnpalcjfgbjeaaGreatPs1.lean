/- A pool: whether a piece lies within a frame; the part of a piece. Conditions: those that each states. -/
import Derived.Test.YthnpalcjfgbjeaaGreatPs
import Derived.Test.YthnpalcjfgbjeaaGreatGxA
namespace Go.Proofs.YthnpalcjfgbjeaaGreat.Ps
open Go.ChangeShapes Go.WideShapes Go.ChangeAt Go.RowKit Go.Deep Fr Di Ke Po Fl Gx
set_option linter.unusedVariables false

def inP (x : Pc) : Bool := decide (0 ≤ x.off ∧ 0 ≤ x.len ∧ x.len ≤ 256 - x.off)
theorem within_any (x : Pc) (hx : x.Ok) (w : World) : Calls Tryz.prog 31 #[.agg #[.int .i64 x.frame, .int .i64 x.off, .int .i64 x.len]] w fun e w' => e = .returned (.bool (inP x)) ∧ Below w.heap.size w w' := by
  obtain ⟨f, o, m⟩ := x
  have h1 := hx.off
  dsimp only at h1
  have B1 := Lib.hid ((Below.refl w.heap.size w).alloc (Nat.le_refl _) (.cells #[.int .i64 f, .int .i64 o, .int .i64 m] 90))
  by_cases c1 : 0 ≤ o
  · have xo := IntWalk.i64_in (256 - o) (by omega)
    by_cases c2 : 0 ≤ m
    · by_cases c3 : m ≤ 256 - o
      · go_enter Tryz.func31, Tryz.ntmps31
        go_wp2
        go_ret
        exact ⟨by rw [show inP ⟨f, o, m⟩ = true from decide_eq_true (by dsimp only; omega)]; rfl, B1.out⟩
      · go_enter Tryz.func31, Tryz.ntmps31
        go_wp2
        go_ret
        exact ⟨by rw [show inP ⟨f, o, m⟩ = false from decide_eq_false (by dsimp only; omega)]; rfl, B1.out⟩
    · go_enter Tryz.func31, Tryz.ntmps31
      go_wp2
      go_ret
      exact ⟨by rw [show inP ⟨f, o, m⟩ = false from decide_eq_false (by dsimp only; omega)]; rfl, B1.out⟩
  · go_enter Tryz.func31, Tryz.ntmps31
    go_wp2
    go_ret
    exact ⟨by rw [show inP ⟨f, o, m⟩ = false from decide_eq_false (by dsimp only; omega)]; rfl, B1.out⟩

set_option maxRecDepth 100000 in
set_option maxHeartbeats 4000000 in
theorem partOf_any {B : Nat} {w : World} {lab : Nat → Nat} {g gk gs c : Nat} {P : Po} {hs : List (List UInt8)} (h : PB B w lab g gk gs c P) (hB : B ≤ w.heap.size) (hq : HP P hs) (x : Pc) (hx : okP hs.length x = true) :
    Calls Tryz.prog 33 #[.pointer (some ⟨g, 0, none⟩), .agg #[.int .i64 x.frame, .int .i64 x.off, .int .i64 x.len]] w fun e w' => e = .returned (.tuple #[.complex .f64 (fl (evs (bytesP P x))) (fl (ods (bytesP P x))), .int .i64 0]) ∧ ∃ lab', PB B w' lab' g gk gs c P ∧ PStep w w' lab lab' := by
  have RH := Lib.hid (read_hp hq hx)
  obtain ⟨i, o, m, rfl, hi0, hom⟩ := okP_frame hx
  dsimp only at RH ⊢
  have hi : i < P.sl.length := by rw [hq.n6]; have := hq.h6; omega
  have SI := Lib.hid (show P.sl[i] = ⟨3, 0, (hs[i].length : Int), fl (evs hs[i]), fl (ods hs[i]), i, 1, false⟩ from by
    have := (hq.lo i hi0).1
    rw [List.getElem?_eq_getElem hi] at this
    exact Option.some.inj this)
  have b1 : Below w.heap.size w (w.alloc (.cells #[.int .i64 (i : Int), .int .i64 (o : Int), .int .i64 (m : Int)] 90)) := (Below.refl w.heap.size w).alloc (Nat.le_refl _) _
  have L1 := Lib.hid (PStep.news lab b1)
  have K1 := Lib.hid (Blk.new w 90 #[.int .i64 (i : Int), .int .i64 (o : Int), .int .i64 (m : Int)])
  have H1 := Lib.hid (h.new b1)
  have ZX := Lib.hid (h.kb.lab0 (Nat.le_refl w.heap.size))
  have G1 := Lib.hid (Nat.le_trans hB b1.size)
  have HQ := Lib.hid hq
  have PI := Lib.hid (pinned_any H1.out.po (i : Int))
  rw [pinned_yes hq hi0] at PI
  have CR := Lib.hid (show callR P.K (bare 4 1 (i : Int) (o : Int) (m : Int)) = (P.K, 0, bytesP P ⟨(i : Int), (o : Int), (m : Int)⟩, 0) from by
    unfold Ke.bare
    rw [callR_4 _ 1 (.inl rfl), RH.out.1])
  clear b1 h hB hq hx
  go_enter Tryz.func33, Tryz.ntmps33
  go_upto_region 1 with fail
  generalize w.alloc (.cells #[.int .i64 (i : Int), .int .i64 (o : Int), .int .i64 (m : Int)] 90) = W at *
  generalize w.heap.size = bx at *
  have x0 := (K1.out.cell 0).trans (show _ = some (.int .i64 (i : Int)) from rfl)
  go_wp2_with fail
  refine PI.out.mono ?_; rintro e W2 ⟨rfl, b2⟩
  have H2 := Lib.hid (H1.out.new b2)
  have L2 := Lib.hid (L1.out.trans (PStep.news lab b2))
  have K2 := Lib.hid (K1.out.older (older_below b2))
  have G2 := Lib.hid (Nat.le_trans G1.out b2.size)
  rw [ptr_ne]
  clear b2 x0 PI H1 L1 K1 G1
  go_upto_region 2 with fail
  by_cases ho : o = 0
  · subst ho
    have O0 := Lib.hid (show (((0 : Nat) : Int) == 0) = true from rfl)
    by_cases hm : m = hs[i].length
    · have M0 := Lib.hid (show ((m : Int) == (hs[i].length : Int)) = true from by rw [beq_iff_eq]; omega)
      have BA := Lib.hid (show bytesP P ⟨(i : Int), ((0 : Nat) : Int), (m : Int)⟩ = hs[i] from by rw [hm]; exact bytes_all HQ.out hi0)
      refine wp_region_held_drew (S := fun w' => Hid (Below W2.heap.size W2 w')) (by kernel_rfl) ((Lib.hid ((Below.refl W2.heap.size W2).drew))) (fun hS => ?_)
      refine held_take (i := 0) (d := (some 13)) (v := ?_) rfl rfl (by kernel_rfl) (by kernel_rfl) (by kernel_rfl) (fun _ _ _ h => h) (by rfl) ?_ hS ?_
      rotate_left
      · intro w' hSw; (try dsimp only at hSw); go_simp <;> with_reducible rfl
      simp only [Act.put, List.setIfInBounds_toArray, List.set_cons_zero, List.set_cons_succ]
      refine held_take (i := 1) (d := (some 14)) (v := ?_) rfl rfl (by kernel_rfl) (by kernel_rfl) (by kernel_rfl) (fun _ _ _ h => h) (by rfl) ?_ hS ?_
      rotate_left
      · intro w' hSw; have z := ((K2.out.older (older_below hSw.out)).cell 1).trans (show _ = some (.int .i64 ((0 : Nat) : Int)) from rfl); clear hSw; go_simp <;> with_reducible rfl
      simp only [Act.put, List.setIfInBounds_toArray, List.set_cons_zero, List.set_cons_succ]
      refine held_take (i := 2) (d := (some 15)) (v := ?_) rfl rfl (by kernel_rfl) (by kernel_rfl) (by kernel_rfl) (fun _ _ _ h => h) (by rfl) ?_ hS ?_
      rotate_left
      · intro w' hSw; clear hSw; have q := O0.out; go_simp <;> with_reducible rfl
      simp only [Act.put, List.setIfInBounds_toArray, List.set_cons_zero, List.set_cons_succ]
      refine held_take (i := 3) (d := (some 16)) (v := ?_) rfl rfl (by kernel_rfl) (by kernel_rfl) (by kernel_rfl) (fun _ _ _ h => h) (by rfl) ?_ hS ?_
      rotate_left
      · intro w' hSw; (try dsimp only at hSw); go_simp <;> with_reducible rfl
      simp only [Act.put, List.setIfInBounds_toArray, List.set_cons_zero, List.set_cons_succ]
      refine held_take (i := 4) (d := (some 17)) (v := ?_) rfl rfl (by kernel_rfl) (by kernel_rfl) (by kernel_rfl) (fun _ _ _ h => h) (by rfl) ?_ hS ?_
      rotate_left
      · intro w' hSw; (try dsimp only at hSw); go_simp <;> with_reducible rfl
      simp only [Act.put, List.setIfInBounds_toArray, List.set_cons_zero, List.set_cons_succ]
      refine held_take (i := 5) (d := (some 18)) (v := ?_) rfl rfl (by kernel_rfl) (by kernel_rfl) (by kernel_rfl) (fun _ _ _ h => h) (by rfl) ?_ hS ?_
      rotate_left
      · intro w' hSw; have z := ((K2.out.older (older_below hSw.out)).cell 2).trans (show _ = some (.int .i64 (m : Int)) from rfl); clear hSw; go_simp <;> with_reducible rfl
      simp only [Act.put, List.setIfInBounds_toArray, List.set_cons_zero, List.set_cons_succ]
      refine held_take (i := 6) (d := (some 19)) (v := ?_) rfl rfl (by kernel_rfl) (by kernel_rfl) (by kernel_rfl) (fun _ _ _ h => h) (by rfl) ?_ hS ?_
      rotate_left
      · intro w' hSw; (try dsimp only at hSw); go_simp <;> with_reducible rfl
      simp only [Act.put, List.setIfInBounds_toArray, List.set_cons_zero, List.set_cons_succ]
      refine held_take (i := 7) (d := (some 20)) (v := ?_) rfl rfl (by kernel_rfl) (by kernel_rfl) (by kernel_rfl) (fun _ _ _ h => h) (by rfl) ?_ hS ?_
      rotate_left
      · intro w' hSw; (try dsimp only at hSw); go_simp <;> with_reducible rfl
      simp only [Act.put, List.setIfInBounds_toArray, List.set_cons_zero, List.set_cons_succ]
      refine held_take (i := 8) (d := (some 21)) (v := ?_) rfl rfl (by kernel_rfl) (by kernel_rfl) (by kernel_rfl) (fun _ _ _ h => h) (by rfl) ?_ hS ?_
      rotate_left
      · intro w' hSw; (try dsimp only at hSw); go_simp <;> with_reducible rfl
      simp only [Act.put, List.setIfInBounds_toArray, List.set_cons_zero, List.set_cons_succ]
      refine held_take (i := 9) (d := (some 22)) (v := ?_) rfl rfl (by kernel_rfl) (by kernel_rfl) (by kernel_rfl) (fun _ _ _ h => h) (by rfl) ?_ hS ?_
      rotate_left
      · intro w' hSw; (try dsimp only at hSw); go_simp <;> with_reducible rfl
      simp only [Act.put, List.setIfInBounds_toArray, List.set_cons_zero, List.set_cons_succ]
      refine held_take (i := 10) (d := (some 23)) (v := ?_) rfl rfl (by kernel_rfl) (by kernel_rfl) (by kernel_rfl) (fun _ _ _ h => h) (by rfl) ?_ hS ?_
      rotate_left
      · intro w' hSw; have z := ((H2.out.new hSw.out).po.slot hi (j := 2) (by omega)).trans (show _ = some (.int .i64 (hs[i].length : Int)) from by rw [SI.out]; rfl); clear hSw; go_simp <;> with_reducible rfl
      simp only [Act.put, List.setIfInBounds_toArray, List.set_cons_zero, List.set_cons_succ]
      refine held_take (i := 11) (d := (some 24)) (v := ?_) rfl rfl (by kernel_rfl) (by kernel_rfl) (by kernel_rfl) (fun _ _ _ h => h) (by rfl) ?_ hS ?_
      rotate_left
      · intro w' hSw; clear hSw; have q := M0.out; go_simp <;> with_reducible rfl
      simp only [Act.put, List.setIfInBounds_toArray, List.set_cons_zero, List.set_cons_succ]
      refine held_take (i := 12) (d := (some 25)) (v := ?_) rfl rfl (by kernel_rfl) (by kernel_rfl) (by kernel_rfl) (fun _ _ _ h => h) (by rfl) ?_ hS ?_
      rotate_left
      · intro w' hSw; (try dsimp only at hSw); go_simp <;> with_reducible rfl
      simp only [Act.put, List.setIfInBounds_toArray, List.set_cons_zero, List.set_cons_succ]
      refine wpAnyH_done (by kernel_rfl) ?_ _
      have z3 := ((H2.out.new hS.out).po.slot hi (j := 3) (by omega)).trans (show _ = some (.complex .f64 (fl (evs hs[i])) (fl (ods hs[i]))) from by rw [SI.out]; rfl)
      have HE := Lib.hid (H2.out.new hS.out)
      have LE := Lib.hid (L2.out.trans (PStep.news lab hS.out))
      clear H2 L2 K2 hS
      go_wp2
      go_ret2
      exact ⟨by rw [BA.out]; rfl, lab, HE.out, LE.out⟩
    · have M0 := Lib.hid (show ((m : Int) == (hs[i].length : Int)) = false from by rw [beq_eq_false_iff_ne]; omega)
      refine wp_region_held_drew (S := fun w' => Hid (Below W2.heap.size W2 w')) (by kernel_rfl) ((Lib.hid ((Below.refl W2.heap.size W2).drew))) (fun hS => ?_)
      refine held_take (i := 0) (d := (some 13)) (v := ?_) rfl rfl (by kernel_rfl) (by kernel_rfl) (by kernel_rfl) (fun _ _ _ h => h) (by rfl) ?_ hS ?_
      rotate_left
      · intro w' hSw; (try dsimp only at hSw); go_simp <;> with_reducible rfl
      simp only [Act.put, List.setIfInBounds_toArray, List.set_cons_zero, List.set_cons_succ]
      refine held_take (i := 1) (d := (some 14)) (v := ?_) rfl rfl (by kernel_rfl) (by kernel_rfl) (by kernel_rfl) (fun _ _ _ h => h) (by rfl) ?_ hS ?_
      rotate_left
      · intro w' hSw; have z := ((K2.out.older (older_below hSw.out)).cell 1).trans (show _ = some (.int .i64 ((0 : Nat) : Int)) from rfl); clear hSw; go_simp <;> with_reducible rfl
      simp only [Act.put, List.setIfInBounds_toArray, List.set_cons_zero, List.set_cons_succ]
      refine held_take (i := 2) (d := (some 15)) (v := ?_) rfl rfl (by kernel_rfl) (by kernel_rfl) (by kernel_rfl) (fun _ _ _ h => h) (by rfl) ?_ hS ?_
      rotate_left
      · intro w' hSw; clear hSw; have q := O0.out; go_simp <;> with_reducible rfl
      simp only [Act.put, List.setIfInBounds_toArray, List.set_cons_zero, List.set_cons_succ]
      refine held_take (i := 3) (d := (some 16)) (v := ?_) rfl rfl (by kernel_rfl) (by kernel_rfl) (by kernel_rfl) (fun _ _ _ h => h) (by rfl) ?_ hS ?_
      rotate_left
      · intro w' hSw; (try dsimp only at hSw); go_simp <;> with_reducible rfl
      simp only [Act.put, List.setIfInBounds_toArray, List.set_cons_zero, List.set_cons_succ]
      refine held_take (i := 4) (d := (some 17)) (v := ?_) rfl rfl (by kernel_rfl) (by kernel_rfl) (by kernel_rfl) (fun _ _ _ h => h) (by rfl) ?_ hS ?_
      rotate_left
      · intro w' hSw; (try dsimp only at hSw); go_simp <;> with_reducible rfl
      simp only [Act.put, List.setIfInBounds_toArray, List.set_cons_zero, List.set_cons_succ]
      refine held_take (i := 5) (d := (some 18)) (v := ?_) rfl rfl (by kernel_rfl) (by kernel_rfl) (by kernel_rfl) (fun _ _ _ h => h) (by rfl) ?_ hS ?_
      rotate_left
      · intro w' hSw; have z := ((K2.out.older (older_below hSw.out)).cell 2).trans (show _ = some (.int .i64 (m : Int)) from rfl); clear hSw; go_simp <;> with_reducible rfl
      simp only [Act.put, List.setIfInBounds_toArray, List.set_cons_zero, List.set_cons_succ]
      refine held_take (i := 6) (d := (some 19)) (v := ?_) rfl rfl (by kernel_rfl) (by kernel_rfl) (by kernel_rfl) (fun _ _ _ h => h) (by rfl) ?_ hS ?_
      rotate_left
      · intro w' hSw; (try dsimp only at hSw); go_simp <;> with_reducible rfl
      simp only [Act.put, List.setIfInBounds_toArray, List.set_cons_zero, List.set_cons_succ]
      refine held_take (i := 7) (d := (some 20)) (v := ?_) rfl rfl (by kernel_rfl) (by kernel_rfl) (by kernel_rfl) (fun _ _ _ h => h) (by rfl) ?_ hS ?_
      rotate_left
      · intro w' hSw; (try dsimp only at hSw); go_simp <;> with_reducible rfl
      simp only [Act.put, List.setIfInBounds_toArray, List.set_cons_zero, List.set_cons_succ]
      refine held_take (i := 8) (d := (some 21)) (v := ?_) rfl rfl (by kernel_rfl) (by kernel_rfl) (by kernel_rfl) (fun _ _ _ h => h) (by rfl) ?_ hS ?_
      rotate_left
      · intro w' hSw; (try dsimp only at hSw); go_simp <;> with_reducible rfl
      simp only [Act.put, List.setIfInBounds_toArray, List.set_cons_zero, List.set_cons_succ]
      refine held_take (i := 9) (d := (some 22)) (v := ?_) rfl rfl (by kernel_rfl) (by kernel_rfl) (by kernel_rfl) (fun _ _ _ h => h) (by rfl) ?_ hS ?_
      rotate_left
      · intro w' hSw; (try dsimp only at hSw); go_simp <;> with_reducible rfl
      simp only [Act.put, List.setIfInBounds_toArray, List.set_cons_zero, List.set_cons_succ]
      refine held_take (i := 10) (d := (some 23)) (v := ?_) rfl rfl (by kernel_rfl) (by kernel_rfl) (by kernel_rfl) (fun _ _ _ h => h) (by rfl) ?_ hS ?_
      rotate_left
      · intro w' hSw; have z := ((H2.out.new hSw.out).po.slot hi (j := 2) (by omega)).trans (show _ = some (.int .i64 (hs[i].length : Int)) from by rw [SI.out]; rfl); clear hSw; go_simp <;> with_reducible rfl
      simp only [Act.put, List.setIfInBounds_toArray, List.set_cons_zero, List.set_cons_succ]
      refine held_take (i := 11) (d := (some 24)) (v := ?_) rfl rfl (by kernel_rfl) (by kernel_rfl) (by kernel_rfl) (fun _ _ _ h => h) (by rfl) ?_ hS ?_
      rotate_left
      · intro w' hSw; clear hSw; have q := M0.out; go_simp <;> with_reducible rfl
      simp only [Act.put, List.setIfInBounds_toArray, List.set_cons_zero, List.set_cons_succ]
      refine held_take (i := 12) (d := (some 25)) (v := ?_) rfl rfl (by kernel_rfl) (by kernel_rfl) (by kernel_rfl) (fun _ _ _ h => h) (by rfl) ?_ hS ?_
      rotate_left
      · intro w' hSw; (try dsimp only at hSw); go_simp <;> with_reducible rfl
      simp only [Act.put, List.setIfInBounds_toArray, List.set_cons_zero, List.set_cons_succ]
      refine wpAnyH_done (by kernel_rfl) ?_ _
      have H3 := Lib.hid (H2.out.new hS.out)
      have L3 := Lib.hid (L2.out.trans (PStep.news lab hS.out))
      have K3 := Lib.hid (K2.out.older (older_below hS.out))
      have G3 := Lib.hid (Nat.le_trans G2.out hS.out.size)
      clear H2 L2 K2 G2 hS
      go_upto_region 4 with fail
      generalize W2.drew = W3 at *
      go_cut [8, 7] (fun v8 v7 wx => ∃ (ta cq : Nat), v8 = .int .i64 0 ∧ v7 = .pointer (some ⟨ta, 0, none⟩) ∧ ∃ (Aq : Option Addr) (lab' : Nat → Nat) (_ : Nat), Hid (PB B wx lab' g gk gs c P) ∧ Hid (PStep W3 wx lab lab') ∧ Hid (B ≤ wx.heap.size) ∧ Hid (Blk wx ta 75 #[.int .i64 0, .slice Aq (bytesP P ⟨(i : Int), ((0 : Nat) : Int), (m : Int)⟩).length cq]) ∧ Hid (Src wx Aq (bytesP P ⟨(i : Int), ((0 : Nat) : Int), (m : Int)⟩).length cq (bytesP P ⟨(i : Int), ((0 : Nat) : Int), (m : Int)⟩)))
      case first =>
        have BW := Lib.hid ((Below.refl W3.heap.size W3).drew)
        have HP := Lib.hid (H3.out.new BW.out)
        have LP := Lib.hid (PStep.news lab BW.out)
        have GP := Lib.hid (show B ≤ W3.drew.heap.size from Nat.le_trans G3.out BW.out.size)
        have BK := Lib.hid (show Blk W3.drew bx 90 #[.int .i64 (i : Int), .int .i64 ((0 : Nat) : Int), .int .i64 (m : Int)] from K3.out.drewN 1)
        refine wp_region_held_drew (S := fun w' => Hid (w'.cell? ⟨g, 0, none⟩ = some (.pointer (some ⟨gk, 0, none⟩)) ∧ Blk w' bx 90 #[.int .i64 (i : Int), .int .i64 ((0 : Nat) : Int), .int .i64 (m : Int)])) (by kernel_rfl) (Lib.hid ⟨(HP.out.po.head.cell 0).trans rfl, BK.out⟩) (fun hS => ?_)
        refine held_take (i := 0) (d := (some 32)) (v := ?_) rfl rfl (by kernel_rfl) (by kernel_rfl) (by kernel_rfl) (fun _ _ _ h => h) (by rfl) ?_ hS ?_
        rotate_left
        · intro w' hSw; (try dsimp only at hSw); go_simp <;> with_reducible rfl
        simp only [Act.put, List.setIfInBounds_toArray, List.set_cons_zero, List.set_cons_succ]
        refine held_take (i := 1) (d := (some 33)) (v := ?_) rfl rfl (by kernel_rfl) (by kernel_rfl) (by kernel_rfl) (fun _ _ _ h => h) (by rfl) ?_ hS ?_
        rotate_left
        · intro w' hSw; (try dsimp only at hSw); go_simp <;> with_reducible rfl
        simp only [Act.put, List.setIfInBounds_toArray, List.set_cons_zero, List.set_cons_succ]
        refine held_take (i := 2) (d := (some 34)) (v := ?_) rfl rfl (by kernel_rfl) (by kernel_rfl) (by kernel_rfl) (fun _ _ _ h => h) (by rfl) ?_ hS ?_
        rotate_left
        · intro w' hSw; (try dsimp only at hSw); go_simp <;> with_reducible rfl
        simp only [Act.put, List.setIfInBounds_toArray, List.set_cons_zero, List.set_cons_succ]
        refine held_take (i := 3) (d := (some 35)) (v := ?_) rfl rfl (by kernel_rfl) (by kernel_rfl) (by kernel_rfl) (fun _ _ _ h => h) (by rfl) ?_ hS ?_
        rotate_left
        · intro w' hSw; have z := hSw.out.1; clear hSw; go_simp <;> with_reducible rfl
        simp only [Act.put, List.setIfInBounds_toArray, List.set_cons_zero, List.set_cons_succ]
        refine held_take (i := 4) (d := (some 36)) (v := ?_) rfl rfl (by kernel_rfl) (by kernel_rfl) (by kernel_rfl) (fun _ _ _ h => h) (by rfl) ?_ hS ?_
        rotate_left
        · intro w' hSw; (try dsimp only at hSw); go_simp <;> with_reducible rfl
        simp only [Act.put, List.setIfInBounds_toArray, List.set_cons_zero, List.set_cons_succ]
        refine held_take (i := 5) (d := (some 37)) (v := ?_) rfl rfl (by kernel_rfl) (by kernel_rfl) (by kernel_rfl) (fun _ _ _ h => h) (by rfl) ?_ hS ?_
        rotate_left
        · intro w' hSw; have z := (hSw.out.2.cell 0).trans (show _ = some (.int .i64 (i : Int)) from rfl); clear hSw; go_simp <;> with_reducible rfl
        simp only [Act.put, List.setIfInBounds_toArray, List.set_cons_zero, List.set_cons_succ]
        refine held_take (i := 6) (d := (some 38)) (v := ?_) rfl rfl (by kernel_rfl) (by kernel_rfl) (by kernel_rfl) (fun _ _ _ h => h) (by rfl) ?_ hS ?_
        rotate_left
        · intro w' hSw; (try dsimp only at hSw); go_simp <;> with_reducible rfl
        simp only [Act.put, List.setIfInBounds_toArray, List.set_cons_zero, List.set_cons_succ]
        refine held_take (i := 7) (d := (some 39)) (v := ?_) rfl rfl (by kernel_rfl) (by kernel_rfl) (by kernel_rfl) (fun _ _ _ h => h) (by rfl) ?_ hS ?_
        rotate_left
        · intro w' hSw; have z := (hSw.out.2.cell 1).trans (show _ = some (.int .i64 ((0 : Nat) : Int)) from rfl); clear hSw; go_simp <;> with_reducible rfl
        simp only [Act.put, List.setIfInBounds_toArray, List.set_cons_zero, List.set_cons_succ]
        refine held_take (i := 8) (d := (some 40)) (v := ?_) rfl rfl (by kernel_rfl) (by kernel_rfl) (by kernel_rfl) (fun _ _ _ h => h) (by rfl) ?_ hS ?_
        rotate_left
        · intro w' hSw; (try dsimp only at hSw); go_simp <;> with_reducible rfl
        simp only [Act.put, List.setIfInBounds_toArray, List.set_cons_zero, List.set_cons_succ]
        refine held_take (i := 9) (d := (some 41)) (v := ?_) rfl rfl (by kernel_rfl) (by kernel_rfl) (by kernel_rfl) (fun _ _ _ h => h) (by rfl) ?_ hS ?_
        rotate_left
        · intro w' hSw; have z := (hSw.out.2.cell 2).trans (show _ = some (.int .i64 (m : Int)) from rfl); clear hSw; go_simp <;> with_reducible rfl
        simp only [Act.put, List.setIfInBounds_toArray, List.set_cons_zero, List.set_cons_succ]
        refine held_take (i := 10) (d := (some 42)) (v := ?_) rfl rfl (by kernel_rfl) (by kernel_rfl) (by kernel_rfl) (fun _ _ _ h => h) (by rfl) ?_ hS ?_
        rotate_left
        · intro w' hSw; (try dsimp only at hSw); go_simp <;> with_reducible rfl
        simp only [Act.put, List.setIfInBounds_toArray, List.set_cons_zero, List.set_cons_succ]
        refine held_two (i := 11) (j := 15) (by kernel_rfl) rfl rfl (by rfl) (by rfl) ?_ ?_
        · go_simp
          have CK := Lib.hid (call_kb HP.out.kb GP.out 0 HQ.out.sm (by omega) (bare 4 1 (i : Int) ((0 : Nat) : Int) (m : Int)) noX (bare_in _ _ _ _ _ _ _ (by omega)))
          rw [CR.out] at CK
          refine (show Calls _ _ _ _ _ from by have := CK.out; simp only [KQ.cells, bare, noX, List.length_nil] at this; exact this).mono ?_
          rintro e wq ⟨Aq, cq, rfl, labq, kq, lq, bq, sq, oq⟩
          have PQ := HP.out.po.step lq P.K
          have BK := Lib.hid (BK.out.chg lq.chg (fun e => by have z := ZX.out; omega))
          have LP := Lib.hid (LP.out.trans (PStep.ofL lq))
          have GP := Lib.hid (show B ≤ wq.heap.size from Nat.le_trans GP.out lq.chg.size)
          have SQ := Lib.hid sq
          have OQ := Lib.hid oq
          have HP := Lib.hid (show PB B wq labq g gk gs c P from ⟨kq, PQ⟩)
          have hS : Hid (wq.cell? ⟨g, 0, none⟩ = some (.pointer (some ⟨gk, 0, none⟩)) ∧ Blk wq bx 90 #[.int .i64 (i : Int), .int .i64 ((0 : Nat) : Int), .int .i64 (m : Int)]) := Lib.hid ⟨(HP.out.po.head.cell 0).trans rfl, BK.out⟩
          refine ⟨hS, ?_⟩
          clear CK PQ kq lq bq sq oq BW
          (try simp only [Act.put, List.setIfInBounds_toArray, List.set_cons_zero, List.set_cons_succ])
          refine held_take (i := 12) (d := (some 31)) (v := ?_) rfl rfl (by kernel_rfl) (by kernel_rfl) (by kernel_rfl) (fun _ _ _ h => h) (by rfl) ?_ hS ?_
          rotate_left
          · intro w' hSw; (try dsimp only at hSw); go_simp <;> with_reducible rfl
          simp only [Act.put, List.setIfInBounds_toArray, List.set_cons_zero, List.set_cons_succ]
          refine held_take (i := 13) (d := (some 44)) (v := ?_) rfl rfl (by kernel_rfl) (by kernel_rfl) (by kernel_rfl) (fun _ _ _ h => h) (by rfl) ?_ hS ?_
          rotate_left
          · intro w' hSw; (try dsimp only at hSw); go_simp <;> with_reducible rfl
          simp only [Act.put, List.setIfInBounds_toArray, List.set_cons_zero, List.set_cons_succ]
          refine held_take (i := 14) (d := (some 45)) (v := ?_) rfl rfl (by kernel_rfl) (by kernel_rfl) (by kernel_rfl) (fun _ _ _ h => h) (by rfl) ?_ hS ?_
          rotate_left
          · intro w' hSw; (try dsimp only at hSw); go_simp <;> with_reducible rfl
          simp only [Act.put, List.setIfInBounds_toArray, List.set_cons_zero, List.set_cons_succ]
          refine held_one (i := 15) (by kernel_rfl) rfl (by rfl) ?_
          go_simp
          obtain ⟨ta, hta⟩ : ∃ ta, wq.heap.size = ta := ⟨_, rfl⟩
          have BX := HP.out.box GP.out 75 #[.int .i64 0, .slice none 0 0]
          rw [hta] at BX
          have TX := Lib.hid (show bx ≠ ta from by have := BK.out.lt; omega)
          have TG := Lib.hid (show ta ≠ g ∧ ta ≠ gs from ⟨by have := HP.out.po.head.lt; omega, by obtain ⟨_, hb, _⟩ := HP.out.po.row; have := hb.lt; omega⟩)
          have LP := Lib.hid (LP.out.trans BX.2.1)
          have BK := Lib.hid (BK.out.alloc (.cells #[.int .i64 0, .slice none 0 0] 75))
          have SQ := Lib.hid (SQ.out.alloc (.cells #[.int .i64 0, .slice none 0 0] 75))
          have AB := Lib.hid BX.2.2
          have T9 := Lib.hid (show mark9 labq ta ta = 9 from by unfold mark9; rw [if_pos rfl])
          have HP := Lib.hid BX.1
          have GP := Lib.hid (show B ≤ (wq.alloc (.cells #[.int .i64 0, .slice none 0 0] 75)).heap.size from Nat.le_trans GP.out BX.2.1.chg.size)
          have hS : Hid ((wq.alloc (.cells #[.int .i64 0, .slice none 0 0] 75)).cell? ⟨g, 0, none⟩ = some (.pointer (some ⟨gk, 0, none⟩)) ∧ Blk (wq.alloc (.cells #[.int .i64 0, .slice none 0 0] 75)) bx 90 #[.int .i64 (i : Int), .int .i64 ((0 : Nat) : Int), .int .i64 (m : Int)]) := Lib.hid ⟨(HP.out.po.head.cell 0).trans rfl, BK.out⟩
          refine ⟨hS, ?_⟩
          rw [hta]
          clear BX
          (try simp only [Act.put, List.setIfInBounds_toArray, List.set_cons_zero, List.set_cons_succ])
          refine held_one (i := 16) (by kernel_rfl) rfl (by rfl) ?_
          have SQ := Lib.hid (src_row SQ.out AB.out (by simp) #[.int .i64 0, .slice Aq (bytesP P ⟨(i : Int), ((0 : Nat) : Int), (m : Int)⟩).length cq])
          refine wp_store_row_n rfl 75 (.tmp 7) (.tmp 44) rfl ta #[.int .i64 0, .slice Aq (bytesP P ⟨(i : Int), ((0 : Nat) : Int), (m : Int)⟩).length cq] rfl rfl 75 _ AB.out ans_info rfl (by simp [Value.oneCell']) ?_
          have BX := HP.out.boxSet GP.out T9.out TG.out.1 TG.out.2 AB.out #[.int .i64 0, .slice Aq (bytesP P ⟨(i : Int), ((0 : Nat) : Int), (m : Int)⟩).length cq]
          have LP := Lib.hid (LP.out.trans BX.2)
          have GP := Lib.hid (Nat.le_trans GP.out BX.2.chg.size)
          have BK := Lib.hid (BK.out.chg (Chg.setRow _ #[.int .i64 0, .slice Aq (bytesP P ⟨(i : Int), ((0 : Nat) : Int), (m : Int)⟩).length cq] (g := ta) (S := fun b => b = ta) rfl) TX.out)
          have AB := Lib.hid (AB.out.row #[.int .i64 0, .slice Aq (bytesP P ⟨(i : Int), ((0 : Nat) : Int), (m : Int)⟩).length cq])
          have HP := Lib.hid BX.1
          have hS := Lib.hid (And.intro ((HP.out.po.head.cell 0).trans (show _ = some (.pointer (some ⟨gk, 0, none⟩)) from rfl)) BK.out)
          refine ⟨hS, ?_⟩
          clear BX
          (try simp only [Act.put, List.setIfInBounds_toArray, List.set_cons_zero, List.set_cons_succ])
          refine held_take (i := 17) (d := (some 8)) (v := ?_) rfl rfl (by kernel_rfl) (by kernel_rfl) (by kernel_rfl) (fun _ _ _ h => h) (by rfl) ?_ hS ?_
          rotate_left
          · intro w' hSw; (try dsimp only at hSw); go_simp <;> with_reducible rfl
          simp only [Act.put, List.setIfInBounds_toArray, List.set_cons_zero, List.set_cons_succ]
          refine wpAnyH_done (by kernel_rfl) ?_ _
          go_wp2
          go_meet
          exact ⟨_, _, rfl, rfl, _, _, 0, HP, LP, GP, AB, SQ⟩
        · go_simp
          obtain ⟨ta, hta⟩ : ∃ ta, W3.heap.size = ta := ⟨_, rfl⟩
          have BX := HP.out.box GP.out 75 #[.int .i64 0, .slice none 0 0]
          rw [show W3.drew.heap.size = ta from hta] at BX
          have TX := Lib.hid (show bx ≠ ta from by have := K3.out.lt; omega)
          have TG := Lib.hid (show ta ≠ g ∧ ta ≠ gs from ⟨by have h1 := H3.out.po.head.lt; omega, by obtain ⟨_, hb, _⟩ := H3.out.po.row; have := hb.lt; omega⟩)
          have LP := Lib.hid (LP.out.trans BX.2.1)
          have BK := Lib.hid (BK.out.alloc (.cells #[.int .i64 0, .slice none 0 0] 75))
          have BW := Lib.hid (BW.out.alloc BW.out.size (.cells #[.int .i64 0, .slice none 0 0] 75))
          have AB := Lib.hid BX.2.2
          have T9 := Lib.hid (show mark9 lab ta ta = 9 from by unfold mark9; rw [if_pos rfl])
          have HP := Lib.hid BX.1
          have GP := Lib.hid (show B ≤ (W3.drew.alloc (.cells #[.int .i64 0, .slice none 0 0] 75)).heap.size from Nat.le_trans GP.out BX.2.1.chg.size)
          have hS : Hid ((W3.drew.alloc (.cells #[.int .i64 0, .slice none 0 0] 75)).cell? ⟨g, 0, none⟩ = some (.pointer (some ⟨gk, 0, none⟩)) ∧ Blk (W3.drew.alloc (.cells #[.int .i64 0, .slice none 0 0] 75)) bx 90 #[.int .i64 (i : Int), .int .i64 ((0 : Nat) : Int), .int .i64 (m : Int)]) := Lib.hid ⟨(HP.out.po.head.cell 0).trans rfl, BK.out⟩
          refine ⟨hS, ?_⟩
          rw [hta]
          clear BX
          (try simp only [Act.put, List.setIfInBounds_toArray, List.set_cons_zero, List.set_cons_succ])
          refine held_one (i := 11) (by kernel_rfl) rfl (by rfl) ?_
          go_simp
          have CK := Lib.hid (call_kb HP.out.kb GP.out 0 HQ.out.sm (by omega) (bare 4 1 (i : Int) ((0 : Nat) : Int) (m : Int)) noX (bare_in _ _ _ _ _ _ _ (by omega)))
          rw [CR.out] at CK
          refine (show Calls _ _ _ _ _ from by have := CK.out; simp only [KQ.cells, bare, noX, List.length_nil] at this; exact this).mono ?_
          rintro e wq ⟨Aq, cq, rfl, labq, kq, lq, bq, sq, oq⟩
          have PQ := HP.out.po.step lq P.K
          have BK := Lib.hid (BK.out.chg lq.chg (fun e => by have z := ZX.out; have zz : mark9 lab ta bx = 0 := (by unfold mark9; rw [if_neg (by have := TX.out; omega)]; exact z); omega))
          have LP := Lib.hid (LP.out.trans (PStep.ofL lq))
          have GP := Lib.hid (show B ≤ wq.heap.size from Nat.le_trans GP.out lq.chg.size)
          have SQ := Lib.hid sq
          have OQ := Lib.hid oq
          have AB := Lib.hid (AB.out.chg lq.chg (fun e => by have h9 := T9.out; rw [h9] at e; omega))
          have T9 := Lib.hid (show labq ta = 9 from by rw [lq.keep ta (by rw [T9.out]; omega)]; exact T9.out)
          have HP := Lib.hid (show PB B wq labq g gk gs c P from ⟨kq, PQ⟩)
          have hS : Hid (wq.cell? ⟨g, 0, none⟩ = some (.pointer (some ⟨gk, 0, none⟩)) ∧ Blk wq bx 90 #[.int .i64 (i : Int), .int .i64 ((0 : Nat) : Int), .int .i64 (m : Int)]) := Lib.hid ⟨(HP.out.po.head.cell 0).trans rfl, BK.out⟩
          refine ⟨hS, ?_⟩
          clear CK PQ kq lq bq sq oq BW
          (try simp only [Act.put, List.setIfInBounds_toArray, List.set_cons_zero, List.set_cons_succ])
          refine held_take (i := 12) (d := (some 31)) (v := ?_) rfl rfl (by kernel_rfl) (by kernel_rfl) (by kernel_rfl) (fun _ _ _ h => h) (by rfl) ?_ hS ?_
          rotate_left
          · intro w' hSw; (try dsimp only at hSw); go_simp <;> with_reducible rfl
          simp only [Act.put, List.setIfInBounds_toArray, List.set_cons_zero, List.set_cons_succ]
          refine held_take (i := 13) (d := (some 44)) (v := ?_) rfl rfl (by kernel_rfl) (by kernel_rfl) (by kernel_rfl) (fun _ _ _ h => h) (by rfl) ?_ hS ?_
          rotate_left
          · intro w' hSw; (try dsimp only at hSw); go_simp <;> with_reducible rfl
          simp only [Act.put, List.setIfInBounds_toArray, List.set_cons_zero, List.set_cons_succ]
          refine held_take (i := 14) (d := (some 45)) (v := ?_) rfl rfl (by kernel_rfl) (by kernel_rfl) (by kernel_rfl) (fun _ _ _ h => h) (by rfl) ?_ hS ?_
          rotate_left
          · intro w' hSw; (try dsimp only at hSw); go_simp <;> with_reducible rfl
          simp only [Act.put, List.setIfInBounds_toArray, List.set_cons_zero, List.set_cons_succ]
          refine held_one (i := 16) (by kernel_rfl) rfl (by rfl) ?_
          have SQ := Lib.hid (src_row SQ.out AB.out (by simp) #[.int .i64 0, .slice Aq (bytesP P ⟨(i : Int), ((0 : Nat) : Int), (m : Int)⟩).length cq])
          refine wp_store_row_n rfl 75 (.tmp 7) (.tmp 44) rfl ta #[.int .i64 0, .slice Aq (bytesP P ⟨(i : Int), ((0 : Nat) : Int), (m : Int)⟩).length cq] rfl rfl 75 _ AB.out ans_info rfl (by simp [Value.oneCell']) ?_
          have BX := HP.out.boxSet GP.out T9.out TG.out.1 TG.out.2 AB.out #[.int .i64 0, .slice Aq (bytesP P ⟨(i : Int), ((0 : Nat) : Int), (m : Int)⟩).length cq]
          have LP := Lib.hid (LP.out.trans BX.2)
          have GP := Lib.hid (Nat.le_trans GP.out BX.2.chg.size)
          have BK := Lib.hid (BK.out.chg (Chg.setRow _ #[.int .i64 0, .slice Aq (bytesP P ⟨(i : Int), ((0 : Nat) : Int), (m : Int)⟩).length cq] (g := ta) (S := fun b => b = ta) rfl) TX.out)
          have AB := Lib.hid (AB.out.row #[.int .i64 0, .slice Aq (bytesP P ⟨(i : Int), ((0 : Nat) : Int), (m : Int)⟩).length cq])
          have HP := Lib.hid BX.1
          have hS := Lib.hid (And.intro ((HP.out.po.head.cell 0).trans (show _ = some (.pointer (some ⟨gk, 0, none⟩)) from rfl)) BK.out)
          refine ⟨hS, ?_⟩
          clear BX
          (try simp only [Act.put, List.setIfInBounds_toArray, List.set_cons_zero, List.set_cons_succ])
          refine held_take (i := 17) (d := (some 8)) (v := ?_) rfl rfl (by kernel_rfl) (by kernel_rfl) (by kernel_rfl) (fun _ _ _ h => h) (by rfl) ?_ hS ?_
          rotate_left
          · intro w' hSw; (try dsimp only at hSw); go_simp <;> with_reducible rfl
          simp only [Act.put, List.setIfInBounds_toArray, List.set_cons_zero, List.set_cons_succ]
          refine wpAnyH_done (by kernel_rfl) ?_ _
          go_wp2
          go_meet
          exact ⟨_, _, rfl, rfl, _, _, 0, HP, LP, GP, AB, SQ⟩
      case rest =>
        obtain ⟨ta, cq, rfl, rfl, Aq, lab', _, H4, L4, G4, A4, S4⟩ := hcut
        have L5 := Lib.hid (L3.out.trans L4.out)
        clear L3 L4 H3 K3 G3 CR
        have LB := Lib.hid RH.out.2
        generalize hby : bytesP P ⟨(i : Int), ((0 : Nat) : Int), (m : Int)⟩ = by_ at *
        replace hby := Lib.hid hby
        have z1 := (A4.out.cell 1).trans (show _ = some (.slice Aq by_.length cq) from rfl)
        have PT := Lib.hid (fun (X : World) (hX : Bytes X Aq by_.length cq by_) => part_b Aq by_.length cq by_ X hX (by have := LB.out; omega))
        go_wp2_with fail
        refine (PT.out _ S4.out.toBytes).mono ?_; rintro e w6 ⟨rfl, b6⟩
        have H6 := Lib.hid (H4.out.new b6)
        have L6 := Lib.hid (L5.out.trans (PStep.news lab' b6))
        clear b6 H4 L5 A4 S4 z1
        go_wp2
        go_ret2
        exact ⟨by rw [hby.out]; rfl, lab', H6.out, L6.out⟩

  · have O0 := Lib.hid (show ((o : Int) == 0) = false from by rw [beq_eq_false_iff_ne]; omega)
    refine wp_region_held_drew (S := fun w' => Hid (Below W2.heap.size W2 w')) (by kernel_rfl) ((Lib.hid ((Below.refl W2.heap.size W2).drew))) (fun hS => ?_)
    refine held_take (i := 0) (d := (some 13)) (v := ?_) rfl rfl (by kernel_rfl) (by kernel_rfl) (by kernel_rfl) (fun _ _ _ h => h) (by rfl) ?_ hS ?_
    rotate_left
    · intro w' hSw; (try dsimp only at hSw); go_simp <;> with_reducible rfl
    simp only [Act.put, List.setIfInBounds_toArray, List.set_cons_zero, List.set_cons_succ]
    refine held_take (i := 1) (d := (some 14)) (v := ?_) rfl rfl (by kernel_rfl) (by kernel_rfl) (by kernel_rfl) (fun _ _ _ h => h) (by rfl) ?_ hS ?_
    rotate_left
    · intro w' hSw; have z := ((K2.out.older (older_below hSw.out)).cell 1).trans (show _ = some (.int .i64 (o : Int)) from rfl); clear hSw; go_simp <;> with_reducible rfl
    simp only [Act.put, List.setIfInBounds_toArray, List.set_cons_zero, List.set_cons_succ]
    refine held_take (i := 2) (d := (some 15)) (v := ?_) rfl rfl (by kernel_rfl) (by kernel_rfl) (by kernel_rfl) (fun _ _ _ h => h) (by rfl) ?_ hS ?_
    rotate_left
    · intro w' hSw; clear hSw; have q := O0.out; go_simp <;> with_reducible rfl
    simp only [Act.put, List.setIfInBounds_toArray, List.set_cons_zero, List.set_cons_succ]
    refine held_take (i := 3) (d := (some 16)) (v := ?_) rfl rfl (by kernel_rfl) (by kernel_rfl) (by kernel_rfl) (fun _ _ _ h => h) (by rfl) ?_ hS ?_
    rotate_left
    · intro w' hSw; (try dsimp only at hSw); go_simp <;> with_reducible rfl
    simp only [Act.put, List.setIfInBounds_toArray, List.set_cons_zero, List.set_cons_succ]
    refine held_skip (i := 4) (d := (some 17)) rfl rfl (by kernel_rfl) (by kernel_rfl) (by kernel_rfl) (fun _ _ _ h => h) (by rfl) hS ?_
    simp only [Act.put, List.setIfInBounds_toArray, List.set_cons_zero, List.set_cons_succ]
    refine held_skip (i := 5) (d := (some 18)) rfl rfl (by kernel_rfl) (by kernel_rfl) (by kernel_rfl) (fun _ _ _ h => h) (by rfl) hS ?_
    simp only [Act.put, List.setIfInBounds_toArray, List.set_cons_zero, List.set_cons_succ]
    refine held_skip (i := 6) (d := (some 19)) rfl rfl (by kernel_rfl) (by kernel_rfl) (by kernel_rfl) (fun _ _ _ h => h) (by rfl) hS ?_
    simp only [Act.put, List.setIfInBounds_toArray, List.set_cons_zero, List.set_cons_succ]
    refine held_skip (i := 7) (d := (some 20)) rfl rfl (by kernel_rfl) (by kernel_rfl) (by kernel_rfl) (fun _ _ _ h => h) (by rfl) hS ?_
    simp only [Act.put, List.setIfInBounds_toArray, List.set_cons_zero, List.set_cons_succ]
    refine held_skip (i := 8) (d := (some 21)) rfl rfl (by kernel_rfl) (by kernel_rfl) (by kernel_rfl) (fun _ _ _ h => h) (by rfl) hS ?_
    simp only [Act.put, List.setIfInBounds_toArray, List.set_cons_zero, List.set_cons_succ]
    refine held_skip (i := 9) (d := (some 22)) rfl rfl (by kernel_rfl) (by kernel_rfl) (by kernel_rfl) (fun _ _ _ h => h) (by rfl) hS ?_
    simp only [Act.put, List.setIfInBounds_toArray, List.set_cons_zero, List.set_cons_succ]
    refine held_skip (i := 10) (d := (some 23)) rfl rfl (by kernel_rfl) (by kernel_rfl) (by kernel_rfl) (fun _ _ _ h => h) (by rfl) hS ?_
    simp only [Act.put, List.setIfInBounds_toArray, List.set_cons_zero, List.set_cons_succ]
    refine held_skip (i := 11) (d := (some 24)) rfl rfl (by kernel_rfl) (by kernel_rfl) (by kernel_rfl) (fun _ _ _ h => h) (by rfl) hS ?_
    simp only [Act.put, List.setIfInBounds_toArray, List.set_cons_zero, List.set_cons_succ]
    refine held_take (i := 12) (d := (some 25)) (v := ?_) rfl rfl (by kernel_rfl) (by kernel_rfl) (by kernel_rfl) (fun _ _ _ h => h) (by rfl) ?_ hS ?_
    rotate_left
    · intro w' hSw; (try dsimp only at hSw); go_simp <;> with_reducible rfl
    simp only [Act.put, List.setIfInBounds_toArray, List.set_cons_zero, List.set_cons_succ]
    refine wpAnyH_done (by kernel_rfl) ?_ _
    have H3 := Lib.hid (H2.out.new hS.out)
    have L3 := Lib.hid (L2.out.trans (PStep.news lab hS.out))
    have K3 := Lib.hid (K2.out.older (older_below hS.out))
    have G3 := Lib.hid (Nat.le_trans G2.out hS.out.size)
    clear H2 L2 K2 G2 hS
    go_upto_region 4 with fail
    generalize W2.drew = W3 at *
    go_cut [8, 7] (fun v8 v7 wx => ∃ (ta cq : Nat), v8 = .int .i64 0 ∧ v7 = .pointer (some ⟨ta, 0, none⟩) ∧ ∃ (Aq : Option Addr) (lab' : Nat → Nat) (_ : Nat), Hid (PB B wx lab' g gk gs c P) ∧ Hid (PStep W3 wx lab lab') ∧ Hid (B ≤ wx.heap.size) ∧ Hid (Blk wx ta 75 #[.int .i64 0, .slice Aq (bytesP P ⟨(i : Int), (o : Int), (m : Int)⟩).length cq]) ∧ Hid (Src wx Aq (bytesP P ⟨(i : Int), (o : Int), (m : Int)⟩).length cq (bytesP P ⟨(i : Int), (o : Int), (m : Int)⟩)))
    case first =>
      have BW := Lib.hid ((Below.refl W3.heap.size W3).drew)
      have HP := Lib.hid (H3.out.new BW.out)
      have LP := Lib.hid (PStep.news lab BW.out)
      have GP := Lib.hid (show B ≤ W3.drew.heap.size from Nat.le_trans G3.out BW.out.size)
      have BK := Lib.hid (show Blk W3.drew bx 90 #[.int .i64 (i : Int), .int .i64 (o : Int), .int .i64 (m : Int)] from K3.out.drewN 1)
      refine wp_region_held_drew (S := fun w' => Hid (w'.cell? ⟨g, 0, none⟩ = some (.pointer (some ⟨gk, 0, none⟩)) ∧ Blk w' bx 90 #[.int .i64 (i : Int), .int .i64 (o : Int), .int .i64 (m : Int)])) (by kernel_rfl) (Lib.hid ⟨(HP.out.po.head.cell 0).trans rfl, BK.out⟩) (fun hS => ?_)
      refine held_take (i := 0) (d := (some 32)) (v := ?_) rfl rfl (by kernel_rfl) (by kernel_rfl) (by kernel_rfl) (fun _ _ _ h => h) (by rfl) ?_ hS ?_
      rotate_left
      · intro w' hSw; (try dsimp only at hSw); go_simp <;> with_reducible rfl
      simp only [Act.put, List.setIfInBounds_toArray, List.set_cons_zero, List.set_cons_succ]
      refine held_take (i := 1) (d := (some 33)) (v := ?_) rfl rfl (by kernel_rfl) (by kernel_rfl) (by kernel_rfl) (fun _ _ _ h => h) (by rfl) ?_ hS ?_
      rotate_left
      · intro w' hSw; (try dsimp only at hSw); go_simp <;> with_reducible rfl
      simp only [Act.put, List.setIfInBounds_toArray, List.set_cons_zero, List.set_cons_succ]
      refine held_take (i := 2) (d := (some 34)) (v := ?_) rfl rfl (by kernel_rfl) (by kernel_rfl) (by kernel_rfl) (fun _ _ _ h => h) (by rfl) ?_ hS ?_
      rotate_left
      · intro w' hSw; (try dsimp only at hSw); go_simp <;> with_reducible rfl
      simp only [Act.put, List.setIfInBounds_toArray, List.set_cons_zero, List.set_cons_succ]
      refine held_take (i := 3) (d := (some 35)) (v := ?_) rfl rfl (by kernel_rfl) (by kernel_rfl) (by kernel_rfl) (fun _ _ _ h => h) (by rfl) ?_ hS ?_
      rotate_left
      · intro w' hSw; have z := hSw.out.1; clear hSw; go_simp <;> with_reducible rfl
      simp only [Act.put, List.setIfInBounds_toArray, List.set_cons_zero, List.set_cons_succ]
      refine held_take (i := 4) (d := (some 36)) (v := ?_) rfl rfl (by kernel_rfl) (by kernel_rfl) (by kernel_rfl) (fun _ _ _ h => h) (by rfl) ?_ hS ?_
      rotate_left
      · intro w' hSw; (try dsimp only at hSw); go_simp <;> with_reducible rfl
      simp only [Act.put, List.setIfInBounds_toArray, List.set_cons_zero, List.set_cons_succ]
      refine held_take (i := 5) (d := (some 37)) (v := ?_) rfl rfl (by kernel_rfl) (by kernel_rfl) (by kernel_rfl) (fun _ _ _ h => h) (by rfl) ?_ hS ?_
      rotate_left
      · intro w' hSw; have z := (hSw.out.2.cell 0).trans (show _ = some (.int .i64 (i : Int)) from rfl); clear hSw; go_simp <;> with_reducible rfl
      simp only [Act.put, List.setIfInBounds_toArray, List.set_cons_zero, List.set_cons_succ]
      refine held_take (i := 6) (d := (some 38)) (v := ?_) rfl rfl (by kernel_rfl) (by kernel_rfl) (by kernel_rfl) (fun _ _ _ h => h) (by rfl) ?_ hS ?_
      rotate_left
      · intro w' hSw; (try dsimp only at hSw); go_simp <;> with_reducible rfl
      simp only [Act.put, List.setIfInBounds_toArray, List.set_cons_zero, List.set_cons_succ]
      refine held_take (i := 7) (d := (some 39)) (v := ?_) rfl rfl (by kernel_rfl) (by kernel_rfl) (by kernel_rfl) (fun _ _ _ h => h) (by rfl) ?_ hS ?_
      rotate_left
      · intro w' hSw; have z := (hSw.out.2.cell 1).trans (show _ = some (.int .i64 (o : Int)) from rfl); clear hSw; go_simp <;> with_reducible rfl
      simp only [Act.put, List.setIfInBounds_toArray, List.set_cons_zero, List.set_cons_succ]
      refine held_take (i := 8) (d := (some 40)) (v := ?_) rfl rfl (by kernel_rfl) (by kernel_rfl) (by kernel_rfl) (fun _ _ _ h => h) (by rfl) ?_ hS ?_
      rotate_left
      · intro w' hSw; (try dsimp only at hSw); go_simp <;> with_reducible rfl
      simp only [Act.put, List.setIfInBounds_toArray, List.set_cons_zero, List.set_cons_succ]
      refine held_take (i := 9) (d := (some 41)) (v := ?_) rfl rfl (by kernel_rfl) (by kernel_rfl) (by kernel_rfl) (fun _ _ _ h => h) (by rfl) ?_ hS ?_
      rotate_left
      · intro w' hSw; have z := (hSw.out.2.cell 2).trans (show _ = some (.int .i64 (m : Int)) from rfl); clear hSw; go_simp <;> with_reducible rfl
      simp only [Act.put, List.setIfInBounds_toArray, List.set_cons_zero, List.set_cons_succ]
      refine held_take (i := 10) (d := (some 42)) (v := ?_) rfl rfl (by kernel_rfl) (by kernel_rfl) (by kernel_rfl) (fun _ _ _ h => h) (by rfl) ?_ hS ?_
      rotate_left
      · intro w' hSw; (try dsimp only at hSw); go_simp <;> with_reducible rfl
      simp only [Act.put, List.setIfInBounds_toArray, List.set_cons_zero, List.set_cons_succ]
      refine held_two (i := 11) (j := 15) (by kernel_rfl) rfl rfl (by rfl) (by rfl) ?_ ?_
      · go_simp
        have CK := Lib.hid (call_kb HP.out.kb GP.out 0 HQ.out.sm (by omega) (bare 4 1 (i : Int) (o : Int) (m : Int)) noX (bare_in _ _ _ _ _ _ _ (by omega)))
        rw [CR.out] at CK
        refine (show Calls _ _ _ _ _ from by have := CK.out; simp only [KQ.cells, bare, noX, List.length_nil] at this; exact this).mono ?_
        rintro e wq ⟨Aq, cq, rfl, labq, kq, lq, bq, sq, oq⟩
        have PQ := HP.out.po.step lq P.K
        have BK := Lib.hid (BK.out.chg lq.chg (fun e => by have z := ZX.out; omega))
        have LP := Lib.hid (LP.out.trans (PStep.ofL lq))
        have GP := Lib.hid (show B ≤ wq.heap.size from Nat.le_trans GP.out lq.chg.size)
        have SQ := Lib.hid sq
        have OQ := Lib.hid oq
        have HP := Lib.hid (show PB B wq labq g gk gs c P from ⟨kq, PQ⟩)
        have hS : Hid (wq.cell? ⟨g, 0, none⟩ = some (.pointer (some ⟨gk, 0, none⟩)) ∧ Blk wq bx 90 #[.int .i64 (i : Int), .int .i64 (o : Int), .int .i64 (m : Int)]) := Lib.hid ⟨(HP.out.po.head.cell 0).trans rfl, BK.out⟩
        refine ⟨hS, ?_⟩
        clear CK PQ kq lq bq sq oq BW
        (try simp only [Act.put, List.setIfInBounds_toArray, List.set_cons_zero, List.set_cons_succ])
        refine held_take (i := 12) (d := (some 31)) (v := ?_) rfl rfl (by kernel_rfl) (by kernel_rfl) (by kernel_rfl) (fun _ _ _ h => h) (by rfl) ?_ hS ?_
        rotate_left
        · intro w' hSw; (try dsimp only at hSw); go_simp <;> with_reducible rfl
        simp only [Act.put, List.setIfInBounds_toArray, List.set_cons_zero, List.set_cons_succ]
        refine held_take (i := 13) (d := (some 44)) (v := ?_) rfl rfl (by kernel_rfl) (by kernel_rfl) (by kernel_rfl) (fun _ _ _ h => h) (by rfl) ?_ hS ?_
        rotate_left
        · intro w' hSw; (try dsimp only at hSw); go_simp <;> with_reducible rfl
        simp only [Act.put, List.setIfInBounds_toArray, List.set_cons_zero, List.set_cons_succ]
        refine held_take (i := 14) (d := (some 45)) (v := ?_) rfl rfl (by kernel_rfl) (by kernel_rfl) (by kernel_rfl) (fun _ _ _ h => h) (by rfl) ?_ hS ?_
        rotate_left
        · intro w' hSw; (try dsimp only at hSw); go_simp <;> with_reducible rfl
        simp only [Act.put, List.setIfInBounds_toArray, List.set_cons_zero, List.set_cons_succ]
        refine held_one (i := 15) (by kernel_rfl) rfl (by rfl) ?_
        go_simp
        obtain ⟨ta, hta⟩ : ∃ ta, wq.heap.size = ta := ⟨_, rfl⟩
        have BX := HP.out.box GP.out 75 #[.int .i64 0, .slice none 0 0]
        rw [hta] at BX
        have TX := Lib.hid (show bx ≠ ta from by have := BK.out.lt; omega)
        have TG := Lib.hid (show ta ≠ g ∧ ta ≠ gs from ⟨by have := HP.out.po.head.lt; omega, by obtain ⟨_, hb, _⟩ := HP.out.po.row; have := hb.lt; omega⟩)
        have LP := Lib.hid (LP.out.trans BX.2.1)
        have BK := Lib.hid (BK.out.alloc (.cells #[.int .i64 0, .slice none 0 0] 75))
        have SQ := Lib.hid (SQ.out.alloc (.cells #[.int .i64 0, .slice none 0 0] 75))
        have AB := Lib.hid BX.2.2
        have T9 := Lib.hid (show mark9 labq ta ta = 9 from by unfold mark9; rw [if_pos rfl])
        have HP := Lib.hid BX.1
        have GP := Lib.hid (show B ≤ (wq.alloc (.cells #[.int .i64 0, .slice none 0 0] 75)).heap.size from Nat.le_trans GP.out BX.2.1.chg.size)
        have hS : Hid ((wq.alloc (.cells #[.int .i64 0, .slice none 0 0] 75)).cell? ⟨g, 0, none⟩ = some (.pointer (some ⟨gk, 0, none⟩)) ∧ Blk (wq.alloc (.cells #[.int .i64 0, .slice none 0 0] 75)) bx 90 #[.int .i64 (i : Int), .int .i64 (o : Int), .int .i64 (m : Int)]) := Lib.hid ⟨(HP.out.po.head.cell 0).trans rfl, BK.out⟩
        refine ⟨hS, ?_⟩
        rw [hta]
        clear BX
        (try simp only [Act.put, List.setIfInBounds_toArray, List.set_cons_zero, List.set_cons_succ])
        refine held_one (i := 16) (by kernel_rfl) rfl (by rfl) ?_
        have SQ := Lib.hid (src_row SQ.out AB.out (by simp) #[.int .i64 0, .slice Aq (bytesP P ⟨(i : Int), (o : Int), (m : Int)⟩).length cq])
        refine wp_store_row_n rfl 75 (.tmp 7) (.tmp 44) rfl ta #[.int .i64 0, .slice Aq (bytesP P ⟨(i : Int), (o : Int), (m : Int)⟩).length cq] rfl rfl 75 _ AB.out ans_info rfl (by simp [Value.oneCell']) ?_
        have BX := HP.out.boxSet GP.out T9.out TG.out.1 TG.out.2 AB.out #[.int .i64 0, .slice Aq (bytesP P ⟨(i : Int), (o : Int), (m : Int)⟩).length cq]
        have LP := Lib.hid (LP.out.trans BX.2)
        have GP := Lib.hid (Nat.le_trans GP.out BX.2.chg.size)
        have BK := Lib.hid (BK.out.chg (Chg.setRow _ #[.int .i64 0, .slice Aq (bytesP P ⟨(i : Int), (o : Int), (m : Int)⟩).length cq] (g := ta) (S := fun b => b = ta) rfl) TX.out)
        have AB := Lib.hid (AB.out.row #[.int .i64 0, .slice Aq (bytesP P ⟨(i : Int), (o : Int), (m : Int)⟩).length cq])
        have HP := Lib.hid BX.1
        have hS := Lib.hid (And.intro ((HP.out.po.head.cell 0).trans (show _ = some (.pointer (some ⟨gk, 0, none⟩)) from rfl)) BK.out)
        refine ⟨hS, ?_⟩
        clear BX
        (try simp only [Act.put, List.setIfInBounds_toArray, List.set_cons_zero, List.set_cons_succ])
        refine held_take (i := 17) (d := (some 8)) (v := ?_) rfl rfl (by kernel_rfl) (by kernel_rfl) (by kernel_rfl) (fun _ _ _ h => h) (by rfl) ?_ hS ?_
        rotate_left
        · intro w' hSw; (try dsimp only at hSw); go_simp <;> with_reducible rfl
        simp only [Act.put, List.setIfInBounds_toArray, List.set_cons_zero, List.set_cons_succ]
        refine wpAnyH_done (by kernel_rfl) ?_ _
        go_wp2
        go_meet
        exact ⟨_, _, rfl, rfl, _, _, 0, HP, LP, GP, AB, SQ⟩
      · go_simp
        obtain ⟨ta, hta⟩ : ∃ ta, W3.heap.size = ta := ⟨_, rfl⟩
        have BX := HP.out.box GP.out 75 #[.int .i64 0, .slice none 0 0]
        rw [show W3.drew.heap.size = ta from hta] at BX
        have TX := Lib.hid (show bx ≠ ta from by have := K3.out.lt; omega)
        have TG := Lib.hid (show ta ≠ g ∧ ta ≠ gs from ⟨by have h1 := H3.out.po.head.lt; omega, by obtain ⟨_, hb, _⟩ := H3.out.po.row; have := hb.lt; omega⟩)
        have LP := Lib.hid (LP.out.trans BX.2.1)
        have BK := Lib.hid (BK.out.alloc (.cells #[.int .i64 0, .slice none 0 0] 75))
        have BW := Lib.hid (BW.out.alloc BW.out.size (.cells #[.int .i64 0, .slice none 0 0] 75))
        have AB := Lib.hid BX.2.2
        have T9 := Lib.hid (show mark9 lab ta ta = 9 from by unfold mark9; rw [if_pos rfl])
        have HP := Lib.hid BX.1
        have GP := Lib.hid (show B ≤ (W3.drew.alloc (.cells #[.int .i64 0, .slice none 0 0] 75)).heap.size from Nat.le_trans GP.out BX.2.1.chg.size)
        have hS : Hid ((W3.drew.alloc (.cells #[.int .i64 0, .slice none 0 0] 75)).cell? ⟨g, 0, none⟩ = some (.pointer (some ⟨gk, 0, none⟩)) ∧ Blk (W3.drew.alloc (.cells #[.int .i64 0, .slice none 0 0] 75)) bx 90 #[.int .i64 (i : Int), .int .i64 (o : Int), .int .i64 (m : Int)]) := Lib.hid ⟨(HP.out.po.head.cell 0).trans rfl, BK.out⟩
        refine ⟨hS, ?_⟩
        rw [hta]
        clear BX
        (try simp only [Act.put, List.setIfInBounds_toArray, List.set_cons_zero, List.set_cons_succ])
        refine held_one (i := 11) (by kernel_rfl) rfl (by rfl) ?_
        go_simp
        have CK := Lib.hid (call_kb HP.out.kb GP.out 0 HQ.out.sm (by omega) (bare 4 1 (i : Int) (o : Int) (m : Int)) noX (bare_in _ _ _ _ _ _ _ (by omega)))
        rw [CR.out] at CK
        refine (show Calls _ _ _ _ _ from by have := CK.out; simp only [KQ.cells, bare, noX, List.length_nil] at this; exact this).mono ?_
        rintro e wq ⟨Aq, cq, rfl, labq, kq, lq, bq, sq, oq⟩
        have PQ := HP.out.po.step lq P.K
        have BK := Lib.hid (BK.out.chg lq.chg (fun e => by have z := ZX.out; have zz : mark9 lab ta bx = 0 := (by unfold mark9; rw [if_neg (by have := TX.out; omega)]; exact z); omega))
        have LP := Lib.hid (LP.out.trans (PStep.ofL lq))
        have GP := Lib.hid (show B ≤ wq.heap.size from Nat.le_trans GP.out lq.chg.size)
        have SQ := Lib.hid sq
        have OQ := Lib.hid oq
        have AB := Lib.hid (AB.out.chg lq.chg (fun e => by have h9 := T9.out; rw [h9] at e; omega))
        have T9 := Lib.hid (show labq ta = 9 from by rw [lq.keep ta (by rw [T9.out]; omega)]; exact T9.out)
        have HP := Lib.hid (show PB B wq labq g gk gs c P from ⟨kq, PQ⟩)
        have hS : Hid (wq.cell? ⟨g, 0, none⟩ = some (.pointer (some ⟨gk, 0, none⟩)) ∧ Blk wq bx 90 #[.int .i64 (i : Int), .int .i64 (o : Int), .int .i64 (m : Int)]) := Lib.hid ⟨(HP.out.po.head.cell 0).trans rfl, BK.out⟩
        refine ⟨hS, ?_⟩
        clear CK PQ kq lq bq sq oq BW
        (try simp only [Act.put, List.setIfInBounds_toArray, List.set_cons_zero, List.set_cons_succ])
        refine held_take (i := 12) (d := (some 31)) (v := ?_) rfl rfl (by kernel_rfl) (by kernel_rfl) (by kernel_rfl) (fun _ _ _ h => h) (by rfl) ?_ hS ?_
        rotate_left
        · intro w' hSw; (try dsimp only at hSw); go_simp <;> with_reducible rfl
        simp only [Act.put, List.setIfInBounds_toArray, List.set_cons_zero, List.set_cons_succ]
        refine held_take (i := 13) (d := (some 44)) (v := ?_) rfl rfl (by kernel_rfl) (by kernel_rfl) (by kernel_rfl) (fun _ _ _ h => h) (by rfl) ?_ hS ?_
        rotate_left
        · intro w' hSw; (try dsimp only at hSw); go_simp <;> with_reducible rfl
        simp only [Act.put, List.setIfInBounds_toArray, List.set_cons_zero, List.set_cons_succ]
        refine held_take (i := 14) (d := (some 45)) (v := ?_) rfl rfl (by kernel_rfl) (by kernel_rfl) (by kernel_rfl) (fun _ _ _ h => h) (by rfl) ?_ hS ?_
        rotate_left
        · intro w' hSw; (try dsimp only at hSw); go_simp <;> with_reducible rfl
        simp only [Act.put, List.setIfInBounds_toArray, List.set_cons_zero, List.set_cons_succ]
        refine held_one (i := 16) (by kernel_rfl) rfl (by rfl) ?_
        have SQ := Lib.hid (src_row SQ.out AB.out (by simp) #[.int .i64 0, .slice Aq (bytesP P ⟨(i : Int), (o : Int), (m : Int)⟩).length cq])
        refine wp_store_row_n rfl 75 (.tmp 7) (.tmp 44) rfl ta #[.int .i64 0, .slice Aq (bytesP P ⟨(i : Int), (o : Int), (m : Int)⟩).length cq] rfl rfl 75 _ AB.out ans_info rfl (by simp [Value.oneCell']) ?_
        have BX := HP.out.boxSet GP.out T9.out TG.out.1 TG.out.2 AB.out #[.int .i64 0, .slice Aq (bytesP P ⟨(i : Int), (o : Int), (m : Int)⟩).length cq]
        have LP := Lib.hid (LP.out.trans BX.2)
        have GP := Lib.hid (Nat.le_trans GP.out BX.2.chg.size)
        have BK := Lib.hid (BK.out.chg (Chg.setRow _ #[.int .i64 0, .slice Aq (bytesP P ⟨(i : Int), (o : Int), (m : Int)⟩).length cq] (g := ta) (S := fun b => b = ta) rfl) TX.out)
        have AB := Lib.hid (AB.out.row #[.int .i64 0, .slice Aq (bytesP P ⟨(i : Int), (o : Int), (m : Int)⟩).length cq])
        have HP := Lib.hid BX.1
        have hS := Lib.hid (And.intro ((HP.out.po.head.cell 0).trans (show _ = some (.pointer (some ⟨gk, 0, none⟩)) from rfl)) BK.out)
        refine ⟨hS, ?_⟩
        clear BX
        (try simp only [Act.put, List.setIfInBounds_toArray, List.set_cons_zero, List.set_cons_succ])
        refine held_take (i := 17) (d := (some 8)) (v := ?_) rfl rfl (by kernel_rfl) (by kernel_rfl) (by kernel_rfl) (fun _ _ _ h => h) (by rfl) ?_ hS ?_
        rotate_left
        · intro w' hSw; (try dsimp only at hSw); go_simp <;> with_reducible rfl
        simp only [Act.put, List.setIfInBounds_toArray, List.set_cons_zero, List.set_cons_succ]
        refine wpAnyH_done (by kernel_rfl) ?_ _
        go_wp2
        go_meet
        exact ⟨_, _, rfl, rfl, _, _, 0, HP, LP, GP, AB, SQ⟩
    case rest =>
      obtain ⟨ta, cq, rfl, rfl, Aq, lab', _, H4, L4, G4, A4, S4⟩ := hcut
      have L5 := Lib.hid (L3.out.trans L4.out)
      clear L3 L4 H3 K3 G3 CR
      have LB := Lib.hid RH.out.2
      generalize hby : bytesP P ⟨(i : Int), (o : Int), (m : Int)⟩ = by_ at *
      replace hby := Lib.hid hby
      have z1 := (A4.out.cell 1).trans (show _ = some (.slice Aq by_.length cq) from rfl)
      have PT := Lib.hid (fun (X : World) (hX : Bytes X Aq by_.length cq by_) => part_b Aq by_.length cq by_ X hX (by have := LB.out; omega))
      go_wp2_with fail
      refine (PT.out _ S4.out.toBytes).mono ?_; rintro e w6 ⟨rfl, b6⟩
      have H6 := Lib.hid (H4.out.new b6)
      have L6 := Lib.hid (L5.out.trans (PStep.news lab' b6))
      clear b6 H4 L5 A4 S4 z1
      go_wp2
      go_ret2
      exact ⟨by rw [hby.out]; rfl, lab', H6.out, L6.out⟩

end Go.Proofs.YthnpalcjfgbjeaaGreat.Ps
