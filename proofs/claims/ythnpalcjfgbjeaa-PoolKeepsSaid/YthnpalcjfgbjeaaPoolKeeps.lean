/- Whatever text and steps come in, 'pantlerlaw13.PoolKeeps' returns true. No condition. -/
import Derived.Test.YthnpalcjfgbjeaaPoZ
import Derived.Test.YthnpalcjfgbjeaaPqR
namespace Go.Proofs.Ythnpalcjfgbjeaa.poolKeeps
open Go.ChangeShapes Go.WideShapes Go.ChangeAt Go.RowKit Go.Deep Fr Di Ke Rk Gx Po Pq
set_option linter.unusedVariables false


set_option maxRecDepth 100000 in
set_option maxHeartbeats 8000000 in
theorem walk (w : World) (x : ByteArray) (wx : x.size ≤ maxLen) (A : Option Addr) (c' : Nat) (l : List PAct) (hr : RowG w 7 A l.length c' (l.flatMap PAct.cells)) (hin : ∀ a ∈ l, a.In) :
    Calls Try.prog 3 #[.string x, .slice A l.length c'] w fun e w' => e = .returned (.bool true) ∧ Below w.heap.size w w' := by
  obtain ⟨s, rfl⟩ := text_of x
  have hss : (⟨s.toArray⟩ : ByteArray).size = s.length := rfl
  have R0 := Lib.hid hr
  have IN := Lib.hid hin
  have AL := Lib.hid (fun W => Po.alive_any W)
  clear hr hin
  go_enter Try.func3, Try.ntmps3
  go_wp2_with fail
  refine (AL.out w).mono ?_; rintro e w1 ⟨rfl, b1⟩
  have B1 := Lib.hid b1
  have FA := Lib.hid (far_any A c' l w1 (R0.out.new b1))
  clear b1 AL
  go_wp2_with fail
  refine FA.out.mono ?_; rintro e w2 ⟨rfl, b2⟩
  have B2 := Lib.hid (B1.out.trans (b2.mono B1.out.size))
  have R2 := Lib.hid (R0.out.new (B1.out.trans (b2.mono B1.out.size)))
  have LO := Lib.hid (show ∀ a, A = some a → 0 < l.length → a.block < w.heap.size from fun a e h0 => (R0.out.at_ a e h0).2.1)
  clear b2 FA B1 R0
  cases hf : farB l with
  | true =>
    go_wp2
    go_ret
    exact ⟨rfl, B2.out⟩
  | false =>
  by_cases hs : (s.length : Int) > 256
  · go_wp2
    go_ret
    exact ⟨rfl, B2.out⟩
  have hs256 : s.length ≤ 256 := by omega
  have hl80 : l.length ≤ 80 := by
    unfold farB at hf
    simp at hf
    exact hf.1
  have HF := Lib.hid hf
  clear hf
  have NW := Lib.hid (new_kb 4 12 w2 (by omega) (by omega) (by omega) (by omega))
  go_wp2_with fail
  refine NW.out.mono ?_; rintro e w3 ⟨gk, lab1, rfl, k3, b3⟩
  have NP := Lib.hid (new_any 3 k3 b3.size (by omega) (by omega) (by omega))
  have B3 := Lib.hid b3
  have K3 := Lib.hid k3
  clear NW k3 b3
  go_wp2_with fail
  refine NP.out.mono ?_; rintro e w4 ⟨g, rfl, hg, gs, c, lab2, h4, l4⟩
  have B4 := Lib.hid (B3.out.trans (l4.chg.below B3.out.size (fun i hi => K3.out.ge i hi)))
  have H4 := Lib.hid h4
  clear NP K3 B3 h4 l4 hg
  obtain ⟨c5, w5, hconv, cs5, b5⟩ := conv_any ⟨s.toArray⟩ (by show s.length ≤ 1000000; omega) w4
  replace hconv : (convert 9 34 (.string ⟨s.toArray⟩)).run Try.prog w4 = .ok (.slice (some ⟨w4.heap.size, 0, none⟩) s.length c5) w5 := hconv
  have S5 := Lib.hid (show Src w5 (some ⟨w4.heap.size, 0, none⟩) s.length c5 s from cs5.src)
  have B5 := Lib.hid (B4.out.trans (b5.mono B4.out.size))
  have H5 := Lib.hid (H4.out.new b5)
  have Z5 := Lib.hid (show w4.heap.size < w5.heap.size ∧ lab2 w4.heap.size = 0 from ⟨cs5.lt, H4.out.kb.lab0 (Nat.le_refl _)⟩)
  have ST := Lib.hid (start_ki hs256)
  have CH := Lib.hid (head_any H5.out B5.out.size 0 (newAt_small 4 12 3) (by omega) (some ⟨w4.heap.size, 0, none⟩) s.length c5 s S5.out (fun b o e => by cases e; exact Z5.out) (by omega))
  rw [ST.out.1] at CH
  (try dsimp only at CH)
  obtain ⟨P1, hP1⟩ : ∃ P1, (headR (newP 4 12 3) s).1 = P1 := ⟨_, rfl⟩
  have KI1 := ST.out.2
  rw [hP1] at CH KI1
  have KI1 := Lib.hid KI1
  clear hP1 ST cs5 b5 B4 H4
  go_wp2_with fail
  refine CH.out.mono ?_; rintro e w6 ⟨lab6, rfl, h6, l6⟩
  have B6 := Lib.hid (B5.out.trans (PStep.below H5.out B5.out.size l6))
  have H6 := Lib.hid h6
  clear CH h6 l6 hconv S5 Z5 H5 B5
  obtain ⟨ad, had⟩ := H6.out.kb.ka
  have TA := Lib.hid (table_any had)
  have TB := Lib.hid ((had.head.cell 0).trans (show _ = some (.pointer (some ⟨ad.gt, 0, none⟩)) from rfl))
  clear had
  generalize ad.gt = gt at *
  go_wp2_with fail
  refine TA.out.mono ?_; rintro e wq ⟨rfl, rfl⟩
  clear TA
  have RR := Lib.hid (show Run w2.heap.size w2 wq lab6 g gk gs c gt P1 (staleB (l.take 0)) 1 s A c' l from ⟨H6.out, TB.out, KI1.out, R2.out.new B6.out, fun a e h0 => Nat.lt_of_lt_of_le (LO.out a e h0) B2.out.size, B6.out.size, B6.out⟩)
  clear H6 TB KI1 R2 LO B6
  go_upto_region 13 with fail
  go_loopw [12] (fun i wr => ∃ (j : Nat) (lab' : Nat → Nat) (P : Po), j ≤ l.length ∧ i = .int .i64 (j : Int) ∧ Hid (Run w2.heap.size w2 wr lab' g gk gs c gt P (staleB (l.take j)) (1 + j) s A c' l)) (fun i _ => l.length - (intOf i).toNat)
  case atStart => exact ⟨0, lab6, P1, Nat.zero_le _, rfl, RR⟩
  case round =>
    obtain ⟨j, lab', P, hj, rfl, RN⟩ := hrel
    clear RR
    by_cases hlt : j < l.length
    · have hlt' : (j : Int) < (l.length : Int) := by omega
      have j0 : (0 : Int) ≤ (j : Int) := by omega
      have xj := IntWalk.i64_in ((j : Int) + 1) (by omega)
      have NX := Lib.hid (fun b => stale_next hlt b)
      obtain ⟨b, o, rfl, hb, c0, c1, c2, c3, c4, c5, c6⟩ := act_at RN.out.ro hlt
      have SV := Lib.hid (far_len HF.out _ (List.getElem_mem hlt))
      have QI := Lib.hid (IN.out _ (List.getElem_mem hlt))
      generalize l[j] = q at *
      obtain ⟨kd, av, bv, ev, od, sv, Lv, nv, cv⟩ := q
      dsimp only at c0 c1 c2 c3 c4 c5 c6 SV
      have MONO := Lib.hid (show ∀ x, staleB (l.take j) x = true → staleB (l.take (j + 1)) x = true from fun x hx => by rw [NX.out, hx]; rfl)
      have ZA := Lib.hid (RN.out.pb.kb.lab0 (Nat.le_refl wr.heap.size))
      have LD := Lib.hid (show wr.rangeAt b (o + j * 7) [.int .i64 kd, .int .i64 av, .int .i64 bv, .int .i64 ev, .int .i64 od, .string ⟨sv.toArray⟩, .slice Lv nv cv] from fun k v hk => by
        match k, hk with
        | 0, hk => cases hk; exact c0
        | 1, hk => cases hk; exact c1
        | 2, hk => cases hk; exact c2
        | 3, hk => cases hk; exact c3
        | 4, hk => cases hk; exact c4
        | 5, hk => cases hk; exact c5
        | 6, hk => cases hk; exact c6)
      clear c0 c1 c2 c3 c4 c5 c6 hb
      obtain ⟨W, hW⟩ : ∃ W, wr.alloc (.cells #[.int .i64 kd, .int .i64 av, .int .i64 bv, .int .i64 ev, .int .i64 od, .string ⟨sv.toArray⟩, .slice Lv nv cv] 41) = W := ⟨_, rfl⟩
      have bw : Below wr.heap.size wr W := by rw [← hW]; exact (Below.refl _ wr).alloc (Nat.le_refl _) _
      have KA := Lib.hid (show Blk W wr.heap.size 41 #[.int .i64 kd, .int .i64 av, .int .i64 bv, .int .i64 ev, .int .i64 od, .string ⟨sv.toArray⟩, .slice Lv nv cv] from by rw [← hW]; exact Blk.new wr _ _)
      have RW := Lib.hid (RN.out.new bw)
      have HW := Lib.hid hW
      clear bw hW RN
      obtain ⟨ga, hga⟩ : ∃ ga, wr.heap.size = ga := ⟨_, rfl⟩
      rw [hga] at KA ZA
      have HGA := Lib.hid hga
      clear hga
      go_upto_block 2 with (refine wpList_load_mid rfl 41 (.tmp 59) rfl b (o + j * 7) rfl [.int .i64 kd, .int .i64 av, .int .i64 bv, .int .i64 ev, .int .i64 od, .string ⟨sv.toArray⟩, .slice Lv nv cv] _ LD.out Try.underlying41 rfl act_info ?_)
      rw [HW.out, HGA.out]
      clear LD HW
      go_cut [] (fun wx => ∃ (labx : Nat → Nat) (Px : Po), Hid (Run w2.heap.size w2 wx labx g gk gs c gt Px (staleB (l.take (j + 1))) (1 + (j + 1)) s (some ⟨b, o, none⟩) c' l))
      case first =>
        have xk := (KA.out.cell 0).trans (show _ = some (.int .i64 kd) from rfl)
        by_cases d0 : kd = 0
        · subst d0
          go_upto_region 18 with fail
          refine wp_region_held_drew (S := fun w' => Hid (Blk w' ga 41 #[.int .i64 0, .int .i64 av, .int .i64 bv, .int .i64 ev, .int .i64 od, .string ⟨sv.toArray⟩, .slice Lv nv cv])) (by kernel_rfl) ((Lib.hid (show Blk W.drew ga 41 #[.int .i64 0, .int .i64 av, .int .i64 bv, .int .i64 ev, .int .i64 od, .string ⟨sv.toArray⟩, .slice Lv nv cv] from KA.out.drewN 1))) (fun hS => ?_)
          refine held_take (i := 0) (d := (some 66)) (v := ?_) rfl rfl (by kernel_rfl) (by kernel_rfl) (by kernel_rfl) (fun _ _ _ h => h) (by rfl) ?_ hS ?_
          rotate_left
          · intro w' hSw; (try dsimp only at hSw); go_simp <;> with_reducible rfl
          simp only [Act.put, List.setIfInBounds_toArray, List.set_cons_zero, List.set_cons_succ]
          refine held_take (i := 1) (d := (some 67)) (v := ?_) rfl rfl (by kernel_rfl) (by kernel_rfl) (by kernel_rfl) (fun _ _ _ h => h) (by rfl) ?_ hS ?_
          rotate_left
          · intro w' hSw; (try dsimp only at hSw); go_simp <;> with_reducible rfl
          simp only [Act.put, List.setIfInBounds_toArray, List.set_cons_zero, List.set_cons_succ]
          refine held_take (i := 2) (d := (some 68)) (v := ?_) rfl rfl (by kernel_rfl) (by kernel_rfl) (by kernel_rfl) (fun _ _ _ h => h) (by rfl) ?_ hS ?_
          rotate_left
          · intro w' hSw; have z := (hSw.out.cell 1).trans (show _ = some (.int .i64 av) from rfl); clear hSw; go_simp <;> with_reducible rfl
          simp only [Act.put, List.setIfInBounds_toArray, List.set_cons_zero, List.set_cons_succ]
          refine held_take (i := 3) (d := (some 69)) (v := ?_) rfl rfl (by kernel_rfl) (by kernel_rfl) (by kernel_rfl) (fun _ _ _ h => h) (by rfl) ?_ hS ?_
          rotate_left
          · intro w' hSw; (try dsimp only at hSw); go_simp <;> with_reducible rfl
          simp only [Act.put, List.setIfInBounds_toArray, List.set_cons_zero, List.set_cons_succ]
          refine held_take (i := 4) (d := (some 70)) (v := ?_) rfl rfl (by kernel_rfl) (by kernel_rfl) (by kernel_rfl) (fun _ _ _ h => h) (by rfl) ?_ hS ?_
          rotate_left
          · intro w' hSw; have z := (hSw.out.cell 2).trans (show _ = some (.int .i64 bv) from rfl); clear hSw; go_simp <;> with_reducible rfl
          simp only [Act.put, List.setIfInBounds_toArray, List.set_cons_zero, List.set_cons_succ]
          refine held_take (i := 5) (d := (some 71)) (v := ?_) rfl rfl (by kernel_rfl) (by kernel_rfl) (by kernel_rfl) (fun _ _ _ h => h) (by rfl) ?_ hS ?_
          rotate_left
          · intro w' hSw; (try dsimp only at hSw); go_simp <;> with_reducible rfl
          simp only [Act.put, List.setIfInBounds_toArray, List.set_cons_zero, List.set_cons_succ]
          refine held_take (i := 6) (d := (some 72)) (v := ?_) rfl rfl (by kernel_rfl) (by kernel_rfl) (by kernel_rfl) (fun _ _ _ h => h) (by rfl) ?_ hS ?_
          rotate_left
          · intro w' hSw; have z3 := (hSw.out.cell 3).trans (show _ = some (.int .i64 ev) from rfl); have z4 := (hSw.out.cell 4).trans (show _ = some (.int .i64 od) from rfl); clear hSw; go_simp <;> with_reducible rfl
          simp only [Act.put, List.setIfInBounds_toArray, List.set_cons_zero, List.set_cons_succ]
          refine held_one (i := 7) (by kernel_rfl) rfl (by rfl) ?_
          go_simp
          refine (number_any ev od _).mono ?_; rintro e wn ⟨rfl, bn⟩
          have hS : Hid (Blk wn ga 41 #[.int .i64 0, .int .i64 av, .int .i64 bv, .int .i64 ev, .int .i64 od, .string ⟨sv.toArray⟩, .slice Lv nv cv]) := Lib.hid (hS.out.older (older_below bn))
          have RNN := Lib.hid (RW.out.new (show Below W.heap.size W wn from ((Below.refl W.heap.size W).drew).trans bn))
          clear bn
          refine ⟨hS, ?_⟩
          (try simp only [Act.put, List.setIfInBounds_toArray, List.set_cons_zero, List.set_cons_succ])
          refine held_one (i := 8) (by kernel_rfl) rfl (by rfl) ?_
          go_simp
          refine (get_any RNN.out.pb RNN.out.hB (1 + j) RNN.out.ki.sm (by omega) (RNN.out.few (by omega)).1 (RNN.out.few (by omega)).2 av bv _ _).mono ?_
          rintro e w3 ⟨lab3, rfl, h3, l3⟩
          have GK := get_ki RNN.out.ki RNN.out.pb.kb.ok av bv (floatOfInt .f64 ev) (floatOfInt .f64 od)
          have ZA3 := Lib.hid (l3.zero ZA.out hS.out.lt)
          have hS : Hid (Blk w3 ga 41 #[.int .i64 0, .int .i64 av, .int .i64 bv, .int .i64 ev, .int .i64 od, .string ⟨sv.toArray⟩, .slice Lv nv cv]) := Lib.hid (l3.blk hS.out ZA.out)
          have R3 := Lib.hid (RNN.out.step l3 h3 GK.1)
          have GK2 := Lib.hid GK.2
          clear GK h3 l3 RNN
          refine ⟨hS, ?_⟩
          (try simp only [Act.put, List.setIfInBounds_toArray, List.set_cons_zero, List.set_cons_succ])
          refine held_take (i := 9) (d := (some 65)) (v := ?_) rfl rfl (by kernel_rfl) (by kernel_rfl) (by kernel_rfl) (fun _ _ _ h => h) (by rfl) ?_ hS ?_
          rotate_left
          · intro w' hSw; (try dsimp only at hSw); go_simp <;> with_reducible rfl
          simp only [Act.put, List.setIfInBounds_toArray, List.set_cons_zero, List.set_cons_succ]
          refine held_take (i := 10) (d := (some 75)) (v := ?_) rfl rfl (by kernel_rfl) (by kernel_rfl) (by kernel_rfl) (fun _ _ _ h => h) (by rfl) ?_ hS ?_
          rotate_left
          · intro w' hSw; (try dsimp only at hSw); go_simp <;> with_reducible rfl
          simp only [Act.put, List.setIfInBounds_toArray, List.set_cons_zero, List.set_cons_succ]
          refine held_take (i := 11) (d := (some 76)) (v := ?_) rfl rfl (by kernel_rfl) (by kernel_rfl) (by kernel_rfl) (fun _ _ _ h => h) (by rfl) ?_ hS ?_
          rotate_left
          · intro w' hSw; (try dsimp only at hSw); go_simp <;> with_reducible rfl
          simp only [Act.put, List.setIfInBounds_toArray, List.set_cons_zero, List.set_cons_succ]
          refine held_take (i := 12) (d := (some 14)) (v := ?_) rfl rfl (by kernel_rfl) (by kernel_rfl) (by kernel_rfl) (fun _ _ _ h => h) (by rfl) ?_ hS ?_
          rotate_left
          · intro w' hSw; (try dsimp only at hSw); go_simp <;> with_reducible rfl
          simp only [Act.put, List.setIfInBounds_toArray, List.set_cons_zero, List.set_cons_succ]
          refine held_take (i := 13) (d := (some 15)) (v := ?_) rfl rfl (by kernel_rfl) (by kernel_rfl) (by kernel_rfl) (fun _ _ _ h => h) (by rfl) ?_ hS ?_
          rotate_left
          · intro w' hSw; (try dsimp only at hSw); go_simp <;> with_reducible rfl
          simp only [Act.put, List.setIfInBounds_toArray, List.set_cons_zero, List.set_cons_succ]
          refine wpAnyH_done (by kernel_rfl) ?_ _
          by_cases he : (getR P av bv (floatOfInt .f64 ev) (floatOfInt .f64 od)).2.2 = 0
          rotate_left
          · have he' : ((getR P av bv (floatOfInt .f64 ev) (floatOfInt .f64 od)).2.2 == 0) = false := by simpa using he
            have RF := Lib.hid (R3.out.up (st' := staleB (l.take (j + 1))) (M := 1 + (j + 1)) (by omega) MONO.out)
            clear R3 GK2 hS ZA3
            generalize (getR P av bv (floatOfInt .f64 ev) (floatOfInt .f64 od)).2.2 = er at *
            generalize (getR P av bv (floatOfInt .f64 ev) (floatOfInt .f64 od)).2.1 = fr at *
            go_wp2
            go_meet
            exact ⟨_, _, RF⟩
          obtain ⟨i, z, hi0, hi3, hif, hzs, hzk, hzb⟩ := GK2.out he
          rw [he, hif]
          have GQ := Lib.hid (R3.out.ki.sl i z hzs)
          generalize (getR P av bv (floatOfInt .f64 ev) (floatOfInt .f64 od)).1 = G at *
          clear he hif GK2
          obtain ⟨pg, hpg, hpl, hrd⟩ := read_at R3.out.ki hi3
          clear hpl
          have HA := GQ.out.bl hzk
          rw [hzb] at HA
          have TXT := Lib.hid (fun hst : staleB (l.take j) av = false => HA.2 hst pg hpg)
          have hrk : readR G.K.dk 1 av = (see G.K.dk av.toNat, 0) := by unfold Go.Proofs.Ythnpalcjfgbjeaa.readR; rw [if_pos HA.1]
          have HRK := Lib.hid hrk
          have I0 := Lib.hid (show ((i : Int) == 0) = false from by rw [beq_eq_false_iff_ne]; omega)
          clear HA hzs hzk hzb GQ hpg hrk
          obtain ⟨gt', htab⟩ := R3.out.tab
          have RD := Lib.hid (Ke.Rf.read_any htab 1 (i : Int) 0 256 (by omega))
          rw [hrd] at RD
          clear htab hrd
          go_wp2_with fail
          refine RD.out.mono ?_; rintro e w4 ⟨A4, c4, rfl, s4, b4⟩
          have R4 := Lib.hid (R3.out.new b4)
          have KA4 := Lib.hid (hS.out.older (older_below b4))
          have SA4 := Lib.hid s4.toSrc
          have OA4 := Lib.hid (show Off (on lab3) A4 pg.text.length from Fresh.off (w := w3) s4.fresh (fun k hk => Pq.KB.lt R3.out.pb.kb hk))
          have CC := Lib.hid (call_kb R4.out.pb.kb R4.out.hB (1 + j + 1) R4.out.ki.sm (by omega) (bare 6 1 av 0 0) noX (bare_in _ _ _ _ _ _ _ (by omega)))
          rw [show callR G.K (bare 6 1 av 0 0) = (G.K, 0, see G.K.dk av.toNat, 0) from by unfold Ke.bare; rw [callR_6 _ 1 (.inl rfl), HRK.out]] at CC
          (try dsimp only at CC)
          have z1 := (KA4.out.cell 1).trans (show _ = some (.int .i64 av) from rfl)
          clear RD hS R3 b4 s4
          go_wp2_with fail
          refine CC.out.mono ?_; rintro e w4b ⟨A6, c6, rfl, lab5, k5, l5, b5, s6, o6⟩
          obtain ⟨sq, hsq⟩ : ∃ sq, see G.K.dk av.toNat = sq := ⟨_, rfl⟩
          rw [hsq] at s6 TXT ⊢
          clear hsq
          have R4b := Lib.hid (show Run w2.heap.size w2 w4b lab5 g gk gs c gt G (staleB (l.take j)) (1 + j + 1) s (some ⟨b, o, none⟩) c' l from R4.out.call l5 k5 R4.out.ki)
          have KA4b := Lib.hid (l5.blk0 KA4.out ZA3.out)
          have SA4b := Lib.hid (Ke.Src.step SA4.out l5.step OA4.out)
          have SC4b := Lib.hid s6
          clear CC k5 l5 b5 s6 o6 R4 KA4 SA4 OA4 z1 ZA3 HRK
          have b6 : Below w4b.heap.size w4b (w4b.alloc (.cells #[.int .i64 0, .slice A6 sq.length c6] 48)) := (Below.refl _ w4b).alloc (Nat.le_refl _) _
          have KN5 := Lib.hid (Blk.new w4b 48 #[.int .i64 0, .slice A6 sq.length c6])
          have R5 := Lib.hid (R4b.out.new b6)
          have KA5 := Lib.hid (KA4b.out.older (older_below b6))
          have SA5 := Lib.hid (SA4b.out.below b6)
          have SC5 := Lib.hid (SC4b.out.below b6)
          clear b6 R4b KA4b SA4b SC4b
          go_upto_region 22 with fail
          generalize w4b.alloc (.cells #[.int .i64 0, .slice A6 sq.length c6] 48) = w5 at *
          generalize w4b.heap.size = gn at *
          have LT := Lib.hid (show (l.take j).length = j from by rw [List.length_take]; omega)
          have ST := Lib.hid (fun (X : World) (hx : RowG X 7 (some ⟨b, o, none⟩) l.length c' (l.flatMap PAct.cells)) => show Calls Try.prog 16 #[.slice (some ⟨b, o, none⟩) j c', .int .i64 av] X (fun e X' => e = .returned (.bool (staleB (l.take j) av)) ∧ X = X') from by
            have := stale_any (some ⟨b, o, none⟩) c' (l.take j) av X (rowG_front PAct.len hx (by omega)) (by rw [LT.out]; omega)
            rw [LT.out] at this
            exact this)
          by_cases hpn : pinsR G (i : Int) = 1
          rotate_left
          · have PN := Lib.hid (show ((pinsR G (i : Int) : Int) == 1) = false from by rw [beq_eq_false_iff_ne]; omega)
            refine wp_region_held_drew (S := fun w' => Hid (Below w5.heap.size w5 w')) (by kernel_rfl) ((Lib.hid ((Below.refl w5.heap.size w5).drew))) (fun hS => ?_)
            refine held_take (i := 0) (d := (some 93)) (v := ?_) rfl rfl (by kernel_rfl) (by kernel_rfl) (by kernel_rfl) (fun _ _ _ h => h) (by rfl) ?_ hS ?_
            rotate_left
            · intro w' hSw; (try dsimp only at hSw); go_simp <;> with_reducible rfl
            simp only [Act.put, List.setIfInBounds_toArray, List.set_cons_zero, List.set_cons_succ]
            refine held_take (i := 1) (d := (some 94)) (v := ?_) rfl rfl (by kernel_rfl) (by kernel_rfl) (by kernel_rfl) (fun _ _ _ h => h) (by rfl) ?_ hS ?_
            rotate_left
            · intro w' hSw; (try dsimp only at hSw); go_simp <;> with_reducible rfl
            simp only [Act.put, List.setIfInBounds_toArray, List.set_cons_zero, List.set_cons_succ]
            refine held_take (i := 2) (d := (some 95)) (v := ?_) rfl rfl (by kernel_rfl) (by kernel_rfl) (by kernel_rfl) (fun _ _ _ h => h) (by rfl) ?_ hS ?_
            rotate_left
            · intro w' hSw; clear hSw; have Ix := I0.out; go_simp <;> with_reducible rfl
            simp only [Act.put, List.setIfInBounds_toArray, List.set_cons_zero, List.set_cons_succ]
            refine held_take (i := 3) (d := (some 96)) (v := ?_) rfl rfl (by kernel_rfl) (by kernel_rfl) (by kernel_rfl) (fun _ _ _ h => h) (by rfl) ?_ hS ?_
            rotate_left
            · intro w' hSw; (try dsimp only at hSw); go_simp <;> with_reducible rfl
            simp only [Act.put, List.setIfInBounds_toArray, List.set_cons_zero, List.set_cons_succ]
            refine held_take (i := 4) (d := (some 97)) (v := ?_) rfl rfl (by kernel_rfl) (by kernel_rfl) (by kernel_rfl) (fun _ _ _ h => h) (by rfl) ?_ hS ?_
            rotate_left
            · intro w' hSw; (try dsimp only at hSw); go_simp <;> with_reducible rfl
            simp only [Act.put, List.setIfInBounds_toArray, List.set_cons_zero, List.set_cons_succ]
            refine held_take (i := 5) (d := (some 98)) (v := ?_) rfl rfl (by kernel_rfl) (by kernel_rfl) (by kernel_rfl) (fun _ _ _ h => h) (by rfl) ?_ hS ?_
            rotate_left
            · intro w' hSw; (try dsimp only at hSw); go_simp <;> with_reducible rfl
            simp only [Act.put, List.setIfInBounds_toArray, List.set_cons_zero, List.set_cons_succ]
            refine held_one (i := 6) (by kernel_rfl) rfl (by rfl) ?_
            go_simp
            refine (pins_any (R5.out.new hS.out).pb.po (i : Int)).mono ?_; rintro e wn ⟨rfl, bn⟩
            have hS : Hid (Below w5.heap.size w5 wn) := Lib.hid (hS.out.trans (bn.mono hS.out.size))
            clear bn
            refine ⟨hS, ?_⟩
            (try simp only [Act.put, List.setIfInBounds_toArray, List.set_cons_zero, List.set_cons_succ])
            refine held_take (i := 7) (d := (some 100)) (v := ?_) rfl rfl (by kernel_rfl) (by kernel_rfl) (by kernel_rfl) (fun _ _ _ h => h) (by rfl) ?_ hS ?_
            rotate_left
            · intro w' hSw; clear hSw; have PNx := PN.out; go_simp <;> with_reducible rfl
            simp only [Act.put, List.setIfInBounds_toArray, List.set_cons_zero, List.set_cons_succ]
            refine held_take (i := 8) (d := (some 101)) (v := ?_) rfl rfl (by kernel_rfl) (by kernel_rfl) (by kernel_rfl) (fun _ _ _ h => h) (by rfl) ?_ hS ?_
            rotate_left
            · intro w' hSw; (try dsimp only at hSw); go_simp <;> with_reducible rfl
            simp only [Act.put, List.setIfInBounds_toArray, List.set_cons_zero, List.set_cons_succ]
            refine held_skip (i := 9) (d := (some 102)) rfl rfl (by kernel_rfl) (by kernel_rfl) (by kernel_rfl) (fun _ _ _ h => h) (by rfl) hS ?_
            simp only [Act.put, List.setIfInBounds_toArray, List.set_cons_zero, List.set_cons_succ]
            refine held_skip (i := 10) (d := (some 103)) rfl rfl (by kernel_rfl) (by kernel_rfl) (by kernel_rfl) (fun _ _ _ h => h) (by rfl) hS ?_
            simp only [Act.put, List.setIfInBounds_toArray, List.set_cons_zero, List.set_cons_succ]
            refine held_skip (i := 11) (d := (some 104)) rfl rfl (by kernel_rfl) (by kernel_rfl) (by kernel_rfl) (fun _ _ _ h => h) (by rfl) hS ?_
            simp only [Act.put, List.setIfInBounds_toArray, List.set_cons_zero, List.set_cons_succ]
            refine held_take (i := 12) (d := (some 105)) (v := ?_) rfl rfl (by kernel_rfl) (by kernel_rfl) (by kernel_rfl) (fun _ _ _ h => h) (by rfl) ?_ hS ?_
            rotate_left
            · intro w' hSw; (try dsimp only at hSw); go_simp <;> with_reducible rfl
            simp only [Act.put, List.setIfInBounds_toArray, List.set_cons_zero, List.set_cons_succ]
            refine held_take (i := 13) (d := (some 106)) (v := ?_) rfl rfl (by kernel_rfl) (by kernel_rfl) (by kernel_rfl) (fun _ _ _ h => h) (by rfl) ?_ hS ?_
            rotate_left
            · intro w' hSw; (try dsimp only at hSw); go_simp <;> with_reducible rfl
            simp only [Act.put, List.setIfInBounds_toArray, List.set_cons_zero, List.set_cons_succ]
            refine held_skip (i := 14) (d := (some 107)) rfl rfl (by kernel_rfl) (by kernel_rfl) (by kernel_rfl) (fun _ _ _ h => h) (by rfl) hS ?_
            simp only [Act.put, List.setIfInBounds_toArray, List.set_cons_zero, List.set_cons_succ]
            refine held_skip (i := 15) (d := (some 108)) rfl rfl (by kernel_rfl) (by kernel_rfl) (by kernel_rfl) (fun _ _ _ h => h) (by rfl) hS ?_
            simp only [Act.put, List.setIfInBounds_toArray, List.set_cons_zero, List.set_cons_succ]
            refine held_skip (i := 16) (d := (some 109)) rfl rfl (by kernel_rfl) (by kernel_rfl) (by kernel_rfl) (fun _ _ _ h => h) (by rfl) hS ?_
            simp only [Act.put, List.setIfInBounds_toArray, List.set_cons_zero, List.set_cons_succ]
            refine held_skip (i := 17) (d := (some 110)) rfl rfl (by kernel_rfl) (by kernel_rfl) (by kernel_rfl) (fun _ _ _ h => h) (by rfl) hS ?_
            simp only [Act.put, List.setIfInBounds_toArray, List.set_cons_zero, List.set_cons_succ]
            refine held_skip (i := 18) (d := (some 111)) rfl rfl (by kernel_rfl) (by kernel_rfl) (by kernel_rfl) (fun _ _ _ h => h) (by rfl) hS ?_
            simp only [Act.put, List.setIfInBounds_toArray, List.set_cons_zero, List.set_cons_succ]
            refine held_skip (i := 19) (d := (some 112)) rfl rfl (by kernel_rfl) (by kernel_rfl) (by kernel_rfl) (fun _ _ _ h => h) (by rfl) hS ?_
            simp only [Act.put, List.setIfInBounds_toArray, List.set_cons_zero, List.set_cons_succ]
            refine held_take (i := 20) (d := (some 113)) (v := ?_) rfl rfl (by kernel_rfl) (by kernel_rfl) (by kernel_rfl) (fun _ _ _ h => h) (by rfl) ?_ hS ?_
            rotate_left
            · intro w' hSw; (try dsimp only at hSw); go_simp <;> with_reducible rfl
            simp only [Act.put, List.setIfInBounds_toArray, List.set_cons_zero, List.set_cons_succ]
            refine held_take (i := 21) (d := (some 114)) (v := ?_) rfl rfl (by kernel_rfl) (by kernel_rfl) (by kernel_rfl) (fun _ _ _ h => h) (by rfl) ?_ hS ?_
            rotate_left
            · intro w' hSw; (try dsimp only at hSw); go_simp <;> with_reducible rfl
            simp only [Act.put, List.setIfInBounds_toArray, List.set_cons_zero, List.set_cons_succ]
            refine held_skip (i := 22) (d := (some 115)) rfl rfl (by kernel_rfl) (by kernel_rfl) (by kernel_rfl) (fun _ _ _ h => h) (by rfl) hS ?_
            simp only [Act.put, List.setIfInBounds_toArray, List.set_cons_zero, List.set_cons_succ]
            refine held_skip (i := 23) (d := (some 116)) rfl rfl (by kernel_rfl) (by kernel_rfl) (by kernel_rfl) (fun _ _ _ h => h) (by rfl) hS ?_
            simp only [Act.put, List.setIfInBounds_toArray, List.set_cons_zero, List.set_cons_succ]
            refine held_skip (i := 24) (d := (some 117)) rfl rfl (by kernel_rfl) (by kernel_rfl) (by kernel_rfl) (fun _ _ _ h => h) (by rfl) hS ?_
            simp only [Act.put, List.setIfInBounds_toArray, List.set_cons_zero, List.set_cons_succ]
            refine held_skip (i := 25) (d := (some 118)) rfl rfl (by kernel_rfl) (by kernel_rfl) (by kernel_rfl) (fun _ _ _ h => h) (by rfl) hS ?_
            simp only [Act.put, List.setIfInBounds_toArray, List.set_cons_zero, List.set_cons_succ]
            refine held_skip (i := 26) (d := (some 119)) rfl rfl (by kernel_rfl) (by kernel_rfl) (by kernel_rfl) (fun _ _ _ h => h) (by rfl) hS ?_
            simp only [Act.put, List.setIfInBounds_toArray, List.set_cons_zero, List.set_cons_succ]
            refine held_skip (i := 27) (d := (some 120)) rfl rfl (by kernel_rfl) (by kernel_rfl) (by kernel_rfl) (fun _ _ _ h => h) (by rfl) hS ?_
            simp only [Act.put, List.setIfInBounds_toArray, List.set_cons_zero, List.set_cons_succ]
            refine held_skip (i := 28) (d := (some 121)) rfl rfl (by kernel_rfl) (by kernel_rfl) (by kernel_rfl) (fun _ _ _ h => h) (by rfl) hS ?_
            simp only [Act.put, List.setIfInBounds_toArray, List.set_cons_zero, List.set_cons_succ]
            refine held_take (i := 29) (d := (some 122)) (v := ?_) rfl rfl (by kernel_rfl) (by kernel_rfl) (by kernel_rfl) (fun _ _ _ h => h) (by rfl) ?_ hS ?_
            rotate_left
            · intro w' hSw; (try dsimp only at hSw); go_simp <;> with_reducible rfl
            simp only [Act.put, List.setIfInBounds_toArray, List.set_cons_zero, List.set_cons_succ]
            refine held_take (i := 30) (d := (some 123)) (v := ?_) rfl rfl (by kernel_rfl) (by kernel_rfl) (by kernel_rfl) (fun _ _ _ h => h) (by rfl) ?_ hS ?_
            rotate_left
            · intro w' hSw; (try dsimp only at hSw); go_simp <;> with_reducible rfl
            simp only [Act.put, List.setIfInBounds_toArray, List.set_cons_zero, List.set_cons_succ]
            refine wpAnyH_done (by kernel_rfl) ?_ _
            have RF := Lib.hid ((R5.out.new hS.out).up (st' := staleB (l.take (j + 1))) (M := 1 + (j + 1)) (by omega) MONO.out)
            clear hS R5
            go_wp2
            go_meet
            exact ⟨_, _, RF⟩
          have PN := Lib.hid (show (pinsR G (i : Int) : Int) = 1 from by omega)
          clear hpn
          by_cases hbv : bv > 0
          rotate_left
          · have PB := Lib.hid hbv
            refine wp_region_held_drew (S := fun w' => Hid (Below w5.heap.size w5 w')) (by kernel_rfl) ((Lib.hid ((Below.refl w5.heap.size w5).drew))) (fun hS => ?_)
            refine held_take (i := 0) (d := (some 93)) (v := ?_) rfl rfl (by kernel_rfl) (by kernel_rfl) (by kernel_rfl) (fun _ _ _ h => h) (by rfl) ?_ hS ?_
            rotate_left
            · intro w' hSw; (try dsimp only at hSw); go_simp <;> with_reducible rfl
            simp only [Act.put, List.setIfInBounds_toArray, List.set_cons_zero, List.set_cons_succ]
            refine held_take (i := 1) (d := (some 94)) (v := ?_) rfl rfl (by kernel_rfl) (by kernel_rfl) (by kernel_rfl) (fun _ _ _ h => h) (by rfl) ?_ hS ?_
            rotate_left
            · intro w' hSw; (try dsimp only at hSw); go_simp <;> with_reducible rfl
            simp only [Act.put, List.setIfInBounds_toArray, List.set_cons_zero, List.set_cons_succ]
            refine held_take (i := 2) (d := (some 95)) (v := ?_) rfl rfl (by kernel_rfl) (by kernel_rfl) (by kernel_rfl) (fun _ _ _ h => h) (by rfl) ?_ hS ?_
            rotate_left
            · intro w' hSw; clear hSw; have Ix := I0.out; go_simp <;> with_reducible rfl
            simp only [Act.put, List.setIfInBounds_toArray, List.set_cons_zero, List.set_cons_succ]
            refine held_take (i := 3) (d := (some 96)) (v := ?_) rfl rfl (by kernel_rfl) (by kernel_rfl) (by kernel_rfl) (fun _ _ _ h => h) (by rfl) ?_ hS ?_
            rotate_left
            · intro w' hSw; (try dsimp only at hSw); go_simp <;> with_reducible rfl
            simp only [Act.put, List.setIfInBounds_toArray, List.set_cons_zero, List.set_cons_succ]
            refine held_take (i := 4) (d := (some 97)) (v := ?_) rfl rfl (by kernel_rfl) (by kernel_rfl) (by kernel_rfl) (fun _ _ _ h => h) (by rfl) ?_ hS ?_
            rotate_left
            · intro w' hSw; (try dsimp only at hSw); go_simp <;> with_reducible rfl
            simp only [Act.put, List.setIfInBounds_toArray, List.set_cons_zero, List.set_cons_succ]
            refine held_take (i := 5) (d := (some 98)) (v := ?_) rfl rfl (by kernel_rfl) (by kernel_rfl) (by kernel_rfl) (fun _ _ _ h => h) (by rfl) ?_ hS ?_
            rotate_left
            · intro w' hSw; (try dsimp only at hSw); go_simp <;> with_reducible rfl
            simp only [Act.put, List.setIfInBounds_toArray, List.set_cons_zero, List.set_cons_succ]
            refine held_one (i := 6) (by kernel_rfl) rfl (by rfl) ?_
            go_simp
            refine (pins_any (R5.out.new hS.out).pb.po (i : Int)).mono ?_; rintro e wn ⟨rfl, bn⟩
            have hS : Hid (Below w5.heap.size w5 wn) := Lib.hid (hS.out.trans (bn.mono hS.out.size))
            clear bn
            refine ⟨hS, ?_⟩
            (try simp only [Act.put, List.setIfInBounds_toArray, List.set_cons_zero, List.set_cons_succ])
            refine held_take (i := 7) (d := (some 100)) (v := ?_) rfl rfl (by kernel_rfl) (by kernel_rfl) (by kernel_rfl) (fun _ _ _ h => h) (by rfl) ?_ hS ?_
            rotate_left
            · intro w' hSw; clear hSw; have PNx := PN.out; go_simp <;> with_reducible rfl
            simp only [Act.put, List.setIfInBounds_toArray, List.set_cons_zero, List.set_cons_succ]
            refine held_take (i := 8) (d := (some 101)) (v := ?_) rfl rfl (by kernel_rfl) (by kernel_rfl) (by kernel_rfl) (fun _ _ _ h => h) (by rfl) ?_ hS ?_
            rotate_left
            · intro w' hSw; (try dsimp only at hSw); go_simp <;> with_reducible rfl
            simp only [Act.put, List.setIfInBounds_toArray, List.set_cons_zero, List.set_cons_succ]
            refine held_take (i := 9) (d := (some 102)) (v := ?_) rfl rfl (by kernel_rfl) (by kernel_rfl) (by kernel_rfl) (fun _ _ _ h => h) (by rfl) ?_ hS ?_
            rotate_left
            · intro w' hSw; (try dsimp only at hSw); go_simp <;> with_reducible rfl
            simp only [Act.put, List.setIfInBounds_toArray, List.set_cons_zero, List.set_cons_succ]
            refine held_take (i := 10) (d := (some 103)) (v := ?_) rfl rfl (by kernel_rfl) (by kernel_rfl) (by kernel_rfl) (fun _ _ _ h => h) (by rfl) ?_ hS ?_
            rotate_left
            · intro w' hSw; have z := ((KA5.out.older (older_below hSw.out)).cell 2).trans (show _ = some (.int .i64 bv) from rfl); clear hSw; go_simp <;> with_reducible rfl
            simp only [Act.put, List.setIfInBounds_toArray, List.set_cons_zero, List.set_cons_succ]
            refine held_take (i := 11) (d := (some 104)) (v := ?_) rfl rfl (by kernel_rfl) (by kernel_rfl) (by kernel_rfl) (fun _ _ _ h => h) (by rfl) ?_ hS ?_
            rotate_left
            · intro w' hSw; clear hSw; have PBx := PB.out; go_simp <;> with_reducible rfl
            simp only [Act.put, List.setIfInBounds_toArray, List.set_cons_zero, List.set_cons_succ]
            refine held_take (i := 12) (d := (some 105)) (v := ?_) rfl rfl (by kernel_rfl) (by kernel_rfl) (by kernel_rfl) (fun _ _ _ h => h) (by rfl) ?_ hS ?_
            rotate_left
            · intro w' hSw; (try dsimp only at hSw); go_simp <;> with_reducible rfl
            simp only [Act.put, List.setIfInBounds_toArray, List.set_cons_zero, List.set_cons_succ]
            refine held_take (i := 13) (d := (some 106)) (v := ?_) rfl rfl (by kernel_rfl) (by kernel_rfl) (by kernel_rfl) (fun _ _ _ h => h) (by rfl) ?_ hS ?_
            rotate_left
            · intro w' hSw; (try dsimp only at hSw); go_simp <;> with_reducible rfl
            simp only [Act.put, List.setIfInBounds_toArray, List.set_cons_zero, List.set_cons_succ]
            refine held_skip (i := 14) (d := (some 107)) rfl rfl (by kernel_rfl) (by kernel_rfl) (by kernel_rfl) (fun _ _ _ h => h) (by rfl) hS ?_
            simp only [Act.put, List.setIfInBounds_toArray, List.set_cons_zero, List.set_cons_succ]
            refine held_skip (i := 15) (d := (some 108)) rfl rfl (by kernel_rfl) (by kernel_rfl) (by kernel_rfl) (fun _ _ _ h => h) (by rfl) hS ?_
            simp only [Act.put, List.setIfInBounds_toArray, List.set_cons_zero, List.set_cons_succ]
            refine held_skip (i := 16) (d := (some 109)) rfl rfl (by kernel_rfl) (by kernel_rfl) (by kernel_rfl) (fun _ _ _ h => h) (by rfl) hS ?_
            simp only [Act.put, List.setIfInBounds_toArray, List.set_cons_zero, List.set_cons_succ]
            refine held_skip (i := 17) (d := (some 110)) rfl rfl (by kernel_rfl) (by kernel_rfl) (by kernel_rfl) (fun _ _ _ h => h) (by rfl) hS ?_
            simp only [Act.put, List.setIfInBounds_toArray, List.set_cons_zero, List.set_cons_succ]
            refine held_skip (i := 18) (d := (some 111)) rfl rfl (by kernel_rfl) (by kernel_rfl) (by kernel_rfl) (fun _ _ _ h => h) (by rfl) hS ?_
            simp only [Act.put, List.setIfInBounds_toArray, List.set_cons_zero, List.set_cons_succ]
            refine held_skip (i := 19) (d := (some 112)) rfl rfl (by kernel_rfl) (by kernel_rfl) (by kernel_rfl) (fun _ _ _ h => h) (by rfl) hS ?_
            simp only [Act.put, List.setIfInBounds_toArray, List.set_cons_zero, List.set_cons_succ]
            refine held_take (i := 20) (d := (some 113)) (v := ?_) rfl rfl (by kernel_rfl) (by kernel_rfl) (by kernel_rfl) (fun _ _ _ h => h) (by rfl) ?_ hS ?_
            rotate_left
            · intro w' hSw; (try dsimp only at hSw); go_simp <;> with_reducible rfl
            simp only [Act.put, List.setIfInBounds_toArray, List.set_cons_zero, List.set_cons_succ]
            refine held_take (i := 21) (d := (some 114)) (v := ?_) rfl rfl (by kernel_rfl) (by kernel_rfl) (by kernel_rfl) (fun _ _ _ h => h) (by rfl) ?_ hS ?_
            rotate_left
            · intro w' hSw; (try dsimp only at hSw); go_simp <;> with_reducible rfl
            simp only [Act.put, List.setIfInBounds_toArray, List.set_cons_zero, List.set_cons_succ]
            refine held_skip (i := 22) (d := (some 115)) rfl rfl (by kernel_rfl) (by kernel_rfl) (by kernel_rfl) (fun _ _ _ h => h) (by rfl) hS ?_
            simp only [Act.put, List.setIfInBounds_toArray, List.set_cons_zero, List.set_cons_succ]
            refine held_skip (i := 23) (d := (some 116)) rfl rfl (by kernel_rfl) (by kernel_rfl) (by kernel_rfl) (fun _ _ _ h => h) (by rfl) hS ?_
            simp only [Act.put, List.setIfInBounds_toArray, List.set_cons_zero, List.set_cons_succ]
            refine held_skip (i := 24) (d := (some 117)) rfl rfl (by kernel_rfl) (by kernel_rfl) (by kernel_rfl) (fun _ _ _ h => h) (by rfl) hS ?_
            simp only [Act.put, List.setIfInBounds_toArray, List.set_cons_zero, List.set_cons_succ]
            refine held_skip (i := 25) (d := (some 118)) rfl rfl (by kernel_rfl) (by kernel_rfl) (by kernel_rfl) (fun _ _ _ h => h) (by rfl) hS ?_
            simp only [Act.put, List.setIfInBounds_toArray, List.set_cons_zero, List.set_cons_succ]
            refine held_skip (i := 26) (d := (some 119)) rfl rfl (by kernel_rfl) (by kernel_rfl) (by kernel_rfl) (fun _ _ _ h => h) (by rfl) hS ?_
            simp only [Act.put, List.setIfInBounds_toArray, List.set_cons_zero, List.set_cons_succ]
            refine held_skip (i := 27) (d := (some 120)) rfl rfl (by kernel_rfl) (by kernel_rfl) (by kernel_rfl) (fun _ _ _ h => h) (by rfl) hS ?_
            simp only [Act.put, List.setIfInBounds_toArray, List.set_cons_zero, List.set_cons_succ]
            refine held_skip (i := 28) (d := (some 121)) rfl rfl (by kernel_rfl) (by kernel_rfl) (by kernel_rfl) (fun _ _ _ h => h) (by rfl) hS ?_
            simp only [Act.put, List.setIfInBounds_toArray, List.set_cons_zero, List.set_cons_succ]
            refine held_take (i := 29) (d := (some 122)) (v := ?_) rfl rfl (by kernel_rfl) (by kernel_rfl) (by kernel_rfl) (fun _ _ _ h => h) (by rfl) ?_ hS ?_
            rotate_left
            · intro w' hSw; (try dsimp only at hSw); go_simp <;> with_reducible rfl
            simp only [Act.put, List.setIfInBounds_toArray, List.set_cons_zero, List.set_cons_succ]
            refine held_take (i := 30) (d := (some 123)) (v := ?_) rfl rfl (by kernel_rfl) (by kernel_rfl) (by kernel_rfl) (fun _ _ _ h => h) (by rfl) ?_ hS ?_
            rotate_left
            · intro w' hSw; (try dsimp only at hSw); go_simp <;> with_reducible rfl
            simp only [Act.put, List.setIfInBounds_toArray, List.set_cons_zero, List.set_cons_succ]
            refine wpAnyH_done (by kernel_rfl) ?_ _
            have RF := Lib.hid ((R5.out.new hS.out).up (st' := staleB (l.take (j + 1))) (M := 1 + (j + 1)) (by omega) MONO.out)
            clear hS R5
            go_wp2
            go_meet
            exact ⟨_, _, RF⟩
          have PB := Lib.hid hbv
          clear hbv
          by_cases htx : pg.text = sq
          · subst htx
            have PE := Lib.hid (show True from trivial)
            refine wp_region_held_drew (S := fun w' => Hid (Below w5.heap.size w5 w')) (by kernel_rfl) ((Lib.hid ((Below.refl w5.heap.size w5).drew))) (fun hS => ?_)
            refine held_take (i := 0) (d := (some 93)) (v := ?_) rfl rfl (by kernel_rfl) (by kernel_rfl) (by kernel_rfl) (fun _ _ _ h => h) (by rfl) ?_ hS ?_
            rotate_left
            · intro w' hSw; (try dsimp only at hSw); go_simp <;> with_reducible rfl
            simp only [Act.put, List.setIfInBounds_toArray, List.set_cons_zero, List.set_cons_succ]
            refine held_take (i := 1) (d := (some 94)) (v := ?_) rfl rfl (by kernel_rfl) (by kernel_rfl) (by kernel_rfl) (fun _ _ _ h => h) (by rfl) ?_ hS ?_
            rotate_left
            · intro w' hSw; (try dsimp only at hSw); go_simp <;> with_reducible rfl
            simp only [Act.put, List.setIfInBounds_toArray, List.set_cons_zero, List.set_cons_succ]
            refine held_take (i := 2) (d := (some 95)) (v := ?_) rfl rfl (by kernel_rfl) (by kernel_rfl) (by kernel_rfl) (fun _ _ _ h => h) (by rfl) ?_ hS ?_
            rotate_left
            · intro w' hSw; clear hSw; have Ix := I0.out; go_simp <;> with_reducible rfl
            simp only [Act.put, List.setIfInBounds_toArray, List.set_cons_zero, List.set_cons_succ]
            refine held_take (i := 3) (d := (some 96)) (v := ?_) rfl rfl (by kernel_rfl) (by kernel_rfl) (by kernel_rfl) (fun _ _ _ h => h) (by rfl) ?_ hS ?_
            rotate_left
            · intro w' hSw; (try dsimp only at hSw); go_simp <;> with_reducible rfl
            simp only [Act.put, List.setIfInBounds_toArray, List.set_cons_zero, List.set_cons_succ]
            refine held_take (i := 4) (d := (some 97)) (v := ?_) rfl rfl (by kernel_rfl) (by kernel_rfl) (by kernel_rfl) (fun _ _ _ h => h) (by rfl) ?_ hS ?_
            rotate_left
            · intro w' hSw; (try dsimp only at hSw); go_simp <;> with_reducible rfl
            simp only [Act.put, List.setIfInBounds_toArray, List.set_cons_zero, List.set_cons_succ]
            refine held_take (i := 5) (d := (some 98)) (v := ?_) rfl rfl (by kernel_rfl) (by kernel_rfl) (by kernel_rfl) (fun _ _ _ h => h) (by rfl) ?_ hS ?_
            rotate_left
            · intro w' hSw; (try dsimp only at hSw); go_simp <;> with_reducible rfl
            simp only [Act.put, List.setIfInBounds_toArray, List.set_cons_zero, List.set_cons_succ]
            refine held_one (i := 6) (by kernel_rfl) rfl (by rfl) ?_
            go_simp
            refine (pins_any (R5.out.new hS.out).pb.po (i : Int)).mono ?_; rintro e wn ⟨rfl, bn⟩
            have hS : Hid (Below w5.heap.size w5 wn) := Lib.hid (hS.out.trans (bn.mono hS.out.size))
            clear bn
            refine ⟨hS, ?_⟩
            (try simp only [Act.put, List.setIfInBounds_toArray, List.set_cons_zero, List.set_cons_succ])
            refine held_take (i := 7) (d := (some 100)) (v := ?_) rfl rfl (by kernel_rfl) (by kernel_rfl) (by kernel_rfl) (fun _ _ _ h => h) (by rfl) ?_ hS ?_
            rotate_left
            · intro w' hSw; clear hSw; have PNx := PN.out; go_simp <;> with_reducible rfl
            simp only [Act.put, List.setIfInBounds_toArray, List.set_cons_zero, List.set_cons_succ]
            refine held_take (i := 8) (d := (some 101)) (v := ?_) rfl rfl (by kernel_rfl) (by kernel_rfl) (by kernel_rfl) (fun _ _ _ h => h) (by rfl) ?_ hS ?_
            rotate_left
            · intro w' hSw; (try dsimp only at hSw); go_simp <;> with_reducible rfl
            simp only [Act.put, List.setIfInBounds_toArray, List.set_cons_zero, List.set_cons_succ]
            refine held_take (i := 9) (d := (some 102)) (v := ?_) rfl rfl (by kernel_rfl) (by kernel_rfl) (by kernel_rfl) (fun _ _ _ h => h) (by rfl) ?_ hS ?_
            rotate_left
            · intro w' hSw; (try dsimp only at hSw); go_simp <;> with_reducible rfl
            simp only [Act.put, List.setIfInBounds_toArray, List.set_cons_zero, List.set_cons_succ]
            refine held_take (i := 10) (d := (some 103)) (v := ?_) rfl rfl (by kernel_rfl) (by kernel_rfl) (by kernel_rfl) (fun _ _ _ h => h) (by rfl) ?_ hS ?_
            rotate_left
            · intro w' hSw; have z := ((KA5.out.older (older_below hSw.out)).cell 2).trans (show _ = some (.int .i64 bv) from rfl); clear hSw; go_simp <;> with_reducible rfl
            simp only [Act.put, List.setIfInBounds_toArray, List.set_cons_zero, List.set_cons_succ]
            refine held_take (i := 11) (d := (some 104)) (v := ?_) rfl rfl (by kernel_rfl) (by kernel_rfl) (by kernel_rfl) (fun _ _ _ h => h) (by rfl) ?_ hS ?_
            rotate_left
            · intro w' hSw; clear hSw; have PBx := PB.out; go_simp <;> with_reducible rfl
            simp only [Act.put, List.setIfInBounds_toArray, List.set_cons_zero, List.set_cons_succ]
            refine held_take (i := 12) (d := (some 105)) (v := ?_) rfl rfl (by kernel_rfl) (by kernel_rfl) (by kernel_rfl) (fun _ _ _ h => h) (by rfl) ?_ hS ?_
            rotate_left
            · intro w' hSw; (try dsimp only at hSw); go_simp <;> with_reducible rfl
            simp only [Act.put, List.setIfInBounds_toArray, List.set_cons_zero, List.set_cons_succ]
            refine held_take (i := 13) (d := (some 106)) (v := ?_) rfl rfl (by kernel_rfl) (by kernel_rfl) (by kernel_rfl) (fun _ _ _ h => h) (by rfl) ?_ hS ?_
            rotate_left
            · intro w' hSw; (try dsimp only at hSw); go_simp <;> with_reducible rfl
            simp only [Act.put, List.setIfInBounds_toArray, List.set_cons_zero, List.set_cons_succ]
            refine held_take (i := 14) (d := (some 107)) (v := ?_) rfl rfl (by kernel_rfl) (by kernel_rfl) (by kernel_rfl) (fun _ _ _ h => h) (by rfl) ?_ hS ?_
            rotate_left
            · intro w' hSw; (try dsimp only at hSw); go_simp <;> with_reducible rfl
            simp only [Act.put, List.setIfInBounds_toArray, List.set_cons_zero, List.set_cons_succ]
            refine held_take (i := 15) (d := (some 108)) (v := ?_) rfl rfl (by kernel_rfl) (by kernel_rfl) (by kernel_rfl) (fun _ _ _ h => h) (by rfl) ?_ hS ?_
            rotate_left
            · intro w' hSw; have TY := Di.told_str (SA5.out.below hSw.out); clear hSw; go_simp <;> with_reducible rfl
            simp only [Act.put, List.setIfInBounds_toArray, List.set_cons_zero, List.set_cons_succ]
            refine held_take (i := 16) (d := (some 109)) (v := ?_) rfl rfl (by kernel_rfl) (by kernel_rfl) (by kernel_rfl) (fun _ _ _ h => h) (by rfl) ?_ hS ?_
            rotate_left
            · intro w' hSw; (try dsimp only at hSw); go_simp <;> with_reducible rfl
            simp only [Act.put, List.setIfInBounds_toArray, List.set_cons_zero, List.set_cons_succ]
            refine held_take (i := 17) (d := (some 110)) (v := ?_) rfl rfl (by kernel_rfl) (by kernel_rfl) (by kernel_rfl) (fun _ _ _ h => h) (by rfl) ?_ hS ?_
            rotate_left
            · intro w' hSw; have z := ((KN5.out.older (older_below hSw.out)).cell 1).trans (show _ = some (.slice A6 pg.text.length c6) from rfl); clear hSw; go_simp <;> with_reducible rfl
            simp only [Act.put, List.setIfInBounds_toArray, List.set_cons_zero, List.set_cons_succ]
            refine held_take (i := 18) (d := (some 111)) (v := ?_) rfl rfl (by kernel_rfl) (by kernel_rfl) (by kernel_rfl) (fun _ _ _ h => h) (by rfl) ?_ hS ?_
            rotate_left
            · intro w' hSw; have TY := Di.told_str (SC5.out.below hSw.out); clear hSw; go_simp <;> with_reducible rfl
            simp only [Act.put, List.setIfInBounds_toArray, List.set_cons_zero, List.set_cons_succ]
            refine held_take (i := 19) (d := (some 112)) (v := ?_) rfl rfl (by kernel_rfl) (by kernel_rfl) (by kernel_rfl) (fun _ _ _ h => h) (by rfl) ?_ hS ?_
            rotate_left
            · intro w' hSw; clear hSw; have PEx := PE.out; go_simp <;> with_reducible rfl
            simp only [Act.put, List.setIfInBounds_toArray, List.set_cons_zero, List.set_cons_succ]
            refine held_take (i := 20) (d := (some 113)) (v := ?_) rfl rfl (by kernel_rfl) (by kernel_rfl) (by kernel_rfl) (fun _ _ _ h => h) (by rfl) ?_ hS ?_
            rotate_left
            · intro w' hSw; (try dsimp only at hSw); go_simp <;> with_reducible rfl
            simp only [Act.put, List.setIfInBounds_toArray, List.set_cons_zero, List.set_cons_succ]
            refine held_take (i := 21) (d := (some 114)) (v := ?_) rfl rfl (by kernel_rfl) (by kernel_rfl) (by kernel_rfl) (fun _ _ _ h => h) (by rfl) ?_ hS ?_
            rotate_left
            · intro w' hSw; (try dsimp only at hSw); go_simp <;> with_reducible rfl
            simp only [Act.put, List.setIfInBounds_toArray, List.set_cons_zero, List.set_cons_succ]
            refine held_skip (i := 22) (d := (some 115)) rfl rfl (by kernel_rfl) (by kernel_rfl) (by kernel_rfl) (fun _ _ _ h => h) (by rfl) hS ?_
            simp only [Act.put, List.setIfInBounds_toArray, List.set_cons_zero, List.set_cons_succ]
            refine held_skip (i := 23) (d := (some 116)) rfl rfl (by kernel_rfl) (by kernel_rfl) (by kernel_rfl) (fun _ _ _ h => h) (by rfl) hS ?_
            simp only [Act.put, List.setIfInBounds_toArray, List.set_cons_zero, List.set_cons_succ]
            refine held_skip (i := 24) (d := (some 117)) rfl rfl (by kernel_rfl) (by kernel_rfl) (by kernel_rfl) (fun _ _ _ h => h) (by rfl) hS ?_
            simp only [Act.put, List.setIfInBounds_toArray, List.set_cons_zero, List.set_cons_succ]
            refine held_skip (i := 25) (d := (some 118)) rfl rfl (by kernel_rfl) (by kernel_rfl) (by kernel_rfl) (fun _ _ _ h => h) (by rfl) hS ?_
            simp only [Act.put, List.setIfInBounds_toArray, List.set_cons_zero, List.set_cons_succ]
            refine held_skip (i := 26) (d := (some 119)) rfl rfl (by kernel_rfl) (by kernel_rfl) (by kernel_rfl) (fun _ _ _ h => h) (by rfl) hS ?_
            simp only [Act.put, List.setIfInBounds_toArray, List.set_cons_zero, List.set_cons_succ]
            refine held_skip (i := 27) (d := (some 120)) rfl rfl (by kernel_rfl) (by kernel_rfl) (by kernel_rfl) (fun _ _ _ h => h) (by rfl) hS ?_
            simp only [Act.put, List.setIfInBounds_toArray, List.set_cons_zero, List.set_cons_succ]
            refine held_skip (i := 28) (d := (some 121)) rfl rfl (by kernel_rfl) (by kernel_rfl) (by kernel_rfl) (fun _ _ _ h => h) (by rfl) hS ?_
            simp only [Act.put, List.setIfInBounds_toArray, List.set_cons_zero, List.set_cons_succ]
            refine held_take (i := 29) (d := (some 122)) (v := ?_) rfl rfl (by kernel_rfl) (by kernel_rfl) (by kernel_rfl) (fun _ _ _ h => h) (by rfl) ?_ hS ?_
            rotate_left
            · intro w' hSw; (try dsimp only at hSw); go_simp <;> with_reducible rfl
            simp only [Act.put, List.setIfInBounds_toArray, List.set_cons_zero, List.set_cons_succ]
            refine held_take (i := 30) (d := (some 123)) (v := ?_) rfl rfl (by kernel_rfl) (by kernel_rfl) (by kernel_rfl) (fun _ _ _ h => h) (by rfl) ?_ hS ?_
            rotate_left
            · intro w' hSw; (try dsimp only at hSw); go_simp <;> with_reducible rfl
            simp only [Act.put, List.setIfInBounds_toArray, List.set_cons_zero, List.set_cons_succ]
            refine wpAnyH_done (by kernel_rfl) ?_ _
            have RF := Lib.hid ((R5.out.new hS.out).up (st' := staleB (l.take (j + 1))) (M := 1 + (j + 1)) (by omega) MONO.out)
            clear hS R5
            go_wp2
            go_meet
            exact ⟨_, _, RF⟩
          have hst : staleB (l.take j) av = true := by
            cases e : staleB (l.take j) av with
            | true => rfl
            | false => exact absurd (TXT.out e) htx
          rw [hst] at ST
          have PE := Lib.hid (show (pg.text == sq) = false from by rw [beq_eq_false_iff_ne]; exact htx)
          have PSL := Lib.hid (fun X => run_front_acts (some ⟨b, o, none⟩) c' l.length j (by omega) R5.out.ro.cap X)
          refine wp_region_held_drew (S := fun w' => Hid (Below w5.heap.size w5 w')) (by kernel_rfl) ((Lib.hid ((Below.refl w5.heap.size w5).drew))) (fun hS => ?_)
          refine held_take (i := 0) (d := (some 93)) (v := ?_) rfl rfl (by kernel_rfl) (by kernel_rfl) (by kernel_rfl) (fun _ _ _ h => h) (by rfl) ?_ hS ?_
          rotate_left
          · intro w' hSw; (try dsimp only at hSw); go_simp <;> with_reducible rfl
          simp only [Act.put, List.setIfInBounds_toArray, List.set_cons_zero, List.set_cons_succ]
          refine held_take (i := 1) (d := (some 94)) (v := ?_) rfl rfl (by kernel_rfl) (by kernel_rfl) (by kernel_rfl) (fun _ _ _ h => h) (by rfl) ?_ hS ?_
          rotate_left
          · intro w' hSw; (try dsimp only at hSw); go_simp <;> with_reducible rfl
          simp only [Act.put, List.setIfInBounds_toArray, List.set_cons_zero, List.set_cons_succ]
          refine held_take (i := 2) (d := (some 95)) (v := ?_) rfl rfl (by kernel_rfl) (by kernel_rfl) (by kernel_rfl) (fun _ _ _ h => h) (by rfl) ?_ hS ?_
          rotate_left
          · intro w' hSw; clear hSw; have Ix := I0.out; go_simp <;> with_reducible rfl
          simp only [Act.put, List.setIfInBounds_toArray, List.set_cons_zero, List.set_cons_succ]
          refine held_take (i := 3) (d := (some 96)) (v := ?_) rfl rfl (by kernel_rfl) (by kernel_rfl) (by kernel_rfl) (fun _ _ _ h => h) (by rfl) ?_ hS ?_
          rotate_left
          · intro w' hSw; (try dsimp only at hSw); go_simp <;> with_reducible rfl
          simp only [Act.put, List.setIfInBounds_toArray, List.set_cons_zero, List.set_cons_succ]
          refine held_take (i := 4) (d := (some 97)) (v := ?_) rfl rfl (by kernel_rfl) (by kernel_rfl) (by kernel_rfl) (fun _ _ _ h => h) (by rfl) ?_ hS ?_
          rotate_left
          · intro w' hSw; (try dsimp only at hSw); go_simp <;> with_reducible rfl
          simp only [Act.put, List.setIfInBounds_toArray, List.set_cons_zero, List.set_cons_succ]
          refine held_take (i := 5) (d := (some 98)) (v := ?_) rfl rfl (by kernel_rfl) (by kernel_rfl) (by kernel_rfl) (fun _ _ _ h => h) (by rfl) ?_ hS ?_
          rotate_left
          · intro w' hSw; (try dsimp only at hSw); go_simp <;> with_reducible rfl
          simp only [Act.put, List.setIfInBounds_toArray, List.set_cons_zero, List.set_cons_succ]
          refine held_one (i := 6) (by kernel_rfl) rfl (by rfl) ?_
          go_simp
          refine (pins_any (R5.out.new hS.out).pb.po (i : Int)).mono ?_; rintro e wn ⟨rfl, bn⟩
          have hS : Hid (Below w5.heap.size w5 wn) := Lib.hid (hS.out.trans (bn.mono hS.out.size))
          clear bn
          refine ⟨hS, ?_⟩
          (try simp only [Act.put, List.setIfInBounds_toArray, List.set_cons_zero, List.set_cons_succ])
          refine held_take (i := 7) (d := (some 100)) (v := ?_) rfl rfl (by kernel_rfl) (by kernel_rfl) (by kernel_rfl) (fun _ _ _ h => h) (by rfl) ?_ hS ?_
          rotate_left
          · intro w' hSw; clear hSw; have PNx := PN.out; go_simp <;> with_reducible rfl
          simp only [Act.put, List.setIfInBounds_toArray, List.set_cons_zero, List.set_cons_succ]
          refine held_take (i := 8) (d := (some 101)) (v := ?_) rfl rfl (by kernel_rfl) (by kernel_rfl) (by kernel_rfl) (fun _ _ _ h => h) (by rfl) ?_ hS ?_
          rotate_left
          · intro w' hSw; (try dsimp only at hSw); go_simp <;> with_reducible rfl
          simp only [Act.put, List.setIfInBounds_toArray, List.set_cons_zero, List.set_cons_succ]
          refine held_take (i := 9) (d := (some 102)) (v := ?_) rfl rfl (by kernel_rfl) (by kernel_rfl) (by kernel_rfl) (fun _ _ _ h => h) (by rfl) ?_ hS ?_
          rotate_left
          · intro w' hSw; (try dsimp only at hSw); go_simp <;> with_reducible rfl
          simp only [Act.put, List.setIfInBounds_toArray, List.set_cons_zero, List.set_cons_succ]
          refine held_take (i := 10) (d := (some 103)) (v := ?_) rfl rfl (by kernel_rfl) (by kernel_rfl) (by kernel_rfl) (fun _ _ _ h => h) (by rfl) ?_ hS ?_
          rotate_left
          · intro w' hSw; have z := ((KA5.out.older (older_below hSw.out)).cell 2).trans (show _ = some (.int .i64 bv) from rfl); clear hSw; go_simp <;> with_reducible rfl
          simp only [Act.put, List.setIfInBounds_toArray, List.set_cons_zero, List.set_cons_succ]
          refine held_take (i := 11) (d := (some 104)) (v := ?_) rfl rfl (by kernel_rfl) (by kernel_rfl) (by kernel_rfl) (fun _ _ _ h => h) (by rfl) ?_ hS ?_
          rotate_left
          · intro w' hSw; clear hSw; have PBx := PB.out; go_simp <;> with_reducible rfl
          simp only [Act.put, List.setIfInBounds_toArray, List.set_cons_zero, List.set_cons_succ]
          refine held_take (i := 12) (d := (some 105)) (v := ?_) rfl rfl (by kernel_rfl) (by kernel_rfl) (by kernel_rfl) (fun _ _ _ h => h) (by rfl) ?_ hS ?_
          rotate_left
          · intro w' hSw; (try dsimp only at hSw); go_simp <;> with_reducible rfl
          simp only [Act.put, List.setIfInBounds_toArray, List.set_cons_zero, List.set_cons_succ]
          refine held_take (i := 13) (d := (some 106)) (v := ?_) rfl rfl (by kernel_rfl) (by kernel_rfl) (by kernel_rfl) (fun _ _ _ h => h) (by rfl) ?_ hS ?_
          rotate_left
          · intro w' hSw; (try dsimp only at hSw); go_simp <;> with_reducible rfl
          simp only [Act.put, List.setIfInBounds_toArray, List.set_cons_zero, List.set_cons_succ]
          refine held_take (i := 14) (d := (some 107)) (v := ?_) rfl rfl (by kernel_rfl) (by kernel_rfl) (by kernel_rfl) (fun _ _ _ h => h) (by rfl) ?_ hS ?_
          rotate_left
          · intro w' hSw; (try dsimp only at hSw); go_simp <;> with_reducible rfl
          simp only [Act.put, List.setIfInBounds_toArray, List.set_cons_zero, List.set_cons_succ]
          refine held_take (i := 15) (d := (some 108)) (v := ?_) rfl rfl (by kernel_rfl) (by kernel_rfl) (by kernel_rfl) (fun _ _ _ h => h) (by rfl) ?_ hS ?_
          rotate_left
          · intro w' hSw; have TY := Di.told_str (SA5.out.below hSw.out); clear hSw; go_simp <;> with_reducible rfl
          simp only [Act.put, List.setIfInBounds_toArray, List.set_cons_zero, List.set_cons_succ]
          refine held_take (i := 16) (d := (some 109)) (v := ?_) rfl rfl (by kernel_rfl) (by kernel_rfl) (by kernel_rfl) (fun _ _ _ h => h) (by rfl) ?_ hS ?_
          rotate_left
          · intro w' hSw; (try dsimp only at hSw); go_simp <;> with_reducible rfl
          simp only [Act.put, List.setIfInBounds_toArray, List.set_cons_zero, List.set_cons_succ]
          refine held_take (i := 17) (d := (some 110)) (v := ?_) rfl rfl (by kernel_rfl) (by kernel_rfl) (by kernel_rfl) (fun _ _ _ h => h) (by rfl) ?_ hS ?_
          rotate_left
          · intro w' hSw; have z := ((KN5.out.older (older_below hSw.out)).cell 1).trans (show _ = some (.slice A6 sq.length c6) from rfl); clear hSw; go_simp <;> with_reducible rfl
          simp only [Act.put, List.setIfInBounds_toArray, List.set_cons_zero, List.set_cons_succ]
          refine held_take (i := 18) (d := (some 111)) (v := ?_) rfl rfl (by kernel_rfl) (by kernel_rfl) (by kernel_rfl) (fun _ _ _ h => h) (by rfl) ?_ hS ?_
          rotate_left
          · intro w' hSw; have TY := Di.told_str (SC5.out.below hSw.out); clear hSw; go_simp <;> with_reducible rfl
          simp only [Act.put, List.setIfInBounds_toArray, List.set_cons_zero, List.set_cons_succ]
          refine held_take (i := 19) (d := (some 112)) (v := ?_) rfl rfl (by kernel_rfl) (by kernel_rfl) (by kernel_rfl) (fun _ _ _ h => h) (by rfl) ?_ hS ?_
          rotate_left
          · intro w' hSw; clear hSw; have PEx := PE.out; go_simp <;> with_reducible rfl
          simp only [Act.put, List.setIfInBounds_toArray, List.set_cons_zero, List.set_cons_succ]
          refine held_take (i := 20) (d := (some 113)) (v := ?_) rfl rfl (by kernel_rfl) (by kernel_rfl) (by kernel_rfl) (fun _ _ _ h => h) (by rfl) ?_ hS ?_
          rotate_left
          · intro w' hSw; (try dsimp only at hSw); go_simp <;> with_reducible rfl
          simp only [Act.put, List.setIfInBounds_toArray, List.set_cons_zero, List.set_cons_succ]
          refine held_take (i := 21) (d := (some 114)) (v := ?_) rfl rfl (by kernel_rfl) (by kernel_rfl) (by kernel_rfl) (fun _ _ _ h => h) (by rfl) ?_ hS ?_
          rotate_left
          · intro w' hSw; (try dsimp only at hSw); go_simp <;> with_reducible rfl
          simp only [Act.put, List.setIfInBounds_toArray, List.set_cons_zero, List.set_cons_succ]
          refine held_take (i := 22) (d := (some 115)) (v := ?_) rfl rfl (by kernel_rfl) (by kernel_rfl) (by kernel_rfl) (fun _ _ _ h => h) (by rfl) ?_ hS ?_
          rotate_left
          · intro w' hSw; (try dsimp only at hSw); go_simp <;> with_reducible rfl
          simp only [Act.put, List.setIfInBounds_toArray, List.set_cons_zero, List.set_cons_succ]
          refine held_take (i := 23) (d := (some 116)) (v := ?_) rfl rfl (by kernel_rfl) (by kernel_rfl) (by kernel_rfl) (fun _ _ _ h => h) (by rfl) ?_ hS ?_
          rotate_left
          · intro w' hSw; (try dsimp only at hSw); go_simp <;> with_reducible rfl
          simp only [Act.put, List.setIfInBounds_toArray, List.set_cons_zero, List.set_cons_succ]
          refine held_take (i := 24) (d := (some 117)) (v := ?_) rfl rfl (by kernel_rfl) (by kernel_rfl) (by kernel_rfl) (fun _ _ _ h => h) (by rfl) ?_ hS ?_
          rotate_left
          · intro w' hSw; clear hSw; have PSx := PSL.out; go_simp <;> with_reducible rfl
          simp only [Act.put, List.setIfInBounds_toArray, List.set_cons_zero, List.set_cons_succ]
          refine held_take (i := 25) (d := (some 118)) (v := ?_) rfl rfl (by kernel_rfl) (by kernel_rfl) (by kernel_rfl) (fun _ _ _ h => h) (by rfl) ?_ hS ?_
          rotate_left
          · intro w' hSw; (try dsimp only at hSw); go_simp <;> with_reducible rfl
          simp only [Act.put, List.setIfInBounds_toArray, List.set_cons_zero, List.set_cons_succ]
          refine held_take (i := 26) (d := (some 119)) (v := ?_) rfl rfl (by kernel_rfl) (by kernel_rfl) (by kernel_rfl) (fun _ _ _ h => h) (by rfl) ?_ hS ?_
          rotate_left
          · intro w' hSw; have z := ((KA5.out.older (older_below hSw.out)).cell 1).trans (show _ = some (.int .i64 av) from rfl); clear hSw; go_simp <;> with_reducible rfl
          simp only [Act.put, List.setIfInBounds_toArray, List.set_cons_zero, List.set_cons_succ]
          refine held_one (i := 27) (by kernel_rfl) rfl (by rfl) ?_
          go_simp
          refine (ST.out _ (R5.out.new hS.out).ro).mono ?_; rintro e wn ⟨rfl, rfl⟩
          refine ⟨hS, ?_⟩
          (try simp only [Act.put, List.setIfInBounds_toArray, List.set_cons_zero, List.set_cons_succ])
          refine held_take (i := 28) (d := (some 121)) (v := ?_) rfl rfl (by kernel_rfl) (by kernel_rfl) (by kernel_rfl) (fun _ _ _ h => h) (by rfl) ?_ hS ?_
          rotate_left
          · intro w' hSw; (try dsimp only at hSw); go_simp <;> with_reducible rfl
          simp only [Act.put, List.setIfInBounds_toArray, List.set_cons_zero, List.set_cons_succ]
          refine held_take (i := 29) (d := (some 122)) (v := ?_) rfl rfl (by kernel_rfl) (by kernel_rfl) (by kernel_rfl) (fun _ _ _ h => h) (by rfl) ?_ hS ?_
          rotate_left
          · intro w' hSw; (try dsimp only at hSw); go_simp <;> with_reducible rfl
          simp only [Act.put, List.setIfInBounds_toArray, List.set_cons_zero, List.set_cons_succ]
          refine held_take (i := 30) (d := (some 123)) (v := ?_) rfl rfl (by kernel_rfl) (by kernel_rfl) (by kernel_rfl) (fun _ _ _ h => h) (by rfl) ?_ hS ?_
          rotate_left
          · intro w' hSw; (try dsimp only at hSw); go_simp <;> with_reducible rfl
          simp only [Act.put, List.setIfInBounds_toArray, List.set_cons_zero, List.set_cons_succ]
          refine wpAnyH_done (by kernel_rfl) ?_ _
          have RF := Lib.hid ((R5.out.new hS.out).up (st' := staleB (l.take (j + 1))) (M := 1 + (j + 1)) (by omega) MONO.out)
          clear hS R5
          go_wp2
          go_meet
          exact ⟨_, _, RF⟩
        by_cases d1 : kd = 1
        · subst d1
          have x5 := (KA.out.cell 5).trans (show _ = some (.string ⟨sv.toArray⟩) from rfl)
          obtain ⟨c6, w6, hconv, cs6, b6⟩ := conv_any ⟨sv.toArray⟩ (by show sv.length ≤ 1000000; have := SV.out; omega) W
          replace hconv : (convert 9 34 (.string ⟨sv.toArray⟩)).run Try.prog W = .ok (.slice (some ⟨W.heap.size, 0, none⟩) sv.length c6) w6 := hconv
          have S6 := Lib.hid (show Src w6 (some ⟨W.heap.size, 0, none⟩) sv.length c6 sv from cs6.src)
          have R6 := Lib.hid (RW.out.new b6)
          have Z6 := Lib.hid (show W.heap.size < w6.heap.size ∧ lab' W.heap.size = 0 from ⟨cs6.lt, RW.out.pb.kb.lab0 (Nat.le_refl _)⟩)
          have CH := Lib.hid (head_any R6.out.pb R6.out.hB (1 + j) R6.out.ki.sm (by omega) (some ⟨W.heap.size, 0, none⟩) sv.length c6 sv S6.out (fun b o e => by cases e; exact Z6.out) (by have := SV.out; omega))
          clear cs6 b6
          go_wp2_with fail
          refine CH.out.mono ?_; rintro e w7 ⟨lab7, rfl, h7, l7⟩
          have RF := Lib.hid ((R6.out.step l7 h7 (head_ki R6.out.ki sv)).up (st' := staleB (l.take (j + 1))) (M := 1 + (j + 1)) (by omega) MONO.out)
          clear CH h7 l7 R6
          go_wp2
          go_meet
          exact ⟨_, _, RF⟩
        by_cases d3 : kd = 3
        · subst d3
          have x1 := (KA.out.cell 1).trans (show _ = some (.int .i64 av) from rfl)
          by_cases ha : av = 0
          · have RF := Lib.hid (RW.out.up (st' := staleB (l.take (j + 1))) (M := 1 + (j + 1)) (by omega) MONO.out)
            subst ha
            go_wp2
            go_meet
            exact ⟨_, _, RF⟩
          · have ha1 : (av == 0) = false := by simpa using ha
            have ha2 : (av != 0) = true := by simpa using ha
            have CU := Lib.hid (unpin_any RW.out.pb RW.out.hB av (RW.out.few (by omega)).1)
            go_wp2_with fail
            refine CU.out.mono ?_; rintro e w7 ⟨rfl, h7, l7⟩
            have RF := Lib.hid ((RW.out.step l7 h7 (unpin_ki RW.out.ki ha)).up (st' := staleB (l.take (j + 1))) (M := 1 + (j + 1)) (by omega) MONO.out)
            clear CU h7 l7
            go_wp2
            go_meet
            exact ⟨_, _, RF⟩
        by_cases d4 : kd = 4
        · subst d4
          have x1 := (KA.out.cell 1).trans (show _ = some (.int .i64 av) from rfl)
          have x2 := (KA.out.cell 2).trans (show _ = some (.int .i64 bv) from rfl)
          have b6 : Below W.heap.size W (W.alloc (.cells #[.int .i64 av, .int .i64 bv] 3)) := (Below.refl _ _).alloc (Nat.le_refl _) _
          have R6 := Lib.hid (RW.out.new b6)
          have G6 := Lib.hid (show RowG (W.alloc (.cells #[.int .i64 av, .int .i64 bv] 3)) 1 (some ⟨W.heap.size, 0, none⟩) 2 2 (vi [av, bv]) from rowG_blk (n := 2) (sz := 1) (Blk.new W 3 #[.int .i64 av, .int .i64 bv]) rfl (by decide))
          have Z6 := Lib.hid (show ∀ a, (some ⟨W.heap.size, 0, none⟩ : Option Addr) = some a → a.block < (W.alloc (.cells #[.int .i64 av, .int .i64 bv] 3)).heap.size ∧ lab' a.block = 0 from fun a e => by cases e; exact ⟨by simp, RW.out.pb.kb.lab0 (Nat.le_refl _)⟩)
          have CF := Lib.hid (forget_any R6.out.pb R6.out.hB (some ⟨W.heap.size, 0, none⟩) 2 [av, bv] G6.out Z6.out (by show 2 ≤ 1000; omega))
          clear b6
          go_wp2_with fail
          refine CF.out.mono ?_; rintro e w7 ⟨rfl, h7, l7⟩
          have RF := Lib.hid ((R6.out.step l7 h7 (forget_ki [av, bv] _ R6.out.ki)).up (st' := staleB (l.take (j + 1))) (M := 1 + (j + 1)) (by omega) MONO.out)
          clear CF h7 l7 R6
          go_wp2
          go_meet
          exact ⟨_, _, RF⟩
        by_cases d8 : kd = 8
        · subst d8
          obtain ⟨x8, hx8⟩ : ∃ x : Nat, sv.length % 256 = x := ⟨_, rfl⟩
          have HU := Lib.hid (show IntKind.u8.wrap (sv.length : Int) = (x8 : Int) ∧ (sv.length : Int) % 256 = (x8 : Int) from ⟨by rw [IntKind.wrap_u8]; omega, by omega⟩)
          have X8 := Lib.hid (show x8 ≤ 255 from by omega)
          have M8 := Lib.hid (show ∀ x, (staleB (l.take j) x || x == av) = true → staleB (l.take (j + 1)) x = true from fun x hx => by
            rw [NX.out]
            unfold staleA
            simp at hx ⊢
            rcases hx with h | h
            · exact .inl h
            · exact .inr h.symm)
          have hx9 : x8 ≤ 255 := X8.out
          clear hx8
          go_upto_region 32 with fail
          refine wp_region_held_drew (S := fun w' => Hid (Blk w' ga 41 #[.int .i64 8, .int .i64 av, .int .i64 bv, .int .i64 ev, .int .i64 od, .string ⟨sv.toArray⟩, .slice Lv nv cv])) (by kernel_rfl) ((Lib.hid (show Blk W.drew ga 41 #[.int .i64 8, .int .i64 av, .int .i64 bv, .int .i64 ev, .int .i64 od, .string ⟨sv.toArray⟩, .slice Lv nv cv] from KA.out.drewN 1))) (fun hS => ?_)
          refine held_take (i := 0) (d := (some 152)) (v := ?_) rfl rfl (by kernel_rfl) (by kernel_rfl) (by kernel_rfl) (fun _ _ _ h => h) (by rfl) ?_ hS ?_
          rotate_left
          · intro w' hSw; (try dsimp only at hSw); go_simp <;> with_reducible rfl
          simp only [Act.put, List.setIfInBounds_toArray, List.set_cons_zero, List.set_cons_succ]
          refine held_take (i := 1) (d := (some 153)) (v := ?_) rfl rfl (by kernel_rfl) (by kernel_rfl) (by kernel_rfl) (fun _ _ _ h => h) (by rfl) ?_ hS ?_
          rotate_left
          · intro w' hSw; (try dsimp only at hSw); go_simp <;> with_reducible rfl
          simp only [Act.put, List.setIfInBounds_toArray, List.set_cons_zero, List.set_cons_succ]
          refine held_take (i := 2) (d := (some 154)) (v := ?_) rfl rfl (by kernel_rfl) (by kernel_rfl) (by kernel_rfl) (fun _ _ _ h => h) (by rfl) ?_ hS ?_
          rotate_left
          · intro w' hSw; have z := (hSw.out.cell 1).trans (show _ = some (.int .i64 av) from rfl); clear hSw; go_simp <;> with_reducible rfl
          simp only [Act.put, List.setIfInBounds_toArray, List.set_cons_zero, List.set_cons_succ]
          refine held_take (i := 3) (d := (some 155)) (v := ?_) rfl rfl (by kernel_rfl) (by kernel_rfl) (by kernel_rfl) (fun _ _ _ h => h) (by rfl) ?_ hS ?_
          rotate_left
          · intro w' hSw; (try dsimp only at hSw); go_simp <;> with_reducible rfl
          simp only [Act.put, List.setIfInBounds_toArray, List.set_cons_zero, List.set_cons_succ]
          refine held_take (i := 4) (d := (some 156)) (v := ?_) rfl rfl (by kernel_rfl) (by kernel_rfl) (by kernel_rfl) (fun _ _ _ h => h) (by rfl) ?_ hS ?_
          rotate_left
          · intro w' hSw; have z := (hSw.out.cell 5).trans (show _ = some (.string ⟨sv.toArray⟩) from rfl); clear hSw; go_simp <;> with_reducible rfl
          simp only [Act.put, List.setIfInBounds_toArray, List.set_cons_zero, List.set_cons_succ]
          refine held_take (i := 5) (d := (some 157)) (v := ?_) rfl rfl (by kernel_rfl) (by kernel_rfl) (by kernel_rfl) (fun _ _ _ h => h) (by rfl) ?_ hS ?_
          rotate_left
          · intro w' hSw; clear hSw; have hz : (⟨sv.toArray⟩ : ByteArray).size = sv.length := rfl; go_simp <;> with_reducible rfl
          simp only [Act.put, List.setIfInBounds_toArray, List.set_cons_zero, List.set_cons_succ]
          refine held_take (i := 6) (d := (some 158)) (v := ?_) rfl rfl (by kernel_rfl) (by kernel_rfl) (by kernel_rfl) (fun _ _ _ h => h) (by rfl) ?_ hS ?_
          rotate_left
          · intro w' hSw; clear hSw; have q1 := HU.out.1; have q2 := HU.out.2; go_simp <;> with_reducible rfl
          simp only [Act.put, List.setIfInBounds_toArray, List.set_cons_zero, List.set_cons_succ]
          refine held_one (i := 7) (by kernel_rfl) rfl (by rfl) ?_
          go_simp
          refine (Pq.fill_any x8 (by omega) _).mono ?_; rintro e wn ⟨t, tl, rfl, bn⟩
          have hS : Hid (Blk wn ga 41 #[.int .i64 8, .int .i64 av, .int .i64 bv, .int .i64 ev, .int .i64 od, .string ⟨sv.toArray⟩, .slice Lv nv cv]) := Lib.hid (hS.out.older (older_below bn))
          have RNN := Lib.hid (RW.out.new (show Below W.heap.size W wn from ((Below.refl W.heap.size W).drew).trans bn))
          have TL := Lib.hid tl
          clear bn tl
          refine ⟨hS, ?_⟩
          (try simp only [Act.put, List.setIfInBounds_toArray, List.set_cons_zero, List.set_cons_succ])
          refine held_one (i := 8) (by kernel_rfl) rfl (by rfl) ?_
          obtain ⟨c8, w8, hconv, cs8, b8⟩ := conv_any ⟨t.toArray⟩ (by show t.length ≤ 1000000; have := TL.out; omega) wn
          replace hconv : (convert 9 34 (.string ⟨t.toArray⟩)).run Try.prog wn = .ok (.slice (some ⟨wn.heap.size, 0, none⟩) t.length c8) w8 := hconv
          have SC8 := Lib.hid (show Src w8 (some ⟨wn.heap.size, 0, none⟩) t.length c8 t from cs8.src)
          have RN8 := Lib.hid (RNN.out.new b8)
          have Z8 := Lib.hid (show wn.heap.size < w8.heap.size ∧ lab' wn.heap.size = 0 from ⟨cs8.lt, RNN.out.pb.kb.lab0 (Nat.le_refl _)⟩)
          have hS : Hid (Blk w8 ga 41 #[.int .i64 8, .int .i64 av, .int .i64 bv, .int .i64 ev, .int .i64 od, .string ⟨sv.toArray⟩, .slice Lv nv cv]) := Lib.hid (hS.out.older (older_below b8))
          clear cs8 b8
          refine wp_conv_d (d := some 160) rfl (y := .string ⟨t.toArray⟩) rfl rfl hconv ?_
          clear hconv
          refine ⟨hS, ?_⟩
          (try simp only [Act.put, List.setIfInBounds_toArray, List.set_cons_zero, List.set_cons_succ])
          refine held_take (i := 9) (d := (some 161)) (v := ?_) rfl rfl (by kernel_rfl) (by kernel_rfl) (by kernel_rfl) (fun _ _ _ h => h) (by rfl) ?_ hS ?_
          rotate_left
          · intro w' hSw; (try dsimp only at hSw); go_simp <;> with_reducible rfl
          simp only [Act.put, List.setIfInBounds_toArray, List.set_cons_zero, List.set_cons_succ]
          refine held_one (i := 10) (by kernel_rfl) rfl (by rfl) ?_
          go_simp
          refine (call_kb RN8.out.pb.kb RN8.out.hB (1 + j) RN8.out.ki.sm (by omega) ⟨7, 1, av, 0, 0, t, [], []⟩ ⟨some ⟨wn.heap.size, 0, none⟩, c8, none, 0, none, 0⟩ (Po.write_in SC8.out (fun b o e => by cases e; exact Z8.out) 7 1 av 0 (by omega))).mono ?_
          rintro e w9 ⟨A9, c9, rfl, lab9, k9, l9, b9, s9, o9⟩
          have hS : Hid (Blk w9 ga 41 #[.int .i64 8, .int .i64 av, .int .i64 bv, .int .i64 ev, .int .i64 od, .string ⟨sv.toArray⟩, .slice Lv nv cv]) := Lib.hid (l9.blk0 hS.out ZA.out)
          have R9 := Lib.hid (RN8.out.call l9 k9 (write_ki RN8.out.ki RN8.out.pb.kb.ok av t))
          clear k9 l9 b9 s9 o9 RN8
          refine ⟨hS, ?_⟩
          (try simp only [Act.put, List.setIfInBounds_toArray, List.set_cons_zero, List.set_cons_succ])
          refine wpAnyH_done (by kernel_rfl) ?_ _
          have RF := Lib.hid (R9.out.up (st' := staleB (l.take (j + 1))) (M := 1 + (j + 1)) (by omega) M8.out)
          clear R9 hS
          go_wp2
          go_meet
          exact ⟨_, _, RF⟩
        have e0 : (kd == 0) = false := by simpa using d0
        have e1 : (kd == 1) = false := by simpa using d1
        have e3 : (kd == 3) = false := by simpa using d3
        have e4 : (kd == 4) = false := by simpa using d4
        have e8 : (kd == 8) = false := by simpa using d8
        have RF := Lib.hid (RW.out.up (st' := staleB (l.take (j + 1))) (M := 1 + (j + 1)) (by omega) MONO.out)
        go_wp2
        go_meet
        exact ⟨_, _, RF⟩
      case rest =>
        obtain ⟨labx, Px, RX⟩ := hcut
        obtain ⟨gt', htab⟩ := RX.out.tab
        have RD := Lib.hid (Ke.Rf.read_any htab 1 0 0 (s.length : Int) (by omega))
        rw [read_ki RX.out.ki hs256] at RD
        (try dsimp only at RD)
        clear htab KA RW
        go_wp2_with fail
        refine RD.out.mono ?_; rintro e w7 ⟨A7, c7, rfl, s7, b7⟩
        have RX7 := Lib.hid (RX.out.new b7)
        have TS := Di.told_str s7.toSrc
        have PI := Lib.hid (pins_any RX7.out.pb.po 0)
        rw [pins_ki RX7.out.ki] at PI
        clear RD b7 s7 RX
        go_wp2_with fail
        refine PI.out.mono ?_; rintro e w8 ⟨rfl, b8⟩
        have RX8 := Lib.hid (RX7.out.new b8)
        clear PI b8 RX7 TS
        go_wp2
        go_roundw
        case rel => exact ⟨j + 1, labx, Px, by omega, by go_num, RX8⟩
        case measure => simp [intOf]; omega
    · have hlt' : ¬ (j : Int) < (l.length : Int) := by omega
      have BZ := Lib.hid (B2.out.trans (RN.out.be.mono B2.out.size))
      go_wp2
      go_ret
      exact ⟨rfl, BZ.out⟩

set_option maxRecDepth 100000 in
theorem lifted (os : Os) (started : os.Started) (H : Type) (enc : TypeId × Value → H) :
    ReturnsInHanded {} Try.checked os 3 .any (Rows.poolKeepsSpec.pre6 enc Try.prog Try.f3 Rows.poolKeepsRow.domain false) (Rows.poolKeepsSpec.post enc Try.prog Try.f3 false true false false) := by
  refine returnsInHanded_of_change (C := Try.checked) own started (by kernel_rfl) Try.func3
    (ChangeSpec.witness6 (enc := enc) (C := Try.checked) false ⟨#[], #[.string ⟨#[]⟩, .slice none 0 0], []⟩ 8 (by kernel_rfl) (by kernel_rfl) (by kernel_rfl) (by kernel_rfl)) ?_
  intro W base args ds gs before hval0 hW hcnd _
  have hval : ∀ (j : Nat) t v, Try.f3.params[j]? = some t → args[j]? = some v → Value.okWide Try.prog W .any base t v := hval0
  have hW' := hW
  obtain ⟨p, q, hA0, hV, rfl, hfz, hnd⟩ := hW
  have hA : DataW.TrodAll enc Try.prog W 0 (fun _ => true) true Try.f3.params.toList args.toList ds p := hA0
  rw [Try.params3] at hA hval
  obtain ⟨v0, vs0, d0, ds0, p0, q0, hargs, rfl, rfl, h0, r0⟩ := trodAll_cons hA
  obtain ⟨v1, vs1, d1, ds1, p1, q1, rfl, rfl, rfl, h1, r1⟩ := trodAll_cons r0
  obtain ⟨rfl, rfl, rfl⟩ := trodAll_nil r1
  obtain rfl : args = #[v0, v1] := by cases args; simp_all
  obtain ⟨a0, rfl, _, _, w0⟩ := Go.ChangeMaps.open_string Try.underlying9 (hval 0 9 v0 rfl rfl) h0
  obtain ⟨A1, c1, l1, rfl, b1, k1⟩ := Pq.open_acts (hval 1 22 v1 rfl rfl) h1
  clear hA0 hval0
  exact law_close hW' laidOut (by kernel_rfl) rfl Try.underlying4 rfl ⟨rfl, rfl, rfl⟩ (walk W a0 w0 A1 c1 l1 b1 k1)

theorem over : Rows.poolKeepsRow.holds Try.pinned (OpenSpec.ofChange Rows.poolKeepsSpec) :=
  OpenClaim.holds_of_wide 3 Try.f3 rfl rfl rfl rfl rfl rfl rfl ⟨rfl, rfl, rfl, rfl, rfl⟩ rfl rfl rfl rfl rfl (by kernel_rfl) Try.func3 (by kernel_rfl)
    (of_decide_eq_true (by kernel_rfl)) (by unfold Func.isWrapper; first | (rw [if_pos (by decide +kernel)]; kernel_rfl) | (rw [if_neg (by decide +kernel)]; exact ⟨rfl, rfl⟩))
    (fun os started H enc _ => lifted os started H enc)

theorem proved : Rows.PoolKeepsSaid := over

end Go.Proofs.Ythnpalcjfgbjeaa.poolKeeps
