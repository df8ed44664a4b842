/- Whatever texts and pieces come in, 'pantlerlaw13.PoolParts' returns true. No condition. -/
import Derived.Test.YthnpalcjfgbjeaaGreatPoZ
import Derived.Test.YthnpalcjfgbjeaaGreatPs4
namespace Go.Proofs.YthnpalcjfgbjeaaGreat.poolParts
open Go.ChangeShapes Go.WideShapes Go.ChangeAt Go.RowKit Go.Deep Fr Di Ke Rk Gx Po Ps Fl
set_option linter.unusedVariables false


set_option maxRecDepth 100000 in
set_option maxHeartbeats 8000000 in
theorem walk (w : World) (Ah : Option Addr) (ch : Nat) (hs : List (List UInt8)) (hr : RowG w 1 Ah hs.length ch (hs.flatMap strC)) (Al : Option Addr) (cl : Nat) (l : List Pc) (hl : Pcs w Al l ∧ (∀ q ∈ l, q.Ok) ∧ (Al = none → l = [] ∧ cl = 0)) :
    Calls Tryz.prog 3 #[.slice Ah hs.length ch, .slice Al l.length cl] w fun e w' => e = .returned (.bool true) ∧ Below w.heap.size w w' := by
  have R0 := Lib.hid hr
  have L0 := Lib.hid hl.1
  have OK := Lib.hid hl.2.1
  have AL := Lib.hid (fun W => Po.alive_any W)
  clear hr hl
  go_enter Tryz.func3, Tryz.ntmps3
  go_wp2_with fail
  refine (AL.out w).mono ?_; rintro e w2 ⟨rfl, b1⟩
  have B2 := Lib.hid b1
  have R2 := Lib.hid (R0.out.new b1)
  have P2 := Lib.hid (L0.out.new b1)
  clear b1 AL R0 L0
  by_cases h6 : (hs.length : Int) > 6
  · go_wp2
    go_ret
    exact ⟨rfl, B2.out⟩
  by_cases h50 : (l.length : Int) > 50
  · go_wp2
    go_ret
    exact ⟨rfl, B2.out⟩
  have NW := Lib.hid (new_kb 6 12 w2 (by omega) (by omega) (by omega) (by omega))
  go_wp2_with fail
  refine NW.out.mono ?_; rintro e w3 ⟨gk, lab1, rfl, k3, b3⟩
  have NP := Lib.hid (new_any 6 k3 b3.size (by omega) (by omega) (by omega))
  have B3 := Lib.hid b3
  have K3 := Lib.hid k3
  clear NW k3 b3
  go_wp2_with fail
  refine NP.out.mono ?_; rintro e w4 ⟨g, rfl, hg, gs, c, lab2, h4, l4⟩
  have B4 := Lib.hid (B3.out.trans (l4.chg.below B3.out.size (fun i hi => K3.out.ge i hi)))
  have H4 := Lib.hid h4
  have Q4 := Lib.hid hp_start
  clear NP K3 B3 h4 l4 hg
  go_upto_region 8 with fail
  go_loopw [9] (fun i wr => ∃ (j : Nat) (lab' : Nat → Nat) (P : Po), j ≤ hs.length ∧ i = .int .i64 (j : Int) ∧ Hid (PB w2.heap.size wr lab' g gk gs c P) ∧ Hid (HP P (hs.take j)) ∧ Hid (Below w2.heap.size w2 wr)) (fun i _ => hs.length - (intOf i).toNat)
  case atStart => exact ⟨0, lab2, _, Nat.zero_le _, rfl, H4, Q4, B4⟩
  case round =>
    clear H4 Q4 B4
    obtain ⟨j, lab', P, hj, rfl, HB, HQ, BB⟩ := hrel
    by_cases hlt : j < hs.length
    · have hlt' : (j : Int) < (hs.length : Int) := by omega
      have j0 : (0 : Int) ≤ (j : Int) := by omega
      have xj := IntWalk.i64_in ((j : Int) + 1) (by omega)
      obtain ⟨b, o, rfl, hb, hc⟩ := text_at (R2.out.new BB.out) hlt
      have hss : (⟨hs[j].toArray⟩ : ByteArray).size = hs[j].length := rfl
      have TK := Lib.hid (show hs.take (j + 1) = hs.take j ++ [hs[j]] from List.take_succ_eq_append_getElem hlt)
      have TL := Lib.hid (show (hs.take j).length = j from by rw [List.length_take]; omega)
      generalize hs[j] = s at *
      by_cases hs2 : (s.length : Int) > 256
      · go_wp2
        go_ret
        exact ⟨rfl, B2.out.trans (BB.out.mono B2.out.size)⟩
      obtain ⟨c5, w5, hconv, cs5, b5⟩ := conv_any ⟨s.toArray⟩ (by show s.length ≤ 1000000; omega) wr
      replace hconv : (convert 9 34 (.string ⟨s.toArray⟩)).run Tryz.prog wr = .ok (.slice (some ⟨wr.heap.size, 0, none⟩) s.length c5) w5 := hconv
      have S5 := Lib.hid (show Src w5 (some ⟨wr.heap.size, 0, none⟩) s.length c5 s from cs5.src)
      have B5 := Lib.hid (BB.out.trans (b5.mono BB.out.size))
      have H5 := Lib.hid (HB.out.new b5)
      have Z5 := Lib.hid (show wr.heap.size < w5.heap.size ∧ lab' wr.heap.size = 0 from ⟨cs5.lt, HB.out.kb.lab0 (Nat.le_refl _)⟩)
      have CH := Lib.hid (head_any H5.out B5.out.size 0 HQ.out.sm (by omega) (some ⟨wr.heap.size, 0, none⟩) s.length c5 s S5.out (fun b o e => by cases e; exact Z5.out) (by omega))
      have QN := Lib.hid (show HP (headR P s).1 (hs.take (j + 1)) from by rw [TK.out]; exact (head_hp HQ.out (by rw [TL.out]; omega) (by omega)).1)
      generalize headR P s = PR at *
      clear cs5 b5 HB HQ BB TK TL hb
      go_wp2_with fail
      refine CH.out.mono ?_; rintro e w6 ⟨lab6, rfl, h6', l6⟩
      have B6 := Lib.hid (B5.out.trans (PStep.below H5.out B5.out.size l6))
      have H6 := Lib.hid h6'
      clear CH h6' l6 hconv S5 Z5 H5 B5 hc
      go_wp2
      go_roundw
      case rel => exact ⟨j + 1, lab6, PR.1, by omega, by simp, H6, QN, B6⟩
      case measure => simp [intOf]; omega
    · have hge : ¬ (j : Int) < (hs.length : Int) := by omega
      obtain rfl : j = hs.length := by omega
      have HQ : Hid (HP P hs) := Lib.hid (by have := HQ.out; rw [List.take_length] at this; exact this)
      have OF := Lib.hid (of_cap Al cl l wr (P2.out.new BB.out) (by omega))
      have PW := Lib.hid (P2.out.new BB.out)
      go_wp2_with fail
      refine OF.out.mono ?_; rintro e w5 ⟨A5, c5, rfl, ⟨p5, q5, r5⟩, b5⟩
      have PT := Lib.hid (part_any (HB.out.new b5) (Nat.le_trans BB.out.size b5.size) HQ.out A5 c5 l p5 OK.out (by omega) (fun b o e h0 => ⟨HB.out.kb.lab0 (r5 b o e), by obtain ⟨b', o', e', hb', _⟩ := p5 0 h0; rw [e] at e'; cases e'; exact hb'⟩))
      have B5 := Lib.hid (BB.out.trans (b5.mono BB.out.size))
      have H5 := Lib.hid (HB.out.new b5)
      clear OF b5 p5 q5 r5 HB
      go_wp2_with fail
      refine PT.out.mono ?_; rintro e w6 ⟨rfl, lab6, h6', l6⟩
      have B6 := Lib.hid (B5.out.trans (PStep.below H5.out B5.out.size l6))
      have H6 := Lib.hid h6'
      clear PT h6' l6 H5 B5 BB
      have BZ := Lib.hid (B2.out.trans (B6.out.mono B2.out.size))
      have P6 := Lib.hid (P2.out.new B6.out)
      by_cases hall : l.all (okP hs.length) = true
      rotate_left
      · have q0 : (FloatKind.f64.format.order 0 0 == some .eq) = true := by decide +kernel
        unfold partV
        rw [if_neg hall]
        go_wp2
        go_ret
        exact ⟨by rfl, BZ.out⟩
      have ALL := Lib.hid (List.all_eq_true.1 hall)
      have PV := Lib.hid (partV_all (P := P) ALL.out)
      rw [PV.out]
      have LE := Lib.hid (fun k => show (allB P (l.take k)).length ≤ 12800 from by
        have h1 := allB_len (P := P) (l := l.take k) (fun x hx => bytesP_le HQ.out (ALL.out x (List.mem_of_mem_take hx)))
        have h2 : (l.take k).length ≤ 50 := by rw [List.length_take]; omega
        omega)
      have LEX := Lib.hid (fun x (hx : x ∈ l) => bytesP_le HQ.out (ALL.out x hx))
      have RDX := Lib.hid (fun x (hx : x ∈ l) => (read_hp HQ.out (ALL.out x hx)).1)
      have LF := Lib.hid (show (allB P l).length ≤ 12800 from by have := LE.out l.length; rw [List.take_length] at this; exact this)
      have O0 := Lib.hid (show w6.ownsRow w6.heap.size 5 1 (.slice none 0 0) (allB P (l.take 0)).length (bys (allB P (l.take 0))) from World.ownsRow_nil w6 w6.heap.size 5 1)
      have C0 := Lib.hid (Below.refl w6.heap.size w6)
      clear PV hall B6 PW P2 R2 HQ
      generalize hz : allB P l = zz at *
      have HZ := Lib.hid hz
      clear hz
      go_upto_region 18 with fail
      go_loopw [12, 13] (fun out i wr => ∃ (j m c' : Nat) (A' : Option Addr), j ≤ l.length ∧ i = .int .i64 (j : Int) ∧ out = .slice A' m c' ∧ Hid (m = (allB P (l.take j)).length) ∧ Hid (wr.ownsRow w6.heap.size 5 1 (.slice A' m c') m (bys (allB P (l.take j)))) ∧ Hid (Below w6.heap.size w6 wr)) (fun _ i _ => l.length - (intOf i).toNat)
      case atStart => exact ⟨0, 0, 0, none, Nat.zero_le _, rfl, rfl, Lib.hid rfl, O0, C0⟩
      case round =>
        clear O0 C0
        obtain ⟨j, m, c', A', hj, rfl, rfl, HM, HO, HB⟩ := hrel
        have P1 := Lib.hid (P6.out.new HB.out)
        have H7 := Lib.hid (H6.out.new HB.out)
        by_cases hlt : j < l.length
        · have hlt' : (j : Int) < (l.length : Int) := by omega
          have j0 : (0 : Int) ≤ (j : Int) := by omega
          have xj := IntWalk.i64_in ((j : Int) + 1) (by omega)
          have hm := List.getElem_mem hlt
          obtain ⟨b, o, hA, hbl, hr⟩ := P1.out j hlt
          subst hA
          have QO := Lib.hid (OK.out _ hm).off
          have RX := Lib.hid (RDX.out _ hm)
          have LX := Lib.hid (LEX.out _ hm)
          have SN := Lib.hid (allB_snoc (P := P) hlt)
          have LJ := Lib.hid (LE.out j)
          obtain ⟨ad, had⟩ := H7.out.kb.ka
          replace had := Lib.hid had
          have hcl := fun (X : World) (hX : Below wr.heap.size wr X) => (P1.out.new hX).cells hlt
          replace hcl := Lib.hid hcl
          generalize bytesP P l[j] = by_ at *
          generalize l[j].frame = qf at *
          generalize l[j].off = qo at *
          generalize l[j].len = qn at *
          clear hr hbl hm
          go_upto_region 20 with fail
          refine wp_region_held_drew (S := fun w' => Hid (Below wr.heap.size wr w')) (by kernel_rfl) ((Lib.hid ((Below.refl wr.heap.size wr).drew))) (fun hS => ?_)
          refine held_take (i := 0) (d := (some 72)) (v := ?_) rfl rfl (by kernel_rfl) (by kernel_rfl) (by kernel_rfl) (fun _ _ _ h => h) (by rfl) ?_ hS ?_
          rotate_left
          · intro w' hSw; (try dsimp only at hSw); go_simp <;> with_reducible rfl
          simp only [Act.put, List.setIfInBounds_toArray, List.set_cons_zero, List.set_cons_succ]
          refine held_take (i := 2) (d := (some 74)) (v := ?_) rfl rfl (by kernel_rfl) (by kernel_rfl) (by kernel_rfl) (fun _ _ _ h => h) (by rfl) ?_ hS ?_
          rotate_left
          · intro w' hSw; (try dsimp only at hSw); go_simp <;> with_reducible rfl
          simp only [Act.put, List.setIfInBounds_toArray, List.set_cons_zero, List.set_cons_succ]
          refine held_take (i := 3) (d := (some 75)) (v := ?_) rfl rfl (by kernel_rfl) (by kernel_rfl) (by kernel_rfl) (fun _ _ _ h => h) (by rfl) ?_ hS ?_
          rotate_left
          · intro w' hSw; (try dsimp only at hSw); go_simp <;> with_reducible rfl
          simp only [Act.put, List.setIfInBounds_toArray, List.set_cons_zero, List.set_cons_succ]
          refine held_take (i := 4) (d := (some 76)) (v := ?_) rfl rfl (by kernel_rfl) (by kernel_rfl) (by kernel_rfl) (fun _ _ _ h => h) (by rfl) ?_ hS ?_
          rotate_left
          · intro w' hSw; (try dsimp only at hSw); go_simp <;> with_reducible rfl
          simp only [Act.put, List.setIfInBounds_toArray, List.set_cons_zero, List.set_cons_succ]
          refine held_take (i := 5) (d := (some 77)) (v := ?_) rfl rfl (by kernel_rfl) (by kernel_rfl) (by kernel_rfl) (fun _ _ _ h => h) (by rfl) ?_ hS ?_
          rotate_left
          · intro w' hSw; (try dsimp only at hSw); go_simp <;> with_reducible rfl
          simp only [Act.put, List.setIfInBounds_toArray, List.set_cons_zero, List.set_cons_succ]
          refine held_take (i := 6) (d := (some 78)) (v := ?_) rfl rfl (by kernel_rfl) (by kernel_rfl) (by kernel_rfl) (fun _ _ _ h => h) (by rfl) ?_ hS ?_
          rotate_left
          · intro w' hSw; obtain ⟨b', o', e', hb', z0, z1, z2⟩ := hcl.out _ hSw.out; cases e'; clear hSw; go_simp <;> with_reducible rfl
          simp only [Act.put, List.setIfInBounds_toArray, List.set_cons_zero, List.set_cons_succ]
          refine held_take (i := 7) (d := (some 79)) (v := ?_) rfl rfl (by kernel_rfl) (by kernel_rfl) (by kernel_rfl) (fun _ _ _ h => h) (by rfl) ?_ hS ?_
          rotate_left
          · intro w' hSw; (try dsimp only at hSw); go_simp <;> with_reducible rfl
          simp only [Act.put, List.setIfInBounds_toArray, List.set_cons_zero, List.set_cons_succ]
          refine held_take (i := 8) (d := (some 80)) (v := ?_) rfl rfl (by kernel_rfl) (by kernel_rfl) (by kernel_rfl) (fun _ _ _ h => h) (by rfl) ?_ hS ?_
          rotate_left
          · intro w' hSw; (try dsimp only at hSw); go_simp <;> with_reducible rfl
          simp only [Act.put, List.setIfInBounds_toArray, List.set_cons_zero, List.set_cons_succ]
          refine held_take (i := 9) (d := (some 81)) (v := ?_) rfl rfl (by kernel_rfl) (by kernel_rfl) (by kernel_rfl) (fun _ _ _ h => h) (by rfl) ?_ hS ?_
          rotate_left
          · intro w' hSw; (try dsimp only at hSw); go_simp <;> with_reducible rfl
          simp only [Act.put, List.setIfInBounds_toArray, List.set_cons_zero, List.set_cons_succ]
          refine held_take (i := 10) (d := (some 82)) (v := ?_) rfl rfl (by kernel_rfl) (by kernel_rfl) (by kernel_rfl) (fun _ _ _ h => h) (by rfl) ?_ hS ?_
          rotate_left
          · intro w' hSw; (try dsimp only at hSw); go_simp <;> with_reducible rfl
          simp only [Act.put, List.setIfInBounds_toArray, List.set_cons_zero, List.set_cons_succ]
          refine held_take (i := 11) (d := (some 83)) (v := ?_) rfl rfl (by kernel_rfl) (by kernel_rfl) (by kernel_rfl) (fun _ _ _ h => h) (by rfl) ?_ hS ?_
          rotate_left
          · intro w' hSw; obtain ⟨b', o', e', hb', z0, z1, z2⟩ := hcl.out _ hSw.out; cases e'; clear hSw; go_simp <;> with_reducible rfl
          simp only [Act.put, List.setIfInBounds_toArray, List.set_cons_zero, List.set_cons_succ]
          refine held_take (i := 12) (d := (some 84)) (v := ?_) rfl rfl (by kernel_rfl) (by kernel_rfl) (by kernel_rfl) (fun _ _ _ h => h) (by rfl) ?_ hS ?_
          rotate_left
          · intro w' hSw; (try dsimp only at hSw); go_simp <;> with_reducible rfl
          simp only [Act.put, List.setIfInBounds_toArray, List.set_cons_zero, List.set_cons_succ]
          refine held_take (i := 13) (d := (some 85)) (v := ?_) rfl rfl (by kernel_rfl) (by kernel_rfl) (by kernel_rfl) (fun _ _ _ h => h) (by rfl) ?_ hS ?_
          rotate_left
          · intro w' hSw; (try dsimp only at hSw); go_simp <;> with_reducible rfl
          simp only [Act.put, List.setIfInBounds_toArray, List.set_cons_zero, List.set_cons_succ]
          refine held_take (i := 14) (d := (some 86)) (v := ?_) rfl rfl (by kernel_rfl) (by kernel_rfl) (by kernel_rfl) (fun _ _ _ h => h) (by rfl) ?_ hS ?_
          rotate_left
          · intro w' hSw; (try dsimp only at hSw); go_simp <;> with_reducible rfl
          simp only [Act.put, List.setIfInBounds_toArray, List.set_cons_zero, List.set_cons_succ]
          refine held_take (i := 15) (d := (some 87)) (v := ?_) rfl rfl (by kernel_rfl) (by kernel_rfl) (by kernel_rfl) (fun _ _ _ h => h) (by rfl) ?_ hS ?_
          rotate_left
          · intro w' hSw; (try dsimp only at hSw); go_simp <;> with_reducible rfl
          simp only [Act.put, List.setIfInBounds_toArray, List.set_cons_zero, List.set_cons_succ]
          refine held_take (i := 16) (d := (some 88)) (v := ?_) rfl rfl (by kernel_rfl) (by kernel_rfl) (by kernel_rfl) (fun _ _ _ h => h) (by rfl) ?_ hS ?_
          rotate_left
          · intro w' hSw; obtain ⟨b', o', e', hb', z0, z1, z2⟩ := hcl.out _ hSw.out; cases e'; clear hSw; go_simp <;> with_reducible rfl
          simp only [Act.put, List.setIfInBounds_toArray, List.set_cons_zero, List.set_cons_succ]
          refine held_one (i := 1) (by kernel_rfl) rfl (by rfl) ?_
          go_simp
          refine (table_any (had.out.new hS.out)).mono ?_; rintro e wn ⟨rfl, rfl⟩
          refine ⟨hS, ?_⟩
          (try simp only [Act.put, List.setIfInBounds_toArray, List.set_cons_zero, List.set_cons_succ])
          refine held_one (i := 17) (by kernel_rfl) rfl (by rfl) ?_
          go_simp
          refine (Fr.read_any (had.out.new hS.out).tab 1 qf qo qn QO.out).mono ?_; rintro e wn ⟨A2, c2, rfl, s2, b2⟩
          have S2 := Lib.hid s2
          have hS : Hid (Below wr.heap.size wr wn) := Lib.hid (hS.out.trans (b2.mono hS.out.size))
          clear s2 b2
          refine ⟨hS, ?_⟩
          (try simp only [Act.put, List.setIfInBounds_toArray, List.set_cons_zero, List.set_cons_succ])
          refine held_take (i := 18) (d := (some 71)) (v := ?_) rfl rfl (by kernel_rfl) (by kernel_rfl) (by kernel_rfl) (fun _ _ _ h => h) (by rfl) ?_ hS ?_
          rotate_left
          · intro w' hSw; (try dsimp only at hSw); go_simp <;> with_reducible rfl
          simp only [Act.put, List.setIfInBounds_toArray, List.set_cons_zero, List.set_cons_succ]
          refine held_take (i := 19) (d := (some 90)) (v := ?_) rfl rfl (by kernel_rfl) (by kernel_rfl) (by kernel_rfl) (fun _ _ _ h => h) (by rfl) ?_ hS ?_
          rotate_left
          · intro w' hSw; (try dsimp only at hSw); go_simp <;> with_reducible rfl
          simp only [Act.put, List.setIfInBounds_toArray, List.set_cons_zero, List.set_cons_succ]
          refine held_take (i := 20) (d := (some 91)) (v := ?_) rfl rfl (by kernel_rfl) (by kernel_rfl) (by kernel_rfl) (fun _ _ _ h => h) (by rfl) ?_ hS ?_
          rotate_left
          · intro w' hSw; (try dsimp only at hSw); go_simp <;> with_reducible rfl
          simp only [Act.put, List.setIfInBounds_toArray, List.set_cons_zero, List.set_cons_succ]
          refine held_take (i := 21) (d := (some 14)) (v := ?_) rfl rfl (by kernel_rfl) (by kernel_rfl) (by kernel_rfl) (fun _ _ _ h => h) (by rfl) ?_ hS ?_
          rotate_left
          · intro w' hSw; (try dsimp only at hSw); go_simp <;> with_reducible rfl
          simp only [Act.put, List.setIfInBounds_toArray, List.set_cons_zero, List.set_cons_succ]
          refine held_take (i := 22) (d := (some 15)) (v := ?_) rfl rfl (by kernel_rfl) (by kernel_rfl) (by kernel_rfl) (fun _ _ _ h => h) (by rfl) ?_ hS ?_
          rotate_left
          · intro w' hSw; (try dsimp only at hSw); go_simp <;> with_reducible rfl
          simp only [Act.put, List.setIfInBounds_toArray, List.set_cons_zero, List.set_cons_succ]
          refine wpAnyH_done (by kernel_rfl) ?_ _
          rw [RX.out]
          have S3 := Lib.hid (show Src wn A2 by_.length c2 by_ from by have := S2.out; rw [RX.out] at this; exact this)
          have HB3 := Lib.hid (HB.out.trans (hS.out.mono HB.out.size))
          have HO3 := Lib.hid (owns_new HO.out hS.out)
          clear S2 hS HO HB P1 H7 had hcl
          go_wp2_with (first | (at_builtin; refine Hid.out ?_) | fail)
          unfold Hid
          refine wpList_append_src rfl (.tmp 94) (.tmp 95) rfl w6.heap.size (.slice A' m c') m (allB P (l.take j)) rfl HO3.out A2 by_.length c2 by_ rfl S3.out (by have := HM.out; have := LJ.out; have := LX.out; omega) HB3.out.size ?_
          intro v' w8 h1 h2
          obtain ⟨A3, c3, rfl, _, _⟩ := src_of_own h1
          rw [← SN.out] at h1
          have HO4 := Lib.hid h1
          have HB4 := Lib.hid (HB3.out.trans h2)
          have HM2 : Hid (m + by_.length = (allB P (l.take (j + 1))).length) := Lib.hid (by rw [SN.out, List.length_append, ← HM.out])
          clear h1 h2 HO3 HB3 S3
          go_wp2
          go_roundw
          case rel => exact ⟨j + 1, _, _, _, by omega, by simp, rfl, HM2, HO4, HB4⟩
          case measure => simp [intOf]; omega
        · have hge : ¬ (j : Int) < (l.length : Int) := by omega
          obtain rfl : j = l.length := by omega
          have ho := HO.out
          have hm := HM.out
          rw [List.take_length, HZ.out] at ho hm
          obtain ⟨A3, c3, e3, hs3, _⟩ := src_of_own ho
          cases e3
          have OB := Lib.hid (ofB_any A' m c' zz wr hs3.toBytes (by have := LF.out; omega))
          have EV := Lib.hid (evs_le zz)
          have q1 := eqf (evs zz) (by have := EV.out; have := LF.out; omega)
          have q2 := eqf (ods zz) (by have := EV.out; have := LF.out; omega)
          clear ho hm hs3 HO HM
          go_wp2_with fail
          refine OB.out.mono ?_; rintro e w8 ⟨rfl, b8⟩
          have B8 := Lib.hid (HB.out.trans (b8.mono HB.out.size))
          clear b8 OB
          go_wp2_with fail
          refine (number_any _ _ _).mono ?_; rintro e w9 ⟨rfl, b9⟩
          have B9 := Lib.hid (BZ.out.trans ((B8.out.trans (b9.mono B8.out.size)).mono BZ.out.size))
          clear b9 B8
          go_wp2
          go_ret
          exact ⟨rfl, B9.out⟩

set_option maxRecDepth 100000 in
theorem lifted (os : Os) (started : os.Started) (H : Type) (enc : TypeId × Value → H) :
    ReturnsInHanded {} Tryz.checked os 3 .any (Rows.poolPartsSpec.pre6 enc Tryz.prog Tryz.f3 Rows.poolPartsRow.domain false) (Rows.poolPartsSpec.post enc Tryz.prog Tryz.f3 false true false false) := by
  refine returnsInHanded_of_change (C := Tryz.checked) own started (by kernel_rfl) Tryz.func3
    (ChangeSpec.witness6 (enc := enc) (C := Tryz.checked) false ⟨#[], #[.slice none 0 0, .slice none 0 0], []⟩ 8 (by kernel_rfl) (by kernel_rfl) (by kernel_rfl) (by kernel_rfl)) ?_
  intro W base args ds gs before hval0 hW hcnd _
  have hval : ∀ (j : Nat) t v, Tryz.f3.params[j]? = some t → args[j]? = some v → Value.okWide Tryz.prog W .any base t v := hval0
  have hW' := hW
  obtain ⟨p, q, hA0, hV, rfl, hfz, hnd⟩ := hW
  have hA : DataW.TrodAll enc Tryz.prog W 0 (fun _ => true) true Tryz.f3.params.toList args.toList ds p := hA0
  rw [Tryz.params3] at hA hval
  obtain ⟨v0, vs0, d0, ds0, p0, q0, hargs, rfl, rfl, h0, r0⟩ := trodAll_cons hA
  obtain ⟨v1, vs1, d1, ds1, p1, q1, rfl, rfl, rfl, h1, r1⟩ := trodAll_cons r0
  obtain ⟨rfl, rfl, rfl⟩ := trodAll_nil r1
  obtain rfl : args = #[v0, v1] := by cases args; simp_all
  obtain ⟨A0, c0, l0, rfl, b0⟩ := Ps.open_texts (hval 0 22 v0 rfl rfl) h0
  obtain ⟨A1, c1, f1, rfl, b1⟩ := open_pcs Tryz.underlying23 Tryz.underlying45 (by kernel_rfl) rfl rfl rfl (by kernel_rfl) (by kernel_rfl) (by kernel_rfl) Tryz.underlying3 Tryz.underlying3 Tryz.underlying3 (hval 1 23 v1 rfl rfl) h1
  clear hA0 hval0
  exact law_close hW' laidOut (by kernel_rfl) rfl Tryz.underlying4 rfl ⟨rfl, rfl, rfl⟩ (walk W A0 c0 l0 b0 A1 c1 f1 b1)

theorem over : Rows.poolPartsRow.holds Tryz.pinned (OpenSpec.ofChange Rows.poolPartsSpec) :=
  OpenClaim.holds_of_wide 3 Tryz.f3 rfl rfl rfl rfl rfl rfl rfl ⟨rfl, rfl, rfl, rfl, rfl⟩ rfl rfl rfl rfl rfl (by kernel_rfl) Tryz.func3 (by kernel_rfl)
    (of_decide_eq_true (by kernel_rfl)) (by unfold Func.isWrapper; first | (rw [if_pos (by decide +kernel)]; kernel_rfl) | (rw [if_neg (by decide +kernel)]; exact ⟨rfl, rfl⟩))
    (fun os started H enc _ => lifted os started H enc)

theorem proved : Rows.PoolPartsSaid := over

end Go.Proofs.YthnpalcjfgbjeaaGreat.poolParts
