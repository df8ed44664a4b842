/- Whatever sizes and steps come in, 'pantlerlaw09.KernPlays' returns true and leaves them as they were. No condition. -/
import Derived.Test.YtbkjjakkihbcdaaGreatMAT
namespace Go.Proofs.YtbkjjakkihbcdaaGreat.kernPlays
open Go.ChangeShapes Go.WideShapes Go.ChangeAt Go.RowKit Go.Deep Di Fr
set_option linter.unusedVariables false


section
open Ke
theorem kb_left {B : Nat} {w w' : World} {lab : Nat → Nat} {g : Nat} {K K' : Kn} (h : KB B w lab g K) (l : Ke.Left w w' lab g K') (ok : K'.Ok) (hB : B ≤ w.heap.size) : ∃ lab', KB B w' lab' g K' ∧ LStep w w' lab lab' ∧ Below B w w' := by
 obtain ⟨lab', ⟨a, ha⟩, L⟩ := l
 have L2 : LStep w w' lab (off8 lab') := ⟨L.chg, fun k hk => L.old k (fun e => hk (by unfold off8; rw [e]; rfl)), fun k hk => by
  have e := L.keep k hk
  have h8 := h.n8 k
  show off8 lab' k = lab k
  unfold off8
  rw [if_neg (by omega)]
  exact e⟩
 obtain ⟨k1, k2⟩ := h.step ⟨a, ha.unmark⟩ L2 (off8_ne lab') ok hB
 exact ⟨off8 lab', k1, L2, k2⟩
theorem arrive_kb2 {B : Nat} {w : World} {lab : Nat → Nat} {g : Nat} {K : Kn} (h : KB B w lab g K) (hB : B ≤ w.heap.size) (n : Nat) (sm : K.Small n) (hn : n < 1000000) (A : Option Addr) (c : Nat) (s : List UInt8) (hs : Src w A s.length c s) :
  Calls Tryz.prog 11 #[.pointer (some ⟨g, 0, none⟩), .slice A s.length c] w fun e w' => e = .returned (.tuple #[.int .i64 (arriveR K s).2.1, .int .i64 (arriveR K s).2.2]) ∧ ∃ lab', KB B w' lab' g (arriveR K s).1 ∧ LStep w w' lab lab' ∧ Below B w w' :=
 (arrive_any h.ka h.ok n sm hn A c s hs).mono fun e w' ⟨he, l⟩ => ⟨he, kb_left h l (ok_arrive h.ok s) hB⟩
end
structure Rd (B gk g : Nat) (w : World) (lab : Nat → Nat) (K : Ke.Kn) (a : Rk.RP) (m : Nat) : Prop where
 kb : Ke.KB B w lab gk K
 rk : Rk.RKAt B w g K a
 n9 : Rk.Nine lab a g
 sm : K.Small m
 z : B ≤ w.heap.size
theorem knew_no (a0 a1 : Int) (w : World) (h : a0 < 1 ∨ 256 < a0 ∨ a1 < 4 ∨ 512 < a1) :
  Calls Tryz.prog 6 #[.int .i64 a0, .int .i64 a1] w fun e w' => e = .returned (.tuple #[.pointer none, .int .i64 1]) ∧ Below w.heap.size w w' := by
 by_cases h1 : a0 < 1 ∨ 256 < a0
 ·have FN := Lib.hid (Fr.new_no a0 w h1)
  go_enter Tryz.func6, Tryz.ntmps6
  go_wp2_with fail
  refine FN.out.mono ?_; rintro e w1 ⟨rfl, rfl⟩
  go_wp2
  go_ret2
  exact ⟨rfl, Below.refl _ _⟩
 ·obtain ⟨n, rfl⟩ : ∃ n : Nat, a0 = (n : Int) := ⟨a0.toNat, by omega⟩
  have FN := Lib.hid (Fr.new_ok n w (by omega) (by omega))
  by_cases h2 : a1 < 1 ∨ 512 < a1
  ·have DN := Lib.hid (fun W => Di.new_no a1 W h2)
   go_enter Tryz.func6, Tryz.ntmps6
   go_wp2_with fail
   refine FN.out.mono ?_; rintro e w1 ⟨rfl, _, b1, _⟩
   have B1 := Lib.hid b1
   clear b1
   go_wp2_with fail
   refine (DN.out w1).mono ?_; rintro e w2 ⟨rfl, rfl⟩
   go_wp2
   go_ret2
   exact ⟨rfl, B1.out⟩
  ·obtain ⟨b, rfl⟩ : ∃ b : Nat, a1 = (b : Int) := ⟨a1.toNat, by omega⟩
   have DN := Lib.hid (fun W => Di.new_ok b W (by omega) (by omega))
   have h4 : (b : Int) < 4 := by omega
   go_enter Tryz.func6, Tryz.ntmps6
   go_wp2_with fail
   refine FN.out.mono ?_; rintro e w1 ⟨rfl, _, b1, _⟩
   have B1 := Lib.hid b1
   clear b1
   go_wp2_with fail
   refine (DN.out w1).mono ?_; rintro e w2 ⟨rfl, _, b2, _⟩
   have B2 := Lib.hid (B1.out.trans (b2.mono B1.out.size))
   clear b2
   go_wp2
   go_ret2
   exact ⟨rfl, B2.out⟩
set_option maxRecDepth 100000 in
set_option maxHeartbeats 8000000 in
theorem walk (w : World) (a0 : Int) (w0 : (Lit.int .i64 a0).wf = true) (a1 : Int) (w1 : (Lit.int .i64 a1).wf = true) (A : Option Addr) (n c : Nat) (fn : Nat → KAct) (ha : KActs w A n fn) :
  Calls Tryz.prog 3 #[.int .i64 a0, .int .i64 a1, .slice A n c] w fun e w' => e = .returned (.bool true) ∧ Below w.heap.size w w' := by
 have HA := Lib.hid ha
 clear ha w0 w1
 have AL := Lib.hid (Ke.alive_any w)
 obtain ⟨fv, hfv⟩ : ∃ fv : Bool, fv = true ↔ ¬ Ke.NearL n fn := by
  by_cases h : Ke.NearL n fn
  ·exact ⟨false, fun e => (by cases e), fun e => absurd h e⟩
  ·exact ⟨true, fun _ => h, fun _ => rfl⟩
 have FA := Lib.hid (fun (W : World) (hw : Below w.heap.size w W) => Ke.far_any W A n c fn (Ke.kacts_new HA.out hw) fv hfv)
 have HFV := Lib.hid hfv
 clear hfv
 go_enter Tryz.func3, Tryz.ntmps3
 go_wp2_with fail
 refine AL.out.mono ?_; rintro e w1 ⟨rfl, b1⟩
 have B1 := Lib.hid b1
 clear b1 AL
 go_wp2_with fail
 refine (FA.out w1 B1.out).mono ?_; rintro e w2 ⟨rfl, b2⟩
 have B2 := Lib.hid (B1.out.trans (b2.mono B1.out.size))
 clear b2 FA B1
 cases fv with
 | true =>
  go_wp2
  go_ret
  exact ⟨rfl, B2.out⟩
 | false =>
  have HN := Lib.hid (show Ke.NearL n fn from Classical.byContradiction fun h => by have := HFV.out.2 h; cases this)
  clear HFV
  by_cases hgood : 1 ≤ a0 ∧ a0 ≤ 20 ∧ 4 ≤ a1 ∧ a1 ≤ 20
  ·obtain ⟨N, rfl⟩ : ∃ N : Nat, a0 = (N : Int) := ⟨a0.toNat, by omega⟩
   obtain ⟨M, rfl⟩ : ∃ M : Nat, a1 = (M : Int) := ⟨a1.toNat, by omega⟩
   have NK := Lib.hid (Ke.new_kb N M w2 (by omega) (by omega) (by omega) (by omega))
   have NR := Lib.hid (fun W => Rk.rknew_any N M W (by omega) (by omega) (by omega) (by omega))
   have SM0 := Lib.hid (Ke.newK_small N M)
   have g1 : ¬ (N : Int) > 20 := by omega
   have g2 : ¬ (M : Int) > 20 := by omega
   have g3 : ¬ (N : Int) < 1 := by omega
   have g4 : ¬ (N : Int) > 256 := by omega
   have g5 : ¬ (M : Int) < 4 := by omega
   have g6 : ¬ (M : Int) > 512 := by omega
   go_wp2_with fail
   refine NK.out.mono ?_; rintro e w3 ⟨gk, lab0, rfl, kb, b3⟩
   have KB3 := Lib.hid kb
   have B3 := Lib.hid (B2.out.trans (b3.mono B2.out.size))
   have Z3 := Lib.hid b3.size
   clear kb b3 NK
   go_wp2_with fail
   refine (NR.out w3).mono ?_; rintro e w4 ⟨g, a, rfl, rk, b4⟩
   obtain ⟨lab, kb4, rk4, n9⟩ := Rk.KB.besideNew KB3.out rk rfl rfl Z3.out b4
   have R4 := Lib.hid (show Rd w2.heap.size gk g w4 lab (Ke.newK N M) a 0 from ⟨kb4, rk4, n9, SM0.out, Nat.le_trans Z3.out b4.size⟩)
   have B4 := Lib.hid (B3.out.trans (b4.mono B3.out.size))
   have BW := Lib.hid B2.out.size
   obtain ⟨B, hB⟩ : ∃ B, w2.heap.size = B := ⟨_, rfl⟩
   rw [hB] at R4 BW
   clear kb4 rk4 n9 rk b4 KB3 B3 Z3 NR SM0 B2 hB g1 g2 g3 g4 g5 g6 hgood
   generalize Ke.newK N M = K0 at *
   go_wp2_with fail
   go_loopw [10] (fun s10 wr => ∃ (j : Nat) (lab' : Nat → Nat) (K : Ke.Kn) (a : Rk.RP), j ≤ n ∧ s10 = .int .i64 (j : Int) ∧ Hid (Rd B gk g wr lab' K a j) ∧ Hid (Below w.heap.size w wr)) (fun i _ => n - (intOf i).toNat)
   case atStart => exact ⟨0, lab, K0, a, Nat.zero_le _, rfl, R4, B4⟩
   case round =>
    clear R4 B4

    have hn100 : n ≤ 100 := HN.out.1
    obtain ⟨j, lab, K, a, hj, rfl, RD, HB⟩ := hrel
    by_cases hlt : j < n
    ·have hlt' : (j : Int) < (n : Int) := by omega
     have j0 : (0 : Int) ≤ (j : Int) := by omega
     have xj := IntWalk.i64_in ((j : Int) + 1) (by omega)
     obtain ⟨b, oo, rfl, hbl, hr, hin, hs9⟩ := HA.out j hlt
     have near := (HN.out.2 j hlt).1
     have near2 := (HN.out.2 j hlt).2
     have LDF := Lib.hid (fun (W : World) (hW : Below w.heap.size w W) => (show W.rangeAt b (oo + j * 10 + 1) (fn j).q.list from fun i v hi => by
      rw [World.cell?_of_block (w := w) (w' := W) (a := ⟨b, oo + j * 10 + 1 + i, none⟩) (hW.block b hbl)]
      exact Ke.kact_q hr i v hi))
     have S9 := Lib.hid (fun (W : World) (hW : Below w.heap.size w W) => (hW.cell (p := ⟨b, oo + j * 10 + 9, none⟩) hbl).trans (Ke.kact_s hr))
     have IQ := Lib.hid hin
     have NQ := Lib.hid near
     have N9 := Lib.hid near2
     have ck := (HB.out.cell (p := ⟨b, oo + j * 10, none⟩) hbl).trans (Ke.kact_kind hr)
     have GP := Lib.hid (Rk.given_prg (B := B) hin.p BW.out)
     have GQ := Lib.hid (Rk.given_pcs (B := B) hin.l BW.out)
     generalize (fn j).q = q at *
     generalize (fn j).s = t at *
     generalize (fn j).kind = kind at *
     clear hr hin hs9 near near2
     go_upto_block 2 with fail
     go_cut [] (fun wy => ∃ (lab' : Nat → Nat) (K' : Ke.Kn) (a' : Rk.RP), Hid (Rd B gk g wy lab' K' a' (j + 1)) ∧ Hid (Below w.heap.size w wy))
     case first =>
      by_cases k0 : kind = 0
      ·subst k0
       obtain ⟨r, hr⟩ : ∃ r, Ke.callR K (Ke.kq q) = r := ⟨_, rfl⟩
       obtain ⟨K', n', t', E'⟩ := r
       have HR := Lib.hid hr
       have OF := Lib.hid (Ke.of_call q wr (Ke.kc_new IQ.out HB.out) (by have := NQ.out.1; omega) (by have := NQ.out.2.1; omega) (by have := NQ.out.2.2; omega))
       go_wp2_with (first
        | (refine wpList_load_mid rfl 34 (.tmp 95) rfl b (oo + j * 10 + 1) rfl _ _ (LDF.out wr HB.out) Tryz.underlying34 rfl Ke.rcall_info ?_)
        | fail)
       refine OF.out.mono ?_; rintro e wm ⟨x, rfl, m⟩
       have bm := m.below
       have CL := Ke.call_kb (RD.out.kb.new bm) (Nat.le_trans RD.out.z bm.size) j RD.out.sm (by omega) (Ke.kq q) x (Ke.made_in RD.out.kb (Ke.kc_new IQ.out HB.out) NQ.out m)
       rw [hr] at CL
       have CL := Lib.hid CL
       have RM := Lib.hid (RD.out.rk.new bm)
       have BM := Lib.hid (HB.out.trans (bm.mono HB.out.size))
       have ZM := Lib.hid (Nat.le_trans RD.out.z bm.size)
       clear m bm OF hr ck
       dsimp only at CL
       go_wp2_with fail
       refine CL.out.mono ?_; rintro e wn ⟨An, cn, rfl, labN, kN, LN, bN, sN, oN⟩
       have RN := RM.out.beside RD.out.n9 RD.out.kb.ge LN
       have BN := Lib.hid (BM.out.trans (bN.mono BW.out))
       have ZN := Lib.hid (Nat.le_trans ZM.out bN.size)
       obtain ⟨W1, hW1⟩ : ∃ W1, wn.alloc (.cells #[.int .i64 n', .slice An t'.length cn] 39) = W1 := ⟨_, rfl⟩
       have b1 : Below wn.heap.size wn W1 := by rw [← hW1]; exact (Below.refl _ wn).alloc (Nat.le_refl _) _
       have DB := Lib.hid (show Blk W1 wn.heap.size 39 #[.int .i64 n', .slice An t'.length cn] from by rw [← hW1]; exact Blk.new wn _ _)
       have QB := Lib.hid (show ¬ a.foot g wn.heap.size from fun e => absurd (RN.1.lt _ e) (Nat.lt_irrefl _))
       have ON := Lib.hid oN
       have S1 := Lib.hid (sN.below b1)
       have K1 := Lib.hid (kN.new b1)
       have R1 := Lib.hid (RN.1.new b1)
       have N1 := Lib.hid RN.2
       have B1 := Lib.hid (BN.out.trans (b1.mono BN.out.size))
       have Z1 := Lib.hid (Nat.le_trans ZN.out b1.size)
       have HW1 := Lib.hid hW1
       clear kN LN bN sN oN CL RN b1 hW1 RM BM BN ZM ZN
       go_upto_region 17 with fail
       rw [HW1.out]
       clear HW1
       generalize wn.heap.size = qb at *
       have RC := Rk.rcall_any R1.out RD.out.kb.ok ⟨by have := RD.out.sm.next; omega, by have := RD.out.sm.out; omega, by have := RD.out.sm.line; omega⟩ q (Ke.kc_new IQ.out B1.out) NQ.out.1 (by have := NQ.out.2.1; omega) (by have := NQ.out.2.2; omega) GP.out GQ.out
       have RC := Lib.hid RC
       go_wp2_with (first
        | (refine wpList_load_mid rfl 34 (.tmp 106) rfl b (oo + j * 10 + 1) rfl _ _ (LDF.out W1 B1.out) Tryz.underlying34 rfl Ke.rcall_info ?_)
        | fail)
       refine RC.out.mono ?_; rintro e w2x hrc
       unfold Rk.RCPost at hrc
       rw [HR.out] at hrc
       obtain ⟨rfl, rs⟩ := hrc
       dsimp only at rs ⊢
       obtain ⟨lab2, a2, kb2, rk2, n2, k2, b2⟩ := Rk.KB.beside K1.out Z1.out N1.out rs
       have OKK := Lib.hid (show Rd B gk g w2x lab2 K' a2 (j + 1) from ⟨kb2, rk2, n2, by have := Ke.small_call RD.out.sm (Ke.kq q); rw [HR.out] at this; exact this, Nat.le_trans Z1.out b2.size⟩)
       have B2 := Lib.hid (B1.out.trans (b2.mono BW.out))
       have D2 := Lib.hid (DB.out.chg k2 QB.out)
       have TO := Di.told_str (Rk.src_chg0 S1.out k2 (fun h0 b o e hf => ON.out h0 b o e (by show labN b ≠ 0; rw [N1.out b hf]; decide)))
       have e0 := (D2.out.cell 0).trans (show _ = some (.int .i64 n') from rfl)
       have e1 := (D2.out.cell 1).trans (show _ = some (.slice An t'.length cn) from rfl)
       clear rs kb2 rk2 n2 k2 b2 RC
       go_wp2
       go_meet
       exact ⟨lab2, K', a2, OKK, B2⟩
      ·have f0 : (kind == 0) = false := by simpa using k0
       by_cases k1 : kind = 1
       ·subst k1
        obtain ⟨r, hr⟩ : ∃ r, Ke.arriveR K t.data.toList = r := ⟨_, rfl⟩
        obtain ⟨K', x', E'⟩ := r
        have HR := Lib.hid hr
        have L9 := S9.out wr HB.out
        obtain ⟨At, ct, Wt, heqt, st, bt, nt⟩ := Di.conv_src t (by have := N9.out; omega) wr
        have AR := arrive_kb2 (RD.out.kb.new bt) (Nat.le_trans RD.out.z bt.size) j RD.out.sm (by omega) At ct t.data.toList st
        rw [show t.data.toList.length = t.size from rfl, hr] at AR
        have AR := Lib.hid AR
        have RM := Lib.hid (RD.out.rk.new bt)
        have BM := Lib.hid (HB.out.trans (bt.mono HB.out.size))
        have ZT := Lib.hid bt.size
        clear st bt nt hr ck
        dsimp only at AR
        go_wp2_with fail
        refine AR.out.mono ?_; rintro e wu ⟨rfl, labU, ku, Lu, bu⟩
        have RN := RM.out.beside RD.out.n9 RD.out.kb.ge Lu
        have R1 := Lib.hid RN.1
        have N1 := Lib.hid RN.2
        have K1 := Lib.hid ku
        have B1 := Lib.hid (BM.out.trans (bu.mono BW.out))
        have Z1 := Lib.hid (Nat.le_trans (Nat.le_trans RD.out.z (show wr.heap.size ≤ Wt.heap.size from ZT.out)) bu.size)
        have L10 := S9.out wu B1.out
        have RA := Rk.rarrive_any R1.out RD.out.kb.ok t.data.toList (by have := N9.out; show t.size ≤ 1000000; omega)
        rw [HR.out, show (⟨t.data.toList.toArray⟩ : ByteArray) = t from by simp] at RA
        have RA := Lib.hid RA
        clear ku Lu bu AR RN heqt L9 RM BM
        dsimp only at RA
        go_wp2_with fail
        refine RA.out.mono ?_; rintro e w2x ⟨rfl, rs⟩
        obtain ⟨lab2, a2, kb2, rk2, n2, k2, b2⟩ := Rk.KB.beside K1.out Z1.out N1.out rs
        have OKK := Lib.hid (show Rd B gk g w2x lab2 K' a2 (j + 1) from ⟨kb2, rk2, n2, by have := Ke.small_arrive RD.out.sm t.data.toList; rw [HR.out] at this; exact this, Nat.le_trans Z1.out b2.size⟩)
        have B2 := Lib.hid (B1.out.trans (b2.mono BW.out))
        clear rs kb2 rk2 n2 k2 b2 RA L10
        go_wp2
        go_meet
        exact ⟨lab2, K', a2, OKK, B2⟩
       ·have f1 : (kind == 1) = false := by simpa using k1
        by_cases k2 : kind = 2
        ·subst k2
         obtain ⟨r, hr⟩ : ∃ r, Ke.departR K = r := ⟨_, rfl⟩
         obtain ⟨K', t', n', E'⟩ := r
         have HR := Lib.hid hr
         have DP := Ke.depart2_any RD.out.kb.ka RD.out.kb.ok j RD.out.sm (by omega)
         rw [hr] at DP
         have DP := Lib.hid DP
         have OK2 := Lib.hid (show K'.Ok from by have := Ke.ok_depart RD.out.kb.ok; rw [hr] at this; exact this)
         clear hr ck
         go_wp2_with fail
         refine DP.out.mono ?_; rintro e wu ⟨Ad, cd, rfl, lf, sd, fd⟩
         obtain ⟨labU, ku, Lu, bu⟩ := kb_left RD.out.kb lf OK2.out RD.out.z
         have RN := RD.out.rk.beside RD.out.n9 RD.out.kb.ge Lu
         have R1 := Lib.hid RN.1
         have N1 := Lib.hid RN.2
         have K1 := Lib.hid ku
         have SD := Lib.hid sd
         have FD := Lib.hid fd
         have LT := Lib.hid RD.out.rk.lt
         have B1 := Lib.hid (HB.out.trans (bu.mono BW.out))
         have Z1 := Lib.hid (Nat.le_trans RD.out.z bu.size)
         have RDP := Rk.rdepart_any R1.out RD.out.kb.ok (by have := RD.out.sm.out; omega)
         rw [HR.out] at RDP
         have RDP := Lib.hid RDP
         clear ku Lu bu lf sd fd RN DP
         dsimp only at RDP SD FD ⊢
         go_wp2_with fail
         refine RDP.out.mono ?_; rintro e w2x ⟨rfl, rs⟩
         obtain ⟨lab2, a2, kb2, rk2, n2, k2, b2⟩ := Rk.KB.beside K1.out Z1.out N1.out rs
         have OKK := Lib.hid (show Rd B gk g w2x lab2 K' a2 (j + 1) from ⟨kb2, rk2, n2, by have := Ke.small_depart RD.out.sm; rw [HR.out] at this; exact this, Nat.le_trans Z1.out b2.size⟩)
         have B2 := Lib.hid (B1.out.trans (b2.mono BW.out))
         have TO := Di.told_str (Rk.src_chg0 SD.out k2 (fun h0 b o e hf => by have h1 := FD.out h0 b o e; have h2 := LT.out b hf; omega))
         clear rs kb2 rk2 n2 k2 b2 RDP
         go_wp2
         go_meet
         exact ⟨lab2, K', a2, OKK, B2⟩
        ·have f2 : (kind == 2) = false := by simpa using k2
         have OKK := Lib.hid (show Rd B gk g wr lab K a (j + 1) from ⟨RD.out.kb, RD.out.rk, RD.out.n9, RD.out.sm.mono (by omega), RD.out.z⟩)
         go_wp2
         go_meet
         exact ⟨lab, K, a, OKK, HB⟩
     case rest => as_aux_lemma =>
      obtain ⟨lab', K', a', RC, BC⟩ := hcut
      clear LDF S9 IQ NQ N9 GP GQ RD HB ck
      obtain ⟨ad, hka⟩ := RC.out.kb.ka
      have KAD := Lib.hid hka
      have R := Lib.hid RC.out.rk
      have GL := Lib.hid (R.out.lt g (.inl rfl))
      have C0 := Lib.hid R.out.heads.1
      have C1 := Lib.hid R.out.heads.2.1
      obtain ⟨bt, bo, ct, co, Al, cl, rd, hRR⟩ := R.out.dsk
      have C2 := Lib.hid ((rd.head.cell 2).trans (show _ = some (.slice Al K'.dk.line.length cl) from rfl))
      have DL := Lib.hid rd.head.lt
      clear hka rd hRR
      go_upto_region 30 with fail
      refine wp_region_held_drew (S := fun w' => Hid (Below wc.heap.size wc w')) (by kernel_rfl) (Lib.hid ((Below.refl wc.heap.size wc).drew)) (fun hS => ?_)
      refine ht 0 (some 187) (v := ?_) rfl rfl ?_ hS ?_
      rotate_left
      ·intro w' hSw; go_simp <;> with_reducible rfl
      refine ht 2 (some 189) (v := ?_) rfl rfl ?_ hS ?_
      rotate_left
      ·intro w' hSw; go_simp <;> with_reducible rfl
      simp only [Act.put, List.setIfInBounds_toArray, List.set_cons_zero, List.set_cons_succ]
      refine ht 3 (some 190) (v := ?_) rfl rfl ?_ hS ?_
      rotate_left
      ·intro w' hSw; go_simp <;> with_reducible rfl
      refine ht 4 (some 191) (v := ?_) rfl rfl ?_ hS ?_
      rotate_left
      ·intro w' hSw; go_simp <;> with_reducible rfl
      simp only [Act.put, List.setIfInBounds_toArray, List.set_cons_zero, List.set_cons_succ]
      refine ht 5 (some 192) (v := ?_) rfl rfl ?_ hS ?_
      rotate_left
      ·intro w' hSw; have kb := hSw.out; clear hSw; have z := (kb.cell (p := ⟨g, 0, none⟩) GL.out).trans C0.out; clear kb; go_simp <;> with_reducible rfl
      simp only [Act.put, List.setIfInBounds_toArray, List.set_cons_zero, List.set_cons_succ]
      refine held_one (i := 1) (by kernel_rfl) rfl (by rfl) ?_
      go_simp
      refine (Ke.table_any (KAD.out.drewN 1)).mono ?_; rintro e w4 ⟨rfl, rfl⟩
      have hS : Hid (Below wc.heap.size wc wc.drew) := Lib.hid ((Below.refl wc.heap.size wc).drew)
      refine ⟨hS, ?_⟩
      (try simp only [Act.put, List.setIfInBounds_toArray, List.set_cons_zero, List.set_cons_succ])
      refine held_one (i := 6) (by kernel_rfl) rfl (by rfl) ?_
      go_simp
      refine (showsZ_any (KAD.out.drewN 1).tab (R.out.tab.drewN 1)).mono ?_; rintro e w5 ⟨rfl, b5⟩
      have B5 := Lib.hid ((Below.refl wc.heap.size wc).drew.trans b5)
      have hS : Hid (Below wc.heap.size wc w5) := B5
      refine ⟨hS, ?_⟩
      clear b5
      (try simp only [Act.put, List.setIfInBounds_toArray, List.set_cons_zero, List.set_cons_succ])
      refine ht 7 (some 194) (v := ?_) rfl rfl ?_ hS ?_
      rotate_left
      ·intro w' hSw; go_simp <;> with_reducible rfl
      refine ht 8 (some 195) (v := ?_) rfl rfl ?_ hS ?_
      rotate_left
      ·intro w' hSw; go_simp <;> with_reducible rfl
      simp only [Act.put, List.setIfInBounds_toArray, List.set_cons_zero, List.set_cons_succ]
      refine ht 9 (some 196) (v := ?_) rfl rfl ?_ hS ?_
      rotate_left
      ·intro w' hSw; go_simp <;> with_reducible rfl
      refine ht 12 (some 199) (v := ?_) rfl rfl ?_ hS ?_
      rotate_left
      ·intro w' hSw; go_simp <;> with_reducible rfl
      simp only [Act.put, List.setIfInBounds_toArray, List.set_cons_zero, List.set_cons_succ]
      refine ht 13 (some 200) (v := ?_) rfl rfl ?_ hS ?_
      rotate_left
      ·intro w' hSw; go_simp <;> with_reducible rfl
      refine ht 14 (some 201) (v := ?_) rfl rfl ?_ hS ?_
      rotate_left
      ·intro w' hSw; go_simp <;> with_reducible rfl
      simp only [Act.put, List.setIfInBounds_toArray, List.set_cons_zero, List.set_cons_succ]
      refine ht 15 (some 202) (v := ?_) rfl rfl ?_ hS ?_
      rotate_left
      ·intro w' hSw; have kb := hSw.out; clear hSw; have z := (kb.cell (p := ⟨g, 1, none⟩) GL.out).trans C1.out; clear kb; go_simp <;> with_reducible rfl
      refine ht 16 (some 203) (v := ?_) rfl rfl ?_ hS ?_
      rotate_left
      ·intro w' hSw; go_simp <;> with_reducible rfl
      simp only [Act.put, List.setIfInBounds_toArray, List.set_cons_zero, List.set_cons_succ]
      refine ht 17 (some 204) (v := ?_) rfl rfl ?_ hS ?_
      rotate_left
      ·intro w' hSw; go_simp <;> with_reducible rfl
      refine ht 18 (some 205) (v := ?_) rfl rfl ?_ hS ?_
      rotate_left
      ·intro w' hSw; have kb := hSw.out; clear hSw; have z := (kb.cell (p := ⟨a'.gd, 2, none⟩) DL.out).trans C2.out; clear kb; go_simp <;> with_reducible rfl
      simp only [Act.put, List.setIfInBounds_toArray, List.set_cons_zero, List.set_cons_succ]
      refine ht 19 (some 206) (v := ?_) rfl rfl ?_ hS ?_
      rotate_left
      ·intro w' hSw; go_simp <;> with_reducible rfl
      simp only [Act.put, List.setIfInBounds_toArray, List.set_cons_zero, List.set_cons_succ]
      refine held_one (i := 10) (by kernel_rfl) rfl (by rfl) ?_
      go_simp
      refine (Rk.kdisk_any (KAD.out.new B5.out)).mono ?_; rintro e w6 ⟨rfl, hw6⟩; subst w6
      have hS : Hid (Below wc.heap.size wc w5) := B5
      refine ⟨hS, ?_⟩
      (try simp only [Act.put, List.setIfInBounds_toArray, List.set_cons_zero, List.set_cons_succ])
      refine held_one (i := 11) (by kernel_rfl) rfl (by rfl) ?_
      go_simp
      refine (Rk.kwaits_any (KAD.out.new B5.out)).mono ?_; rintro e w7 ⟨rfl, hw7⟩; subst w7
      have hS : Hid (Below wc.heap.size wc w5) := B5
      refine ⟨hS, ?_⟩
      (try simp only [Act.put, List.setIfInBounds_toArray, List.set_cons_zero, List.set_cons_succ])
      refine ht 20 (some 207) (v := ?_) rfl rfl ?_ hS ?_
      rotate_left
      ·intro w' hSw; go_simp <;> with_reducible rfl
      refine ht 21 (some 208) (v := ?_) rfl rfl ?_ hS ?_
      rotate_left
      ·intro w' hSw; go_simp <;> with_reducible rfl
      simp only [Act.put, List.setIfInBounds_toArray, List.set_cons_zero, List.set_cons_succ]
      refine wpAnyH_done (by kernel_rfl) ?_ _
      have B9 := Lib.hid (BC.out.trans (B5.out.mono BC.out.size))
      have R9 := Lib.hid (show Rd B gk g w5 lab' K' a' (j + 1) from ⟨RC.out.kb.new B5.out, RC.out.rk.new B5.out, RC.out.n9, RC.out.sm, Nat.le_trans RC.out.z B5.out.size⟩)
      clear hS B5 C0 C1 C2 GL DL KAD R RC BC
      go_wp2
      go_roundw
      case rel => exact ⟨j + 1, lab', K', a', by omega, by go_num, R9, B9⟩
      case measure => simp [intOf]; omega
    ·have hlt' : ¬ (j : Int) < (n : Int) := by omega
     go_wp2
     go_ret
     exact ⟨rfl, HB.out⟩
  ·by_cases c1 : a0 > 20
   ·by_cases c2 : a0 ≤ 256
    ·go_wp2
     go_ret
     exact ⟨rfl, B2.out⟩
    ·by_cases c3 : a1 > 20
     ·by_cases c4 : a1 ≤ 512
      ·go_wp2
       go_ret
       exact ⟨rfl, B2.out⟩
      ·have NN := Lib.hid (knew_no a0 a1 w2 (by omega))
       have d1 : ¬ a0 < 1 := by omega
       have d2 : a0 > 256 := by omega
       go_wp2_with fail
       refine NN.out.mono ?_; rintro e w3 ⟨rfl, b3⟩
       have B3 := Lib.hid (B2.out.trans (b3.mono B2.out.size))
       clear b3
       go_wp2
       go_ret
       exact ⟨rfl, B3.out⟩
     ·have NN := Lib.hid (knew_no a0 a1 w2 (by omega))
      have d1 : ¬ a0 < 1 := by omega
      have d2 : a0 > 256 := by omega
      go_wp2_with fail
      refine NN.out.mono ?_; rintro e w3 ⟨rfl, b3⟩
      have B3 := Lib.hid (B2.out.trans (b3.mono B2.out.size))
      clear b3
      go_wp2
      go_ret
      exact ⟨rfl, B3.out⟩
   ·by_cases c3 : a1 > 20
    ·by_cases c4 : a1 ≤ 512
     ·go_wp2
      go_ret
      exact ⟨rfl, B2.out⟩
     ·have NN := Lib.hid (knew_no a0 a1 w2 (by omega))
      have d2 : ¬ a0 > 256 := by omega
      have d3 : ¬ a1 < 4 := by omega
      have d4 : a1 > 512 := by omega
      by_cases d1 : a0 < 1
      ·go_wp2_with fail
       refine NN.out.mono ?_; rintro e w3 ⟨rfl, b3⟩
       have B3 := Lib.hid (B2.out.trans (b3.mono B2.out.size))
       clear b3
       go_wp2
       go_ret
       exact ⟨rfl, B3.out⟩
      ·go_wp2_with fail
       refine NN.out.mono ?_; rintro e w3 ⟨rfl, b3⟩
       have B3 := Lib.hid (B2.out.trans (b3.mono B2.out.size))
       clear b3
       go_wp2
       go_ret
       exact ⟨rfl, B3.out⟩
    ·have NN := Lib.hid (knew_no a0 a1 w2 (by omega))
     have d2 : ¬ a0 > 256 := by omega
     by_cases d1 : a0 < 1
     ·go_wp2_with fail
      refine NN.out.mono ?_; rintro e w3 ⟨rfl, b3⟩
      have B3 := Lib.hid (B2.out.trans (b3.mono B2.out.size))
      clear b3
      go_wp2
      go_ret
      exact ⟨rfl, B3.out⟩
     ·have d3 : a1 < 4 := by omega
      go_wp2_with fail
      refine NN.out.mono ?_; rintro e w3 ⟨rfl, b3⟩
      have B3 := Lib.hid (B2.out.trans (b3.mono B2.out.size))
      clear b3
      go_wp2
      go_ret
      exact ⟨rfl, B3.out⟩

set_option maxRecDepth 100000 in
theorem lifted (os : Os) (started : os.Started) (H : Type) (enc : TypeId × Value → H) :
  ReturnsInHanded {} Tryz.checked os 3 .any (Rows.kernPlaysSpec.pre6 enc Tryz.prog Tryz.f3 Rows.kernPlaysRow.domain false) (Rows.kernPlaysSpec.post enc Tryz.prog Tryz.f3 false true false false) := by
 refine returnsInHanded_of_change (C := Tryz.checked) own started (by kernel_rfl) Tryz.func3
  (ChangeSpec.witness6 (enc := enc) (C := Tryz.checked) false ⟨#[], #[.int .i64 0, .int .i64 0, .slice none 0 0], []⟩ 8 (by kernel_rfl) (by kernel_rfl) (by kernel_rfl) (by kernel_rfl)) ?_
 intro W base args ds gs before hval0 hW hcnd _
 have hval : ∀ (j : Nat) t v, Tryz.f3.params[j]? = some t → args[j]? = some v → Value.okWide Tryz.prog W .any base t v := hval0
 have hW' := hW
 obtain ⟨p, q, hA0, hV, rfl, hfz, hnd⟩ := hW
 have hA : DataW.TrodAll enc Tryz.prog W 0 (fun _ => true) true Tryz.f3.params.toList args.toList ds p := hA0
 rw [Tryz.params3] at hA hval
 obtain ⟨v0, vs0, d0, ds0, p0, q0, hargs, rfl, rfl, h0, r0⟩ := trodAll_cons hA
 obtain ⟨v1, vs1, d1, ds1, p1, q1, rfl, rfl, rfl, h1, r1⟩ := trodAll_cons r0
 obtain ⟨v2, vs2, d2, ds2, p2, q2, rfl, rfl, rfl, h2, r2⟩ := trodAll_cons r1
 obtain ⟨rfl, rfl, rfl⟩ := trodAll_nil r2
 obtain rfl : args = #[v0, v1, v2] := by cases args; simp_all
 obtain ⟨a0, rfl, _, _, w0⟩ := open_int Tryz.underlying3 (hval 0 3 v0 rfl rfl) h0
 obtain ⟨a1, rfl, _, _, w1⟩ := open_int Tryz.underlying3 (hval 1 3 v1 rfl rfl) h1
 obtain ⟨A2, n2, c2, f2, rfl, b2⟩ := open_kacts (hval 2 22 v2 rfl rfl) h2
 clear hA0 hval0
 exact law_close hW' laidOut (by kernel_rfl) rfl Tryz.underlying4 rfl ⟨rfl, rfl, rfl⟩ (walk W a0 w0 a1 w1 A2 n2 c2 f2 b2)

theorem over : Rows.kernPlaysRow.holds Tryz.pinned (OpenSpec.ofChange Rows.kernPlaysSpec) :=
 OpenClaim.holds_of_wide 3 Tryz.f3 rfl rfl rfl rfl rfl rfl rfl ⟨rfl, rfl, rfl, rfl, rfl⟩ rfl rfl rfl rfl rfl (by kernel_rfl) Tryz.func3 (by kernel_rfl)
  (of_decide_eq_true (by kernel_rfl)) (by unfold Func.isWrapper; first | (rw [if_pos (by decide +kernel)]; kernel_rfl) | (rw [if_neg (by decide +kernel)]; exact ⟨rfl, rfl⟩))
  (fun os started H enc _ => lifted os started H enc)

theorem proved : Rows.KernPlaysSaid := over

end Go.Proofs.YtbkjjakkihbcdaaGreat.kernPlays
