/- Whatever steps and text come in, 'pantlerlaw09.KernApart' returns true and leaves them as they were. No condition. -/
import Derived.Test.YtlilfblnlpjkcaaKE
namespace Go.Proofs.Ytlilfblnlpjkcaa.kernApart
open Go.ChangeShapes Go.WideShapes Go.ChangeAt Go.RowKit Go.Deep Di
set_option linter.unusedVariables false


theorem all_in {w : World} (q : Nat) (hb : Blk w q 40 #[.int .i64 7, .int .u32 1, .int .i64 0, .int .i64 0]) : Prg w (some ⟨q, 0, none⟩) Ke.allP := by
  intro i hi
  have h0 : i = 0 := by have : i < 1 := hi; omega
  subst h0
  refine ⟨q, 0, rfl, hb.lt, fun j v hj => ?_⟩
  have e : (0 : Nat) + 0 * 4 + j = j := by omega
  rw [e, hb.cell j, List.getElem?_toArray]
  exact hj
theorem all_kq {w' : World} {lab : Nat → Nat} (q : Nat) (hb : Blk w' q 40 #[.int .i64 7, .int .u32 1, .int .i64 0, .int .i64 0]) : (⟨9, 1, 0, 0, 0, [], Ke.allP, []⟩ : Ke.KQ).In w' lab ⟨none, 0, some ⟨q, 0, none⟩, 1, none, 0⟩ :=
  ⟨(by show _ ≤ (0 : Int) ∧ (0 : Int) ≤ _; omega), Src.nil w', fun b o e => (by cases e), all_in q hb, fun e => (by cases e), (by show 1 ≤ 1000000; omega), Ke.allP_ok, fun i hi => absurd hi (by simp), fun p hp => (by cases hp), fun b o e => (by cases e), Nat.le_refl _, by simp⟩

set_option maxRecDepth 100000 in
set_option maxHeartbeats 4000000 in
theorem walk (w : World) (A : Option Addr) (n c : Nat) (fn : Nat → KAct) (ha : KActs w A n fn) (s : ByteArray) (ws : s.size ≤ maxLen) :
    Calls Try.prog 3 #[.slice A n c, .string s] w fun e w' => e = .returned (.bool true) ∧ Below w.heap.size w w' := by
  have HA := Lib.hid ha
  clear ha
  have AL := Lib.hid (Ke.alive_any w)
  by_cases hn : Ke.NearL n fn
  · have FA := Lib.hid (fun (W : World) (hw : Below w.heap.size w W) => Ke.far_any W A n c fn (Ke.kacts_new HA.out hw) false ⟨fun h => absurd h (by decide), fun h => absurd hn h⟩)
    have HN := Lib.hid hn
    clear hn
    by_cases h2 : 200 < s.size
    · have g2 : (s.size : Int) > 200 := by omega
      go_enter Try.func3, Try.ntmps3
      go_wp2_with fail
      refine AL.out.mono ?_; rintro e w1 ⟨rfl, b1⟩
      have B1 := Lib.hid b1
      clear b1
      go_wp2_with fail
      refine (FA.out _ B1.out).mono ?_; rintro e w2 ⟨rfl, b2⟩
      have B2 := Lib.hid (B1.out.trans (b2.mono B1.out.size))
      clear b2
      go_wp2
      go_ret
      exact ⟨rfl, B2.out⟩
    have g2 : ¬ (s.size : Int) > 200 := by omega
    go_enter Try.func3, Try.ntmps3
    go_wp2_with fail
    refine AL.out.mono ?_; rintro e w1 ⟨rfl, b1⟩
    have B1 := Lib.hid b1
    clear b1
    go_wp2_with fail
    refine (FA.out _ B1.out).mono ?_; rintro e w2 ⟨rfl, b2⟩
    have B2 := Lib.hid (B1.out.trans (b2.mono B1.out.size))
    clear b2 FA AL
    go_wp2_with fail
    refine (Ke.new_kb 4 8 w2 (by omega) (by omega) (by omega) (by omega)).mono ?_; rintro e w3 ⟨g, lab, rfl, k3, b3⟩
    have K3 := Lib.hid k3
    have B3 := Lib.hid (B2.out.trans (b3.mono B2.out.size))
    have CA := Lib.hid (Ke.call_kb k3 b3.size 0 (Ke.newK_small 4 8) (by omega) (Ke.bare 1 1 0 0 0) Ke.noX (Ke.bare_in _ _ _ _ _ _ _ (by omega)))
    rw [Ke.sK1_call] at CA
    have hz3 := b3.size
    clear b3 k3
    go_wp2_with fail
    refine CA.out.mono ?_; rintro e w4 ⟨A4, c4, rfl, lab4, k4, L4, b4, _, _⟩
    have K4 := Lib.hid k4
    have B4 := Lib.hid (B3.out.trans (b4.mono B2.out.size))
    have hz2 : w2.heap.size ≤ w4.heap.size := Nat.le_trans hz3 b4.size
    clear k4 L4 b4 CA K3
    obtain ⟨W, hW⟩ : ∃ W, W = w4.alloc (.cells #[.int .i64 0, .slice A4 0 c4] 31) := ⟨_, rfl⟩
    have b5 : Below w4.heap.size w4 W := by rw [hW]; exact (Below.refl _ w4).alloc (Nat.le_refl _) _
    have D5 := Lib.hid (show Blk W w4.heap.size 31 #[.int .i64 0, .slice A4 0 c4] by rw [hW]; exact Blk.new w4 _ _)
    have K5 := Lib.hid (K4.out.new b5)
    have B5 := Lib.hid (B4.out.trans (b5.mono B4.out.size))
    have HW := Lib.hid hW
    have l5 : lab4 w4.heap.size = 0 := K4.out.lab0 (Nat.le_refl _)
    have hz5 : w2.heap.size ≤ W.heap.size := Nat.le_trans hz2 b5.size
    have hzw : w4.heap.size < W.heap.size := by rw [hW]; simp
    clear hW b5
    go_upto_region 7 with fail
    rw [show w4.alloc (.cells #[.int .i64 0, .slice A4 0 c4] 31) = W from HW.out.symm]
    clear HW K4
    generalize hq4 : w4.heap.size = q4 at *
    clear hq4
    have d5 := (D5.out.cell 0).trans (show _ = some (.int .i64 0) from rfl)
    obtain ⟨c6, W6, heq, s6, b6', n6⟩ := Ke.conv_own s (by omega) W
    have K6 := Lib.hid (K5.out.new b6')
    have D6 := Lib.hid (D5.out.older (older_below b6'))
    have B6 := Lib.hid (B5.out.trans (b6'.mono B5.out.size))
    have hz6 : w2.heap.size ≤ W6.heap.size := Nat.le_trans hz5 b6'.size
    have CW := Lib.hid (Ke.call_kb K6.out hz6 0 Ke.sK1_small (by omega) _ _ (Ke.bytes_in s6 n6 (K5.out.lab0 (Nat.le_refl _)) 5 1 0 ((0 : Nat) : Int) (by omega)))
    rw [Ke.sK2_call 0 s.data.toList (by have : s.data.toList.length = s.size := rfl; omega)] at CW
    have hzw6 : q4 < W6.heap.size := Nat.lt_of_lt_of_le hzw b6'.size
    clear s6 b6' n6 K5 D5 B5
    go_wp2_with fail
    refine CW.out.mono ?_; rintro e w7 ⟨A7, c7, rfl, lab7, k7, L7, b7, _, _⟩
    have K7 := Lib.hid k7
    have D7 := Lib.hid (L7.blk0 D6.out l5)
    have l7 : lab7 q4 = 0 := L7.zero l5 hzw6
    have B7 := Lib.hid (B6.out.trans (b7.mono B2.out.size))
    have hz7 : w2.heap.size ≤ w7.heap.size := Nat.le_trans hz6 b7.size
    clear k7 L7 b7 CW K6 D6 B6 heq d5 hzw6 hzw hz6 hz5
    have hmk := make256 w7
    obtain ⟨W8, hW8⟩ : ∃ W8, W8 = w7.alloc (.cells (madeCells #[.int .u8 0] 256) 5) := ⟨_, rfl⟩
    have b8 : Below w7.heap.size w7 W8 := by rw [hW8]; exact (Below.refl _ w7).alloc (Nat.le_refl _) _
    have E8 := Lib.hid (show Blk W8 w7.heap.size 5 (madeCells #[.int .u8 0] 256) by rw [hW8]; exact Blk.new w7 _ _)
    rw [← hW8] at hmk
    clear hW8
    go_wp2_with (refine Ke.wpList_copy_str rfl _ _ rfl w7.heap.size s rfl rfl E8.out (by omega) ?_; refine Hid.out ?_)
    unfold Hid
    intro w9 k9 s9 h9
    have b9 : Below w7.heap.size w7 w9 := b8.trans (k9.below (B := w7.heap.size) b8.size (fun k hk => by have : k = w7.heap.size := hk; omega))
    have OW := Lib.hid (show Ke.OwnAt w9 lab7 w7.heap.size 256 256 (Ke.blkT s) from ⟨s9, h9, K7.out.lab0 (Nat.le_refl _)⟩)
    have K9 := Lib.hid (K7.out.new b9)
    have D9 := Lib.hid (D7.out.older (older_below b9))
    have B9 := Lib.hid (B7.out.trans (b9.mono B7.out.size))
    have hz9 : w2.heap.size ≤ w9.heap.size := Nat.le_trans hz7 b9.size
    have CB := Lib.hid (Ke.call_kb K9.out hz9 0 (Ke.sK2_small 0 s.data.toList) (by omega) _ _ (Ke.bytes_in s9 h9 (K7.out.lab0 (Nat.le_refl _)) 7 1 0 0 (by omega)))
    rw [Ke.aK2_call s.data.toList (Ke.blkT s) (Ke.blkT_len (by omega)), Ke.blk_cells _ (by omega)] at CB
    clear k9 s9 h9 b9 K7 D7 B7 E8 b8 hmk
    go_wp2_with fail
    refine CB.out.mono ?_; rintro e wa ⟨Aa, ca, rfl, laba, ka, La, ba, _, _⟩
    have Ka := Lib.hid ka
    have OWa := Lib.hid (OW.out.step La)
    have Da := Lib.hid (La.blk0 D9.out l7)
    have la : laba q4 = 0 := La.zero l7 D9.out.lt
    have Ba := Lib.hid (B9.out.trans (ba.mono B2.out.size))
    have hza : w2.heap.size ≤ wa.heap.size := Nat.le_trans hz9 ba.size
    clear ka La ba CB K9 D9 B9 OW hz9 hz7 hz3 hz2
    obtain ⟨WB, hWB⟩ : ∃ WB, WB = wa.alloc (.cells #[.int .i64 7, .int .u32 1, .int .i64 0, .int .i64 0] 40) := ⟨_, rfl⟩
    have bB : Below wa.heap.size wa WB := by rw [hWB]; exact (Below.refl _ wa).alloc (Nat.le_refl _) _
    have CBk := show Blk WB wa.heap.size 40 #[.int .i64 7, .int .u32 1, .int .i64 0, .int .i64 0] by rw [hWB]; exact Blk.new wa _ _
    have hzB : w2.heap.size ≤ WB.heap.size := Nat.le_trans hza bB.size
    have KBB := Ka.out.new bB
    have CC := Lib.hid (Ke.call_kb KBB hzB 1 (Ke.aK2_small _ _) (by omega) _ _ (all_kq wa.heap.size CBk))
    rw [Ke.aK3_call] at CC
    have OWB := Lib.hid (OWa.out.new bB)
    have DB := Lib.hid (Da.out.older (older_below bB))
    have BB := Lib.hid (Ba.out.trans (bB.mono Ba.out.size))
    have HWB := Lib.hid hWB
    clear bB CBk hWB KBB Ka OWa Da Ba
    go_wp2_with fail
    rw [show wa.alloc (.cells #[.int .i64 7, .int .u32 1, .int .i64 0, .int .i64 0] 40) = WB from HWB.out.symm]
    refine CC.out.mono ?_; rintro e w5 ⟨A5, c5, rfl, lab5, k5, L5, b5, _, _⟩
    have K5 := Lib.hid k5
    have OW5 := Lib.hid (OWB.out.step L5)
    have D5 := Lib.hid (show Blk w5 q4 31 #[.int .i64 0, .slice A4 0 c4] ∧ lab5 q4 = 0 from ⟨L5.blk0 DB.out la, L5.zero la DB.out.lt⟩)
    have B5 := Lib.hid (BB.out.trans (b5.mono B2.out.size))
    have Z5 := Lib.hid (Nat.le_trans hzB b5.size)
    have P5 := Lib.hid (Ke.aK_apt s.data.toList (Ke.blkT s))
    have M5 := Lib.hid (Ke.aK3_small s.data.toList (Ke.blkT s))
    clear k5 L5 b5 CC OWB DB BB HWB hza hzB la l7 l5
    generalize Ke.cK (Ke.aK2 s.data.toList (Ke.blkT s)) = K0 at *
    generalize hgb : w7.heap.size = gb at *
    clear hgb
    go_wp2_with fail
    have R5 := Lib.hid (show Ke.Rnd w2.heap.size q4 gb g A4 c4 s (10 + 5 * 0) w5 lab5 K0 from ⟨K5.out, P5.out, M5.out, D5.out.1, D5.out.2, OW5.out, Z5.out⟩)
    clear K5 P5 M5 D5 OW5 Z5
    go_loopw [10] (fun s10 wr => ∃ (j : Nat) (lab' : Nat → Nat) (K : Ke.Kn), j ≤ n ∧ s10 = .int .i64 (j : Int) ∧ Hid (Ke.Rnd w2.heap.size q4 gb g A4 c4 s (10 + 5 * j) wr lab' K) ∧ Hid (Below w.heap.size w wr)) (fun i _ => n - (intOf i).toNat)
    case atStart => exact ⟨0, lab5, K0, Nat.zero_le _, rfl, R5, B5⟩
    case round =>
      have hn100 : n ≤ 100 := HN.out.1
      clear R5 B5
      obtain ⟨j, labJ, K, hj, rfl, HR, HB⟩ := hrel
      by_cases hlt : j < n
      · have hlt' : (j : Int) < (n : Int) := by omega
        have j0 : (0 : Int) ≤ (j : Int) := by omega
        have xj := IntWalk.i64_in ((j : Int) + 1) (by omega)
        obtain ⟨b, oo, rfl, hbl, hr, hin, hs9⟩ := HA.out j hlt
        have near := (HN.out.2 j hlt).1
        have near2 := (HN.out.2 j hlt).2
        have KK := Lib.hid (fun (W : World) (hW : Below w.heap.size w W) => (hW.cell (p := ⟨b, oo + j * 10, none⟩) hbl).trans (Ke.kact_kind hr))
        have S9 := Lib.hid (fun (W : World) (hW : Below w.heap.size w W) => (hW.cell (p := ⟨b, oo + j * 10 + 9, none⟩) hbl).trans (Ke.kact_s hr))
        have LD := Lib.hid (show wr.rangeAt b (oo + j * 10 + 1) (fn j).q.list from fun i v hi => by
          rw [World.cell?_of_block (w := w) (w' := wr) (a := ⟨b, oo + j * 10 + 1 + i, none⟩) (HB.out.block b hbl)]
          exact Ke.kact_q hr i v hi)
        have IQ := Lib.hid (Ke.kc_new hin HB.out)
        have NQ := Lib.hid near
        have N9 := Lib.hid near2
        generalize (fn j).q = q at *
        generalize (fn j).s = t at *
        generalize (fn j).kind = kind at *
        clear hr hin hs9 near near2
        go_upto_region 16 with (first
          | (refine wpList_load_mid rfl 44 (.tmp 66) rfl b (oo + j * 10 + 1) rfl _ _ LD.out Try.underlying44 rfl Ke.rcall_info ?_)
          | (refine Ke.wpList_alloc_any rfl 44 rfl _ Ke.rcallz ?_; intro w6 d6 b6; have D6 := Lib.hid d6; have BB6 := Lib.hid b6; clear d6 b6)
          | (refine Ke.wpList_store_any rfl 44 (.tmp 11) (.tmp 67) rfl wr.heap.size q.list.toArray rfl rfl 44 _ D6.out Ke.rcall_info rfl (Ke.kc_one q) ?_; intro w7x d7 k7; have D7x := Lib.hid d7; have KK7 := Lib.hid k7; clear d7 k7)
          | fail)
        have d1 := (D7x.out.cell 1).trans (show _ = some (.int .i64 q.env) from rfl)
        have f1 := D7x.out.frozen 1
        obtain ⟨W8, hW8⟩ : ∃ W8, W8 = w7x.setCell ⟨wr.heap.size, 1, none⟩ (.int .i64 2) := ⟨_, rfl⟩
        have D8 := Lib.hid (show Blk W8 wr.heap.size 44 ({ q with env := 2 } : KC).list.toArray by rw [hW8]; exact D7x.out.put 1 _)
        have b8 : Below wr.heap.size wr W8 := by
          rw [hW8]
          exact (BB6.out.trans (KK7.out.below (B := wr.heap.size) BB6.out.size (fun k hk => by have : k = wr.heap.size := hk; omega))).setCell (Nat.le_refl _) _
        have R8 := Lib.hid (HR.out.new b8)
        have B8 := Lib.hid (HB.out.trans (b8.mono HB.out.size))
        have I8 := Lib.hid (Ke.kc_env q (Ke.kc_new IQ.out b8))
        have l8 := Lib.hid (HR.out.kb.lab0 (Nat.le_refl wr.heap.size))
        have HW8 := Lib.hid hW8
        have k0 := KK.out W8 B8.out
        clear b8 hW8 D6 BB6 KK7 LD IQ HB HR KK
        go_upto_region 17 with fail
        rw [show w7x.setCell ⟨wr.heap.size, 1, none⟩ (.int .i64 2) = W8 from HW8.out.symm]
        clear HW8 D7x d1 f1
        generalize wr.heap.size = qc at *
        go_upto_if 74 with fail
        go_cut [] (fun wy => ∃ (lab' : Nat → Nat) (K' : Ke.Kn), Hid (Ke.Rnd w2.heap.size q4 gb g A4 c4 s (11 + 5 * j) wy lab' K') ∧ Hid (Below w.heap.size w wy))
        case first =>
          by_cases q2 : kind = 2
          · subst q2
            have DP := Lib.hid (Ke.depart_kb R8.out.kb R8.out.z (10 + 5 * j) R8.out.sm (by omega))
            go_wp2_with fail
            refine DP.out.mono ?_; rintro e wd ⟨Ad, cd, rfl, labD, kD, LD, bD⟩
            have RD := Lib.hid (R8.out.call kD LD (Ke.apt_depart R8.out.kb.ok R8.out.apt) (m' := 11 + 5 * j) ((Ke.small_depart R8.out.sm).mono (by omega)))
            have BD := Lib.hid (B8.out.trans (bD.mono B2.out.size))
            clear kD LD bD DP
            go_wp2
            go_meet
            exact ⟨labD, _, RD, BD⟩
          · have f2 : (kind == 2) = false := by simpa using q2
            have OF := Lib.hid (Ke.of_call { q with env := 2 } W8 I8.out (by have := NQ.out.1; show q.s.size ≤ _; omega) (by have := NQ.out.2.1; show q.p.length ≤ _; omega) (by have := NQ.out.2.2; show q.l.length ≤ _; omega))
            have NQ2 : Ke.Near { q with env := 2 } := NQ.out
            go_wp2_with (first
              | (refine wpList_load_row rfl 44 (.tmp 11) rfl qc rfl 44 _ (0, 0) _ D8.out Try.underlying44 rfl Ke.rcall_info ?_)
              | fail)
            refine OF.out.mono ?_; rintro e wm ⟨x, rfl, m⟩
            have bm := m.below
            have CL := Lib.hid (Ke.call_kb (R8.out.kb.new bm) (Nat.le_trans R8.out.z bm.size) (10 + 5 * j) R8.out.sm (by omega) (Ke.kq { q with env := 2 }) x (Ke.made_in R8.out.kb I8.out NQ2 m))
            have Rm := Lib.hid (R8.out.new bm)
            have Bm := Lib.hid (B8.out.trans (bm.mono B8.out.size))
            clear m bm OF
            go_wp2_with fail
            refine CL.out.mono ?_; rintro e wn ⟨An, cn, rfl, labN, kN, LN, bN, _, _⟩
            have RN := Lib.hid (Rm.out.call kN LN (Ke.apt_call R8.out.kb.ok R8.out.apt (Ke.kq { q with env := 2 }) rfl) (m' := 11 + 5 * j) ((Ke.small_call R8.out.sm _).mono (by omega)))
            have BN := Lib.hid (Bm.out.trans (bN.mono B2.out.size))
            clear kN LN bN CL Rm Bm
            go_wp2
            go_meet
            exact ⟨labN, _, RN, BN⟩
        case rest =>
          obtain ⟨laby, Ky, HRy, HBy⟩ := hcut
          clear R8 B8 I8 l8 k0 D8 NQ
          generalize hsl : s.data.toList = sl at *
          have lsz : sl.length = s.size := by rw [← hsl]; rfl
          have d0 := (HRy.out.d.cell 0).trans (show _ = some (.int .i64 0) from rfl)
          have C4 := Ke.call_kb HRy.out.kb HRy.out.z (11 + 5 * j) HRy.out.sm (by omega) (Ke.bare 4 1 0 0 (s.size : Int)) Ke.noX (Ke.bare_in _ _ _ _ _ _ _ (by omega))
          rw [show Ke.callR Ky (Ke.bare 4 1 0 0 (s.size : Int)) = (Ky, 0, sl, 0) from by rw [← lsz, ← hsl]; exact Ke.apt_read HRy.out.apt (by rw [hsl, lsz]; omega)] at C4
          have C4 := Lib.hid C4
          have LSZ := Lib.hid lsz
          have HSL := Lib.hid hsl
          clear lsz hsl
          go_wp2_with fail
          refine C4.out.mono ?_; rintro e wa ⟨Aa, ca, rfl, labA, ka, La, ba, sa, oa⟩
          have Ra := Lib.hid (HRy.out.call ka La HRy.out.apt (m' := 12 + 5 * j) (HRy.out.sm.mono (by omega)))
          have Ba := Lib.hid (HBy.out.trans (ba.mono B2.out.size))
          have Sa := Lib.hid sa
          have Oa := Lib.hid oa
          clear ka La ba sa oa C4 HRy HBy d0
          obtain ⟨WA, hWA⟩ : ∃ WA, WA = wa.alloc (.cells #[.int .i64 0, .slice Aa sl.length ca] 31) := ⟨_, rfl⟩
          have bA : Below wa.heap.size wa WA := by rw [hWA]; exact (Below.refl _ wa).alloc (Nat.le_refl _) _
          have DA := Lib.hid (show Blk WA wa.heap.size 31 #[.int .i64 0, .slice Aa sl.length ca] by rw [hWA]; exact Blk.new wa _ _)
          have lA := Lib.hid (Ra.out.kb.lab0 (Nat.le_refl wa.heap.size))
          have RA := Lib.hid (Ra.out.new bA)
          have BA := Lib.hid (Ba.out.trans (bA.mono Ba.out.size))
          have SA := Lib.hid (Sa.out.below bA)
          have HWA := Lib.hid hWA
          clear bA hWA Ra Ba Sa
          go_upto_region 21 with fail
          rw [show wa.alloc (.cells #[.int .i64 0, .slice Aa sl.length ca] 31) = WA from HWA.out.symm]
          clear HWA
          generalize wa.heap.size = qa at *
          have C6 := Ke.call_kb RA.out.kb RA.out.z (12 + 5 * j) RA.out.sm (by omega) (Ke.bare 6 1 0 0 0) Ke.noX (Ke.bare_in _ _ _ _ _ _ _ (by omega))
          rw [show Ke.callR Ky (Ke.bare 6 1 0 0 0) = (Ky, 0, Ke.blkT s, 0) from Ke.apt_rblock RA.out.kb.ok RA.out.apt] at C6
          dsimp only at C6
          rw [Ke.blkT_len (s := s) (by omega)] at C6
          have C6 := Lib.hid C6
          go_wp2_with fail
          refine C6.out.mono ?_; rintro e wb ⟨Ab, cb, rfl, labB, kb, Lb, bb, sb, _⟩
          have Rb := Lib.hid (RA.out.call kb Lb RA.out.apt (m' := 13 + 5 * j) (RA.out.sm.mono (by omega)))
          have Bb := Lib.hid (BA.out.trans (bb.mono B2.out.size))
          have Sb := Lib.hid sb
          have SAb := Lib.hid (Ke.Src.step SA.out Lb.step Oa.out)
          have DAb := Lib.hid (Lb.blk0 DA.out lA.out)
          clear kb Lb bb sb C6 RA BA SA DA lA Oa
          obtain ⟨WB, hWB⟩ : ∃ WB, WB = wb.alloc (.cells #[.int .i64 0, .slice Ab 256 cb] 31) := ⟨_, rfl⟩
          have bB : Below wb.heap.size wb WB := by rw [hWB]; exact (Below.refl _ wb).alloc (Nat.le_refl _) _
          have DB := Lib.hid (show Blk WB wb.heap.size 31 #[.int .i64 0, .slice Ab 256 cb] by rw [hWB]; exact Blk.new wb _ _)
          have DAB := Lib.hid (DAb.out.older (older_below bB))
          have RB := Lib.hid (Rb.out.new bB)
          have BB := Lib.hid (Bb.out.trans (bB.mono Bb.out.size))
          have TO1 := told_str (SAb.out.below bB)
          have TO2 := told_str (Sb.out.below bB)
          have TO3 := told_str RB.out.ow.1
          have HWB := Lib.hid hWB
          clear bB hWB Rb Bb Sb SAb DAb
          go_upto_region 22 with fail
          rw [show wb.alloc (.cells #[.int .i64 0, .slice Ab 256 cb] 31) = WB from HWB.out.symm]
          clear HWB
          generalize wb.heap.size = qb at *
          have e1 := (DAB.out.cell 1).trans (show _ = some (.slice Aa sl.length ca) from rfl)
          have e2 := (DB.out.cell 1).trans (show _ = some (.slice Ab 256 cb) from rfl)
          have e3 := (RB.out.d.cell 0).trans (show _ = some (.int .i64 0) from rfl)
          rw [show (⟨sl.toArray⟩ : ByteArray) = s from by rw [← HSL.out]] at TO1
          obtain ⟨ad, had⟩ := RB.out.kb.ka
          have OWN := Lib.hid (Ke.owned_1 had 0 true (by
            have h2 : ownerV Ky.ps ((0 : Nat) : Int) = _ := ownerV_at RB.out.apt.n
            have h3 : ownerV Ky.ps 0 = ((Ky.ps[0]'RB.out.apt.n).owner : Int) := h2
            have h4 := RB.out.apt.own
            rw [Ke.pg_zero RB.out.apt.n] at h4
            rw [h3, h4]; rfl))
          clear had
          go_wp2_with fail
          refine OWN.out.mono ?_; rintro e wq ⟨rfl, hwq⟩; subst wq
          clear OWN e1 e3
          go_upto_region 24 with fail
          clear e2 TO1 TO2 TO3 DB DAB
          have L9 := S9.out WB BB.out
          obtain ⟨At, ct, Wt, heqt, st, bt, nt⟩ := conv_src t (by have := N9.out; omega) WB
          have AR := Ke.arrive_kb (RB.out.kb.new bt) (Nat.le_trans RB.out.z bt.size) (13 + 5 * j) RB.out.sm (by omega) At ct t.data.toList st
          rw [show t.data.toList.length = t.size from rfl] at AR
          have AR := Lib.hid AR
          have ARR := Lib.hid (Ke.apt_arrive RB.out.apt t.data.toList)
          have MA := Lib.hid (show (Ke.arriveR Ky t.data.toList).1.Small (14 + 5 * j) from (Ke.small_arrive RB.out.sm t.data.toList).mono (by omega))
          have Rt := Lib.hid (RB.out.new bt)
          have Bt := Lib.hid (BB.out.trans (bt.mono BB.out.size))
          clear st bt nt RB BB
          go_wp2_with fail
          refine AR.out.mono ?_; rintro e wu ⟨rfl, labU, ku, Lu, bu⟩
          have Ku := Lib.hid ku
          have Bu := Lib.hid (Bt.out.trans (bu.mono B2.out.size))
          have Zu := Lib.hid (Nat.le_trans Rt.out.z bu.size)
          have Du := Lib.hid (show Blk wu q4 31 #[.int .i64 0, .slice A4 0 c4] ∧ labU q4 = 0 ∧ Ke.OwnAt wu labU gb 256 256 (Ke.blkT s) from ⟨Lu.blk0 Rt.out.d Rt.out.ld, Lu.zero Rt.out.ld Rt.out.d.lt, Rt.out.ow.step Lu⟩)
          have L10 := S9.out wu Bu.out
          clear ku Lu bu AR Rt Bt heqt L9
          have C12 := Lib.hid (Ke.call_kb Ku.out Zu.out (14 + 5 * j) MA.out (by omega) (Ke.bare 12 1 0 0 0) Ke.noX (Ke.bare_in _ _ _ _ _ _ _ (by omega)))
          have APT := Lib.hid (show Ke.Apt (Ke.sT 0 sl) (Ke.blkT s) (Ke.callR (Ke.arriveR Ky t.data.toList).1 (Ke.bare 12 1 0 0 0)).1 from by have := ARR.out.1; rw [HSL.out] at this; exact this)
          have M12 := Lib.hid (Ke.small_call MA.out (Ke.bare 12 1 0 0 0))
          by_cases hl : t.size ≤ 1024
          · have hl2 : (t.size : Int) ≤ 1024 := by omega
            have h12 := ARR.out.2 hl
            rw [show (Ke.arriveR Ky t.data.toList).2.1 = 1 from by rw [h12], show (Ke.arriveR Ky t.data.toList).2.2 = 0 from by rw [h12]]
            clear h12 ARR MA
            generalize (Ke.arriveR Ky t.data.toList).1 = K1 at *
            go_wp2_with fail
            refine C12.out.mono ?_; rintro e wv ⟨Av, cv, rfl, labV, kv, Lv, bv, _, _⟩
            have RV := Lib.hid (show Ke.Rnd w2.heap.size q4 gb g A4 c4 s (10 + 5 * (j + 1)) wv labV (Ke.callR K1 (Ke.bare 12 1 0 0 0)).1 from ⟨kv, by rw [HSL.out]; exact APT.out, M12.out.mono (by omega), Lv.blk0 Du.out.1 Du.out.2.1, Lv.zero Du.out.2.1 Du.out.1.lt, Du.out.2.2.step Lv, Nat.le_trans Zu.out bv.size⟩)
            have BV := Lib.hid (Bu.out.trans (bv.mono B2.out.size))
            clear kv Lv bv C12 APT M12 Ku Bu Zu Du
            go_wp2
            go_roundw
            case rel => exact ⟨j + 1, labV, _, by omega, by simp, RV, BV⟩
            case measure => simp [intOf]; omega
          · have hl2 : ¬ (t.size : Int) ≤ 1024 := by omega
            clear ARR MA
            generalize (Ke.arriveR Ky t.data.toList).2.1 = r1 at *
            generalize (Ke.arriveR Ky t.data.toList).2.2 = r2 at *
            generalize (Ke.arriveR Ky t.data.toList).1 = K1 at *
            go_wp2_with fail
            refine C12.out.mono ?_; rintro e wv ⟨Av, cv, rfl, labV, kv, Lv, bv, _, _⟩
            have RV := Lib.hid (show Ke.Rnd w2.heap.size q4 gb g A4 c4 s (10 + 5 * (j + 1)) wv labV (Ke.callR K1 (Ke.bare 12 1 0 0 0)).1 from ⟨kv, by rw [HSL.out]; exact APT.out, M12.out.mono (by omega), Lv.blk0 Du.out.1 Du.out.2.1, Lv.zero Du.out.2.1 Du.out.1.lt, Du.out.2.2.step Lv, Nat.le_trans Zu.out bv.size⟩)
            have BV := Lib.hid (Bu.out.trans (bv.mono B2.out.size))
            clear kv Lv bv C12 APT M12 Ku Bu Zu Du
            go_wp2
            go_roundw
            case rel => exact ⟨j + 1, labV, _, by omega, by simp, RV, BV⟩
            case measure => simp [intOf]; omega
      · have hge : ¬ (j : Int) < (n : Int) := by omega
        go_wp2
        go_ret
        exact ⟨rfl, HB.out⟩
  · have FA := Lib.hid (fun (W : World) (hw : Below w.heap.size w W) => Ke.far_any W A n c fn (Ke.kacts_new HA.out hw) true ⟨fun _ => hn, fun _ => rfl⟩)
    clear hn
    go_enter Try.func3, Try.ntmps3
    go_wp2_with fail
    refine AL.out.mono ?_; rintro e w1 ⟨rfl, b1⟩
    have B1 := Lib.hid b1
    clear b1
    go_wp2_with fail
    refine (FA.out _ B1.out).mono ?_; rintro e w2 ⟨rfl, b2⟩
    have B2 := Lib.hid (B1.out.trans (b2.mono B1.out.size))
    clear b2
    go_wp2
    go_ret
    exact ⟨rfl, B2.out⟩

set_option maxRecDepth 100000 in
theorem lifted (os : Os) (started : os.Started) (H : Type) (enc : TypeId × Value → H) :
    ReturnsInHanded {} Try.checked os 3 .any (Rows.kernApartSpec.pre6 enc Try.prog Try.f3 Rows.kernApartRow.domain false) (Rows.kernApartSpec.post enc Try.prog Try.f3 false true false false) := by
  refine returnsInHanded_of_change (C := Try.checked) own started (by kernel_rfl) Try.func3
    (ChangeSpec.witness6 (enc := enc) (C := Try.checked) false ⟨#[], #[.slice none 0 0, .string ⟨#[]⟩], []⟩ 8 (by kernel_rfl) (by kernel_rfl) (by kernel_rfl) (by kernel_rfl)) ?_
  intro W base args ds gs before hval0 hW hcnd _
  have hval : ∀ (j : Nat) t v, Try.f3.params[j]? = some t → args[j]? = some v → Value.okWide Try.prog W .any base t v := hval0
  have hW' := hW
  obtain ⟨p, q, hA0, hV, rfl, hfz, hnd⟩ := hW
  have hA : DataW.TrodAll enc Try.prog W 0 (fun _ => true) true Try.f3.params.toList args.toList ds p := hA0
  rw [Try.params3] at hA hval
  obtain ⟨v0, vs0, d0, ds0, p0, q0, hargs, rfl, rfl, h0, r0⟩ := trodAll_cons hA
  obtain ⟨v1, vs1, d1, ds1, p1, q1, rfl, rfl, rfl, h1, r1⟩ := trodAll_cons r0
  obtain ⟨rfl, rfl, rfl⟩ := trodAll_nil r1
  obtain rfl : args = #[v0, v1] := by cases args; simp_all
  obtain ⟨A0, n0, c0, f0, rfl, b0⟩ := open_kacts (hval 0 22 v0 rfl rfl) h0
  obtain ⟨a1, rfl, _, _, w1⟩ := Go.ChangeMaps.open_string Try.underlying9 (hval 1 9 v1 rfl rfl) h1
  clear hA0 hval0
  exact law_close hW' laidOut (by kernel_rfl) rfl Try.underlying4 rfl ⟨rfl, rfl, rfl⟩ (walk W A0 n0 c0 f0 b0 a1 w1)

theorem over : Rows.kernApartRow.holds Try.pinned (OpenSpec.ofChange Rows.kernApartSpec) :=
  OpenClaim.holds_of_wide 3 Try.f3 rfl rfl rfl rfl rfl rfl rfl ⟨rfl, rfl, rfl, rfl, rfl⟩ rfl rfl rfl rfl rfl (by kernel_rfl) Try.func3 (by kernel_rfl)
    (of_decide_eq_true (by kernel_rfl)) (by unfold Func.isWrapper; first | (rw [if_pos (by decide +kernel)]; kernel_rfl) | (rw [if_neg (by decide +kernel)]; exact ⟨rfl, rfl⟩))
    (fun os started H enc _ => lifted os started H enc)

theorem proved : Rows.KernApartSaid := over

end Go.Proofs.Ytlilfblnlpjkcaa.kernApart
