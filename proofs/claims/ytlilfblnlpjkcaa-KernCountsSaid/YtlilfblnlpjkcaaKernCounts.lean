/- Whatever steps come in, 'pantlerlaw09.KernCounts' returns true and leaves them as they were. No condition. -/
import Derived.Test.YtlilfblnlpjkcaaKD
namespace Go.Proofs.Ytlilfblnlpjkcaa.kernCounts
open Go.ChangeShapes Go.WideShapes Go.ChangeAt Go.RowKit Go.Deep Di
set_option linter.unusedVariables false


theorem all_in {w : World} {lab : Nat → Nat} (q : Nat) (hb : Blk w q 40 #[.int .i64 7, .int .u32 1, .int .i64 0, .int .i64 0]) : Prg w (some ⟨q, 0, none⟩) Ke.allP := by
  intro i hi
  have h0 : i = 0 := by have : i < 1 := hi; omega
  subst h0
  refine ⟨q, 0, rfl, hb.lt, fun j v hj => ?_⟩
  have e : (0 : Nat) + 0 * 4 + j = j := by omega
  rw [e, hb.cell j, List.getElem?_toArray]
  exact hj
theorem all_kq {w w' : World} {lab : Nat → Nat} (q : Nat) (hb : Blk w' q 40 #[.int .i64 7, .int .u32 1, .int .i64 0, .int .i64 0]) (h0 : lab q = 0) : (⟨9, 1, 0, 0, 0, [], Ke.allP, []⟩ : Ke.KQ).In w' lab ⟨none, 0, some ⟨q, 0, none⟩, 1, none, 0⟩ :=
  ⟨(by show _ ≤ (0 : Int) ∧ (0 : Int) ≤ _; omega), Src.nil w', fun b o e => (by cases e), all_in (lab := lab) q hb, fun e => (by cases e), (by show 1 ≤ 1000000; omega), Ke.allP_ok, fun i hi => absurd hi (by simp), fun p hp => (by cases hp), fun b o e => (by cases e), Nat.le_refl _, by simp⟩

set_option maxRecDepth 100000 in
set_option maxHeartbeats 4000000 in
theorem walk (w : World) (A : Option Addr) (n c : Nat) (fn : Nat → KAct) (ha : KActs w A n fn) :
    Calls Try.prog 6 #[.slice A n c] w fun e w' => e = .returned (.bool true) ∧ Below w.heap.size w w' := by
  have HA := Lib.hid ha
  clear ha
  have AL := Lib.hid (Ke.alive_any w)
  by_cases hn : Ke.NearL n fn
  · have FA := Lib.hid (fun (W : World) (hw : Below w.heap.size w W) => Ke.far_any W A n c fn (Ke.kacts_new HA.out hw) false ⟨fun h => absurd h (by decide), fun h => absurd hn h⟩)
    have HN := Lib.hid hn
    clear hn
    go_enter Try.func6, Try.ntmps6
    go_wp2_with fail
    refine AL.out.mono ?_; rintro e w1 ⟨rfl, b1⟩
    have B1 := Lib.hid b1
    clear b1
    go_wp2_with fail
    refine (FA.out _ B1.out).mono ?_; rintro e w2 ⟨rfl, b2⟩
    have B2 := Lib.hid (B1.out.trans (b2.mono B1.out.size))
    clear b2 FA AL
    go_wp2_with fail
    refine (Ke.new_kb 4 8 w2 (by omega) (by omega) (by omega) (by omega)).mono ?_; rintro e w3 ⟨g, lab, rfl, k3, b3⟩
    have B3 := Lib.hid (B2.out.trans (b3.mono B2.out.size))
    obtain ⟨W4, hW4⟩ : ∃ W4, W4 = w3.alloc (.cells #[.int .i64 7, .int .u32 1, .int .i64 0, .int .i64 0] 40) := ⟨_, rfl⟩
    have b4 : Below w3.heap.size w3 W4 := by rw [hW4]; exact (Below.refl _ w3).alloc (Nat.le_refl _) _
    have C4 := show Blk W4 w3.heap.size 40 #[.int .i64 7, .int .u32 1, .int .i64 0, .int .i64 0] by rw [hW4]; exact Blk.new w3 _ _
    have hz4 : w2.heap.size ≤ W4.heap.size := Nat.le_trans b3.size b4.size
    have CA := Lib.hid (Ke.call_kb (k3.new b4) hz4 0 (Ke.newK_small 4 8) (by omega) _ _ (all_kq (w := w3) w3.heap.size C4 (k3.lab0 (Nat.le_refl _))))
    rw [Ke.cK_call] at CA
    have B4 := Lib.hid (B3.out.trans (b4.mono B3.out.size))
    have HW4 := Lib.hid hW4
    clear b3 k3 b4 C4 hW4
    go_wp2_with fail
    rw [show w3.alloc (.cells #[.int .i64 7, .int .u32 1, .int .i64 0, .int .i64 0] 40) = W4 from HW4.out.symm]
    refine CA.out.mono ?_; rintro e w5 ⟨A5, c5, rfl, lab5, k5, L5, b5, _, _⟩
    have K5 := Lib.hid k5
    have B5 := Lib.hid (B4.out.trans (b5.mono B2.out.size))
    have Z5 := Lib.hid (Nat.le_trans hz4 b5.size)
    clear k5 L5 b5 CA HW4 hz4 B4 B3
    go_wp2_with fail
    have N5 := Lib.hid Ke.cnt_new
    have SM := Ke.small_call (Ke.newK_small 4 8) ⟨9, 1, 0, 0, 0, [], Ke.allP, []⟩
    rw [Ke.cK_call] at SM
    have M5 := Lib.hid SM
    clear SM
    generalize Ke.cK (Ke.newK 4 8) = K0 at *
    go_loopw [5, 6, 7, 8] (fun s5 s6 s7 s8 wr => ∃ (j next done : Nat) (lab' : Nat → Nat) (K : Ke.Kn) (came : List ByteArray) (Ac : Option Addr) (cc : Nat), j ≤ n ∧ s5 = .int .i64 (next : Int) ∧ s6 = .int .i64 (done : Int) ∧ s7 = .slice Ac came.length cc ∧ s8 = .int .i64 (j : Int) ∧ Hid (Ke.KB w2.heap.size wr lab' g K) ∧ Hid (Ke.Cnt (came.map (·.data.toList)) next done K) ∧ Hid (K.Small (1 + 2 * j)) ∧ Hid (Ke.CameAt wr lab' Ac cc came) ∧ Hid (Below w.heap.size w wr) ∧ Hid (w2.heap.size ≤ wr.heap.size)) (fun _ _ _ i _ => n - (intOf i).toNat)
    case atStart => exact ⟨0, 0, 0, lab5, K0, [], none, 0, Nat.zero_le _, rfl, rfl, rfl, rfl, K5, N5, M5, Lib.hid (.inl ⟨rfl, rfl, rfl⟩), B5, Z5⟩
    case round =>
      have hn100 : n ≤ 100 := HN.out.1
      clear K5 N5 M5 B5 Z5
      obtain ⟨j, next, done, labJ, K, came, Ac, cc, hj, rfl, rfl, rfl, rfl, HK, HC, HM, HR, HB, HZ⟩ := hrel
      by_cases hlt : j < n
      · have hlt' : (j : Int) < (n : Int) := by omega
        have j0 : (0 : Int) ≤ (j : Int) := by omega
        have xj := IntWalk.i64_in ((j : Int) + 1) (by omega)
        obtain ⟨b, oo, rfl, hbl, hr, hin, hs9⟩ := HA.out j hlt
        have near := (HN.out.2 j hlt).1
        have near2 := (HN.out.2 j hlt).2
        have k0 := (HB.out.cell (p := ⟨b, oo + j * 10, none⟩) hbl).trans (Ke.kact_kind hr)
        have S9 := Lib.hid (fun (W : World) (hW : Below w.heap.size w W) => (hW.cell (p := ⟨b, oo + j * 10 + 9, none⟩) hbl).trans (Ke.kact_s hr))
        have LD := Lib.hid (show wr.rangeAt b (oo + j * 10 + 1) (fn j).q.list from fun i v hi => by
          rw [World.cell?_of_block (w := w) (w' := wr) (a := ⟨b, oo + j * 10 + 1 + i, none⟩) (HB.out.block b hbl)]
          exact Ke.kact_q hr i v hi)
        have IQ := Lib.hid (Ke.kc_new hin HB.out)
        have NQ := Lib.hid near
        have N9 := Lib.hid near2
        have hc16 : came.length ≤ 16 := by have h1 := HK.out.ok.n1; have h2 := congrArg List.length HC.out.i1; simp at h2; omega
        have hdn : done ≤ 300 := by have h1 := HM.out.done; have h2 := HC.out.dn; omega
        have hnx : next ≤ 300 := by have h1 := HM.out.out; have h2 := HC.out.nx; omega
        have xd := IntWalk.i64_in ((done : Int) + 1) (by omega)
        have xn := IntWalk.i64_in ((next : Int) + 1) (by omega)
        generalize (fn j).q = q at *
        generalize (fn j).s = s at *
        generalize (fn j).kind = kind at *
        clear hr hin hs9 near near2
        go_upto_block 2 with fail
        go_cut [5, 6, 7] (fun s5 s6 s7 wx => ∃ (next done : Nat) (lab' : Nat → Nat) (K : Ke.Kn) (came : List ByteArray) (Ac : Option Addr) (cc : Nat), s5 = .int .i64 (next : Int) ∧ s6 = .int .i64 (done : Int) ∧ s7 = .slice Ac came.length cc ∧ Hid (Ke.KB w2.heap.size wx lab' g K) ∧ Hid (Ke.Cnt (came.map (·.data.toList)) next done K) ∧ Hid (K.Small (2 + 2 * j)) ∧ Hid (Ke.CameAt wx lab' Ac cc came) ∧ Hid (Below w.heap.size w wx) ∧ Hid (w2.heap.size ≤ wx.heap.size))
        case first =>
          by_cases q1 : kind = 1
          · subst q1
            have L9 := S9.out wr HB.out
            obtain ⟨A6, c6, W6, heq, s6, b6, n6⟩ := conv_src s (by have := N9.out; omega) wr
            have AR := Ke.arrive_kb (HK.out.new b6) (Nat.le_trans HZ.out b6.size) (1 + 2 * j) HM.out (by omega) A6 c6 s.data.toList s6
            rw [show s.data.toList.length = s.size from rfl] at AR
            have AR := Lib.hid AR
            have HR6 := Lib.hid (HR.out.new b6)
            have B6 := Lib.hid (HB.out.trans (b6.mono HB.out.size))
            have Z6 := Lib.hid (Nat.le_trans HZ.out b6.size)
            have CNT := Lib.hid (Ke.cnt_arrive HC.out s.data.toList)
            have MA := Lib.hid (Ke.small_arrive HM.out s.data.toList)
            clear s6 b6 n6 LD IQ HK HC HM HR HB HZ k0 NQ
            go_wp2_with fail
            refine AR.out.mono ?_; rintro e w7 ⟨rfl, lab7, k7, L7, b7⟩
            have K7 := Lib.hid k7
            have HR7 := Lib.hid (HR6.out.step L7)
            have B7 := Lib.hid (B6.out.trans (b7.mono B2.out.size))
            have Z7 := Lib.hid (Nat.le_trans Z6.out b7.size)
            clear k7 L7 b7 AR HR6 B6 Z6
            have M7 := Lib.hid (show (Ke.arriveR K s.data.toList).1.Small (2 + 2 * j) from MA.out.mono (by omega))
            clear MA
            rcases CNT.out with ⟨hne, hC⟩ | ⟨e1, e2, hC, h16⟩
            · have C7 := Lib.hid hC
              generalize (Ke.arriveR K s.data.toList).1 = K7' at *
              generalize (Ke.arriveR K s.data.toList).2.1 = r1 at *
              generalize (Ke.arriveR K s.data.toList).2.2 = r2 at *
              have q9 : (r2 == 0) = false := by simpa using hne
              clear hne hC CNT
              go_wp2
              go_meet
              exact ⟨next, done, lab7, K7', came, Ac, cc, rfl, rfl, rfl, K7, C7, M7, HR7, B7, Z7⟩
            · have C7 := Lib.hid hC
              rw [e1, e2]
              generalize (Ke.arriveR K s.data.toList).1 = K7' at *
              have L8 := S9.out w7 B7.out
              have bA : Below w7.heap.size w7 (w7.alloc (.cells #[.string s] 9)) := (Below.refl _ w7).alloc (Nat.le_refl _) _
              have HRA := Lib.hid (HR7.out.new bA)
              have hqc : (w7.alloc (.cells #[.string s] 9)).cell? ⟨w7.heap.size, 0, none⟩ = some (.string s) := (Blk.new w7 9 #[.string s]).cell 0
              have HQ := Lib.hid hqc
              have KA9 := Lib.hid (K7.out.new bA)
              have B8 := Lib.hid (B7.out.trans (bA.mono B7.out.size))
              have Z8 := Lib.hid (Nat.le_trans Z7.out bA.size)
              clear hC CNT e1 e2 bA hqc
              go_wp2_with (at_builtin; refine Hid.out ?_)
              unfold Hid
              refine Ke.wpList_came rfl _ _ rfl HRA.out rfl w7.heap.size s rfl HQ.out (by omega) ?_
              intro r o c' w9 hro hk9 hr9 hlt9
              obtain ⟨k9, b9⟩ := KA9.out.row9 Z8.out hk9 r hr9 hlt9
              have KF := Lib.hid k9
              have B9 := Lib.hid (B8.out.trans (b9.mono B2.out.size))
              have Z9 := Lib.hid (Nat.le_trans Z8.out hk9.size)
              have HR9 := Lib.hid (show Ke.CameAt w9 (Ke.mark9 lab7 r) (some ⟨r, o, none⟩) c' (came ++ [s]) from .inr ⟨r, o, rfl, hro, by unfold Ke.mark9; rw [if_pos rfl]⟩)
              have C9 := Lib.hid (show Ke.Cnt ((came ++ [s]).map (·.data.toList)) next done K7' from by rw [List.map_append]; exact C7.out)
              clear hro hk9 hr9 hlt9 k9 b9 HRA HQ KA9 B8 Z8 C7 L8 HR7 K7 B7 Z7
              go_wp2
              go_meet
              exact ⟨next, done, Ke.mark9 lab7 r, K7', came ++ [s], some ⟨r, o, none⟩, c', rfl, rfl, by simp, KF, C9, M7, HR9, B9, Z9⟩
          · have f1 : (kind == 1) = false := by simpa using q1
            by_cases q2 : kind = 2
            · subst q2
              have DP := Lib.hid (Ke.depart_kb HK.out HZ.out (1 + 2 * j) HM.out (by omega))
              have CNT := Lib.hid (Ke.cnt_depart HC.out)
              have MA := Lib.hid (show (Ke.departR K).1.Small (2 + 2 * j) from (Ke.small_depart HM.out).mono (by omega))
              clear LD IQ NQ k0
              go_wp2_with fail
              refine DP.out.mono ?_; rintro e w7 ⟨A7, c7, rfl, lab7, k7, L7, b7⟩
              have K7 := Lib.hid k7
              have HR7 := Lib.hid (HR.out.step L7)
              have B7 := Lib.hid (HB.out.trans (b7.mono B2.out.size))
              have Z7 := Lib.hid (Nat.le_trans HZ.out b7.size)
              clear k7 L7 b7 DP HR HB HZ HK
              rcases CNT.out with ⟨_, e1⟩ | ⟨e1, hC⟩
              · rw [e1] at K7 MA ⊢
                clear e1 CNT
                go_wp2
                go_meet
                exact ⟨next, done, lab7, K, came, Ac, cc, rfl, rfl, rfl, K7, HC, MA, HR7, B7, Z7⟩
              · rw [e1]
                have C7 := Lib.hid hC
                generalize (Ke.departR K).1 = K7' at *
                generalize (Ke.departR K).2.1 = r1 at *
                generalize (Ke.departR K).2.2.1 = r2 at *
                clear hC e1 CNT HC HM
                go_wp2
                go_meet
                exact ⟨next, done + 1, lab7, K7', came, Ac, cc, rfl, by simp, rfl, K7, C7, MA, HR7, B7, Z7⟩
            · have f2 : (kind == 2) = false := by simpa using q2
              by_cases q3 : kind = 0
              · subst q3
                have HR0 := HR
                have HC0 := HC
                clear S9 N9 HR
                go_upto_region 25 with (first
                  | (refine wpList_load_mid rfl 44 (.tmp 85) rfl b (oo + j * 10 + 1) rfl _ _ LD.out Try.underlying44 rfl Ke.rcall_info ?_)
                  | (refine Ke.wpList_alloc_any rfl 44 rfl _ Ke.rcallz ?_; intro w6 d6 b6; have D6 := Lib.hid d6; have BB6 := Lib.hid b6; clear d6 b6)
                  | (refine Ke.wpList_store_any rfl 44 (.tmp 14) (.tmp 86) rfl wr.heap.size q.list.toArray rfl rfl 44 _ D6.out Ke.rcall_info rfl (Ke.kc_one q) ?_; intro w7 d7 k7; have D7 := Lib.hid d7; have KK7 := Lib.hid k7; clear d7 k7)
                  | fail)
                have b7 : Below wr.heap.size wr w7 := BB6.out.trans (KK7.out.below (B := wr.heap.size) BB6.out.size (fun k hk => by have : k = wr.heap.size := hk; omega))
                have K7 := Lib.hid (HK.out.new b7)
                have R7 := Lib.hid (HR0.out.new b7)
                have B7 := Lib.hid (HB.out.trans (b7.mono HB.out.size))
                have Z7 := Lib.hid (Nat.le_trans HZ.out b7.size)
                have I7 := Lib.hid (Ke.kc_new IQ.out b7)
                have l7 := Lib.hid (HK.out.lab0 (Nat.le_refl wr.heap.size))
                have e0 := (D7.out.cell 0).trans (show _ = some (.int .i64 q.op) from rfl)
                have e1 := (D7.out.cell 1).trans (show _ = some (.int .i64 q.env) from rfl)
                clear b7 D6 BB6 KK7 LD IQ HB HZ HK k0
                by_cases o9 : q.op = 9
                · rw [o9] at e0
                  clear HC0
                  go_wp2
                  go_roundw
                  case rel => exact ⟨j + 1, next, done, labJ, K, came, Ac, cc, by omega, rfl, rfl, rfl, by simp, K7, HC, Lib.hid (HM.out.mono (by omega)), R7, B7, Z7⟩
                  case measure => simp [intOf]; omega
                by_cases o10 : q.op = 10
                · rw [o10] at e0
                  clear HC0
                  go_wp2
                  go_roundw
                  case rel => exact ⟨j + 1, next, done, labJ, K, came, Ac, cc, by omega, rfl, rfl, rfl, by simp, K7, HC, Lib.hid (HM.out.mono (by omega)), R7, B7, Z7⟩
                  case measure => simp [intOf]; omega
                have q9 : (q.op == 9) = false := by simpa using o9
                have q10 : (q.op == 10) = false := by simpa using o10
                have OF := Lib.hid (Ke.of_call q w7 I7.out (by have := NQ.out.1; omega) (by have := NQ.out.2.1; omega) (by have := NQ.out.2.2; omega))
                go_wp2_with (first
                  | (refine wpList_load_row rfl 44 (.tmp 14) rfl wr.heap.size rfl 44 _ (0, 0) _ D7.out Try.underlying44 rfl Ke.rcall_info ?_)
                  | fail)
                refine OF.out.mono ?_; rintro e wm ⟨x, rfl, m⟩
                have bm := m.below
                have CL := Lib.hid (Ke.call_kb (K7.out.new bm) (Nat.le_trans Z7.out bm.size) (1 + 2 * j) HM.out (by omega) (Ke.kq q) x (Ke.made_in K7.out I7.out NQ.out m))
                have Rm := Lib.hid (R7.out.new bm)
                have Dm := Lib.hid (D7.out.older (older_below bm))
                have Bm := Lib.hid (B7.out.trans (bm.mono B7.out.size))
                have Zm := Lib.hid (Nat.le_trans Z7.out bm.size)
                clear m bm OF R7 B7 Z7 e0 e1 K7
                go_wp2_with fail
                refine CL.out.mono ?_; rintro e wn ⟨A', c', rfl, labN, kN, LN, bN, hs, _⟩
                have dN := LN.blk0 Dm.out l7.out
                have MN := Lib.hid (show ((Ke.callR K (Ke.kq q)).1).Small (2 + 2 * j) from (Ke.small_call HM.out (Ke.kq q)).mono (by omega))
                have C11 := Lib.hid (fun h => Ke.cnt_11 HC.out (Ke.kq q) h)
                have C12 := Lib.hid (fun h h' => Ke.cnt_12 HC.out (Ke.kq q) h h')
                have CO := Lib.hid (fun h h' => Ke.cnt_other HC.out (Ke.kq q) o9 o10 h h')
                generalize hr0 : (Ke.callR K (Ke.kq q)).1 = K' at *
                generalize hr1 : (Ke.callR K (Ke.kq q)).2.1 = r1 at *
                generalize hr2 : (Ke.callR K (Ke.kq q)).2.2.2 = r2 at *
                generalize hr3 : (Ke.callR K (Ke.kq q)).2.2.1 = rb at *
                obtain ⟨WF, hWF⟩ : ∃ WF, WF = wn.alloc (.cells #[.int .i64 r1, .slice A' rb.length c'] 31) := ⟨_, rfl⟩
                have bF : Below wn.heap.size wn WF := by rw [hWF]; exact (Below.refl _ wn).alloc (Nat.le_refl _) _
                have KF := Lib.hid (kN.new bF)
                have RF := Lib.hid ((Rm.out.step LN).new bF)
                have BF := Lib.hid ((Bm.out.trans (bN.mono B2.out.size)).trans (bF.mono (Nat.le_trans Bm.out.size bN.size)))
                have ZF := Lib.hid (Nat.le_trans (Nat.le_trans Zm.out bN.size) bF.size)
                have SF := Lib.hid (hs.below bF)
                have DF := Lib.hid (dN.older (older_below bF))
                have AF := Lib.hid (show Blk WF wn.heap.size 31 #[.int .i64 r1, .slice A' rb.length c'] by rw [hWF]; exact Blk.new wn _ _)
                have HWF := Lib.hid hWF
                clear hWF bF kN LN bN hs dN CL Rm Dm Bm Zm D7 l7 hr0 hr1 hr2 hr3 HC HC0 HM HR0
                go_upto_region 27 with fail
                rw [show wn.alloc (.cells #[.int .i64 r1, .slice A' rb.length c'] 31) = WF from HWF.out.symm]
                clear HWF
                have e0 := (DF.out.cell 0).trans (show _ = some (.int .i64 q.op) from rfl)
                have e1 := (DF.out.cell 1).trans (show _ = some (.int .i64 q.env) from rfl)
                have a0 := (AF.out.cell 0).trans (show _ = some (.int .i64 r1) from rfl)
                have a1 := (AF.out.cell 1).trans (show _ = some (.slice A' rb.length c') from rfl)
                by_cases o11 : q.op = 11
                · rw [o11] at e0
                  rcases C11.out o11 with ⟨hne, hC⟩ | ⟨h1, h2, hC⟩
                  · have CF := Lib.hid hC
                    have g2 : (r2 == 0) = false := by simpa using hne
                    clear hC hne C11 C12 CO
                    go_wp2
                    go_meet
                    exact ⟨next, done, labN, K', came, Ac, cc, rfl, rfl, rfl, KF, CF, MN, RF, BF, ZF⟩
                  · have CF := Lib.hid hC
                    subst h1 h2
                    clear hC C11 C12 CO
                    go_wp2
                    go_meet
                    exact ⟨next + 1, done, labN, K', came, Ac, cc, by simp, rfl, rfl, KF, CF, MN, RF, BF, ZF⟩
                · have q11 : (q.op == 11) = false := by simpa using o11
                  by_cases o12 : q.op = 12
                  · by_cases oe : q.env = 1
                    · rw [o12] at e0
                      rw [oe] at e1
                      rcases C12.out o12 oe with ⟨hnil, h2, hC⟩ | ⟨s0, r0, hcs, h2, hC⟩
                      · have hl : came = [] := by cases came with
                          | nil => rfl
                          | cons _ _ => simp at hnil
                        subst hl
                        subst h2
                        have CF := Lib.hid hC
                        clear hnil hC C11 C12 CO
                        have bd : Below WF.heap.size WF WF.drew := ⟨rfl, rfl, rfl, Nat.le_refl _, fun _ _ => rfl⟩
                        have KD := Lib.hid (KF.out.new bd)
                        have BD := Lib.hid (BF.out.trans (bd.mono BF.out.size))
                        have ZD := Lib.hid (show w2.heap.size ≤ WF.drew.heap.size from ZF.out)
                        have RD := Lib.hid (RF.out.new bd)
                        clear bd
                        go_upto_region 32 with fail
                        refine wp_region_held_drew (S := fun w' => Hid (w'.cell? ⟨wn.heap.size, 1, none⟩ = some (.slice A' rb.length c'))) (by kernel_rfl) ((show Hid (WF.drew.cell? ⟨wn.heap.size, 1, none⟩ = some (.slice A' rb.length c')) from Lib.hid a1)) (fun hS => ?_)
                        refine held_take (i := 0) (d := (some 123)) (v := ?_) rfl rfl (by kernel_rfl) (by kernel_rfl) (by kernel_rfl) (fun _ _ _ h => h) (by rfl) ?_ hS ?_
                        rotate_left
                        · intro w' hSw; (try dsimp only at hSw); go_simp <;> with_reducible rfl
                        simp only [Act.put, List.setIfInBounds_toArray, List.set_cons_zero, List.set_cons_succ]
                        refine held_take (i := 1) (d := (some 124)) (v := ?_) rfl rfl (by kernel_rfl) (by kernel_rfl) (by kernel_rfl) (fun _ _ _ h => h) (by rfl) ?_ hS ?_
                        rotate_left
                        · intro w' hSw; (try dsimp only at hSw); go_simp <;> with_reducible rfl
                        simp only [Act.put, List.setIfInBounds_toArray, List.set_cons_zero, List.set_cons_succ]
                        refine held_take (i := 2) (d := (some 125)) (v := ?_) rfl rfl (by kernel_rfl) (by kernel_rfl) (by kernel_rfl) (fun _ _ _ h => h) (by rfl) ?_ hS ?_
                        rotate_left
                        · intro w' hSw; (try dsimp only at hSw); go_simp <;> with_reducible rfl
                        simp only [Act.put, List.setIfInBounds_toArray, List.set_cons_zero, List.set_cons_succ]
                        refine held_take (i := 3) (d := (some 126)) (v := ?_) rfl rfl (by kernel_rfl) (by kernel_rfl) (by kernel_rfl) (fun _ _ _ h => h) (by rfl) ?_ hS ?_
                        rotate_left
                        · intro w' hSw; (try dsimp only at hSw); go_simp <;> with_reducible rfl
                        simp only [Act.put, List.setIfInBounds_toArray, List.set_cons_zero, List.set_cons_succ]
                        refine held_take (i := 4) (d := (some 127)) (v := ?_) rfl rfl (by kernel_rfl) (by kernel_rfl) (by kernel_rfl) (fun _ _ _ h => h) (by rfl) ?_ hS ?_
                        rotate_left
                        · intro w' hSw; (try dsimp only at hSw); go_simp <;> with_reducible rfl
                        simp only [Act.put, List.setIfInBounds_toArray, List.set_cons_zero, List.set_cons_succ]
                        refine held_take (i := 5) (d := (some 128)) (v := ?_) rfl rfl (by kernel_rfl) (by kernel_rfl) (by kernel_rfl) (fun _ _ _ h => h) (by rfl) ?_ hS ?_
                        rotate_left
                        · intro w' hSw; (try dsimp only at hSw); go_simp <;> with_reducible rfl
                        simp only [Act.put, List.setIfInBounds_toArray, List.set_cons_zero, List.set_cons_succ]
                        refine held_take (i := 6) (d := (some 129)) (v := ?_) rfl rfl (by kernel_rfl) (by kernel_rfl) (by kernel_rfl) (fun _ _ _ h => h) (by rfl) ?_ hS ?_
                        rotate_left
                        · intro w' hSw; (try dsimp only at hSw); go_simp <;> with_reducible rfl
                        simp only [Act.put, List.setIfInBounds_toArray, List.set_cons_zero, List.set_cons_succ]
                        refine held_take (i := 7) (d := (some 130)) (v := ?_) rfl rfl (by kernel_rfl) (by kernel_rfl) (by kernel_rfl) (fun _ _ _ h => h) (by rfl) ?_ hS ?_
                        rotate_left
                        · intro w' hSw; (try dsimp only at hSw); go_simp <;> with_reducible rfl
                        simp only [Act.put, List.setIfInBounds_toArray, List.set_cons_zero, List.set_cons_succ]
                        refine held_take (i := 8) (d := (some 131)) (v := ?_) rfl rfl (by kernel_rfl) (by kernel_rfl) (by kernel_rfl) (fun _ _ _ h => h) (by rfl) ?_ hS ?_
                        rotate_left
                        · intro w' hSw; (try dsimp only at hSw); go_simp <;> with_reducible rfl
                        simp only [Act.put, List.setIfInBounds_toArray, List.set_cons_zero, List.set_cons_succ]
                        refine held_take (i := 9) (d := (some 132)) (v := ?_) rfl rfl (by kernel_rfl) (by kernel_rfl) (by kernel_rfl) (fun _ _ _ h => h) (by rfl) ?_ hS ?_
                        rotate_left
                        · intro w' hSw; (try dsimp only at hSw); go_simp <;> with_reducible rfl
                        simp only [Act.put, List.setIfInBounds_toArray, List.set_cons_zero, List.set_cons_succ]
                        refine held_take (i := 10) (d := (some 133)) (v := ?_) rfl rfl (by kernel_rfl) (by kernel_rfl) (by kernel_rfl) (fun _ _ _ h => h) (by rfl) ?_ hS ?_
                        rotate_left
                        · intro w' hSw; (try dsimp only at hSw); go_simp <;> with_reducible rfl
                        simp only [Act.put, List.setIfInBounds_toArray, List.set_cons_zero, List.set_cons_succ]
                        refine held_take (i := 11) (d := (some 134)) (v := ?_) rfl rfl (by kernel_rfl) (by kernel_rfl) (by kernel_rfl) (fun _ _ _ h => h) (by rfl) ?_ hS ?_
                        rotate_left
                        · intro w' hSw; (try dsimp only at hSw); go_simp <;> with_reducible rfl
                        simp only [Act.put, List.setIfInBounds_toArray, List.set_cons_zero, List.set_cons_succ]
                        refine held_skip (i := 12) (d := (some 135)) rfl rfl (by kernel_rfl) (by kernel_rfl) (by kernel_rfl) (fun _ _ _ h => h) (by rfl) hS ?_
                        simp only [Act.put, List.setIfInBounds_toArray, List.set_cons_zero, List.set_cons_succ]
                        refine held_skip (i := 13) (d := (some 136)) rfl rfl (by kernel_rfl) (by kernel_rfl) (by kernel_rfl) (fun _ _ _ h => h) (by rfl) hS ?_
                        simp only [Act.put, List.setIfInBounds_toArray, List.set_cons_zero, List.set_cons_succ]
                        refine held_skip (i := 14) (d := (some 137)) rfl rfl (by kernel_rfl) (by kernel_rfl) (by kernel_rfl) (fun _ _ _ h => h) (by rfl) hS ?_
                        simp only [Act.put, List.setIfInBounds_toArray, List.set_cons_zero, List.set_cons_succ]
                        refine held_skip (i := 15) (d := (some 138)) rfl rfl (by kernel_rfl) (by kernel_rfl) (by kernel_rfl) (fun _ _ _ h => h) (by rfl) hS ?_
                        simp only [Act.put, List.setIfInBounds_toArray, List.set_cons_zero, List.set_cons_succ]
                        refine held_skip (i := 16) (d := (some 139)) rfl rfl (by kernel_rfl) (by kernel_rfl) (by kernel_rfl) (fun _ _ _ h => h) (by rfl) hS ?_
                        simp only [Act.put, List.setIfInBounds_toArray, List.set_cons_zero, List.set_cons_succ]
                        refine held_skip (i := 17) (d := (some 140)) rfl rfl (by kernel_rfl) (by kernel_rfl) (by kernel_rfl) (fun _ _ _ h => h) (by rfl) hS ?_
                        simp only [Act.put, List.setIfInBounds_toArray, List.set_cons_zero, List.set_cons_succ]
                        refine held_skip (i := 18) (d := (some 141)) rfl rfl (by kernel_rfl) (by kernel_rfl) (by kernel_rfl) (fun _ _ _ h => h) (by rfl) hS ?_
                        simp only [Act.put, List.setIfInBounds_toArray, List.set_cons_zero, List.set_cons_succ]
                        refine held_take (i := 19) (d := (some 142)) (v := ?_) rfl rfl (by kernel_rfl) (by kernel_rfl) (by kernel_rfl) (fun _ _ _ h => h) (by rfl) ?_ hS ?_
                        rotate_left
                        · intro w' hSw; (try dsimp only at hSw); go_simp <;> with_reducible rfl
                        simp only [Act.put, List.setIfInBounds_toArray, List.set_cons_zero, List.set_cons_succ]
                        refine held_take (i := 20) (d := (some 143)) (v := ?_) rfl rfl (by kernel_rfl) (by kernel_rfl) (by kernel_rfl) (fun _ _ _ h => h) (by rfl) ?_ hS ?_
                        rotate_left
                        · intro w' hSw; (try dsimp only at hSw); go_simp <;> with_reducible rfl
                        simp only [Act.put, List.setIfInBounds_toArray, List.set_cons_zero, List.set_cons_succ]
                        refine wpAnyH_done (by kernel_rfl) ?_ _
                        go_wp2
                        go_meet
                        exact ⟨next, done, labN, K', [], Ac, cc, rfl, rfl, rfl, KD, CF, MN, RD, BD, ZD⟩
                      · obtain ⟨y, l, rfl⟩ : ∃ y l, came = y :: l := by cases came with
                          | nil => simp at hcs
                          | cons y l => exact ⟨y, l, rfl⟩
                        rw [List.map_cons] at hcs
                        injection hcs with hy hl
                        subst hy
                        obtain ⟨r, o, rfl, hc0, hcc, htl⟩ := RF.out.tail
                        have CF := Lib.hid (show Ke.Cnt (l.map (·.data.toList)) next done K' from by rw [hl]; exact hC)
                        have RT := Lib.hid htl
                        subst h2
                        clear hC htl C11 C12 CO RF
                        have bd : Below WF.heap.size WF WF.drew := ⟨rfl, rfl, rfl, Nat.le_refl _, fun _ _ => rfl⟩
                        have KD := Lib.hid (KF.out.new bd)
                        have BD := Lib.hid (BF.out.trans (bd.mono BF.out.size))
                        have ZD := Lib.hid (show w2.heap.size ≤ WF.drew.heap.size from ZF.out)
                        have RD := Lib.hid (RT.out.new bd)
                        clear bd
                        go_upto_region 32 with fail
                        refine wp_region_held_drew (S := fun w' => Hid (w'.cell? ⟨wn.heap.size, 1, none⟩ = some (.slice A' y.size c') ∧ w'.cell? ⟨r, o, none⟩ = some (.string y) ∧ Src w' A' y.size c' y.data.toList)) (by kernel_rfl) ((show Hid (WF.drew.cell? ⟨wn.heap.size, 1, none⟩ = some (.slice A' y.size c') ∧ WF.drew.cell? ⟨r, o, none⟩ = some (.string y) ∧ Src WF.drew A' y.size c' y.data.toList) from Lib.hid ⟨a1, hc0, SF.out.drewN 1⟩)) (fun hS => ?_)
                        refine held_take (i := 0) (d := (some 123)) (v := ?_) rfl rfl (by kernel_rfl) (by kernel_rfl) (by kernel_rfl) (fun _ _ _ h => h) (by rfl) ?_ hS ?_
                        rotate_left
                        · intro w' hSw; (try dsimp only at hSw); go_simp <;> with_reducible rfl
                        simp only [Act.put, List.setIfInBounds_toArray, List.set_cons_zero, List.set_cons_succ]
                        refine held_take (i := 1) (d := (some 124)) (v := ?_) rfl rfl (by kernel_rfl) (by kernel_rfl) (by kernel_rfl) (fun _ _ _ h => h) (by rfl) ?_ hS ?_
                        rotate_left
                        · intro w' hSw; (try dsimp only at hSw); go_simp <;> with_reducible rfl
                        simp only [Act.put, List.setIfInBounds_toArray, List.set_cons_zero, List.set_cons_succ]
                        refine held_take (i := 2) (d := (some 125)) (v := (.bool false)) rfl rfl (by kernel_rfl) (by kernel_rfl) (by kernel_rfl) (fun _ _ _ h => h) (by rfl) (fun w' _ => by have hd : ¬ ((l.length : Int) + 1 = 0) := (by omega); first | (go_simp; done) | (go_simp; simp [hd]; done) | (simp [go_sem, execOp, hd]; done)) hS ?_
                        simp only [Act.put, List.setIfInBounds_toArray, List.set_cons_zero, List.set_cons_succ]
                        refine held_take (i := 3) (d := (some 126)) (v := ?_) rfl rfl (by kernel_rfl) (by kernel_rfl) (by kernel_rfl) (fun _ _ _ h => h) (by rfl) ?_ hS ?_
                        rotate_left
                        · intro w' hSw; (try dsimp only at hSw); go_simp <;> with_reducible rfl
                        simp only [Act.put, List.setIfInBounds_toArray, List.set_cons_zero, List.set_cons_succ]
                        refine held_skip (i := 4) (d := (some 127)) rfl rfl (by kernel_rfl) (by kernel_rfl) (by kernel_rfl) (fun _ _ _ h => h) (by rfl) hS ?_
                        simp only [Act.put, List.setIfInBounds_toArray, List.set_cons_zero, List.set_cons_succ]
                        refine held_skip (i := 5) (d := (some 128)) rfl rfl (by kernel_rfl) (by kernel_rfl) (by kernel_rfl) (fun _ _ _ h => h) (by rfl) hS ?_
                        simp only [Act.put, List.setIfInBounds_toArray, List.set_cons_zero, List.set_cons_succ]
                        refine held_take (i := 6) (d := (some 129)) (v := ?_) rfl rfl (by kernel_rfl) (by kernel_rfl) (by kernel_rfl) (fun _ _ _ h => h) (by rfl) ?_ hS ?_
                        rotate_left
                        · intro w' hSw; (try dsimp only at hSw); go_simp <;> with_reducible rfl
                        simp only [Act.put, List.setIfInBounds_toArray, List.set_cons_zero, List.set_cons_succ]
                        refine held_take (i := 7) (d := (some 130)) (v := ?_) rfl rfl (by kernel_rfl) (by kernel_rfl) (by kernel_rfl) (fun _ _ _ h => h) (by rfl) ?_ hS ?_
                        rotate_left
                        · intro w' hSw; (try dsimp only at hSw); go_simp <;> with_reducible rfl
                        simp only [Act.put, List.setIfInBounds_toArray, List.set_cons_zero, List.set_cons_succ]
                        refine held_take (i := 8) (d := (some 131)) (v := ?_) rfl rfl (by kernel_rfl) (by kernel_rfl) (by kernel_rfl) (fun _ _ _ h => h) (by rfl) ?_ hS ?_
                        rotate_left
                        · intro w' hSw; (try dsimp only at hSw); go_simp <;> with_reducible rfl
                        simp only [Act.put, List.setIfInBounds_toArray, List.set_cons_zero, List.set_cons_succ]
                        refine held_take (i := 9) (d := (some 132)) (v := ?_) rfl rfl (by kernel_rfl) (by kernel_rfl) (by kernel_rfl) (fun _ _ _ h => h) (by rfl) ?_ hS ?_
                        rotate_left
                        · intro w' hSw; (try dsimp only at hSw); go_simp <;> with_reducible rfl
                        simp only [Act.put, List.setIfInBounds_toArray, List.set_cons_zero, List.set_cons_succ]
                        refine held_take (i := 10) (d := (some 133)) (v := (.bool true)) rfl rfl (by kernel_rfl) (by kernel_rfl) (by kernel_rfl) (fun _ _ _ h => h) (by rfl) (fun w' _ => by have hd : ((l.length : Int) + 1 > 0) := (by omega); first | (go_simp; done) | (go_simp; simp [hd]; done) | (simp [go_sem, execOp, hd]; done)) hS ?_
                        simp only [Act.put, List.setIfInBounds_toArray, List.set_cons_zero, List.set_cons_succ]
                        refine held_take (i := 11) (d := (some 134)) (v := ?_) rfl rfl (by kernel_rfl) (by kernel_rfl) (by kernel_rfl) (fun _ _ _ h => h) (by rfl) ?_ hS ?_
                        rotate_left
                        · intro w' hSw; (try dsimp only at hSw); go_simp <;> with_reducible rfl
                        simp only [Act.put, List.setIfInBounds_toArray, List.set_cons_zero, List.set_cons_succ]
                        refine held_take (i := 12) (d := (some 135)) (v := ?_) rfl rfl (by kernel_rfl) (by kernel_rfl) (by kernel_rfl) (fun _ _ _ h => h) (by rfl) ?_ hS ?_
                        rotate_left
                        · intro w' hSw; (try dsimp only at hSw); go_simp <;> with_reducible rfl
                        simp only [Act.put, List.setIfInBounds_toArray, List.set_cons_zero, List.set_cons_succ]
                        refine held_take (i := 13) (d := (some 136)) (v := ?_) rfl rfl (by kernel_rfl) (by kernel_rfl) (by kernel_rfl) (fun _ _ _ h => h) (by rfl) ?_ hS ?_
                        rotate_left
                        · intro w' hSw; have hc := hSw.out.1; clear hSw; go_simp <;> with_reducible rfl
                        simp only [Act.put, List.setIfInBounds_toArray, List.set_cons_zero, List.set_cons_succ]
                        refine held_take (i := 14) (d := (some 137)) (v := ?_) rfl rfl (by kernel_rfl) (by kernel_rfl) (by kernel_rfl) (fun _ _ _ h => h) (by rfl) ?_ hS ?_
                        rotate_left
                        · intro w' hSw; have hc : (convert 29 9 (.slice A' y.size c')).run Try.prog w' = _ := told_str hSw.out.2.2; rw [show (⟨y.data.toList.toArray⟩ : ByteArray) = y from by cases y; simp] at hc; clear hSw; go_simp <;> with_reducible rfl
                        simp only [Act.put, List.setIfInBounds_toArray, List.set_cons_zero, List.set_cons_succ]
                        refine held_take (i := 15) (d := (some 138)) (v := ?_) rfl rfl (by kernel_rfl) (by kernel_rfl) (by kernel_rfl) (fun _ _ _ h => h) (by rfl) ?_ hS ?_
                        rotate_left
                        · intro w' hSw; (try dsimp only at hSw); go_simp <;> with_reducible rfl
                        simp only [Act.put, List.setIfInBounds_toArray, List.set_cons_zero, List.set_cons_succ]
                        refine held_take (i := 16) (d := (some 139)) (v := ?_) rfl rfl (by kernel_rfl) (by kernel_rfl) (by kernel_rfl) (fun _ _ _ h => h) (by rfl) ?_ hS ?_
                        rotate_left
                        · intro w' hSw; (try dsimp only at hSw); go_simp <;> with_reducible rfl
                        simp only [Act.put, List.setIfInBounds_toArray, List.set_cons_zero, List.set_cons_succ]
                        refine held_take (i := 17) (d := (some 140)) (v := ?_) rfl rfl (by kernel_rfl) (by kernel_rfl) (by kernel_rfl) (fun _ _ _ h => h) (by rfl) ?_ hS ?_
                        rotate_left
                        · intro w' hSw; have hc := hSw.out.2.1; clear hSw; go_simp <;> with_reducible rfl
                        simp only [Act.put, List.setIfInBounds_toArray, List.set_cons_zero, List.set_cons_succ]
                        refine held_take (i := 18) (d := (some 141)) (v := ?_) rfl rfl (by kernel_rfl) (by kernel_rfl) (by kernel_rfl) (fun _ _ _ h => h) (by rfl) ?_ hS ?_
                        rotate_left
                        · intro w' hSw; (try dsimp only at hSw); go_simp <;> with_reducible rfl
                        simp only [Act.put, List.setIfInBounds_toArray, List.set_cons_zero, List.set_cons_succ]
                        refine held_take (i := 19) (d := (some 142)) (v := ?_) rfl rfl (by kernel_rfl) (by kernel_rfl) (by kernel_rfl) (fun _ _ _ h => h) (by rfl) ?_ hS ?_
                        rotate_left
                        · intro w' hSw; (try dsimp only at hSw); go_simp <;> with_reducible rfl
                        simp only [Act.put, List.setIfInBounds_toArray, List.set_cons_zero, List.set_cons_succ]
                        refine held_take (i := 20) (d := (some 143)) (v := ?_) rfl rfl (by kernel_rfl) (by kernel_rfl) (by kernel_rfl) (fun _ _ _ h => h) (by rfl) ?_ hS ?_
                        rotate_left
                        · intro w' hSw; (try dsimp only at hSw); go_simp <;> with_reducible rfl
                        simp only [Act.put, List.setIfInBounds_toArray, List.set_cons_zero, List.set_cons_succ]
                        refine wpAnyH_done (by kernel_rfl) ?_ _
                        by_cases hcap : cc = 1
                        · subst hcap
                          obtain ⟨hl0, RD0⟩ := RD.out.none_left rfl
                          subst hl0
                          have RE := Lib.hid RD0
                          go_wp2
                          go_meet
                          exact ⟨next, done, labN, K', [], some ⟨r, o, none⟩, 0, rfl, rfl, rfl, KD, CF, MN, RE, BD, ZD⟩
                        · go_wp2
                          go_meet
                          exact ⟨next, done, labN, K', l, some ⟨r, o + 1, none⟩, cc - 1, rfl, rfl, rfl, KD, CF, MN, RD, BD, ZD⟩
                    · have qe : (q.env == 1) = false := by simpa using oe
                      rw [o12] at e0
                      have CF := Lib.hid (CO.out (by show ¬ q.op = 11; exact o11) (fun h => oe h.2))
                      clear C11 C12 CO
                      go_wp2
                      go_meet
                      exact ⟨next, done, labN, K', came, Ac, cc, rfl, rfl, rfl, KF, CF, MN, RF, BF, ZF⟩
                  · have q12 : (q.op == 12) = false := by simpa using o12
                    have CF := Lib.hid (CO.out (by show ¬ q.op = 11; exact o11) (fun h => o12 h.1))
                    clear C11 C12 CO
                    go_wp2
                    go_meet
                    exact ⟨next, done, labN, K', came, Ac, cc, rfl, rfl, rfl, KF, CF, MN, RF, BF, ZF⟩
              · have f3 : (kind == 0) = false := by simpa using q3
                go_wp2
                go_meet
                exact ⟨next, done, labJ, K, came, Ac, cc, rfl, rfl, rfl, HK, HC, Lib.hid (HM.out.mono (by omega)), HR, HB, HZ⟩
        case rest =>
          obtain ⟨next, done, labJ, K, came, Ac, cc, rfl, rfl, rfl, HK, HC, HM, HR, HB, HZ⟩ := hcut
          have hdn : done ≤ 1000 := by have h1 := HM.out.done; have h2 := HC.out.dn; omega
          have hle : ¬ (done : Int) > (next : Int) := by have := HC.out.le HK.out.ok; omega
          have CA := Lib.hid (Ke.call_kb HK.out HZ.out (2 + 2 * j) HM.out (by omega) (Ke.bare 13 2 0 0 0) Ke.noX (Ke.bare_in _ _ _ _ _ _ _ (by omega)))
          rw [show Ke.callR K (Ke.bare 13 2 0 0 0) = (K, (done : Int), [], 0) from Ke.cnt_13 HC.out] at CA
          go_wp2_with fail
          refine CA.out.mono ?_; rintro e wn ⟨A', c', rfl, labN, kN, LN, bN, _, _⟩
          have KN := Lib.hid kN
          have RN := Lib.hid (HR.out.step LN)
          have BN := Lib.hid (HB.out.trans (bN.mono B2.out.size))
          have ZN := Lib.hid (Nat.le_trans HZ.out bN.size)
          clear kN LN bN CA HK HR HB HZ
          obtain ⟨WF, hWF⟩ : ∃ WF, WF = wn.alloc (.cells #[.int .i64 (done : Int), .slice A' 0 c'] 31) := ⟨_, rfl⟩
          have bF : Below wn.heap.size wn WF := by rw [hWF]; exact (Below.refl _ wn).alloc (Nat.le_refl _) _
          have KF := Lib.hid (KN.out.new bF)
          have RF := Lib.hid (RN.out.new bF)
          have BF := Lib.hid (BN.out.trans (bF.mono BN.out.size))
          have ZF := Lib.hid (Nat.le_trans ZN.out bF.size)
          have c0 : WF.cell? ⟨wn.heap.size, 0, none⟩ = some (.int .i64 (done : Int)) := by rw [hWF]; exact (Blk.new wn 31 #[.int .i64 (done : Int), .slice A' 0 c']).cell 0
          have HWF := Lib.hid hWF
          have MF := Lib.hid (show K.Small (1 + 2 * (j + 1)) from HM.out.mono (by omega))
          clear hWF bF KN RN BN ZN HM
          go_upto_region 37 with fail
          rw [show wn.alloc (.cells #[.int .i64 (done : Int), .slice A' 0 c'] 31) = WF from HWF.out.symm]
          go_wp2
          go_roundw
          case rel => exact ⟨j + 1, next, done, labN, K, came, Ac, cc, by omega, rfl, rfl, rfl, by simp, KF, HC, MF, RF, BF, ZF⟩
          case measure => simp [intOf]; omega
      · have hge : ¬ (j : Int) < (n : Int) := by omega
        go_wp2
        go_ret
        exact ⟨rfl, HB.out⟩
  · have FA := Lib.hid (fun (W : World) (hw : Below w.heap.size w W) => Ke.far_any W A n c fn (Ke.kacts_new HA.out hw) true ⟨fun _ => hn, fun _ => rfl⟩)
    clear hn
    go_enter Try.func6, Try.ntmps6
    go_wp2_with fail
    refine AL.out.mono ?_; rintro e w1 ⟨rfl, b1⟩
    have B1 := Lib.hid b1
    clear b1
    go_wp2_with fail
    refine (FA.out _ B1.out).mono ?_; rintro e w2 ⟨rfl, b2⟩
    have B2 := Lib.hid (B1.out.trans (b2.mono B1.out.size))
    clear b2
    go_wp2
    go_ret
    exact ⟨rfl, B2.out⟩

set_option maxRecDepth 100000 in
theorem lifted (os : Os) (started : os.Started) (H : Type) (enc : TypeId × Value → H) :
    ReturnsInHanded {} Try.checked os 6 .any (Rows.kernCountsSpec.pre6 enc Try.prog Try.f6 Rows.kernCountsRow.domain false) (Rows.kernCountsSpec.post enc Try.prog Try.f6 false true false false) := by
  refine returnsInHanded_of_change (C := Try.checked) own started (by kernel_rfl) Try.func6
    (ChangeSpec.witness6 (enc := enc) (C := Try.checked) false ⟨#[], #[.slice none 0 0], []⟩ 8 (by kernel_rfl) (by kernel_rfl) (by kernel_rfl) (by kernel_rfl)) ?_
  intro W base args ds gs before hval0 hW hcnd _
  have hval : ∀ (j : Nat) t v, Try.f6.params[j]? = some t → args[j]? = some v → Value.okWide Try.prog W .any base t v := hval0
  have hW' := hW
  obtain ⟨p, q, hA0, hV, rfl, hfz, hnd⟩ := hW
  have hA : DataW.TrodAll enc Try.prog W 0 (fun _ => true) true Try.f6.params.toList args.toList ds p := hA0
  rw [Try.params6] at hA hval
  obtain ⟨v0, vs0, d0, ds0, p0, q0, hargs, rfl, rfl, h0, r0⟩ := trodAll_cons hA
  obtain ⟨rfl, rfl, rfl⟩ := trodAll_nil r0
  obtain rfl : args = #[v0] := by cases args; simp_all
  obtain ⟨A0, n0, c0, f0, rfl, b0⟩ := open_kacts (hval 0 22 v0 rfl rfl) h0
  clear hA0 hval0
  exact law_close hW' laidOut (by kernel_rfl) rfl Try.underlying4 rfl ⟨rfl, rfl, rfl⟩ (walk W A0 n0 c0 f0 b0)

theorem over : Rows.kernCountsRow.holds Try.pinned (OpenSpec.ofChange Rows.kernCountsSpec) :=
  OpenClaim.holds_of_wide 6 Try.f6 rfl rfl rfl rfl rfl rfl rfl ⟨rfl, rfl, rfl, rfl, rfl⟩ rfl rfl rfl rfl rfl (by kernel_rfl) Try.func6 (by kernel_rfl)
    (of_decide_eq_true (by kernel_rfl)) (by unfold Func.isWrapper; first | (rw [if_pos (by decide +kernel)]; kernel_rfl) | (rw [if_neg (by decide +kernel)]; exact ⟨rfl, rfl⟩))
    (fun os started H enc _ => lifted os started H enc)

theorem proved : Rows.KernCountsSaid := over

end Go.Proofs.Ytlilfblnlpjkcaa.kernCounts
