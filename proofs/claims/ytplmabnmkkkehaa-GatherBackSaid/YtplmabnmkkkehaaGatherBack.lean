/- Whatever list, text and numbers come in, 'pantlerlaw08.GatherBack' returns true and leaves them as they were. No condition. -/
import Derived.Test.YtplmabnmkkkehaaGaB
namespace Go.Proofs.Ytplmabnmkkkehaa.gatherBack
open Go.ChangeShapes Go.WideShapes Go.ChangeAt Go.RowKit Go.Deep Fr
set_option linter.unusedVariables false


set_option maxRecDepth 100000 in
set_option maxHeartbeats 4000000 in
theorem walk (w : World) (A0 : Option Addr) (c0 : Nat) (l : List Pc) (h0 : Pcs w A0 l ∧ (∀ q ∈ l, q.Ok) ∧ (A0 = none → l = [] ∧ c0 = 0)) (s : ByteArray) (ws : s.size ≤ maxLen) (fri : Int) (wf : (Lit.int .u16 fri).wf = true) (nni : Int) (wn : (Lit.int .u16 nni).wf = true) :
    Calls Try.prog 4 #[.slice A0 l.length c0, .string s, .int .u16 fri, .int .u16 nni] w fun e w' => e = .returned (.bool true) ∧ Below w.heap.size w w' := by
  obtain ⟨hp, hok, _⟩ := h0
  have HP := Lib.hid hp
  have OK := Lib.hid hok
  obtain ⟨fr, rfl, hfr⟩ := wf_u16 wf
  obtain ⟨nn, rfl, hnn⟩ := wf_u16 wn
  clear hp hok ws wf wn
  by_cases l0 : (s.size : Int) > 256
  · go_enter Try.func4, Try.ntmps4
    go_wp2_with fail
    refine (alive_any _).mono ?_; rintro e w0 ⟨rfl, b0⟩
    have B0 := Lib.hid b0
    clear b0
    go_wp2
    go_ret
    exact ⟨rfl, B0.out⟩
  by_cases l1 : (l.length : Int) > 100
  · go_enter Try.func4, Try.ntmps4
    go_wp2_with fail
    refine (alive_any _).mono ?_; rintro e w0 ⟨rfl, b0⟩
    have B0 := Lib.hid b0
    clear b0
    go_wp2
    go_ret
    exact ⟨rfl, B0.out⟩
  have l2 : l.length ≤ 100 := by omega
  have s2 : s.size ≤ 256 := by omega
  have OFC := Lib.hid (fun W (hb : Below w.heap.size w W) => of_cap A0 c0 l W (HP.out.new hb) (by omega))
  have NEW := Lib.hid (fun W => Fr.new_ok 3 W (by omega) (by omega))
  go_enter Try.func4, Try.ntmps4
  go_wp2_with fail
  refine (alive_any _).mono ?_; rintro e w0 ⟨rfl, b0⟩
  have B0 := Lib.hid b0
  clear b0
  go_wp2_with fail
  refine (NEW.out _).mono ?_; rintro e w1 ⟨rfl, t1, b1, z1⟩
  have hw0 : w.heap.size ≤ w0.heap.size := B0.out.size
  have B1 := Lib.hid (B0.out.trans (b1.mono hw0))
  have T1 := Lib.hid (show Tab w1 w0.heap.size (w0.heap.size + 1) (List.replicate 3 Pg.blank) ∧ Idle (List.replicate 3 Pg.blank) from ⟨t1, Idle.blank⟩)
  clear t1 b1 z1 NEW
  go_wp2
  go_loopw [11] (fun f wr => ∃ (j : Nat) (qs : List Pg), j ≤ 3 ∧ f = .int .i64 (j : Int) ∧ Hid (Tab wr w0.heap.size (w0.heap.size + 1) qs ∧ Idle qs) ∧ Hid (Below w.heap.size w wr)) (fun f _ => 3 - (intOf f).toNat)
  case atStart => exact ⟨0, _, Nat.zero_le _, rfl, T1, B1⟩
  case round =>
    clear T1 B1
    obtain ⟨j, qs, hj, rfl, TQ, B3⟩ := hrel
    have hw3 : w.heap.size ≤ wr.heap.size := B3.out.size
    by_cases hlt : j < 3
    · have hlt' : (j : Int) < 3 := by omega
      have j0 : (0 : Int) ≤ (j : Int) := by omega
      have xj := IntWalk.i64_in ((j : Int) + 1) (by omega)
      have xk : IntKind.i64.wrap (256 - (j : Int)) = 256 - (j : Int) := IntWalk.i64_in _ (by omega)
      have AL := Lib.hid (Fr.alloc_any TQ.out.1 1)
      go_wp2_with fail
      refine AL.out.mono ?_; rintro e w2 ⟨rfl, t2, k2⟩
      have T2 := Lib.hid t2
      have b2 := B3.out.trans (k2.below (B := w.heap.size) hw3 (fun i (hi : i = w0.heap.size) => by omega))
      obtain ⟨Ac, cc, W3, hrun, hsrc, hbc⟩ := Fr.conv_src s (by omega) w2
      clear t2 k2 AL
      by_cases hmin : (256 : Int) - (j : Int) < (s.size : Int)
      · obtain ⟨k, hk⟩ : ∃ k : Nat, (256 - (j : Int)).toNat = k := ⟨_, rfl⟩
        have hsl := run_front_u8 Ac s.size cc (256 - (j : Int)) (by omega) (by have := hsrc.cap; omega)
        rw [hk] at hsl
        have FR := Lib.hid (hsrc.front (k := k) (by omega))
        have WR := Lib.hid (Fr.write_any (T2.out.new hbc) 1 (j : Int) (j : Int) (by omega) Ac k cc (s.data.toList.take k) FR.out)
        have HBC := Lib.hid (b2.trans (hbc.mono b2.size))
        clear hsrc hbc b2 hk
        go_wp2_with fail
        refine WR.out.mono ?_; rintro e w4 ⟨rfl, t4, k4⟩
        have REL := Lib.hid (show Tab w4 w0.heap.size (w0.heap.size + 1) (writeR (allocR qs 1).1 1 (j : Int) (j : Int) (s.data.toList.take k)).1 ∧ Idle (writeR (allocR qs 1).1 1 (j : Int) (j : Int) (s.data.toList.take k)).1 from ⟨t4, (TQ.out.2.alloc 1).write _ _ _ _⟩)
        have HB4 := Lib.hid (HBC.out.trans (k4.below (B := w.heap.size) HBC.out.size (fun i (hi : i = w0.heap.size) => by omega)))
        clear t4 k4 FR WR HBC hsl
        go_wp2
        go_roundw
        case rel => exact ⟨j + 1, _, by omega, by simp, REL, HB4⟩
        case measure => simp [intOf]; omega
      · obtain ⟨k, hk⟩ : ∃ k : Nat, ((s.size : Int)).toNat = k := ⟨_, rfl⟩
        have hsl := run_front_u8 Ac s.size cc ((s.size : Int)) (by omega) (by have := hsrc.cap; omega)
        rw [hk] at hsl
        have FR := Lib.hid (hsrc.front (k := k) (by omega))
        have WR := Lib.hid (Fr.write_any (T2.out.new hbc) 1 (j : Int) (j : Int) (by omega) Ac k cc (s.data.toList.take k) FR.out)
        have HBC := Lib.hid (b2.trans (hbc.mono b2.size))
        clear hsrc hbc b2 hk
        go_wp2_with fail
        refine WR.out.mono ?_; rintro e w4 ⟨rfl, t4, k4⟩
        have REL := Lib.hid (show Tab w4 w0.heap.size (w0.heap.size + 1) (writeR (allocR qs 1).1 1 (j : Int) (j : Int) (s.data.toList.take k)).1 ∧ Idle (writeR (allocR qs 1).1 1 (j : Int) (j : Int) (s.data.toList.take k)).1 from ⟨t4, (TQ.out.2.alloc 1).write _ _ _ _⟩)
        have HB4 := Lib.hid (HBC.out.trans (k4.below (B := w.heap.size) HBC.out.size (fun i (hi : i = w0.heap.size) => by omega)))
        clear t4 k4 FR WR HBC hsl
        go_wp2
        go_roundw
        case rel => exact ⟨j + 1, _, by omega, by simp, REL, HB4⟩
        case measure => simp [intOf]; omega
    · have hge : ¬ (j : Int) < 3 := by omega
      have TT := Lib.hid TQ.out.1
      have HM := Lib.hid (show ∀ p ∈ qs, p.holds + 16 < 1000000 from fun p hp => by rw [TQ.out.2.2 p hp]; omega)
      have HZ := Lib.hid (fun W (T : Tab W w0.heap.size (w0.heap.size + 1) qs) (f : Int) => show Calls Try.prog 27 #[.pointer (some ⟨w0.heap.size + 1, 0, none⟩), .int .i64 f] W fun e w' => e = .returned (.int .i64 0) ∧ w' = W from by
        have := holds_any T f
        rw [TQ.out.2.holdsV] at this
        exact this)
      clear hj
      by_cases hck : checkR qs 1 l = 0
      · have ER := Lib.hid (show holdG qs 1 l = (holdN qs 1 l, 0) by unfold holdG; rw [if_pos hck])
        go_wp2_with fail
        refine (OFC.out _ B3.out).mono ?_; rintro e w4 ⟨Aw4, cw4, rfl, hpw4, bw4⟩
        have B4 := Lib.hid (B3.out.trans (bw4.mono B3.out.size))
        have Pw4 := Lib.hid hpw4
        have TT4 := Lib.hid (TT.out.new bw4)
        clear bw4 hpw4
        have HO := Lib.hid (hold_list TT4.out 1 Aw4 cw4 l Pw4.out.1 OK.out (fun b o e => by have := Pw4.out.2.2 b o e; have := TT.out.blk; omega) Pw4.out.2.1 HM.out (by omega))
        rw [ER.out] at HO
        go_wp2_with fail
        refine HO.out.mono ?_; rintro e w5 ⟨rfl, t5, k5⟩
        have T5 := Lib.hid t5
        have B5 := Lib.hid (B4.out.trans (k5.below (B := w.heap.size) B4.out.size (fun i (hi : i = w0.heap.size) => by omega)))
        clear t5 k5 HO
        have HL := Lib.hid (heldL TQ.out.2 (fun p hp => (TT.out.ok p hp).t) hck)
        have DG := Lib.hid (show dropG (holdN qs 1 l) l = (qs, 0) from dropG_holdN HL.out.own)
        have FE := Lib.hid (fun A c W (T : Tab W w0.heap.size (w0.heap.size + 1) (holdN qs 1 l)) (hp : Pcs W A l) => fetch_list T A c l hp OK.out (by omega))
        rw [HL.out.fetch] at FE
        dsimp only at FE
        rw [HL.out.length] at FE
        have LN := Lib.hid HL.out.length
        have SZ := Lib.hid (fun A c W (hp : Pcs W A l) => size_any A c l W hp OK.out (by omega))
        rw [HL.out.size] at SZ
        have CU := Lib.hid (fun A c W a n => HL.out.cutL OK.out (by omega) A c W a n)
        have tm := HL.out.max
        go_wp2_with fail
        refine (OFC.out _ B5.out).mono ?_; rintro e w6 ⟨Aw6, cw6, rfl, hpw6, bw6⟩
        have B6 := Lib.hid (B5.out.trans (bw6.mono B5.out.size))
        have Pw6 := Lib.hid hpw6
        have T6 := Lib.hid (T5.out.new bw6)
        clear bw6 hpw6
        generalize gatherB (txt (holdN qs 1 l)) l = G at *
        generalize total l = N at *
        generalize holdN qs 1 l = rs at *
        clear T5 HM ER TT
        go_wp2_with fail
        refine (FE.out _ _ _ T6.out Pw6.out.1).mono ?_; rintro e w7 ⟨A7, c7, rfl, s7, b7⟩
        have S7 := Lib.hid s7
        have T7 := Lib.hid (T6.out.new b7)
        have B7 := Lib.hid (B6.out.trans (b7.mono B6.out.size))
        clear s7 b7
        go_wp2_with fail
        refine (OFC.out _ B7.out).mono ?_; rintro e w8 ⟨Aw8, cw8, rfl, hpw8, bw8⟩
        have B8 := Lib.hid (B7.out.trans (bw8.mono B7.out.size))
        have Pw8 := Lib.hid hpw8
        have T8 := Lib.hid (T7.out.new bw8)
        have S8 := Lib.hid (S7.out.below bw8)
        clear bw8 hpw8
        go_wp2_with fail
        refine (SZ.out _ _ _ Pw8.out.1).mono ?_; rintro e w9 ⟨rfl, b9⟩
        have T9 := Lib.hid (T8.out.new b9)
        have S9 := Lib.hid (S8.out.below b9)
        have B9 := Lib.hid (B8.out.trans (b9.mono B8.out.size))
        clear b9 T7 T8 S7 S8 T6
        have x0 : IntKind.i64.wrap ((N : Int) + 1) = (N : Int) + 1 := IntWalk.i64_in _ (by omega)
        have q0 : ¬ (N : Int) + 1 = 0 := by omega
        have y0 : IntKind.i64.wrap (fr : Int) = (fr : Int) := IntWalk.i64_in _ (by omega)
        have y1 : IntKind.i64.wrap (nn : Int) = (nn : Int) := IntWalk.i64_in _ (by omega)
        obtain ⟨a, ha⟩ : ∃ a : Nat, (fr : Int).tmod ((N : Int) + 1) = (a : Int) := ⟨fr % (N + 1), by rw [Int.tmod_eq_emod_of_nonneg (by omega)]; rfl⟩
        have ha1 : a ≤ N := by
          rw [Int.tmod_eq_emod_of_nonneg (by omega)] at ha
          have := Int.emod_lt_of_pos (fr : Int) (show (0 : Int) < (N : Int) + 1 by omega)
          omega
        have x1 : IntKind.i64.wrap ((N : Int) - (a : Int)) = (N : Int) - (a : Int) := IntWalk.i64_in _ (by omega)
        have x2 : IntKind.i64.wrap ((N : Int) - (a : Int) + 1) = (N : Int) - (a : Int) + 1 := IntWalk.i64_in _ (by omega)
        have x3 : IntKind.i64.wrap (a : Int) = (a : Int) := IntWalk.i64_in _ (by omega)
        have q1 : ¬ (N : Int) - (a : Int) + 1 = 0 := by omega
        obtain ⟨m, hm⟩ : ∃ m : Nat, (nn : Int).tmod ((N : Int) - (a : Int) + 1) = (m : Int) := ⟨nn % (N - a + 1), by
          rw [Int.tmod_eq_emod_of_nonneg (by omega), show (N : Int) - (a : Int) + 1 = ((N - a + 1 : Nat) : Int) by omega]; rfl⟩
        have hm1 : a + m ≤ N := by
          rw [Int.tmod_eq_emod_of_nonneg (by omega)] at hm
          have := Int.emod_lt_of_pos (nn : Int) (show (0 : Int) < (N : Int) - (a : Int) + 1 by omega)
          omega
        have x4 : IntKind.i64.wrap (m : Int) = (m : Int) := IntWalk.i64_in _ (by omega)
        have x5 : IntKind.i64.wrap ((a : Int) + (m : Int)) = (a : Int) + (m : Int) := IntWalk.i64_in _ (by omega)
        go_wp2_with fail
        refine (OFC.out _ B9.out).mono ?_; rintro e wa ⟨Awa, cwa, rfl, hpwa, bwa⟩
        have Ba := Lib.hid (B9.out.trans (bwa.mono B9.out.size))
        have Pwa := Lib.hid hpwa
        have Ta := Lib.hid (T9.out.new bwa)
        have Sa := Lib.hid (S9.out.below bwa)
        clear bwa hpwa
        go_wp2_with fail
        refine (CU.out _ _ _ a m Pwa.out.1 hm1).mono ?_; rintro e wb ⟨Ab, cb, L, rfl, pb, ob, lb, fb, bb⟩
        have Tb := Lib.hid (Ta.out.new bb)
        have Sb := Lib.hid (Sa.out.below bb)
        have Bb := Lib.hid (Ba.out.trans (bb.mono Ba.out.size))
        have FB := Lib.hid (fetch_list Tb.out Ab cb L pb ob (by omega))
        rw [fb] at FB
        clear pb ob lb fb bb T9 S9 Ta Sa
        go_wp2_with fail
        refine FB.out.mono ?_; rintro e wc ⟨Ac, cc, rfl, sc, bc⟩
        have Tc := Lib.hid (Tb.out.new bc)
        have Sd := Lib.hid (Sb.out.below bc)
        have Sc := Lib.hid sc
        have Bc := Lib.hid (Bb.out.trans (bc.mono Bb.out.size))
        have hsub := Sd.out.sub (a := a) (b := m) hm1
        have hcap := Sd.out.cap
        have RS := run_sub_u8 A7 N c7 a m (by omega)
        generalize (if c7 = a then A7 else A7.map (·.add a)) = A9 at *
        generalize c7 - a = c9 at *
        generalize (G.drop a).take m = Z at *
        have TO1 := fun n => Fr.told_str (Sc.out.drewN n)
        have TO2 := fun n => Fr.told_str (hsub.drewN n)
        have BD := Lib.hid (fun n => show Below w.heap.size w (wc.drewN n) from ⟨Bc.out.os, Bc.out.tape, Bc.out.output, Bc.out.size, Bc.out.block⟩)
        have TD := Lib.hid (fun n => Tc.out.drewN n)
        clear sc bc Tb Sb FB hsub hcap Sd Sc
        go_wp2_with fail
        go_quiet (fail)
        clear TO1 TO2 RS
        go_wp2_with fail
        refine (OFC.out _ (BD.out _)).mono ?_; rintro e wf ⟨Af, cf, rfl, hf, bf⟩
        have Bf := Lib.hid ((BD.out _).trans (bf.mono (BD.out _).size))
        have Tf := Lib.hid ((TD.out _).new bf)
        have hnb := fun b o (e : Af = some ⟨b, o, none⟩) => hf.2.2 b o e
        have DR := Lib.hid (drop_list Tf.out Af cf l hf.1 (fun b o e => by have h1 : wc.heap.size ≤ b := hnb b o e; have h2 : w0.heap.size < wc.heap.size := (TD.out 0).blk; exact fun e2 => by subst e2; omega) (by omega))
        rw [DG.out] at DR
        clear hf bf hnb
        go_wp2_with fail
        refine DR.out.mono ?_; rintro e wg ⟨rfl, tg, kg⟩
        have Tg := Lib.hid tg
        have Bg := Lib.hid (Bf.out.trans (kg.below (B := w.heap.size) Bf.out.size (fun i (hi : i = w0.heap.size) => by omega)))
        clear tg kg DR
        go_wp2_with fail
        refine (HZ.out _ Tg.out 0).mono ?_; rintro e wq ⟨rfl, rfl⟩
        go_wp2_with fail
        refine (HZ.out _ Tg.out 1).mono ?_; rintro e wq ⟨rfl, rfl⟩
        go_wp2_with fail
        refine (HZ.out _ Tg.out 2).mono ?_; rintro e wq ⟨rfl, rfl⟩
        go_wp2
        go_ret
        exact ⟨rfl, Bg.out⟩
      · have ER := Lib.hid (show holdG qs 1 l = (qs, checkR qs 1 l) by unfold holdG; rw [if_neg hck])
        have hv : (checkR qs 1 l == 0) = false := by simpa using hck
        generalize checkR qs 1 l = v at *
        go_wp2_with fail
        refine (OFC.out _ B3.out).mono ?_; rintro e w4 ⟨Aw4, cw4, rfl, hpw4, bw4⟩
        have B4 := Lib.hid (B3.out.trans (bw4.mono B3.out.size))
        have Pw4 := Lib.hid hpw4
        have TT4 := Lib.hid (TT.out.new bw4)
        clear bw4 hpw4
        have HO := Lib.hid (hold_list TT4.out 1 Aw4 cw4 l Pw4.out.1 OK.out (fun b o e => by have := Pw4.out.2.2 b o e; have := TT.out.blk; omega) Pw4.out.2.1 HM.out (by omega))
        rw [ER.out] at HO
        go_wp2_with fail
        refine HO.out.mono ?_; rintro e w5 ⟨rfl, t5, k5⟩
        have T5 := Lib.hid t5
        have B5 := Lib.hid (B4.out.trans (k5.below (B := w.heap.size) B4.out.size (fun i (hi : i = w0.heap.size) => by omega)))
        clear t5 k5 HO
        go_wp2_with fail
        refine (HZ.out _ T5.out 0).mono ?_; rintro e wq ⟨rfl, rfl⟩
        go_wp2_with fail
        refine (HZ.out _ T5.out 1).mono ?_; rintro e wq ⟨rfl, rfl⟩
        go_wp2_with fail
        refine (HZ.out _ T5.out 2).mono ?_; rintro e wq ⟨rfl, rfl⟩
        go_wp2
        go_ret
        exact ⟨rfl, B5.out⟩

set_option maxRecDepth 100000 in
theorem lifted (os : Os) (started : os.Started) (H : Type) (enc : TypeId × Value → H) :
    ReturnsInHanded {} Try.checked os 4 .any (Rows.gatherBackSpec.pre6 enc Try.prog Try.f4 Rows.gatherBackRow.domain false) (Rows.gatherBackSpec.post enc Try.prog Try.f4 false true false false) := by
  refine returnsInHanded_of_change (C := Try.checked) own started (by kernel_rfl) Try.func4
    (ChangeSpec.witness6 (enc := enc) (C := Try.checked) false ⟨#[], #[.slice none 0 0, .string ⟨#[]⟩, .int .u16 0, .int .u16 0], []⟩ 8 (by kernel_rfl) (by kernel_rfl) (by kernel_rfl) (by kernel_rfl)) ?_
  intro W base args ds gs before hval0 hW hcnd _
  have hval : ∀ (j : Nat) t v, Try.f4.params[j]? = some t → args[j]? = some v → Value.okWide Try.prog W .any base t v := hval0
  have hW' := hW
  obtain ⟨p, q, hA0, hV, rfl, hfz, hnd⟩ := hW
  have hA : DataW.TrodAll enc Try.prog W 0 (fun _ => true) true Try.f4.params.toList args.toList ds p := hA0
  rw [Try.params4] at hA hval
  obtain ⟨v0, vs0, d0, ds0, p0, q0, hargs, rfl, rfl, h0, r0⟩ := trodAll_cons hA
  obtain ⟨v1, vs1, d1, ds1, p1, q1, rfl, rfl, rfl, h1, r1⟩ := trodAll_cons r0
  obtain ⟨v2, vs2, d2, ds2, p2, q2, rfl, rfl, rfl, h2, r2⟩ := trodAll_cons r1
  obtain ⟨v3, vs3, d3, ds3, p3, q3, rfl, rfl, rfl, h3, r3⟩ := trodAll_cons r2
  obtain ⟨rfl, rfl, rfl⟩ := trodAll_nil r3
  obtain rfl : args = #[v0, v1, v2, v3] := by cases args; simp_all
  obtain ⟨A0, c0, f0, rfl, b0⟩ := open_pcs Try.underlying37 Try.underlying79 (by kernel_rfl) rfl rfl rfl (by kernel_rfl) (by kernel_rfl) (by kernel_rfl) Try.underlying3 Try.underlying3 Try.underlying3 (hval 0 37 v0 rfl rfl) h0
  obtain ⟨a1, rfl, _, _, w1⟩ := Go.ChangeMaps.open_string Try.underlying9 (hval 1 9 v1 rfl rfl) h1
  obtain ⟨a2, rfl, _, _, w2⟩ := open_int Try.underlying53 (hval 2 53 v2 rfl rfl) h2
  obtain ⟨a3, rfl, _, _, w3⟩ := open_int Try.underlying53 (hval 3 53 v3 rfl rfl) h3
  clear hA0 hval0
  exact law_close hW' laidOut (by kernel_rfl) rfl Try.underlying4 rfl ⟨rfl, rfl, rfl⟩ (walk W A0 c0 f0 b0 a1 w1 a2 w2 a3 w3)

theorem over : Rows.gatherBackRow.holds Try.pinned (OpenSpec.ofChange Rows.gatherBackSpec) :=
  OpenClaim.holds_of_wide 4 Try.f4 rfl rfl rfl rfl rfl rfl rfl ⟨rfl, rfl, rfl, rfl, rfl⟩ rfl rfl rfl rfl rfl (by kernel_rfl) Try.func4 (by kernel_rfl)
    (of_decide_eq_true (by kernel_rfl)) (by unfold Func.isWrapper; first | (rw [if_pos (by decide +kernel)]; kernel_rfl) | (rw [if_neg (by decide +kernel)]; exact ⟨rfl, rfl⟩))
    (fun os started H enc _ => lifted os started H enc)

theorem proved : Rows.GatherBackSaid := over

end Go.Proofs.Ytplmabnmkkkehaa.gatherBack
