/- RasmStream says true for every input: what is taken in all is a beginning of the stream whose parts come in whatever order, and all comes if each byte comes in order once more. Conditions: none beyond the given statement's. -/
import Derived.Test.YtikfoodlcmffdaaRaS
namespace Go.Proofs.Ytikfoodlcmffdaa.rasmStream
open Go.ChangeShapes Go.WideShapes Go.ChangeAt Go.RowKit Ra Go.Deep
set_option linter.unusedVariables false


set_option maxRecDepth 100000 in
set_option maxHeartbeats 4000000 in
theorem walk (w : World) (r0 : Int) (wr0 : (Lit.int .u8 r0).wf = true) (S : ByteArray) (wS : S.size ≤ maxLen) (A2 : Option Addr) (c2 : Nat) (cu : List Nat) (b2 : Rk.RowG w 1 A2 cu.length c2 (cu.flatMap U16sC)) (k2 : ∀ a ∈ cu, (fun (x : Nat) => x ≤ 65535) a) (A3 : Option Addr) (c3 : Nat) (tb : List Bool) (b3 : Rk.RowG w 1 A3 tb.length c3 (tb.flatMap BoolsC)) (k3 : ∀ a ∈ tb, (fun (x : Bool) => True) a) :
    Calls Try.prog 4 #[.int .u8 r0, .string S, .slice A2 cu.length c2, .slice A3 tb.length c3] w fun e w' => e = .returned (.bool true) ∧ Below w.heap.size w w' := by
  obtain ⟨r, rfl, hr⟩ := wf_u8 wr0
  clear wr0 wS k3
  have K2 := Lib.hid (show ∀ i (hi : i < cu.length), cu[i] ≤ 65535 from fun i hi => k2 _ (List.getElem_mem hi))
  have BC := Lib.hid b2
  have BT := Lib.hid b3
  have NT := Lib.hid (show tb.length ≤ 9223372036854775807 from by have h1 := b3.cap; have h2 := b3.max; unfold maxLen at h2; omega)
  obtain ⟨l, hl⟩ : ∃ l : List UInt8, l = S.data.toList := ⟨_, rfl⟩
  have SE := Lib.hid (show S = ⟨l.toArray⟩ from by rw [hl])
  obtain ⟨ns, hns⟩ : ∃ ns : Nat, S.size = ns := ⟨_, rfl⟩
  have LN := Lib.hid (show l.length = ns from by rw [hl, ← hns]; rfl)
  have CT := Lib.hid (show ∀ i j : Nat, i ≤ j → j ≤ ns → ns ≤ 1000000 → ∃ t : ByteArray, t.data.toList = (l.drop i).take (j - i) ∧ t.size = j - i ∧ ∀ W, (Instr.slice 9 (.string S) (some (.int .i64 (i : Int))) (some (.int .i64 (j : Int))) none).run Try.prog W = .ok (.string t) W from fun i j h1 h2 h3 =>
    ⟨⟨((l.drop i).take (j - i)).toArray⟩, by simp, by show ((l.drop i).take (j - i)).length = _; rw [List.length_take, List.length_drop, LN.out]; omega, fun W => by rw [SE.out]; exact Gx.run_cut_text l i j h1 (by rw [LN.out]; exact h2) (by rw [LN.out]; exact h3) W⟩)
  clear hl k2
  obtain ⟨nc, hnc⟩ : ∃ nc, cu.length = nc := ⟨_, rfl⟩
  obtain ⟨nt, hnt⟩ : ∃ nt, tb.length = nt := ⟨_, rfl⟩
  have NC := Lib.hid hnc
  have NTT := Lib.hid hnt
  rw [hnc, hnt]
  clear b2 b3 hnc hnt
  have u2 := IntWalk.i64_in (r : Int) (by omega)
  obtain ⟨R, hR⟩ : ∃ R : Nat, R = 1 + r := ⟨_, rfl⟩
  have hR1 : 1 ≤ R ∧ R ≤ 256 := by omega
  have u1 : IntKind.i64.wrap (1 + (r : Int)) = (R : Int) := by rw [IntWalk.i64_in _ (by omega)]; omega
  clear hR
  by_cases hl1 : (400 : Int) < ns
  · go_enter Try.func4, Try.ntmps4
    go_wp2_with fail
    refine (alive_any w).mono ?_; rintro e w1 ⟨rfl, b1⟩
    have B1 := Lib.hid b1
    clear b1
    go_wp2
    go_ret
    exact ⟨rfl, B1.out⟩
  by_cases hl2 : (100 : Int) < nc
  · go_enter Try.func4, Try.ntmps4
    go_wp2_with fail
    refine (alive_any w).mono ?_; rintro e w1 ⟨rfl, b1⟩
    have B1 := Lib.hid b1
    clear b1
    go_wp2
    go_ret
    exact ⟨rfl, B1.out⟩
  have NB := Lib.hid (show ns ≤ 400 ∧ nc ≤ 100 from by omega)
  have NW := Lib.hid (fun w1 (b1 : Below w.heap.size w w1) => new_bb R w1 w hR1.1 (by omega) b1)
  go_enter Try.func4, Try.ntmps4
  go_wp2_with fail
  refine (alive_any w).mono ?_; rintro e w1 ⟨rfl, b1⟩
  have B1 := Lib.hid b1
  clear b1
  go_wp2_with fail
  refine (NW.out w1 B1.out).mono ?_; rintro e w2 ⟨gt, gm, g, rfl, h2, _⟩
  have H2 := Lib.hid h2
  clear h2 NW B1
  go_wp2
  go_loopw [12, 11] (fun i ov wr => ∃ (iv N : Nat) (o : ByteArray) (xs : Bs), iv ≤ nc + 2 ∧ i = .int .i64 (iv : Int) ∧ ov = .string o ∧ Hid (o = ⟨(l.take N).toArray⟩) ∧ Hid (St l N xs) ∧ Hid (BB w wr gt gm g R N xs)) (fun i _ _ => nc + 2 - (intOf i).toNat)
  case atStart => exact ⟨0, 0, ⟨#[]⟩, List.replicate R none, by omega, rfl, rfl, Lib.hid (by simp), Lib.hid (St.start l R), H2⟩
  case round =>
    obtain ⟨iv, N, o, xs, hiv, rfl, rfl, EO, SX, BX⟩ := hrel
    have NN := NB.out
    obtain ⟨i1, hi1⟩ : ∃ i1 : Nat, i1 = iv + 1 := ⟨_, rfl⟩
    have xi1 : IntKind.i64.wrap ((iv : Int) + 1) = (i1 : Int) := by rw [IntWalk.i64_in _ (by omega)]; omega
    have xi2 := IntWalk.i64_in ((iv : Int) + 2) (by omega)
    by_cases hin : i1 < nc ∧ 0 < ns
    · obtain ⟨hlt, hns0⟩ := hin
      have hlt' : (i1 : Int) < (nc : Int) := by omega
      have hlt0 : (iv : Int) < (nc : Int) := by omega
      have hns0' : (0 : Int) < (ns : Int) := by omega
      have iv0 : (0 : Int) ≤ (iv : Int) := by omega
      have i10 : (0 : Int) ≤ (i1 : Int) := by omega
      have ra := BC.out.new BX.out.below
      have hiva : iv < cu.length := by rw [NC.out]; omega
      have hi1a : i1 < cu.length := by rw [NC.out]; omega
      obtain ⟨b0, o0, e0, _, hc0⟩ := u16_at ra hiva
      obtain ⟨b0', o0', e0', _, hc1⟩ := u16_at ra hi1a
      rw [e0] at e0'
      cases e0'
      have q0 := K2.out iv hiva
      have q1 := K2.out i1 hi1a
      generalize cu[iv] = v0 at *
      generalize cu[i1] = v1 at *
      have w0 := IntWalk.i64_in (v0 : Int) (by omega)
      have w1' := IntWalk.i64_in (v1 : Int) (by omega)
      have hnsz : (ns : Int) ≠ 0 := by omega
      obtain ⟨a, ha⟩ : ∃ a : Nat, a = v0 % ns := ⟨_, rfl⟩
      have haN : a < ns := by rw [ha]; exact Nat.mod_lt _ hns0
      have x0 : Int.tmod (v0 : Int) (ns : Int) = (a : Int) := by rw [Int.tmod_eq_emod_of_nonneg (by omega), ha]; omega
      obtain ⟨D, hD⟩ : ∃ D : Nat, D = ns - a + 1 := ⟨_, rfl⟩
      obtain ⟨rr, hrr⟩ : ∃ rr : Nat, rr = v1 % D := ⟨_, rfl⟩
      have hrD : rr < D := by rw [hrr]; exact Nat.mod_lt _ (by omega)
      obtain ⟨D1, hD1⟩ : ∃ D1 : Int, D1 = (ns : Int) - (a : Int) := ⟨_, rfl⟩
      have x1 : IntKind.i64.wrap ((ns : Int) - (a : Int)) = D1 := by rw [IntWalk.i64_in _ (by omega), hD1]
      have x2 : IntKind.i64.wrap (D1 + 1) = (D : Int) := by rw [IntWalk.i64_in _ (by omega)]; omega
      have x3 : Int.tmod (v1 : Int) (D : Int) = (rr : Int) := by rw [Int.tmod_eq_emod_of_nonneg (by omega), hrr]; omega
      have hDz : (D : Int) ≠ 0 := by omega
      obtain ⟨b, hb⟩ : ∃ b : Nat, b = a + rr := ⟨_, rfl⟩
      have x4 : IntKind.i64.wrap ((a : Int) + (rr : Int)) = (b : Int) := by rw [IntWalk.i64_in _ (by omega)]; omega
      obtain ⟨t, ht1, ht2, ht3⟩ := CT.out a b (by omega) (by omega) (by omega)
      obtain ⟨A9, c9, w9, hcv, hput⟩ := put_conv BX.out (a : Int) (by omega) t (by omega)
      have PU := Lib.hid hput
      have SX2 := Lib.hid (SX.out.put a (b - a))
      rw [← ht1] at SX2
      obtain ⟨q, hq⟩ : ∃ q : Nat, q = iv / 2 := ⟨_, rfl⟩
      have x5 : Int.tdiv (iv : Int) 2 = (q : Int) := by rw [Int.tdiv_eq_ediv_of_nonneg (by omega), hq]; omega
      have q00 : (0 : Int) ≤ (q : Int) := by omega
      have x6 := IntWalk.i64_in (q : Int) (by omega)
      clear ra hiva hi1a q0 q1 ha hD hrr hrD hD1 hput ht1 ht2 hb hi1 hq
      subst e0
      go_wp2_with fail
      refine PU.out.mono ?_; rintro e w5 ⟨rfl, h5⟩
      have BX5 := Lib.hid h5
      clear h5 PU BX SX hcv
      generalize putR xs ((a : Int) - (N : Int)) t.data.toList = ys at *
      by_cases hqt : q < nt
      · have hqt' : (q : Int) < (nt : Int) := by omega
        have rb := BT.out.new BX5.out.below
        have hqa : q < tb.length := by rw [NTT.out]; exact hqt
        obtain ⟨b4, o4, e4, _, hc4⟩ := bool_at rb hqa
        by_cases htk : tb[q] = true
        · rw [htk] at hc4
          clear htk rb hqa
          subst e4
          have TA := Lib.hid (BX5.out.take (by have := SX2.out.1; rw [LN.out] at this; omega))
          obtain ⟨S1, S2⟩ := SX2.out.take
          have SS := Lib.hid S1
          have ST := Lib.hid S2
          clear S1 S2
          go_wp2_with fail
          refine TA.out.mono ?_; rintro e w6 ⟨gn, rfl, hs6, h6, _⟩
          have Y := Lib.hid h6
          have tl := Di.told_str hs6
          obtain ⟨tt, htt⟩ : ∃ tt : ByteArray, tt = ⟨(tk ys).toArray⟩ := ⟨_, rfl⟩
          rw [← htt] at tl
          have OS : o.size = N := by rw [EO.out]; show (l.take N).length = N; rw [List.length_take]; have := SX2.out.1; omega
          have TS : tt.size = rdy ys := by rw [htt]; show (tk ys).length = _; exact tk_length ys
          have hbig : ¬ 9223372036854775807 < o.size + tt.size := by rw [OS, TS]; have := SS.out.1; rw [LN.out] at this; omega
          have E0 := Lib.hid (show o ++ tt = ⟨(l.take (N + rdy ys)).toArray⟩ from by rw [EO.out, htt, ByteArray.mk_append_mk, ← ST.out])
          clear h6 hs6 TA ST SX2 BX5 htt OS TS
          go_upto_region 17 with fail
          obtain ⟨o2, ho2⟩ : ∃ o2, o2 = o ++ tt := ⟨_, rfl⟩
          rw [← ho2]
          have E2 := Lib.hid (show o2 = ⟨(l.take (N + rdy ys)).toArray⟩ from by rw [ho2]; exact E0.out)
          clear E0 ho2 tl hbig EO
          obtain ⟨M, hM⟩ : ∃ M, M = N + rdy ys := ⟨_, rfl⟩
          obtain ⟨zs, hzs⟩ : ∃ zs, zs = aft ys := ⟨_, rfl⟩
          rw [← hM] at E2 SS Y
          rw [← hzs] at SS Y
          have Z := Lib.hid SS.out
          clear SS hM hzs
          have NX := Lib.hid (next_any Y.out.buf)
          obtain ⟨hv, hhv⟩ : ∃ hv : Nat, held zs = hv := ⟨_, rfl⟩
          have hvR : hv ≤ R := by rw [← hhv]; have := held_le zs; rw [Y.out.buf.len] at this; exact this
          have HE := Lib.hid (held_any Y.out.buf)
          rw [hhv] at HE
          have hoN : o2.size = M := by rw [E2.out]; show (l.take M).length = M; rw [List.length_take]; have := Z.out.1; omega
          have hle : decide (ns < M) = false := decide_eq_false (by have := Z.out.1; rw [LN.out] at this; omega)
          have FR := fun W => show (Instr.slice 9 (.string S) none (some (.int .i64 (M : Int))) none).run Try.prog W = .ok (.string o2) W from by
            rw [SE.out, E2.out]; exact Gx.run_front_text l M (by have := Z.out.1; exact this) W
          have hvR' : decide (R < hv) = false := decide_eq_false (by omega)
          have OE : o2.size = M := hoN
          clear hhv
          go_wp2_with fail
          refine NX.out.mono ?_; rintro e w8 ⟨rfl, hw8⟩
          rw [hw8]
          clear hw8 w8
          go_wp2_with fail
          refine HE.out.mono ?_; rintro e w8 ⟨rfl, hw8⟩
          rw [hw8]
          clear hw8 w8
          go_wp2
          go_roundw
          case rel => exact ⟨iv + 2, M, o2, zs, by omega, by go_num, rfl, E2, Z, Y⟩
          case measure => simp [intOf]; omega
        · rw [show tb[q] = false from by simpa using htk] at hc4
          clear htk rb hqa
          subst e4
          have Y := BX5
          have Z := SX2
          have E2 := EO
          clear BX5 SX2 EO
          go_upto_region 17 with fail
          obtain ⟨M, hM⟩ : ∃ M, M = N := ⟨_, rfl⟩
          subst hM
          obtain ⟨zs, hzs⟩ : ∃ zs, zs = ys := ⟨_, rfl⟩
          subst hzs
          obtain ⟨o2, ho2⟩ : ∃ o2, o2 = o := ⟨_, rfl⟩
          subst ho2
          have NX := Lib.hid (next_any Y.out.buf)
          obtain ⟨hv, hhv⟩ : ∃ hv : Nat, held zs = hv := ⟨_, rfl⟩
          have hvR : hv ≤ R := by rw [← hhv]; have := held_le zs; rw [Y.out.buf.len] at this; exact this
          have HE := Lib.hid (held_any Y.out.buf)
          rw [hhv] at HE
          have hoN : o2.size = M := by rw [E2.out]; show (l.take M).length = M; rw [List.length_take]; have := Z.out.1; omega
          have hle : decide (ns < M) = false := decide_eq_false (by have := Z.out.1; rw [LN.out] at this; omega)
          have FR := fun W => show (Instr.slice 9 (.string S) none (some (.int .i64 (M : Int))) none).run Try.prog W = .ok (.string o2) W from by
            rw [SE.out, E2.out]; exact Gx.run_front_text l M (by have := Z.out.1; exact this) W
          have hvR' : decide (R < hv) = false := decide_eq_false (by omega)
          have OE : o2.size = M := hoN
          clear hhv
          go_wp2_with fail
          refine NX.out.mono ?_; rintro e w8 ⟨rfl, hw8⟩
          rw [hw8]
          clear hw8 w8
          go_wp2_with fail
          refine HE.out.mono ?_; rintro e w8 ⟨rfl, hw8⟩
          rw [hw8]
          clear hw8 w8
          go_wp2
          go_roundw
          case rel => exact ⟨iv + 2, M, o2, zs, by omega, by go_num, rfl, E2, Z, Y⟩
          case measure => simp [intOf]; omega
      · have hqt' : ¬ (q : Int) < (nt : Int) := by omega
        have Y := BX5
        have Z := SX2
        have E2 := EO
        clear BX5 SX2 EO
        go_upto_region 17 with fail
        obtain ⟨M, hM⟩ : ∃ M, M = N := ⟨_, rfl⟩
        subst hM
        obtain ⟨zs, hzs⟩ : ∃ zs, zs = ys := ⟨_, rfl⟩
        subst hzs
        obtain ⟨o2, ho2⟩ : ∃ o2, o2 = o := ⟨_, rfl⟩
        subst ho2
        have NX := Lib.hid (next_any Y.out.buf)
        obtain ⟨hv, hhv⟩ : ∃ hv : Nat, held zs = hv := ⟨_, rfl⟩
        have hvR : hv ≤ R := by rw [← hhv]; have := held_le zs; rw [Y.out.buf.len] at this; exact this
        have HE := Lib.hid (held_any Y.out.buf)
        rw [hhv] at HE
        have hoN : o2.size = M := by rw [E2.out]; show (l.take M).length = M; rw [List.length_take]; have := Z.out.1; omega
        have hle : decide (ns < M) = false := decide_eq_false (by have := Z.out.1; rw [LN.out] at this; omega)
        have FR := fun W => show (Instr.slice 9 (.string S) none (some (.int .i64 (M : Int))) none).run Try.prog W = .ok (.string o2) W from by
          rw [SE.out, E2.out]; exact Gx.run_front_text l M (by have := Z.out.1; exact this) W
        have hvR' : decide (R < hv) = false := decide_eq_false (by omega)
        have OE : o2.size = M := hoN
        clear hhv
        go_wp2_with fail
        refine NX.out.mono ?_; rintro e w8 ⟨rfl, hw8⟩
        rw [hw8]
        clear hw8 w8
        go_wp2_with fail
        refine HE.out.mono ?_; rintro e w8 ⟨rfl, hw8⟩
        rw [hw8]
        clear hw8 w8
        go_wp2
        go_roundw
        case rel => exact ⟨iv + 2, M, o2, zs, by omega, by go_num, rfl, E2, Z, Y⟩
        case measure => simp [intOf]; omega
    · have NL := Lib.hid hin
      by_cases hlt : i1 < nc
      · have hlt' : (i1 : Int) < (nc : Int) := by omega
        have hns0 : ¬ (0 : Int) < (ns : Int) := by omega
        clear hin hlt hi1
        go_wp2
        go_loopw [15, 11] (fun i ov wr => ∃ (j N : Nat) (o : ByteArray) (xs : Bs), j ≤ ns ∧ j ≤ N ∧ i = .int .i64 (j : Int) ∧ ov = .string o ∧ Hid (o = ⟨(l.take N).toArray⟩) ∧ Hid (St l N xs) ∧ Hid (BB w wr gt gm g R N xs)) (fun i _ _ => ns - (intOf i).toNat)
        case atStart => exact ⟨0, N, o, xs, by omega, by omega, rfl, rfl, EO, SX, BX⟩
        case round =>
          obtain ⟨j, N, o, xs, hj, hjN, rfl, rfl, EO, SX, BX⟩ := hrel
          have NN := NB.out
          by_cases hlt : j < ns
          · have hlt' : (j : Int) < (ns : Int) := by omega
            obtain ⟨j1, hj1⟩ : ∃ j1 : Nat, j1 = j + 1 := ⟨_, rfl⟩
            have xj1 : IntKind.i64.wrap ((j : Int) + 1) = (j1 : Int) := by rw [IntWalk.i64_in _ (by omega)]; omega
            obtain ⟨t, ht1, ht2, ht3⟩ := CT.out j j1 (by omega) (by omega) (by omega)
            obtain ⟨A9, c9, w9, hcv, hput⟩ := put_conv BX.out (j : Int) (by omega) t (by omega)
            have PU := Lib.hid hput
            have SX2 := Lib.hid (SX.out.put j (j1 - j))
            rw [← ht1] at SX2
            have RD := Lib.hid (show j + 1 ≤ N + rdy (putR xs ((j : Int) - (N : Int)) t.data.toList) from by
              rw [ht1, show j1 - j = 1 from by omega]
              by_cases e : N = j
              · subst e
                have := rdy_put l N R xs hR1.1 BX.out.buf.len (by rw [LN.out]; exact hlt)
                omega
              · omega)
            have J1 := Lib.hid hj1
            clear hput ht1 ht2 hj1
            go_wp2_with fail
            refine PU.out.mono ?_; rintro e w5 ⟨rfl, h5⟩
            have BX5 := Lib.hid h5
            clear h5 PU BX SX hcv
            generalize putR xs ((j : Int) - (N : Int)) t.data.toList = ys at *
            have TA := Lib.hid (BX5.out.take (by have := SX2.out.1; rw [LN.out] at this; omega))
            obtain ⟨S1, S2⟩ := SX2.out.take
            have SS := Lib.hid S1
            have ST := Lib.hid S2
            clear S1 S2
            go_wp2_with fail
            refine TA.out.mono ?_; rintro e w6 ⟨gn, rfl, hs6, h6, _⟩
            have Y := Lib.hid h6
            have tl := Di.told_str hs6
            obtain ⟨tt, htt⟩ : ∃ tt : ByteArray, tt = ⟨(tk ys).toArray⟩ := ⟨_, rfl⟩
            rw [← htt] at tl
            have OS : o.size = N := by rw [EO.out]; show (l.take N).length = N; rw [List.length_take]; have := SX2.out.1; omega
            have TS : tt.size = rdy ys := by rw [htt]; show (tk ys).length = _; exact tk_length ys
            have hbig : ¬ 9223372036854775807 < o.size + tt.size := by rw [OS, TS]; have := SS.out.1; rw [LN.out] at this; omega
            have E0 := Lib.hid (show o ++ tt = ⟨(l.take (N + rdy ys)).toArray⟩ from by rw [EO.out, htt, ByteArray.mk_append_mk, ← ST.out])
            clear h6 hs6 TA ST SX2 BX5 htt OS TS
            go_wp2
            go_roundw
            case rel => exact ⟨j + 1, N + rdy ys, o ++ tt, aft ys, by omega, RD.out, by have := J1.out; subst this; go_num, rfl, E0, SS, Y⟩
            case measure => have := J1.out; simp [intOf]; omega
          · have hlt' : ¬ (j : Int) < (ns : Int) := by omega
            have OE : o = S := by
              have h1 := SX.out.1
              rw [LN.out] at h1
              rw [EO.out, SE.out, List.take_of_length_le (by rw [LN.out]; omega)]
            subst OE
            go_wp2
            go_ret
            exact ⟨by simp, BX.out.below⟩
      · have hlt' : ¬ (i1 : Int) < (nc : Int) := by omega
        clear hin hlt hi1
        go_wp2
        go_loopw [15, 11] (fun i ov wr => ∃ (j N : Nat) (o : ByteArray) (xs : Bs), j ≤ ns ∧ j ≤ N ∧ i = .int .i64 (j : Int) ∧ ov = .string o ∧ Hid (o = ⟨(l.take N).toArray⟩) ∧ Hid (St l N xs) ∧ Hid (BB w wr gt gm g R N xs)) (fun i _ _ => ns - (intOf i).toNat)
        case atStart => exact ⟨0, N, o, xs, by omega, by omega, rfl, rfl, EO, SX, BX⟩
        case round =>
          obtain ⟨j, N, o, xs, hj, hjN, rfl, rfl, EO, SX, BX⟩ := hrel
          have NN := NB.out
          by_cases hlt : j < ns
          · have hlt' : (j : Int) < (ns : Int) := by omega
            obtain ⟨j1, hj1⟩ : ∃ j1 : Nat, j1 = j + 1 := ⟨_, rfl⟩
            have xj1 : IntKind.i64.wrap ((j : Int) + 1) = (j1 : Int) := by rw [IntWalk.i64_in _ (by omega)]; omega
            obtain ⟨t, ht1, ht2, ht3⟩ := CT.out j j1 (by omega) (by omega) (by omega)
            obtain ⟨A9, c9, w9, hcv, hput⟩ := put_conv BX.out (j : Int) (by omega) t (by omega)
            have PU := Lib.hid hput
            have SX2 := Lib.hid (SX.out.put j (j1 - j))
            rw [← ht1] at SX2
            have RD := Lib.hid (show j + 1 ≤ N + rdy (putR xs ((j : Int) - (N : Int)) t.data.toList) from by
              rw [ht1, show j1 - j = 1 from by omega]
              by_cases e : N = j
              · subst e
                have := rdy_put l N R xs hR1.1 BX.out.buf.len (by rw [LN.out]; exact hlt)
                omega
              · omega)
            have J1 := Lib.hid hj1
            clear hput ht1 ht2 hj1
            go_wp2_with fail
            refine PU.out.mono ?_; rintro e w5 ⟨rfl, h5⟩
            have BX5 := Lib.hid h5
            clear h5 PU BX SX hcv
            generalize putR xs ((j : Int) - (N : Int)) t.data.toList = ys at *
            have TA := Lib.hid (BX5.out.take (by have := SX2.out.1; rw [LN.out] at this; omega))
            obtain ⟨S1, S2⟩ := SX2.out.take
            have SS := Lib.hid S1
            have ST := Lib.hid S2
            clear S1 S2
            go_wp2_with fail
            refine TA.out.mono ?_; rintro e w6 ⟨gn, rfl, hs6, h6, _⟩
            have Y := Lib.hid h6
            have tl := Di.told_str hs6
            obtain ⟨tt, htt⟩ : ∃ tt : ByteArray, tt = ⟨(tk ys).toArray⟩ := ⟨_, rfl⟩
            rw [← htt] at tl
            have OS : o.size = N := by rw [EO.out]; show (l.take N).length = N; rw [List.length_take]; have := SX2.out.1; omega
            have TS : tt.size = rdy ys := by rw [htt]; show (tk ys).length = _; exact tk_length ys
            have hbig : ¬ 9223372036854775807 < o.size + tt.size := by rw [OS, TS]; have := SS.out.1; rw [LN.out] at this; omega
            have E0 := Lib.hid (show o ++ tt = ⟨(l.take (N + rdy ys)).toArray⟩ from by rw [EO.out, htt, ByteArray.mk_append_mk, ← ST.out])
            clear h6 hs6 TA ST SX2 BX5 htt OS TS
            go_wp2
            go_roundw
            case rel => exact ⟨j + 1, N + rdy ys, o ++ tt, aft ys, by omega, RD.out, by have := J1.out; subst this; go_num, rfl, E0, SS, Y⟩
            case measure => have := J1.out; simp [intOf]; omega
          · have hlt' : ¬ (j : Int) < (ns : Int) := by omega
            have OE : o = S := by
              have h1 := SX.out.1
              rw [LN.out] at h1
              rw [EO.out, SE.out, List.take_of_length_le (by rw [LN.out]; omega)]
            subst OE
            go_wp2
            go_ret
            exact ⟨by simp, BX.out.below⟩

set_option maxRecDepth 100000 in
theorem lifted (os : Os) (started : os.Started) (H : Type) (enc : TypeId × Value → H) :
    ReturnsInHanded {} Try.checked os 4 .any (Rows.rasmStreamSpec.pre6 enc Try.prog Try.f4 Rows.rasmStreamRow.domain false) (Rows.rasmStreamSpec.post enc Try.prog Try.f4 false true false false) := by
  refine returnsInHanded_of_change (C := Try.checked) own started (by kernel_rfl) Try.func4
    (ChangeSpec.witness6 (enc := enc) (C := Try.checked) false ⟨#[], #[.int .u8 0, .string ⟨#[]⟩, .slice none 0 0, .slice none 0 0], []⟩ 8 (by kernel_rfl) (by kernel_rfl) (by kernel_rfl) (by kernel_rfl)) ?_
  intro W base args ds gs before hval0 hW hcnd _
  have hval : ∀ (j : Nat) t v, Try.f4.params[j]? = some t → args[j]? = some v → Value.okWide Try.prog W .any base t v := hval0
  have hW' := hW
  obtain ⟨p, q, hA0, hV, rfl, hfz, hnd⟩ := hW
  have hA : DataW.TrodAll enc Try.prog W 0 (fun _ => true) true Try.f4.params.toList args.toList ds p := hA0
  rw [Try.params4] at hA hval
  obtain ⟨v0, vs0, d0, ds0, p0, q0, hargs, rfl, rfl, h0, r0⟩ := trodAll_cons hA
  obtain ⟨v1, vs1, d1, ds1, p1, q1, rfl, rfl, rfl, h1, r1⟩ := trodAll_cons r0
  obtain ⟨v2, vs2, d2, ds2, p2, q2, rfl, rfl, rfl, h2, r2⟩ := trodAll_cons r1
  obtain ⟨v3, vs3, d3, ds3, p3, q3, rfl, rfl, rfl, h3, r3⟩ := trodAll_cons r2
  obtain ⟨rfl, rfl, rfl⟩ := trodAll_nil r3
  obtain rfl : args = #[v0, v1, v2, v3] := by cases args; simp_all
  obtain ⟨a0, rfl, _, _, w0⟩ := open_int Try.underlying5 (hval 0 5 v0 rfl rfl) h0
  obtain ⟨a1, rfl, _, _, w1⟩ := Go.ChangeMaps.open_string Try.underlying9 (hval 1 9 v1 rfl rfl) h1
  obtain ⟨A2, c2, l2, rfl, b2, k2⟩ := open_U16s (hval 2 44 v2 rfl rfl) h2
  obtain ⟨A3, c3, l3, rfl, b3, k3⟩ := open_Bools (hval 3 45 v3 rfl rfl) h3
  clear hA0 hval0
  exact law_close hW' laidOut (by kernel_rfl) rfl Try.underlying4 rfl ⟨rfl, rfl, rfl⟩ (walk W a0 w0 a1 w1 A2 c2 l2 b2 k2 A3 c3 l3 b3 k3)

theorem over : Rows.rasmStreamRow.holds Try.pinned (OpenSpec.ofChange Rows.rasmStreamSpec) :=
  OpenClaim.holds_of_wide 4 Try.f4 rfl rfl rfl rfl rfl rfl rfl ⟨rfl, rfl, rfl, rfl, rfl⟩ rfl rfl rfl rfl rfl (by kernel_rfl) Try.func4 (by kernel_rfl)
    (of_decide_eq_true (by kernel_rfl)) (by unfold Func.isWrapper; first | (rw [if_pos (by decide +kernel)]; kernel_rfl) | (rw [if_neg (by decide +kernel)]; exact ⟨rfl, rfl⟩))
    (fun os started H enc _ => lifted os started H enc)

theorem proved : Rows.RasmStreamSaid := over

end Go.Proofs.Ytikfoodlcmffdaa.rasmStream
