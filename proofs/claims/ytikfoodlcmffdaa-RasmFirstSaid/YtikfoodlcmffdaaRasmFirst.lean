/- RasmFirst says true for every input: of two parts at one place the one that came first stays, and no more is held than there is room. Conditions: none beyond the given statement's. -/
import Derived.Test.YtikfoodlcmffdaaRaF
namespace Go.Proofs.Ytikfoodlcmffdaa.rasmFirst
open Go.ChangeShapes Go.WideShapes Go.ChangeAt Go.RowKit Ra Go.Deep
set_option linter.unusedVariables false


set_option maxRecDepth 100000 in
set_option maxHeartbeats 4000000 in
theorem walk (w : World) (r0 : Int) (wr0 : (Lit.int .u8 r0).wf = true) (p0 : Int) (wp0 : (Lit.int .u8 p0).wf = true) (A : Option Addr) (la ca : Nat) (a : List UInt8) (ha : Src w A la ca a) (B : Option Addr) (lb cb : Nat) (b : List UInt8) (hb : Src w B lb cb b) :
    Calls Try.prog 6 #[.int .u8 r0, .int .u8 p0, .slice A la ca, .slice B lb cb] w fun e w' => e = .returned (.bool true) ∧ Below w.heap.size w w' := by
  obtain ⟨r, rfl, hr⟩ := wf_u8 wr0
  obtain ⟨p, rfl, hp⟩ := wf_u8 wp0
  have hla := Lib.hid ha.len
  have hlb := Lib.hid hb.len
  have HA := Lib.hid ha
  have HB := Lib.hid hb
  clear wr0 wp0 ha hb
  have u1 := IntWalk.i64_in (1 + (r : Int)) (by omega)
  have u2 := IntWalk.i64_in (r : Int) (by omega)
  have u3 := IntWalk.i64_in (p : Int) (by omega)
  by_cases hl1 : (300 : Int) < la
  · go_enter Try.func6, Try.ntmps6
    go_wp2_with fail
    refine (alive_any w).mono ?_; rintro e w1 ⟨rfl, b1⟩
    have B1 := Lib.hid b1
    clear b1
    go_wp2
    go_ret
    exact ⟨rfl, B1.out⟩
  by_cases hl2 : (300 : Int) < lb
  · go_enter Try.func6, Try.ntmps6
    go_wp2_with fail
    refine (alive_any w).mono ?_; rintro e w1 ⟨rfl, b1⟩
    have B1 := Lib.hid b1
    clear b1
    go_wp2
    go_ret
    exact ⟨rfl, B1.out⟩
  obtain ⟨R, hR⟩ : ∃ R : Nat, R = 1 + r := ⟨_, rfl⟩
  have hR1 : 1 ≤ R ∧ R ≤ 256 := by omega
  have hRr : (1 : Int) + (r : Int) = (R : Int) := by omega
  have ER := Lib.hid hRr
  clear hR hRr
  go_enter Try.func6, Try.ntmps6
  go_wp2_with fail
  refine (alive_any w).mono ?_; rintro e w1 ⟨rfl, b1⟩
  have B1 := Lib.hid b1
  have HA1 := Lib.hid (HA.out.below b1)
  have HB1 := Lib.hid (HB.out.below b1)
  clear b1 HA HB
  go_upto_region 6 with fail
  rw [ER.out]
  clear u1
  go_wp2_with fail
  refine (new_bb R w1 w hR1.1 (by omega) B1.out).mono ?_; rintro e w2 ⟨gt, gm, g, rfl, h2, b2, z1, z2, z3⟩
  have H2 := Lib.hid h2
  have HA2 := Lib.hid (HA1.out.below b2)
  have HB2 := Lib.hid (HB1.out.below b2)
  have FA := Lib.hid (show 0 < la → ∀ x, A = some x → x.block ≠ gt ∧ x.block ≠ gm ∧ x.block ≠ g from fun h0 x hx => by have := src_lt HA1.out h0 x hx; omega)
  have FB := Lib.hid (show 0 < lb → ∀ x, B = some x → x.block ≠ gt ∧ x.block ≠ gm ∧ x.block ≠ g from fun h0 x hx => by have := src_lt HB1.out h0 x hx; omega)
  have e0 : (p : Int) - ((0 : Nat) : Int) = (p : Int) := by omega
  have o1 := one_held R p a
  have o2 := two_held R p a b
  rw [hla.out] at o1 o2
  rw [hlb.out] at o2
  have P1 := BB.put h2 (p : Int) (by omega) A la ca a HA2.out (by omega) FA.out
  rw [e0, held_none] at P1
  obtain ⟨n, hn⟩ : ∃ n : Int, (held (putR (List.replicate R none) (p : Int) a) : Int) - (0 : Nat) = n := ⟨_, rfl⟩
  obtain ⟨m, hm⟩ : ∃ m : Int, (held (two R p a b) : Int) - held (putR (List.replicate R none) (p : Int) a) = m := ⟨_, rfl⟩
  obtain ⟨hh, hhe⟩ : ∃ hh : Int, (held (two R p a b) : Int) = hh := ⟨_, rfl⟩
  rw [hn] at P1
  have PP1 := Lib.hid P1
  obtain ⟨D, hD⟩ : ∃ D : Int, D = (R : Int) - (p : Int) := ⟨_, rfl⟩
  have uD : IntKind.i64.wrap ((R : Int) - (p : Int)) = D := by rw [IntWalk.i64_in _ (by omega)]; omega
  have NUM := Lib.hid (show (D = (R : Int) - (p : Int)) ∧ n = min (la : Int) (max D 0) ∧ m = max (min (lb : Int) (max D 0) - n) 0 ∧ hh = n + m ∧ 0 ≤ n ∧ 0 ≤ m ∧ hh ≤ R from by
    rw [o1] at hn hm
    rw [o2] at hhe hm
    omega)
  have HM := Lib.hid hm
  have HHE := Lib.hid hhe
  clear hn hm hhe o1 o2 P1 h2 b2 z1 z2 z3 e0 hD HA1 HB1
  go_wp2_with fail
  refine PP1.out.mono ?_; rintro e w3 ⟨rfl, h3, k3⟩
  have H3 := Lib.hid h3
  have HA3 := Lib.hid (src_chg HA2.out k3 (fun h0 x hx hs => by have := FA.out h0 x hx; omega))
  have HB3 := Lib.hid (src_chg HB2.out k3 (fun h0 x hx hs => by have := FB.out h0 x hx; omega))
  have P2 := BB.put h3 (p : Int) (by omega) B lb cb b HB3.out (by omega) FB.out
  rw [show (p : Int) - ((0 : Nat) : Int) = (p : Int) from by omega] at P2
  have PP2 := Lib.hid (show Calls Try.prog 14 #[.pointer (some ⟨g, 0, none⟩), .int .i64 (p : Int), .slice B lb cb] w3 (fun e w' => e = .returned (.int .i64 m) ∧ BB w w' gt gm g R 0 (two R p a b) ∧ Chg w3 w' (fun k => k = gt ∨ k = gm ∨ k = g)) from by rw [← HM.out]; exact P2)
  clear h3 k3 P2 H2 PP1 HA2 HB2 HM
  go_wp2_with fail
  refine PP2.out.mono ?_; rintro e w4 ⟨rfl, h4, k4⟩
  have H4 := Lib.hid h4
  have HA4 := Lib.hid (src_chg HA3.out k4 (fun h0 x hx hs => by have := FA.out h0 x hx; omega))
  have HB4 := Lib.hid (src_chg HB3.out k4 (fun h0 x hx hs => by have := FB.out h0 x hx; omega))
  have HE := Lib.hid (show Calls Try.prog 18 #[.pointer (some ⟨g, 0, none⟩)] w4 (fun e w' => e = .returned (.int .i64 hh) ∧ w' = w4) from by rw [← HHE.out]; exact held_any h4.buf)
  clear h4 k4 H3 PP2 HA3 HB3 HHE
  go_upto_region 12 with fail
  go_cut [84] (fun s wx => s = .bool false ∧ wx = w4)
  case first =>
    have hx := NUM.out
    clear HA4 HB4 FA FB B1 ER hla hlb H4 NUM
    obtain ⟨hD, hn, hm, hhh, n0, m0, hRR⟩ := hx
    by_cases c : D < 0
    · obtain rfl : n = 0 := by omega
      obtain rfl : m = 0 := by omega
      obtain rfl : hh = 0 := by omega
      clear hn hm hhh n0 m0 hD
      by_cases c1 : la = 0
      · subst c1
        by_cases c2 : lb = 0
        · subst c2
          go_wp2_with fail
          refine HE.out.mono ?_; rintro e w5 ⟨rfl, rfl⟩
          go_wp2_with fail
          refine HE.out.mono ?_; rintro e w5 ⟨rfl, rfl⟩
          go_wp2_with fail
          go_meet
          first | exact ⟨rfl, rfl⟩ | exact ⟨by rw [decide_eq_false (by omega)], rfl⟩
        · have c2' : (0 : Int) < lb := by omega
          go_wp2_with fail
          refine HE.out.mono ?_; rintro e w5 ⟨rfl, rfl⟩
          go_wp2_with fail
          refine HE.out.mono ?_; rintro e w5 ⟨rfl, rfl⟩
          go_wp2_with fail
          go_meet
          first | exact ⟨rfl, rfl⟩ | exact ⟨by rw [decide_eq_false (by omega)], rfl⟩
      · have c1' : (0 : Int) < la := by omega
        by_cases c2 : lb = 0
        · subst c2
          go_wp2_with fail
          refine HE.out.mono ?_; rintro e w5 ⟨rfl, rfl⟩
          go_wp2_with fail
          refine HE.out.mono ?_; rintro e w5 ⟨rfl, rfl⟩
          go_wp2_with fail
          go_meet
          first | exact ⟨rfl, rfl⟩ | exact ⟨by rw [decide_eq_false (by omega)], rfl⟩
        · have c2' : (0 : Int) < lb := by omega
          go_wp2_with fail
          refine HE.out.mono ?_; rintro e w5 ⟨rfl, rfl⟩
          go_wp2_with fail
          refine HE.out.mono ?_; rintro e w5 ⟨rfl, rfl⟩
          go_wp2_with fail
          go_meet
          first | exact ⟨rfl, rfl⟩ | exact ⟨by rw [decide_eq_false (by omega)], rfl⟩
    · by_cases c1 : D < la
      · obtain rfl : n = D := by omega
        obtain rfl : m = 0 := by omega
        obtain rfl : hh = n := by omega
        by_cases c2 : hh < lb
        · clear hn hm hhh n0 m0 hD
          go_wp2_with fail
          refine HE.out.mono ?_; rintro e w5 ⟨rfl, rfl⟩
          go_wp2_with fail
          refine HE.out.mono ?_; rintro e w5 ⟨rfl, rfl⟩
          go_wp2_with fail
          go_meet
          first | exact ⟨rfl, rfl⟩ | exact ⟨by rw [decide_eq_false (by omega)], rfl⟩
        · obtain ⟨u, hu⟩ : ∃ u : Int, u = (lb : Int) - hh := ⟨_, rfl⟩
          have xv : IntKind.i64.wrap ((lb : Int) - hh) = u := by rw [IntWalk.i64_in _ (by omega)]; omega
          by_cases c3 : u = 0
          · subst c3
            clear hn hm hhh n0 m0 hD hu
            go_wp2_with fail
            refine HE.out.mono ?_; rintro e w5 ⟨rfl, rfl⟩
            go_wp2_with fail
            refine HE.out.mono ?_; rintro e w5 ⟨rfl, rfl⟩
            go_wp2_with fail
            go_meet
            first | exact ⟨rfl, rfl⟩ | exact ⟨by rw [decide_eq_false (by omega)], rfl⟩
          · have c3' : u < 0 := by omega
            clear hn hm hhh n0 m0 hD hu c3
            go_wp2_with fail
            refine HE.out.mono ?_; rintro e w5 ⟨rfl, rfl⟩
            go_wp2_with fail
            refine HE.out.mono ?_; rintro e w5 ⟨rfl, rfl⟩
            go_wp2_with fail
            go_meet
            first | exact ⟨rfl, rfl⟩ | exact ⟨by rw [decide_eq_false (by omega)], rfl⟩
      · obtain rfl : n = la := by omega
        by_cases c2 : D < lb
        · have xv : IntKind.i64.wrap (D - (la : Int)) = m := by rw [IntWalk.i64_in _ (by omega)]; omega
          have xh : IntKind.i64.wrap ((la : Int) + m) = hh := by rw [IntWalk.i64_in _ (by omega)]; omega
          have m0' : ¬ m < 0 := by omega
          clear hn hm hhh n0 m0 hD
          go_wp2_with fail
          refine HE.out.mono ?_; rintro e w5 ⟨rfl, rfl⟩
          go_wp2_with fail
          refine HE.out.mono ?_; rintro e w5 ⟨rfl, rfl⟩
          go_wp2_with fail
          go_meet
          first | exact ⟨rfl, rfl⟩ | exact ⟨by rw [decide_eq_false (by omega)], rfl⟩
        · by_cases c3 : lb < la
          · obtain rfl : m = 0 := by omega
            obtain ⟨u, hu⟩ : ∃ u : Int, u = (lb : Int) - la := ⟨_, rfl⟩
            have xv : IntKind.i64.wrap ((lb : Int) - (la : Int)) = u := by rw [IntWalk.i64_in _ (by omega)]; omega
            have c3' : u < 0 := by omega
            obtain rfl : hh = la := by omega
            clear hn hm hhh n0 m0 hD hu c3
            go_wp2_with fail
            refine HE.out.mono ?_; rintro e w5 ⟨rfl, rfl⟩
            go_wp2_with fail
            refine HE.out.mono ?_; rintro e w5 ⟨rfl, rfl⟩
            go_wp2_with fail
            go_meet
            first | exact ⟨rfl, rfl⟩ | exact ⟨by rw [decide_eq_false (by omega)], rfl⟩
          · have xv : IntKind.i64.wrap ((lb : Int) - (la : Int)) = m := by rw [IntWalk.i64_in _ (by omega)]; omega
            have xh : IntKind.i64.wrap ((la : Int) + m) = hh := by rw [IntWalk.i64_in _ (by omega)]; omega
            have m0' : ¬ m < 0 := by omega
            clear hn hm hhh n0 m0 hD
            go_wp2_with fail
            refine HE.out.mono ?_; rintro e w5 ⟨rfl, rfl⟩
            go_wp2_with fail
            refine HE.out.mono ?_; rintro e w5 ⟨rfl, rfl⟩
            go_wp2_with fail
            go_meet
            first | exact ⟨rfl, rfl⟩ | exact ⟨by rw [decide_eq_false (by omega)], rfl⟩
  case rest =>
  obtain ⟨rfl, rfl⟩ := hcut
  obtain ⟨hD, hn, hm, hhh, n0, m0, hRR⟩ := NUM.out
  obtain ⟨n, rfl⟩ : ∃ k : Nat, n = (k : Int) := ⟨n.toNat, by omega⟩
  obtain ⟨m, rfl⟩ : ∃ k : Nat, m = (k : Int) := ⟨m.toNat, by omega⟩
  have NM := Lib.hid (show n ≤ la ∧ n + m ≤ max la lb ∧ (0 < m → la = n ∧ n + m ≤ lb) ∧ (0 < n + m → p + (n + m) ≤ R) ∧ (0 < m → 0 < lb) ∧ (0 < n → 0 < la) from by omega)
  clear hD hn hm hhh n0 m0 hRR NUM uD HE
  have MK := fun W => mk_u8 p (by omega) W
  have nb := (Below.refl wc.heap.size wc).alloc (Nat.le_refl _) (.cells (madeCells #[.int .u8 0] p) 5)
  have L4 := H4.out.buf.lt
  have P3 := Lib.hid (BB.put (H4.out.new nb) 0 (by omega) (some ⟨wc.heap.size, 0, none⟩) p p (List.replicate p 0) (src_made wc p (by omega)) (by omega) (fun _ x hx => by cases hx; exact ⟨by show wc.heap.size ≠ gt; omega, by show wc.heap.size ≠ gm; omega, by show wc.heap.size ≠ g; omega⟩))
  have HA5 := Lib.hid (HA4.out.below nb)
  have HB5 := Lib.hid (HB4.out.below nb)
  clear nb L4 H4 HA4 HB4
  go_wp2_with fail
  refine P3.out.mono ?_; rintro e w5 ⟨rfl, h5, k5⟩
  have H5 := Lib.hid (show BB w w5 gt gm g R 0 (full R p a b) from h5)
  have HA6 := Lib.hid (src_chg HA5.out k5 (fun h0 x hx hs => by have := FA.out h0 x hx; omega))
  have HB6 := Lib.hid (src_chg HB5.out k5 (fun h0 x hx hs => by have := FB.out h0 x hx; omega))
  clear h5 k5 HA5 HB5 P3 MK
  have T5 := Lib.hid (take_any H5.out.buf (by omega))
  go_wp2_with fail
  refine T5.out.mono ?_; rintro e w6 ⟨gn, rfl, st, z1, z2, b6, k6⟩
  have SA := Lib.hid (src_chg HA6.out k6 (fun h0 x hx hs => by have := FA.out h0 x hx; omega))
  have SB := Lib.hid (src_chg HB6.out k6 (fun h0 x hx hs => by have := FB.out h0 x hx; omega))
  obtain ⟨T, hT⟩ : ∃ T, rdy (full R p a b) = T := ⟨_, rfl⟩
  rw [hT] at st
  have ST := Lib.hid st
  have TT := Lib.hid hT
  have SW := Lib.hid (H5.out.below.trans (below_chg k6 H5.out.below.size H5.out.own))
  rw [hT]
  clear st z1 z2 b6 k6 hT T5 H5 HA6 HB6 FA FB B1
  obtain ⟨nm, hnm⟩ : ∃ nm : Int, nm = (n : Int) + (m : Int) := ⟨_, rfl⟩
  have xnm : IntKind.i64.wrap ((n : Int) + (m : Int)) = nm := by rw [IntWalk.i64_in _ (by have := NM.out; omega)]; omega
  have XN := Lib.hid hnm
  clear hnm
  go_wp2
  go_loopw [16] (fun i wr => ∃ j : Nat, 0 ≤ j ∧ j ≤ n ∧ i = .int .i64 (j : Int) ∧ Hid (Src wr A la ca a) ∧ Hid (Src wr B lb cb b) ∧ Hid (Src wr (some ⟨gn, 0, none⟩) T T (tk (full R p a b))) ∧ Hid (Below w.heap.size w wr)) (fun i _ => n - (intOf i).toNat)
  case atStart => exact ⟨0, Nat.le_refl _, by omega, by first | rfl | go_num, SA, SB, ST, SW⟩
  case round =>
    obtain ⟨j, hj0, hj, rfl, RA, RB, RT, RW⟩ := hrel
    have HNM := XN.out
    by_cases hlt : j < n
    · have hlt' : (j : Int) < (n : Int) := by omega
      have NN := NM.out
      obtain ⟨k, hk⟩ : ∃ k : Nat, k = p + j := ⟨_, rfl⟩
      have xk : IntKind.i64.wrap ((p : Int) + (j : Int)) = (k : Int) := by rw [IntWalk.i64_in _ (by omega)]; omega
      have xj := IntWalk.i64_in ((j : Int) + 1) (by omega)
      have j0 : (0 : Int) ≤ (j : Int) := by omega
      have k0 : (0 : Int) ≤ (k : Int) := by omega
      have hkT : k < T := by rw [← TT.out, hk]; exact full_rdy R p a b j (by rw [hla.out, hlb.out]; omega) (by omega)
      have hkT' : (k : Int) < (T : Int) := by omega
      have hkT2 : decide (T ≤ k) = false := decide_eq_false (by omega)
      have jl : (j : Int) < (la : Int) := by omega
      obtain ⟨b1, o1, hl1x, e1, _, hc1⟩ := RT.out.byte hkT
      cases e1
      obtain ⟨b2, o2, hl2x, hA2, _, hc2⟩ := RA.out.byte (k := j) (by omega)
      have hEQ := full_tk R p a b j (by rw [hla.out, hlb.out]; omega) (by omega)
      rw [← hk, List.getElem?_eq_getElem hl1x] at hEQ
      rw [List.getElem?_eq_getElem hl2x] at hEQ
      have hEQ2 := Option.some.inj hEQ
      rw [hEQ2] at hc1
      rw [Nat.zero_add] at hc1
      try simp only [Option.some_or, Option.none_or, Option.getD_some] at hc1
      generalize a[j] = cc at *
      generalize (cc.toNat : Int) = cv at *
      clear hEQ hEQ2 hl1x hl2x hk NN hkT cc HNM
      subst hA2
      go_upto_region 19 with fail
      go_quiet (fail)
      go_wp2
      go_roundw
      case rel => exact ⟨j + 1, by omega, by omega, by go_num, Lib.hid (RA.out.drewN _), Lib.hid (RB.out.drewN _), Lib.hid (RT.out.drewN _), Lib.hid (below_drewN RW.out _)⟩
      case measure => simp [intOf]; omega
    · have hlt' : ¬ (j : Int) < (n : Int) := by omega
      clear HNM
      go_wp2
      go_loopw [17] (fun i wr => ∃ j : Nat, n ≤ j ∧ j ≤ (n + m) ∧ i = .int .i64 (j : Int) ∧ Hid (Src wr A la ca a) ∧ Hid (Src wr B lb cb b) ∧ Hid (Src wr (some ⟨gn, 0, none⟩) T T (tk (full R p a b))) ∧ Hid (Below w.heap.size w wr)) (fun i _ => (n + m) - (intOf i).toNat)
      case atStart => exact ⟨n, Nat.le_refl _, by omega, by first | rfl | go_num, RA, RB, RT, RW⟩
      case round =>
        obtain ⟨j, hj0, hj, rfl, RA, RB, RT, RW⟩ := hrel
        have HNM := XN.out
        by_cases hlt : j < (n + m)
        · have hlt' : (j : Int) < nm := by omega
          have NN := NM.out
          obtain ⟨k, hk⟩ : ∃ k : Nat, k = p + j := ⟨_, rfl⟩
          have xk : IntKind.i64.wrap ((p : Int) + (j : Int)) = (k : Int) := by rw [IntWalk.i64_in _ (by omega)]; omega
          have xj := IntWalk.i64_in ((j : Int) + 1) (by omega)
          have j0 : (0 : Int) ≤ (j : Int) := by omega
          have k0 : (0 : Int) ≤ (k : Int) := by omega
          have hkT : k < T := by rw [← TT.out, hk]; exact full_rdy R p a b j (by rw [hla.out, hlb.out]; omega) (by omega)
          have hkT' : (k : Int) < (T : Int) := by omega
          have hkT2 : decide (T ≤ k) = false := decide_eq_false (by omega)
          have jl : (j : Int) < (lb : Int) := by omega
          obtain ⟨b1, o1, hl1x, e1, _, hc1⟩ := RT.out.byte hkT
          cases e1
          obtain ⟨b2, o2, hl2x, hA2, _, hc2⟩ := RB.out.byte (k := j) (by omega)
          have hEQ := full_tk R p a b j (by rw [hla.out, hlb.out]; omega) (by omega)
          rw [← hk, List.getElem?_eq_getElem hl1x] at hEQ
          rw [List.getElem?_eq_none (show a.length ≤ j by rw [hla.out]; omega), List.getElem?_eq_getElem hl2x] at hEQ
          have hEQ2 := Option.some.inj hEQ
          rw [hEQ2] at hc1
          rw [Nat.zero_add] at hc1
          try simp only [Option.some_or, Option.none_or, Option.getD_some] at hc1
          generalize b[j] = cc at *
          generalize (cc.toNat : Int) = cv at *
          clear hEQ hEQ2 hl1x hl2x hk NN hkT cc HNM
          subst hA2
          go_upto_region 24 with fail
          go_quiet (fail)
          go_wp2
          go_roundw
          case rel => exact ⟨j + 1, by omega, by omega, by go_num, Lib.hid (RA.out.drewN _), Lib.hid (RB.out.drewN _), Lib.hid (RT.out.drewN _), Lib.hid (below_drewN RW.out _)⟩
          case measure => simp [intOf]; omega
        · have hlt' : ¬ (j : Int) < nm := by omega
          clear HNM
          go_wp2
          go_ret
          exact ⟨rfl, RW.out⟩

set_option maxRecDepth 100000 in
theorem lifted (os : Os) (started : os.Started) (H : Type) (enc : TypeId × Value → H) :
    ReturnsInHanded {} Try.checked os 6 .any (Rows.rasmFirstSpec.pre6 enc Try.prog Try.f6 Rows.rasmFirstRow.domain false) (Rows.rasmFirstSpec.post enc Try.prog Try.f6 false true false false) := by
  refine returnsInHanded_of_change (C := Try.checked) own started (by kernel_rfl) Try.func6
    (ChangeSpec.witness6 (enc := enc) (C := Try.checked) false ⟨#[], #[.int .u8 0, .int .u8 0, .slice none 0 0, .slice none 0 0], []⟩ 8 (by kernel_rfl) (by kernel_rfl) (by kernel_rfl) (by kernel_rfl)) ?_
  intro W base args ds gs before hval0 hW hcnd _
  have hval : ∀ (j : Nat) t v, Try.f6.params[j]? = some t → args[j]? = some v → Value.okWide Try.prog W .any base t v := hval0
  have hW' := hW
  obtain ⟨p, q, hA0, hV, rfl, hfz, hnd⟩ := hW
  have hA : DataW.TrodAll enc Try.prog W 0 (fun _ => true) true Try.f6.params.toList args.toList ds p := hA0
  rw [Try.params6] at hA hval
  obtain ⟨v0, vs0, d0, ds0, p0, q0, hargs, rfl, rfl, h0, r0⟩ := trodAll_cons hA
  obtain ⟨v1, vs1, d1, ds1, p1, q1, rfl, rfl, rfl, h1, r1⟩ := trodAll_cons r0
  obtain ⟨v2, vs2, d2, ds2, p2, q2, rfl, rfl, rfl, h2, r2⟩ := trodAll_cons r1
  obtain ⟨v3, vs3, d3, ds3, p3, q3, rfl, rfl, rfl, h3, r3⟩ := trodAll_cons r2
  obtain ⟨rfl, rfl, rfl⟩ := trodAll_nil r3
  obtain rfl : args = #[v0, v1, v2, v3] := by cases args; simp_all
  obtain ⟨a0, rfl, _, _, w0⟩ := open_int Try.underlying5 (hval 0 5 v0 rfl rfl) h0
  obtain ⟨a1, rfl, _, _, w1⟩ := open_int Try.underlying5 (hval 1 5 v1 rfl rfl) h1
  obtain ⟨A2, n2, c2, l2, rfl, b2⟩ := open_src Try.underlying37 Try.underlying5 (by kernel_rfl) (hval 2 37 v2 rfl rfl) h2
  obtain ⟨A3, n3, c3, l3, rfl, b3⟩ := open_src Try.underlying37 Try.underlying5 (by kernel_rfl) (hval 3 37 v3 rfl rfl) h3
  clear hA0 hval0
  exact law_close hW' laidOut (by kernel_rfl) rfl Try.underlying4 rfl ⟨rfl, rfl, rfl⟩ (walk W a0 w0 a1 w1 A2 n2 c2 l2 b2 A3 n3 c3 l3 b3)

theorem over : Rows.rasmFirstRow.holds Try.pinned (OpenSpec.ofChange Rows.rasmFirstSpec) :=
  OpenClaim.holds_of_wide 6 Try.f6 rfl rfl rfl rfl rfl rfl rfl ⟨rfl, rfl, rfl, rfl, rfl⟩ rfl rfl rfl rfl rfl (by kernel_rfl) Try.func6 (by kernel_rfl)
    (of_decide_eq_true (by kernel_rfl)) (by unfold Func.isWrapper; first | (rw [if_pos (by decide +kernel)]; kernel_rfl) | (rw [if_neg (by decide +kernel)]; exact ⟨rfl, rfl⟩))
    (fun os started H enc _ => lifted os started H enc)

theorem proved : Rows.RasmFirstSaid := over

end Go.Proofs.Ytikfoodlcmffdaa.rasmFirst
