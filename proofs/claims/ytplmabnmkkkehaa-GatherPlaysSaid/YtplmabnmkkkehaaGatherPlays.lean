/- Whatever calls, environment and lists come in, 'pantlerlaw08.GatherPlays' returns true and leaves them as they were. No condition. -/
import Derived.Test.YtplmabnmkkkehaaShows
import Derived.Test.YtplmabnmkkkehaaRefNew
import Derived.Test.YtplmabnmkkkehaaRefDoAll
import Derived.Test.YtplmabnmkkkehaaGr4
import Derived.Test.YtplmabnmkkkehaaGr3
namespace Go.Proofs.Ytplmabnmkkkehaa.gatherPlays
open Go.ChangeShapes Go.WideShapes Go.ChangeAt Go.RowKit Go.Deep Fr
set_option linter.unusedVariables false


theorem holdG_bound {ps : List Pg} {env : Int} {l : List Pc} {B : Nat} (h : ∀ p ∈ ps, p.holds ≤ B) : ∀ p ∈ (holdG ps env l).1, p.holds ≤ B + 16 := by
  unfold holdG
  by_cases hc : checkR ps env l = 0
  · rw [if_pos hc]
    obtain ⟨hf, ho⟩ := check_zero hc
    obtain ⟨_, _, _, h16, _⟩ := fits_of_zero hf
    intro p hp
    have := holdN_max (m := B + 17) ho (fun p hp => by have := h p hp; omega) p hp
    omega
  · rw [if_neg hc]
    intro p hp
    have := h p hp
    omega
theorem dropG_bound {ps : List Pg} {l : List Pc} {B : Nat} (h : ∀ p ∈ ps, p.holds ≤ B) : ∀ p ∈ (dropG ps l).1, p.holds ≤ B := by
  unfold dropG
  split
  · intro p hp
    have := (dropN_turned l (Turned.refl ps)).max (m := B + 1) (fun k hk => by
      have e : (ps.getD k Pg.blank) = ps[k] := by simp [hk]
      rw [e]
      have := h _ (List.getElem_mem hk)
      omega) p hp
    omega
  · exact h
set_option maxRecDepth 100000 in
set_option maxHeartbeats 8000000 in
theorem walk (w : World) (Aa : Option Addr) (na ca : Nat) (fn : Nat → Cmd) (ha : Acts w Aa na fn) (env : Int) (we : (Lit.int .i64 env).wf = true) (A2 : Option Addr) (c2 : Nat) (ls : List (List Pc)) (h2 : Lists w A2 ls ∧ ∀ l ∈ ls, ∀ q ∈ l, q.Ok) :
    Calls Try.prog 3 #[.slice Aa na ca, .int .i64 env, .slice A2 ls.length c2] w fun e w' => e = .returned (.bool true) ∧ Below w.heap.size w w' := by
  obtain ⟨hls, hokl⟩ := h2
  have HA := Lib.hid ha
  have HLS := Lib.hid hls
  have OKL := Lib.hid hokl
  clear ha we hls hokl
  by_cases hfar : isFar na fn
  · have FAR := Lib.hid (fun W A n c fn (h : Acts W A n fn) (hf : isFar n fn) => far_any W A n c fn h true (by simp [hf]))
    have HF := Lib.hid hfar
    clear hfar
    go_enter Try.func3, Try.ntmps3
    go_wp2_with fail
    refine (alive_any _).mono ?_; rintro e w0 ⟨rfl, b0⟩
    have B0 := Lib.hid b0
    have hw0 : w.heap.size ≤ w0.heap.size := b0.size
    clear b0
    go_wp2_with fail
    refine (FAR.out _ _ _ _ _ (HA.out.older (older_below B0.out)) HF.out).mono ?_; rintro e w2 ⟨rfl, rfl⟩
    go_wp2
    go_ret
    exact ⟨rfl, B0.out⟩
  have FAR := Lib.hid (fun W A n c fn (h : Acts W A n fn) (hf : ¬ isFar n fn) => far_any W A n c fn h false (by simp [hf]))
  have HF := Lib.hid hfar
  have hna : na ≤ 150 := by
    by_cases h : na ≤ 150
    · exact h
    · exact absurd (.inl (by omega)) hfar
  have HSZ := Lib.hid (fun i (hi : i < na) => show (fn i).s.size ≤ 1000 by
    by_cases h : (fn i).s.size ≤ 1000
    · exact h
    · exact absurd (.inr ⟨i, hi, by omega⟩) hfar)
  clear hfar
  by_cases hl : (ls.length : Int) > 20
  · go_enter Try.func3, Try.ntmps3
    go_wp2_with fail
    refine (alive_any _).mono ?_; rintro e w0 ⟨rfl, b0⟩
    have B0 := Lib.hid b0
    have hw0 : w.heap.size ≤ w0.heap.size := b0.size
    clear b0
    go_wp2_with fail
    refine (FAR.out _ _ _ _ _ (HA.out.older (older_below B0.out)) HF.out).mono ?_; rintro e w2 ⟨rfl, rfl⟩
    go_wp2
    go_ret
    exact ⟨rfl, B0.out⟩
  have hl2 : ls.length ≤ 20 := by omega
  have NEW := Lib.hid (fun w => Fr.new_ok 4 w (by omega) (by omega))
  have RNEW := Lib.hid (fun w => RD.rnew_any 4 (by omega) (by omega) w)
  go_enter Try.func3, Try.ntmps3
  go_wp2_with fail
  refine (alive_any _).mono ?_; rintro e w0 ⟨rfl, b0⟩
  have B0 := Lib.hid b0
  have hw0 : w.heap.size ≤ w0.heap.size := b0.size
  clear b0
  go_wp2_with fail
  refine (FAR.out _ _ _ _ _ (HA.out.older (older_below B0.out)) HF.out).mono ?_; rintro e w2 ⟨rfl, rfl⟩
  go_wp2_with fail
  refine (NEW.out _).mono ?_; rintro e w1 ⟨rfl, t1, b1, z1⟩
  have T1 := Lib.hid t1
  have B1 := Lib.hid (B0.out.trans (b1.mono hw0))
  have hw1 : w.heap.size ≤ w1.heap.size := by omega
  clear t1 b1
  go_wp2_with fail
  refine (RNEW.out _).mono ?_; rintro e w3 ⟨rfl, ⟨bo, bh, bb, co, ch, cb, r3⟩, b3⟩
  have R3 := Lib.hid r3
  have T3 := Lib.hid (T1.out.new b3)
  have B3 := Lib.hid (B1.out.trans (b3.mono hw1))
  have hgm : w2.heap.size + 2 ≤ w1.heap.size := by omega
  clear r3 b3 T1 B1 NEW RNEW FAR HF
  generalize hgs : w2.heap.size = gs at *
  generalize hgmm : w1.heap.size = gm at *
  clear hgs hgmm B0 z1 hw1
  have HH0 := Lib.hid (show ∀ p ∈ List.replicate 4 Pg.blank, p.holds ≤ 0 from fun p hp => by rw [(List.mem_replicate.1 hp).2]; exact Nat.le_refl _)
  go_wp2
  go_loopw [10] (fun i wr => ∃ (j : Nat) (ps : List Pg), j ≤ na ∧ i = .int .i64 (j : Int) ∧ Hid (∀ p ∈ ps, p.holds ≤ j) ∧ Hid (Tab wr gs (gs + 1) ps) ∧ Hid (RefT wr gm bo bh bb co ch cb ps) ∧ Hid (Below w.heap.size w wr)) (fun i _ => na - (intOf i).toNat)
  case atStart => exact ⟨0, _, Nat.zero_le _, rfl, HH0, T3, R3, B3⟩
  case round =>
    clear T3 R3 B3 HH0
    obtain ⟨j, ps, hj, rfl, HH, HT, HR, HB⟩ := hrel
    have hgb : gm < bo ∧ gm < bh ∧ gm < bb := ⟨HR.out.ho, HR.out.hh, HR.out.hb⟩
    by_cases hlt : j < na
    · have hlt' : (j : Int) < na := by omega
      have j0 : (0 : Int) ≤ j := by omega
      have xj := IntWalk.i64_in ((j : Int) + 1) (by omega)
      obtain ⟨b, o, rfl, hbl, hr, ok⟩ := HA.out.older (older_below HB.out) j hlt
      have hss := HSZ.out j hlt
      have HAJ := Lib.hid (fun (W : World) (hb : Below w.heap.size w W) => (HA.out.older (older_below hb)) j hlt)
      generalize fn j = act at *
      obtain ⟨kind, env', f, off, q, s⟩ := act
      have hr' : wr.rangeAt b (o + j * 6) [.int .i64 kind, .int .i64 env', .int .i64 f, .int .i64 off, .int .i64 q, .string s] := hr
      have c0 : wr.cell? ⟨b, o + j * 6, none⟩ = some (.int .i64 kind) := by
        have := hr' 0 _ rfl
        rwa [Nat.add_zero] at this
      have LD := Lib.hid hr'
      have WO := Lib.hid ok.off
      have SS := Lib.hid (show s.size ≤ 1000 from hss)
      have hgsz : w.heap.size ≤ wr.heap.size := HB.out.size
      clear hr hr' ok hss
      by_cases k0 : kind < 0
      · have REL := Lib.hid (show ∃ (j' : Nat) (ps : List Pg), j' ≤ na ∧ (.int .i64 ((j : Int) + 1) : Value) = .int .i64 (j' : Int) ∧ Hid (∀ p ∈ ps, p.holds ≤ j') ∧ Hid (Tab wr gs (gs + 1) ps) ∧ Hid (RefT wr gm bo bh bb co ch cb ps) ∧ Hid (Below w.heap.size w wr) from
          ⟨j + 1, ps, by omega, by simp, Lib.hid (fun p hp => Nat.le_succ_of_le (HH.out p hp)), HT, HR, HB⟩)
        clear LD
        go_wp2
        go_roundw
        case rel => exact REL.out
        case measure => simp [intOf]; omega
      by_cases k7 : kind > 7
      · have REL := Lib.hid (show ∃ (j' : Nat) (ps : List Pg), j' ≤ na ∧ (.int .i64 ((j : Int) + 1) : Value) = .int .i64 (j' : Int) ∧ Hid (∀ p ∈ ps, p.holds ≤ j') ∧ Hid (Tab wr gs (gs + 1) ps) ∧ Hid (RefT wr gm bo bh bb co ch cb ps) ∧ Hid (Below w.heap.size w wr) from
          ⟨j + 1, ps, by omega, by simp, Lib.hid (fun p hp => Nat.le_succ_of_le (HH.out p hp)), HT, HR, HB⟩)
        clear LD
        go_wp2
        go_roundw
        case rel => exact REL.out
        case measure => simp [intOf]; omega
      have DO := Lib.hid (do_any HT.out kind env' f off q s WO.out SS.out (fun p hp => by have := HH.out p hp; omega))
      have RDO := Lib.hid (fun (W : World) (h : RefT W gm bo bh bb co ch cb ps) => RD.refDo_any h kind env' f off q s (by omega) (by omega) (fun p hp => by have := HH.out p hp; omega))
      have TN := Lib.hid (doR_turn ps ⟨kind, env', f, off, q, s⟩)
      generalize doR ps ⟨kind, env', f, off, q, s⟩ = r at *
      obtain ⟨ps', m', t', e'⟩ := r
      have HM := Lib.hid (TN.out.holds HH.out)
      clear TN
      go_wp2_with (first
        | (refine wpList_load_mid rfl 33 (.tmp 54) rfl b (o + j * 6) rfl [.int .i64 kind, .int .i64 env', .int .i64 f, .int .i64 off, .int .i64 q, .string s] _ LD.out Try.underlying33 rfl act_info ?_)
        | fail)
      refine DO.out.mono ?_; rintro e w4 ⟨rfl, t4, k4⟩
      have T4 := Lib.hid t4
      have R4 := Lib.hid (HR.out.chg k4 (fun i hi => by omega))
      have b4 := HB.out.trans (k4.below hgsz (fun i hi => by omega))
      have B4 := Lib.hid b4
      have hw4 : w.heap.size ≤ w4.heap.size := Nat.le_trans hgsz k4.size
      obtain ⟨b', o', e', _, hr4, _⟩ := HAJ.out _ b4
      cases e'
      have LD4 := Lib.hid (show w4.rangeAt b (o + j * 6) [.int .i64 kind, .int .i64 env', .int .i64 f, .int .i64 off, .int .i64 q, .string s] from hr4)
      clear t4 k4 b4 hr4 HT HR HB DO LD c0
      go_wp2_with (first
        | (refine wpList_load_mid rfl 33 (.tmp 60) rfl b (o + j * 6) rfl [.int .i64 kind, .int .i64 env', .int .i64 f, .int .i64 off, .int .i64 q, .string s] _ LD4.out Try.underlying33 rfl act_info ?_)
        | fail)
      refine (RDO.out _ R4.out).mono ?_; rintro e w5 ⟨rfl, r5, k5⟩
      have R5 := Lib.hid r5
      have T5 := Lib.hid (T4.out.chg k5 (by rintro (h | h | h) <;> omega) (by rintro (h | h | h) <;> omega))
      have B5 := Lib.hid (B4.out.trans (k5.below hw4 (by rintro i (h | h | h) <;> omega)))
      have REL := Lib.hid (show ∃ (j' : Nat) (ps : List Pg), j' ≤ na ∧ (.int .i64 ((j : Int) + 1) : Value) = .int .i64 (j' : Int) ∧ Hid (∀ p ∈ ps, p.holds ≤ j') ∧ Hid (Tab w5 gs (gs + 1) ps) ∧ Hid (RefT w5 gm bo bh bb co ch cb ps) ∧ Hid (Below w.heap.size w w5) from
        ⟨j + 1, ps', by omega, by simp, HM, T5, R5, B5⟩)
      clear r5 k5 T4 R4 B4 LD4 T5 R5 B5
      go_wp2
      go_roundw
      case rel => exact REL.out
      case measure => simp [intOf]; omega
    · have hge : ¬ (j : Int) < na := by omega
      have H2 := Lib.hid (show ∀ p ∈ ps, p.holds ≤ 200 + 16 * 0 from fun p hp => by have := HH.out p hp; omega)
      clear HH
      go_wp2
      go_loopw [11] (fun i wx => ∃ (j : Nat) (ps : List Pg), j ≤ ls.length ∧ i = .int .i64 (j : Int) ∧ Hid (∀ p ∈ ps, p.holds ≤ 200 + 16 * j) ∧ Hid (Tab wx gs (gs + 1) ps) ∧ Hid (RefT wx gm bo bh bb co ch cb ps) ∧ Hid (Below w.heap.size w wx)) (fun i _ => ls.length - (intOf i).toNat)
      case atStart => exact ⟨0, _, Nat.zero_le _, rfl, H2, HT, HR, HB⟩
      case round =>
        clear H2 HT HR HB
        obtain ⟨j, ps, hj, rfl, HH, T0, R0, B0⟩ := hrel
        by_cases hlt : j < ls.length
        · have hlt' : (j : Int) < (ls.length : Int) := by omega
          have j0 : (0 : Int) ≤ (j : Int) := by omega
          have xj := IntWalk.i64_in ((j : Int) + 1) (by omega)
          obtain ⟨b, o, Ai, ci, rfl, hbl, hcell, hpcs, _⟩ := HLS.out j hlt
          have hc1 := (B0.out.cell (p := ⟨b, o + j, none⟩) hbl).trans hcell
          have OK := Lib.hid (OKL.out _ (List.getElem_mem hlt))
          have HAB := Lib.hid (show ∀ b o, Ai = some ⟨b, o, none⟩ → 0 < ls[j].length → b < gm from fun b o e hl => by
            obtain ⟨b', o', e', hb', _⟩ := hpcs 0 hl
            rw [e] at e'
            cases e'
            omega)
          have PW := Lib.hid hpcs
          have HM := Lib.hid (show ∀ p ∈ ps, p.holds + 16 < 1000000 from fun p hp => by have := HH.out p hp; omega)
          generalize ls[j] = l at *
          clear hcell hpcs
          by_cases l1 : (l.length : Int) > 100
          · go_wp2
            go_ret
            exact ⟨rfl, B0.out⟩
          have l2 : l.length ≤ 100 := by omega
          have OF := Lib.hid (fun W (hb : Below w.heap.size w W) => of_cap Ai ci l W (PW.out.new hb) (by omega))
          have CHK := Lib.hid (fun W A c (T : Tab W gs (gs + 1) ps) (hp : Pcs W A l) => check_any T env A c l hp OK.out (by omega))
          have GCHK := Lib.hid (fun W (R : RefT W gm bo bh bb co ch cb ps) (hp : Pcs W Ai l) => gcheck_any R env Ai ci l hp OK.out (by omega))
          generalize checkR ps env l = cv at *
          have SZ := Lib.hid (fun W A c (hp : Pcs W A l) => size_any A c l W hp OK.out (by omega))
          have GSZ := Lib.hid (fun W (hp : Pcs W Ai l) => gsize_any Ai ci l W hp OK.out (by omega))
          generalize sizeR l = sv at *
          obtain ⟨r3, h3⟩ : ∃ r3 : Int, (j : Int).tmod 3 = r3 := ⟨_, rfl⟩
          obtain ⟨r2, h2⟩ : ∃ r2 : Int, (j : Int).tmod 2 = r2 := ⟨_, rfl⟩
          have y3 : IntKind.i64.wrap r3 = r3 := IntWalk.i64_in _ (by rw [← h3, Int.tmod_eq_emod_of_nonneg j0]; omega)
          have y2 : IntKind.i64.wrap r2 = r2 := IntWalk.i64_in _ (by rw [← h2, Int.tmod_eq_emod_of_nonneg j0]; omega)
          by_cases m3 : r3 < 2
          · by_cases m2 : r2 = 1
            · have m2' : (r2 == 1) = true := by simp [m2]
              have HOLD := Lib.hid (fun W A c (T : Tab W gs (gs + 1) ps) (hp : Pcs W A l) hA hc => hold_list T env A c l hp OK.out hA hc HM.out (by omega))
              have GHOLD := Lib.hid (fun W (R : RefT W gm bo bh bb co ch cb ps) (hp : Pcs W Ai l) => ghold_any R env Ai ci l hp OK.out HAB.out HM.out (by omega))
              have HB1 := Lib.hid (holdG_bound (env := env) (l := l) HH.out)
              generalize holdG ps env l = r1 at *
              obtain ⟨qs, hv⟩ := r1
              dsimp only at HOLD GHOLD HB1
              have FE := Lib.hid (fun W A c (T : Tab W gs (gs + 1) qs) (hp : Pcs W A l) => fetch_list T A c l hp OK.out (by omega))
              have GFE := Lib.hid (fun W (R : RefT W gm bo bh bb co ch cb qs) (hp : Pcs W Ai l) => gfetch_any R Ai ci l hp OK.out (by omega))
              generalize fetchG qs l = r2 at *
              obtain ⟨Z, fv⟩ := r2
              dsimp only at FE GFE
              have DROP := Lib.hid (fun W A c (T : Tab W gs (gs + 1) qs) (hp : Pcs W A l) hA => drop_list T A c l hp hA (by omega))
              have GDROP := Lib.hid (fun W (R : RefT W gm bo bh bb co ch cb qs) (hp : Pcs W Ai l) => gdrop_any R Ai ci l hp OK.out HAB.out (by omega))
              have HB2 := Lib.hid (dropG_bound (l := l) HB1.out)
              generalize dropG qs l = r3 at *
              obtain ⟨rs, dv⟩ := r3
              dsimp only at DROP GDROP HB2
              have HBD := Lib.hid (show ∀ p ∈ rs, p.holds ≤ 200 + 16 * (j + 1) from fun p hp => by have := HB2.out p hp; omega)
              go_wp2_with fail
              refine (OF.out _ B0.out).mono ?_; rintro e v1 ⟨A1, c1, rfl, hp1, b1⟩
              have P1 := Lib.hid hp1
              have N1 := Lib.hid (show ∀ b o, A1 = some ⟨b, o, none⟩ → b ≠ gs from fun b o e => by have h1 := hp1.2.2 b o e; have h2 := T0.out.blk; omega)
              have T1 := Lib.hid (T0.out.new b1)
              have R1 := Lib.hid (R0.out.new b1)
              have B1 := Lib.hid (B0.out.trans (b1.mono B0.out.size))
              clear hp1 b1
              go_wp2_with fail
              refine (CHK.out _ _ _ T1.out P1.out.1).mono ?_; rintro e v2 ⟨rfl, b2⟩
              have T2 := Lib.hid (T1.out.new b2)
              have R2 := Lib.hid (R1.out.new b2)
              have B2 := Lib.hid (B1.out.trans (b2.mono B1.out.size))
              clear b2
              go_wp2_with fail
              refine (GCHK.out _ R2.out (PW.out.new B2.out)).mono ?_; rintro e v3 ⟨rfl, b3⟩
              have T3 := Lib.hid (T2.out.new b3)
              have R3 := Lib.hid (R2.out.new b3)
              have B3 := Lib.hid (B2.out.trans (b3.mono B2.out.size))
              clear b3
              go_wp2_with fail
              refine (OF.out _ B3.out).mono ?_; rintro e v4 ⟨A4, c4, rfl, hp4, b4⟩
              have P4 := Lib.hid hp4
              have N4 := Lib.hid (show ∀ b o, A4 = some ⟨b, o, none⟩ → b ≠ gs from fun b o e => by have h1 := hp4.2.2 b o e; have h2 := T3.out.blk; omega)
              have T4 := Lib.hid (T3.out.new b4)
              have R4 := Lib.hid (R3.out.new b4)
              have B4 := Lib.hid (B3.out.trans (b4.mono B3.out.size))
              clear hp4 b4
              go_wp2_with fail
              refine (SZ.out _ _ _ P4.out.1).mono ?_; rintro e v5 ⟨rfl, b5⟩
              have T5 := Lib.hid (T4.out.new b5)
              have R5 := Lib.hid (R4.out.new b5)
              have B5 := Lib.hid (B4.out.trans (b5.mono B4.out.size))
              clear b5
              go_wp2_with fail
              refine (GSZ.out _ (PW.out.new B5.out)).mono ?_; rintro e vq ⟨rfl, rfl⟩
              go_wp2_with fail
              refine (OF.out _ B5.out).mono ?_; rintro e v6 ⟨A6, c6, rfl, hp6, b6⟩
              have P6 := Lib.hid hp6
              have N6 := Lib.hid (show ∀ b o, A6 = some ⟨b, o, none⟩ → b ≠ gs from fun b o e => by have h1 := hp6.2.2 b o e; have h2 := T5.out.blk; omega)
              have T6 := Lib.hid (T5.out.new b6)
              have R6 := Lib.hid (R5.out.new b6)
              have B6 := Lib.hid (B5.out.trans (b6.mono B5.out.size))
              clear hp6 b6
              go_wp2_with fail
              refine (HOLD.out _ _ _ T6.out P6.out.1 N6.out P6.out.2.1).mono ?_; rintro e v7 ⟨rfl, t7, k7⟩
              have T7 := Lib.hid t7
              have R7 := Lib.hid (R6.out.chg k7 (fun i (hi : i = gs) => by omega))
              have B7 := Lib.hid (B6.out.trans (k7.below (B := w.heap.size) B6.out.size (fun i (hi : i = gs) => by omega)))
              clear t7 k7
              go_wp2_with fail
              refine (GHOLD.out _ R7.out (PW.out.new B7.out)).mono ?_; rintro e v8 ⟨rfl, r8, k8⟩
              have R8 := Lib.hid r8
              have T8 := Lib.hid (T7.out.chg k8 (by show ¬ gs = bh; omega) (by show ¬ gs + 1 = bh; omega))
              have B8 := Lib.hid (B7.out.trans (k8.below (B := w.heap.size) B7.out.size (fun i (hi : i = bh) => by omega)))
              clear r8 k8
              go_wp2_with fail
              refine (OF.out _ B8.out).mono ?_; rintro e v9 ⟨A9, c9, rfl, hp9, b9⟩
              have P9 := Lib.hid hp9
              have N9 := Lib.hid (show ∀ b o, A9 = some ⟨b, o, none⟩ → b ≠ gs from fun b o e => by have h1 := hp9.2.2 b o e; have h2 := T8.out.blk; omega)
              have T9 := Lib.hid (T8.out.new b9)
              have R9 := Lib.hid (R8.out.new b9)
              have B9 := Lib.hid (B8.out.trans (b9.mono B8.out.size))
              clear hp9 b9
              go_wp2_with fail
              refine (FE.out _ _ _ T9.out P9.out.1).mono ?_; rintro e v10 ⟨Af, cf, rfl, sf, b10⟩
              have S10 := Lib.hid sf
              have T10 := Lib.hid (T9.out.new b10)
              have R10 := Lib.hid (R9.out.new b10)
              have B10 := Lib.hid (B9.out.trans (b10.mono B9.out.size))
              clear sf b10
              go_wp2_with fail
              refine (GFE.out _ R10.out (PW.out.new B10.out)).mono ?_; rintro e v11 ⟨rfl, b11⟩
              have TO := Fr.told_str (S10.out.below b11)
              have T11 := Lib.hid (T10.out.new b11)
              have R11 := Lib.hid (R10.out.new b11)
              have B11 := Lib.hid (B10.out.trans (b11.mono B10.out.size))
              clear b11
              go_wp2_with fail
              refine (shows_any T11.out R11.out).mono ?_; rintro e v12 ⟨rfl, b12⟩
              have T12 := Lib.hid (T11.out.new b12)
              have R12 := Lib.hid (R11.out.new b12)
              have B12 := Lib.hid (B11.out.trans (b12.mono B11.out.size))
              clear b12
              clear TO
              go_wp2_with fail
              refine (OF.out _ B12.out).mono ?_; rintro e v13 ⟨A13, c13, rfl, hp13, b13⟩
              have P13 := Lib.hid hp13
              have N13 := Lib.hid (show ∀ b o, A13 = some ⟨b, o, none⟩ → b ≠ gs from fun b o e => by have h1 := hp13.2.2 b o e; have h2 := T12.out.blk; omega)
              have T13 := Lib.hid (T12.out.new b13)
              have R13 := Lib.hid (R12.out.new b13)
              have B13 := Lib.hid (B12.out.trans (b13.mono B12.out.size))
              clear hp13 b13
              go_wp2_with fail
              refine (DROP.out _ _ _ T13.out P13.out.1 N13.out).mono ?_; rintro e v14 ⟨rfl, t14, k14⟩
              have T14 := Lib.hid t14
              have R14 := Lib.hid (R13.out.chg k14 (fun i (hi : i = gs) => by omega))
              have B14 := Lib.hid (B13.out.trans (k14.below (B := w.heap.size) B13.out.size (fun i (hi : i = gs) => by omega)))
              clear t14 k14
              go_wp2_with fail
              refine (GDROP.out _ R14.out (PW.out.new B14.out)).mono ?_; rintro e v15 ⟨rfl, r15, k15⟩
              have R15 := Lib.hid r15
              have T15 := Lib.hid (T14.out.chg k15 (by show ¬ gs = bh; omega) (by show ¬ gs + 1 = bh; omega))
              have B15 := Lib.hid (B14.out.trans (k15.below (B := w.heap.size) B14.out.size (fun i (hi : i = bh) => by omega)))
              clear r15 k15
              go_wp2_with fail
              refine (shows_any T15.out R15.out).mono ?_; rintro e v16 ⟨rfl, b16⟩
              have T16 := Lib.hid (T15.out.new b16)
              have R16 := Lib.hid (R15.out.new b16)
              have B16 := Lib.hid (B15.out.trans (b16.mono B15.out.size))
              clear b16
              go_wp2
              go_roundw
              case rel => exact ⟨j + 1, _, by omega, by simp, HBD, T16, R16, B16⟩
              case measure => simp [intOf]; omega
            · have m2' : (r2 == 1) = false := by simpa using m2
              have HOLD := Lib.hid (fun W A c (T : Tab W gs (gs + 1) ps) (hp : Pcs W A l) hA hc => hold_list T env A c l hp OK.out hA hc HM.out (by omega))
              have GHOLD := Lib.hid (fun W (R : RefT W gm bo bh bb co ch cb ps) (hp : Pcs W Ai l) => ghold_any R env Ai ci l hp OK.out HAB.out HM.out (by omega))
              have HB1 := Lib.hid (holdG_bound (env := env) (l := l) HH.out)
              generalize holdG ps env l = r1 at *
              obtain ⟨qs, hv⟩ := r1
              dsimp only at HOLD GHOLD HB1
              have FE := Lib.hid (fun W A c (T : Tab W gs (gs + 1) qs) (hp : Pcs W A l) => fetch_list T A c l hp OK.out (by omega))
              have GFE := Lib.hid (fun W (R : RefT W gm bo bh bb co ch cb qs) (hp : Pcs W Ai l) => gfetch_any R Ai ci l hp OK.out (by omega))
              generalize fetchG qs l = r2 at *
              obtain ⟨Z, fv⟩ := r2
              dsimp only at FE GFE
              have HBD := Lib.hid (show ∀ p ∈ qs, p.holds ≤ 200 + 16 * (j + 1) from fun p hp => by have := HB1.out p hp; omega)
              go_wp2_with fail
              refine (OF.out _ B0.out).mono ?_; rintro e v1 ⟨A1, c1, rfl, hp1, b1⟩
              have P1 := Lib.hid hp1
              have N1 := Lib.hid (show ∀ b o, A1 = some ⟨b, o, none⟩ → b ≠ gs from fun b o e => by have h1 := hp1.2.2 b o e; have h2 := T0.out.blk; omega)
              have T1 := Lib.hid (T0.out.new b1)
              have R1 := Lib.hid (R0.out.new b1)
              have B1 := Lib.hid (B0.out.trans (b1.mono B0.out.size))
              clear hp1 b1
              go_wp2_with fail
              refine (CHK.out _ _ _ T1.out P1.out.1).mono ?_; rintro e v2 ⟨rfl, b2⟩
              have T2 := Lib.hid (T1.out.new b2)
              have R2 := Lib.hid (R1.out.new b2)
              have B2 := Lib.hid (B1.out.trans (b2.mono B1.out.size))
              clear b2
              go_wp2_with fail
              refine (GCHK.out _ R2.out (PW.out.new B2.out)).mono ?_; rintro e v3 ⟨rfl, b3⟩
              have T3 := Lib.hid (T2.out.new b3)
              have R3 := Lib.hid (R2.out.new b3)
              have B3 := Lib.hid (B2.out.trans (b3.mono B2.out.size))
              clear b3
              go_wp2_with fail
              refine (OF.out _ B3.out).mono ?_; rintro e v4 ⟨A4, c4, rfl, hp4, b4⟩
              have P4 := Lib.hid hp4
              have N4 := Lib.hid (show ∀ b o, A4 = some ⟨b, o, none⟩ → b ≠ gs from fun b o e => by have h1 := hp4.2.2 b o e; have h2 := T3.out.blk; omega)
              have T4 := Lib.hid (T3.out.new b4)
              have R4 := Lib.hid (R3.out.new b4)
              have B4 := Lib.hid (B3.out.trans (b4.mono B3.out.size))
              clear hp4 b4
              go_wp2_with fail
              refine (SZ.out _ _ _ P4.out.1).mono ?_; rintro e v5 ⟨rfl, b5⟩
              have T5 := Lib.hid (T4.out.new b5)
              have R5 := Lib.hid (R4.out.new b5)
              have B5 := Lib.hid (B4.out.trans (b5.mono B4.out.size))
              clear b5
              go_wp2_with fail
              refine (GSZ.out _ (PW.out.new B5.out)).mono ?_; rintro e vq ⟨rfl, rfl⟩
              go_wp2_with fail
              refine (OF.out _ B5.out).mono ?_; rintro e v6 ⟨A6, c6, rfl, hp6, b6⟩
              have P6 := Lib.hid hp6
              have N6 := Lib.hid (show ∀ b o, A6 = some ⟨b, o, none⟩ → b ≠ gs from fun b o e => by have h1 := hp6.2.2 b o e; have h2 := T5.out.blk; omega)
              have T6 := Lib.hid (T5.out.new b6)
              have R6 := Lib.hid (R5.out.new b6)
              have B6 := Lib.hid (B5.out.trans (b6.mono B5.out.size))
              clear hp6 b6
              go_wp2_with fail
              refine (HOLD.out _ _ _ T6.out P6.out.1 N6.out P6.out.2.1).mono ?_; rintro e v7 ⟨rfl, t7, k7⟩
              have T7 := Lib.hid t7
              have R7 := Lib.hid (R6.out.chg k7 (fun i (hi : i = gs) => by omega))
              have B7 := Lib.hid (B6.out.trans (k7.below (B := w.heap.size) B6.out.size (fun i (hi : i = gs) => by omega)))
              clear t7 k7
              go_wp2_with fail
              refine (GHOLD.out _ R7.out (PW.out.new B7.out)).mono ?_; rintro e v8 ⟨rfl, r8, k8⟩
              have R8 := Lib.hid r8
              have T8 := Lib.hid (T7.out.chg k8 (by show ¬ gs = bh; omega) (by show ¬ gs + 1 = bh; omega))
              have B8 := Lib.hid (B7.out.trans (k8.below (B := w.heap.size) B7.out.size (fun i (hi : i = bh) => by omega)))
              clear r8 k8
              go_wp2_with fail
              refine (OF.out _ B8.out).mono ?_; rintro e v9 ⟨A9, c9, rfl, hp9, b9⟩
              have P9 := Lib.hid hp9
              have N9 := Lib.hid (show ∀ b o, A9 = some ⟨b, o, none⟩ → b ≠ gs from fun b o e => by have h1 := hp9.2.2 b o e; have h2 := T8.out.blk; omega)
              have T9 := Lib.hid (T8.out.new b9)
              have R9 := Lib.hid (R8.out.new b9)
              have B9 := Lib.hid (B8.out.trans (b9.mono B8.out.size))
              clear hp9 b9
              go_wp2_with fail
              refine (FE.out _ _ _ T9.out P9.out.1).mono ?_; rintro e v10 ⟨Af, cf, rfl, sf, b10⟩
              have S10 := Lib.hid sf
              have T10 := Lib.hid (T9.out.new b10)
              have R10 := Lib.hid (R9.out.new b10)
              have B10 := Lib.hid (B9.out.trans (b10.mono B9.out.size))
              clear sf b10
              go_wp2_with fail
              refine (GFE.out _ R10.out (PW.out.new B10.out)).mono ?_; rintro e v11 ⟨rfl, b11⟩
              have TO := Fr.told_str (S10.out.below b11)
              have T11 := Lib.hid (T10.out.new b11)
              have R11 := Lib.hid (R10.out.new b11)
              have B11 := Lib.hid (B10.out.trans (b11.mono B10.out.size))
              clear b11
              go_wp2_with fail
              refine (shows_any T11.out R11.out).mono ?_; rintro e v12 ⟨rfl, b12⟩
              have T12 := Lib.hid (T11.out.new b12)
              have R12 := Lib.hid (R11.out.new b12)
              have B12 := Lib.hid (B11.out.trans (b12.mono B11.out.size))
              clear b12
              clear TO
              go_wp2_with fail
              refine (shows_any T12.out R12.out).mono ?_; rintro e v13 ⟨rfl, b13⟩
              have T13 := Lib.hid (T12.out.new b13)
              have R13 := Lib.hid (R12.out.new b13)
              have B13 := Lib.hid (B12.out.trans (b13.mono B12.out.size))
              clear b13
              go_wp2
              go_roundw
              case rel => exact ⟨j + 1, _, by omega, by simp, HBD, T13, R13, B13⟩
              case measure => simp [intOf]; omega
          · by_cases m2 : r2 = 1
            · have m2' : (r2 == 1) = true := by simp [m2]
              have HB1 := Lib.hid (show ∀ p ∈ ps, p.holds ≤ 200 + 16 * j + 16 from fun p hp => by have := HH.out p hp; omega)
              have FE := Lib.hid (fun W A c (T : Tab W gs (gs + 1) ps) (hp : Pcs W A l) => fetch_list T A c l hp OK.out (by omega))
              have GFE := Lib.hid (fun W (R : RefT W gm bo bh bb co ch cb ps) (hp : Pcs W Ai l) => gfetch_any R Ai ci l hp OK.out (by omega))
              generalize fetchG ps l = r2 at *
              obtain ⟨Z, fv⟩ := r2
              dsimp only at FE GFE
              have DROP := Lib.hid (fun W A c (T : Tab W gs (gs + 1) ps) (hp : Pcs W A l) hA => drop_list T A c l hp hA (by omega))
              have GDROP := Lib.hid (fun W (R : RefT W gm bo bh bb co ch cb ps) (hp : Pcs W Ai l) => gdrop_any R Ai ci l hp OK.out HAB.out (by omega))
              have HB2 := Lib.hid (dropG_bound (l := l) HB1.out)
              generalize dropG ps l = r3 at *
              obtain ⟨rs, dv⟩ := r3
              dsimp only at DROP GDROP HB2
              have HBD := Lib.hid (show ∀ p ∈ rs, p.holds ≤ 200 + 16 * (j + 1) from fun p hp => by have := HB2.out p hp; omega)
              go_wp2_with fail
              refine (OF.out _ B0.out).mono ?_; rintro e v1 ⟨A1, c1, rfl, hp1, b1⟩
              have P1 := Lib.hid hp1
              have N1 := Lib.hid (show ∀ b o, A1 = some ⟨b, o, none⟩ → b ≠ gs from fun b o e => by have h1 := hp1.2.2 b o e; have h2 := T0.out.blk; omega)
              have T1 := Lib.hid (T0.out.new b1)
              have R1 := Lib.hid (R0.out.new b1)
              have B1 := Lib.hid (B0.out.trans (b1.mono B0.out.size))
              clear hp1 b1
              go_wp2_with fail
              refine (CHK.out _ _ _ T1.out P1.out.1).mono ?_; rintro e v2 ⟨rfl, b2⟩
              have T2 := Lib.hid (T1.out.new b2)
              have R2 := Lib.hid (R1.out.new b2)
              have B2 := Lib.hid (B1.out.trans (b2.mono B1.out.size))
              clear b2
              go_wp2_with fail
              refine (GCHK.out _ R2.out (PW.out.new B2.out)).mono ?_; rintro e v3 ⟨rfl, b3⟩
              have T3 := Lib.hid (T2.out.new b3)
              have R3 := Lib.hid (R2.out.new b3)
              have B3 := Lib.hid (B2.out.trans (b3.mono B2.out.size))
              clear b3
              go_wp2_with fail
              refine (OF.out _ B3.out).mono ?_; rintro e v4 ⟨A4, c4, rfl, hp4, b4⟩
              have P4 := Lib.hid hp4
              have N4 := Lib.hid (show ∀ b o, A4 = some ⟨b, o, none⟩ → b ≠ gs from fun b o e => by have h1 := hp4.2.2 b o e; have h2 := T3.out.blk; omega)
              have T4 := Lib.hid (T3.out.new b4)
              have R4 := Lib.hid (R3.out.new b4)
              have B4 := Lib.hid (B3.out.trans (b4.mono B3.out.size))
              clear hp4 b4
              go_wp2_with fail
              refine (SZ.out _ _ _ P4.out.1).mono ?_; rintro e v5 ⟨rfl, b5⟩
              have T5 := Lib.hid (T4.out.new b5)
              have R5 := Lib.hid (R4.out.new b5)
              have B5 := Lib.hid (B4.out.trans (b5.mono B4.out.size))
              clear b5
              go_wp2_with fail
              refine (GSZ.out _ (PW.out.new B5.out)).mono ?_; rintro e vq ⟨rfl, rfl⟩
              go_wp2_with fail
              refine (OF.out _ B5.out).mono ?_; rintro e v6 ⟨A6, c6, rfl, hp6, b6⟩
              have P6 := Lib.hid hp6
              have N6 := Lib.hid (show ∀ b o, A6 = some ⟨b, o, none⟩ → b ≠ gs from fun b o e => by have h1 := hp6.2.2 b o e; have h2 := T5.out.blk; omega)
              have T6 := Lib.hid (T5.out.new b6)
              have R6 := Lib.hid (R5.out.new b6)
              have B6 := Lib.hid (B5.out.trans (b6.mono B5.out.size))
              clear hp6 b6
              go_wp2_with fail
              refine (FE.out _ _ _ T6.out P6.out.1).mono ?_; rintro e v7 ⟨Af, cf, rfl, sf, b7⟩
              have S7 := Lib.hid sf
              have T7 := Lib.hid (T6.out.new b7)
              have R7 := Lib.hid (R6.out.new b7)
              have B7 := Lib.hid (B6.out.trans (b7.mono B6.out.size))
              clear sf b7
              go_wp2_with fail
              refine (GFE.out _ R7.out (PW.out.new B7.out)).mono ?_; rintro e v8 ⟨rfl, b8⟩
              have TO := Fr.told_str (S7.out.below b8)
              have T8 := Lib.hid (T7.out.new b8)
              have R8 := Lib.hid (R7.out.new b8)
              have B8 := Lib.hid (B7.out.trans (b8.mono B7.out.size))
              clear b8
              go_wp2_with fail
              refine (shows_any T8.out R8.out).mono ?_; rintro e v9 ⟨rfl, b9⟩
              have T9 := Lib.hid (T8.out.new b9)
              have R9 := Lib.hid (R8.out.new b9)
              have B9 := Lib.hid (B8.out.trans (b9.mono B8.out.size))
              clear b9
              clear TO
              go_wp2_with fail
              refine (OF.out _ B9.out).mono ?_; rintro e v10 ⟨A10, c10, rfl, hp10, b10⟩
              have P10 := Lib.hid hp10
              have N10 := Lib.hid (show ∀ b o, A10 = some ⟨b, o, none⟩ → b ≠ gs from fun b o e => by have h1 := hp10.2.2 b o e; have h2 := T9.out.blk; omega)
              have T10 := Lib.hid (T9.out.new b10)
              have R10 := Lib.hid (R9.out.new b10)
              have B10 := Lib.hid (B9.out.trans (b10.mono B9.out.size))
              clear hp10 b10
              go_wp2_with fail
              refine (DROP.out _ _ _ T10.out P10.out.1 N10.out).mono ?_; rintro e v11 ⟨rfl, t11, k11⟩
              have T11 := Lib.hid t11
              have R11 := Lib.hid (R10.out.chg k11 (fun i (hi : i = gs) => by omega))
              have B11 := Lib.hid (B10.out.trans (k11.below (B := w.heap.size) B10.out.size (fun i (hi : i = gs) => by omega)))
              clear t11 k11
              go_wp2_with fail
              refine (GDROP.out _ R11.out (PW.out.new B11.out)).mono ?_; rintro e v12 ⟨rfl, r12, k12⟩
              have R12 := Lib.hid r12
              have T12 := Lib.hid (T11.out.chg k12 (by show ¬ gs = bh; omega) (by show ¬ gs + 1 = bh; omega))
              have B12 := Lib.hid (B11.out.trans (k12.below (B := w.heap.size) B11.out.size (fun i (hi : i = bh) => by omega)))
              clear r12 k12
              go_wp2_with fail
              refine (shows_any T12.out R12.out).mono ?_; rintro e v13 ⟨rfl, b13⟩
              have T13 := Lib.hid (T12.out.new b13)
              have R13 := Lib.hid (R12.out.new b13)
              have B13 := Lib.hid (B12.out.trans (b13.mono B12.out.size))
              clear b13
              go_wp2
              go_roundw
              case rel => exact ⟨j + 1, _, by omega, by simp, HBD, T13, R13, B13⟩
              case measure => simp [intOf]; omega
            · have m2' : (r2 == 1) = false := by simpa using m2
              have HB1 := Lib.hid (show ∀ p ∈ ps, p.holds ≤ 200 + 16 * j + 16 from fun p hp => by have := HH.out p hp; omega)
              have FE := Lib.hid (fun W A c (T : Tab W gs (gs + 1) ps) (hp : Pcs W A l) => fetch_list T A c l hp OK.out (by omega))
              have GFE := Lib.hid (fun W (R : RefT W gm bo bh bb co ch cb ps) (hp : Pcs W Ai l) => gfetch_any R Ai ci l hp OK.out (by omega))
              generalize fetchG ps l = r2 at *
              obtain ⟨Z, fv⟩ := r2
              dsimp only at FE GFE
              have HBD := Lib.hid (show ∀ p ∈ ps, p.holds ≤ 200 + 16 * (j + 1) from fun p hp => by have := HB1.out p hp; omega)
              go_wp2_with fail
              refine (OF.out _ B0.out).mono ?_; rintro e v1 ⟨A1, c1, rfl, hp1, b1⟩
              have P1 := Lib.hid hp1
              have N1 := Lib.hid (show ∀ b o, A1 = some ⟨b, o, none⟩ → b ≠ gs from fun b o e => by have h1 := hp1.2.2 b o e; have h2 := T0.out.blk; omega)
              have T1 := Lib.hid (T0.out.new b1)
              have R1 := Lib.hid (R0.out.new b1)
              have B1 := Lib.hid (B0.out.trans (b1.mono B0.out.size))
              clear hp1 b1
              go_wp2_with fail
              refine (CHK.out _ _ _ T1.out P1.out.1).mono ?_; rintro e v2 ⟨rfl, b2⟩
              have T2 := Lib.hid (T1.out.new b2)
              have R2 := Lib.hid (R1.out.new b2)
              have B2 := Lib.hid (B1.out.trans (b2.mono B1.out.size))
              clear b2
              go_wp2_with fail
              refine (GCHK.out _ R2.out (PW.out.new B2.out)).mono ?_; rintro e v3 ⟨rfl, b3⟩
              have T3 := Lib.hid (T2.out.new b3)
              have R3 := Lib.hid (R2.out.new b3)
              have B3 := Lib.hid (B2.out.trans (b3.mono B2.out.size))
              clear b3
              go_wp2_with fail
              refine (OF.out _ B3.out).mono ?_; rintro e v4 ⟨A4, c4, rfl, hp4, b4⟩
              have P4 := Lib.hid hp4
              have N4 := Lib.hid (show ∀ b o, A4 = some ⟨b, o, none⟩ → b ≠ gs from fun b o e => by have h1 := hp4.2.2 b o e; have h2 := T3.out.blk; omega)
              have T4 := Lib.hid (T3.out.new b4)
              have R4 := Lib.hid (R3.out.new b4)
              have B4 := Lib.hid (B3.out.trans (b4.mono B3.out.size))
              clear hp4 b4
              go_wp2_with fail
              refine (SZ.out _ _ _ P4.out.1).mono ?_; rintro e v5 ⟨rfl, b5⟩
              have T5 := Lib.hid (T4.out.new b5)
              have R5 := Lib.hid (R4.out.new b5)
              have B5 := Lib.hid (B4.out.trans (b5.mono B4.out.size))
              clear b5
              go_wp2_with fail
              refine (GSZ.out _ (PW.out.new B5.out)).mono ?_; rintro e vq ⟨rfl, rfl⟩
              go_wp2_with fail
              refine (OF.out _ B5.out).mono ?_; rintro e v6 ⟨A6, c6, rfl, hp6, b6⟩
              have P6 := Lib.hid hp6
              have N6 := Lib.hid (show ∀ b o, A6 = some ⟨b, o, none⟩ → b ≠ gs from fun b o e => by have h1 := hp6.2.2 b o e; have h2 := T5.out.blk; omega)
              have T6 := Lib.hid (T5.out.new b6)
              have R6 := Lib.hid (R5.out.new b6)
              have B6 := Lib.hid (B5.out.trans (b6.mono B5.out.size))
              clear hp6 b6
              go_wp2_with fail
              refine (FE.out _ _ _ T6.out P6.out.1).mono ?_; rintro e v7 ⟨Af, cf, rfl, sf, b7⟩
              have S7 := Lib.hid sf
              have T7 := Lib.hid (T6.out.new b7)
              have R7 := Lib.hid (R6.out.new b7)
              have B7 := Lib.hid (B6.out.trans (b7.mono B6.out.size))
              clear sf b7
              go_wp2_with fail
              refine (GFE.out _ R7.out (PW.out.new B7.out)).mono ?_; rintro e v8 ⟨rfl, b8⟩
              have TO := Fr.told_str (S7.out.below b8)
              have T8 := Lib.hid (T7.out.new b8)
              have R8 := Lib.hid (R7.out.new b8)
              have B8 := Lib.hid (B7.out.trans (b8.mono B7.out.size))
              clear b8
              go_wp2_with fail
              refine (shows_any T8.out R8.out).mono ?_; rintro e v9 ⟨rfl, b9⟩
              have T9 := Lib.hid (T8.out.new b9)
              have R9 := Lib.hid (R8.out.new b9)
              have B9 := Lib.hid (B8.out.trans (b9.mono B8.out.size))
              clear b9
              clear TO
              go_wp2_with fail
              refine (shows_any T9.out R9.out).mono ?_; rintro e v10 ⟨rfl, b10⟩
              have T10 := Lib.hid (T9.out.new b10)
              have R10 := Lib.hid (R9.out.new b10)
              have B10 := Lib.hid (B9.out.trans (b10.mono B9.out.size))
              clear b10
              go_wp2
              go_roundw
              case rel => exact ⟨j + 1, _, by omega, by simp, HBD, T10, R10, B10⟩
              case measure => simp [intOf]; omega
        · have hge2 : ¬ (j : Int) < (ls.length : Int) := by omega
          go_wp2
          go_ret
          exact ⟨rfl, B0.out⟩

set_option maxRecDepth 100000 in
theorem lifted (os : Os) (started : os.Started) (H : Type) (enc : TypeId × Value → H) :
    ReturnsInHanded {} Try.checked os 3 .any (Rows.gatherPlaysSpec.pre6 enc Try.prog Try.f3 Rows.gatherPlaysRow.domain false) (Rows.gatherPlaysSpec.post enc Try.prog Try.f3 false true false false) := by
  refine returnsInHanded_of_change (C := Try.checked) own started (by kernel_rfl) Try.func3
    (ChangeSpec.witness6 (enc := enc) (C := Try.checked) false ⟨#[], #[.slice none 0 0, .int .i64 0, .slice none 0 0], []⟩ 8 (by kernel_rfl) (by kernel_rfl) (by kernel_rfl) (by kernel_rfl)) ?_
  intro W base args ds gs before hval0 hW hcnd _
  have hval : ∀ (j : Nat) t v, Try.f3.params[j]? = some t → args[j]? = some v → Value.okWide Try.prog W .any base t v := hval0
  have hW' := hW
  obtain ⟨p, q, hA0, hV, rfl, hfz, hnd⟩ := hW
  have hA : DataW.TrodAll enc Try.prog W 0 (fun _ => true) true Try.f3.params.toList args.toList ds p := hA0
  rw [Try.params3] at hA hval
  obtain ⟨v0, vs0, d0, ds0, p0, q0, hargs, rfl, rfl, h0, r0⟩ := trodAll_cons hA
  obtain ⟨v1, vs1, d1, ds1, p1, q1, rfl, rfl, rfl, h1, r1⟩ := trodAll_cons r0
  obtain ⟨v2, vs2, d2, ds2, p2, q2, rfl, rfl, rfl, h2, r2⟩ := trodAll_cons r1
  obtain ⟨rfl, rfl, rfl⟩ := trodAll_nil r2
  obtain rfl : args = #[v0, v1, v2] := by cases args; simp_all
  obtain ⟨A0, n0, c0, f0, rfl, b0⟩ := open_acts Try.underlying22 Try.underlying33 (by kernel_rfl) rfl rfl rfl rfl rfl rfl (by kernel_rfl) (by kernel_rfl) (by kernel_rfl) (by kernel_rfl) (by kernel_rfl) (by kernel_rfl) Try.underlying3 Try.underlying3 Try.underlying3 Try.underlying3 Try.underlying3 Try.underlying9 (hval 0 22 v0 rfl rfl) h0
  obtain ⟨a1, rfl, _, _, w1⟩ := open_int Try.underlying3 (hval 1 3 v1 rfl rfl) h1
  obtain ⟨A2, c2, f2, rfl, b2⟩ := open_lists Try.underlying23 (by kernel_rfl) Try.underlying37 Try.underlying79 (by kernel_rfl) rfl rfl rfl (by kernel_rfl) (by kernel_rfl) (by kernel_rfl) Try.underlying3 Try.underlying3 Try.underlying3 (hval 2 23 v2 rfl rfl) h2
  clear hA0 hval0
  exact law_close hW' laidOut (by kernel_rfl) rfl Try.underlying4 rfl ⟨rfl, rfl, rfl⟩ (walk W A0 n0 c0 f0 b0 a1 w1 A2 c2 f2 b2)

theorem over : Rows.gatherPlaysRow.holds Try.pinned (OpenSpec.ofChange Rows.gatherPlaysSpec) :=
  OpenClaim.holds_of_wide 3 Try.f3 rfl rfl rfl rfl rfl rfl rfl ⟨rfl, rfl, rfl, rfl, rfl⟩ rfl rfl rfl rfl rfl (by kernel_rfl) Try.func3 (by kernel_rfl)
    (of_decide_eq_true (by kernel_rfl)) (by unfold Func.isWrapper; first | (rw [if_pos (by decide +kernel)]; kernel_rfl) | (rw [if_neg (by decide +kernel)]; exact ⟨rfl, rfl⟩))
    (fun os started H enc _ => lifted os started H enc)

theorem proved : Rows.GatherPlaysSaid := over

end Go.Proofs.Ytplmabnmkkkehaa.gatherPlays
