/- Whatever calls come in, 'pantlerlaw06.DiskKeeps' returns true and leaves them as they were. No condition. -/
import Derived.Test.YtdnlhfoninhcaaaDkMay2
import Derived.Deep.RegionWith
import Derived.Deep.RegionHeld3
import Derived.Deep.RegionHeldLaw
import Derived.Deep.RegionLaw
import Derived.Deep.DeepCutAuto
import Derived.Deep.CutBlock
import Derived.Deep.QuietTactic
import Derived.BigQuiet
namespace Go.Proofs.Ytdnlhfoninhcaaa.diskKeeps
open Go.ChangeShapes Go.WideShapes Go.ChangeAt Go.RowKit Go.Deep Di
set_option linter.unusedVariables false


def Way2 (d1 : Dk) (E kind : Int) (M M1 : Nat → List ByteArray) : Prop := ((kind = 2 ∧ E = 0) ∧ Sem d1 M1) ∨ (¬ (kind = 2 ∧ E = 0) ∧ M1 = M)
def Way3 (d1 : Dk) (E kind : Int) (M1 : Nat → List ByteArray) : Prop := (kind = 6 ∧ E = 0 ∧ d1.line = [] ∧ ∀ b, b < 4 → bd d1 b ∈ M1 b) ∨ (¬ (kind = 6 ∧ E = 0) ∧ Sem d1 M1)
theorem Way3.chk {d1 : Dk} {E kind : Int} {M1 : Nat → List ByteArray} (h : Way3 d1 E kind M1) : ∀ b, b < 4 → bd d1 b ∈ M1 b := by
  rcases h with h | h
  · exact h.2.2.2
  · exact h.2.blk
/-- What a call of the first environment's does to the disk, for the rows. -/
structure Way (d1 : Dk) (E kind a : Int) (s : ByteArray) (M : Nat → List ByteArray) : Prop where
  two : kind = 2 → E = 0 → ∃ k : Nat, a = (k : Int) ∧ k < 4 ∧ Sem d1 (updM M k (M k ++ [s]))
  three : kind = 3 → E = 0 → ∀ N : Nat → List ByteArray, (∀ b, b < 4 → ∃ x, (M b).getLast? = some x ∧ N b = [x]) → Sem d1 N
  six : kind = 6 → E = 0 → d1.line = [] ∧ ∀ b, b < 4 → bd d1 b ∈ M b
  other : ¬ (kind = 2 ∧ E = 0) → ¬ (kind = 3 ∧ E = 0) → ¬ (kind = 6 ∧ E = 0) → Sem d1 M
  pos : ∀ b, b < 4 → 0 < (M b).length
theorem Way.rest {d1 : Dk} {E kind a : Int} {s : ByteArray} {M M1 : Nat → List ByteArray} (h : Way d1 E kind a s M) (h3 : ¬ (kind = 3 ∧ E = 0)) (h2 : Way2 d1 E kind M M1) : Way3 d1 E kind M1 := by
  rcases h2 with ⟨hk, hs⟩ | ⟨hn, rfl⟩
  · exact .inr ⟨fun e => by have := e.1; have := hk.1; omega, hs⟩
  · by_cases h6 : kind = 6 ∧ E = 0
    · obtain ⟨h7, h8⟩ := h.six h6.1 h6.2
      exact .inl ⟨h6.1, h6.2, h7, h8⟩
    · exact .inr ⟨h6, h.other hn h3 h6⟩
theorem way_of {d : Dk} {M : Nat → List ByteArray} (h : Sem d M) (n4 : d.blocks.length = 4) (kind a b : Int) (s : ByteArray) : Way (doD d ⟨kind, 1, a, b, s⟩).1 (doD d ⟨kind, 1, a, b, s⟩).2.2 kind a s M := by
  refine ⟨?_, ?_, ?_, ?_, fun b hb => h.pos hb⟩
  · rintro rfl hE
    have er : doD d ⟨2, 1, a, b, s⟩ = ((writeR d 1 a s.data.toList).1, [], (writeR d 1 a s.data.toList).2) := rfl
    rw [er] at hE ⊢
    rcases write_ways d 1 a s.data.toList with ⟨k, h1, h2, h3, h4⟩ | h1
    · refine ⟨k, h1, by omega, ?_⟩
      rw [h4]
      exact h.laid k s
    · exact absurd hE h1.1
  · rintro rfl hE N hN
    have er : doD d ⟨3, 1, a, b, s⟩ = ((syncR d).1, [], (syncR d).2) := rfl
    rw [er] at hE ⊢
    by_cases hon : d.on = true
    · have e : syncR d = (settleR d d.line.length, 0) := by unfold syncR; rw [if_pos hon]
      rw [e]
      exact h.sync n4 hN
    · have e : syncR d = (d, 30) := by unfold syncR; rw [if_neg hon]
      rw [e] at hE
      exact absurd hE (by show ¬ (30 : Int) = 0; decide)
  · rintro rfl hE
    have er : doD d ⟨6, 1, a, b, s⟩ = ((reviveR d a).1, [], (reviveR d a).2) := rfl
    rw [er] at hE ⊢
    by_cases hon : d.on = true
    · have e : reviveR d a = (d, 21) := by unfold reviveR; rw [if_pos hon]
      rw [e] at hE
      exact absurd hE (by show ¬ (21 : Int) = 0; decide)
    · have e : reviveR d a = ({ settleR d a.toNat with on := true }, 0) := by unfold reviveR; rw [if_neg hon]
      rw [e]
      exact ⟨rfl, fun b hb => h.settled n4 a.toNat hb⟩
  · intro h2 h3 h6
    by_cases k2 : kind = 2
    · subst k2
      have er : doD d ⟨2, 1, a, b, s⟩ = ((writeR d 1 a s.data.toList).1, [], (writeR d 1 a s.data.toList).2) := rfl
      rw [er] at h2 ⊢
      rcases write_ways d 1 a s.data.toList with ⟨k, _, _, _, h4⟩ | h1
      · exact absurd ⟨rfl, by rw [h4]⟩ h2
      · exact h.same h1.2.1 h1.2.2
    by_cases k3 : kind = 3
    · subst k3
      have er : doD d ⟨3, 1, a, b, s⟩ = ((syncR d).1, [], (syncR d).2) := rfl
      rw [er] at h3 ⊢
      by_cases hon : d.on = true
      · exact absurd ⟨rfl, by unfold syncR; rw [if_pos hon]⟩ h3
      · have e : syncR d = (d, 30) := by unfold syncR; rw [if_neg hon]
        rw [e]; exact h
    by_cases k6 : kind = 6
    · subst k6
      have er : doD d ⟨6, 1, a, b, s⟩ = ((reviveR d a).1, [], (reviveR d a).2) := rfl
      rw [er] at h6 ⊢
      by_cases hon : d.on = true
      · have e : reviveR d a = (d, 21) := by unfold reviveR; rw [if_pos hon]
        rw [e]; exact h
      · exact absurd ⟨rfl, by unfold reviveR; rw [if_neg hon]⟩ h6
    obtain ⟨e1, e2⟩ := other_ways d ⟨kind, 1, a, b, s⟩ k2 k3 k6
    exact h.same e1 e2

set_option maxRecDepth 100000 in
set_option maxHeartbeats 4000000 in
theorem walk (w : World) (Aa : Option Addr) (na ca : Nat) (fn : Nat → Cmd) (ha : Acts w Aa na fn) :
    Calls Try.prog 4 #[.slice Aa na ca] w fun e w' => e = .returned (.bool true) ∧ Below w.heap.size w w' := by
  have HA := Lib.hid ha
  clear ha
  by_cases hfar : isFar na fn
  · have FAR := Lib.hid (fun W A n c fn (h : Acts W A n fn) (hf : isFar n fn) => far_any W A n c fn h true (by simp [hf]))
    have HF := Lib.hid hfar
    clear hfar
    go_enter Try.func4, Try.ntmps4
    go_wp2_with fail
    refine (alive_any _).mono ?_; rintro e w0 ⟨rfl, b0⟩
    have B0 := Lib.hid b0
    have hw0 : w.heap.size ≤ w0.heap.size := b0.size
    clear b0
    go_wp2_with fail
    refine (FAR.out _ _ _ _ _ (HA.out.older (older_below B0.out)) HF.out).mono ?_; rintro e w2 ⟨rfl, rfl⟩
    go_wp2
    go_ret
    exact ⟨rfl, B0.out⟩
  · have FAR := Lib.hid (fun W A n c fn (h : Acts W A n fn) (hf : ¬ isFar n fn) => far_any W A n c fn h false (by simp [hf]))
    have HF := Lib.hid hfar
    have hna : na ≤ 100 := by
      by_cases h : na ≤ 100
      · exact h
      · exact absurd (.inl (by omega)) hfar
    have HSZ := Lib.hid (fun i (hi : i < na) => show (fn i).s.size ≤ 1000 by
      by_cases h : (fn i).s.size ≤ 1000
      · exact h
      · exact absurd (.inr ⟨i, hi, by omega⟩) hfar)
    clear hfar
    have NEW := Lib.hid (fun w => own_new 4 (by decide) (by decide) w)
    have GR := Lib.hid (fun (W : World) (B g : Nat) (h : Own B W g (newD 4)) => by
      have := own_grant h 1 0 4 (by omega) (by decide)
      rw [four0_grant] at this; exact this)
    have mk := fun W => make256 W
    have tl := fun W => told_str (made256 W)
    have ez : (⟨(List.replicate 256 (0 : UInt8)).toArray⟩ : ByteArray) = ⟨zeros.toArray⟩ := rfl
    rw [ez] at tl
    have SM := Lib.hid sem0
    generalize (⟨zeros.toArray⟩ : ByteArray) = z0 at *
    generalize madeCells #[.int .u8 0] 256 = Z at *
    clear ez
    go_enter Try.func4, Try.ntmps4
    go_wp2_with fail
    refine (alive_any _).mono ?_; rintro e w0 ⟨rfl, b0⟩
    have B0 := Lib.hid b0
    have hw0 : w.heap.size ≤ w0.heap.size := b0.size
    clear b0
    go_wp2_with fail
    refine (FAR.out _ _ _ _ _ (HA.out.older (older_below B0.out)) HF.out).mono ?_; rintro e w2 ⟨rfl, rfl⟩
    go_wp2_with fail
    refine (NEW.out _).mono ?_; rintro e w1 ⟨rfl, t1, b1, -⟩
    have T1 := Lib.hid t1
    have B1 := Lib.hid (B0.out.trans (b1.mono hw0))
    clear t1 b1
    go_wp2_with fail
    refine (GR.out _ _ _ T1.out).mono ?_; rintro e w3 ⟨rfl, t3, b3⟩
    have T3 := Lib.hid t3
    have B3 := Lib.hid (B1.out.trans (b3.mono hw0))
    have hl3 : w2.heap.size ≤ w3.heap.size := t3.lt
    clear t3 b3 T1 B1
    have INI := Lib.hid (inv0 w w3 Z z0 w.heap.size (w2.heap.size + 1) (by
      obtain ⟨F, hd, hF⟩ := T3.out.ex
      exact OwnX.of (Own.of hd (fun k hk => Nat.le_trans hw0 (hF k hk)) (Nat.le_trans hw0 hl3))) B3.out SM.out)
    generalize hgs : w2.heap.size = gs at *
    clear hgs B0 FAR HF NEW GR T3 B3
    go_wp2
    go_loopw [7] (fun i wr => ∃ (j : Nat), j ≤ na ∧ i = .int .i64 (j : Int) ∧ Inv w.heap.size (w3.heap.size + 1 + 1 + 1 + 1 + 1) (gs + 1) w j wr) (fun i _ => na - (intOf i).toNat)
    case atStart => exact ⟨0, Nat.zero_le _, rfl, INI.out⟩
    case round => as_aux_lemma =>
      clear INI mk tl SM
      generalize w3.heap.size + 1 + 1 + 1 + 1 + 1 = MB at *
      obtain ⟨j, hj, rfl, d, R, M, hn4, he, hline, hsem, hlen, hX, hM, hbel, hxb⟩ := hrel
      have SEMM := Lib.hid hsem
      have LENM := Lib.hid hlen
      have HX := Lib.hid hX
      have HM := Lib.hid hM
      have HB := Lib.hid hbel
      have XB := Lib.hid hxb
      have hgsz : w.heap.size ≤ wr.heap.size := hX.lt
      clear hsem hlen hX hM hbel hxb
      by_cases hlt : j < na
      · have hlt' : (j : Int) < na := by omega
        have j0 : (0 : Int) ≤ j := by omega
        have xj := IntWalk.i64_in ((j : Int) + 1) (by omega)
        obtain ⟨bb, o, rfl, hbl, hr, ok⟩ := HA.out.older (older_below HB.out) j hlt
        have hss := HSZ.out j hlt
        generalize fn j = act at *
        obtain ⟨kind, env, a, b, s⟩ := act
        have hr' : wr.rangeAt bb (o + j * 5) [.int .i64 kind, .int .i64 env, .int .i64 a, .int .i64 b, .string s] := hr
        have LD := Lib.hid hr'
        have WA := Lib.hid (show -9223372036854775808 ≤ a ∧ a ≤ 9223372036854775807 from ok.a)
        have SS := Lib.hid (show s.size ≤ 1000 from hss)
        clear hr hr' ok hss
        have hq := Blk.new wr 34 #[.int .i64 kind, .int .i64 1, .int .i64 a, .int .i64 b, .string s]
        have HQ := Lib.hid hq
        have LQ := Lib.hid (act_range hq)
        have HX1 := Lib.hid (HX.out.more (.cells #[.int .i64 kind, .int .i64 1, .int .i64 a, .int .i64 b, .string s] 34))
        have HB1 := Lib.hid (HB.out.trans (((Below.refl _ wr).alloc (Nat.le_refl _) (.cells #[.int .i64 kind, .int .i64 1, .int .i64 a, .int .i64 b, .string s] 34)).mono hgsz))
        have QN := Lib.hid (show ¬ Xof MB R wr.heap.size from fun h => by have := HM.out.lt h; omega)
        clear hq
        have DO := Lib.hid (ownx_do HX1.out kind 1 a b s WA.out SS.out (by omega) (by omega))
        have SZ := doD_sizes d ⟨kind, 1, a, b, s⟩
        have WAY := Lib.hid (way_of SEMM.out hn4 kind a b s)
        have N4 := Lib.hid (SZ.2.2.trans hn4)
        have HE := Lib.hid (Nat.le_trans SZ.1 (show d.exts.length + 1 ≤ j + 1 + 1 by omega))
        have HL := Lib.hid (Nat.le_trans SZ.2.1 (show d.line.length + 1 ≤ j + 1 by omega))
        generalize doD d ⟨kind, 1, a, b, s⟩ = rr at *
        obtain ⟨d1, tt, E⟩ := rr
        clear SZ
        go_wp2_with (first
          | (refine wpList_load_mid rfl 34 (.tmp 47) rfl bb (o + j * 5) rfl _ _ LD.out Try.underlying34 rfl act_info ?_)
          | (refine wpList_load_mid rfl 34 (.tmp 8) rfl wr.heap.size 0 rfl _ _ LQ.out Try.underlying34 rfl act_info ?_)
          | fail)
        refine DO.out.mono ?_; rintro e w4 ⟨rfl, hx4, k4⟩
        have hq4 := HQ.out.chg k4 (fun h => h.2 (Or.inr rfl))
        obtain ⟨a0, a1, a2, a3, a4⟩ := act_cells hq4
        have s4 := St.mk (hx4.less (fun i hi => Or.inl hi)) ((HM.out.new ((Below.refl _ wr).alloc (Nat.le_refl _) _)).chg k4 (fun i hi hx => hi.2 (Or.inl hx))) (HB1.out.trans (Rest.below k4 (Nat.le_trans hgsz (by simp)))) hq4 QN.out XB.out
        have S4 := Lib.hid s4
        clear hq4 k4 hx4 HQ LQ HX1 HB1 LD
        generalize wr.heap.size = q at *
        clear DO
        go_upto_region 16 with fail
        go_cut [62] (fun s0 wx => ∃ bv : Bool, s0 = .bool bv ∧ Hid (bv = true ↔ kind = 2 ∧ E = 0) ∧ wx = w4)
        case first => as_aux_lemma =>
          by_cases q2 : kind = 2
          · subst q2
            by_cases q0 : E = 0
            · subst q0
              go_wp2_with fail
              go_meet
              exact ⟨true, rfl, Lib.hid (by simp), rfl⟩
            · have q0' : (E == 0) = false := by simpa using q0
              have HV := Lib.hid (show (false = true ↔ (2 : Int) = 2 ∧ E = 0) from ⟨fun h => (by cases h), fun h => absurd h (fun h => q0 h.2)⟩)
              clear q0
              go_wp2_with fail
              go_meet
              exact ⟨false, rfl, HV, rfl⟩
          · have q2' : (kind == 2) = false := by simpa using q2
            have HV := Lib.hid (show (false = true ↔ kind = 2 ∧ E = 0) from ⟨fun h => (by cases h), fun h => absurd h (fun h => q2 h.1)⟩)
            clear q2
            go_wp2_with fail
            go_meet
            exact ⟨false, rfl, HV, rfl⟩
        case rest => as_aux_lemma =>
          obtain ⟨bv2, rfl, HV2, rfl⟩ := hcut
          go_upto_if 62 with fail
          go_cut [] (fun wx => ∃ R1 M1, St w.heap.size MB (gs + 1) q #[.int .i64 kind, .int .i64 1, .int .i64 a, .int .i64 b, .string s] w d1 R1 M1 wx ∧ (∀ b, b < 4 → (M1 b).length ≤ j + 1 + 1) ∧ Way2 d1 E kind M M1)
          case first => as_aux_lemma =>
            by_cases hb2 : bv2 = true
            · have h2 := HV2.out.1 hb2
              subst hb2
              obtain ⟨hk, hE⟩ := h2
              subst hk hE
              obtain ⟨k, hak, hk4, hsem2⟩ := WAY.out.two rfl rfl
              subst hak
              have hk0 : (0 : Int) ≤ (k : Int) := by omega
              have hk4' : (k : Int) < 4 := by omega
              have LNk := LENM.out k hk4
              have SEM := Lib.hid hsem2
              clear hsem2
              obtain ⟨w4, hw4⟩ : ∃ w4, w4 = wc := ⟨_, rfl⟩
              subst hw4
              have chd : w4.cell? ⟨MB, k, none⟩ = some (.slice (some ⟨(R k).1, (R k).2.1, none⟩) (M k).length (R k).2.2) := S4.out.may.cell hk4
              have hMB4 : MB < w4.heap.size := S4.out.may.head.lt
              have hq4 : q < w4.heap.size := S4.out.blk.lt
              have bA : Below w4.heap.size w4 (w4.drew.alloc (.cells #[.string s] 9)) := (show Below w4.heap.size w4 w4.drew from ⟨rfl, rfl, rfl, Nat.le_refl _, fun _ _ => rfl⟩).alloc (Nat.le_refl _) _
              have ROWd := Lib.hid ((S4.out.may.rows k hk4).new bA)
              have HQd := Lib.hid (show (w4.drew.alloc (.cells #[.string s] 9)).cell? ⟨w4.heap.size, 0, none⟩ = some (.string s) from (Blk.new w4.drew 9 #[.string s]).cell 0)
              have K0 : w4.drew.cell? ⟨q, 2, none⟩ = some (.int .i64 (k : Int)) ∧ w4.drew.cell? ⟨q, 4, none⟩ = some (.string s) := ⟨a2, a4⟩
              have K1 : (w4.drew.alloc (.cells #[.string s] 9)).cell? ⟨q, 2, none⟩ = some (.int .i64 (k : Int)) ∧ (w4.drew.alloc (.cells #[.string s] 9)).cell? ⟨q, 4, none⟩ = some (.string s) := ⟨(act_cells (S4.out.new bA).blk).2.2.1, (act_cells (S4.out.new bA).blk).2.2.2.2⟩
              have HK0 := Lib.hid K0
              have HK1 := Lib.hid K1
              have BA := Lib.hid bA
              clear K0 K1 bA
              go_wp2_with fail
              go_region_law
                ((refine step_append_off rfl (.tmp 70) (.tmp 73) rfl ROWd.out rfl w4.heap.size s rfl HQd.out (by omega) ?_
                  intro r5 o5 c5 w5 hrow hk5 hat5 hlt5
                  have hk6 : Chg w4 w5 (fun i => i = (R k).1) := (Chg.of_new BA.out _).trans hk5
                  have hset := S4.out.set hk4 hk6 hrow (by
                    rcases hat5 with e | e
                    · exact Or.inl e
                    · exact Or.inr (Nat.le_trans BA.out.size e))
                  rw [show (M k ++ [s]).length = (M k).length + 1 by simp] at hset
                  have hh5 := S4.out.may.head.chg hk6 (fun e => S4.out.may.ne k hk4 (Eq.symm e))
                  have hq5 := S4.out.blk.chg hk6 (fun e => S4.out.qn (Or.inr ⟨k, hk4, e⟩))
                  have f5 := hh5.frozen k
                  obtain ⟨_, _, q52, _, q54⟩ := act_cells hq5
                  have e5 : w5.cell? ⟨MB, k, none⟩ = some (hdr R M k) := by
                    rw [hh5.cell]
                    rcases (by omega : k = 0 ∨ k = 1 ∨ k = 2 ∨ k = 3) with rfl | rfl | rfl | rfl <;> rfl
                  have HK3 := Lib.hid (show w5.cell? ⟨q, 2, none⟩ = some (.int .i64 (k : Int)) ∧ w5.cell? ⟨q, 4, none⟩ = some (.string s) from ⟨(act_cells hq5).2.2.1, (act_cells hq5).2.2.2.2⟩)
                  have HK4 := Lib.hid (show (w5.setCell ⟨MB, k, none⟩ (.slice (some ⟨r5, o5, none⟩) ((M k).length + 1) c5)).cell? ⟨q, 2, none⟩ = some (.int .i64 (k : Int)) ∧ (w5.setCell ⟨MB, k, none⟩ (.slice (some ⟨r5, o5, none⟩) ((M k).length + 1) c5)).cell? ⟨q, 4, none⟩ = some (.string s) from ⟨(act_cells hset.blk).2.2.1, (act_cells hset.blk).2.2.2.2⟩)
                  have SX := Lib.hid hset
                  clear hset hh5 hq5 hk6 hrow hk5 hat5 hlt5))
              all_goals
                have LEN := Lib.hid (updM_lt (b := k) (l := M k ++ [s]) (fun b hb => Nat.le_succ_of_le (LENM.out b hb)) (by simp; omega))
                have CHK := Lib.hid SEM.out.blk
                have x0 := (act_cells SX.out.blk).1
                generalize (w5.setCell ⟨MB, k, none⟩ (.slice (some ⟨r5, o5, none⟩) ((M k).length + 1) c5)) = wX at *
                generalize updR R k (r5, o5, c5) = R1 at *
                generalize updM M k (M k ++ [s]) = M1 at *
                clear a0 a1 a2 a3 a4 chd S4 HK0 HK1 HK3 HK4 ROWd HQd e5 f5 BA
                go_wp2_with fail
                go_meet
                exact ⟨R1, M1, SX.out, LEN.out, Or.inl ⟨⟨rfl, rfl⟩, SEM.out⟩⟩
            · have h2 : ¬ (kind = 2 ∧ E = 0) := fun h => hb2 (HV2.out.2 h)
              have hb2' : bv2 = false := by simpa using hb2
              subst hb2'
              clear hb2
              have FIN := Lib.hid (show ∃ R1 M1, St w.heap.size MB (gs + 1) q #[.int .i64 kind, .int .i64 1, .int .i64 a, .int .i64 b, .string s] w d1 R1 M1 wc ∧ (∀ b, b < 4 → (M1 b).length ≤ j + 1 + 1) ∧ Way2 d1 E kind M M1 from
                ⟨R, M, S4.out, fun b hb => Nat.le_succ_of_le (LENM.out b hb), Or.inr ⟨h2, rfl⟩⟩)
              clear h2
              go_wp2_with fail
              go_meet
              exact FIN.out
          case rest => as_aux_lemma =>
            clear a0 a1 a2 a3 a4 S4
            obtain ⟨Ra, Ma, hSa, hLa, hWa⟩ := hcut
            have a0 := (act_cells hSa.blk).1
            have SA := Lib.hid hSa
            have LA := Lib.hid hLa
            have W2 := Lib.hid hWa
            have hqa : q < wc.heap.size := hSa.blk.lt
            obtain ⟨wA, hwA⟩ : ∃ wA, wA = wc := ⟨_, rfl⟩
            subst hwA
            clear hSa hLa hWa
            go_upto_region 18 with fail
            go_cut [82] (fun s0 wx => ∃ bv : Bool, s0 = .bool bv ∧ Hid (bv = true ↔ kind = 3 ∧ E = 0) ∧ wx = wA)
            case first => as_aux_lemma =>
              by_cases q3 : kind = 3
              · subst q3
                by_cases q0 : E = 0
                · subst q0
                  go_wp2_with fail
                  go_meet
                  exact ⟨true, rfl, Lib.hid (by simp), rfl⟩
                · have q0' : (E == 0) = false := by simpa using q0
                  have HV := Lib.hid (show (false = true ↔ (3 : Int) = 3 ∧ E = 0) from ⟨fun h => (by cases h), fun h => absurd h (fun h => q0 h.2)⟩)
                  clear q0
                  go_wp2_with fail
                  go_meet
                  exact ⟨false, rfl, HV, rfl⟩
              · have q3' : (kind == 3) = false := by simpa using q3
                have HV := Lib.hid (show (false = true ↔ kind = 3 ∧ E = 0) from ⟨fun h => (by cases h), fun h => absurd h (fun h => q3 h.1)⟩)
                clear q3
                go_wp2_with fail
                go_meet
                exact ⟨false, rfl, HV, rfl⟩
            case rest => as_aux_lemma =>
              obtain ⟨bv3, rfl, HV3, rfl⟩ := hcut
              go_upto_if 82 with fail
              go_cut [] (fun wx => ∃ R1 M1, St w.heap.size MB (gs + 1) q #[.int .i64 kind, .int .i64 1, .int .i64 a, .int .i64 b, .string s] w d1 R1 M1 wx ∧ (∀ b, b < 4 → (M1 b).length ≤ j + 1 + 1) ∧ Way3 d1 E kind M1)
              case first => as_aux_lemma =>
                by_cases hb3 : bv3 = true
                · have h3 := HV3.out.1 hb3
                  subst hb3
                  obtain ⟨hk, hE⟩ := h3
                  subst hk hE
                  have hsem3 := WAY.out.three rfl rfl
                  have hMa : Ma = M := by
                    rcases W2.out with h | h
                    · exact absurd h.1.1 (by decide)
                    · exact h.2
                  subst hMa
                  go_wp2
                  go_loopw [11] (fun i wc => ∃ (b1 : Nat) (R2 : Nat → Nat × Nat × Nat) (M2 : Nat → List ByteArray), b1 ≤ 4 ∧ i = .int .i64 (b1 : Int) ∧ St w.heap.size MB (gs + 1) q #[.int .i64 3, .int .i64 1, .int .i64 a, .int .i64 b, .string s] w d1 R2 M2 wc ∧ (∀ b, b < 4 → (b < b1 → ∃ x, (Ma b).getLast? = some x ∧ M2 b = [x]) ∧ (b1 ≤ b → M2 b = Ma b))) (fun i _ => 4 - (intOf i).toNat)
                  case atStart => exact ⟨0, Ra, Ma, by omega, rfl, SA.out, fun b hb => ⟨fun h => absurd h (by omega), fun _ => rfl⟩⟩
                  case round => as_aux_lemma =>
                    clear a0 SA
                    obtain ⟨b1, R2, M2, hb1, rfl, hS, hM⟩ := hrel
                    by_cases hb4 : b1 < 4
                    · have b10 : (0 : Int) ≤ (b1 : Int) := by omega
                      have b14 : (b1 : Int) < 4 := by omega
                      have xb1 := IntWalk.i64_in ((b1 : Int) + 1) (by omega)
                      have eM := (hM b1 hb4).2 (Nat.le_refl _)
                      have hpos := WAY.out.pos b1 hb4
                      have hln := LENM.out b1 hb4
                      have chd : wr.cell? ⟨MB, b1, none⟩ = some (.slice (some ⟨(R2 b1).1, (R2 b1).2.1, none⟩) (M2 b1).length (R2 b1).2.2) := hS.may.cell hb4
                      have fhd := hS.may.head.frozen b1
                      rw [eM] at chd
                      have row := hS.may.rows b1 hb4
                      rw [eM] at row
                      have hsl := fun W => run_cutstr (R2 b1).1 (R2 b1).2.1 (Ma b1).length (R2 b1).2.2 hpos row.le W
                      have xl := IntWalk.i64_in (((Ma b1).length : Int) - 1) (by omega)
                      have hset : St w.heap.size MB (gs + 1) q #[.int .i64 3, .int .i64 1, .int .i64 a, .int .i64 b, .string s] w d1 (updR R2 b1 ((R2 b1).1, (R2 b1).2.1 + ((Ma b1).length - 1), (R2 b1).2.2 - ((Ma b1).length - 1))) (updM M2 b1 [(Ma b1)[(Ma b1).length - 1]'(by omega)]) (wr.drew.setCell ⟨MB, b1, none⟩ (.slice (some ⟨(R2 b1).1, (R2 b1).2.1 + ((Ma b1).length - 1), none⟩) 1 ((R2 b1).2.2 - ((Ma b1).length - 1)))) :=
                        (hS.drewN 1).set hb4 (Chg.refl _ _) ((row.last hpos).drewN 1) (Or.inl rfl)
                      have REL := Lib.hid (And.intro hset (show ∀ b, b < 4 → (b < b1 + 1 → ∃ x, (Ma b).getLast? = some x ∧ updM M2 b1 [(Ma b1)[(Ma b1).length - 1]'(by omega)] b = [x]) ∧ (b1 + 1 ≤ b → updM M2 b1 [(Ma b1)[(Ma b1).length - 1]'(by omega)] b = Ma b) from fun b hb => by
                        unfold updM
                        by_cases e : b = b1
                        · subst e
                          refine ⟨fun _ => ⟨_, ?_, if_pos rfl⟩, fun h => absurd h (by omega)⟩
                          rw [List.getLast?_eq_getElem?, List.getElem?_eq_getElem (by omega)]
                        · rw [if_neg e]
                          exact ⟨fun h => (hM b hb).1 (by omega), fun h => (hM b hb).2 (by omega)⟩))
                      clear hS hM hset row eM
                      go_wp2_with fail
                      refine wp_region_still_tail 14 (by kernel_rfl) (by kernel_rfl) ?_
                      change wpStill _ _ wr.drew (fun a' => wpList _ _ _ _ a' wr.drew) _ _
                      simp only [List.take_succ_cons, List.take_zero, List.drop_succ_cons, List.drop_zero]
                      repeat still_step
                      refine wpStill_nil ?_
                      go_wp2
                      go_roundw
                      case rel => exact ⟨b1 + 1, _, _, by omega, by simp, REL.out⟩
                      case measure => simp [intOf]; omega
                    · have hbg0 : ¬ (b1 : Int) < 4 := by omega
                      obtain rfl : b1 = 4 := by omega
                      have SEM := Lib.hid (hsem3 M2 (fun b hb => (hM b hb).1 hb))
                      have CHK := Lib.hid SEM.out.blk
                      have LEN := Lib.hid (show ∀ b, b < 4 → (M2 b).length ≤ j + 1 + 1 from fun b hb => by
                        obtain ⟨x, _, e⟩ := (hM b hb).1 hb
                        rw [e]; simp)
                      have SX := Lib.hid hS
                      have FIN := Lib.hid (show ∃ R1 M1, St w.heap.size MB (gs + 1) q #[.int .i64 3, .int .i64 1, .int .i64 a, .int .i64 b, .string s] w d1 R1 M1 wr ∧ (∀ b, b < 4 → (M1 b).length ≤ j + 1 + 1) ∧ Way3 d1 0 3 M1 from ⟨R2, M2, SX.out, LEN.out, Or.inr ⟨fun h => absurd h.1 (by decide), SEM.out⟩⟩)
                      clear hS hM
                      go_wp2_with fail
                      go_meet
                      exact FIN.out
                · have h3 : ¬ (kind = 3 ∧ E = 0) := fun h => hb3 (HV3.out.2 h)
                  have hb3' : bv3 = false := by simpa using hb3
                  subst hb3'
                  clear hb3
                  have FIN := Lib.hid (show ∃ R1 M1, St w.heap.size MB (gs + 1) q #[.int .i64 kind, .int .i64 1, .int .i64 a, .int .i64 b, .string s] w d1 R1 M1 wc ∧ (∀ b, b < 4 → (M1 b).length ≤ j + 1 + 1) ∧ Way3 d1 E kind M1 from
                    ⟨Ra, Ma, SA.out, LA.out, WAY.out.rest h3 W2.out⟩)
                  clear h3
                  go_wp2_with fail
                  go_meet
                  exact FIN.out
              case rest => as_aux_lemma =>
                clear a0 SA LA W2 hqa
                obtain ⟨R1, M1, hSb, hLb, hWb⟩ := hcut
                have SX := Lib.hid hSb
                have LEN := Lib.hid hLb
                have CHK := Lib.hid hWb.chk
                have W3 := Lib.hid hWb
                obtain ⟨wX, hwX⟩ : ∃ wX, wX = wc := ⟨_, rfl⟩
                subst hwX
                clear hSb hLb hWb WAY
                have IMG := Lib.hid (ownx_image SX.out.own)
                rw [N4.out] at IMG
                go_wp2_with fail
                refine IMG.out.mono ?_; rintro e wI ⟨rfl, tI, bI⟩
                have SI := Lib.hid (SX.out.new bI)
                have TI := Lib.hid tI
                clear tI bI IMG
                generalize hib : wX.heap.size = IB at *
                have hqi : q < wI.heap.size := SI.out.blk.lt
                go_wp2
                go_loopw [13] (fun i wc => ∃ (b0 : Nat) (m : Nat), b0 ≤ 4 ∧ i = .int .i64 (b0 : Int) ∧ wc = wI.drewN m) (fun i _ => 4 - (intOf i).toNat)
                case atStart => exact ⟨0, 0, by omega, rfl, by rw [World.drewN_zero]⟩
                case round => as_aux_lemma =>
                  obtain ⟨b0, m, hb0, rfl, rfl⟩ := hrel
                  by_cases hb4 : b0 < 4
                  · have b00 : (0 : Int) ≤ (b0 : Int) := by omega
                    have b04 : (b0 : Int) < 4 := by omega
                    have xb0 := IntWalk.i64_in ((b0 : Int) + 1) (by omega)
                    have chd : wI.cell? ⟨MB, b0, none⟩ = some (.slice (some ⟨(R1 b0).1, (R1 b0).2.1, none⟩) (M1 b0).length (R1 b0).2.2) := SI.out.may.cell hb4
                    have cim : wI.cell? ⟨IB, b0, none⟩ = some (.string (bd d1 b0)) := by
                      have h1 := TI.out.cell (j := b0) (by rw [N4.out]; exact hb4) hb4
                      have e : (⟨(d1.blocks[b0]'(by rw [N4.out]; exact hb4)).toArray⟩ : ByteArray) = bd d1 b0 := by
                        unfold bd
                        simp [List.getD_eq_getElem?_getD, List.getElem?_eq_getElem (show b0 < d1.blocks.length by rw [N4.out]; exact hb4)]
                      rw [e] at h1
                      exact h1
                    have ROW := Lib.hid (SI.out.may.rows b0 hb4)
                    have CK := Lib.hid (CHK.out b0 hb4)
                    have LN := LEN.out b0 hb4
                    generalize hMb : M1 b0 = l at *
                    generalize hUb : bd d1 b0 = U at *
                    generalize hRb : R1 b0 = rb at *
                    obtain ⟨r1, o1, c1⟩ := rb
                    clear hMb hUb hRb
                    go_wp2
                    go_loopw [14, 15] (fun v i wc => ∃ (k : Nat) (bv : Bool) (m' : Nat), k ≤ l.length ∧ v = .bool bv ∧ i = .int .i64 (k : Int) ∧ Hid (bv = true ↔ ∃ x, x < k ∧ l[x]? = some U) ∧ wc = wI.drewN m') (fun _ i _ => l.length - (intOf i).toNat)
                    case atStart => exact ⟨0, false, m, Nat.zero_le _, rfl, rfl, Lib.hid ⟨fun h => (by cases h), fun ⟨x, hx, _⟩ => absurd hx (by omega)⟩, rfl⟩
                    case round => as_aux_lemma =>
                      obtain ⟨k, bv, m', hk, rfl, rfl, HV, rfl⟩ := hrel
                      by_cases hkl : k < l.length
                      · have k0 : (0 : Int) ≤ (k : Int) := by omega
                        have k1 : (k : Int) < (l.length : Int) := by omega
                        have xk := IntWalk.i64_in ((k : Int) + 1) (by omega)
                        have ctk := ROW.out.cell hkl
                        cases bv with
                        | true =>
                          have EX := Lib.hid (show ∃ x, x < k + 1 ∧ l[x]? = some U by
                            obtain ⟨x, h1, h2⟩ := HV.out.1 rfl
                            exact ⟨x, by omega, h2⟩)
                          go_wp2_with fail
                          go_quiet (fail)
                          go_wp2
                          go_roundw
                          case rel => exact ⟨k + 1, true, _, by omega, rfl, by simp, Lib.hid (iff_of_true rfl EX.out), by first | exact World.drewN_drewN _ _ _ | rfl⟩
                          case measure => simp [intOf]; omega
                        | false =>
                          by_cases hTU : l[k] = U
                          · have EX := Lib.hid (show ∃ x, x < k + 1 ∧ l[x]? = some U from ⟨k, by omega, by rw [List.getElem?_eq_getElem hkl, hTU]⟩)
                            rw [hTU] at ctk
                            clear hTU
                            go_wp2_with fail
                            go_quiet (fail)
                            go_wp2
                            go_roundw
                            case rel => exact ⟨k + 1, true, _, by omega, by simp, by simp, Lib.hid (iff_of_true rfl EX.out), by first | exact World.drewN_drewN _ _ _ | rfl⟩
                            case measure => simp [intOf]; omega
                          · have hne := tl_ne hTU
                            have HV2 : Hid (false = true ↔ ∃ x, x < k + 1 ∧ l[x]? = some U) := Lib.hid ⟨fun h => (by cases h), fun ⟨x, h1, h2⟩ => by
                              by_cases e : x = k
                              · subst e
                                rw [List.getElem?_eq_getElem hkl] at h2
                                injection h2 with h2
                                exact absurd h2 hTU
                              · exact HV.out.2 ⟨x, by omega, h2⟩⟩
                            generalize l[k] = T at *
                            clear hTU
                            go_wp2_with fail
                            go_quiet (fail)
                            go_wp2
                            go_roundw
                            case rel => exact ⟨k + 1, false, _, by omega, by simp, by simp, HV2, by first | exact World.drewN_drewN _ _ _ | rfl⟩
                            case measure => simp [intOf]; omega
                      · have hkg : ¬ (k : Int) < (l.length : Int) := by omega
                        have hbv : bv = true := HV.out.2 (by
                          obtain ⟨x, hx, e⟩ := List.mem_iff_getElem.1 CK.out
                          exact ⟨x, by omega, by rw [List.getElem?_eq_getElem hx, e]⟩)
                        subst hbv
                        go_wp2
                        go_roundw
                        case rel => exact ⟨b0 + 1, m', by omega, by simp, rfl⟩
                        case measure => simp [intOf]; omega
                  · have hbg : ¬ (b0 : Int) < 4 := by omega
                    have q0 := (act_cells SI.out.blk).1
                    by_cases h6 : kind = 6 ∧ E = 0
                    · obtain ⟨hk, hE⟩ := h6
                      subst hk hE
                      have NL := Lib.hid (show d1.line = [] by
                        rcases W3.out with h | h
                        · exact h.2.2.1
                        · exact absurd ⟨rfl, rfl⟩ h.1)
                      clear W3
                      go_wp2
                      go_loopw [16] (fun i wc => ∃ (b1 : Nat) (R2 : Nat → Nat × Nat × Nat) (M2 : Nat → List ByteArray), b1 ≤ 4 ∧ i = .int .i64 (b1 : Int) ∧ St w.heap.size MB (gs + 1) q #[.int .i64 6, .int .i64 1, .int .i64 a, .int .i64 b, .string s] w d1 R2 M2 wc ∧ (∀ b, b < b1 → M2 b = [bd d1 b]) ∧ Texts wc IB d1.blocks 4 ∧ (∀ i, Xof MB R2 i → i ≠ IB)) (fun i _ => 4 - (intOf i).toNat)
                      case atStart => exact ⟨0, R1, M1, by omega, rfl, SI.out.drewN _, fun b hb => absurd hb (by omega), TI.out.chg ((Chg.refl wI (fun _ => False)).drewN _) id, fun i hi e => by have := SX.out.may.lt hi; omega⟩
                      case round => as_aux_lemma =>
                        clear q0
                        obtain ⟨b1, R2, M2, hb1, rfl, hS, hM, hT, hI⟩ := hrel
                        by_cases hb4 : b1 < 4
                        · have b10 : (0 : Int) ≤ (b1 : Int) := by omega
                          have b14 : (b1 : Int) < 4 := by omega
                          have xb1 := IntWalk.i64_in ((b1 : Int) + 1) (by omega)
                          have chd : wr.cell? ⟨MB, b1, none⟩ = some (.slice (some ⟨(R2 b1).1, (R2 b1).2.1, none⟩) (M2 b1).length (R2 b1).2.2) := hS.may.cell hb4
                          have fhd := hS.may.head.frozen b1
                          have hMBl : MB < wr.heap.size := hS.may.head.lt
                          have hIBl : IB < wr.heap.size := hT.lt
                          have cim : wr.cell? ⟨IB, b1, none⟩ = some (.string (bd d1 b1)) := by
                            have h1 := hT.cell (j := b1) (by rw [N4.out]; exact hb4) hb4
                            have e : (⟨(d1.blocks[b1]'(by rw [N4.out]; exact hb4)).toArray⟩ : ByteArray) = bd d1 b1 := by
                              unfold bd
                              simp [List.getD_eq_getElem?_getD, List.getElem?_eq_getElem (show b1 < d1.blocks.length by rw [N4.out]; exact hb4)]
                            rw [e] at h1
                            exact h1
                          have bA := (Below.refl wr.heap.size wr).alloc (Nat.le_refl _) (.cells #[.string (bd d1 b1)] 9)
                          have hset := hS.set hb4 (Chg.of_new bA _) (RowO.one wr (bd d1 b1)) (Or.inr (Nat.le_refl _))
                          obtain ⟨_, hk2, hx2⟩ := hS.may.set hb4 (Chg.of_new bA _) (RowO.one wr (bd d1 b1)) (Or.inr (Nat.le_refl _))
                          have hT2 := hT.chg hk2 (fun hi => hI IB hi rfl)
                          rw [World.setCell_alloc_past _ _ _ _ hMBl, List.length_singleton] at hset hT2
                          have REL := Lib.hid (And.intro hset (And.intro (show ∀ b, b < b1 + 1 → updM M2 b1 [bd d1 b1] b = [bd d1 b] from fun b hb => by
                            unfold updM
                            by_cases e : b = b1
                            · subst e; rw [if_pos rfl]
                            · rw [if_neg e]; exact hM b (by omega)) (And.intro hT2 (show ∀ i, Xof MB (updR R2 b1 (wr.heap.size, 0, 1)) i → i ≠ IB from fun i hi => by
                            rcases hx2 i hi with h1 | h1
                            · exact hI i h1
                            · omega))))
                          clear hS hM hT hI hset hk2 hx2 hT2 bA
                          generalize bd d1 b1 = U at *
                          go_wp2
                          go_roundw
                          case rel => exact ⟨b1 + 1, _, _, by omega, by simp, REL.out⟩
                          case measure => simp [intOf]; omega
                        · have hbg2 : ¬ (b1 : Int) < 4 := by omega
                          obtain rfl : b1 = 4 := by omega
                          have REL := Lib.hid (hS.inv (j := j) N4.out HE.out HL.out (Sem.reset NL.out hM) (fun b hb => by rw [hM b hb]; simp))
                          clear hS hM hT hI
                          go_wp2
                          go_roundw
                          case rel => exact ⟨j + 1, by omega, by simp, REL.out⟩
                          case measure => simp [intOf]; omega
                    · have SEM := Lib.hid (show Sem d1 M1 by
                        rcases W3.out with h | h
                        · exact absurd ⟨h.1, h.2.1⟩ h6
                        · exact h.2)
                      have REL := Lib.hid (fun m : Nat => (SI.out.drewN m).inv (j := j) N4.out HE.out HL.out SEM.out LEN.out)
                      clear W3
                      by_cases q6 : kind = 6
                      · have q0' : (E == 0) = false := by simpa using fun e => h6 ⟨q6, e⟩
                        subst q6
                        clear h6
                        go_wp2
                        go_roundw
                        case rel => exact ⟨j + 1, by omega, by simp, REL.out _⟩
                        case measure => simp [intOf]; omega
                      · have q6' : (kind == 6) = false := by simpa using q6
                        clear h6 q6
                        go_wp2
                        go_roundw
                        case rel => exact ⟨j + 1, by omega, by simp, REL.out _⟩
                        case measure => simp [intOf]; omega
      · have hge : ¬ (j : Int) < na := by omega
        go_wp2
        go_ret
        exact ⟨rfl, HB.out⟩

set_option maxRecDepth 100000 in
theorem lifted (os : Os) (started : os.Started) (H : Type) (enc : TypeId × Value → H) :
    ReturnsInHanded {} Try.checked os 4 .any (Rows.diskKeepsSpec.pre6 enc Try.prog Try.f4 Rows.diskKeepsRow.domain false) (Rows.diskKeepsSpec.post enc Try.prog Try.f4 false true false false) := by
  refine returnsInHanded_of_change (C := Try.checked) own started (by kernel_rfl) Try.func4
    (ChangeSpec.witness6 (enc := enc) (C := Try.checked) false ⟨#[], #[.slice none 0 0], []⟩ 8 (by kernel_rfl) (by kernel_rfl) (by kernel_rfl) (by kernel_rfl)) ?_
  intro W base args ds gs before hval0 hW hcnd _
  have hval : ∀ (j : Nat) t v, Try.f4.params[j]? = some t → args[j]? = some v → Value.okWide Try.prog W .any base t v := hval0
  have hW' := hW
  obtain ⟨p, q, hA0, hV, rfl, hfz, hnd⟩ := hW
  have hA : DataW.TrodAll enc Try.prog W 0 (fun _ => true) true Try.f4.params.toList args.toList ds p := hA0
  rw [Try.params4] at hA hval
  obtain ⟨v0, vs0, d0, ds0, p0, q0, hargs, rfl, rfl, h0, r0⟩ := trodAll_cons hA
  obtain ⟨rfl, rfl, rfl⟩ := trodAll_nil r0
  obtain rfl : args = #[v0] := by cases args; simp_all
  obtain ⟨A0, n0, c0, f0, rfl, b0⟩ := open_acts Try.underlying22 Try.underlying34 (by kernel_rfl) rfl rfl rfl rfl rfl (by kernel_rfl) (by kernel_rfl) (by kernel_rfl) (by kernel_rfl) (by kernel_rfl) Try.underlying3 Try.underlying3 Try.underlying3 Try.underlying3 Try.underlying9 (hval 0 22 v0 rfl rfl) h0
  clear hA0 hval0
  exact law_close hW' laidOut (by kernel_rfl) rfl Try.underlying4 rfl ⟨rfl, rfl, rfl⟩ (walk W A0 n0 c0 f0 b0)

theorem over : Rows.diskKeepsRow.holds Try.pinned (OpenSpec.ofChange Rows.diskKeepsSpec) :=
  OpenClaim.holds_of_wide 4 Try.f4 rfl rfl rfl rfl rfl rfl rfl ⟨rfl, rfl, rfl, rfl, rfl⟩ rfl rfl rfl rfl rfl (by kernel_rfl) Try.func4 (by kernel_rfl)
    (of_decide_eq_true (by kernel_rfl)) (by unfold Func.isWrapper; first | (rw [if_pos (by decide +kernel)]; kernel_rfl) | (rw [if_neg (by decide +kernel)]; exact ⟨rfl, rfl⟩))
    (fun os started H enc _ => lifted os started H enc)

theorem proved : Rows.DiskKeepsSaid := over

end Go.Proofs.Ytdnlhfoninhcaaa.diskKeeps
