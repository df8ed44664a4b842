/- Whatever calls, text and place come in, 'pantlerlaw05.FrameKeeps' returns true and leaves them as they were. No condition. -/
import Derived.Test.YtgbldoilnecnhaaDoP
import Derived.Deep.RegionWith
import Derived.Deep.RegionHeld3
import Derived.Deep.RegionLaw
import Derived.Deep.DeepCutAuto
import Derived.Deep.CutBlock
import Derived.Deep.QuietTactic
import Derived.BigQuiet
namespace Go.Proofs.Ytgbldoilnecnhaa.frameKeeps
open Go.ChangeShapes Go.WideShapes Go.ChangeAt Go.RowKit Go.Deep Fr
set_option linter.unusedVariables false


/-- Frame 0 is the first environment's, is held, and its text is that. -/
structure Keep (ps : List Pg) (t : List UInt8) : Prop where
  pos : 0 < ps.length
  own : ps[0].owner = 1
  text : ps[0].text = t
  held : ps[0].holds ≠ 0
theorem Keep.turn {ps ps' : List Pg} {t : List UInt8} {a : Cmd} {e : Int} (h : Keep ps t) (k : Turn ps a ps' e) (hd : ¬ (a.kind = 6 ∧ a.f = 0)) : Keep ps' t := by
  obtain ⟨hk, h1, h2, h3⟩ := k.stays h.pos h.held (by rw [h.own]; decide) hd
  exact ⟨hk, h1.trans h.own, h2.trans h.text, h3⟩
theorem Keep.pg {ps : List Pg} {t : List UInt8} (h : Keep ps t) : (pg ps 0).owner = 1 ∧ (pg ps 0).text = t ∧ (pg ps 0).holds ≠ 0 := by
  have e : Fr.pg ps 0 = ps[0]'h.pos := pg_at h.pos
  rw [e]
  exact ⟨h.own, h.text, h.held⟩
theorem Keep.isF {ps : List Pg} {t : List UInt8} (h : Keep ps t) : isF ps 0 := ⟨by decide, by have := h.pos; omega⟩
theorem Keep.fetch {ps : List Pg} {t : List UInt8} (h : Keep ps t) (off n : Nat) (hn : off + n ≤ 256) : fetchR ps 0 (off : Int) (n : Int) = ((t.drop off).take n, 0) := by
  unfold fetchR
  rw [if_pos ⟨h.isF, h.pg.2.2⟩, if_pos ⟨by omega, by omega, by omega⟩, h.pg.2.1, Int.toNat_natCast, Int.toNat_natCast]
theorem Keep.read {ps : List Pg} {t : List UInt8} (h : Keep ps t) : readR ps 2 0 0 1 = ([], 20) := by
  have e : ownErr ps 2 0 = 20 := by
    unfold ownErr
    rw [if_pos ⟨.inr rfl, h.isF⟩, h.pg.1]
    exact if_neg (by decide)
  unfold readR
  rw [if_neg (by rw [e]; decide), e]
def page0 : List UInt8 := List.replicate 256 0
def four (p : Pg) : List Pg := [p, .blank, .blank, .blank]
theorem e_new : (List.replicate 4 Pg.blank) = four .blank := by kernel_rfl
theorem e_alloc : allocR (four .blank) 1 = (four ⟨1, 0, page0⟩, 0, 0) := by kernel_rfl
theorem e_own (t : List UInt8) : ownErr (four ⟨1, 0, t⟩) 1 0 = 0 := by
  unfold ownErr
  rw [if_pos ⟨.inl rfl, by decide, by simp [four]⟩]
  exact if_pos rfl
theorem e_write (t s : List UInt8) (off : Nat) (h : off + s.length ≤ 256) : writeR (four ⟨1, 0, t⟩) 1 0 (off : Int) s = (four ⟨1, 0, t.take off ++ s ++ t.drop (off + s.length)⟩, 0) := by
  unfold writeR
  rw [if_pos (e_own t), if_pos ⟨by omega, by omega, by omega⟩, Int.toNat_natCast]
  exact if_pos rfl
theorem e_hold (t : List UInt8) : holdR (four ⟨1, 0, t⟩) 1 0 = (four ⟨1, 1, t⟩, 0) := by
  unfold holdR
  exact if_pos (e_own t)
theorem keep_four (t : List UInt8) : Keep (four ⟨1, 1, t⟩) t := ⟨by simp [four], rfl, rfl, by simp [four]⟩
theorem four_holds (t : List UInt8) : ∀ p ∈ four ⟨1, 1, t⟩, p.holds ≤ 1 := by
  intro p hp
  simp only [four, List.mem_cons, List.not_mem_nil, or_false] at hp
  rcases hp with rfl | rfl | rfl | rfl
  · exact Nat.le_refl _
  all_goals exact Nat.zero_le _
theorem four_holds0 (t : List UInt8) : ∀ p ∈ four ⟨1, 0, t⟩, p.holds < 1000000 := by
  intro p hp
  simp only [four, List.mem_cons, List.not_mem_nil, or_false] at hp
  rcases hp with rfl | rfl | rfl | rfl
  all_goals exact Nat.succ_pos _
theorem laid (t s : List UInt8) (off : Nat) (ht : off ≤ t.length) : ((t.take off ++ s ++ t.drop (off + s.length)).drop off).take s.length = s := by
  have e : (t.take off).length = off := by rw [List.length_take]; omega
  rw [List.append_assoc, List.drop_append, e, List.drop_eq_nil_of_le (by omega), Nat.sub_self, List.drop_zero, List.nil_append, List.take_left]
theorem told_back {w : World} {A : Option Addr} {n c : Nat} {s : ByteArray} (hb : Src w A n c s.data.toList) : (convert 41 9 (.slice A n c)).run Try.prog w = .ok (.string s) w := by
  have h := told_str hb
  have e : (⟨s.data.toList.toArray⟩ : ByteArray) = s := by simp
  rw [e] at h
  exact h

set_option maxRecDepth 100000 in
set_option maxHeartbeats 4000000 in
theorem walk (w : World) (Aa : Option Addr) (na ca : Nat) (fn : Nat → Cmd) (ha : Acts w Aa na fn) (s : ByteArray) (ws : s.size ≤ maxLen) (offi : Int) (wf : (Lit.int .u8 offi).wf = true) :
    Calls Try.prog 4 #[.slice Aa na ca, .string s, .int .u8 offi] w fun e w' => e = .returned (.bool true) ∧ Below w.heap.size w w' := by
  obtain ⟨o, rfl, ho⟩ := wf_u8 wf
  have x0 : IntKind.i64.wrap (o : Int) = o := IntWalk.i64_in _ (by omega)
  have x1 : IntKind.i64.wrap (256 - (o : Int)) = 256 - (o : Int) := IntWalk.i64_in _ (by omega)
  have HA := Lib.hid ha
  clear ha ws wf
  by_cases hfar : isFar na fn
  · have FAR := Lib.hid (fun W A n c fn (h : Acts W A n fn) (hf : isFar n fn) => far_any W A n c fn h true (by simp [hf]))
    have HF := Lib.hid hfar
    clear hfar
    go_enter Try.func4, Try.ntmps4
    go_wp2_with fail
    refine (alive_any _).mono ?_; rintro e w1 ⟨rfl, b1⟩
    have B1 := Lib.hid b1
    clear b1
    go_wp2_with fail
    refine (FAR.out _ _ _ _ _ (HA.out.older (older_below B1.out)) HF.out).mono ?_; rintro e w2 ⟨rfl, rfl⟩
    go_wp2
    go_ret
    exact ⟨rfl, B1.out⟩
  · have FAR := Lib.hid (fun W A n c fn (h : Acts W A n fn) (hf : ¬ isFar n fn) => far_any W A n c fn h false (by simp [hf]))
    have HF := Lib.hid hfar
    have hna : na ≤ 150 := by
      by_cases h : na ≤ 150
      · exact h
      · exact absurd (.inl (by omega)) hfar
    have HSZ := Lib.hid (fun i (hi : i < na) => show (fn i).s.size ≤ 1000 by
      by_cases h : (fn i).s.size ≤ 1000
      · exact h
      · exact absurd (.inr ⟨i, hi, by omega⟩) hfar)
    clear hfar
    by_cases hbig : (s.size : Int) > 256 - (o : Int)
    · go_enter Try.func4, Try.ntmps4
      go_wp2_with fail
      refine (alive_any _).mono ?_; rintro e w1 ⟨rfl, b1⟩
      have B1 := Lib.hid b1
      clear b1
      go_wp2_with fail
      refine (FAR.out _ _ _ _ _ (HA.out.older (older_below B1.out)) HF.out).mono ?_; rintro e w2 ⟨rfl, rfl⟩
      go_wp2
      go_ret
      exact ⟨rfl, B1.out⟩
    · have hsz : s.data.toList.length = s.size := Array.length_toList
      have hfit : o + s.data.toList.length ≤ 256 := by omega
      obtain ⟨T, hT⟩ : ∃ T, T = page0.take o ++ s.data.toList ++ page0.drop (o + s.data.toList.length) := ⟨_, rfl⟩
      have hTl : (T.drop o).take s.data.toList.length = s.data.toList := by
        rw [hT]; exact laid page0 _ o (by rw [show page0.length = 256 from List.length_replicate]; omega)
      have A1 := Lib.hid (fun (W : World) (gs g : Nat) (h : Tab W gs g (four .blank)) => by
        have := alloc_any h 1
        rw [e_alloc] at this; exact this)
      have A2 := Lib.hid (fun (W : World) (gs g : Nat) (h : Tab W gs g (four ⟨1, 0, page0⟩)) (A : Option Addr) (c : Nat) (hs : Src W A s.size c s.data.toList) => by
        have := write_any h 1 0 (o : Int) (by omega) A s.size c s.data.toList hs
        rw [e_write _ _ _ hfit, ← hT] at this; exact this)
      have A3 := Lib.hid (fun (W : World) (gs g : Nat) (h : Tab W gs g (four ⟨1, 0, T⟩)) => by
        have := hold_any h 1 0 (four_holds0 T)
        rw [e_hold] at this; exact this)
      have FE := Lib.hid (fun (W : World) (gs g : Nat) (ps : List Pg) (h : Tab W gs g ps) (k : Keep ps T) => by
        have := fetch_any h 0 (o : Int) (s.data.toList.length : Int) (by omega)
        rw [k.fetch o _ hfit, hTl, hsz] at this; exact this)
      have RD := Lib.hid (fun (W : World) (gs g : Nat) (ps : List Pg) (h : Tab W gs g ps) (k : Keep ps T) => by
        have := read_any h 2 0 0 1 (by omega)
        rw [k.read] at this; exact this)
      have OW := Lib.hid (fun (W : World) (gs g : Nat) (ps : List Pg) (h : Tab W gs g ps) (k : Keep ps T) => by
        have := owner_yes h 0 k.pos
        rw [k.own] at this; exact this)
      have NEW := Lib.hid (fun w => new_ok 4 w (by decide) (by decide))
      rw [e_new] at NEW
      have CV := Lib.hid (fun w => conv_src s (by omega) w)
      have TS := Lib.hid (fun W A n c (h : Src W A n c s.data.toList) => told_back h)
      clear hsz hfit hT hTl
      go_enter Try.func4, Try.ntmps4
      go_wp2_with fail
      refine (alive_any _).mono ?_; rintro e w0 ⟨rfl, b0⟩
      have B0 := Lib.hid b0
      have hw0 : w.heap.size ≤ w0.heap.size := b0.size
      clear b0
      go_wp2_with fail
      refine (FAR.out _ _ _ _ _ (HA.out.older (older_below B0.out)) HF.out).mono ?_; rintro e w2 ⟨rfl, rfl⟩
      go_wp2_with fail
      refine (NEW.out _).mono ?_; rintro e w1 ⟨rfl, t1, b1, z1⟩
      have T1 := Lib.hid t1
      have B1 := Lib.hid (B0.out.trans (b1.mono hw0))
      have hw1 : w.heap.size ≤ w1.heap.size := by omega
      clear t1 b1
      generalize hgs : w2.heap.size = gs at *
      clear hgs B0 FAR HF
      go_wp2_with fail
      refine (A1.out _ _ _ T1.out).mono ?_; rintro e w3 ⟨rfl, t3, k3⟩
      have T3 := Lib.hid t3
      have B3 := Lib.hid (B1.out.trans (k3.below hw1 (fun i hi => by omega)))
      have hw3 : w.heap.size ≤ w3.heap.size := Nat.le_trans hw1 k3.size
      have hz3 : gs + 2 ≤ w3.heap.size := Nat.le_trans (by omega) k3.size
      clear t3 k3 T1 B1
      obtain ⟨A, c, w4, heq, hsrc, b4⟩ := CV.out w3
      have S4 := Lib.hid hsrc
      have T4 := Lib.hid (T3.out.new b4)
      have B4 := Lib.hid (B3.out.trans (b4.mono hw3))
      have hw4 : w.heap.size ≤ w4.heap.size := Nat.le_trans hw3 b4.size
      have hz4 : gs + 2 ≤ w4.heap.size := Nat.le_trans hz3 b4.size
      clear hsrc b4 T3 B3
      go_wp2_with fail
      refine (A2.out _ _ _ T4.out A c S4.out).mono ?_; rintro e w5 ⟨rfl, t5, k5⟩
      have T5 := Lib.hid t5
      have B5 := Lib.hid (B4.out.trans (k5.below hw4 (fun i hi => by omega)))
      have hw5 : w.heap.size ≤ w5.heap.size := Nat.le_trans hw4 k5.size
      have hz5 : gs + 2 ≤ w5.heap.size := Nat.le_trans hz4 k5.size
      clear t5 k5 T4 B4 S4 heq
      go_wp2_with fail
      refine (A3.out _ _ _ T5.out).mono ?_; rintro e w6 ⟨rfl, t6, k6⟩
      have T6 := Lib.hid t6
      have B6 := Lib.hid (B5.out.trans (k6.below hw5 (fun i hi => by omega)))
      have hz6 : gs + 2 ≤ w6.heap.size := Nat.le_trans hz5 k6.size
      clear t6 k6 T5 B5 hw1 hw3 hw4 hw5 hz3 hz4 hz5 z1
      go_wp2
      go_loopw [11] (fun i wr => ∃ (j : Nat) (ps : List Pg), j ≤ na ∧ i = .int .i64 (j : Int) ∧ Keep ps T ∧ (∀ p ∈ ps, p.holds ≤ j + 1) ∧ Tab wr gs (gs + 1) ps ∧ Below w.heap.size w wr ∧ gs + 2 ≤ wr.heap.size) (fun i _ => na - (intOf i).toNat)
      case atStart => exact ⟨0, _, Nat.zero_le _, rfl, keep_four T, four_holds T, T6.out, B6.out, hz6⟩
      case round =>
        clear T6 B6 hz6
        obtain ⟨j, ps, hj, rfl, hkeep, hhold, hTb, hbel, hsz⟩ := hrel
        have KP := Lib.hid hkeep
        have HT := Lib.hid hTb
        have HB := Lib.hid hbel
        have HH := Lib.hid hhold
        clear hTb hbel hhold hkeep
        by_cases hlt : j < na
        · have hlt' : (j : Int) < na := by omega
          have j0 : (0 : Int) ≤ j := by omega
          have xj := IntWalk.i64_in ((j : Int) + 1) (by omega)
          obtain ⟨b, o', rfl, _, hr, ok⟩ := HA.out.older (older_below HB.out) j hlt
          have hss := HSZ.out j hlt
          generalize fn j = act at *
          obtain ⟨kind, env, f, off, n, s'⟩ := act
          have hr' : wr.rangeAt b (o' + j * 6) [.int .i64 kind, .int .i64 env, .int .i64 f, .int .i64 off, .int .i64 n, .string s'] := hr
          have c0 : wr.cell? ⟨b, o' + j * 6, none⟩ = some (.int .i64 kind) := by
            have := hr' 0 _ rfl
            rwa [Nat.add_zero] at this
          have c2 : wr.cell? ⟨b, o' + j * 6 + 2, none⟩ = some (.int .i64 f) := hr' 2 _ rfl
          have LD := Lib.hid hr'
          have WO := Lib.hid ok.off
          have SS := Lib.hid (show s'.size ≤ 1000 from hss)
          have hgsz : w.heap.size ≤ wr.heap.size := HB.out.size
          clear hr hr' ok hss
          by_cases hskip : kind = 6 ∧ f = 0
          · obtain ⟨rfl, rfl⟩ := hskip
            have REL := Lib.hid (show ∃ (j' : Nat) (ps : List Pg), j' ≤ na ∧ (.int .i64 ((j : Int) + 1) : Value) = .int .i64 (j' : Int) ∧ Keep ps T ∧ (∀ p ∈ ps, p.holds ≤ j' + 1) ∧ Tab wr gs (gs + 1) ps ∧ Below w.heap.size w wr ∧ gs + 2 ≤ wr.heap.size from
              ⟨j + 1, ps, by omega, by simp, KP.out, fun p hp => Nat.le_succ_of_le (HH.out p hp), HT.out, HB.out, hsz⟩)
            clear LD
            go_wp2
            go_roundw
            case rel => exact REL.out
            case measure => simp [intOf]; omega
          · have DO := Lib.hid (do_any HT.out kind env f off n s' WO.out SS.out (fun p hp => by have := HH.out p hp; omega))
            have TN := Lib.hid (doR_turn ps ⟨kind, env, f, off, n, s'⟩)
            have KPn := Lib.hid (KP.out.turn TN.out hskip)
            generalize doR ps ⟨kind, env, f, off, n, s'⟩ = r at *
            obtain ⟨ps', m', t', e'⟩ := r
            have HM := Lib.hid (TN.out.holds HH.out)
            have hcond : Hid (∀ Q : Prop, (kind = 6 → f ≠ 0 → Q) → (kind ≠ 6 → Q) → Q) := Lib.hid (fun Q h1 h2 => by
              by_cases e : kind = 6
              · exact h1 e (fun e2 => hskip ⟨e, e2⟩)
              · exact h2 e)
            clear hskip
            by_cases q6 : kind = 6
            · subst q6
              have d2 : (f == 0) = false := by
                have := hcond.out (f ≠ 0) (fun _ h => h) (fun h => absurd rfl h)
                simpa using this
              clear hcond
              go_wp2_with (first
                | (refine wpList_load_mid rfl 32 (.tmp 79) rfl b (o' + j * 6) rfl [.int .i64 6, .int .i64 env, .int .i64 f, .int .i64 off, .int .i64 n, .string s'] _ LD.out Try.underlying32 rfl act_info ?_)
                | fail)
              refine DO.out.mono ?_; rintro e w3 ⟨rfl, t3, k3⟩
              have T3 := Lib.hid t3
              have B3 := Lib.hid (HB.out.trans (k3.below (by omega) (fun i hi => by omega)))
              have hz3 : gs + 2 ≤ w3.heap.size := Nat.le_trans hsz k3.size
              have hw3 : w.heap.size ≤ w3.heap.size := Nat.le_trans hgsz k3.size
              clear t3 k3 HT HB DO LD c0 c2
              go_wp2_with fail
              refine (FE.out _ _ _ _ T3.out KPn.out).mono ?_; rintro e w4 ⟨A4, c4, rfl, s4, b4⟩
              have T4 := Lib.hid (T3.out.new b4)
              have B4 := Lib.hid (B3.out.trans (b4.mono hw3))
              have S4 := Lib.hid s4
              have hz4 : gs + 2 ≤ w4.heap.size := Nat.le_trans hz3 b4.size
              have hw4 : w.heap.size ≤ w4.heap.size := Nat.le_trans hw3 b4.size
              clear s4 b4 T3 B3
              go_wp2_with fail
              refine (RD.out _ _ _ _ T4.out KPn.out).mono ?_; rintro e w5 ⟨A5, c5, rfl, s5, b5⟩
              have T5 := Lib.hid (T4.out.new b5)
              have B5 := Lib.hid (B4.out.trans (b5.mono hw4))
              have hz5 : gs + 2 ≤ w5.heap.size := Nat.le_trans hz4 b5.size
              have hw5 : w.heap.size ≤ w5.heap.size := Nat.le_trans hw4 b5.size
              have tl := TS.out _ _ _ _ (S4.out.older (older_below b5))
              have REL := Lib.hid (show ∃ (j' : Nat) (ps : List Pg), j' ≤ na ∧ (.int .i64 ((j : Int) + 1) : Value) = .int .i64 (j' : Int) ∧ Keep ps T ∧ (∀ p ∈ ps, p.holds ≤ j' + 1) ∧ Tab w5 gs (gs + 1) ps ∧ Below w.heap.size w w5 ∧ gs + 2 ≤ w5.heap.size from
                ⟨j + 1, ps', by omega, by simp, KPn.out, HM.out, T5.out, B5.out, hz5⟩)
              clear s5 b5 T4 B4 S4
              go_wp2_with fail
              refine (OW.out _ _ _ _ T5.out KPn.out).mono ?_; rintro e w6 ⟨rfl, rfl⟩
              go_wp2
              go_roundw
              case rel => exact REL.out
              case measure => simp [intOf]; omega
            · have d0 : (kind == 6) = false := by simpa using q6
              clear q6 hcond
              go_wp2_with (first
                | (refine wpList_load_mid rfl 32 (.tmp 79) rfl b (o' + j * 6) rfl [.int .i64 kind, .int .i64 env, .int .i64 f, .int .i64 off, .int .i64 n, .string s'] _ LD.out Try.underlying32 rfl act_info ?_)
                | fail)
              refine DO.out.mono ?_; rintro e w3 ⟨rfl, t3, k3⟩
              have T3 := Lib.hid t3
              have B3 := Lib.hid (HB.out.trans (k3.below (by omega) (fun i hi => by omega)))
              have hz3 : gs + 2 ≤ w3.heap.size := Nat.le_trans hsz k3.size
              have hw3 : w.heap.size ≤ w3.heap.size := Nat.le_trans hgsz k3.size
              clear t3 k3 HT HB DO LD c0 c2
              go_wp2_with fail
              refine (FE.out _ _ _ _ T3.out KPn.out).mono ?_; rintro e w4 ⟨A4, c4, rfl, s4, b4⟩
              have T4 := Lib.hid (T3.out.new b4)
              have B4 := Lib.hid (B3.out.trans (b4.mono hw3))
              have S4 := Lib.hid s4
              have hz4 : gs + 2 ≤ w4.heap.size := Nat.le_trans hz3 b4.size
              have hw4 : w.heap.size ≤ w4.heap.size := Nat.le_trans hw3 b4.size
              clear s4 b4 T3 B3
              go_wp2_with fail
              refine (RD.out _ _ _ _ T4.out KPn.out).mono ?_; rintro e w5 ⟨A5, c5, rfl, s5, b5⟩
              have T5 := Lib.hid (T4.out.new b5)
              have B5 := Lib.hid (B4.out.trans (b5.mono hw4))
              have hz5 : gs + 2 ≤ w5.heap.size := Nat.le_trans hz4 b5.size
              have hw5 : w.heap.size ≤ w5.heap.size := Nat.le_trans hw4 b5.size
              have tl := TS.out _ _ _ _ (S4.out.older (older_below b5))
              have REL := Lib.hid (show ∃ (j' : Nat) (ps : List Pg), j' ≤ na ∧ (.int .i64 ((j : Int) + 1) : Value) = .int .i64 (j' : Int) ∧ Keep ps T ∧ (∀ p ∈ ps, p.holds ≤ j' + 1) ∧ Tab w5 gs (gs + 1) ps ∧ Below w.heap.size w w5 ∧ gs + 2 ≤ w5.heap.size from
                ⟨j + 1, ps', by omega, by simp, KPn.out, HM.out, T5.out, B5.out, hz5⟩)
              clear s5 b5 T4 B4 S4
              go_wp2_with fail
              refine (OW.out _ _ _ _ T5.out KPn.out).mono ?_; rintro e w6 ⟨rfl, rfl⟩
              go_wp2
              go_roundw
              case rel => exact REL.out
              case measure => simp [intOf]; omega
        · have hge : ¬ (j : Int) < na := by omega
          go_wp2
          go_ret
          exact ⟨rfl, HB.out⟩

set_option maxRecDepth 100000 in
theorem lifted (os : Os) (started : os.Started) (H : Type) (enc : TypeId × Value → H) :
    ReturnsInHanded {} Try.checked os 4 .any (Rows.frameKeepsSpec.pre6 enc Try.prog Try.f4 Rows.frameKeepsRow.domain false) (Rows.frameKeepsSpec.post enc Try.prog Try.f4 false true false false) := by
  refine returnsInHanded_of_change (C := Try.checked) own started (by kernel_rfl) Try.func4
    (ChangeSpec.witness6 (enc := enc) (C := Try.checked) false ⟨#[], #[.slice none 0 0, .string ⟨#[]⟩, .int .u8 0], []⟩ 8 (by kernel_rfl) (by kernel_rfl) (by kernel_rfl) (by kernel_rfl)) ?_
  intro W base args ds gs before hval0 hW hcnd _
  have hval : ∀ (j : Nat) t v, Try.f4.params[j]? = some t → args[j]? = some v → Value.okWide Try.prog W .any base t v := hval0
  have hW' := hW
  obtain ⟨p, q, hA0, hV, rfl, hfz, hnd⟩ := hW
  have hA : DataW.TrodAll enc Try.prog W 0 (fun _ => true) true Try.f4.params.toList args.toList ds p := hA0
  rw [Try.params4] at hA hval
  obtain ⟨v0, vs0, d0, ds0, p0, q0, hargs, rfl, rfl, h0, r0⟩ := trodAll_cons hA
  obtain ⟨v1, vs1, d1, ds1, p1, q1, rfl, rfl, rfl, h1, r1⟩ := trodAll_cons r0
  obtain ⟨v2, vs2, d2, ds2, p2, q2, rfl, rfl, rfl, h2, r2⟩ := trodAll_cons r1
  obtain ⟨rfl, rfl, rfl⟩ := trodAll_nil r2
  obtain rfl : args = #[v0, v1, v2] := by cases args; simp_all
  obtain ⟨A0, n0, c0, f0, rfl, b0⟩ := open_acts Try.underlying22 Try.underlying32 (by kernel_rfl) rfl rfl rfl rfl rfl rfl (by kernel_rfl) (by kernel_rfl) (by kernel_rfl) (by kernel_rfl) (by kernel_rfl) (by kernel_rfl) Try.underlying3 Try.underlying3 Try.underlying3 Try.underlying3 Try.underlying3 Try.underlying9 (hval 0 22 v0 rfl rfl) h0
  obtain ⟨a1, rfl, _, _, w1⟩ := Go.ChangeMaps.open_string Try.underlying9 (hval 1 9 v1 rfl rfl) h1
  obtain ⟨a2, rfl, _, _, w2⟩ := open_int Try.underlying5 (hval 2 5 v2 rfl rfl) h2
  clear hA0 hval0
  exact law_close hW' laidOut (by kernel_rfl) rfl Try.underlying4 rfl ⟨rfl, rfl, rfl⟩ (walk W A0 n0 c0 f0 b0 a1 w1 a2 w2)

theorem over : Rows.frameKeepsRow.holds Try.pinned (OpenSpec.ofChange Rows.frameKeepsSpec) :=
  OpenClaim.holds_of_wide 4 Try.f4 rfl rfl rfl rfl rfl rfl rfl ⟨rfl, rfl, rfl, rfl, rfl⟩ rfl rfl rfl rfl rfl (by kernel_rfl) Try.func4 (by kernel_rfl)
    (of_decide_eq_true (by kernel_rfl)) (by unfold Func.isWrapper; first | (rw [if_pos (by decide +kernel)]; kernel_rfl) | (rw [if_neg (by decide +kernel)]; exact ⟨rfl, rfl⟩))
    (fun os started H enc _ => lifted os started H enc)

theorem proved : Rows.FrameKeepsSaid := over

end Go.Proofs.Ytgbldoilnecnhaa.frameKeeps
