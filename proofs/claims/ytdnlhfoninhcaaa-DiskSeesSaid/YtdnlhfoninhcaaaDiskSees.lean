/- Whatever calls come in, 'pantlerlaw06.DiskSees' returns true and leaves them as they were. No condition. -/
import Derived.Test.YtdnlhfoninhcaaaDkX
import Derived.Deep.RegionWith
import Derived.Deep.RegionHeld3
import Derived.Deep.RegionLaw
import Derived.Deep.DeepCutAuto
import Derived.Deep.CutBlock
import Derived.Deep.QuietTactic
import Derived.BigQuiet
namespace Go.Proofs.Ytdnlhfoninhcaaa.diskSees
open Go.ChangeShapes Go.WideShapes Go.ChangeAt Go.RowKit Go.Deep Di
set_option linter.unusedVariables false


/-- The last writes, as the law keeps them: a text a block; the empty one where there was none. -/
def Lasts (d : Dk) (t : Nat → ByteArray) : Prop := ∀ b, b < 4 → t b = ⟨#[]⟩ ∨ t b = ⟨(see d b).toArray⟩
structure Live (d : Dk) : Prop where
  four : Four d
  on : d.on = true
  arm : d.armed = -1
theorem Live.laid {d : Dk} (h : Live d) (b : Nat) (s : List UInt8) : Live (laid d b s) :=
  ⟨⟨h.four.n, h.four.own⟩, h.on, by show (if d.armed = -1 then -1 else d.armed - 1) = -1; rw [if_pos h.arm]⟩
theorem Live.settle {d : Dk} (h : Live d) (k : Nat) : Live (settleR d k) := ⟨⟨by show (put _ _).length = 4; rw [put_len]; exact h.four.n, h.four.own⟩, h.on, h.arm⟩
theorem live0 : Live four0 := ⟨four0_four, four0_on, four0_armed⟩
def cells4 (t : Nat → ByteArray) : Array Value := #[.string (t 0), .string (t 1), .string (t 2), .string (t 3)]
theorem cells4_get (t : Nat → ByteArray) {k : Nat} (hk : k < 4) : (cells4 t)[k]? = some (.string (t k)) := by
  rcases (by omega : k = 0 ∨ k = 1 ∨ k = 2 ∨ k = 3) with rfl | rfl | rfl | rfl <;> rfl
def upd (t : Nat → ByteArray) (k : Nat) (s : ByteArray) : Nat → ByteArray := fun i => if i = k then s else t i
theorem cells4_set (t : Nat → ByteArray) {k : Nat} (hk : k < 4) (s : ByteArray) : (cells4 t).setIfInBounds k (.string s) = cells4 (upd t k s) := by
  rcases (by omega : k = 0 ∨ k = 1 ∨ k = 2 ∨ k = 3) with rfl | rfl | rfl | rfl <;> rfl
theorem lasts_laid {d : Dk} {t : Nat → ByteArray} (h : Lasts d t) (b : Nat) (s : ByteArray) : Lasts (laid d b s.data.toList) (upd t b s) := by
  intro b' hb'
  unfold upd
  rw [see_laid]
  by_cases e : b' = b
  · subst e; rw [if_pos rfl, if_pos rfl]; exact .inr (text_back s).symm
  · rw [if_neg e, if_neg (fun e' => e e'.symm)]; exact h b' hb'
theorem lasts_settle {d : Dk} {t : Nat → ByteArray} (h : Lasts d t) (l : Live d) : Lasts (settleR d d.line.length) t := by
  intro b hb
  rw [see_settle b (by rw [l.four.n]; exact hb)]
  exact h b hb
/-- What the law's loop hands on. -/
def Inv (fn : Nat → Cmd) (B LB g na : Nat) (w : World) (j : Nat) (wr : World) : Prop :=
  ∃ (d : Dk) (t : Nat → ByteArray), Live d ∧ d.exts.length ≤ j + 1 ∧ d.line.length ≤ j ∧ Lasts d t ∧ OwnX B (fun k => k = LB) wr g d ∧ Blk wr LB 54 (cells4 t) ∧ Below B w wr
theorem Inv.next {fn : Nat → Cmd} {B LB g na : Nat} {w wr : World} {j : Nat} {d : Dk} {t : Nat → ByteArray} (h1 : Live d) (h2 : d.exts.length ≤ j + 1 + 1) (h3 : d.line.length ≤ j + 1) (h4 : Lasts d t) (h5 : OwnX B (fun k => k = LB) wr g d) (h6 : Blk wr LB 54 (cells4 t)) (h7 : Below B w wr) : Inv fn B LB g na w (j + 1) wr := ⟨d, t, h1, h2, h3, h4, h5, h6, h7⟩
theorem do_read {d : Dk} (h : Live d) (a b : Int) (s : ByteArray) : doD d ⟨1, 1, a, b, s⟩ = (d, (readR d 1 a).1, (readR d 1 a).2) := rfl
theorem do_write {d : Dk} (h : Live d) (a b : Int) (s : ByteArray) : doD d ⟨2, 1, a, b, s⟩ = ((writeR d 1 a s.data.toList).1, [], (writeR d 1 a s.data.toList).2) := rfl
theorem do_sync {d : Dk} (h : Live d) (a b : Int) (s : ByteArray) : doD d ⟨3, 1, a, b, s⟩ = (settleR d d.line.length, [], 0) := by
  show ((syncR d).1, ([] : List UInt8), (syncR d).2) = _
  unfold syncR
  rw [if_pos h.on]
theorem r_in {d : Dk} (h : Live d) {k : Nat} (hk : k < 4) : readR d 1 (k : Int) = (see d k, 0) := by
  unfold readR
  rw [if_pos (h.four.ask h.on hk), Int.toNat_natCast]
theorem r_out {d : Dk} (h : Live d) {a : Int} (ha : a < 0 ∨ 4 ≤ a) : readR d 1 a = ([], 31) := by
  unfold readR
  rw [h.four.out h.on ha]; rfl
theorem w_in {d : Dk} (h : Live d) {k : Nat} (hk : k < 4) {s : List UInt8} (hs : s.length = 256) : writeR d 1 (k : Int) s = (laid d k s, 0) := by
  unfold writeR
  rw [if_pos (h.four.ask h.on hk), if_pos hs, if_neg (by rw [h.arm]; decide), Int.toNat_natCast]
theorem w_bad {d : Dk} (h : Live d) {k : Nat} (hk : k < 4) {s : List UInt8} (hs : s.length ≠ 256) : writeR d 1 (k : Int) s = (d, 1) := by
  unfold writeR
  rw [if_pos (h.four.ask h.on hk), if_neg hs]
theorem w_out {d : Dk} (h : Live d) {a : Int} (ha : a < 0 ∨ 4 ≤ a) (s : List UInt8) : writeR d 1 a s = (d, 31) := by
  unfold writeR
  rw [h.four.out h.on ha]; rfl
theorem full_text {T : ByteArray} (h : ¬ T = ⟨#[]⟩) : T.toList.isEmpty = false ∧ ¬ T.toList = [] := by
  have h2 : ¬ T.toList = [] := by
    intro e
    rw [ByteArray.toList_eq] at e
    apply h
    rw [← text_back T, e]
  refine ⟨?_, h2⟩
  cases hT : T.toList with
  | nil => exact absurd hT h2
  | cons _ _ => rfl
theorem laid_sizes (d : Dk) (b : Nat) (s : List UInt8) : (laid d b s).exts.length = d.exts.length ∧ (laid d b s).line.length = d.line.length + 1 := ⟨rfl, by simp [laid]⟩

set_option maxRecDepth 100000 in
set_option maxHeartbeats 4000000 in
theorem walk (w : World) (Aa : Option Addr) (na ca : Nat) (fn : Nat → Cmd) (ha : Acts w Aa na fn) :
    Calls Try.prog 7 #[.slice Aa na ca] w fun e w' => e = .returned (.bool true) ∧ Below w.heap.size w w' := by
  have HA := Lib.hid ha
  clear ha
  by_cases hfar : isFar na fn
  · have FAR := Lib.hid (fun W A n c fn (h : Acts W A n fn) (hf : isFar n fn) => far_any W A n c fn h true (by simp [hf]))
    have HF := Lib.hid hfar
    clear hfar
    go_enter Try.func7, Try.ntmps7
    go_wp2_with fail
    refine (alive_any _).mono ?_; rintro e w0 ⟨rfl, b0⟩
    have B0 := Lib.hid b0
    have hw0 : w.heap.size ≤ w0.heap.size := b0.size
    clear b0
    go_wp2_with fail
    refine (FAR.out _ _ _ _ _ (HA.out.older (older_below B0.out)) HF.out).mono ?_; rintro e w2 ⟨rfl, rfl⟩
    go_wp2
    go_ret
    exact ⟨rfl, B0.out⟩
  · have FAR := Lib.hid (fun W A n c fn (h : Acts W A n fn) (hf : ¬ isFar n fn) => far_any W A n c fn h false (by simp [hf]))
    have HF := Lib.hid hfar
    have hna : na ≤ 100 := by
      by_cases h : na ≤ 100
      · exact h
      · exact absurd (.inl (by omega)) hfar
    have HSZ := Lib.hid (fun i (hi : i < na) => show (fn i).s.size ≤ 1000 by
      by_cases h : (fn i).s.size ≤ 1000
      · exact h
      · exact absurd (.inr ⟨i, hi, by omega⟩) hfar)
    clear hfar
    have NEW := Lib.hid (fun w => own_new 4 (by decide) (by decide) w)
    have GR := Lib.hid (fun (W : World) (B g : Nat) (h : Own B W g (newD 4)) => by
      have := own_grant h 1 0 4 (by omega) (by decide)
      rw [four0_grant] at this; exact this)
    go_enter Try.func7, Try.ntmps7
    go_wp2_with fail
    refine (alive_any _).mono ?_; rintro e w0 ⟨rfl, b0⟩
    have B0 := Lib.hid b0
    have hw0 : w.heap.size ≤ w0.heap.size := b0.size
    clear b0
    go_wp2_with fail
    refine (FAR.out _ _ _ _ _ (HA.out.older (older_below B0.out)) HF.out).mono ?_; rintro e w2 ⟨rfl, rfl⟩
    go_wp2_with fail
    refine (NEW.out _).mono ?_; rintro e w1 ⟨rfl, t1, b1, -⟩
    have T1 := Lib.hid t1
    have B1 := Lib.hid (B0.out.trans (b1.mono hw0))
    clear t1 b1
    go_wp2_with fail
    refine (GR.out _ _ _ T1.out).mono ?_; rintro e w3 ⟨rfl, t3, b3⟩
    have T3 := Lib.hid t3
    have B3 := Lib.hid (B1.out.trans (b3.mono hw0))
    have hl3 : w2.heap.size ≤ w3.heap.size := t3.lt
    clear t3 b3 T1 B1
    have INI : Hid (Inv fn w.heap.size w3.heap.size (w2.heap.size + 1) na w 0 (w3.alloc (.cells #[.string ⟨#[]⟩, .string ⟨#[]⟩, .string ⟨#[]⟩, .string ⟨#[]⟩] 54))) := Lib.hid (by
      have hx : OwnX w.heap.size (fun k => k = w3.heap.size) (w3.alloc (.cells #[.string ⟨#[]⟩, .string ⟨#[]⟩, .string ⟨#[]⟩, .string ⟨#[]⟩] 54)) (w2.heap.size + 1) four0 := by
        obtain ⟨F, hd, hF⟩ := T3.out.ex
        exact ((OwnX.of (Own.of hd (fun k hk => Nat.le_trans hw0 (hF k hk)) (Nat.le_trans hw0 hl3))).more _).less (fun i hi => .inr hi)
      exact ⟨four0, fun _ => ⟨#[]⟩, live0, by rw [four0_exts]; omega, by rw [four0_line]; exact Nat.le_refl _, fun b hb => .inl rfl, hx, Blk.new w3 _ _, B3.out.trans (((Below.refl _ w3).alloc (Nat.le_refl _) _).mono (Nat.le_trans hw0 hl3))⟩)
    generalize hgs : w2.heap.size = gs at *
    generalize hlb : w3.heap.size = LB at *
    clear hgs B0 FAR HF NEW GR T3 B3
    go_wp2
    go_loopw [6] (fun i wr => ∃ (j : Nat), j ≤ na ∧ i = .int .i64 (j : Int) ∧ Inv fn w.heap.size LB (gs + 1) na w j wr) (fun i _ => na - (intOf i).toNat)
    case atStart => exact ⟨0, Nat.zero_le _, rfl, INI.out⟩
    case round =>
      clear INI hlb
      obtain ⟨j, hj, rfl, d, t, hl, he, hline, hlast, hX, hT, hbel⟩ := hrel
      have LV := Lib.hid hl
      have LA := Lib.hid hlast
      have HX := Lib.hid hX
      have HT := Lib.hid hT
      have HB := Lib.hid hbel
      have hgsz : w.heap.size ≤ wr.heap.size := hX.lt
      have hLB : LB < wr.heap.size := hX.xl LB rfl
      clear hl hlast hX hT hbel
      by_cases hlt : j < na
      · have hlt' : (j : Int) < na := by omega
        have j0 : (0 : Int) ≤ j := by omega
        have xj := IntWalk.i64_in ((j : Int) + 1) (by omega)
        obtain ⟨bb, o, rfl, hbl, hr, ok⟩ := HA.out.older (older_below HB.out) j hlt
        have hss := HSZ.out j hlt
        generalize fn j = act at *
        obtain ⟨kind, env, a, b, s⟩ := act
        have hr' : wr.rangeAt bb (o + j * 5) [.int .i64 kind, .int .i64 env, .int .i64 a, .int .i64 b, .string s] := hr
        have LD := Lib.hid hr'
        have WA := Lib.hid ok.a
        have SS := Lib.hid (show s.size ≤ 1000 from hss)
        clear hr hr' ok hss
        have hq := Blk.new wr 34 #[.int .i64 kind, .int .i64 1, .int .i64 a, .int .i64 b, .string s]
        have HQ := Lib.hid hq
        have LQ := Lib.hid (act_range hq)
        have hX1 := (HX.out.more (.cells #[.int .i64 kind, .int .i64 1, .int .i64 a, .int .i64 b, .string s] 34))
        have HX1 := Lib.hid hX1
        have HT1 := Lib.hid (HT.out.alloc (.cells #[.int .i64 kind, .int .i64 1, .int .i64 a, .int .i64 b, .string s] 34))
        have HB1 := Lib.hid (HB.out.trans (((Below.refl _ wr).alloc (Nat.le_refl _) (.cells #[.int .i64 kind, .int .i64 1, .int .i64 a, .int .i64 b, .string s] 34)).mono hgsz))
        clear hq hX1
        by_cases k1 : kind < 1
        · have REL := Lib.hid (show Inv fn w.heap.size LB (gs + 1) na w (j + 1) (wr.alloc (.cells #[.int .i64 kind, .int .i64 1, .int .i64 a, .int .i64 b, .string s] 34)) from Inv.next LV.out (by omega) (by omega) LA.out (HX1.out.less (fun i hi => .inl hi)) HT1.out HB1.out)
          go_wp2_with (first
            | (refine wpList_load_mid rfl 34 (.tmp 32) rfl bb (o + j * 5) rfl _ _ LD.out Try.underlying34 rfl act_info ?_)
            | fail)
          go_roundw
          case rel => exact ⟨j + 1, by omega, by simp, REL.out⟩
          case measure => simp [intOf]; omega
        · by_cases k3 : kind > 3
          · have REL := Lib.hid (show Inv fn w.heap.size LB (gs + 1) na w (j + 1) (wr.alloc (.cells #[.int .i64 kind, .int .i64 1, .int .i64 a, .int .i64 b, .string s] 34)) from Inv.next LV.out (by omega) (by omega) LA.out (HX1.out.less (fun i hi => .inl hi)) HT1.out HB1.out)
            go_wp2_with (first
              | (refine wpList_load_mid rfl 34 (.tmp 32) rfl bb (o + j * 5) rfl _ _ LD.out Try.underlying34 rfl act_info ?_)
              | fail)
            go_roundw
            case rel => exact ⟨j + 1, by omega, by simp, REL.out⟩
            case measure => simp [intOf]; omega
          · have hLq : LB ≠ wr.heap.size := by omega
            by_cases q1 : kind = 1
            · subst q1
              clear k1 k3
              by_cases hin : 0 ≤ a ∧ a < 4
              · obtain ⟨k, rfl⟩ : ∃ k : Nat, a = (k : Int) := ⟨a.toNat, by omega⟩
                have hk : k < 4 := by omega
                have hk0 : (0 : Int) ≤ (k : Int) := by omega
                have hk4 : (k : Int) < 4 := by omega
                clear hin
                have DO := Lib.hid (ownx_do HX1.out 1 1 (k : Int) b s WA.out SS.out (by omega) (by omega))
                rw [do_read LV.out] at DO
                rw [r_in LV.out hk] at DO
                by_cases ht : t k = ⟨#[]⟩
                · go_wp2_with (first
                    | (refine wpList_load_mid rfl 34 (.tmp 32) rfl bb (o + j * 5) rfl _ _ LD.out Try.underlying34 rfl act_info ?_)
                    | (refine wpList_load_mid rfl 34 (.tmp 7) rfl wr.heap.size 0 rfl _ _ LQ.out Try.underlying34 rfl act_info ?_)
                    | fail)
                  refine DO.out.mono ?_; rintro e w4 ⟨rfl, hx4, k4⟩
                  have hq4 := HQ.out.chg k4 (fun h => h.2 (Or.inr rfl))
                  obtain ⟨a0, a1, a2, a3, a4⟩ := act_cells hq4
                  have ht4 := HT1.out.chg k4 (fun h => h.2 (Or.inl rfl))
                  have HT4 := Lib.hid ht4
                  have HX4 := Lib.hid hx4
                  have HB4 := Lib.hid (HB1.out.trans (Rest.below k4 (Nat.le_trans hgsz (by simp))))
                  clear hq4 k4 hx4
                  have c6 : w4.cell? ⟨LB, k, none⟩ = some (.string ⟨#[]⟩) := by rw [ht4.cell, cells4_get t hk, ht]
                  clear ht4 ht
                  have REL := Lib.hid (show Inv fn w.heap.size LB (gs + 1) na w (j + 1) (w4) from Inv.next LV.out (by omega) (by omega) LA.out (HX4.out.less (fun i hi => Or.inl hi)) HT4.out HB4.out)
                  go_wp2
                  go_roundw
                  case rel => exact ⟨j + 1, by omega, by simp, REL.out⟩
                  case measure => simp [intOf]; omega
                · have ht' := (LA.out k hk).resolve_left ht
                  obtain ⟨hE, hE2⟩ := full_text ht
                  rw [← ht'] at DO
                  go_wp2_with (first
                    | (refine wpList_load_mid rfl 34 (.tmp 32) rfl bb (o + j * 5) rfl _ _ LD.out Try.underlying34 rfl act_info ?_)
                    | (refine wpList_load_mid rfl 34 (.tmp 7) rfl wr.heap.size 0 rfl _ _ LQ.out Try.underlying34 rfl act_info ?_)
                    | fail)
                  refine DO.out.mono ?_; rintro e w4 ⟨rfl, hx4, k4⟩
                  have hq4 := HQ.out.chg k4 (fun h => h.2 (Or.inr rfl))
                  obtain ⟨a0, a1, a2, a3, a4⟩ := act_cells hq4
                  have ht4 := HT1.out.chg k4 (fun h => h.2 (Or.inl rfl))
                  have HT4 := Lib.hid ht4
                  have HX4 := Lib.hid hx4
                  have HB4 := Lib.hid (HB1.out.trans (Rest.below k4 (Nat.le_trans hgsz (by simp))))
                  clear hq4 k4 hx4
                  have c6 : w4.cell? ⟨LB, k, none⟩ = some (.string (t k)) := by rw [ht4.cell, cells4_get t hk]
                  have REL := Lib.hid (show Inv fn w.heap.size LB (gs + 1) na w (j + 1) (w4) from Inv.next LV.out (by omega) (by omega) LA.out (HX4.out.less (fun i hi => Or.inl hi)) HT4.out HB4.out)
                  generalize t k = T at *
                  clear ht4 ht'
                  go_wp2
                  go_roundw
                  case rel => exact ⟨j + 1, by omega, by simp, REL.out⟩
                  case measure => simp [intOf]; omega
              · have ho : a < 0 ∨ 4 ≤ a := by omega
                clear hin
                have DO := Lib.hid (ownx_do HX1.out 1 1 a b s WA.out SS.out (by omega) (by omega))
                rw [do_read LV.out] at DO
                rw [r_out LV.out ho] at DO
                clear ho
                go_wp2_with (first
                  | (refine wpList_load_mid rfl 34 (.tmp 32) rfl bb (o + j * 5) rfl _ _ LD.out Try.underlying34 rfl act_info ?_)
                  | (refine wpList_load_mid rfl 34 (.tmp 7) rfl wr.heap.size 0 rfl _ _ LQ.out Try.underlying34 rfl act_info ?_)
                  | fail)
                refine DO.out.mono ?_; rintro e w4 ⟨rfl, hx4, k4⟩
                have hq4 := HQ.out.chg k4 (fun h => h.2 (Or.inr rfl))
                obtain ⟨a0, a1, a2, a3, a4⟩ := act_cells hq4
                have ht4 := HT1.out.chg k4 (fun h => h.2 (Or.inl rfl))
                have HT4 := Lib.hid ht4
                have HX4 := Lib.hid hx4
                have HB4 := Lib.hid (HB1.out.trans (Rest.below k4 (Nat.le_trans hgsz (by simp))))
                clear hq4 k4 hx4
                clear ht4
                have REL := Lib.hid (show Inv fn w.heap.size LB (gs + 1) na w (j + 1) (w4) from Inv.next LV.out (by omega) (by omega) LA.out (HX4.out.less (fun i hi => Or.inl hi)) HT4.out HB4.out)
                go_wp2
                go_roundw
                case rel => exact ⟨j + 1, by omega, by simp, REL.out⟩
                case measure => simp [intOf]; omega
            by_cases q2 : kind = 2
            · subst q2
              clear k1 k3 q1
              by_cases hin : 0 ≤ a ∧ a < 4
              · obtain ⟨k, rfl⟩ : ∃ k : Nat, a = (k : Int) := ⟨a.toNat, by omega⟩
                have hk : k < 4 := by omega
                have hk0 : (0 : Int) ≤ (k : Int) := by omega
                have hk4 : (k : Int) < 4 := by omega
                clear hin
                have DO := Lib.hid (ownx_do HX1.out 2 1 (k : Int) b s WA.out SS.out (by omega) (by omega))
                rw [do_write LV.out] at DO
                by_cases hs : s.data.toList.length = 256
                · rw [w_in LV.out hk hs] at DO
                  clear hs
                  go_wp2_with (first
                    | (refine wpList_load_mid rfl 34 (.tmp 32) rfl bb (o + j * 5) rfl _ _ LD.out Try.underlying34 rfl act_info ?_)
                    | (refine wpList_load_mid rfl 34 (.tmp 7) rfl wr.heap.size 0 rfl _ _ LQ.out Try.underlying34 rfl act_info ?_)
                    | fail)
                  refine DO.out.mono ?_; rintro e w4 ⟨rfl, hx4, k4⟩
                  have hq4 := HQ.out.chg k4 (fun h => h.2 (Or.inr rfl))
                  obtain ⟨a0, a1, a2, a3, a4⟩ := act_cells hq4
                  have ht4 := HT1.out.chg k4 (fun h => h.2 (Or.inl rfl))
                  have HT4 := Lib.hid ht4
                  have HX4 := Lib.hid hx4
                  have HB4 := Lib.hid (HB1.out.trans (Rest.below k4 (Nat.le_trans hgsz (by simp))))
                  clear hq4 k4 hx4
                  have c6 : w4.cell? ⟨LB, k, none⟩ = some (.string (t k)) := by rw [ht4.cell, cells4_get t hk]
                  have f6 := ht4.frozen k
                  have ht5 := ht4.put k (.string s)
                  rw [cells4_set t hk s] at ht5
                  have k5 : Chg w4 (w4.setCell ⟨LB, k, none⟩ (.string s)) (fun i => i = LB ∨ i = wr.heap.size) := Chg.set _ _ _ (Or.inl rfl)
                  have HX5 := Lib.hid (HX4.out.grow k5 (fun i hi => Or.inl hi) (fun i hi => by have := HX4.out.xl i hi; simpa [World.setCell] using this))
                  have HB5 := Lib.hid (HB4.out.trans (k5.below HX4.out.lt (fun i hi => by rcases hi with hi | hi <;> omega)))
                  have HT5 := Lib.hid ht5
                  have sz := laid_sizes d k s.data.toList
                  have REL := Lib.hid (show Inv fn w.heap.size LB (gs + 1) na w (j + 1) (w4.setCell ⟨LB, k, none⟩ (.string s)) from Inv.next (LV.out.laid _ _) (by omega) (by omega) (lasts_laid LA.out k s) (HX5.out.less (fun i hi => Or.inl hi)) HT5.out HB5.out)
                  generalize t k = T at *
                  clear ht4 ht5 k5 sz
                  go_wp2
                  go_roundw
                  case rel => exact ⟨j + 1, by omega, by simp, REL.out⟩
                  case measure => simp [intOf]; omega
                · rw [w_bad LV.out hk hs] at DO
                  clear hs
                  go_wp2_with (first
                    | (refine wpList_load_mid rfl 34 (.tmp 32) rfl bb (o + j * 5) rfl _ _ LD.out Try.underlying34 rfl act_info ?_)
                    | (refine wpList_load_mid rfl 34 (.tmp 7) rfl wr.heap.size 0 rfl _ _ LQ.out Try.underlying34 rfl act_info ?_)
                    | fail)
                  refine DO.out.mono ?_; rintro e w4 ⟨rfl, hx4, k4⟩
                  have hq4 := HQ.out.chg k4 (fun h => h.2 (Or.inr rfl))
                  obtain ⟨a0, a1, a2, a3, a4⟩ := act_cells hq4
                  have ht4 := HT1.out.chg k4 (fun h => h.2 (Or.inl rfl))
                  have HT4 := Lib.hid ht4
                  have HX4 := Lib.hid hx4
                  have HB4 := Lib.hid (HB1.out.trans (Rest.below k4 (Nat.le_trans hgsz (by simp))))
                  clear hq4 k4 hx4
                  clear ht4
                  have REL := Lib.hid (show Inv fn w.heap.size LB (gs + 1) na w (j + 1) (w4) from Inv.next LV.out (by omega) (by omega) LA.out (HX4.out.less (fun i hi => Or.inl hi)) HT4.out HB4.out)
                  go_wp2
                  go_roundw
                  case rel => exact ⟨j + 1, by omega, by simp, REL.out⟩
                  case measure => simp [intOf]; omega
              · have ho : a < 0 ∨ 4 ≤ a := by omega
                clear hin
                have DO := Lib.hid (ownx_do HX1.out 2 1 a b s WA.out SS.out (by omega) (by omega))
                rw [do_write LV.out] at DO
                rw [w_out LV.out ho] at DO
                clear ho
                go_wp2_with (first
                  | (refine wpList_load_mid rfl 34 (.tmp 32) rfl bb (o + j * 5) rfl _ _ LD.out Try.underlying34 rfl act_info ?_)
                  | (refine wpList_load_mid rfl 34 (.tmp 7) rfl wr.heap.size 0 rfl _ _ LQ.out Try.underlying34 rfl act_info ?_)
                  | fail)
                refine DO.out.mono ?_; rintro e w4 ⟨rfl, hx4, k4⟩
                have hq4 := HQ.out.chg k4 (fun h => h.2 (Or.inr rfl))
                obtain ⟨a0, a1, a2, a3, a4⟩ := act_cells hq4
                have ht4 := HT1.out.chg k4 (fun h => h.2 (Or.inl rfl))
                have HT4 := Lib.hid ht4
                have HX4 := Lib.hid hx4
                have HB4 := Lib.hid (HB1.out.trans (Rest.below k4 (Nat.le_trans hgsz (by simp))))
                clear hq4 k4 hx4
                clear ht4
                have REL := Lib.hid (show Inv fn w.heap.size LB (gs + 1) na w (j + 1) (w4) from Inv.next LV.out (by omega) (by omega) LA.out (HX4.out.less (fun i hi => Or.inl hi)) HT4.out HB4.out)
                go_wp2
                go_roundw
                case rel => exact ⟨j + 1, by omega, by simp, REL.out⟩
                case measure => simp [intOf]; omega
            obtain rfl : kind = 3 := by omega
            clear k1 k3 q1 q2
            have DO := Lib.hid (ownx_do HX1.out 3 1 a b s WA.out SS.out (by omega) (by omega))
            rw [do_sync LV.out] at DO
            go_wp2_with (first
              | (refine wpList_load_mid rfl 34 (.tmp 32) rfl bb (o + j * 5) rfl _ _ LD.out Try.underlying34 rfl act_info ?_)
              | (refine wpList_load_mid rfl 34 (.tmp 7) rfl wr.heap.size 0 rfl _ _ LQ.out Try.underlying34 rfl act_info ?_)
              | fail)
            refine DO.out.mono ?_; rintro e w4 ⟨rfl, hx4, k4⟩
            have hq4 := HQ.out.chg k4 (fun h => h.2 (Or.inr rfl))
            obtain ⟨a0, a1, a2, a3, a4⟩ := act_cells hq4
            have ht4 := HT1.out.chg k4 (fun h => h.2 (Or.inl rfl))
            have HT4 := Lib.hid ht4
            have HX4 := Lib.hid hx4
            have HB4 := Lib.hid (HB1.out.trans (Rest.below k4 (Nat.le_trans hgsz (by simp))))
            clear hq4 k4 hx4
            clear ht4
            have REL := Lib.hid (show Inv fn w.heap.size LB (gs + 1) na w (j + 1) (w4) from Inv.next (LV.out.settle _) (by show d.exts.length ≤ _; omega) (by show (0 : Nat) ≤ _; omega) (lasts_settle LA.out LV.out) (HX4.out.less (fun i hi => Or.inl hi)) HT4.out HB4.out)
            go_wp2
            go_roundw
            case rel => exact ⟨j + 1, by omega, by simp, REL.out⟩
            case measure => simp [intOf]; omega
      · have hge : ¬ (j : Int) < na := by omega
        go_wp2
        go_loopw [10] (fun i wq => ∃ (k : Nat), k ≤ 4 ∧ i = .int .i64 (k : Int) ∧ OwnX w.heap.size (fun k => k = LB) wq (gs + 1) d ∧ Blk wq LB 54 (cells4 t) ∧ Below w.heap.size w wq) (fun i _ => 4 - (intOf i).toNat)
        case atStart => exact ⟨0, Nat.zero_le _, rfl, HX.out, HT.out, HB.out⟩
        case round =>
          obtain ⟨k, hk, rfl, hX, hT, hbel⟩ := hrel
          have HX2 := Lib.hid hX
          have HT2 := Lib.hid hT
          have HB2 := Lib.hid hbel
          have hq2 := hX.lt
          clear hX hT hbel
          by_cases hk4 : k < 4
          · have k0 : (0 : Int) ≤ (k : Int) := by omega
            have k4 : (k : Int) < 4 := by omega
            have xk := IntWalk.i64_in ((k : Int) + 1) (by omega)
            have RD := Lib.hid (ownx_read HX2.out 1 (k : Int))
            rw [r_in LV.out hk4] at RD
            by_cases ht : t k = ⟨#[]⟩
            · go_wp2_with fail
              refine RD.out.mono ?_; rintro e w5 ⟨A5, c5, rfl, s5, b5⟩
              have HX5 := Lib.hid (HX2.out.new b5)
              have ht5 := HT2.out.older (older_below b5)
              have c6 : w5.cell? ⟨LB, k, none⟩ = some (.string ⟨#[]⟩) := by rw [ht5.cell, cells4_get t hk4, ht]
              have HT5 := Lib.hid ht5
              have HB5 := Lib.hid (HB2.out.trans (b5.mono hq2))
              have tl := fun n => told_str (s5.drewN n)
              clear ht5 ht s5 b5
              go_wp2_with fail
              go_quiet (fail)
              go_wp2
              go_roundw
              case rel => exact ⟨k + 1, by omega, by simp, HX5.out.drewN _, HT5.out.drewN _, below_drewN HB5.out _⟩
              case measure => simp [intOf]; omega
            · have ht' := (LA.out k hk4).resolve_left ht
              obtain ⟨hE, hE2⟩ := full_text ht
              go_wp2_with fail
              refine RD.out.mono ?_; rintro e w5 ⟨A5, c5, rfl, s5, b5⟩
              have HX5 := Lib.hid (HX2.out.new b5)
              have ht5 := HT2.out.older (older_below b5)
              have c6 : w5.cell? ⟨LB, k, none⟩ = some (.string (t k)) := by rw [ht5.cell, cells4_get t hk4]
              have HT5 := Lib.hid ht5
              have HB5 := Lib.hid (HB2.out.trans (b5.mono hq2))
              have tl := fun n => told_str (s5.drewN n)
              rw [← ht'] at tl
              generalize t k = T at *
              clear ht5 ht' s5 b5
              go_wp2_with fail
              go_quiet (fail)
              go_wp2
              go_roundw
              case rel => exact ⟨k + 1, by omega, by simp, HX5.out.drewN _, HT5.out.drewN _, below_drewN HB5.out _⟩
              case measure => simp [intOf]; omega
          · have hge4 : ¬ (k : Int) < 4 := by omega
            go_wp2
            go_ret
            exact ⟨rfl, HB2.out⟩

set_option maxRecDepth 100000 in
theorem lifted (os : Os) (started : os.Started) (H : Type) (enc : TypeId × Value → H) :
    ReturnsInHanded {} Try.checked os 7 .any (Rows.diskSeesSpec.pre6 enc Try.prog Try.f7 Rows.diskSeesRow.domain false) (Rows.diskSeesSpec.post enc Try.prog Try.f7 false true false false) := by
  refine returnsInHanded_of_change (C := Try.checked) own started (by kernel_rfl) Try.func7
    (ChangeSpec.witness6 (enc := enc) (C := Try.checked) false ⟨#[], #[.slice none 0 0], []⟩ 8 (by kernel_rfl) (by kernel_rfl) (by kernel_rfl) (by kernel_rfl)) ?_
  intro W base args ds gs before hval0 hW hcnd _
  have hval : ∀ (j : Nat) t v, Try.f7.params[j]? = some t → args[j]? = some v → Value.okWide Try.prog W .any base t v := hval0
  have hW' := hW
  obtain ⟨p, q, hA0, hV, rfl, hfz, hnd⟩ := hW
  have hA : DataW.TrodAll enc Try.prog W 0 (fun _ => true) true Try.f7.params.toList args.toList ds p := hA0
  rw [Try.params7] at hA hval
  obtain ⟨v0, vs0, d0, ds0, p0, q0, hargs, rfl, rfl, h0, r0⟩ := trodAll_cons hA
  obtain ⟨rfl, rfl, rfl⟩ := trodAll_nil r0
  obtain rfl : args = #[v0] := by cases args; simp_all
  obtain ⟨A0, n0, c0, f0, rfl, b0⟩ := open_acts Try.underlying22 Try.underlying34 (by kernel_rfl) rfl rfl rfl rfl rfl (by kernel_rfl) (by kernel_rfl) (by kernel_rfl) (by kernel_rfl) (by kernel_rfl) Try.underlying3 Try.underlying3 Try.underlying3 Try.underlying3 Try.underlying9 (hval 0 22 v0 rfl rfl) h0
  clear hA0 hval0
  exact law_close hW' laidOut (by kernel_rfl) rfl Try.underlying4 rfl ⟨rfl, rfl, rfl⟩ (walk W A0 n0 c0 f0 b0)

theorem over : Rows.diskSeesRow.holds Try.pinned (OpenSpec.ofChange Rows.diskSeesSpec) :=
  OpenClaim.holds_of_wide 7 Try.f7 rfl rfl rfl rfl rfl rfl rfl ⟨rfl, rfl, rfl, rfl, rfl⟩ rfl rfl rfl rfl rfl (by kernel_rfl) Try.func7 (by kernel_rfl)
    (of_decide_eq_true (by kernel_rfl)) (by unfold Func.isWrapper; first | (rw [if_pos (by decide +kernel)]; kernel_rfl) | (rw [if_neg (by decide +kernel)]; exact ⟨rfl, rfl⟩))
    (fun os started H enc _ => lifted os started H enc)

theorem proved : Rows.DiskSeesSaid := over

end Go.Proofs.Ytdnlhfoninhcaaa.diskSees
