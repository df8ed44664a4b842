/- Whatever room and calls come in, 'pantlerlaw04.RingPlays' returns true and leaves them as they were. No condition. -/
import Derived.Test.YtngheacdabjbaaaRef04
import Derived.Deep.RegionWith
import Derived.Deep.RegionHeld3
import Derived.Deep.RegionLaw
import Derived.Deep.DeepCutAuto
import Derived.Deep.CutBlock
import Derived.Deep.QuietTactic
import Derived.BigQuiet
namespace Go.Proofs.Ytngheacdabjbaaa.ringPlays
open Go.ChangeShapes Go.WideShapes Go.ChangeAt Go.RowKit Go.Deep
set_option linter.unusedVariables false


abbrev V (l : List Int) : List Value := l.map (Value.int .i64)
theorem V_one (l : List Int) : ∀ u ∈ V l, u.oneCell' = true := fun u hu => by
  obtain ⟨_, _, rfl⟩ := List.mem_map.1 hu; rfl
theorem V_drop (l : List Int) (k : Nat) : (V l).drop k = V (l.drop k) := by simp [V]
theorem V_get {l : List Int} {k : Nat} (h : k < l.length) : (V l)[k]? = some (.int .i64 l[k]) := by simp [V, List.getElem?_eq_getElem h]

section
variable {gs g rm taken : Nat} {l : List Int} {W : World}
theorem put_l (x : Int) (h : RingI.Ring W gs g rm taken (V (l.drop taken))) (ht : taken ≤ l.length) (h1 : l.length - taken < rm) (h2 : l.length < 1000000) :
    Calls Try.prog 9 #[.pointer (some ⟨g, 0, none⟩), .int .i64 x] W fun e w' => e = .returned (.tuple #[.int .i64 (l.length : Int), .int .i64 0]) ∧ RingI.Ring w' gs g rm taken (V ((l ++ [x]).drop taken)) ∧ Chg W w' (fun k => k = gs ∨ k = g) := by
  have hl : (V (l.drop taken)).length = l.length - taken := by simp [V]
  have := RingI.put_ok gs g rm taken (V (l.drop taken)) x W h (by omega) (by omega)
  have e1 : (taken : Int) + ((V (l.drop taken)).length : Int) = (l.length : Int) := by omega
  have e2 : V (l.drop taken) ++ [.int .i64 x] = V ((l ++ [x]).drop taken) := by rw [List.drop_append_of_le_length ht]; simp [V]
  rw [e1, e2] at this
  exact this
theorem take_l (h : RingI.Ring W gs g rm taken (V (l.drop taken))) (h1 : taken < l.length) :
    Calls Try.prog 11 #[.pointer (some ⟨g, 0, none⟩)] W fun e w' => e = .returned (.tuple #[.int .i64 l[taken], .int .i64 0]) ∧ RingI.Ring w' gs g rm (taken + 1) (V (l.drop (taken + 1))) ∧ Chg W w' (fun k => k = gs ∨ k = g) := by
  have e1 : V (l.drop taken) = .int .i64 l[taken] :: V (l.drop (taken + 1)) := by rw [List.drop_eq_getElem_cons h1]; rfl
  rw [e1] at h
  exact RingI.take_ok gs g rm taken _ _ W h
theorem at_l (t : Nat) (h : RingI.Ring W gs g rm taken (V (l.drop taken))) (h1 : taken ≤ t) (h2 : t < l.length) :
    Calls Try.prog 13 #[.pointer (some ⟨g, 0, none⟩), .int .i64 (t : Int)] W fun e w' => e = .returned (.tuple #[.int .i64 l[t], .int .i64 0]) ∧ ∃ m, w' = W.drewN m := by
  refine RingI.at_ok gs g rm taken _ t _ W h h1 ?_
  have e : t - taken < (l.drop taken).length := by simp; omega
  rw [V_get e]
  simp [show taken + (t - taken) = t by omega]
theorem full_l (x : Int) (h : RingI.Ring W gs g rm taken (V (l.drop taken))) (h1 : l.length - taken = rm) :
    Calls Try.prog 9 #[.pointer (some ⟨g, 0, none⟩), .int .i64 x] W fun e w' => e = .returned (.tuple #[.int .i64 0, .int .i64 10]) ∧ ∃ m, w' = W.drewN m :=
  RingI.put_full gs g rm taken _ x W h (by simp [V]; omega)
theorem empty_l (h : RingI.Ring W gs g rm taken (V (l.drop taken))) (h1 : taken = l.length) :
    Calls Try.prog 11 #[.pointer (some ⟨g, 0, none⟩)] W fun e w' => e = .returned (.tuple #[.int .i64 0, .int .i64 11]) ∧ w' = W := by
  subst h1
  rw [List.drop_length] at h
  exact RingI.take_empty gs g rm _ W h
theorem atNo_l (t : Int) (h : RingI.Ring W gs g rm taken (V (l.drop taken))) (ht : taken ≤ l.length) (h1 : t < (taken : Int) ∨ (l.length : Int) ≤ t) :
    Calls Try.prog 13 #[.pointer (some ⟨g, 0, none⟩), .int .i64 t] W fun e w' => e = .returned (.tuple #[.int .i64 0, .int .i64 11]) ∧ w' = W := by
  have hl : (V (l.drop taken)).length = l.length - taken := by simp [V]
  exact RingI.at_no gs g rm taken _ t W h (by omega)
variable {gm : Nat} {A : Option Addr} {c : Nat}
theorem refPut_l (x : Int) (h : RefAt W gm rm taken A c (V l)) (hr : rm ≤ 32) (hf : l.length - taken < rm) (hl : l.length < 100000) :
    Calls Try.prog 10 #[.pointer (some ⟨gm, 0, none⟩), .int .i64 x] W fun e w' => e = .returned (.tuple #[.int .i64 (l.length : Int), .int .i64 0]) ∧ (∃ A' c', RefAt w' gm rm taken A' c' (V (l ++ [x]))) ∧ Chg W w' (fun k => gm ≤ k) := by
  have := refPut_ok gm rm taken A c (V l) x W h hr (by simpa [V] using hf) (by simpa [V] using hl)
  rw [show V l ++ [.int .i64 x] = V (l ++ [x]) by simp [V], show (V l).length = l.length by simp [V]] at this
  exact this
theorem refFull_l (x : Int) (h : RefAt W gm rm taken A c (V l)) (hr : rm ≤ 32) (hf : l.length - taken = rm) :
    Calls Try.prog 10 #[.pointer (some ⟨gm, 0, none⟩), .int .i64 x] W fun e w' => e = .returned (.tuple #[.int .i64 0, .int .i64 10]) ∧ ∃ m, w' = W.drewN m :=
  refPut_full gm rm taken A c (V l) x W h hr (by simp [V]; omega)
theorem refTake_l (h : RefAt W gm rm taken A c (V l)) (h1 : taken < l.length) :
    Calls Try.prog 12 #[.pointer (some ⟨gm, 0, none⟩)] W fun e w' => e = .returned (.tuple #[.int .i64 l[taken], .int .i64 0]) ∧ RefAt w' gm rm (taken + 1) A c (V l) ∧ Chg W w' (fun k => gm ≤ k) :=
  refTake_ok gm rm taken A c (V l) _ W h (V_get h1)
theorem refEmpty_l (h : RefAt W gm rm taken A c (V l)) (h1 : taken = l.length) :
    Calls Try.prog 12 #[.pointer (some ⟨gm, 0, none⟩)] W fun e w' => e = .returned (.tuple #[.int .i64 0, .int .i64 11]) ∧ ∃ m, w' = W.drewN m := by
  have e : taken = (V l).length := by simpa [V] using h1
  subst e
  exact refTake_empty gm rm A c (V l) W h
theorem refAt_l (t : Nat) (h : RefAt W gm rm taken A c (V l)) (h1 : taken ≤ t) (h2 : t < l.length) :
    Calls Try.prog 14 #[.pointer (some ⟨gm, 0, none⟩), .int .i64 (t : Int)] W fun e w' => e = .returned (.tuple #[.int .i64 l[t], .int .i64 0]) ∧ w' = W :=
  refAt_ok gm rm taken A c (V l) t _ W h h1 (V_get h2)
theorem refNo_l (t : Int) (h : RefAt W gm rm taken A c (V l)) (h1 : t < (taken : Int) ∨ (l.length : Int) ≤ t) :
    Calls Try.prog 14 #[.pointer (some ⟨gm, 0, none⟩), .int .i64 t] W fun e w' => e = .returned (.tuple #[.int .i64 0, .int .i64 11]) ∧ w' = W :=
  refAt_no gm rm taken A c (V l) t W h (by simpa [V] using h1)
end

set_option maxRecDepth 100000 in
set_option maxHeartbeats 4000000 in
theorem walk (w : World) (room : Int) (wr : (Lit.int .i64 room).wf = true) (Aa : Option Addr) (na ca : Nat) (f : Nat → Int × Int) (ha : Acts w Aa na f) :
    Calls Try.prog 3 #[.int .i64 room, .slice Aa na ca] w fun e w' => e = .returned (.bool true) ∧ Below w.heap.size w w' := by
  clear wr
  by_cases hn : na ≤ 300
  · have g2 : ¬ (na : Int) > 300 := by omega
    have HA := Lib.hid ha
    clear ha
    by_cases hr : room < 1 ∨ 32 < room
    · have NEW := Lib.hid (fun W => RingI.new_no room W hr)
      by_cases h1 : room < 1
      · clear hr
        go_enter Try.func3, Try.ntmps3
        go_wp2_with fail
        refine (alive_any _).mono ?_; rintro e w1 ⟨rfl, b1⟩
        have B1 := Lib.hid b1
        clear b1
        go_wp2_with fail
        refine (NEW.out _).mono ?_; rintro e w2 ⟨rfl, rfl⟩
        go_wp2
        go_ret
        exact ⟨rfl, B1.out⟩
      · have h2 : room > 32 := by omega
        clear hr
        go_enter Try.func3, Try.ntmps3
        go_wp2_with fail
        refine (alive_any _).mono ?_; rintro e w1 ⟨rfl, b1⟩
        have B1 := Lib.hid b1
        clear b1
        go_wp2_with fail
        refine (NEW.out _).mono ?_; rintro e w2 ⟨rfl, rfl⟩
        go_wp2
        go_ret
        exact ⟨rfl, B1.out⟩
    · obtain ⟨rm, rfl, k1, k2⟩ : ∃ rm : Nat, room = (rm : Int) ∧ 1 ≤ rm ∧ rm ≤ 32 := ⟨room.toNat, by omega, by omega, by omega⟩
      have r1 : ¬ (rm : Int) < 1 := by omega
      have r2 : ¬ (rm : Int) > 32 := by omega
      clear hr
      go_enter Try.func3, Try.ntmps3
      go_wp2_with fail
      refine (alive_any _).mono ?_; rintro e w1 ⟨rfl, b1⟩
      have B1 := Lib.hid b1
      clear b1
      go_wp2_with fail
      refine (RingI.new_ok rm _ k1 k2).mono ?_; rintro e w2 ⟨rfl, R2, b2, z2⟩
      have hg : w.heap.size ≤ w1.heap.size := B1.out.size
      have B2 := Lib.hid (B1.out.trans (b2.mono hg))
      have kA := Lib.hid (show RingI.Ring (w2.alloc (.cells #[.int .i64 (rm : Int), .slice none 0 0, .int .i64 0] 31)) w1.heap.size (w1.heap.size + 1) rm 0 (V []) from R2.new ((Below.refl _ w2).alloc (Nat.le_refl _) _))
      have kM := Lib.hid (show RefAt (w2.alloc (.cells #[.int .i64 (rm : Int), .slice none 0 0, .int .i64 0] 31)) w2.heap.size rm 0 none 0 (V []) from ⟨Blk.new w2 _ _, Row.nil _ _ _, by simp, by simp, by simp⟩)
      have kB := Lib.hid (B2.out.alloc (Nat.le_trans hg b2.size) (.cells #[.int .i64 (rm : Int), .slice none 0 0, .int .i64 0] 31))
      generalize hgs : w1.heap.size = gs at *
      generalize hgm : w2.heap.size = gm at *
      have hgg : gs + 2 = gm := z2.symm
      have HGM := Lib.hid hgm
      clear R2 b2 z2 hgs B1 B2 hgm
      go_wp2
      rw [HGM.out]
      go_loopw [8] (fun i wr => ∃ (j taken : Nat) (l : List Int) (A : Option Addr) (c : Nat), j ≤ na ∧ i = .int .i64 (j : Int) ∧ l.length ≤ j ∧ taken ≤ l.length ∧ RingI.Ring wr gs (gs + 1) rm taken (V (l.drop taken)) ∧ RefAt wr gm rm taken A c (V l) ∧ Below w.heap.size w wr) (fun i _ => na - (intOf i).toNat)
      case atStart =>
        exact ⟨0, 0, [], none, 0, Nat.zero_le _, rfl, by simp, by simp, kA.out, kM.out, kB.out⟩
      case round =>
        clear kA kM kB HGM
        obtain ⟨j, taken, l, A, c, hj, rfl, hlj, htl, hR, hM, hbel⟩ := hrel
        have HR := Lib.hid hR
        have HM := Lib.hid hM
        have HB := Lib.hid hbel
        have HLEN := hR.len
        have hlen1 : (V (l.drop taken)).length = l.length - taken := by simp [V]
        rw [hlen1] at HLEN
        clear hR hM hbel hlen1
        by_cases hlt : j < na
        · have hlt' : (j : Int) < na := by omega
          have j0 : (0 : Int) ≤ j := by omega
          obtain ⟨b, o, rfl, _, a0, a1⟩ := HA.out.older (older_below HB.out) j hlt
          generalize hfj : f j = act at *
          obtain ⟨kind, x⟩ := act
          simp only at a0 a1
          have HFJ := Lib.hid hfj
          clear hfj
          go_upto_block 2 with fail
          go_cut [9, 10, 11, 12] (fun s9 s10 s11 s12 wx => ∃ (y e : Int) (t' : Nat) (l' : List Int) (A' : Option Addr) (c' : Nat), s9 = .int .i64 y ∧ s10 = .int .i64 y ∧ s11 = .int .i64 e ∧ s12 = .int .i64 e ∧ l'.length ≤ j + 1 ∧ t' ≤ l'.length ∧ RingI.Ring wx gs (gs + 1) rm t' (V (l'.drop t')) ∧ RefAt wx gm rm t' A' c' (V l') ∧ Below w.heap.size w wx)
          case first =>
            by_cases q0 : kind = 0
            · subst q0
              by_cases hfree : l.length - taken < rm
              · go_wp2_with fail
                refine (put_l x HR.out htl hfree (by omega)).mono ?_; rintro e w3 ⟨rfl, R3, k3⟩
                have HR3 := Lib.hid R3
                have HM3 := Lib.hid (HM.out.chg k3 (fun i hi => by omega))
                have HB3 := Lib.hid (HB.out.trans (k3.below (HB.out.size) (fun i hi => by omega)))
                clear R3 k3 HR HM HB a0 a1
                obtain ⟨b', o', e', _, a0, a1⟩ := HA.out.older (older_below HB3.out) j hlt
                cases e'
                rw [HFJ.out] at a0 a1
                simp only at a0 a1
                go_wp2_with fail
                refine (refPut_l x HM3.out k2 hfree (by omega)).mono ?_; rintro e w4 ⟨rfl, ⟨A4, c4, M4⟩, k4⟩
                have HM4 := Lib.hid M4
                have HR4 := Lib.hid (HR3.out.chg k4 (by omega) (by omega))
                have HB4 := Lib.hid (HB3.out.trans (k4.below (HB3.out.size) (fun i hi => by omega)))
                clear M4 k4 HR3 HM3 HB3
                go_wp2_with fail
                go_meet
                exact ⟨(l.length : Int), 0, taken, l ++ [x], A4, c4, rfl, rfl, rfl, rfl, by simp; omega, by simp; omega, HR4.out, HM4.out, HB4.out⟩
              · go_wp2_with fail
                refine (full_l x HR.out (by omega)).mono ?_; rintro e w3 ⟨rfl, m3, rfl⟩
                go_wp2_with fail
                refine (refFull_l x (HM.out.drewN m3) k2 (by omega)).mono ?_; rintro e w4 ⟨rfl, m4, rfl⟩
                go_wp2_with fail
                go_meet
                exact ⟨0, 10, taken, l, A, c, rfl, rfl, rfl, rfl, by omega, htl, (HR.out).drewN (m3 + m4), (HM.out).drewN (m3 + m4), below_drewN (HB.out) (m3 + m4)⟩
            · by_cases q1 : kind = 1
              · subst q1
                by_cases hfree : taken < l.length
                · go_wp2_with fail
                  refine (take_l HR.out hfree).mono ?_; rintro e w3 ⟨rfl, R3, k3⟩
                  have HR3 := Lib.hid R3
                  have HM3 := Lib.hid (HM.out.chg k3 (fun i hi => by omega))
                  have HB3 := Lib.hid (HB.out.trans (k3.below (HB.out.size) (fun i hi => by omega)))
                  clear R3 k3 HR HM HB a0 a1
                  go_wp2_with fail
                  refine (refTake_l HM3.out hfree).mono ?_; rintro e w4 ⟨rfl, M4, k4⟩
                  have HM4 := Lib.hid M4
                  have HR4 := Lib.hid (HR3.out.chg k4 (by omega) (by omega))
                  have HB4 := Lib.hid (HB3.out.trans (k4.below (HB3.out.size) (fun i hi => by omega)))
                  clear M4 k4 HR3 HM3 HB3
                  go_wp2_with fail
                  go_meet
                  exact ⟨l[taken], 0, taken + 1, l, A, c, rfl, rfl, rfl, rfl, by omega, hfree, HR4.out, HM4.out, HB4.out⟩
                · go_wp2_with fail
                  refine (empty_l HR.out (by omega)).mono ?_; rintro e w3 ⟨rfl, rfl⟩
                  go_wp2_with fail
                  refine (refEmpty_l HM.out (by omega)).mono ?_; rintro e w4 ⟨rfl, m4, rfl⟩
                  go_wp2_with fail
                  go_meet
                  exact ⟨0, 11, taken, l, A, c, rfl, rfl, rfl, rfl, by omega, htl, (HR.out).drewN m4, (HM.out).drewN m4, below_drewN (HB.out) m4⟩
              · have q2 : (kind == 0) = false := by simpa using q0
                have q3 : (kind == 1) = false := by simpa using q1
                clear q0 q1
                by_cases hin : (taken : Int) ≤ x ∧ x < (l.length : Int)
                · obtain ⟨t, rfl, ht1, ht2⟩ : ∃ t : Nat, x = (t : Int) ∧ taken ≤ t ∧ t < l.length := ⟨x.toNat, by omega, by omega, by omega⟩
                  clear hin
                  go_wp2_with fail
                  refine (at_l t HR.out ht1 ht2).mono ?_; rintro e w3 ⟨rfl, m3, rfl⟩
                  go_wp2_with fail
                  refine (refAt_l t (HM.out.drewN m3) ht1 ht2).mono ?_; rintro e w4 ⟨rfl, rfl⟩
                  go_wp2_with fail
                  go_meet
                  exact ⟨l[t], 0, taken, l, A, c, rfl, rfl, rfl, rfl, by omega, htl, (HR.out).drewN m3, (HM.out).drewN m3, below_drewN (HB.out) m3⟩
                · have hfree : x < (taken : Int) ∨ (l.length : Int) ≤ x := by omega
                  clear hin
                  go_wp2_with fail
                  refine (atNo_l x HR.out htl hfree).mono ?_; rintro e w3 ⟨rfl, rfl⟩
                  go_wp2_with fail
                  refine (refNo_l x HM.out hfree).mono ?_; rintro e w4 ⟨rfl, rfl⟩
                  go_wp2_with fail
                  go_meet
                  exact ⟨0, 11, taken, l, A, c, rfl, rfl, rfl, rfl, by omega, htl, HR.out, HM.out, HB.out⟩
          case rest =>
            obtain ⟨y, e, t', l', A', c', rfl, rfl, rfl, rfl, hl', ht', hR, hM, hbel⟩ := hcut
            have c1 := hM.head.cell 1
            have c2 := hM.head.cell 2
            simp only [List.getElem?_toArray, List.getElem?_cons_succ, List.getElem?_cons_zero] at c1 c2
            have hN : (V l').length = l'.length := by simp [V]
            rw [hN] at c1
            have hq : (V (l'.drop t')).length = l'.length - t' := by simp [V]
            have hqr := hR.len
            have len := fun k => RingI.len_any gs (gs + 1) rm t' (V (l'.drop t')) (wc.drewN k) (hR.drewN k)
            have room := fun k => RingI.room_any gs (gs + 1) rm t' (V (l'.drop t')) (wc.drewN k) (hR.drewN k)
            have next := fun k => RingI.next_any gs (gs + 1) rm t' (V (l'.drop t')) (wc.drewN k) (hR.drewN k)
            have hnx : (t' : Int) + ((V (l'.drop t')).length : Int) = (l'.length : Int) := by omega
            rw [hnx] at next
            have HR5 := Lib.hid hR
            have HM5 := Lib.hid hM
            have HB5 := Lib.hid hbel
            clear hR hM hbel HR HM HB hnx
            generalize (V (l'.drop t')).length = q at *
            have LEN := Lib.hid len
            have ROOM := Lib.hid room
            have NEXT := Lib.hid next
            have x0 : IntKind.i64.wrap ((l'.length : Int) - (t' : Int)) = (q : Int) := by rw [IntWalk.i64_in _ (by omega)]; omega
            have x1 : IntKind.i64.wrap ((rm : Int) - (q : Int)) = (rm : Int) - (q : Int) := IntWalk.i64_in _ (by omega)
            have x2 := IntWalk.i64_in ((j : Int) + 1) (by omega)
            clear len room next hN hq a0 a1
            go_wp2_with fail
            go_quiet (first
              | (go_at_call 15; exact Calls.quiet_of (LEN.out _))
              | (go_at_call 16; exact Calls.quiet_of (ROOM.out _))
              | (go_at_call 17; exact Calls.quiet_of_same (NEXT.out _)))
            go_wp2
            go_roundw
            case rel => exact ⟨j + 1, t', l', A', c', by omega, by simp, by omega, ht', HR5.out.drewN _, HM5.out.drewN _, below_drewN HB5.out _⟩
            case measure => simp [intOf]; omega
        · have hge : ¬ (j : Int) < na := by omega
          go_wp2
          go_ret
          exact ⟨rfl, HB.out⟩
  · have g2 : (na : Int) > 300 := by omega
    clear hn ha
    go_enter Try.func3, Try.ntmps3
    go_wp2_with fail
    refine (alive_any _).mono ?_; rintro e w1 ⟨rfl, b1⟩
    have B1 := Lib.hid b1
    clear b1
    go_wp2
    go_ret
    exact ⟨rfl, B1.out⟩

set_option maxRecDepth 100000 in
theorem lifted (os : Os) (started : os.Started) (H : Type) (enc : TypeId × Value → H) :
    ReturnsInHanded {} Try.checked os 3 .any (Rows.ringPlaysSpec.pre6 enc Try.prog Try.f3 Rows.ringPlaysRow.domain false) (Rows.ringPlaysSpec.post enc Try.prog Try.f3 false true false false) := by
  refine returnsInHanded_of_change (C := Try.checked) own started (by kernel_rfl) Try.func3
    (ChangeSpec.witness6 (enc := enc) (C := Try.checked) false ⟨#[], #[.int .i64 0, .slice none 0 0], []⟩ 8 (by kernel_rfl) (by kernel_rfl) (by kernel_rfl) (by kernel_rfl)) ?_
  intro W base args ds gs before hval0 hW hcnd _
  have hval : ∀ (j : Nat) t v, Try.f3.params[j]? = some t → args[j]? = some v → Value.okWide Try.prog W .any base t v := hval0
  have hW' := hW
  obtain ⟨p, q, hA0, hV, rfl, hfz, hnd⟩ := hW
  have hA : DataW.TrodAll enc Try.prog W 0 (fun _ => true) true Try.f3.params.toList args.toList ds p := hA0
  rw [Try.params3] at hA hval
  obtain ⟨v0, vs0, d0, ds0, p0, q0, hargs, rfl, rfl, h0, r0⟩ := trodAll_cons hA
  obtain ⟨v1, vs1, d1, ds1, p1, q1, rfl, rfl, rfl, h1, r1⟩ := trodAll_cons r0
  obtain ⟨rfl, rfl, rfl⟩ := trodAll_nil r1
  obtain rfl : args = #[v0, v1] := by cases args; simp_all
  obtain ⟨a0, rfl, _, _, w0⟩ := open_int Try.underlying3 (hval 0 3 v0 rfl rfl) h0
  obtain ⟨A1, n1, c1, f1, rfl, b1⟩ := open_acts Try.underlying22 Try.underlying33 (by kernel_rfl) rfl rfl (by kernel_rfl) (by kernel_rfl) Try.underlying3 Try.underlying3 (hval 1 22 v1 rfl rfl) h1
  clear hA0 hval0
  exact law_close hW' laidOut (by kernel_rfl) rfl Try.underlying4 rfl ⟨rfl, rfl, rfl⟩ (walk W a0 w0 A1 n1 c1 f1 b1)

theorem over : Rows.ringPlaysRow.holds Try.pinned (OpenSpec.ofChange Rows.ringPlaysSpec) :=
  OpenClaim.holds_of_wide 3 Try.f3 rfl rfl rfl rfl rfl rfl rfl ⟨rfl, rfl, rfl, rfl, rfl⟩ rfl rfl rfl rfl rfl (by kernel_rfl) Try.func3 (by kernel_rfl)
    (of_decide_eq_true (by kernel_rfl)) (by unfold Func.isWrapper; first | (rw [if_pos (by decide +kernel)]; kernel_rfl) | (rw [if_neg (by decide +kernel)]; exact ⟨rfl, rfl⟩))
    (fun os started H enc _ => lifted os started H enc)

theorem proved : Rows.RingPlaysSaid := over

end Go.Proofs.Ytngheacdabjbaaa.ringPlays
