/- Whatever room and calls come in, 'pantlerlaw04.RingTickets' returns true and leaves them as they were. No condition. -/
import Derived.Test.YtngheacdabjbaaaRingL
import Derived.Deep.RegionWith
import Derived.Deep.RegionHeld3
import Derived.Deep.RegionLaw
import Derived.Deep.DeepCutAuto
import Derived.Deep.CutBlock
import Derived.Deep.QuietTactic
import Derived.BigQuiet
namespace Go.Proofs.Ytngheacdabjbaaa.ringTickets
open Go.ChangeShapes Go.WideShapes Go.ChangeAt Go.RowKit Go.Deep
set_option linter.unusedVariables false


set_option maxRecDepth 100000 in
set_option maxHeartbeats 4000000 in
theorem walk (w : World) (room : Int) (wr : (Lit.int .u8 room).wf = true) (Aa : Option Addr) (na ca : Nat) (f : Nat → Int × Int) (ha : Acts w Aa na f) :
    Calls Try.prog 6 #[.int .u8 room, .slice Aa na ca] w fun e w' => e = .returned (.bool true) ∧ Below w.heap.size w w' := by
  obtain ⟨rn, rfl, hrn⟩ := wf_u8 wr
  clear wr
  by_cases hn : na ≤ 300
  · have g2 : ¬ (na : Int) > 300 := by omega
    have HA := Lib.hid ha
    clear ha
    have x0 : IntKind.i64.wrap (rn : Int) = rn := IntWalk.i64_in _ (by omega)
    have x1 : Int.tmod (rn : Int) 32 = ((rn % 32 : Nat) : Int) := by rw [Int.tmod_eq_emod_of_nonneg (by omega)]; omega
    have x3 : IntKind.i64.wrap (1 + ((rn % 32 : Nat) : Int)) = 1 + ((rn % 32 : Nat) : Int) := IntWalk.i64_in _ (by omega)
    obtain ⟨rm, hrm⟩ : ∃ rm, rm = 1 + rn % 32 := ⟨_, rfl⟩
    have k1 : 1 ≤ rm := by omega
    have k2 : rm ≤ 32 := by omega
    have hcast : (1 : Int) + ((rn % 32 : Nat) : Int) = (rm : Int) := by omega
    have HRM := Lib.hid hcast
    clear hrm hcast
    generalize rn % 32 = rx at *
    go_enter Try.func6, Try.ntmps6
    go_wp2_with fail
    refine (alive_any _).mono ?_; rintro e w1 ⟨rfl, b1⟩
    have B1 := Lib.hid b1
    clear b1
    go_upto_region 6 with fail
    rw [HRM.out]
    clear x0 x1 x3 HRM
    go_wp2_with fail
    refine (RingI.new_ok rm _ k1 k2).mono ?_; rintro e w2 ⟨rfl, R2, b2, z2⟩
    have hg : w.heap.size ≤ w1.heap.size := B1.out.size
    have kB := Lib.hid (B1.out.trans (b2.mono hg))
    have kA := Lib.hid (show RingI.Ring w2 w1.heap.size (w1.heap.size + 1) rm 0 (V []) from R2)
    have kR := Lib.hid (show Row w2 (w1.heap.size + 2) 3 none 0 (V []) from Row.nil _ _ _)
    have hz2 : w1.heap.size + 2 ≤ w2.heap.size := by omega
    generalize hgs : w1.heap.size = gs at *
    clear R2 b2 z2 hgs B1
    go_wp2
    go_loopw [8, 9, 10] (fun s8 s9 s10 wr => ∃ (j taken : Nat) (l : List Int) (A : Option Addr) (c : Nat), j ≤ na ∧ s8 = .slice A l.length c ∧ s9 = .int .i64 (taken : Int) ∧ s10 = .int .i64 (j : Int) ∧ l.length ≤ j ∧ taken ≤ l.length ∧ RingI.Ring wr gs (gs + 1) rm taken (V (l.drop taken)) ∧ Row wr (gs + 2) 3 A c (V l) ∧ gs + 2 ≤ wr.heap.size ∧ Below w.heap.size w wr) (fun _ _ i _ => na - (intOf i).toNat)
    case atStart =>
      exact ⟨0, 0, [], none, 0, Nat.zero_le _, rfl, rfl, rfl, by simp, by simp, kA.out, kR.out, hz2, kB.out⟩
    case round =>
      clear kA kR kB hz2
      obtain ⟨j, taken, l, A, c, hj, rfl, rfl, rfl, hlj, htl, hR, hM, hsz, hbel⟩ := hrel
      have HR := Lib.hid hR
      have HM := Lib.hid hM
      have HB := Lib.hid hbel
      have HLEN := hR.len
      have hlen1 : (V (l.drop taken)).length = l.length - taken := by simp [V]
      rw [hlen1] at HLEN
      clear hR hM hbel hlen1
      by_cases hlt : j < na
      · have hlt' : (j : Int) < na := by omega
        have j0 : (0 : Int) ≤ j := by omega
        obtain ⟨b, o, rfl, _, a0, a1⟩ := HA.out.older (older_below HB.out) j hlt
        generalize hfj : f j = act at *
        obtain ⟨kind, x⟩ := act
        simp only at a0 a1
        have HFJ := Lib.hid hfj
        clear hfj
        go_upto_if 45 with fail
        go_cut [8, 9] (fun s8 s9 wx => ∃ (t' : Nat) (l' : List Int) (A' : Option Addr) (c' : Nat), s8 = .slice A' l'.length c' ∧ s9 = .int .i64 (t' : Int) ∧ l'.length ≤ j + 1 ∧ t' ≤ l'.length ∧ RingI.Ring wx gs (gs + 1) rm t' (V (l'.drop t')) ∧ Row wx (gs + 2) 3 A' c' (V l') ∧ gs + 2 ≤ wx.heap.size ∧ Below w.heap.size w wx)
        case first =>
          by_cases q1 : kind = 1
          · subst q1
            by_cases hfree : taken < l.length
            · go_wp2_with fail
              refine (take_l HR.out hfree).mono ?_; rintro e w3 ⟨rfl, R3, k3⟩
              have HR3 := Lib.hid R3
              have HM3 := Lib.hid (HM.out.away k3 (fun b hb s => by have := (HM.out.blk b hb).1; omega))
              have HB3 := Lib.hid (HB.out.trans (k3.below (HB.out.size) (fun i hi => by omega)))
              have s3 : gs + 2 ≤ w3.heap.size := Nat.le_trans hsz k3.size
              clear R3 k3 HR HM HB a0 a1
              go_wp2_with fail
              go_meet
              exact ⟨taken + 1, l, A, c, rfl, by simp, by omega, hfree, HR3.out, HM3.out, s3, HB3.out⟩
            · go_wp2_with fail
              refine (empty_l HR.out (by omega)).mono ?_; rintro e w3 ⟨rfl, rfl⟩
              go_wp2_with fail
              go_meet
              exact ⟨taken, l, A, c, rfl, rfl, by omega, htl, HR.out, HM.out, hsz, HB.out⟩
          · have q3 : (kind == 1) = false := by simpa using q1
            clear q1
            by_cases hfree : l.length - taken < rm
            · go_wp2_with fail
              refine (put_l x HR.out htl hfree (by omega)).mono ?_; rintro e w3 ⟨rfl, R3, k3⟩
              have HR3 := Lib.hid R3
              have HM3 := Lib.hid (HM.out.away k3 (fun b hb s => by have := (HM.out.blk b hb).1; omega))
              have HB3 := Lib.hid (HB.out.trans (k3.below (HB.out.size) (fun i hi => by omega)))
              have s3 : gs + 2 ≤ w3.heap.size := Nat.le_trans hsz k3.size
              have BEL := HB3.out
              obtain ⟨b', o', e', _, a0, a1⟩ := HA.out.older (older_below HB3.out) j hlt
              cases e'
              rw [HFJ.out] at a0 a1
              simp only at a0 a1
              clear R3 k3 HR HM HB BEL
              go_wp2_with (at_builtin; refine Hid.out ?_)
              unfold Hid
              refine wpList_append_map (Value.int .i64) (fun _ => rfl) rfl _ _ rfl Try.underlying29 (.int .i64 0) 8 rfl (by decide) int_info rfl HM3.out s3 x rfl (by omega) ?_
              intro A4 c4 w4 r4 k4 hat
              have HM4 := Lib.hid r4
              have HR4 := Lib.hid (HR3.out.chg k4 (fun s => by have := (HM3.out.blk _ s).1; omega) (fun s => by have := (HM3.out.blk _ s).1; omega))
              have HB4 := Lib.hid (HB3.out.trans (k4.below (HB3.out.size) (fun i hi => by have := (HM3.out.blk i hi).1; have := hg; omega)))
              have s4 : gs + 2 ≤ w4.heap.size := Nat.le_trans s3 k4.size
              clear r4 k4 hat HR3 HM3 HB3 a0 a1
              go_wp2_with fail
              go_meet
              exact ⟨taken, l ++ [x], A4, c4, by simp, rfl, by simp; omega, by simp; omega, HR4.out, HM4.out, s4, HB4.out⟩
            · go_wp2_with fail
              refine (full_l x HR.out (by omega)).mono ?_; rintro e w3 ⟨rfl, m3, rfl⟩
              go_wp2_with fail
              go_meet
              exact ⟨taken, l, A, c, rfl, rfl, by omega, htl, HR.out.drewN m3, HM.out.drewN m3, hsz, below_drewN HB.out m3⟩
        case rest =>
          obtain ⟨t', l', A', c', rfl, rfl, hl', ht', hR, hM, hsz', hbel⟩ := hcut
          clear HR HM HB hsz HLEN htl hlj a0 a1
          have hq : (V (l'.drop t')).length = l'.length - t' := by simp [V]
          have hqr := hR.len
          have len := fun W hW => RingI.len_any gs (gs + 1) rm t' (V (l'.drop t')) W hW
          have room := fun W hW => RingI.room_any gs (gs + 1) rm t' (V (l'.drop t')) W hW
          have HR5 := Lib.hid hR
          have HM5 := Lib.hid hM
          have HB5 := Lib.hid hbel
          clear hR hM hbel
          generalize hqq : (V (l'.drop t')).length = q at *
          obtain ⟨p, hp⟩ : ∃ p : Int, p = (rm : Int) - (q : Int) := ⟨_, rfl⟩
          rw [← hp] at room
          have LEN := Lib.hid len
          have ROOM := Lib.hid room
          have x0 : IntKind.i64.wrap ((l'.length : Int) - (t' : Int)) = (l'.length : Int) - (t' : Int) := IntWalk.i64_in _ (by omega)
          have x1 : IntKind.i64.wrap ((q : Int) + p) = (q : Int) + p := IntWalk.i64_in _ (by omega)
          have x3 : ((q : Int) + p != (rm : Int)) = false := by simp; omega
          have x4 : ((q : Int) != (l'.length : Int) - (t' : Int)) = false := by simp; omega
          have p0 : 0 ≤ p := by omega
          have p1 : p ≤ 32 := by omega
          clear len room hq hp hqq
          go_wp2_with fail
          refine (LEN.out _ HR5.out).mono ?_; rintro e w6 ⟨rfl, m6, rfl⟩
          go_wp2_with fail
          refine (ROOM.out _ (HR5.out.drewN _)).mono ?_; rintro e w7 ⟨rfl, m7, rfl⟩
          go_wp2_with fail
          refine (LEN.out _ (HR5.out.drewN _)).mono ?_; rintro e w8 ⟨rfl, m8, rfl⟩
          go_wp2_with fail
          have x2 := IntWalk.i64_in ((j : Int) + 1) (by omega)
          go_loopw [15] (fun s15 wi => ∃ (k m : Nat), t' ≤ k ∧ k ≤ l'.length ∧ s15 = .int .i64 (k : Int) ∧ wi = wc.drewN m) (fun s15 _ => l'.length - (intOf s15).toNat)
          case atStart => exact ⟨t', _, Nat.le_refl _, ht', rfl, rfl⟩
          case round =>
            obtain ⟨k, m, hk1, hk2, rfl, rfl⟩ := hrel
            by_cases hk : k < l'.length
            · have hk' : (k : Int) < (l'.length : Int) := by omega
              have kk0 : (0 : Int) ≤ k := by omega
              have x5 := IntWalk.i64_in ((k : Int) + 1) (by omega)
              obtain ⟨b2, eA, _, _, cc⟩ := HM5.out.cell (j := k) (by simpa [V] using hk)
              rw [List.getElem_map] at cc
              obtain rfl := eA
              have AT := Lib.hid (at_l k (HR5.out.drewN m) hk1 hk)
              generalize hv : l'[k] = val at *
              clear hv
              go_wp2_with fail
              refine AT.out.mono ?_; rintro e w9 ⟨rfl, m9, rfl⟩
              go_wp2
              go_roundw
              case rel => exact ⟨k + 1, _, by omega, by omega, by simp, rfl⟩
              case measure => simp [intOf]; omega
            · have hk' : ¬ (k : Int) < (l'.length : Int) := by omega
              clear x0 x1 x3 x4
              go_wp2
              go_roundw
              case rel => exact ⟨j + 1, t', l', A', c', by omega, rfl, rfl, by simp, by omega, ht', HR5.out.drewN _, HM5.out.drewN _, hsz', below_drewN HB5.out _⟩
              case measure => simp [intOf]; omega
      · have hge : ¬ (j : Int) < na := by omega
        go_wp2
        go_ret
        exact ⟨rfl, HB.out⟩
  · have g2 : (na : Int) > 300 := by omega
    clear hn ha
    go_enter Try.func6, Try.ntmps6
    go_wp2_with fail
    refine (alive_any _).mono ?_; rintro e w1 ⟨rfl, b1⟩
    have B1 := Lib.hid b1
    clear b1
    go_wp2
    go_ret
    exact ⟨rfl, B1.out⟩

set_option maxRecDepth 100000 in
theorem lifted (os : Os) (started : os.Started) (H : Type) (enc : TypeId × Value → H) :
    ReturnsInHanded {} Try.checked os 6 .any (Rows.ringTicketsSpec.pre6 enc Try.prog Try.f6 Rows.ringTicketsRow.domain false) (Rows.ringTicketsSpec.post enc Try.prog Try.f6 false true false false) := by
  refine returnsInHanded_of_change (C := Try.checked) own started (by kernel_rfl) Try.func6
    (ChangeSpec.witness6 (enc := enc) (C := Try.checked) false ⟨#[], #[.int .u8 0, .slice none 0 0], []⟩ 8 (by kernel_rfl) (by kernel_rfl) (by kernel_rfl) (by kernel_rfl)) ?_
  intro W base args ds gs before hval0 hW hcnd _
  have hval : ∀ (j : Nat) t v, Try.f6.params[j]? = some t → args[j]? = some v → Value.okWide Try.prog W .any base t v := hval0
  have hW' := hW
  obtain ⟨p, q, hA0, hV, rfl, hfz, hnd⟩ := hW
  have hA : DataW.TrodAll enc Try.prog W 0 (fun _ => true) true Try.f6.params.toList args.toList ds p := hA0
  rw [Try.params6] at hA hval
  obtain ⟨v0, vs0, d0, ds0, p0, q0, hargs, rfl, rfl, h0, r0⟩ := trodAll_cons hA
  obtain ⟨v1, vs1, d1, ds1, p1, q1, rfl, rfl, rfl, h1, r1⟩ := trodAll_cons r0
  obtain ⟨rfl, rfl, rfl⟩ := trodAll_nil r1
  obtain rfl : args = #[v0, v1] := by cases args; simp_all
  obtain ⟨a0, rfl, _, _, w0⟩ := open_int Try.underlying5 (hval 0 5 v0 rfl rfl) h0
  obtain ⟨A1, n1, c1, f1, rfl, b1⟩ := open_acts Try.underlying22 Try.underlying33 (by kernel_rfl) rfl rfl (by kernel_rfl) (by kernel_rfl) Try.underlying3 Try.underlying3 (hval 1 22 v1 rfl rfl) h1
  clear hA0 hval0
  exact law_close hW' laidOut (by kernel_rfl) rfl Try.underlying4 rfl ⟨rfl, rfl, rfl⟩ (walk W a0 w0 A1 n1 c1 f1 b1)

theorem over : Rows.ringTicketsRow.holds Try.pinned (OpenSpec.ofChange Rows.ringTicketsSpec) :=
  OpenClaim.holds_of_wide 6 Try.f6 rfl rfl rfl rfl rfl rfl rfl ⟨rfl, rfl, rfl, rfl, rfl⟩ rfl rfl rfl rfl rfl (by kernel_rfl) Try.func6 (by kernel_rfl)
    (of_decide_eq_true (by kernel_rfl)) (by unfold Func.isWrapper; first | (rw [if_pos (by decide +kernel)]; kernel_rfl) | (rw [if_neg (by decide +kernel)]; exact ⟨rfl, rfl⟩))
    (fun os started H enc _ => lifted os started H enc)

theorem proved : Rows.RingTicketsSaid := over

end Go.Proofs.Ytngheacdabjbaaa.ringTickets
