/- Whatever room and calls come in, 'pantlerlaw04.RingOrder' returns true and leaves them as they were. No condition. -/
import Derived.Test.YtngheacdabjbaaaRingL
import Derived.Test.YtngheacdabjbaaaRingS
import Derived.Deep.RegionWith
import Derived.Deep.RegionHeld3
import Derived.Deep.RegionLaw
import Derived.Deep.DeepCutAuto
import Derived.Deep.CutBlock
import Derived.Deep.QuietTactic
import Derived.BigQuiet
namespace Go.Proofs.Ytngheacdabjbaaa.ringOrder
open Go.ChangeShapes Go.WideShapes Go.ChangeAt Go.RowKit Go.Deep
set_option linter.unusedVariables false


def Apart (A A' : Option Addr) : Prop := ∀ b, A.map (·.block) = some b → A'.map (·.block) = some b → False
theorem Apart.left {A A' A4 : Option Addr} {k : Nat} (h : Apart A A') (hk : ∀ b, A'.map (·.block) = some b → b < k) (hat : A4.map (·.block) = A.map (·.block) ∨ A4.map (·.block) = some (k + 1)) : Apart A4 A' := by
  intro b h1 h2
  rcases hat with e | e
  · exact h b (e ▸ h1) h2
  · rw [e] at h1
    have := hk b h2
    injection h1 with h1
    omega
theorem Apart.symm {A A' : Option Addr} (h : Apart A A') : Apart A' A := fun b h1 h2 => h b h2 h1

/-- The text of two bytes that were just laid. -/
theorem told2 (a b : UInt8) (W : World) : (convert 48 9 (.slice (some ⟨W.heap.size, 0, none⟩) 2 2)).run Try.prog (W.alloc (.cells #[.int .u8 (a.toNat : Int), .int .u8 (b.toNat : Int)] 5)) = .ok (.string ⟨#[a, b]⟩) (W.alloc (.cells #[.int .u8 (a.toNat : Int), .int .u8 (b.toNat : Int)] 5)) :=
  run_convert_bytes_back _ 48 9 5 ⟨W.heap.size, 0, none⟩ 2 [a, b] Try.underlying48 Try.underlying5 Try.underlying9 fun j hj => by
    have ea : (⟨W.heap.size, 0, none⟩ : Addr).add j = ⟨W.heap.size, 0 + j, none⟩ := by unfold Addr.add; split <;> simp_all
    rw [ea, (Blk.new W 5 #[.int .u8 (a.toNat : Int), .int .u8 (b.toNat : Int)]).cell (0 + j)]
    have hj' : j < 2 := hj
    match j, hj' with
    | 0, _ => rfl
    | 1, _ => rfl
theorem u8_of (x : Int) : ∃ a : UInt8, IntKind.u8.wrap x = (a.toNat : Int) := by
  have h : 0 ≤ IntKind.u8.wrap x ∧ IntKind.u8.wrap x < 256 := by
    unfold IntKind.wrap
    simp [IntKind.signed, IntKind.bits]
    omega
  refine ⟨UInt8.ofNat (IntKind.u8.wrap x).toNat, ?_⟩
  simp [UInt8.toNat_ofNat']
  omega

section
variable {gs g rm first : Nat} {W : World}
theorem putS (l : List ByteArray) (x : ByteArray) (h : RingS.Ring W gs g rm first (VS l)) (h1 : l.length < rm) (h2 : first + l.length < 1000000) :
    Calls Try.prog 20 #[.pointer (some ⟨g, 0, none⟩), .string x] W fun e w' => e = .returned (.tuple #[.int .i64 ((first : Int) + (l.length : Int)), .int .i64 0]) ∧ RingS.Ring w' gs g rm first (VS (l ++ [x])) ∧ Chg W w' (fun k => k = gs ∨ k = g) := by
  have e0 : (VS l).length = l.length := by simp [VS]
  have := RingS.put_ok gs g rm first (VS l) x W h (by omega) (by omega)
  have e2 : VS l ++ [.string x] = VS (l ++ [x]) := by simp [VS]
  rw [e0, e2] at this
  exact this
theorem fullS (l : List ByteArray) (x : ByteArray) (h : RingS.Ring W gs g rm first (VS l)) (h1 : l.length = rm) :
    Calls Try.prog 20 #[.pointer (some ⟨g, 0, none⟩), .string x] W fun e w' => e = .returned (.tuple #[.int .i64 0, .int .i64 10]) ∧ ∃ m, w' = W.drewN m :=
  RingS.put_full gs g rm first (VS l) x W h (by simpa [VS] using h1)
theorem takeS (l : List ByteArray) (x : ByteArray) (h : RingS.Ring W gs g rm first (VS (x :: l))) :
    Calls Try.prog 19 #[.pointer (some ⟨g, 0, none⟩)] W fun e w' => e = .returned (.tuple #[.string x, .int .i64 0]) ∧ RingS.Ring w' gs g rm (first + 1) (VS l) ∧ Chg W w' (fun k => k = gs ∨ k = g) :=
  RingS.take_ok gs g rm first (VS l) x W h
theorem lenS (l : List ByteArray) (h : RingS.Ring W gs g rm first (VS l)) :
    Calls Try.prog 21 #[.pointer (some ⟨g, 0, none⟩)] W fun e w' => e = .returned (.int .i64 (l.length : Int)) ∧ ∃ m, w' = W.drewN m := by
  have := RingS.len_any gs g rm first (VS l) W h
  rw [show (VS l).length = l.length by simp [VS]] at this
  exact this
end

set_option maxRecDepth 100000 in
set_option maxHeartbeats 4000000 in
theorem walk (w : World) (room : Int) (wr : (Lit.int .u8 room).wf = true) (Aa : Option Addr) (na ca : Nat) (f : Nat → Int × Int) (ha : Acts w Aa na f) :
    Calls Try.prog 4 #[.int .u8 room, .slice Aa na ca] w fun e w' => e = .returned (.bool true) ∧ Below w.heap.size w w' := by
  obtain ⟨rn, rfl, hrn⟩ := wf_u8 wr
  clear wr
  by_cases hn : na ≤ 300
  · have g2 : ¬ (na : Int) > 300 := by omega
    have HA := Lib.hid ha
    clear ha
    have x0 : IntKind.i64.wrap (rn : Int) = rn := IntWalk.i64_in _ (by omega)
    have x1 : Int.tmod (rn : Int) 32 = ((rn % 32 : Nat) : Int) := by rw [Int.tmod_eq_emod_of_nonneg (by omega)]; omega
    have x3 : IntKind.i64.wrap (1 + ((rn % 32 : Nat) : Int)) = 1 + ((rn % 32 : Nat) : Int) := IntWalk.i64_in _ (by omega)
    obtain ⟨rm, hrm⟩ : ∃ rm, rm = 1 + rn % 32 := ⟨_, rfl⟩
    have k1 : 1 ≤ rm := by omega
    have k2 : rm ≤ 32 := by omega
    have hcast : (1 : Int) + ((rn % 32 : Nat) : Int) = (rm : Int) := by omega
    have new := fun W => RingS.new_ok rm W k1 k2
    rw [← hcast] at new
    have NEW := Lib.hid new
    clear hrm hcast new
    generalize rn % 32 = rx at *
    go_enter Try.func4, Try.ntmps4
    go_wp2_with fail
    refine (alive_any _).mono ?_; rintro e w1 ⟨rfl, b1⟩
    have B1 := Lib.hid b1
    clear b1
    go_wp2_with fail
    refine (NEW.out _).mono ?_; rintro e w2 ⟨rfl, R2, b2, z2⟩
    have hg : w.heap.size ≤ w1.heap.size := B1.out.size
    have kB := Lib.hid (B1.out.trans (b2.mono hg))
    have kA := Lib.hid (show RingS.Ring w2 w1.heap.size (w1.heap.size + 1) rm 0 (VS []) from R2)
    have kR := Lib.hid (show Row w2 (w1.heap.size + 2) 9 none 0 (VS []) from Row.nil _ _ _)
    have hz2 : w1.heap.size + 2 ≤ w2.heap.size := by omega
    generalize hgs : w1.heap.size = gs at *
    clear R2 b2 z2 hgs B1 x0 x1 x3 NEW
    go_wp2
    go_loopw [7, 8, 9] (fun s7 s8 s9 wr => ∃ (j : Nat) (ins outs l : List ByteArray) (Ai Ao : Option Addr) (ci co : Nat), j ≤ na ∧ s7 = .slice Ai ins.length ci ∧ s8 = .slice Ao outs.length co ∧ s9 = .int .i64 (j : Int) ∧ ins.length ≤ j ∧ outs.length + l.length = ins.length ∧ Hid (ins = outs ++ l) ∧ RingS.Ring wr gs (gs + 1) rm outs.length (VS l) ∧ Row wr (gs + 2) 9 Ai ci (VS ins) ∧ Row wr (gs + 2) 9 Ao co (VS outs) ∧ Apart Ai Ao ∧ gs + 2 ≤ wr.heap.size ∧ Below w.heap.size w wr) (fun _ _ i _ => na - (intOf i).toNat)
    case atStart =>
      exact ⟨0, [], [], [], none, none, 0, 0, Nat.zero_le _, rfl, rfl, rfl, by simp, by simp, Lib.hid rfl, kA.out, kR.out, kR.out, (fun b h => by cases h), hz2, kB.out⟩
    case round =>
      clear kA kR kB hz2
      obtain ⟨j, ins, outs, l, Ai, Ao, ci, co, hj, rfl, rfl, rfl, hij, hlen, HIN, hR, hI, hO, hap, hsz, hbel⟩ := hrel
      have HR := Lib.hid hR
      have HI := Lib.hid hI
      have HO := Lib.hid hO
      have HAP := Lib.hid hap
      have HB := Lib.hid hbel
      have hlr : l.length ≤ rm := by simpa [VS] using hR.len
      clear hR hI hO hap hbel
      by_cases hlt : j < na
      · have hlt' : (j : Int) < na := by omega
        have j0 : (0 : Int) ≤ j := by omega
        obtain ⟨b, o, rfl, _, a0, a1⟩ := HA.out.older (older_below HB.out) j hlt
        generalize hfj : f j = act at *
        obtain ⟨kind, x⟩ := act
        simp only at a0 a1
        have HFJ := Lib.hid hfj
        have x2 := IntWalk.i64_in ((j : Int) + 1) (by omega)
        clear hfj
        by_cases q1 : kind = 1
        · subst q1
          cases l with
          | nil =>
            have TK := Lib.hid (RingS.take_empty gs (gs + 1) rm outs.length wr HR.out)
            go_wp2_with fail
            refine TK.out.mono ?_; rintro e w3 ⟨rfl, rfl⟩
            go_wp2
            go_roundw
            case rel => exact ⟨j + 1, ins, outs, [], Ai, Ao, ci, co, by omega, rfl, rfl, by simp, by omega, hlen, HIN, HR.out, HI.out, HO.out, HAP.out, hsz, HB.out⟩
            case measure => simp [intOf]; omega
          | cons s l =>
            rw [List.length_cons] at hlen hlr
            go_wp2_with fail
            refine (takeS l s HR.out).mono ?_; rintro e w3 ⟨rfl, R3, k3⟩
            have HR3 := Lib.hid R3
            have HI3 := Lib.hid (HI.out.away k3 (fun b hb s => by have := (HI.out.blk b hb).1; omega))
            have HO3 := Lib.hid (HO.out.away k3 (fun b hb s => by have := (HO.out.blk b hb).1; omega))
            have HB3 := Lib.hid (HB.out.trans (k3.below (HB.out.size) (fun i hi => by omega)))
            have s3 : gs + 2 ≤ w3.heap.size := Nat.le_trans hsz k3.size
            clear R3 k3 HR HI HO HB a0 a1
            go_wp2_with (at_builtin; refine Hid.out ?_)
            unfold Hid
            refine wpList_append_map Value.string (fun _ => rfl) rfl _ _ rfl Try.underlying45 (.string ⟨#[]⟩) 16 rfl (by decide) RingS.info rfl HO3.out s3 s rfl (by omega) ?_
            intro A4 c4 w4 r4 k4 hat
            have HO4 := Lib.hid r4
            have HI4 := Lib.hid (HI3.out.away k4 (fun b hb s => HAP.out b hb s))
            have HR4 := Lib.hid (HR3.out.chg k4 (fun s => by have := (HO3.out.blk _ s).1; omega) (fun s => by have := (HO3.out.blk _ s).1; omega))
            have HB4 := Lib.hid (HB3.out.trans (k4.below (HB3.out.size) (fun i hi => by have := (HO3.out.blk i hi).1; have := hg; omega)))
            have HAP4 := Lib.hid ((HAP.out.symm.left (fun b hb => (HI3.out.blk b hb).2) hat).symm)
            have s4 : gs + 2 ≤ w4.heap.size := Nat.le_trans s3 k4.size
            clear r4 k4 hat HR3 HI3 HO3 HB3 HAP
            go_wp2
            go_roundw
            case rel => exact ⟨j + 1, ins, outs ++ [s], l, Ai, A4, ci, c4, by omega, rfl, by simp, by simp, by omega, by simp; omega, Lib.hid (by rw [HIN.out]; simp), by simpa using HR4.out, HI4.out, HO4.out, HAP4.out, s4, HB4.out⟩
            case measure => simp [intOf]; omega
        · have q3 : (kind == 1) = false := by simpa using q1
          obtain ⟨ba, hba⟩ := u8_of x
          obtain ⟨bj, hbj⟩ := u8_of (j : Int)
          have TOLD := told2 ba bj wr
          clear q1
          have HR2 := Lib.hid (HR.out.new ((Below.refl _ wr).alloc (Nat.le_refl _) (.cells #[.int .u8 (ba.toNat : Int), .int .u8 (bj.toNat : Int)] 5)))
          have HI2 := Lib.hid (HI.out.new ((Below.refl _ wr).alloc (Nat.le_refl _) (.cells #[.int .u8 (ba.toNat : Int), .int .u8 (bj.toNat : Int)] 5)))
          have HO2 := Lib.hid (HO.out.new ((Below.refl _ wr).alloc (Nat.le_refl _) (.cells #[.int .u8 (ba.toNat : Int), .int .u8 (bj.toNat : Int)] 5)))
          have HB2 := Lib.hid (HB.out.alloc HB.out.size (.cells #[.int .u8 (ba.toNat : Int), .int .u8 (bj.toNat : Int)] 5))
          have s2 : gs + 2 ≤ (wr.alloc (.cells #[.int .u8 (ba.toNat : Int), .int .u8 (bj.toNat : Int)] 5)).heap.size := by simp; omega
          go_upto_region 17 with fail
          generalize (wr.alloc (.cells #[.int .u8 (ba.toNat : Int), .int .u8 (bj.toNat : Int)] 5)) = wr2 at *
          generalize (ByteArray.mk #[ba, bj]) = s at *
          clear TOLD hba hbj HR HI HO HB a0 a1
          by_cases hfree : l.length < rm
          · go_wp2_with fail
            refine (putS l s HR2.out hfree (by omega)).mono ?_; rintro e w3 ⟨rfl, R3, k3⟩
            have HR3 := Lib.hid R3
            have HI3 := Lib.hid (HI2.out.away k3 (fun b hb s => by have := (HI2.out.blk b hb).1; omega))
            have HO3 := Lib.hid (HO2.out.away k3 (fun b hb s => by have := (HO2.out.blk b hb).1; omega))
            have HB3 := Lib.hid (HB2.out.trans (k3.below (HB2.out.size) (fun i hi => by omega)))
            have s3 : gs + 2 ≤ w3.heap.size := Nat.le_trans s2 k3.size
            clear R3 k3 HR2 HI2 HO2 HB2
            go_wp2_with (at_builtin; refine Hid.out ?_)
            unfold Hid
            refine wpList_append_map Value.string (fun _ => rfl) rfl _ _ rfl Try.underlying45 (.string ⟨#[]⟩) 16 rfl (by decide) RingS.info rfl HI3.out s3 s rfl (by omega) ?_
            intro A4 c4 w4 r4 k4 hat
            have HI4 := Lib.hid r4
            have HO4 := Lib.hid (HO3.out.away k4 (fun b hb s => HAP.out b s hb))
            have HR4 := Lib.hid (HR3.out.chg k4 (fun s => by have := (HI3.out.blk _ s).1; omega) (fun s => by have := (HI3.out.blk _ s).1; omega))
            have HB4 := Lib.hid (HB3.out.trans (k4.below (HB3.out.size) (fun i hi => by have := (HI3.out.blk i hi).1; have := hg; omega)))
            have HAP4 := Lib.hid (HAP.out.left (fun b hb => (HO3.out.blk b hb).2) hat)
            have s4 : gs + 2 ≤ w4.heap.size := Nat.le_trans s3 k4.size
            clear r4 k4 hat HR3 HI3 HO3 HB3 HAP
            go_wp2
            go_roundw
            case rel => exact ⟨j + 1, ins ++ [s], outs, l ++ [s], A4, Ao, c4, co, by omega, by simp, rfl, by simp, by simp; omega, by simp; omega, Lib.hid (by rw [HIN.out]; simp), HR4.out, HI4.out, HO4.out, HAP4.out, s4, HB4.out⟩
            case measure => simp [intOf]; omega
          · go_wp2_with fail
            refine (fullS l s HR2.out (by omega)).mono ?_; rintro e w3 ⟨rfl, m3, rfl⟩
            go_wp2
            go_roundw
            case rel => exact ⟨j + 1, ins, outs, l, Ai, Ao, ci, co, by omega, rfl, rfl, by simp, by omega, hlen, HIN, HR2.out.drewN m3, HI2.out.drewN m3, HO2.out.drewN m3, HAP.out, s2, below_drewN HB2.out m3⟩
            case measure => simp [intOf]; omega
      · have hge : ¬ (j : Int) < na := by omega
        have il : ins.length ≤ 300 := by omega
        clear hij hj HA
        go_wp2
        go_loopw [8] (fun s8 wx => ∃ (outs l : List ByteArray) (Ao : Option Addr) (co : Nat), s8 = .slice Ao outs.length co ∧ outs.length + l.length = ins.length ∧ Hid (ins = outs ++ l) ∧ RingS.Ring wx gs (gs + 1) rm outs.length (VS l) ∧ Row wx (gs + 2) 9 Ai ci (VS ins) ∧ Row wx (gs + 2) 9 Ao co (VS outs) ∧ Apart Ai Ao ∧ gs + 2 ≤ wx.heap.size ∧ Below w.heap.size w wx) (fun s8 _ => match s8 with | .slice _ n _ => ins.length - n | _ => 0)
        case atStart => exact ⟨outs, l, Ao, co, rfl, hlen, HIN, HR.out, HI.out, HO.out, HAP.out, hsz, HB.out⟩
        case round =>
          clear HR HI HO HAP HB HIN hlen hlr hsz
          obtain ⟨outs, l, Ao, co, rfl, hlen, HIN, hR, hI, hO, hap, hsz, hbel⟩ := hrel
          have HR := Lib.hid hR
          have HI := Lib.hid hI
          have HO := Lib.hid hO
          have HAP := Lib.hid hap
          have HB := Lib.hid hbel
          clear hR hI hO hap hbel
          cases l with
          | nil =>
            obtain rfl : ins = outs := by rw [HIN.out]; simp
            clear HIN hlen
            have LEN := Lib.hid (lenS [] HR.out)
            go_wp2_with fail
            refine LEN.out.mono ?_; rintro e w6 ⟨rfl, m6, rfl⟩
            go_wp2
            go_loopw [17] (fun s17 wi => ∃ (k m : Nat), k ≤ ins.length ∧ s17 = .int .i64 (k : Int) ∧ Hid (∃ w0, Row w0 (gs + 2) 9 Ai ci (VS ins) ∧ Row w0 (gs + 2) 9 Ao co (VS ins) ∧ Below w.heap.size w w0 ∧ wi = w0.drewN m)) (fun s17 _ => ins.length - (intOf s17).toNat)
            case atStart => exact ⟨0, m6, Nat.zero_le _, rfl, Lib.hid ⟨_, HI.out, HO.out, HB.out, rfl⟩⟩
            case round =>
              clear HR HI HO HAP HB LEN
              obtain ⟨k, m, hk2, rfl, hW⟩ := hrel
              obtain ⟨w0, hI, hO, hB, rfl⟩ := hW.out
              have HB := Lib.hid hB
              clear hW hB
              by_cases hk : k < ins.length
              · have hk' : (k : Int) < (ins.length : Int) := by omega
                have kk0 : (0 : Int) ≤ k := by omega
                have x5 := IntWalk.i64_in ((k : Int) + 1) (by omega)
                obtain ⟨b2, eA, _, _, cc⟩ := hI.cell (j := k) (by simpa [VS] using hk)
                obtain ⟨b3, eA3, _, _, cc3⟩ := hO.cell (j := k) (by simpa [VS] using hk)
                rw [List.getElem_map] at cc cc3
                obtain rfl := eA
                obtain rfl := eA3
                have HI := Lib.hid hI
                have HO := Lib.hid hO
                clear hI hO
                generalize hv : ins[k] = val at *
                clear hv
                go_wp2_with fail
                go_quiet (fail)
                go_wp2
                go_roundw
                case rel => exact ⟨k + 1, _, by omega, by simp, Lib.hid ⟨_, HI.out, HO.out, HB.out, rfl⟩⟩
                case measure => simp [intOf]; omega
              · have hk' : ¬ (k : Int) < (ins.length : Int) := by omega
                clear hI hO
                go_wp2
                go_ret
                exact ⟨rfl, below_drewN HB.out _⟩
          | cons s l =>
            rw [List.length_cons] at hlen
            have LEN := Lib.hid (lenS (s :: l) HR.out)
            have hpos : ((s :: l).length : Int) > 0 := by rw [List.length_cons]; omega
            go_wp2_with fail
            refine LEN.out.mono ?_; rintro e w6 ⟨rfl, m6, rfl⟩
            go_wp2_with fail
            refine (takeS l s (HR.out.drewN m6)).mono ?_; rintro e w3 ⟨rfl, R3, k3⟩
            have k3 := Chg.of_drewN k3
            have HR3 := Lib.hid R3
            have HI3 := Lib.hid (HI.out.away k3 (fun b hb s => by have := (HI.out.blk b hb).1; omega))
            have HO3 := Lib.hid (HO.out.away k3 (fun b hb s => by have := (HO.out.blk b hb).1; omega))
            have HB3 := Lib.hid (HB.out.trans (k3.below (HB.out.size) (fun i hi => by omega)))
            have s3 : gs + 2 ≤ w3.heap.size := Nat.le_trans hsz k3.size
            clear R3 k3 HR HI HO HB LEN
            go_wp2_with (at_builtin; refine Hid.out ?_)
            unfold Hid
            refine wpList_append_map Value.string (fun _ => rfl) rfl _ _ rfl Try.underlying45 (.string ⟨#[]⟩) 16 rfl (by decide) RingS.info rfl HO3.out s3 s rfl (by omega) ?_
            intro A4 c4 w4 r4 k4 hat
            have HO4 := Lib.hid r4
            have HI4 := Lib.hid (HI3.out.away k4 (fun b hb s => HAP.out b hb s))
            have HR4 := Lib.hid (HR3.out.chg k4 (fun s => by have := (HO3.out.blk _ s).1; omega) (fun s => by have := (HO3.out.blk _ s).1; omega))
            have HB4 := Lib.hid (HB3.out.trans (k4.below (HB3.out.size) (fun i hi => by have := (HO3.out.blk i hi).1; have := hg; omega)))
            have HAP4 := Lib.hid ((HAP.out.symm.left (fun b hb => (HI3.out.blk b hb).2) hat).symm)
            have s4 : gs + 2 ≤ w4.heap.size := Nat.le_trans s3 k4.size
            clear r4 k4 hat HR3 HI3 HO3 HB3 HAP
            go_wp2
            go_roundw
            case rel => exact ⟨outs ++ [s], l, A4, c4, by simp, by simp; omega, Lib.hid (by rw [HIN.out]; simp), by simpa using HR4.out, HI4.out, HO4.out, HAP4.out, s4, HB4.out⟩
            case measure => simp; omega
  · have g2 : (na : Int) > 300 := by omega
    clear hn ha
    go_enter Try.func4, Try.ntmps4
    go_wp2_with fail
    refine (alive_any _).mono ?_; rintro e w1 ⟨rfl, b1⟩
    have B1 := Lib.hid b1
    clear b1
    go_wp2
    go_ret
    exact ⟨rfl, B1.out⟩

set_option maxRecDepth 100000 in
theorem lifted (os : Os) (started : os.Started) (H : Type) (enc : TypeId × Value → H) :
    ReturnsInHanded {} Try.checked os 4 .any (Rows.ringOrderSpec.pre6 enc Try.prog Try.f4 Rows.ringOrderRow.domain false) (Rows.ringOrderSpec.post enc Try.prog Try.f4 false true false false) := by
  refine returnsInHanded_of_change (C := Try.checked) own started (by kernel_rfl) Try.func4
    (ChangeSpec.witness6 (enc := enc) (C := Try.checked) false ⟨#[], #[.int .u8 0, .slice none 0 0], []⟩ 8 (by kernel_rfl) (by kernel_rfl) (by kernel_rfl) (by kernel_rfl)) ?_
  intro W base args ds gs before hval0 hW hcnd _
  have hval : ∀ (j : Nat) t v, Try.f4.params[j]? = some t → args[j]? = some v → Value.okWide Try.prog W .any base t v := hval0
  have hW' := hW
  obtain ⟨p, q, hA0, hV, rfl, hfz, hnd⟩ := hW
  have hA : DataW.TrodAll enc Try.prog W 0 (fun _ => true) true Try.f4.params.toList args.toList ds p := hA0
  rw [Try.params4] at hA hval
  obtain ⟨v0, vs0, d0, ds0, p0, q0, hargs, rfl, rfl, h0, r0⟩ := trodAll_cons hA
  obtain ⟨v1, vs1, d1, ds1, p1, q1, rfl, rfl, rfl, h1, r1⟩ := trodAll_cons r0
  obtain ⟨rfl, rfl, rfl⟩ := trodAll_nil r1
  obtain rfl : args = #[v0, v1] := by cases args; simp_all
  obtain ⟨a0, rfl, _, _, w0⟩ := open_int Try.underlying5 (hval 0 5 v0 rfl rfl) h0
  obtain ⟨A1, n1, c1, f1, rfl, b1⟩ := open_acts Try.underlying22 Try.underlying33 (by kernel_rfl) rfl rfl (by kernel_rfl) (by kernel_rfl) Try.underlying3 Try.underlying3 (hval 1 22 v1 rfl rfl) h1
  clear hA0 hval0
  exact law_close hW' laidOut (by kernel_rfl) rfl Try.underlying4 rfl ⟨rfl, rfl, rfl⟩ (walk W a0 w0 A1 n1 c1 f1 b1)

theorem over : Rows.ringOrderRow.holds Try.pinned (OpenSpec.ofChange Rows.ringOrderSpec) :=
  OpenClaim.holds_of_wide 4 Try.f4 rfl rfl rfl rfl rfl rfl rfl ⟨rfl, rfl, rfl, rfl, rfl⟩ rfl rfl rfl rfl rfl (by kernel_rfl) Try.func4 (by kernel_rfl)
    (of_decide_eq_true (by kernel_rfl)) (by unfold Func.isWrapper; first | (rw [if_pos (by decide +kernel)]; kernel_rfl) | (rw [if_neg (by decide +kernel)]; exact ⟨rfl, rfl⟩))
    (fun os started H enc _ => lifted os started H enc)

theorem proved : Rows.RingOrderSaid := over

end Go.Proofs.Ytngheacdabjbaaa.ringOrder
