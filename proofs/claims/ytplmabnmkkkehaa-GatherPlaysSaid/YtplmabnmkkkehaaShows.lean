/- Does a table show what the document's does? Conditions: those that each states. -/
import Derived.Test.YtplmabnmkkkehaaRef05
import Derived.Test.YtplmabnmkkkehaaShow0
import Derived.StillTailTactics
import Derived.Deep.QuietTactic
import Derived.BigQuiet
namespace Go.Proofs.Ytplmabnmkkkehaa
open Go.ChangeShapes Go.WideShapes Go.ChangeAt Go.RowKit Go.Deep Fr
set_option linter.unusedVariables false

section
variable {gs g : Nat} {ps : List Pg} {w : World}
theorem read_all {k : Nat} (hk : k < ps.length) (ht : ps[k].text.length = 256) (h2 : ps[k].owner ≤ 2) (h0 : ps[k].owner ≠ 0) : readR ps (ps[k].owner : Int) (k : Int) 0 256 = (ps[k].text, 0) := by
  have hE : isE (ps[k].owner : Int) := by unfold isE; omega
  have e : ownErr ps (ps[k].owner : Int) (k : Int) = 0 := by
    unfold ownErr
    rw [if_pos ⟨hE, ⟨by omega, by omega⟩⟩, pg_at hk, if_pos rfl]
  unfold readR
  rw [if_pos e, if_pos ⟨by decide, by decide, by decide⟩, pg_at hk]
  show ((ps[k].text.drop 0).take 256, (0 : Int)) = _
  rw [List.drop_zero, List.take_of_length_le (by omega)]
end

set_option maxRecDepth 100000 in
set_option maxHeartbeats 4000000 in
theorem shows_any {gs g gm bo bh bb co ch cb : Nat} {ps : List Pg} {w : World} (hT : Tab w gs g ps) (hR : RefT w gm bo bh bb co ch cb ps) :
    Calls Try.prog 22 #[.pointer (some ⟨g, 0, none⟩), .pointer (some ⟨gm, 0, none⟩)] w fun e w' => e = .returned (.bool true) ∧ Below w.heap.size w w' := by
  have T := Lib.hid hT
  have R := Lib.hid hR
  have c0 := hR.heads.1
  have hlen := hR.len
  have SZ := Lib.hid (fun k => size_any (hT.drewN k))
  have FC := Lib.hid (fun k => freeCount_any (hT.drewN k))
  have RFC := Lib.hid (fun k => rfreeCount_any (hR.drewN k))
  clear hT hR
  go_enter Try.func22, Try.ntmps22
  go_wp2_with fail
  go_quiet (first
    | (go_at_call 41; exact Calls.quiet_of_same (SZ.out _))
    | (go_at_call 42; exact Calls.quiet_of_same (FC.out _))
    | (go_at_call 43; exact Calls.quiet_of_same (RFC.out _)))
  generalize nq = nq1 at *
  clear SZ FC RFC
  go_wp2
  go_loopw [5] (fun i wr => ∃ (j : Nat), j ≤ ps.length ∧ i = .int .i64 (j : Int) ∧ Below w.heap.size w wr) (fun i _ => ps.length - (intOf i).toNat)
  case atStart => exact ⟨0, Nat.zero_le _, rfl, below_drewN (Below.refl _ w) _⟩
  case round =>
    clear c0
    obtain ⟨j, hj, rfl, hbel⟩ := hrel
    have HB := Lib.hid hbel
    have T1 := Lib.hid (T.out.new hbel)
    have R1 := Lib.hid (R.out.new hbel)
    obtain ⟨c0, c1, c2⟩ := R1.out.heads
    have OW := Lib.hid (fun k f => owner_any (T1.out.drewN k) f)
    have HO := Lib.hid (fun k f => holds_any (T1.out.drewN k) f)
    clear hbel
    by_cases hlt : j < ps.length
    · have hlt' : (j : Int) < (ps.length : Int) := by omega
      have j0 : (0 : Int) ≤ (j : Int) := by omega
      have o1 := R1.out.ownC hlt
      have h1 := R1.out.holdC hlt
      have v1 := ownerV_at (ps := ps) hlt
      have v2 := holdsV_at (ps := ps) hlt
      have xj := IntWalk.i64_in ((j : Int) + 1) (by omega)
      have oko := R1.out.at_ hlt
      have rda : ps[j].owner ≠ 0 → _ := read_all hlt oko.t oko.o
      have RDA := Lib.hid rda
      have RD := Lib.hid (fun k => read_any (T1.out.drewN k) (ps[j].owner : Int) (j : Int) 0 256 (by omega))
      have TL := Lib.hid oko.t
      have TXC := Lib.hid (fun (W : World) (hb : Below w.heap.size w W) => (R.out.new hb).textC hlt)
      clear rda oko
      by_cases ho : ps[j].owner = 0
      · rw [ho] at o1 v1
        clear RD RDA TL TXC
        generalize (ps[j].holds : Int) = hv at *
        go_wp2_with fail
        go_quiet (first
          | (go_at_call 38; exact Calls.quiet_of_same (OW.out _ _))
          | (go_at_call 27; exact Calls.quiet_of_same (HO.out _ _)))
        go_wp2
        go_roundw
        case rel => exact ⟨j + 1, by omega, by simp, below_drewN HB.out _⟩
        case measure => simp [intOf]; omega
      · have ho' : ((ps[j].owner : Int) == 0) = false := by simpa using ho
        have hrd := RDA.out ho
        rw [hrd, TL.out] at RD
        clear hrd RDA TL ho
        generalize (ps[j].holds : Int) = hv at *
        generalize (ps[j].owner : Int) = ov at *
        go_wp2_with fail
        go_quiet (first
          | (go_at_call 38; exact Calls.quiet_of_same (OW.out _ _))
          | (go_at_call 27; exact Calls.quiet_of_same (HO.out _ _)))
        generalize nq = nq2 at *
        go_wp2_with fail
        refine (RD.out _).mono ?_; rintro e w3 ⟨A', c', rfl, s3, b3⟩
        have tl := fun k => told_str (s3.drewN k)
        have B3 := Lib.hid ((below_drewN HB.out nq2).trans (b3.mono HB.out.size))
        have c2' := (R.out.new B3.out).heads.2.2
        have tx := TXC.out _ B3.out
        generalize ps[j].text.toArray = pt at *
        clear s3 b3 c0 c1 c2 o1 h1 v1 v2
        go_wp2_with fail
        go_quiet (fail)
        go_wp2
        go_roundw
        case rel => exact ⟨j + 1, by omega, by simp, below_drewN B3.out _⟩
        case measure => simp [intOf]; omega
    · have hge : ¬ (j : Int) < (ps.length : Int) := by omega
      have v1 := ownerV_neg (ps := ps)
      have v2 := holdsV_neg (ps := ps)
      have v3 := ownerV_len (ps := ps)
      go_wp2_with fail
      go_quiet (first
        | (go_at_call 38; exact Calls.quiet_of_same (OW.out _ _))
        | (go_at_call 27; exact Calls.quiet_of_same (HO.out _ _)))
      go_wp2
      go_ret
      exact ⟨rfl, below_drewN HB.out _⟩
end Go.Proofs.Ytplmabnmkkkehaa
