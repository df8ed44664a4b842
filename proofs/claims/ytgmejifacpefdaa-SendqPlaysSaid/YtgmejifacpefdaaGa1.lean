/- Package gather: within, Size. Conditions: those that each states. -/
import Derived.Test.YtgmejifacpefdaaPcs
import Derived.RegionTactic
import Derived.BigRegion
import Derived.WalkMore
import Derived.StillTailTactics
import Derived.Deep.QuietTactic
import Derived.BigQuiet
import Derived.Deep.OwnRows
import Derived.Laws.Tables
namespace Go.Proofs.Ytgmejifacpefdaa
open Go.ChangeShapes Go.WideShapes Go.ChangeAt Go.RowKit Go.Deep
set_option linter.unusedVariables false

theorem pwithin (p : Pc) (hp : p.Ok) (w : World) :
    Calls Try.prog 31 #[.agg #[.int .i64 p.frame, .int .i64 p.off, .int .i64 p.len]] w fun e w' => e = .returned (.bool (decide p.In)) ∧ Below w.heap.size w w' := by
  have b0 := (Below.refl w.heap.size w).alloc (Nat.le_refl _) (.cells #[.int .i64 p.frame, .int .i64 p.off, .int .i64 p.len] 59)
  have B0 := Lib.hid b0
  obtain ⟨o1, o2⟩ := hp.off
  by_cases g1 : p.off ≥ 0
  · by_cases g2 : p.len ≥ 0
    · have x0 : IntKind.i64.wrap (256 - p.off) = 256 - p.off := IntWalk.i64_in _ (by omega)
      by_cases g3 : p.len ≤ 256 - p.off
      · have e : decide p.In = true := decide_eq_true (by unfold Pc.In; omega)
        rw [e]
        clear b0 e o1 o2 hp
        go_enter Try.func31, Try.ntmps31
        go_wp2
        go_ret
        exact ⟨rfl, B0.out⟩
      · have e : decide p.In = false := decide_eq_false (by unfold Pc.In; omega)
        rw [e]
        clear b0 e o1 o2 hp
        go_enter Try.func31, Try.ntmps31
        go_wp2
        go_ret
        exact ⟨rfl, B0.out⟩
    · have e : decide p.In = false := decide_eq_false (by unfold Pc.In; omega)
      rw [e]
      clear b0 e o1 o2 hp
      go_enter Try.func31, Try.ntmps31
      go_wp2
      go_ret
      exact ⟨rfl, B0.out⟩
  · have e : decide p.In = false := decide_eq_false (by unfold Pc.In; omega)
    rw [e]
    clear b0 e o1 o2 hp
    go_enter Try.func31, Try.ntmps31
    go_wp2
    go_ret
    exact ⟨rfl, B0.out⟩

theorem piece_info : (Try.prog.info? 59).map (·.size) = some 3 := by kernel_rfl
theorem sizeR_succ {l : List Pc} {j : Nat} (hj : j < l.length) : sizeR (l.take (j + 1)) = sizeR (l.take j) + min (max l[j].len 0) (1048576 - sizeR (l.take j)) := by
  unfold sizeR
  rw [total_take_succ hj]
  split <;> split <;> omega
theorem sizeR_ends (l : List Pc) : 0 ≤ sizeR l ∧ sizeR l ≤ 1048576 := by unfold sizeR; split <;> omega
set_option maxRecDepth 100000 in
set_option maxHeartbeats 2000000 in
theorem size_any (A : Option Addr) (c : Nat) (l : List Pc) (w : World) (hp : Pcs w A l) (hok : ∀ p ∈ l, p.Ok) (hmax : l.length ≤ 1000000) :
    Calls Try.prog 30 #[.slice A l.length c] w fun e w' => e = .returned (.int .i64 (sizeR l)) ∧ Below w.heap.size w w' := by
  have P := Lib.hid hp
  have OK := Lib.hid hok
  have B0 := Lib.hid (Below.refl w.heap.size w)
  clear hp hok
  go_enter Try.func30, Try.ntmps30
  go_wp2
  go_loopw [3, 8] (fun s i wr => ∃ (j : Nat) (q : Int), j ≤ l.length ∧ i = .int .i64 (j : Int) ∧ s = .int .i64 q ∧ Hid (q = sizeR (l.take j)) ∧ Below w.heap.size w wr) (fun _ i _ => l.length - (intOf i).toNat)
  case atStart => exact ⟨0, 0, Nat.zero_le _, rfl, rfl, Lib.hid rfl, B0.out⟩
  case round =>
    clear B0
    obtain ⟨j, q, hj, rfl, rfl, hq, hb⟩ := hrel
    have HB := Lib.hid hb
    have hgs : w.heap.size ≤ wr.heap.size := hb.size
    have P1 := Lib.hid (P.out.new hb)
    clear hb
    by_cases hlt : j < l.length
    · have hlt' : (j : Int) < (l.length : Int) := by omega
      have j0 : (0 : Int) ≤ (j : Int) := by omega
      have xj := IntWalk.i64_in ((j : Int) + 1) (by omega)
      obtain ⟨b, o, rfl, hbl, hr⟩ := P1.out j hlt
      have LD := Lib.hid (show wr.rangeAt b (o + j * 3) [.int .i64 l[j].frame, .int .i64 l[j].off, .int .i64 l[j].len] from hr)
      have hs := sizeR_succ hlt
      obtain ⟨q0, q1⟩ := sizeR_ends (l.take j)
      obtain ⟨q2, q3⟩ := sizeR_ends (l.take (j + 1))
      rw [← hq.out] at hs q0 q1
      have HS := Lib.hid hs
      have hx1 : IntKind.i64.wrap (1048576 - q) = 1048576 - q := IntWalk.i64_in _ (by omega)
      have hx2 : IntKind.i64.wrap (q + min (max l[j].len 0) (1048576 - q)) = q + min (max l[j].len 0) (1048576 - q) := IntWalk.i64_in _ (by omega)
      generalize l[j].frame = qf at *
      generalize l[j].off = qo at *
      generalize l[j].len = qn at *
      clear hr hs hq
      go_wp2_with (first
        | (refine wpList_load_mid rfl 59 (.tmp 10) rfl b (o + j * 3) rfl _ _ LD.out Try.underlying59 rfl piece_info ?_)
        | fail)
      refine ⟨⟨j + 1, _, by omega, by simp, rfl, Lib.hid ?_, ?_⟩, by simp [intOf]; omega⟩
      · rw [HS.out]
        repeat' split
        all_goals omega
      · exact HB.out.trans (((Below.refl wr.heap.size wr).alloc (Nat.le_refl _) _).mono hgs)
    · have hge : ¬ (j : Int) < (l.length : Int) := by omega
      obtain rfl : j = l.length := by omega
      have e := hq.out
      rw [List.take_length] at e
      have E := Lib.hid e
      clear e hq
      go_wp2
      go_ret
      exact ⟨by rw [E.out]; rfl, HB.out⟩
end Go.Proofs.Ytgmejifacpefdaa
