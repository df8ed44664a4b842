/- Package filter: a number of a packet; how many steps are left out; the document's steps as the program's. Conditions: those that each states. -/
import Derived.Test.YtlilfblnlpjkcaaFlt2
namespace Go.Proofs.Ytlilfblnlpjkcaa
open Go.ChangeShapes Go.WideShapes Go.ChangeAt Go.RowKit Go.Deep
set_option linter.unusedVariables false
theorem left_any (q : Ins) (y : Bool) (w : World) :
    Calls Try.prog 74 #[.agg #[.int .i64 q.code, .int .u32 q.k, .int .i64 q.t, .int .i64 q.f], .bool y] w fun e w' => e = .returned (.int .i64 (if y = true then q.t else q.f)) ∧ Below w.heap.size w w' := by
  have HB := Lib.hid ((Below.refl w.heap.size w).alloc (Nat.le_refl _) (.cells #[.int .i64 q.code, .int .u32 q.k, .int .i64 q.t, .int .i64 q.f] 40))
  obtain ⟨c, k, t, f⟩ := q
  cases y with
  | true =>
    show Calls _ _ _ w fun e w' => e = .returned (.int .i64 t) ∧ _
    go_enter Try.func74, Try.ntmps74
    go_wp2
    go_ret
    exact ⟨rfl, HB.out⟩
  | false =>
    show Calls _ _ _ w fun e w' => e = .returned (.int .i64 f) ∧ _
    go_enter Try.func74, Try.ntmps74
    go_wp2
    go_ret
    exact ⟨rfl, HB.out⟩
theorem joined_snoc (l : List UInt8) (b : UInt8) : joined (l ++ [b]) = bits .or .u32 (joined l * 256 % 4294967296) ((b.toNat : Int) % 4294967296) := by unfold joined; rw [List.foldl_append]; rfl
def Found (o : Option Int) (e : Ending) : Prop := e = .returned (.tuple #[.int .u32 (o.getD 0), .bool o.isSome])
set_option maxRecDepth 100000 in
set_option maxHeartbeats 1000000 in
theorem load_any (A : Option Addr) (c : Nat) (s : List UInt8) (w : World) (hs : Src w A s.length c s) (hmax : s.length ≤ 1000000) (k m : Nat) (hk : k < 4294967296) (hm : 1 ≤ m ∧ m ≤ 4) :
    Calls Try.prog 73 #[.slice A s.length c, .int .u32 (k : Int), .int .i64 (m : Int)] w fun e w' => Found (num s k m) e ∧ w' = w := by
  have hx : (k : Int) + (m : Int) ≤ 18446744073709551615 := by omega
  have k0 : (0 : Int) ≤ (k : Int) := by omega
  by_cases h : k + m ≤ s.length
  · have g1 : ¬ (k : Int) + (m : Int) > (s.length : Int) := by omega
    have e : num s k m = some (joined ((s.drop k).take m)) := by unfold num; rw [if_pos h]
    rw [e]
    clear e
    obtain ⟨b, o, -, rfl, hbl, -⟩ := hs.byte (k := k) (by omega)
    have HC := Lib.hid (fun j (hj : j < m) => show ∃ hl : k + j < s.length, w.cell? ⟨b, o + k + j, none⟩ = some (.int .u8 (s[k + j].toNat : Int)) from by
      obtain ⟨b', o', hl', e, _, hc⟩ := hs.byte (k := k + j) (by omega)
      cases e
      exact ⟨hl', by rw [Nat.add_assoc]; exact hc⟩)
    have hcap := hs.cap
    have hcm := hs.max
    clear hs
    go_enter Try.func73, Try.ntmps73
    go_wp2
    go_loopw [8, 26] (fun n i wr => ∃ (j : Nat), j ≤ m ∧ i = .int .i64 (j : Int) ∧ n = .int .u32 (joined (((s.drop k).take m).take j)) ∧ wr = w) (fun _ i _ => m - (intOf i).toNat)
    case atStart => exact ⟨0, Nat.zero_le _, rfl, rfl, rfl⟩
    case round =>
      obtain ⟨j, hj, rfl, rfl, rfl⟩ := hrel
      by_cases hlt : j < m
      · have hlt' : (j : Int) < (m : Int) := by omega
        have j0 : (0 : Int) ≤ (j : Int) := by omega
        have xj := IntWalk.i64_in ((j : Int) + 1) (by omega)
        obtain ⟨hl, hc⟩ := HC.out j hlt
        have HS := Lib.hid (show joined (((s.drop k).take m).take (j + 1)) = bits .or .u32 (joined (((s.drop k).take m).take j) * 256 % 4294967296) ((s[k + j].toNat : Int) % 4294967296) from by
          rw [← joined_snoc]
          congr 1
          rw [List.take_succ_eq_append_getElem (by simp; omega)]
          congr 2
          simp)
        generalize s[k + j] = by_ at *
        generalize joined (((s.drop k).take m).take j) = x at *
        go_wp2
        go_roundw
        case rel => exact ⟨j + 1, by omega, by simp, by rw [HS.out], by first | rfl | trivial⟩
        case measure => simp [intOf]; omega
      · have hge : ¬ (j : Int) < (m : Int) := by omega
        obtain rfl : j = m := by omega
        have e2 : ((s.drop k).take j).take j = (s.drop k).take j := by rw [List.take_take, Nat.min_self]
        rw [e2]
        clear e2
        go_wp2
        go_ret2
        exact ⟨rfl, rfl⟩
  · have g1 : (k : Int) + (m : Int) > (s.length : Int) := by omega
    have e : num s k m = none := by unfold num; rw [if_neg h]
    rw [e]
    clear e hs
    go_enter Try.func73, Try.ntmps73
    go_wp2
    go_ret2
    exact ⟨rfl, rfl⟩
theorem rop_info : (Try.prog.info? 98).map (·.size) = some 4 := by kernel_rfl
end Go.Proofs.Ytlilfblnlpjkcaa
