/- The document's part of bytes (as in XRef01, under a name of its own: XGaO has an of_any too). Conditions: those that each states. -/
import Derived.Test.YthnpalcjfgbjeaaGreatRef01
import Derived.Test.YthnpalcjfgbjeaaGreatPs3
namespace Go.Proofs.YthnpalcjfgbjeaaGreat.Ps
open Go.ChangeShapes Go.WideShapes Go.ChangeAt Go.RowKit Fl
set_option linter.unusedVariables false

theorem ofB_any (A : Option Addr) (n c : Nat) (l : List UInt8) (w : World) (hb : Bytes w A n c l) (hn : n ≤ 16777216) :
    Calls Tryz.prog 14 #[.slice A n c] w fun e w' => e = .returned (.agg #[.int .i64 (evs l), .int .i64 (ods l)]) ∧ Below w.heap.size w w' := by
  have hlen := hb.len
  go_enter Tryz.func14, Tryz.ntmps14
  go_wp2
  go_loopw [4] (fun i wr => ∃ k : Nat, k ≤ n ∧ i = .int .i64 k ∧ Below w.heap.size w wr ∧ Blk wr w.heap.size 48 #[.int .i64 0, .int .i64 0] ∧ Blk wr (w.heap.size + 1) 48 #[.int .i64 (evs (l.take k)), .int .i64 (ods (l.take k))]) (fun i _ => n - (intOf i).toNat)
  case atStart =>
    refine ⟨0, by omega, rfl, by go_grown, (Blk.new _ _ _).alloc _, ?_⟩
    have := Blk.new (w.alloc (.cells #[.int .i64 0, .int .i64 0] 48)) 48 #[.int .i64 0, .int .i64 0]
    simpa [evs, ods] using this
  case round =>
    obtain ⟨k, hk, rfl, hbel, hb0, hb1⟩ := hrel
    have hsz := hbel.size
    have f0 := hb0.frozen 0
    have f1 := hb0.frozen 1
    have g0 := hb1.frozen 0
    have g1 := hb1.frozen 1
    have d0 := hb0.cell 0
    have d1 := hb0.cell 1
    have c0 := hb1.cell 0
    have c1 := hb1.cell 1
    simp only [List.getElem?_toArray, List.getElem?_cons_zero, List.getElem?_cons_succ] at c0 c1 d0 d1
    have hle := evs_le (l.take k)
    have hll : (l.take k).length ≤ k := List.length_take_le _ _
    by_cases hlt : k < n
    · obtain ⟨b, o, hl0, rfl, hbk, hc0⟩ := (hb.below hbel).byte (k := k) hlt
      have hs := evs_snoc (l := l) (p := k) (by omega)
      have hu := l[k].toNat_lt
      have HT := Lib.hid hs
      clear hs
      by_cases hp : k % 2 = 0
      · have hp1 : (k : Int) % 2 = 0 := by omega
        go_wp2
        go_region
        go_wp2
        go_roundw
        case rel =>
          refine ⟨k + 1, by omega, by go_num, by go_grown, ?_, ?_⟩
          · exact hb0.far (by simp) _
          · have h2 := hb1.put 0 (.int .i64 ((evs (l.take k) : Int) + (l[k].toNat : Int)))
            rw [HT.out.1, HT.out.2, if_pos hp, if_pos hp]
            exact h2
        case measure => simp [intOf]; omega
      · have hp1 : ((k : Int) % 2 == 0) = false := by simp; omega
        go_wp2
        go_region
        go_wp2
        go_roundw
        case rel =>
          refine ⟨k + 1, by omega, by go_num, by go_grown, ?_, ?_⟩
          · exact hb0.far (by simp) _
          · have h2 := hb1.put 1 (.int .i64 ((ods (l.take k) : Int) + (l[k].toNat : Int)))
            rw [HT.out.1, HT.out.2, if_neg hp, if_neg hp]
            exact h2
        case measure => simp [intOf]; omega
    · obtain rfl : n = k := by omega
      have ht : l.take n = l := List.take_of_length_le (by omega)
      rw [ht] at c0 c1
      have q0 := hb0.cell_put (i := 0) (by simp) (.int .i64 (evs l))
      have q1 := (hb0.put 0 (.int .i64 (evs l))).cell_put (i := 1) (by simp) (.int .i64 (ods l))
      have Q0 := Lib.hid q0
      have Q1 := Lib.hid q1
      clear hb0 hb1 q0 q1
      go_wp2
      exact bodyPost_ret (v := .agg #[.int .i64 (evs l), .int .i64 (ods l)]) (by simp [results, Tryz.results14, go_sem, Q0.out, Q1.out]) rfl ⟨rfl, by go_grown⟩
end Go.Proofs.YthnpalcjfgbjeaaGreat.Ps
