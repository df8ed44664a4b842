/- The document's answers of layer 14 (eth): Head, Bytes, Parse, Message. Conditions: those that each states. -/
import Derived.Test.YtahmdogpnojcpaaEt5
import Derived.Test.YtahmdogpnojcpaaRp
namespace Go.Proofs.Ytahmdogpnojcpaa.Et
open Go.ChangeShapes Go.WideShapes Go.ChangeAt Go.RowKit Go.Deep Rk Es
set_option linter.unusedVariables false
set_option linter.unusedSimpArgs false

/-- The document's packet, as a value. -/
abbrev dpV (t f y : Nat) (l : List UInt8) : Array Value := #[.int .u64 (t : Int), .int .u64 (f : Int), .int .u16 (y : Int), .string ⟨l.toArray⟩]
def STold (e : Ending) (may : Bool) (l : List UInt8) (er : Int) : Prop := e = .returned (if may then .tuple #[.string ⟨l.toArray⟩, .int .i64 0] else .tuple #[.string ⟨#[]⟩, .int .i64 er])

set_option maxRecDepth 100000 in
set_option maxHeartbeats 2000000 in
theorem refHead_any (t f y : Nat) (ht : t ≤ 18446744073709551615) (hf : f ≤ 18446744073709551615) (hy : y ≤ 65535) (l : List UInt8) (w : World) :
    Calls Try.prog 13 #[.agg (dpV t f y l)] w fun e w' => STold e (headMay t f) (headL t f y) 1 ∧ Below w.heap.size w w' := by
  have b1 : Below w.heap.size w (w.alloc (.cells (dpV t f y l) 25)) := (Below.refl _ w).alloc (Nat.le_refl _) _
  have B1 := Lib.hid b1
  have K1 := Lib.hid (Blk.new w 25 (dpV t f y l))
  have P1 := Lib.hid (fun W => refPut_any t 6 W ht (by omega) (by omega))
  have P2 := Lib.hid (fun W => refPut_any f 6 W hf (by omega) (by omega))
  have P3 := Lib.hid (fun W => refP_any y 2 W (by omega) (by omega) (by omega) (by simp; omega))
  have hc := IntWalk.u64_in (y : Int) (by omega)
  clear b1
  go_enter Try.func13, Try.ntmps13
  go_upto_region 1 with fail
  generalize hW : w.alloc (.cells (dpV t f y l) 25) = W at *
  have z0 := (K1.out.cell 0).trans (show _ = some (.int .u64 (t : Int)) from rfl)
  go_wp2_with fail
  refine (P1.out W).mono ?_
  rintro e w2 ⟨rfl, b2⟩
  have B2 := Lib.hid (B1.out.trans (b2.mono B1.out.size))
  have K2 := Lib.hid (K1.out.older (older_below b2))
  clear b2 K1 B1 z0 P1
  have z1 := (K2.out.cell 1).trans (show _ = some (.int .u64 (f : Int)) from rfl)
  by_cases g1 : t < 256 ^ 6
  · rw [if_pos g1]
    have G1 := Lib.hid g1
    clear g1
    go_wp2_with fail
    refine (P2.out w2).mono ?_
    rintro e w3 ⟨rfl, b3⟩
    have B3 := Lib.hid (B2.out.trans (b3.mono B2.out.size))
    have K3 := Lib.hid (K2.out.older (older_below b3))
    clear b3 K2 B2 z1 P2
    by_cases g2 : f < 256 ^ 6
    · rw [if_pos g2]
      have M := Lib.hid (show headMay t f = true from by unfold headMay; rw [decide_eq_true G1.out, decide_eq_true g2]; rfl)
      clear g2
      have z2 := (K3.out.cell 2).trans (show _ = some (.int .u16 (y : Int)) from rfl)
      have la : ¬ 9223372036854775807 < (be t 6).length + (be f 6).length := by simp [be_length]
      have lb : ¬ 9223372036854775807 < (be t 6 ++ be f 6).length + (be y 2).length := by simp [be_length]
      go_wp2_with fail
      refine (P3.out w3).mono ?_
      rintro e w4 ⟨rfl, b4⟩
      have B4 := Lib.hid (B3.out.trans (b4.mono B3.out.size))
      clear b4 B3 K3 z2 P3
      go_wp2
      go_ret2
      refine ⟨?_, B4.out⟩
      unfold STold
      rw [M.out]
      simp [headL, ByteArray.mk_append_mk]
    · rw [if_neg g2]
      have M := Lib.hid (show headMay t f = false from by unfold headMay; rw [decide_eq_false g2]; simp)
      clear g2
      go_wp2
      go_ret2
      exact ⟨by unfold STold; rw [M.out]; rfl, B3.out⟩
  · rw [if_neg g1]
    have M := Lib.hid (show headMay t f = false from by unfold headMay; rw [decide_eq_false g1]; simp)
    clear g1
    go_wp2_with fail
    refine (P2.out w2).mono ?_
    rintro e w3 ⟨rfl, b3⟩
    have B3 := Lib.hid (B2.out.trans (b3.mono B2.out.size))
    clear b3 K2 B2 z1 P2
    by_cases g2 : f < 256 ^ 6
    · rw [if_pos g2]
      go_wp2
      go_ret2
      exact ⟨by unfold STold; rw [M.out]; rfl, B3.out⟩
    · rw [if_neg g2]
      go_wp2
      go_ret2
      exact ⟨by unfold STold; rw [M.out]; rfl, B3.out⟩
end Go.Proofs.Ytahmdogpnojcpaa.Et
