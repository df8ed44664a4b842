/- Package eth: a message's Bytes. Conditions: those that each states. -/
import Derived.Test.YtahmdogpnojcpaaEt1
namespace Go.Proofs.Ytahmdogpnojcpaa.Et
open Go.ChangeShapes Go.WideShapes Go.ChangeAt Go.RowKit Go.Deep Rk
set_option linter.unusedVariables false

/-- A message, as a value. -/
abbrev arV (o : Int) (m i m' i' : Nat) : Array Value := #[.int .i64 o, .int .u64 (m : Int), .int .u32 (i : Int), .int .u64 (m' : Int), .int .u32 (i' : Int)]
def arMay (o : Int) (m m' : Nat) : Bool := decide (o = 1 ∨ o = 2) && (decide (m < 256 ^ 6) && decide (m' < 256 ^ 6))
/-- What every message begins with. -/
def arHead : List UInt8 := [0, 1, 8, 0, 6, 4]
def arL (o : Int) (m i m' i' : Nat) : List UInt8 := arHead ++ (be o.toNat 2 ++ (be m 6 ++ (be i 4 ++ (be m' 6 ++ be i' 4))))
theorem arL_length (o : Int) (m i m' i' : Nat) : (arL o m i m' i').length = 28 := by simp [arL, arHead, be_length]
def arPairs (o m i m' i' : Nat) : List (Nat × Nat) := [(1, 2), (2048, 2), (6, 1), (4, 1), (o, 2), (m, 6), (i, 4), (m', 6), (i', 4)]
theorem arL_put (o m i m' i' : Nat) : putL (arPairs o m i m' i') = arL (o : Int) m i m' i' := by
  have e : be 1 2 ++ (be 2048 2 ++ (be 6 1 ++ be 4 1)) = arHead := by rfl
  rw [arL, ← e]
  simp [arPairs, putL]
theorem arMay_put (o m i m' i' : Nat) (ho : o = 1 ∨ o = 2) (hi : i ≤ 4294967295) (hi' : i' ≤ 4294967295) : putMay (arPairs o m i m' i') = arMay (o : Int) m m' := by
  have h1 : decide (o < 256 ^ 2) = true := by simp; omega
  have h2 : decide (i < 256 ^ 4) = true := by simp; omega
  have h3 : decide (i' < 256 ^ 4) = true := by simp; omega
  have h4 : decide ((o : Int) = 1 ∨ (o : Int) = 2) = true := by simp; omega
  unfold putMay arMay arPairs
  simp only [List.all_cons, List.all_nil, h1, h2, h3, h4]
  simp

def arR (o m i m' i' : Nat) : Array Value := #[.int .u64 1, .int .i64 2, .int .u64 2048, .int .i64 2, .int .u64 6, .int .i64 1, .int .u64 4, .int .i64 1, .int .u64 (o : Int), .int .i64 2, .int .u64 (m : Int), .int .i64 6, .int .u64 (i : Int), .int .i64 4, .int .u64 (m' : Int), .int .i64 6, .int .u64 (i' : Int), .int .i64 4]

set_option maxRecDepth 100000 in
set_option maxHeartbeats 2000000 in
theorem arBytes_any (o : Int) (m i m' i' : Nat) (hm : m ≤ 18446744073709551615) (hi : i ≤ 4294967295) (hm' : m' ≤ 18446744073709551615) (hi' : i' ≤ 4294967295) (w : World) :
    Calls Try.prog 17 #[.agg (arV o m i m' i')] w fun e w' => Told w w' e (arMay o m m') (arL o m i m' i') 1 ∧ Below w.heap.size w w' := by
  have b1 : Below w.heap.size w (w.alloc (.cells (arV o m i m' i') 45)) := (Below.refl _ w).alloc (Nat.le_refl _) _
  have B1 := Lib.hid b1
  have K1 := Lib.hid (Blk.new w 45 (arV o m i m' i'))
  have z0 := (K1.out.cell 0).trans (show _ = some (.int .i64 o) from rfl)
  have z1 := (K1.out.cell 1).trans (show _ = some (.int .u64 (m : Int)) from rfl)
  have z2 := (K1.out.cell 2).trans (show _ = some (.int .u32 (i : Int)) from rfl)
  have z3 := (K1.out.cell 3).trans (show _ = some (.int .u64 (m' : Int)) from rfl)
  have z4 := (K1.out.cell 4).trans (show _ = some (.int .u32 (i' : Int)) from rfl)
  have IO := Lib.hid (fun W => isOp_any o W)
  clear b1 K1
  by_cases ho : o = 1 ∨ o = 2
  · obtain ⟨k, rfl, hk⟩ : ∃ k : Nat, o = (k : Int) ∧ (k = 1 ∨ k = 2) := ⟨o.toNat, by omega, by omega⟩
    have hd : decide ((k : Int) = 1 ∨ (k : Int) = 2) = true := by simp; omega
    rw [hd] at IO
    have PA := Lib.hid (fun W c => put_any (some ⟨W, 0, none⟩) c (arPairs k m i m' i'))
    have EL := Lib.hid (arL_put k m i m' i')
    have EM := Lib.hid (arMay_put k m i m' i' hk hi hi')
    have c0 := IntWalk.u64_in (k : Int) (by omega)
    have c1 := IntWalk.u64_in (i : Int) (by omega)
    have c2 := IntWalk.u64_in (i' : Int) (by omega)
    clear hd ho
    go_enter Try.func17, Try.ntmps17
    go_upto_region 1 with fail
    generalize hW : w.alloc (.cells (arV (k : Int) m i m' i') 45) = W at *
    have BW := Lib.hid ((Below.refl W.heap.size W).alloc (Nat.le_refl _) (.cells (arR k m i m' i') 66))
    have KW := Lib.hid (Blk.new W 66 (arR k m i m' i'))
    go_wp2_with fail
    refine (IO.out W).mono ?_
    rintro e w2 ⟨rfl, rfl⟩
    go_wp2_with fail
    refine (PA.out _ 9 _ (rowG_blk (n := 9) KW.out rfl (by decide)) (fun p hp => ?_) (by simp [arPairs]) (by simp [arPairs])).mono ?_
    · simp only [arPairs, List.mem_cons, List.not_mem_nil, or_false] at hp
      rcases hp with rfl | rfl | rfl | rfl | rfl | rfl | rfl | rfl | rfl <;> (dsimp only; omega)
    rintro e w' ⟨T, b2⟩
    rw [EL.out, EM.out] at T
    have B2 := Lib.hid (B1.out.trans ((BW.out.trans (b2.mono BW.out.size)).mono B1.out.size))
    have T2 := Lib.hid (T.base (Nat.le_trans B1.out.size BW.out.size))
    clear T b2 PA BW KW z0 z1 z2 z3 z4 IO EL EM
    rcases T2.out with ⟨h, rfl⟩ | ⟨h, g, c', rfl, O⟩
    · clear h
      go_wp2
      go_ret2
      exact ⟨T2.out, B2.out⟩
    · have OO := Lib.hid O
      clear O h
      go_wp2
      go_ret2
      exact ⟨T2.out, B2.out⟩
  · have hd : decide (o = 1 ∨ o = 2) = false := by simpa using ho
    rw [hd] at IO
    have E1 := Lib.hid (show arMay o m m' = false from by simp [arMay, hd])
    clear hd ho
    go_enter Try.func17, Try.ntmps17
    go_upto_region 1 with fail
    generalize hW : w.alloc (.cells (arV o m i m' i') 45) = W at *
    go_wp2_with fail
    refine (IO.out W).mono ?_
    rintro e w2 ⟨rfl, rfl⟩
    go_wp2
    go_ret2
    exact ⟨.inl ⟨E1.out, rfl⟩, B1.out⟩
end Go.Proofs.Ytahmdogpnojcpaa.Et
