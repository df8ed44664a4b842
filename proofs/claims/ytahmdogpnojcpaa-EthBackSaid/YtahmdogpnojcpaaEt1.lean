/- Package eth: Head, Bytes, a message's Bytes. Conditions: those that each states. -/
import Derived.Test.YtahmdogpnojcpaaEt
namespace Go.Proofs.Ytahmdogpnojcpaa.Et
open Go.ChangeShapes Go.WideShapes Go.ChangeAt Go.RowKit Go.Deep Rk
set_option linter.unusedVariables false

/-- A packet's first bytes. -/
def headL (t f y : Nat) : List UInt8 := be t 6 ++ (be f 6 ++ be y 2)
def headMay (t f : Nat) : Bool := decide (t < 256 ^ 6) && decide (f < 256 ^ 6)
theorem headL_length (t f y : Nat) : (headL t f y).length = 14 := by simp [headL, be_length]
theorem headL_put (t f y : Nat) : putL [(t, 6), (f, 6), (y, 2)] = headL t f y := by simp [putL, headL]
theorem headMay_put (t f y : Nat) (hy : y ≤ 65535) : putMay [(t, 6), (f, 6), (y, 2)] = headMay t f := by
  have : decide (y < 256 ^ 2) = true := by simp; omega
  simp [putMay, headMay, this]
/-- A packet, as a value. -/
abbrev pkV (t f y : Nat) (A : Option Addr) (n c : Nat) : Array Value := #[.int .u64 (t : Int), .int .u64 (f : Int), .int .u16 (y : Int), .slice A n c]

set_option maxRecDepth 100000 in
theorem head_any (t f y : Nat) (ht : t ≤ 18446744073709551615) (hf : f ≤ 18446744073709551615) (hy : y ≤ 65535) (A : Option Addr) (n c : Nat) (w : World) :
    Calls Try.prog 9 #[.agg (pkV t f y A n c)] w fun e w' => Told w w' e (headMay t f) (headL t f y) 1 ∧ Below w.heap.size w w' := by
  have b1 : Below w.heap.size w (w.alloc (.cells (pkV t f y A n c) 32)) := (Below.refl _ w).alloc (Nat.le_refl _) _
  have B1 := Lib.hid b1
  have K1 := Lib.hid (Blk.new w 32 (pkV t f y A n c))
  have z0 := (K1.out.cell 0).trans (show _ = some (.int .u64 (t : Int)) from rfl)
  have z1 := (K1.out.cell 1).trans (show _ = some (.int .u64 (f : Int)) from rfl)
  have z2 := (K1.out.cell 2).trans (show _ = some (.int .u16 (y : Int)) from rfl)
  have PA := Lib.hid (fun W c => put_any (some ⟨W, 0, none⟩) c [(t, 6), (f, 6), (y, 2)])
  have hc := IntWalk.u64_in (y : Int) (by omega)
  clear b1 K1
  go_enter Try.func9, Try.ntmps9
  go_upto_region 1 with fail
  generalize hW : w.alloc (.cells (pkV t f y A n c) 32) = W at *
  have BW := Lib.hid ((Below.refl W.heap.size W).alloc (Nat.le_refl _) (.cells #[.int .u64 (t : Int), .int .i64 6, .int .u64 (f : Int), .int .i64 6, .int .u64 (y : Int), .int .i64 2] 66))
  have KW := Lib.hid (Blk.new W 66 #[.int .u64 (t : Int), .int .i64 6, .int .u64 (f : Int), .int .i64 6, .int .u64 (y : Int), .int .i64 2])
  go_wp2_with fail
  refine (PA.out W.heap.size 3 _ (rowG_blk (n := 3) KW.out rfl (by decide)) (fun p hp => ?_) (by simp) (by simp)).mono ?_
  · simp only [List.mem_cons, List.not_mem_nil, or_false] at hp
    rcases hp with rfl | rfl | rfl <;> (dsimp only; omega)
  rintro e w' ⟨T, b2⟩
  rw [headL_put, headMay_put t f y hy] at T
  have B2 := Lib.hid (B1.out.trans ((BW.out.trans (b2.mono BW.out.size)).mono B1.out.size))
  have T2 := Lib.hid (T.base (Nat.le_trans B1.out.size BW.out.size))
  clear T b2 PA BW KW z0 z1 z2
  rcases T2.out with ⟨h, rfl⟩ | ⟨h, g, c', rfl, O⟩
  · clear h
    go_wp2
    go_ret2
    exact ⟨T2.out, B2.out⟩
  · have OO := Lib.hid O
    clear O h
    go_wp2
    go_ret2
    exact ⟨T2.out, B2.out⟩

theorem isOp_any (z : Int) (w : World) : Calls Try.prog 34 #[.int .i64 z] w fun e w' => e = .returned (.bool (decide (z = 1 ∨ z = 2))) ∧ w' = w := by
  by_cases h1 : z = 1
  · subst h1
    go_enter Try.func34, Try.ntmps34
    go_wp2
    go_ret
    exact ⟨rfl, rfl⟩
  · by_cases h2 : z = 2
    · subst h2
      go_enter Try.func34, Try.ntmps34
      go_wp2
      go_ret
      exact ⟨rfl, rfl⟩
    · have e : decide (z = 1 ∨ z = 2) = false := by simp [h1, h2]
      rw [e]
      go_enter Try.func34, Try.ntmps34
      go_wp2
      go_ret
      exact ⟨congrArg (fun b => Ending.returned (Value.bool b)) (show (z == 1 || z == 2) = false from by simp [h1, h2]), rfl⟩

/-- What is told of a packet whose bytes are asked for. -/
def pkMay (t f n : Nat) : Bool := headMay t f && decide (n ≤ 1010)
def pkErr (t f : Nat) : Int := if headMay t f = true then 2 else 1

set_option maxRecDepth 100000 in
theorem bytes_any' (t f y : Nat) (ht : t ≤ 18446744073709551615) (hf : f ≤ 18446744073709551615) (hy : y ≤ 65535) (A : Option Addr) (n c : Nat) (l : List UInt8) (w : World) (hs : Src w A n c l) (hn : n ≤ 1000000) :
    Calls Try.prog 11 #[.agg (pkV t f y A n c)] w fun e w' => Told w w' e (pkMay t f n) (headL t f y ++ l) (pkErr t f) ∧ Below w.heap.size w w' := by
  have b1 : Below w.heap.size w (w.alloc (.cells (pkV t f y A n c) 32)) := (Below.refl _ w).alloc (Nat.le_refl _) _
  have B1 := Lib.hid b1
  have K1 := Lib.hid (Blk.new w 32 (pkV t f y A n c))
  have S1 := Lib.hid (hs.alloc (.cells (pkV t f y A n c) 32))
  have HA := Lib.hid (fun W => head_any t f y ht hf hy A n c W)
  have hl := hs.len
  clear b1 hs
  go_enter Try.func11, Try.ntmps11
  go_upto_region 1 with fail
  generalize hW : w.alloc (.cells (pkV t f y A n c) 32) = W at *
  have z0 := (K1.out.cell 0).trans (show _ = some (.int .u64 (t : Int)) from rfl)
  have z1 := (K1.out.cell 1).trans (show _ = some (.int .u64 (f : Int)) from rfl)
  have z2 := (K1.out.cell 2).trans (show _ = some (.int .u16 (y : Int)) from rfl)
  have z3 := (K1.out.cell 3).trans (show _ = some (.slice A n c) from rfl)
  go_wp2_with fail
  refine (HA.out W).mono ?_
  rintro e w2 ⟨T, b2⟩
  have B2 := Lib.hid (B1.out.trans (b2.mono B1.out.size))
  have S2 := Lib.hid (S1.out.below b2)
  have y3 := ((K1.out.older (older_below b2)).cell 3).trans (show _ = some (.slice A n c) from rfl)
  clear z0 z1 z2 z3 HA b2 S1 K1
  rcases T with ⟨h, rfl⟩ | ⟨h, g, c', rfl, O⟩
  · have e1 : pkMay t f n = false := by simp [pkMay, h]
    have e2 : pkErr t f = 1 := by simp [pkErr, h]
    have E1 := Lib.hid e1
    have E2 := Lib.hid e2
    clear e1 e2 h
    go_wp2
    go_ret2
    exact ⟨.inl ⟨E1.out, by rw [E2.out]; rfl⟩, B2.out⟩
  · have e2 : pkErr t f = 2 := by simp [pkErr, h]
    have E2 := Lib.hid e2
    by_cases hlt : (n : Int) > 1010
    · have e1 : pkMay t f n = false := by simp [pkMay, h]; omega
      have E1 := Lib.hid e1
      clear e1 e2 h O
      go_wp2
      go_ret2
      exact ⟨.inl ⟨E1.out, by rw [E2.out]; rfl⟩, B2.out⟩
    · have e1 : pkMay t f n = true := by simp [pkMay, h]; omega
      have E1 := Lib.hid e1
      have O := ownB_mono O B1.out.size
      have L := Lib.hid (show (headL t f y ++ l).length = 14 + n from by rw [List.length_append, headL_length, hl])
      rw [headL_length] at O ⊢
      have OO := Lib.hid O
      clear e1 e2 h O
      go_wp2_with (at_builtin; refine Hid.out ?_)
      unfold Hid
      refine wpList_append_src rfl _ _ rfl w.heap.size _ 14 (headL t f y) rfl OO.out.own A n c l rfl S2.out (by omega) B2.out.size ?_
      intro v' w3 h1 h2
      obtain ⟨g3, c3, rfl, O3⟩ := OwnB.of h1 (by omega)
      have O3 := Lib.hid O3
      have B3 := Lib.hid (B2.out.trans h2)
      clear h1 h2 y3
      go_wp2
      go_ret2
      refine ⟨.inr ⟨E1.out, g3, c3, ?_, ?_⟩, B3.out⟩
      · rw [L.out]; rfl
      · rw [L.out]; exact O3.out
end Go.Proofs.Ytahmdogpnojcpaa.Et
