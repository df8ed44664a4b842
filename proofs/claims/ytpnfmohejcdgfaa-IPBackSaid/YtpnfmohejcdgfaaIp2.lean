/- Package ipv4: Bytes. Conditions: those that each states. -/
import Derived.Test.YtpnfmohejcdgfaaIp1
namespace Go.Proofs.Ytpnfmohejcdgfaa.Ip
open Go.ChangeShapes Go.WideShapes Go.ChangeAt Go.RowKit Go.Deep Rk Fl Gx
set_option linter.unusedVariables false
set_option linter.unusedSimpArgs false

/-- Head, whatever the length. -/
theorem head_any (i t p s d : Nat) (hp : Pk i t p s d) (A : Option Addr) (n c : Nat) (m : Int) (w : World) :
    Calls Try.prog 9 #[.agg (pkV i t p s d A n c), .int .i64 m] w fun e w' => Tells w w' e (decide (0 ≤ m ∧ m ≤ 990)) (ipHead i t p s d m.toNat) 2 ∧ Below w.heap.size w w' := by
  by_cases h : 0 ≤ m ∧ m ≤ 990
  · obtain ⟨k, rfl⟩ : ∃ k : Nat, m = (k : Int) := ⟨m.toNat, by omega⟩
    refine (head_ok i t p s d hp A n c k (by omega) w).mono ?_
    rintro e w' ⟨⟨g, c', rfl, O⟩, b⟩
    refine ⟨.inr ⟨decide_eq_true h, g, c', ?_, ?_⟩, b⟩
    · rw [Int.toNat_natCast, ipHead_length]
    · rw [Int.toNat_natCast, ipHead_length]; exact O
  · refine (head_no i t p s d A n c m (by omega) w).mono ?_
    rintro e w' ⟨rfl, b⟩
    exact ⟨.inl ⟨decide_eq_false h, rfl⟩, b⟩

set_option maxRecDepth 100000 in
theorem bytes_any' (i t p s d : Nat) (hp : Pk i t p s d) (A : Option Addr) (n c : Nat) (l : List UInt8) (w : World) (hs : Src w A n c l) (hn : n ≤ 1000000) :
    Calls Try.prog 11 #[.agg (pkV i t p s d A n c)] w fun e w' => Tells w w' e (decide (n ≤ 990)) (ipHead i t p s d n ++ l) 2 ∧ Below w.heap.size w w' := by
  have b1 : Below w.heap.size w (w.alloc (.cells (pkV i t p s d A n c) 32)) := (Below.refl _ w).alloc (Nat.le_refl _) _
  have B1 := Lib.hid b1
  have K1 := Lib.hid (Blk.new w 32 (pkV i t p s d A n c))
  have S1 := Lib.hid (hs.alloc (.cells (pkV i t p s d A n c) 32))
  have HA := Lib.hid (fun W => head_any i t p s d hp A n c (n : Int) W)
  have hl := hs.len
  clear b1 hs
  go_enter Try.func11, Try.ntmps11
  go_upto_region 1 with fail
  generalize hW : w.alloc (.cells (pkV i t p s d A n c) 32) = W at *
  have z0 := (K1.out.cell 0).trans (show _ = some (.int .u16 (i : Int)) from rfl)
  have z1 := (K1.out.cell 1).trans (show _ = some (.int .u8 (t : Int)) from rfl)
  have z2 := (K1.out.cell 2).trans (show _ = some (.int .u8 (p : Int)) from rfl)
  have z3 := (K1.out.cell 3).trans (show _ = some (.int .u32 (s : Int)) from rfl)
  have z4 := (K1.out.cell 4).trans (show _ = some (.int .u32 (d : Int)) from rfl)
  have z5 := (K1.out.cell 5).trans (show _ = some (.slice A n c) from rfl)
  go_wp2_with fail
  refine (HA.out W).mono ?_
  rintro e w2 ⟨T, b2⟩
  have B2 := Lib.hid (B1.out.trans (b2.mono B1.out.size))
  have S2 := Lib.hid (S1.out.below b2)
  have y5 := ((K1.out.older (older_below b2)).cell 5).trans (show _ = some (.slice A n c) from rfl)
  clear z0 z1 z2 z3 z4 z5 HA b2 S1 K1
  rcases T with ⟨h, rfl⟩ | ⟨h, g, c', rfl, O⟩
  · have e1 : decide (n ≤ 990) = false := by
      have := of_decide_eq_false h
      exact decide_eq_false (by omega)
    have E1 := Lib.hid e1
    clear e1 h
    go_wp2
    go_ret2
    exact ⟨.inl ⟨E1.out, rfl⟩, B2.out⟩
  · have e1 : decide (n ≤ 990) = true := by
      have := of_decide_eq_true h
      exact decide_eq_true (by omega)
    have hn9 : n ≤ 990 := of_decide_eq_true e1
    have E1 := Lib.hid e1
    have O := ownB_mono O B1.out.size
    have L := Lib.hid (show (ipHead i t p s d n ++ l).length = 20 + n from by rw [List.length_append, ipHead_length, hl])
    rw [Int.toNat_natCast, ipHead_length] at O
    rw [Int.toNat_natCast, ipHead_length]
    have OO := Lib.hid O
    clear e1 h O
    go_wp2_with (at_builtin; refine Hid.out ?_)
    unfold Hid
    refine wpList_append_src rfl _ _ rfl w.heap.size _ 20 (ipHead i t p s d n) rfl OO.out.own A n c l rfl S2.out (by omega) B2.out.size ?_
    intro v' w3 h1 h2
    obtain ⟨g3, c3, rfl, O3⟩ := OwnB.of h1 (by omega)
    have O3 := Lib.hid O3
    have B3 := Lib.hid (B2.out.trans h2)
    clear h1 h2 y5
    go_wp2
    go_ret2
    refine ⟨.inr ⟨E1.out, g3, c3, ?_, ?_⟩, B3.out⟩
    · rw [L.out]; rfl
    · rw [L.out]; exact O3.out
end Go.Proofs.Ytpnfmohejcdgfaa.Ip
