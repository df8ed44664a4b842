/- Package seg: Bytes. Conditions: those that each states. -/
import Derived.Test.YtgemmciokioaiaaSg2
namespace Go.Proofs.Ytgemmciokioaiaa.Sg
open Go.ChangeShapes Go.WideShapes Go.ChangeAt Go.RowKit Go.Deep Rk Fl Gx
open Ip (wb vw vw_length vw_get wb_append wb_length be2 nb1 nb0 evs_word evs_snocw or16 tot tot_wb psW psW_small psW_bytes be_two be_four u8_eq)
set_option linter.unusedVariables false
set_option linter.unusedSimpArgs false

/-- Flags and MSS that may be, as numbers. -/
theorem ck_ok {g m n : Int} (h : ckR g m n = 0) : ∃ g' m' n' : Nat, g = g' ∧ m = m' ∧ n = n' ∧ g' ≤ 63 ∧ m' ≤ 65535 ∧ n' ≤ 900 := by
  unfold ckR fmB at h
  split at h
  · rename_i h1
    have h1 := of_decide_eq_true h1
    split at h
    · rename_i h2
      exact ⟨g.toNat, m.toNat, n.toNat, by omega, by omega, by omega, by omega, by omega, by omega⟩
    · cases h
  · cases h

set_option maxRecDepth 100000 in
set_option maxHeartbeats 4000000 in
theorem bytes_any' (f t q a : Nat) (g : Int) (wi : Nat) (m : Int) (hf : f ≤ 65535) (ht : t ≤ 65535) (hq : q ≤ 4294967295) (ha : a ≤ 4294967295) (hwi : wi ≤ 65535) (A : Option Addr) (c0 : Nat) (l : List UInt8) (s d : Nat) (hs : s ≤ 4294967295) (hd : d ≤ 4294967295) (w : World) (hsr : Src w A l.length c0 l) (hn : l.length ≤ 1000000) :
    Calls Try.prog 7 #[.agg (sgV f t q a g wi m A l.length c0), .int .u32 (s : Int), .int .u32 (d : Int)] w fun e w' => Tells w w' e (decide (ckR g m l.length = 0)) (sgB s d f t q a g.toNat wi m.toNat l.length (fo (tot l)) ++ l) (ckR g m l.length) ∧ Below w.heap.size w w' := by
  have B1 := Lib.hid ((Below.refl w.heap.size w).alloc (Nat.le_refl _) (.cells (sgV f t q a g wi m A l.length c0) 32))
  have K1 := Lib.hid (Blk.new w 32 (sgV f t q a g wi m A l.length c0))
  have S1 := Lib.hid (hsr.alloc (.cells (sgV f t q a g wi m A l.length c0) 32))
  have CK := Lib.hid (fun W => check_any f t q a g wi m A l.length c0 (l.length : Int) W)
  clear hsr
  by_cases hc : ckR g m l.length = 0
  rotate_left
  · generalize ckR g m l.length = er at *
    have hb' : (er == 0) = false := by simpa using hc
    go_enter Try.func7, Try.ntmps7
    go_upto_region 1 with fail
    generalize w.alloc (.cells (sgV f t q a g wi m A l.length c0) 32) = W at *
    have z0 := (K1.out.cell 0).trans (show _ = some (.int .u16 (f : Int)) from rfl)
    have z1 := (K1.out.cell 1).trans (show _ = some (.int .u16 (t : Int)) from rfl)
    have z2 := (K1.out.cell 2).trans (show _ = some (.int .u32 (q : Int)) from rfl)
    have z3 := (K1.out.cell 3).trans (show _ = some (.int .u32 (a : Int)) from rfl)
    have z4 := (K1.out.cell 4).trans (show _ = some (.int .i64 g) from rfl)
    have z5 := (K1.out.cell 5).trans (show _ = some (.int .u16 (wi : Int)) from rfl)
    have z6 := (K1.out.cell 6).trans (show _ = some (.int .i64 m) from rfl)
    have z7 := (K1.out.cell 7).trans (show _ = some (.slice A l.length c0) from rfl)
    go_wp2_with fail
    refine (CK.out W).mono ?_; rintro e w1 ⟨rfl, b1⟩
    have B2 := Lib.hid (B1.out.trans (b1.mono B1.out.size))
    go_wp2
    go_ret2
    exact ⟨.inl ⟨decide_eq_false hc, rfl⟩, B2.out⟩
  obtain ⟨g, m, n', rfl, rfl, hn', hg, hm, h9⟩ := ck_ok hc
  have h9 : l.length ≤ 900 := by omega
  have hE := Lib.hid hc
  rw [hc] at CK
  have HO := Lib.hid (fun W => head_ok f t q a g wi m ⟨hf, ht, hq, ha, hg, hwi, hm⟩ A l.length c0 s d (fl (evs l)) (fl (ods l)) hs hd l.length h9 (fo (tot l)) (fo_le _) (fun W' => by
    have hle := evs_le l
    exact fold_ok _ _ (evs l) (ods l) W' (read_fl (by omega)).rep (read_fl (by omega)).rep (by omega) (by omega)) W)
  have LB := Lib.hid (show (sgB s d f t q a g wi m l.length (fo (tot l)) ++ l).length = sgL m + l.length from by rw [List.length_append, sgB_length])
  have hL := sgL_le m
  clear hn' hc
  go_enter Try.func7, Try.ntmps7
  go_upto_region 1 with fail
  generalize w.alloc (.cells (sgV f t q a (g : Int) wi (m : Int) A l.length c0) 32) = W at *
  have z0 := (K1.out.cell 0).trans (show _ = some (.int .u16 (f : Int)) from rfl)
  have z1 := (K1.out.cell 1).trans (show _ = some (.int .u16 (t : Int)) from rfl)
  have z2 := (K1.out.cell 2).trans (show _ = some (.int .u32 (q : Int)) from rfl)
  have z3 := (K1.out.cell 3).trans (show _ = some (.int .u32 (a : Int)) from rfl)
  have z4 := (K1.out.cell 4).trans (show _ = some (.int .i64 (g : Int)) from rfl)
  have z5 := (K1.out.cell 5).trans (show _ = some (.int .u16 (wi : Int)) from rfl)
  have z6 := (K1.out.cell 6).trans (show _ = some (.int .i64 (m : Int)) from rfl)
  have z7 := (K1.out.cell 7).trans (show _ = some (.slice A l.length c0) from rfl)
  go_wp2_with fail
  refine (CK.out W).mono ?_; rintro e w1 ⟨rfl, b1⟩
  have B2 := Lib.hid (B1.out.trans (b1.mono B1.out.size))
  have K2 := Lib.hid (K1.out.older (older_below b1))
  have S2 := Lib.hid (S1.out.below b1)
  clear b1 B1 K1 S1 CK z0 z1 z2 z3 z4 z5 z6 z7
  have z0 := (K2.out.cell 0).trans (show _ = some (.int .u16 (f : Int)) from rfl)
  have z1 := (K2.out.cell 1).trans (show _ = some (.int .u16 (t : Int)) from rfl)
  have z2 := (K2.out.cell 2).trans (show _ = some (.int .u32 (q : Int)) from rfl)
  have z3 := (K2.out.cell 3).trans (show _ = some (.int .u32 (a : Int)) from rfl)
  have z4 := (K2.out.cell 4).trans (show _ = some (.int .i64 (g : Int)) from rfl)
  have z5 := (K2.out.cell 5).trans (show _ = some (.int .u16 (wi : Int)) from rfl)
  have z6 := (K2.out.cell 6).trans (show _ = some (.int .i64 (m : Int)) from rfl)
  have z7 := (K2.out.cell 7).trans (show _ = some (.slice A l.length c0) from rfl)
  go_wp2_with fail
  refine (part_b A l.length c0 l w1 S2.out.toBytes (by omega)).mono ?_; rintro e w2 ⟨rfl, b2⟩
  have B3 := Lib.hid (B2.out.trans (b2.mono B2.out.size))
  have K3 := Lib.hid (K2.out.older (older_below b2))
  have S3 := Lib.hid (S2.out.below b2)
  clear b2 B2 K2 S2 z0 z1 z2 z3 z4 z5 z6 z7
  have z0 := (K3.out.cell 0).trans (show _ = some (.int .u16 (f : Int)) from rfl)
  have z1 := (K3.out.cell 1).trans (show _ = some (.int .u16 (t : Int)) from rfl)
  have z2 := (K3.out.cell 2).trans (show _ = some (.int .u32 (q : Int)) from rfl)
  have z3 := (K3.out.cell 3).trans (show _ = some (.int .u32 (a : Int)) from rfl)
  have z4 := (K3.out.cell 4).trans (show _ = some (.int .i64 (g : Int)) from rfl)
  have z5 := (K3.out.cell 5).trans (show _ = some (.int .u16 (wi : Int)) from rfl)
  have z6 := (K3.out.cell 6).trans (show _ = some (.int .i64 (m : Int)) from rfl)
  have z7 := (K3.out.cell 7).trans (show _ = some (.slice A l.length c0) from rfl)
  go_wp2_with fail
  refine (HO.out w2).mono ?_; rintro e w3 ⟨⟨b, c', rfl, ob⟩, b3⟩
  have OB := Lib.hid (ownB_mono ob B3.out.size)
  have B4 := Lib.hid (B3.out.trans (b3.mono B3.out.size))
  have K4 := Lib.hid (K3.out.older (older_below b3))
  have S4 := Lib.hid (S3.out.below b3)
  clear b3 B3 K3 S3 HO ob z0 z1 z2 z3 z4 z5 z6 z7
  have z7 := (K4.out.cell 7).trans (show _ = some (.slice A l.length c0) from rfl)
  obtain ⟨lm, hlm⟩ : ∃ x, sgL m = x := ⟨_, rfl⟩
  rw [hlm] at OB LB hL ⊢
  have HLM := Lib.hid hlm
  clear hlm
  go_wp2_with (at_builtin; refine Hid.out ?_)
  unfold Hid
  refine wpList_append_src rfl _ _ rfl w.heap.size _ lm (sgB s d f t q a g wi m l.length (fo (tot l))) rfl OB.out.own A l.length c0 l rfl S4.out (by omega) B4.out.size ?_
  intro v' w5 h1 h2
  obtain ⟨g5, c5, rfl, O5⟩ := OwnB.of h1 (by omega)
  have O5 := Lib.hid O5
  have B5 := Lib.hid (B4.out.trans h2)
  clear h1 h2 z7
  go_wp2
  go_ret2
  refine ⟨.inr ⟨decide_eq_true hE.out, g5, c5, ?_, ?_⟩, B5.out⟩
  · rw [Int.toNat_natCast, Int.toNat_natCast, LB.out]; rfl
  · rw [Int.toNat_natCast, Int.toNat_natCast, LB.out]; exact O5.out
end Go.Proofs.Ytgemmciokioaiaa.Sg
