/- 'pantlerlaw02.OctetBack' where the number has at most six bytes. Conditions: those that it states. -/
import Derived.Test.YtflbckeebmlofaaDoorNumBe
import Derived.Deep.RegionWith
import Derived.Deep.RegionHeld3
import Derived.Deep.RegionLaw
import Derived.Deep.DeepCutAuto
import Derived.Deep.QuietTactic
import Derived.BigQuiet
namespace Go.Proofs.YtflbckeebmlofaaDoor
open Go.ChangeShapes Go.WideShapes Go.ChangeAt Go.RowKit Go.Deep
set_option linter.unusedVariables false

set_option maxRecDepth 100000 in
set_option maxHeartbeats 4000000 in
theorem back_small (w : World) (hv : Vars w) (n : Nat) (hn : n ≤ 18446744073709551615) (hm : n < 256 ^ 6) (z : Int) (a : Nat) (ha : a ≤ 4294967295) (A : Option Addr) (nr cr : Nat) (l : List UInt8) (hb : Src w A nr cr l) (hnr : nr ≤ 1000) :
    Calls Tryd.prog 5 #[.int .u64 (n : Int), .int .i64 z, .int .u32 (a : Int), .slice A nr cr] w fun e w' => e = .returned (.bool true) ∧ Below w.heap.size w w' := by
  have hlen := hb.len
  have g1 : ¬ (nr : Int) > 1000 := by omega
  have HB := Lib.hid hb
  have HM := Lib.hid hm
  clear hb hm
  by_cases hz : z < 1 ∨ 8 < z
  · go_enter Tryd.func5, Tryd.ntmps5
    go_wp2_with fail
    refine (alive_any _ hv).mono ?_; rintro e w1 ⟨rfl, b1⟩
    have hv1 := Lib.hid (hv.below b1)
    have B1 := Lib.hid b1
    clear b1 hv
    go_wp2_with fail
    refine (ip_any a ha _ hv1.out).mono ?_; rintro e w2 ⟨rfl, b2⟩
    have hv2 := Lib.hid (hv1.out.below b2)
    have B2 := Lib.hid (B1.out.trans (b2.mono B1.out.size))
    clear b2 hv1
    go_wp2_with fail
    refine (parseIP_ok a ha _ hv2.out).mono ?_; rintro e w3 ⟨rfl, b3⟩
    have hv3 := Lib.hid (hv2.out.below b3)
    have B3 := Lib.hid (B2.out.trans (b3.mono B2.out.size))
    clear b3 hv2
    go_wp2_with fail
    refine (mac_ok n HM.out _).mono ?_; rintro e w4 ⟨rfl, b4⟩
    have hv4 := Lib.hid (hv3.out.below b4)
    have B4 := Lib.hid (B3.out.trans (b4.mono B3.out.size))
    clear b4 hv3
    go_wp2_with fail
    refine (parseMAC_ok n HM.out _ hv4.out).mono ?_; rintro e w5 ⟨rfl, b5⟩
    have B5 := Lib.hid (B4.out.trans (b5.mono B4.out.size))
    clear b5 hv4
    go_wp2_with fail
    refine (put_wide none 0 0 n z _ hz).mono ?_; rintro e wq ⟨rfl, rfl⟩
    go_wp2
    go_ret
    exact ⟨rfl, B5.out⟩
  · obtain ⟨k, rfl⟩ : ∃ k : Nat, z = k := ⟨z.toNat, by omega⟩
    have k1 : 1 ≤ k := by omega
    have k8 : k ≤ 8 := by omega
    clear hz
    by_cases hf : n < 256 ^ k
    · have HF := Lib.hid hf
      have hnum : numB (be n k) = n := by rw [numB_be, Nat.mod_eq_of_lt hf]
      have hbl := be_length n k
      clear hf
      go_enter Tryd.func5, Tryd.ntmps5
      go_wp2_with fail
      refine (alive_any _ hv).mono ?_; rintro e w1 ⟨rfl, b1⟩
      have hv1 := Lib.hid (hv.below b1)
      have B1 := Lib.hid b1
      clear b1 hv
      go_wp2_with fail
      refine (ip_any a ha _ hv1.out).mono ?_; rintro e w2 ⟨rfl, b2⟩
      have hv2 := Lib.hid (hv1.out.below b2)
      have B2 := Lib.hid (B1.out.trans (b2.mono B1.out.size))
      clear b2 hv1
      go_wp2_with fail
      refine (parseIP_ok a ha _ hv2.out).mono ?_; rintro e w3 ⟨rfl, b3⟩
      have hv3 := Lib.hid (hv2.out.below b3)
      have B3 := Lib.hid (B2.out.trans (b3.mono B2.out.size))
      clear b3 hv2
      go_wp2_with fail
      refine (mac_ok n HM.out _).mono ?_; rintro e w4 ⟨rfl, b4⟩
      have hv4 := Lib.hid (hv3.out.below b4)
      have B4 := Lib.hid (B3.out.trans (b4.mono B3.out.size))
      clear b4 hv3
      go_wp2_with fail
      refine (parseMAC_ok n HM.out _ hv4.out).mono ?_; rintro e w5 ⟨rfl, b5⟩
      have B5 := Lib.hid (B4.out.trans (b5.mono B4.out.size))
      clear b5 hv4
      go_wp2_with fail
      refine (put_ok none 0 0 [] n k _ (Src.nil _) (by omega) hn k1 k8 HF.out).mono ?_; rintro e w6 ⟨g6, c6, rfl, O, b6⟩
      simp only [Nat.zero_add, List.nil_append] at O
      have s56 := b6.size
      have hr6 := Lib.hid (HB.out.below (B5.out.trans (b6.mono B5.out.size)))
      have B6 := Lib.hid (B5.out.trans (b6.mono B5.out.size))
      have O6 := Lib.hid O
      clear O b6
      go_wp2_with (at_builtin; refine Hid.out ?_)
      unfold Hid
      refine wpList_append_src rfl _ _ rfl w5.heap.size _ k (be n k) rfl O6.out.own A nr cr l rfl hr6.out (by omega) s56 ?_
      intro v7 w7 h7 b7
      obtain ⟨A7, c7, rfl, hs7, _⟩ := src_of_own h7
      have s7 := b7.size
      have B7 := Lib.hid (B6.out.trans (b7.mono B5.out.size))
      have HS7 := Lib.hid hs7
      clear h7 hs7 b7 O6 hr6
      go_wp2_with fail
      refine (new_any A7 (k + nr) c7 (be n k ++ l) _ HS7.out (by omega)).mono ?_; rintro e w8 ⟨g, rfl, hE, hg, b8⟩
      have hg0 : w.heap.size ≤ g := Nat.le_trans B7.out.size hE.1
      have hE0 : EyeAt w8 w.heap.size g (be n k ++ l) 0 := ⟨hg0, hE.2⟩
      have HE := Lib.hid hE0
      have B8 := Lib.hid (B7.out.trans (b8.mono B7.out.size))
      clear hE hE0 b8 HS7 B7 B6 B5
      have hr : ∀ W, Below w.heap.size w W → (convert 22 9 (.slice A nr cr)).run Tryd.prog W = .ok (.string ⟨l.toArray⟩) W := fun W hW => told_str (HB.out.below hW)
      have nm : ∀ W, EyeAt W w.heap.size g (be n k ++ l) 0 ∧ Below w.heap.size w W → Calls Tryd.prog 12 #[.pointer (some ⟨g, 0, none⟩), .int .i64 (k : Int)] W fun e w' => e = .returned (.int .u64 (n : Int)) ∧ EyeAt w' w.heap.size g l 0 ∧ Below w.heap.size w w' := by
        intro W ⟨h1, h2⟩
        have ht : takeR (be n k ++ l) 0 (k : Int) true = (be n k, l, 0) := by
          rw [takeR_ok (by simp; omega) (by simp; omega), Int.toNat_natCast]
          rw [List.take_left' hbl, List.drop_left' hbl]
        have h := num_any w.heap.size g (be n k ++ l) 0 k W h1 (fun h => absurd rfl h)
        rw [ht] at h
        refine h.mono ?_
        rintro e w' ⟨rfl, h3, h4⟩
        exact ⟨by rw [hnum], h3, h2.trans (grown_below h4 hg0 h2.size)⟩
      have by' : ∀ W, EyeAt W w.heap.size g l 0 ∧ Below w.heap.size w W → Calls Tryd.prog 14 #[.pointer (some ⟨g, 0, none⟩), .int .i64 (nr : Int)] W fun e w' => ∃ A9 c9, e = .returned (.slice A9 nr c9) ∧ Src w' A9 nr c9 l ∧ EyeAt w' w.heap.size g [] 0 ∧ Below w.heap.size w w' := by
        intro W ⟨h1, h2⟩
        have ht : takeR l 0 (nr : Int) false = (l, [], 0) := by
          rw [takeR_ok (by simp <;> omega) (by omega), Int.toNat_natCast]
          rw [List.take_of_length_le (by omega), List.drop_eq_nil_of_le (by omega)]
        have h := bytes_any w.heap.size g l 0 nr W h1 (fun h => absurd rfl h)
        rw [ht] at h
        refine h.mono ?_
        rintro e w' ⟨A9, c9, rfl, h0, h3, h4⟩
        rw [hlen] at h0
        exact ⟨A9, c9, by rw [hlen], h0, h3, h2.trans (grown_below h4 hg0 h2.size)⟩
      have dn : ∀ W, EyeAt W w.heap.size g [] 0 → Calls Tryd.prog 17 #[.pointer (some ⟨g, 0, none⟩)] W fun e w' => e = .returned (.int .i64 0) ∧ w' = W := fun W h => done_any w.heap.size g [] 0 W h
      have HR := Lib.hid hr
      have NM := Lib.hid nm
      have BY := Lib.hid by'
      have DN := Lib.hid dn
      have E0 := Lib.hid (show EyeAt w8.drew w.heap.size g (be n k ++ l) 0 ∧ Below w.heap.size w w8.drew from ⟨HE.out.older ⟨Nat.le_refl _, fun _ _ => rfl⟩, B8.out.drew⟩)
      clear hr nm by' dn hbl hnum HE
      go_upto_region 17 with fail
      go_region_law (first
        | (go_simp; go_at_call 12; refine (NM.out _ E0.out).mono ?_; rintro e wn ⟨rfl, hn1, hn2⟩; have E1 := Lib.hid (And.intro hn1 hn2); have r1 := HR.out _ hn2; clear hn1 hn2)
        | (go_simp; go_at_call 14; refine (BY.out _ E1.out).mono ?_; rintro e wb ⟨A9, c9, rfl, hb1, hb2, hb3⟩; have t9 := told_str hb1; have r2 := HR.out _ hb3; have E2 := Lib.hid (And.intro hb2 hb3); clear hb1 hb2 hb3)
        | (go_simp; go_at_call 17; refine (DN.out _ E2.out.1).mono ?_; rintro e wd ⟨rfl, rfl⟩))
      all_goals
        go_wp2
        go_ret
        exact ⟨by first | (simp; done) | (simp; rfl) | (simp [Act.put]; done), E2.out.2⟩
    · have HF := Lib.hid hf
      clear hf
      go_enter Tryd.func5, Tryd.ntmps5
      go_wp2_with fail
      refine (alive_any _ hv).mono ?_; rintro e w1 ⟨rfl, b1⟩
      have hv1 := Lib.hid (hv.below b1)
      have B1 := Lib.hid b1
      clear b1 hv
      go_wp2_with fail
      refine (ip_any a ha _ hv1.out).mono ?_; rintro e w2 ⟨rfl, b2⟩
      have hv2 := Lib.hid (hv1.out.below b2)
      have B2 := Lib.hid (B1.out.trans (b2.mono B1.out.size))
      clear b2 hv1
      go_wp2_with fail
      refine (parseIP_ok a ha _ hv2.out).mono ?_; rintro e w3 ⟨rfl, b3⟩
      have hv3 := Lib.hid (hv2.out.below b3)
      have B3 := Lib.hid (B2.out.trans (b3.mono B2.out.size))
      clear b3 hv2
      go_wp2_with fail
      refine (mac_ok n HM.out _).mono ?_; rintro e w4 ⟨rfl, b4⟩
      have hv4 := Lib.hid (hv3.out.below b4)
      have B4 := Lib.hid (B3.out.trans (b4.mono B3.out.size))
      clear b4 hv3
      go_wp2_with fail
      refine (parseMAC_ok n HM.out _ hv4.out).mono ?_; rintro e w5 ⟨rfl, b5⟩
      have B5 := Lib.hid (B4.out.trans (b5.mono B4.out.size))
      clear b5 hv4
      go_wp2_with fail
      refine (put_big none 0 0 n k _ hn k1 k8 HF.out).mono ?_; rintro e wq ⟨rfl, rfl⟩
      go_wp2
      go_ret
      exact ⟨rfl, B5.out⟩
end Go.Proofs.YtflbckeebmlofaaDoor
