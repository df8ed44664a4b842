/- Package ipv4: Parse. Conditions: those that each states. -/
import Derived.Test.YtpnfmohejcdgfaaIp2
import Derived.Test.YtpnfmohejcdgfaaEs
namespace Go.Proofs.Ytpnfmohejcdgfaa.Ip
open Go.ChangeShapes Go.WideShapes Go.ChangeAt Go.RowKit Go.Deep Rk Fl Gx
open Es hiding src_chg chg_below chg_of_row src_apart
set_option linter.unusedVariables false
set_option linter.unusedSimpArgs false

theorem pk_info : (Try.prog.info? 32).map (·.size) = some 6 := by kernel_rfl
abbrev pk0 : Array Value := #[.int .u16 0, .int .u8 0, .int .u8 0, .int .u32 0, .int .u32 0, .slice none 0 0]
/-- The number at a place. -/
def at2 (l : List UInt8) (i k : Nat) : Nat := numB ((l.drop i).take k)
theorem at2_lt (l : List UInt8) (i k : Nat) : at2 l i k < 256 ^ k := by
  have h := numB_lt256 ((l.drop i).take k)
  exact Nat.lt_of_lt_of_le h (Nat.pow_le_pow_right (by omega) (List.length_take_le _ _))
/-- The first byte; how many bytes the head has. -/
def b0 (l : List UInt8) : Nat := (l.getD 0 0).toNat
def hlen (l : List UInt8) : Nat := b0 l % 16 * 4
/-- The error of a Parse. -/
def parErr (l : List UInt8) : Int :=
  if l.length < 20 ∨ b0 l < 69 ∨ 79 < b0 l then 50
  else if l.length < hlen l then 50
  else if fo (tot (l.take (hlen l))) ≠ 65535 then 51
  else if at2 l 2 2 < hlen l ∨ l.length < at2 l 2 2 ∨ ¬ (at2 l 6 2 = 0 ∨ at2 l 6 2 = 16384) then 50 else 0
/-- What Parse tells of bytes l. -/
def Parsed (w w' : World) (e : Ending) (l : List UInt8) : Prop :=
  (parErr l ≠ 0 ∧ e = .returned (.tuple #[.agg pk0, .int .i64 (parErr l)])) ∨
  (parErr l = 0 ∧ ∃ A c, e = .returned (.tuple #[.agg (pkV (at2 l 4 2) (at2 l 8 1) (at2 l 9 1) (at2 l 12 4) (at2 l 16 4) A (at2 l 2 2 - hlen l) c), .int .i64 0]) ∧ Src w' A (at2 l 2 2 - hlen l) c ((l.drop (hlen l)).take (at2 l 2 2 - hlen l)))
theorem and15 (n : Nat) (hn : n ≤ 255) : bits .and .u8 (n : Int) 15 = ((n % 16 : Nat) : Int) := by
  show IntKind.u8.wrap ((BitVec.ofInt 8 (n : Int) &&& BitVec.ofInt 8 ((15 : Nat) : Int)).toNat : Int) = _
  rw [BitVec.toNat_and, BitVec.ofInt_natCast, BitVec.ofInt_natCast, BitVec.toNat_ofNat, BitVec.toNat_ofNat, IntKind.wrap_u8]
  have h1 : n % 2 ^ 8 = n := Nat.mod_eq_of_lt (by omega)
  have h2 : 15 % 2 ^ 8 = 2 ^ 4 - 1 := by decide
  rw [h1, h2, Nat.and_two_pow_sub_one_eq_mod]
  omega
theorem eye_num (l : List UInt8) (i k : Nat) (h1 : 1 ≤ k) (h8 : k ≤ 8) (h20 : 20 ≤ l.length) (hi : i + k ≤ 20) : numS ((l.take 20).drop i, 0) (k : Int) = (at2 l i k, ((l.take 20).drop (i + k), 0)) := by
  rw [numS_ok _ k h1 h8 (by rw [List.length_drop, List.length_take]; omega), List.drop_drop]
  refine Prod.ext ?_ rfl
  show numB _ = numB _
  rw [List.drop_take, List.take_take, Nat.min_eq_left (by omega)]

set_option maxRecDepth 100000 in
set_option maxHeartbeats 4000000 in
theorem parse_any (A : Option Addr) (n c : Nat) (l : List UInt8) (w : World) (hs : Src w A n c l) (hn : n ≤ 1000000) :
    Calls Try.prog 14 #[.slice A n c] w fun e w' => Parsed w w' e l ∧ Below w.heap.size w w' := by
  have b1 : Below w.heap.size w (w.alloc (.cells pk0 32)) := (Below.refl _ w).alloc (Nat.le_refl _) _
  have B1 := Lib.hid b1
  have K1 := Lib.hid (Blk.new w 32 pk0)
  have S1 := Lib.hid (hs.alloc (.cells pk0 32))
  have hl := hs.len
  have hcap := hs.cap
  subst hl
  have BL := Lib.hid (show 0 < l.length → ∀ b o, A = some ⟨b, o, none⟩ → b < w.heap.size from fun h b o e => by obtain ⟨b', o', _, e', h', _⟩ := hs.toBytes.byte (k := 0) h; rw [e] at e'; cases e'; exact h')
  clear b1 hs
  obtain ⟨W, hW⟩ : ∃ W, w.alloc (.cells pk0 32) = W := ⟨_, rfl⟩
  rw [hW] at K1 S1 B1
  have HW := Lib.hid hW
  have z1 := Lib.hid (show W.heap.size = w.heap.size + 1 from by rw [← hW]; simp)
  clear hW
  by_cases h1 : (l.length : Int) < 20
  · have E := Lib.hid (show parErr l = 50 from by unfold parErr; rw [if_pos (.inl (by omega))])
    go_enter Try.func14, Try.ntmps14
    go_upto_region 1 with fail
    rw [HW.out]
    have KZ := Lib.hid (below_setRow B1.out (Nat.le_refl w.heap.size) pk0)
    go_wp2_with (first
      | (refine wpList_store_row rfl 32 (.tmp 2) (.tmp 24) rfl w.heap.size pk0 rfl rfl 32 _ K1.out pk_info rfl (by simp [Value.oneCell']) ?_)
      | fail)
    refine bodyPost_ret (v := .tuple #[.agg pk0, .int .i64 50]) ?_ rfl ?_
    · exact results_cell_tmp Try.results14 _ _ w.heap.size 32 _ (0, 0) _ rfl (K1.out.row _) Try.underlying32 rfl pk_info
    exact ⟨.inl ⟨by rw [E.out]; decide, by rw [E.out]⟩, KZ.out⟩

  obtain ⟨bb, o, hlb, rfl, hbk, c0⟩ := S1.out.byte (k := 0) (by omega)
  have hz0 : b0 l = l[0].toNat := by unfold b0; rw [List.getD_eq_getElem?_getD, List.getElem?_eq_getElem hlb]; rfl
  have hq := l[0].toNat_lt
  generalize l[0].toNat = q at *
  rw [Nat.add_zero] at c0
  by_cases h2 : (q : Int) < 69
  · have E := Lib.hid (show parErr l = 50 from by unfold parErr; rw [if_pos (.inr (.inl (by omega)))])
    go_enter Try.func14, Try.ntmps14
    go_upto_region 1 with fail
    rw [HW.out]
    have KZ := Lib.hid (below_setRow B1.out (Nat.le_refl w.heap.size) pk0)
    go_wp2_with (first
      | (refine wpList_store_row rfl 32 (.tmp 2) (.tmp 24) rfl w.heap.size pk0 rfl rfl 32 _ K1.out pk_info rfl (by simp [Value.oneCell']) ?_)
      | fail)
    refine bodyPost_ret (v := .tuple #[.agg pk0, .int .i64 50]) ?_ rfl ?_
    · exact results_cell_tmp Try.results14 _ _ w.heap.size 32 _ (0, 0) _ rfl (K1.out.row _) Try.underlying32 rfl pk_info
    exact ⟨.inl ⟨by rw [E.out]; decide, by rw [E.out]⟩, KZ.out⟩

  by_cases h3 : (q : Int) > 79
  · have E := Lib.hid (show parErr l = 50 from by unfold parErr; rw [if_pos (.inr (.inr (by omega)))])
    go_enter Try.func14, Try.ntmps14
    go_upto_region 1 with fail
    rw [HW.out]
    have KZ := Lib.hid (below_setRow B1.out (Nat.le_refl w.heap.size) pk0)
    go_wp2_with (first
      | (refine wpList_store_row rfl 32 (.tmp 2) (.tmp 24) rfl w.heap.size pk0 rfl rfl 32 _ K1.out pk_info rfl (by simp [Value.oneCell']) ?_)
      | fail)
    refine bodyPost_ret (v := .tuple #[.agg pk0, .int .i64 50]) ?_ rfl ?_
    · exact results_cell_tmp Try.results14 _ _ w.heap.size 32 _ (0, 0) _ rfl (K1.out.row _) Try.underlying32 rfl pk_info
    exact ⟨.inl ⟨by rw [E.out]; decide, by rw [E.out]⟩, KZ.out⟩

  have ha := and15 q (by omega)
  have hh : hlen l = q % 16 * 4 := by unfold hlen; rw [hz0]
  obtain ⟨m, hm⟩ : ∃ m : Nat, q % 16 * 4 = m := ⟨_, rfl⟩
  have hm1 : (q : Int) % 16 * 4 = (m : Int) := by omega
  have hm2 : 20 ≤ m ∧ m ≤ 60 := by omega
  rw [hm] at hh
  have P1 := Lib.hid (show ¬ (l.length < 20 ∨ b0 l < 69 ∨ 79 < b0 l) from by omega)
  have HH := Lib.hid hh
  have hl20 : 20 ≤ l.length := by omega
  clear hm hz0 hh
  by_cases h4 : (l.length : Int) < (m : Int)
  · have E := Lib.hid (show parErr l = 50 from by unfold parErr; rw [if_neg P1.out, if_pos (by rw [HH.out]; omega)])
    go_enter Try.func14, Try.ntmps14
    go_upto_region 1 with fail
    rw [HW.out]
    have KZ := Lib.hid (below_setRow B1.out (Nat.le_refl w.heap.size) pk0)
    go_wp2_with (first
      | (refine wpList_store_row rfl 32 (.tmp 2) (.tmp 35) rfl w.heap.size pk0 rfl rfl 32 _ K1.out pk_info rfl (by simp [Value.oneCell']) ?_)
      | fail)
    refine bodyPost_ret (v := .tuple #[.agg pk0, .int .i64 50]) ?_ rfl ?_
    · exact results_cell_tmp Try.results14 _ _ w.heap.size 32 _ (0, 0) _ rfl (K1.out.row _) Try.underlying32 rfl pk_info
    exact ⟨.inl ⟨by rw [E.out]; decide, by rw [E.out]⟩, KZ.out⟩

  have hm0 : (0 : Int) ≤ (m : Int) := by omega
  have hmc : (m : Int) ≤ (c : Int) := by omega
  have h20c : (20 : Int) ≤ (c : Int) := by omega
  have GD := Lib.hid (good_ok (some ⟨bb, o, none⟩) m c (l.take m) W (S1.out.toBytes.take (by omega)) (by omega))
  have NW := Lib.hid (fun W' (h : Src W' (some ⟨bb, o, none⟩) l.length c l) => newS_any (some ⟨bb, o, none⟩) 20 c (l.take 20) W' (src_front h (by omega)) (by omega))
  go_enter Try.func14, Try.ntmps14
  go_upto_region 1 with fail
  rw [HW.out]
  clear HW
  go_wp2_with fail
  refine GD.out.mono ?_
  rintro e w2 ⟨rfl, nn, hw2⟩
  have b2 : Below W.heap.size W w2 := by rw [hw2]; exact below_drewN (Below.refl _ _) nn
  have B2 := Lib.hid (B1.out.trans (b2.mono B1.out.size))
  have K2 := Lib.hid (K1.out.older (older_below b2))
  have S2 := Lib.hid (S1.out.below b2)
  clear hw2 b2 GD B1 K1 S1 c0
  by_cases h5 : fo (256 * evs (l.take m) + ods (l.take m)) = 65535
  rotate_left
  · have E := Lib.hid (show parErr l = 51 from by unfold parErr; rw [if_neg P1.out, if_neg (by rw [HH.out]; omega), if_pos (by rw [HH.out]; exact h5)])
    rw [decide_eq_false h5]
    have KZ := Lib.hid (below_setRow B2.out (Nat.le_refl w.heap.size) pk0)
    go_wp2_with (first
      | (refine wpList_store_row rfl 32 (.tmp 2) (.tmp 41) rfl w.heap.size pk0 rfl rfl 32 _ K2.out pk_info rfl (by simp [Value.oneCell']) ?_)
      | fail)
    refine bodyPost_ret (v := .tuple #[.agg pk0, .int .i64 51]) ?_ rfl ?_
    · exact results_cell_tmp Try.results14 _ _ w.heap.size 32 _ (0, 0) _ rfl (K2.out.row _) Try.underlying32 rfl pk_info
    exact ⟨.inl ⟨by rw [E.out]; decide, by rw [E.out]⟩, KZ.out⟩

  rw [decide_eq_true h5]
  have P2 := Lib.hid (show ¬ l.length < hlen l ∧ ¬ fo (tot (l.take (hlen l))) ≠ 65535 from by rw [HH.out]; exact ⟨by omega, fun h => h h5⟩)
  clear h5
  go_wp2_with fail
  refine (NW.out w2 S2.out).mono ?_
  rintro e w3 ⟨g, rfl, e3, hg, b3⟩
  have B3 := Lib.hid (B2.out.trans (b3.mono B2.out.size))
  have K3 := Lib.hid (K2.out.older (older_below b3))
  have S3 := Lib.hid (S2.out.below b3)
  have NG := Lib.hid (show ¬ w.heap.size = g from by have := K2.out.lt; omega)
  have WG := Lib.hid (show w.heap.size ≤ g from by have := K2.out.lt; omega)
  have BB := Lib.hid (show bb < w.heap.size from BL.out (by omega) bb o rfl)
  have NS := Lib.hid (show 0 < l.length → ∀ b' o', (some ⟨bb, o, none⟩ : Option Addr) = some ⟨b', o', none⟩ → ¬ b' = g from fun _ b' o' e => by cases e; have := BB.out; have := WG.out; omega)
  have E3 := Lib.hid (show EyeS w3 g ((l.take 20).drop 0, 0) from e3)
  clear b3 e3 hg B2 K2 S2 NW
  have a2 := at2_lt l 2 2
  have a4 := at2_lt l 4 2
  have a6 := at2_lt l 6 2
  have a8 := at2_lt l 8 1
  have a9 := at2_lt l 9 1
  have a12 := at2_lt l 12 4
  have a16 := at2_lt l 16 4
  have x2 := IntWalk.i64_in (at2 l 2 2 : Int) (by omega)
  have x4 := IntWalk.u16_in (at2 l 4 2 : Int) (by omega)
  have x8 := IntWalk.u8_in (at2 l 8 1 : Int) (by omega)
  have x9 := IntWalk.u8_in (at2 l 9 1 : Int) (by omega)
  have x12 := IntWalk.u32_in (at2 l 12 4 : Int) (by omega)
  have x16 := IntWalk.u32_in (at2 l 16 4 : Int) (by omega)
  have N3 := Lib.hid (show numS ((l.take 20).drop 0, 0) 2 = (at2 l 0 2, ((l.take 20).drop 2, 0)) from eye_num l 0 2 (by omega) (by omega) hl20 (by omega))
  go_wp2_with fail
  refine (numS_any g _ 2 _ E3.out).mono ?_
  (try dsimp only)
  rw [N3.out]
  (try dsimp only)
  rintro e w4 ⟨rfl, e4, k4⟩
  have B4 := Lib.hid (chg_below B3.out k4 WG.out)
  have E4 := Lib.hid e4
  have S4 := Lib.hid (src_chg S3.out k4 NS.out)
  have K4 := Lib.hid (K3.out.chg k4 NG.out)
  clear e4 k4 E3 B3 S3 N3 K3
  have N4 := Lib.hid (show numS ((l.take 20).drop 2, 0) 2 = (at2 l 2 2, ((l.take 20).drop 4, 0)) from eye_num l 2 2 (by omega) (by omega) hl20 (by omega))
  go_wp2_with fail
  refine (numS_any g _ 2 _ E4.out).mono ?_
  (try dsimp only)
  rw [N4.out]
  (try dsimp only)
  rintro e w5 ⟨rfl, e5, k5⟩
  have B5 := Lib.hid (chg_below B4.out k5 WG.out)
  have E5 := Lib.hid e5
  have S5 := Lib.hid (src_chg S4.out k5 NS.out)
  have K5 := Lib.hid (K4.out.chg k5 NG.out)
  clear e5 k5 E4 B4 S4 N4 K4
  have N5 := Lib.hid (show numS ((l.take 20).drop 4, 0) 2 = (at2 l 4 2, ((l.take 20).drop 6, 0)) from eye_num l 4 2 (by omega) (by omega) hl20 (by omega))
  go_wp2_with fail
  refine (numS_any g _ 2 _ E5.out).mono ?_
  (try dsimp only)
  rw [N5.out]
  (try dsimp only)
  rintro e w6 ⟨rfl, e6, k6⟩
  have B6 := Lib.hid (chg_below B5.out k6 WG.out)
  have E6 := Lib.hid e6
  have S6 := Lib.hid (src_chg S5.out k6 NS.out)
  have K6 := Lib.hid (K5.out.chg k6 NG.out)
  clear e6 k6 E5 B5 S5 N5 K5
  have hcb := Lib.hid (cutbits (c := at2 l 6 2) (by omega))
  have N7 := Lib.hid (show numS ((l.take 20).drop 6, 0) 2 = (at2 l 6 2, ((l.take 20).drop 8, 0)) from eye_num l 6 2 (by omega) (by omega) hl20 (by omega))
  have ER := Lib.hid (show parErr l = if at2 l 2 2 < m ∨ l.length < at2 l 2 2 ∨ ¬ (at2 l 6 2 = 0 ∨ at2 l 6 2 = 16384) then 50 else 0 from by
    have h1 := P1.out
    obtain ⟨h2, h3⟩ := P2.out
    unfold parErr
    rw [if_neg h1, if_neg h2, if_neg h3, HH.out])
  obtain ⟨av, hav⟩ : ∃ av, at2 l 2 2 = av := ⟨_, rfl⟩
  obtain ⟨iv, hiv⟩ : ∃ iv, at2 l 4 2 = iv := ⟨_, rfl⟩
  obtain ⟨cv, hcv⟩ : ∃ cv, at2 l 6 2 = cv := ⟨_, rfl⟩
  rw [hav] at x2 a2 ER
  rw [hiv] at x4 a4
  rw [hcv] at hcb a6 ER N7
  simp only [hav, hiv]
  have HAV := Lib.hid hav
  have HIV := Lib.hid hiv
  have HCV := Lib.hid hcv
  clear hav hiv hcv P1 P2
  have b7 : Below w6.heap.size w6 (w6.alloc (.cells (pkV iv 0 0 0 0 none 0 0) 32)) := (Below.refl w6.heap.size w6).alloc (Nat.le_refl _) _
  have R7 := Lib.hid (Blk.new w6 32 (pkV iv 0 0 0 0 none 0 0))
  have B7 := Lib.hid (B6.out.trans (b7.mono B6.out.size))
  have K7 := Lib.hid (K6.out.older (older_below b7))
  have S7 := Lib.hid (S6.out.below b7)
  have E7 := Lib.hid (E6.out.new b7)
  have GR := Lib.hid (show w.heap.size ≤ w6.heap.size from B6.out.size)
  have RG := Lib.hid (show ¬ w6.heap.size = g from by have := E6.out.lt; omega)
  have GL := Lib.hid (show g < w6.heap.size from E6.out.lt)
  have KR := Lib.hid (show ¬ w.heap.size = w6.heap.size from by have := K6.out.lt; omega)
  clear b7 B6 K6 S6 E6
  have SR := Lib.hid (show 0 < l.length → ∀ b' o', (some ⟨bb, o, none⟩ : Option Addr) = some ⟨b', o', none⟩ → ¬ b' = w6.heap.size from fun _ b' o' e => by cases e; have := BB.out; have := GR.out; omega)
  go_upto_region 12 with fail
  generalize w6.alloc (.cells (pkV iv 0 0 0 0 none 0 0) 32) = w7 at *
  generalize w6.heap.size = r at *
  go_wp2_with fail
  refine (numS_any g _ 2 _ E7.out).mono ?_
  (try dsimp only)
  rw [N7.out]
  (try dsimp only)
  rintro e w8 ⟨rfl, e8, k8⟩
  have B8 := Lib.hid (chg_below B7.out k8 WG.out)
  have E8 := Lib.hid e8
  have S8 := Lib.hid (src_chg S7.out k8 NS.out)
  have K8 := Lib.hid (K7.out.chg k8 NG.out)
  have R8 := Lib.hid (R7.out.chg k8 RG.out)
  clear e8 k8 E7 B7 S7 N7 K7 R7
  by_cases h6 : (av : Int) < (m : Int)
  · have E := Lib.hid (show parErr l = 50 from by rw [ER.out, if_pos (.inl (by omega))])
    have KZ := Lib.hid (below_setRow B8.out (Nat.le_refl w.heap.size) pk0)
    go_wp2_with (first
      | (refine wpList_store_row rfl 32 (.tmp 2) (.tmp 70) rfl w.heap.size pk0 rfl rfl 32 _ K8.out pk_info rfl (by simp [Value.oneCell']) ?_)
      | fail)
    refine bodyPost_ret (v := .tuple #[.agg pk0, .int .i64 50]) ?_ rfl ?_
    · exact results_cell_tmp Try.results14 _ _ w.heap.size 32 _ (0, 0) _ rfl (K8.out.row _) Try.underlying32 rfl pk_info
    exact ⟨.inl ⟨by rw [E.out]; decide, by rw [E.out]⟩, KZ.out⟩

  by_cases h7 : (av : Int) > (l.length : Int)
  · have E := Lib.hid (show parErr l = 50 from by rw [ER.out, if_pos (.inr (.inl (by omega)))])
    have KZ := Lib.hid (below_setRow B8.out (Nat.le_refl w.heap.size) pk0)
    go_wp2_with (first
      | (refine wpList_store_row rfl 32 (.tmp 2) (.tmp 70) rfl w.heap.size pk0 rfl rfl 32 _ K8.out pk_info rfl (by simp [Value.oneCell']) ?_)
      | fail)
    refine bodyPost_ret (v := .tuple #[.agg pk0, .int .i64 50]) ?_ rfl ?_
    · exact results_cell_tmp Try.results14 _ _ w.heap.size 32 _ (0, 0) _ rfl (K8.out.row _) Try.underlying32 rfl pk_info
    exact ⟨.inl ⟨by rw [E.out]; decide, by rw [E.out]⟩, KZ.out⟩

  by_cases h8 : cv = 0 ∨ cv = 16384
  rotate_left
  · have E := Lib.hid (show parErr l = 50 from by rw [ER.out, if_pos (.inr (.inr h8))])
    have hb : ¬ bits .andNot .u64 (cv : Int) 16384 = 0 := fun h => h8 (hcb.out.1 h)
    have hb' : (bits .andNot .u64 (cv : Int) 16384 == 0) = false := by simpa using hb
    have hb2 : (bits .andNot .u64 (cv : Int) 16384 != 0) = true := by simpa using hb
    clear h8
    have KZ := Lib.hid (below_setRow B8.out (Nat.le_refl w.heap.size) pk0)
    go_wp2_with (first
      | (refine wpList_store_row rfl 32 (.tmp 2) (.tmp 70) rfl w.heap.size pk0 rfl rfl 32 _ K8.out pk_info rfl (by simp [Value.oneCell']) ?_)
      | fail)
    refine bodyPost_ret (v := .tuple #[.agg pk0, .int .i64 50]) ?_ rfl ?_
    · exact results_cell_tmp Try.results14 _ _ w.heap.size 32 _ (0, 0) _ rfl (K8.out.row _) Try.underlying32 rfl pk_info
    exact ⟨.inl ⟨by rw [E.out]; decide, by rw [E.out]⟩, KZ.out⟩

  have E := Lib.hid (show parErr l = 0 from by rw [ER.out, if_neg (by intro h; rcases h with h | h | h; omega; omega; exact h h8)])
  have hb : bits .andNot .u64 (cv : Int) 16384 = 0 := hcb.out.2 h8
  clear h8 hcb ER
  have N8 := Lib.hid (show numS ((l.take 20).drop 8, 0) 1 = (at2 l 8 1, ((l.take 20).drop 9, 0)) from eye_num l 8 1 (by omega) (by omega) hl20 (by omega))
  go_wp2_with fail
  refine (numS_any g _ 1 _ E8.out).mono ?_
  (try dsimp only)
  rw [N8.out]
  (try dsimp only)
  rintro e w9 ⟨rfl, e9, k9⟩
  have B9 := Lib.hid (chg_below B8.out k9 WG.out)
  have E9 := Lib.hid e9
  have S9 := Lib.hid (src_chg S8.out k9 NS.out)
  have K9 := Lib.hid (K8.out.chg k9 NG.out)
  have R9 := Lib.hid (R8.out.chg k9 RG.out)
  clear e9 k9 E8 B8 S8 N8 K8 R8
  have N9 := Lib.hid (show numS ((l.take 20).drop 9, 0) 1 = (at2 l 9 1, ((l.take 20).drop 10, 0)) from eye_num l 9 1 (by omega) (by omega) hl20 (by omega))
  go_wp2_with fail
  refine (numS_any g _ 1 _ E9.out).mono ?_
  (try dsimp only)
  rw [N9.out]
  (try dsimp only)
  rintro e w10 ⟨rfl, e10, k10⟩
  have B10 := Lib.hid (chg_below B9.out k10 WG.out)
  have E10 := Lib.hid e10
  have S10 := Lib.hid (src_chg S9.out k10 NS.out)
  have K10 := Lib.hid (K9.out.chg k10 NG.out)
  have R10 := Lib.hid (R9.out.chg k10 RG.out)
  clear e10 k10 E9 B9 S9 N9 K9 R9
  have c1 := (R10.out.cell 1).trans (show _ = some (.int .u8 0) from rfl)
  have g1 := R10.out.frozen 1
  have q1 := Lib.hid (R10.out.put 1 (.int .u8 (at2 l 8 1 : Int)))
  have c2 := (q1.out.cell 2).trans (show _ = some (.int .u8 0) from rfl)
  have g2 := q1.out.frozen 2
  obtain ⟨w11, hw11⟩ : ∃ wq, (w10.setCell ⟨r, 1, none⟩ (.int .u8 (at2 l 8 1 : Int))).setCell ⟨r, 2, none⟩ (.int .u8 (at2 l 9 1 : Int)) = wq := ⟨_, rfl⟩
  have R11 := Lib.hid (show Blk w11 r 32 (pkV iv (at2 l 8 1) (at2 l 9 1) 0 0 none 0 0) from by rw [← hw11]; exact q1.out.put 2 (.int .u8 (at2 l 9 1 : Int)))
  have kk : Chg w10 w11 (fun b => b = r) := by rw [← hw11]; exact (Chg.set w10 1 _ (g := r) (S := fun b => b = r) rfl).trans (Chg.set _ 2 _ (g := r) (S := fun b => b = r) rfl)
  have B11 := Lib.hid (B10.out.trans (kk.below B10.out.size (fun k e => by rw [e]; exact GR.out)))
  have K11 := Lib.hid (K10.out.chg kk KR.out)
  have S11 := Lib.hid (src_chg S10.out kk SR.out)
  have E11 := Lib.hid (E10.out.away kk (fun b e => by rw [e]; exact GL.out))
  have HQ := Lib.hid hw11
  clear kk hw11 q1 B10 K10 S10 E10 R10
  go_upto_region 16 with fail
  rw [HQ.out]
  clear HQ c1 g1 c2 g2
  clear hb
  have N11 := Lib.hid (show numS ((l.take 20).drop 10, 0) 2 = (at2 l 10 2, ((l.take 20).drop 12, 0)) from eye_num l 10 2 (by omega) (by omega) hl20 (by omega))
  go_wp2_with fail
  refine (numS_any g _ 2 _ E11.out).mono ?_
  (try dsimp only)
  rw [N11.out]
  (try dsimp only)
  rintro e w12 ⟨rfl, e12, k12⟩
  have B12 := Lib.hid (chg_below B11.out k12 WG.out)
  have E12 := Lib.hid e12
  have S12 := Lib.hid (src_chg S11.out k12 NS.out)
  have K12 := Lib.hid (K11.out.chg k12 NG.out)
  have R12 := Lib.hid (R11.out.chg k12 RG.out)
  clear e12 k12 E11 B11 S11 N11 K11 R11
  have N12 := Lib.hid (show numS ((l.take 20).drop 12, 0) 4 = (at2 l 12 4, ((l.take 20).drop 16, 0)) from eye_num l 12 4 (by omega) (by omega) hl20 (by omega))
  go_wp2_with fail
  refine (numS_any g _ 4 _ E12.out).mono ?_
  (try dsimp only)
  rw [N12.out]
  (try dsimp only)
  rintro e w13 ⟨rfl, e13, k13⟩
  have B13 := Lib.hid (chg_below B12.out k13 WG.out)
  have E13 := Lib.hid e13
  have S13 := Lib.hid (src_chg S12.out k13 NS.out)
  have K13 := Lib.hid (K12.out.chg k13 NG.out)
  have R13 := Lib.hid (R12.out.chg k13 RG.out)
  clear e13 k13 E12 B12 S12 N12 K12 R12
  have N13 := Lib.hid (show numS ((l.take 20).drop 16, 0) 4 = (at2 l 16 4, ((l.take 20).drop 20, 0)) from eye_num l 16 4 (by omega) (by omega) hl20 (by omega))
  go_wp2_with fail
  refine (numS_any g _ 4 _ E13.out).mono ?_
  (try dsimp only)
  rw [N13.out]
  (try dsimp only)
  rintro e w14 ⟨rfl, e14, k14⟩
  have B14 := Lib.hid (chg_below B13.out k14 WG.out)
  have E14 := Lib.hid e14
  have S14 := Lib.hid (src_chg S13.out k14 NS.out)
  have K14 := Lib.hid (K13.out.chg k14 NG.out)
  have R14 := Lib.hid (R13.out.chg k14 RG.out)
  clear e14 k14 E13 B13 S13 N13 K13 R13
  have c1 := (R14.out.cell 3).trans (show _ = some (.int .u32 0) from rfl)
  have g1 := R14.out.frozen 3
  have q1 := Lib.hid (R14.out.put 3 (.int .u32 (at2 l 12 4 : Int)))
  have c2 := (q1.out.cell 4).trans (show _ = some (.int .u32 0) from rfl)
  have g2 := q1.out.frozen 4
  obtain ⟨w15, hw15⟩ : ∃ wq, (w14.setCell ⟨r, 3, none⟩ (.int .u32 (at2 l 12 4 : Int))).setCell ⟨r, 4, none⟩ (.int .u32 (at2 l 16 4 : Int)) = wq := ⟨_, rfl⟩
  have R15 := Lib.hid (show Blk w15 r 32 (pkV iv (at2 l 8 1) (at2 l 9 1) (at2 l 12 4) (at2 l 16 4) none 0 0) from by rw [← hw15]; exact q1.out.put 4 (.int .u32 (at2 l 16 4 : Int)))
  have kk : Chg w14 w15 (fun b => b = r) := by rw [← hw15]; exact (Chg.set w14 3 _ (g := r) (S := fun b => b = r) rfl).trans (Chg.set _ 4 _ (g := r) (S := fun b => b = r) rfl)
  have B15 := Lib.hid (B14.out.trans (kk.below B14.out.size (fun k e => by rw [e]; exact GR.out)))
  have K15 := Lib.hid (K14.out.chg kk KR.out)
  have S15 := Lib.hid (src_chg S14.out kk SR.out)
  have E15 := Lib.hid (E14.out.away kk (fun b e => by rw [e]; exact GL.out))
  have HQ := Lib.hid hw15
  clear kk hw15 q1 B14 K14 S14 E14 R14
  go_upto_region 18 with fail
  rw [HQ.out]
  clear HQ c1 g1 c2 g2
  have n0 : (0 : Int) ≤ (av : Int) := by omega
  have nc : (av : Int) ≤ (c : Int) := by omega
  have nm : (m : Int) ≤ (av : Int) := by omega
  obtain ⟨A9, SL, hA9⟩ := sub_at_u8 (some ⟨bb, o, none⟩) l.length c m av (by omega) (by omega)
  have SB := Lib.hid (src_sub (a := m) (b := av - m) S15.out (by omega))
  rw [← hA9] at SB
  clear hA9
  go_wp2_with (at_builtin; refine Hid.out ?_)
  unfold Hid
  refine wpList_append_src rfl _ _ rfl w15.heap.size (.slice none 0 0) 0 [] rfl (World.ownsRow_nil w15 _ _ _) A9 (av - m) (c - m) ((l.drop m).take (av - m)) rfl SB.out (by omega) (Nat.le_refl _) ?_
  intro v' w16 h1 h2
  rw [Nat.zero_add, List.nil_append] at h1
  obtain ⟨A8, c8, rfl, s8, hA8⟩ := src_of_own h1
  have B16 := Lib.hid (B15.out.trans (h2.mono B15.out.size))
  have K16 := Lib.hid (K15.out.older (older_below h2))
  have R16 := Lib.hid (R15.out.older (older_below h2))
  have S16 := Lib.hid s8
  have hr15 : r < w15.heap.size := R15.out.lt
  have hk15 : w.heap.size < w15.heap.size := K15.out.lt
  have AR := Lib.hid (show 0 < ((l.drop m).take (av - m)).length → ∀ b' o', A8 = some ⟨b', o', none⟩ → ¬ b' = r from fun _ b' o' e => by have := hA8 b' o' e; omega)
  have AK := Lib.hid (show 0 < ((l.drop m).take (av - m)).length → ∀ b' o', A8 = some ⟨b', o', none⟩ → ¬ b' = w.heap.size from fun _ b' o' e => by have := hA8 b' o' e; omega)
  clear h1 h2 s8 hA8 hr15 hk15 B15 K15 R15 S15 SB E15 n0 nc nm
  have c5 := (R16.out.cell 5).trans (show _ = some (.slice none 0 0) from rfl)
  have f5 := R16.out.frozen 5
  have R17 := Lib.hid (show Blk (w16.setCell ⟨r, 5, none⟩ (.slice A8 (av - m) c8)) r 32 (pkV iv (at2 l 8 1) (at2 l 9 1) (at2 l 12 4) (at2 l 16 4) A8 (av - m) c8) from R16.out.put 5 _)
  have K17 := Lib.hid (K16.out.far (p := ⟨r, 5, none⟩) KR.out (.slice A8 (av - m) c8))
  have kk : Chg w16 (w16.setCell ⟨r, 5, none⟩ (.slice A8 (av - m) c8)) (fun b => b = r) := Chg.set w16 5 _ (g := r) (S := fun b => b = r) rfl
  have B17 := Lib.hid (B16.out.trans (kk.below B16.out.size (fun k e => by rw [e]; exact GR.out)))
  have S17 := Lib.hid (src_chg S16.out kk AR.out)
  clear kk
  go_wp2_with (first
    | (refine wpList_load_row rfl 32 (.tmp 7) rfl r rfl 32 _ (0, 0) _ R17.out Try.underlying32 rfl pk_info ?_)
    | (refine wpList_store_row rfl 32 (.tmp 2) (.tmp 95) rfl w.heap.size (pkV iv (at2 l 8 1) (at2 l 9 1) (at2 l 12 4) (at2 l 16 4) A8 (av - m) c8) rfl rfl 32 _ K17.out pk_info rfl (by simp [Value.oneCell']) ?_)
    | fail)
  refine bodyPost_ret (v := .tuple #[.agg (pkV iv (at2 l 8 1) (at2 l 9 1) (at2 l 12 4) (at2 l 16 4) A8 (av - m) c8), .int .i64 0]) ?_ rfl ?_
  · exact results_cell_tmp Try.results14 _ _ w.heap.size 32 _ (0, 0) _ rfl (K17.out.row _) Try.underlying32 rfl pk_info
  have S18 := src_chg S17.out (Chg.setRow (w16.setCell ⟨r, 5, none⟩ (.slice A8 (av - m) c8)) (pkV iv (at2 l 8 1) (at2 l 9 1) (at2 l 12 4) (at2 l 16 4) A8 (av - m) c8) (g := w.heap.size) (S := fun b => b = w.heap.size) rfl) AK.out
  refine ⟨.inr ⟨E.out, A8, c8, ?_, ?_⟩, below_setRow B17.out (Nat.le_refl _) _⟩
  · rw [HAV.out, HIV.out, HH.out]
  · rw [HAV.out, HH.out]; exact S18
end Go.Proofs.Ytpnfmohejcdgfaa.Ip
