/- Package seg: Parse of what is too short, of a wrong sum, of what is good. Conditions: those that each states. -/
import Derived.Test.YtgemmciokioaiaaSg5
namespace Go.Proofs.Ytgemmciokioaiaa.Sg
open Go.ChangeShapes Go.WideShapes Go.ChangeAt Go.RowKit Go.Deep Rk Fl Gx
open Es hiding src_chg chg_below chg_of_row src_apart
open Ip (wb vw vw_length vw_get wb_append wb_length be2 nb1 nb0 evs_word evs_snocw or16 tot tot_wb psW psW_small psW_bytes be_two be_four u8_eq)
set_option linter.unusedVariables false
set_option linter.unusedSimpArgs false

set_option maxRecDepth 100000 in
set_option maxHeartbeats 2000000 in
theorem parse_short (A : Option Addr) (c : Nat) (l : List UInt8) (s d : Nat) (w : World) (hs : Src w A l.length c l) (hn : l.length < 20) :
    Calls Try.prog 15 #[.slice A l.length c, .int .u32 (s : Int), .int .u32 (d : Int)] w fun e w' => e = .returned (.tuple #[.agg sg0, .int .i64 50]) ∧ Below w.heap.size w w' := by
  have b1 : Below w.heap.size w (w.alloc (.cells sg0 32)) := (Below.refl _ w).alloc (Nat.le_refl _) _
  have B1 := Lib.hid b1
  have K1 := Lib.hid (Blk.new w 32 sg0)
  have S1 := Lib.hid (hs.alloc (.cells sg0 32))
  have BL := Lib.hid (show ∀ b o, A = some ⟨b, o, none⟩ → 0 < l.length → b < w.heap.size from fun b o e h => by obtain ⟨b', o', _, e', h', _⟩ := hs.toBytes.byte (k := 0) h; rw [e] at e'; cases e'; exact h')
  clear b1 hs
  obtain ⟨W, hW⟩ : ∃ W, w.alloc (.cells sg0 32) = W := ⟨_, rfl⟩
  rw [hW] at K1 S1 B1
  have HW := Lib.hid hW
  clear hW
  have h1 : (l.length : Int) < 20 := by omega
  go_enter Try.func15, Try.ntmps15
  go_upto_region 1 with fail
  rw [HW.out]
  have KZ := Lib.hid (below_setRow B1.out (Nat.le_refl w.heap.size) sg0)
  go_wp2_with (first
    | (refine wpList_store_row rfl 32 (.tmp 6) (.tmp 20) rfl w.heap.size sg0 rfl rfl 32 _ K1.out sg_info rfl (by simp [Value.oneCell']) ?_)
    | fail)
  refine bodyPost_ret (v := .tuple #[.agg sg0, .int .i64 50]) ?_ rfl ?_
  · exact results_cell_tmp Try.results15 _ _ w.heap.size 32 _ (0, 0) _ rfl (K1.out.row _) Try.underlying32 rfl sg_info
  exact ⟨rfl, KZ.out⟩

set_option maxRecDepth 100000 in
set_option maxHeartbeats 2000000 in
theorem parse_sum (A : Option Addr) (c : Nat) (l : List UInt8) (s d : Nat) (hsd : s ≤ 4294967295) (hdd : d ≤ 4294967295) (w : World) (hs : Src w A l.length c l) (hn : 20 ≤ l.length) (h9 : l.length ≤ 990) (hb : fo (tot (wb (psW s d 6 l.length)) + tot l) ≠ 65535) :
    Calls Try.prog 15 #[.slice A l.length c, .int .u32 (s : Int), .int .u32 (d : Int)] w fun e w' => e = .returned (.tuple #[.agg sg0, .int .i64 51]) ∧ Below w.heap.size w w' := by
  have b1 : Below w.heap.size w (w.alloc (.cells sg0 32)) := (Below.refl _ w).alloc (Nat.le_refl _) _
  have B1 := Lib.hid b1
  have K1 := Lib.hid (Blk.new w 32 sg0)
  have S1 := Lib.hid (hs.alloc (.cells sg0 32))
  have BL := Lib.hid (show ∀ b o, A = some ⟨b, o, none⟩ → 0 < l.length → b < w.heap.size from fun b o e h => by obtain ⟨b', o', _, e', h', _⟩ := hs.toBytes.byte (k := 0) h; rw [e] at e'; cases e'; exact h')
  clear b1 hs
  obtain ⟨W, hW⟩ : ∃ W, w.alloc (.cells sg0 32) = W := ⟨_, rfl⟩
  rw [hW] at K1 S1 B1
  have HW := Lib.hid hW
  clear hW
  have h1 : ¬ (l.length : Int) < 20 := by omega
  have h2 : ¬ (l.length : Int) > 990 := by omega
  have GD := Lib.hid (isGood_any A c l s d hsd hdd W S1.out (by omega))
  rw [decide_eq_false hb] at GD
  go_enter Try.func15, Try.ntmps15
  go_upto_region 1 with fail
  rw [HW.out]
  go_wp2_with fail
  refine GD.out.mono ?_; rintro e w2 ⟨rfl, b2⟩
  have B2 := Lib.hid (B1.out.trans (b2.mono B1.out.size))
  have K2 := Lib.hid (K1.out.older (older_below b2))
  have KZ := Lib.hid (below_setRow B2.out (Nat.le_refl w.heap.size) sg0)
  go_wp2_with (first
    | (refine wpList_store_row rfl 32 (.tmp 6) (.tmp 26) rfl w.heap.size sg0 rfl rfl 32 _ K2.out sg_info rfl (by simp [Value.oneCell']) ?_)
    | fail)
  refine bodyPost_ret (v := .tuple #[.agg sg0, .int .i64 51]) ?_ rfl ?_
  · exact results_cell_tmp Try.results15 _ _ w.heap.size 32 _ (0, 0) _ rfl (K2.out.row _) Try.underlying32 rfl sg_info
  exact ⟨rfl, KZ.out⟩

set_option maxRecDepth 100000 in
set_option maxHeartbeats 4000000 in
theorem parse_good (A : Option Addr) (c : Nat) (l : List UInt8) (s d : Nat) (hsd : s ≤ 4294967295) (hdd : d ≤ 4294967295) (w : World) (hs : Src w A l.length c l) (hl20 : 20 ≤ l.length) (h9 : l.length ≤ 990) (hb : fo (tot (wb (psW s d 6 l.length)) + tot l) = 65535)
    (sz m : Nat) (h12 : (l.getD 12 0).toNat / 16 * 4 = sz) (hz20 : 20 ≤ sz) (hzl : sz ≤ l.length)
    (hm : ∀ W A c, Src W A (sz - 20) c ((l.drop 20).take (sz - 20)) → Calls Try.prog 29 #[.slice A (sz - 20) c] W fun e w' => e = .returned (.tuple #[.int .i64 (m : Int), .int .i64 0]) ∧ Below W.heap.size W w') :
    Calls Try.prog 15 #[.slice A l.length c, .int .u32 (s : Int), .int .u32 (d : Int)] w fun e w' => (∃ A' c', e = .returned (.tuple #[.agg (sgV (at2 l 0 2) (at2 l 2 2) (at2 l 4 4) (at2 l 8 4) ((at2 l 13 1 % 64 : Nat) : Int) (at2 l 14 2) (m : Int) A' (l.length - sz) c'), .int .i64 0]) ∧ Src w' A' (l.length - sz) c' (l.drop sz)) ∧ Below w.heap.size w w' := by
  have hcap := hs.cap
  have b1 : Below w.heap.size w (w.alloc (.cells sg0 32)) := (Below.refl _ w).alloc (Nat.le_refl _) _
  have B1 := Lib.hid b1
  have K1 := Lib.hid (Blk.new w 32 sg0)
  have S1 := Lib.hid (hs.alloc (.cells sg0 32))
  have BL := Lib.hid (show ∀ b o, A = some ⟨b, o, none⟩ → 0 < l.length → b < w.heap.size from fun b o e h => by obtain ⟨b', o', _, e', h', _⟩ := hs.toBytes.byte (k := 0) h; rw [e] at e'; cases e'; exact h')
  clear b1 hs
  obtain ⟨W, hW⟩ : ∃ W, w.alloc (.cells sg0 32) = W := ⟨_, rfl⟩
  rw [hW] at K1 S1 B1
  have HW := Lib.hid hW
  clear hW
  have h1 : ¬ (l.length : Int) < 20 := by omega
  have h2 : ¬ (l.length : Int) > 990 := by omega
  have GD := Lib.hid (isGood_any A c l s d hsd hdd W S1.out (by omega))
  rw [decide_eq_true hb] at GD
  have MS := Lib.hid hm
  obtain ⟨bb, o, hlb, rfl, hbk, c12⟩ := S1.out.toBytes.byte (k := 12) (by omega)
  have h12' : l[12].toNat / 16 * 4 = sz := by rw [← h12, List.getD_eq_getElem?_getD, List.getElem?_eq_getElem hlb]; rfl
  have hq := l[12].toNat_lt
  generalize l[12].toNat = H at *
  have hsz : (H : Int) / 16 * 4 = (sz : Int) := by omega
  have hsz2 : ¬ (sz : Int) < 20 := by omega
  have hsz3 : ¬ (sz : Int) > (l.length : Int) := by omega
  have hi1 := IntWalk.i64_in ((H : Int) / 16) (by omega)
  have hi2 := IntWalk.i64_in (sz : Int) (by omega)
  have C12 := Lib.hid c12
  have RD := Lib.hid (fun g w hE => read_any g l hl20 w hE)
  obtain ⟨gv, hgv⟩ : ∃ v, at2 l 13 1 % 64 = v := ⟨_, rfl⟩
  obtain ⟨f, hf⟩ : ∃ v, at2 l 0 2 = v := ⟨_, rfl⟩
  obtain ⟨t, ht⟩ : ∃ v, at2 l 2 2 = v := ⟨_, rfl⟩
  obtain ⟨q, hqq⟩ : ∃ v, at2 l 4 4 = v := ⟨_, rfl⟩
  obtain ⟨a, ha⟩ : ∃ v, at2 l 8 4 = v := ⟨_, rfl⟩
  obtain ⟨wi, hwi⟩ : ∃ v, at2 l 14 2 = v := ⟨_, rfl⟩
  rw [hgv, hf, ht, hqq, ha, hwi] at RD ⊢
  clear hb hm h12 h12' hq c12 hgv hf ht hqq ha hwi
  go_enter Try.func15, Try.ntmps15
  go_upto_region 1 with fail
  rw [HW.out]
  clear HW
  go_wp2_with fail
  refine GD.out.mono ?_; rintro e w2 ⟨rfl, b2⟩
  have B2 := Lib.hid (B1.out.trans (b2.mono B1.out.size))
  have K2 := Lib.hid (K1.out.older (older_below b2))
  have S2 := Lib.hid (S1.out.below b2)
  have c12 : w2.cell? ⟨bb, o + 12, none⟩ = some (.int .u8 (H : Int)) := by rw [World.cell?_of_block (w := W) (w' := w2) (a := ⟨bb, o + 12, none⟩) (b2.block bb hbk)]; exact C12.out
  clear b2 B1 K1 S1 GD C12 hbk
  obtain ⟨A3, SL3, hA3⟩ := sub_at_u8 (some ⟨bb, o, none⟩) l.length c 20 sz hz20 (by omega)
  have SO := Lib.hid (src_sub (a := 20) (b := sz - 20) S2.out (by omega))
  rw [← hA3] at SO
  replace SL3 : ∀ W, (Instr.sliceAt 27 (.slice (some ⟨bb, o, none⟩) l.length c) (some (.int .i64 20)) (some (.int .i64 (sz : Int))) none).run Try.prog W = .ok (.slice A3 (sz - 20) (c - 20)) W := SL3
  have MT := Lib.hid (MS.out w2 A3 (c - 20) SO.out)
  have n0 : (0 : Int) ≤ 20 := by omega
  have n1 : (20 : Int) ≤ (sz : Int) := by omega
  have n2 : (sz : Int) ≤ (c : Int) := by omega
  clear hA3 MS SO
  go_wp2_with fail
  refine MT.out.mono ?_; rintro e w3 ⟨rfl, b3⟩
  have B3 := Lib.hid (B2.out.trans (b3.mono B2.out.size))
  have K3 := Lib.hid (K2.out.older (older_below b3))
  have S3 := Lib.hid (S2.out.below b3)
  clear b3 B2 K2 S2 MT c12 SL3
  have h20c : (20 : Int) ≤ (c : Int) := by omega
  have NW := Lib.hid (newS_any (some ⟨bb, o, none⟩) 20 c (l.take 20) w3 (src_front S3.out (by omega)) (by omega))
  go_wp2_with fail
  refine NW.out.mono ?_
  rintro e w4 ⟨g, rfl, e4, hg, b4⟩
  have B4 := Lib.hid (B3.out.trans (b4.mono B3.out.size))
  have K4 := Lib.hid (K3.out.older (older_below b4))
  have S4 := Lib.hid (S3.out.below b4)
  have NG := Lib.hid (show ¬ w.heap.size = g from by have := K3.out.lt; omega)
  have WG := Lib.hid (show w.heap.size ≤ g from by have := K3.out.lt; omega)
  have BB := Lib.hid (show bb < w.heap.size from BL.out bb o rfl (by omega))
  have NS := Lib.hid (show 0 < l.length → ∀ b' o', (some ⟨bb, o, none⟩ : Option Addr) = some ⟨b', o', none⟩ → ¬ b' = g from fun _ b' o' e => by cases e; have := BB.out; have := WG.out; omega)
  have E4 := Lib.hid (show EyeS w4 g ((l.take 20).drop 0, 0) from e4)
  clear b4 e4 hg B3 K3 S3 NW BL
  go_wp2_with fail
  refine (RD.out g w4 E4.out).mono ?_
  rintro e w5 ⟨rfl, k5⟩
  have B5 := Lib.hid (chg_below B4.out k5 WG.out)
  have K5 := Lib.hid (K4.out.chg k5 NG.out)
  have S5 := Lib.hid (src_chg S4.out k5 NS.out)
  clear k5 B4 K4 S4 E4 NS
  have b6 : Below w5.heap.size w5 (w5.alloc (.cells (sgV f t q a (gv : Int) wi 0 none 0 0) 32)) := (Below.refl w5.heap.size w5).alloc (Nat.le_refl _) _
  have R6 := Lib.hid (Blk.new w5 32 (sgV f t q a (gv : Int) wi 0 none 0 0))
  have B6 := Lib.hid (B5.out.trans (b6.mono B5.out.size))
  have K6 := Lib.hid (K5.out.older (older_below b6))
  have S6 := Lib.hid (S5.out.below b6)
  have GR := Lib.hid (show w.heap.size ≤ w5.heap.size from B5.out.size)
  have KR := Lib.hid (show ¬ w.heap.size = w5.heap.size from by have := K5.out.lt; omega)
  clear b6 B5 K5 S5
  have SR := Lib.hid (show 0 < l.length → ∀ b' o', (some ⟨bb, o, none⟩ : Option Addr) = some ⟨b', o', none⟩ → ¬ b' = w5.heap.size from fun _ b' o' e => by cases e; have := BB.out; have := GR.out; omega)
  go_upto_region 12 with fail
  generalize w5.alloc (.cells (sgV f t q a (gv : Int) wi 0 none 0 0) 32) = w6 at *
  generalize w5.heap.size = r at *
  have c1 := (R6.out.cell 6).trans (show _ = some (.int .i64 0) from rfl)
  have g1 := R6.out.frozen 6
  obtain ⟨w7, hw7⟩ : ∃ wq, w6.setCell ⟨r, 6, none⟩ (.int .i64 (m : Int)) = wq := ⟨_, rfl⟩
  have R7 := Lib.hid (show Blk w7 r 32 (sgV f t q a (gv : Int) wi (m : Int) none 0 0) from by rw [← hw7]; exact R6.out.put 6 (.int .i64 (m : Int)))
  have kk : Chg w6 w7 (fun b => b = r) := by rw [← hw7]; exact Chg.set w6 6 _ (g := r) (S := fun b => b = r) rfl
  have B7 := Lib.hid (B6.out.trans (kk.below B6.out.size (fun k e => by rw [e]; exact GR.out)))
  have K7 := Lib.hid (K6.out.chg kk KR.out)
  have S7 := Lib.hid (src_chg S6.out kk SR.out)
  have HQ := Lib.hid hw7
  clear kk hw7 B6 K6 S6 R6
  go_upto_region 13 with fail
  rw [HQ.out]
  clear HQ c1 g1
  obtain ⟨A9, SL9, hA9⟩ := back_at_u8 (some ⟨bb, o, none⟩) l.length c sz hzl
  have SB := Lib.hid (src_sub (a := sz) (b := l.length - sz) S7.out (by omega))
  rw [← hA9, show (l.drop sz).take (l.length - sz) = l.drop sz from List.take_of_length_le (by rw [List.length_drop]; exact Nat.le_refl _)] at SB
  have z0 : (0 : Int) ≤ (sz : Int) := by omega
  clear hA9
  go_wp2_with (at_builtin; refine Hid.out ?_)
  unfold Hid
  refine wpList_append_src rfl _ _ rfl w7.heap.size (.slice none 0 0) 0 [] rfl (World.ownsRow_nil w7 _ _ _) A9 (l.length - sz) (c - sz) (l.drop sz) rfl SB.out (by omega) (Nat.le_refl _) ?_
  intro v' w8 h1' h2'
  rw [Nat.zero_add, List.nil_append] at h1'
  obtain ⟨A8, c8, rfl, s8, hA8⟩ := src_of_own h1'
  have B8 := Lib.hid (B7.out.trans (h2'.mono B7.out.size))
  have K8 := Lib.hid (K7.out.older (older_below h2'))
  have R8 := Lib.hid (R7.out.older (older_below h2'))
  have S8 := Lib.hid s8
  have hr7 : r < w7.heap.size := R7.out.lt
  have hk7 : w.heap.size < w7.heap.size := K7.out.lt
  have AR := Lib.hid (show 0 < (l.drop sz).length → ∀ b' o', A8 = some ⟨b', o', none⟩ → ¬ b' = r from fun _ b' o' e => by have := hA8 b' o' e; omega)
  have AK := Lib.hid (show 0 < (l.drop sz).length → ∀ b' o', A8 = some ⟨b', o', none⟩ → ¬ b' = w.heap.size from fun _ b' o' e => by have := hA8 b' o' e; omega)
  clear h1' h2' s8 hA8 hr7 hk7 B7 K7 R7 S7 SB SL9
  have c7 := (R8.out.cell 7).trans (show _ = some (.slice none 0 0) from rfl)
  have f7 := R8.out.frozen 7
  have R9 := Lib.hid (show Blk (w8.setCell ⟨r, 7, none⟩ (.slice A8 (l.length - sz) c8)) r 32 (sgV f t q a (gv : Int) wi (m : Int) A8 (l.length - sz) c8) from R8.out.put 7 _)
  have K9 := Lib.hid (K8.out.far (p := ⟨r, 7, none⟩) KR.out (.slice A8 (l.length - sz) c8))
  have kk : Chg w8 (w8.setCell ⟨r, 7, none⟩ (.slice A8 (l.length - sz) c8)) (fun b => b = r) := Chg.set w8 7 _ (g := r) (S := fun b => b = r) rfl
  have B9 := Lib.hid (B8.out.trans (kk.below B8.out.size (fun k e => by rw [e]; exact GR.out)))
  have S9 := Lib.hid (src_chg S8.out kk AR.out)
  clear kk
  go_wp2_with (first
    | (refine wpList_load_row rfl 32 (.tmp 11) rfl r rfl 32 _ (0, 0) _ R9.out Try.underlying32 rfl sg_info ?_)
    | (refine wpList_store_row rfl 32 (.tmp 6) (.tmp 64) rfl w.heap.size (sgV f t q a (gv : Int) wi (m : Int) A8 (l.length - sz) c8) rfl rfl 32 _ K9.out sg_info rfl (by simp [Value.oneCell']) ?_)
    | fail)
  refine bodyPost_ret (v := .tuple #[.agg (sgV f t q a (gv : Int) wi (m : Int) A8 (l.length - sz) c8), .int .i64 0]) ?_ rfl ?_
  · exact results_cell_tmp Try.results15 _ _ w.heap.size 32 _ (0, 0) _ rfl (K9.out.row _) Try.underlying32 rfl sg_info
  have S10 := src_chg S9.out (Chg.setRow (w8.setCell ⟨r, 7, none⟩ (.slice A8 (l.length - sz) c8)) (sgV f t q a (gv : Int) wi (m : Int) A8 (l.length - sz) c8) (g := w.heap.size) (S := fun b => b = w.heap.size) rfl) AK.out
  exact ⟨⟨A8, c8, rfl, S10⟩, below_setRow B9.out (Nat.le_refl _) _⟩
end Go.Proofs.Ytgemmciokioaiaa.Sg
