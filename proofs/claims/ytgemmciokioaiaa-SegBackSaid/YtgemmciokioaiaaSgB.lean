/- The laws' own words of layer 17: Of, To, the chapter's example; what is built is parsed, in plain words. Conditions: those that each states. -/
import Derived.Test.YtgemmciokioaiaaSg6
import Derived.Test.YtgemmciokioaiaaSg4
namespace Go.Proofs.Ytgemmciokioaiaa.Sg
open Go.ChangeShapes Go.WideShapes Go.ChangeAt Go.RowKit Go.Deep Rk Fl Gx Di
open Ip (wb vw vw_length vw_get wb_append wb_length be2 nb1 nb0 evs_word evs_snocw or16 tot tot_wb psW psW_small psW_bytes be_two be_four u8_eq)
set_option linter.unusedVariables false
set_option linter.unusedSimpArgs false

set_option maxRecDepth 100000 in
set_option maxHeartbeats 2000000 in
theorem of_any (f t q a : Nat) (g : Int) (wi : Nat) (m : Int) (l : List UInt8) (w : World) (hn : l.length ≤ 1000000) :
    Calls Try.prog 8 #[.agg (dsV f t q a g wi m l)] w fun e w' => ∃ A c, e = .returned (.agg (sgV f t q a g wi m A l.length c)) ∧ Src w' A l.length c l ∧ Below w.heap.size w w' := by
  obtain ⟨W, hW⟩ : ∃ W, (w.alloc (.cells (dsV f t q a g wi m l) 25)).alloc (.cells sg0 32) = W := ⟨_, rfl⟩
  have b0 : Below w.heap.size w W := by rw [← hW]; exact ((Below.refl w.heap.size w).alloc (Nat.le_refl _) _).alloc (by simp) _
  have B0 := Lib.hid b0
  have PB := Lib.hid (show Blk W w.heap.size 25 (dsV f t q a g wi m l) from by rw [← hW]; exact (Blk.new w _ _).alloc _)
  have RB := Lib.hid (show Blk W (w.heap.size + 1) 32 sg0 from by rw [← hW]; have := Blk.new (w.alloc (.cells (dsV f t q a g wi m l) 25)) 32 sg0; simpa using this)
  have z2 := Lib.hid (show w.heap.size ≤ w.heap.size + 1 from by omega)
  have HW := Lib.hid hW
  clear b0 hW
  obtain ⟨A, c, W1, hconv, hs, hb, hfresh⟩ := conv_src ⟨l.toArray⟩ hn W
  have hconv : (convert 9 27 (.string ⟨l.toArray⟩)).run Try.prog W = .ok (.slice A l.length c) W1 := hconv
  have hs : Src W1 A l.length c l := hs
  have SS := Lib.hid hs
  have HF := Lib.hid hfresh
  have B1 := Lib.hid (B0.out.trans (hb.mono B0.out.size))
  have RB1 := Lib.hid (RB.out.older (older_below hb))
  have LT := Lib.hid (show w.heap.size + 1 < W.heap.size from RB.out.lt)
  clear hs hb hfresh
  have x0 := (PB.out.cell 0).trans (show _ = some (.int .u16 (f : Int)) from rfl)
  have x1 := (PB.out.cell 1).trans (show _ = some (.int .u16 (t : Int)) from rfl)
  have x2 := (PB.out.cell 2).trans (show _ = some (.int .u32 (q : Int)) from rfl)
  have x3 := (PB.out.cell 3).trans (show _ = some (.int .u32 (a : Int)) from rfl)
  have x4 := (PB.out.cell 4).trans (show _ = some (.int .i64 g) from rfl)
  have x5 := (PB.out.cell 5).trans (show _ = some (.int .u16 (wi : Int)) from rfl)
  have x6 := (PB.out.cell 6).trans (show _ = some (.int .i64 m) from rfl)
  have x7 := (PB.out.cell 7).trans (show _ = some (.string ⟨l.toArray⟩) from rfl)
  have KZ := Lib.hid (below_setRow B1.out z2.out (sgV f t q a g wi m A l.length c))
  go_enter Try.func8, Try.ntmps8
  go_upto_region 1 with fail
  rw [HW.out]
  go_wp2_with (first
    | (refine wpList_store_row rfl 32 (.tmp 2) (.tmp 20) rfl (w.heap.size + 1) (sgV f t q a g wi m A l.length c) rfl rfl 32 _ RB1.out sg_info rfl (by simp [Value.oneCell']) ?_)
    | fail)
  refine bodyPost_ret (v := .agg (sgV f t q a g wi m A l.length c)) ?_ rfl ?_
  · exact results_cell_row Try.results8 _ _ (w.heap.size + 1) 32 _ (0, 0) _ rfl (RB1.out.row _) Try.underlying32 rfl sg_info
  exact ⟨A, c, rfl, src_chg SS.out (Chg.setRow _ _ (g := w.heap.size + 1) (S := fun b => b = w.heap.size + 1) rfl) (fun _ b o e => by have := HF.out b o e; have := LT.out; omega), KZ.out⟩

set_option maxRecDepth 100000 in
set_option maxHeartbeats 2000000 in
theorem to_any (f t q a : Nat) (g : Int) (wi : Nat) (m : Int) (A : Option Addr) (n c : Nat) (l : List UInt8) (w : World) (hs : Src w A n c l) :
    Calls Try.prog 16 #[.agg (sgV f t q a g wi m A n c)] w fun e w' => e = .returned (.agg (dsV f t q a g wi m l)) ∧ Below w.heap.size w w' := by
  obtain ⟨W, hW⟩ : ∃ W, (w.alloc (.cells (sgV f t q a g wi m A n c) 32)).alloc (.cells ds0 25) = W := ⟨_, rfl⟩
  have b0 : Below w.heap.size w W := by rw [← hW]; exact ((Below.refl w.heap.size w).alloc (Nat.le_refl _) _).alloc (by simp) _
  have B0 := Lib.hid b0
  have PB := Lib.hid (show Blk W w.heap.size 32 (sgV f t q a g wi m A n c) from by rw [← hW]; exact (Blk.new w _ _).alloc _)
  have RB := Lib.hid (show Blk W (w.heap.size + 1) 25 ds0 from by rw [← hW]; have := Blk.new (w.alloc (.cells (sgV f t q a g wi m A n c) 32)) 25 ds0; simpa using this)
  have z2 := Lib.hid (show w.heap.size ≤ w.heap.size + 1 from by omega)
  have HW := Lib.hid hW
  have TS := told_str (hs.below b0)
  clear b0 hW hs
  have x0 := (PB.out.cell 0).trans (show _ = some (.int .u16 (f : Int)) from rfl)
  have x1 := (PB.out.cell 1).trans (show _ = some (.int .u16 (t : Int)) from rfl)
  have x2 := (PB.out.cell 2).trans (show _ = some (.int .u32 (q : Int)) from rfl)
  have x3 := (PB.out.cell 3).trans (show _ = some (.int .u32 (a : Int)) from rfl)
  have x4 := (PB.out.cell 4).trans (show _ = some (.int .i64 g) from rfl)
  have x5 := (PB.out.cell 5).trans (show _ = some (.int .u16 (wi : Int)) from rfl)
  have x6 := (PB.out.cell 6).trans (show _ = some (.int .i64 m) from rfl)
  have x7 := (PB.out.cell 7).trans (show _ = some (.slice A n c) from rfl)
  have KZ := Lib.hid (below_setRow B0.out z2.out (dsV f t q a g wi m l))
  go_enter Try.func16, Try.ntmps16
  go_upto_region 1 with fail
  rw [HW.out]
  go_wp2_with (first
    | (refine wpList_store_row rfl 25 (.tmp 2) (.tmp 20) rfl (w.heap.size + 1) (dsV f t q a g wi m l) rfl rfl 25 _ RB.out ds_info rfl (by simp [Value.oneCell']) ?_)
    | fail)
  refine bodyPost_ret (v := .agg (dsV f t q a g wi m l)) ?_ rfl ?_
  · exact results_cell_row Try.results16 _ _ (w.heap.size + 1) 25 _ (0, 0) _ rfl (RB.out.row _) Try.underlying25 rfl ds_info
  exact ⟨rfl, KZ.out⟩

theorem al_len : (sgB 1 2 80 0 0 0 18 0 200 0 (fo (tot [])) ++ []).length = 24 := by rw [List.append_nil, sgB_length]; rfl
theorem al_12 : ((sgB 1 2 80 0 0 0 18 0 200 0 (fo (tot [])) ++ [])[12]'(by rw [al_len]; decide)).toNat = 96 := by decide +kernel
set_option maxRecDepth 100000 in
set_option maxHeartbeats 2000000 in
theorem alive_any (w : World) : Calls Try.prog 6 #[] w fun e w' => e = .returned (.bool true) ∧ Below w.heap.size w w' := by
  have HH := Lib.hid (fun W => show Calls Try.prog 7 #[.agg #[.int .u16 80, .int .u16 0, .int .u32 0, .int .u32 0, .int .i64 18, .int .u16 0, .int .i64 200, .slice none 0 0], .int .u32 1, .int .u32 2] W (fun e w' => Tells W w' e (decide (ckR 18 200 0 = 0)) (sgB 1 2 80 0 0 0 18 0 200 0 (fo (tot [])) ++ []) (ckR 18 200 0) ∧ Below W.heap.size W w') from bytes_any' 80 0 0 0 18 0 200 (by omega) (by omega) (by omega) (by omega) (by omega) none 0 [] 1 2 (by omega) (by omega) W (Src.nil W) (by show 0 ≤ 1000000; omega))
  have PP := Lib.hid (fun W => show Calls Try.prog 15 #[.slice none 0 0, .int .u32 1, .int .u32 2] W (fun e w' => e = .returned (.tuple #[.agg sg0, .int .i64 50]) ∧ Below W.heap.size W w') from parse_short none 0 [] 1 2 W (Src.nil W) (by show 0 < 20; omega))
  have RM := Lib.hid (fun W => show Calls Try.prog 10 #[.agg #[.int .u16 0, .int .u16 0, .int .u32 0, .int .u32 0, .int .i64 2, .int .u16 0, .int .i64 0, .slice none 0 0]] W (fun e w' => e = .returned (.int .i64 1) ∧ Below W.heap.size W w') from room_any 0 0 0 0 2 0 0 none 0 0 (by omega) W)
  have E12 := Lib.hid (show ∀ h : 12 < (sgB 1 2 80 0 0 0 18 0 200 0 (fo (tot [])) ++ []).length, ((sgB 1 2 80 0 0 0 18 0 200 0 (fo (tot [])) ++ [])[12]'h).toNat = 96 from fun _ => al_12)
  go_enter Try.func6, Try.ntmps6
  go_wp2_with fail
  refine (HH.out w).mono ?_
  rintro e w1 ⟨T, b1⟩
  have B1 := Lib.hid b1
  clear b1 HH
  rcases T with ⟨h, _⟩ | ⟨_, g, c, rfl, O⟩
  · exact absurd h (by decide)
  have hL := al_len
  generalize hR : sgB 1 2 80 0 0 0 18 0 200 0 (fo (tot [])) ++ [] = R at *
  rw [hL] at O ⊢
  have OO := Lib.hid O
  clear O hL hR
  go_wp2_with fail
  refine (PP.out w1).mono ?_
  rintro e w2 ⟨rfl, b2⟩
  have B2 := Lib.hid (B1.out.trans (b2.mono B1.out.size))
  have O2 := Lib.hid (OO.out.below b2)
  clear b2 PP
  have BX := Lib.hid (B2.out.alloc B2.out.size (.cells sg0 32))
  have O3 := Lib.hid (O2.out.alloc (.cells sg0 32))
  go_upto_region 3 with fail
  generalize w2.alloc (.cells sg0 32) = w3 at *
  go_wp2_with fail
  refine (RM.out w3).mono ?_
  rintro e w4 ⟨rfl, b4⟩
  have B4 := Lib.hid (BX.out.trans (b4.mono BX.out.size))
  obtain ⟨h12, c12⟩ := (O3.out.below b4).cell (j := 12) (by omega)
  rw [E12.out h12] at c12
  clear b4 RM
  go_wp2
  go_ret
  exact ⟨rfl, B4.out⟩

theorem numB2 (a b : UInt8) : numB [a, b] = a.toNat * 256 + b.toNat := by simp [numB]
theorem numB1 (a : UInt8) : numB [a] = a.toNat := by simp [numB]
theorem numB4 (a b c d : UInt8) : numB [a, b, c, d] = ((a.toNat * 256 + b.toNat) * 256 + c.toNat) * 256 + d.toNat := by simp [numB]
/-- What is built, its bytes one by one: the places that Parse reads. -/
theorem sg_places {s d f t q a g wi m n F : Nat} (h : Sk f t q a g wi m) (r : List UInt8) :
    ((sgB s d f t q a g wi m n F ++ r).getD 12 0).toNat = sgH m ∧ at2 (sgB s d f t q a g wi m n F ++ r) 0 2 = f ∧ at2 (sgB s d f t q a g wi m n F ++ r) 2 2 = t ∧ at2 (sgB s d f t q a g wi m n F ++ r) 4 4 = q ∧ at2 (sgB s d f t q a g wi m n F ++ r) 8 4 = a ∧ at2 (sgB s d f t q a g wi m n F ++ r) 13 1 % 64 = g ∧ at2 (sgB s d f t q a g wi m n F ++ r) 14 2 = wi ∧ (sgB s d f t q a g wi m n F ++ r).drop 20 = wb (sgO m) ++ r := by
  obtain ⟨h1, h2, h3, h4, h5, h6, h7⟩ := h
  have hH : sgH m ≤ 96 := by unfold sgH; split <;> omega
  unfold sgB
  generalize sgS s d f t q a g wi m n F = k
  have e : wb (sgW f t q a g wi m k) ++ r = nb f 1 :: nb f 0 :: nb t 1 :: nb t 0 :: nb (q / 65536) 1 :: nb (q / 65536) 0 :: nb (q % 65536) 1 :: nb (q % 65536) 0 :: nb (a / 65536) 1 :: nb (a / 65536) 0 :: nb (a % 65536) 1 :: nb (a % 65536) 0 :: nb (sgH m * 256 + g) 1 :: nb (sgH m * 256 + g) 0 :: nb wi 1 :: nb wi 0 :: nb k 1 :: nb k 0 :: nb 0 1 :: nb 0 0 :: (wb (sgO m) ++ r) := by
    unfold sgW
    rw [wb_append]
    simp only [wb, be2, List.cons_append, List.nil_append]
  rw [e]
  refine ⟨?_, ?_, ?_, ?_, ?_, ?_, ?_, rfl⟩
  · show (nb (sgH m * 256 + g) 1).toNat = _
    rw [nb1 (by omega)]; omega
  · show numB [nb f 1, nb f 0] = _
    rw [numB2, nb1 (by omega), nb0]; omega
  · show numB [nb t 1, nb t 0] = _
    rw [numB2, nb1 (by omega), nb0]; omega
  · show numB [nb (q / 65536) 1, nb (q / 65536) 0, nb (q % 65536) 1, nb (q % 65536) 0] = _
    rw [numB4, nb1 (by omega), nb0, nb1 (by omega), nb0]; omega
  · show numB [nb (a / 65536) 1, nb (a / 65536) 0, nb (a % 65536) 1, nb (a % 65536) 0] = _
    rw [numB4, nb1 (by omega), nb0, nb1 (by omega), nb0]; omega
  · show numB [nb (sgH m * 256 + g) 0] % 64 = _
    rw [numB1, nb0]; omega
  · show numB [nb wi 1, nb wi 0] = _
    rw [numB2, nb1 (by omega), nb0]; omega
theorem nb_of {x : Nat} (h : x ≤ 65535) : be x 2 = [UInt8.ofNat (x / 256), UInt8.ofNat (x % 256)] := by
  rw [be2]
  have e1 : nb x 1 = UInt8.ofNat (x / 256) := u8_eq (by rw [nb1 h, UInt8.toNat_ofNat']; omega)
  have e0 : nb x 0 = UInt8.ofNat (x % 256) := u8_eq (by rw [nb0, UInt8.toNat_ofNat']; omega)
  rw [e1, e0]

/-- What is built is parsed. -/
theorem parse_back {s d f t q a g wi m : Nat} (h : Sk f t q a g wi m) (hs : s ≤ 4294967295) (hd : d ≤ 4294967295) (l : List UInt8) (hl : l.length ≤ 900) (A : Option Addr) (c : Nat) (w : World) (hsr : Src w A (sgL m + l.length) c (sgB s d f t q a g wi m l.length (fo (tot l)) ++ l)) :
    Calls Try.prog 15 #[.slice A (sgL m + l.length) c, .int .u32 (s : Int), .int .u32 (d : Int)] w fun e w' => (∃ A' c', e = .returned (.tuple #[.agg (sgV f t q a (g : Int) wi (m : Int) A' l.length c'), .int .i64 0]) ∧ Src w' A' l.length c' l) ∧ Below w.heap.size w w' := by
  have hg := sg_good h hs hd l
  obtain ⟨p12, p0, p2, p4, p8, p13, p14, pd⟩ := sg_places (s := s) (d := d) (n := l.length) (F := fo (tot l)) h l
  have hlen : (sgB s d f t q a g wi m l.length (fo (tot l)) ++ l).length = sgL m + l.length := by rw [List.length_append, sgB_length]
  have hdr : (sgB s d f t q a g wi m l.length (fo (tot l)) ++ l).drop (sgL m) = l := List.drop_left' (sgB_length ..)
  have hL := sgL_le m
  generalize sgB s d f t q a g wi m l.length (fo (tot l)) ++ l = b at *
  have P := parse_good A c b s d hs hd w (by rw [hlen]; exact hsr) (by omega) (by omega) (by rw [hlen]; exact hg) (sgL m) m (by rw [p12]; unfold sgH sgL; split <;> rfl) (by omega) (by omega) (fun W A3 c3 hS => by
    rw [pd] at hS
    rcases Nat.eq_zero_or_pos m with h0 | h0
    · subst h0
      exact tellMSS_nil A3 c3 W
    · have e4 : sgL m - 20 = 4 := by unfold sgL; rw [if_neg (by omega)]
      rw [e4] at hS ⊢
      have e5 : (wb (sgO m) ++ l).take 4 = [2, 4, UInt8.ofNat (m / 256), UInt8.ofNat (m % 256)] := by
        unfold sgO
        rw [if_neg (by omega)]
        have := h.m
        simp only [wb, nb_of this, show be 516 2 = [2, 4] from by decide]
        rfl
      rw [e5] at hS
      have := h.m
      have T := tellMSS_four A3 c3 (m / 256) (m % 256) (by omega) (by omega) W hS
      rw [show m / 256 * 256 + m % 256 = m from by omega] at T
      exact T)
  rw [p0, p2, p4, p8, p13, p14, hlen, hdr, show sgL m + l.length - sgL m = l.length from by omega] at P
  exact P
end Go.Proofs.Ytgemmciokioaiaa.Sg
