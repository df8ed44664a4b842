/- Package seg: words, heads and sums in plain words; word, high, low, partOf, check, Room. Conditions: those that each states. -/
import Derived.Test.YtgemmciokioaiaaIp4
import Derived.BigQuiet
namespace Go.Proofs.Ytgemmciokioaiaa.Sg
open Go.ChangeShapes Go.WideShapes Go.ChangeAt Go.RowKit Go.Deep Rk Fl Gx
open Ip (wb vw vw_length vw_get wb_append wb_length be2 nb1 nb0 evs_word evs_snocw or16 tot tot_wb psW psW_small psW_bytes be_two be_four u8_eq)
set_option linter.unusedVariables false
set_option linter.unusedSimpArgs false

theorem word_any' (a b : Nat) (ha : a ≤ 255) (hb : b ≤ 255) (w : World) : Calls Try.prog 36 #[.int .u8 (a : Int), .int .u8 (b : Int)] w fun e w' => e = .returned (.int .u16 ((a : Int) * 256 + (b : Int))) ∧ w = w' := by
  have h := or16 a b (by omega) (by omega)
  go_enter Try.func36, Try.ntmps36
  go_wp2
  go_ret
  exact ⟨rfl, rfl⟩

theorem high_any (a : Nat) (ha : a ≤ 4294967295) (w : World) : Calls Try.prog 34 #[.int .u32 (a : Int)] w fun e w' => e = .returned (.int .u16 ((a : Int) / 65536)) ∧ w = w' := by
  go_enter Try.func34, Try.ntmps34
  go_wp2
  go_ret
  exact ⟨rfl, rfl⟩

theorem low_any (a : Nat) (ha : a ≤ 4294967295) (w : World) : Calls Try.prog 35 #[.int .u32 (a : Int)] w fun e w' => e = .returned (.int .u16 ((a : Int) % 65536)) ∧ w = w' := by
  go_enter Try.func35, Try.ntmps35
  go_wp2
  go_ret
  exact ⟨rfl, rfl⟩

set_option maxRecDepth 100000 in
/-- The part of words. -/
theorem partOf_any (A : Option Addr) (c : Nat) (ws : List Nat) (w : World) (h : RowG w 1 A ws.length c (vw ws)) (hw : ∀ x ∈ ws, x ≤ 65535) (h9 : ws.length ≤ 1000) :
    Calls Try.prog 25 #[.slice A ws.length c] w fun e w' => e = .returned (.complex .f64 (fl (evs (wb ws))) (fl (ods (wb ws)))) ∧ w = w' := by
  have H := Lib.hid h
  have HW := Lib.hid hw
  clear h hw
  go_enter Try.func25, Try.ntmps25
  go_wp2
  go_loop [3, 8] (fun z i => ∃ j : Nat, j ≤ ws.length ∧ i = .int .i64 (j : Int) ∧ z = .complex .f64 (fl (evs (wb (ws.take j)))) (fl (ods (wb (ws.take j))))) (fun _ i => ws.length - (intOf i).toNat)
  case atStart => exact ⟨0, Nat.zero_le _, rfl, rfl⟩
  case round =>
    obtain ⟨j, hj, rfl, rfl⟩ := hrel
    by_cases hlt : j < ws.length
    · have hlt' : (j : Int) < (ws.length : Int) := by omega
      obtain ⟨b, o, rfl, hb, c0⟩ := H.out.cell (j := j) (by rw [vw_length]; exact hlt)
      rw [vw_get _ hlt] at c0
      have hx := HW.out ws[j] (List.getElem_mem hlt)
      have ht : ws.take (j + 1) = ws.take j ++ [ws[j]] := List.take_succ_eq_append_getElem hlt
      have TK := Lib.hid (evs_snocw (ws.take j) ws[j] hx)
      rw [← ht] at TK
      have hle := evs_le (wb (ws.take j))
      rw [wb_length] at hle
      have hll : (ws.take j).length ≤ j := List.length_take_le _ _
      generalize ws[j] = x at *
      have hz : ∀ w, (binOp .add 40 (.complex .f64 (fl (evs (wb (ws.take j)))) (fl (ods (wb (ws.take j))))) (.complex .f64 (fl ((x : Int) / 256)) (fl ((x : Int) % 256)))).run Try.prog w = .ok (.complex .f64 (fl ((evs (wb (ws.take j)) : Int) + (x : Int) / 256)) (fl ((ods (wb (ws.take j)) : Int) + (x : Int) % 256))) w := cadd_fl (a := evs (wb (ws.take j))) (b := ods (wb (ws.take j))) (c := (x : Int) / 256) (d := (x : Int) % 256) 40 (by omega) (by omega) (by omega) (by omega) (by omega) (by omega)
      have WD := Lib.hid (fun W => word_any x hx W)
      clear ht hle hll hx
      go_wp2_with (go_at_call 26; refine (WD.out _).mono ?_; rintro e w' ⟨rfl, rfl⟩)
      go_round
      case rel => exact ⟨j + 1, by omega, by go_num, by rw [TK.out.1, TK.out.2]; rfl⟩
      case measure => simp [intOf]; omega
    · have hlt' : ¬ (j : Int) < (ws.length : Int) := by omega
      obtain rfl : j = ws.length := by omega
      have ht : ws.take ws.length = ws := List.take_length
      rw [ht]
      clear ht
      go_wp2
      go_ret
      exact ⟨rfl, rfl⟩

/-- A segment, as a value. -/
abbrev sgV (f t q a : Nat) (g : Int) (wi : Nat) (m : Int) (A : Option Addr) (n c : Nat) : Array Value := #[.int .u16 (f : Int), .int .u16 (t : Int), .int .u32 (q : Int), .int .u32 (a : Int), .int .i64 g, .int .u16 (wi : Int), .int .i64 m, .slice A n c]
abbrev sg0 : Array Value := #[.int .u16 0, .int .u16 0, .int .u32 0, .int .u32 0, .int .i64 0, .int .u16 0, .int .i64 0, .slice none 0 0]
theorem sg_info : (Try.prog.info? 32).map (·.size) = some 8 := by kernel_rfl
/-- What check tells. -/
def fmB (g m : Int) : Bool := decide ((0 ≤ g ∧ g ≤ 63) ∧ (0 ≤ m ∧ m ≤ 65535))
def ckR (g m n : Int) : Int := if fmB g m then (if 0 ≤ n ∧ n ≤ 900 then 0 else 2) else 1

set_option maxRecDepth 100000 in
theorem check_any (f t q a : Nat) (g : Int) (wi : Nat) (m : Int) (A : Option Addr) (n c : Nat) (k : Int) (w : World) :
    Calls Try.prog 18 #[.agg (sgV f t q a g wi m A n c), .int .i64 k] w fun e w' => e = .returned (.int .i64 (ckR g m k)) ∧ Below w.heap.size w w' := by
  have B1 := Lib.hid ((Below.refl w.heap.size w).alloc (Nat.le_refl _) (.cells (sgV f t q a g wi m A n c) 32))
  have K1 := Lib.hid (Blk.new w 32 (sgV f t q a g wi m A n c))
  by_cases h1 : g < 0
  · have E := Lib.hid (show ckR g m k = 1 from by unfold ckR fmB; rw [decide_eq_false (by omega)]; rfl)
    go_enter Try.func18, Try.ntmps18
    go_upto_region 1 with fail
    generalize w.alloc (.cells (sgV f t q a g wi m A n c) 32) = W at *
    have z4 := (K1.out.cell 4).trans (show _ = some (.int .i64 g) from rfl)
    have z6 := (K1.out.cell 6).trans (show _ = some (.int .i64 m) from rfl)
    go_wp2
    go_ret
    exact ⟨by rw [E.out]; rfl, B1.out⟩
  by_cases h2 : g > 63
  · have E := Lib.hid (show ckR g m k = 1 from by unfold ckR fmB; rw [decide_eq_false (by omega)]; rfl)
    go_enter Try.func18, Try.ntmps18
    go_upto_region 1 with fail
    generalize w.alloc (.cells (sgV f t q a g wi m A n c) 32) = W at *
    have z4 := (K1.out.cell 4).trans (show _ = some (.int .i64 g) from rfl)
    have z6 := (K1.out.cell 6).trans (show _ = some (.int .i64 m) from rfl)
    go_wp2
    go_ret
    exact ⟨by rw [E.out]; rfl, B1.out⟩
  by_cases h3 : m < 0
  · have E := Lib.hid (show ckR g m k = 1 from by unfold ckR fmB; rw [decide_eq_false (by omega)]; rfl)
    go_enter Try.func18, Try.ntmps18
    go_upto_region 1 with fail
    generalize w.alloc (.cells (sgV f t q a g wi m A n c) 32) = W at *
    have z4 := (K1.out.cell 4).trans (show _ = some (.int .i64 g) from rfl)
    have z6 := (K1.out.cell 6).trans (show _ = some (.int .i64 m) from rfl)
    go_wp2
    go_ret
    exact ⟨by rw [E.out]; rfl, B1.out⟩
  by_cases h4 : m > 65535
  · have E := Lib.hid (show ckR g m k = 1 from by unfold ckR fmB; rw [decide_eq_false (by omega)]; rfl)
    go_enter Try.func18, Try.ntmps18
    go_upto_region 1 with fail
    generalize w.alloc (.cells (sgV f t q a g wi m A n c) 32) = W at *
    have z4 := (K1.out.cell 4).trans (show _ = some (.int .i64 g) from rfl)
    have z6 := (K1.out.cell 6).trans (show _ = some (.int .i64 m) from rfl)
    go_wp2
    go_ret
    exact ⟨by rw [E.out]; rfl, B1.out⟩
  have F := Lib.hid (show fmB g m = true from decide_eq_true (by omega))
  by_cases h5 : k < 0
  · have E := Lib.hid (show ckR g m k = 2 from by unfold ckR; rw [F.out, if_pos rfl, if_neg (by omega)])
    go_enter Try.func18, Try.ntmps18
    go_upto_region 1 with fail
    generalize w.alloc (.cells (sgV f t q a g wi m A n c) 32) = W at *
    have z4 := (K1.out.cell 4).trans (show _ = some (.int .i64 g) from rfl)
    have z6 := (K1.out.cell 6).trans (show _ = some (.int .i64 m) from rfl)
    go_wp2
    go_ret
    exact ⟨by rw [E.out]; rfl, B1.out⟩
  by_cases h6 : k > 900
  · have E := Lib.hid (show ckR g m k = 2 from by unfold ckR; rw [F.out, if_pos rfl, if_neg (by omega)])
    go_enter Try.func18, Try.ntmps18
    go_upto_region 1 with fail
    generalize w.alloc (.cells (sgV f t q a g wi m A n c) 32) = W at *
    have z4 := (K1.out.cell 4).trans (show _ = some (.int .i64 g) from rfl)
    have z6 := (K1.out.cell 6).trans (show _ = some (.int .i64 m) from rfl)
    go_wp2
    go_ret
    exact ⟨by rw [E.out]; rfl, B1.out⟩
  have E := Lib.hid (show ckR g m k = 0 from by unfold ckR; rw [F.out, if_pos rfl, if_pos (by omega)])
  go_enter Try.func18, Try.ntmps18
  go_upto_region 1 with fail
  generalize w.alloc (.cells (sgV f t q a g wi m A n c) 32) = W at *
  have z4 := (K1.out.cell 4).trans (show _ = some (.int .i64 g) from rfl)
  have z6 := (K1.out.cell 6).trans (show _ = some (.int .i64 m) from rfl)
  have z7 := (K1.out.cell 7).trans (show _ = some (.slice A n c) from rfl)
  go_wp2
  go_ret
  exact ⟨by rw [E.out]; rfl, B1.out⟩

/-- Room, with any flags. -/
def roomR (g : Int) (n : Nat) : Int := (n : Int) + (if bits .and .i64 g 2 = 0 then 0 else 1) + (if bits .and .i64 g 1 = 0 then 0 else 1)
set_option maxRecDepth 100000 in
theorem room_any (f t q a : Nat) (g : Int) (wi : Nat) (m : Int) (A : Option Addr) (n c : Nat) (hn : n ≤ 1000000) (w : World) :
    Calls Try.prog 10 #[.agg (sgV f t q a g wi m A n c)] w fun e w' => e = .returned (.int .i64 (roomR g n)) ∧ Below w.heap.size w w' := by
  have B1 := Lib.hid ((Below.refl w.heap.size w).alloc (Nat.le_refl _) (.cells (sgV f t q a g wi m A n c) 32))
  have K1 := Lib.hid (Blk.new w 32 (sgV f t q a g wi m A n c))
  have x1 := IntWalk.i64_in ((n : Int) + 1) (by omega)
  have x2 := IntWalk.i64_in ((n : Int) + 1 + 1) (by omega)
  obtain ⟨b2, hb2⟩ : ∃ b, bits .and .i64 g 2 = b := ⟨_, rfl⟩
  obtain ⟨b1, hb1⟩ : ∃ b, bits .and .i64 g 1 = b := ⟨_, rfl⟩
  have R := Lib.hid (show roomR g n = (n : Int) + (if b2 = 0 then 0 else 1) + (if b1 = 0 then 0 else 1) from by unfold roomR; rw [hb1, hb2])
  go_enter Try.func10, Try.ntmps10
  go_upto_region 1 with fail
  generalize w.alloc (.cells (sgV f t q a g wi m A n c) 32) = W at *
  have z4 := (K1.out.cell 4).trans (show _ = some (.int .i64 g) from rfl)
  have z6 := (K1.out.cell 6).trans (show _ = some (.int .i64 m) from rfl)
  have z7 := (K1.out.cell 7).trans (show _ = some (.slice A n c) from rfl)
  by_cases h1 : b2 = 0
  · by_cases h2 : b1 = 0
    · go_wp2
      go_ret
      exact ⟨by rw [R.out, if_pos h1, if_pos h2]; simp, B1.out⟩
    · go_wp2
      go_ret
      exact ⟨by rw [R.out, if_pos h1, if_neg h2]; simp, B1.out⟩
  · by_cases h2 : b1 = 0
    · go_wp2
      go_ret
      exact ⟨by rw [R.out, if_neg h1, if_pos h2]; simp, B1.out⟩
    · go_wp2
      go_ret
      exact ⟨by rw [R.out, if_neg h1, if_neg h2]; rfl, B1.out⟩

/-- What is small enough. -/
structure Sk (f t q a g wi m : Nat) : Prop where
  f : f ≤ 65535
  t : t ≤ 65535
  q : q ≤ 4294967295
  a : a ≤ 4294967295
  g : g ≤ 63
  wi : wi ≤ 65535
  m : m ≤ 65535
def sgO (m : Nat) : List Nat := if m = 0 then [] else [516, m]
def sgL (m : Nat) : Nat := if m = 0 then 20 else 24
def sgH (m : Nat) : Nat := if m = 0 then 80 else 96
/-- A head's words; k is its sum. -/
def sgW (f t q a g wi m k : Nat) : List Nat := [f, t, q / 65536, q % 65536, a / 65536, a % 65536, sgH m * 256 + g, wi, k, 0] ++ sgO m
theorem sgW_length (f t q a g wi m k : Nat) : 2 * (sgW f t q a g wi m k).length = sgL m := by
  unfold sgW sgO sgL
  split <;> rfl
theorem sgL_le (m : Nat) : sgL m = 20 ∨ sgL m = 24 := by unfold sgL; split <;> simp
theorem sgW_small {f t q a g wi m k : Nat} (h : Sk f t q a g wi m) (hk : k ≤ 65535) : ∀ x ∈ sgW f t q a g wi m k, x ≤ 65535 := by
  obtain ⟨h1, h2, h3, h4, h5, h6, h7⟩ := h
  intro x hx
  have hH : sgH m ≤ 96 := by unfold sgH; split <;> omega
  unfold sgW at hx
  rw [List.mem_append] at hx
  rcases hx with hx | hx
  · simp only [List.mem_cons, List.not_mem_nil, or_false] at hx
    rcases hx with rfl | rfl | rfl | rfl | rfl | rfl | rfl | rfl | rfl | rfl <;> omega
  · unfold sgO at hx
    split at hx
    · cases hx
    · simp only [List.mem_cons, List.not_mem_nil, or_false] at hx
      rcases hx with rfl | rfl <;> omega
/-- The sum of a head with n bytes that fold to F. -/
def sgS (s d f t q a g wi m n F : Nat) : Nat := 65535 - fo (tot (wb (psW s d 6 (sgL m + n))) + tot (wb (sgW f t q a g wi m 0)) + F)
theorem sgS_le (s d f t q a g wi m n F : Nat) : sgS s d f t q a g wi m n F ≤ 65535 := by unfold sgS; omega
/-- A head's bytes. -/
def sgB (s d f t q a g wi m n F : Nat) : List UInt8 := wb (sgW f t q a g wi m (sgS s d f t q a g wi m n F))
theorem sgB_length (s d f t q a g wi m n F : Nat) : (sgB s d f t q a g wi m n F).length = sgL m := by unfold sgB; rw [wb_length, sgW_length]
theorem fo_fo (X S : Nat) : fo (X + fo S) = fo (X + S) := by
  unfold fo
  split <;> split <;> split <;> omega
theorem fo_parts (F : Nat) (h : F ≤ 65535) : 256 * (F / 256) + F % 256 = F := by omega
theorem tot_append {l r : List UInt8} (h : l.length % 2 = 0) : tot (l ++ r) = tot l + tot r := by
  have := evs_append l r
  rw [if_pos h, if_pos h] at this
  unfold tot
  rw [this.1, this.2]
  omega
theorem tot_sgW {f t q a g wi m : Nat} (h : Sk f t q a g wi m) {k : Nat} (hk : k ≤ 65535) : tot (wb (sgW f t q a g wi m k)) = tot (wb (sgW f t q a g wi m 0)) + k := by
  rw [tot_wb _ (sgW_small h hk), tot_wb _ (sgW_small h (Nat.zero_le _))]
  simp only [sgW, List.sum_append, List.sum_cons, List.sum_nil]
  omega
theorem ps_pos (s d n : Nat) (hs : s ≤ 4294967295) (hd : d ≤ 4294967295) : 6 ≤ tot (wb (psW s d 6 n)) := by
  rw [tot_wb _ (psW_small hs hd (by omega))]
  simp only [psW, List.sum_cons, List.sum_nil]
  omega
/-- What is built is good: pseudo head, head and data fold to 65535. -/
theorem sg_good {s d f t q a g wi m : Nat} (h : Sk f t q a g wi m) (hs : s ≤ 4294967295) (hd : d ≤ 4294967295) (l : List UInt8) :
    fo (tot (wb (psW s d 6 (sgL m + l.length))) + tot (sgB s d f t q a g wi m l.length (fo (tot l)) ++ l)) = 65535 := by
  have he : (sgB s d f t q a g wi m l.length (fo (tot l))).length % 2 = 0 := by
    rw [sgB_length]; rcases sgL_le m with e | e <;> rw [e]
  rw [tot_append he]
  unfold sgB
  rw [tot_sgW h (sgS_le ..)]
  unfold sgS
  have hp := ps_pos s d (sgL m + l.length) hs hd
  generalize tot (wb (psW s d 6 (sgL m + l.length))) = P at *
  generalize tot (wb (sgW f t q a g wi m 0)) = W
  rw [fo_fo]
  have := Ip.fo_add_sum (S := P + W + tot l) (by omega)
  rw [← this]
  congr 1
  omega
end Go.Proofs.Ytgemmciokioaiaa.Sg
