/- The document's filter: the number in a packet, what a program tells. Conditions: those that each states. -/
import Derived.Test.YtbkjjakkihbcdaaGreatFlt6
namespace Go.Proofs.YtbkjjakkihbcdaaGreat.R7
open Go.ChangeShapes Go.WideShapes Go.ChangeAt Go.RowKit Go.Deep
set_option linter.unusedVariables false
theorem or_byte (n : Int) (b : UInt8) : bits .or .u32 (n * 256 % 4294967296) ((b.toNat : Int) % 4294967296) = (n * 256 % 4294967296) + (b.toNat : Int) := by
 have hb : b.toNat < 256 := b.toNat_lt
 obtain ⟨q, hq, hq2⟩ : ∃ q : Nat, n * 256 % 4294967296 = ((q * 256 : Nat) : Int) ∧ q < 16777216 := ⟨(n * 256 % 4294967296 / 256).toNat, by omega, by omega⟩
 have e2 : (b.toNat : Int) % 4294967296 = (b.toNat : Int) := by omega
 rw [hq, e2]
 unfold bits
 show IntKind.u32.wrap ((BitVec.ofInt 32 ((q * 256 : Nat) : Int) ||| BitVec.ofInt 32 (b.toNat : Int)).toNat : Int) = _
 have h1 : (BitVec.ofInt 32 ((q * 256 : Nat) : Int)).toNat = q * 256 := by
  rw [BitVec.ofInt_natCast, BitVec.toNat_ofNat]
  exact Nat.mod_eq_of_lt (by omega)
 have h2 : (BitVec.ofInt 32 (b.toNat : Int)).toNat = b.toNat := by
  rw [BitVec.ofInt_natCast, BitVec.toNat_ofNat]
  exact Nat.mod_eq_of_lt (by omega)
 rw [BitVec.toNat_or, h1, h2]
 have h3 : q * 256 ||| b.toNat = q * 256 + b.toNat := by
  have := Nat.shiftLeft_add_eq_or_of_lt (i := 8) (b := b.toNat) (by omega) q
  rw [Nat.shiftLeft_eq] at this
  exact this.symm
 rw [h3, IntWalk.u32_in _ (by omega)]
 omega
theorem joined_step (l : List UInt8) (b : UInt8) : joined (l ++ [b]) = (joined l * 256 % 4294967296 + (b.toNat : Int) % 4294967296) % 4294967296 := by
 rw [joined_snoc, or_byte]
 have hb : b.toNat < 256 := b.toNat_lt
 omega
set_option maxHeartbeats 2000000 in
theorem number_is (s : List UInt8) (k m : Nat) (hk : k < 4294967296) (hm : 1 ≤ m ∧ m ≤ 4) (hs : s.length ≤ 1000000) (w : World) :
  Calls Tryz.prog 90 #[.string ⟨s.toArray⟩, .int .u32 (k : Int), .int .i64 (m : Int)] w fun e w' => Found (num s k m) e ∧ w' = w := by
 have hsz : (⟨s.toArray⟩ : ByteArray).size = s.length := rfl
 go_enter Tryz.func90, Tryz.ntmps90
 go_wp2
 go_loopw [8, 9] (fun n i wr => ∃ (j : Nat), j ≤ m ∧ (0 < j → k + j ≤ s.length) ∧ i = .int .i64 (j : Int) ∧ n = .int .u32 (joined ((s.drop k).take j)) ∧ wr = w) (fun _ i _ => m - (intOf i).toNat)
 case atStart => exact ⟨0, Nat.zero_le _, fun h => absurd h (by omega), rfl, rfl, rfl⟩
 case round =>
  obtain ⟨j, hj, hin, rfl, rfl, rfl⟩ := hrel
  by_cases hlt : j < m
  ·have hlt' : (j : Int) < (m : Int) := by omega
   have j0 : (0 : Int) ≤ (j : Int) := by omega
   have xj := IntWalk.i64_in ((j : Int) + 1) (by omega)
   have xk := IntWalk.i64_in ((k : Int) + (j : Int)) (by omega)
   by_cases h : (k : Int) + (j : Int) ≥ (s.length : Int)
   ·have e : num s k m = none := by unfold num; rw [if_neg (by omega)]
    have E := Lib.hid e
    clear e
    go_wp2
    go_ret2
    exact ⟨by rw [E.out]; rfl, rfl⟩
   ·have h' : (k : Int) + (j : Int) < (s.length : Int) := by omega
    have h0 : 0 ≤ (k : Int) + (j : Int) := by omega
    have hkj : k + j < s.length := by omega
    have hto : ((k : Int) + (j : Int)).toNat = k + j := by omega
    have HS := Lib.hid (show joined ((s.drop k).take (j + 1)) = (joined ((s.drop k).take j) * 256 % 4294967296 + (s[k + j].toNat : Int) % 4294967296) % 4294967296 from by
     rw [← joined_step]
     congr 1
     rw [List.take_succ_eq_append_getElem (by simp; omega)]
     congr 2
     simp)
    generalize joined ((s.drop k).take j) = x at *
    go_wp2
    go_roundw
    case rel => exact ⟨j + 1, by omega, fun _ => by omega, by simp, by rw [HS.out]; rfl, by first | rfl | trivial⟩
    case measure => simp [intOf]; omega
  ·have hge : ¬ (j : Int) < (m : Int) := by omega
   obtain rfl : j = m := by omega
   have e : num s k j = some (joined ((s.drop k).take j)) := by unfold num; rw [if_pos (hin (by omega))]
   have E := Lib.hid e
   clear e
   go_wp2
   go_ret2
   exact ⟨by rw [E.out]; rfl, rfl⟩
theorem joined_in (l : List UInt8) : 0 ≤ joined l ∧ joined l < 4294967296 := by
 rcases List.eq_nil_or_concat l with rfl | ⟨q, b, rfl⟩
 ·exact ⟨by decide, by decide⟩
 ·rw [List.concat_eq_append, joined_step]
  omega
theorem num_in {s : List UInt8} {k m : Nat} {y : Int} (h : num s k m = some y) : 0 ≤ y ∧ y < 4294967296 := by
 unfold num at h
 by_cases e : k + m ≤ s.length
 ·rw [if_pos e] at h
  cases h
  exact joined_in _
 ·rw [if_neg e] at h; cases h
theorem and_in (x y : Int) : 0 ≤ bits .and .u32 x y ∧ bits .and .u32 x y < 4294967296 := by
 unfold bits
 show 0 ≤ IntKind.u32.wrap _ ∧ IntKind.u32.wrap _ < 4294967296
 rw [IntKind.wrap_u32]
 omega
def Told (p : List Ins) (s : List UInt8) (e : Ending) : Prop := ∃ k : Int, e = .returned (.tuple #[.int .u32 (runP p s), .int .i64 k])
set_option maxRecDepth 1000000 in
set_option maxHeartbeats 4000000 in
theorem run_is (A : Option Addr) (c : Nat) (p : List Ins) (s : List UInt8) (w : World) (hp : Prg w A p) (hok : ∀ q ∈ p, q.Ok) (h : Chk p) (hsm : s.length ≤ 1000000) :
  Calls Tryz.prog 48 #[.slice A p.length c, .string ⟨s.toArray⟩] w fun e w' => Told p s e ∧ Below w.heap.size w w' := by
 have HP := Lib.hid hp
 have HOK := Lib.hid hok
 have HCHK := Lib.hid h
 have n1 := h.n1
 have n2 := h.n2
 have B0 := Lib.hid (Below.refl w.heap.size w)
 clear hp hok h
 go_enter Tryz.func48, Tryz.ntmps48
 go_wp2
 go_loopw [6, 7, 8] (fun a at_ st wr => ∃ (i n k : Nat) (x : Int), i < p.length ∧ at_ = .int .i64 (i : Int) ∧ st = .int .i64 (k : Int) ∧ a = .int .u32 x ∧ k ≤ i ∧ 0 ≤ x ∧ x < 4294967296 ∧ p.length ≤ i + n ∧ Hid (runF p s n i x = runP p s) ∧ Below w.heap.size w wr) (fun _ at_ _ _ => p.length - (intOf at_).toNat)
 case atStart => exact ⟨0, p.length, 0, 0, by omega, rfl, rfl, rfl, Nat.le_refl _, by decide, by decide, by omega, Lib.hid rfl, B0.out⟩
 case round =>
  clear B0
  obtain ⟨i, n, k, x, hi, rfl, rfl, rfl, hki, hx0, hx1, hn, HR, hb⟩ := hrel
  have HB := Lib.hid hb
  clear hb
  have hil : (i : Int) < (p.length : Int) := by omega
  have hi0 : (0 : Int) ≤ (i : Int) := by omega
  have x1 := IntWalk.i64_in ((i : Int) + 1) (by omega)
  have x3 := IntWalk.i64_in ((k : Int) + 1) (by omega)
  obtain ⟨c0, c8, c56, c4⟩ := HCHK.out.at_ hi
  have QOK := Lib.hid (HOK.out p[i] (List.getElem_mem hi))
  obtain ⟨n, rfl⟩ : ∃ n', n = n' + 1 := ⟨n - 1, by omega⟩
  have UN := Lib.hid (HR.out.symm.trans (runF_succ p s n i x hi)).symm
  obtain ⟨b, o, rfl, hbl, hr⟩ := (HP.out.new HB.out) i hi
  have LD := Lib.hid (show wr.rangeAt b (o + i * 4) [.int .i64 p[i].code, .int .u32 p[i].k, .int .i64 p[i].t, .int .i64 p[i].f] from hr)
  have hgs : w.heap.size ≤ wr.heap.size := HB.out.size
  obtain ⟨k0, k1⟩ := QOK.out.k
  generalize p[i].code = qc at *
  generalize hqk : p[i].k = qk at *
  generalize p[i].t = qt at *
  generalize p[i].f = qf at *
  have HA := Lib.hid (HB.out.trans (((Below.refl wr.heap.size wr).alloc (Nat.le_refl _) (.cells #[.int .i64 qc, .int .u32 qk, .int .i64 qt, .int .i64 qf] 108)).mono hgs))
  clear hr HR hqk QOK
  have hcs : qc = 0 ∨ qc = 1 ∨ qc = 2 ∨ qc = 3 ∨ qc = 4 ∨ qc = 5 ∨ qc = 6 ∨ qc = 7 ∨ qc = 8 := by omega
  obtain ⟨kn, rfl⟩ : ∃ kn : Nat, qk = (kn : Int) := ⟨qk.toNat, by omega⟩
  have kn1 : kn < 4294967296 := by omega
  rw [Int.toNat_natCast] at UN
  rcases hcs with rfl | rfl | rfl | rfl | rfl | rfl | rfl | rfl | rfl
  ·have hn1 : i + 1 < p.length := c4 (by decide)
   clear c56 c4 c0 c8
   have NI := fun W => number_is s kn 1 kn1 (by decide) hsm W
   cases hnum : num s kn 1 with
   | none =>
    have UN := Lib.hid (show (0 : Int) = runP p s from by
     have := UN.out
     rw [stepF_0] at this
     rw [hnum] at this
     exact this)
    rw [hnum] at NI
    have NU := Lib.hid NI
    clear NI hnum
    go_wp2_with (first
     | (refine wpList_load_mid rfl 108 (.tmp 14) rfl b (o + i * 4) rfl _ _ LD.out Tryz.underlying108 rfl rop_info ?_)
     | fail)
    refine (NU.out _).mono ?_; rintro e w6 ⟨he, hw⟩; subst hw; subst he
    go_wp2
    go_ret2
    exact ⟨⟨_, by rw [← UN.out]; rfl⟩, HA.out⟩
   | some y =>
    have UN := Lib.hid (show runF p s n (i + 1) y = runP p s from by
     have := UN.out
     rw [stepF_0] at this
     rw [hnum] at this
     exact this)
    rw [hnum] at NI
    have NU := Lib.hid NI
    obtain ⟨y0, y1⟩ := num_in hnum
    clear NI hnum
    go_wp2_with (first
     | (refine wpList_load_mid rfl 108 (.tmp 14) rfl b (o + i * 4) rfl _ _ LD.out Tryz.underlying108 rfl rop_info ?_)
     | fail)
    refine (NU.out _).mono ?_; rintro e w6 ⟨he, hw⟩; subst hw; subst he
    go_wp2
    go_roundw
    case rel => exact ⟨i + 1, n, k + 1, _, by omega, rfl, rfl, rfl, by omega, y0, y1, by omega, UN, HA.out⟩
    case measure => simp [intOf]; omega
  ·have hn1 : i + 1 < p.length := c4 (by decide)
   clear c56 c4 c0 c8
   have NI := fun W => number_is s kn 2 kn1 (by decide) hsm W
   cases hnum : num s kn 2 with
   | none =>
    have UN := Lib.hid (show (0 : Int) = runP p s from by
     have := UN.out
     rw [stepF_1] at this
     rw [hnum] at this
     exact this)
    rw [hnum] at NI
    have NU := Lib.hid NI
    clear NI hnum
    go_wp2_with (first
     | (refine wpList_load_mid rfl 108 (.tmp 14) rfl b (o + i * 4) rfl _ _ LD.out Tryz.underlying108 rfl rop_info ?_)
     | fail)
    refine (NU.out _).mono ?_; rintro e w6 ⟨he, hw⟩; subst hw; subst he
    go_wp2
    go_ret2
    exact ⟨⟨_, by rw [← UN.out]; rfl⟩, HA.out⟩
   | some y =>
    have UN := Lib.hid (show runF p s n (i + 1) y = runP p s from by
     have := UN.out
     rw [stepF_1] at this
     rw [hnum] at this
     exact this)
    rw [hnum] at NI
    have NU := Lib.hid NI
    obtain ⟨y0, y1⟩ := num_in hnum
    clear NI hnum
    go_wp2_with (first
     | (refine wpList_load_mid rfl 108 (.tmp 14) rfl b (o + i * 4) rfl _ _ LD.out Tryz.underlying108 rfl rop_info ?_)
     | fail)
    refine (NU.out _).mono ?_; rintro e w6 ⟨he, hw⟩; subst hw; subst he
    go_wp2
    go_roundw
    case rel => exact ⟨i + 1, n, k + 1, _, by omega, rfl, rfl, rfl, by omega, y0, y1, by omega, UN, HA.out⟩
    case measure => simp [intOf]; omega
  ·have hn1 : i + 1 < p.length := c4 (by decide)
   clear c56 c4 c0 c8
   have NI := fun W => number_is s kn 4 kn1 (by decide) hsm W
   cases hnum : num s kn 4 with
   | none =>
    have UN := Lib.hid (show (0 : Int) = runP p s from by
     have := UN.out
     rw [stepF_2] at this
     rw [hnum] at this
     exact this)
    rw [hnum] at NI
    have NU := Lib.hid NI
    clear NI hnum
    go_wp2_with (first
     | (refine wpList_load_mid rfl 108 (.tmp 14) rfl b (o + i * 4) rfl _ _ LD.out Tryz.underlying108 rfl rop_info ?_)
     | fail)
    refine (NU.out _).mono ?_; rintro e w6 ⟨he, hw⟩; subst hw; subst he
    go_wp2
    go_ret2
    exact ⟨⟨_, by rw [← UN.out]; rfl⟩, HA.out⟩
   | some y =>
    have UN := Lib.hid (show runF p s n (i + 1) y = runP p s from by
     have := UN.out
     rw [stepF_2] at this
     rw [hnum] at this
     exact this)
    rw [hnum] at NI
    have NU := Lib.hid NI
    obtain ⟨y0, y1⟩ := num_in hnum
    clear NI hnum
    go_wp2_with (first
     | (refine wpList_load_mid rfl 108 (.tmp 14) rfl b (o + i * 4) rfl _ _ LD.out Tryz.underlying108 rfl rop_info ?_)
     | fail)
    refine (NU.out _).mono ?_; rintro e w6 ⟨he, hw⟩; subst hw; subst he
    go_wp2
    go_roundw
    case rel => exact ⟨i + 1, n, k + 1, _, by omega, rfl, rfl, rfl, by omega, y0, y1, by omega, UN, HA.out⟩
    case measure => simp [intOf]; omega
  ·have hn1 : i + 1 < p.length := c4 (by decide)
   clear c56 c4 c0 c8
   have UN := Lib.hid (show runF p s n (i + 1) (bits .and .u32 x (kn : Int)) = runP p s from by
    have := UN.out
    rw [stepF_3] at this
    exact this)
   obtain ⟨y0, y1⟩ := and_in x (kn : Int)
   go_wp2_with (first
    | (refine wpList_load_mid rfl 108 (.tmp 14) rfl b (o + i * 4) rfl _ _ LD.out Tryz.underlying108 rfl rop_info ?_)
    | fail)
   go_roundw
   case rel => exact ⟨i + 1, n, k + 1, _, by omega, rfl, rfl, rfl, by omega, y0, y1, by omega, UN, HA.out⟩
   case measure => simp [intOf]; omega
  ·have hn1 : i + 1 < p.length := c4 (by decide)
   clear c56 c4 c0 c8
   have UN := UN.out
   rw [stepF_4] at UN
   by_cases h32 : (kn : Int) ≥ 32
   ·have ez : x / 2 ^ min kn 32 = 0 := by
     rw [show min kn 32 = 32 from by omega]
     exact Int.ediv_eq_zero_of_lt hx0 hx1
    rw [ez] at UN
    have UN := Lib.hid UN
    clear ez
    go_wp2_with (first
     | (refine wpList_load_mid rfl 108 (.tmp 14) rfl b (o + i * 4) rfl _ _ LD.out Tryz.underlying108 rfl rop_info ?_)
     | fail)
    go_roundw
    case rel => exact ⟨i + 1, n, k + 1, _, by omega, rfl, rfl, rfl, by omega, by decide, by decide, by omega, UN, HA.out⟩
    case measure => simp [intOf]; omega
   ·rw [show min kn 32 = kn from by omega] at UN
    have UN := Lib.hid UN
    have y0 : 0 ≤ x / 2 ^ kn := Int.ediv_nonneg hx0 (Int.pow_nonneg (by decide))
    have y1 : x / 2 ^ kn < 4294967296 := Int.lt_of_le_of_lt (Int.ediv_le_self _ hx0) hx1
    have Y := Lib.hid (And.intro y0 y1)
    clear y0 y1
    go_wp2_with (first
     | (refine wpList_load_mid rfl 108 (.tmp 14) rfl b (o + i * 4) rfl _ _ LD.out Tryz.underlying108 rfl rop_info ?_)
     | fail)
    go_roundw
    case rel => exact ⟨i + 1, n, k + 1, _, by omega, rfl, rfl, rfl, by omega, Y.out.1, Y.out.2, by omega, UN, HA.out⟩
    case measure => simp [intOf]; omega
  ·obtain ⟨t0, f0, t1, f1⟩ := c56 (by decide)
   clear c56 c4 c0 c8
   by_cases hx : x = (kn : Int)
   ·have UN := Lib.hid (show runF p s n (i + 1 + qt.toNat) x = runP p s from by
     have := UN.out
     rw [stepF_5] at this
     rw [if_pos hx] at this
     exact this)
    subst hx
    obtain ⟨v, rfl⟩ : ∃ v : Nat, qt = (v : Int) := ⟨qt.toNat, by omega⟩
    rw [Int.toNat_natCast] at UN
    have x2 := IntWalk.i64_in ((i : Int) + 1 + (v : Int)) (by omega)
    by_cases hv : v = 0
    ·subst hv
     have z0 : ¬ ((0 : Nat) : Int) > 0 := by omega
     go_wp2_with (first
      | (refine wpList_load_mid rfl 108 (.tmp 14) rfl b (o + i * 4) rfl _ _ LD.out Tryz.underlying108 rfl rop_info ?_)
      | fail)
     go_roundw
     case rel => exact ⟨i + 1, n, k + 1, _, by omega, rfl, rfl, rfl, by omega, hx0, hx1, by omega, UN, HA.out⟩
     case measure => simp [intOf]; omega
    ·have z0 : (v : Int) > 0 := by omega
     have HN := Lib.hid hn
     have HX := Lib.hid (And.intro hx0 hx1)
     clear hn hx0 hx1 hv k0 k1 kn1
     go_wp2_with (first
      | (refine wpList_load_mid rfl 108 (.tmp 14) rfl b (o + i * 4) rfl _ _ LD.out Tryz.underlying108 rfl rop_info ?_)
      | fail)
     go_roundw
     case rel => exact ⟨i + 1 + v, n, k + 1, _, by omega, rfl, rfl, rfl, by omega, HX.out.1, HX.out.2, by have := HN.out; omega, UN, HA.out⟩
     case measure => simp [intOf]; omega
   ·have UN := Lib.hid (show runF p s n (i + 1 + qf.toNat) x = runP p s from by
     have := UN.out
     rw [stepF_5] at this
     rw [if_neg hx] at this
     exact this)
    have hx' : (x == (kn : Int)) = false := by simpa using hx
    obtain ⟨v, rfl⟩ : ∃ v : Nat, qf = (v : Int) := ⟨qf.toNat, by omega⟩
    rw [Int.toNat_natCast] at UN
    have x2 := IntWalk.i64_in ((i : Int) + 1 + (v : Int)) (by omega)
    by_cases hv : v = 0
    ·subst hv
     have z0 : ¬ ((0 : Nat) : Int) > 0 := by omega
     go_wp2_with (first
      | (refine wpList_load_mid rfl 108 (.tmp 14) rfl b (o + i * 4) rfl _ _ LD.out Tryz.underlying108 rfl rop_info ?_)
      | fail)
     go_roundw
     case rel => exact ⟨i + 1, n, k + 1, _, by omega, rfl, rfl, rfl, by omega, hx0, hx1, by omega, UN, HA.out⟩
     case measure => simp [intOf]; omega
    ·have z0 : (v : Int) > 0 := by omega
     have HN := Lib.hid hn
     have HX := Lib.hid (And.intro hx0 hx1)
     clear hn hx0 hx1 hv k0 k1 kn1
     go_wp2_with (first
      | (refine wpList_load_mid rfl 108 (.tmp 14) rfl b (o + i * 4) rfl _ _ LD.out Tryz.underlying108 rfl rop_info ?_)
      | fail)
     go_roundw
     case rel => exact ⟨i + 1 + v, n, k + 1, _, by omega, rfl, rfl, rfl, by omega, HX.out.1, HX.out.2, by have := HN.out; omega, UN, HA.out⟩
     case measure => simp [intOf]; omega
  ·obtain ⟨t0, f0, t1, f1⟩ := c56 (by decide)
   clear c56 c4 c0 c8
   by_cases hx : x > (kn : Int)
   ·have UN := Lib.hid (show runF p s n (i + 1 + qt.toNat) x = runP p s from by
     have := UN.out
     rw [stepF_6] at this
     rw [if_pos hx] at this
     exact this)
    obtain ⟨v, rfl⟩ : ∃ v : Nat, qt = (v : Int) := ⟨qt.toNat, by omega⟩
    rw [Int.toNat_natCast] at UN
    have x2 := IntWalk.i64_in ((i : Int) + 1 + (v : Int)) (by omega)
    by_cases hv : v = 0
    ·subst hv
     have z0 : ¬ ((0 : Nat) : Int) > 0 := by omega
     go_wp2_with (first
      | (refine wpList_load_mid rfl 108 (.tmp 14) rfl b (o + i * 4) rfl _ _ LD.out Tryz.underlying108 rfl rop_info ?_)
      | fail)
     go_roundw
     case rel => exact ⟨i + 1, n, k + 1, _, by omega, rfl, rfl, rfl, by omega, hx0, hx1, by omega, UN, HA.out⟩
     case measure => simp [intOf]; omega
    ·have z0 : (v : Int) > 0 := by omega
     have HN := Lib.hid hn
     have HX := Lib.hid (And.intro hx0 hx1)
     clear hn hx0 hx1 hv k0 k1 kn1
     go_wp2_with (first
      | (refine wpList_load_mid rfl 108 (.tmp 14) rfl b (o + i * 4) rfl _ _ LD.out Tryz.underlying108 rfl rop_info ?_)
      | fail)
     go_roundw
     case rel => exact ⟨i + 1 + v, n, k + 1, _, by omega, rfl, rfl, rfl, by omega, HX.out.1, HX.out.2, by have := HN.out; omega, UN, HA.out⟩
     case measure => simp [intOf]; omega
   ·have UN := Lib.hid (show runF p s n (i + 1 + qf.toNat) x = runP p s from by
     have := UN.out
     rw [stepF_6] at this
     rw [if_neg hx] at this
     exact this)
    obtain ⟨v, rfl⟩ : ∃ v : Nat, qf = (v : Int) := ⟨qf.toNat, by omega⟩
    rw [Int.toNat_natCast] at UN
    have x2 := IntWalk.i64_in ((i : Int) + 1 + (v : Int)) (by omega)
    by_cases hv : v = 0
    ·subst hv
     have z0 : ¬ ((0 : Nat) : Int) > 0 := by omega
     go_wp2_with (first
      | (refine wpList_load_mid rfl 108 (.tmp 14) rfl b (o + i * 4) rfl _ _ LD.out Tryz.underlying108 rfl rop_info ?_)
      | fail)
     go_roundw
     case rel => exact ⟨i + 1, n, k + 1, _, by omega, rfl, rfl, rfl, by omega, hx0, hx1, by omega, UN, HA.out⟩
     case measure => simp [intOf]; omega
    ·have z0 : (v : Int) > 0 := by omega
     have HN := Lib.hid hn
     have HX := Lib.hid (And.intro hx0 hx1)
     clear hn hx0 hx1 hv k0 k1 kn1
     go_wp2_with (first
      | (refine wpList_load_mid rfl 108 (.tmp 14) rfl b (o + i * 4) rfl _ _ LD.out Tryz.underlying108 rfl rop_info ?_)
      | fail)
     go_roundw
     case rel => exact ⟨i + 1 + v, n, k + 1, _, by omega, rfl, rfl, rfl, by omega, HX.out.1, HX.out.2, by have := HN.out; omega, UN, HA.out⟩
     case measure => simp [intOf]; omega
  ·clear c56 c4 c0 c8
   have UN := Lib.hid (show (kn : Int) = runP p s from by
    have := UN.out
    rw [stepF_7] at this
    exact this)
   go_wp2_with (first
    | (refine wpList_load_mid rfl 108 (.tmp 14) rfl b (o + i * 4) rfl _ _ LD.out Tryz.underlying108 rfl rop_info ?_)
    | fail)
   go_ret2
   exact ⟨⟨_, by rw [← UN.out]; rfl⟩, HA.out⟩
  ·clear c56 c4 c0 c8
   have UN := Lib.hid (show x = runP p s from by
    have := UN.out
    rw [stepF_8] at this
    exact this)
   go_wp2_with (first
    | (refine wpList_load_mid rfl 108 (.tmp 14) rfl b (o + i * 4) rfl _ _ LD.out Tryz.underlying108 rfl rop_info ?_)
    | fail)
   go_ret2
   exact ⟨⟨_, by rw [← UN.out]; rfl⟩, HA.out⟩
end Go.Proofs.YtbkjjakkihbcdaaGreat.R7
