/- The document's interpreter: it ends, after at most as many steps as the program has. Conditions: those that each states. -/
import Derived.Test.YtmalkimhngealaaFlt5
namespace Go.Proofs.Ytmalkimhngealaa
open Go.ChangeShapes Go.WideShapes Go.ChangeAt Go.RowKit Go.Deep
set_option linter.unusedVariables false
def SomeNum (e : Ending) : Prop := ∃ (x : Int) (b : Bool), e = .returned (.tuple #[.int .u32 x, .bool b])
set_option maxHeartbeats 1000000 in
theorem number_any (s : ByteArray) (k : Int) (m : Nat) (hk : 0 ≤ k ∧ k < 4294967296) (hm : m ≤ 4) (hs : s.size ≤ 1000000) (w : World) :
    Calls Try.prog 18 #[.string s, .int .u32 k, .int .i64 (m : Int)] w fun e w' => SomeNum e ∧ w' = w := by
  obtain ⟨k0, k1⟩ := hk
  go_enter Try.func18, Try.ntmps18
  go_wp2
  go_loopw [8, 9] (fun n i wr => ∃ (j : Nat) (x : Int), j ≤ m ∧ i = .int .i64 (j : Int) ∧ n = .int .u32 x ∧ wr = w) (fun _ i _ => m - (intOf i).toNat)
  case atStart => exact ⟨0, 0, Nat.zero_le _, rfl, rfl, rfl⟩
  case round =>
    obtain ⟨j, x, hj, rfl, rfl, rfl⟩ := hrel
    by_cases hlt : j < m
    · have hlt' : (j : Int) < (m : Int) := by omega
      have j0 : (0 : Int) ≤ (j : Int) := by omega
      have xj := IntWalk.i64_in ((j : Int) + 1) (by omega)
      have xk := IntWalk.i64_in (k + (j : Int)) (by omega)
      by_cases h : k + (j : Int) ≥ (s.size : Int)
      · go_wp2
        go_ret2
        exact ⟨⟨_, _, rfl⟩, rfl⟩
      · have h' : k + (j : Int) < (s.size : Int) := by omega
        have h0 : 0 ≤ k + (j : Int) := by omega
        go_wp2
        go_roundw
        case rel => exact ⟨j + 1, _, by omega, by simp, rfl, by first | rfl | trivial⟩
        case measure => simp [intOf]; omega
    · have hge : ¬ (j : Int) < (m : Int) := by omega
      go_wp2
      go_ret2
      exact ⟨⟨_, _, rfl⟩, rfl⟩
def Ended (n : Nat) (e : Ending) : Prop := ∃ (x : Int) (k : Nat), e = .returned (.tuple #[.int .u32 x, .int .i64 (k : Int)]) ∧ k ≤ n
set_option maxRecDepth 1000000 in
set_option maxHeartbeats 4000000 in
theorem ref_ends (A : Option Addr) (c : Nat) (p : List Ins) (s : ByteArray) (w : World) (hp : Prg w A p) (hok : ∀ q ∈ p, q.Ok) (h : Chk p) (hsm : s.size ≤ 1000000) :
    Calls Try.prog 14 #[.slice A p.length c, .string s] w fun e w' => Ended p.length e ∧ Below w.heap.size w w' := by
  have HP := Lib.hid hp
  have HOK := Lib.hid hok
  have HCHK := Lib.hid h
  have n1 := h.n1
  have n2 := h.n2
  have B0 := Lib.hid (Below.refl w.heap.size w)
  clear hp hok h
  go_enter Try.func14, Try.ntmps14
  go_wp2
  go_loopw [6, 7, 8] (fun a at_ st wr => ∃ (i k : Nat) (x : Int), i < p.length ∧ at_ = .int .i64 (i : Int) ∧ st = .int .i64 (k : Int) ∧ a = .int .u32 x ∧ k ≤ i ∧ Below w.heap.size w wr) (fun _ at_ _ _ => p.length - (intOf at_).toNat)
  case atStart => exact ⟨0, 0, 0, by omega, rfl, rfl, rfl, Nat.le_refl _, B0.out⟩
  case round =>
    clear B0
    obtain ⟨i, k, x, hi, rfl, rfl, rfl, hki, hb⟩ := hrel
    have HB := Lib.hid hb
    clear hb
    have hil : (i : Int) < (p.length : Int) := by omega
    have hi0 : (0 : Int) ≤ (i : Int) := by omega
    have x1 := IntWalk.i64_in ((i : Int) + 1) (by omega)
    have x3 := IntWalk.i64_in ((k : Int) + 1) (by omega)
    obtain ⟨c0, c8, c56, c4⟩ := HCHK.out.at_ hi
    have QOK := Lib.hid (HOK.out p[i] (List.getElem_mem hi))
    obtain ⟨b, o, rfl, hbl, hr⟩ := (HP.out.new HB.out) i hi
    have LD := Lib.hid (show wr.rangeAt b (o + i * 4) [.int .i64 p[i].code, .int .u32 p[i].k, .int .i64 p[i].t, .int .i64 p[i].f] from hr)
    have hgs : w.heap.size ≤ wr.heap.size := HB.out.size
    have HK := Lib.hid QOK.out.k
    generalize p[i].code = qc at *
    generalize p[i].k = qk at *
    generalize p[i].t = qt at *
    generalize p[i].f = qf at *
    have HA := Lib.hid (HB.out.trans (((Below.refl wr.heap.size wr).alloc (Nat.le_refl _) (.cells #[.int .i64 qc, .int .u32 qk, .int .i64 qt, .int .i64 qf] 38)).mono hgs))
    clear hr QOK
    have hcs : qc = 0 ∨ qc = 1 ∨ qc = 2 ∨ qc = 3 ∨ qc = 4 ∨ qc = 5 ∨ qc = 6 ∨ qc = 7 ∨ qc = 8 := by omega
    rcases hcs with rfl | rfl | rfl | rfl | rfl | rfl | rfl | rfl | rfl
    · have hn1 : i + 1 < p.length := c4 (by decide)
      clear c56 c4 c0 c8
      have NU := Lib.hid (fun W => number_any s qk 1 HK.out (by decide) hsm W)
      go_wp2_with (first
        | (refine wpList_load_mid rfl 38 (.tmp 14) rfl b (o + i * 4) rfl _ _ LD.out Try.underlying38 rfl rop_info ?_)
        | fail)
      refine (NU.out _).mono ?_; rintro e w6 ⟨⟨y, ok, rfl⟩, rfl⟩
      cases ok with
      | false =>
        go_wp2
        go_ret2
        exact ⟨⟨_, k + 1, rfl, by omega⟩, HA.out⟩
      | true =>
        go_wp2
        go_roundw
        case rel => exact ⟨i + 1, k + 1, _, by omega, rfl, rfl, rfl, by omega, HA.out⟩
        case measure => simp [intOf]; omega
    · have hn1 : i + 1 < p.length := c4 (by decide)
      clear c56 c4 c0 c8
      have NU := Lib.hid (fun W => number_any s qk 2 HK.out (by decide) hsm W)
      go_wp2_with (first
        | (refine wpList_load_mid rfl 38 (.tmp 14) rfl b (o + i * 4) rfl _ _ LD.out Try.underlying38 rfl rop_info ?_)
        | fail)
      refine (NU.out _).mono ?_; rintro e w6 ⟨⟨y, ok, rfl⟩, rfl⟩
      cases ok with
      | false =>
        go_wp2
        go_ret2
        exact ⟨⟨_, k + 1, rfl, by omega⟩, HA.out⟩
      | true =>
        go_wp2
        go_roundw
        case rel => exact ⟨i + 1, k + 1, _, by omega, rfl, rfl, rfl, by omega, HA.out⟩
        case measure => simp [intOf]; omega
    · have hn1 : i + 1 < p.length := c4 (by decide)
      clear c56 c4 c0 c8
      have NU := Lib.hid (fun W => number_any s qk 4 HK.out (by decide) hsm W)
      go_wp2_with (first
        | (refine wpList_load_mid rfl 38 (.tmp 14) rfl b (o + i * 4) rfl _ _ LD.out Try.underlying38 rfl rop_info ?_)
        | fail)
      refine (NU.out _).mono ?_; rintro e w6 ⟨⟨y, ok, rfl⟩, rfl⟩
      cases ok with
      | false =>
        go_wp2
        go_ret2
        exact ⟨⟨_, k + 1, rfl, by omega⟩, HA.out⟩
      | true =>
        go_wp2
        go_roundw
        case rel => exact ⟨i + 1, k + 1, _, by omega, rfl, rfl, rfl, by omega, HA.out⟩
        case measure => simp [intOf]; omega
    · have hn1 : i + 1 < p.length := c4 (by decide)
      clear c56 c4 c0 c8
      go_wp2_with (first
        | (refine wpList_load_mid rfl 38 (.tmp 14) rfl b (o + i * 4) rfl _ _ LD.out Try.underlying38 rfl rop_info ?_)
        | fail)
      go_roundw
      case rel => exact ⟨i + 1, k + 1, _, by omega, rfl, rfl, rfl, by omega, HA.out⟩
      case measure => simp [intOf]; omega
    · have hn1 : i + 1 < p.length := c4 (by decide)
      clear c56 c4 c0 c8
      obtain ⟨k0, k1⟩ := HK.out
      by_cases h32 : qk ≥ 32
      · go_wp2_with (first
          | (refine wpList_load_mid rfl 38 (.tmp 14) rfl b (o + i * 4) rfl _ _ LD.out Try.underlying38 rfl rop_info ?_)
          | fail)
        go_roundw
        case rel => exact ⟨i + 1, k + 1, _, by omega, rfl, rfl, rfl, by omega, HA.out⟩
        case measure => simp [intOf]; omega
      · go_wp2_with (first
          | (refine wpList_load_mid rfl 38 (.tmp 14) rfl b (o + i * 4) rfl _ _ LD.out Try.underlying38 rfl rop_info ?_)
          | fail)
        go_roundw
        case rel => exact ⟨i + 1, k + 1, _, by omega, rfl, rfl, rfl, by omega, HA.out⟩
        case measure => simp [intOf]; omega
    · obtain ⟨t0, f0, t1, f1⟩ := c56 (by decide)
      clear c56 c4 c0 c8
      by_cases hx : x = qk
      · subst hx
        obtain ⟨v, rfl⟩ : ∃ v : Nat, qt = (v : Int) := ⟨qt.toNat, by omega⟩
        have x2 := IntWalk.i64_in ((i : Int) + 1 + (v : Int)) (by omega)
        by_cases hv : v = 0
        · subst hv
          have z0 : ¬ ((0 : Nat) : Int) > 0 := by omega
          go_wp2_with (first
            | (refine wpList_load_mid rfl 38 (.tmp 14) rfl b (o + i * 4) rfl _ _ LD.out Try.underlying38 rfl rop_info ?_)
            | fail)
          go_roundw
          case rel => exact ⟨i + 1, k + 1, _, by omega, rfl, rfl, rfl, by omega, HA.out⟩
          case measure => simp [intOf]; omega
        · have z0 : (v : Int) > 0 := by omega
          go_wp2_with (first
            | (refine wpList_load_mid rfl 38 (.tmp 14) rfl b (o + i * 4) rfl _ _ LD.out Try.underlying38 rfl rop_info ?_)
            | fail)
          go_roundw
          case rel => exact ⟨i + 1 + v, k + 1, _, by omega, rfl, rfl, rfl, by omega, HA.out⟩
          case measure => simp [intOf]; omega
      · have hx' : (x == qk) = false := by simpa using hx
        obtain ⟨v, rfl⟩ : ∃ v : Nat, qf = (v : Int) := ⟨qf.toNat, by omega⟩
        have x2 := IntWalk.i64_in ((i : Int) + 1 + (v : Int)) (by omega)
        by_cases hv : v = 0
        · subst hv
          have z0 : ¬ ((0 : Nat) : Int) > 0 := by omega
          go_wp2_with (first
            | (refine wpList_load_mid rfl 38 (.tmp 14) rfl b (o + i * 4) rfl _ _ LD.out Try.underlying38 rfl rop_info ?_)
            | fail)
          go_roundw
          case rel => exact ⟨i + 1, k + 1, _, by omega, rfl, rfl, rfl, by omega, HA.out⟩
          case measure => simp [intOf]; omega
        · have z0 : (v : Int) > 0 := by omega
          go_wp2_with (first
            | (refine wpList_load_mid rfl 38 (.tmp 14) rfl b (o + i * 4) rfl _ _ LD.out Try.underlying38 rfl rop_info ?_)
            | fail)
          go_roundw
          case rel => exact ⟨i + 1 + v, k + 1, _, by omega, rfl, rfl, rfl, by omega, HA.out⟩
          case measure => simp [intOf]; omega
    · obtain ⟨t0, f0, t1, f1⟩ := c56 (by decide)
      clear c56 c4 c0 c8
      by_cases hx : x > qk
      · obtain ⟨v, rfl⟩ : ∃ v : Nat, qt = (v : Int) := ⟨qt.toNat, by omega⟩
        have x2 := IntWalk.i64_in ((i : Int) + 1 + (v : Int)) (by omega)
        by_cases hv : v = 0
        · subst hv
          have z0 : ¬ ((0 : Nat) : Int) > 0 := by omega
          go_wp2_with (first
            | (refine wpList_load_mid rfl 38 (.tmp 14) rfl b (o + i * 4) rfl _ _ LD.out Try.underlying38 rfl rop_info ?_)
            | fail)
          go_roundw
          case rel => exact ⟨i + 1, k + 1, _, by omega, rfl, rfl, rfl, by omega, HA.out⟩
          case measure => simp [intOf]; omega
        · have z0 : (v : Int) > 0 := by omega
          go_wp2_with (first
            | (refine wpList_load_mid rfl 38 (.tmp 14) rfl b (o + i * 4) rfl _ _ LD.out Try.underlying38 rfl rop_info ?_)
            | fail)
          go_roundw
          case rel => exact ⟨i + 1 + v, k + 1, _, by omega, rfl, rfl, rfl, by omega, HA.out⟩
          case measure => simp [intOf]; omega
      · obtain ⟨v, rfl⟩ : ∃ v : Nat, qf = (v : Int) := ⟨qf.toNat, by omega⟩
        have x2 := IntWalk.i64_in ((i : Int) + 1 + (v : Int)) (by omega)
        by_cases hv : v = 0
        · subst hv
          have z0 : ¬ ((0 : Nat) : Int) > 0 := by omega
          go_wp2_with (first
            | (refine wpList_load_mid rfl 38 (.tmp 14) rfl b (o + i * 4) rfl _ _ LD.out Try.underlying38 rfl rop_info ?_)
            | fail)
          go_roundw
          case rel => exact ⟨i + 1, k + 1, _, by omega, rfl, rfl, rfl, by omega, HA.out⟩
          case measure => simp [intOf]; omega
        · have z0 : (v : Int) > 0 := by omega
          go_wp2_with (first
            | (refine wpList_load_mid rfl 38 (.tmp 14) rfl b (o + i * 4) rfl _ _ LD.out Try.underlying38 rfl rop_info ?_)
            | fail)
          go_roundw
          case rel => exact ⟨i + 1 + v, k + 1, _, by omega, rfl, rfl, rfl, by omega, HA.out⟩
          case measure => simp [intOf]; omega
    · clear c56 c4 c0 c8
      go_wp2_with (first
        | (refine wpList_load_mid rfl 38 (.tmp 14) rfl b (o + i * 4) rfl _ _ LD.out Try.underlying38 rfl rop_info ?_)
        | fail)
      go_ret2
      exact ⟨⟨_, k + 1, rfl, by omega⟩, HA.out⟩
    · clear c56 c4 c0 c8
      go_wp2_with (first
        | (refine wpList_load_mid rfl 38 (.tmp 14) rfl b (o + i * 4) rfl _ _ LD.out Try.underlying38 rfl rop_info ?_)
        | fail)
      go_ret2
      exact ⟨⟨_, k + 1, rfl, by omega⟩, HA.out⟩
end Go.Proofs.Ytmalkimhngealaa
