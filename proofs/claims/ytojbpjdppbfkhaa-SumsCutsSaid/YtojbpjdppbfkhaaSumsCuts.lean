/- Whatever bytes and two words come in, 'pantlerlaw01.SumsCuts' returns true and leaves them as they were. No condition. -/
import Derived.Test.YtojbpjdppbfkhaaRef01
import Derived.Test.YtojbpjdppbfkhaaApp
namespace Go.Proofs.Ytojbpjdppbfkhaa.sumsCuts
open Go.ChangeShapes Go.WideShapes Go.ChangeAt Go.RowKit Fl
set_option linter.unusedVariables false


theorem evs_set (v : UInt8) : ∀ (l : List UInt8) (i : Nat) (h : i < l.length), (i % 2 = 0 → evs (l.set i v) + l[i].toNat = evs l + v.toNat ∧ ods (l.set i v) = ods l) ∧ (i % 2 = 1 → evs (l.set i v) = evs l ∧ ods (l.set i v) + l[i].toNat = ods l + v.toNat)
  | [], i, h => by simp at h
  | a :: l, 0, _ => by simp [evs, ods]; omega
  | a :: l, i + 1, h => by
    have ih := evs_set v l i (by simpa using h)
    simp only [List.set_cons_succ, evs, ods, List.getElem_cons_succ]
    refine ⟨fun hi => ?_, fun hi => ?_⟩
    · have := ih.2 (by omega); omega
    · have := ih.1 (by omega); omega

theorem info5 : (Try.prog.info? 5).map (fun i => (i.zero, i.size, i.bytes)) = some (some (.int .u8 0), 1, 1) := by kernel_rfl

set_option maxRecDepth 100000 in
set_option maxHeartbeats 1600000 in
theorem walk (w : World) (A : Option Addr) (n c : Nat) (l : List UInt8) (hb : Bytes w A n c l) (x : Int) (wx : (Lit.int .u16 x).wf = true) (y : Int) (wy : (Lit.int .u16 y).wf = true) :
    Calls Try.prog 5 #[.slice A n c, .int .u16 x, .int .u16 y] w fun e w' => e = .returned (.bool true) ∧ Below w.heap.size w w' := by
  obtain ⟨x, rfl, hx⟩ := wf_u16 wx
  obtain ⟨y, rfl, hy⟩ := wf_u16 wy
  have hlen := hb.len
  have hcap := hb.cap
  by_cases hn : n ≤ 3000
  · have hle := evs_le l
    have hk : x % (n + 1) ≤ n := by have := Nat.mod_lt x (show 0 < n + 1 by omega); omega
    have hki : (x : Int) % ((n : Int) + 1) = ((x % (n + 1) : Nat) : Int) := by simp
    generalize x % (n + 1) = k at hk hki
    obtain ⟨A2, hA2⟩ : ∃ A2, A2 = (if c = k then A else A.map (·.add k)) := ⟨_, rfl⟩
    have hs2 := run_cut_bytes A n c k hk
    rw [← hA2] at hs2
    have HA2 := Lib.hid hA2
    clear hA2
    have hne : ((n : Int) + 1 == 0) = false := by simp; omega
    go_enter Try.func5, Try.ntmps5
    go_wp2_with fail
    refine (alive_any _).mono ?_; rintro e w1 ⟨rfl, b1⟩
    have hb1 := hb.below b1
    go_wp2_with fail
    refine (part_b _ _ _ l _ hb1 (by omega)).mono ?_; rintro e w2 ⟨rfl, b2⟩
    have hb2 := hb1.below b2
    go_wp2_with fail
    refine (part_b _ _ _ _ _ (hb2.take hk) (by omega)).mono ?_; rintro e w3 ⟨rfl, b3⟩
    have hb3 := hb2.below b3
    go_wp2_with fail
    have hb4 := hb3.cut hk
    rw [← HA2.out] at hb4
    refine (part_b _ _ _ _ _ hb4 (by omega)).mono ?_; rintro e w4 ⟨rfl, b4⟩
    have hb5 := hb3.below b4
    have B4 := Lib.hid (((b1.trans (b2.mono b1.size)).trans (b3.mono (Nat.le_trans b1.size b2.size))).trans (b4.mono (Nat.le_trans b1.size (Nat.le_trans b2.size b3.size))))
    clear hs2 b1 b2 b3 b4 hb1 hb2 hb3 hb4
    go_wp2_with fail
    -- Join
    have hspl : evs (l.take k) + evs (l.drop k) + (ods (l.take k) + ods (l.drop k)) = evs l + ods l ∧ (if k % 2 = 1 then evs l = evs (l.take k) + ods (l.drop k) ∧ ods l = ods (l.take k) + evs (l.drop k) else evs l = evs (l.take k) + evs (l.drop k) ∧ ods l = ods (l.take k) + ods (l.drop k)) := by
      have h1 := evs_append (l.take k) (l.drop k)
      have h2 : (l.take k).length = k := by rw [List.length_take]; omega
      rw [List.take_append_drop, h2] at h1
      by_cases hp : k % 2 = 1
      · rw [if_neg (by omega), if_neg (by omega)] at h1
        rw [if_pos hp]; exact ⟨by omega, h1⟩
      · rw [if_pos (by omega), if_pos (by omega)] at h1
        rw [if_neg hp]; exact ⟨by omega, h1⟩
    have hj : ∀ W, Calls Try.prog 20 #[.complex .f64 (fl (evs (l.take k))) (fl (ods (l.take k))), .int .i64 k, .complex .f64 (fl (evs (l.drop k))) (fl (ods (l.drop k)))] W fun e w' => e = .returned (.tuple #[.complex .f64 (fl (evs l)) (fl (ods l)), .int .i64 0]) ∧ W = w' := fun W => by
      have J := join_ok (evs (l.take k)) (ods (l.take k)) (evs (l.drop k)) (ods (l.drop k)) _ _ k W (read_fl (by omega)).rep (read_fl (by omega)).rep (by omega) (by omega) (by omega) (by omega) (by omega)
      unfold joined at J
      by_cases hp : k % 2 = 1
      · rw [if_pos hp] at hspl
        rw [if_pos hp, if_pos (by omega)] at J
        rw [hspl.2.1, hspl.2.2]
        exact J
      · rw [if_neg hp] at hspl
        rw [if_neg hp, if_pos (by omega)] at J
        rw [hspl.2.1, hspl.2.2]
        exact J
    refine (hj _).mono ?_; rintro e w' ⟨rfl, rfl⟩
    clear hspl hj
    have q1 := eqf' (evs l) (by omega)
    have q2 := eqf' (ods l) (by omega)
    go_wp2_with fail
    refine (turn_any _ _ _).mono ?_; rintro e w' ⟨rfl, rfl⟩
    go_wp2_with fail
    refine (turn_any _ _ _).mono ?_; rintro e w' ⟨rfl, rfl⟩
    by_cases h2 : n < 2
    · go_wp2_with fail
      go_ret
      exact ⟨rfl, B4.out⟩
    · obtain ⟨i0, hi, hz0, hz1, hz2⟩ := info_parts info5
      have hown := World.ownsRow_lit (base := w.heap.size) (e := 5) (size := 1) w4 #[] 0 B4.out.size (by decide) rfl
      obtain ⟨ba, oa, _, hA, _⟩ := hb5.byte (k := 0) (by omega)
      subst hA
      obtain ⟨nw1, nw2, nw3⟩ := (hb5.alloc (.cells #[] 5)).news
      have NW1 := Lib.hid nw1
      have NW2 := Lib.hid nw2
      have NW3 := Lib.hid nw3
      clear nw1 nw2 nw3
      have hc1 : 0 + n ≤ maxLen := by unfold maxLen; omega
      have hc2 : (0 + n) * 1 ≤ 140737488355328 := by omega
      have hc3 : w.heap.size ≤ (w4.alloc (.cells #[] 5)).heap.size := by simp; have := B4.out.size; omega
      have HC := Lib.hid hc1
      have HC2 := Lib.hid hc2
      have HC3 := Lib.hid hc3
      clear hc1 hc2 hc3
      have hy2 : (y : Int) % ((n : Int) / 2) = ((y % (n / 2) : Nat) : Int) := by simp
      have hy3 : y % (n / 2) < n / 2 := Nat.mod_lt _ (by omega)
      generalize y % (n / 2) = j at hy2 hy3
      have hne2 : ((n : Int) / 2 == 0) = false := by simp; omega
      go_wp2_with (at_builtin; refine Hid.out ?_)
      unfold Hid
      refine wpList_append_own _ rfl _ _ 22 rfl w.heap.size 5 i0 (.int .u8 0) 1 1 Try.underlying22 hi hz0 hz1 hz2 rfl (by decide) (.slice (some ⟨w4.heap.size, 0, none⟩) 0 0) 0 [] rfl hown _ _ _ _ rfl NW1.out NW2.out NW3.out HC.out HC2.out HC3.out ?_
      intro v' w5 hown' hgrow hblk
      rw [Nat.zero_add] at hown'
      obtain ⟨g, cp, rfl, O5⟩ := OwnB.of (l := l) hown' (by omega)
      obtain ⟨_, k0⟩ := O5.cell (j := j * 2) (by omega)
      obtain ⟨_, k1⟩ := O5.cell (j := j * 2 + 1) (by omega)
      have f0 := O5.frozen (j * 2)
      have f1 := O5.frozen (j * 2 + 1)
      have hgb : ∀ q, (Value.slice (some ⟨w4.heap.size, 0, none⟩) 0 0).ownBlock = some q → w.heap.size ≤ q := by
        intro q hq
        have hq' : w4.heap.size = q := by simpa [Value.ownBlock] using hq
        have := B4.out.size
        omega
      have B5 := Lib.hid (Below.grown (B4.out.alloc B4.out.size (.cells #[] 5)) hgrow HC3.out hgb)
      clear hgb
      have O5 := Lib.hid O5
      clear hown' hgrow hblk hown
      go_wp2_with fail
      have O6 : OwnB ((w5.setCell ⟨g, j * 2, none⟩ (.int .u8 0)).setCell ⟨g, j * 2 + 1, none⟩ (.int .u8 0)) w.heap.size g n cp ((l.set (j * 2) 0).set (j * 2 + 1) 0) := (O5.out.set 0).set 0
      have hb6 := O6.bytes
      have B6 : Below w.heap.size w ((w5.setCell ⟨g, j * 2, none⟩ (.int .u8 0)).setCell ⟨g, j * 2 + 1, none⟩ (.int .u8 0)) := (B5.out.setCell (by exact O5.out.base) _).setCell (by exact O5.out.base) _
      refine (part_b _ _ _ _ _ hb6 (by omega)).mono ?_; rintro e w6 ⟨rfl, b6⟩
      have O7 := O6.below b6
      have B7 := Lib.hid (B6.trans (b6.mono B6.size))
      clear O6 B6 b6 hb6 k0 k1 f0 f1 O5 B5
      have e0 : ((l.set (j * 2) 0).set (j * 2 + 1) 0)[j * 2]? = some 0 := by rw [List.getElem?_set_ne (by omega), List.getElem?_set_self (by omega)]
      have e1 : ((l.set (j * 2) 0).set (j * 2 + 1) 0)[j * 2 + 1]? = some 0 := by rw [List.getElem?_set_self (by rw [List.length_set]; omega)]
      have hl0 := O7.bytes.len
      generalize ((l.set (j * 2) 0).set (j * 2 + 1) 0) = l0 at *
      have hle0 := evs_le l0
      have hfo := fo_le (256 * evs l0 + ods l0)
      have hsm := fo_add (256 * evs l0 + ods l0) (65535 - fo (256 * evs l0 + ods l0)) (by omega)
      rw [if_neg (by omega)] at hsm
      have hsb : 65535 - fo (256 * evs l0 + ods l0) ≤ 65535 := by omega
      have hs2 : fo (256 * evs l0 + ods l0) + (65535 - fo (256 * evs l0 + ods l0)) = 65535 := by omega
      rw [hs2] at hsm
      have HSM := Lib.hid hsm
      have HE0 := Lib.hid e0
      have HE1 := Lib.hid e1
      clear hsm hs2 e0 e1 hfo
      go_wp2_with fail
      refine (sum_ok _ _ (evs l0) (ods l0) _ (read_fl (by omega)).rep (read_fl (by omega)).rep (by omega) (by omega)).mono ?_; rintro e w' ⟨rfl, rfl⟩
      generalize 65535 - fo (256 * evs l0 + ods l0) = s at *
      obtain ⟨_, k0⟩ := O7.cell (j := j * 2) (by omega)
      obtain ⟨_, k1⟩ := O7.cell (j := j * 2 + 1) (by omega)
      have f0 := O7.frozen (j * 2)
      have f1 := O7.frozen (j * 2 + 1)
      have O7 := Lib.hid O7
      go_wp2_with fail
      have t0 : (((UInt8.ofNat (s / 256)).toNat : Nat) : Int) = (s : Int) / 256 := by rw [UInt8.toNat_ofNat']; omega
      have t1 : (((UInt8.ofNat (s % 256)).toNat : Nat) : Int) = (s : Int) % 256 := by rw [UInt8.toNat_ofNat']; omega
      have O8 := (O7.out.set (j := j * 2) (UInt8.ofNat (s / 256))).set (j := j * 2 + 1) (UInt8.ofNat (s % 256))
      rw [t0, t1] at O8
      have hgood : fo (256 * evs ((l0.set (j * 2) (UInt8.ofNat (s / 256))).set (j * 2 + 1) (UInt8.ofNat (s % 256))) + ods ((l0.set (j * 2) (UInt8.ofNat (s / 256))).set (j * 2 + 1) (UInt8.ofNat (s % 256)))) = 65535 := by
        have g0 := (evs_set (UInt8.ofNat (s / 256)) l0 (j * 2) (by omega)).1 (by omega)
        have g1 := (evs_set (UInt8.ofNat (s % 256)) (l0.set (j * 2) (UInt8.ofNat (s / 256))) (j * 2 + 1) (by rw [List.length_set]; omega)).2 (by omega)
        have z0 : l0[j * 2]'(by omega) = 0 := (List.getElem?_eq_some_iff.1 HE0.out).2
        have z1 : (l0.set (j * 2) (UInt8.ofNat (s / 256)))[j * 2 + 1]'(by rw [List.length_set]; omega) = 0 := by
          rw [List.getElem_set_ne (by omega)]
          exact (List.getElem?_eq_some_iff.1 HE1.out).2
        rw [z0] at g0
        rw [z1] at g1
        have u0 : (UInt8.ofNat (s / 256)).toNat = s / 256 := by omega
        have u1 : (UInt8.ofNat (s % 256)).toNat = s % 256 := by omega
        rw [u0] at g0
        rw [u1] at g1
        have zz : (0 : UInt8).toNat = 0 := rfl
        rw [zz] at g0 g1
        rw [← HSM.out]
        congr 1
        omega
      refine (good_ok _ _ _ _ _ O8.bytes (by omega)).mono ?_; rintro e w7 ⟨rfl, m7, rfl⟩
      rw [hgood]
      have B8 : Below w.heap.size w ((w6.setCell ⟨g, j * 2, none⟩ (.int .u8 ((s : Int) / 256))).setCell ⟨g, j * 2 + 1, none⟩ (.int .u8 ((s : Int) % 256))) := (B7.out.setCell (by exact O7.out.base) _).setCell (by exact O7.out.base) _
      clear hgood O8
      go_wp2_with fail
      go_ret
      exact ⟨rfl, below_drewN B8 m7⟩
  · go_enter Try.func5, Try.ntmps5
    go_wp2_with fail
    refine (alive_any _).mono ?_; rintro e w1 ⟨rfl, b1⟩
    go_wp2_with fail
    go_ret
    exact ⟨rfl, b1⟩

set_option maxRecDepth 100000 in
theorem lifted (os : Os) (started : os.Started) (H : Type) (enc : TypeId × Value → H) :
    ReturnsInHanded {} Try.checked os 5 .any (Rows.sumsCutsSpec.pre6 enc Try.prog Try.f5 Rows.sumsCutsRow.domain false) (Rows.sumsCutsSpec.post enc Try.prog Try.f5 false true false false) := by
  refine returnsInHanded_of_change (C := Try.checked) own started (by kernel_rfl) Try.func5
    (ChangeSpec.witness6 (enc := enc) (C := Try.checked) false ⟨#[], #[.slice none 0 0, .int .u16 0, .int .u16 0], []⟩ 8 (by kernel_rfl) (by kernel_rfl) (by kernel_rfl) (by kernel_rfl)) ?_
  intro W base args ds gs before hval0 hW hcnd _
  have hval : ∀ (j : Nat) t v, Try.f5.params[j]? = some t → args[j]? = some v → Value.okWide Try.prog W .any base t v := hval0
  have hW' := hW
  obtain ⟨p, q, hA0, hV, rfl, hfz, hnd⟩ := hW
  have hA : DataW.TrodAll enc Try.prog W 0 (fun _ => true) true Try.f5.params.toList args.toList ds p := hA0
  rw [Try.params5] at hA hval
  obtain ⟨v0, vs0, d0, ds0, p0, q0, hargs, rfl, rfl, h0, r0⟩ := trodAll_cons hA
  obtain ⟨v1, vs1, d1, ds1, p1, q1, rfl, rfl, rfl, h1, r1⟩ := trodAll_cons r0
  obtain ⟨v2, vs2, d2, ds2, p2, q2, rfl, rfl, rfl, h2, r2⟩ := trodAll_cons r1
  obtain ⟨rfl, rfl, rfl⟩ := trodAll_nil r2
  obtain rfl : args = #[v0, v1, v2] := by cases args; simp_all
  obtain ⟨A0, n0, c0, l0, rfl, b0⟩ := open_bytes Try.underlying22 Try.underlying5 (by kernel_rfl) (hval 0 22 v0 rfl rfl) h0
  obtain ⟨a1, rfl, _, _, w1⟩ := open_int Try.underlying34 (hval 1 34 v1 rfl rfl) h1
  obtain ⟨a2, rfl, _, _, w2⟩ := open_int Try.underlying34 (hval 2 34 v2 rfl rfl) h2
  clear hA0 hval0
  exact law_close hW' laidOut (by kernel_rfl) rfl Try.underlying4 rfl ⟨rfl, rfl, rfl⟩ (walk W A0 n0 c0 l0 b0 a1 w1 a2 w2)

theorem over : Rows.sumsCutsRow.holds Try.pinned (OpenSpec.ofChange Rows.sumsCutsSpec) :=
  OpenClaim.holds_of_wide 5 Try.f5 rfl rfl rfl rfl rfl rfl rfl ⟨rfl, rfl, rfl, rfl, rfl⟩ rfl rfl rfl rfl rfl (by kernel_rfl) Try.func5 (by kernel_rfl)
    (of_decide_eq_true (by kernel_rfl)) (by unfold Func.isWrapper; first | (rw [if_pos (by decide +kernel)]; kernel_rfl) | (rw [if_neg (by decide +kernel)]; exact ⟨rfl, rfl⟩))
    (fun os started H enc _ => lifted os started H enc)

theorem proved : Rows.SumsCutsSaid := over

end Go.Proofs.Ytojbpjdppbfkhaa.sumsCuts
