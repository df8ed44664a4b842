/- Whatever bytes and three words come in, 'pantlerlaw01.SumsWords' returns true and leaves them as they were. No condition. -/
import Derived.Test.YtojbpjdppbfkhaaRef01
import Derived.Test.YtojbpjdppbfkhaaApp
import Derived.Deep.RegionHeld3
import Derived.Deep.DeepCutAuto
namespace Go.Proofs.Ytojbpjdppbfkhaa.sumsWords
open Go.ChangeShapes Go.WideShapes Go.ChangeAt Go.RowKit Fl
set_option linter.unusedVariables false


theorem evs_set (v : UInt8) : ∀ (l : List UInt8) (i : Nat) (h : i < l.length), (i % 2 = 0 → evs (l.set i v) + l[i].toNat = evs l + v.toNat ∧ ods (l.set i v) = ods l) ∧ (i % 2 = 1 → evs (l.set i v) = evs l ∧ ods (l.set i v) + l[i].toNat = ods l + v.toNat)
  | [], i, h => by simp at h
  | a :: l, 0, _ => by simp [evs, ods]; omega
  | a :: l, i + 1, h => by
    have ih := evs_set v l i (by simpa using h)
    simp only [List.set_cons_succ, evs, ods, List.getElem_cons_succ]
    refine ⟨fun hi => ?_, fun hi => ?_⟩
    · have := ih.2 (by omega); omega
    · have := ih.1 (by omega); omega

theorem swap_sum (l : List UInt8) (i j : Nat) (hi : i * 2 + 1 < l.length) (hj : j * 2 + 1 < l.length) :
    evs ((((l.set (i * 2) l[j * 2]).set (i * 2 + 1) l[j * 2 + 1]).set (j * 2) l[i * 2]).set (j * 2 + 1) l[i * 2 + 1]) = evs l ∧
    ods ((((l.set (i * 2) l[j * 2]).set (i * 2 + 1) l[j * 2 + 1]).set (j * 2) l[i * 2]).set (j * 2 + 1) l[i * 2 + 1]) = ods l := by
  have h1 := (evs_set l[j * 2] l (i * 2) (by omega)).1 (by omega)
  have h2 := (evs_set l[j * 2 + 1] (l.set (i * 2) l[j * 2]) (i * 2 + 1) (by simp; omega)).2 (by omega)
  have g2 : (l.set (i * 2) l[j * 2])[i * 2 + 1]'(by simp; omega) = l[i * 2 + 1] := List.getElem_set_ne (by omega) _
  rw [g2] at h2
  have h3 := (evs_set l[i * 2] ((l.set (i * 2) l[j * 2]).set (i * 2 + 1) l[j * 2 + 1]) (j * 2) (by simp; omega)).1 (by omega)
  have g3 : ((l.set (i * 2) l[j * 2]).set (i * 2 + 1) l[j * 2 + 1])[j * 2]'(by simp; omega) = l[j * 2] := by
    rw [List.getElem_set_ne (by omega), List.getElem_set]; split <;> rfl
  rw [g3] at h3
  have h4 := (evs_set l[i * 2 + 1] (((l.set (i * 2) l[j * 2]).set (i * 2 + 1) l[j * 2 + 1]).set (j * 2) l[i * 2]) (j * 2 + 1) (by simp; omega)).2 (by omega)
  have g4 : (((l.set (i * 2) l[j * 2]).set (i * 2 + 1) l[j * 2 + 1]).set (j * 2) l[i * 2])[j * 2 + 1]'(by simp; omega) = l[j * 2 + 1] := by
    rw [List.getElem_set_ne (by omega), List.getElem_set]
    split
    · rfl
    · rw [List.getElem_set_ne (by omega)]
  rw [g4] at h4
  omega

theorem info5 : (Try.prog.info? 5).map (fun i => (i.zero, i.size, i.bytes)) = some (some (.int .u8 0), 1, 1) := by kernel_rfl

set_option maxRecDepth 100000 in
set_option maxHeartbeats 1600000 in
theorem main (w : World) (A : Option Addr) (n c : Nat) (l : List UInt8) (hb : Bytes w A n c l) (x y z : Nat) (hx : x ≤ 65535) (hy : y ≤ 65535) (hz : z ≤ 65535) (hn : n ≤ 3000) (hn4 : 4 ≤ n) :
    Calls Try.prog 7 #[.slice A n c, .int .u16 x, .int .u16 y, .int .u16 z] w fun e w' => e = .returned (.bool true) ∧ Below w.heap.size w w' := by
  have hlen := hb.len
  have hcap := hb.cap
  have hx2 : (x : Int) % ((n : Int) / 2) = ((x % (n / 2) : Nat) : Int) := by simp
  have hx3 : x % (n / 2) < n / 2 := Nat.mod_lt _ (by omega)
  generalize x % (n / 2) = i at hx2 hx3
  have hy2 : (y : Int) % ((n : Int) / 2) = ((y % (n / 2) : Nat) : Int) := by simp
  have hy3 : y % (n / 2) < n / 2 := Nat.mod_lt _ (by omega)
  generalize y % (n / 2) = j at hy2 hy3
  have hne2 : ((n : Int) / 2 == 0) = false := by simp; omega
  go_enter Try.func7, Try.ntmps7
  go_wp2_with fail
  refine (alive_any _).mono ?_; rintro e w1 ⟨rfl, b1⟩
  have hb1 := hb.below b1
  have B1 := Lib.hid b1
  clear b1
  go_wp2_with fail
  have d1 : (n : Int).tdiv 2 = (n : Int) / 2 := by rw [Int.tdiv_eq_ediv_of_nonneg (by omega)]
  have d2 : (x : Int).tmod ((n : Int) / 2) = (i : Int) := by rw [Int.tmod_eq_emod_of_nonneg (by omega), hx2]
  have d3 : (y : Int).tmod ((n : Int) / 2) = (j : Int) := by rw [Int.tmod_eq_emod_of_nonneg (by omega), hy2]
  have d4 := IntWalk.i64_in ((i : Int) * 2) (by omega)
  have d5 := IntWalk.i64_in ((j : Int) * 2) (by omega)
  have d6 := IntWalk.i64_in ((n : Int) / 2) (by omega)
  go_quiet (fail)
  clear d1 d2 d3 d4 d5 d6
  have hb2 := hb1.drewN nq
  have B2 := below_drewN B1.out nq
  generalize w1.drewN nq = w2 at *
  have B2 := Lib.hid B2
  clear B1 hb1
  obtain ⟨i0, hi, hz0, hz1, hz2⟩ := info_parts info5
  have hown := World.ownsRow_lit (base := w2.heap.size) (e := 5) (size := 1) w2 #[] 0 (Nat.le_refl _) (by decide) rfl
  obtain ⟨ba, oa, _, hA, hba, _⟩ := hb2.byte (k := 0) (by omega)
  subst hA
  obtain ⟨nw1, nw2, nw3⟩ := (hb2.alloc (.cells #[] 5)).news
  have NW1 := Lib.hid nw1
  have NW2 := Lib.hid nw2
  have NW3 := Lib.hid nw3
  clear nw1 nw2 nw3
  have hc1 : 0 + n ≤ maxLen := by unfold maxLen; omega
  have hc2 : (0 + n) * 1 ≤ 140737488355328 := by omega
  have hc3 : w2.heap.size ≤ (w2.alloc (.cells #[] 5)).heap.size := by simp
  have HC := Lib.hid hc1
  have HC2 := Lib.hid hc2
  have HC3 := Lib.hid hc3
  clear hc1 hc2 hc3
  go_wp2_with (at_builtin; refine Hid.out ?_)
  unfold Hid
  refine wpList_append_own _ rfl _ _ 22 rfl w2.heap.size 5 i0 (.int .u8 0) 1 1 Try.underlying22 hi hz0 hz1 hz2 rfl (by decide) (.slice (some ⟨w2.heap.size, 0, none⟩) 0 0) 0 [] rfl hown _ _ _ _ rfl NW1.out NW2.out NW3.out HC.out HC2.out HC3.out ?_
  intro v' w5 hown' hgrow hblk
  rw [Nat.zero_add] at hown'
  obtain ⟨g, cp, rfl, O5⟩ := OwnB.of (l := l) hown' (by omega)
  have hgb : ∀ q, (Value.slice (some ⟨w2.heap.size, 0, none⟩) 0 0).ownBlock = some q → w2.heap.size ≤ q := by
    intro q hq
    have hq' : w2.heap.size = q := by simpa [Value.ownBlock] using hq
    omega
  have b5 : Below w2.heap.size w2 w5 := Below.grown ((Below.refl _ _).alloc (Nat.le_refl _) (.cells #[] 5)) hgrow HC3.out hgb
  have B5 := Lib.hid (B2.out.trans (b5.mono B2.out.size))
  have hb5 := hb2.below b5
  have b5 := Lib.hid b5
  have hb2 := Lib.hid hb2
  have hgba : g ≠ ba := by have := O5.base; omega
  have hbag : ba ≠ g := fun e => hgba e.symm
  have hgw : w.heap.size ≤ g := Nat.le_trans B2.out.size O5.base
  have O5 := Lib.hid O5
  clear hgb hown' hgrow hblk hown hba B5
  obtain ⟨_, c0⟩ := O5.out.cell (j := i * 2) (by omega)
  obtain ⟨_, c1⟩ := O5.out.cell (j := i * 2 + 1) (by omega)
  obtain ⟨_, c2⟩ := O5.out.cell (j := j * 2) (by omega)
  obtain ⟨_, c3⟩ := O5.out.cell (j := j * 2 + 1) (by omega)
  have f0 := O5.out.frozen (i * 2)
  have f1 := O5.out.frozen (i * 2 + 1)
  have f2 := O5.out.frozen (j * 2)
  have f3 := O5.out.frozen (j * 2 + 1)
  have e0 : w5.cell? ⟨ba, oa + i * 2, none⟩ = some (.int .u8 (l[i * 2].toNat : Int)) := by
    obtain ⟨_, _, _, e, _, h⟩ := hb5.byte (k := i * 2) (by omega); cases e; exact h
  have e1 : w5.cell? ⟨ba, oa + (i * 2 + 1), none⟩ = some (.int .u8 (l[i * 2 + 1].toNat : Int)) := by
    obtain ⟨_, _, _, e, _, h⟩ := hb5.byte (k := i * 2 + 1) (by omega); cases e; exact h
  have e2 : w5.cell? ⟨ba, oa + j * 2, none⟩ = some (.int .u8 (l[j * 2].toNat : Int)) := by
    obtain ⟨_, _, _, e, _, h⟩ := hb5.byte (k := j * 2) (by omega); cases e; exact h
  have e3 : w5.cell? ⟨ba, oa + (j * 2 + 1), none⟩ = some (.int .u8 (l[j * 2 + 1].toNat : Int)) := by
    obtain ⟨_, _, _, e, _, h⟩ := hb5.byte (k := j * 2 + 1) (by omega); cases e; exact h
  have hb5 := Lib.hid hb5
  have a0 : 0 ≤ (i : Int) * 2 := by omega
  have a1 : (i : Int) * 2 < n := by omega
  have a2 : 0 ≤ (i : Int) * 2 + 1 := by omega
  have a3 : (i : Int) * 2 + 1 < n := by omega
  have a4 : 0 ≤ (j : Int) * 2 := by omega
  have a5 : (j : Int) * 2 < n := by omega
  have a6 : 0 ≤ (j : Int) * 2 + 1 := by omega
  have a7 : (j : Int) * 2 + 1 < n := by omega
  have t0 : ((i : Int) * 2).toNat = i * 2 := by omega
  have t1 : ((i : Int) * 2 + 1).toNat = i * 2 + 1 := by omega
  have t2 : ((j : Int) * 2).toNat = j * 2 := by omega
  have t3 : ((j : Int) * 2 + 1).toNat = j * 2 + 1 := by omega
  have x0 := IntWalk.i64_in ((i : Int) * 2 + 1) (by omega)
  have x1 := IntWalk.i64_in ((j : Int) * 2 + 1) (by omega)
  go_upto_region 7 with fail
  go_cut [] (fun wx => ∃ l4, OwnB wx w2.heap.size g n cp l4 ∧ evs l4 = evs l ∧ ods l4 = ods l ∧ Below w2.heap.size w2 wx)
  case first =>
    have b8 : Below w2.heap.size w2 ((((w5.setCell ⟨g, i * 2, none⟩ (.int .u8 (l[j * 2].toNat : Int))).setCell ⟨g, i * 2 + 1, none⟩ (.int .u8 (l[j * 2 + 1].toNat : Int))).setCell ⟨g, j * 2, none⟩ (.int .u8 (l[i * 2].toNat : Int))).setCell ⟨g, j * 2 + 1, none⟩ (.int .u8 (l[i * 2 + 1].toNat : Int))).drew :=
      ((((b5.out.setCell (by exact O5.out.base) _).setCell (by exact O5.out.base) _).setCell (by exact O5.out.base) _).setCell (by exact O5.out.base) _).drew
    have O8 := Lib.hid (((((O5.out.set (j := i * 2) l[j * 2]).set (j := i * 2 + 1) l[j * 2 + 1]).set (j := j * 2) l[i * 2]).set (j := j * 2 + 1) l[i * 2 + 1]).drew)
    have SW := Lib.hid (swap_sum l i j (by omega) (by omega))
    have b8 := Lib.hid b8
    by_cases hij : i = j
    · subst hij
      go_region_held3 (fun w' => w'.cell? ⟨ba, oa + i * 2, none⟩ = some (.int .u8 (l[i * 2].toNat : Int)) ∧ w'.cell? ⟨ba, oa + (i * 2 + 1), none⟩ = some (.int .u8 (l[i * 2 + 1].toNat : Int))) (go_keep) (fail)
      go_wp2_with fail
      go_meet
      exact ⟨_, O8.out, SW.out.1, SW.out.2, b8.out⟩
    · have y0 : ¬ i * 2 = j * 2 := by omega
      have y1 : ¬ i * 2 = j * 2 + 1 := by omega
      have y2 : ¬ i * 2 + 1 = j * 2 := by omega
      have y3 : ¬ j * 2 = i * 2 := by omega
      have y4 : ¬ j * 2 = i * 2 + 1 := by omega
      have y5 : ¬ j * 2 + 1 = i * 2 := by omega
      have y6 : ¬ j = i := by omega
      go_region_held3 (fun w' => w'.cell? ⟨ba, oa + i * 2, none⟩ = some (.int .u8 (l[i * 2].toNat : Int)) ∧ w'.cell? ⟨ba, oa + (i * 2 + 1), none⟩ = some (.int .u8 (l[i * 2 + 1].toNat : Int)) ∧ w'.cell? ⟨ba, oa + j * 2, none⟩ = some (.int .u8 (l[j * 2].toNat : Int)) ∧ w'.cell? ⟨ba, oa + (j * 2 + 1), none⟩ = some (.int .u8 (l[j * 2 + 1].toNat : Int))) (go_keep) (fail)
      go_wp2_with fail
      go_meet
      exact ⟨_, O8.out, SW.out.1, SW.out.2, b8.out⟩
  case rest =>
    obtain ⟨l4, O8, hE, hO, b8⟩ := hcut
    clear c0 c1 c2 c3 f0 f1 f2 f3 e0 e1 e2 e3 a0 a1 a2 a3 a4 a5 a6 a7 t0 t1 t2 t3 x0 x1 hgba hbag
    have HE := Lib.hid hE
    have HO := Lib.hid hO
    have O8 := Lib.hid O8
    have B8 := Lib.hid (B2.out.trans (b8.mono B2.out.size))
    have hb8 := Lib.hid (hb2.out.below b8)
    have hle := evs_le l
    clear b8 hE hO
    obtain ⟨u0, u1, v0, v1, hu, hw1, hw2⟩ : ∃ u0 u1 v0 v1 : Nat, ((u0 : Int) + v0 = 255 ∧ (u1 : Int) + v1 = 255) ∧ (∀ W, Calls Try.prog 18 #[.int .u16 z] W fun e w' => e = .returned (.complex .f64 (fl u0) (fl u1)) ∧ W = w') ∧ (∀ W, Calls Try.prog 18 #[.int .u16 (65535 - (z : Int))] W fun e w' => e = .returned (.complex .f64 (fl v0) (fl v1)) ∧ W = w') := by
      refine ⟨z / 256, z % 256, (65535 - z) / 256, (65535 - z) % 256, by omega, fun W => word_any z hz W, fun W => ?_⟩
      have := word_any (65535 - z) (by omega) W
      rw [show ((65535 - z : Nat) : Int) = 65535 - (z : Int) by omega] at this
      exact this
    have hj : ∀ W, Calls Try.prog 20 #[.complex .f64 (fl u0) (fl u1), .int .i64 2, .complex .f64 (fl v0) (fl v1)] W fun e w' => e = .returned (.tuple #[.complex .f64 (fl 255) (fl 255), .int .i64 0]) ∧ W = w' := fun W => by
      have J := join_ok u0 u1 v0 v1 _ _ 2 W (read_fl (by omega)).rep (read_fl (by omega)).rep (by omega) (by omega) (by omega) (by omega) (by omega)
      unfold joined at J
      rw [if_neg (by decide), if_pos (by omega), hu.1, hu.2] at J
      exact J
    have hf : ∀ W, Calls Try.prog 13 #[.complex .f64 (fl 255) (fl 255)] W fun e w' => e = .returned (.tuple #[.int .u16 65535, .int .i64 0]) ∧ W = w' := fun W =>
      fold_ok _ _ 255 255 W (read_fl (v := 255) (by decide)).rep (read_fl (v := 255) (by decide)).rep (by omega) (by omega)
    have HW1 := Lib.hid hw1
    have HW2 := Lib.hid hw2
    have HJ := Lib.hid hj
    have HF := Lib.hid hf
    have q1 := eqf' (evs l) (by omega)
    have q2 := eqf' (ods l) (by omega)
    clear hw1 hw2 hj hf hu hle
    go_wp2_with fail
    refine (part_b _ _ _ l _ hb8.out (by omega)).mono ?_; rintro e w9 ⟨rfl, b9⟩
    have O9 := Lib.hid (O8.out.below b9)
    have B9 := Lib.hid (B8.out.trans (b9.mono B8.out.size))
    clear b9 O8 B8 hb8
    go_wp2_with fail
    have hp := part_b _ _ _ _ _ O9.out.bytes (by omega)
    rw [HE.out, HO.out] at hp
    refine hp.mono ?_; rintro e w10 ⟨rfl, b10⟩
    have B10 := Lib.hid (B9.out.trans (b10.mono B9.out.size))
    clear hp b10 B9
    go_wp2_with fail
    refine (HW1.out _).mono ?_; rintro e w' ⟨rfl, rfl⟩
    go_wp2_with fail
    refine (HW2.out _).mono ?_; rintro e w' ⟨rfl, rfl⟩
    go_wp2_with fail
    refine (HJ.out _).mono ?_; rintro e w' ⟨rfl, rfl⟩
    go_wp2_with fail
    refine (HF.out _).mono ?_; rintro e w' ⟨rfl, rfl⟩
    go_wp2_with fail
    go_ret
    exact ⟨rfl, B10.out⟩

theorem walk (w : World) (A : Option Addr) (n c : Nat) (l : List UInt8) (hb : Bytes w A n c l) (x : Int) (wx : (Lit.int .u16 x).wf = true) (y : Int) (wy : (Lit.int .u16 y).wf = true) (z : Int) (wz : (Lit.int .u16 z).wf = true) :
    Calls Try.prog 7 #[.slice A n c, .int .u16 x, .int .u16 y, .int .u16 z] w fun e w' => e = .returned (.bool true) ∧ Below w.heap.size w w' := by
  obtain ⟨x, rfl, hx⟩ := wf_u16 wx
  obtain ⟨y, rfl, hy⟩ := wf_u16 wy
  obtain ⟨z, rfl, hz⟩ := wf_u16 wz
  have hlen := hb.len
  have hcap := hb.cap
  by_cases hn : n ≤ 3000
  · by_cases hn4 : 4 ≤ n
    · exact main w A n c l hb x y z hx hy hz hn hn4
    · go_enter Try.func7, Try.ntmps7
      go_wp2_with fail
      refine (alive_any _).mono ?_; rintro e w1 ⟨rfl, b1⟩
      go_wp2_with fail
      go_ret
      exact ⟨rfl, b1⟩
  · go_enter Try.func7, Try.ntmps7
    go_wp2_with fail
    refine (alive_any _).mono ?_; rintro e w1 ⟨rfl, b1⟩
    go_wp2_with fail
    go_ret
    exact ⟨rfl, b1⟩

set_option maxRecDepth 100000 in
theorem lifted (os : Os) (started : os.Started) (H : Type) (enc : TypeId × Value → H) :
    ReturnsInHanded {} Try.checked os 7 .any (Rows.sumsWordsSpec.pre6 enc Try.prog Try.f7 Rows.sumsWordsRow.domain false) (Rows.sumsWordsSpec.post enc Try.prog Try.f7 false true false false) := by
  refine returnsInHanded_of_change (C := Try.checked) own started (by kernel_rfl) Try.func7
    (ChangeSpec.witness6 (enc := enc) (C := Try.checked) false ⟨#[], #[.slice none 0 0, .int .u16 0, .int .u16 0, .int .u16 0], []⟩ 8 (by kernel_rfl) (by kernel_rfl) (by kernel_rfl) (by kernel_rfl)) ?_
  intro W base args ds gs before hval0 hW hcnd _
  have hval : ∀ (j : Nat) t v, Try.f7.params[j]? = some t → args[j]? = some v → Value.okWide Try.prog W .any base t v := hval0
  have hW' := hW
  obtain ⟨p, q, hA0, hV, rfl, hfz, hnd⟩ := hW
  have hA : DataW.TrodAll enc Try.prog W 0 (fun _ => true) true Try.f7.params.toList args.toList ds p := hA0
  rw [Try.params7] at hA hval
  obtain ⟨v0, vs0, d0, ds0, p0, q0, hargs, rfl, rfl, h0, r0⟩ := trodAll_cons hA
  obtain ⟨v1, vs1, d1, ds1, p1, q1, rfl, rfl, rfl, h1, r1⟩ := trodAll_cons r0
  obtain ⟨v2, vs2, d2, ds2, p2, q2, rfl, rfl, rfl, h2, r2⟩ := trodAll_cons r1
  obtain ⟨v3, vs3, d3, ds3, p3, q3, rfl, rfl, rfl, h3, r3⟩ := trodAll_cons r2
  obtain ⟨rfl, rfl, rfl⟩ := trodAll_nil r3
  obtain rfl : args = #[v0, v1, v2, v3] := by cases args; simp_all
  obtain ⟨A0, n0, c0, l0, rfl, b0⟩ := open_bytes Try.underlying22 Try.underlying5 (by kernel_rfl) (hval 0 22 v0 rfl rfl) h0
  obtain ⟨a1, rfl, _, _, w1⟩ := open_int Try.underlying34 (hval 1 34 v1 rfl rfl) h1
  obtain ⟨a2, rfl, _, _, w2⟩ := open_int Try.underlying34 (hval 2 34 v2 rfl rfl) h2
  obtain ⟨a3, rfl, _, _, w3⟩ := open_int Try.underlying34 (hval 3 34 v3 rfl rfl) h3
  clear hA0 hval0
  exact law_close hW' laidOut (by kernel_rfl) rfl Try.underlying4 rfl ⟨rfl, rfl, rfl⟩ (walk W A0 n0 c0 l0 b0 a1 w1 a2 w2 a3 w3)

theorem over : Rows.sumsWordsRow.holds Try.pinned (OpenSpec.ofChange Rows.sumsWordsSpec) :=
  OpenClaim.holds_of_wide 7 Try.f7 rfl rfl rfl rfl rfl rfl rfl ⟨rfl, rfl, rfl, rfl, rfl⟩ rfl rfl rfl rfl rfl (by kernel_rfl) Try.func7 (by kernel_rfl)
    (of_decide_eq_true (by kernel_rfl)) (by unfold Func.isWrapper; first | (rw [if_pos (by decide +kernel)]; kernel_rfl) | (rw [if_neg (by decide +kernel)]; exact ⟨rfl, rfl⟩))
    (fun os started H enc _ => lifted os started H enc)

theorem proved : Rows.SumsWordsSaid := over

end Go.Proofs.Ytojbpjdppbfkhaa.sumsWords
