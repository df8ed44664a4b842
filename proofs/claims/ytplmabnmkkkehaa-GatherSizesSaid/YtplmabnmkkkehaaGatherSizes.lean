/- Whatever list and number come in, 'pantlerlaw08.GatherSizes' returns true and leaves them as they were. No condition. -/
import Derived.Test.YtplmabnmkkkehaaGaO
namespace Go.Proofs.Ytplmabnmkkkehaa.gatherSizes
open Go.ChangeShapes Go.WideShapes Go.ChangeAt Go.RowKit Go.Deep
set_option linter.unusedVariables false


theorem cutL_ok {l : List Pc} (h : ∀ p ∈ l, p.Good) (hok : ∀ p ∈ l, p.Ok) (a n : Nat) : ∀ q ∈ cutL l a n, q.Ok := by
  intro q hq
  obtain ⟨h1, h2, p, hp, e⟩ := cutL_in (fun p hp => (h p hp).2.2) a n q hq
  obtain ⟨g1, g2, g3, g4, g5⟩ := h1
  exact ⟨by rw [e]; exact (hok p hp).frame, by omega, by omega⟩
theorem total_good {l : List Pc} (h : ∀ p ∈ l, p.Good) (hl : l.length ≤ 100) : total l ≤ 25600 := by
  have := total_max (m := 256) (fun p hp => by have := (h p hp).2.2; unfold Pc.In at this; omega)
  omega
theorem sizeR_good {l : List Pc} (h : ∀ p ∈ l, p.Good) (hl : l.length ≤ 100) : sizeR l = (total l : Int) := by
  have := total_good h hl
  unfold sizeR
  rw [if_neg (by omega)]
theorem cut_good {l : List Pc} (h : ∀ p ∈ l, p.Good) (hok : ∀ p ∈ l, p.Ok) (hl : l.length ≤ 100) (A : Option Addr) (c : Nat) (W : World) (x y : Int) (hp : Pcs W A l) (hx : 0 ≤ x) (hy : 0 ≤ y) (hxy : y ≤ sizeR l - x) :
    Calls Try.prog 28 #[.slice A l.length c, .int .i64 x, .int .i64 y] W fun e w' => ∃ A' c' L, e = .returned (.tuple #[.slice A' (L : List Pc).length c', .int .i64 0]) ∧ Pcs w' A' L ∧ (∀ p ∈ L, p.Ok) ∧ L.length ≤ 100 ∧ sizeR L = y ∧ L = cutL l x.toNat y.toNat ∧ Below W.heap.size W w' := by
  have h1 := sizeR_good h hl
  have h2 := total_good h hl
  refine (cut_any A c l x y W hp hok (by omega) (by omega) (by omega)).mono ?_
  rintro e w' ⟨hh, hb⟩
  rcases hh with ⟨_, A', c', e1, p1⟩ | ⟨hn, _⟩
  · have hlen := cutL_len l x.toNat y.toNat
    refine ⟨A', c', _, e1, p1, cutL_ok h hok _ _, by omega, ?_, rfl, hb⟩
    unfold sizeR
    rw [total_cutL, if_neg (by omega)]
    omega
  · exact absurd ⟨h, hx, hy, hxy⟩ hn
theorem cut_bad {l : List Pc} (h : ¬ ∀ p ∈ l, p.Good) (hok : ∀ p ∈ l, p.Ok) (hl : l.length ≤ 100) (A : Option Addr) (c : Nat) (W : World) (x y : Int) (hp : Pcs W A l) (hx : -9223372036854775808 ≤ x ∧ x ≤ 9223372036854775807) (hy : -9223372036854775808 ≤ y ∧ y ≤ 9223372036854775807) :
    Calls Try.prog 28 #[.slice A l.length c, .int .i64 x, .int .i64 y] W fun e w' => e = .returned (.tuple #[.slice none 0 0, .int .i64 1]) ∧ Below W.heap.size W w' := by
  refine (cut_any A c l x y W hp hok (by omega) hx hy).mono ?_
  rintro e w' ⟨hh, hb⟩
  rcases hh with ⟨h1, _⟩ | ⟨_, e1⟩
  · exact absurd h1.1 h
  · exact ⟨e1, hb⟩
set_option maxRecDepth 100000 in
set_option maxHeartbeats 4000000 in
theorem walk (w : World) (A0 : Option Addr) (c0 : Nat) (l : List Pc) (h0 : Pcs w A0 l ∧ (∀ q ∈ l, q.Ok) ∧ (A0 = none → l = [] ∧ c0 = 0)) (at_ : Int) (wat : (Lit.int .u16 at_).wf = true) :
    Calls Try.prog 6 #[.slice A0 l.length c0, .int .u16 at_] w fun e w' => e = .returned (.bool true) ∧ Below w.heap.size w w' := by
  obtain ⟨hp, hok, _⟩ := h0
  have HP := Lib.hid hp
  have OK := Lib.hid hok
  have ha : 0 ≤ at_ ∧ at_ ≤ 65535 := by obtain ⟨n, rfl, hn⟩ := wf_u16 wat; omega
  clear hp hok wat
  by_cases l1 : (l.length : Int) > 100
  · go_enter Try.func6, Try.ntmps6
    go_wp2_with fail
    refine (alive_any _).mono ?_; rintro e w0 ⟨rfl, b0⟩
    have B0 := Lib.hid b0
    clear b0
    go_wp2
    go_ret
    exact ⟨rfl, B0.out⟩
  have l2 : l.length ≤ 100 := by omega
  have OF0 := Lib.hid (fun W (hb : Below w.heap.size w W) => of_any A0 c0 l W (HP.out.new hb) (by omega))
  have SZ := Lib.hid (fun A c W (h : Pcs W A l) => size_any A c l W h OK.out (by omega))
  have SZL := Lib.hid (fun A c (L : List Pc) W (h : Pcs W A L) (hok : ∀ p ∈ L, p.Ok) (hl : L.length ≤ 100) (y : Int) (hy : sizeR L = y) => hy ▸ size_any A c L W h hok (by omega))
  have CG := Lib.hid (fun (h : ∀ p ∈ l, p.Good) => cut_good h OK.out l2)
  have CB := Lib.hid (fun (h : ¬ ∀ p ∈ l, p.Good) => cut_bad h OK.out l2)
  obtain ⟨s0, s1⟩ := sizeR_ends l
  generalize hq : sizeR l = q at *
  have x0 : IntKind.i64.wrap (q + 1) = q + 1 := IntWalk.i64_in _ (by omega)
  have x1 : IntKind.i64.wrap at_ = at_ := IntWalk.i64_in _ (by omega)
  have hk0 : 0 ≤ at_.tmod (q + 1) := by rw [Int.tmod_eq_emod_of_nonneg ha.1]; exact Int.emod_nonneg _ (by omega)
  have hk1 : at_.tmod (q + 1) ≤ q := by rw [Int.tmod_eq_emod_of_nonneg ha.1]; have := Int.emod_lt_of_pos at_ (show 0 < q + 1 by omega); omega
  obtain ⟨k, hk⟩ : ∃ k : Int, at_.tmod (q + 1) = k := ⟨_, rfl⟩
  rw [hk] at hk0 hk1
  have x2 : IntKind.i64.wrap (q - k) = q - k := IntWalk.i64_in _ (by omega)
  have x3 : IntKind.i64.wrap k = k := IntWalk.i64_in _ (by omega)
  have q1 : ¬ q + 1 = 0 := by omega
  by_cases hg : ∀ p ∈ l, p.Good
  · have CG := Lib.hid (CG.out hg)
    clear hg CB
    go_enter Try.func6, Try.ntmps6
    go_wp2_with fail
    refine (alive_any _).mono ?_; rintro e w0 ⟨rfl, b0⟩
    have B0 := Lib.hid b0
    clear b0
    go_wp2_with fail
    refine (OF0.out _ B0.out).mono ?_; rintro e w1 ⟨Aw1, cw1, rfl, pw1, bw1⟩
    have B1 := Lib.hid (B0.out.trans (bw1.mono B0.out.size))
    have Pw1 := Lib.hid pw1
    clear bw1 pw1
    go_wp2_with fail
    refine (SZ.out _ _ _ Pw1.out).mono ?_; rintro e w2 ⟨rfl, b2⟩
    have B2 := Lib.hid (B1.out.trans (b2.mono B1.out.size))
    clear b2 Pw1
    go_wp2_with fail
    refine (OF0.out _ B2.out).mono ?_; rintro e w3 ⟨Aw3, cw3, rfl, pw3, bw3⟩
    have B3 := Lib.hid (B2.out.trans (bw3.mono B2.out.size))
    have Pw3 := Lib.hid pw3
    clear bw3 pw3
    go_wp2_with fail
    refine (CG.out _ _ _ 0 k Pw3.out (by omega) (by omega) (by omega)).mono ?_; rintro e w4 ⟨Aw4, cw4, Lw4, rfl, pw4, o1w4, o2w4, zw4, lew4, bw4⟩
    have B4 := Lib.hid (B3.out.trans (bw4.mono B3.out.size))
    have Pw4 := Lib.hid pw4
    have Ow4 := Lib.hid (And.intro o1w4 o2w4)
    have Zw4 := Lib.hid zw4
    have Ew4 := Lib.hid lew4
    clear pw4 o1w4 o2w4 zw4 lew4 bw4
    go_wp2_with fail
    refine (OF0.out _ B4.out).mono ?_; rintro e w5 ⟨Aw5, cw5, rfl, pw5, bw5⟩
    have B5 := Lib.hid (B4.out.trans (bw5.mono B4.out.size))
    have Pw5 := Lib.hid pw5
    have OA := Lib.hid (older_below bw5)
    clear bw5 pw5
    go_wp2_with fail
    refine (CG.out _ _ _ k (q - k) Pw5.out (by omega) (by omega) (by omega)).mono ?_; rintro e w6 ⟨Aw6, cw6, Lw6, rfl, pw6, o1w6, o2w6, zw6, lew6, bw6⟩
    have B6 := Lib.hid (B5.out.trans (bw6.mono B5.out.size))
    have Pw6 := Lib.hid pw6
    have Ow6 := Lib.hid (And.intro o1w6 o2w6)
    have Zw6 := Lib.hid zw6
    have Ew6 := Lib.hid lew6
    have OB := Lib.hid (older_below bw6)
    clear pw6 o1w6 o2w6 zw6 lew6 bw6
    go_wp2_with fail
    refine (OF0.out _ B6.out).mono ?_; rintro e w6a ⟨Aw6a, cw6a, rfl, pw6a, bw6a⟩
    have B6a := Lib.hid (B6.out.trans (bw6a.mono B6.out.size))
    have Pw6a := Lib.hid pw6a
    have OC := Lib.hid (older_below bw6a)
    clear bw6a pw6a
    go_wp2_with fail
    refine (CG.out _ _ _ q 0 Pw6a.out (by omega) (by omega) (by omega)).mono ?_; rintro e w7 ⟨Aw7, cw7, Lw7, rfl, pw7, o1w7, o2w7, zw7, lew7, bw7⟩
    have B7 := Lib.hid (B6a.out.trans (bw7.mono B6a.out.size))
    have Pw7 := Lib.hid pw7
    have Ow7 := Lib.hid (And.intro o1w7 o2w7)
    have Zw7 := Lib.hid zw7
    have Ew7 := Lib.hid lew7
    have OD := Lib.hid (older_below bw7)
    clear pw7 o1w7 o2w7 zw7 lew7 bw7
    have P4 := Lib.hid ((((Pw4.out.older OA.out).older OB.out).older OC.out).older OD.out)
    have P6 := Lib.hid ((Pw6.out.older OC.out).older OD.out)
    clear OA OB OC OD Pw4 Pw6
    have e7 : Lw7 = [] := List.eq_nil_of_length_eq_zero (by
      rw [Ew7.out, show (0 : Int).toNat = 0 from rfl, cutL_zero]; rfl)
    subst e7
    go_wp2_with fail
    refine (SZL.out _ _ _ _ P4.out Ow4.out.1 Ow4.out.2 _ Zw4.out).mono ?_; rintro e w8 ⟨rfl, b8⟩
    have B8 := Lib.hid (B7.out.trans (b8.mono B7.out.size))
    have P6 := Lib.hid (P6.out.new b8)
    clear b8
    go_wp2_with fail
    refine (SZL.out _ _ _ _ P6.out Ow6.out.1 Ow6.out.2 _ Zw6.out).mono ?_; rintro e w9 ⟨rfl, b9⟩
    have B9 := Lib.hid (B8.out.trans (b9.mono B8.out.size))
    clear b9
    go_wp2
    go_ret
    exact ⟨rfl, B9.out⟩
  · have CB := Lib.hid (CB.out hg)
    clear CG hg
    go_enter Try.func6, Try.ntmps6
    go_wp2_with fail
    refine (alive_any _).mono ?_; rintro e w0 ⟨rfl, b0⟩
    have B0 := Lib.hid b0
    clear b0
    go_wp2_with fail
    refine (OF0.out _ B0.out).mono ?_; rintro e w1 ⟨Aw1, cw1, rfl, pw1, bw1⟩
    have B1 := Lib.hid (B0.out.trans (bw1.mono B0.out.size))
    have Pw1 := Lib.hid pw1
    clear bw1 pw1
    go_wp2_with fail
    refine (SZ.out _ _ _ Pw1.out).mono ?_; rintro e w2 ⟨rfl, b2⟩
    have B2 := Lib.hid (B1.out.trans (b2.mono B1.out.size))
    clear b2 Pw1
    go_wp2_with fail
    refine (OF0.out _ B2.out).mono ?_; rintro e w3 ⟨Aw3, cw3, rfl, pw3, bw3⟩
    have B3 := Lib.hid (B2.out.trans (bw3.mono B2.out.size))
    have Pw3 := Lib.hid pw3
    clear bw3 pw3
    go_wp2_with fail
    refine (CB.out _ _ _ 0 k Pw3.out (by omega) (by omega)).mono ?_; rintro e w4 ⟨rfl, bw4⟩
    have B4 := Lib.hid (B3.out.trans (bw4.mono B3.out.size))
    clear bw4
    go_wp2_with fail
    refine (OF0.out _ B4.out).mono ?_; rintro e w5 ⟨Aw5, cw5, rfl, pw5, bw5⟩
    have B5 := Lib.hid (B4.out.trans (bw5.mono B4.out.size))
    have Pw5 := Lib.hid pw5
    clear bw5 pw5
    go_wp2_with fail
    refine (CB.out _ _ _ k (q - k) Pw5.out (by omega) (by omega)).mono ?_; rintro e w6 ⟨rfl, bw6⟩
    have B6 := Lib.hid (B5.out.trans (bw6.mono B5.out.size))
    clear bw6
    go_wp2
    go_ret
    exact ⟨rfl, B6.out⟩

set_option maxRecDepth 100000 in
theorem lifted (os : Os) (started : os.Started) (H : Type) (enc : TypeId × Value → H) :
    ReturnsInHanded {} Try.checked os 6 .any (Rows.gatherSizesSpec.pre6 enc Try.prog Try.f6 Rows.gatherSizesRow.domain false) (Rows.gatherSizesSpec.post enc Try.prog Try.f6 false true false false) := by
  refine returnsInHanded_of_change (C := Try.checked) own started (by kernel_rfl) Try.func6
    (ChangeSpec.witness6 (enc := enc) (C := Try.checked) false ⟨#[], #[.slice none 0 0, .int .u16 0], []⟩ 8 (by kernel_rfl) (by kernel_rfl) (by kernel_rfl) (by kernel_rfl)) ?_
  intro W base args ds gs before hval0 hW hcnd _
  have hval : ∀ (j : Nat) t v, Try.f6.params[j]? = some t → args[j]? = some v → Value.okWide Try.prog W .any base t v := hval0
  have hW' := hW
  obtain ⟨p, q, hA0, hV, rfl, hfz, hnd⟩ := hW
  have hA : DataW.TrodAll enc Try.prog W 0 (fun _ => true) true Try.f6.params.toList args.toList ds p := hA0
  rw [Try.params6] at hA hval
  obtain ⟨v0, vs0, d0, ds0, p0, q0, hargs, rfl, rfl, h0, r0⟩ := trodAll_cons hA
  obtain ⟨v1, vs1, d1, ds1, p1, q1, rfl, rfl, rfl, h1, r1⟩ := trodAll_cons r0
  obtain ⟨rfl, rfl, rfl⟩ := trodAll_nil r1
  obtain rfl : args = #[v0, v1] := by cases args; simp_all
  obtain ⟨A0, c0, f0, rfl, b0⟩ := open_pcs Try.underlying37 Try.underlying79 (by kernel_rfl) rfl rfl rfl (by kernel_rfl) (by kernel_rfl) (by kernel_rfl) Try.underlying3 Try.underlying3 Try.underlying3 (hval 0 37 v0 rfl rfl) h0
  obtain ⟨a1, rfl, _, _, w1⟩ := open_int Try.underlying53 (hval 1 53 v1 rfl rfl) h1
  clear hA0 hval0
  exact law_close hW' laidOut (by kernel_rfl) rfl Try.underlying4 rfl ⟨rfl, rfl, rfl⟩ (walk W A0 c0 f0 b0 a1 w1)

theorem over : Rows.gatherSizesRow.holds Try.pinned (OpenSpec.ofChange Rows.gatherSizesSpec) :=
  OpenClaim.holds_of_wide 6 Try.f6 rfl rfl rfl rfl rfl rfl rfl ⟨rfl, rfl, rfl, rfl, rfl⟩ rfl rfl rfl rfl rfl (by kernel_rfl) Try.func6 (by kernel_rfl)
    (of_decide_eq_true (by kernel_rfl)) (by unfold Func.isWrapper; first | (rw [if_pos (by decide +kernel)]; kernel_rfl) | (rw [if_neg (by decide +kernel)]; exact ⟨rfl, rfl⟩))
    (fun os started H enc _ => lifted os started H enc)

theorem proved : Rows.GatherSizesSaid := over

end Go.Proofs.Ytplmabnmkkkehaa.gatherSizes
