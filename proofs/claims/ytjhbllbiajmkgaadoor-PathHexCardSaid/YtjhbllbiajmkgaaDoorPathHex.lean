/- Whatever text, place and size of letters come in, 'pantlerlaw10.PathHex' returns true and leaves them as they were. No condition. -/
import Derived.Test.YtjhbllbiajmkgaaDoorVarsP
import Derived.SizedLaws
namespace Go.Proofs.YtjhbllbiajmkgaaDoor.pathHex
open Go.ChangeShapes Go.WideShapes Go.ChangeAt Go.RowKit Pt Go.Shelf
set_option linter.unusedVariables false


attribute [local go_sem] Oper.semAt_some
theorem name_long (l : List UInt8) (h24 : 24 < l.length) (w : World) : Calls Tryd.prog 11 #[.string ⟨l.toArray⟩] w fun e w' => e = .returned (.bool false) ∧ Below w.heap.size w w' := by
  have hsz : (⟨l.toArray⟩ : ByteArray).size = l.length := rfl
  refine callsIn_wide (n := 9).1 ?_
  refine callsIn_of_wp_marks Tryd.func11 rfl trivial ?_ rfl
  simp only [Tryd.ntmps11, List.size_toArray, List.length_cons, List.length_nil, Nat.reduceAdd, Nat.reduceSub, Array.replicate_succ, Array.replicate_zero, List.push_toArray, List.append_toArray, List.nil_append, List.cons_append]
  have g : (l.length : Int) > 24 := by omega
  have hb := Blk.new w 4 #[.bool false]
  have hc := (hb.cell 0).trans (show _ = some (.bool false) from rfl)
  have hbel := (Below.refl w.heap.size w).alloc (Nat.le_refl _) (.cells #[.bool false] 4)
  have HB := Lib.hid (And.intro hc hbel)
  clear hb hc hbel
  gi_wp2
  have hc := HB.out.1
  refine ⟨.bool false, ?_, rfl, HB.out.2⟩
  simp [results, Tryd.f11, go_sem, hc]
def digs (great : Bool) : List UInt8 := [48, 49, 50, 51, 52, 53, 54, 55, 56, 57] ++ (if great then [65, 66, 67, 68, 69, 70] else [97, 98, 99, 100, 101, 102])
theorem digs_at (great : Bool) {v : Nat} (h : v < 16) : (⟨(digs great).toArray⟩ : ByteArray).extract v (v + 1) = ⟨[digC great v].toArray⟩ := by
  rw [cut_str]
  have : ∀ g : Bool, ∀ k : Fin 16, ((digs g).drop k.1).take (k.1 + 1 - k.1) = [digC g k.1] := by decide
  rw [this great ⟨v, h⟩]
set_option maxRecDepth 100000 in
set_option maxHeartbeats 4000000 in
theorem walk (w : World) (hv : Vars w) (a0 : ByteArray) (w0 : a0.size ≤ 140737488351232) (at_ : Int) (wat : (Lit.int .u8 at_).wf = true) (great : Bool) :
    Calls Tryd.prog 6 #[.string a0, .int .u8 at_, .bool great] w fun e w' => e = .returned (.bool true) ∧ Below w.heap.size w w' := by
  obtain ⟨s, rfl⟩ : ∃ d : List UInt8, a0 = ⟨d.toArray⟩ := ⟨a0.data.toList, by cases a0; simp⟩
  have hsd : (⟨s.toArray⟩ : ByteArray).size = s.length := rfl
  have wu : 0 ≤ at_ ∧ at_ ≤ 255 := by simpa [Lit.wf, IntKind.min, IntKind.max, IntKind.signed, IntKind.bits] using wat
  obtain ⟨k, rfl⟩ : ∃ k : Nat, at_ = (k : Int) := ⟨at_.toNat, by omega⟩
  rw [hsd] at w0
  have AL := Lib.hid (alive_any w hv)
  have HV := Lib.hid (show VarsP w from hv)
  clear hv wat
  cases hb : nameB s with
  | false =>
    have NA := Lib.hid (fun (W : World) => show Calls Tryd.prog 11 #[.string ⟨s.toArray⟩] W fun e w' => e = .returned (.bool false) ∧ Below W.heap.size W w' from by
      by_cases h24 : 24 < s.length
      · exact name_long s h24 W
      · have := name_any s (by omega) W
        rw [hb] at this
        exact this)
    clear hb
    go_enter Tryd.func6, Tryd.ntmps6
    go_wp2_with fail
    refine AL.out.mono ?_; rintro e wa ⟨rfl, b1⟩
    have B1 := Lib.hid b1
    clear b1
    go_wp2_with fail
    refine (NA.out _).mono ?_; rintro e wb ⟨rfl, b2⟩
    go_wp2
    go_ret
    exact ⟨rfl, B1.out.trans (b2.mono B1.out.size)⟩
  | true =>
    have hsl := name_len hb
    have hne := name_ne hb
    have hs0 : 0 < s.length := by
      cases s with
      | nil => exact absurd rfl hne
      | cons _ _ => simp
    have NA := fun (W : World) => name_any s (by omega) W
    rw [hb] at NA
    have NA := Lib.hid NA
    have hi : k % s.length < s.length := Nat.mod_lt _ hs0
    have t0 : Int.tmod (k : Int) (s.length : Int) = ((k % s.length : Nat) : Int) := by rw [Int.tmod_eq_emod_of_nonneg (by omega)]; omega
    obtain ⟨i, hik⟩ : ∃ i, k % s.length = i := ⟨_, rfl⟩
    rw [hik] at t0 hi
    obtain ⟨a, c, b, hsab, hal⟩ : ∃ a c b, s = a ++ c :: b ∧ a.length = i := ⟨s.take i, s[i], s.drop (i + 1), by rw [List.getElem_cons_drop, List.take_append_drop], by rw [List.length_take]; omega⟩
    have hbl : s.length = i + 1 + b.length := by rw [hsab]; simp; omega
    have hgi : ∀ (h : i < s.length), s[i] = c := fun h => by
      have h1 : s[i]? = some c := by rw [hsab, ← hal, List.getElem?_append_right (Nat.le_refl _)]; simp
      rw [List.getElem?_eq_getElem h] at h1
      injection h1
    have hc256 := c.toNat_lt
    have HX := hex_back great (show nameB (a ++ c :: b) = true from hsab ▸ hb)
    have TL : (47 :: (a ++ 37 :: digC great (c.toNat / 16) :: digC great (c.toNat % 16) :: b)).length ≤ 1000000 := by simp; omega
    have OF := fun (W : World) (hW : Below w.heap.size w W) => of_any (47 :: (a ++ 37 :: digC great (c.toNat / 16) :: digC great (c.toNat % 16) :: b)) TL W (HV.out.below hW)
    rw [HX, ← hsab] at OF
    have OF := Lib.hid OF
    have ci : (((⟨s.toArray⟩ : ByteArray)[i]'(by rw [hsd]; exact hi)).toNat : Int) = (c.toNat : Int) := by
      show (s[i].toNat : Int) = _
      rw [hgi hi]
    have u1 : ((c.toNat : Int)).tdiv 16 = ((c.toNat / 16 : Nat) : Int) := by rw [Int.tdiv_eq_ediv_of_nonneg (by omega)]; omega
    have u2 : ((c.toNat : Int)).tmod 16 = ((c.toNat % 16 : Nat) : Int) := by rw [Int.tmod_eq_emod_of_nonneg (by omega)]; omega
    have ex1 : (⟨s.toArray⟩ : ByteArray).extract 0 i = ⟨a.toArray⟩ := by
      rw [cut_str, hsab, ← hal]; simp
    have ex2 : (⟨s.toArray⟩ : ByteArray).extract (i + 1) s.length = ⟨b.toArray⟩ := by
      rw [cut_str]
      congr 2
      rw [hsab, ← hal, drop_cut, List.take_of_length_le (by simp; omega)]
    have ex3 := digs_at great (v := c.toNat / 16) (by omega)
    have ex4 := digs_at great (v := c.toNat % 16) (by omega)
    have HSAB := Lib.hid hsab
    have HHX := Lib.hid hc256
    have HBL := Lib.hid hbl
    obtain ⟨ch, hch⟩ : ∃ ch, c.toNat / 16 = ch := ⟨_, rfl⟩
    obtain ⟨cl, hcl⟩ : ∃ cl, c.toNat % 16 = cl := ⟨_, rfl⟩
    have v1 : (c.toNat : Int) / 16 = (ch : Int) := by omega
    have v2 : (c.toNat : Int) % 16 = (cl : Int) := by omega
    have c1 : ch < 16 := by omega
    have c2 : cl < 16 := by omega
    rw [hch] at u1 ex3 OF
    rw [hcl] at u2 ex4 OF
    have p1 : IntKind.u8.wrap ((ch : Int) + 1) = (ch : Int) + 1 := by unfold IntKind.wrap; simp [IntKind.signed, IntKind.bits]; omega
    have p2 : IntKind.u8.wrap ((cl : Int) + 1) = (cl : Int) + 1 := by unfold IntKind.wrap; simp [IntKind.signed, IntKind.bits]; omega
    have y2 : ¬ 9223372036854775807 < 1 + a.length := by omega
    have y3 : ¬ 9223372036854775807 < 1 + a.length + 1 := by omega
    have y4 : ¬ 9223372036854775807 < 1 + a.length + 1 + 1 := by omega
    have y5 : ¬ 9223372036854775807 < 1 + a.length + 1 + 1 + 1 := by omega
    have y6 : ¬ 9223372036854775807 < 1 + a.length + 1 + 1 + 1 + b.length := by omega
    have t1 : (k : Int) % (s.length : Int) = (i : Int) := by rw [← hik]; omega
    clear hsab hgi HX TL hb hne hik hal hbl
    cases great with
    | false =>
      go_enter Tryd.func6, Tryd.ntmps6
      go_wp2_with fail
      refine AL.out.mono ?_; rintro e wa ⟨rfl, b1⟩
      have B1 := Lib.hid b1
      clear b1 AL
      go_wp2_with fail
      refine (NA.out _).mono ?_; rintro e wb ⟨rfl, b2⟩
      have B2 := Lib.hid (B1.out.trans (b2.mono B1.out.size))
      clear b2 NA
      go_upto_region 9 with fail
      have hz1 : i ≤ s.length := by omega
      have y1 : ¬ 9223372036854775807 < i + 1 := by omega
      have j0 : (0 : Int) ≤ (i : Int) := by omega
      have hilt : (i : Int) < (s.length : Int) := by omega
      have d1 : (ch : Int) + 1 ≤ 16 := by omega
      have d2 : (cl : Int) + 1 ≤ 16 := by omega
      have d3 : (0 : Int) ≤ (ch : Int) := by omega
      have d4 : (0 : Int) ≤ (cl : Int) := by omega
      have d5 : (ch : Int) ≤ (ch : Int) + 1 := by omega
      have d6 : (cl : Int) ≤ (cl : Int) + 1 := by omega
      go_region
      have B3 := Lib.hid (B2.out.trans ((⟨rfl, rfl, rfl, Nat.le_refl _, fun _ _ => rfl⟩ : Below wb.heap.size wb wb.drew).mono B2.out.size))
      have e1 : (⟨#[47]⟩ : ByteArray) ++ ⟨a.toArray⟩ ++ ⟨#[37]⟩ ++ (⟨#[48, 49, 50, 51, 52, 53, 54, 55, 56, 57, 97, 98, 99, 100, 101, 102]⟩ : ByteArray).extract ch (ch + 1) ++ (⟨#[48, 49, 50, 51, 52, 53, 54, 55, 56, 57, 97, 98, 99, 100, 101, 102]⟩ : ByteArray).extract cl (cl + 1) ++ ⟨b.toArray⟩ = ⟨(47 :: (a ++ 37 :: digC false ch :: digC false cl :: b)).toArray⟩ := by
        rw [show (⟨#[48, 49, 50, 51, 52, 53, 54, 55, 56, 57, 97, 98, 99, 100, 101, 102]⟩ : ByteArray).extract ch (ch + 1) = ⟨[digC false ch].toArray⟩ from ex3, show (⟨#[48, 49, 50, 51, 52, 53, 54, 55, 56, 57, 97, 98, 99, 100, 101, 102]⟩ : ByteArray).extract cl (cl + 1) = ⟨[digC false cl].toArray⟩ from ex4,
          show (⟨#[47]⟩ : ByteArray) = ⟨[47].toArray⟩ from rfl, show (⟨#[37]⟩ : ByteArray) = ⟨[37].toArray⟩ from rfl, str_add, str_add, str_add, str_add, str_add]
        simp
      have E1 := Lib.hid e1
      clear e1 ex1 ex2 ex3 ex4
      by_cases hc : c = 47
      · subst hc
        have O := fun (W : World) (hW : Below w.heap.size w W) => OF.out W hW
        rw [if_pos rfl] at O
        have O := Lib.hid O
        go_wp2_with fail
        rw [show (⟨#[47]⟩ : ByteArray) ++ ⟨a.toArray⟩ ++ ⟨#[37]⟩ ++ (⟨#[48, 49, 50, 51, 52, 53, 54, 55, 56, 57, 97, 98, 99, 100, 101, 102]⟩ : ByteArray).extract ch (ch + 1) ++ (⟨#[48, 49, 50, 51, 52, 53, 54, 55, 56, 57, 97, 98, 99, 100, 101, 102]⟩ : ByteArray).extract cl (cl + 1) ++ ⟨b.toArray⟩ = ⟨(47 :: (a ++ 37 :: digC false ch :: digC false cl :: b)).toArray⟩ from E1.out]
        refine (O.out _ B3.out).mono ?_; rintro e wc ⟨rfl, b4⟩
        have B4 := Lib.hid (B3.out.trans (b4.mono B3.out.size))
        clear b4
        go_wp2
        go_ret
        exact ⟨rfl, B4.out⟩
      · have O := fun (W : World) (hW : Below w.heap.size w W) => OF.out W hW
        rw [if_neg hc] at O
        have O := Lib.hid O
        have qc : ((c.toNat : Int) == 47) = false := by
          rw [beq_eq_false_iff_ne]
          intro h
          exact hc (UInt8.toNat_inj.1 (by show c.toNat = 47; omega))
        clear hc
        go_wp2_with fail
        rw [show (⟨#[47]⟩ : ByteArray) ++ ⟨a.toArray⟩ ++ ⟨#[37]⟩ ++ (⟨#[48, 49, 50, 51, 52, 53, 54, 55, 56, 57, 97, 98, 99, 100, 101, 102]⟩ : ByteArray).extract ch (ch + 1) ++ (⟨#[48, 49, 50, 51, 52, 53, 54, 55, 56, 57, 97, 98, 99, 100, 101, 102]⟩ : ByteArray).extract cl (cl + 1) ++ ⟨b.toArray⟩ = ⟨(47 :: (a ++ 37 :: digC false ch :: digC false cl :: b)).toArray⟩ from E1.out]
        refine (O.out _ B3.out).mono ?_; rintro e wc ⟨rfl, b4⟩
        have B4 := Lib.hid (B3.out.trans (b4.mono B3.out.size))
        clear b4
        go_wp2
        go_ret
        exact ⟨rfl, B4.out⟩
    | true =>
      go_enter Tryd.func6, Tryd.ntmps6
      go_wp2_with fail
      refine AL.out.mono ?_; rintro e wa ⟨rfl, b1⟩
      have B1 := Lib.hid b1
      clear b1 AL
      go_wp2_with fail
      refine (NA.out _).mono ?_; rintro e wb ⟨rfl, b2⟩
      have B2 := Lib.hid (B1.out.trans (b2.mono B1.out.size))
      clear b2 NA
      go_upto_region 9 with fail
      have hz1 : i ≤ s.length := by omega
      have y1 : ¬ 9223372036854775807 < i + 1 := by omega
      have j0 : (0 : Int) ≤ (i : Int) := by omega
      have hilt : (i : Int) < (s.length : Int) := by omega
      have d1 : (ch : Int) + 1 ≤ 16 := by omega
      have d2 : (cl : Int) + 1 ≤ 16 := by omega
      have d3 : (0 : Int) ≤ (ch : Int) := by omega
      have d4 : (0 : Int) ≤ (cl : Int) := by omega
      have d5 : (ch : Int) ≤ (ch : Int) + 1 := by omega
      have d6 : (cl : Int) ≤ (cl : Int) + 1 := by omega
      go_region
      have B3 := Lib.hid (B2.out.trans ((⟨rfl, rfl, rfl, Nat.le_refl _, fun _ _ => rfl⟩ : Below wb.heap.size wb wb.drew).mono B2.out.size))
      have e1 : (⟨#[47]⟩ : ByteArray) ++ ⟨a.toArray⟩ ++ ⟨#[37]⟩ ++ (⟨#[48, 49, 50, 51, 52, 53, 54, 55, 56, 57, 65, 66, 67, 68, 69, 70]⟩ : ByteArray).extract ch (ch + 1) ++ (⟨#[48, 49, 50, 51, 52, 53, 54, 55, 56, 57, 65, 66, 67, 68, 69, 70]⟩ : ByteArray).extract cl (cl + 1) ++ ⟨b.toArray⟩ = ⟨(47 :: (a ++ 37 :: digC true ch :: digC true cl :: b)).toArray⟩ := by
        rw [show (⟨#[48, 49, 50, 51, 52, 53, 54, 55, 56, 57, 65, 66, 67, 68, 69, 70]⟩ : ByteArray).extract ch (ch + 1) = ⟨[digC true ch].toArray⟩ from ex3, show (⟨#[48, 49, 50, 51, 52, 53, 54, 55, 56, 57, 65, 66, 67, 68, 69, 70]⟩ : ByteArray).extract cl (cl + 1) = ⟨[digC true cl].toArray⟩ from ex4,
          show (⟨#[47]⟩ : ByteArray) = ⟨[47].toArray⟩ from rfl, show (⟨#[37]⟩ : ByteArray) = ⟨[37].toArray⟩ from rfl, str_add, str_add, str_add, str_add, str_add]
        simp
      have E1 := Lib.hid e1
      clear e1 ex1 ex2 ex3 ex4
      by_cases hc : c = 47
      · subst hc
        have O := fun (W : World) (hW : Below w.heap.size w W) => OF.out W hW
        rw [if_pos rfl] at O
        have O := Lib.hid O
        go_wp2_with fail
        rw [show (⟨#[47]⟩ : ByteArray) ++ ⟨a.toArray⟩ ++ ⟨#[37]⟩ ++ (⟨#[48, 49, 50, 51, 52, 53, 54, 55, 56, 57, 65, 66, 67, 68, 69, 70]⟩ : ByteArray).extract ch (ch + 1) ++ (⟨#[48, 49, 50, 51, 52, 53, 54, 55, 56, 57, 65, 66, 67, 68, 69, 70]⟩ : ByteArray).extract cl (cl + 1) ++ ⟨b.toArray⟩ = ⟨(47 :: (a ++ 37 :: digC true ch :: digC true cl :: b)).toArray⟩ from E1.out]
        refine (O.out _ B3.out).mono ?_; rintro e wc ⟨rfl, b4⟩
        have B4 := Lib.hid (B3.out.trans (b4.mono B3.out.size))
        clear b4
        go_wp2
        go_ret
        exact ⟨rfl, B4.out⟩
      · have O := fun (W : World) (hW : Below w.heap.size w W) => OF.out W hW
        rw [if_neg hc] at O
        have O := Lib.hid O
        have qc : ((c.toNat : Int) == 47) = false := by
          rw [beq_eq_false_iff_ne]
          intro h
          exact hc (UInt8.toNat_inj.1 (by show c.toNat = 47; omega))
        clear hc
        go_wp2_with fail
        rw [show (⟨#[47]⟩ : ByteArray) ++ ⟨a.toArray⟩ ++ ⟨#[37]⟩ ++ (⟨#[48, 49, 50, 51, 52, 53, 54, 55, 56, 57, 65, 66, 67, 68, 69, 70]⟩ : ByteArray).extract ch (ch + 1) ++ (⟨#[48, 49, 50, 51, 52, 53, 54, 55, 56, 57, 65, 66, 67, 68, 69, 70]⟩ : ByteArray).extract cl (cl + 1) ++ ⟨b.toArray⟩ = ⟨(47 :: (a ++ 37 :: digC true ch :: digC true cl :: b)).toArray⟩ from E1.out]
        refine (O.out _ B3.out).mono ?_; rintro e wc ⟨rfl, b4⟩
        have B4 := Lib.hid (B3.out.trans (b4.mono B3.out.size))
        clear b4
        go_wp2
        go_ret
        exact ⟨rfl, B4.out⟩

set_option maxRecDepth 100000 in
theorem reads (os : Os) {H : Type} (enc : TypeId × Value → H) : DataW.whole enc Tryd.prog ((World.laidAll Tryd.prog os Rows.pathHexRow.laid).forCall (fun _ _ => 0) ⟨#[], #[.string ⟨#[]⟩, .int .u8 0, .bool false], []⟩).memory Tryd.f6.params.toList Rows.pathHexSpec.vars false (#[.string ⟨#[]⟩, .int .u8 0, .bool false] : Array Value).toList 8 = some ([.lit (.string []), .lit (.int .u8 0), .lit (.bool false)], [], []) := by kernel_rfl
set_option maxRecDepth 100000 in
theorem lifted (os : Os) (started : os.Started) (H : Type) (enc : TypeId × Value → H) (F : Stop.Interp) :
    ReturnsInHanded {} Tryd.checked os 6 .any ((OpenSpec.ofChange Rows.pathHexSpec).preRow enc Tryd.prog Tryd.f6 Rows.pathHexRow.domain false Rows.pathHexRow.laid) (((OpenSpec.ofChange Rows.pathHexSpec).at F).post enc Tryd.prog Tryd.f6 false true false false) := by
  refine returnsInHanded_of_row (C := Tryd.checked) (s := OpenSpec.ofChange Rows.pathHexSpec) own started (by kernel_rfl) Tryd.func6
    ⟨World.laidAll Tryd.prog os Rows.pathHexRow.laid, fun _ _ => 0, ⟨#[], #[.string ⟨#[]⟩, .int .u8 0, .bool false], []⟩, World.laidAll_os _ _ _, World.shaped_of_ZipB (by kernel_rfl) (by kernel_rfl), rfl, (Input.okWide_of_okWideB (by kernel_rfl)).2,
      OpenSpec.preRow_of_cond 8 (reads os enc) (by kernel_rfl) (fun k hk => by cases hk) (by kernel_rfl) (by rw [MakeChecks.laidMetH_plain _ _ _ (by kernel_rfl)]; exact laidMet_laidAll _ (by kernel_rfl) (by kernel_rfl)), by simp [Assume.holds]⟩ ?_
  intro W base args ds gs before hval0 hW _ _ hsz hL hsh _
  have hval : ∀ (j : Nat) t v, Tryd.f6.params[j]? = some t → args[j]? = some v → Value.okWide Tryd.prog W .any base t v := hval0
  have hvars : Vars W := Vars.of hL
  have hW' := hW
  obtain ⟨p, q, hA0, hV, rfl, hfz, hnd⟩ := hW
  have hA : DataW.TrodAll enc Tryd.prog W 0 (fun _ => true) true Tryd.f6.params.toList args.toList ds p := hA0
  rw [Tryd.params6] at hA hval
  obtain ⟨v0, vs0, d0, ds0, p0, q0, hargs, rfl, rfl, h0, r0⟩ := trodAll_cons hA
  obtain ⟨v1, vs1, d1, ds1, p1, q1, rfl, rfl, rfl, h1, r1⟩ := trodAll_cons r0
  obtain ⟨v2, vs2, d2, ds2, p2, q2, rfl, rfl, rfl, h2, r2⟩ := trodAll_cons r1
  obtain ⟨rfl, rfl, rfl⟩ := trodAll_nil r2
  obtain rfl : args = #[v0, v1, v2] := by cases args; simp_all
  obtain ⟨a0, rfl, rfl, _, _⟩ := Go.ChangeMaps.open_string Tryd.underlying9 (hval 0 9 v0 rfl rfl) h0
  have w0 : a0.size ≤ 140737488351232 := sized_string hsz (j := 0) (bytes := a0.data.toList) rfl rfl
  obtain ⟨a1, rfl, _, _, w1⟩ := open_int Tryd.underlying5 (hval 1 5 v1 rfl rfl) h1
  obtain ⟨a2, rfl, _, _⟩ := open_bool Tryd.underlying4 (hval 2 4 v2 rfl rfl) h2
  clear hA0 hval0
  exact law_close hW' laidOut (by kernel_rfl) rfl Tryd.underlying4 rfl ⟨rfl, rfl, rfl⟩ (walk W hvars a0 w0 a1 w1 a2)

theorem over : Rows.pathHexRow.holds Tryd.pinned (OpenSpec.ofChange Rows.pathHexSpec) :=
  OpenClaim.holds_of_cond 6 Tryd.f6 rfl rfl rfl rfl rfl rfl rfl ⟨rfl, rfl, rfl, rfl, rfl⟩ rfl rfl rfl rfl rfl (by kernel_rfl) Tryd.func6 (by kernel_rfl)
    (of_decide_eq_true (by kernel_rfl)) (by unfold Func.isWrapper; first | (rw [if_pos (by decide +kernel)]; kernel_rfl) | (rw [if_neg (by decide +kernel)]; exact ⟨rfl, rfl⟩))
    (fun os started H enc _ F => by rw [OpenClaim.pre_eq_preRow]; exact lifted os started H enc F)

theorem plain (f : FuncId) (fn : Func) (hf : Tryd.pinned.checked.prog.funcNamed "pantler/pantlerlaw10.PathHex" = some f) (hfn : Tryd.pinned.checked.prog.funcs[f]? = some fn) :
    Rows.pathHexCard.stood.looks = Tryd.pinned.checked.prog.looks [] ∧ ∀ (j : Nat) t, fn.params[j]? = some t → Tryd.pinned.checked.prog.wantsStandIn t = false := by
  obtain rfl : f = 6 := Option.some.inj ((show Tryd.prog.funcNamed "pantler/pantlerlaw10.PathHex" = some 6 by kernel_rfl).symm.trans hf) |>.symm
  obtain rfl : fn = Tryd.f6 := (Option.some.inj (Tryd.func6.symm.trans hfn)).symm
  refine ⟨by kernel_rfl, fun j t ht => ?_⟩
  rw [Tryd.params6] at ht
  have hm : t ∈ [9, 5, 4] := by simpa using Array.mem_of_getElem? ht
  have hall : ([9, 5, 4].all fun u => !Tryd.prog.wantsStandIn u) = true := by kernel_rfl
  exact (show Tryd.prog.wantsStandIn t = false by simpa using List.all_eq_true.1 hall t hm)

theorem proved : Rows.PathHexCardSaid :=
  Claim7.holds_tied_plain_at .later [] _ _ _ _ over (fun _ h => by cases h) (by kernel_rfl) (fun _ h => by cases h) pathHex_row_tie rfl ⟨rfl, rfl⟩ (by kernel_rfl) rfl plain (by kernel_rfl)

end Go.Proofs.YtjhbllbiajmkgaaDoor.pathHex
