/- Package path's Of. Conditions: those that each states. -/
import Derived.Test.YtjhbllbiajmkgaaDoorPa4
import Derived.Test.YtjhbllbiajmkgaaDoorApp
namespace Go.Proofs.YtjhbllbiajmkgaaDoor.Pt
open Go.ChangeShapes Go.WideShapes Go.ChangeAt Go.RowKit Go.Deep
set_option linter.unusedVariables false
/-- What a target's rest tells, so much of the name being there. -/
def fin (nm rest : List UInt8) : List UInt8 × Int := match unesc rest with | some n => if nameB (nm ++ n) = true then (nm ++ n, 0) else ([], 70) | none => ([], 70)
theorem fin_nameOf (r : List UInt8) : fin [] r = nameOf r := rfl
theorem fin_none {nm rest : List UInt8} (hne : rest ≠ []) (h : firstR rest = none) : fin nm rest = ([], 70) := by
  unfold fin
  rw [unesc_step hne, h]
theorem fin_step {nm rest r : List UInt8} {c : UInt8} (hne : rest ≠ []) (h : firstR rest = some (c, r)) : fin nm rest = fin (nm ++ [c]) r := by
  unfold fin
  rw [unesc_step hne, h]
  show (match (unesc r).map (c :: ·) with | some n => _ | none => _) = _
  cases unesc r with
  | none => rfl
  | some n =>
    show (if nameB (nm ++ (c :: n)) = true then (nm ++ (c :: n), (0 : Int)) else ([], 70)) = (if nameB (nm ++ [c] ++ n) = true then (nm ++ [c] ++ n, 0) else ([], 70))
    rw [List.append_assoc]
    rfl
theorem fin_bad {nm rest r : List UInt8} {c : UInt8} (hne : rest ≠ []) (h : firstR rest = some (c, r)) (h1 : c ≠ 47) (h2 : plainC c = false) : fin nm rest = ([], 70) := by
  rw [fin_step hne h]
  unfold fin
  cases hu : unesc r with
  | none => rfl
  | some n =>
    show (if nameB (nm ++ [c] ++ n) = true then (nm ++ [c] ++ n, (0 : Int)) else ([], 70)) = _
    rw [if_neg]
    intro hn
    rcases name_mem hn (c := c) (by simp) with h3 | h3
    · exact h1 h3
    · rw [h2] at h3; cases h3
theorem told_str {w : World} {A : Option Addr} {n c : Nat} {l : List UInt8} (hb : Src w A n c l) : (convert 37 9 (.slice A n c)).run Tryd.prog w = .ok (.string ⟨l.toArray⟩) w := by
  have hl := hb.len
  cases A with
  | none =>
    have hc := hb.none_ rfl
    have hn : n = 0 := by have := hb.cap; omega
    subst hn
    rw [List.length_eq_zero_iff.1 hl]
    exact run_convert_bytes_nil w 37 5 Tryd.underlying37 Tryd.underlying5 0 c 9 Tryd.underlying9
  | some ad =>
    subst hl
    exact run_convert_bytes_back w 37 9 5 ad c l Tryd.underlying37 Tryd.underlying5 Tryd.underlying9 fun j hj => by
      rw [Bytes.at_ ad hb.toBytes j _ (bys_get hj)]
def JOf (l : List UInt8) (w0 : World) : Nat → Act → World → Prop
  | 0, a, w => (∃ u, a = { tmps := Fr58 u, defers := [] }) ∧ ofR l = ([], 70) ∧ Below w0.heap.size w0 w
  | 1, a, w => ∃ (u : Nat → Value) (nm rest : List UInt8) (v : Value), a = { tmps := Fr58 u, defers := [] } ∧ u 4 = v ∧ u 9 = .string ⟨rest.toArray⟩ ∧ rest ≠ [] ∧ nm.length + rest.length ≤ 128 ∧ Hid (w.ownsRow w0.heap.size 5 1 v nm.length (bys nm)) ∧ Hid (ofR l = fin nm rest) ∧ Below w0.heap.size w0 w
  | _, _, _ => False
def MOf (l : Nat) (a : Act) (_ : World) : Nat := if l = 1 then 1 + (match a.tmps.getD 9 undef with | .string b => b.size | _ => 0) else 0
set_option maxRecDepth 1000000 in
set_option maxHeartbeats 4000000 in
theorem of_any (l : List UInt8) (hl : l.length ≤ 1000000) (w : World) (hv : VarsP w) : Calls Tryd.prog 14 #[.string ⟨l.toArray⟩] w fun e w' => e = .returned (.tuple #[.string ⟨(ofR l).1.toArray⟩, .int .i64 (ofR l).2]) ∧ Below w.heap.size w w' := by
  have hsz : (⟨l.toArray⟩ : ByteArray).size = l.length := rfl
  have HV := Lib.hid hv
  clear hv
  go_enter Tryd.func14, Tryd.ntmps14
  go_wp2
  refine scope_labels (JOf l w) MOf ?_ ?_
  · intro lb a' wr hJ
    match lb, hJ with
    | 0, hJ =>
      obtain ⟨⟨u, rfl⟩, hof, hb⟩ := hJ
      refine ⟨_, rfl, ?_⟩
      have OF := Lib.hid hof
      have HB := Lib.hid hb
      clear hof hb
      unfold Fr58
      go_wp2
      rw [Jumps_ret]
      go_ret2
      exact ⟨by rw [OF.out]; rfl, HB.out⟩
    | 1, hJ =>
      obtain ⟨u, nm, rest, v, rfl, u4, u9, hne, hlen, HO, HF, hb⟩ := hJ
      refine ⟨_, rfl, ?_⟩
      have HB := Lib.hid hb
      have HNE := Lib.hid hne
      have FI := Lib.hid (first_any rest hne (by omega) wr (HV.out.belowN HV.out.lt HB.out))
      clear hb
      unfold Fr58
      rw [u4, u9]
      cases hfr : firstR rest with
      | none =>
        have fa : firstAns rest = .tuple #[.int .u8 0, .string ⟨#[]⟩, .bool false] := by unfold firstAns; rw [hfr]
        rw [fa] at FI
        have OF := Lib.hid (show ofR l = ([], 70) from by rw [HF.out]; exact fin_none hne hfr)
        clear fa hfr HF u4 u9 hne
        go_wp2_with fail
        refine FI.out.mono ?_; rintro e w1 ⟨rfl, b1⟩
        have B1 := Lib.hid (HB.out.trans (b1.mono HB.out.size))
        clear b1
        go_wp2
        refine wp_goto ?_
        exact ⟨⟨⟨_, fr58 _ rfl rfl⟩, OF.out, B1.out⟩, by show 0 < MOf 1 _ _; unfold MOf; rw [if_pos rfl]; omega⟩
      | some p =>
        obtain ⟨c, r⟩ := p
        have fa : firstAns rest = .tuple #[.int .u8 (c.toNat : Int), .string ⟨r.toArray⟩, .bool true] := by unfold firstAns; rw [hfr]
        rw [fa] at FI
        have hrl := firstR_lt hfr
        have H9 := Lib.hid u9
        by_cases hc : c ≠ 47 ∧ plainC c = false
        · have OF := Lib.hid (show ofR l = ([], 70) from by rw [HF.out]; exact fin_bad hne hfr hc.1 hc.2)
          have CI := Lib.hid (inSeg_any c)
          rw [hc.2] at CI
          have q47 : ((c.toNat : Int) != 47) = true := by
            rw [bne_iff_ne]
            intro h
            exact hc.1 (UInt8.toNat_inj.1 (by show c.toNat = 47; omega))
          clear fa hfr HF u4 u9 hne hc
          go_wp2_with fail
          refine FI.out.mono ?_; rintro e w1 ⟨rfl, b1⟩
          have B1 := Lib.hid (HB.out.trans (b1.mono HB.out.size))
          clear b1
          go_wp2_with fail
          refine (CI.out w1).mono ?_; rintro e w2 ⟨rfl, hw⟩; subst hw
          go_wp2
          refine wp_goto ?_
          exact ⟨⟨⟨_, fr58 _ rfl rfl⟩, OF.out, B1.out⟩, by show 0 < MOf 1 _ _; unfold MOf; rw [if_pos rfl]; omega⟩
        · have OF := Lib.hid (show ofR l = fin (nm ++ [c]) r from by rw [HF.out]; exact fin_step hne hfr)
          have OWN := Lib.hid (fun (W : World) (hW : Below wr.heap.size wr W) => show W.ownsRow w.heap.size 5 1 v nm.length (bys nm) from HO.out.kept (grown_of_below hW none) (by cases v.ownBlock with
            | none => exact .inl rfl
            | some b => exact .inr (by simp)))
          by_cases hc47 : c = 47
          · subst hc47
            clear fa hfr HF u4 u9 hne hc HO
            go_wp2_with fail
            refine FI.out.mono ?_; rintro e w1 ⟨rfl, b1⟩
            have bA := b1.alloc b1.size (.cells #[.int .u8 ((47 : UInt8).toNat : Int)] 5)
            have HOA := Lib.hid (OWN.out _ bA)
            have BA := Lib.hid (HB.out.trans (bA.mono HB.out.size))
            have ZA := Lib.hid BA.out.size
            clear b1 bA OWN FI
            go_wp2_with (at_builtin; refine Hid.out ?_)
            unfold Hid
            refine wpList_append_src rfl _ _ rfl w.heap.size v nm.length nm rfl HOA.out (some ⟨w1.heap.size, 0, none⟩) 1 1 [47] rfl (Src.one w1 47) (by omega) ZA.out ?_
            intro v' w3 own3 b3
            have own3 : w3.ownsRow w.heap.size 5 1 v' (nm ++ [47]).length (bys (nm ++ [47])) := by rw [List.length_append]; exact own3
            have O3 := Lib.hid own3
            have B3 := Lib.hid (BA.out.trans b3)
            obtain ⟨A3, c3, hv3, s3, g3⟩ := src_of_own own3
            subst hv3
            have S3 := Lib.hid s3
            have hb2 : (nm ++ [47]).length + r.length ≤ 128 := by simp; omega
            clear own3 b3 s3 g3 HOA ZA BA
            generalize nm ++ [47] = nm2 at *
            by_cases hr : r = []
            · subst hr
              have TO := told_str S3.out
              have NA := Lib.hid (name_any (nm2) (by omega) w3)
              cases hb : nameB (nm2) with
              | true =>
                have OF2 := Lib.hid (show ofR l = (nm2, 0) from by rw [OF.out]; show (if nameB (nm2 ++ []) = true then (nm2 ++ [], (0 : Int)) else ([], 70)) = _; rw [List.append_nil, if_pos hb])
                rw [hb] at NA
                clear hb OF H9
                go_wp2_with fail
                refine NA.out.mono ?_; rintro e w4 ⟨rfl, b4⟩
                have B4 := Lib.hid (B3.out.trans (b4.mono B3.out.size))
                have TO2 := told_str (S3.out.below b4)
                clear b4 TO
                go_wp2
                rw [Jumps_ret]
                go_ret2
                exact ⟨by rw [OF2.out]; rfl, B4.out⟩
              | false =>
                have OF2 := Lib.hid (show ofR l = ([], 70) from by rw [OF.out]; show (if nameB (nm2 ++ []) = true then (nm2 ++ [], (0 : Int)) else ([], 70)) = _; rw [List.append_nil, if_neg (by rw [hb]; decide)])
                rw [hb] at NA
                clear hb OF
                go_wp2_with fail
                refine NA.out.mono ?_; rintro e w4 ⟨rfl, b4⟩
                have B4 := Lib.hid (B3.out.trans (b4.mono B3.out.size))
                clear b4 TO
                go_wp2
                refine wp_goto ?_
                exact ⟨⟨⟨_, fr58 _ rfl rfl⟩, OF2.out, B4.out⟩, by show 0 < MOf 1 _ _; unfold MOf; rw [if_pos rfl]; omega⟩
            · have i1 : r.isEmpty = false := by cases r <;> simp_all
              have HR := Lib.hid hr
              clear hr
              go_wp2
              refine wp_goto ?_
              refine ⟨⟨_, nm2, r, _, fr58 _ rfl rfl, rfl, rfl, HR.out, hb2, O3, OF, B3.out⟩, ?_⟩
              show 1 + r.length < 1 + rest.length
              omega
          · have hpl : plainC c = true := by
              cases h : plainC c with
              | true => rfl
              | false => exact absurd ⟨hc47, h⟩ hc
            have CI := Lib.hid (inSeg_any c)
            rw [hpl] at CI
            have q47 : ((c.toNat : Int) != 47) = true := by
              rw [bne_iff_ne]
              intro h
              exact hc47 (UInt8.toNat_inj.1 (by show c.toNat = 47; omega))
            clear fa hfr HF u4 u9 hne hc HO hpl hc47
            go_wp2_with fail
            refine FI.out.mono ?_; rintro e w1 ⟨rfl, b1⟩
            have bA := b1.alloc b1.size (.cells #[.int .u8 (c.toNat : Int)] 5)
            have HOA := Lib.hid (OWN.out _ bA)
            have BA := Lib.hid (HB.out.trans (bA.mono HB.out.size))
            have ZA := Lib.hid BA.out.size
            clear b1 bA OWN FI
            go_wp2_with fail
            refine (CI.out w1).mono ?_; rintro e w2 ⟨rfl, hw⟩; subst hw
            clear CI
            go_wp2_with (at_builtin; refine Hid.out ?_)
            unfold Hid
            refine wpList_append_src rfl _ _ rfl w.heap.size v nm.length nm rfl HOA.out (some ⟨w2.heap.size, 0, none⟩) 1 1 [c] rfl (Src.one w2 c) (by omega) ZA.out ?_
            intro v' w3 own3 b3
            have own3 : w3.ownsRow w.heap.size 5 1 v' (nm ++ [c]).length (bys (nm ++ [c])) := by rw [List.length_append]; exact own3
            have O3 := Lib.hid own3
            have B3 := Lib.hid (BA.out.trans b3)
            obtain ⟨A3, c3, hv3, s3, g3⟩ := src_of_own own3
            subst hv3
            have S3 := Lib.hid s3
            have hb2 : (nm ++ [c]).length + r.length ≤ 128 := by simp; omega
            clear own3 b3 s3 g3 HOA ZA BA
            generalize nm ++ [c] = nm2 at *
            by_cases hr : r = []
            · subst hr
              have TO := told_str S3.out
              have NA := Lib.hid (name_any (nm2) (by omega) w3)
              cases hb : nameB (nm2) with
              | true =>
                have OF2 := Lib.hid (show ofR l = (nm2, 0) from by rw [OF.out]; show (if nameB (nm2 ++ []) = true then (nm2 ++ [], (0 : Int)) else ([], 70)) = _; rw [List.append_nil, if_pos hb])
                rw [hb] at NA
                clear hb OF H9
                go_wp2_with fail
                refine NA.out.mono ?_; rintro e w4 ⟨rfl, b4⟩
                have B4 := Lib.hid (B3.out.trans (b4.mono B3.out.size))
                have TO2 := told_str (S3.out.below b4)
                clear b4 TO
                go_wp2
                rw [Jumps_ret]
                go_ret2
                exact ⟨by rw [OF2.out]; rfl, B4.out⟩
              | false =>
                have OF2 := Lib.hid (show ofR l = ([], 70) from by rw [OF.out]; show (if nameB (nm2 ++ []) = true then (nm2 ++ [], (0 : Int)) else ([], 70)) = _; rw [List.append_nil, if_neg (by rw [hb]; decide)])
                rw [hb] at NA
                clear hb OF
                go_wp2_with fail
                refine NA.out.mono ?_; rintro e w4 ⟨rfl, b4⟩
                have B4 := Lib.hid (B3.out.trans (b4.mono B3.out.size))
                clear b4 TO
                go_wp2
                refine wp_goto ?_
                exact ⟨⟨⟨_, fr58 _ rfl rfl⟩, OF2.out, B4.out⟩, by show 0 < MOf 1 _ _; unfold MOf; rw [if_pos rfl]; omega⟩
            · have i1 : r.isEmpty = false := by cases r <;> simp_all
              have HR := Lib.hid hr
              clear hr
              go_wp2
              refine wp_goto ?_
              refine ⟨⟨_, nm2, r, _, fr58 _ rfl rfl, rfl, rfl, HR.out, hb2, O3, OF, B3.out⟩, ?_⟩
              show 1 + r.length < 1 + rest.length
              omega
  · intro P0
    have PASS := Lib.hid P0
    clear P0
    by_cases h128 : 128 < l.length
    · have g : (l.length : Int) > 128 := by omega
      have OF := Lib.hid (show ofR l = ([], 2) from by unfold ofR; rw [if_pos h128])
      go_wp2
      rw [Jumps_ret]
      go_ret2
      exact ⟨by rw [OF.out]; rfl, Below.refl _ _⟩
    have g : ¬ (l.length : Int) > 128 := by omega
    have CU := Lib.hid (cut_any l (by omega) w)
    go_wp2_with fail
    refine CU.out.mono ?_; rintro e w1 ⟨⟨b, v, rfl⟩, b1⟩
    have B1 := Lib.hid b1
    clear b1 CU
    cases ha : asked l with
    | nil =>
      have OF := Lib.hid (show ofR l = ([], 70) from by unfold ofR; rw [if_neg h128, ha])
      have CP := Lib.hid (prefix_no [] (fun r h => by cases h) w1)
      clear ha
      go_wp2_with fail
      refine CP.out.mono ?_; rintro e w2 ⟨⟨s, rfl⟩, hw⟩; subst hw
      go_wp2
      refine wp_goto ?_
      show JOf l w 0 _ _
      exact ⟨⟨_, fr58 _ rfl rfl⟩, OF.out, B1.out⟩
    | cons c r =>
      have hrl : r.length ≤ 127 := by
        have h1 : (asked l).length ≤ l.length := (List.takeWhile_sublist _).length_le
        rw [ha] at h1
        simp at h1
        omega
      by_cases hc : c = 47
      · subst hc
        have CP := Lib.hid (prefix_yes r w1)
        by_cases hr : r = []
        · subst hr
          have OF := Lib.hid (show ofR l = (indexT, 0) from by unfold ofR; rw [if_neg h128, ha]; rfl)
          clear ha
          go_wp2_with fail
          refine CP.out.mono ?_; rintro e w2 ⟨rfl, hw⟩; subst hw
          go_wp2
          rw [Jumps_ret]
          go_ret2
          exact ⟨by rw [OF.out]; rfl, B1.out⟩
        · have OF := Lib.hid (show ofR l = fin [] r from by unfold ofR; rw [if_neg h128, ha]; show (if (47 : UInt8) = 47 then (if r = [] then _ else nameOf r) else _) = _; rw [if_pos rfl, if_neg hr]; rfl)
          have i1 : r.isEmpty = false := by cases r <;> simp_all
          have HR := Lib.hid hr
          clear ha
          go_wp2_with fail
          refine CP.out.mono ?_; rintro e w2 ⟨rfl, hw⟩; subst hw
          go_wp2
          go_step3
          rename_i K hK
          refine hK _ _ ?_
          refine (show ∀ a w', JOf l w 1 a w' → Code.wp Tryd.prog _ (Jumps (JOf l w) _) a w' from fun a w' h => by
            obtain ⟨bb, hf, hb⟩ := PASS.out 1 a w' h
            have e : some (Code.seq .skip _) = some (Code.seq .skip bb) := hf
            injection e with e
            injection e with _ e
            subst e
            exact hb) _ _ ⟨_, [], r, .slice none 0 0, fr58 _ rfl rfl, rfl, rfl, HR.out, by simp; omega, Lib.hid (World.ownsRow_nil _ _ _ _), OF, B1.out⟩
      · have OF := Lib.hid (show ofR l = ([], 70) from by unfold ofR; rw [if_neg h128, ha]; show (if c = 47 then _ else _) = _; rw [if_neg hc])
        have CP := Lib.hid (prefix_no (c :: r) (fun r' h => by injection h with h1 _; exact hc h1) w1)
        clear ha hc
        go_wp2_with fail
        refine CP.out.mono ?_; rintro e w2 ⟨⟨s, rfl⟩, hw⟩; subst hw
        go_wp2
        refine wp_goto ?_
        show JOf l w 0 _ _
        exact ⟨⟨_, fr58 _ rfl rfl⟩, OF.out, B1.out⟩
end Go.Proofs.YtjhbllbiajmkgaaDoor.Pt
