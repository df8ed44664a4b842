/- Layer 11: directories packed. Conditions: those that each states. -/
import Derived.Test.YtjjoohmfeglicaaDoorInZ
namespace Go.Proofs.YtjjoohmfeglicaaDoor.In
open Go.ChangeShapes Go.WideShapes Go.ChangeAt Go.RowKit Go.Deep Fl Rk
set_option linter.unusedVariables false

theorem name_all (l : List UInt8) (w : World) : Calls Tryd.prog 43 #[.string ⟨l.toArray⟩] w fun e w' => e = .returned (.bool (Pt.nameB l)) ∧ Below w.heap.size w w' := by
  by_cases hs : l.length ≤ 1000000000
  · exact Pt.name_any l hs w
  · have hsz : (⟨l.toArray⟩ : ByteArray).size = l.length := rfl
    have g : (l.length : Int) > 24 := by omega
    have EV := Lib.hid (show Pt.nameB l = false from by unfold Pt.nameB; rw [decide_eq_false (by omega)]; rfl)
    have hb := Blk.new w 4 #[.bool false]
    have hc := (hb.cell 0).trans (show _ = some (.bool false) from rfl)
    have hbel := (Below.refl w.heap.size w).alloc (Nat.le_refl _) (.cells #[.bool false] 4)
    have HB := Lib.hid (And.intro hc hbel)
    clear hb hc hbel
    refine callsIn_wide (n := 9).1 ?_
    refine callsIn_of_wp_marks Tryd.func43 rfl trivial ?_ rfl
    simp only [Tryd.ntmps43, List.size_toArray, List.length_cons, List.length_nil, Nat.reduceAdd, Nat.reduceSub, Array.replicate_succ, Array.replicate_zero, List.push_toArray, List.append_toArray, List.nil_append, List.cons_append]
    gi_wp2
    have hc := HB.out.1
    refine ⟨.bool false, ?_, by rw [EV.out], HB.out.2⟩
    simp [results, Tryd.f43, go_sem, hc]

theorem ent_cells {w : World} {A : Option Addr} {c : Nat} {l : List Ent} (h : RowG w 2 A l.length c (ve l)) {j : Nat} (hj : j < l.length) :
    ∃ b o, A = some ⟨b, o, none⟩ ∧ b < w.heap.size ∧ w.cell? ⟨b, o + j * 2, none⟩ = some (.string ⟨l[j].name.toArray⟩) ∧ w.cell? ⟨b, o + j * 2 + 1, none⟩ = some (.int .i64 l[j].ino) := by
  have hl := ve_length l
  obtain ⟨g1, g2⟩ := ve_get l j hj
  obtain ⟨b, o, rfl, hb, c0⟩ := h.cell (j := j * 2) (by omega)
  obtain ⟨b', o', e, _, c1⟩ := h.cell (j := j * 2 + 1) (by omega)
  cases e
  rw [List.getElem?_eq_getElem (by omega)] at g1 g2
  injection g1 with g1
  injection g2 with g2
  rw [g1] at c0
  rw [g2] at c1
  exact ⟨b, o, rfl, hb, c0, by rw [Nat.add_assoc]; exact c1⟩

set_option maxRecDepth 100000 in
theorem mayBeDir_any (A : Option Addr) (c : Nat) (l : List Ent) (w : World) (h : RowG w 2 A l.length c (ve l)) :
    Calls Tryd.prog 26 #[.slice A l.length c] w fun e w' => e = .returned (.bool (dirMay l)) ∧ Below w.heap.size w w' := by
  have hmax : l.length ≤ 9223372036854775807 := Nat.le_trans h.cap h.max
  have H := Lib.hid h
  clear h
  by_cases h1 : l.length < 1
  · have R := Lib.hid (show dirMay l = false from by unfold dirMay; rw [decide_eq_false (by omega)]; rfl)
    have h1' : (l.length : Int) < 1 := by omega
    go_enter Tryd.func26, Tryd.ntmps26
    go_wp2
    go_ret
    exact ⟨by rw [R.out]; rfl, Below.refl _ _⟩
  by_cases h2 : l.length > 8
  · have R := Lib.hid (show dirMay l = false from by unfold dirMay; rw [decide_eq_false (by omega)]; rfl)
    have h1' : ¬ (l.length : Int) < 1 := by omega
    have h2' : (l.length : Int) > 8 := by omega
    go_enter Tryd.func26, Tryd.ntmps26
    go_wp2
    go_ret
    exact ⟨by rw [R.out]; rfl, Below.refl _ _⟩
  have R := Lib.hid (show dirMay l = l.all Ent.may from by unfold dirMay; rw [decide_eq_true (by omega)]; rfl)
  have h1' : ¬ (l.length : Int) < 1 := by omega
  have h2' : ¬ (l.length : Int) > 8 := by omega
  go_enter Tryd.func26, Tryd.ntmps26
  go_wp2
  go_loopw [15] (fun i wr => ∃ j : Nat, j ≤ l.length ∧ i = .int .i64 (j : Int) ∧ Hid ((l.take j).all Ent.may = true) ∧ Hid (Below w.heap.size w wr)) (fun i _ => l.length - (intOf i).toNat)
  case atStart => exact ⟨0, Nat.zero_le _, rfl, Lib.hid rfl, Lib.hid (Below.refl _ _)⟩
  case round =>
    obtain ⟨j, hj, rfl, hq, hbl⟩ := hrel
    by_cases hlt : j < l.length
    · have hlt' : (j : Int) < (l.length : Int) := by omega
      have j0 : (0 : Int) ≤ (j : Int) := by omega
      have xj := IntWalk.i64_in ((j : Int) + 1) (by omega)
      obtain ⟨b, o, rfl, hb, c0, c1⟩ := ent_cells (H.out.new hbl.out) hlt
      have EL := Lib.hid (fun w' (hb : Below wr.heap.size wr w') => hb)
      cases hn : Pt.nameB l[j].name with
      | false =>
        have NO := Lib.hid (all_no (p := Ent.may) hlt (by unfold Ent.may; rw [hn]; rfl))
        go_wp2_with fail
        refine (name_all _ _).mono ?_; rintro e w2 ⟨rfl, b2⟩; rw [hn]
        have B2 := Lib.hid (hbl.out.trans ((((Below.refl wr.heap.size wr).alloc (Nat.le_refl _) _).trans (b2.mono (by simp))).mono hbl.out.size))
        clear b2
        go_wp2
        go_ret
        exact ⟨by rw [R.out, NO.out]; rfl, B2.out⟩
      | true =>
        go_wp2_with fail
        refine (name_all _ _).mono ?_; rintro e w2 ⟨rfl, b2⟩; rw [hn]
        have c2 := ((Blk.new wr 65 #[.string ⟨l[j].name.toArray⟩, .int .i64 l[j].ino]).older (older_below b2)).cell 1
        simp only [List.getElem?_toArray, List.getElem?_cons_succ, List.getElem?_cons_zero] at c2
        have B2 := Lib.hid (hbl.out.trans ((((Below.refl wr.heap.size wr).alloc (Nat.le_refl _) _).trans (b2.mono (by simp))).mono hbl.out.size))
        clear b2
        cases hi : isBlk l[j].ino with
        | false =>
          have NO := Lib.hid (all_no (p := Ent.may) hlt (by unfold Ent.may; rw [hi]; simp))
          go_wp2_with fail
          refine (isBlock_any _ _).mono ?_; rintro e w3 ⟨rfl, rfl⟩; rw [hi]
          go_wp2
          go_ret
          exact ⟨by rw [R.out, NO.out]; rfl, B2.out⟩
        | true =>
          have NEXT : Hid ((l.take (j + 1)).all Ent.may = true) := Lib.hid (by rw [all_take hlt, hq.out]; unfold Ent.may; rw [hn, hi]; rfl)
          go_wp2_with fail
          refine (isBlock_any _ _).mono ?_; rintro e w3 ⟨rfl, rfl⟩; rw [hi]
          go_wp2
          go_roundw
          case rel => exact ⟨j + 1, by omega, by go_num, NEXT, B2⟩
          case measure => simp [intOf]; omega
    · have hlt' : ¬ (j : Int) < (l.length : Int) := by omega
      have ALL : Hid (l.all Ent.may = true) := Lib.hid (by have := hq.out; rwa [List.take_of_length_le (by omega)] at this)
      go_wp2
      go_ret
      exact ⟨by rw [R.out, ALL.out]; rfl, hbl.out⟩

theorem ents_snoc {l : List Ent} {j : Nat} (h : j < l.length) : (l.take (j + 1)).flatMap Ent.text = (l.take j).flatMap Ent.text ++ l[j].text := by
  rw [List.take_succ_eq_append_getElem h, List.flatMap_append]; simp
theorem nameB_len {l : List UInt8} (h : Pt.nameB l = true) : l.length ≤ 24 := by
  unfold Pt.nameB at h
  simp only [Bool.and_eq_true, decide_eq_true_eq] at h
  exact h.1

set_option maxRecDepth 100000 in
theorem packDir_any (A : Option Addr) (c : Nat) (l : List Ent) (w : World) (h : RowG w 2 A l.length c (ve l)) :
    Calls Tryd.prog 9 #[.slice A l.length c] w fun e w' => Packed w w' e (dirMay l) (dirT l) := by
  have H := Lib.hid h
  clear h
  cases hm : dirMay l with
  | false =>
    go_enter Tryd.func9, Tryd.ntmps9
    go_wp2_with fail
    refine (mayBeDir_any A c l _ H.out).mono ?_; rintro e w1 ⟨rfl, b1⟩; rw [hm]
    go_wp2
    go_ret2
    exact ⟨b1, fun _ => rfl, (by intro h; cases h)⟩
  | true =>
    obtain ⟨m1, m2, m3⟩ : 1 ≤ l.length ∧ l.length ≤ 8 ∧ l.all Ent.may = true := by
      unfold dirMay at hm
      simp only [Bool.and_eq_true, decide_eq_true_eq] at hm
      exact ⟨hm.1.1, hm.1.2, hm.2⟩
    have M3 := Lib.hid m3
    have T0 := Lib.hid (show dirT l = [68] ++ be l.length 1 ++ l.flatMap Ent.text from rfl)
    clear m3
    go_enter Tryd.func9, Tryd.ntmps9
    go_wp2_with fail
    refine (mayBeDir_any A c l _ H.out).mono ?_; rintro e w1 ⟨rfl, b1⟩; rw [hm]
    have H1 := Lib.hid (H.out.new b1)
    have B1 := Lib.hid b1
    clear H b1 hm
    have hcv : ∀ W : World, (convert 30 30 (.slice (some ⟨W.heap.size, 0, none⟩) 1 1)).run Tryd.prog (W.alloc (.cells #[.int .u8 68] 5)) = .ok (.slice (some ⟨W.heap.size, 0, none⟩) 1 1) (W.alloc (.cells #[.int .u8 68] 5 (1, 2))) := fun W => conv_fresh #[.int .u8 68] 1 1 W
    go_wp2_with fail
    clear hcv
    refine (put_any _ 1 _ _ l.length 1 _ (marked w1 [68] (by decide)) (by omega) (by decide) (by decide) (by omega) (by omega)).mono ?_; rintro e w3 ⟨g3, c3, rfl, o3, b3⟩
    have b2 : Below w1.heap.size w1 w3 := ((Below.refl w1.heap.size w1).alloc (Nat.le_refl _) _).trans (b3.mono (by simp))
    have H3 := Lib.hid (H1.out.new b2)
    have B3 := Lib.hid (B1.out.trans (b2.mono B1.out.size))
    have O3 := Lib.hid (show OwnB w3 w.heap.size g3 2 c3 ([68] ++ be l.length 1) from ⟨owns_mono o3.own (Nat.le_trans B1.out.size (by simp)), Nat.le_trans (Nat.le_trans B1.out.size (by simp)) o3.base, o3.lt, o3.cap, o3.max⟩)
    clear o3 b2 b3 H1 B1
    go_wp2
    go_loopw [18, 4] (fun i t wr => ∃ j g n c', i = .int .i64 ((j : Nat) : Int) ∧ t = .slice (some ⟨g, 0, none⟩) n c' ∧ j ≤ l.length ∧ n = 2 + 27 * j ∧ Hid (w.heap.size ≤ w3.heap.size ∧ Below w3.heap.size w3 wr) ∧ Hid (OwnB wr w.heap.size g n c' ([68] ++ be l.length 1 ++ (l.take j).flatMap Ent.text))) (fun i _ _ => l.length - (intOf i).toNat)
    case atStart =>
      refine ⟨0, g3, _, c3, rfl, rfl, Nat.zero_le _, rfl, Lib.hid ⟨B3.out.size, Below.refl _ _⟩, Lib.hid ?_⟩
      have ez : (l.take 0).flatMap Ent.text = [] := rfl
      rw [ez, List.append_nil]
      exact O3.out
    case round =>
      obtain ⟨j, g4, n4, c4, rfl, rfl, hj, rfl, b4, o4⟩ := hrel
      by_cases hlt : j < l.length
      · have hlt' : (j : Int) < (l.length : Int) := by omega
        have j0 : (0 : Int) ≤ (j : Int) := by omega
        have xj := IntWalk.i64_in ((j : Int) + 1) (by omega)
        obtain ⟨b, o, rfl, hbl, c0, c1⟩ := ent_cells (H3.out.new b4.out.2) hlt
        have hme := List.all_eq_true.1 M3.out _ (List.getElem_mem hlt)
        obtain ⟨q1, D, hD, hD1⟩ : l[j].name.length ≤ 24 ∧ ∃ D : Nat, l[j].ino = (D : Int) ∧ D < 512 := by
          unfold Ent.may at hme
          rw [Bool.and_eq_true] at hme
          have := hme.2
          unfold isBlk at this
          have := of_decide_eq_true this
          exact ⟨nameB_len hme.1, l[j].ino.toNat, by omega, by omega⟩
        have TS := Lib.hid (show (l.take (j + 1)).flatMap Ent.text = (l.take j).flatMap Ent.text ++ (be l[j].name.length 1 ++ l[j].name ++ List.replicate (24 - l[j].name.length) 0 ++ be D 2) from by rw [ents_snoc hlt]; unfold Ent.text; rw [hD]; rfl)
        rw [hD] at c1
        clear hD hme
        generalize l[j].name = nm at *
        have x24 := IntWalk.i64_in (24 - (nm.length : Int)) (by omega)
        have hsz : (⟨nm.toArray⟩ : ByteArray).size = nm.length := rfl
        have kW := Lib.hid (Blk.new wr 65 #[.string ⟨nm.toArray⟩, .int .i64 (D : Int)])
        have bW := Lib.hid ((Below.refl wr.heap.size wr).alloc (Nat.le_refl _) (.cells #[.string ⟨nm.toArray⟩, .int .i64 (D : Int)] 65))
        have oW := Lib.hid (o4.out.alloc (.cells #[.string ⟨nm.toArray⟩, .int .i64 (D : Int)] 65))
        have zW := Lib.hid (show (wr.alloc (.cells #[.string ⟨nm.toArray⟩, .int .i64 (D : Int)] 65)).heap.size = wr.heap.size + 1 from by simp)
        go_wp2_with fail
        generalize wr.alloc (.cells #[.string ⟨nm.toArray⟩, .int .i64 (D : Int)] 65) = W at *
        refine (put_any _ _ _ _ nm.length 1 _ oW.out.src (by omega) (by decide) (by decide) (by omega) (by omega)).mono ?_; rintro e w5 ⟨g5, c5, rfl, o5, b5⟩
        have K5 := Lib.hid (kW.out.older (older_below b5))
        have B5 := Lib.hid (bW.out.trans (b5.mono bW.out.size))
        have O5 := Lib.hid o5
        have s5 := Lib.hid b5.size
        clear kW oW b5 o5 c0 c1
        have d0 := K5.out.cell 0
        have d1 := K5.out.cell 1
        simp only [List.getElem?_toArray, List.getElem?_cons_succ, List.getElem?_cons_zero] at d0 d1
        go_wp2_with (refine wpList_append_text rfl _ _ rfl rfl O5.out nm rfl (by omega) (by omega) (by omega) s5.out ?_; refine Hid.out ?_)
        unfold Hid
        intro g6 c6 w6 o6 b6
        have K6 := Lib.hid (show Blk w6 wr.heap.size 65 _ from K5.out.below b6 (by have := zW.out; omega))
        have B6 := Lib.hid (B5.out.trans (b6.mono bW.out.size))
        have O6 := Lib.hid o6
        have s6 := Lib.hid (Nat.le_trans s5.out b6.size)
        clear K5 B5 O5 s5 d0 d1 o6 b6
        have d0 := K6.out.cell 0
        have d1 := K6.out.cell 1
        simp only [List.getElem?_toArray, List.getElem?_cons_succ, List.getElem?_cons_zero] at d0 d1
        have hn6 : 2 + 27 * j + 1 + nm.length ≤ 1000 := by omega
        have hz24 : (24 : Int) - (nm.length : Int) = ((24 - nm.length : Nat) : Int) := by omega
        have hz24' := Lib.hid hz24
        clear hz24
        go_wp2_with (at_builtin; refine wpList_append_zeros rfl _ _ rfl rfl O6.out (24 - nm.length) rfl hz24'.out (by omega) hn6 s6.out ?_; refine Hid.out ?_)
        unfold Hid
        intro g7 c7 w7 o7 b7
        have K7 := Lib.hid (show Blk w7 wr.heap.size 65 _ from K6.out.below b7 (by have := zW.out; omega))
        have B7 := Lib.hid (B6.out.trans (b7.mono bW.out.size))
        have O7 := Lib.hid o7
        have s7 := Lib.hid (Nat.le_trans s6.out b7.size)
        clear K6 B6 O6 s6 d0 d1 o7 b7 hn6 hz24'
        have d0 := K7.out.cell 0
        have d1 := K7.out.cell 1
        simp only [List.getElem?_toArray, List.getElem?_cons_succ, List.getElem?_cons_zero] at d0 d1
        go_wp2_with fail
        refine (put_any _ _ _ _ D 2 _ O7.out.src (by omega) (by decide) (by decide) (by omega) (by omega)).mono ?_; rintro e w8 ⟨g8, c8, rfl, o8, b8⟩
        have O8 := Lib.hid o8
        have B8 := Lib.hid (b4.out.2.trans ((B7.out.trans (b8.mono B7.out.size)).mono b4.out.2.size))
        have S8 := Lib.hid (Nat.le_trans (Nat.le_trans b4.out.1 b4.out.2.size) B7.out.size)
        clear o8 b8 d0 d1 K7 O7
        go_wp2
        go_roundw
        case rel =>
          refine ⟨j + 1, g8, _, c8, by go_num, rfl, by omega, by omega, Lib.hid ⟨b4.out.1, B8.out⟩, Lib.hid ?_⟩
          have o := O8.out
          rw [TS.out]
          simp only [List.append_assoc, List.cons_append, List.nil_append] at o ⊢
          exact ⟨owns_mono o.own S8.out, Nat.le_trans S8.out o.base, o.lt, o.cap, o.max⟩
        case measure => simp [intOf]; omega
      · have hlt' : ¬ (j : Int) < (l.length : Int) := by omega
        obtain rfl : j = l.length := by omega
        have TS := Lib.hid (show [68] ++ be l.length 1 ++ (l.take l.length).flatMap Ent.text = dirT l from by rw [List.take_length]; exact T0.out.symm)
        rw [TS.out] at o4
        go_wp2_with fail
        refine (seal_any _ _ _ _ _ o4.out.src (by omega)).mono ?_; rintro e w5 ⟨g5, c5, rfl, o5, b5⟩
        have SZ := Lib.hid (Nat.le_trans b4.out.1 b4.out.2.size)
        go_wp2
        go_ret2
        refine ⟨B3.out.trans ((b4.out.2.trans (b5.mono b4.out.2.size)).mono b4.out.1), (by intro h; cases h), fun _ => ⟨g5, c5, rfl, ?_⟩⟩
        exact ⟨owns_mono o5.own SZ.out, Nat.le_trans SZ.out o5.base, o5.lt, o5.cap, o5.max⟩
end Go.Proofs.YtjjoohmfeglicaaDoor.In
