/- Layer 11: directories packed. Conditions: those that each states. -/
import Derived.Test.YtefnkednnnlhoaaGreatDoorMAU
namespace Go.Proofs.YtefnkednnnlhoaaGreatDoor.In
open Go.ChangeShapes Go.WideShapes Go.ChangeAt Go.RowKit Go.Deep Fl Rk
set_option linter.unusedVariables false

theorem name_all (l : List UInt8) (w : World) : Calls Tryz.prog 13 #[.string ⟨l.toArray⟩] w fun e w' => e = .returned (.bool (Pt.nameB l)) ∧ Below w.heap.size w w' := by
  by_cases hs : l.length ≤ 1000000000
  · exact Pt.name_any l hs w
  · have hsz : (⟨l.toArray⟩ : ByteArray).size = l.length := rfl
    have g : (l.length : Int) > 24 := by omega
    have EV := Lib.hid (show Pt.nameB l = false from by unfold Pt.nameB; rw [decide_eq_false (by omega)]; rfl)
    have hb := Blk.new w 4 #[.bool false]
    have hc := (hb.cell 0).trans (show _ = some (.bool false) from rfl)
    have hbel := (Below.refl w.heap.size w).alloc (Nat.le_refl _) (.cells #[.bool false] 4)
    have HB := Lib.hid (And.intro hc hbel)
    clear hb hc hbel
    refine callsIn_wide (n := 9).1 ?_
    refine callsIn_of_wp_marks Tryz.func13 rfl trivial ?_ rfl
    simp only [Tryz.ntmps13, List.size_toArray, List.length_cons, List.length_nil, Nat.reduceAdd, Nat.reduceSub, Array.replicate_succ, Array.replicate_zero, List.push_toArray, List.append_toArray, List.nil_append, List.cons_append]
    gi_wp2
    have hc := HB.out.1
    refine ⟨.bool false, ?_, by rw [EV.out], HB.out.2⟩
    simp [results, Tryz.f13, go_sem, hc]

theorem ent_cells {w : World} {A : Option Addr} {c : Nat} {l : List Ent} (h : RowG w 2 A l.length c (ve l)) {j : Nat} (hj : j < l.length) :
    ∃ b o, A = some ⟨b, o, none⟩ ∧ b < w.heap.size ∧ w.cell? ⟨b, o + j * 2, none⟩ = some (.string ⟨l[j].name.toArray⟩) ∧ w.cell? ⟨b, o + j * 2 + 1, none⟩ = some (.int .i64 l[j].ino) := by
  have hl := ve_length l
  obtain ⟨g1, g2⟩ := ve_get l j hj
  obtain ⟨b, o, rfl, hb, c0⟩ := h.cell (j := j * 2) (by omega)
  obtain ⟨b', o', e, _, c1⟩ := h.cell (j := j * 2 + 1) (by omega)
  cases e
  rw [List.getElem?_eq_getElem (by omega)] at g1 g2
  injection g1 with g1
  injection g2 with g2
  rw [g1] at c0
  rw [g2] at c1
  exact ⟨b, o, rfl, hb, c0, by rw [Nat.add_assoc]; exact c1⟩

set_option maxRecDepth 100000 in
theorem mayBeDir_any (A : Option Addr) (c : Nat) (l : List Ent) (w : World) (h : RowG w 2 A l.length c (ve l)) :
    Calls Tryz.prog 122 #[.slice A l.length c] w fun e w' => e = .returned (.bool (dirMay l)) ∧ Below w.heap.size w w' := by
  have hmax : l.length ≤ 9223372036854775807 := Nat.le_trans h.cap h.max
  have H := Lib.hid h
  clear h
  by_cases h1 : l.length < 1
  · have R := Lib.hid (show dirMay l = false from by unfold dirMay; rw [decide_eq_false (by omega)]; rfl)
    have h1' : (l.length : Int) < 1 := by omega
    go_enter Tryz.func122, Tryz.ntmps122
    go_wp2
    go_ret
    exact ⟨by rw [R.out]; rfl, Below.refl _ _⟩
  by_cases h2 : l.length > 8
  · have R := Lib.hid (show dirMay l = false from by unfold dirMay; rw [decide_eq_false (by omega)]; rfl)
    have h1' : ¬ (l.length : Int) < 1 := by omega
    have h2' : (l.length : Int) > 8 := by omega
    go_enter Tryz.func122, Tryz.ntmps122
    go_wp2
    go_ret
    exact ⟨by rw [R.out]; rfl, Below.refl _ _⟩
  have R := Lib.hid (show dirMay l = l.all Ent.may from by unfold dirMay; rw [decide_eq_true (by omega)]; rfl)
  have h1' : ¬ (l.length : Int) < 1 := by omega
  have h2' : ¬ (l.length : Int) > 8 := by omega
  go_enter Tryz.func122, Tryz.ntmps122
  go_wp2
  go_loopw [15] (fun i wr => ∃ j : Nat, j ≤ l.length ∧ i = .int .i64 (j : Int) ∧ Hid ((l.take j).all Ent.may = true) ∧ Hid (Below w.heap.size w wr)) (fun i _ => l.length - (intOf i).toNat)
  case atStart => exact ⟨0, Nat.zero_le _, rfl, Lib.hid rfl, Lib.hid (Below.refl _ _)⟩
  case round =>
    obtain ⟨j, hj, rfl, hq, hbl⟩ := hrel
    by_cases hlt : j < l.length
    · have hlt' : (j : Int) < (l.length : Int) := by omega
      have j0 : (0 : Int) ≤ (j : Int) := by omega
      have xj := IntWalk.i64_in ((j : Int) + 1) (by omega)
      obtain ⟨b, o, rfl, hb, c0, c1⟩ := ent_cells (H.out.new hbl.out) hlt
      have EL := Lib.hid (fun w' (hb : Below wr.heap.size wr w') => hb)
      cases hn : Pt.nameB l[j].name with
      | false =>
        have NO := Lib.hid (all_no (p := Ent.may) hlt (by unfold Ent.may; rw [hn]; rfl))
        go_wp2_with fail
        refine (name_all _ _).mono ?_; rintro e w2 ⟨rfl, b2⟩; rw [hn]
        have B2 := Lib.hid (hbl.out.trans ((((Below.refl wr.heap.size wr).alloc (Nat.le_refl _) _).trans (b2.mono (by simp))).mono hbl.out.size))
        clear b2
        go_wp2
        go_ret
        exact ⟨by rw [R.out, NO.out]; rfl, B2.out⟩
      | true =>
        go_wp2_with fail
        refine (name_all _ _).mono ?_; rintro e w2 ⟨rfl, b2⟩; rw [hn]
        have c2 := ((Blk.new wr 56 #[.string ⟨l[j].name.toArray⟩, .int .i64 l[j].ino]).older (older_below b2)).cell 1
        simp only [List.getElem?_toArray, List.getElem?_cons_succ, List.getElem?_cons_zero] at c2
        have B2 := Lib.hid (hbl.out.trans ((((Below.refl wr.heap.size wr).alloc (Nat.le_refl _) _).trans (b2.mono (by simp))).mono hbl.out.size))
        clear b2
        cases hi : isBlk l[j].ino with
        | false =>
          have NO := Lib.hid (all_no (p := Ent.may) hlt (by unfold Ent.may; rw [hi]; simp))
          go_wp2_with fail
          refine (isBlock_any _ _).mono ?_; rintro e w3 ⟨rfl, rfl⟩; rw [hi]
          go_wp2
          go_ret
          exact ⟨by rw [R.out, NO.out]; rfl, B2.out⟩
        | true =>
          have NEXT : Hid ((l.take (j + 1)).all Ent.may = true) := Lib.hid (by rw [all_take hlt, hq.out]; unfold Ent.may; rw [hn, hi]; rfl)
          go_wp2_with fail
          refine (isBlock_any _ _).mono ?_; rintro e w3 ⟨rfl, rfl⟩; rw [hi]
          go_wp2
          go_roundw
          case rel => exact ⟨j + 1, by omega, by go_num, NEXT, B2⟩
          case measure => simp [intOf]; omega
    · have hlt' : ¬ (j : Int) < (l.length : Int) := by omega
      have ALL : Hid (l.all Ent.may = true) := Lib.hid (by have := hq.out; rwa [List.take_of_length_le (by omega)] at this)
      go_wp2
      go_ret
      exact ⟨by rw [R.out, ALL.out]; rfl, hbl.out⟩

theorem ents_snoc {l : List Ent} {j : Nat} (h : j < l.length) : (l.take (j + 1)).flatMap Ent.text = (l.take j).flatMap Ent.text ++ l[j].text := by
  rw [List.take_succ_eq_append_getElem h, List.flatMap_append]; simp
theorem nameB_len {l : List UInt8} (h : Pt.nameB l = true) : l.length ≤ 24 := by
  unfold Pt.nameB at h
  simp only [Bool.and_eq_true, decide_eq_true_eq] at h
  exact h.1

set_option maxRecDepth 100000 in
theorem packDir_any (A : Option Addr) (c : Nat) (l : List Ent) (w : World) (h : RowG w 2 A l.length c (ve l)) :
    Calls Tryz.prog 82 #[.slice A l.length c] w fun e w' => Packed w w' e (dirMay l) (dirT l) := by
  have H := Lib.hid h
  clear h
  cases hm : dirMay l with
  | false =>
    go_enter Tryz.func82, Tryz.ntmps82
    go_wp2_with fail
    refine (mayBeDir_any A c l _ H.out).mono ?_; rintro e w1 ⟨rfl, b1⟩; rw [hm]
    go_wp2
    go_ret2
    exact ⟨b1, fun _ => rfl, (by intro h; cases h)⟩
  | true =>
    obtain ⟨m1, m2, m3⟩ : 1 ≤ l.length ∧ l.length ≤ 8 ∧ l.all Ent.may = true := by
      unfold dirMay at hm
      simp only [Bool.and_eq_true, decide_eq_true_eq] at hm
      exact ⟨hm.1.1, hm.1.2, hm.2⟩
    have M3 := Lib.hid m3
    have T0 := Lib.hid (show dirT l = [68] ++ be l.length 1 ++ l.flatMap Ent.text from rfl)
    clear m3
    go_enter Tryz.func82, Tryz.ntmps82
    go_wp2_with fail
    refine (mayBeDir_any A c l _ H.out).mono ?_; rintro e w1 ⟨rfl, b1⟩; rw [hm]
    have H1 := Lib.hid (H.out.new b1)
    have B1 := Lib.hid b1
    clear H b1 hm
    have hcv : ∀ W : World, (convert 31 31 (.slice (some ⟨W.heap.size, 0, none⟩) 1 1)).run Tryz.prog (W.alloc (.cells #[.int .u8 68] 5)) = .ok (.slice (some ⟨W.heap.size, 0, none⟩) 1 1) (W.alloc (.cells #[.int .u8 68] 5 (1, 2))) := fun W => conv_fresh #[.int .u8 68] 1 1 W
    go_wp2_with fail
    clear hcv
    refine (put_any _ 1 _ _ l.length 1 _ (marked w1 [68] (by decide)) (by omega) (by decide) (by decide) (by omega) (by omega)).mono ?_; rintro e w3 ⟨g3, c3, rfl, o3, b3⟩
    have b2 : Below w1.heap.size w1 w3 := ((Below.refl w1.heap.size w1).alloc (Nat.le_refl _) _).trans (b3.mono (by simp))
    have H3 := Lib.hid (H1.out.new b2)
    have B3 := Lib.hid (B1.out.trans (b2.mono B1.out.size))
    have O3 := Lib.hid (show OwnB w3 w.heap.size g3 2 c3 ([68] ++ be l.length 1) from ⟨owns_mono o3.own (Nat.le_trans B1.out.size (by simp)), Nat.le_trans (Nat.le_trans B1.out.size (by simp)) o3.base, o3.lt, o3.cap, o3.max⟩)
    clear o3 b2 b3 H1 B1
    go_wp2
    go_loopw [18, 4] (fun i t wr => ∃ j g n c', i = .int .i64 ((j : Nat) : Int) ∧ t = .slice (some ⟨g, 0, none⟩) n c' ∧ j ≤ l.length ∧ n = 2 + 27 * j ∧ Hid (w.heap.size ≤ w3.heap.size ∧ Below w3.heap.size w3 wr) ∧ Hid (OwnB wr w.heap.size g n c' ([68] ++ be l.length 1 ++ (l.take j).flatMap Ent.text))) (fun i _ _ => l.length - (intOf i).toNat)
    case atStart =>
      refine ⟨0, g3, _, c3, rfl, rfl, Nat.zero_le _, rfl, Lib.hid ⟨B3.out.size, Below.refl _ _⟩, Lib.hid ?_⟩
      have ez : (l.take 0).flatMap Ent.text = [] := rfl
      rw [ez, List.append_nil]
      exact O3.out
    case round =>
      obtain ⟨j, g4, n4, c4, rfl, rfl, hj, rfl, b4, o4⟩ := hrel
      by_cases hlt : j < l.length
      · have hlt' : (j : Int) < (l.length : Int) := by omega
        have j0 : (0 : Int) ≤ (j : Int) := by omega
        have xj := IntWalk.i64_in ((j : Int) + 1) (by omega)
        obtain ⟨b, o, rfl, hbl, c0, c1⟩ := ent_cells (H3.out.new b4.out.2) hlt
        have hme := List.all_eq_true.1 M3.out _ (List.getElem_mem hlt)
        obtain ⟨q1, D, hD, hD1⟩ : l[j].name.length ≤ 24 ∧ ∃ D : Nat, l[j].ino = (D : Int) ∧ D < 512 := by
          unfold Ent.may at hme
          rw [Bool.and_eq_true] at hme
          have := hme.2
          unfold isBlk at this
          have := of_decide_eq_true this
          exact ⟨nameB_len hme.1, l[j].ino.toNat, by omega, by omega⟩
        have TS := Lib.hid (show (l.take (j + 1)).flatMap Ent.text = (l.take j).flatMap Ent.text ++ (be l[j].name.length 1 ++ l[j].name ++ List.replicate (24 - l[j].name.length) 0 ++ be D 2) from by rw [ents_snoc hlt]; unfold Ent.text; rw [hD]; rfl)
        rw [hD] at c1
        clear hD hme
        generalize l[j].name = nm at *
        have x24 := IntWalk.i64_in (24 - (nm.length : Int)) (by omega)
        have hsz : (⟨nm.toArray⟩ : ByteArray).size = nm.length := rfl
        have kW := Lib.hid (Blk.new wr 56 #[.string ⟨nm.toArray⟩, .int .i64 (D : Int)])
        have bW := Lib.hid ((Below.refl wr.heap.size wr).alloc (Nat.le_refl _) (.cells #[.string ⟨nm.toArray⟩, .int .i64 (D : Int)] 56))
        have oW := Lib.hid (o4.out.alloc (.cells #[.string ⟨nm.toArray⟩, .int .i64 (D : Int)] 56))
        have zW := Lib.hid (show (wr.alloc (.cells #[.string ⟨nm.toArray⟩, .int .i64 (D : Int)] 56)).heap.size = wr.heap.size + 1 from by simp)
        go_wp2_with fail
        generalize wr.alloc (.cells #[.string ⟨nm.toArray⟩, .int .i64 (D : Int)] 56) = W at *
        refine (put_any _ _ _ _ nm.length 1 _ oW.out.src (by omega) (by decide) (by decide) (by omega) (by omega)).mono ?_; rintro e w5 ⟨g5, c5, rfl, o5, b5⟩
        have K5 := Lib.hid (kW.out.older (older_below b5))
        have B5 := Lib.hid (bW.out.trans (b5.mono bW.out.size))
        have O5 := Lib.hid o5
        have s5 := Lib.hid b5.size
        clear kW oW b5 o5 c0 c1
        have d0 := K5.out.cell 0
        have d1 := K5.out.cell 1
        simp only [List.getElem?_toArray, List.getElem?_cons_succ, List.getElem?_cons_zero] at d0 d1
        go_wp2_with (refine wpList_append_text rfl _ _ rfl rfl O5.out nm rfl (by omega) (by omega) (by omega) s5.out ?_; refine Hid.out ?_)
        unfold Hid
        intro g6 c6 w6 o6 b6
        have K6 := Lib.hid (show Blk w6 wr.heap.size 56 _ from K5.out.below b6 (by have := zW.out; omega))
        have B6 := Lib.hid (B5.out.trans (b6.mono bW.out.size))
        have O6 := Lib.hid o6
        have s6 := Lib.hid (Nat.le_trans s5.out b6.size)
        clear K5 B5 O5 s5 d0 d1 o6 b6
        have d0 := K6.out.cell 0
        have d1 := K6.out.cell 1
        simp only [List.getElem?_toArray, List.getElem?_cons_succ, List.getElem?_cons_zero] at d0 d1
        have hn6 : 2 + 27 * j + 1 + nm.length ≤ 1000 := by omega
        have hz24 : (24 : Int) - (nm.length : Int) = ((24 - nm.length : Nat) : Int) := by omega
        have hz24' := Lib.hid hz24
        clear hz24
        go_wp2_with (at_builtin; refine wpList_append_zeros rfl _ _ rfl rfl O6.out (24 - nm.length) rfl hz24'.out (by omega) hn6 s6.out ?_; refine Hid.out ?_)
        unfold Hid
        intro g7 c7 w7 o7 b7
        have K7 := Lib.hid (show Blk w7 wr.heap.size 56 _ from K6.out.below b7 (by have := zW.out; omega))
        have B7 := Lib.hid (B6.out.trans (b7.mono bW.out.size))
        have O7 := Lib.hid o7
        have s7 := Lib.hid (Nat.le_trans s6.out b7.size)
        clear K6 B6 O6 s6 d0 d1 o7 b7 hn6 hz24'
        have d0 := K7.out.cell 0
        have d1 := K7.out.cell 1
        simp only [List.getElem?_toArray, List.getElem?_cons_succ, List.getElem?_cons_zero] at d0 d1
        go_wp2_with fail
        refine (put_any _ _ _ _ D 2 _ O7.out.src (by omega) (by decide) (by decide) (by omega) (by omega)).mono ?_; rintro e w8 ⟨g8, c8, rfl, o8, b8⟩
        have O8 := Lib.hid o8
        have B8 := Lib.hid (b4.out.2.trans ((B7.out.trans (b8.mono B7.out.size)).mono b4.out.2.size))
        have S8 := Lib.hid (Nat.le_trans (Nat.le_trans b4.out.1 b4.out.2.size) B7.out.size)
        clear o8 b8 d0 d1 K7 O7
        go_wp2
        go_roundw
        case rel =>
          refine ⟨j + 1, g8, _, c8, by go_num, rfl, by omega, by omega, Lib.hid ⟨b4.out.1, B8.out⟩, Lib.hid ?_⟩
          have o := O8.out
          rw [TS.out]
          simp only [List.append_assoc, List.cons_append, List.nil_append] at o ⊢
          exact ⟨owns_mono o.own S8.out, Nat.le_trans S8.out o.base, o.lt, o.cap, o.max⟩
        case measure => simp [intOf]; omega
      · have hlt' : ¬ (j : Int) < (l.length : Int) := by omega
        obtain rfl : j = l.length := by omega
        have TS := Lib.hid (show [68] ++ be l.length 1 ++ (l.take l.length).flatMap Ent.text = dirT l from by rw [List.take_length]; exact T0.out.symm)
        rw [TS.out] at o4
        go_wp2_with fail
        refine (seal_any _ _ _ _ _ o4.out.src (by omega)).mono ?_; rintro e w5 ⟨g5, c5, rfl, o5, b5⟩
        have SZ := Lib.hid (Nat.le_trans b4.out.1 b4.out.2.size)
        go_wp2
        go_ret2
        refine ⟨B3.out.trans ((b4.out.2.trans (b5.mono b4.out.2.size)).mono b4.out.1), (by intro h; cases h), fun _ => ⟨g5, c5, rfl, ?_⟩⟩
        exact ⟨owns_mono o5.own SZ.out, Nat.le_trans SZ.out o5.base, o5.lt, o5.cap, o5.max⟩
end Go.Proofs.YtefnkednnnlhoaaGreatDoor.In

/- Layer 11: files packed. Conditions: those that each states. -/
namespace Go.Proofs.YtefnkednnnlhoaaGreatDoor.In
open Go.ChangeShapes Go.WideShapes Go.ChangeAt Go.RowKit Go.Deep Fl Rk
set_option linter.unusedVariables false

theorem cntB_eq {n : Int} (h : 0 ≤ n) : cntB n = (n + 255) / 256 := Int.tdiv_eq_ediv_of_nonneg (by omega)

set_option maxRecDepth 100000 in
set_option maxHeartbeats 2000000 in
theorem mayBeFile_any (v m q : Int) (A : Option Addr) (c : Nat) (bs : List Int) (A' : Option Addr) (c' : Nat) (ps : List (Nat × Nat)) (w : World) (h : RowG w 1 A bs.length c (vi bs)) (h' : RowG w 1 A' ps.length c' (vp ps)) :
    Calls Tryz.prog 120 #[.agg #[.int .i64 v, .int .i64 m, .int .i64 q, .slice A bs.length c, .slice A' ps.length c']] w fun e w' => e = .returned (.bool (Fil.may ⟨v, m, q, bs, ps⟩)) ∧ Below w.heap.size w w' := by
  have hmax : bs.length ≤ 9223372036854775807 := Nat.le_trans h.cap h.max
  have hmax' : ps.length ≤ 9223372036854775807 := Nat.le_trans h'.cap h'.max
  have B0 := Lib.hid ((Below.refl w.heap.size w).alloc (Nat.le_refl _) (.cells #[.int .i64 v, .int .i64 m, .int .i64 q, .slice A bs.length c, .slice A' ps.length c'] 27))
  have H := Lib.hid (h.new B0.out)
  have H' := Lib.hid (h'.new B0.out)
  clear h h'
  cases h1 : mayCnt v with
  | false =>
    have R := Lib.hid (show Fil.may ⟨v, m, q, bs, ps⟩ = false from by unfold Fil.may Fil.head; dsimp only; rw [h1]; rfl)
    go_enter Tryz.func120, Tryz.ntmps120
    go_wp2_with fail
    refine (mayCount_any _ _).mono ?_; rintro e w' ⟨rfl, rfl⟩; rw [h1]
    go_wp2
    go_ret
    exact ⟨by rw [R.out]; rfl, B0.out⟩
    
  | true =>
    by_cases g0 : m < 0
    · have R := Lib.hid (show Fil.may ⟨v, m, q, bs, ps⟩ = false from by unfold Fil.may Fil.head; dsimp only; rw [show decide (0 ≤ m ∧ m ≤ 253402300799) = false from decide_eq_false (by omega)]; simp)
      go_enter Tryz.func120, Tryz.ntmps120
      go_wp2_with fail
      refine (mayCount_any _ _).mono ?_; rintro e w' ⟨rfl, rfl⟩; rw [h1]
      go_wp2
      go_ret
      exact ⟨by rw [R.out]; rfl, B0.out⟩
      
    by_cases g1 : m > 253402300799
    · have R := Lib.hid (show Fil.may ⟨v, m, q, bs, ps⟩ = false from by unfold Fil.may Fil.head; dsimp only; rw [show decide (0 ≤ m ∧ m ≤ 253402300799) = false from decide_eq_false (by omega)]; simp)
      go_enter Tryz.func120, Tryz.ntmps120
      go_wp2_with fail
      refine (mayCount_any _ _).mono ?_; rintro e w' ⟨rfl, rfl⟩; rw [h1]
      go_wp2
      go_ret
      exact ⟨by rw [R.out]; rfl, B0.out⟩
      
    by_cases g2 : q < 0
    · have R := Lib.hid (show Fil.may ⟨v, m, q, bs, ps⟩ = false from by unfold Fil.may Fil.head; dsimp only; rw [show decide (0 ≤ q ∧ q ≤ 8192) = false from decide_eq_false (by omega)]; simp)
      go_enter Tryz.func120, Tryz.ntmps120
      go_wp2_with fail
      refine (mayCount_any _ _).mono ?_; rintro e w' ⟨rfl, rfl⟩; rw [h1]
      go_wp2
      go_ret
      exact ⟨by rw [R.out]; rfl, B0.out⟩
      
    by_cases g3 : q > 8192
    · have R := Lib.hid (show Fil.may ⟨v, m, q, bs, ps⟩ = false from by unfold Fil.may Fil.head; dsimp only; rw [show decide (0 ≤ q ∧ q ≤ 8192) = false from decide_eq_false (by omega)]; simp)
      go_enter Tryz.func120, Tryz.ntmps120
      go_wp2_with fail
      refine (mayCount_any _ _).mono ?_; rintro e w' ⟨rfl, rfl⟩; rw [h1]
      go_wp2
      go_ret
      exact ⟨by rw [R.out]; rfl, B0.out⟩
      
    have hhead : Fil.head ⟨v, m, q, bs, ps⟩ = true := by unfold Fil.head; dsimp only; rw [h1, decide_eq_true (by omega), decide_eq_true (by omega)]; rfl
    have hc0 : cntB q = (q + 255) / 256 := cntB_eq (by omega)
    by_cases g5 : (bs.length : Int) = cntB q
    · by_cases g6 : (ps.length : Int) = cntB q
      · cases h8 : bs.all isBlk with
        | false =>
          have R := Lib.hid (show Fil.may ⟨v, m, q, bs, ps⟩ = false from by unfold Fil.may; rw [hhead]; dsimp only; rw [h8]; simp)
          go_enter Tryz.func120, Tryz.ntmps120
          go_wp2_with fail
          refine (mayCount_any _ _).mono ?_; rintro e w' ⟨rfl, rfl⟩; rw [h1]
          go_wp2_with fail
          refine (blocksOf_any q _ (by omega) (by omega)).mono ?_; rintro e w' ⟨rfl, rfl⟩
          go_wp2_with fail
          refine (areBlocks_any A c bs _ H.out).mono ?_; rintro e w' ⟨rfl, rfl⟩; rw [h8]
          go_wp2
          go_ret
          exact ⟨by rw [R.out]; rfl, B0.out⟩
          
        | true =>
          have R := Lib.hid (show Fil.may ⟨v, m, q, bs, ps⟩ = ps.all isP from by unfold Fil.may; rw [hhead]; dsimp only; rw [h8, decide_eq_true g5, decide_eq_true g6]; rfl)
          go_enter Tryz.func120, Tryz.ntmps120
          go_wp2_with fail
          refine (mayCount_any _ _).mono ?_; rintro e w' ⟨rfl, rfl⟩; rw [h1]
          go_wp2_with fail
          refine (blocksOf_any q _ (by omega) (by omega)).mono ?_; rintro e w' ⟨rfl, rfl⟩
          go_wp2_with fail
          refine (areBlocks_any A c bs _ H.out).mono ?_; rintro e w' ⟨rfl, rfl⟩; rw [h8]
          go_wp2_with fail
          refine (areParts_any A' c' ps _ H'.out).mono ?_; rintro e w' ⟨rfl, rfl⟩
          go_wp2
          go_ret
          exact ⟨by rw [R.out]; rfl, B0.out⟩
          
      · have R := Lib.hid (show Fil.may ⟨v, m, q, bs, ps⟩ = false from by unfold Fil.may; rw [hhead]; dsimp only; rw [decide_eq_false g6]; simp)
        go_enter Tryz.func120, Tryz.ntmps120
        go_wp2_with fail
        refine (mayCount_any _ _).mono ?_; rintro e w' ⟨rfl, rfl⟩; rw [h1]
        go_wp2_with fail
        refine (blocksOf_any q _ (by omega) (by omega)).mono ?_; rintro e w' ⟨rfl, rfl⟩
        go_wp2
        go_ret
        exact ⟨by rw [R.out]; rfl, B0.out⟩
        
    · have R := Lib.hid (show Fil.may ⟨v, m, q, bs, ps⟩ = false from by unfold Fil.may; rw [hhead]; dsimp only; rw [decide_eq_false g5]; simp)
      go_enter Tryz.func120, Tryz.ntmps120
      go_wp2_with fail
      refine (mayCount_any _ _).mono ?_; rintro e w' ⟨rfl, rfl⟩; rw [h1]
      go_wp2_with fail
      refine (blocksOf_any q _ (by omega) (by omega)).mono ?_; rintro e w' ⟨rfl, rfl⟩
      go_wp2
      go_ret
      exact ⟨by rw [R.out]; rfl, B0.out⟩
      

theorem toN_rep {x : Nat} {n : Nat} (h : Rep (Ieee.double.read x) (n : Int)) : toN x = n := by
  unfold toN; rw [toInt_rep .zero h]; rfl
theorem trips_snoc : ∀ (bs : List Int) (ps : List (Nat × Nat)) (j : Nat) (h : j < bs.length) (h' : j < ps.length), trips (bs.take (j + 1)) (ps.take (j + 1)) = trips (bs.take j) (ps.take j) ++ trip bs[j] ps[j]
  | b :: bs, p :: ps, 0, _, _ => by simp [trips]
  | b :: bs, p :: ps, j + 1, h, h' => by
    have := trips_snoc bs ps j (by simpa using h) (by simpa using h')
    simp only [List.take_succ_cons, trips, this, List.append_assoc, List.getElem_cons_succ]

set_option maxRecDepth 100000 in
set_option maxHeartbeats 2000000 in
theorem packFile_any (v m q : Int) (A : Option Addr) (c : Nat) (bs : List Int) (A' : Option Addr) (c' : Nat) (ps : List (Nat × Nat)) (w : World) (h : RowG w 1 A bs.length c (vi bs)) (h' : RowG w 1 A' ps.length c' (vp ps)) :
    Calls Tryz.prog 80 #[.agg #[.int .i64 v, .int .i64 m, .int .i64 q, .slice A bs.length c, .slice A' ps.length c']] w fun e w' => Packed w w' e (Fil.may ⟨v, m, q, bs, ps⟩) (filT ⟨v, m, q, bs, ps⟩) := by
  have B0 := Lib.hid ((Below.refl w.heap.size w).alloc (Nat.le_refl _) (.cells #[.int .i64 v, .int .i64 m, .int .i64 q, .slice A bs.length c, .slice A' ps.length c'] 27))
  have HK := Lib.hid (Blk.new w 27 #[.int .i64 v, .int .i64 m, .int .i64 q, .slice A bs.length c, .slice A' ps.length c'])
  have H := Lib.hid (h.new B0.out)
  have H' := Lib.hid (h'.new B0.out)
  clear h h'
  cases hm : Fil.may ⟨v, m, q, bs, ps⟩ with
  | false =>
    go_enter Tryz.func80, Tryz.ntmps80
    go_wp2_with fail
    refine (mayBeFile_any v m q A c bs A' c' ps _ H.out H'.out).mono ?_; rintro e w1 ⟨rfl, b1⟩; rw [hm]
    go_wp2
    go_ret2
    exact ⟨B0.out.trans (b1.mono B0.out.size), fun _ => rfl, (by intro h; cases h)⟩
  | true =>
    obtain ⟨m1, m2, m3, m4, m5, m6, m7⟩ : mayCnt v = true ∧ (0 ≤ m ∧ m ≤ 253402300799) ∧ (0 ≤ q ∧ q ≤ 8192) ∧ (bs.length : Int) = cntB q ∧ (ps.length : Int) = cntB q ∧ bs.all isBlk = true ∧ ps.all isP = true := by
      unfold Fil.may Fil.head at hm
      simp only [Bool.and_eq_true, decide_eq_true_eq] at hm
      exact ⟨hm.1.1.1, hm.1.1.2, hm.1.2, hm.2.1.1.1, hm.2.1.1.2, hm.2.1.2, hm.2.2⟩
    have m1 := of_decide_eq_true (show decide (1 ≤ v ∧ v ≤ 1073741824) = true from m1)
    obtain ⟨V, rfl, hV⟩ : ∃ V : Nat, v = (V : Int) ∧ V ≤ 1073741824 := ⟨v.toNat, by omega, by omega⟩
    obtain ⟨M, rfl, hM⟩ : ∃ M : Nat, m = (M : Int) ∧ M ≤ 253402300799 := ⟨m.toNat, by omega, by omega⟩
    obtain ⟨L, rfl, hL⟩ : ∃ L : Nat, q = (L : Int) ∧ L ≤ 8192 := ⟨q.toNat, by omega, by omega⟩
    have hc0 := cntB_eq m3.1
    have hlb : bs.length ≤ 32 := by omega
    have HLP := Lib.hid (show ps.length = bs.length from by omega)
    have M6 := Lib.hid m6
    have M7 := Lib.hid m7
    have T0 := Lib.hid (show filT ⟨V, M, L, bs, ps⟩ = [70] ++ be V 4 ++ be M 8 ++ be L 2 ++ trips bs ps from rfl)
    clear m1 m2 m3 m4 m5 m6 m7 hc0
    go_enter Tryz.func80, Tryz.ntmps80
    go_wp2_with fail
    refine (mayBeFile_any (V : Int) (M : Int) (L : Int) A c bs A' c' ps _ H.out H'.out).mono ?_; rintro e w1 ⟨rfl, b1⟩; rw [hm]
    have K1 := Lib.hid (HK.out.older (older_below b1))
    have H1 := Lib.hid (H.out.new b1)
    have G1 := Lib.hid (H'.out.new b1)
    have B1 := Lib.hid (B0.out.trans (b1.mono B0.out.size))
    clear H H' HK B0 b1 hm
    have hcv : ∀ W : World, (convert 31 31 (.slice (some ⟨W.heap.size, 0, none⟩) 1 1)).run Tryz.prog (W.alloc (.cells #[.int .u8 70] 5)) = .ok (.slice (some ⟨W.heap.size, 0, none⟩) 1 1) (W.alloc (.cells #[.int .u8 70] 5 (1, 2))) := fun W => conv_fresh #[.int .u8 70] 1 1 W
    have k2 := (K1.out.alloc (.cells #[.int .u8 70] 5 (1, 2))).cell 0
    simp only [List.getElem?_toArray, List.getElem?_cons_zero] at k2
    go_wp2_with fail
    clear hcv k2
    refine (put_any _ 1 _ _ V 4 _ (marked w1 [70] (by decide)) (by omega) (by decide) (by decide) (by omega) (by omega)).mono ?_; rintro e w2 ⟨g2, c2, rfl, o2, b2⟩
    have b2' : Below w1.heap.size w1 w2 := ((Below.refl w1.heap.size w1).alloc (Nat.le_refl _) _).trans (b2.mono (by simp))
    have K2 := Lib.hid (K1.out.older (older_below b2'))
    have B2 := Lib.hid (B1.out.trans (b2'.mono B1.out.size))
    have b12 := Lib.hid b2'
    have O2 := Lib.hid o2
    clear b2 b2' o2 K1
    have k1 := K2.out.cell 1
    simp only [List.getElem?_toArray, List.getElem?_cons_succ, List.getElem?_cons_zero] at k1
    go_wp2_with fail
    refine (put_any _ _ _ _ M 8 _ O2.out.src (by omega) (by decide) (by decide) (by omega) (by omega)).mono ?_; rintro e w3 ⟨g3, c3, rfl, o3, b3⟩
    have K3 := Lib.hid (K2.out.older (older_below b3))
    have B3 := Lib.hid (B2.out.trans (b3.mono B2.out.size))
    have b13 := Lib.hid (b12.out.trans (b3.mono b12.out.size))
    have O3 := Lib.hid o3
    clear o3 b3 k1 K2 O2 b12
    have k1 := K3.out.cell 2
    simp only [List.getElem?_toArray, List.getElem?_cons_succ, List.getElem?_cons_zero] at k1
    go_wp2_with fail
    refine (put_any _ _ _ _ L 2 _ O3.out.src (by omega) (by decide) (by decide) (by omega) (by omega)).mono ?_; rintro e w4 ⟨g4, c4, rfl, o4, b4⟩
    have K4 := Lib.hid (K3.out.older (older_below b4))
    have B4 := Lib.hid (B3.out.trans (b4.mono B3.out.size))
    have b14 := b13.out.trans (b4.mono b13.out.size)
    have H4 := Lib.hid (H1.out.new b14)
    have G4 := Lib.hid (G1.out.new b14)
    have O4 := Lib.hid (show OwnB w4 w.heap.size g4 15 c4 ([70] ++ be V 4 ++ be M 8 ++ be L 2) from ⟨owns_mono o4.own B3.out.size, Nat.le_trans B3.out.size o4.base, o4.lt, o4.cap, o4.max⟩)
    clear o4 b4 k1 K3 O3 b13 b14 H1 G1 B1 B2 B3
    have k1 := K4.out.cell 3
    have k4 := K4.out.cell 4
    simp only [List.getElem?_toArray, List.getElem?_cons_succ, List.getElem?_cons_zero] at k1 k4
    go_wp2
    clear k1 k4
    go_loopw [27, 4] (fun i t wr => ∃ j g n c', i = .int .i64 ((j : Nat) : Int) ∧ t = .slice (some ⟨g, 0, none⟩) n c' ∧ j ≤ bs.length ∧ n = 15 + 6 * j ∧ Hid (w.heap.size ≤ w4.heap.size ∧ Below w4.heap.size w4 wr) ∧ Hid (OwnB wr w.heap.size g n c' ([70] ++ be V 4 ++ be M 8 ++ be L 2 ++ trips (bs.take j) (ps.take j)))) (fun i _ _ => bs.length - (intOf i).toNat)
    case atStart =>
      refine ⟨0, g4, _, c4, rfl, rfl, Nat.zero_le _, rfl, Lib.hid ⟨B4.out.size, Below.refl _ _⟩, Lib.hid ?_⟩
      have ez : trips (bs.take 0) (ps.take 0) = [] := rfl
      rw [ez, List.append_nil]
      exact O4.out
    case round =>
      obtain ⟨j, g4, n4, c4, rfl, rfl, hj, rfl, b5, o5⟩ := hrel
      by_cases hlt : j < bs.length
      · have hlt' : (j : Int) < (bs.length : Int) := by omega
        have hltp : j < ps.length := by have := HLP.out; omega
        have hltp' : (j : Int) < (ps.length : Int) := by omega
        have j0 : (0 : Int) ≤ (j : Int) := by omega
        have xj := IntWalk.i64_in ((j : Int) + 1) (by omega)
        have K5 := Lib.hid (K4.out.older (older_below b5.out.2))
        obtain ⟨b, o, rfl, hbl, c0⟩ := (H4.out.new b5.out.2).cell (j := j) (by simpa [vi] using hlt)
        obtain ⟨b', o', rfl, hbl', c1⟩ := (G4.out.new b5.out.2).cell (j := j) (by simpa [vp] using hltp)
        simp only [vi, vp, List.getElem_map] at c0 c1
        obtain ⟨D, hD, hD1⟩ : ∃ D : Nat, bs[j] = (D : Int) ∧ D < 512 := by
          have := List.all_eq_true.1 M6.out _ (List.getElem_mem hlt)
          unfold isBlk at this
          have := of_decide_eq_true this
          exact ⟨bs[j].toNat, by omega, by omega⟩
        obtain ⟨x, hx, y, hy, hX, hY⟩ : ∃ x, x ≤ 65535 ∧ ∃ y, y ≤ 65535 ∧ Rep (Ieee.double.read ps[j].1) ((x : Nat) : Int) ∧ Rep (Ieee.double.read ps[j].2) ((y : Nat) : Int) := by
          have := List.all_eq_true.1 M7.out _ (List.getElem_mem hltp)
          unfold isP at this
          rw [Bool.and_eq_true] at this
          obtain ⟨x, hx, hX⟩ := isW_form this.1
          obtain ⟨y, hy, hY⟩ := isW_form this.2
          exact ⟨x, hx, y, hy, hX, hY⟩
        have TS := Lib.hid (show trips (bs.take (j + 1)) (ps.take (j + 1)) = trips (bs.take j) (ps.take j) ++ (be D 2 ++ (be x 2 ++ be y 2)) from by rw [trips_snoc bs ps j hlt hltp]; unfold trip; rw [hD, toN_rep hX, toN_rep hY]; rfl)
        rw [hD] at c0
        have cx := fun w => run_convert_float_int (P := Tryz.prog) w 218 3 .f64 .i64 ps[j].1 x (by kernel_rfl) Tryz.underlying3 (toInt64 hX (by omega) (by omega))
        have cy := fun w => run_convert_float_int (P := Tryz.prog) w 218 3 .f64 .i64 ps[j].2 y (by kernel_rfl) Tryz.underlying3 (toInt64 hY (by omega) (by omega))
        clear hD hX hY
        generalize ps[j].1 = X at *
        generalize ps[j].2 = Y at *
        go_wp2_with fail
        refine (put_any _ _ _ _ D 2 _ o5.out.src (by omega) (by decide) (by decide) (by omega) (by omega)).mono ?_; rintro e w6 ⟨g6, c6, rfl, o6, b6⟩
        have K6 := Lib.hid (K5.out.older (older_below b6))
        have B6 := Lib.hid (b5.out.2.trans (b6.mono b5.out.2.size))
        have O6 := Lib.hid o6
        have d1 := (World.cell?_of_block (w := wr) (w' := w6) (a := ⟨b', o' + j, none⟩) (b6.block b' hbl')).trans c1
        have k4 := K6.out.cell 4
        simp only [List.getElem?_toArray, List.getElem?_cons_succ, List.getElem?_cons_zero] at k4
        have hbl6 := Nat.lt_of_lt_of_le hbl' b6.size
        clear o6 b6 c0 c1 K5 hbl hbl'
        go_wp2_with fail
        refine (put_any _ _ _ _ x 2 _ O6.out.src (by omega) (by decide) (by decide) (by omega) (by omega)).mono ?_; rintro e w7 ⟨g7, c7, rfl, o7, b7⟩
        have K7 := Lib.hid (K6.out.older (older_below b7))
        have B7 := Lib.hid (B6.out.trans (b7.mono B6.out.size))
        have O7 := Lib.hid o7
        have d2 := (World.cell?_of_block (w := w6) (w' := w7) (a := ⟨b', o' + j, none⟩) (b7.block b' hbl6)).trans d1
        clear k4
        have k4 := K7.out.cell 4
        simp only [List.getElem?_toArray, List.getElem?_cons_succ, List.getElem?_cons_zero] at k4
        clear o7 b7 d1 K6 hbl6 O6 cx
        go_wp2_with fail
        refine (put_any _ _ _ _ y 2 _ O7.out.src (by omega) (by decide) (by decide) (by omega) (by omega)).mono ?_; rintro e w8 ⟨g8, c8, rfl, o8, b8⟩
        have O8 := Lib.hid o8
        have B8 := Lib.hid (B7.out.trans (b8.mono B7.out.size))
        have S8 := Lib.hid (Nat.le_trans b5.out.1 B7.out.size)
        clear o8 b8 d2 k4 cy O7 K7
        go_wp2
        go_roundw
        case rel =>
          refine ⟨j + 1, g8, _, c8, by go_num, rfl, by omega, by omega, Lib.hid ⟨b5.out.1, B8.out⟩, Lib.hid ?_⟩
          have o := O8.out
          rw [TS.out]
          simp only [List.append_assoc, List.cons_append, List.nil_append] at o ⊢
          exact ⟨owns_mono o.own S8.out, Nat.le_trans S8.out o.base, o.lt, o.cap, o.max⟩
        case measure => simp [intOf]; omega
      · have hlt' : ¬ (j : Int) < (bs.length : Int) := by omega
        obtain rfl : j = bs.length := by omega
        have TS := Lib.hid (show [70] ++ be V 4 ++ be M 8 ++ be L 2 ++ trips (bs.take bs.length) (ps.take bs.length) = filT ⟨V, M, L, bs, ps⟩ from by have hl := HLP.out; rw [List.take_length, List.take_of_length_le (by omega)]; exact T0.out.symm)
        rw [TS.out] at o5
        go_wp2_with fail
        refine (seal_any _ _ _ _ _ o5.out.src (by omega)).mono ?_; rintro e w6 ⟨g6, c6, rfl, o6, b6⟩
        have SZ := Lib.hid (Nat.le_trans b5.out.1 b5.out.2.size)
        go_wp2
        go_ret2
        refine ⟨B4.out.trans ((b5.out.2.trans (b6.mono b5.out.2.size)).mono b5.out.1), (by intro h; cases h), fun _ => ⟨g6, c6, rfl, ?_⟩⟩
        exact ⟨owns_mono o6.own SZ.out, Nat.le_trans SZ.out o6.base, o6.lt, o6.cap, o6.max⟩
end Go.Proofs.YtefnkednnnlhoaaGreatDoor.In
