/- Layer 11: numbers, words, lists of blocks and of parts, put. Conditions: those that each states. -/
import Derived.Test.YtefnkednnnlhoaaGreatDoorMAS
import Derived.Test.YtefnkednnnlhoaaGreatDoorPa3
import Derived.Laws.IdiomStrings
import Derived.Laws.BytesString
import Derived.Laws.BytesArg
import Derived.Test.YtefnkednnnlhoaaGreatDoorMAB
namespace Go.Proofs.YtefnkednnnlhoaaGreatDoor.In
open Go.ChangeShapes Go.WideShapes Go.ChangeAt Go.RowKit Go.Deep Fl Rk
set_option linter.unusedVariables false

theorem isBlock_any (b : Int) (w : World) : Calls Tryz.prog 145 #[.int .i64 b] w fun e w' => e = .returned (.bool (isBlk b)) ∧ w' = w := by
  unfold isBlk
  by_cases h1 : b ≥ 2
  · by_cases h2 : b < 512
    · rw [decide_eq_true ⟨h1, h2⟩]
      go_enter Tryz.func145, Tryz.ntmps145
      go_wp2
      go_ret
      exact ⟨rfl, rfl⟩
    · rw [decide_eq_false (by omega)]
      go_enter Tryz.func145, Tryz.ntmps145
      go_wp2
      go_ret
      exact ⟨rfl, rfl⟩
  · rw [decide_eq_false (by omega)]
    go_enter Tryz.func145, Tryz.ntmps145
    go_wp2
    go_ret
    exact ⟨rfl, rfl⟩
theorem mayCount_any (b : Int) (w : World) : Calls Tryz.prog 129 #[.int .i64 b] w fun e w' => e = .returned (.bool (mayCnt b)) ∧ w' = w := by
  unfold mayCnt
  by_cases h1 : b ≥ 1
  · by_cases h2 : b ≤ 1073741824
    · rw [decide_eq_true ⟨h1, h2⟩]
      go_enter Tryz.func129, Tryz.ntmps129
      go_wp2
      go_ret
      exact ⟨rfl, rfl⟩
    · rw [decide_eq_false (by omega)]
      go_enter Tryz.func129, Tryz.ntmps129
      go_wp2
      go_ret
      exact ⟨rfl, rfl⟩
  · rw [decide_eq_false (by omega)]
    go_enter Tryz.func129, Tryz.ntmps129
    go_wp2
    go_ret
    exact ⟨rfl, rfl⟩

theorem trunc_run (x : Nat) (w : World) (h : ∃ s m p, Ieee.double.read x = .number s m p) :
    (callFunc 169 #[.float .f64 x]).run Tryz.prog w = .ok (.value (.float .f64 (truncB x))) w := by
  obtain ⟨s, m, p, hr⟩ := h
  have hd : FloatKind.f64.decode x = .number s m p := hr
  have he : Extern.find Tryz.f169 = some (Extern.MathFloor.toIntegral "math.archTrunc" .zero) := by kernel_rfl
  rw [run_callFunc_extern Tryz.func169 (by kernel_rfl) (by kernel_rfl) (by kernel_rfl) he]
  have : (Extern.MathFloor.toIntegral "math.archTrunc" .zero #[.float .f64 x]).run Tryz.prog w = .ok (.float .f64 (truncB x)) w := by
    unfold truncB
    rw [hr]
    show Sem.run Tryz.prog (match FloatKind.f64.decode x with
      | .nan s t =>
        if FloatKind.f64.format.quiet t = t then pure (Value.float .f64 x) else do
        let kept ← choose (.extern "math.Floor,Ceil,Trunc,RoundToEven.signallingNaN kept" 2)
        pure (Value.float .f64 (if kept == 1 then x else FloatKind.f64.encode (.nan s (FloatKind.f64.format.quiet t))))
      | d => pure (Value.float .f64 (FloatKind.f64.encode (d.integral .zero)))) w = _
    rw [hd]
    rfl
  rw [this]; rfl
theorem trunc_any (x : Nat) (w : World) (h : ∃ s m p, Ieee.double.read x = .number s m p) :
    Calls Tryz.prog 167 #[.float .f64 x] w fun e w' => e = .returned (.float .f64 (truncB x)) ∧ w = w' := by
  have ha := fun w => trunc_run x w h
  go_enter Tryz.func167, Tryz.ntmps167
  go_wp2
  go_ret
  exact ⟨rfl, rfl⟩
theorem isWord_any (x : Nat) (w : World) : Calls Tryz.prog 162 #[.float .f64 x] w fun e w' => e = .returned (.bool (isW x)) ∧ w' = w := by
  by_cases h1 : geZ x = true
  · by_cases h2 : le16 x = true
    · have hf : ∃ s m p, Ieee.double.read x = .number s m p := by
        obtain ⟨s, m, k, hr, _⟩ := small_form16 h1 h2
        exact ⟨s, m, _, hr⟩
      have hw : isW x = (Ieee.double.order x (truncB x) == some .eq) := by unfold isW; rw [h1, h2]; rfl
      rw [hw]
      clear hw
      have g1 : (FloatKind.f64.format.order x 0 == some .gt || FloatKind.f64.format.order x 0 == some .eq) = true := h1
      have g2 : (FloatKind.f64.format.order x 4679239875398991872 == some .lt || FloatKind.f64.format.order x 4679239875398991872 == some .eq) = true := h2
      clear h1 h2
      go_enter Tryz.func162, Tryz.ntmps162
      go_wp2_with (go_at_call 167; refine (trunc_any _ _ (by assumption)).mono ?_; rintro e w' ⟨rfl, rfl⟩)
      go_ret
      exact ⟨rfl, rfl⟩
    · have hw : isW x = false := by unfold isW; rw [Bool.eq_false_iff.2 h2]; simp
      rw [hw]
      have g1 : (FloatKind.f64.format.order x 0 == some .gt || FloatKind.f64.format.order x 0 == some .eq) = true := h1
      have g2 : (FloatKind.f64.format.order x 4679239875398991872 == some .lt || FloatKind.f64.format.order x 4679239875398991872 == some .eq) = false := Bool.eq_false_iff.2 h2
      clear h1 h2 hw
      go_enter Tryz.func162, Tryz.ntmps162
      go_wp2
      go_ret
      exact ⟨rfl, rfl⟩
  · have hw : isW x = false := by unfold isW; rw [Bool.eq_false_iff.2 h1]; simp
    rw [hw]
    have g1 : (FloatKind.f64.format.order x 0 == some .gt || FloatKind.f64.format.order x 0 == some .eq) = false := Bool.eq_false_iff.2 h1
    clear h1 hw
    go_enter Tryz.func162, Tryz.ntmps162
    go_wp2
    go_ret
    exact ⟨rfl, rfl⟩

theorem all_take {α : Type} {p : α → Bool} {l : List α} {j : Nat} (h : j < l.length) : (l.take (j + 1)).all p = ((l.take j).all p && p l[j]) := by
  rw [List.take_succ_eq_append_getElem h, List.all_append]; simp
theorem all_no {α : Type} {p : α → Bool} {l : List α} {j : Nat} (h : j < l.length) (hp : p l[j] = false) : l.all p = false := by
  rw [Bool.eq_false_iff]
  intro ha
  rw [List.all_eq_true] at ha
  rw [ha _ (List.getElem_mem h)] at hp
  cases hp

theorem areBlocks_any (A : Option Addr) (c : Nat) (l : List Int) (w : World) (h : RowG w 1 A l.length c (vi l)) :
    Calls Tryz.prog 130 #[.slice A l.length c] w fun e w' => e = .returned (.bool (l.all isBlk)) ∧ w' = w := by
  have hmax : l.length ≤ 9223372036854775807 := Nat.le_trans h.cap h.max
  have H := Lib.hid h
  clear h
  go_enter Tryz.func130, Tryz.ntmps130
  go_wp2
  go_loopw [7] (fun i wr => ∃ j : Nat, j ≤ l.length ∧ i = .int .i64 (j : Int) ∧ Hid ((l.take j).all isBlk = true) ∧ wr = w) (fun i _ => l.length - (intOf i).toNat)
  case atStart => exact ⟨0, Nat.zero_le _, rfl, Lib.hid rfl, rfl⟩
  case round =>
    obtain ⟨j, hj, rfl, hq, rfl⟩ := hrel
    by_cases hlt : j < l.length
    · have hlt' : (j : Int) < (l.length : Int) := by omega
      have j0 : (0 : Int) ≤ (j : Int) := by omega
      have xj := IntWalk.i64_in ((j : Int) + 1) (by omega)
      obtain ⟨b, o, rfl, hbl, c0⟩ := H.out.cell (j := j) (by simpa [vi] using hlt)
      simp only [vi, List.getElem_map] at c0
      cases hb : isBlk l[j] with
      | true =>
        have NEXT : Hid ((l.take (j + 1)).all isBlk = true) := Lib.hid (by rw [all_take hlt, hq.out, hb]; rfl)
        go_wp2_with (go_at_call 145; refine (isBlock_any _ _).mono ?_; rintro e w' ⟨rfl, rfl⟩; rw [hb])
        go_roundw
        case rel => exact ⟨j + 1, by omega, by go_num, NEXT, by first | trivial | rfl⟩
        case measure => simp [intOf]; omega
      | false =>
        have NO := Lib.hid (all_no hlt hb)
        go_wp2_with (go_at_call 145; refine (isBlock_any _ _).mono ?_; rintro e w' ⟨rfl, rfl⟩; rw [hb])
        go_ret
        exact ⟨by rw [NO.out]; rfl, rfl⟩
    · have hlt' : ¬ (j : Int) < (l.length : Int) := by omega
      have ALL : Hid (l.all isBlk = true) := Lib.hid (by have := hq.out; rwa [List.take_of_length_le (by omega)] at this)
      go_wp2
      go_ret
      exact ⟨by rw [ALL.out]; rfl, rfl⟩
theorem areParts_any (A : Option Addr) (c : Nat) (l : List (Nat × Nat)) (w : World) (h : RowG w 1 A l.length c (vp l)) :
    Calls Tryz.prog 144 #[.slice A l.length c] w fun e w' => e = .returned (.bool (l.all isP)) ∧ w' = w := by
  have hmax : l.length ≤ 9223372036854775807 := Nat.le_trans h.cap h.max
  have H := Lib.hid h
  clear h
  go_enter Tryz.func144, Tryz.ntmps144
  go_wp2
  go_loopw [7] (fun i wr => ∃ j : Nat, j ≤ l.length ∧ i = .int .i64 (j : Int) ∧ Hid ((l.take j).all isP = true) ∧ wr = w) (fun i _ => l.length - (intOf i).toNat)
  case atStart => exact ⟨0, Nat.zero_le _, rfl, Lib.hid rfl, rfl⟩
  case round =>
    obtain ⟨j, hj, rfl, hq, rfl⟩ := hrel
    by_cases hlt : j < l.length
    · have hlt' : (j : Int) < (l.length : Int) := by omega
      have j0 : (0 : Int) ≤ (j : Int) := by omega
      have xj := IntWalk.i64_in ((j : Int) + 1) (by omega)
      obtain ⟨b, o, rfl, hbl, c0⟩ := H.out.cell (j := j) (by simpa [vp] using hlt)
      simp only [vp, List.getElem_map] at c0
      cases hb : isW l[j].1 with
      | true =>
        cases hb2 : isW l[j].2 with
        | true =>
          have NEXT : Hid ((l.take (j + 1)).all isP = true) := Lib.hid (by rw [all_take hlt, hq.out]; unfold isP; rw [hb, hb2]; rfl)
          go_wp2_with fail
          refine (isWord_any _ _).mono ?_; rintro e w' ⟨rfl, rfl⟩; rw [hb]
          go_wp2_with fail
          refine (isWord_any _ _).mono ?_; rintro e w' ⟨rfl, rfl⟩; rw [hb2]
          go_wp2
          go_roundw
          case rel => exact ⟨j + 1, by omega, by go_num, NEXT, by first | trivial | rfl⟩
          case measure => simp [intOf]; omega
        | false =>
          have NO := Lib.hid (all_no (p := isP) hlt (by unfold isP; rw [hb2]; simp))
          go_wp2_with fail
          refine (isWord_any _ _).mono ?_; rintro e w' ⟨rfl, rfl⟩; rw [hb]
          go_wp2_with fail
          refine (isWord_any _ _).mono ?_; rintro e w' ⟨rfl, rfl⟩; rw [hb2]
          go_wp2
          go_ret
          exact ⟨by rw [NO.out]; rfl, rfl⟩
      | false =>
        have NO := Lib.hid (all_no (p := isP) hlt (by unfold isP; rw [hb]; simp))
        go_wp2_with fail
        refine (isWord_any _ _).mono ?_; rintro e w' ⟨rfl, rfl⟩; rw [hb]
        go_wp2
        go_ret
        exact ⟨by rw [NO.out]; rfl, rfl⟩
    · have hlt' : ¬ (j : Int) < (l.length : Int) := by omega
      have ALL : Hid (l.all isP = true) := Lib.hid (by have := hq.out; rwa [List.take_of_length_le (by omega)] at this)
      go_wp2
      go_ret
      exact ⟨by rw [ALL.out]; rfl, rfl⟩
theorem blocksOf_any (n : Int) (w : World) (h0 : 0 ≤ n) (h1 : n ≤ 1000000) : Calls Tryz.prog 128 #[.int .i64 n] w fun e w' => e = .returned (.int .i64 (cntB n)) ∧ w' = w := by
  unfold cntB
  have e : n + 256 - 1 = n + 255 := by omega
  have x1 := IntWalk.i64_in (n + 256) (by omega)
  have x2 := IntWalk.i64_in (n + 255) (by omega)
  have x3 := IntWalk.i64_in ((n + 255).tdiv 256) (by have := Int.tdiv_eq_ediv_of_nonneg (a := n + 255) (b := 256) (by omega); omega)
  go_enter Tryz.func128, Tryz.ntmps128
  go_wp2
  go_ret
  refine ⟨?_, rfl⟩
  first | rfl | (congr 2; simp [e, x1, x2, x3]; done)
theorem put_any (A : Option Addr) (n c : Nat) (l : List UInt8) (a k : Nat) (w : World) (hb : Src w A n c l) (hn : n ≤ 1000) (h1 : 1 ≤ k) (h8 : k ≤ 8) (hf : a < 256 ^ k) (ha : a ≤ 9223372036854775807) :
    Calls Tryz.prog 91 #[.slice A n c, .int .i64 (a : Int), .int .i64 (k : Int)] w fun e w' => ∃ g c', e = .returned (.slice (some ⟨g, 0, none⟩) (n + k) c') ∧ OwnB w' w.heap.size g (n + k) c' (l ++ be a k) ∧ Below w.heap.size w w' := by
  have x := IntWalk.u64_in (a : Int) (by omega)
  have PU := Lib.hid (put_ok A n c l a k w hb (by omega) (by omega) h1 h8 hf)
  clear hf h1 h8
  go_enter Tryz.func91, Tryz.ntmps91
  go_wp2_with fail
  refine PU.out.mono ?_; rintro e w' ⟨g, c', rfl, o1, b1⟩
  go_wp2
  go_ret
  exact ⟨g, c', rfl, o1, b1⟩
end Go.Proofs.YtefnkednnnlhoaaGreatDoor.In

/- Layer 11: sealed blocks; roots packed. Conditions: those that each states. -/
namespace Go.Proofs.YtefnkednnnlhoaaGreatDoor.In
open Go.ChangeShapes Go.WideShapes Go.ChangeAt Go.RowKit Go.Deep Fl Rk
set_option linter.unusedVariables false

theorem makeText (W : World) : (Instr.makeSlice 31 (.int .i64 254) (.int .i64 256)).run Tryz.prog W = .ok (.slice (some ⟨W.heap.size, 0, none⟩) 254 256) (W.alloc (.cells (madeCells #[.int .u8 0] 256) 5)) := by
  obtain ⟨i0, hi, hz0, hz1, hz2⟩ := u8_info
  have hr := run_make (P := Tryz.prog) W 31 5 i0 (.int .u8 0) Tryz.underlying31 hi hz0 .i64 .i64 254 256 (by omega) (by omega) (by rw [hz2]; omega) (by omega)
  simp only [hz1, Nat.mul_one] at hr
  exact hr
theorem madeCells_nil (N : Nat) : (madeCells #[.int .u8 0] N).toList = bys (List.replicate N 0) := by
  refine List.ext_getElem (by rw [Array.length_toList, size_madeCells, bys_length, List.length_replicate]) fun j h1 h2 => ?_
  have hj : j < N := by rw [bys_length, List.length_replicate] at h2; exact h2
  have e : (madeCells #[.int .u8 0] N)[j]? = some (.int .u8 0) := by
    unfold madeCells
    rw [Array.getElem?_map, Array.getElem?_range, if_pos hj]
    have e : j % (#[Value.int .u8 0] : Array Value).size = 0 := Nat.mod_one j
    simp only [Option.map_some, e]
    rfl
  have e2 : (madeCells #[.int .u8 0] N).toList[j]? = some (.int .u8 0) := by rw [Array.getElem?_toList]; exact e
  rw [List.getElem?_eq_getElem h1] at e2
  injection e2 with e2
  rw [e2]
  simp only [bys, List.getElem_map, List.getElem_replicate]
  rfl
theorem pad_cells {t : List UInt8} (h : t.length ≤ 254) : splice (madeCells #[.int .u8 0] 256).toList 0 (bys t) = bys (pad t) ++ bys [0, 0] := by
  rw [madeCells_nil]
  unfold splice
  rw [List.take_zero, List.nil_append, bys_length, Nat.zero_add, bys_drop, List.drop_replicate, ← bys_append, ← bys_append]
  congr 1
  unfold pad
  rw [List.append_assoc]
  congr 1
  have : [0, 0] = List.replicate 2 (0 : UInt8) := rfl
  have e2 : 256 - t.length = 254 - t.length + 2 := by omega
  rw [this, List.replicate_append_replicate, e2]
theorem bytes_padded {w : World} {g : Nat} {x : List UInt8} (hx : x.length = 254) (h : Blk w g 5 (bys x ++ bys [0, 0]).toArray) : Src w (some ⟨g, 0, none⟩) 254 256 x := by
  refine ⟨⟨fun hp => ⟨g, 0, rfl, h.lt, fun j hj => ?_⟩, hx, by omega, by omega⟩, fun e => by cases e⟩
  rw [h.cell (0 + j), Nat.zero_add, List.getElem?_toArray, List.getElem?_append_left hj, List.getElem?_eq_getElem hj]

/-- copy(block, t), block just made. -/
theorem copy_text {w : World} {ops : Array Oper} {rest : List Oper} {o : Oper} {a : Act} {Q : Exit → Act → World → Prop} (hgd : o.guard = none) (d s : Operand)
    (ho : o.op = .call { callee := .builtin .copy, args := #[d, s], argTypes := #[31, 31] }) {A : Option Addr} {n c : Nat} {t : List UInt8} (hd : a.eval d = .slice (some ⟨w.heap.size, 0, none⟩) 254 256) (hs : a.eval s = .slice A n c)
    (hb : Src w A n c t) (hn : n ≤ 254)
    (h : ∀ k w', Src w' (some ⟨w.heap.size, 0, none⟩) 254 256 (pad t) → Below w.heap.size w w' → wpList Tryz.prog ops Q rest (a.put o.dst (.int .i64 k)) w') :
    wpList Tryz.prog ops Q (o :: rest) a (w.alloc (.cells (madeCells #[.int .u8 0] 256) 5)) := by
  have hlen := hb.len
  have hp := pad_length (t := t) (by omega)
  refine wpList_copy_splice hgd d s 31 31 ho 5 Tryz.underlying31 (by kernel_rfl) _ _ _ _ _ _ hd hs w.heap.size 0 (madeCells #[.int .u8 0] 256).toList 5 (Blk.new w 5 (madeCells #[.int .u8 0] 256)) (bys t) ?_ ?_ ?_ ?_ w.heap.size w ((Below.refl _ w).alloc (Nat.le_refl _) _) (Nat.le_refl _) ?_
  · rw [bys_length, hlen]; exact (Nat.min_eq_left hn).symm
  · intro h0
    obtain ⟨b, o, rfl, hbl, hcl⟩ := hb.lies h0
    exact ⟨rfl, _, rfl, fun j v hv => ((hb.alloc _).toBytes).at_ _ j v hv⟩
  · rw [bys_length, hlen, Array.length_toList, size_madeCells]; simp; omega
  · intro v hv; exact bys_one hv
  intro w2 H2 B2
  exact h _ w2 (bytes_padded hp (show Blk w2 w.heap.size 5 _ from by rw [← pad_cells (by omega)]; exact H2.out)) B2

set_option maxRecDepth 100000 in
theorem seal_any (A : Option Addr) (n c : Nat) (t : List UInt8) (w : World) (hb : Src w A n c t) (hn : n ≤ 254) :
    Calls Tryz.prog 92 #[.slice A n c] w fun e w' => ∃ g c', e = .returned (.slice (some ⟨g, 0, none⟩) 256 c') ∧ OwnB w' w.heap.size g 256 c' (sealL t) ∧ Below w.heap.size w w' := by
  have hlen := hb.len
  have hp := pad_length (t := t) (by omega)
  have hle := evs_le (pad t)
  have hfo := fo_le (256 * evs (pad t) + ods (pad t))
  have hmk := makeText
  have HB := Lib.hid hb
  have hev : evs (pad t) ≤ 1099511627776 := by omega
  have hod : ods (pad t) ≤ 1099511627776 := by omega
  have ST := Lib.hid (fun w => sum_ok (fl (evs (pad t))) (fl (ods (pad t))) (evs (pad t)) (ods (pad t)) w (read_fl (by rw [Int.natAbs_natCast]; omega)).rep (read_fl (by rw [Int.natAbs_natCast]; omega)).rep hev hod)
  have E0 := Lib.hid (show sealL t = pad t ++ be (65535 - fo (256 * evs (pad t) + ods (pad t))) 2 from rfl)
  generalize hq : 65535 - fo (256 * evs (pad t) + ods (pad t)) = q at *
  have hq2 : q ≤ 65535 := by omega
  have x0 := IntWalk.i64_in (q : Int) (by omega)
  clear hb hle hfo hev hod hq
  go_enter Tryz.func92, Tryz.ntmps92
  go_wp2_with (refine copy_text rfl _ _ rfl rfl rfl HB.out hn ?_; refine Hid.out ?_)
  unfold Hid
  clear hmk
  intro k w2 S2 B2
  have S2 := Lib.hid S2
  clear HB
  have B2 := Lib.hid B2
  go_wp2_with fail
  refine (part_ok _ _ _ (pad t) _ S2.out.toBytes (by omega)).mono ?_; rintro e w3 ⟨rfl, m, rfl⟩
  go_wp2_with fail
  refine (ST.out _).mono ?_; rintro e w4 ⟨rfl, rfl⟩
  go_wp2_with fail
  refine (put_any _ 254 _ (pad t) q 2 _ ((S2.out.drewN m)) (by omega) (by decide) (by decide) (by omega) (by omega)).mono ?_; rintro e w5 ⟨g, c', rfl, o1, b1⟩
  go_wp2
  go_ret
  refine ⟨g, c', rfl, ?_, (below_drewN B2.out m).trans (b1.mono B2.out.size)⟩
  rw [E0.out]
  exact ⟨owns_mono o1.own B2.out.size, Nat.le_trans B2.out.size o1.base, o1.lt, o1.cap, o1.max⟩

theorem mayBeRoot_any (g : Int) (A : Option Addr) (c : Nat) (ds : List Int) (w : World) (h : RowG w 1 A ds.length c (vi ds)) :
    Calls Tryz.prog 90 #[.agg #[.int .i64 g, .slice A ds.length c]] w fun e w' => e = .returned (.bool (rootMay g ds)) ∧ Below w.heap.size w w' := by
  have hmax : ds.length ≤ 9223372036854775807 := Nat.le_trans h.cap h.max
  have B0 := Lib.hid ((Below.refl w.heap.size w).alloc (Nat.le_refl _) (.cells #[.int .i64 g, .slice A ds.length c] 49))
  have H := Lib.hid (h.new B0.out)
  clear h
  cases h1 : mayCnt g with
  | false =>
    have R := Lib.hid (show rootMay g ds = false from by unfold rootMay; rw [h1]; rfl)
    go_enter Tryz.func90, Tryz.ntmps90
    go_wp2_with fail
    refine (mayCount_any _ _).mono ?_; rintro e w' ⟨rfl, rfl⟩; rw [h1]
    go_wp2
    go_ret
    exact ⟨by rw [R.out]; rfl, B0.out⟩
  | true =>
    by_cases h2 : ds.length ≤ 4
    · have R := Lib.hid (show rootMay g ds = ds.all isBlk from by unfold rootMay; rw [h1, decide_eq_true h2]; rfl)
      have h2' : (ds.length : Int) ≤ 4 := by omega
      go_enter Tryz.func90, Tryz.ntmps90
      go_wp2_with fail
      refine (mayCount_any _ _).mono ?_; rintro e w' ⟨rfl, rfl⟩; rw [h1]
      go_wp2_with fail
      refine (areBlocks_any A c ds _ H.out).mono ?_; rintro e w' ⟨rfl, rfl⟩
      go_wp2
      go_ret
      exact ⟨by rw [R.out]; rfl, B0.out⟩
    · have R := Lib.hid (show rootMay g ds = false from by unfold rootMay; rw [h1, decide_eq_false h2]; rfl)
      have h2' : ¬ (ds.length : Int) ≤ 4 := by omega
      go_enter Tryz.func90, Tryz.ntmps90
      go_wp2_with fail
      refine (mayCount_any _ _).mono ?_; rintro e w' ⟨rfl, rfl⟩; rw [h1]
      go_wp2
      go_ret
      exact ⟨by rw [R.out]; rfl, B0.out⟩

/-- What a Pack tells. -/
def Packed (w w' : World) (e : Ending) (may : Bool) (t : List UInt8) : Prop :=
  Below w.heap.size w w' ∧ (may = false → e = .returned (.tuple #[.slice none 0 0, .int .i64 1])) ∧
    (may = true → ∃ g c', e = .returned (.tuple #[.slice (some ⟨g, 0, none⟩) 256 c', .int .i64 0]) ∧ OwnB w' w.heap.size g 256 c' (sealL t))

/-- '[]byte("..")' of a constant: the row is marked. -/
theorem conv_fresh (cs : Array Value) (n c : Nat) (w : World) :
    (convert 31 31 (.slice (some ⟨w.heap.size, 0, none⟩) n c)).run Tryz.prog (w.alloc (.cells cs 5)) = .ok (.slice (some ⟨w.heap.size, 0, none⟩) n c) (w.alloc (.cells cs 5 (cs.size, cs.size + 1))) := by
  have hsh : (w.alloc (.cells cs 5)).shape? w.heap.size = some (5, cs.size) := by
    have : (w.alloc (.cells cs 5)).heap[w.heap.size]? = some (.cells cs 5) := heap_alloc_new w _
    unfold World.shape?
    rw [this]
  have hfr : ∀ n : Nat, (w.alloc (.cells cs 5)).freeze ⟨w.heap.size, n, none⟩ 1 = w.alloc (.cells cs 5 (n, n + 1)) := fun n => by
    have hm : ∀ (a : Array Obj) (x : Obj) (f : Obj → Obj), (a.push x).modify a.size f = a.push (f x) := by
      intro a x f
      apply Array.ext
      · simp
      · intro i h1 h2
        simp only [Array.getElem_modify, Array.getElem_push]
        by_cases h : a.size = i
        · subst h
          simp
        · have hi : i < a.size := by simp at h1; omega
          simp [h, hi]
    unfold World.freeze
    rw [if_neg (by decide)]
    show ({ w.alloc (.cells cs 5) with heap := (w.heap.push (.cells cs 5)).modify w.heap.size _ } : World) = _
    rw [hm]
    rfl
  simp [convert, run_underlying Tryz.underlying31, run_underlying Tryz.underlying5, markStringish, hsh]
  exact hfr _
theorem marked (w : World) (l : List UInt8) (hl : l.length ≤ 1000000) : Src (w.alloc (.cells (bys l).toArray 5 (l.length, l.length + 1))) (some ⟨w.heap.size, 0, none⟩) l.length l.length l := by
  have hb : (w.alloc (.cells (bys l).toArray 5 (l.length, l.length + 1))).heap[w.heap.size]? = some (.cells (bys l).toArray 5 (l.length, l.length + 1)) := heap_alloc_new w _
  refine ⟨⟨fun hp => ⟨_, 0, rfl, (Array.getElem?_eq_some_iff.1 hb).1, fun j hj => ?_⟩, rfl, Nat.le_refl _, ?_⟩, fun e => by cases e⟩
  · rw [cell_of_row _ _ _ _ _ _ hb, Nat.zero_add, List.getElem?_toArray, List.getElem?_eq_getElem hj]
  · omega

theorem blkT_snoc {ds : List Int} {j : Nat} (h : j < ds.length) : blkT (ds.take (j + 1)) = blkT (ds.take j) ++ be ds[j].toNat 2 := by
  unfold blkT
  rw [List.take_succ_eq_append_getElem h, List.flatMap_append]; simp
theorem blkT_length (ds : List Int) : (blkT ds).length = 2 * ds.length := by
  induction ds with
  | nil => rfl
  | cons d ds ih => simp only [blkT, List.flatMap_cons, List.length_append, be_length, List.length_cons] at ih ⊢; omega

set_option maxRecDepth 100000 in
theorem packRoot_any (g : Int) (A : Option Addr) (c : Nat) (ds : List Int) (w : World) (h : RowG w 1 A ds.length c (vi ds)) :
    Calls Tryz.prog 51 #[.agg #[.int .i64 g, .slice A ds.length c]] w fun e w' => Packed w w' e (rootMay g ds) (rootT g ds) := by
  have B0 := Lib.hid ((Below.refl w.heap.size w).alloc (Nat.le_refl _) (.cells #[.int .i64 g, .slice A ds.length c] 49))
  have HK := Lib.hid (Blk.new w 49 #[.int .i64 g, .slice A ds.length c])
  have H := Lib.hid (h.new B0.out)
  clear h
  cases hm : rootMay g ds with
  | false =>
    go_enter Tryz.func51, Tryz.ntmps51
    go_wp2_with fail
    refine (mayBeRoot_any g A c ds _ H.out).mono ?_; rintro e w1 ⟨rfl, b1⟩; rw [hm]
    go_wp2
    go_ret2
    exact ⟨B0.out.trans (b1.mono B0.out.size), fun _ => rfl, fun h => by cases h⟩
  | true =>
    obtain ⟨m1, m2, m3⟩ : mayCnt g = true ∧ ds.length ≤ 4 ∧ ds.all isBlk = true := by
      unfold rootMay at hm
      simp only [Bool.and_eq_true, decide_eq_true_eq] at hm
      exact ⟨hm.1.1, hm.1.2, hm.2⟩
    obtain ⟨G, rfl, hG⟩ : ∃ G : Nat, g = (G : Int) ∧ G ≤ 1073741824 := ⟨g.toNat, by unfold mayCnt at m1; have := of_decide_eq_true m1; omega, by unfold mayCnt at m1; have := of_decide_eq_true m1; omega⟩
    have M3 := Lib.hid m3
    have T0 := Lib.hid (show rootT (G : Int) ds = [80, 82, 79, 84] ++ be G 4 ++ be ds.length 1 ++ blkT ds from rfl)
    clear m1 m3
    go_enter Tryz.func51, Tryz.ntmps51
    go_wp2_with fail
    refine (mayBeRoot_any _ A c ds _ H.out).mono ?_; rintro e w1 ⟨rfl, b1⟩; rw [hm]
    have HK1 := Lib.hid (HK.out.older (older_below b1))
    have H1 := Lib.hid (H.out.new b1)
    have B1 := Lib.hid (B0.out.trans (b1.mono B0.out.size))
    clear H HK B0 b1 hm
    have k0 := HK1.out.cell 0
    have k1 := HK1.out.cell 1
    simp only [List.getElem?_toArray, List.getElem?_cons_succ, List.getElem?_cons_zero] at k0 k1
    have hcv : ∀ W : World, (convert 31 31 (.slice (some ⟨W.heap.size, 0, none⟩) 4 4)).run Tryz.prog (W.alloc (.cells #[.int .u8 80, .int .u8 82, .int .u8 79, .int .u8 84] 5)) = .ok (.slice (some ⟨W.heap.size, 0, none⟩) 4 4) (W.alloc (.cells #[.int .u8 80, .int .u8 82, .int .u8 79, .int .u8 84] 5 (4, 5))) := fun W => conv_fresh #[.int .u8 80, .int .u8 82, .int .u8 79, .int .u8 84] 4 4 W
    have k2 := (HK1.out.alloc (.cells #[.int .u8 80, .int .u8 82, .int .u8 79, .int .u8 84] 5 (4, 5))).cell 0
    have k3 := (HK1.out.alloc (.cells #[.int .u8 80, .int .u8 82, .int .u8 79, .int .u8 84] 5 (4, 5))).cell 1
    simp only [List.getElem?_toArray, List.getElem?_cons_succ, List.getElem?_cons_zero] at k2 k3
    go_wp2_with fail
    clear hcv k2 k3
    refine (put_any _ 4 _ _ G 4 _ (marked w1 [80, 82, 79, 84] (by decide)) (by omega) (by decide) (by decide) (by omega) (by omega)).mono ?_; rintro e w2 ⟨g2, c2, rfl, o2, b2⟩
    have b2' : Below w1.heap.size w1 w2 := ((Below.refl w1.heap.size w1).alloc (Nat.le_refl _) _).trans (b2.mono (by simp))
    have HK2 := Lib.hid (HK1.out.older (older_below b2'))
    have H2 := Lib.hid (H1.out.new b2')
    have B2 := Lib.hid (B1.out.trans (b2'.mono B1.out.size))
    have O2 := Lib.hid o2
    clear b2 b2' o2 k0 k1 HK1 H1 B1
    have k0 := HK2.out.cell 0
    have k1 := HK2.out.cell 1
    simp only [List.getElem?_toArray, List.getElem?_cons_succ, List.getElem?_cons_zero] at k0 k1
    go_wp2_with fail
    refine (put_any _ _ _ _ ds.length 1 _ O2.out.src (by omega) (by decide) (by decide) (by omega) (by omega)).mono ?_; rintro e w3 ⟨g3, c3, rfl, o3, b3⟩
    have HK3 := Lib.hid (HK2.out.older (older_below b3))
    have H3 := Lib.hid (H2.out.new b3)
    have B3 := Lib.hid (B2.out.trans (b3.mono B2.out.size))
    have O3 := Lib.hid o3
    have B2s := B2.out.size
    clear o3 b3 k0 k1 HK2 H2 B2 O2
    have k0 := HK3.out.cell 0
    have k1 := HK3.out.cell 1
    simp only [List.getElem?_toArray, List.getElem?_cons_succ, List.getElem?_cons_zero] at k0 k1
    go_wp2
    clear k0 k1
    go_loopw [24, 4] (fun i t wr => ∃ j g n c', i = .int .i64 ((j : Nat) : Int) ∧ t = .slice (some ⟨g, 0, none⟩) n c' ∧ j ≤ ds.length ∧ n = 9 + 2 * j ∧ Hid (w.heap.size ≤ w3.heap.size ∧ Below w3.heap.size w3 wr) ∧ Hid (OwnB wr w.heap.size g n c' ([80, 82, 79, 84] ++ be G 4 ++ be ds.length 1 ++ blkT (ds.take j)))) (fun i _ _ => ds.length - (intOf i).toNat)
    case atStart =>
      refine ⟨0, g3, _, c3, rfl, rfl, Nat.zero_le _, rfl, Lib.hid ⟨B3.out.size, Below.refl _ _⟩, Lib.hid ?_⟩
      have o := O3.out
      have ez : blkT (ds.take 0) = [] := rfl
      rw [ez, List.append_nil]
      exact ⟨owns_mono o.own B2s, Nat.le_trans B2s o.base, o.lt, o.cap, o.max⟩
    case round =>
      obtain ⟨j, g4, n4, c4, rfl, rfl, hj, rfl, b4, o4⟩ := hrel
      by_cases hlt : j < ds.length
      · have hlt' : (j : Int) < (ds.length : Int) := by omega
        have j0 : (0 : Int) ≤ (j : Int) := by omega
        have xj := IntWalk.i64_in ((j : Int) + 1) (by omega)
        have H4 := Lib.hid (H3.out.new b4.out.2)
        obtain ⟨b, o, rfl, hbl, c0⟩ := H4.out.cell (j := j) (by simpa [vi] using hlt)
        simp only [vi, List.getElem_map] at c0
        obtain ⟨D, hD, hD1⟩ : ∃ D : Nat, ds[j] = (D : Int) ∧ D < 512 := by
          have := List.all_eq_true.1 M3.out _ (List.getElem_mem hlt)
          unfold isBlk at this
          have := of_decide_eq_true this
          exact ⟨ds[j].toNat, by omega, by omega⟩
        have TS := Lib.hid (show blkT (ds.take (j + 1)) = blkT (ds.take j) ++ be D 2 from by rw [blkT_snoc hlt, hD]; rfl)
        rw [hD] at c0
        clear hD
        go_wp2_with fail
        refine (put_any _ _ _ _ D 2 _ o4.out.src (by omega) (by decide) (by decide) (by omega) (by omega)).mono ?_; rintro e w5 ⟨g5, c5, rfl, o5, b5⟩
        have O5 := Lib.hid o5
        have B5 := Lib.hid (b4.out.2.trans (b5.mono b4.out.2.size))
        have SZ := Lib.hid (Nat.le_trans b4.out.1 b4.out.2.size)
        clear o5 b5
        go_wp2
        go_roundw
        case rel =>
          refine ⟨j + 1, g5, _, c5, by go_num, rfl, by omega, by omega, Lib.hid ⟨b4.out.1, B5.out⟩, Lib.hid ?_⟩
          have o := O5.out
          rw [TS.out, ← List.append_assoc]
          exact ⟨owns_mono o.own SZ.out, Nat.le_trans SZ.out o.base, o.lt, o.cap, o.max⟩
        case measure => simp [intOf]; omega
      · have hlt' : ¬ (j : Int) < (ds.length : Int) := by omega
        obtain rfl : j = ds.length := by omega
        have TS := Lib.hid (show [80, 82, 79, 84] ++ be G 4 ++ be ds.length 1 ++ blkT (ds.take ds.length) = rootT (G : Int) ds from by rw [List.take_length]; exact T0.out.symm)
        rw [TS.out] at o4
        go_wp2_with fail
        refine (seal_any _ _ _ _ _ o4.out.src (by omega)).mono ?_; rintro e w5 ⟨g5, c5, rfl, o5, b5⟩
        have SZ := Lib.hid (Nat.le_trans b4.out.1 b4.out.2.size)
        go_wp2
        go_ret2
        refine ⟨B3.out.trans ((b4.out.2.trans (b5.mono b4.out.2.size)).mono b4.out.1), (by intro h; cases h), fun _ => ⟨g5, c5, rfl, ?_⟩⟩
        exact ⟨owns_mono o5.own SZ.out, Nat.le_trans SZ.out o5.base, o5.lt, o5.cap, o5.max⟩
end Go.Proofs.YtefnkednnnlhoaaGreatDoor.In
