/- A pool: the part of any pieces, where its first slots hold heads. Conditions: those that each states. -/
import Derived.Test.YthnpalcjfgbjeaaGreatPs1
import Derived.Test.YthnpalcjfgbjeaaGreatGaT
namespace Go.Proofs.YthnpalcjfgbjeaaGreat.Ps
open Go.ChangeShapes Go.WideShapes Go.ChangeAt Go.RowKit Go.Deep Fr Di Ke Po Fl Gx
set_option linter.unusedVariables false

def allB (P : Po) (l : List Pc) : List UInt8 := l.flatMap (bytesP P)
def partV (P : Po) (n : Nat) (l : List Pc) : Value := if l.all (okP n) then .tuple #[.complex .f64 (fl (evs (allB P l))) (fl (ods (allB P l))), .int .i64 0] else .tuple #[.complex .f64 0 0, .int .i64 1]
theorem partV_bad {P : Po} {n : Nat} {l : List Pc} {x : Pc} (hx : x ∈ l) (h : okP n x = false) : partV P n l = .tuple #[.complex .f64 0 0, .int .i64 1] := by
  unfold partV
  rw [if_neg]
  intro h1
  have := List.all_eq_true.1 h1 x hx
  rw [h] at this
  cases this
theorem partV_all {P : Po} {n : Nat} {l : List Pc} (h : ∀ x ∈ l, okP n x = true) : partV P n l = .tuple #[.complex .f64 (fl (evs (allB P l))) (fl (ods (allB P l))), .int .i64 0] := by
  unfold partV
  rw [if_pos (List.all_eq_true.2 h)]
theorem allB_snoc {P : Po} {l : List Pc} {j : Nat} (h : j < l.length) : allB P (l.take (j + 1)) = allB P (l.take j) ++ bytesP P l[j] := by
  unfold allB
  rw [List.take_succ_eq_append_getElem h, List.flatMap_append]
  simp
theorem allB_len {P : Po} {l : List Pc} (h : ∀ x ∈ l, (bytesP P x).length ≤ 256) : (allB P l).length ≤ 256 * l.length := by
  induction l with
  | nil => exact Nat.le_refl _
  | cons x l ih =>
    have h1 := h x (by simp)
    have h2 := ih (fun y hy => h y (by simp [hy]))
    unfold allB at *
    rw [List.flatMap_cons, List.length_append, List.length_cons]
    omega
theorem bytesP_le {P : Po} {hs : List (List UInt8)} (hq : HP P hs) {x : Pc} (hx : okP hs.length x = true) : (bytesP P x).length ≤ 256 := by
  obtain ⟨i, o, m, rfl, _, hom⟩ := okP_frame hx
  have := (read_hp hq hx).2
  dsimp only at this
  omega

set_option maxRecDepth 100000 in
set_option maxHeartbeats 4000000 in
theorem part_any {B : Nat} {w : World} {lab : Nat → Nat} {g gk gs c : Nat} {P : Po} {hs : List (List UInt8)} (h : PB B w lab g gk gs c P) (hB : B ≤ w.heap.size) (hq : HP P hs) (A : Option Addr) (cA : Nat) (l : List Pc) (hp : Pcs w A l) (hok : ∀ p ∈ l, p.Ok) (h50 : l.length ≤ 50) (h0 : ∀ b o, A = some ⟨b, o, none⟩ → 0 < l.length → lab b = 0 ∧ b < w.heap.size) :
    Calls Tryz.prog 9 #[.pointer (some ⟨g, 0, none⟩), .slice A l.length cA] w fun e w' => e = .returned (partV P hs.length l) ∧ ∃ lab', PB B w' lab' g gk gs c P ∧ PStep w w' lab lab' := by
  have H := Lib.hid h
  have G := Lib.hid hB
  have HQ := Lib.hid hq
  have PC := Lib.hid hp
  have OK := Lib.hid hok
  have HZ := Lib.hid h0
  have B0 := Lib.hid (Below.refl w.heap.size w)
  clear h hB hq hp hok h0
  go_enter Tryz.func9, Tryz.ntmps9
  go_upto_region 4 with fail
  go_loopw [18] (fun i wr => ∃ (j : Nat), j ≤ l.length ∧ i = .int .i64 (j : Int) ∧ Hid (∀ x (hx : x < l.length), x < j → okP hs.length l[x] = true) ∧ Hid (Below w.heap.size w wr)) (fun i _ => l.length - (intOf i).toNat)
  case atStart => exact ⟨0, Nat.zero_le _, rfl, Lib.hid (fun x hx h => absurd h (by omega)), B0⟩
  case round =>
    clear B0
    obtain ⟨j, hj, rfl, hg, HB⟩ := hrel
    by_cases hlt : j < l.length
    · have hlt' : (j : Int) < (l.length : Int) := by omega
      have j0 : (0 : Int) ≤ (j : Int) := by omega
      have xj := IntWalk.i64_in ((j : Int) + 1) (by omega)
      have P1 := Lib.hid (PC.out.new HB.out)
      obtain ⟨b, o, hA, hbl, hr⟩ := P1.out j hlt
      have LD := Lib.hid (show wr.rangeAt b (o + j * 3) [.int .i64 l[j].frame, .int .i64 l[j].off, .int .i64 l[j].len] from hr)
      subst hA
      have WI := Lib.hid (within_any l[j] (OK.out _ (List.getElem_mem hlt)))
      have BAD := Lib.hid (fun (h1 : okP hs.length l[j] = false) => partV_bad (P := P) (List.getElem_mem hlt) h1)
      have GD := Lib.hid (show okP hs.length l[j] = true → ∀ x (hx : x < l.length), x < j + 1 → okP hs.length l[x] = true from fun h1 x hx h => by
        by_cases e : x = j
        · subst e; exact h1
        · exact hg.out x hx (by omega))
      have GE := Lib.hid (show okP hs.length l[j] = (inP l[j] && decide (0 ≤ l[j].frame ∧ l[j].frame < (hs.length : Int))) from by unfold okP inP; rw [← Bool.decide_and]; exact decide_eq_decide.2 (by omega))
      obtain ⟨W1, hW1⟩ : ∃ W1, wr.alloc (.cells #[.int .i64 l[j].frame, .int .i64 l[j].off, .int .i64 l[j].len] 90) = W1 := ⟨_, rfl⟩
      have hWB : Below wr.heap.size wr W1 := by rw [← hW1]; exact (Below.refl wr.heap.size wr).alloc (Nat.le_refl _) _
      have BX := Lib.hid (show Blk W1 wr.heap.size 90 #[.int .i64 l[j].frame, .int .i64 l[j].off, .int .i64 l[j].len] from by rw [← hW1]; exact Blk.new wr _ _)
      have HB1 := Lib.hid (show Below w.heap.size w W1 from HB.out.trans (hWB.mono HB.out.size))
      have PN := Lib.hid (fun X (hX : Below w.heap.size w X) => pinned_any (H.out.new hX).po l[j].frame)
      have PY := Lib.hid (fun i (h : i < hs.length) => pinned_yes HQ.out h)
      have PZ := Lib.hid (@pinned_no P hs HQ.out l[j].frame)
      have HW := Lib.hid hW1
      clear hr hg hWB hW1 HB P1
      generalize hqf : l[j].frame = qf at *
      generalize l[j].off = qo at *
      generalize l[j].len = qn at *
      go_upto_region 6 with (first
        | (refine wpList_load_mid rfl 90 (.tmp 20) rfl b (o + j * 3) rfl _ _ LD.out Tryz.underlying90 rfl piece_info ?_)
        | fail)
      (try rw [HW.out])
      generalize wr.heap.size = d at *
      have x0 := (BX.out.cell 0).trans (show _ = some (.int .i64 qf) from rfl)
      have x1 := (BX.out.cell 1).trans (show _ = some (.int .i64 qo) from rfl)
      have x2 := (BX.out.cell 2).trans (show _ = some (.int .i64 qn) from rfl)
      go_wp2_with fail
      refine (WI.out _).mono ?_; rintro e w2 ⟨rfl, b2⟩
      have HB2 := Lib.hid (HB1.out.trans (b2.mono HB1.out.size))
      have BX2 := Lib.hid (BX.out.older (older_below b2))
      clear b2 x0 x1 x2 BX HB1
      generalize hI : inP _ = I at *
      cases I with
      | false =>
        have NB := Lib.hid (BAD.out (by rw [GE.out]; rfl))
        go_wp2
        go_ret2
        exact ⟨by rw [NB.out]; rfl, lab, H.out.new HB2.out, PStep.news lab HB2.out⟩
      | true =>
        have x0 := (BX2.out.cell 0).trans (show _ = some (.int .i64 qf) from rfl)
        go_wp2_with fail
        refine (PN.out _ HB2.out).mono ?_; rintro e w3 ⟨rfl, b3⟩
        have HB3 := Lib.hid (HB2.out.trans (b3.mono HB2.out.size))
        clear b3 x0 PN HB2
        by_cases hin : 0 ≤ qf ∧ qf < (hs.length : Int)
        · obtain ⟨i, rfl⟩ : ∃ i : Nat, qf = (i : Int) := ⟨qf.toNat, by omega⟩
          rw [PY.out i (by omega)]
          have G2 := Lib.hid (GD.out (by rw [GE.out, decide_eq_true hin]; rfl))
          rw [ptr_ne]
          go_wp2
          go_roundw
          case rel => exact ⟨j + 1, by omega, by simp, G2, HB3⟩
          case measure => simp [intOf]; omega
        · rw [PZ.out hin]
          have NB := Lib.hid (BAD.out (by rw [GE.out, decide_eq_false hin]; rfl))
          rw [show ptrV gs none = .pointer none from rfl]
          go_wp2
          go_ret2
          exact ⟨by rw [NB.out]; rfl, lab, H.out.new HB3.out, PStep.news lab HB3.out⟩
    · obtain rfl : j = l.length := by omega
      have hge : ¬ (l.length : Int) < (l.length : Int) := by omega
      have ALL := Lib.hid (show ∀ x ∈ l, okP hs.length x = true from fun x hx => by
        obtain ⟨i, hi, rfl⟩ := List.mem_iff_getElem.1 hx
        exact hg.out i hi hi)
      have LE := Lib.hid (fun k => show (allB P (l.take k)).length ≤ 12800 from by
        have h1 := allB_len (P := P) (l := l.take k) (fun x hx => bytesP_le HQ.out (ALL.out x (List.mem_of_mem_take hx)))
        have h2 : (l.take k).length ≤ 50 := by rw [List.length_take]; omega
        omega)
      have LEX := Lib.hid (fun x (hx : x ∈ l) => bytesP_le HQ.out (ALL.out x hx))
      have HR := Lib.hid (partV_all (P := P) ALL.out)
      have H1 := Lib.hid (H.out.new HB.out)
      have G1 := Lib.hid (show B ≤ wr.heap.size from Nat.le_trans G.out HB.out.size)
      have L1 := Lib.hid (PStep.news lab HB.out)
      clear hg HB H G
      go_upto_region 12 with fail
      go_loopw [8, 9, 35] (fun z n i wx => ∃ (j : Nat) (lab' : Nat → Nat), j ≤ l.length ∧ i = .int .i64 (j : Int) ∧ n = .int .i64 ((allB P (l.take j)).length : Int) ∧ z = .complex .f64 (fl (evs (allB P (l.take j)))) (fl (ods (allB P (l.take j)))) ∧ Hid (PB B wx lab' g gk gs c P) ∧ Hid (PStep w wx lab lab') ∧ Hid (B ≤ wx.heap.size)) (fun _ _ i _ => l.length - (intOf i).toNat)
      case atStart => exact ⟨0, lab, Nat.zero_le _, rfl, rfl, rfl, H1, L1, G1⟩
      case round =>
        clear H1 L1 G1
        obtain ⟨j, lab', hj, rfl, rfl, rfl, H1, L1, G1⟩ := hrel
        by_cases hlt : j < l.length
        · have hlt' : (j : Int) < (l.length : Int) := by omega
          have j0 : (0 : Int) ≤ (j : Int) := by omega
          have xj := IntWalk.i64_in ((j : Int) + 1) (by omega)
          have hm := List.getElem_mem hlt
          have P1 := Lib.hid (Ke.Pcs.chg2 PC.out L1.out.chg (fun b o e h => by have := (HZ.out b o e h).1; simp [this]))
          obtain ⟨b, o, hA, hbl, hr⟩ := P1.out j hlt
          have LD := Lib.hid (show wr.rangeAt b (o + j * 3) [.int .i64 l[j].frame, .int .i64 l[j].off, .int .i64 l[j].len] from hr)
          subst hA
          have SN := Lib.hid (allB_snoc (P := P) hlt)
          have BL := Lib.hid (show (bytesP P l[j]).length = l[j].len.toNat ∧ 0 ≤ l[j].len from ⟨(read_hp HQ.out (ALL.out _ hm)).2, by have := ALL.out _ hm; unfold okP at this; simp at this; omega⟩)
          have B6 := Lib.hid (LEX.out _ hm)
          have LT := Lib.hid (LE.out j)
          have EL := Lib.hid (evs_le (allB P (l.take j)))
          have EB := Lib.hid (evs_le (bytesP P l[j]))
          have JN := Lib.hid (show ∀ W, Calls Tryz.prog 34 #[.complex .f64 (fl (evs (allB P (l.take j)))) (fl (ods (allB P (l.take j)))), .int .i64 ((allB P (l.take j)).length : Int), .complex .f64 (fl (evs (bytesP P l[j]))) (fl (ods (bytesP P l[j])))] W fun e w' => e = .returned (.tuple #[.complex .f64 (fl (evs (allB P (l.take (j + 1))))) (fl (ods (allB P (l.take (j + 1))))), .int .i64 0]) ∧ W = w' from fun W => by
            have J := join_ok (evs (allB P (l.take j))) (ods (allB P (l.take j))) (evs (bytesP P l[j])) (ods (bytesP P l[j])) _ _ (allB P (l.take j)).length W (read_fl (by have := EB.out; have := B6.out; omega)).rep (read_fl (by have := EB.out; have := B6.out; omega)).rep (by have := EL.out; have := LT.out; omega) (by have := EL.out; have := LT.out; omega) (by have := EB.out; have := B6.out; omega) (by have := EB.out; have := B6.out; omega) (by have := LT.out; omega)
            have h1 := evs_append (allB P (l.take j)) (bytesP P l[j])
            rw [← SN.out] at h1
            unfold smJ at J
            have q1 := EL.out; have q2 := LT.out; have q3 := EB.out; have q4 := B6.out
            by_cases hp : (allB P (l.take j)).length % 2 = 1
            · rw [if_neg (by omega), if_neg (by omega)] at h1
              rw [if_pos hp, if_pos (by omega)] at J
              rw [h1.1, h1.2]
              exact J
            · rw [if_pos (by omega), if_pos (by omega)] at h1
              rw [if_neg hp, if_pos (by omega)] at J
              rw [h1.1, h1.2]
              exact J)
          have NX := Lib.hid (show ((allB P (l.take (j + 1))).length : Int) = ((allB P (l.take j)).length : Int) + l[j].len from by rw [SN.out, List.length_append]; have := BL.out; omega)
          have xn := IntWalk.i64_in (((allB P (l.take j)).length : Int) + l[j].len) (by have := LT.out; have := BL.out; have := B6.out; omega)
          obtain ⟨W1, hW1⟩ : ∃ W1, wr.alloc (.cells #[.int .i64 l[j].frame, .int .i64 l[j].off, .int .i64 l[j].len] 90) = W1 := ⟨_, rfl⟩
          have hWB : Below wr.heap.size wr W1 := by rw [← hW1]; exact (Below.refl wr.heap.size wr).alloc (Nat.le_refl _) _
          have BX := Lib.hid (show Blk W1 wr.heap.size 90 #[.int .i64 l[j].frame, .int .i64 l[j].off, .int .i64 l[j].len] from by rw [← hW1]; exact Blk.new wr _ _)
          have PF := Lib.hid (partOf_any (H1.out.new hWB) (Nat.le_trans G1.out hWB.size) HQ.out l[j] (ALL.out _ hm))
          have ZB := Lib.hid (show lab' wr.heap.size = 0 from H1.out.kb.lab0 (Nat.le_refl _))
          have L2 := Lib.hid (L1.out.trans (PStep.news lab' hWB))
          have G2 := Lib.hid (Nat.le_trans G1.out hWB.size)
          have HW := Lib.hid hW1
          clear hr hWB hW1 H1 P1 L1 G1 SN BL B6 LT EL EB hm
          generalize bytesP P l[j] = by_ at *
          generalize l[j].frame = qf at *
          generalize l[j].off = qo at *
          generalize l[j].len = qn at *
          go_upto_region 14 with (first
            | (refine wpList_load_mid rfl 90 (.tmp 37) rfl b (o + j * 3) rfl _ _ LD.out Tryz.underlying90 rfl piece_info ?_)
            | fail)
          (try rw [HW.out])
          generalize wr.heap.size = d at *
          have x0 := (BX.out.cell 0).trans (show _ = some (.int .i64 qf) from rfl)
          have x1 := (BX.out.cell 1).trans (show _ = some (.int .i64 qo) from rfl)
          have x2 := (BX.out.cell 2).trans (show _ = some (.int .i64 qn) from rfl)
          go_wp2_with fail
          refine PF.out.mono ?_; rintro e w2 ⟨rfl, lab2, h2, l2⟩
          have BX2 := Lib.hid (l2.blk BX.out ZB.out)
          have H3 := Lib.hid h2
          have L3 := Lib.hid (L2.out.trans l2)
          have G3 := Lib.hid (show B ≤ w2.heap.size from Nat.le_trans G2.out l2.chg.size)
          clear h2 l2 x0 x1 x2 BX PF L2 G2
          have x2 := (BX2.out.cell 2).trans (show _ = some (.int .i64 qn) from rfl)
          go_wp2_with fail
          refine (JN.out _).mono ?_; rintro e w3 ⟨rfl, rfl⟩
          go_wp2
          go_roundw
          case rel => exact ⟨j + 1, lab2, by omega, by simp, by rw [NX.out], rfl, H3, L3, G3⟩
          case measure => simp [intOf]; omega
        · obtain rfl : j = l.length := by omega
          have TA := Lib.hid (show l.take l.length = l from List.take_length)
          rw [TA.out]
          go_wp2
          go_ret2
          exact ⟨by rw [HR.out]; rfl, lab', H1.out, L1.out⟩
end Go.Proofs.YthnpalcjfgbjeaaGreat.Ps
