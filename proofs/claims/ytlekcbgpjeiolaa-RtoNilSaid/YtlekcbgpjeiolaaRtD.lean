/- The document's clock of layer 20 (a value): ends, New, Sample, Back; the chapter's example. Conditions: those that each states. -/
import Derived.Test.YtlekcbgpjeiolaaRt
import Derived.Test.YtlekcbgpjeiolaaRow
import Derived.Deep.CutBlock
import Derived.Deep.DeepCutAuto
import Derived.Laws.Tables
namespace Go.Proofs.Ytlekcbgpjeiolaa.Rt
open Go.ChangeShapes Go.WideShapes Go.ChangeAt Go.RowKit Go.Deep
set_option linter.unusedVariables false
set_option linter.unusedSimpArgs false

/-- The value's cells. -/
def dv (c : Clk) : Array Value := #[.int .i64 c.s, .int .i64 c.v, .int .i64 c.w, .bool c.b]
theorem d_info : (Try.prog.info? 27).map (·.size) = some 4 := by kernel_rfl
/-- A box of the call's own holds the value, another block has room for the answer. -/
structure Two (w0 w : World) (gb gr : Nat) (c : Clk) : Prop where
  box : Blk w gb 27 (dv c)
  room : ∃ old, Blk w gr 27 old ∧ old.size = 4
  below : Below w0.heap.size w0 w
  own : w0.heap.size ≤ gb ∧ w0.heap.size ≤ gr ∧ gb ≠ gr
theorem Two.set {w0 w : World} {gb gr : Nat} {c c' : Clk} (h : Two w0 w gb gr c) (i : Nat) (u : Value) (hv : (dv c).setIfInBounds i u = dv c') : Two w0 (w.setCell ⟨gb, i, none⟩ u) gb gr c' := by
  refine ⟨by have := Blk.put h.box i u; rw [hv] at this; exact this, ?_, h.below.trans ((Chg.set w (S := fun k => k = gb) i u rfl).below h.below.size (fun k hk => by have := h.own; omega)), h.own⟩
  obtain ⟨old, k, z⟩ := h.room
  exact ⟨old, Blk.far k (p := ⟨gb, i, none⟩) (fun e => h.own.2.2 e.symm) u, z⟩
theorem Two.drewN {w0 w : World} {gb gr : Nat} {c : Clk} (h : Two w0 w gb gr c) (m : Nat) : Two w0 (w.drewN m) gb gr c := ⟨h.box.drewN m, by obtain ⟨o, k, z⟩ := h.room; exact ⟨o, k.drewN m, z⟩, below_drewN h.below m, h.own⟩
theorem Two.c0 {w0 w : World} {gb gr : Nat} {c : Clk} (h : Two w0 w gb gr c) : w.cell? ⟨gb, 0, none⟩ = some (.int .i64 c.s) := (Blk.cell h.box 0)
theorem Two.c1 {w0 w : World} {gb gr : Nat} {c : Clk} (h : Two w0 w gb gr c) : w.cell? ⟨gb, 1, none⟩ = some (.int .i64 c.v) := (Blk.cell h.box 1)
theorem Two.c2 {w0 w : World} {gb gr : Nat} {c : Clk} (h : Two w0 w gb gr c) : w.cell? ⟨gb, 2, none⟩ = some (.int .i64 c.w) := (Blk.cell h.box 2)
theorem Two.c3 {w0 w : World} {gb gr : Nat} {c : Clk} (h : Two w0 w gb gr c) : w.cell? ⟨gb, 3, none⟩ = some (.bool c.b) := (Blk.cell h.box 3)
theorem Two.fr {w0 w : World} {gb gr : Nat} {c : Clk} (h : Two w0 w gb gr c) (i : Nat) : w.frozen? ⟨gb, i, none⟩ = false := Blk.frozen h.box i
theorem two_new (w : World) (c : Clk) (zs : Array Value) (hz : zs.size = 4) : Two w ((w.alloc (.cells (dv c) 27)).alloc (.cells zs 27)) w.heap.size (w.heap.size + 1) c := by
  refine ⟨(Blk.new w _ _).alloc _, ⟨zs, ?_, hz⟩, ((Below.refl _ w).alloc (Nat.le_refl _) _).alloc (by simp) _, ⟨Nat.le_refl _, Nat.le_succ _, by omega⟩⟩
  have := Blk.new (w.alloc (.cells (dv c) 27)) 27 zs
  simpa using this

theorem ends_any (n : Int) (w : World) :
    Calls Try.prog 15 #[.int .i64 n] w fun e w' => e = .returned (.int .i64 (cutR n 2 64)) ∧ w' = w := by
  go_enter Try.func15, Try.ntmps15
  go_wp2
  all_goals go_ret
  all_goals (refine ⟨congrArg (fun x => Ending.returned (Value.int .i64 x)) ?_, rfl⟩; (try unfold cutR); omega)

set_option maxRecDepth 100000 in
theorem rnew_any (w : World) :
    Calls Try.prog 8 #[] w fun e w' => e = .returned (.agg (dv k0)) ∧ Below w.heap.size w w' := by
  go_enter Try.func8, Try.ntmps8
  go_wp2
  refine bodyPost_ret (v := .agg (dv k0)) ?_ rfl ?_
  · exact results_cell_row Try.results8 _ _ w.heap.size 27 _ (0, 0) _ rfl (Blk.new w _ _) Try.underlying27 rfl d_info
  exact ⟨rfl, (Below.refl _ w).alloc (Nat.le_refl _) _⟩

set_option maxRecDepth 100000 in
theorem rback_any (c : Clk) (hs : Sm c) (w : World) :
    Calls Try.prog 10 #[.agg (dv c)] w fun e w' => e = .returned (.agg (dv (backR c))) ∧ Below w.heap.size w w' := by
  have E2 := Lib.hid (show ∀ gb gr W, Two w W gb gr c → Two w (W.setCell ⟨gb, 2, none⟩ (.int .i64 (cutR (c.w + c.w) 2 64))) gb gr (backR c) from fun gb gr W H => H.set 2 (.int .i64 (cutR (c.w + c.w) 2 64)) (c' := backR c) (by have b3 := hs.w; unfold backR; rw [show min (c.w * 2) 64 = cutR (c.w + c.w) 2 64 from by unfold cutR; omega]; rfl))
  generalize backR c = r at *
  go_enter Try.func10, Try.ntmps10
  go_upto_region 1 with fail
  have H := Lib.hid (two_new w c #[.int .i64 0, .int .i64 0, .int .i64 0, .bool false] rfl)
  have b3 := hs.w
  generalize ((w.alloc (.cells (dv c) 27)).alloc (.cells #[.int .i64 0, .int .i64 0, .int .i64 0, .bool false] 27)) = W at *
  have c2 := H.out.c2
  have f2 := H.out.fr 2
  have x1 := IntWalk.i64_in (c.w + c.w) (by omega)
  have H2 := Lib.hid (E2.out _ _ _ H.out)
  clear H hs E2
  go_wp2_with fail
  refine (ends_any _ _).mono ?_; rintro e w' ⟨rfl, rfl⟩
  generalize cutR (c.w + c.w) 2 64 = X at *
  go_upto_region 2 with fail
  generalize w'.setCell ⟨w.heap.size, 2, none⟩ (.int .i64 X) = W2 at *
  obtain ⟨old, K, z⟩ := H2.out.room
  have KK := Lib.hid K
  have GB := Lib.hid H2.out.box
  have BX := H2.out.below
  have BB := Lib.hid (below_setRow BX H2.out.own.2.1 (dv r))
  have KR := Lib.hid (K.setRow (dv r))
  clear K BX
  go_wp2_with (first
    | (refine wpList_load_row rfl 27 (.tmp 1) rfl w.heap.size rfl 27 _ (0, 0) _ GB.out Try.underlying27 rfl d_info ?_)
    | (refine wpList_store_row rfl 27 (.tmp 2) (.tmp 10) rfl (w.heap.size + 1) (dv r) rfl rfl 27 old KK.out d_info z (by simp [dv, Value.oneCell']) ?_)
    | fail)
  refine bodyPost_ret (v := .agg (dv r)) ?_ rfl ?_
  · exact results_cell_row Try.results10 _ _ (w.heap.size + 1) 27 _ (0, 0) _ rfl KR.out Try.underlying27 rfl d_info
  exact ⟨rfl, BB.out⟩

set_option maxRecDepth 100000 in
theorem rsample_any (c : Clk) (hs : Sm c) (n : Int) (w : World) :
    Calls Try.prog 12 #[.agg (dv c), .int .i64 n] w fun e w' => e = .returned (.agg (dv (sampR c n))) ∧ Below w.heap.size w w' := by
  have T := cutR_in n 0 64 (by decide)
  have M := sm_mid hs T
  have s1 := hs.s
  have s2 := hs.v
  have E := Lib.hid (show sampR c n = ⟨smoothR c (cutR n 0 64), swingR c (cutR n 0 64), true, cutR (smoothR c (cutR n 0 64) / 8 + max 1 (swingR c (cutR n 0 64))) 2 64⟩ from rfl)
  obtain ⟨r, hr⟩ : ∃ r, r = sampR c n := ⟨_, rfl⟩
  rw [← hr] at E ⊢
  obtain ⟨t, ht⟩ : ∃ t, t = cutR n 0 64 := ⟨_, rfl⟩
  rw [← ht] at E M T
  obtain ⟨a, ha⟩ : ∃ a, a = smoothR c t := ⟨_, rfl⟩
  obtain ⟨u, hu⟩ : ∃ u, u = swingR c t := ⟨_, rfl⟩
  rw [← ha, ← hu] at E M
  have HT := Lib.hid ht
  clear hr ht hs
  go_enter Try.func12, Try.ntmps12
  go_upto_region 1 with fail
  have H := Lib.hid (two_new w c #[.int .i64 0, .int .i64 0, .int .i64 0, .bool false] rfl)
  generalize ((w.alloc (.cells (dv c) 27)).alloc (.cells #[.int .i64 0, .int .i64 0, .int .i64 0, .bool false] 27)) = W at *
  go_upto_if 8 with fail
  go_cut [1] (fun s1 wx => s1 = .int .i64 (max n 0) ∧ wx = W)
  case first =>
    go_wp2_with fail
    all_goals go_meet
    all_goals exact ⟨by congr 1; omega, rfl⟩
  case rest =>
    obtain ⟨rfl, rfl⟩ := hcut
    go_upto_if 10 with fail
    go_cut [1] (fun s1 wx => s1 = .int .i64 t ∧ wx = wc)
    case first =>
      go_wp2_with fail
      all_goals go_meet
      all_goals exact ⟨by rw [HT.out]; congr 1; unfold cutR; omega, rfl⟩
    case rest =>
      obtain ⟨rfl, rfl⟩ := hcut
      clear HT
      have c0 := H.out.c0
      have c1 := H.out.c1
      have c3 := H.out.c3
      have f0 := H.out.fr 0
      have f1 := H.out.fr 1
      have f3 := H.out.fr 3
      generalize w.heap.size + 1 = gr at *
      obtain ⟨gb, hgb⟩ : ∃ gb, w.heap.size = gb := ⟨_, rfl⟩
      rw [hgb] at H c0 c1 c3 f0 f1 f3 ⊢
      go_upto_if 13 with fail
      go_cut [5] (fun s5 wx => Hid (Two w wx gb gr ⟨a, u, true, c.w⟩))
      case first =>
        cases hb : c.b with
        | true =>
          have x1 : a = c.s + (t - c.s / 8) := by rw [ha]; unfold smoothR; rw [hb]; rfl
          have x2 : u = c.v - c.v / 4 + max (t - c.s / 8) (-(t - c.s / 8)) := by rw [hu]; unfold swingR; rw [hb]; rfl
          rw [hb] at c3
          clear ha hu
          have X2 := Lib.hid x2
          clear x2
          have FN := Lib.hid (show Two w ((wc.setCell ⟨gb, 0, none⟩ (.int .i64 a)).setCell ⟨gb, 1, none⟩ (.int .i64 u)) gb gr ⟨a, u, true, c.w⟩ from (H.out.set 0 (.int .i64 a) (c' := ⟨a, c.v, c.b, c.w⟩) rfl).set 1 (.int .i64 u) (by unfold dv; rw [hb]; rfl))
          have t1 : Int.tdiv c.s 8 = c.s / 8 := Int.tdiv_eq_ediv_of_nonneg (by omega)
          have t2 : Int.tdiv c.v 4 = c.v / 4 := Int.tdiv_eq_ediv_of_nonneg (by omega)
          have z1 := IntWalk.i64_in (t - c.s / 8) (by omega)
          have z2 := IntWalk.i64_in (c.s + (t - c.s / 8)) (by omega)
          have z3 := IntWalk.i64_in (c.s / 8) (by omega)
          have z4 := IntWalk.i64_in (c.v / 4) (by omega)
          have z5 := IntWalk.i64_in (c.v - c.v / 4) (by omega)
          go_upto_if 32 with fail
          rw [← x1]
          have H1 := Lib.hid (show Two w (wc.setCell ⟨gb, 0, none⟩ (.int .i64 a)) gb gr ⟨a, c.v, true, c.w⟩ from H.out.set 0 (.int .i64 a) (by unfold dv; rw [hb]; rfl))
          generalize wc.setCell ⟨gb, 0, none⟩ (.int .i64 a) = W1 at *
          clear H c0 c1 c3 f0 f1 f3 x1 z2
          have c1 := H1.out.c1
          have f1 := H1.out.fr 1
          generalize hd : t - c.s / 8 = d at *
          have z6 := IntWalk.i64_in (-d) (by omega)
          obtain ⟨m, hm⟩ : ∃ m, m = max d (-d) := ⟨_, rfl⟩
          rw [← hm] at X2
          have HM := Lib.hid hm
          have z7 : IntKind.i64.wrap (c.v - c.v / 4 + m) = u := by rw [IntWalk.i64_in _ (by have := X2.out; omega)]; exact X2.out.symm
          clear hm hd
          go_cut [5] (fun s5 wx => s5 = .int .i64 m ∧ wx = W1)
          case first =>
            go_wp2_with fail
            all_goals go_meet
            all_goals exact ⟨by rw [HM.out]; congr 1; omega, rfl⟩
          case rest =>
            obtain ⟨rfl, rfl⟩ := hcut
            go_wp2_with fail
            go_meet
            exact FN
        | false =>
          have x1 : 8 * t = a := by rw [ha]; unfold smoothR; rw [hb]; show _ = t * 8; omega
          have x2 : 2 * t = u := by rw [hu]; unfold swingR; rw [hb]; show _ = t * 2; omega
          rw [hb] at c3
          clear ha hu
          have z1 : IntKind.i64.wrap (8 * t) = a := by rw [IntWalk.i64_in _ (by omega)]; exact x1
          have z2 : IntKind.i64.wrap (2 * t) = u := by rw [IntWalk.i64_in _ (by omega)]; exact x2
          have FN := Lib.hid (show Two w (((wc.setCell ⟨gb, 0, none⟩ (.int .i64 a)).setCell ⟨gb, 1, none⟩ (.int .i64 u)).setCell ⟨gb, 3, none⟩ (.bool true)) gb gr ⟨a, u, true, c.w⟩ from ((H.out.set 0 (.int .i64 a) (c' := ⟨a, c.v, c.b, c.w⟩) rfl).set 1 (.int .i64 u) (c' := ⟨a, u, c.b, c.w⟩) rfl).set 3 (.bool true) rfl)
          clear x1 x2 T
          go_wp2_with fail
          go_meet
          exact FN
      case rest =>
        have H2 := hcut
        clear hcut H c0 c1 c3 f0 f1 f3
        have c0 := H2.out.c0
        have c1 := H2.out.c1
        have c2 := H2.out.c2
        have f2 := H2.out.fr 2
        have t1 : Int.tdiv a 8 = a / 8 := Int.tdiv_eq_ediv_of_nonneg (by omega)
        have z3 := IntWalk.i64_in (a / 8) (by omega)
        obtain ⟨mu, hmu⟩ : ∃ mu, mu = max 1 u := ⟨_, rfl⟩
        rw [← hmu] at E
        have z4 := IntWalk.i64_in (a / 8 + mu) (by omega)
        have HM := Lib.hid hmu
        clear hmu ha hu hgb
        go_upto_if 47 with fail
        go_cut [6] (fun s6 wx => s6 = .int .i64 mu ∧ wx = wc)
        case first =>
          go_wp2_with fail
          all_goals go_meet
          all_goals exact ⟨by rw [HM.out]; congr 1; omega, rfl⟩
        case rest =>
          obtain ⟨rfl, rfl⟩ := hcut
          have FN := Lib.hid (show ∀ (q : Int), q = cutR (a / 8 + mu) 2 64 → Two w (wc.setCell ⟨gb, 2, none⟩ (.int .i64 q)) gb gr r from by
            intro q hq
            rw [E.out, ← hq]
            exact H2.out.set 2 _ rfl)
          obtain ⟨q, hq⟩ : ∃ q, q = cutR (a / 8 + mu) 2 64 := ⟨_, rfl⟩
          have H3 := Lib.hid (FN.out q hq)
          have EN := Lib.hid (fun W => ends_any (a / 8 + mu) W)
          rw [← hq] at EN
          clear FN hq E H2 HM
          go_wp2_with fail
          refine (EN.out _).mono ?_; rintro e w' ⟨rfl, rfl⟩
          go_upto_region 18 with fail
          generalize w'.setCell ⟨gb, 2, none⟩ (.int .i64 q) = W3 at *
          obtain ⟨old, K, z⟩ := H3.out.room
          have KK := Lib.hid K
          have GB := Lib.hid H3.out.box
          have BX := H3.out.below
          have BB := Lib.hid (below_setRow BX H3.out.own.2.1 (dv r))
          have KR := Lib.hid (K.setRow (dv r))
          clear K BX
          go_wp2_with (first
            | (refine wpList_load_row rfl 27 (.tmp 2) rfl gb rfl 27 _ (0, 0) _ GB.out Try.underlying27 rfl d_info ?_)
            | (refine wpList_store_row rfl 27 (.tmp 4) (.tmp 55) rfl gr (dv r) rfl rfl 27 old KK.out d_info z (by simp [dv, Value.oneCell']) ?_)
            | fail)
          refine bodyPost_ret (v := .agg (dv r)) ?_ rfl ?_
          · exact results_cell_row Try.results12 _ _ gr 27 _ (0, 0) _ rfl KR.out Try.underlying27 rfl d_info
          exact ⟨rfl, BB.out⟩

set_option maxRecDepth 100000 in
theorem alive_any (w : World) : Calls Try.prog 6 #[] w fun e w' => e = .returned (.bool true) ∧ Below w.heap.size w w' := by
  have s1 : Sm (backR k0) := sm_back sm_0
  go_enter Try.func6, Try.ntmps6
  go_wp2_with fail
  refine (new_any w).mono ?_; rintro e w1 ⟨rfl, h1⟩
  have H1 := Lib.hid h1
  clear h1
  go_wp2_with fail
  refine (show Calls _ _ _ _ (fun e w' => e = .returned (.int .i64 4) ∧ w' = w1) from wait_any H1.out).mono ?_; rintro e w' ⟨rfl, rfl⟩
  go_wp2_with fail
  refine (back_any H1.out sm_0).mono ?_; rintro e w2 ⟨rfl, h2, _⟩
  have H2 := Lib.hid h2
  clear h2 H1
  go_wp2_with fail
  refine (show Calls _ _ _ _ (fun e w' => e = .returned (.int .i64 8) ∧ w' = w2) from wait_any H2.out).mono ?_; rintro e w' ⟨rfl, rfl⟩
  go_wp2_with fail
  refine (sample_any H2.out s1 10).mono ?_; rintro e w3 ⟨rfl, h3, _⟩
  have H3 := Lib.hid h3
  clear h3 H2
  go_wp2_with fail
  refine (show Calls _ _ _ _ (fun e w' => e = .returned (.tuple #[.int .i64 80, .int .i64 20]) ∧ ∃ m, w' = w3.drewN m) from smooth_any H3.out).mono ?_; rintro e w' ⟨rfl, m, rfl⟩
  have H4 := Lib.hid (H3.out.drewN m)
  clear H3
  go_wp2_with fail
  refine (show Calls _ _ _ _ (fun e w' => e = .returned (.int .i64 30) ∧ w' = w3.drewN m) from wait_any H4.out).mono ?_; rintro e w' ⟨rfl, rfl⟩
  go_wp2
  go_ret
  exact ⟨rfl, H4.out.below⟩
end Go.Proofs.Ytlekcbgpjeiolaa.Rt
