/- Whatever bytes and calls come in, 'pantlerlaw02.OctetReads' returns true and leaves them as they were. No condition. -/
import Derived.Test.YtflbckeebmlofaaDoorActs
import Derived.Deep.RegionWith
import Derived.Deep.RegionHeld3
import Derived.Deep.RegionLaw
import Derived.Deep.DeepCutAuto
import Derived.Deep.QuietTactic
import Derived.BigQuiet
namespace Go.Proofs.YtflbckeebmlofaaDoor.octetReads
open Go.ChangeShapes Go.WideShapes Go.ChangeAt Go.RowKit Go.Deep
set_option linter.unusedVariables false


theorem cell_keep {w w' : World} (hb : Below w.heap.size w w') {p : Addr} {v : Value} (h : w.cell? p = some v) : w'.cell? p = some v := by
  have hlt : p.block < w.heap.size := by
    unfold World.cell? at h
    cases hh : w.heap[p.block]? with
    | none => simp only [hh] at h; cases h
    | some ob => exact (Array.getElem?_eq_some_iff.1 hh).1
  rw [World.cell?_of_block (hb.block _ hlt)]
  exact h
theorem frozen_keep {w w' : World} (hb : Below w.heap.size w w') {p : Addr} {v : Value} {f : Bool} (h : w.cell? p = some v) (hf : w.frozen? p = f) : w'.frozen? p = f := by
  have hlt : p.block < w.heap.size := by
    unfold World.cell? at h
    cases hh : w.heap[p.block]? with
    | none => simp only [hh] at h; cases h
    | some ob => exact (Array.getElem?_eq_some_iff.1 hh).1
  rw [World.frozen?_of_block (hb.block _ hlt)]
  exact hf

set_option maxRecDepth 100000 in
set_option maxHeartbeats 4000000 in
theorem walk (w : World) (hv : Vars w) (A : Option Addr) (n c : Nat) (l : List UInt8) (hb : Src w A n c l) (Aa : Option Addr) (na ca : Nat) (f : Nat → Int × Bool) (ha : Acts w Aa na f) :
    Calls Tryd.prog 4 #[.slice A n c, .slice Aa na ca] w fun e w' => e = .returned (.bool true) ∧ Below w.heap.size w w' := by
  by_cases hn : n ≤ 2000 ∧ na ≤ 100
  · obtain ⟨hn1, hn2⟩ := hn
    have g1 : ¬ (n : Int) > 2000 := by omega
    have g2 : ¬ (na : Int) > 100 := by omega
    have hlen := hb.len
    go_enter Tryd.func4, Tryd.ntmps4
    go_wp2_with fail
    refine (alive_any _ hv).mono ?_; rintro e w1 ⟨rfl, b1⟩
    have hb1 := Lib.hid (hb.below b1)
    have B1 := Lib.hid b1
    have HA := Lib.hid ha
    clear b1 hb ha hv
    go_wp2_with fail
    refine (new_any A n c l _ hb1.out (by omega)).mono ?_; rintro e w2 ⟨g, rfl, hE, hg, b2⟩
    have hts := told_str (hb1.out.below b2)
    have B2 := Lib.hid (B1.out.trans (b2.mono B1.out.size))
    have s2 := Nat.le_trans B1.out.size b2.size
    have hg0 : w.heap.size ≤ g := Nat.le_trans B1.out.size hE.1
    have hE0 : EyeAt w2 w.heap.size g l 0 := ⟨hg0, hE.2⟩
    have HE := Lib.hid ((hE0.older (older_alloc w2 (.cells #[.string ⟨l.toArray⟩, .int .i64 0] 35))))
    have KM := Lib.hid (Blk.new w2 35 #[.string ⟨l.toArray⟩, .int .i64 0])
    have B3 := Lib.hid (B2.out.alloc s2 (.cells #[.string ⟨l.toArray⟩, .int .i64 0] 35))
    clear b2 hE hE0 hb1 B2
    go_wp2
    go_loopw [7] (fun i wr => ∃ (j : Nat) (s : List UInt8) (err : Int), j ≤ na ∧ i = .int .i64 (j : Int) ∧ EyeAt wr w.heap.size g s err ∧ (err ≠ 0 → s = []) ∧ Blk wr w2.heap.size 35 #[.string ⟨s.toArray⟩, .int .i64 err] ∧ Below w.heap.size w wr) (fun i _ => na - (intOf i).toNat)
    case atStart => exact ⟨0, l, 0, Nat.zero_le _, rfl, HE.out, fun h => absurd rfl h, KM.out, B3.out⟩
    case round =>
      obtain ⟨j, s, err, hj, rfl, hE, hi, hk, hbel⟩ := hrel
      have HE2 := Lib.hid hE
      have HK := Lib.hid hk
      have HI := Lib.hid hi
      have HBEL := Lib.hid hbel
      have c0 := hk.cell 0
      have c1 := hk.cell 1
      have f0 := hk.frozen 0
      have f1 := hk.frozen 1
      simp only [List.getElem?_toArray, List.getElem?_cons_zero, List.getElem?_cons_succ] at c0 c1
      clear hE hi hk hbel HE KM B3
      by_cases hlt : j < na
      · have hlt' : (j : Int) < na := by omega
        have j0 : (0 : Int) ≤ j := by omega
        have x2 := IntWalk.i64_in ((j : Int) + 1) (by omega)
        obtain ⟨b, o, rfl, _, a0, a1⟩ := HA.out.older (older_below HBEL.out) j hlt
        generalize hfj : f j = act at *
        obtain ⟨num, isn⟩ := act
        simp only at a0 a1
        have fin0 : ∀ wt : World, Below wr.heap.size wr.drew wt → EyeAt ((wt.setCell ⟨w2.heap.size, 0, none⟩ (.string ⟨(takeR s err num isn).2.1.toArray⟩)).setCell ⟨w2.heap.size, 1, none⟩ (.int .i64 (takeR s err num isn).2.2)) w.heap.size g s err ∧ Blk ((wt.setCell ⟨w2.heap.size, 0, none⟩ (.string ⟨(takeR s err num isn).2.1.toArray⟩)).setCell ⟨w2.heap.size, 1, none⟩ (.int .i64 (takeR s err num isn).2.2)) w2.heap.size 35 #[.string ⟨(takeR s err num isn).2.1.toArray⟩, .int .i64 (takeR s err num isn).2.2] ∧ Below w.heap.size w ((wt.setCell ⟨w2.heap.size, 0, none⟩ (.string ⟨(takeR s err num isn).2.1.toArray⟩)).setCell ⟨w2.heap.size, 1, none⟩ (.int .i64 (takeR s err num isn).2.2)) := by
          intro wt bt
          have o1 : Older wr wt := ⟨bt.size, bt.block⟩
          refine ⟨((HE2.out.older o1).far hg 0 _).far hg 1 _, ?_, ?_⟩
          · have := ((HK.out.older o1).put 0 (.string ⟨(takeR s err num isn).2.1.toArray⟩)).put 1 (.int .i64 (takeR s err num isn).2.2)
            simpa using this
          · have b1 : Below w.heap.size w wt := HBEL.out.trans ((Below.drew (Below.refl wr.heap.size wr)).trans bt |>.mono HBEL.out.size)
            exact (b1.setCell (p := ⟨w2.heap.size, 0, none⟩) s2 _).setCell (p := ⟨w2.heap.size, 1, none⟩) s2 _
        have FIN := Lib.hid fin0
        clear fin0
        have a2 := a0
        have a3 := a1
        go_upto_region 11 with fail
        go_cut [8] (fun s8 wx => s8 = .string ⟨(takeR s err num isn).1.toArray⟩ ∧ EyeAt wx w.heap.size g s err ∧ Blk wx w2.heap.size 35 #[.string ⟨(takeR s err num isn).2.1.toArray⟩, .int .i64 (takeR s err num isn).2.2] ∧ Below w.heap.size w wx)
        case first =>
          go_region_law (first | (go_simp; go_at_call 11; refine (take_any s err num isn _).mono ?_; rintro e wt ⟨rfl, bt⟩; have t0 := cell_keep bt (p := ⟨w2.heap.size, 0, none⟩) (v := .string ⟨s.toArray⟩) (by simp [*]); have t1 := cell_keep bt (p := ⟨w2.heap.size, 1, none⟩) (v := .int .i64 err) (by simp [*]); have t4 := frozen_keep bt (p := ⟨w2.heap.size, 0, none⟩) (v := .string ⟨s.toArray⟩) (f := false) (by simp [*]) (by simp [*]); have t5 := frozen_keep bt (p := ⟨w2.heap.size, 1, none⟩) (v := .int .i64 err) (f := false) (by simp [*]) (by simp [*])))
          all_goals (go_wp2_with fail; go_meet; exact ⟨rfl, FIN.out _ bt⟩)
        case rest =>
          obtain ⟨rfl, hE3, hk3, hb3⟩ := hcut
          have HE3 := Lib.hid hE3
          have HK3 := Lib.hid hk3
          have HB3 := Lib.hid hb3
          clear hE3 hk3 hb3
          clear c0 c1 f0 f1 a0 a1 a2 a3 FIN HE2 HK HBEL
          obtain ⟨b', o', e', _, a0, a1⟩ := HA.out.older (older_below HB3.out) j hlt
          cases e'
          rw [hfj] at a0 a1
          simp only at a0 a1
          have hlens := takeR_len s err num isn
          have hinv := takeR_inv s err num isn HI.out
          have HINV := Lib.hid hinv
          clear hinv
          go_upto_if 51 with fail
          go_cut [] (fun wy => EyeAt wy w.heap.size g (takeR s err num isn).2.1 (takeR s err num isn).2.2 ∧ Blk wy w2.heap.size 35 #[.string ⟨(takeR s err num isn).2.1.toArray⟩, .int .i64 (takeR s err num isn).2.2] ∧ Below w.heap.size w wy)
          case first =>
            have hr8 := hlens.2.2
            have kb : ∀ wz : World, wc.grownBy wz (some g) → Blk wz w2.heap.size 35 #[.string ⟨(takeR s err num isn).2.1.toArray⟩, .int .i64 (takeR s err num isn).2.2] ∧ Below w.heap.size w wz := fun wz hz =>
              ⟨grown_blk hz (by omega) HK3.out, HB3.out.trans (grown_below hz hg0 HB3.out.size)⟩
            have KB := Lib.hid kb
            clear kb hlens
            cases isn with
            | true =>
              have r8 := hr8 rfl
              clear hr8
              go_wp2_with fail
              refine (num_any w.heap.size g s err num _ HE3.out HI.out).mono ?_; rintro e wn ⟨rfl, hE4, hg4⟩
              have HE4 := Lib.hid hE4
              have HG4 := Lib.hid hg4
              clear hE4 hg4 HE3
              go_wp2_with fail
              refine (refNum_any _ r8 _).mono ?_; rintro e wq ⟨rfl, rfl⟩
              go_wp2_with fail
              go_meet
              exact ⟨HE4.out, KB.out _ HG4.out⟩
            | false =>
              clear hr8
              go_wp2_with fail
              refine (bytes_any w.heap.size g s err num _ HE3.out HI.out).mono ?_; rintro e wn ⟨A9, c9, rfl, hs9, hE4, hg4⟩
              have HE4 := Lib.hid hE4
              have HG4 := Lib.hid hg4
              have t9 := told_str hs9
              clear hE4 hg4 HE3 hs9
              go_wp2_with fail
              go_meet
              exact ⟨HE4.out, KB.out _ HG4.out⟩
          case rest =>
            obtain ⟨hE5, hk5, hb5⟩ := hcut
            have HE5 := Lib.hid hE5
            have HK5 := Lib.hid hk5
            have HB5 := Lib.hid hb5
            have c0 := hk5.cell 0
            have c1 := hk5.cell 1
            simp only [List.getElem?_toArray, List.getElem?_cons_zero, List.getElem?_cons_succ] at c0 c1
            clear hE5 hk5 hb5 a0 a1 HE3 HK3 HB3 hlens
            generalize (takeR s err num isn) = t at *
            obtain ⟨t1, t2, e2⟩ := t
            simp only at c0 c1
            by_cases h0 : e2 = 0
            · subst h0
              by_cases hl0 : 0 < t2.length
              · have hl1 : (t2.length : Int) > 0 := by omega
                have hd : doneOf t2 0 = 50 := by simp [doneOf, hl0]
                have DN := Lib.hid (show ∀ q, Calls Tryd.prog 17 #[.pointer (some ⟨g, 0, none⟩)] (wc.drewN q) fun e w' => e = .returned (.int .i64 50) ∧ w' = wc.drewN q from fun q => by have hq := done_any w.heap.size g t2 0 (wc.drewN q) (HE5.out.older ⟨Nat.le_refl _, fun _ _ => rfl⟩); rw [hd] at hq; exact hq)
                go_wp2
                go_quiet (first
                              | (go_at_call 15; exact Calls.quiet_of_same (rest_any w.heap.size g t2 0 _ (HE5.out.older ⟨Nat.le_refl _, fun _ _ => rfl⟩)))
                              | (go_at_call 16; exact Calls.quiet_of_same (err_any w.heap.size g t2 0 _ (HE5.out.older ⟨Nat.le_refl _, fun _ _ => rfl⟩)))
                              | (go_at_call 17; exact Calls.quiet_of_same (DN.out _)))
                go_wp2
                go_roundw
                case rel => exact ⟨j + 1, t2, 0, by omega, by simp, HE5.out.older ⟨Nat.le_refl _, fun _ _ => rfl⟩, HINV.out, HK5.out.drewN _, below_drewN HB5.out _⟩
                case measure => simp [intOf]; omega
              · have hl1 : ¬ (t2.length : Int) > 0 := by omega
                have hd : doneOf t2 0 = 0 := by simp [doneOf, hl0]
                have DN := Lib.hid (show ∀ q, Calls Tryd.prog 17 #[.pointer (some ⟨g, 0, none⟩)] (wc.drewN q) fun e w' => e = .returned (.int .i64 0) ∧ w' = wc.drewN q from fun q => by have hq := done_any w.heap.size g t2 0 (wc.drewN q) (HE5.out.older ⟨Nat.le_refl _, fun _ _ => rfl⟩); rw [hd] at hq; exact hq)
                go_wp2
                go_quiet (first
                              | (go_at_call 15; exact Calls.quiet_of_same (rest_any w.heap.size g t2 0 _ (HE5.out.older ⟨Nat.le_refl _, fun _ _ => rfl⟩)))
                              | (go_at_call 16; exact Calls.quiet_of_same (err_any w.heap.size g t2 0 _ (HE5.out.older ⟨Nat.le_refl _, fun _ _ => rfl⟩)))
                              | (go_at_call 17; exact Calls.quiet_of_same (DN.out _)))
                go_wp2
                go_roundw
                case rel => exact ⟨j + 1, t2, 0, by omega, by simp, HE5.out.older ⟨Nat.le_refl _, fun _ _ => rfl⟩, HINV.out, HK5.out.drewN _, below_drewN HB5.out _⟩
                case measure => simp [intOf]; omega
            · have hd : doneOf t2 e2 = e2 := by simp [doneOf, h0]
              have DN := Lib.hid (show ∀ q, Calls Tryd.prog 17 #[.pointer (some ⟨g, 0, none⟩)] (wc.drewN q) fun e w' => e = .returned (.int .i64 e2) ∧ w' = wc.drewN q from fun q => by have hq := done_any w.heap.size g t2 e2 (wc.drewN q) (HE5.out.older ⟨Nat.le_refl _, fun _ _ => rfl⟩); rw [hd] at hq; exact hq)
              go_wp2
              go_quiet (first
                            | (go_at_call 15; exact Calls.quiet_of_same (rest_any w.heap.size g t2 e2 _ (HE5.out.older ⟨Nat.le_refl _, fun _ _ => rfl⟩)))
                            | (go_at_call 16; exact Calls.quiet_of_same (err_any w.heap.size g t2 e2 _ (HE5.out.older ⟨Nat.le_refl _, fun _ _ => rfl⟩)))
                            | (go_at_call 17; exact Calls.quiet_of_same (DN.out _)))
              go_wp2
              go_roundw
              case rel => exact ⟨j + 1, t2, e2, by omega, by simp, HE5.out.older ⟨Nat.le_refl _, fun _ _ => rfl⟩, HINV.out, HK5.out.drewN _, below_drewN HB5.out _⟩
              case measure => simp [intOf]; omega
      · have hge : ¬ (j : Int) < na := by omega
        have N1 : ∀ W, Calls Tryd.prog 12 #[.pointer none, .int .i64 1] W fun e w' => e = .returned (.int .u64 0) ∧ w' = W := fun W =>
          num_from none 1 W [] (fun w' => w' = W) (by simp) ((next_nil 1 1 8 W).mono fun e w' ⟨h1, h2⟩ => ⟨none, 0, h1, Src.nil _, h2⟩)
        have N2 : ∀ W, Calls Tryd.prog 14 #[.pointer none, .int .i64 1] W fun e w' => ∃ A c, e = .returned (.slice A 0 c) ∧ Below W.heap.size W w' := fun W =>
          (bytes_from none 1 W [] (fun w' => w' = W) (by simp) ((next_nil 1 0 1 W).mono fun e w' ⟨h1, h2⟩ => ⟨none, 0, h1, Src.nil _, h2⟩)).mono fun e w' ⟨A, c, w1, h1, _, h3, h4⟩ => ⟨A, c, h1, by rw [h3] at h4; exact h4⟩
        have N1 := Lib.hid N1
        have N2 := Lib.hid N2
        clear c0 c1
        go_wp2_with fail
        refine (N1.out _).mono ?_; rintro e wq ⟨rfl, rfl⟩
        go_wp2_with fail
        refine (N2.out _).mono ?_; rintro e w5 ⟨A5, c5, rfl, b5⟩
        have B5 := Lib.hid (HBEL.out.trans (b5.mono HBEL.out.size))
        clear b5
        go_wp2_with fail
        refine (rest_nil _).mono ?_; rintro e wq ⟨rfl, rfl⟩
        go_wp2_with fail
        refine (err_nil _).mono ?_; rintro e wq ⟨rfl, rfl⟩
        go_wp2_with fail
        refine (done_nil _).mono ?_; rintro e wq ⟨rfl, rfl⟩
        go_wp2
        go_ret
        exact ⟨rfl, B5.out⟩
  · go_enter Tryd.func4, Tryd.ntmps4
    by_cases h1 : n ≤ 2000
    · have g1 : ¬ (n : Int) > 2000 := by omega
      have g2 : (na : Int) > 100 := by omega
      clear hn
      go_wp2_with fail
      refine (alive_any _ hv).mono ?_; rintro e w1 ⟨rfl, b1⟩
      have B1 := Lib.hid b1
      clear b1
      go_wp2
      go_ret
      exact ⟨rfl, B1.out⟩
    · have g1 : (n : Int) > 2000 := by omega
      clear hn
      go_wp2_with fail
      refine (alive_any _ hv).mono ?_; rintro e w1 ⟨rfl, b1⟩
      have B1 := Lib.hid b1
      clear b1
      go_wp2
      go_ret
      exact ⟨rfl, B1.out⟩

set_option maxRecDepth 100000 in
theorem reads (os : Os) {H : Type} (enc : TypeId × Value → H) : DataW.whole enc Tryd.prog ((World.laidAll Tryd.prog os Rows.octetReadsRow.laid).forCall (fun _ _ => 0) ⟨#[], #[.slice none 0 0, .slice none 0 0], []⟩).memory Tryd.f4.params.toList Rows.octetReadsSpec.vars false (#[.slice none 0 0, .slice none 0 0] : Array Value).toList 8 = some ([.nil, .nil], [], []) := by kernel_rfl
set_option maxRecDepth 100000 in
theorem lifted (os : Os) (started : os.Started) (H : Type) (enc : TypeId × Value → H) (F : Stop.Interp) :
    ReturnsInHanded {} Tryd.checked os 4 .any ((OpenSpec.ofChange Rows.octetReadsSpec).preRow enc Tryd.prog Tryd.f4 Rows.octetReadsRow.domain false Rows.octetReadsRow.laid) (((OpenSpec.ofChange Rows.octetReadsSpec).at F).post enc Tryd.prog Tryd.f4 false true false false) := by
  refine returnsInHanded_of_row (C := Tryd.checked) (s := OpenSpec.ofChange Rows.octetReadsSpec) own started (by kernel_rfl) Tryd.func4
    ⟨World.laidAll Tryd.prog os Rows.octetReadsRow.laid, fun _ _ => 0, ⟨#[], #[.slice none 0 0, .slice none 0 0], []⟩, World.laidAll_os _ _ _, World.shaped_of_ZipB (by kernel_rfl) (by kernel_rfl), rfl, (Input.okWide_of_okWideB (by kernel_rfl)).2,
      OpenSpec.preRow_of_cond 8 (reads os enc) (by kernel_rfl) (fun k hk => by cases hk) (by kernel_rfl) (by rw [MakeChecks.laidMetH_plain _ _ _ (by kernel_rfl)]; exact laidMet_laidAll _ (by kernel_rfl) (by kernel_rfl)), by simp [Assume.holds]⟩ ?_
  intro W base args ds gs before hval0 hW _ _ _ hL hsh _
  have hval : ∀ (j : Nat) t v, Tryd.f4.params[j]? = some t → args[j]? = some v → Value.okWide Tryd.prog W .any base t v := hval0
  have hvars : Vars W := Vars.of hL hsh
  have hW' := hW
  obtain ⟨p, q, hA0, hV, rfl, hfz, hnd⟩ := hW
  have hA : DataW.TrodAll enc Tryd.prog W 0 (fun _ => true) true Tryd.f4.params.toList args.toList ds p := hA0
  rw [Tryd.params4] at hA hval
  obtain ⟨v0, vs0, d0, ds0, p0, q0, hargs, rfl, rfl, h0, r0⟩ := trodAll_cons hA
  obtain ⟨v1, vs1, d1, ds1, p1, q1, rfl, rfl, rfl, h1, r1⟩ := trodAll_cons r0
  obtain ⟨rfl, rfl, rfl⟩ := trodAll_nil r1
  obtain rfl : args = #[v0, v1] := by cases args; simp_all
  obtain ⟨A0, n0, c0, l0, rfl, b0⟩ := open_src Tryd.underlying22 Tryd.underlying5 (by kernel_rfl) (hval 0 22 v0 rfl rfl) h0
  obtain ⟨A1, n1, c1, f1, rfl, b1⟩ := open_acts Tryd.underlying31 Tryd.underlying39 (by kernel_rfl) rfl rfl (by kernel_rfl) (by kernel_rfl) Tryd.underlying3 Tryd.underlying4 (hval 1 31 v1 rfl rfl) h1
  clear hA0 hval0
  exact law_close hW' laidOut (by kernel_rfl) rfl Tryd.underlying4 rfl ⟨rfl, rfl, rfl⟩ (walk W hvars A0 n0 c0 l0 b0 A1 n1 c1 f1 b1)

theorem over : Rows.octetReadsRow.holds Tryd.pinned (OpenSpec.ofChange Rows.octetReadsSpec) :=
  OpenClaim.holds_of_cond 4 Tryd.f4 rfl rfl rfl rfl rfl rfl rfl ⟨rfl, rfl, rfl, rfl, rfl⟩ rfl rfl rfl rfl rfl (by kernel_rfl) Tryd.func4 (by kernel_rfl)
    (of_decide_eq_true (by kernel_rfl)) (by unfold Func.isWrapper; first | (rw [if_pos (by decide +kernel)]; kernel_rfl) | (rw [if_neg (by decide +kernel)]; exact ⟨rfl, rfl⟩))
    (fun os started H enc _ F => by rw [OpenClaim.pre_eq_preRow]; exact lifted os started H enc F)

theorem plain (f : FuncId) (fn : Func) (hf : Tryd.pinned.checked.prog.funcNamed "pantler/pantlerlaw02.OctetReads" = some f) (hfn : Tryd.pinned.checked.prog.funcs[f]? = some fn) :
    Rows.octetReadsCard.stood.looks = Tryd.pinned.checked.prog.looks [] ∧ ∀ (j : Nat) t, fn.params[j]? = some t → Tryd.pinned.checked.prog.wantsStandIn t = false := by
  obtain rfl : f = 4 := Option.some.inj ((show Tryd.prog.funcNamed "pantler/pantlerlaw02.OctetReads" = some 4 by kernel_rfl).symm.trans hf) |>.symm
  obtain rfl : fn = Tryd.f4 := (Option.some.inj (Tryd.func4.symm.trans hfn)).symm
  refine ⟨by kernel_rfl, fun j t ht => ?_⟩
  rw [Tryd.params4] at ht
  have hm : t ∈ [22, 31] := by simpa using Array.mem_of_getElem? ht
  have hall : ([22, 31].all fun u => !Tryd.prog.wantsStandIn u) = true := by kernel_rfl
  exact (show Tryd.prog.wantsStandIn t = false by simpa using List.all_eq_true.1 hall t hm)

theorem proved : Rows.OctetReadsCardSaid :=
  Claim7.holds_tied_plain_at .later [] _ _ _ _ over (fun _ h => by cases h) (by kernel_rfl) (fun _ h => by cases h) octetReads_row_tie rfl ⟨rfl, rfl⟩ (by kernel_rfl) rfl plain (by kernel_rfl)

end Go.Proofs.YtflbckeebmlofaaDoor.octetReads
