/- Whatever calls and block come in, 'pantlerlaw06.DiskOwners' returns true and leaves them as they were. No condition. -/
import Derived.Test.YtdnlhfoninhcaaaDkX
import Derived.Deep.RegionWith
import Derived.Deep.RegionHeld3
import Derived.Deep.RegionLaw
import Derived.Deep.DeepCutAuto
import Derived.Deep.CutBlock
import Derived.Deep.QuietTactic
import Derived.BigQuiet
namespace Go.Proofs.Ytdnlhfoninhcaaa.diskOwners
open Go.ChangeShapes Go.WideShapes Go.ChangeAt Go.RowKit Go.Deep Di
set_option linter.unusedVariables false


structure Tw (d : Dk) : Prop where
  n : d.blocks.length = 12
  on : d.on = true
  arm : d.armed = -1
def cells12 (t : Nat → Nat) : Array Value := ((List.range 12).map fun i => Value.int .i64 (t i : Int)).toArray
theorem cells12_get (t : Nat → Nat) {k : Nat} (hk : k < 12) : (cells12 t)[k]? = some (.int .i64 (t k : Int)) := by
  unfold cells12
  rw [List.getElem?_toArray, List.getElem?_map, List.getElem?_range hk]; rfl
theorem cells12_congr {t t' : Nat → Nat} (h : ∀ b, b < 12 → t b = t' b) : cells12 t = cells12 t' := by
  unfold cells12
  congr 1
  apply List.map_congr_left
  intro b hb
  rw [h b (List.mem_range.1 hb)]
theorem cells12_set (t : Nat → Nat) {k : Nat} (hk : k < 12) (v : Nat) : (cells12 t).setIfInBounds k (.int .i64 (v : Int)) = cells12 (fun i => if i = k then v else t i) := by
  apply Array.ext_getElem?
  intro i
  by_cases hi : i < 12
  · rw [Array.getElem?_setIfInBounds, cells12_get _ hi, cells12_get _ hi]
    by_cases e : k = i
    · subst e; rw [if_pos rfl, if_pos (by simp [cells12, hk])]; simp
    · rw [if_neg e, if_neg (fun e' => e e'.symm)]
  · rw [Array.getElem?_eq_none (by simp [cells12]; omega), Array.getElem?_eq_none (by simp [cells12]; omega)]
/-- The owners, as the law lays them one behind the other. -/
def mid (d : Dk) (e f q : Nat) : Nat → Nat := fun b => if f ≤ b ∧ b < q then e else d.own b
theorem mid_start (d : Dk) (e f : Nat) : cells12 (mid d e f f) = cells12 d.own := cells12_congr (fun b _ => by unfold mid; rw [if_neg (by omega)])
theorem mid_step (d : Dk) (e f : Nat) {q : Nat} (hq : f ≤ q) (hq2 : q < 12) : (cells12 (mid d e f q)).setIfInBounds q (.int .i64 (e : Int)) = cells12 (mid d e f (q + 1)) := by
  rw [cells12_set _ hq2]
  apply cells12_congr
  intro b _
  unfold mid
  by_cases e1 : b = q
  · subst e1; rw [if_pos rfl, if_pos ⟨hq, by omega⟩]
  · rw [if_neg e1]
    by_cases e2 : f ≤ b ∧ b < q
    · rw [if_pos e2, if_pos ⟨e2.1, by omega⟩]
    · rw [if_neg e2, if_neg (by omega)]
theorem mid_end {d : Dk} (e : Nat) {f n : Nat} (h : d.Ok) (hf : f + n ≤ d.blocks.length) : cells12 (mid d e f (f + n)) = cells12 (granted d e f n).own := by
  apply cells12_congr
  intro b _
  show _ = (lent d.owners f n e).getD b 0
  rw [lent_get (by rw [h.ow]; exact hf)]
  rfl
def Inv (fn : Nat → Cmd) (B OB g : Nat) (w : World) (j : Nat) (wr : World) : Prop :=
  ∃ d : Dk, Tw d ∧ d.exts.length ≤ j ∧ d.line.length = 0 ∧ OwnX B (fun k => k = OB) wr g d ∧ Blk wr OB 48 (cells12 d.own) ∧ Below B w wr
theorem Inv.next {fn : Nat → Cmd} {B OB g : Nat} {w wr : World} {j : Nat} {d : Dk} (h1 : Tw d) (h2 : d.exts.length ≤ j + 1) (h3 : d.line.length = 0) (h5 : OwnX B (fun k => k = OB) wr g d) (h6 : Blk wr OB 48 (cells12 d.own)) (h7 : Below B w wr) : Inv fn B OB g w (j + 1) wr := ⟨d, h1, h2, h3, h5, h6, h7⟩
theorem tw_own {d : Dk} (h : Tw d) (env : Int) (b : Nat) (hb : b < 12) (he : env ≠ 0) : askE d env (b : Int) = if (d.own b : Int) = env then 0 else 20 := by
  unfold askE
  rw [if_neg (by rw [h.on]; decide), if_neg (by rw [h.n]; omega), Int.toNat_natCast]
  by_cases e : (d.own b : Int) = env
  · rw [if_pos ⟨e, he⟩, if_pos e]
  · rw [if_neg (fun h => e h.1), if_neg e]
theorem tw_read_yes {d : Dk} (h : Tw d) (env : Int) (b : Nat) (hb : b < 12) (he : env ≠ 0) (e : (d.own b : Int) = env) : readR d env (b : Int) = (see d b, 0) := by
  unfold readR
  rw [tw_own h env b hb he, if_pos e, Int.toNat_natCast]; rfl
theorem tw_read_no {d : Dk} (h : Tw d) (env : Int) (b : Nat) (hb : b < 12) (he : env ≠ 0) (e : ¬ (d.own b : Int) = env) : readR d env (b : Int) = ([], 20) := by
  unfold readR
  rw [tw_own h env b hb he, if_neg e]; rfl
theorem tw_write_yes {d : Dk} (h : Tw d) (env : Int) (b : Nat) (hb : b < 12) (he : env ≠ 0) (e : (d.own b : Int) = env) : writeR d env (b : Int) zeros = (laid d b zeros, 0) := by
  unfold writeR
  have h0 : askE d env (b : Int) = 0 := by rw [tw_own h env b hb he, if_pos e]
  rw [if_pos h0, if_pos (show zeros.length = 256 from List.length_replicate), if_neg (by rw [h.arm]; decide), Int.toNat_natCast]
theorem tw_write_no {d : Dk} (h : Tw d) (env : Int) (b : Nat) (hb : b < 12) (he : env ≠ 0) (e : ¬ (d.own b : Int) = env) : writeR d env (b : Int) zeros = (d, 20) := by
  unfold writeR
  rw [tw_own h env b hb he, if_neg e]; rfl
theorem Tw.laid {d : Dk} (h : Tw d) (b : Nat) (s : List UInt8) : Tw (laid d b s) := ⟨h.n, h.on, by show (if d.armed = -1 then -1 else d.armed - 1) = -1; rw [if_pos h.arm]⟩
theorem laid_line (d : Dk) (b : Nat) (s : List UInt8) : (laid d b s).line.length = d.line.length + 1 := by simp [laid]

set_option maxRecDepth 100000 in
set_option maxHeartbeats 4000000 in
theorem walk (w : World) (Aa : Option Addr) (na ca : Nat) (fn : Nat → Cmd) (ha : Acts w Aa na fn) (bi : Int) (wb : (Lit.int .u8 bi).wf = true) :
    Calls Try.prog 5 #[.slice Aa na ca, .int .u8 bi] w fun e w' => e = .returned (.bool true) ∧ Below w.heap.size w w' := by
  obtain ⟨bn, rfl, hbn⟩ := wf_u8 wb
  have xb : IntKind.i64.wrap (bn : Int) = bn := IntWalk.i64_in _ (by omega)
  obtain ⟨kb, hkb, hm1, hm2⟩ : ∃ kb : Nat, kb < 12 ∧ (bn : Int).tmod 12 = (kb : Int) ∧ (bn : Int) % 12 = (kb : Int) := ⟨bn % 12, Nat.mod_lt _ (by decide), by rw [Int.tmod_eq_emod_of_nonneg (by omega)]; omega, by omega⟩
  have HA := Lib.hid ha
  clear ha wb
  by_cases hfar : isFar na fn
  · have FAR := Lib.hid (fun W A n c fn (h : Acts W A n fn) (hf : isFar n fn) => far_any W A n c fn h true (by simp [hf]))
    have HF := Lib.hid hfar
    clear hfar
    go_enter Try.func5, Try.ntmps5
    go_wp2_with fail
    refine (alive_any _).mono ?_; rintro e w0 ⟨rfl, b0⟩
    have B0 := Lib.hid b0
    have hw0 : w.heap.size ≤ w0.heap.size := b0.size
    clear b0
    go_wp2_with fail
    refine (FAR.out _ _ _ _ _ (HA.out.older (older_below B0.out)) HF.out).mono ?_; rintro e w2 ⟨rfl, rfl⟩
    go_wp2
    go_ret
    exact ⟨rfl, B0.out⟩
  · have FAR := Lib.hid (fun W A n c fn (h : Acts W A n fn) (hf : ¬ isFar n fn) => far_any W A n c fn h false (by simp [hf]))
    have HF := Lib.hid hfar
    have hna : na ≤ 100 := by
      by_cases h : na ≤ 100
      · exact h
      · exact absurd (.inl (by omega)) hfar
    clear hfar
    have NEW := Lib.hid (fun w => own_new 12 (by decide) (by decide) w)
    go_enter Try.func5, Try.ntmps5
    go_wp2_with fail
    refine (alive_any _).mono ?_; rintro e w0 ⟨rfl, b0⟩
    have B0 := Lib.hid b0
    have hw0 : w.heap.size ≤ w0.heap.size := b0.size
    clear b0
    go_wp2_with fail
    refine (FAR.out _ _ _ _ _ (HA.out.older (older_below B0.out)) HF.out).mono ?_; rintro e w2 ⟨rfl, rfl⟩
    go_wp2_with fail
    refine (NEW.out _).mono ?_; rintro e w3 ⟨rfl, t3, b3, -⟩
    have T3 := Lib.hid t3
    have B3 := Lib.hid (B0.out.trans (b3.mono hw0))
    have hl3 : w2.heap.size ≤ w3.heap.size := t3.lt
    clear t3 b3
    have INI : Hid (Inv fn w.heap.size w3.heap.size (w2.heap.size + 1) w 0 (w3.alloc (.cells #[.int .i64 0, .int .i64 0, .int .i64 0, .int .i64 0, .int .i64 0, .int .i64 0, .int .i64 0, .int .i64 0, .int .i64 0, .int .i64 0, .int .i64 0, .int .i64 0] 48))) := Lib.hid (by
      have hx : OwnX w.heap.size (fun k => k = w3.heap.size) (w3.alloc (.cells #[.int .i64 0, .int .i64 0, .int .i64 0, .int .i64 0, .int .i64 0, .int .i64 0, .int .i64 0, .int .i64 0, .int .i64 0, .int .i64 0, .int .i64 0, .int .i64 0] 48)) (w2.heap.size + 1) (newD 12) := by
        obtain ⟨F, hd, hF⟩ := T3.out.ex
        exact ((OwnX.of (Own.of hd (fun k hk => Nat.le_trans hw0 (hF k hk)) (Nat.le_trans hw0 hl3))).more _).less (fun i hi => .inr hi)
      have ec : cells12 (newD 12).own = #[.int .i64 0, .int .i64 0, .int .i64 0, .int .i64 0, .int .i64 0, .int .i64 0, .int .i64 0, .int .i64 0, .int .i64 0, .int .i64 0, .int .i64 0, .int .i64 0] := by kernel_rfl
      exact ⟨newD 12, ⟨by kernel_rfl, rfl, rfl⟩, Nat.le_refl _, rfl, hx, by rw [ec]; exact Blk.new w3 _ _, B3.out.trans (((Below.refl _ w3).alloc (Nat.le_refl _) _).mono (Nat.le_trans hw0 hl3))⟩)
    generalize hgs : w2.heap.size = gs at *
    generalize hlb : w3.heap.size = OB at *
    clear hgs B0 FAR HF NEW T3 B3
    go_wp2
    go_loopw [8] (fun i wr => ∃ (j : Nat), j ≤ na ∧ i = .int .i64 (j : Int) ∧ Inv fn w.heap.size OB (gs + 1) w j wr) (fun i _ => na - (intOf i).toNat)
    case atStart => exact ⟨0, Nat.zero_le _, rfl, INI.out⟩
    case round =>
      clear INI hlb
      obtain ⟨j, hj, rfl, d, htw, he, hline, hX, hT, hbel⟩ := hrel
      have TW := Lib.hid htw
      have OKD := Lib.hid hX.ok
      have HX := Lib.hid hX
      have HT := Lib.hid hT
      have HB := Lib.hid hbel
      have hgsz : w.heap.size ≤ wr.heap.size := hX.lt
      have hOB : OB < wr.heap.size := hX.xl OB rfl
      clear htw hX hT hbel
      by_cases hlt : j < na
      · have hlt' : (j : Int) < na := by omega
        have j0 : (0 : Int) ≤ j := by omega
        have xj := IntWalk.i64_in ((j : Int) + 1) (by omega)
        obtain ⟨bb, o, rfl, hbl, hr, ok⟩ := HA.out.older (older_below HB.out) j hlt
        have HAJ := Lib.hid (fun (W : World) (hb : Below w.heap.size w W) => (HA.out.older (older_below hb)) j hlt)
        generalize fn j = act at *
        obtain ⟨kind, env, a, b, s⟩ := act
        have hr' : wr.rangeAt bb (o + j * 5) [.int .i64 kind, .int .i64 env, .int .i64 a, .int .i64 b, .string s] := hr
        have c0 : wr.cell? ⟨bb, o + j * 5, none⟩ = some (.int .i64 kind) := by
          have := hr' 0 _ rfl
          rwa [Nat.add_zero] at this
        have c1 : wr.cell? ⟨bb, o + j * 5 + 1, none⟩ = some (.int .i64 env) := hr' 1 _ rfl
        have c2 : wr.cell? ⟨bb, o + j * 5 + 2, none⟩ = some (.int .i64 a) := hr' 2 _ rfl
        have c3 : wr.cell? ⟨bb, o + j * 5 + 3, none⟩ = some (.int .i64 b) := hr' 3 _ rfl
        have WA := Lib.hid (show -9223372036854775808 ≤ a ∧ a ≤ 9223372036854775807 from ok.a)
        clear hr hr' ok
        by_cases k0 : kind = 0
        · subst k0
          have GR0 := Lib.hid (ownx_grant (HX.out.drewN 1) env a b WA.out (by omega))
          by_cases hn : noGrant d env a b
          · have er : grantR d env a b = (d, 1) := by unfold grantR; rw [if_pos hn]
            have GR := GR0
            rw [er] at GR
            clear er hn GR0
            go_wp2_with fail
            refine wp_region_still_tail 16 (by kernel_rfl) (by kernel_rfl) ?_
            change wpStill _ _ wr.drew (fun a' => wpList _ _ _ _ a' wr.drew) _ _
            simp only [List.take_succ_cons, List.take_zero, List.drop_succ_cons, List.drop_zero]
            repeat still_step
            refine wpStill_nil ?_
            go_wp2_with fail
            refine GR.out.mono ?_; rintro e w4 ⟨rfl, hx4, k4⟩
            have HX4 := Lib.hid hx4
            have ht4 := HT.out.chg ((Chg.refl wr (Rest w.heap.size (fun k => k = OB))).drew.trans k4) (fun h => h.2 rfl)
            have HT4 := Lib.hid ht4
            have HB4 := Lib.hid (HB.out.trans (Rest.below ((Chg.refl wr (Rest w.heap.size (fun k => k = OB))).drew.trans k4) hgsz))
            clear hx4 ht4 k4
            have REL := Lib.hid (show Inv fn w.heap.size OB (gs + 1) w (j + 1) w4 from Inv.next TW.out (by omega) hline HX4.out HT4.out HB4.out)
            go_wp2
            go_roundw
            case rel => exact ⟨j + 1, by omega, by simp, REL.out⟩
            case measure => simp [intOf]; omega
          · have hn' := hn
            unfold noGrant at hn'
            obtain ⟨e0, rfl⟩ : ∃ e0 : Nat, env = (e0 : Int) := ⟨env.toNat, by omega⟩
            obtain ⟨f, rfl⟩ : ∃ f : Nat, a = (f : Int) := ⟨a.toNat, by omega⟩
            obtain ⟨n, rfl⟩ : ∃ n : Nat, b = (n : Int) := ⟨b.toNat, by omega⟩
            have hdn := TW.out.n
            have hfn : f + n ≤ 12 := by omega
            have xfn := IntWalk.i64_in ((f : Int) + (n : Int)) (by omega)
            by_cases hbz : busy d f n = true
            · have er : grantR d (e0 : Int) (f : Int) (n : Int) = (d, 20) := by unfold grantR; rw [if_neg hn]; simp only [Int.toNat_natCast]; rw [if_pos hbz]
              have GR := GR0
              rw [er] at GR
              clear er hn hn' GR0 hbz hdn
              go_wp2_with fail
              refine wp_region_still_tail 16 (by kernel_rfl) (by kernel_rfl) ?_
              change wpStill _ _ wr.drew (fun a' => wpList _ _ _ _ a' wr.drew) _ _
              simp only [List.take_succ_cons, List.take_zero, List.drop_succ_cons, List.drop_zero]
              repeat still_step
              refine wpStill_nil ?_
              go_wp2_with fail
              refine GR.out.mono ?_; rintro e w4 ⟨rfl, hx4, k4⟩
              have HX4 := Lib.hid hx4
              have ht4 := HT.out.chg ((Chg.refl wr (Rest w.heap.size (fun k => k = OB))).drew.trans k4) (fun h => h.2 rfl)
              have HT4 := Lib.hid ht4
              have HB4 := Lib.hid (HB.out.trans (Rest.below ((Chg.refl wr (Rest w.heap.size (fun k => k = OB))).drew.trans k4) hgsz))
              clear hx4 ht4 k4
              have REL := Lib.hid (show Inv fn w.heap.size OB (gs + 1) w (j + 1) w4 from Inv.next TW.out (by omega) hline HX4.out HT4.out HB4.out)
              go_wp2
              go_roundw
              case rel => exact ⟨j + 1, by omega, by simp, REL.out⟩
              case measure => simp [intOf]; omega
            · have er : grantR d (e0 : Int) (f : Int) (n : Int) = (granted d e0 f n, 0) := by unfold grantR; rw [if_neg hn]; simp only [Int.toNat_natCast]; rw [if_neg hbz]
              have GR := GR0
              rw [er] at GR
              have BS := Lib.hid (show busy d f n = false by simpa using hbz)
              clear er hn hn' GR0 hbz hdn
              go_wp2_with fail
              refine wp_region_still_tail 16 (by kernel_rfl) (by kernel_rfl) ?_
              change wpStill _ _ wr.drew (fun a' => wpList _ _ _ _ a' wr.drew) _ _
              simp only [List.take_succ_cons, List.take_zero, List.drop_succ_cons, List.drop_zero]
              repeat still_step
              refine wpStill_nil ?_
              go_wp2_with fail
              refine GR.out.mono ?_; rintro e w4 ⟨rfl, hx4, k4⟩
              have HX4 := Lib.hid hx4
              have ht4 := HT.out.chg ((Chg.refl wr (Rest w.heap.size (fun k => k = OB))).drew.trans k4) (fun h => h.2 rfl)
              have HT4 := Lib.hid ht4
              have HB4 := Lib.hid (HB.out.trans (Rest.below ((Chg.refl wr (Rest w.heap.size (fun k => k = OB))).drew.trans k4) hgsz))
              clear hx4 ht4 k4
              obtain ⟨bq, oq, eq, _, hr4, _⟩ := HAJ.out _ HB4.out
              cases eq
              have hr4' : w4.rangeAt bb (o + j * 5) [.int .i64 0, .int .i64 (e0 : Int), .int .i64 (f : Int), .int .i64 (n : Int), .string s] := hr4
              have d2 : w4.cell? ⟨bb, o + j * 5 + 2, none⟩ = some (.int .i64 (f : Int)) := hr4' 2 _ rfl
              clear hr4 hr4' c0 c1 c2 c3
              go_wp2
              go_loopw [9] (fun i wi => ∃ (q : Nat), f ≤ q ∧ q ≤ f + n ∧ i = .int .i64 (q : Int) ∧ OwnX w.heap.size (fun k => k = OB) wi (gs + 1) (granted d e0 f n) ∧ Blk wi OB 48 (cells12 (mid d e0 f q)) ∧ Below w.heap.size w wi) (fun i _ => f + n - (intOf i).toNat)
              case atStart => exact ⟨f, Nat.le_refl _, by omega, rfl, HX4.out, by rw [mid_start]; exact HT4.out, HB4.out⟩
              case round =>
                clear HX4 HT4 HB4 d2
                obtain ⟨q, hq1, hq2, rfl, hXi, hTi, hBi⟩ := hrel
                obtain ⟨bq, oq, eq, _, hr5, _⟩ := HAJ.out _ hBi
                cases eq
                have hr5' : wr.rangeAt bb (o + j * 5) [.int .i64 0, .int .i64 (e0 : Int), .int .i64 (f : Int), .int .i64 (n : Int), .string s] := hr5
                have u1 : wr.cell? ⟨bb, o + j * 5 + 1, none⟩ = some (.int .i64 (e0 : Int)) := hr5' 1 _ rfl
                have u2 : wr.cell? ⟨bb, o + j * 5 + 2, none⟩ = some (.int .i64 (f : Int)) := hr5' 2 _ rfl
                have u3 : wr.cell? ⟨bb, o + j * 5 + 3, none⟩ = some (.int .i64 (n : Int)) := hr5' 3 _ rfl
                have HXi := Lib.hid hXi
                have HTi := Lib.hid hTi
                have HBi := Lib.hid hBi
                have hszi : w.heap.size ≤ wr.heap.size := hXi.lt
                clear hXi hTi hBi hr5 hr5'
                by_cases hq : q < f + n
                · have hql : (q : Int) < (f : Int) + (n : Int) := by omega
                  have q0 : (0 : Int) ≤ (q : Int) := by omega
                  have q12 : (q : Int) < 12 := by omega
                  have xq := IntWalk.i64_in ((q : Int) + 1) (by omega)
                  have own0 : mid d e0 f q q = 0 := by unfold mid; rw [if_neg (by omega)]; exact busy_no BS.out hq1 hq
                  have tc := cells12_get (mid d e0 f q) (show q < 12 by omega)
                  rw [own0] at tc
                  have c6 : wr.cell? ⟨OB, q, none⟩ = some (.int .i64 0) := by rw [HTi.out.cell]; exact tc
                  have f6 := HTi.out.frozen q
                  have t7 := HTi.out.put q (.int .i64 (e0 : Int))
                  rw [mid_step d e0 f hq1 (by omega)] at t7
                  have k7 : ∀ m : Nat, Chg wr ((wr.drewN m).setCell ⟨OB, q, none⟩ (.int .i64 (e0 : Int))) (fun k => k = OB) := fun m => ((Chg.refl wr _).drewN m).trans (Chg.set _ _ _ rfl)
                  have FIN := Lib.hid (fun m : Nat => show OwnX w.heap.size (fun k => k = OB) ((wr.drewN m).setCell ⟨OB, q, none⟩ (.int .i64 (e0 : Int))) (gs + 1) (granted d e0 f n) ∧ Blk ((wr.drewN m).setCell ⟨OB, q, none⟩ (.int .i64 (e0 : Int))) OB 48 (cells12 (mid d e0 f (q + 1))) ∧ Below w.heap.size w ((wr.drewN m).setCell ⟨OB, q, none⟩ (.int .i64 (e0 : Int))) from
                    ⟨HXi.out.grow (k7 m) (fun i hi => .inl hi) (fun i hi => by have := HXi.out.xl i hi; simpa [World.setCell] using this), by
                      have := (HTi.out.drewN m).put q (.int .i64 (e0 : Int))
                      rw [mid_step d e0 f hq1 (by omega)] at this
                      exact this, HBi.out.trans ((k7 m).below hszi (fun i hi => by have hi' : i = OB := hi; omega))⟩)
                  clear t7 k7 own0 tc
                  go_wp2_with fail
                  go_quiet (fail)


                  go_wp2
                  go_roundw
                  case rel => exact ⟨q + 1, by omega, by omega, by simp, FIN.out _⟩
                  case measure => simp [intOf]; omega
                · have hqg : ¬ (q : Int) < (f : Int) + (n : Int) := by omega
                  obtain rfl : q = f + n := by omega
                  have REL := Lib.hid (fun m : Nat => show Inv fn w.heap.size OB (gs + 1) w (j + 1) (wr.drewN m) from Inv.next (d := granted d e0 f n) ⟨TW.out.n, TW.out.on, TW.out.arm⟩ (by show (d.exts ++ [_]).length ≤ _; simp; omega) hline (HXi.out.drewN m) (by
                    have := HTi.out
                    rw [mid_end e0 OKD.out (by rw [TW.out.n]; omega)] at this
                    exact this.drewN m) (below_drewN HBi.out m))
                  go_wp2_with fail
                  go_quiet (fail)
                  go_wp2
                  go_roundw
                  case rel => exact ⟨j + 1, by omega, by simp, REL.out _⟩
                  case measure => simp [intOf]; omega
        · have k0' : (kind == 0) = false := by simpa using k0
          have REL := Lib.hid (show Inv fn w.heap.size OB (gs + 1) w (j + 1) wr from Inv.next TW.out (by omega) hline HX.out HT.out HB.out)
          clear k0
          go_wp2
          go_roundw
          case rel => exact ⟨j + 1, by omega, by simp, REL.out⟩
          case measure => simp [intOf]; omega
      · have hge : ¬ (j : Int) < na := by omega
        have hdone : True := trivial
        go_wp2
        go_loopw [11] (fun i wq => ∃ (v : Nat) (d' : Dk), 1 ≤ v ∧ v ≤ 3 ∧ i = .int .i64 (v : Int) ∧ Tw d' ∧ (∀ b, d'.own b = d.own b) ∧ d'.line.length < v ∧ OwnX w.heap.size (fun k => k = OB) wq (gs + 1) d' ∧ Blk wq OB 48 (cells12 d.own) ∧ Below w.heap.size w wq) (fun i _ => 3 - (intOf i).toNat)
        case atStart => exact ⟨1, d, by omega, by omega, rfl, TW.out, fun b => rfl, by omega, HX.out, HT.out, HB.out⟩
        case round =>
          obtain ⟨v, d', hv1, hv3, rfl, htw, hown, hln, hX, hT, hBel⟩ := hrel
          have TW2 := Lib.hid htw
          have OWN := Lib.hid hown
          have HX2 := Lib.hid hX
          have HT2 := Lib.hid hT
          have HB2 := Lib.hid hBel
          have hq2 := hX.lt
          clear htw hown hX hT hBel
          by_cases hv : v ≤ 2
          · have v2 : (v : Int) ≤ 2 := by omega
            have xv := IntWalk.i64_in ((v : Int) + 1) (by omega)
            have vne : (v : Int) ≠ 0 := by omega
            have kk0 : (0 : Int) ≤ (kb : Int) := by omega
            have kk12 : (kb : Int) < 12 := by omega
            have RD := Lib.hid (ownx_read HX2.out (v : Int) (kb : Int))
            have mk := fun W => make256 W
            have WRT := Lib.hid (fun (W : World) (h : OwnX w.heap.size (fun k => k = OB) W (gs + 1) d') => ownx_write_new h ((Below.refl _ W).alloc (Nat.le_refl _) (.cells (madeCells #[.int .u8 0] 256) 5)) (v : Int) (kb : Int) _ _ _ zeros (made256 W) (fun b o e => by cases e; exact Nat.le_refl _) (by omega))
            have AL := Lib.hid (fun (W : World) => (Below.refl W.heap.size W).alloc (Nat.le_refl _) (.cells (madeCells #[.int .u8 0] 256) 5))
            generalize madeCells #[.int .u8 0] 256 = Z at *
            by_cases ho : (d'.own kb : Int) = (v : Int)
            · rw [tw_read_yes TW2.out _ kb hkb vne ho] at RD
              rw [tw_write_yes TW2.out _ kb hkb vne ho] at WRT
              have hov : d.own kb = v := by rw [← OWN.out kb]; omega
              clear ho
              go_wp2_with fail
              refine RD.out.mono ?_; rintro e w5 ⟨A5, c5, rfl, s5, b5⟩
              have HX5 := Lib.hid (HX2.out.new b5)
              have HT5 := Lib.hid (HT2.out.older (older_below b5))
              have HB5 := Lib.hid (HB2.out.trans (b5.mono hq2))
              clear s5 b5
              go_wp2_with fail
              refine (WRT.out _ HX5.out).mono ?_; rintro e w6 ⟨rfl, hx6, k6⟩
              have k60 := (Chg.of_new (AL.out w5) (Rest w.heap.size (fun k => k = OB))).trans k6
              have ht6 := HT5.out.chg k60 (fun h => h.2 rfl)
              have tc := cells12_get d.own hkb
              rw [hov] at tc
              have c6 : w6.cell? ⟨OB, kb, none⟩ = some (.int .i64 (v : Int)) := by rw [ht6.cell]; exact tc
              have REL := Lib.hid (show ∃ (v' : Nat) (d' : Dk), 1 ≤ v' ∧ v' ≤ 3 ∧ (.int .i64 ((v : Int) + 1) : Value) = .int .i64 (v' : Int) ∧ Tw d' ∧ (∀ b, d'.own b = d.own b) ∧ d'.line.length < v' ∧ OwnX w.heap.size (fun k => k = OB) w6 (gs + 1) d' ∧ Blk w6 OB 48 (cells12 d.own) ∧ Below w.heap.size w w6 from
                ⟨v + 1, laid d' kb zeros, by omega, by omega, by simp, TW2.out.laid _ _, OWN.out, by rw [laid_line]; omega, hx6, ht6, HB5.out.trans (Rest.below k60 HX5.out.lt)⟩)
              clear hx6 k6 k60 ht6 tc
              go_wp2
              go_roundw
              case rel => exact REL.out
              case measure => simp [intOf]; omega
            · rw [tw_read_no TW2.out _ kb hkb vne ho] at RD
              rw [tw_write_no TW2.out _ kb hkb vne ho] at WRT
              have hov : ¬ (d.own kb : Int) = (v : Int) := by rw [← OWN.out kb]; exact ho
              have hov' : ((d.own kb : Int) == (v : Int)) = false := beq_eq_false_iff_ne.2 hov
              clear ho
              go_wp2_with fail
              refine RD.out.mono ?_; rintro e w5 ⟨A5, c5, rfl, s5, b5⟩
              have HX5 := Lib.hid (HX2.out.new b5)
              have HT5 := Lib.hid (HT2.out.older (older_below b5))
              have HB5 := Lib.hid (HB2.out.trans (b5.mono hq2))
              clear s5 b5
              go_wp2_with fail
              refine (WRT.out _ HX5.out).mono ?_; rintro e w6 ⟨rfl, hx6, k6⟩
              have k60 := (Chg.of_new (AL.out w5) (Rest w.heap.size (fun k => k = OB))).trans k6
              have ht6 := HT5.out.chg k60 (fun h => h.2 rfl)
              have tc := cells12_get d.own hkb
              have c6 : w6.cell? ⟨OB, kb, none⟩ = some (.int .i64 (d.own kb : Int)) := by rw [ht6.cell]; exact tc
              have REL := Lib.hid (show ∃ (v' : Nat) (d' : Dk), 1 ≤ v' ∧ v' ≤ 3 ∧ (.int .i64 ((v : Int) + 1) : Value) = .int .i64 (v' : Int) ∧ Tw d' ∧ (∀ b, d'.own b = d.own b) ∧ d'.line.length < v' ∧ OwnX w.heap.size (fun k => k = OB) w6 (gs + 1) d' ∧ Blk w6 OB 48 (cells12 d.own) ∧ Below w.heap.size w w6 from
                ⟨v + 1, d', by omega, by omega, by simp, TW2.out, OWN.out, by omega, hx6, ht6, HB5.out.trans (Rest.below k60 HX5.out.lt)⟩)
              clear hx6 k6 k60 ht6 tc
              go_wp2
              go_roundw
              case rel => exact REL.out
              case measure => simp [intOf]; omega
          · have hge : ¬ (v : Int) ≤ 2 := by omega
            go_wp2
            go_ret
            exact ⟨rfl, HB2.out⟩

set_option maxRecDepth 100000 in
theorem lifted (os : Os) (started : os.Started) (H : Type) (enc : TypeId × Value → H) :
    ReturnsInHanded {} Try.checked os 5 .any (Rows.diskOwnersSpec.pre6 enc Try.prog Try.f5 Rows.diskOwnersRow.domain false) (Rows.diskOwnersSpec.post enc Try.prog Try.f5 false true false false) := by
  refine returnsInHanded_of_change (C := Try.checked) own started (by kernel_rfl) Try.func5
    (ChangeSpec.witness6 (enc := enc) (C := Try.checked) false ⟨#[], #[.slice none 0 0, .int .u8 0], []⟩ 8 (by kernel_rfl) (by kernel_rfl) (by kernel_rfl) (by kernel_rfl)) ?_
  intro W base args ds gs before hval0 hW hcnd _
  have hval : ∀ (j : Nat) t v, Try.f5.params[j]? = some t → args[j]? = some v → Value.okWide Try.prog W .any base t v := hval0
  have hW' := hW
  obtain ⟨p, q, hA0, hV, rfl, hfz, hnd⟩ := hW
  have hA : DataW.TrodAll enc Try.prog W 0 (fun _ => true) true Try.f5.params.toList args.toList ds p := hA0
  rw [Try.params5] at hA hval
  obtain ⟨v0, vs0, d0, ds0, p0, q0, hargs, rfl, rfl, h0, r0⟩ := trodAll_cons hA
  obtain ⟨v1, vs1, d1, ds1, p1, q1, rfl, rfl, rfl, h1, r1⟩ := trodAll_cons r0
  obtain ⟨rfl, rfl, rfl⟩ := trodAll_nil r1
  obtain rfl : args = #[v0, v1] := by cases args; simp_all
  obtain ⟨A0, n0, c0, f0, rfl, b0⟩ := open_acts Try.underlying22 Try.underlying34 (by kernel_rfl) rfl rfl rfl rfl rfl (by kernel_rfl) (by kernel_rfl) (by kernel_rfl) (by kernel_rfl) (by kernel_rfl) Try.underlying3 Try.underlying3 Try.underlying3 Try.underlying3 Try.underlying9 (hval 0 22 v0 rfl rfl) h0
  obtain ⟨a1, rfl, _, _, w1⟩ := open_int Try.underlying5 (hval 1 5 v1 rfl rfl) h1
  clear hA0 hval0
  exact law_close hW' laidOut (by kernel_rfl) rfl Try.underlying4 rfl ⟨rfl, rfl, rfl⟩ (walk W A0 n0 c0 f0 b0 a1 w1)

theorem over : Rows.diskOwnersRow.holds Try.pinned (OpenSpec.ofChange Rows.diskOwnersSpec) :=
  OpenClaim.holds_of_wide 5 Try.f5 rfl rfl rfl rfl rfl rfl rfl ⟨rfl, rfl, rfl, rfl, rfl⟩ rfl rfl rfl rfl rfl (by kernel_rfl) Try.func5 (by kernel_rfl)
    (of_decide_eq_true (by kernel_rfl)) (by unfold Func.isWrapper; first | (rw [if_pos (by decide +kernel)]; kernel_rfl) | (rw [if_neg (by decide +kernel)]; exact ⟨rfl, rfl⟩))
    (fun os started H enc _ => lifted os started H enc)

theorem proved : Rows.DiskOwnersSaid := over

end Go.Proofs.Ytdnlhfoninhcaaa.diskOwners
