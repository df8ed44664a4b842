/- Package disk: its small functions. Conditions: those that each states. -/
import Derived.Test.YthnpalcjfgbjeaaGreatDsk
import Derived.RegionTactic
import Derived.BigRegion
import Derived.WalkMore
import Derived.StillTailTactics
import Derived.Deep.QuietTactic
import Derived.BigQuiet
import Derived.Deep.OwnRows
import Derived.Deep.AppendLies
import Derived.Deep.RegionWith
import Derived.Deep.RegionHeld3
import Derived.Deep.RegionLaw
import Derived.Deep.DeepCutAuto
import Derived.Deep.CutBlock
import Derived.Great.BuildSlice
namespace Go.Proofs.YthnpalcjfgbjeaaGreat.Di
open Go.ChangeShapes Go.WideShapes Go.ChangeAt Go.RowKit Go.Deep
set_option linter.unusedVariables false

theorem has_any (x : Ex) (b : Nat) (hb : b ≤ 1000) (h1 : x.first ≤ 1000) (h2 : x.n ≤ 1000) (w : World) :
    Calls Tryz.prog 67 #[.agg #[.int .i64 (x.env : Int), .int .i64 (x.first : Int), .int .i64 (x.n : Int)], .int .i64 (b : Int)] w fun e w' => e = .returned (.bool (decide (x.has b))) ∧ Below w.heap.size w w' := by
  have B := Lib.hid ((Below.refl _ w).alloc (Nat.le_refl _) (.cells #[.int .i64 (x.env : Int), .int .i64 (x.first : Int), .int .i64 (x.n : Int)] 109))
  by_cases g1 : (b : Int) ≥ (x.first : Int)
  · have x0 : IntKind.i64.wrap ((b : Int) - (x.first : Int)) = (b : Int) - (x.first : Int) := IntWalk.i64_in _ (by omega)
    by_cases g2 : (b : Int) - (x.first : Int) < (x.n : Int)
    · have hv : decide (x.has b) = true := decide_eq_true (show x.has b from ⟨by omega, by omega⟩)
      rw [hv]
      generalize (x.first : Int) = a1 at *
      generalize (x.n : Int) = a2 at *
      generalize (x.env : Int) = a3 at *
      clear hv h1 h2 hb
      go_enter Tryz.func67, Tryz.ntmps67
      go_wp2
      go_ret
      exact ⟨rfl, B.out⟩
    · have hv : decide (x.has b) = false := decide_eq_false (fun h => by have := h.2; omega)
      rw [hv]
      have G3 := Lib.hid (decide_eq_false g2)
      generalize (x.first : Int) = a1 at *
      generalize (x.n : Int) = a2 at *
      generalize (x.env : Int) = a3 at *
      clear hv h1 h2 hb
      go_enter Tryz.func67, Tryz.ntmps67
      go_wp2
      go_ret
      exact ⟨by first | rfl | (rw [G3.out]), B.out⟩
  · have hv : decide (x.has b) = false := decide_eq_false (fun h => by have := h.1; omega)
    rw [hv]
    generalize (x.first : Int) = a1 at *
    generalize (x.n : Int) = a2 at *
    generalize (x.env : Int) = a3 at *
    clear hv h1 h2 hb
    go_enter Tryz.func67, Tryz.ntmps67
    go_wp2
    go_ret
    exact ⟨rfl, B.out⟩

section
variable {gb g cl ce : Nat} {Al Ae : Option Addr} {d : Dk} {w : World}
theorem heads (h : DskAt w gb g Al cl Ae ce d) : w.cell? ⟨g, 0, none⟩ = some (.slice (some ⟨gb, 0, none⟩) d.blocks.length d.blocks.length) ∧ w.cell? ⟨g, 1, none⟩ = some (.slice Al d.line.length cl) ∧ w.cell? ⟨g, 2, none⟩ = some (.slice Ae d.exts.length ce) ∧ w.cell? ⟨g, 3, none⟩ = some (.bool d.on) ∧ w.cell? ⟨g, 4, none⟩ = some (.int .i64 d.armed) :=
  ⟨h.head.cell 0, h.head.cell 1, h.head.cell 2, h.head.cell 3, h.head.cell 4⟩
theorem size_any (h : DskAt w gb g Al cl Ae ce d) :
    Calls Tryz.prog 39 #[.pointer (some ⟨g, 0, none⟩)] w fun e w' => e = .returned (.int .i64 (d.blocks.length : Int)) ∧ w' = w := by
  have c0 := (heads h).1
  clear h
  go_enter Tryz.func39, Tryz.ntmps39
  go_wp2
  go_ret
  exact ⟨rfl, rfl⟩
theorem ext_info : (Tryz.prog.info? 109).map (·.size) = some 3 := by kernel_rfl
set_option maxRecDepth 100000 in
theorem granted_v (h : DskAt w gb g Al cl Ae ce d) (b : Nat) (hb : b < d.blocks.length) (v : Bool) (hv : v = decide (d.own b ≠ 0)) :
    Calls Tryz.prog 40 #[.pointer (some ⟨g, 0, none⟩), .int .i64 (b : Int)] w fun e w' => e = .returned (.bool v) ∧ Below w.heap.size w w' := by
  have V := Lib.hid hv
  clear hv
  have c0 := (heads h).2.2.1
  have hlt : g < w.heap.size := h.head.lt
  have hok := h.ok
  have n2 := hok.n2
  have hel : d.exts.length ≤ 9223372036854775807 := by have := h.exts.capMax; unfold maxLen at this; omega
  have GR := Lib.hid (hok.gr hb)
  have H := Lib.hid h
  clear h
  go_enter Tryz.func40, Tryz.ntmps40
  go_wp2
  go_loopw [12] (fun i wr => ∃ (j : Nat), j ≤ d.exts.length ∧ i = .int .i64 (j : Int) ∧ Hid (∀ k (hk : k < d.exts.length), k < j → ¬ (d.exts[k]).has b) ∧ Below w.heap.size w wr) (fun i _ => d.exts.length - (intOf i).toNat)
  case atStart => exact ⟨0, Nat.zero_le _, rfl, Lib.hid (fun _ _ h => absurd h (by omega)), Below.refl _ _⟩
  case round =>
    obtain ⟨j, hj, rfl, NO, hbel⟩ := hrel
    by_cases hlt' : j < d.exts.length
    · have j1 : (j : Int) < (d.exts.length : Int) := by omega
      have j0 : (0 : Int) ≤ (j : Int) := by omega
      have xj := IntWalk.i64_in ((j : Int) + 1) (by omega)
      obtain ⟨l, rfl, hl, hr⟩ := (H.out.new hbel).ext hlt'
      have LD := Lib.hid hr
      have HB := Lib.hid hbel
      have hx := hok.ex _ (List.getElem_mem hlt')
      have HAS := Lib.hid (fun W => has_any d.exts[j] b (by omega) (by omega) (by omega) W)
      have hsz : w.heap.size ≤ wr.heap.size := hbel.size
      clear hr hbel hx
      have e0 : d.exts[j].cells = [.int .i64 (d.exts[j].env : Int), .int .i64 (d.exts[j].first : Int), .int .i64 (d.exts[j].n : Int)] := rfl
      have fin := (Below.refl wr.heap.size wr).alloc (Nat.le_refl _) (.cells #[.int .i64 (d.exts[j].env : Int), .int .i64 (d.exts[j].first : Int), .int .i64 (d.exts[j].n : Int)] 109)
      have FIN := Lib.hid (fun W2 (b2 : Below (wr.alloc (.cells #[.int .i64 (d.exts[j].env : Int), .int .i64 (d.exts[j].first : Int), .int .i64 (d.exts[j].n : Int)] 109)).heap.size (wr.alloc (.cells #[.int .i64 (d.exts[j].env : Int), .int .i64 (d.exts[j].first : Int), .int .i64 (d.exts[j].n : Int)] 109)) W2) => HB.out.trans ((fin.trans (b2.mono (by simp))).mono hsz))
      clear fin
      by_cases hh : (d.exts[j]).has b
      · have HV := Lib.hid (show v = true from V.out.trans (decide_eq_true (GR.out.1 ⟨_, List.getElem_mem hlt', hh⟩)))
        have hd : decide ((d.exts[j]).has b) = true := decide_eq_true hh
        rw [hd] at HAS
        clear hh hd
        generalize d.exts[j] = xj' at *
        go_wp2_with (first
          | (refine wpList_load_mid rfl 109 (.tmp 14) rfl l (j * 3) rfl _ _ LD.out Tryz.underlying109 rfl ext_info ?_)
          | fail)
        refine (HAS.out _).mono ?_; rintro e w2 ⟨rfl, b2⟩
        have B2 := Lib.hid (FIN.out _ b2)
        clear b2
        go_wp2
        go_ret
        exact ⟨by rw [HV.out]; rfl, B2.out⟩
      · have NO2 : Hid (∀ k (hk : k < d.exts.length), k < j + 1 → ¬ (d.exts[k]).has b) := Lib.hid (fun k hk h => by
          by_cases e : k = j
          · subst e; exact hh
          · exact NO.out k hk (by omega))
        have hd : decide ((d.exts[j]).has b) = false := decide_eq_false hh
        rw [hd] at HAS
        clear hh hd
        generalize d.exts[j] = xj' at *
        go_wp2_with (first
          | (refine wpList_load_mid rfl 109 (.tmp 14) rfl l (j * 3) rfl _ _ LD.out Tryz.underlying109 rfl ext_info ?_)
          | fail)
        refine (HAS.out _).mono ?_; rintro e w2 ⟨rfl, b2⟩
        have B2 := Lib.hid (FIN.out _ b2)
        clear b2
        go_wp2
        go_roundw
        case rel => exact ⟨j + 1, by omega, by simp, NO2, B2.out⟩
        case measure => simp [intOf]; omega
    · have hge : ¬ (j : Int) < (d.exts.length : Int) := by omega
      have HB := Lib.hid hbel
      have HV := Lib.hid (show v = false from V.out.trans (decide_eq_false (fun hn => by
        obtain ⟨x, hx, hh⟩ := GR.out.2 hn
        obtain ⟨k, hk, rfl⟩ := List.mem_iff_getElem.1 hx
        exact NO.out k hk (by omega) hh)))
      clear hbel
      go_wp2
      go_ret
      exact ⟨by rw [HV.out]; rfl, HB.out⟩
theorem granted_any (h : DskAt w gb g Al cl Ae ce d) (b : Nat) (hb : b < d.blocks.length) :
    Calls Tryz.prog 40 #[.pointer (some ⟨g, 0, none⟩), .int .i64 (b : Int)] w fun e w' => e = .returned (.bool (decide (d.own b ≠ 0))) ∧ Below w.heap.size w w' := granted_v h b hb _ rfl

set_option maxRecDepth 100000 in
theorem asked_off (h : DskAt w gb g Al cl Ae ce d) (env block : Int) (h0 : d.on = false) :
    Calls Tryz.prog 68 #[.pointer (some ⟨g, 0, none⟩), .int .i64 env, .int .i64 block] w fun e w' => e = .returned (.int .i64 30) ∧ w' = w := by
  have c3 := (heads h).2.2.2.1
  rw [h0] at c3
  clear h h0
  go_enter Tryz.func68, Tryz.ntmps68
  go_wp2
  go_ret
  exact ⟨rfl, rfl⟩
set_option maxRecDepth 100000 in
theorem asked_out (h : DskAt w gb g Al cl Ae ce d) (env block : Int) (h0 : d.on = true) (h1 : block < 0 ∨ (d.blocks.length : Int) ≤ block) :
    Calls Tryz.prog 68 #[.pointer (some ⟨g, 0, none⟩), .int .i64 env, .int .i64 block] w fun e w' => e = .returned (.int .i64 31) ∧ w' = w := by
  have c3 := (heads h).2.2.2.1
  rw [h0] at c3
  have SZ := Lib.hid (size_any h)
  clear h h0
  by_cases h2 : block < 0
  · clear h1
    go_enter Tryz.func68, Tryz.ntmps68
    go_wp2
    go_ret
    exact ⟨rfl, rfl⟩
  · have h3 : block ≥ (d.blocks.length : Int) := by omega
    clear h1
    go_enter Tryz.func68, Tryz.ntmps68
    go_wp2_with fail
    refine SZ.out.mono ?_; rintro e w1 ⟨rfl, rfl⟩
    go_wp2
    go_ret
    exact ⟨rfl, rfl⟩
set_option maxRecDepth 100000 in
set_option maxHeartbeats 2000000 in
theorem asked_in (h : DskAt w gb g Al cl Ae ce d) (env : Int) (b : Nat) (h0 : d.on = true) (hb : b < d.blocks.length) (v : Int) (hv : v = if (d.own b : Int) = env ∧ env ≠ 0 then 0 else 20) :
    Calls Tryz.prog 68 #[.pointer (some ⟨g, 0, none⟩), .int .i64 env, .int .i64 (b : Int)] w fun e w' => e = .returned (.int .i64 v) ∧ Below w.heap.size w w' := by
  have V := Lib.hid hv
  clear hv
  have c3 := (heads h).2.2.2.1
  rw [h0] at c3
  have c0 := (heads h).2.2.1
  have SZ := Lib.hid (size_any h)
  have hlt : g < w.heap.size := h.head.lt
  have hok := h.ok
  have n2 := hok.n2
  have hel : d.exts.length ≤ 9223372036854775807 := by have := h.exts.capMax; unfold maxLen at this; omega
  have MT : Hid ((∃ x ∈ d.exts, (x.env : Int) = env ∧ x.has b) ↔ (d.own b : Int) = env ∧ env ≠ 0) := Lib.hid (by
    constructor
    · rintro ⟨x, hx, h1, h2⟩
      have hx1 := (hok.ex x hx).1
      have := (hok.mt b hb x.env hx1).1 ⟨x, hx, rfl, h2⟩
      omega
    · rintro ⟨h1, h2⟩
      obtain ⟨x, hx, h3, h4⟩ := (hok.mt b hb (d.own b) (by omega)).2 rfl
      exact ⟨x, hx, by omega, h4⟩)
  have H := Lib.hid h
  have b1 : ¬ (b : Int) < 0 := by omega
  have b2 : ¬ (b : Int) ≥ (d.blocks.length : Int) := by omega
  have b3 : decide (d.blocks.length ≤ b) = false := decide_eq_false (by omega)
  clear h h0
  go_enter Tryz.func68, Tryz.ntmps68
  go_wp2_with fail
  refine SZ.out.mono ?_; rintro e w1 ⟨rfl, rfl⟩
  go_wp2
  go_loopw [29] (fun i wr => ∃ (j : Nat), j ≤ d.exts.length ∧ i = .int .i64 (j : Int) ∧ Hid (∀ k (hk : k < d.exts.length), k < j → ¬ ((d.exts[k].env : Int) = env ∧ (d.exts[k]).has b)) ∧ Below w1.heap.size w1 wr) (fun i _ => d.exts.length - (intOf i).toNat)
  case atStart => exact ⟨0, Nat.zero_le _, rfl, Lib.hid (fun _ _ h => absurd h (by omega)), Below.refl _ _⟩
  case round =>
    obtain ⟨j, hj, rfl, NO, hbel⟩ := hrel
    by_cases hlt' : j < d.exts.length
    · have j1 : (j : Int) < (d.exts.length : Int) := by omega
      have j0 : (0 : Int) ≤ (j : Int) := by omega
      have xj := IntWalk.i64_in ((j : Int) + 1) (by omega)
      obtain ⟨l, rfl, hl, hr⟩ := (H.out.new hbel).ext hlt'
      have LD := Lib.hid hr
      have HB := Lib.hid hbel
      have hx := hok.ex _ (List.getElem_mem hlt')
      have HAS := Lib.hid (fun W => has_any d.exts[j] b (by omega) (by omega) (by omega) W)
      have hsz : w1.heap.size ≤ wr.heap.size := hbel.size
      clear hr hbel hx
      have e0 : d.exts[j].cells = [.int .i64 (d.exts[j].env : Int), .int .i64 (d.exts[j].first : Int), .int .i64 (d.exts[j].n : Int)] := rfl
      have fin := (Below.refl wr.heap.size wr).alloc (Nat.le_refl _) (.cells #[.int .i64 (d.exts[j].env : Int), .int .i64 (d.exts[j].first : Int), .int .i64 (d.exts[j].n : Int)] 109)
      have FIN0 := Lib.hid (HB.out.trans (fin.mono hsz))
      have FIN := Lib.hid (fun W2 (b2 : Below (wr.alloc (.cells #[.int .i64 (d.exts[j].env : Int), .int .i64 (d.exts[j].first : Int), .int .i64 (d.exts[j].n : Int)] 109)).heap.size (wr.alloc (.cells #[.int .i64 (d.exts[j].env : Int), .int .i64 (d.exts[j].first : Int), .int .i64 (d.exts[j].n : Int)] 109)) W2) => HB.out.trans ((fin.trans (b2.mono (by simp))).mono hsz))
      clear fin
      by_cases he : (d.exts[j].env : Int) = env
      · by_cases hh : (d.exts[j]).has b
        · have HV := Lib.hid (show v = 0 from V.out.trans (if_pos (MT.out.1 ⟨_, List.getElem_mem hlt', he, hh⟩)))
          have hd : decide ((d.exts[j]).has b) = true := decide_eq_true hh
          rw [hd] at HAS
          subst he
          clear hh hd
          generalize d.exts[j] = xj' at *
          go_wp2_with (first
            | (refine wpList_load_mid rfl 109 (.tmp 31) rfl l (j * 3) rfl _ _ LD.out Tryz.underlying109 rfl ext_info ?_)
            | fail)
          refine (HAS.out _).mono ?_; rintro e w2 ⟨rfl, b2⟩
          have B2 := Lib.hid (FIN.out _ b2)
          clear b2
          go_wp2
          go_ret
          exact ⟨by rw [HV.out]; rfl, B2.out⟩
        · have NO2 : Hid (∀ k (hk : k < d.exts.length), k < j + 1 → ¬ ((d.exts[k].env : Int) = env ∧ (d.exts[k]).has b)) := Lib.hid (fun k hk h => by
            by_cases e : k = j
            · subst e; exact fun q => hh q.2
            · exact NO.out k hk (by omega))
          have hd : decide ((d.exts[j]).has b) = false := decide_eq_false hh
          rw [hd] at HAS
          subst he
          clear hh hd
          generalize d.exts[j] = xj' at *
          go_wp2_with (first
            | (refine wpList_load_mid rfl 109 (.tmp 31) rfl l (j * 3) rfl _ _ LD.out Tryz.underlying109 rfl ext_info ?_)
            | fail)
          refine (HAS.out _).mono ?_; rintro e w2 ⟨rfl, b2⟩
          have B2 := Lib.hid (FIN.out _ b2)
          clear b2
          go_wp2
          go_roundw
          case rel => exact ⟨j + 1, by omega, by simp, NO2, B2.out⟩
          case measure => simp [intOf]; omega
      · have NO2 : Hid (∀ k (hk : k < d.exts.length), k < j + 1 → ¬ ((d.exts[k].env : Int) = env ∧ (d.exts[k]).has b)) := Lib.hid (fun k hk h => by
          by_cases e : k = j
          · subst e; exact fun q => he q.1
          · exact NO.out k hk (by omega))
        have he' : ((d.exts[j].env : Int) == env) = false := by simpa using he
        clear he
        generalize d.exts[j] = xj' at *
        go_wp2_with (first
          | (refine wpList_load_mid rfl 109 (.tmp 31) rfl l (j * 3) rfl _ _ LD.out Tryz.underlying109 rfl ext_info ?_)
          | fail)
        go_roundw
        case rel => exact ⟨j + 1, by omega, by simp, NO2, FIN0.out⟩
        case measure => simp [intOf]; omega
    · have hge : ¬ (j : Int) < (d.exts.length : Int) := by omega
      have HB := Lib.hid hbel
      have HV := Lib.hid (show v = 20 from V.out.trans (if_neg (fun hn => by
        obtain ⟨x, hx, hh⟩ := MT.out.2 hn
        obtain ⟨k, hk, rfl⟩ := List.mem_iff_getElem.1 hx
        exact NO.out k hk (by omega) hh)))
      clear hbel
      go_wp2
      go_ret
      exact ⟨by rw [HV.out]; rfl, HB.out⟩
theorem asked_any (h : DskAt w gb g Al cl Ae ce d) (env block : Int) :
    Calls Tryz.prog 68 #[.pointer (some ⟨g, 0, none⟩), .int .i64 env, .int .i64 block] w fun e w' => e = .returned (.int .i64 (askE d env block)) ∧ Below w.heap.size w w' := by
  unfold askE
  by_cases h0 : d.on = false
  · rw [if_pos h0]
    exact (asked_off h env block h0).mono fun e w' ⟨a, b⟩ => ⟨a, by rw [b]; exact Below.refl _ _⟩
  · rw [if_neg h0]
    have h0' : d.on = true := by simpa using h0
    by_cases h1 : block < 0 ∨ (d.blocks.length : Int) ≤ block
    · rw [if_pos h1]
      exact (asked_out h env block h0' h1).mono fun e w' ⟨a, b⟩ => ⟨a, by rw [b]; exact Below.refl _ _⟩
    · rw [if_neg h1]
      obtain ⟨b, rfl⟩ : ∃ b : Nat, block = (b : Int) := ⟨block.toNat, by omega⟩
      rw [Int.toNat_natCast]
      exact asked_in h env b h0' (by omega) _ rfl
end
end Go.Proofs.YthnpalcjfgbjeaaGreat.Di

/- Package disk: New, Cut, Arm, Grant. Conditions: those that each states. -/
namespace Go.Proofs.YthnpalcjfgbjeaaGreat.Di
open Go.ChangeShapes Go.WideShapes Go.ChangeAt Go.RowKit Go.Deep
set_option linter.unusedVariables false

theorem page_info : (Tryz.prog.info? 140).map (fun i => (i.zero.map (·.cells), i.size, i.bytes)) = some (some (bys zeros).toArray, 256, 256) := by kernel_rfl
theorem make_pages (n : Nat) (hn : n ≤ 512) (W : World) :
    (Instr.makeSlice 103 (.int .i64 (n : Int)) (.int .i64 (n : Int))).run Tryz.prog W = .ok (.slice (some ⟨W.heap.size, 0, none⟩) n n) (W.alloc (.cells (madeCells (bys zeros).toArray (n * 256)) 140)) := by
  obtain ⟨i, hi, hs⟩ := Option.map_eq_some_iff.1 page_info
  simp only [Prod.mk.injEq] at hs
  obtain ⟨h0, h1, h2⟩ := hs
  obtain ⟨z, hz, hzc⟩ := Option.map_eq_some_iff.1 h0
  have hr := run_make (P := Tryz.prog) W 103 140 i z Tryz.underlying103 hi hz .i64 .i64 (n : Int) (n : Int) (by omega) (by omega) (by rw [h2]; omega) (by omega)
  simp only [h1, hzc, Int.toNat_natCast] at hr
  exact hr
theorem bys_zeros : bys zeros = List.replicate 256 (.int .u8 0) := by
  unfold bys zeros
  rw [List.map_replicate]; rfl
set_option maxRecDepth 100000 in
theorem made_blocks (n : Nat) : madeCells (bys zeros).toArray (n * 256) = (blocksC (List.replicate n zeros)).toArray := by
  have e1 : blocksC (List.replicate n zeros) = List.replicate (n * 256) (.int .u8 0) := by
    unfold blocksC
    rw [List.map_replicate, bys_zeros, List.flatten_replicate_replicate]
  rw [e1, bys_zeros]
  unfold madeCells
  apply Array.ext
  · rw [Array.size_map, Array.size_range, List.size_toArray, List.length_replicate]
  · intro i h1 h2
    have hs : (List.replicate 256 (Value.int .u8 0)).toArray.size = 256 := by rw [List.size_toArray, List.length_replicate]
    simp only [Array.getElem_map, Array.getElem_range, List.getElem_toArray, List.getElem_replicate, hs]
    have hi : i % 256 < (List.replicate 256 (Value.int .u8 0)).toArray.size := by rw [hs]; exact Nat.mod_lt _ (by decide)
    rw [getElem!_pos (List.replicate 256 (Value.int .u8 0)).toArray (i % 256) hi, List.getElem_toArray, List.getElem_replicate]

set_option maxRecDepth 100000 in
theorem new_ok (n : Nat) (w : World) (h1 : 1 ≤ n) (h2 : n ≤ 512) :
    Calls Tryz.prog 23 #[.int .i64 (n : Int)] w fun e w' => e = .returned (.tuple #[.pointer (some ⟨w.heap.size + 1, 0, none⟩), .int .i64 0]) ∧ DskAt w' w.heap.size (w.heap.size + 1) none 0 none 0 (newD n) ∧ Below w.heap.size w w' ∧ w'.heap.size = w.heap.size + 2 := by
  have g1 : ¬ (n : Int) < 1 := by omega
  have g2 : ¬ (n : Int) > 512 := by omega
  have fin : ∀ W1 W2 : World, W1 = w.alloc (.cells (madeCells (bys zeros).toArray (n * 256)) 140) → W2 = W1.alloc (.cells #[.slice (some ⟨w.heap.size, 0, none⟩) n n, .slice none 0 0, .slice none 0 0, .bool true, .int .i64 (-1)] 107) → DskAt W2 w.heap.size (w.heap.size + 1) none 0 none 0 (newD n) ∧ Below w.heap.size w W2 ∧ W2.heap.size = w.heap.size + 2 := by
    rintro W1 W2 rfl rfl
    refine ⟨⟨?_, ?_, RowW.nil _ _ _, RowW.nil _ _ _, by omega, inB_none _, inB_none _, inB_none _, inB_none _, fun b h => (inB_none _ h).elim, newD_ok h1 h2⟩, ((Below.refl _ w).alloc (Nat.le_refl _) _).alloc (by simp) _, by simp⟩
    · have := Blk.new (w.alloc (.cells (madeCells (bys zeros).toArray (n * 256)) 140)) 107 #[.slice (some ⟨w.heap.size, 0, none⟩) n n, .slice none 0 0, .slice none 0 0, .bool true, .int .i64 (-1)]
      simpa [newD] using this
    · have := (Blk.new w 140 (madeCells (bys zeros).toArray (n * 256))).alloc (.cells #[.slice (some ⟨w.heap.size, 0, none⟩) n n, .slice none 0 0, .slice none 0 0, .bool true, .int .i64 (-1)] 107)
      rw [made_blocks] at this ⊢
      exact this
  have FIN := Lib.hid fin
  have hm := fun W => make_pages n h2 W
  clear fin
  generalize madeCells (bys zeros).toArray (n * 256) = Z at *
  go_enter Tryz.func23, Tryz.ntmps23
  go_wp2
  go_ret2
  exact ⟨rfl, FIN.out _ _ rfl rfl⟩
theorem new_no (n : Int) (w : World) (h : n < 1 ∨ 512 < n) :
    Calls Tryz.prog 23 #[.int .i64 n] w fun e w' => e = .returned (.tuple #[.pointer none, .int .i64 1]) ∧ w' = w := by
  by_cases h1 : n < 1
  · clear h
    go_enter Tryz.func23, Tryz.ntmps23
    go_wp2
    go_ret2
    exact ⟨rfl, rfl⟩
  · have h2 : n > 512 := by omega
    clear h
    go_enter Tryz.func23, Tryz.ntmps23
    go_wp2
    go_ret2
    exact ⟨rfl, rfl⟩

section
variable {gb g cl ce : Nat} {Al Ae : Option Addr} {d d' : Dk} {w w' : World}
theorem rehead (h : DskAt w gb g Al cl Ae ce d) (k : Chg w w' (fun k => k = g)) (e1 : d'.blocks = d.blocks) (e2 : d'.line = d.line) (e3 : d'.exts = d.exts)
    (hd : Blk w' g 107 #[.slice (some ⟨gb, 0, none⟩) d.blocks.length d.blocks.length, .slice Al d.line.length cl, .slice Ae d.exts.length ce, .bool d'.on, .int .i64 d'.armed]) (ok : d'.Ok) : DskAt w' gb g Al cl Ae ce d' :=
  ⟨by rw [e1, e2, e3]; exact hd, by rw [e1]; exact h.tab.chg k h.ne, by rw [e2]; exact h.line.chg k (fun b hb e => h.lg (by have e' : b = g := e; rw [← e']; exact hb)), by rw [e3]; exact h.exts.chg k (fun b hb e => h.eg (by have e' : b = g := e; rw [← e']; exact hb)), h.ne, h.lb, h.lg, h.eb, h.eg, h.le, ok⟩
theorem cut_at (h : DskAt w gb g Al cl Ae ce d) : DskAt ((w.setCell ⟨g, 3, none⟩ (.bool false)).setCell ⟨g, 4, none⟩ (.int .i64 (-1))) gb g Al cl Ae ce (cutR d) ∧ Chg w ((w.setCell ⟨g, 3, none⟩ (.bool false)).setCell ⟨g, 4, none⟩ (.int .i64 (-1))) (fun k => k = g) := by
  have k := (Chg.set (S := fun k => k = g) w 3 (.bool false) rfl).trans (Chg.set (S := fun k => k = g) (w.setCell ⟨g, 3, none⟩ (.bool false)) 4 (.int .i64 (-1)) rfl)
  refine ⟨rehead h k rfl rfl rfl ?_ h.ok.cut, k⟩
  have := (h.head.put 3 (.bool false)).put 4 (.int .i64 (-1))
  simp at this
  exact this
theorem cut_any (h : DskAt w gb g Al cl Ae ce d) :
    Calls Tryz.prog 69 #[.pointer (some ⟨g, 0, none⟩)] w fun e w' => e = .returned (.tuple #[]) ∧ DskAt w' gb g Al cl Ae ce (cutR d) ∧ Chg w w' (fun k => k = g) := by
  have c3 := (heads h).2.2.2.1
  have c4 := (heads h).2.2.2.2
  have f3 := h.head.frozen 3
  have f4 := h.head.frozen 4
  have FIN := Lib.hid (cut_at h)
  clear h
  go_enter Tryz.func69, Tryz.ntmps69
  go_wp2
  go_end0
  exact ⟨rfl, FIN.out⟩
theorem arm_at (h : DskAt w gb g Al cl Ae ce d) (k : Int) (hk : k ≤ 9223372036854775807) (n : Nat) : DskAt ((w.drewN n).setCell ⟨g, 4, none⟩ (.int .i64 (armR d k).armed)) gb g Al cl Ae ce (armR d k) ∧ Chg w ((w.drewN n).setCell ⟨g, 4, none⟩ (.int .i64 (armR d k).armed)) (fun k => k = g) := by
  have kk := ((Chg.refl w (fun k => k = g)).drewN n).trans (Chg.set (S := fun k => k = g) (w.drewN n) 4 (.int .i64 (armR d k).armed) rfl)
  refine ⟨rehead h kk rfl rfl rfl ?_ (h.ok.arm hk), kk⟩
  have := (h.head.drewN n).put 4 (.int .i64 (armR d k).armed)
  simp at this
  exact this
end
end Go.Proofs.YthnpalcjfgbjeaaGreat.Di

/- Package disk: Grant. Conditions: those that each states. -/
namespace Go.Proofs.YthnpalcjfgbjeaaGreat.Di
open Go.ChangeShapes Go.WideShapes Go.ChangeAt Go.RowKit Go.Deep
set_option linter.unusedVariables false

section
variable {gb g cl ce q cap : Nat} {Al Ae : Option Addr} {d : Dk} {w w1 w2 : World} {F : Nat → Prop}
theorem extsC_snoc (l : List Ex) (x : Ex) : extsC (l ++ [x]) = extsC l ++ x.cells := by simp [extsC]
theorem lineC_snoc (l : List Wr) (x : Wr) : lineC (l ++ [x]) = lineC l ++ x.cells := by simp [lineC]
/-- One extent more. -/
theorem grant_at (h : DskAt w gb g Al cl Ae ce d) (hb : Below w.heap.size w w1) {H : Nat} (hz : w.heap.size ≤ H) (hg : w1.grownBy w2 (Value.slice Ae d.exts.length ce).ownBlock) (hat : (Value.slice Ae d.exts.length ce).ownBlock = some q ∨ q = H) {e f n : Nat}
    (hown : w2.ownsRow 0 109 3 (.slice (some ⟨q, 0, none⟩) (d.exts.length + 1) cap) (d.exts.length + 1) (extsC d.exts ++ (⟨e, f, n⟩ : Ex).cells)) (ok : (granted d e f n).Ok) :
    Blk w2 g 107 #[.slice (some ⟨gb, 0, none⟩) d.blocks.length d.blocks.length, .slice Al d.line.length cl, .slice Ae d.exts.length ce, .bool d.on, .int .i64 d.armed] ∧
    DA (w2.setCell ⟨g, 2, none⟩ (.slice (some ⟨q, 0, none⟩) (d.exts.length + 1) cap)) (foot gb g Al (some ⟨q, 0, none⟩)) g (granted d e f n) ∧
    Step w (w2.setCell ⟨g, 2, none⟩ (.slice (some ⟨q, 0, none⟩) (d.exts.length + 1) cap)) (foot gb g Al Ae) (foot gb g Al (some ⟨q, 0, none⟩)) := by
  have k := chg_of_grown hb hg
  have ha := at_of hz hat
  have hgl := h.head.lt
  have hbl := h.tab.lt
  have b1 := h.head.chg k h.eg
  have t1 := h.tab.chg k h.eb
  have l1 := h.line.chg k (fun b hb e => h.le b hb e)
  have r1 : RowW w2 109 3 (some ⟨q, 0, none⟩) (d.exts.length + 1) cap (extsC d.exts ++ (⟨e, f, n⟩ : Ex).cells) := ⟨hown⟩
  have hqg : q ≠ g := fun e => by
    rcases ha with e1 | e1
    · exact h.eg (by rw [← e]; exact e1)
    · omega
  have hqb : q ≠ gb := fun e => by
    rcases ha with e1 | e1
    · exact h.eb (by rw [← e]; exact e1)
    · omega
  have ks : Chg w2 (w2.setCell ⟨g, 2, none⟩ (.slice (some ⟨q, 0, none⟩) (d.exts.length + 1) cap)) (fun k => k = g) := Chg.set _ _ _ rfl
  refine ⟨b1, ⟨gb, Al, cl, _, cap, ⟨?_, t1.chg ks h.ne, l1.chg ks (fun b hb e => h.lg (by have e' : b = g := e; rw [← e']; exact hb)), ?_, h.ne, h.lb, h.lg, fun e => hqb (inB_some e).symm, fun e => hqg (inB_some e).symm, (h.le.symm.new (fun b hb => h.line.lt b hb) ha).symm, ok⟩, fun _ => Iff.rfl⟩, ⟨?_, ?_⟩⟩
  · have := b1.put 2 (.slice (some ⟨q, 0, none⟩) (d.exts.length + 1) cap)
    simp at this
    have e1 : (granted d e f n).exts.length = d.exts.length + 1 := by simp [granted]
    rw [e1]
    exact this
  · have e1 : (granted d e f n).exts.length = d.exts.length + 1 := by simp [granted]
    rw [e1]
    have e2 : extsC (granted d e f n).exts = extsC d.exts ++ (⟨e, f, n⟩ : Ex).cells := extsC_snoc _ _
    rw [e2]
    exact r1.chg ks (fun b hb e => hqg (by have e' : b = g := e; rw [← e']; exact (inB_some hb).symm))
  · exact (k.weak (fun i hi => .inr (.inr (.inr hi)))).trans (ks.weak (fun i hi => .inr (.inl hi)))
  · rintro i (rfl | rfl | h1 | h1)
    · exact .inl (.inl rfl)
    · exact .inl (.inr (.inl rfl))
    · exact .inl (.inr (.inr (.inl h1)))
    · rw [inB_some h1]
      rcases ha with e1 | e1
      · exact .inl (.inr (.inr (.inr e1)))
      · exact .inr e1
theorem ext_infos : ∃ i0 z, Tryz.prog.info? 109 = some i0 ∧ i0.zero = some z ∧ z.cells.size = 3 ∧ i0.size = 3 ∧ i0.bytes = 24 := by
  obtain ⟨i, hi, hs⟩ := Option.map_eq_some_iff.1 (show (Tryz.prog.info? 109).map (fun i => (i.zero.map (·.cells.size), i.size, i.bytes)) = some (some 3, 3, 24) by kernel_rfl)
  simp only [Prod.mk.injEq] at hs
  obtain ⟨h0, h1, h2⟩ := hs
  obtain ⟨z, hz, hzc⟩ := Option.map_eq_some_iff.1 h0
  exact ⟨i, z, hi, hz, hzc, h1, h2⟩
theorem ints_one (a b c : Int) : ∀ u ∈ ([.int .i64 a, .int .i64 b, .int .i64 c] : List Value), u.oneCell' = true := by
  intro u hu
  simp only [List.mem_cons, List.not_mem_nil, or_false] at hu
  rcases hu with rfl | rfl | rfl <;> rfl

set_option maxRecDepth 100000 in
set_option maxHeartbeats 2000000 in
theorem grant_no (h : DskAt w gb g Al cl Ae ce d) (env first n : Int) (wf : -9223372036854775808 ≤ first ∧ first ≤ 9223372036854775807) (hn : noGrant d env first n) :
    Calls Tryz.prog 24 #[.pointer (some ⟨g, 0, none⟩), .int .i64 env, .int .i64 first, .int .i64 n] w fun e w' => e = .returned (.int .i64 1) ∧ w' = w := by
  have SZ := Lib.hid (size_any h)
  have n2 := h.ok.n2
  unfold noGrant at hn
  by_cases h1 : env < 1
  · clear h hn
    go_enter Tryz.func24, Tryz.ntmps24
    go_wp2
    go_ret
    exact ⟨rfl, rfl⟩
  by_cases h2 : env > 2
  · clear h hn
    go_enter Tryz.func24, Tryz.ntmps24
    go_wp2
    go_ret
    exact ⟨rfl, rfl⟩
  by_cases h3 : n ≤ 0
  · clear h hn
    go_enter Tryz.func24, Tryz.ntmps24
    go_wp2
    go_ret
    exact ⟨rfl, rfl⟩
  by_cases h4 : first < 0
  · clear h hn
    go_enter Tryz.func24, Tryz.ntmps24
    go_wp2
    go_ret
    exact ⟨rfl, rfl⟩
  have x0 : IntKind.i64.wrap ((d.blocks.length : Int) - first) = (d.blocks.length : Int) - first := IntWalk.i64_in _ (by omega)
  have h5 : n > (d.blocks.length : Int) - first := by
    rcases hn with hn | hn | hn | hn | hn
    · exact absurd hn h1
    · exact absurd hn h2
    · exact absurd hn h3
    · exact absurd hn h4
    · exact hn
  clear h hn
  go_enter Tryz.func24, Tryz.ntmps24
  go_wp2_with fail
  refine SZ.out.mono ?_; rintro e w1 ⟨rfl, rfl⟩
  go_wp2
  go_ret
  exact ⟨rfl, rfl⟩

set_option maxRecDepth 100000 in
set_option maxHeartbeats 2000000 in
theorem grant_yes (h : DskAt w gb g Al cl Ae ce d) (env : Int) (e0 f n : Nat) (he : env = (e0 : Int)) (he2 : 1 ≤ e0 ∧ e0 ≤ 2) (hn : 1 ≤ n) (hf : f + n ≤ d.blocks.length) (hcnt : d.exts.length < 1000000) (r : Dk × Int) (hr : r = if busy d f n = true then (d, 20) else (granted d e0 f n, 0)) :
    Calls Tryz.prog 24 #[.pointer (some ⟨g, 0, none⟩), .int .i64 env, .int .i64 (f : Int), .int .i64 (n : Int)] w fun e w' => e = .returned (.int .i64 r.2) ∧ ∃ F', DA w' F' g r.1 ∧ Step w w' (foot gb g Al Ae) F' := by
  have SZ := Lib.hid (size_any h)
  have n2 := h.ok.n2
  have H := Lib.hid h
  have R := Lib.hid hr
  have hgl := h.head.lt
  have x0 : IntKind.i64.wrap ((d.blocks.length : Int) - (f : Int)) = (d.blocks.length : Int) - (f : Int) := IntWalk.i64_in _ (by omega)
  have x1 : IntKind.i64.wrap ((f : Int) + (n : Int)) = (f : Int) + (n : Int) := IntWalk.i64_in _ (by omega)
  have g1 : ¬ env < 1 := by omega
  have g2 : ¬ env > 2 := by omega
  have g3 : ¬ (n : Int) ≤ 0 := by omega
  have g4 : ¬ (f : Int) < 0 := by omega
  have g5 : ¬ (n : Int) > (d.blocks.length : Int) - (f : Int) := by omega
  subst he
  obtain ⟨ie, ze, hi, hz, hzc, hs, hby⟩ := ext_infos
  have INF := Lib.hid (And.intro hi (And.intro hz (And.intro hzc (And.intro hs hby))))
  clear h hr hi hz hzc hs hby
  go_enter Tryz.func24, Tryz.ntmps24
  go_wp2_with fail
  refine SZ.out.mono ?_; rintro e w1 ⟨rfl, rfl⟩
  go_wp2
  go_loopw [9] (fun i wr => ∃ (j : Nat), f ≤ j ∧ j ≤ f + n ∧ i = .int .i64 (j : Int) ∧ Hid (∀ b, f ≤ b → b < j → d.own b = 0) ∧ Below w1.heap.size w1 wr) (fun i _ => f + n - (intOf i).toNat)
  case atStart => exact ⟨f, Nat.le_refl _, by omega, rfl, Lib.hid (fun _ _ _ => by omega), Below.refl _ _⟩
  case round =>
    obtain ⟨j, hj, hj2, rfl, NO, hbel⟩ := hrel
    by_cases hlt : j < f + n
    · have j1 : (j : Int) < (f : Int) + (n : Int) := by omega
      have xj := IntWalk.i64_in ((j : Int) + 1) (by omega)
      have GR := Lib.hid (granted_any (H.out.new hbel) j (by omega))
      have hsz : w1.heap.size ≤ wr.heap.size := hbel.size
      have HB := Lib.hid hbel
      clear hbel
      by_cases ho : d.own j ≠ 0
      · have hd : decide (d.own j ≠ 0) = true := decide_eq_true ho
        rw [hd] at GR
        have RV := Lib.hid (show r = (d, 20) from R.out.trans (if_pos (busy_yes hj (by omega) ho)))
        clear hd ho
        go_wp2_with fail
        refine GR.out.mono ?_; rintro e w2 ⟨rfl, b2⟩
        have B2 := Lib.hid (HB.out.trans (b2.mono hsz))
        clear b2
        go_wp2
        go_ret
        rw [RV.out]
        exact ⟨rfl, _, H.out.da.new B2.out, Step.new B2.out _⟩
      · have ho' : d.own j = 0 := by omega
        have hd : decide (d.own j ≠ 0) = false := decide_eq_false ho
        rw [hd] at GR
        have NO2 : Hid (∀ b, f ≤ b → b < j + 1 → d.own b = 0) := Lib.hid (fun b h1 h2 => by
          by_cases e : b = j
          · subst e; exact ho'
          · exact NO.out b h1 (by omega))
        clear hd ho ho'
        go_wp2_with fail
        refine GR.out.mono ?_; rintro e w2 ⟨rfl, b2⟩
        have B2 := Lib.hid (HB.out.trans (b2.mono hsz))
        clear b2
        go_wp2
        go_roundw
        case rel => exact ⟨j + 1, by omega, by omega, by simp, NO2, B2.out⟩
        case measure => simp [intOf]; omega
    · have hge : ¬ (j : Int) < (f : Int) + (n : Int) := by omega
      obtain rfl : j = f + n := by omega
      have hbusy : busy d f n = false := busy_of (fun b h1 h2 => NO.out b h1 h2)
      have RV := Lib.hid (show r = (granted d e0 f n, 0) from R.out.trans (by rw [hbusy]; rfl))
      have OK := Lib.hid (H.out.ok.granted he2 hn hf hbusy)
      have hsz : w1.heap.size ≤ wr.heap.size := hbel.size
      have HD := Lib.hid (H.out.new hbel)
      have HB := Lib.hid hbel
      have c2 := (heads HD.out).2.2.1
      have hgl2 : g < wr.heap.size := HD.out.head.lt
      have hcell : ∀ j u, ([.int .i64 (e0 : Int), .int .i64 (f : Int), .int .i64 (n : Int)] : List Value)[j]? = some u → (wr.alloc (.cells #[.int .i64 (e0 : Int), .int .i64 (f : Int), .int .i64 (n : Int)] 109)).cell? ((⟨wr.heap.size, 0, none⟩ : Addr).add j) = some u :=
        World.news_of_block (Blk.new wr _ _)
      have HC := Lib.hid hcell
      clear hbel hbusy hcell
      go_wp2_with (at_builtin; refine Hid.out ?_)
      unfold Hid
      refine wpList_append_lies _ rfl (.tmp 49) (.tmp 54) 105 rfl 0 109 ie ze 3 24 Tryz.underlying105 INF.out.1 INF.out.2.1 INF.out.2.2.2.1 INF.out.2.2.2.2 INF.out.2.2.1 (by decide) _ d.exts.length (extsC d.exts) rfl (HD.out.exts.new ((Below.refl _ wr).alloc (Nat.le_refl _) _)).own ⟨wr.heap.size, 0, none⟩ 1 1 [.int .i64 (e0 : Int), .int .i64 (f : Int), .int .i64 (n : Int)] rfl rfl HC.out (ints_one _ _ _) (by decide) (by unfold maxLen; omega) (by omega) (by omega) (wr.heap.size + 1) (by simp) ?_
      intro q cap w2 hown hgrow hat hlg
      obtain ⟨hd1, hda, hst⟩ := grant_at HD.out ((Below.refl _ wr).alloc (Nat.le_refl _) (.cells #[.int .i64 (e0 : Int), .int .i64 (f : Int), .int .i64 (n : Int)] 109)) (Nat.le_succ _) hgrow hat hown OK.out
      have c1 : w2.cell? ⟨g, 2, none⟩ = some (.slice Ae d.exts.length ce) := hd1.cell 2
      have f1 := hd1.frozen 2
      have FIN := Lib.hid (And.intro hda ((Step.new HB.out _).trans hst))
      clear hown hgrow hat hd1 hda hst c2
      go_wp2
      go_ret
      rw [RV.out]
      exact ⟨rfl, _, FIN.out⟩
theorem grant_any (h : DA w F g d) (env first n : Int) (wf : -9223372036854775808 ≤ first ∧ first ≤ 9223372036854775807) (hcnt : d.exts.length < 1000000) :
    Calls Tryz.prog 24 #[.pointer (some ⟨g, 0, none⟩), .int .i64 env, .int .i64 first, .int .i64 n] w fun e w' => e = .returned (.int .i64 (grantR d env first n).2) ∧ ∃ F', DA w' F' g (grantR d env first n).1 ∧ Step w w' F F' := by
  obtain ⟨gb, Al, cl, Ae, ce, D, hF⟩ := h
  have hFe : F = foot gb g Al Ae := funext fun k => propext (hF k)
  subst hFe
  unfold grantR
  by_cases hn : noGrant d env first n
  · rw [if_pos hn]
    refine (grant_no D env first n wf hn).mono ?_
    rintro e w' ⟨rfl, rfl⟩
    exact ⟨rfl, _, D.da, Step.refl _ _⟩
  · rw [if_neg hn]
    unfold noGrant at hn
    obtain ⟨e0, rfl⟩ : ∃ e0 : Nat, env = (e0 : Int) := ⟨env.toNat, by omega⟩
    obtain ⟨f, rfl⟩ : ∃ f : Nat, first = (f : Int) := ⟨first.toNat, by omega⟩
    obtain ⟨m, rfl⟩ : ∃ m : Nat, n = (m : Int) := ⟨n.toNat, by omega⟩
    simp only [Int.toNat_natCast]
    exact grant_yes D _ e0 f m rfl (by omega) (by omega) (by omega) hcnt _ rfl
end
end Go.Proofs.YthnpalcjfgbjeaaGreat.Di

/- Package disk: Read. Conditions: those that each states. -/
namespace Go.Proofs.YthnpalcjfgbjeaaGreat.Di
open Go.ChangeShapes Go.WideShapes Go.ChangeAt Go.RowKit Go.Deep
set_option linter.unusedVariables false

/-- What a read that goes well answers. -/
def Told (w : World) (t : List UInt8) (e : Ending) (w' : World) : Prop := ∃ A c, e = .returned (.tuple #[.slice A t.length c, .int .i64 0]) ∧ Src w' A t.length c t ∧ Below w.heap.size w w'
theorem page_under : Tryz.prog.underlying 140 = some (.array (Tryz.prog.arrayLen 140) (Tryz.prog.elem 140)) := by kernel_rfl
theorem page_len : Tryz.prog.arrayLen 140 = 256 := by kernel_rfl
theorem page_elem : Tryz.prog.elem 140 = 5 := by kernel_rfl
theorem size_u8 (W : World) : (sizeOf 5).run Tryz.prog W = .ok 1 W := by
  obtain ⟨i, hi, hs⟩ := Option.map_eq_some_iff.1 u8_size
  simp [sizeOf, typeInfo, hi, hs]
/-- 'text[:]'. -/
theorem run_cut (b o : Nat) (W : World) : (Instr.sliceAt 140 (.pointer (some ⟨b, o, none⟩)) none none none).run Tryz.prog W = .ok (.slice (some ⟨b, o, none⟩) 256 256) W := by
  rw [run_sliceAt_array_all W 140 ⟨b, o, none⟩ page_under, page_elem, size_u8, page_len]
  simp only [Result.andThen_ok, slicedAt]
  rw [if_neg (by decide)]
  have ea : (⟨b, o, none⟩ : Addr).add (0 * 1) = ⟨b, o, none⟩ := by unfold Addr.add; split <;> simp_all
  rw [ea]

section
variable {gb g cl ce : Nat} {Al Ae : Option Addr} {d : Dk} {w : World} {F : Nat → Prop}
theorem src_of_range {b o : Nat} {l : List UInt8} (hb : b < w.heap.size) (hl : l.length = 256) (h : w.rangeAt b o (bys l)) : Src w (some ⟨b, o, none⟩) 256 256 l :=
  ⟨⟨fun hp => ⟨b, o, rfl, hb, fun j hj => h j _ (List.getElem?_eq_getElem hj)⟩, hl, Nat.le_refl _, by omega⟩, fun e => by cases e⟩
theorem block_src (h : DskAt w gb g Al cl Ae ce d) {b : Nat} (hb : b < d.blocks.length) : Src w (some ⟨gb, b * 256, none⟩) 256 256 d.blocks[b] :=
  src_of_range h.tab.lt (h.ok.bl _ (List.getElem_mem hb)) (h.block hb)
theorem wr_parts (h : DskAt w gb g Al cl Ae ce d) {i : Nat} (hi : i < d.line.length) : ∃ l, Al = some ⟨l, 0, none⟩ ∧ l < w.heap.size ∧ w.cell? ⟨l, i * 257, none⟩ = some (.int .i64 (d.line[i].block : Int)) ∧ w.rangeAt l (i * 257 + 1) (bys d.line[i].text) ∧ Src w (some ⟨l, i * 257 + 1, none⟩) 256 256 d.line[i].text := by
  obtain ⟨l, rfl, hl, _, _, hr⟩ := h.wr hi
  have hr2 : w.rangeAt l (i * 257 + 1) (bys d.line[i].text) := by
    intro j v hj
    have := hr (j + 1) v (by rw [← hj]; rfl)
    rw [← Nat.add_assoc] at this
    rw [show i * 257 + 1 + j = i * 257 + j + 1 by omega]
    exact this
  refine ⟨l, rfl, hl, ?_, hr2, src_of_range hl (h.ok.li _ (List.getElem_mem hi)).2 hr2⟩
  have := hr 0 _ rfl
  rwa [Nat.add_zero] at this

set_option maxRecDepth 100000 in
set_option maxHeartbeats 2000000 in
theorem read_no (h : DskAt w gb g Al cl Ae ce d) (env block : Int) (he : askE d env block ≠ 0) :
    Calls Tryz.prog 48 #[.pointer (some ⟨g, 0, none⟩), .int .i64 env, .int .i64 block] w fun e w' => e = .returned (.tuple #[.slice none 0 0, .int .i64 (askE d env block)]) ∧ Below w.heap.size w w' := by
  have AS := Lib.hid (asked_any h env block)
  have hv : (askE d env block == 0) = false := by simpa using he
  generalize askE d env block = v at *
  clear h he
  go_enter Tryz.func48, Tryz.ntmps48
  go_wp2_with fail
  refine AS.out.mono ?_; rintro e w1 ⟨rfl, b1⟩
  have B1 := Lib.hid b1
  clear b1
  go_wp2
  go_ret2
  exact ⟨rfl, B1.out⟩
set_option maxRecDepth 100000 in
set_option maxHeartbeats 2000000 in
theorem read_yes (h : DskAt w gb g Al cl Ae ce d) (env : Int) (b : Nat) (hb : b < d.blocks.length) (he : askE d env b = 0) (t : List UInt8) (ht : t = see d b) :
    Calls Tryz.prog 48 #[.pointer (some ⟨g, 0, none⟩), .int .i64 env, .int .i64 (b : Int)] w (Told w t) := by
  have AS := Lib.hid (asked_any h env b)
  rw [he] at AS
  have H := Lib.hid h
  have T := Lib.hid ht
  have n2 := h.ok.n2
  have hL : d.line.length ≤ 9223372036854775807 := by have := h.line.capMax; unfold maxLen at this; omega
  have hgl := h.head.lt
  have b0 : (0 : Int) ≤ (b : Int) := by omega
  have b3 : (b : Int) < (d.blocks.length : Int) := by omega
  clear h he ht
  go_enter Tryz.func48, Tryz.ntmps48
  go_wp2_with fail
  refine AS.out.mono ?_; rintro e w1 ⟨rfl, b1⟩
  have D1 := Lib.hid (H.out.new b1)
  have B1 := Lib.hid b1
  have hw1 : w.heap.size ≤ w1.heap.size := b1.size
  obtain ⟨c0, c1, _, _, _⟩ := heads D1.out
  have xL := IntWalk.i64_in ((d.line.length : Int) - 1) (by omega)
  clear b1 AS
  go_wp2
  go_loopw [9] (fun i wr => ∃ (j : Nat), j ≤ d.line.length ∧ i = .int .i64 ((j : Int) - 1) ∧ Hid (∀ k (hk : k < d.line.length), j ≤ k → d.line[k].block ≠ b) ∧ wr = w1) (fun i _ => (intOf i + 1).toNat)
  case atStart => exact ⟨d.line.length, Nat.le_refl _, rfl, Lib.hid (fun k hk h => absurd h (by omega)), rfl⟩
  case round =>
    obtain ⟨j, hj, hi, NO, rfl⟩ := hrel
    cases j with
    | zero =>
      have hi' := hi.trans (show (Value.int .i64 (((0 : Nat) : Int) - 1)) = .int .i64 (-1) from rfl)
      clear hi
      subst hi'
      have CL := Lib.hid (clone_some _ _ _ _ wr (block_src D1.out hb) (by omega))
      have hcut := run_cut gb (b * 256)
      have HS := Lib.hid (show t = d.blocks[b] from T.out.trans (by
        unfold see
        rw [seen_none (fun q hq => by
          obtain ⟨k, hk, rfl⟩ := List.mem_iff_getElem.1 hq
          exact NO.out k hk (Nat.zero_le _))]
        simp [hb]))
      have HL := Lib.hid (D1.out.ok.bl _ (List.getElem_mem hb))
      clear NO
      generalize d.blocks[b] = tb at *
      go_wp2_with fail
      refine CL.out.mono ?_; rintro e w2 ⟨A', c', rfl, s2, b2⟩
      have S2 := Lib.hid s2
      have B2 := Lib.hid (B1.out.trans (b2.mono hw1))
      clear s2 b2
      go_wp2
      go_ret2
      refine ⟨A', c', ?_, ?_, B2.out⟩
      · rw [HS.out, HL.out]; rfl
      · rw [HS.out, HL.out]; exact S2.out
    | succ k =>
      have hi' := hi.trans (show (Value.int .i64 (((k + 1 : Nat) : Int) - 1)) = .int .i64 (k : Int) by congr 1; omega)
      clear hi
      subst hi'
      have hk : k < d.line.length := by omega
      have k0 : (k : Int) ≥ 0 := by omega
      have k0' : (0 : Int) ≤ (k : Int) := by omega
      have k1 : (k : Int) < (d.line.length : Int) := by omega
      have xk := IntWalk.i64_in ((k : Int) - 1) (by omega)
      obtain ⟨l, rfl, hl, cb, hr, hsrc⟩ := wr_parts D1.out hk
      by_cases hh : d.line[k].block = b
      · have CL := Lib.hid (clone_some _ _ _ _ wr hsrc (by omega))
        have hcut := run_cut l (k * 257 + 1)
        have HS := Lib.hid (show t = d.line[k].text from T.out.trans (by
          unfold see
          exact seen_last hk hh (fun j hj hlt => NO.out j hj (by omega)) _))
        have HL := Lib.hid (D1.out.ok.li _ (List.getElem_mem hk)).2
        rw [hh] at cb
        clear NO hr hsrc hh
        generalize d.line[k].text = tb at *
        go_wp2_with fail
        refine CL.out.mono ?_; rintro e w2 ⟨A', c', rfl, s2, b2⟩
        have S2 := Lib.hid s2
        have B2 := Lib.hid (B1.out.trans (b2.mono hw1))
        clear s2 b2
        go_wp2
        go_ret2
        refine ⟨A', c', ?_, ?_, B2.out⟩
        · rw [HS.out, HL.out]; rfl
        · rw [HS.out, HL.out]; exact S2.out
      · have NO2 : Hid (∀ k' (hk : k' < d.line.length), k ≤ k' → d.line[k'].block ≠ b) := Lib.hid (fun k' hk h => by
          by_cases e : k' = k
          · subst e; exact hh
          · exact NO.out k' hk (by omega))
        have hh' : ((d.line[k].block : Int) == (b : Int)) = false := beq_eq_false_iff_ne.2 (by omega)
        clear NO hr hsrc hh
        generalize (d.line[k].block : Int) = q at *
        go_wp2
        go_roundw
        case rel => exact ⟨k, by omega, rfl, NO2, by first | rfl | trivial⟩
        case measure => simp [intOf]
theorem see_len (h : d.Ok) {b : Nat} (hb : b < d.blocks.length) : (see d b).length = 256 := by
  have h1 := put_get d.blocks d.line b hb
  have h2 := put_mem (p := fun t => t.length = 256) h.bl (fun q hq => (h.li q hq).2)
  unfold see
  rw [← h1]
  have hb' : b < (put d.blocks d.line).length := by rw [put_len]; exact hb
  simp only [List.getD_eq_getElem?_getD, List.getElem?_eq_getElem hb', Option.getD_some]
  exact h2 _ (List.getElem_mem _)
theorem read_any (h : DA w F g d) (env block : Int) :
    Calls Tryz.prog 48 #[.pointer (some ⟨g, 0, none⟩), .int .i64 env, .int .i64 block] w fun e w' => ∃ A c, e = .returned (.tuple #[.slice A (readR d env block).1.length c, .int .i64 (readR d env block).2]) ∧ Src w' A (readR d env block).1.length c (readR d env block).1 ∧ Below w.heap.size w w' := by
  obtain ⟨gb, Al, cl, Ae, ce, D, hF⟩ := h
  unfold readR
  by_cases he : askE d env block = 0
  · rw [if_pos he]
    obtain ⟨_, b, rfl, hb, _⟩ := askE_zero he
    exact (read_yes D env b hb he _ rfl).mono fun e w' h => h
  · rw [if_neg he]
    refine (read_no D env block he).mono ?_
    rintro e w' ⟨rfl, b⟩
    exact ⟨none, 0, rfl, Src.nil _, b⟩
end
end Go.Proofs.YthnpalcjfgbjeaaGreat.Di

/- Package disk: Write. Conditions: those that each states. -/
namespace Go.Proofs.YthnpalcjfgbjeaaGreat.Di
open Go.ChangeShapes Go.WideShapes Go.ChangeAt Go.RowKit Go.Deep
set_option linter.unusedVariables false

theorem fill_two (z : Array Value) (hz : z.size = 257) (v : Value) (hv : v.cells = #[v]) (Z : Array Value) (hZ : Z.size = 256) (p : Nat → Option (Nat × Nat)) (h0 : p 0 = some (0, 1)) (h1 : p 1 = some (1, 256)) :
    Instr.fill p z [(0, v), (1, .agg Z)] = some (#[v] ++ Z) := by
  have hc : (Value.agg Z).cells = Z := rfl
  unfold Instr.fill
  rw [h0]
  simp only [hv]
  rw [if_neg (by simp [hz])]
  unfold Instr.fill
  rw [h1]
  simp only [hc]
  have hs1 : (Array.foldl (fun cs (x : Value × Nat) => cs.setIfInBounds (0 + x.2) x.1) z (#[v] : Array Value).zipIdx).size = 257 := by
    rw [← Array.foldl_toList, Array.toList_zipIdx]
    rw [(Great.foldl_set 0 _ 0 z).1, hz]
  rw [if_neg (by rw [hs1, hZ]; decide)]
  unfold Instr.fill
  congr 1
  apply Array.ext_getElem?
  intro k
  rw [← Array.foldl_toList, Array.toList_zipIdx, (Great.foldl_set 1 Z.toList 0 _).2 k, ← Array.foldl_toList, Array.toList_zipIdx, (Great.foldl_set 0 [v] 0 z).1, (Great.foldl_set 0 [v] 0 z).2 k, hz]
  by_cases hk : 1 + 0 ≤ k ∧ k < 1 + 0 + Z.toList.length ∧ k < 257
  · rw [if_pos hk, Array.getElem?_append_right (by simp; omega)]
    simp
  · rw [if_neg hk]
    rw [Array.length_toList, hZ] at hk
    by_cases hk0 : k = 0
    · subst hk0
      rw [if_pos (by simp), Array.getElem?_append_left (by simp)]
      rfl
    · rw [if_neg (by simp; omega), Array.getElem?_eq_none (by omega), Array.getElem?_eq_none (by simp; omega)]
theorem wr_infos : ∃ i0 z, Tryz.prog.info? 142 = some i0 ∧ i0.zero = some z ∧ z.cells.size = 257 ∧ i0.size = 257 ∧ i0.bytes = 264 := by
  obtain ⟨i, hi, hs⟩ := Option.map_eq_some_iff.1 (show (Tryz.prog.info? 142).map (fun i => (i.zero.map (·.cells.size), i.size, i.bytes)) = some (some 257, 257, 264) by kernel_rfl)
  simp only [Prod.mk.injEq] at hs
  obtain ⟨h0, h1, h2⟩ := hs
  obtain ⟨z, hz, hzc⟩ := Option.map_eq_some_iff.1 h0
  exact ⟨i, z, hi, hz, hzc, h1, h2⟩
theorem wr_fields : ∃ fields, Tryz.prog.underlying 142 = some (.struct fields) ∧ fields.toList.mapM (fun f => (Tryz.prog.info? f.type).map fun i => (f.offset, i.size)) = some [(0, 1), (1, 256)] :=
  ⟨_, Tryz.underlying142, by kernel_rfl⟩
theorem run_build_wr (v : Value) (hv : v.cells = #[v]) (Z : Array Value) (hZ : Z.size = 256) (W : World) : (Instr.build 142 #[(0, v), (1, .agg Z)]).run Tryz.prog W = .ok (.agg (#[v] ++ Z)) W := by
  obtain ⟨i, z, hi, hz, hzc, _, _⟩ := wr_infos
  obtain ⟨fs, hu, hm⟩ := wr_fields
  refine run_build W 142 _ _ ?_
  unfold Program.built
  simp only [hi, hu, hz, hm]
  exact fill_two z.cells hzc v hv Z hZ _ rfl rfl
theorem run_slice_wr (C : Array Value) (hC : C.size = 257) (W : World) : (Instr.buildSlice 104 1 #[(0, .agg C)]).run Tryz.prog W = .ok (.slice (some ⟨W.heap.size, 0, none⟩) 1 1) (W.alloc (.cells C 142)) := by
  obtain ⟨i, z, hi, hz, hzc, hs, _⟩ := wr_infos
  refine run_buildSlice W 104 142 1 _ C i z Tryz.underlying104 hi hz (by rw [hs]; decide) (by rw [hs]; decide) ?_
  rw [hs]
  have h := Great.fill_whole (s := 257) (by decide) [.agg C] ((Array.range (1 * 257)).map (z.cells[· % z.cells.size]!)) (fun v hv => by rw [List.mem_singleton.1 hv]; exact hC) (by simp)
  have e : ([Value.agg C].flatMap fun v => v.cells.toList).toArray = C := by simp [Value.cells]
  rw [e] at h
  exact h

section
variable {gb g cl ce q cap : Nat} {Al Ae : Option Addr} {d : Dk} {w w1 w2 : World} {F : Nat → Prop}
/-- One write more waits: the store of the line's head. -/
theorem lay_at (h : DskAt w gb g Al cl Ae ce d) (hb : Below w.heap.size w w1) {H : Nat} (hz : w.heap.size ≤ H) (hg : w1.grownBy w2 (Value.slice Al d.line.length cl).ownBlock) (hat : (Value.slice Al d.line.length cl).ownBlock = some q ∨ q = H) {x : Wr} {d' : Dk}
    (hown : w2.ownsRow 0 142 257 (.slice (some ⟨q, 0, none⟩) (d.line.length + 1) cap) (d.line.length + 1) (lineC d.line ++ x.cells))
    (e1 : d'.blocks = d.blocks) (e2 : d'.line = d.line ++ [x]) (e3 : d'.exts = d.exts) (e4 : d'.on = d.on) (e5 : d'.armed = d.armed) (ok : d'.Ok) :
    Blk w2 g 107 #[.slice (some ⟨gb, 0, none⟩) d.blocks.length d.blocks.length, .slice Al d.line.length cl, .slice Ae d.exts.length ce, .bool d.on, .int .i64 d.armed] ∧
    DA (w2.setCell ⟨g, 1, none⟩ (.slice (some ⟨q, 0, none⟩) (d.line.length + 1) cap)) (foot gb g (some ⟨q, 0, none⟩) Ae) g d' ∧
    Step w (w2.setCell ⟨g, 1, none⟩ (.slice (some ⟨q, 0, none⟩) (d.line.length + 1) cap)) (foot gb g Al Ae) (foot gb g (some ⟨q, 0, none⟩) Ae) := by
  have k := chg_of_grown hb hg
  have ha := at_of hz hat
  have hgl := h.head.lt
  have hbl := h.tab.lt
  have b1 := h.head.chg k h.lg
  have t1 := h.tab.chg k h.lb
  have l1 := h.exts.chg k (fun b hb e => h.le b e hb)
  have r1 : RowW w2 142 257 (some ⟨q, 0, none⟩) (d.line.length + 1) cap (lineC d.line ++ x.cells) := ⟨hown⟩
  have hqg : q ≠ g := fun e => by
    rcases ha with e1 | e1
    · exact h.lg (by rw [← e]; exact e1)
    · omega
  have hqb : q ≠ gb := fun e => by
    rcases ha with e1 | e1
    · exact h.lb (by rw [← e]; exact e1)
    · omega
  have ks : Chg w2 (w2.setCell ⟨g, 1, none⟩ (.slice (some ⟨q, 0, none⟩) (d.line.length + 1) cap)) (fun k => k = g) := Chg.set _ _ _ rfl
  have el : d'.line.length = d.line.length + 1 := by rw [e2]; simp
  refine ⟨b1, ⟨gb, _, cap, Ae, ce, ⟨?_, ?_, ?_, ?_, h.ne, fun e => hqb (inB_some e).symm, fun e => hqg (inB_some e).symm, h.eb, h.eg, h.le.new (fun b hb => h.exts.lt b hb) ha, ok⟩, fun _ => Iff.rfl⟩, ⟨?_, ?_⟩⟩
  · have := b1.put 1 (.slice (some ⟨q, 0, none⟩) (d.line.length + 1) cap)
    simp at this
    rw [e1, e3, e4, e5, el]
    exact this
  · rw [e1]; exact t1.chg ks h.ne
  · rw [el, e2, lineC_snoc]
    exact r1.chg ks (fun b hb e => hqg (by have e' : b = g := e; rw [← e']; exact (inB_some hb).symm))
  · rw [e3]; exact l1.chg ks (fun b hb e => h.eg (by have e' : b = g := e; rw [← e']; exact hb))
  · exact (k.weak (fun i hi => .inr (.inr (.inl hi)))).trans (ks.weak (fun i hi => .inr (.inl hi)))
  · rintro i (rfl | rfl | h1 | h1)
    · exact .inl (.inl rfl)
    · exact .inl (.inr (.inl rfl))
    · rw [inB_some h1]
      rcases ha with e1 | e1
      · exact .inl (.inr (.inr (.inl e1)))
      · exact .inr e1
    · exact .inl (.inr (.inr (.inr h1)))

set_option maxRecDepth 100000 in
set_option maxHeartbeats 2000000 in
theorem write_no (h : DskAt w gb g Al cl Ae ce d) (env block : Int) (A : Option Addr) (n c : Nat) (he : askE d env block ≠ 0) :
    Calls Tryz.prog 49 #[.pointer (some ⟨g, 0, none⟩), .int .i64 env, .int .i64 block, .slice A n c] w fun e w' => e = .returned (.int .i64 (askE d env block)) ∧ Below w.heap.size w w' := by
  have AS := Lib.hid (asked_any h env block)
  have hv : (askE d env block == 0) = false := by simpa using he
  generalize askE d env block = v at *
  clear h he
  go_enter Tryz.func49, Tryz.ntmps49
  go_wp2_with fail
  refine AS.out.mono ?_; rintro e w1 ⟨rfl, b1⟩
  have B1 := Lib.hid b1
  clear b1
  go_wp2
  go_ret
  exact ⟨rfl, B1.out⟩
set_option maxRecDepth 100000 in
set_option maxHeartbeats 2000000 in
theorem write_short (h : DskAt w gb g Al cl Ae ce d) (env block : Int) (A : Option Addr) (n c : Nat) (he : askE d env block = 0) (hn : n ≠ 256) :
    Calls Tryz.prog 49 #[.pointer (some ⟨g, 0, none⟩), .int .i64 env, .int .i64 block, .slice A n c] w fun e w' => e = .returned (.int .i64 1) ∧ Below w.heap.size w w' := by
  have AS := Lib.hid (asked_any h env block)
  rw [he] at AS
  have hv : ((n : Int) == 256) = false := beq_eq_false_iff_ne.2 (by omega)
  clear h he
  go_enter Tryz.func49, Tryz.ntmps49
  go_wp2_with fail
  refine AS.out.mono ?_; rintro e w1 ⟨rfl, b1⟩
  have B1 := Lib.hid b1
  clear b1
  go_wp2
  go_ret
  exact ⟨rfl, B1.out⟩
set_option maxRecDepth 100000 in
set_option maxHeartbeats 2000000 in
theorem write_cut (h : DskAt w gb g Al cl Ae ce d) (env block : Int) (A : Option Addr) (c : Nat) (he : askE d env block = 0) (h0 : d.armed = 0) :
    Calls Tryz.prog 49 #[.pointer (some ⟨g, 0, none⟩), .int .i64 env, .int .i64 block, .slice A 256 c] w fun e w' => e = .returned (.int .i64 30) ∧ DA w' (foot gb g Al Ae) g (cutR d) ∧ Step w w' (foot gb g Al Ae) (foot gb g Al Ae) := by
  have AS := Lib.hid (asked_any h env block)
  rw [he] at AS
  have H := Lib.hid h
  have H0 := Lib.hid h0
  clear h he h0
  go_enter Tryz.func49, Tryz.ntmps49
  go_wp2_with fail
  refine AS.out.mono ?_; rintro e w1 ⟨rfl, b1⟩
  have D1 := Lib.hid (H.out.new b1)
  have B1 := Lib.hid b1
  have c4 := (heads D1.out).2.2.2.2
  rw [H0.out] at c4
  clear b1 AS
  go_wp2_with fail
  refine (cut_any D1.out).mono ?_; rintro e w2 ⟨rfl, d2, k2⟩
  have D2 := Lib.hid d2
  have S2 := Lib.hid ((Step.new B1.out (foot gb g Al Ae)).trans (show Step w1 w2 (foot gb g Al Ae) (foot gb g Al Ae) from ⟨k2.weak (fun i hi => .inr (.inl hi)), fun _ h => .inl h⟩))
  clear d2 k2
  go_wp2
  go_ret
  exact ⟨rfl, D2.out.da, S2.out⟩
-- LAY
theorem page_size : (Tryz.prog.info? 140).map (·.size) = some 256 := by kernel_rfl
set_option maxRecDepth 100000 in
set_option maxHeartbeats 4000000 in
theorem write_lay (h : DskAt w gb g Al cl Ae ce d) (env : Int) (b : Nat) (hb : b < d.blocks.length) (A : Option Addr) (c : Nat) (s : List UInt8) (hs : Src w A 256 c s) (hap : ∀ b o, A = some ⟨b, o, none⟩ → ¬ foot gb g Al Ae b) (he : askE d env b = 0) (h0 : d.armed ≠ 0) (hcnt : d.line.length < 1000000) :
    Calls Tryz.prog 49 #[.pointer (some ⟨g, 0, none⟩), .int .i64 env, .int .i64 (b : Int), .slice A 256 c] w fun e w' => e = .returned (.int .i64 0) ∧ ∃ F', DA w' F' g (laid d b s) ∧ Step w w' (foot gb g Al Ae) F' := by
  have AS := Lib.hid (asked_any h env b)
  rw [he] at AS
  have hsl : s.length = 256 := hs.len
  have hbl : (bys s).length = 256 := by rw [bys_length]; exact hsl
  obtain ⟨ab, ao, rfl, hal, hac⟩ := hs.lies (by omega)
  have hap' := hap ab ao rfl
  have hr : w.rangeAt ab ao (bys s) := fun j v hj => by
    obtain ⟨hj1, e⟩ := List.getElem?_eq_some_iff.1 hj
    rw [hac j hj1, e]
  have har := h.ok.ar
  have H := Lib.hid h
  have hat := run_arrayAt (P := Tryz.prog)
  have hat := fun W => hat W 140 5 256 (some ⟨ab, ao, none⟩) 256 c Tryz.underlying140 (Nat.le_refl _)
  have bd := run_build_wr (.int .i64 (b : Int)) rfl (bys s).toArray (by simpa using hbl)
  have hC1 : (#[Value.int .i64 (b : Int)] ++ (bys s).toArray).size = 257 := by simp [hbl]
  have hC2 : (#[Value.int .i64 (b : Int)] ++ (bys s).toArray).toList = (⟨b, s⟩ : Wr).cells := by simp [Wr.cells]
  have hC3 : ∀ u ∈ (#[Value.int .i64 (b : Int)] ++ (bys s).toArray).toList, u.oneCell' = true := by
    intro u hu
    rw [hC2] at hu
    rcases List.mem_cons.1 hu with rfl | hu
    · rfl
    · exact bys_one hu
  have bs := run_slice_wr (#[Value.int .i64 (b : Int)] ++ (bys s).toArray) hC1
  have HC := Lib.hid (And.intro hC1 (And.intro hC2 hC3))
  generalize #[Value.int .i64 (b : Int)] ++ (bys s).toArray = C at *
  have HL := Lib.hid hbl
  obtain ⟨bt, hbt⟩ : ∃ bt, bt = (bys s).toArray := ⟨_, rfl⟩
  rw [← hbt] at bd
  have HBL := Lib.hid (show (bys s).toArray = bt from hbt.symm)
  obtain ⟨iw, zw, hi, hz, hzc, hs2, hby⟩ := wr_infos
  have INF := Lib.hid (And.intro hi (And.intro hz (And.intro hzc (And.intro hs2 hby))))
  have HR0 := Lib.hid hr
  have OK0 := Lib.hid (h.ok.laid hb hsl h0)
  have h0' : (d.armed == 0) = false := beq_eq_false_iff_ne.2 h0
  clear h he hs hac hr hap hbl hC1 hC2 hC3 hbt hi hz hzc hs2 hby h0 hal
  go_enter Tryz.func49, Tryz.ntmps49
  go_wp2_with fail
  refine AS.out.mono ?_; rintro e w1 ⟨rfl, b1⟩
  have D1 := Lib.hid (H.out.new b1)
  have B1 := Lib.hid b1
  have R1 := Lib.hid (show w1.rangeAt ab ao (bys s) from fun j v hj => by
    have hc := HR0.out j v hj
    have hlt : ab < w.heap.size := by
      unfold World.cell? at hc
      cases hh : w.heap[ab]? with
      | none => simp only [hh] at hc; cases hc
      | some ob => exact (Array.getElem?_eq_some_iff.1 hh).1
    rw [World.cell?_of_block (w := w) (w' := w1) (a := ⟨ab, ao + j, none⟩) (b1.block ab hlt)]
    exact hc)
  obtain ⟨_, _, _, _, c4⟩ := heads D1.out
  have f4 := D1.out.head.frozen 4
  clear b1 AS HR0
  by_cases hm : d.armed = -1
  · have EA := Lib.hid (show (laid d b s).armed = d.armed by show (if d.armed = -1 then -1 else d.armed - 1) = d.armed; rw [if_pos hm]; exact hm.symm)
    have DD := D1
    have HR := R1
    have OK := OK0
    have SW := Lib.hid (Step.new B1.out (foot gb g Al Ae))
    rw [hm] at c4
    clear h0' hm har
    go_upto_region 11 with fail
    have c1 := (heads DD.out).2.1
    have c1d : (w1).drew.cell? ⟨g, 1, none⟩ = some (.slice Al d.line.length cl) := c1
    have hgl1 : g < w1.heap.size := DD.out.head.lt
    have LP1 := run_loadAt_mid (P := Tryz.prog) (w1).drew ab ao 140 (bys s) _ (show (w1).drew.rangeAt ab ao (bys s) from HR.out) Tryz.underlying140 rfl (page_size.trans (congrArg some HL.out.symm))
    have hba : Below w1.heap.size w1 ((w1).drew.alloc (.cells C 142)) := (show Below w1.heap.size w1 (w1).drew from ⟨rfl, rfl, rfl, Nat.le_refl _, fun _ _ => rfl⟩).alloc (Nat.le_refl _) _
    have hnews := World.news_of_block (Blk.new (w1).drew 142 C)
    have HN := Lib.hid hnews
    have hrow := (DD.out.line.new hba).own
    have HROW := Lib.hid hrow
    have HBA := Lib.hid hba
    clear hba hnews hrow
    rw [HBL.out] at LP1
    have LL : ∀ W' : World, W'.cell? ⟨g, 1, none⟩ = some (.slice Al d.line.length cl) → (Instr.loadAt 104 (.pointer (some ⟨g, 1, none⟩))).run Tryz.prog W' = .ok (.slice Al d.line.length cl) W' := fun W' h => by go_simp
    have ca : ((w1).drew.alloc (.cells C 142)).cell? ⟨g, 1, none⟩ = some (.slice Al d.line.length cl) := (DD.out.new HBA.out).head.cell 1
    refine wp_region_any (by kernel_rfl) ?_
    change wpAny _ _ _ _ _ _ _ (World.drew _)
    refine wpAny_take (i := 0) (v := .pointer (some ⟨g, 0, none⟩)) rfl (by kernel_rfl) (by kernel_rfl) (by kernel_rfl) (fun _ _ _ h => h) (Or.inl ⟨by rfl, fun w => by go_simp⟩) ?_
    refine wpAny_take (i := 1) (v := .pointer (some ⟨g, 0, none⟩)) rfl (by kernel_rfl) (by kernel_rfl) (by kernel_rfl) (fun _ _ _ h => h) (Or.inl ⟨by rfl, fun w => by go_simp⟩) ?_
    refine wpAny_take (i := 2) (v := .pointer (some ⟨g, 0, none⟩)) rfl (by kernel_rfl) (by kernel_rfl) (by kernel_rfl) (fun _ _ _ h => h) (Or.inl ⟨by rfl, fun w => by go_simp⟩) ?_
    refine wpAny_take (i := 3) (v := .pointer (some ⟨g, 1, none⟩)) rfl (by kernel_rfl) (by kernel_rfl) (by kernel_rfl) (fun _ _ _ h => h) (Or.inl ⟨by rfl, fun w => by go_simp⟩) ?_
    refine wpAny_take (i := 5) (v := .int .i64 (b : Int)) rfl (by kernel_rfl) (by kernel_rfl) (by kernel_rfl) (fun _ _ _ h => h) (Or.inl ⟨by rfl, fun w => by go_simp⟩) ?_
    refine wpAny_take (i := 6) (v := .slice (some ⟨ab, ao, none⟩) 256 c) rfl (by kernel_rfl) (by kernel_rfl) (by kernel_rfl) (fun _ _ _ h => h) (Or.inl ⟨by rfl, fun w => by go_simp⟩) ?_
    refine wpAny_take (i := 7) (v := .pointer (some ⟨ab, ao, none⟩)) rfl (by kernel_rfl) (by kernel_rfl) (by kernel_rfl) (fun _ _ _ h => h) (Or.inl ⟨by rfl, exec_arrayAt (y := .slice (some ⟨ab, ao, none⟩) 256 c) rfl rfl hat⟩) ?_
    go_simp
    refine any_two (i := 4) (j := 8) (by kernel_rfl) rfl rfl (by rfl) (by rfl) ?_ ?_
    · refine wp_load_is (y := .pointer (some ⟨g, 1, none⟩)) rfl rfl (LL (w1).drew c1d) ?_
      go_simp
      refine any_one (i := 8) (by kernel_rfl) rfl (by rfl) ?_
      refine wp_load_is (y := .pointer (some ⟨ab, ao, none⟩)) rfl rfl LP1 ?_
      go_simp
      refine wpAny_take (i := 9) (v := .agg C) rfl (by kernel_rfl) (by kernel_rfl) (by kernel_rfl) (fun _ _ _ h => h) (Or.inl ⟨by rfl, exec_build (ps := #[(0, .int .i64 (b : Int)), (1, .agg bt)]) rfl (by go_simp) bd⟩) ?_
      go_simp
      refine any_one (i := 10) (by kernel_rfl) rfl (by rfl) ?_
      refine wp_slice_is (ps := #[(0, .agg C)]) rfl (by go_simp) (bs (w1).drew) ?_
      go_simp
      refine any_one (i := 11) (by kernel_rfl) rfl (by rfl) ?_
      refine wp_append_lies _ (.tmp 43) (.tmp 49) 104 rfl 0 142 iw zw 257 264 Tryz.underlying104 INF.out.1 INF.out.2.1 INF.out.2.2.2.1 INF.out.2.2.2.2 INF.out.2.2.1 (by decide) _ d.line.length (lineC d.line) rfl HROW.out ⟨w1.heap.size, 0, none⟩ 1 1 C.toList rfl (by rw [Array.length_toList, HC.out.1]) HN.out HC.out.2.2 (by decide) (by unfold maxLen; omega) (by omega) (Nat.zero_le _) (w1.heap.size + 1) (by simp) ?_
      intro q cap w3 hown hgrow hat3 hlg
      rw [HC.out.2.1] at hown
      have hl3 := lay_at (d' := laid d b s) DD.out HBA.out (Nat.le_succ _) hgrow hat3 hown rfl rfl rfl rfl EA.out OK.out
      have c3 : w3.cell? ⟨g, 1, none⟩ = some (.slice Al d.line.length cl) := hl3.1.cell 1
      have f3 := hl3.1.frozen 1
      have HL3 := Lib.hid hl3.2
      clear hl3 hown hgrow hat3
      have SS : (Instr.storeAt 104 (.pointer (some ⟨g, 1, none⟩)) (.slice (some ⟨q, 0, none⟩) (d.line.length + 1) cap)).run Tryz.prog w3 = .ok () (w3.setCell ⟨g, 1, none⟩ (.slice (some ⟨q, 0, none⟩) (d.line.length + 1) cap)) := by go_simp
      go_simp
      refine wpAny_take (i := 12) (v := .pointer (some ⟨g, 0, none⟩)) rfl (by kernel_rfl) (by kernel_rfl) (by kernel_rfl) (fun _ _ _ h => h) (Or.inl ⟨by rfl, fun w => by go_simp⟩) ?_
      refine wpAny_take (i := 13) (v := .pointer (some ⟨g, 1, none⟩)) rfl (by kernel_rfl) (by kernel_rfl) (by kernel_rfl) (fun _ _ _ h => h) (Or.inl ⟨by rfl, fun w => by go_simp⟩) ?_
      go_simp
      refine any_one (i := 14) (by kernel_rfl) rfl (by rfl) ?_
      refine wp_store_is (vx := .pointer (some ⟨g, 1, none⟩)) (vy := .slice (some ⟨q, 0, none⟩) (d.line.length + 1) cap) rfl rfl rfl SS ?_
      refine wpAny_done (by kernel_rfl) ?_ _
      go_wp2
      go_ret
      exact ⟨rfl, _, HL3.out.1, SW.out.trans HL3.out.2⟩
    · refine wp_load_is (y := .pointer (some ⟨ab, ao, none⟩)) rfl rfl LP1 ?_
      go_simp
      refine wpAny_take (i := 9) (v := .agg C) rfl (by kernel_rfl) (by kernel_rfl) (by kernel_rfl) (fun _ _ _ h => h) (Or.inl ⟨by rfl, exec_build (ps := #[(0, .int .i64 (b : Int)), (1, .agg bt)]) rfl (by go_simp) bd⟩) ?_
      go_simp
      refine any_two (i := 4) (j := 10) (by kernel_rfl) rfl rfl (by rfl) (by rfl) ?_ ?_
      · refine wp_load_is (y := .pointer (some ⟨g, 1, none⟩)) rfl rfl (LL (w1).drew c1d) ?_
        go_simp
        refine any_one (i := 10) (by kernel_rfl) rfl (by rfl) ?_
        refine wp_slice_is (ps := #[(0, .agg C)]) rfl (by go_simp) (bs (w1).drew) ?_
        go_simp
        refine any_one (i := 11) (by kernel_rfl) rfl (by rfl) ?_
        refine wp_append_lies _ (.tmp 43) (.tmp 49) 104 rfl 0 142 iw zw 257 264 Tryz.underlying104 INF.out.1 INF.out.2.1 INF.out.2.2.2.1 INF.out.2.2.2.2 INF.out.2.2.1 (by decide) _ d.line.length (lineC d.line) rfl HROW.out ⟨w1.heap.size, 0, none⟩ 1 1 C.toList rfl (by rw [Array.length_toList, HC.out.1]) HN.out HC.out.2.2 (by decide) (by unfold maxLen; omega) (by omega) (Nat.zero_le _) (w1.heap.size + 1) (by simp) ?_
        intro q cap w3 hown hgrow hat3 hlg
        rw [HC.out.2.1] at hown
        have hl3 := lay_at (d' := laid d b s) DD.out HBA.out (Nat.le_succ _) hgrow hat3 hown rfl rfl rfl rfl EA.out OK.out
        have c3 : w3.cell? ⟨g, 1, none⟩ = some (.slice Al d.line.length cl) := hl3.1.cell 1
        have f3 := hl3.1.frozen 1
        have HL3 := Lib.hid hl3.2
        clear hl3 hown hgrow hat3
        have SS : (Instr.storeAt 104 (.pointer (some ⟨g, 1, none⟩)) (.slice (some ⟨q, 0, none⟩) (d.line.length + 1) cap)).run Tryz.prog w3 = .ok () (w3.setCell ⟨g, 1, none⟩ (.slice (some ⟨q, 0, none⟩) (d.line.length + 1) cap)) := by go_simp
        go_simp
        refine wpAny_take (i := 12) (v := .pointer (some ⟨g, 0, none⟩)) rfl (by kernel_rfl) (by kernel_rfl) (by kernel_rfl) (fun _ _ _ h => h) (Or.inl ⟨by rfl, fun w => by go_simp⟩) ?_
        refine wpAny_take (i := 13) (v := .pointer (some ⟨g, 1, none⟩)) rfl (by kernel_rfl) (by kernel_rfl) (by kernel_rfl) (fun _ _ _ h => h) (Or.inl ⟨by rfl, fun w => by go_simp⟩) ?_
        go_simp
        refine any_one (i := 14) (by kernel_rfl) rfl (by rfl) ?_
        refine wp_store_is (vx := .pointer (some ⟨g, 1, none⟩)) (vy := .slice (some ⟨q, 0, none⟩) (d.line.length + 1) cap) rfl rfl rfl SS ?_
        refine wpAny_done (by kernel_rfl) ?_ _
        go_wp2
        go_ret
        exact ⟨rfl, _, HL3.out.1, SW.out.trans HL3.out.2⟩
      · refine wp_slice_is (ps := #[(0, .agg C)]) rfl (by go_simp) (bs (w1).drew) ?_
        go_simp
        refine any_one (i := 4) (by kernel_rfl) rfl (by rfl) ?_
        refine wp_load_is (y := .pointer (some ⟨g, 1, none⟩)) rfl rfl (LL _ ca) ?_
        go_simp
        refine any_one (i := 11) (by kernel_rfl) rfl (by rfl) ?_
        refine wp_append_lies _ (.tmp 43) (.tmp 49) 104 rfl 0 142 iw zw 257 264 Tryz.underlying104 INF.out.1 INF.out.2.1 INF.out.2.2.2.1 INF.out.2.2.2.2 INF.out.2.2.1 (by decide) _ d.line.length (lineC d.line) rfl HROW.out ⟨w1.heap.size, 0, none⟩ 1 1 C.toList rfl (by rw [Array.length_toList, HC.out.1]) HN.out HC.out.2.2 (by decide) (by unfold maxLen; omega) (by omega) (Nat.zero_le _) (w1.heap.size + 1) (by simp) ?_
        intro q cap w3 hown hgrow hat3 hlg
        rw [HC.out.2.1] at hown
        have hl3 := lay_at (d' := laid d b s) DD.out HBA.out (Nat.le_succ _) hgrow hat3 hown rfl rfl rfl rfl EA.out OK.out
        have c3 : w3.cell? ⟨g, 1, none⟩ = some (.slice Al d.line.length cl) := hl3.1.cell 1
        have f3 := hl3.1.frozen 1
        have HL3 := Lib.hid hl3.2
        clear hl3 hown hgrow hat3
        have SS : (Instr.storeAt 104 (.pointer (some ⟨g, 1, none⟩)) (.slice (some ⟨q, 0, none⟩) (d.line.length + 1) cap)).run Tryz.prog w3 = .ok () (w3.setCell ⟨g, 1, none⟩ (.slice (some ⟨q, 0, none⟩) (d.line.length + 1) cap)) := by go_simp
        go_simp
        refine wpAny_take (i := 12) (v := .pointer (some ⟨g, 0, none⟩)) rfl (by kernel_rfl) (by kernel_rfl) (by kernel_rfl) (fun _ _ _ h => h) (Or.inl ⟨by rfl, fun w => by go_simp⟩) ?_
        refine wpAny_take (i := 13) (v := .pointer (some ⟨g, 1, none⟩)) rfl (by kernel_rfl) (by kernel_rfl) (by kernel_rfl) (fun _ _ _ h => h) (Or.inl ⟨by rfl, fun w => by go_simp⟩) ?_
        go_simp
        refine any_one (i := 14) (by kernel_rfl) rfl (by rfl) ?_
        refine wp_store_is (vx := .pointer (some ⟨g, 1, none⟩)) (vy := .slice (some ⟨q, 0, none⟩) (d.line.length + 1) cap) rfl rfl rfl SS ?_
        refine wpAny_done (by kernel_rfl) ?_ _
        go_wp2
        go_ret
        exact ⟨rfl, _, HL3.out.1, SW.out.trans HL3.out.2⟩
  · have e1 : (laid d b s).armed = d.armed - 1 := by show (if d.armed = -1 then -1 else d.armed - 1) = _; rw [if_neg hm]
    have xa : IntKind.i64.wrap (d.armed - 1) = d.armed - 1 := IntWalk.i64_in _ (by omega)
    have hm' : (d.armed == -1) = false := beq_eq_false_iff_ne.2 hm
    have kk : Chg w1 (w1.setCell ⟨g, 4, none⟩ (.int .i64 (d.armed - 1))) (fun k => k = g) := Chg.set _ _ _ rfl
    have oks : ({ d with armed := d.armed - 1 } : Dk).Ok := by
      have o := D1.out.ok
      exact ⟨o.n1, o.n2, o.bl, o.ow, o.ex, o.mt, o.li, by have := o.ar; have := beq_eq_false_iff_ne.1 h0'; show -1 ≤ d.armed - 1 ∧ d.armed - 1 ≤ _; omega⟩
    have dd : DskAt (w1.setCell ⟨g, 4, none⟩ (.int .i64 (d.armed - 1))) gb g Al cl Ae ce { d with armed := d.armed - 1 } := rehead D1.out kk rfl rfl rfl (by
      have := D1.out.head.put 4 (.int .i64 (d.armed - 1))
      simp at this
      exact this) oks
    have rr : (w1.setCell ⟨g, 4, none⟩ (.int .i64 (d.armed - 1))).rangeAt ab ao (bys s) := fun j v hj => by
      have hc := R1.out j v hj
      have hlt : ab < w1.heap.size := by
        unfold World.cell? at hc
        cases hh : w1.heap[ab]? with
        | none => simp only [hh] at hc; cases hc
        | some ob => exact (Array.getElem?_eq_some_iff.1 hh).1
      rw [World.cell?_of_block (w := w1) (a := ⟨ab, ao + j, none⟩) (kk.block ab hlt (fun e => hap' (.inr (.inl e))))]
      exact hc
    have SW := Lib.hid ((Step.new B1.out (foot gb g Al Ae)).trans (show Step w1 (w1.setCell ⟨g, 4, none⟩ (.int .i64 (d.armed - 1))) (foot gb g Al Ae) (foot gb g Al Ae) from ⟨kk.weak (fun i hi => .inr (.inl hi)), fun _ h => .inl h⟩))
    have HR := Lib.hid rr
    have HDD := Lib.hid dd
    have E1 := Lib.hid e1
    have OK := OK0
    clear hm har kk oks dd rr e1 R1 D1
    generalize d.armed = am at *
    go_upto_region 11 with fail
    generalize w1.setCell ⟨g, 4, none⟩ (.int .i64 (am - 1)) = wA at *
    have DD := HDD
    have EA := E1
    clear c4 f4
    have c1 := (heads DD.out).2.1
    have c1d : (wA).drew.cell? ⟨g, 1, none⟩ = some (.slice Al d.line.length cl) := c1
    have hgl1 : g < wA.heap.size := DD.out.head.lt
    have LP1 := run_loadAt_mid (P := Tryz.prog) (wA).drew ab ao 140 (bys s) _ (show (wA).drew.rangeAt ab ao (bys s) from HR.out) Tryz.underlying140 rfl (page_size.trans (congrArg some HL.out.symm))
    have hba : Below wA.heap.size wA ((wA).drew.alloc (.cells C 142)) := (show Below wA.heap.size wA (wA).drew from ⟨rfl, rfl, rfl, Nat.le_refl _, fun _ _ => rfl⟩).alloc (Nat.le_refl _) _
    have hnews := World.news_of_block (Blk.new (wA).drew 142 C)
    have HN := Lib.hid hnews
    have hrow := (DD.out.line.new hba).own
    have HROW := Lib.hid hrow
    have HBA := Lib.hid hba
    clear hba hnews hrow
    rw [HBL.out] at LP1
    have LL : ∀ W' : World, W'.cell? ⟨g, 1, none⟩ = some (.slice Al d.line.length cl) → (Instr.loadAt 104 (.pointer (some ⟨g, 1, none⟩))).run Tryz.prog W' = .ok (.slice Al d.line.length cl) W' := fun W' h => by go_simp
    have ca : ((wA).drew.alloc (.cells C 142)).cell? ⟨g, 1, none⟩ = some (.slice Al d.line.length cl) := (DD.out.new HBA.out).head.cell 1
    refine wp_region_any (by kernel_rfl) ?_
    change wpAny _ _ _ _ _ _ _ (World.drew _)
    refine wpAny_take (i := 0) (v := .pointer (some ⟨g, 0, none⟩)) rfl (by kernel_rfl) (by kernel_rfl) (by kernel_rfl) (fun _ _ _ h => h) (Or.inl ⟨by rfl, fun w => by go_simp⟩) ?_
    refine wpAny_take (i := 1) (v := .pointer (some ⟨g, 0, none⟩)) rfl (by kernel_rfl) (by kernel_rfl) (by kernel_rfl) (fun _ _ _ h => h) (Or.inl ⟨by rfl, fun w => by go_simp⟩) ?_
    refine wpAny_take (i := 2) (v := .pointer (some ⟨g, 0, none⟩)) rfl (by kernel_rfl) (by kernel_rfl) (by kernel_rfl) (fun _ _ _ h => h) (Or.inl ⟨by rfl, fun w => by go_simp⟩) ?_
    refine wpAny_take (i := 3) (v := .pointer (some ⟨g, 1, none⟩)) rfl (by kernel_rfl) (by kernel_rfl) (by kernel_rfl) (fun _ _ _ h => h) (Or.inl ⟨by rfl, fun w => by go_simp⟩) ?_
    refine wpAny_take (i := 5) (v := .int .i64 (b : Int)) rfl (by kernel_rfl) (by kernel_rfl) (by kernel_rfl) (fun _ _ _ h => h) (Or.inl ⟨by rfl, fun w => by go_simp⟩) ?_
    refine wpAny_take (i := 6) (v := .slice (some ⟨ab, ao, none⟩) 256 c) rfl (by kernel_rfl) (by kernel_rfl) (by kernel_rfl) (fun _ _ _ h => h) (Or.inl ⟨by rfl, fun w => by go_simp⟩) ?_
    refine wpAny_take (i := 7) (v := .pointer (some ⟨ab, ao, none⟩)) rfl (by kernel_rfl) (by kernel_rfl) (by kernel_rfl) (fun _ _ _ h => h) (Or.inl ⟨by rfl, exec_arrayAt (y := .slice (some ⟨ab, ao, none⟩) 256 c) rfl rfl hat⟩) ?_
    go_simp
    refine any_two (i := 4) (j := 8) (by kernel_rfl) rfl rfl (by rfl) (by rfl) ?_ ?_
    · refine wp_load_is (y := .pointer (some ⟨g, 1, none⟩)) rfl rfl (LL (wA).drew c1d) ?_
      go_simp
      refine any_one (i := 8) (by kernel_rfl) rfl (by rfl) ?_
      refine wp_load_is (y := .pointer (some ⟨ab, ao, none⟩)) rfl rfl LP1 ?_
      go_simp
      refine wpAny_take (i := 9) (v := .agg C) rfl (by kernel_rfl) (by kernel_rfl) (by kernel_rfl) (fun _ _ _ h => h) (Or.inl ⟨by rfl, exec_build (ps := #[(0, .int .i64 (b : Int)), (1, .agg bt)]) rfl (by go_simp) bd⟩) ?_
      go_simp
      refine any_one (i := 10) (by kernel_rfl) rfl (by rfl) ?_
      refine wp_slice_is (ps := #[(0, .agg C)]) rfl (by go_simp) (bs (wA).drew) ?_
      go_simp
      refine any_one (i := 11) (by kernel_rfl) rfl (by rfl) ?_
      refine wp_append_lies _ (.tmp 43) (.tmp 49) 104 rfl 0 142 iw zw 257 264 Tryz.underlying104 INF.out.1 INF.out.2.1 INF.out.2.2.2.1 INF.out.2.2.2.2 INF.out.2.2.1 (by decide) _ d.line.length (lineC d.line) rfl HROW.out ⟨wA.heap.size, 0, none⟩ 1 1 C.toList rfl (by rw [Array.length_toList, HC.out.1]) HN.out HC.out.2.2 (by decide) (by unfold maxLen; omega) (by omega) (Nat.zero_le _) (wA.heap.size + 1) (by simp) ?_
      intro q cap w3 hown hgrow hat3 hlg
      rw [HC.out.2.1] at hown
      have hl3 := lay_at (d' := laid d b s) DD.out HBA.out (Nat.le_succ _) hgrow hat3 hown rfl rfl rfl rfl EA.out OK.out
      have c3 : w3.cell? ⟨g, 1, none⟩ = some (.slice Al d.line.length cl) := hl3.1.cell 1
      have f3 := hl3.1.frozen 1
      have HL3 := Lib.hid hl3.2
      clear hl3 hown hgrow hat3
      have SS : (Instr.storeAt 104 (.pointer (some ⟨g, 1, none⟩)) (.slice (some ⟨q, 0, none⟩) (d.line.length + 1) cap)).run Tryz.prog w3 = .ok () (w3.setCell ⟨g, 1, none⟩ (.slice (some ⟨q, 0, none⟩) (d.line.length + 1) cap)) := by go_simp
      go_simp
      refine wpAny_take (i := 12) (v := .pointer (some ⟨g, 0, none⟩)) rfl (by kernel_rfl) (by kernel_rfl) (by kernel_rfl) (fun _ _ _ h => h) (Or.inl ⟨by rfl, fun w => by go_simp⟩) ?_
      refine wpAny_take (i := 13) (v := .pointer (some ⟨g, 1, none⟩)) rfl (by kernel_rfl) (by kernel_rfl) (by kernel_rfl) (fun _ _ _ h => h) (Or.inl ⟨by rfl, fun w => by go_simp⟩) ?_
      go_simp
      refine any_one (i := 14) (by kernel_rfl) rfl (by rfl) ?_
      refine wp_store_is (vx := .pointer (some ⟨g, 1, none⟩)) (vy := .slice (some ⟨q, 0, none⟩) (d.line.length + 1) cap) rfl rfl rfl SS ?_
      refine wpAny_done (by kernel_rfl) ?_ _
      go_wp2
      go_ret
      exact ⟨rfl, _, HL3.out.1, SW.out.trans HL3.out.2⟩
    · refine wp_load_is (y := .pointer (some ⟨ab, ao, none⟩)) rfl rfl LP1 ?_
      go_simp
      refine wpAny_take (i := 9) (v := .agg C) rfl (by kernel_rfl) (by kernel_rfl) (by kernel_rfl) (fun _ _ _ h => h) (Or.inl ⟨by rfl, exec_build (ps := #[(0, .int .i64 (b : Int)), (1, .agg bt)]) rfl (by go_simp) bd⟩) ?_
      go_simp
      refine any_two (i := 4) (j := 10) (by kernel_rfl) rfl rfl (by rfl) (by rfl) ?_ ?_
      · refine wp_load_is (y := .pointer (some ⟨g, 1, none⟩)) rfl rfl (LL (wA).drew c1d) ?_
        go_simp
        refine any_one (i := 10) (by kernel_rfl) rfl (by rfl) ?_
        refine wp_slice_is (ps := #[(0, .agg C)]) rfl (by go_simp) (bs (wA).drew) ?_
        go_simp
        refine any_one (i := 11) (by kernel_rfl) rfl (by rfl) ?_
        refine wp_append_lies _ (.tmp 43) (.tmp 49) 104 rfl 0 142 iw zw 257 264 Tryz.underlying104 INF.out.1 INF.out.2.1 INF.out.2.2.2.1 INF.out.2.2.2.2 INF.out.2.2.1 (by decide) _ d.line.length (lineC d.line) rfl HROW.out ⟨wA.heap.size, 0, none⟩ 1 1 C.toList rfl (by rw [Array.length_toList, HC.out.1]) HN.out HC.out.2.2 (by decide) (by unfold maxLen; omega) (by omega) (Nat.zero_le _) (wA.heap.size + 1) (by simp) ?_
        intro q cap w3 hown hgrow hat3 hlg
        rw [HC.out.2.1] at hown
        have hl3 := lay_at (d' := laid d b s) DD.out HBA.out (Nat.le_succ _) hgrow hat3 hown rfl rfl rfl rfl EA.out OK.out
        have c3 : w3.cell? ⟨g, 1, none⟩ = some (.slice Al d.line.length cl) := hl3.1.cell 1
        have f3 := hl3.1.frozen 1
        have HL3 := Lib.hid hl3.2
        clear hl3 hown hgrow hat3
        have SS : (Instr.storeAt 104 (.pointer (some ⟨g, 1, none⟩)) (.slice (some ⟨q, 0, none⟩) (d.line.length + 1) cap)).run Tryz.prog w3 = .ok () (w3.setCell ⟨g, 1, none⟩ (.slice (some ⟨q, 0, none⟩) (d.line.length + 1) cap)) := by go_simp
        go_simp
        refine wpAny_take (i := 12) (v := .pointer (some ⟨g, 0, none⟩)) rfl (by kernel_rfl) (by kernel_rfl) (by kernel_rfl) (fun _ _ _ h => h) (Or.inl ⟨by rfl, fun w => by go_simp⟩) ?_
        refine wpAny_take (i := 13) (v := .pointer (some ⟨g, 1, none⟩)) rfl (by kernel_rfl) (by kernel_rfl) (by kernel_rfl) (fun _ _ _ h => h) (Or.inl ⟨by rfl, fun w => by go_simp⟩) ?_
        go_simp
        refine any_one (i := 14) (by kernel_rfl) rfl (by rfl) ?_
        refine wp_store_is (vx := .pointer (some ⟨g, 1, none⟩)) (vy := .slice (some ⟨q, 0, none⟩) (d.line.length + 1) cap) rfl rfl rfl SS ?_
        refine wpAny_done (by kernel_rfl) ?_ _
        go_wp2
        go_ret
        exact ⟨rfl, _, HL3.out.1, SW.out.trans HL3.out.2⟩
      · refine wp_slice_is (ps := #[(0, .agg C)]) rfl (by go_simp) (bs (wA).drew) ?_
        go_simp
        refine any_one (i := 4) (by kernel_rfl) rfl (by rfl) ?_
        refine wp_load_is (y := .pointer (some ⟨g, 1, none⟩)) rfl rfl (LL _ ca) ?_
        go_simp
        refine any_one (i := 11) (by kernel_rfl) rfl (by rfl) ?_
        refine wp_append_lies _ (.tmp 43) (.tmp 49) 104 rfl 0 142 iw zw 257 264 Tryz.underlying104 INF.out.1 INF.out.2.1 INF.out.2.2.2.1 INF.out.2.2.2.2 INF.out.2.2.1 (by decide) _ d.line.length (lineC d.line) rfl HROW.out ⟨wA.heap.size, 0, none⟩ 1 1 C.toList rfl (by rw [Array.length_toList, HC.out.1]) HN.out HC.out.2.2 (by decide) (by unfold maxLen; omega) (by omega) (Nat.zero_le _) (wA.heap.size + 1) (by simp) ?_
        intro q cap w3 hown hgrow hat3 hlg
        rw [HC.out.2.1] at hown
        have hl3 := lay_at (d' := laid d b s) DD.out HBA.out (Nat.le_succ _) hgrow hat3 hown rfl rfl rfl rfl EA.out OK.out
        have c3 : w3.cell? ⟨g, 1, none⟩ = some (.slice Al d.line.length cl) := hl3.1.cell 1
        have f3 := hl3.1.frozen 1
        have HL3 := Lib.hid hl3.2
        clear hl3 hown hgrow hat3
        have SS : (Instr.storeAt 104 (.pointer (some ⟨g, 1, none⟩)) (.slice (some ⟨q, 0, none⟩) (d.line.length + 1) cap)).run Tryz.prog w3 = .ok () (w3.setCell ⟨g, 1, none⟩ (.slice (some ⟨q, 0, none⟩) (d.line.length + 1) cap)) := by go_simp
        go_simp
        refine wpAny_take (i := 12) (v := .pointer (some ⟨g, 0, none⟩)) rfl (by kernel_rfl) (by kernel_rfl) (by kernel_rfl) (fun _ _ _ h => h) (Or.inl ⟨by rfl, fun w => by go_simp⟩) ?_
        refine wpAny_take (i := 13) (v := .pointer (some ⟨g, 1, none⟩)) rfl (by kernel_rfl) (by kernel_rfl) (by kernel_rfl) (fun _ _ _ h => h) (Or.inl ⟨by rfl, fun w => by go_simp⟩) ?_
        go_simp
        refine any_one (i := 14) (by kernel_rfl) rfl (by rfl) ?_
        refine wp_store_is (vx := .pointer (some ⟨g, 1, none⟩)) (vy := .slice (some ⟨q, 0, none⟩) (d.line.length + 1) cap) rfl rfl rfl SS ?_
        refine wpAny_done (by kernel_rfl) ?_ _
        go_wp2
        go_ret
        exact ⟨rfl, _, HL3.out.1, SW.out.trans HL3.out.2⟩
theorem write_any (h : DA w F g d) (env block : Int) (A : Option Addr) (n c : Nat) (s : List UInt8) (hs : Src w A n c s) (hap : ∀ b o, A = some ⟨b, o, none⟩ → ¬ F b) (hcnt : d.line.length < 1000000) :
    Calls Tryz.prog 49 #[.pointer (some ⟨g, 0, none⟩), .int .i64 env, .int .i64 block, .slice A n c] w fun e w' => e = .returned (.int .i64 (writeR d env block s).2) ∧ ∃ F', DA w' F' g (writeR d env block s).1 ∧ Step w w' F F' := by
  obtain ⟨gb, Al, cl, Ae, ce, D, hF⟩ := h
  have hFe : F = foot gb g Al Ae := funext fun k => propext (hF k)
  subst hFe
  unfold writeR
  by_cases he : askE d env block = 0
  · rw [if_pos he]
    by_cases hl : s.length = 256
    · rw [if_pos hl]
      obtain rfl : n = 256 := by rw [← hs.len]; exact hl
      by_cases h0 : d.armed = 0
      · rw [if_pos h0]
        refine (write_cut D env block A c he h0).mono ?_
        rintro e w' ⟨rfl, a, b⟩
        exact ⟨rfl, _, a, b⟩
      · rw [if_neg h0]
        obtain ⟨_, b, rfl, hb, _⟩ := askE_zero he
        rw [Int.toNat_natCast]
        exact write_lay D env b hb A c s hs hap he h0 hcnt
    · rw [if_neg hl]
      refine (write_short D env block A n c he (by rw [← hs.len]; exact hl)).mono ?_
      rintro e w' ⟨rfl, b⟩
      exact ⟨rfl, _, (D.new b).da, Step.new b _⟩
  · rw [if_neg he]
    refine (write_no D env block A n c he).mono ?_
    rintro e w' ⟨rfl, b⟩
    exact ⟨rfl, _, (D.new b).da, Step.new b _⟩
end
end Go.Proofs.YthnpalcjfgbjeaaGreat.Di

/- Package disk: settle, Sync, Revive. Conditions: those that each states. -/
namespace Go.Proofs.YthnpalcjfgbjeaaGreat.Di
open Go.ChangeShapes Go.WideShapes Go.ChangeAt Go.RowKit Go.Deep
set_option linter.unusedVariables false

theorem wpStill_load {P : Program} {ops : Array Oper} {w : World} {Q : Act → Prop} {a : Act} {o : Oper} {rest : List Oper} {t : TypeId} {x : Operand} (ho : o.op = .load t x) {v y : Value} (hx : a.eval x = y) (h : (Instr.loadAt t y).run P w = .ok v w) (hw : Region.wanted o (yielded ops a.tmps) = true)
    (hk : wpStill P ops w Q rest (a.put o.dst v)) : wpStill P ops w Q (o :: rest) a := by
  refine wpStill_step (fun K hK => ?_)
  rw [if_pos hw]
  unfold Oper.still execOp
  simp only [ho, hx, Sem.run_bind, h, Result.andThen_ok, Sem.run_pure, Oper.stillUpon_value]
  exact hK _ hk
theorem wpList_alloc_is {P : Program} {ops : Array Oper} {rest : List Oper} {o : Oper} {a : Act} {w : World} {Q : Exit → Act → World → Prop} (hgd : o.guard = none) (t : TypeId) (ho : o.op = .alloc t) (i : TypeInfo) (z : Value) (hi : P.info? t = some i) (hz : i.zero = some z)
    (h : wpList P ops Q rest (a.put o.dst (.pointer (some ⟨w.heap.size, 0, none⟩))) (w.alloc (.cells z.cells t))) : wpList P ops Q (o :: rest) a w := by
  refine wpList_plain hgd fun K hK => ?_
  have hrun : (Instr.alloc t true (.tuple #[])).run P w = .ok (.pointer (some ⟨w.heap.size, 0, none⟩)) (w.alloc (.cells z.cells t)) := by
    simp [Instr.alloc, zeroValue, typeInfo, hi, hz, newVar, newRow]
  unfold Oper.wp execOp
  simp only [ho, Sem.run_bind, hrun, Result.andThen_ok, Sem.run_pure]
  exact hK _ _ h

theorem run_cutline (Al : Option Addr) (cl n k : Nat) (h0 : Al = none ∨ ∃ l, Al = some ⟨l, 0, none⟩) (hk : k ≤ n) (hn : n ≤ cl) (W : World) :
    (Instr.slice 104 (.slice Al n cl) none (some (.int .i64 (k : Int))) none).run Tryz.prog W = .ok (.slice Al k cl) W := by
  have ht : Tryz.prog.underlying 104 = some (.slice (Tryz.prog.elem 104)) := by kernel_rfl
  have he : (Tryz.prog.info? (Tryz.prog.elem 104)).map (·.size) = some 257 := by kernel_rfl
  obtain ⟨i, hi, hs⟩ := Option.map_eq_some_iff.1 he
  rw [run_slice_h W 104 Al n cl ht .i64 (k : Int) (by omega) (by omega)]
  have hz : (sizeOf (Tryz.prog.elem 104)).run Tryz.prog W = .ok i.size W := by simp [sizeOf, typeInfo, hi]
  rw [hz]
  simp only [Result.andThen_ok, sliced]
  rcases h0 with rfl | ⟨l, rfl⟩
  · simp
  · have ea : (⟨l, 0, none⟩ : Addr).add 0 = ⟨l, 0, none⟩ := by unfold Addr.add; split <;> simp_all
    simp [ea]

def part (d : Dk) (j : Nat) : Dk := { d with blocks := put d.blocks (d.line.take j) }
section
variable {gb g cl ce q cap : Nat} {Al Ae : Option Addr} {d : Dk} {w w1 w2 : World} {F : Nat → Prop}
theorem part_ok (h : d.Ok) (j : Nat) : (part d j).Ok := by
  have o := h.settle j
  exact ⟨o.n1, o.n2, o.bl, o.ow, o.ex, o.mt, fun q hq => by
    have h1 := h.li q hq
    refine ⟨?_, h1.2⟩
    show q.block < (put _ _).length
    rw [put_len]; exact h1.1, o.ar⟩
theorem part_succ {j : Nat} (hj : j < d.line.length) : part d (j + 1) = { part d j with blocks := (part d j).blocks.set d.line[j].block d.line[j].text } := by
  unfold part
  congr 1
  rw [List.take_succ_eq_append_getElem hj, put_append]
  rfl
/-- One write becomes durable. -/
theorem settle_step (h : DskAt w gb g Al cl Ae ce d) {b : Nat} {t : List UInt8} (hb : b < d.blocks.length) (ht : t.length = 256) :
    DskAt (w.setRow gb ((blocksC d.blocks).toArray.toList.take (b * 256) ++ (bys t).toArray.toList ++ (blocksC d.blocks).toArray.toList.drop (b * 256 + (bys t).toArray.size)).toArray) gb g Al cl Ae ce { d with blocks := d.blocks.set b t } ∧
    Chg w (w.setRow gb ((blocksC d.blocks).toArray.toList.take (b * 256) ++ (bys t).toArray.toList ++ (blocksC d.blocks).toArray.toList.drop (b * 256 + (bys t).toArray.size)).toArray) (fun k => k = gb) := by
  have k : Chg w (w.setRow gb ((blocksC d.blocks).toArray.toList.take (b * 256) ++ (bys t).toArray.toList ++ (blocksC d.blocks).toArray.toList.drop (b * 256 + (bys t).toArray.size)).toArray) (fun k => k = gb) := Chg.setRow _ _ rfl
  refine ⟨⟨?_, ?_, h.line.chg k (fun b hb e => h.lb (by have e' : b = gb := e; rw [← e']; exact hb)), h.exts.chg k (fun b hb e => h.eb (by have e' : b = gb := e; rw [← e']; exact hb)), h.ne, h.lb, h.lg, h.eb, h.eg, h.le, ?_⟩, k⟩
  · have := h.head.chg k (fun e => h.ne (by have e' : g = gb := e; exact e'.symm))
    simp only [List.length_set]
    exact this
  · have hrow := h.tab.row ((blocksC d.blocks).toArray.toList.take (b * 256) ++ (bys t).toArray.toList ++ (blocksC d.blocks).toArray.toList.drop (b * 256 + (bys t).toArray.size)).toArray
    have e : (blocksC d.blocks).toArray.toList.take (b * 256) ++ (bys t).toArray.toList ++ (blocksC d.blocks).toArray.toList.drop (b * 256 + (bys t).toArray.size) = blocksC (d.blocks.set b t) := by
      have hl : (bys t).length = 256 := by rw [bys_length]; exact ht
      rw [List.size_toArray, hl]
      unfold blocksC
      rw [List.map_set, flat_set (blocks_rows h.ok) (by simpa using hb)]
    rw [e] at hrow ⊢
    exact hrow
  · have o := h.ok
    exact ⟨by simpa using o.n1, by simpa using o.n2, fun u hu => by
      rcases List.mem_or_eq_of_mem_set hu with h1 | rfl
      · exact o.bl u h1
      · exact ht, by simpa using o.ow, fun x hx => by simpa using o.ex x hx, fun b' hb' => o.mt b' (by simpa using hb'), fun x hx => by simpa using o.li x hx, o.ar⟩
/-- The line is forgotten. -/
theorem settle_end (h : DskAt w gb g Al cl Ae ce d) : DskAt (w.setCell ⟨g, 1, none⟩ (.slice none 0 0)) gb g none 0 Ae ce { d with line := [] } ∧ Chg w (w.setCell ⟨g, 1, none⟩ (.slice none 0 0)) (fun k => k = g) := by
  have k : Chg w (w.setCell ⟨g, 1, none⟩ (.slice none 0 0)) (fun k => k = g) := Chg.set _ _ _ rfl
  refine ⟨⟨?_, h.tab.chg k h.ne, RowW.nil _ _ _, h.exts.chg k (fun b hb e => h.eg (by have e' : b = g := e; rw [← e']; exact hb)), h.ne, inB_none _, inB_none _, h.eb, h.eg, fun b hb => (inB_none _ hb).elim, ⟨h.ok.n1, h.ok.n2, h.ok.bl, h.ok.ow, h.ok.ex, h.ok.mt, fun q hq => (by cases hq), h.ok.ar⟩⟩, k⟩
  have := h.head.put 1 (.slice none 0 0)
  simp at this
  exact this
theorem line_form (h : DskAt w gb g Al cl Ae ce d) : Al = none ∨ ∃ l, Al = some ⟨l, 0, none⟩ := by
  rcases h.line.own.2 with ⟨e, _⟩ | ⟨g', cap', cur, e, _⟩
  · injection e with e1; exact .inl e1
  · injection e with e1; exact .inr ⟨g', e1⟩

set_option maxRecDepth 100000 in
set_option maxHeartbeats 2000000 in
theorem settle_any (h : DskAt w gb g Al cl Ae ce d) (n : Nat) (hn : n ≤ d.line.length) :
    Calls Tryz.prog 70 #[.pointer (some ⟨g, 0, none⟩), .int .i64 (n : Int)] w fun e w' => e = .returned (.tuple #[]) ∧ DskAt w' gb g none 0 Ae ce (settleR d n) ∧ Chg w w' (foot gb g Al Ae) := by
  have hsl := fun W => run_cutline Al cl d.line.length n (line_form h) hn h.line.capMax.1 W
  have c1 := (heads h).2.1
  have n2 := h.ok.n2
  have hL : d.line.length ≤ 9223372036854775807 := by have := h.line.capMax; unfold maxLen at this; omega
  have H0 := Lib.hid (show DskAt w gb g Al cl Ae ce (part d 0) from h)
  have OK := Lib.hid h.ok
  obtain ⟨iw, zw, hi, hz, hzc, hs2, hby⟩ := wr_infos
  have INF := Lib.hid (And.intro hi (And.intro hz (And.intro hzc (And.intro hs2 hby))))
  clear h hi hz hzc hs2 hby
  go_enter Tryz.func70, Tryz.ntmps70
  go_wp2
  go_loopw [13] (fun i wr => ∃ (j : Nat), j ≤ n ∧ i = .int .i64 (j : Int) ∧ DskAt wr gb g Al cl Ae ce (part d j) ∧ Chg w wr (foot gb g Al Ae)) (fun i _ => n - (intOf i).toNat)
  case atStart => exact ⟨0, Nat.zero_le _, rfl, H0.out, Chg.refl _ _⟩
  case round =>
    obtain ⟨j, hj, rfl, hD, hC⟩ := hrel
    by_cases hlt : j < n
    · have hjl : j < d.line.length := by omega
      have j1 : (j : Int) < (n : Int) := by omega
      have j0 : (0 : Int) ≤ (j : Int) := by omega
      have xj := IntWalk.i64_in ((j : Int) + 1) (by omega)
      obtain ⟨l, rfl, hl, _, _, hr⟩ := hD.wr (i := j) hjl
      have hq := (part_ok OK.out j).li d.line[j] (List.getElem_mem hjl)
      have hr' : wr.rangeAt l (j * 257) (d.line[j]).cells := hr
      have hlen : (d.line[j]).cells.length = 257 := by simp [Wr.cells, bys_length, hq.2]
      have LD := Lib.hid hr'
      have HLEN := Lib.hid hlen
      have SZ := Lib.hid (show (Tryz.prog.info? 142).map (·.size) = some (d.line[j]).cells.length by rw [HLEN.out, INF.out.1]; exact congrArg some INF.out.2.2.2.1)
      have hone : (d.line[j]).cells.toArray.all (·.oneCell') = true := by
        rw [Array.all_eq_true_iff_forall_mem]
        intro u hu
        have hu' : u ∈ (d.line[j]).cells := by simpa using hu
        rcases List.mem_cons.1 hu' with rfl | hu'
        · rfl
        · exact bys_one hu'
      have ONE := Lib.hid hone
      have HD := Lib.hid hD
      have HC := Lib.hid hC
      -- the write's own block
      obtain ⟨wS, hwS⟩ : ∃ wS, (wr.alloc (.cells zw.cells 142)).setRow wr.heap.size (zw.cells.toList.take 0 ++ (d.line[j]).cells.toArray.toList ++ zw.cells.toList.drop (0 + (d.line[j]).cells.toArray.size)).toArray = wS := ⟨_, rfl⟩
      have EQ := Lib.hid hwS
      have hB : Below wr.heap.size wr wS := by
        rw [← hwS]
        exact ((Below.refl wr.heap.size wr).alloc (Nat.le_refl _) _).trans ((Chg.setRow (S := fun k => k = wr.heap.size) _ _ rfl).below (by simp) (fun k hk => by have hk' : k = wr.heap.size := hk; omega))
      have hS : Blk wS wr.heap.size 142 (d.line[j]).cells.toArray := by
        have := (Blk.new wr 142 zw.cells).row (zw.cells.toList.take 0 ++ (d.line[j]).cells.toArray.toList ++ zw.cells.toList.drop (0 + (d.line[j]).cells.toArray.size)).toArray
        rw [hwS] at this
        have e : zw.cells.toList.take 0 ++ (d.line[j]).cells.toArray.toList ++ zw.cells.toList.drop (0 + (d.line[j]).cells.toArray.size) = (d.line[j]).cells := by
          rw [List.take_zero, List.nil_append, List.drop_eq_nil_of_le (by rw [Array.length_toList, INF.out.2.2.1, List.size_toArray, HLEN.out]; omega), List.append_nil]
        rw [e] at this
        exact this
      have qc : wS.cell? ⟨wr.heap.size, 0, none⟩ = some (.int .i64 (d.line[j].block : Int)) := by rw [hS.cell]; rfl
      have hqr : wS.rangeAt wr.heap.size 1 (bys d.line[j].text) := fun i v hv => by
        rw [hS.cell, List.getElem?_toArray, Nat.add_comm 1 i]
        exact hv
      have hDS := HD.out.new hB
      have gc := (heads hDS).1
      have e1 : (part d j).blocks.length = d.blocks.length := put_len _ _
      rw [e1] at gc
      have hbl : (bys d.line[j].text).length = 256 := by rw [bys_length]; exact hq.2
      have LP := run_loadAt_mid (P := Tryz.prog) wS.drew wr.heap.size 1 140 (bys d.line[j].text) _ (show wS.drew.rangeAt wr.heap.size 1 (bys d.line[j].text) from hqr) Tryz.underlying140 rfl (page_size.trans (congrArg some hbl.symm))
      have TAB := Lib.hid (show Blk wS.drew gb 140 (blocksC (part d j).blocks).toArray from hDS.tab)
      have PSZ := Lib.hid (show (Tryz.prog.info? 140).map (·.size) = some (bys d.line[j].text).toArray.size by rw [List.size_toArray, hbl]; exact page_size)
      have POLD := Lib.hid (show d.line[j].block * 256 + (bys d.line[j].text).toArray.size ≤ (blocksC (part d j).blocks).toArray.size by
        rw [List.size_toArray, List.size_toArray, hbl, blocks_len hDS.ok]
        have := hq.1
        omega)
      have PONE := Lib.hid (show (bys d.line[j].text).toArray.all (·.oneCell') = true by
        rw [Array.all_eq_true_iff_forall_mem]
        intro u hu
        exact bys_one (by simpa using hu))
      have hst := settle_step (w := wS.drew) (hDS.drewN 1) hq.1 hq.2
      rw [← part_succ hjl] at hst
      have ST := Lib.hid hst
      have HC2 := Lib.hid (HC.out.trans (Chg.of_new hB _))
      have hqb : d.line[j].block < d.blocks.length := by have := hq.1; rw [e1] at this; exact this
      have q0 : (0 : Int) ≤ (d.line[j].block : Int) := by omega
      have q1 : (d.line[j].block : Int) < (d.blocks.length : Int) := by omega
      have ZS := Lib.hid (show 0 + (d.line[j]).cells.toArray.size ≤ zw.cells.size by rw [INF.out.2.2.1, List.size_toArray, HLEN.out]; omega)
      have SZ2 := Lib.hid (show (Tryz.prog.info? 142).map (·.size) = some (d.line[j]).cells.toArray.size by rw [List.size_toArray]; exact SZ.out)
      clear hr hr' hlen hone hD hC hwS hB hS hqr hDS hq hst hqb hbl e1
      generalize (d.line[j]).cells = C at *
      generalize (bys d.line[j].text) = Z at *
      generalize (d.line[j]).block = bk at *
      go_wp2_with (first
        | (refine wpList_load_mid rfl 142 (.tmp 15) rfl l (j * 257) rfl C _ LD.out Tryz.underlying142 rfl SZ.out ?_)
        | (refine wpList_alloc_is rfl 142 rfl iw zw INF.out.1 INF.out.2.1 ?_)
        | (refine wpList_store_at rfl 142 (.tmp 5) (.tmp 16) rfl wr.heap.size 0 C.toArray rfl rfl 142 zw.cells (Blk.new _ _ _) SZ2.out ZS.out ONE.out ?_; rw [EQ.out])
        | fail)
      refine wp_region_still_tail 9 (by kernel_rfl) (by kernel_rfl) ?_
      change wpStill _ _ wS.drew (fun a' => wpList _ _ _ _ a' wS.drew) _ _
      simp only [List.take_succ_cons, List.take_zero, List.drop_succ_cons, List.drop_zero]
      still_step
      still_step
      still_step
      still_step
      still_step
      still_step
      still_step
      refine wpStill_load (y := .pointer (some ⟨wr.heap.size, 1, none⟩)) rfl rfl LP (by rfl) ?_
      repeat still_step
      refine wpStill_nil ?_
      go_wp2_with (refine wpList_store_at rfl 140 (.tmp 25) (.tmp 24) rfl gb (bk * 256) Z.toArray rfl rfl 140 _ TAB.out PSZ.out POLD.out PONE.out ?_)
      go_roundw
      case rel =>
        have st := ST.out
        simp only [List.append_assoc, List.size_toArray] at st
        exact ⟨j + 1, by omega, by simp, st.1, HC2.out.drew.trans (st.2.weak (fun i hi => Or.inl hi))⟩
      case measure => simp [intOf]; omega
    · have hge : ¬ (j : Int) < (n : Int) := by omega
      obtain rfl : j = n := by omega
      have c1' := (heads hD).2.1
      have f1 := hD.head.frozen 1
      obtain ⟨d2, k2⟩ := settle_end hD
      have FIN := Lib.hid (And.intro d2 (hC.trans (k2.weak (fun i hi => .inr (.inl hi)))))
      clear hD hC d2 k2
      go_wp2
      go_end0
      exact ⟨rfl, FIN.out⟩

theorem foot_none {i : Nat} (h : foot gb g none Ae i) (A : Option Addr) : foot gb g A Ae i := by
  rcases h with h | h | h | h
  · exact .inl h
  · exact .inr (.inl h)
  · exact (inB_none _ h).elim
  · exact .inr (.inr (.inr h))
set_option maxRecDepth 100000 in
theorem sync_off (h : DskAt w gb g Al cl Ae ce d) (h0 : d.on = false) :
    Calls Tryz.prog 50 #[.pointer (some ⟨g, 0, none⟩)] w fun e w' => e = .returned (.int .i64 30) ∧ w' = w := by
  have c3 := (heads h).2.2.2.1
  rw [h0] at c3
  clear h h0
  go_enter Tryz.func50, Tryz.ntmps50
  go_wp2
  go_ret
  exact ⟨rfl, rfl⟩
set_option maxRecDepth 100000 in
theorem sync_on (h : DskAt w gb g Al cl Ae ce d) (h0 : d.on = true) :
    Calls Tryz.prog 50 #[.pointer (some ⟨g, 0, none⟩)] w fun e w' => e = .returned (.int .i64 0) ∧ DskAt w' gb g none 0 Ae ce (settleR d d.line.length) ∧ Chg w w' (foot gb g Al Ae) := by
  have c3 := (heads h).2.2.2.1
  have c1 := (heads h).2.1
  rw [h0] at c3
  have SE := Lib.hid (settle_any h d.line.length (Nat.le_refl _))
  clear h h0
  go_enter Tryz.func50, Tryz.ntmps50
  go_wp2_with fail
  refine SE.out.mono ?_; rintro e w1 ⟨rfl, d1, k1⟩
  have FIN := Lib.hid (And.intro d1 k1)
  clear d1 k1
  go_wp2
  go_ret
  exact ⟨rfl, FIN.out⟩
theorem sync_any (h : DA w F g d) :
    Calls Tryz.prog 50 #[.pointer (some ⟨g, 0, none⟩)] w fun e w' => e = .returned (.int .i64 (syncR d).2) ∧ ∃ F', DA w' F' g (syncR d).1 ∧ Step w w' F F' := by
  obtain ⟨gb, Al, cl, Ae, ce, D, hF⟩ := h
  have hFe : F = foot gb g Al Ae := funext fun k => propext (hF k)
  subst hFe
  unfold syncR
  by_cases h0 : d.on = true
  · rw [if_pos h0]
    refine (sync_on D h0).mono ?_
    rintro e w' ⟨rfl, a, b⟩
    exact ⟨rfl, _, a.da, b, fun k hk => .inl (foot_none hk _)⟩
  · rw [if_neg h0]
    refine (sync_off D (by simpa using h0)).mono ?_
    rintro e w' ⟨rfl, rfl⟩
    exact ⟨rfl, _, D.da, Step.refl _ _⟩
theorem settle_ge {k : Nat} (hk : d.line.length ≤ k) : settleR d k = settleR d d.line.length := by
  unfold settleR
  rw [List.take_of_length_le hk, List.take_length]
theorem turn_on (h : DskAt w gb g Al cl Ae ce d) : DskAt (w.setCell ⟨g, 3, none⟩ (.bool true)) gb g Al cl Ae ce { d with on := true } ∧ Chg w (w.setCell ⟨g, 3, none⟩ (.bool true)) (fun k => k = g) := by
  have k : Chg w (w.setCell ⟨g, 3, none⟩ (.bool true)) (fun k => k = g) := Chg.set _ _ _ rfl
  refine ⟨rehead h k rfl rfl rfl ?_ h.ok.turnOn, k⟩
  have := h.head.put 3 (.bool true)
  simp at this
  exact this
end
end Go.Proofs.YthnpalcjfgbjeaaGreat.Di

/- Package disk: Image; what no disk answers. Conditions: those that each states. -/
namespace Go.Proofs.YthnpalcjfgbjeaaGreat.Di
open Go.ChangeShapes Go.WideShapes Go.ChangeAt Go.RowKit Go.Deep
set_option linter.unusedVariables false

theorem str_infos : (Tryz.prog.info? 9).map (fun i => (i.zero, i.size, i.bytes)) = some (some (.string ⟨#[]⟩), 1, 16) := by kernel_rfl
theorem make_strs (n : Nat) (hn : n ≤ 512) (W : World) :
    (Instr.makeSlice 22 (.int .i64 (n : Int)) (.int .i64 (n : Int))).run Tryz.prog W = .ok (.slice (some ⟨W.heap.size, 0, none⟩) n n) (W.alloc (.cells (madeCells #[.string ⟨#[]⟩] n) 9)) := by
  obtain ⟨i, hi, hs⟩ := Option.map_eq_some_iff.1 str_infos
  simp only [Prod.mk.injEq] at hs
  obtain ⟨h0, h1, h2⟩ := hs
  have hr := run_make (P := Tryz.prog) W 22 9 i (.string ⟨#[]⟩) Tryz.underlying22 hi h0 .i64 .i64 (n : Int) (n : Int) (by omega) (by omega) (by rw [h2]; omega) (by omega)
  simp only [h1, Int.toNat_natCast, Nat.mul_one] at hr
  exact hr
/-- The texts of the durable blocks, in block q. -/
def Texts (w : World) (q : Nat) (bs : List (List UInt8)) (n : Nat) : Prop := ∃ cs : Array Value, Blk w q 9 cs ∧ cs.size = bs.length ∧ ∀ j (h : j < bs.length), j < n → cs[j]? = some (.string ⟨(bs[j]).toArray⟩)
section
variable {gb g cl ce q n : Nat} {Al Ae : Option Addr} {d : Dk} {w w' : World} {F S : Nat → Prop} {bs : List (List UInt8)}
theorem Texts.chg (h : Texts w q bs n) (k : Chg w w' S) (hn : ¬ S q) : Texts w' q bs n := by
  obtain ⟨cs, b, hs, hc⟩ := h
  exact ⟨cs, b.chg k hn, hs, hc⟩
theorem Texts.new (h : Texts w q bs n) (k : Below w.heap.size w w') : Texts w' q bs n := h.chg (Chg.of_new k fun _ => False) (fun s => s.elim)
theorem Texts.lt (h : Texts w q bs n) : q < w.heap.size := by
  obtain ⟨cs, b, hs, hc⟩ := h
  exact b.lt
theorem Texts.set (h : Texts w q bs n) (hn : n < bs.length) : Texts (w.setCell ⟨q, n, none⟩ (.string ⟨(bs[n]).toArray⟩)) q bs (n + 1) := by
  obtain ⟨cs, b, hs, hc⟩ := h
  refine ⟨cs.setIfInBounds n (.string ⟨(bs[n]).toArray⟩), b.put _ _, by simpa using hs, fun j hj hlt => ?_⟩
  rw [Array.getElem?_setIfInBounds]
  by_cases e : n = j
  · subst e; rw [if_pos rfl, if_pos (by omega)]
  · rw [if_neg e, hc j hj (by omega)]
theorem Texts.cellAny (h : Texts w q bs n) {j : Nat} (hj : j < bs.length) : ∃ u, w.cell? ⟨q, j, none⟩ = some u := by
  obtain ⟨cs, b, hs, hc⟩ := h
  exact ⟨cs[j]'(by omega), by rw [b.cell, Array.getElem?_eq_getElem (by omega)]⟩
theorem Texts.cell (h : Texts w q bs n) {j : Nat} (hj : j < bs.length) (hn : j < n) : w.cell? ⟨q, j, none⟩ = some (.string ⟨(bs[j]).toArray⟩) := by
  obtain ⟨cs, b, hs, hc⟩ := h
  rw [b.cell, hc j hj hn]
theorem Texts.thaw (h : Texts w q bs n) (j : Nat) : w.frozen? ⟨q, j, none⟩ = false := by
  obtain ⟨cs, b, hs, hc⟩ := h
  exact b.frozen j

theorem size_da (h : DA w F g d) : Calls Tryz.prog 39 #[.pointer (some ⟨g, 0, none⟩)] w fun e w' => e = .returned (.int .i64 (d.blocks.length : Int)) ∧ w' = w := by
  obtain ⟨gb, Al, cl, Ae, ce, D, hF⟩ := h
  exact size_any D
theorem cut_da (h : DA w F g d) : Calls Tryz.prog 69 #[.pointer (some ⟨g, 0, none⟩)] w fun e w' => e = .returned (.tuple #[]) ∧ ∃ F', DA w' F' g (cutR d) ∧ Step w w' F F' := by
  obtain ⟨gb, Al, cl, Ae, ce, D, hF⟩ := h
  have hFe : F = foot gb g Al Ae := funext fun k => propext (hF k)
  subst hFe
  refine (cut_any D).mono ?_
  rintro e w' ⟨rfl, a, b⟩
  exact ⟨rfl, _, a.da, b.weak (fun i hi => .inr (.inl hi)), fun k hk => .inl hk⟩
end
end Go.Proofs.YthnpalcjfgbjeaaGreat.Di
