/- Package disk: its small functions. Conditions: those that each states. -/
import Derived.Test.YtefnkednnnlhoaaGreatDoorDsk
import Derived.RegionTactic
import Derived.BigRegion
import Derived.WalkMore
import Derived.StillTailTactics
import Derived.Deep.QuietTactic
import Derived.BigQuiet
import Derived.Deep.OwnRows
namespace Go.Proofs.YtefnkednnnlhoaaGreatDoor.Di
open Go.ChangeShapes Go.WideShapes Go.ChangeAt Go.RowKit Go.Deep
set_option linter.unusedVariables false

theorem has_any (x : Ex) (b : Nat) (hb : b ≤ 1000) (h1 : x.first ≤ 1000) (h2 : x.n ≤ 1000) (w : World) :
    Calls Tryz.prog 93 #[.agg #[.int .i64 (x.env : Int), .int .i64 (x.first : Int), .int .i64 (x.n : Int)], .int .i64 (b : Int)] w fun e w' => e = .returned (.bool (decide (x.has b))) ∧ Below w.heap.size w w' := by
  have B := Lib.hid ((Below.refl _ w).alloc (Nat.le_refl _) (.cells #[.int .i64 (x.env : Int), .int .i64 (x.first : Int), .int .i64 (x.n : Int)] 134))
  by_cases g1 : (b : Int) ≥ (x.first : Int)
  · have x0 : IntKind.i64.wrap ((b : Int) - (x.first : Int)) = (b : Int) - (x.first : Int) := IntWalk.i64_in _ (by omega)
    by_cases g2 : (b : Int) - (x.first : Int) < (x.n : Int)
    · have hv : decide (x.has b) = true := decide_eq_true (show x.has b from ⟨by omega, by omega⟩)
      rw [hv]
      generalize (x.first : Int) = a1 at *
      generalize (x.n : Int) = a2 at *
      generalize (x.env : Int) = a3 at *
      clear hv h1 h2 hb
      go_enter Tryz.func93, Tryz.ntmps93
      go_wp2
      go_ret
      exact ⟨rfl, B.out⟩
    · have hv : decide (x.has b) = false := decide_eq_false (fun h => by have := h.2; omega)
      rw [hv]
      have G3 := Lib.hid (decide_eq_false g2)
      generalize (x.first : Int) = a1 at *
      generalize (x.n : Int) = a2 at *
      generalize (x.env : Int) = a3 at *
      clear hv h1 h2 hb
      go_enter Tryz.func93, Tryz.ntmps93
      go_wp2
      go_ret
      exact ⟨by first | rfl | (rw [G3.out]), B.out⟩
  · have hv : decide (x.has b) = false := decide_eq_false (fun h => by have := h.1; omega)
    rw [hv]
    generalize (x.first : Int) = a1 at *
    generalize (x.n : Int) = a2 at *
    generalize (x.env : Int) = a3 at *
    clear hv h1 h2 hb
    go_enter Tryz.func93, Tryz.ntmps93
    go_wp2
    go_ret
    exact ⟨rfl, B.out⟩

section
variable {gb g cl ce : Nat} {Al Ae : Option Addr} {d : Dk} {w : World}
theorem heads (h : DskAt w gb g Al cl Ae ce d) : w.cell? ⟨g, 0, none⟩ = some (.slice (some ⟨gb, 0, none⟩) d.blocks.length d.blocks.length) ∧ w.cell? ⟨g, 1, none⟩ = some (.slice Al d.line.length cl) ∧ w.cell? ⟨g, 2, none⟩ = some (.slice Ae d.exts.length ce) ∧ w.cell? ⟨g, 3, none⟩ = some (.bool d.on) ∧ w.cell? ⟨g, 4, none⟩ = some (.int .i64 d.armed) :=
  ⟨h.head.cell 0, h.head.cell 1, h.head.cell 2, h.head.cell 3, h.head.cell 4⟩
theorem size_any (h : DskAt w gb g Al cl Ae ce d) :
    Calls Tryz.prog 52 #[.pointer (some ⟨g, 0, none⟩)] w fun e w' => e = .returned (.int .i64 (d.blocks.length : Int)) ∧ w' = w := by
  have c0 := (heads h).1
  clear h
  go_enter Tryz.func52, Tryz.ntmps52
  go_wp2
  go_ret
  exact ⟨rfl, rfl⟩
theorem on_any (h : DskAt w gb g Al cl Ae ce d) :
    Calls Tryz.prog 18 #[.pointer (some ⟨g, 0, none⟩)] w fun e w' => e = .returned (.bool d.on) ∧ w' = w := by
  have c0 := (heads h).2.2.2.1
  generalize d.on = v at *
  clear h
  go_enter Tryz.func18, Tryz.ntmps18
  go_wp2
  go_ret
  exact ⟨rfl, rfl⟩

theorem ext_info : (Tryz.prog.info? 134).map (·.size) = some 3 := by kernel_rfl
set_option maxRecDepth 100000 in
theorem granted_v (h : DskAt w gb g Al cl Ae ce d) (b : Nat) (hb : b < d.blocks.length) (v : Bool) (hv : v = decide (d.own b ≠ 0)) :
    Calls Tryz.prog 53 #[.pointer (some ⟨g, 0, none⟩), .int .i64 (b : Int)] w fun e w' => e = .returned (.bool v) ∧ Below w.heap.size w w' := by
  have V := Lib.hid hv
  clear hv
  have c0 := (heads h).2.2.1
  have hlt : g < w.heap.size := h.head.lt
  have hok := h.ok
  have n2 := hok.n2
  have hel : d.exts.length ≤ 9223372036854775807 := by have := h.exts.capMax; unfold maxLen at this; omega
  have GR := Lib.hid (hok.gr hb)
  have H := Lib.hid h
  clear h
  go_enter Tryz.func53, Tryz.ntmps53
  go_wp2
  go_loopw [12] (fun i wr => ∃ (j : Nat), j ≤ d.exts.length ∧ i = .int .i64 (j : Int) ∧ Hid (∀ k (hk : k < d.exts.length), k < j → ¬ (d.exts[k]).has b) ∧ Below w.heap.size w wr) (fun i _ => d.exts.length - (intOf i).toNat)
  case atStart => exact ⟨0, Nat.zero_le _, rfl, Lib.hid (fun _ _ h => absurd h (by omega)), Below.refl _ _⟩
  case round =>
    obtain ⟨j, hj, rfl, NO, hbel⟩ := hrel
    by_cases hlt' : j < d.exts.length
    · have j1 : (j : Int) < (d.exts.length : Int) := by omega
      have j0 : (0 : Int) ≤ (j : Int) := by omega
      have xj := IntWalk.i64_in ((j : Int) + 1) (by omega)
      obtain ⟨l, rfl, hl, hr⟩ := (H.out.new hbel).ext hlt'
      have LD := Lib.hid hr
      have HB := Lib.hid hbel
      have hx := hok.ex _ (List.getElem_mem hlt')
      have HAS := Lib.hid (fun W => has_any d.exts[j] b (by omega) (by omega) (by omega) W)
      have hsz : w.heap.size ≤ wr.heap.size := hbel.size
      clear hr hbel hx
      have e0 : d.exts[j].cells = [.int .i64 (d.exts[j].env : Int), .int .i64 (d.exts[j].first : Int), .int .i64 (d.exts[j].n : Int)] := rfl
      have fin := (Below.refl wr.heap.size wr).alloc (Nat.le_refl _) (.cells #[.int .i64 (d.exts[j].env : Int), .int .i64 (d.exts[j].first : Int), .int .i64 (d.exts[j].n : Int)] 134)
      have FIN := Lib.hid (fun W2 (b2 : Below (wr.alloc (.cells #[.int .i64 (d.exts[j].env : Int), .int .i64 (d.exts[j].first : Int), .int .i64 (d.exts[j].n : Int)] 134)).heap.size (wr.alloc (.cells #[.int .i64 (d.exts[j].env : Int), .int .i64 (d.exts[j].first : Int), .int .i64 (d.exts[j].n : Int)] 134)) W2) => HB.out.trans ((fin.trans (b2.mono (by simp))).mono hsz))
      clear fin
      by_cases hh : (d.exts[j]).has b
      · have HV := Lib.hid (show v = true from V.out.trans (decide_eq_true (GR.out.1 ⟨_, List.getElem_mem hlt', hh⟩)))
        have hd : decide ((d.exts[j]).has b) = true := decide_eq_true hh
        rw [hd] at HAS
        clear hh hd
        generalize d.exts[j] = xj' at *
        go_wp2_with (first
          | (refine wpList_load_mid rfl 134 (.tmp 14) rfl l (j * 3) rfl _ _ LD.out Tryz.underlying134 rfl ext_info ?_)
          | fail)
        refine (HAS.out _).mono ?_; rintro e w2 ⟨rfl, b2⟩
        have B2 := Lib.hid (FIN.out _ b2)
        clear b2
        go_wp2
        go_ret
        exact ⟨by rw [HV.out]; rfl, B2.out⟩
      · have NO2 : Hid (∀ k (hk : k < d.exts.length), k < j + 1 → ¬ (d.exts[k]).has b) := Lib.hid (fun k hk h => by
          by_cases e : k = j
          · subst e; exact hh
          · exact NO.out k hk (by omega))
        have hd : decide ((d.exts[j]).has b) = false := decide_eq_false hh
        rw [hd] at HAS
        clear hh hd
        generalize d.exts[j] = xj' at *
        go_wp2_with (first
          | (refine wpList_load_mid rfl 134 (.tmp 14) rfl l (j * 3) rfl _ _ LD.out Tryz.underlying134 rfl ext_info ?_)
          | fail)
        refine (HAS.out _).mono ?_; rintro e w2 ⟨rfl, b2⟩
        have B2 := Lib.hid (FIN.out _ b2)
        clear b2
        go_wp2
        go_roundw
        case rel => exact ⟨j + 1, by omega, by simp, NO2, B2.out⟩
        case measure => simp [intOf]; omega
    · have hge : ¬ (j : Int) < (d.exts.length : Int) := by omega
      have HB := Lib.hid hbel
      have HV := Lib.hid (show v = false from V.out.trans (decide_eq_false (fun hn => by
        obtain ⟨x, hx, hh⟩ := GR.out.2 hn
        obtain ⟨k, hk, rfl⟩ := List.mem_iff_getElem.1 hx
        exact NO.out k hk (by omega) hh)))
      clear hbel
      go_wp2
      go_ret
      exact ⟨by rw [HV.out]; rfl, HB.out⟩
theorem granted_any (h : DskAt w gb g Al cl Ae ce d) (b : Nat) (hb : b < d.blocks.length) :
    Calls Tryz.prog 53 #[.pointer (some ⟨g, 0, none⟩), .int .i64 (b : Int)] w fun e w' => e = .returned (.bool (decide (d.own b ≠ 0))) ∧ Below w.heap.size w w' := granted_v h b hb _ rfl

set_option maxRecDepth 100000 in
theorem asked_off (h : DskAt w gb g Al cl Ae ce d) (env block : Int) (h0 : d.on = false) :
    Calls Tryz.prog 102 #[.pointer (some ⟨g, 0, none⟩), .int .i64 env, .int .i64 block] w fun e w' => e = .returned (.int .i64 30) ∧ w' = w := by
  have c3 := (heads h).2.2.2.1
  rw [h0] at c3
  clear h h0
  go_enter Tryz.func102, Tryz.ntmps102
  go_wp2
  go_ret
  exact ⟨rfl, rfl⟩
set_option maxRecDepth 100000 in
theorem asked_out (h : DskAt w gb g Al cl Ae ce d) (env block : Int) (h0 : d.on = true) (h1 : block < 0 ∨ (d.blocks.length : Int) ≤ block) :
    Calls Tryz.prog 102 #[.pointer (some ⟨g, 0, none⟩), .int .i64 env, .int .i64 block] w fun e w' => e = .returned (.int .i64 31) ∧ w' = w := by
  have c3 := (heads h).2.2.2.1
  rw [h0] at c3
  have SZ := Lib.hid (size_any h)
  clear h h0
  by_cases h2 : block < 0
  · clear h1
    go_enter Tryz.func102, Tryz.ntmps102
    go_wp2
    go_ret
    exact ⟨rfl, rfl⟩
  · have h3 : block ≥ (d.blocks.length : Int) := by omega
    clear h1
    go_enter Tryz.func102, Tryz.ntmps102
    go_wp2_with fail
    refine SZ.out.mono ?_; rintro e w1 ⟨rfl, rfl⟩
    go_wp2
    go_ret
    exact ⟨rfl, rfl⟩
set_option maxRecDepth 100000 in
set_option maxHeartbeats 2000000 in
theorem asked_in (h : DskAt w gb g Al cl Ae ce d) (env : Int) (b : Nat) (h0 : d.on = true) (hb : b < d.blocks.length) (v : Int) (hv : v = if (d.own b : Int) = env ∧ env ≠ 0 then 0 else 20) :
    Calls Tryz.prog 102 #[.pointer (some ⟨g, 0, none⟩), .int .i64 env, .int .i64 (b : Int)] w fun e w' => e = .returned (.int .i64 v) ∧ Below w.heap.size w w' := by
  have V := Lib.hid hv
  clear hv
  have c3 := (heads h).2.2.2.1
  rw [h0] at c3
  have c0 := (heads h).2.2.1
  have SZ := Lib.hid (size_any h)
  have hlt : g < w.heap.size := h.head.lt
  have hok := h.ok
  have n2 := hok.n2
  have hel : d.exts.length ≤ 9223372036854775807 := by have := h.exts.capMax; unfold maxLen at this; omega
  have MT : Hid ((∃ x ∈ d.exts, (x.env : Int) = env ∧ x.has b) ↔ (d.own b : Int) = env ∧ env ≠ 0) := Lib.hid (by
    constructor
    · rintro ⟨x, hx, h1, h2⟩
      have hx1 := (hok.ex x hx).1
      have := (hok.mt b hb x.env hx1).1 ⟨x, hx, rfl, h2⟩
      omega
    · rintro ⟨h1, h2⟩
      obtain ⟨x, hx, h3, h4⟩ := (hok.mt b hb (d.own b) (by omega)).2 rfl
      exact ⟨x, hx, by omega, h4⟩)
  have H := Lib.hid h
  have b1 : ¬ (b : Int) < 0 := by omega
  have b2 : ¬ (b : Int) ≥ (d.blocks.length : Int) := by omega
  have b3 : decide (d.blocks.length ≤ b) = false := decide_eq_false (by omega)
  clear h h0
  go_enter Tryz.func102, Tryz.ntmps102
  go_wp2_with fail
  refine SZ.out.mono ?_; rintro e w1 ⟨rfl, rfl⟩
  go_wp2
  go_loopw [29] (fun i wr => ∃ (j : Nat), j ≤ d.exts.length ∧ i = .int .i64 (j : Int) ∧ Hid (∀ k (hk : k < d.exts.length), k < j → ¬ ((d.exts[k].env : Int) = env ∧ (d.exts[k]).has b)) ∧ Below w1.heap.size w1 wr) (fun i _ => d.exts.length - (intOf i).toNat)
  case atStart => exact ⟨0, Nat.zero_le _, rfl, Lib.hid (fun _ _ h => absurd h (by omega)), Below.refl _ _⟩
  case round =>
    obtain ⟨j, hj, rfl, NO, hbel⟩ := hrel
    by_cases hlt' : j < d.exts.length
    · have j1 : (j : Int) < (d.exts.length : Int) := by omega
      have j0 : (0 : Int) ≤ (j : Int) := by omega
      have xj := IntWalk.i64_in ((j : Int) + 1) (by omega)
      obtain ⟨l, rfl, hl, hr⟩ := (H.out.new hbel).ext hlt'
      have LD := Lib.hid hr
      have HB := Lib.hid hbel
      have hx := hok.ex _ (List.getElem_mem hlt')
      have HAS := Lib.hid (fun W => has_any d.exts[j] b (by omega) (by omega) (by omega) W)
      have hsz : w1.heap.size ≤ wr.heap.size := hbel.size
      clear hr hbel hx
      have e0 : d.exts[j].cells = [.int .i64 (d.exts[j].env : Int), .int .i64 (d.exts[j].first : Int), .int .i64 (d.exts[j].n : Int)] := rfl
      have fin := (Below.refl wr.heap.size wr).alloc (Nat.le_refl _) (.cells #[.int .i64 (d.exts[j].env : Int), .int .i64 (d.exts[j].first : Int), .int .i64 (d.exts[j].n : Int)] 134)
      have FIN0 := Lib.hid (HB.out.trans (fin.mono hsz))
      have FIN := Lib.hid (fun W2 (b2 : Below (wr.alloc (.cells #[.int .i64 (d.exts[j].env : Int), .int .i64 (d.exts[j].first : Int), .int .i64 (d.exts[j].n : Int)] 134)).heap.size (wr.alloc (.cells #[.int .i64 (d.exts[j].env : Int), .int .i64 (d.exts[j].first : Int), .int .i64 (d.exts[j].n : Int)] 134)) W2) => HB.out.trans ((fin.trans (b2.mono (by simp))).mono hsz))
      clear fin
      by_cases he : (d.exts[j].env : Int) = env
      · by_cases hh : (d.exts[j]).has b
        · have HV := Lib.hid (show v = 0 from V.out.trans (if_pos (MT.out.1 ⟨_, List.getElem_mem hlt', he, hh⟩)))
          have hd : decide ((d.exts[j]).has b) = true := decide_eq_true hh
          rw [hd] at HAS
          subst he
          clear hh hd
          generalize d.exts[j] = xj' at *
          go_wp2_with (first
            | (refine wpList_load_mid rfl 134 (.tmp 31) rfl l (j * 3) rfl _ _ LD.out Tryz.underlying134 rfl ext_info ?_)
            | fail)
          refine (HAS.out _).mono ?_; rintro e w2 ⟨rfl, b2⟩
          have B2 := Lib.hid (FIN.out _ b2)
          clear b2
          go_wp2
          go_ret
          exact ⟨by rw [HV.out]; rfl, B2.out⟩
        · have NO2 : Hid (∀ k (hk : k < d.exts.length), k < j + 1 → ¬ ((d.exts[k].env : Int) = env ∧ (d.exts[k]).has b)) := Lib.hid (fun k hk h => by
            by_cases e : k = j
            · subst e; exact fun q => hh q.2
            · exact NO.out k hk (by omega))
          have hd : decide ((d.exts[j]).has b) = false := decide_eq_false hh
          rw [hd] at HAS
          subst he
          clear hh hd
          generalize d.exts[j] = xj' at *
          go_wp2_with (first
            | (refine wpList_load_mid rfl 134 (.tmp 31) rfl l (j * 3) rfl _ _ LD.out Tryz.underlying134 rfl ext_info ?_)
            | fail)
          refine (HAS.out _).mono ?_; rintro e w2 ⟨rfl, b2⟩
          have B2 := Lib.hid (FIN.out _ b2)
          clear b2
          go_wp2
          go_roundw
          case rel => exact ⟨j + 1, by omega, by simp, NO2, B2.out⟩
          case measure => simp [intOf]; omega
      · have NO2 : Hid (∀ k (hk : k < d.exts.length), k < j + 1 → ¬ ((d.exts[k].env : Int) = env ∧ (d.exts[k]).has b)) := Lib.hid (fun k hk h => by
          by_cases e : k = j
          · subst e; exact fun q => he q.1
          · exact NO.out k hk (by omega))
        have he' : ((d.exts[j].env : Int) == env) = false := by simpa using he
        clear he
        generalize d.exts[j] = xj' at *
        go_wp2_with (first
          | (refine wpList_load_mid rfl 134 (.tmp 31) rfl l (j * 3) rfl _ _ LD.out Tryz.underlying134 rfl ext_info ?_)
          | fail)
        go_roundw
        case rel => exact ⟨j + 1, by omega, by simp, NO2, FIN0.out⟩
        case measure => simp [intOf]; omega
    · have hge : ¬ (j : Int) < (d.exts.length : Int) := by omega
      have HB := Lib.hid hbel
      have HV := Lib.hid (show v = 20 from V.out.trans (if_neg (fun hn => by
        obtain ⟨x, hx, hh⟩ := MT.out.2 hn
        obtain ⟨k, hk, rfl⟩ := List.mem_iff_getElem.1 hx
        exact NO.out k hk (by omega) hh)))
      clear hbel
      go_wp2
      go_ret
      exact ⟨by rw [HV.out]; rfl, HB.out⟩
theorem asked_any (h : DskAt w gb g Al cl Ae ce d) (env block : Int) :
    Calls Tryz.prog 102 #[.pointer (some ⟨g, 0, none⟩), .int .i64 env, .int .i64 block] w fun e w' => e = .returned (.int .i64 (askE d env block)) ∧ Below w.heap.size w w' := by
  unfold askE
  by_cases h0 : d.on = false
  · rw [if_pos h0]
    exact (asked_off h env block h0).mono fun e w' ⟨a, b⟩ => ⟨a, by rw [b]; exact Below.refl _ _⟩
  · rw [if_neg h0]
    have h0' : d.on = true := by simpa using h0
    by_cases h1 : block < 0 ∨ (d.blocks.length : Int) ≤ block
    · rw [if_pos h1]
      exact (asked_out h env block h0' h1).mono fun e w' ⟨a, b⟩ => ⟨a, by rw [b]; exact Below.refl _ _⟩
    · rw [if_neg h1]
      obtain ⟨b, rfl⟩ : ∃ b : Nat, block = (b : Int) := ⟨block.toNat, by omega⟩
      rw [Int.toNat_natCast]
      exact asked_in h env b h0' (by omega) _ rfl
end
end Go.Proofs.YtefnkednnnlhoaaGreatDoor.Di

/- Package disk: New, Cut, Arm, Grant. Conditions: those that each states. -/
namespace Go.Proofs.YtefnkednnnlhoaaGreatDoor.Di
open Go.ChangeShapes Go.WideShapes Go.ChangeAt Go.RowKit Go.Deep
set_option linter.unusedVariables false

theorem page_info : (Tryz.prog.info? 195).map (fun i => (i.zero.map (·.cells), i.size, i.bytes)) = some (some (bys zeros).toArray, 256, 256) := by kernel_rfl
theorem make_pages (n : Nat) (hn : n ≤ 512) (W : World) :
    (Instr.makeSlice 98 (.int .i64 (n : Int)) (.int .i64 (n : Int))).run Tryz.prog W = .ok (.slice (some ⟨W.heap.size, 0, none⟩) n n) (W.alloc (.cells (madeCells (bys zeros).toArray (n * 256)) 195)) := by
  obtain ⟨i, hi, hs⟩ := Option.map_eq_some_iff.1 page_info
  simp only [Prod.mk.injEq] at hs
  obtain ⟨h0, h1, h2⟩ := hs
  obtain ⟨z, hz, hzc⟩ := Option.map_eq_some_iff.1 h0
  have hr := run_make (P := Tryz.prog) W 98 195 i z Tryz.underlying98 hi hz .i64 .i64 (n : Int) (n : Int) (by omega) (by omega) (by rw [h2]; omega) (by omega)
  simp only [h1, hzc, Int.toNat_natCast] at hr
  exact hr
theorem bys_zeros : bys zeros = List.replicate 256 (.int .u8 0) := by
  unfold bys zeros
  rw [List.map_replicate]; rfl
set_option maxRecDepth 100000 in
theorem made_blocks (n : Nat) : madeCells (bys zeros).toArray (n * 256) = (blocksC (List.replicate n zeros)).toArray := by
  have e1 : blocksC (List.replicate n zeros) = List.replicate (n * 256) (.int .u8 0) := by
    unfold blocksC
    rw [List.map_replicate, bys_zeros, List.flatten_replicate_replicate]
  rw [e1, bys_zeros]
  unfold madeCells
  apply Array.ext
  · rw [Array.size_map, Array.size_range, List.size_toArray, List.length_replicate]
  · intro i h1 h2
    have hs : (List.replicate 256 (Value.int .u8 0)).toArray.size = 256 := by rw [List.size_toArray, List.length_replicate]
    simp only [Array.getElem_map, Array.getElem_range, List.getElem_toArray, List.getElem_replicate, hs]
    have hi : i % 256 < (List.replicate 256 (Value.int .u8 0)).toArray.size := by rw [hs]; exact Nat.mod_lt _ (by decide)
    rw [getElem!_pos (List.replicate 256 (Value.int .u8 0)).toArray (i % 256) hi, List.getElem_toArray, List.getElem_replicate]

set_option maxRecDepth 100000 in
theorem new_ok (n : Nat) (w : World) (h1 : 1 ≤ n) (h2 : n ≤ 512) :
    Calls Tryz.prog 30 #[.int .i64 (n : Int)] w fun e w' => e = .returned (.tuple #[.pointer (some ⟨w.heap.size + 1, 0, none⟩), .int .i64 0]) ∧ DskAt w' w.heap.size (w.heap.size + 1) none 0 none 0 (newD n) ∧ Below w.heap.size w w' ∧ w'.heap.size = w.heap.size + 2 := by
  have g1 : ¬ (n : Int) < 1 := by omega
  have g2 : ¬ (n : Int) > 512 := by omega
  have fin : ∀ W1 W2 : World, W1 = w.alloc (.cells (madeCells (bys zeros).toArray (n * 256)) 195) → W2 = W1.alloc (.cells #[.slice (some ⟨w.heap.size, 0, none⟩) n n, .slice none 0 0, .slice none 0 0, .bool true, .int .i64 (-1)] 102) → DskAt W2 w.heap.size (w.heap.size + 1) none 0 none 0 (newD n) ∧ Below w.heap.size w W2 ∧ W2.heap.size = w.heap.size + 2 := by
    rintro W1 W2 rfl rfl
    refine ⟨⟨?_, ?_, RowW.nil _ _ _, RowW.nil _ _ _, by omega, inB_none _, inB_none _, inB_none _, inB_none _, fun b h => (inB_none _ h).elim, newD_ok h1 h2⟩, ((Below.refl _ w).alloc (Nat.le_refl _) _).alloc (by simp) _, by simp⟩
    · have := Blk.new (w.alloc (.cells (madeCells (bys zeros).toArray (n * 256)) 195)) 102 #[.slice (some ⟨w.heap.size, 0, none⟩) n n, .slice none 0 0, .slice none 0 0, .bool true, .int .i64 (-1)]
      simpa [newD] using this
    · have := (Blk.new w 195 (madeCells (bys zeros).toArray (n * 256))).alloc (.cells #[.slice (some ⟨w.heap.size, 0, none⟩) n n, .slice none 0 0, .slice none 0 0, .bool true, .int .i64 (-1)] 102)
      rw [made_blocks] at this ⊢
      exact this
  have FIN := Lib.hid fin
  have hm := fun W => make_pages n h2 W
  clear fin
  generalize madeCells (bys zeros).toArray (n * 256) = Z at *
  go_enter Tryz.func30, Tryz.ntmps30
  go_wp2
  go_ret2
  exact ⟨rfl, FIN.out _ _ rfl rfl⟩
section
variable {gb g cl ce : Nat} {Al Ae : Option Addr} {d d' : Dk} {w w' : World}
theorem rehead (h : DskAt w gb g Al cl Ae ce d) (k : Chg w w' (fun k => k = g)) (e1 : d'.blocks = d.blocks) (e2 : d'.line = d.line) (e3 : d'.exts = d.exts)
    (hd : Blk w' g 102 #[.slice (some ⟨gb, 0, none⟩) d.blocks.length d.blocks.length, .slice Al d.line.length cl, .slice Ae d.exts.length ce, .bool d'.on, .int .i64 d'.armed]) (ok : d'.Ok) : DskAt w' gb g Al cl Ae ce d' :=
  ⟨by rw [e1, e2, e3]; exact hd, by rw [e1]; exact h.tab.chg k h.ne, by rw [e2]; exact h.line.chg k (fun b hb e => h.lg (by have e' : b = g := e; rw [← e']; exact hb)), by rw [e3]; exact h.exts.chg k (fun b hb e => h.eg (by have e' : b = g := e; rw [← e']; exact hb)), h.ne, h.lb, h.lg, h.eb, h.eg, h.le, ok⟩
theorem cut_at (h : DskAt w gb g Al cl Ae ce d) : DskAt ((w.setCell ⟨g, 3, none⟩ (.bool false)).setCell ⟨g, 4, none⟩ (.int .i64 (-1))) gb g Al cl Ae ce (cutR d) ∧ Chg w ((w.setCell ⟨g, 3, none⟩ (.bool false)).setCell ⟨g, 4, none⟩ (.int .i64 (-1))) (fun k => k = g) := by
  have k := (Chg.set (S := fun k => k = g) w 3 (.bool false) rfl).trans (Chg.set (S := fun k => k = g) (w.setCell ⟨g, 3, none⟩ (.bool false)) 4 (.int .i64 (-1)) rfl)
  refine ⟨rehead h k rfl rfl rfl ?_ h.ok.cut, k⟩
  have := (h.head.put 3 (.bool false)).put 4 (.int .i64 (-1))
  simp at this
  exact this
theorem cut_any (h : DskAt w gb g Al cl Ae ce d) :
    Calls Tryz.prog 104 #[.pointer (some ⟨g, 0, none⟩)] w fun e w' => e = .returned (.tuple #[]) ∧ DskAt w' gb g Al cl Ae ce (cutR d) ∧ Chg w w' (fun k => k = g) := by
  have c3 := (heads h).2.2.2.1
  have c4 := (heads h).2.2.2.2
  have f3 := h.head.frozen 3
  have f4 := h.head.frozen 4
  have FIN := Lib.hid (cut_at h)
  clear h
  go_enter Tryz.func104, Tryz.ntmps104
  go_wp2
  go_end0
  exact ⟨rfl, FIN.out⟩
end
end Go.Proofs.YtefnkednnnlhoaaGreatDoor.Di
