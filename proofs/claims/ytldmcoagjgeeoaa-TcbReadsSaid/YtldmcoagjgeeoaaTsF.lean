/- Layer 22's laws: far, the laws' Of, the chapter's example. Conditions: those that each states. -/
import Derived.Test.YtldmcoagjgeeoaaTcX
import Derived.Test.YtldmcoagjgeeoaaTsO
import Derived.Test.YtldmcoagjgeeoaaCom
import Derived.Deep.MidRow
namespace Go.Proofs.Ytldmcoagjgeeoaa.Tc
open Go.ChangeShapes Go.WideShapes Go.ChangeAt Go.RowKit Go.Deep Rk Rv Gx
set_option linter.unusedVariables false
set_option linter.unusedSimpArgs false

abbrev sgV (f t q a : Nat) (g : Int) (wi : Nat) (m : Int) (A : Option Addr) (n c : Nat) : Array Value := #[.int .u16 (f : Int), .int .u16 (t : Int), .int .u32 (q : Int), .int .u32 (a : Int), .int .i64 g, .int .u16 (wi : Int), .int .i64 m, .slice A n c]
theorem ds_info : (Try.prog.info? 39).map (·.size) = some 8 := by kernel_rfl
abbrev sg0 : Array Value := #[.int .u16 0, .int .u16 0, .int .u32 0, .int .u32 0, .int .i64 0, .int .u16 0, .int .i64 0, .slice none 0 0]
abbrev dsV (f t q a : Nat) (g : Int) (wi : Nat) (m : Int) (l : List UInt8) : Array Value := #[.int .u16 (f : Int), .int .u16 (t : Int), .int .u32 (q : Int), .int .u32 (a : Int), .int .i64 g, .int .u16 (wi : Int), .int .i64 m, .string ⟨l.toArray⟩]

set_option maxRecDepth 100000 in
set_option maxHeartbeats 2000000 in
theorem of_any (f t q a : Nat) (g : Int) (wi : Nat) (m : Int) (l : List UInt8) (w : World) (hn : l.length ≤ 1000000) :
    Calls Try.prog 16 #[.agg (dsV f t q a g wi m l)] w fun e w' => ∃ A c, e = .returned (.agg (sgV f t q a g wi m A l.length c)) ∧ Src w' A l.length c l ∧ Below w.heap.size w w' := by
  obtain ⟨W, hW⟩ : ∃ W, (w.alloc (.cells (dsV f t q a g wi m l) 39)).alloc (.cells sg0 35) = W := ⟨_, rfl⟩
  have b0 : Below w.heap.size w W := by rw [← hW]; exact ((Below.refl w.heap.size w).alloc (Nat.le_refl _) _).alloc (by simp) _
  have B0 := Lib.hid b0
  have PB := Lib.hid (show Blk W w.heap.size 39 (dsV f t q a g wi m l) from by rw [← hW]; exact (Blk.new w _ _).alloc _)
  have RB := Lib.hid (show Blk W (w.heap.size + 1) 35 sg0 from by rw [← hW]; have := Blk.new (w.alloc (.cells (dsV f t q a g wi m l) 39)) 35 sg0; simpa using this)
  have z2 := Lib.hid (show w.heap.size ≤ w.heap.size + 1 from by omega)
  have HW := Lib.hid hW
  clear b0 hW
  obtain ⟨A, c, W1, hconv, hs, hb, hfresh⟩ := Di.conv_src ⟨l.toArray⟩ hn W
  have hconv : (convert 9 33 (.string ⟨l.toArray⟩)).run Try.prog W = .ok (.slice A l.length c) W1 := hconv
  have hs : Src W1 A l.length c l := hs
  have SS := Lib.hid hs
  have HF := Lib.hid hfresh
  have B1 := Lib.hid (B0.out.trans (hb.mono B0.out.size))
  have RB1 := Lib.hid (RB.out.older (older_below hb))
  have LT := Lib.hid (show w.heap.size + 1 < W.heap.size from RB.out.lt)
  clear hs hb hfresh
  have x0 := (PB.out.cell 0).trans (show _ = some (.int .u16 (f : Int)) from rfl)
  have x1 := (PB.out.cell 1).trans (show _ = some (.int .u16 (t : Int)) from rfl)
  have x2 := (PB.out.cell 2).trans (show _ = some (.int .u32 (q : Int)) from rfl)
  have x3 := (PB.out.cell 3).trans (show _ = some (.int .u32 (a : Int)) from rfl)
  have x4 := (PB.out.cell 4).trans (show _ = some (.int .i64 g) from rfl)
  have x5 := (PB.out.cell 5).trans (show _ = some (.int .u16 (wi : Int)) from rfl)
  have x6 := (PB.out.cell 6).trans (show _ = some (.int .i64 m) from rfl)
  have x7 := (PB.out.cell 7).trans (show _ = some (.string ⟨l.toArray⟩) from rfl)
  have KZ := Lib.hid (below_setRow B1.out z2.out (sgV f t q a g wi m A l.length c))
  go_enter Try.func16, Try.ntmps16
  go_upto_region 1 with fail
  rw [HW.out]
  go_wp2_with (first
    | (refine wpList_store_row rfl 35 (.tmp 2) (.tmp 20) rfl (w.heap.size + 1) (sgV f t q a g wi m A l.length c) rfl rfl 35 _ RB1.out seg_info rfl (by simp [Value.oneCell']) ?_)
    | fail)
  refine bodyPost_ret (v := .agg (sgV f t q a g wi m A l.length c)) ?_ rfl ?_
  · exact results_cell_row Try.results16 _ _ (w.heap.size + 1) 35 _ (0, 0) _ rfl (RB1.out.row _) Try.underlying35 rfl seg_info
  exact ⟨A, c, rfl, Gx.src_chg SS.out (Chg.setRow _ _ (g := w.heap.size + 1) (S := fun b => b = w.heap.size + 1) rfl) (fun _ b o e => by have := HF.out b o e; have := LT.out; omega), KZ.out⟩


theorem act_at {w : World} {A : Option Addr} {c : Nat} {l : List Act} (h : RowG w 10 A l.length c (l.flatMap Act.cells)) {i : Nat} (hi : i < l.length) : ∃ b o, A = some ⟨b, o, none⟩ ∧ b < w.heap.size ∧ w.cell? ⟨b, o + i * 10, none⟩ = some (.int .i64 l[i].k) ∧ w.cell? ⟨b, o + i * 10 + 1, none⟩ = some (.int .i64 l[i].n) ∧ w.cell? ⟨b, o + i * 10 + 9, none⟩ = some (.string ⟨l[i].s.toArray⟩) := by
  obtain ⟨b, o, e, hb, c0⟩ := rowG_at Act.len h hi (j := 0) (by decide)
  obtain ⟨b1, o1, e1, _, c1⟩ := rowG_at Act.len h hi (j := 1) (by decide)
  obtain ⟨b9, o9, e9, _, c9⟩ := rowG_at Act.len h hi (j := 9) (by decide)
  rw [e] at e1 e9
  cases e1
  cases e9
  exact ⟨b, o, e, hb, c0, c1, c9⟩

def IsFar (l : List Act) (e : Ending) : Prop := ∃ b, e = .returned (.bool b) ∧ (b = false → l.length ≤ 150 ∧ ∀ x (hx : x < l.length), l[x].s.length ≤ 1000)
set_option maxRecDepth 100000 in
/-- Are calls more than are looked at? -/
theorem far_any (A : Option Addr) (c : Nat) (l : List Act) (w : World) (h : RowG w 10 A l.length c (l.flatMap Act.cells)) (hl : l.length ≤ 9223372036854775807) :
    Calls Try.prog 7 #[.slice A l.length c] w fun e w' => IsFar l e ∧ w' = w := by
  have H := Lib.hid h
  clear h
  by_cases h0 : (l.length : Int) > 150
  · go_enter Try.func7, Try.ntmps7
    go_wp2
    go_ret
    exact ⟨⟨true, rfl, fun e => by cases e⟩, rfl⟩
  go_enter Try.func7, Try.ntmps7
  go_wp2
  go_loop [3, 4] (fun a i => ∃ (j : Nat) (s : Int), j ≤ l.length ∧ i = .int .i64 (j : Int) ∧ a = .int .i64 s ∧ Hid (∀ x (hx : x < l.length), x < j → l[x].s.length ≤ 1000)) (fun _ i => l.length - (intOf i).toNat)
  case atStart => exact ⟨0, 0, Nat.zero_le _, rfl, rfl, Lib.hid (fun x hx h => absurd h (by omega))⟩
  case round =>
    obtain ⟨j, s, hj, rfl, rfl, HS⟩ := hrel
    by_cases hlt : j < l.length
    · have hlt' : (j : Int) < (l.length : Int) := by omega
      have xj := IntWalk.i64_in ((j : Int) + 1) (by omega)
      obtain ⟨b, o, rfl, hb, c0, c1, c9⟩ := act_at H.out hlt
      have NX := Lib.hid (fun (h1 : (⟨l[j].s.toArray⟩ : ByteArray).size ≤ 1000) => show ∀ x (hx : x < l.length), x < j + 1 → l[x].s.length ≤ 1000 from fun x hx h => by
        by_cases e : x = j
        · subst e; exact h1
        · exact HS.out x hx (by omega))
      obtain ⟨S, hS⟩ : ∃ S : ByteArray, (⟨l[j].s.toArray⟩ : ByteArray) = S := ⟨_, rfl⟩
      rw [hS] at c9 NX
      clear hS
      generalize l[j].k = k at *
      generalize l[j].n = n at *
      by_cases d1 : (S.size : Int) > 1000
      · go_wp2
        go_ret
        exact ⟨⟨true, rfl, fun e => by cases e⟩, rfl⟩
      have NX := Lib.hid (NX.out (by omega))
      by_cases d2 : k = 2
      · subst d2
        by_cases d3 : n > 3000
        · by_cases d4 : n ≤ 1048576
          · go_wp2
            go_ret
            exact ⟨⟨true, rfl, fun e => by cases e⟩, rfl⟩
          · have d5 : n > 0 := by omega
            go_wp2
            go_round
            case rel => exact ⟨j + 1, s, by omega, by go_num, rfl, NX⟩
            case measure => simp [intOf]; omega
        · have d4 : n ≤ 1048576 := by omega
          by_cases d5 : n > 0
          · go_wp2
            go_round
            case rel => exact ⟨j + 1, _, by omega, by go_num, rfl, NX⟩
            case measure => simp [intOf]; omega
          · go_wp2
            go_round
            case rel => exact ⟨j + 1, s, by omega, by go_num, rfl, NX⟩
            case measure => simp [intOf]; omega
      · have d2' : (k == 2) = false := by simpa using d2
        go_wp2
        go_round
        case rel => exact ⟨j + 1, s, by omega, by go_num, rfl, NX⟩
        case measure => simp [intOf]; omega
    · have hge : ¬ (j : Int) < (l.length : Int) := by omega
      have FF := Lib.hid (show l.length ≤ 150 ∧ ∀ x (hx : x < l.length), l[x].s.length ≤ 1000 from ⟨by omega, fun x hx => HS.out x hx (by omega)⟩)
      go_wp2
      go_ret
      exact ⟨⟨_, rfl, fun _ => FF.out⟩, rfl⟩

/-- A segment without SYN is refused. -/
theorem accept_no (w : World) : Calls Try.prog 8 #[.int .u32 7, .agg #[.int .u16 0, .int .u16 0, .int .u32 0, .int .u32 0, .int .i64 16, .int .u16 0, .int .i64 0, .slice none 0 0], .int .i64 200, .int .i64 100] w fun e w' => e = .returned (.tuple #[.pointer none, .slice none 0 0, .int .i64 1]) ∧ Below w.heap.size w w' := by
  have B1 := Lib.hid ((Below.refl w.heap.size w).alloc (Nat.le_refl _) (.cells #[.int .u16 0, .int .u16 0, .int .u32 0, .int .u32 0, .int .i64 16, .int .u16 0, .int .i64 0, .slice none 0 0] 35))
  have K1 := Lib.hid (Blk.new w 35 #[.int .u16 0, .int .u16 0, .int .u32 0, .int .u32 0, .int .i64 16, .int .u16 0, .int .i64 0, .slice none 0 0])
  have b2 : bits .and .i64 16 2 = 0 := by decide +kernel
  go_enter Try.func8, Try.ntmps8
  go_upto_region 1 with fail
  generalize w.alloc (.cells #[.int .u16 0, .int .u16 0, .int .u32 0, .int .u32 0, .int .i64 16, .int .u16 0, .int .i64 0, .slice none 0 0] 35) = W at *
  have z4 := (K1.out.cell 4).trans (show _ = some (.int .i64 16) from rfl)
  go_wp2
  go_ret3
  exact ⟨rfl, B1.out⟩

theorem greet_al : greetR (armR (T0 7 100 500 200 100)) = ⟨18, 7, 101, 100, 0, 0, 200⟩ := by
  have h1 : Ra.rdy (List.replicate 100 none) = 0 := by decide +kernel
  show (⟨18, Sq.rd (Sq.rd 8 + -1), Sq.rd (Sq.rd 101 + ((0 : Nat) + (Ra.rdy (List.replicate 100 none) : Nat) : Int)), (100 : Int) - (Ra.rdy (List.replicate 100 none) : Nat), 0, 0, 200⟩ : OutV) = _
  rw [h1]
  first | rfl | simp [Sq.rd]

set_option maxRecDepth 100000 in
set_option maxHeartbeats 1000000 in
/-- The chapter's example. -/
theorem alive_any (w : World) : Calls Try.prog 6 #[] w fun e w' => e = .returned (.bool true) ∧ Below w.heap.size w w' := by
  have AC := Lib.hid (show Calls Try.prog 8 #[.int .u32 7, .agg (yn 100 500), .int .i64 200, .int .i64 100] w _ from accept_any 7 100 500 200 100 (by decide) (by decide) (by decide) w)
  go_enter Try.func6, Try.ntmps6
  go_wp2_with fail
  refine AC.out.mono ?_; rintro e w1 ⟨P, A1, c1, ll, rfl, h1, hl⟩
  rw [greet_al] at hl
  subst hl
  have B1 := Lib.hid h1.below
  have CN := Lib.hid h1.con
  have RO := Lib.hid h1.out
  clear h1 AC
  go_wp2_with fail
  refine (accept_no w1).mono ?_; rintro e w2 ⟨rfl, b2⟩
  have B2 := Lib.hid (B1.out.trans (b2.mono B1.out.size))
  have C2 := Lib.hid (CN.out.new b2)
  have R2 := Lib.hid (RO.out.new b2)
  clear b2 B1 CN RO
  obtain ⟨b0, o0, hA, _, z0⟩ := R2.out.cell (j := 0) (by decide)
  obtain ⟨b1, o1, hA1, _, z1⟩ := R2.out.cell (j := 1) (by decide)
  obtain ⟨b2', o2, hA2, _, z2⟩ := R2.out.cell (j := 2) (by decide)
  subst hA
  cases hA1
  cases hA2
  replace z0 : w2.cell? ⟨b0, o0, none⟩ = some (.int .i64 18) := z0
  replace z1 : w2.cell? ⟨b0, o0 + 1, none⟩ = some (.int .u32 7) := z1
  replace z2 : w2.cell? ⟨b0, o0 + 2, none⟩ = some (.int .u32 101) := z2
  have SA := Lib.hid (state_any C2.out)
  clear C2 R2
  go_wp2_with fail
  refine SA.out.mono ?_; rintro e w3 ⟨rfl, rfl⟩
  go_wp2
  go_ret
  exact ⟨rfl, B2.out⟩
end Go.Proofs.Ytldmcoagjgeeoaa.Tc
