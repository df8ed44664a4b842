/- Package store: the free blocks. Conditions: those that each states. -/
import Derived.Test.YtefnkednnnlhoaaGreatDoorMBB
import Derived.Test.YtefnkednnnlhoaaGreatDoorMBC
import Derived.OrdersIn
import Derived.RangeFuncCalls
import Derived.Test.YtefnkednnnlhoaaGreatDoorMAB
namespace Go.Proofs.YtefnkednnnlhoaaGreatDoor.Sr
open Go.ChangeShapes Go.WideShapes Go.ChangeAt Go.RowKit Go.Deep Fr Di Ke Rk
set_option linter.unusedVariables false
set_option linter.unusedSimpArgs false

/-- The free blocks from b on, m of them looked at, till there are n. -/
def frN (K : Kn) (us : List Bool) (n : Nat) : Nat → Nat → List Int → List Int
  | 0, _, acc => acc
  | m + 1, b, acc => if acc.length < n then frN K us n m (b + 1) (if us.getD b false = true then acc else if (rdK K (b : Int)).2 = 0 then acc ++ [(b : Int)] else acc) else acc
def freeR (K : Kn) (us : List Bool) (n : Nat) : List Int := frN K us n (K.dk.blocks.length - 2) 2 []
theorem frN_stop (K : Kn) (us : List Bool) (n : Nat) : ∀ m b acc, ¬ acc.length < n → frN K us n m b acc = acc
  | 0, _, _, _ => rfl
  | m + 1, b, acc, h => by unfold frN; rw [if_neg h]
theorem vi_snoc' (l : List Int) (x : Int) : In.vi l ++ [.int .i64 x] = In.vi (l ++ [x]) := by simp [In.vi]
theorem int_inf : (Tryz.prog.info? 3).map (fun i => (i.zero, i.size, i.bytes)) = some (some (.int .i64 0), 1, 8) := by kernel_rfl

set_option maxRecDepth 100000 in
set_option maxHeartbeats 4000000 in
theorem free_any {B : Nat} {w : World} {lab : Nat → Nat} {gs g cd c : Nat} {gn : Int} {D A : Option Addr} {ds : List Int} {l : List Lf} {dead : Bool} {K : Kn} (h : StAt w lab gs g gn D ds cd A c l dead) (hk : KB B w lab g K) (hB : B ≤ w.heap.size) (m : Nat) (sm : K.Small m) (hm : m < 1000000) (bk : Bare K)
    (hdl : ds.length ≤ 1000) (hd : ∀ d ∈ ds, 0 ≤ d ∧ d < 512) (hx : ∀ x ∈ l, (0 ≤ x.ino ∧ x.ino < 512) ∧ (∀ d ∈ x.f.blocks, 0 ≤ d ∧ d < 512) ∧ x.f.blocks.length ≤ 1000) (n : Nat) (hn : n ≤ 1000) :
    Calls Tryz.prog 42 #[.pointer (some ⟨gs, 0, none⟩), .int .i64 (n : Int)] w fun e w' => ∃ A' c' lab', e = .returned (.slice A' (freeR K (usedR ds l) n).length c') ∧ STo B (fun _ => False) w w' lab lab' g K ∧ RowG w' 1 A' (freeR K (usedR ds l) n).length c' (In.vi (freeR K (usedR ds l) n)) ∧
      Own0 w' lab' A' (freeR K (usedR ds l) n).length ∧ (∀ b, inB A' b → w.heap.size ≤ b) := by
  have UA := Lib.hid (used_any (lab := lab) gn D ds cd A c l h.dirs hdl h.files (by have := h.few; omega) hd hx)
  have Z := Lib.hid h.head
  have LG := Lib.hid h.lg
  have KB0 := Lib.hid hk
  have HB := Lib.hid hB
  have SM := Lib.hid sm
  have HM := Lib.hid hm
  have BK := Lib.hid bk
  have OK := Lib.hid hk.ok
  have z0 := (h.head.cell 0).trans (show _ = some (.int .i64 gn) from rfl)
  have z1 := (h.head.cell 1).trans (show _ = some (.slice D ds.length cd) from rfl)
  have z2 := (h.head.cell 2).trans (show _ = some (.slice A l.length c) from rfl)
  have USL := Lib.hid (show (usedR ds l).length = 512 from by unfold usedR; rw [usedL, mk_length]; simp)
  obtain ⟨us, hus⟩ : ∃ us, usedR ds l = us := ⟨_, rfl⟩
  rw [hus] at UA USL ⊢
  obtain ⟨fin, hfin⟩ : ∃ fin, freeR K us n = fin := ⟨_, rfl⟩
  rw [hfin]
  have FIN := Lib.hid (show frN K us n (K.dk.blocks.length - 2) 2 [] = fin from hfin)
  have S1 := Lib.hid hk.ok.dok.n1
  have S2 := Lib.hid hk.ok.dok.n2
  obtain ⟨zs, hzs⟩ : ∃ zs, List.replicate 512 false = zs := ⟨_, rfl⟩
  have UZ := used_zero
  rw [hzs] at UZ
  have hib : (Tryz.prog.info? 121).map (·.size) = some (ub us).size := by rw [ub_size, USL.out]; exact bt_info
  have hob : (ub us).all (·.oneCell') = true := by
    rw [Array.all_eq_true_iff_forall_mem]
    intro v hv
    unfold ub at hv
    simp at hv
    rcases hv with ⟨_, rfl⟩ | ⟨_, rfl⟩ <;> rfl
  have hol : (ub zs).size = (ub us).size := by rw [ub_size, ub_size, USL.out, ← hzs]; simp
  obtain ⟨uf, huf⟩ : ∃ uf, ub us = uf := ⟨_, rfl⟩
  rw [huf] at hib hob hol UA
  have UF := Lib.hid huf
  clear h hk hB sm hm bk hd hx hus hfin hzs huf
  go_enter Tryz.func42, Tryz.ntmps42
  go_wp2_with fail
  refine UA.out.mono ?_; rintro e w1 ⟨rfl, b1⟩
  have T1 := Lib.hid (STo.fresh KB0.out HB.out (fun _ => False) b1)
  have Z1 := Lib.hid (Z.out.older (older_below b1))
  clear b1 UA
  go_wp2_with (first
    | (refine wpList_alloc_z rfl 121 rfl (ub zs) UZ ?_; refine Hid.out ?_)
    | fail)
  unfold Hid
  intro w2 k2 b2
  have K2 := Lib.hid k2
  have T2 := Lib.hid (T1.out.new HB.out b2)
  have Z2 := Lib.hid (Z1.out.older (older_below b2))
  have L2 := Lib.hid (T1.out.kb.lab0 (Nat.le_refl w1.heap.size))
  have G2 := Lib.hid (show w.heap.size ≤ w1.heap.size from T1.out.size)
  have GS := Lib.hid (show gs < w1.heap.size from Z1.out.lt)
  obtain ⟨g5, hg5⟩ : ∃ g5, w1.heap.size = g5 := ⟨_, rfl⟩
  rw [hg5] at K2 L2 G2 GS ⊢
  clear k2 b2 hg5 T1 Z1 z0 z1 z2
  go_upto_region 2 with (first
    | (refine wpList_store_row rfl 121 (.tmp 5) (.tmp 14) rfl g5 uf rfl rfl 121 _ K2.out hib hol hob ?_)
    | fail)
  have KS := Chg.setRow w2 (g := g5) (S := fun k => k = g5) uf rfl
  have K3 := Lib.hid (show Blk (w2.setRow g5 uf) g5 121 uf from K2.out.row uf)
  have T3 := Lib.hid (T2.out.set BK.out KS (.inr G2.out) HB.out (Nat.le_trans HB.out G2.out) L2.out)
  have Z3 := Lib.hid (Z2.out.chg KS (by have := GS.out; omega))
  clear KS K2 T2 Z2 UZ hib hob hol
  generalize w2.setRow g5 uf = w3 at *
  have hsz : 2 ≤ K.dk.blocks.length ∨ K.dk.blocks.length < 2 := by omega
  go_wp2
  go_loopw [7, 6] (fun bv lv wr => ∃ (b mm : Nat) (acc : List Int) (A' : Option Addr) (c' : Nat) (lab1 : Nat → Nat), mm = K.dk.blocks.length - b ∧ 2 ≤ b ∧ b ≤ 514 ∧ acc.length ≤ b ∧ bv = .int .i64 (b : Int) ∧ lv = .slice A' (In.vi acc).length c' ∧ Hid (frN K us n mm b acc = fin) ∧ Hid (STo B (fun _ => False) w wr lab lab1 g K) ∧ Hid (Row wr (g5 + 1) 3 A' c' (In.vi acc)) ∧ Hid (∀ b, inB A' b → lab1 b = 0) ∧
    Hid (Blk wr g5 121 uf ∧ lab1 g5 = 0) ∧ Hid (Blk wr gs 54 #[.int .i64 gn, .slice D ds.length cd, .slice A l.length c, .pointer (some ⟨g, 0, none⟩), .bool dead] ∧ lab1 gs = 0)) (fun i _ _ => 514 - (intOf i).toNat)
  case atStart => exact ⟨2, K.dk.blocks.length - 2, [], none, 0, lab, rfl, by omega, by omega, by simp, rfl, rfl, FIN, T3, Lib.hid (Row.nil _ _ _), Lib.hid (fun b hb => absurd hb (inB_none b)), Lib.hid ⟨K3.out, L2.out⟩, Lib.hid ⟨Z3.out, LG.out⟩⟩
  case round =>
    obtain ⟨b, mm, acc, A', c', lab1, hmm, hb2, hb5, hab, rfl, rfl, FR, T1, AR, AL, UB, ZB⟩ := hrel
    clear T3 K3 Z3 hsz
    have s2 := S2.out
    obtain ⟨bl, hbl⟩ : ∃ bl, K.dk.blocks.length = bl := ⟨_, rfl⟩
    rw [hbl] at hmm s2
    have DK := Lib.hid (disk_any T1.out.kb)
    rw [hbl] at DK
    have z3 := (ZB.out.1.cell 3).trans (show _ = some (.pointer (some ⟨g, 0, none⟩)) from rfl)
    have VL := Lib.hid (show (In.vi acc).length = acc.length from by simp [In.vi])
    have END := Lib.hid (show acc = fin → RowG wr 1 A' fin.length c' (In.vi fin) ∧ Own0 wr lab1 A' fin.length ∧ (∀ q, inB A' q → w.heap.size ≤ q) from fun e => by
      subst e
      have r := AR.out
      obtain ⟨A2, c3, e2, g2, _⟩ := RowG.of_owns r.own
      cases e2
      rw [VL.out] at g2
      exact ⟨g2, fun h0 x hx => ⟨(r.lt x.block (by rw [hx]; rfl)).2, AL.out x.block (by rw [hx]; simp [inB])⟩, fun q hq => by have := (r.lt q (inB_own.2 hq)).1; have := G2.out; omega⟩)
    have BLE := Lib.hid hbl
    clear hbl
    by_cases hlt : b < bl
    rotate_left
    · have hlt' : ¬ (b : Int) < (bl : Int) := by omega
      have hE : acc = fin := by have := FR.out; rw [show mm = 0 by omega] at this; exact this
      have E := END.out hE
      rw [VL.out, hE]
      clear hE END
      have EE := Lib.hid E
      clear E
      go_wp2_with fail
      refine DK.out.mono ?_; rintro e w4 ⟨gd, rfl, hw, _, hsz⟩
      have SZ := Lib.hid (hsz wr (Below.refl _ _))
      rw [← hw]
      clear hw hsz w4 DK
      go_wp2_with fail
      refine SZ.out.mono ?_; rintro e w4 ⟨rfl, hw⟩
      rw [hw]
      clear hw w4 SZ
      go_wp2
      go_ret
      exact ⟨A', c', lab1, rfl, T1.out, EE.out⟩
    have hlt' : (b : Int) < (bl : Int) := by omega
    by_cases hacc : acc.length < n
    rotate_left
    · have hacc' : ¬ ((In.vi acc).length : Int) < (n : Int) := by rw [VL.out]; omega
      have hE : acc = fin := by have := FR.out; rw [frN_stop _ _ _ _ _ _ hacc] at this; exact this
      have E := END.out hE
      rw [VL.out] at hacc'
      rw [VL.out]
      rw [hE] at hacc' ⊢
      clear hE END
      have EE := Lib.hid E
      clear E
      go_wp2_with fail
      refine DK.out.mono ?_; rintro e w4 ⟨gd, rfl, hw, _, hsz⟩
      have SZ := Lib.hid (hsz wr (Below.refl _ _))
      rw [← hw]
      clear hw hsz w4 DK
      go_wp2_with fail
      refine SZ.out.mono ?_; rintro e w4 ⟨rfl, hw⟩
      rw [hw]
      clear hw w4 SZ
      go_wp2
      go_ret
      exact ⟨A', c', lab1, rfl, T1.out, EE.out⟩
    have hacc' : ((In.vi acc).length : Int) < (n : Int) := by rw [VL.out]; omega
    obtain ⟨m2, hm2⟩ : ∃ m2, mm = m2 + 1 := ⟨mm - 1, by omega⟩
    have F2 := FR.out
    rw [hm2] at F2
    unfold frN at F2
    rw [if_pos hacc] at F2
    have hbu : b < us.length := by rw [USL.out]; omega
    have ub0 : wr.cell? ⟨g5, b, none⟩ = some (.bool us[b]) := by rw [UB.out.1.cell, ← UF.out]; exact ub_get hbu
    have b0 : (0 : Int) ≤ (b : Int) := by omega
    have b9 : (b : Int) < 512 := by omega
    have xb := IntWalk.i64_in ((b : Int) + 1) (by omega)
    have hgu : us.getD b false = us[b] := by rw [List.getD_eq_getElem?_getD, List.getElem?_eq_getElem hbu]; rfl
    rw [hgu] at F2
    cases hv : us[b] with
    | true =>
      rw [hv] at ub0 F2
      rw [if_pos rfl] at F2
      have FF := Lib.hid F2
      clear F2 hv hgu hbu END FR
      go_wp2_with fail
      refine DK.out.mono ?_; rintro e w4 ⟨gd, rfl, hw, _, hsz⟩
      have SZ := Lib.hid (hsz wr (Below.refl _ _))
      rw [← hw]
      clear hw hsz w4 DK
      go_wp2_with fail
      refine SZ.out.mono ?_; rintro e w4 ⟨rfl, hw⟩
      rw [hw]
      clear hw w4 SZ
      go_wp2
      go_roundw
      case rel => exact ⟨b + 1, m2, acc, A', c', lab1, by have := BLE.out; omega, by omega, by omega, by omega, by go_num, rfl, FF, T1, AR, AL, UB, ZB⟩
      case measure => simp [intOf]; omega
    | false =>
      rw [hv] at ub0 F2
      rw [if_neg (by simp)] at F2
      have FF := Lib.hid F2
      clear F2 hv hgu hbu END FR
      have RC := Lib.hid (read_any T1.out.kb (Nat.le_trans HB.out T1.out.size) m SM.out HM.out (b : Int))
      obtain ⟨pg, hpg⟩ : ∃ pg, (rdK K (b : Int)).1 = pg := ⟨_, rfl⟩
      rw [hpg] at RC
      clear hpg
      have EB := Lib.hid (show (rdK K (b : Int)).2 = 0 ∨ (rdK K (b : Int)).2 ≠ 0 from by omega)
      generalize (rdK K (b : Int)).2 = rb at *
      go_wp2_with fail
      refine DK.out.mono ?_; rintro e w4 ⟨gd, rfl, hw, _, hsz⟩
      have SZ := Lib.hid (hsz wr (Below.refl _ _))
      rw [← hw]
      clear hw hsz w4 DK
      go_wp2_with fail
      refine SZ.out.mono ?_; rintro e w4 ⟨rfl, hw⟩
      rw [hw]
      clear hw w4 SZ
      go_wp2_with fail
      refine RC.out.mono ?_; rintro e w3 ⟨Ap, cp, rfl, lab2, k3, _, _⟩
      have T3 := Lib.hid (T1.out.trans (k3.sto _))
      have AR3 := Lib.hid (row_same0 (k3.sto (fun _ => False)) (fun _ h => h) AR.out AL.out)
      have AL3 := Lib.hid (show ∀ q, inB A' q → lab2 q = 0 from fun q hq => (k3.sto (fun _ => False)).zero q (AR.out.lt q (inB_own.2 hq)).2 (AL.out q hq))
      have UB3 := Lib.hid (show Blk w3 g5 121 uf ∧ lab2 g5 = 0 from ⟨(k3.sto (fun _ => False)).blk UB.out.1 UB.out.2 id, (k3.sto (fun _ => False)).zero _ UB.out.1.lt UB.out.2⟩)
      have ZB3 := Lib.hid (show Blk w3 gs 54 #[.int .i64 gn, .slice D ds.length cd, .slice A l.length c, .pointer (some ⟨g, 0, none⟩), .bool dead] ∧ lab2 gs = 0 from ⟨(k3.sto (fun _ => False)).blk ZB.out.1 ZB.out.2 id, (k3.sto (fun _ => False)).zero _ ZB.out.1.lt ZB.out.2⟩)
      clear k3 T1 AR AL UB ZB RC z3
      rcases EB.out with hr | hr
      rotate_left
      · rw [if_neg hr] at FF
        have hr0 := hr
        go_wp2
        go_roundw
        case rel => exact ⟨b + 1, m2, acc, A', c', lab2, by have := BLE.out; omega, by omega, by omega, by omega, by go_num, rfl, FF, T3, AR3, AL3, UB3, ZB3⟩
        case measure => simp [intOf]; omega
      subst hr
      rw [if_pos rfl] at FF
      clear EB
      go_wp2_with (at_builtin; refine Hid.out ?_)
      unfold Hid
      have HBW := Lib.hid (show g5 + 1 ≤ w3.heap.size from UB3.out.1.lt)
      have LN3 := Lib.hid (show lab2 (w3.heap.size + 1) = 0 from T3.out.kb.lab0 (by omega))
      refine wpList_append_one rfl _ _ rfl Tryz.underlying24 (.int .i64 0) 8 rfl (by decide) int_inf rfl AR3.out HBW.out (.int .i64 (b : Int)) rfl rfl (by rw [VL.out]; omega) ?_
      intro A2 c2 w5 hr5 KS hat
      rw [vi_snoc'] at hr5 hat ⊢
      have T5 := Lib.hid (show STo B (fun _ => False) w w5 lab lab2 g K from by
        have hS : ∀ q, (Value.slice A' (In.vi acc).length c').ownBlock = some q → lab2 q = 0 ∧ w.heap.size ≤ q := fun q hq => ⟨AL3.out q (inB_own.1 hq), by have := (AR3.out.lt q hq).1; have := G2.out; omega⟩
        by_cases hA : A' = none
        · subst hA
          exact T3.out.new HB.out ⟨KS.os, KS.tape, KS.output, KS.size, fun q hq => KS.block q hq (fun e => by simp [Value.ownBlock] at e)⟩
        · obtain ⟨ax, rfl⟩ : ∃ ax, A' = some ax := by cases A' with | none => exact absurd rfl hA | some ax => exact ⟨ax, rfl⟩
          refine T3.out.set BK.out (r := ax.block) (KS.weak (fun q hq => by simpa [Value.ownBlock, eq_comm] using hq)) (.inr (hS ax.block rfl).2) HB.out (Nat.le_trans HB.out (hS ax.block rfl).2) (hS ax.block rfl).1)
      have hge : ∀ q, (Value.slice A' (In.vi acc).length c').ownBlock = some q → g5 + 1 ≤ q := fun q hq => (AR3.out.lt q hq).1
      have AR5 := Lib.hid hr5
      have AL5 := Lib.hid (show ∀ q, inB A2 q → lab2 q = 0 from fun q hq => by
        have h1 : (Value.slice A2 (In.vi (acc ++ [(b : Int)])).length c2).ownBlock = some q := inB_own.2 hq
        rcases hat with e | e
        · rw [e] at h1; exact AL3.out q (inB_own.1 h1)
        · rw [e] at h1; cases h1; exact LN3.out)
      have UB5 := Lib.hid (show Blk w5 g5 121 uf ∧ lab2 g5 = 0 from ⟨UB3.out.1.chg KS (fun s => by have := hge _ s; omega), UB3.out.2⟩)
      have ZB5 := Lib.hid (show Blk w5 gs 54 #[.int .i64 gn, .slice D ds.length cd, .slice A l.length c, .pointer (some ⟨g, 0, none⟩), .bool dead] ∧ lab2 gs = 0 from ⟨ZB3.out.1.chg KS (fun s => by have h1 := hge _ s; have := GS.out; omega), ZB3.out.2⟩)
      have AN := Lib.hid (show (acc ++ [(b : Int)]).length ≤ b + 1 from by rw [List.length_append]; simp; omega)
      clear hr5 hat KS hge AR3 AL3 UB3 ZB3 T3 VL
      generalize acc ++ [(b : Int)] = ac2 at *
      go_wp2
      go_roundw
      case rel => exact ⟨b + 1, m2, ac2, A2, c2, lab2, by have := BLE.out; omega, by omega, by omega, AN.out, by go_num, rfl, FF, T5, AR5, AL5, UB5, ZB5⟩
      case measure => simp [intOf]; omega
end Go.Proofs.YtefnkednnnlhoaaGreatDoor.Sr

/- Package store: entries, filled. Conditions: those that each states. -/
namespace Go.Proofs.YtefnkednnnlhoaaGreatDoor.Sr
open Go.ChangeShapes Go.WideShapes Go.ChangeAt Go.RowKit Go.Deep Fr Di Ke Rk
set_option linter.unusedVariables false
set_option linter.unusedSimpArgs false

theorem vlCell {w : World} {A : Option Addr} {c : Nat} {l : List Lf} (h : RowG w 7 A l.length c (vl l)) {j : Nat} (hj : j < l.length) : ∃ b o, A = some ⟨b, o, none⟩ ∧ b < w.heap.size ∧ ∀ k, k < 7 → w.cell? ⟨b, o + j * 7 + k, none⟩ = (l[j].vals)[k]? := by
  obtain ⟨b, o, e, hb, _⟩ := h.cell (j := 0) (by rw [vl_length]; omega)
  refine ⟨b, o, e, hb, fun k hk => ?_⟩
  have hlt : j * 7 + k < (vl l).length := by rw [vl_length]; omega
  obtain ⟨b', o', e', _, hc⟩ := h.cell hlt
  rw [e] at e'
  cases e'
  rw [← vl_get l j k hj hk, Nat.add_assoc, hc, List.getElem?_eq_getElem hlt]
/-- The entries of files. -/
def ents (l : List Lf) : List In.Ent := l.map fun x => ⟨x.name, x.ino⟩
theorem ents_length (l : List Lf) : (ents l).length = l.length := by simp [ents]
theorem ents_succ (l : List Lf) (j : Nat) (h : j < l.length) : In.ve (ents (l.take (j + 1))) = In.ve (ents (l.take j)) ++ [.string ⟨l[j].name.toArray⟩, .int .i64 l[j].ino] := by
  rw [List.take_succ_eq_append_getElem h]
  simp only [ents, List.map_append, List.map_cons, List.map_nil]
  rw [In.ve_snoc]

set_option maxRecDepth 100000 in
set_option maxHeartbeats 2000000 in
theorem entries_any (A : Option Addr) (c : Nat) (l : List Lf) (w : World) (h : RowG w 7 A l.length c (vl l)) (hl : l.length ≤ 100) :
    Calls Tryz.prog 83 #[.slice A l.length c] w fun e w' => ∃ A' c', e = .returned (.slice A' l.length c') ∧ RowG w' 2 A' l.length c' (In.ve (ents l)) ∧ Below w.heap.size w w' ∧ (∀ b, inB A' b → w.heap.size ≤ b) := by
  have H := Lib.hid h
  clear h
  obtain ⟨i0, z0, inf⟩ := In.ent_info
  have INF := Lib.hid inf
  clear inf
  obtain ⟨n, hn⟩ : ∃ n, l.length = n := ⟨_, rfl⟩
  rw [hn] at hl ⊢
  have LN := Lib.hid hn
  clear hn
  go_enter Tryz.func83, Tryz.ntmps83
  go_wp2
  go_loopw [3, 8] (fun sl i wr => ∃ (j : Nat) (A' : Option Addr) (c' : Nat), j ≤ n ∧ i = .int .i64 (j : Int) ∧ sl = .slice A' j c' ∧ Hid (RowW wr 56 2 A' j c' (In.ve (ents (l.take j)))) ∧ Hid (∀ b, inB A' b → w.heap.size ≤ b) ∧ Hid (Below w.heap.size w wr)) (fun _ i _ => n - (intOf i).toNat)
  case atStart => exact ⟨0, none, 0, Nat.zero_le _, rfl, rfl, Lib.hid (RowW.nil _ _ _), Lib.hid (fun b e => (inB_none b e).elim), Lib.hid (Below.refl _ _)⟩
  case round =>
    obtain ⟨j, A', c', hj, rfl, rfl, RW, FR, BL⟩ := hrel
    by_cases hlt : j < n
    · have hlt' : (j : Int) < (n : Int) := by omega
      have j0 : (0 : Int) ≤ (j : Int) := by omega
      have hjl : j < l.length := by rw [LN.out]; exact hlt
      have xj := IntWalk.i64_in ((j : Int) + 1) (by omega)
      obtain ⟨b, o, rfl, hb, hc⟩ := vlCell (H.out.new BL.out) hjl
      have y0 : wr.cell? ⟨b, o + j * 7, none⟩ = some (.string ⟨l[j].name.toArray⟩) := (hc 0 (by omega)).trans rfl
      have y1 : wr.cell? ⟨b, o + j * 7 + 1, none⟩ = some (.int .i64 l[j].ino) := (hc 1 (by omega)).trans rfl
      have y2 : wr.cell? ⟨b, o + j * 7 + 2, none⟩ = some (.int .i64 l[j].f.ver) := (hc 2 (by omega)).trans rfl
      have y3 : wr.cell? ⟨b, o + j * 7 + 3, none⟩ = some (.int .i64 l[j].f.mtime) := (hc 3 (by omega)).trans rfl
      have y4 : wr.cell? ⟨b, o + j * 7 + 4, none⟩ = some (.int .i64 l[j].f.len) := (hc 4 (by omega)).trans rfl
      have y5 : wr.cell? ⟨b, o + j * 7 + 5, none⟩ = some (.slice l[j].A l[j].f.blocks.length l[j].c) := (hc 5 (by omega)).trans rfl
      have y6 : wr.cell? ⟨b, o + j * 7 + 6, none⟩ = some (.slice l[j].A' l[j].f.parts.length l[j].c') := (hc 6 (by omega)).trans rfl
      have TS := Lib.hid (ents_succ l j hjl)
      have BZ := Lib.hid (BL.out.trans (((Below.refl wr.heap.size wr).alloc (Nat.le_refl _) (.cells #[.string ⟨l[j].name.toArray⟩, .int .i64 l[j].ino, .int .i64 l[j].f.ver, .int .i64 l[j].f.mtime, .int .i64 l[j].f.len, .slice l[j].A l[j].f.blocks.length l[j].c, .slice l[j].A' l[j].f.parts.length l[j].c'] 58)).mono BL.out.size))
      have KB := Lib.hid (Blk.new wr 58 #[.string ⟨l[j].name.toArray⟩, .int .i64 l[j].ino, .int .i64 l[j].f.ver, .int .i64 l[j].f.mtime, .int .i64 l[j].f.len, .slice l[j].A l[j].f.blocks.length l[j].c, .slice l[j].A' l[j].f.parts.length l[j].c'])
      have RW2 := Lib.hid (show RowW (wr.alloc (.cells #[.string ⟨l[j].name.toArray⟩, .int .i64 l[j].ino, .int .i64 l[j].f.ver, .int .i64 l[j].f.mtime, .int .i64 l[j].f.len, .slice l[j].A l[j].f.blocks.length l[j].c, .slice l[j].A' l[j].f.parts.length l[j].c'] 58)) 56 2 A' j c' (In.ve (ents (l.take j))) from ⟨RW.out.own.alloc _⟩)
      generalize l[j].name = nm at *
      generalize l[j].ino = v at *
      clear hc RW
      go_upto_region 5 with fail
      generalize (wr.alloc (.cells #[.string ⟨nm.toArray⟩, .int .i64 v, .int .i64 l[j].f.ver, .int .i64 l[j].f.mtime, .int .i64 l[j].f.len, .slice l[j].A l[j].f.blocks.length l[j].c, .slice l[j].A' l[j].f.parts.length l[j].c'] 58)) = W2 at *
      have GX := Lib.hid (show w.heap.size ≤ wr.heap.size from BL.out.size)
      generalize wr.heap.size = gx at *
      have k0 := (KB.out.cell 0).trans (show _ = some (.string ⟨nm.toArray⟩) from rfl)
      have k1 := (KB.out.cell 1).trans (show _ = some (.int .i64 v) from rfl)
      clear y0 y1 y2 y3 y4 y5 y6 KB BL
      have RO := Lib.hid RW2.out.own
      go_wp2_with (refine In.wpList_append_W rfl _ _ 123 56 rfl Tryz.underlying123 i0 z0 2 24 INF.out.1 INF.out.2.1 INF.out.2.2.2.1 INF.out.2.2.2.2 INF.out.2.2.1 (by decide) (by decide) rfl RO.out [.string ⟨nm.toArray⟩, .int .i64 v] rfl rfl (In.one_ent _ _) (by omega) ?_; refine Hid.out ?_)
      unfold Hid
      intro g8 cap8 w8 o8 k8 at8
      have O8 := Lib.hid (show RowW w8 56 2 (some ⟨g8, 0, none⟩) (j + 1) cap8 (In.ve (ents (l.take (j + 1)))) from ⟨by rw [TS.out]; exact o8.own⟩)
      have F8 := Lib.hid (show ∀ b, inB (some ⟨g8, 0, none⟩) b → w.heap.size ≤ b from fun b e => by
        rw [inB_some e]
        exact at8.elim (fun h => FR.out _ h) (fun h => Nat.le_trans BZ.out.size h))
      have B8 := Lib.hid (show Below w.heap.size w w8 from ⟨k8.os.trans BZ.out.os, k8.tape.trans BZ.out.tape, k8.output.trans BZ.out.output, Nat.le_trans BZ.out.size k8.size, fun i hi => (k8.block i (Nat.lt_of_lt_of_le hi BZ.out.size) (fun e => by have := FR.out _ e; omega)).trans (BZ.out.block i hi)⟩)
      clear o8 k8 at8 RW2 RO k0 k1
      go_wp2
      go_roundw
      case rel => exact ⟨j + 1, _, _, by omega, by go_num, rfl, O8, F8, B8⟩
      case measure => simp [intOf]; omega
    · have hlt' : ¬ (j : Int) < (n : Int) := by omega
      obtain rfl : j = n := by omega
      have RG := Lib.hid (show RowG wr 2 A' j c' (In.ve (ents l)) from by
        have := In.rowG_of RW.out
        rwa [List.take_of_length_le (by rw [LN.out]; omega)] at this)
      clear RW
      go_wp2
      go_ret
      exact ⟨A', c', rfl, RG.out, BL.out, FR.out⟩
/-- bytes.Clone of what is there is the call's own. -/
theorem clone_own (A : Addr) (n c : Nat) (l : List UInt8) (w : World) (hb : Src w (some A) n c l) (hn : n ≤ 1099511627776) (hp : 0 < n) :
    Calls Tryz.prog 103 #[.slice (some A) n c] w fun e w' => ∃ g' c', e = .returned (.slice (some ⟨g', 0, none⟩) n c') ∧ OwnB w' w.heap.size g' n c' l ∧ Below w.heap.size w w' := by
  have he : ∀ W, (binOp .eql 31 (.slice (some A) n c) (.slice none 0 0)).run Tryz.prog W = .ok (.bool (some A).isNone) W := fun W => Lib.run_eql_slice_nil W 31 5 (some A) n c 0 0 Tryz.underlying31
  have he := fun W => (he W).trans (congrArg (fun b => Result.ok (Value.bool b) W) (show (some A).isNone = false from rfl))
  have hown := World.ownsRow_lit (base := w.heap.size) (e := 5) (size := 1) w #[] 0 (Nat.le_refl _) (by decide) rfl
  have HB := Lib.hid hb
  clear hb
  go_enter Tryz.func103, Tryz.ntmps103
  go_wp2_with (at_builtin; refine Hid.out ?_)
  unfold Hid
  refine wpList_append_src rfl _ _ rfl w.heap.size _ 0 [] rfl hown (some A) n c l rfl (HB.out.alloc _) (by omega) (by simp) ?_
  intro v' w' h1 h2
  rw [Nat.zero_add, List.nil_append] at h1
  have b2 := (Below.refl w.heap.size w).alloc (Nat.le_refl _) (.cells #[] 5) |>.trans h2
  obtain ⟨g', c', rfl, hs⟩ := OwnB.of h1 hp
  clear h1 h2 hown he
  go_wp2
  go_ret
  exact ⟨g', c', rfl, hs, b2⟩

set_option maxRecDepth 100000 in
theorem filled_any (A : Addr) (n c : Nat) (l : List UInt8) (w : World) (hb : Src w (some A) n c l) (hn : n ≤ 256) (hp : 0 < n) :
    Calls Tryz.prog 79 #[.slice (some A) n c] w fun e w' => ∃ g' c', e = .returned (.slice (some ⟨g', 0, none⟩) 256 c') ∧ OwnB w' w.heap.size g' 256 c' (l ++ List.replicate (256 - n) 0) ∧ Below w.heap.size w w' := by
  have HB := Lib.hid hb
  have CL := Lib.hid (clone_own A n c l w hb (by omega) hp)
  have hw := IntWalk.i64_in (256 - (n : Int)) (by omega)
  clear hb
  go_enter Tryz.func79, Tryz.ntmps79
  go_wp2_with fail
  refine CL.out.mono ?_; rintro e w1 ⟨g1, c1, rfl, o1, b1⟩
  have O1 := Lib.hid o1
  have B1 := Lib.hid b1
  clear o1 b1 CL HB
  go_wp2_with (first
    | (refine In.wpList_append_zeros rfl _ _ rfl rfl O1.out (256 - n) rfl (by omega) (by omega) (by omega) B1.out.size ?_; refine Hid.out ?_)
    | fail)
  unfold Hid
  intro g2 c2 w2 o2 b2
  have O2 := Lib.hid o2
  have B2 := Lib.hid (B1.out.trans b2)
  clear o2 b2 O1 B1
  go_wp2
  go_ret
  exact ⟨g2, c2, rfl, O2.out, B2.out⟩
end Go.Proofs.YtefnkednnnlhoaaGreatDoor.Sr

/- Package store: lay. Conditions: those that each states. -/
namespace Go.Proofs.YtefnkednnnlhoaaGreatDoor.Sr
open Go.ChangeShapes Go.WideShapes Go.ChangeAt Go.RowKit Go.Deep Fr Di Ke Rk
set_option linter.unusedVariables false
set_option linter.unusedSimpArgs false

theorem txt_info : ∃ i0 z, Tryz.prog.info? 31 = some i0 ∧ i0.zero = some z ∧ z.cells.size = 1 ∧ i0.size = 1 ∧ i0.bytes = 24 := by
  obtain ⟨i, hi, hs⟩ := Option.map_eq_some_iff.1 (show (Tryz.prog.info? 31).map (fun i => (i.zero.map (·.cells.size), i.size, i.bytes)) = some (some 1, 1, 24) by kernel_rfl)
  simp only [Prod.mk.injEq] at hs
  obtain ⟨h0, h1, h2⟩ := hs
  obtain ⟨z, hz, hzs⟩ := Option.map_eq_some_iff.1 h0
  exact ⟨i, z, hi, hz, hzs, h1, h2⟩

set_option maxRecDepth 100000 in
set_option maxHeartbeats 2000000 in
theorem lay_any {w : World} {gd : Nat} {u0 u1 u2 : Value} {T X : Option Addr} {ct cx : Nat} {ts : List Int} {xs : List Value} (hd : Blk w gd 69 #[u0, u1, u2, .slice T ts.length ct, .slice X xs.length cx]) (ht : RowG w 1 T ts.length ct (In.vi ts)) (hx : RowW w 31 1 X xs.length cx xs)
    (hgx : ¬ inB X gd) (hto : ∀ b, inB T b → b ≠ gd ∧ ¬ inB X b) (hlt : xs.length < ts.length) (hm : ts.length ≤ 1000) (At : Option Addr) (n c : Nat) :
    Calls Tryz.prog 78 #[.pointer (some ⟨gd, 0, none⟩), .slice At n c] w fun e w' => e = .returned (.int .i64 (ts[xs.length]'hlt)) ∧ ∃ X' cx', Blk w' gd 69 #[u0, u1, u2, .slice T ts.length ct, .slice X' (xs.length + 1) cx'] ∧
      RowW w' 31 1 X' (xs.length + 1) cx' (xs ++ [.slice At n c]) ∧ (∀ b, inB X' b → inB X b ∨ w.heap.size ≤ b) ∧ Chg w w' (fun k => k = gd ∨ inB X k) := by
  have D := Lib.hid hd
  have HT := Lib.hid ht
  have HX := Lib.hid hx.own
  have GX := Lib.hid hgx
  have TO := Lib.hid hto
  have DL := Lib.hid hd.lt
  have d4 := (hd.cell 4).trans (show _ = some (.slice X xs.length cx) from rfl)
  obtain ⟨i0, z0, inf⟩ := txt_info
  have INF := Lib.hid inf
  obtain ⟨v, hv⟩ : ∃ v, ts[xs.length]'hlt = v := ⟨_, rfl⟩
  have TV := Lib.hid hv
  rw [hv]
  clear inf hd ht hx hgx hto hv
  obtain ⟨nt, hnt⟩ : ∃ nt, ts.length = nt := ⟨_, rfl⟩
  go_enter Tryz.func78, Tryz.ntmps78
  go_wp2_with (first
    | (refine In.wpList_append_W rfl _ _ 67 31 rfl Tryz.underlying67 i0 z0 1 24 INF.out.1 INF.out.2.1 INF.out.2.2.2.1 INF.out.2.2.2.2 INF.out.2.2.1 (by decide) (by decide) rfl HX.out [.slice At n c] rfl rfl (by simp [Value.oneCell']) (by omega) ?_; refine Hid.out ?_)
    | fail)
  unfold Hid
  intro g8 cap8 w8 o8 k8 at8
  have D8 := Lib.hid (D.out.chg k8 GX.out)
  have O8 := Lib.hid o8
  have A8 := Lib.hid at8
  have K8 := Lib.hid k8
  have fz := D8.out.frozen 4
  have e4 := (D8.out.cell 4).trans (show _ = some (.slice X xs.length cx) from rfl)
  have G8 := Lib.hid (show ¬ g8 = gd from fun e => by subst e; exact at8.elim GX.out (fun h => absurd DL.out (by omega)))
  clear o8 k8 at8 D HX d4
  go_upto_region 2 with fail
  have KS := Lib.hid (Chg.set w8 4 (.slice (some ⟨g8, 0, none⟩) (xs.length + 1) cap8) (g := gd) (S := fun k => k = gd) rfl)
  have D9 := Lib.hid (show Blk (w8.setCell ⟨gd, 4, none⟩ (.slice (some ⟨g8, 0, none⟩) (xs.length + 1) cap8)) gd 69 #[u0, u1, u2, .slice T ts.length ct, .slice (some ⟨g8, 0, none⟩) (xs.length + 1) cap8] from by have := D8.out.put 4 (.slice (some ⟨g8, 0, none⟩) (xs.length + 1) cap8); simpa using this)
  have O9 := Lib.hid (O8.out.chg KS.out (fun b e h => G8.out (by rw [← inB_some e]; exact h)))
  have K9 := Lib.hid ((K8.out.weak (S' := fun k => k = gd ∨ inB X k) (fun i h => .inr h)).trans (KS.out.weak (fun i h => .inl h)))
  generalize (w8.setCell ⟨gd, 4, none⟩ (.slice (some ⟨g8, 0, none⟩) (xs.length + 1) cap8)) = w9 at *
  have F9 := Lib.hid (show ∀ b, inB (some ⟨g8, 0, none⟩) b → inB X b ∨ w.heap.size ≤ b from fun b e => by rw [inB_some e]; exact A8.out)
  have T9 := Lib.hid (HT.out.chg K9.out (fun a e s => s.elim (fun h => (TO.out _ (by rw [e]; simp [inB])).1 h) (fun h => (TO.out a.block (by rw [e]; simp [inB])).2 h)))
  obtain ⟨bt, ot, rfl, hb, hc⟩ := T9.out.cell (j := xs.length) (by simpa [In.vi] using hlt)
  replace hc : w9.cell? ⟨bt, ot + xs.length, none⟩ = some (.int .i64 v) := by rw [hc, ← TV.out]; simp [In.vi]
  have e3 := (D9.out.cell 3).trans (show _ = some (.slice (some ⟨bt, ot, none⟩) ts.length ct) from rfl)
  have e5 := (D9.out.cell 4).trans (show _ = some (.slice (some ⟨g8, 0, none⟩) (xs.length + 1) cap8) from rfl)
  obtain ⟨q, hq⟩ : ∃ q, xs.length = q := ⟨_, rfl⟩
  have xq := IntWalk.i64_in ((q : Int)) (by omega)
  rw [hnt] at e3
  rw [hq] at e5 hc
  have q0 : (0 : Int) ≤ (q : Int) := by omega
  have q1 : (q : Int) < (nt : Int) := by omega
  have xw := IntWalk.i64_in (((q + 1 : Nat) : Int) - 1) (by omega)
  have xe : (((q + 1 : Nat) : Int) - 1) = (q : Int) := by omega
  go_quiet (fail)
  go_wp2
  go_ret
  refine ⟨rfl, some ⟨g8, 0, none⟩, cap8, ?_, ?_, F9.out, K9.out.drewN _⟩
  · exact D9.out
  · exact O9.out.same (fun b _ => rfl)
end Go.Proofs.YtefnkednnnlhoaaGreatDoor.Sr

/- A region that draws its order within a round of a range over a function: by the plain laws. Conditions: those that each states. -/
namespace Go.Proofs.YtefnkednnnlhoaaGreatDoor
open Go Go.Deep

section
variable {P : Program} {md : Region.Mode} {ops : Array Oper} {Q : Exit → Act → World → Prop} {S : World → Prop} {l n : Nat}

theorem rows_round {row : String} {args : Array Value} {w : World} {R : Value → World → Prop} (h : Rows P row args w R) : RowsIn (Fence.wide.inRound l) n P row args w R := by
  intro c cs _
  obtain ⟨v, w', r, s⟩ := h c cs
  exact ⟨v, w', r, stepsIn_wide.2 s⟩
theorem oper_round {o : Oper} {a : Act} {w : World} {K : Act → World → Prop} (hd : ∀ c, o.op ≠ .defer c) (h : o.wp P a w K Q) : o.wpIn (Fence.wide.inRound l) n P a w K Q := by
  refine ⟨fun _ _ => trivial, ?_⟩
  rw [Oper.semAt_eq _ _ _ hd]
  unfold Oper.wp at h
  generalize (execOp a.eval o).run P w = r at *
  cases r with
  | ok x w' =>
    cases x <;> simp only [Oper.upon] at h <;> simp only [Oper.uponIn]
    case value => exact h
    case skip => exact h
    case defer => exact h
    case enter =>
      refine ⟨fun h => by (cases h), CallsIn.inRound l ((callsIn_wide.2 h).mono ?_)⟩
      intro e w'' he
      cases e <;> exact he
    case row => exact ⟨fun h => by (cases h), rows_round h⟩
  | halt x w' => cases x <;> simp only [Oper.upon] at h <;> simp only [Oper.uponIn] <;> exact h
/-- No operation of these is a defer statement. -/
def noDefer (ops : Array Oper) : Bool := ops.all fun o => match o.op with | .defer _ => false | _ => true
theorem noDefer_at (h : noDefer ops = true) {i : Nat} {o : Oper} (ho : ops[i]? = some o) : ∀ c, o.op ≠ .defer c := by
  intro c e
  have := Array.all_eq_true_iff_forall_mem.1 h o (Array.mem_of_getElem? ho)
  rw [e] at this
  simp at this
theorem wpAny_round (hd : noDefer ops = true) (hL : ¬ LetsOut Q) : ∀ (fuel : Nat) (listed : Array Bool) (a : Act) (w : World), wpAny P md ops Q fuel listed a w → wpAnyIn (Fence.wide.inRound l) n P md ops Q fuel listed a w
  | 0, _, _, _, h => h
  | fuel + 1, listed, a, w, h => by
    refine ⟨h.1, fun i hi => ?_⟩
    have h2 := h.2 i hi
    unfold wpOp at h2
    unfold wpOpIn
    cases ho : ops[i]? with
    | none =>
      simp only [ho] at h2
      exact wpAny_round hd hL fuel _ _ _ h2
    | some o =>
      simp only [ho] at h2 ⊢
      split
      · rename_i hw
        rw [if_pos hw] at h2
        rcases h2 with h2 | ⟨_, h3⟩
        · exact Oper.wpIn_mono (fun a w hh => wpAny_round hd hL fuel _ _ _ hh) (oper_round (noDefer_at hd ho) h2)
        · exact absurd h3 hL
      · rename_i hw
        rw [if_neg hw] at h2
        exact ⟨fun _ _ => trivial, wpAny_round hd hL fuel _ _ _ h2⟩
theorem wpIn_region_head {id : Nat} {a : Act} {w : World} {ll l₁ l₂ : List Oper} (m : Nat) (hm : P.follows .mixedOrders = true) (hd : noDefer ll.toArray = true) (hL : ¬ LetsOut Q) (h1 : ll.take m = l₁) (h2 : ll.drop m = l₂)
    (hB : (decide (l₁.length = m) && decide (0 < l₂.length) && Region.sinkB .any ll.toArray m && Region.chainB .any ll.toArray m && Region.headB ll.toArray m && Region.seqB .any ll.toArray l₂.length m (Array.replicate m true ++ Array.replicate l₂.length false)) = true)
    (h : wpAny P .any l₁.toArray (TailPost P ll Q l₂) l₁.toArray.size (Array.replicate l₁.toArray.size false) a { w with drawn := w.drawn + 1 }) : (Code.region id ll.toArray true).wpIn (Fence.wide.inRound l) n P Q a w := by
  have el : ll = l₁ ++ l₂ := by rw [← h1, ← h2, List.take_append_drop]
  clear h1 h2
  subst el
  simp only [Bool.and_eq_true, decide_eq_true_eq] at hB
  obtain ⟨⟨⟨⟨⟨hl, hn⟩, hs⟩, hc⟩, hh⟩, hq⟩ := hB
  subst hl
  refine wpIn_region_any hm (wpAny_round hd hL _ _ _ _ ?_)
  have inv0 : HeadInv .any (l₁ ++ l₂).toArray l₁.length (Array.replicate (l₁ ++ l₂).toArray.size false) :=
    ⟨by simp, fun j oj _ hl => (by rw [getD_replicate_false] at hl; cases hl), fun t _ ht => getD_in (by simpa using ht) (getD_replicate_false _ _)⟩
  have er : Array.replicate (l₁ ++ l₂).toArray.size false = Array.replicate l₁.length false ++ Array.replicate l₂.length false := by simp [Array.replicate_append_replicate]
  rw [er] at inv0 ⊢
  have := wpAny_head (P := P) (Q := Q) hs hc hn hh hq l₁.length (Array.replicate l₁.length false) a { w with drawn := w.drawn + 1 } (by simp) (by simp [unlisted]) inv0 (by simpa using h)
  simpa using this
theorem wpIn_head_held {id : Nat} {a : Act} {w : World} {ll l₁ l₂ : List Oper} (m : Nat) (hm : P.follows .mixedOrders = true) (hd : noDefer ll.toArray = true) (hL : ¬ LetsOut Q) (h1 : ll.take m = l₁) (h2 : ll.drop m = l₂)
    (hB : (decide (l₁.length = m) && decide (0 < l₂.length) && Region.sinkB .any ll.toArray m && Region.chainB .any ll.toArray m && Region.headB ll.toArray m && Region.seqB .any ll.toArray l₂.length m (Array.replicate m true ++ Array.replicate l₂.length false)) = true)
    (h : wpAnyH P .any l₁.toArray (TailPost P ll Q l₂) S l₁.toArray.size (Array.replicate l₁.toArray.size false) a w.drew) : (Code.region id ll.toArray true).wpIn (Fence.wide.inRound l) n P Q a w :=
  wpIn_region_head m hm hd hL h1 h2 hB (wpAny_of_held _ _ _ _ h)
end
end Go.Proofs.YtefnkednnnlhoaaGreatDoor
