/- Package store: commit where all is written. Conditions: those that each states. -/
import Derived.Test.YtefnkednnnlhoaaGreatDoorMBE
namespace Go.Proofs.YtefnkednnnlhoaaGreatDoor.Sr
open Go.ChangeShapes Go.WideShapes Go.ChangeAt Go.RowKit Go.Deep Fr Di Ke Rk
set_option linter.unusedVariables false
set_option linter.unusedSimpArgs false

theorem src_sto {B : Nat} {S : Nat → Prop} {w w' : World} {lab lab' : Nat → Nat} {g : Nat} {K : Kn} (h : STo B S w w' lab lab' g K) {A : Option Addr} {n c : Nat} {l : List UInt8} (s : Src w A n c l)
    (hl : ∀ b o, A = some ⟨b, o, none⟩ → b < w.heap.size ∧ lab b = 0) (hS : ∀ b o, A = some ⟨b, o, none⟩ → ¬ S b) : Src w' A n c l := by
  refine ⟨⟨fun hp => ?_, s.len, s.cap, s.max⟩, s.none_⟩
  obtain ⟨b, o, e, hb, hc⟩ := s.lies hp
  refine ⟨b, o, e, Nat.lt_of_lt_of_le hb h.size, fun j hj => ?_⟩
  rw [World.cell?_of_block (w := w) (w' := w') (a := ⟨b, o + j, none⟩) (h.keep b hb (hl b o e).2 (hS b o e))]
  exact hc j hj
/-- The kernel behind the first i blocks written. -/
def wrN (K : Kn) (tk : Nat → Int) (xs : Nat → List UInt8) : Nat → Kn
  | 0 => K
  | i + 1 => (wrK (wrN K tk xs i) (tk i) (xs i)).1
theorem wrN_small {K : Kn} {m : Nat} (h : K.Small m) (tk : Nat → Int) (xs : Nat → List UInt8) : ∀ i, (wrN K tk xs i).Small (m + i)
  | 0 => h
  | i + 1 => small_wr (wrN_small h tk xs i) _ _
theorem wrN_bare {K : Kn} (h : Bare K) (tk : Nat → Int) (xs : Nat → List UInt8) : ∀ i, Bare (wrN K tk xs i)
  | 0 => h
  | i + 1 => (wrN_bare h tk xs i).wr _ _
/-- Texts in memory: a row of slices, and each one's bytes. -/
def tv (pA : Nat → Option Addr) (pc : Nat → Nat) (xs : Nat → List UInt8) (n : Nat) : List Value := (List.range n).map fun i => .slice (pA i) (xs i).length (pc i)
theorem tv_get (pA : Nat → Option Addr) (pc : Nat → Nat) (xs : Nat → List UInt8) (n i : Nat) (h : i < n) : (tv pA pc xs n)[i]? = some (.slice (pA i) (xs i).length (pc i)) := by simp [tv, h]
theorem tv_length (pA : Nat → Option Addr) (pc : Nat → Nat) (xs : Nat → List UInt8) (n : Nat) : (tv pA pc xs n).length = n := by simp [tv]
structure TxAt (w : World) (lab : Nat → Nat) (X : Option Addr) (cx : Nat) (pA : Nat → Option Addr) (pc : Nat → Nat) (xs : Nat → List UInt8) (n : Nat) : Prop where
  row : RowG w 1 X n cx (tv pA pc xs n)
  own : Own0 w lab X n
  src : ∀ i, i < n → Src w (pA i) (xs i).length (pc i) (xs i)
  lb : ∀ i, i < n → ∀ b o, pA i = some ⟨b, o, none⟩ → b < w.heap.size ∧ lab b = 0
theorem TxAt.sto {B : Nat} {w w' : World} {lab lab' : Nat → Nat} {g : Nat} {K : Kn} {X : Option Addr} {cx n : Nat} {pA : Nat → Option Addr} {pc : Nat → Nat} {xs : Nat → List UInt8} (t : TxAt w lab X cx pA pc xs n) (h : STo B (fun _ => False) w w' lab lab' g K) : TxAt w' lab' X cx pA pc xs n := by
  obtain ⟨r, o⟩ := h.row t.row t.own (fun _ _ h => h)
  exact ⟨r, o, fun i hi => src_sto h (t.src i hi) (t.lb i hi) (fun _ _ _ h => h), fun i hi b o e => ⟨Nat.lt_of_lt_of_le (t.lb i hi b o e).1 h.size, h.zero b (t.lb i hi b o e).1 (t.lb i hi b o e).2⟩⟩

theorem tree3 : (Tryz.prog.info? 52).map (·.size) = some 3 := by kernel_rfl
theorem STo.weakS {B : Nat} {w w' : World} {lab lab' : Nat → Nat} {g : Nat} {K : Kn} {S : Nat → Prop} (h : STo B (fun _ => False) w w' lab lab' g K) : STo B S w w' lab lab' g K := ⟨h.kb, h.below, h.size, h.zero, fun i hi h0 _ => h.keep i hi h0 id⟩

set_option maxRecDepth 100000 in
set_option maxHeartbeats 4000000 in
theorem commit_ok {B : Nat} {w : World} {lab : Nat → Nat} {gs g : Nat} {K : Kn} (h : KB B w lab g K) (hB : B ≤ w.heap.size) (m : Nat) (sm : K.Small m) (bk : Bare K) (u0 u1 u2 u4 : Value) (hs : Blk w gs 54 #[u0, u1, u2, .pointer (some ⟨g, 0, none⟩), u4]) (lg : lab gs = 0) (hgs : B ≤ gs)
    (gn : Nat) (D A T X : Option Addr) (cd nf cf ct cx n : Nat) (ds ts : List Int) (pA : Nat → Option Addr) (pc : Nat → Nat) (xs : Nat → List UInt8)
    (hd : RowG w 1 D ds.length cd (In.vi ds)) (od : Own0 w lab D ds.length) (ht : RowG w 1 T ts.length ct (In.vi ts)) (ot : Own0 w lab T ts.length) (hx : TxAt w lab X cx pA pc xs n) (hn : n ≤ ts.length) (hn2 : n ≤ 1000) (hm : m + n + 3 < 1000000)
    (hr : In.rootMay gn ds = true) (ok : ∀ i, i < n → (wrK (wrN K (fun i => ts.getD i 0) xs i) (ts.getD i 0) (xs i)).2 = 0)
    (k1 : (syK (wrN K (fun i => ts.getD i 0) xs n)).2 = 0) (k2 : (wrK (syK (wrN K (fun i => ts.getD i 0) xs n)).1 ((gn % 2 : Nat) : Int) (In.sealL (In.rootT gn ds))).2 = 0)
    (k3 : (syK (wrK (syK (wrN K (fun i => ts.getD i 0) xs n)).1 ((gn % 2 : Nat) : Int) (In.sealL (In.rootT gn ds))).1).2 = 0) :
    Calls Tryz.prog 23 #[.pointer (some ⟨gs, 0, none⟩), .agg #[.int .i64 (gn : Int), .slice D ds.length cd, .slice A nf cf, .slice T ts.length ct, .slice X n cx]] w fun e w' => e = .returned (.int .i64 0) ∧ ∃ lab',
      STo B (fun k => k = gs) w w' lab lab' g (syK (wrK (syK (wrN K (fun i => ts.getD i 0) xs n)).1 ((gn % 2 : Nat) : Int) (In.sealL (In.rootT gn ds))).1).1 ∧ Blk w' gs 54 #[.int .i64 (gn : Int), .slice D ds.length cd, .slice A nf cf, .pointer (some ⟨g, 0, none⟩), u4] := by
  have SN := Lib.hid (fun i => wrN_small sm (fun i => ts.getD i 0) xs i)
  have BN := Lib.hid (fun i => wrN_bare bk (fun i => ts.getD i 0) xs i)
  have OK := Lib.hid ok
  have HB := Lib.hid hB
  have GE := Lib.hid hgs
  have HR := Lib.hid hr
  have HN := Lib.hid hn
  have b1 : Below w.heap.size w (w.alloc (.cells #[.int .i64 (gn : Int), .slice D ds.length cd, .slice A nf cf, .slice T ts.length ct, .slice X n cx] 69)) := (Below.refl _ w).alloc (Nat.le_refl _) _
  have T1 := Lib.hid (STo.fresh h hB (fun _ => False) b1)
  have K1 := Lib.hid (Blk.new w 69 #[.int .i64 (gn : Int), .slice D ds.length cd, .slice A nf cf, .slice T ts.length ct, .slice X n cx])
  have L1 := Lib.hid (show lab w.heap.size = 0 from h.lab0 (Nat.le_refl _))
  have Z1 := Lib.hid (show Blk (w.alloc (.cells #[.int .i64 (gn : Int), .slice D ds.length cd, .slice A nf cf, .slice T ts.length ct, .slice X n cx] 69)) gs 54 #[u0, u1, u2, .pointer (some ⟨g, 0, none⟩), u4] ∧ lab gs = 0 from ⟨hs.older (older_below b1), lg⟩)
  have D1 := Lib.hid (T1.out.row hd od (fun _ _ h => h))
  have R1 := Lib.hid (T1.out.row ht ot (fun _ _ h => h))
  have X1 := Lib.hid (hx.sto T1.out)
  have GB := Lib.hid (Nat.le_refl w.heap.size)
  have GL := Lib.hid (show gs < w.heap.size from hs.lt)
  have K1s := Lib.hid k1
  have K2s := Lib.hid k2
  have K3s := Lib.hid k3
  clear h hB sm bk hs lg hgs hd od ht ot hx hr ok b1 k1 k2 k3
  obtain ⟨nt, hnt⟩ : ∃ nt, ts.length = nt := ⟨_, rfl⟩
  rw [hnt] at hn HN K1 Z1 T1 R1 X1 D1 ⊢
  obtain ⟨tk, htk⟩ : ∃ tk, (fun i => ts.getD i 0) = tk := ⟨_, rfl⟩
  have TK := Lib.hid (show ∀ i, tk i = ts.getD i 0 from fun i => by rw [← htk])
  rw [htk] at SN BN K1s K2s K3s ⊢
  replace OK := Lib.hid (show ∀ i, i < n → (wrK (wrN K tk xs i) (tk i) (xs i)).2 = 0 from fun i hi => by rw [← htk]; exact OK.out i hi)
  clear htk
  obtain ⟨rt, hrt⟩ : ∃ rt, In.sealL (In.rootT gn ds) = rt := ⟨_, rfl⟩
  have RT := Lib.hid hrt
  rw [hrt] at K2s K3s ⊢
  clear hrt
  go_enter Tryz.func23, Tryz.ntmps23
  have e4 := (K1.out.cell 4).trans (show _ = some (.slice X n cx) from rfl)
  go_wp2
  go_step3
  obtain ⟨gb, hgb⟩ : ∃ gb, w.heap.size = gb := ⟨_, rfl⟩
  rw [hgb] at K1 L1 GB GL HB e4
  generalize w.alloc (.cells #[.int .i64 (gn : Int), .slice D ds.length cd, .slice A nf cf, .slice T nt ct, .slice X n cx] 69) = w2 at *
  rw [hgb]
  have HG := Lib.hid hgb
  clear hgb
  go_wp2
  go_loopw [10] (fun iv wr => ∃ (j : Nat) (lab1 : Nat → Nat), j ≤ n ∧ iv = .int .i64 (j : Int) ∧ Hid (STo B (fun _ => False) w wr lab lab1 g (wrN K tk xs j)) ∧ Hid (Blk wr gb 69 #[.int .i64 (gn : Int), .slice D ds.length cd, .slice A nf cf, .slice T nt ct, .slice X n cx] ∧ lab1 gb = 0) ∧
    Hid (Blk wr gs 54 #[u0, u1, u2, .pointer (some ⟨g, 0, none⟩), u4] ∧ lab1 gs = 0) ∧ Hid (RowG wr 1 D ds.length cd (In.vi ds) ∧ Own0 wr lab1 D ds.length) ∧ Hid (RowG wr 1 T nt ct (In.vi ts) ∧ Own0 wr lab1 T nt) ∧ Hid (TxAt wr lab1 X cx pA pc xs n)) (fun iv _ => n - (intOf iv).toNat)
  case atStart => exact ⟨0, lab, Nat.zero_le _, rfl, T1, Lib.hid ⟨K1.out, L1.out⟩, Z1, D1, R1, X1⟩
  case round =>
    obtain ⟨j, lab1, hj, rfl, TT, KB1, ZB, DR, TR, XT⟩ := hrel
    clear T1 K1 Z1 D1 R1 X1 e4
    by_cases hlt : j < n
    · have hlt' : (j : Int) < (n : Int) := by omega
      have j0 : (0 : Int) ≤ (j : Int) := by omega
      have jn : (j : Int) < (nt : Int) := by omega
      have xj := IntWalk.i64_in ((j : Int) + 1) (by omega)
      obtain ⟨bx, ox, rfl, hbx, xc⟩ := XT.out.row.cell (j := j) (by rw [tv_length]; exact hlt)
      have xg := tv_get pA pc xs n j hlt
      rw [List.getElem?_eq_getElem (by rw [tv_length]; exact hlt)] at xg
      injection xg with xg
      rw [xg] at xc
      obtain ⟨bt, ot, rfl, hbt, tc⟩ := TR.out.1.cell (j := j) (by simp [In.vi]; omega)
      have tg : (In.vi ts)[j]'(by simp [In.vi]; omega) = .int .i64 (tk j) := by simp [In.vi, TK.out]; rw [List.getElem?_eq_getElem (by omega)]; rfl
      rw [tg] at tc
      have HBw := Lib.hid (show B ≤ w.heap.size from by rw [HG.out]; exact HB.out)
      have TD := Lib.hid (TT.out.new HBw.out ((Below.refl wr.heap.size wr).drew))
      have KD := Lib.hid (show Blk wr.drew gb 69 #[.int .i64 (gn : Int), .slice D ds.length cd, .slice A nf cf, .slice (some ⟨bt, ot, none⟩) nt ct, .slice (some ⟨bx, ox, none⟩) n cx] ∧ lab1 gb = 0 from KB1.out)
      have ZD := Lib.hid (show Blk wr.drew gs 54 #[u0, u1, u2, .pointer (some ⟨g, 0, none⟩), u4] ∧ lab1 gs = 0 from ZB.out)
      have DD := Lib.hid (show RowG wr.drew 1 D ds.length cd (In.vi ds) ∧ Own0 wr.drew lab1 D ds.length from ⟨DR.out.1.new ((Below.refl wr.heap.size wr).drew), DR.out.2⟩)
      have TRD := Lib.hid (show RowG wr.drew 1 (some ⟨bt, ot, none⟩) nt ct (In.vi ts) ∧ Own0 wr.drew lab1 (some ⟨bt, ot, none⟩) nt from ⟨TR.out.1.new ((Below.refl wr.heap.size wr).drew), TR.out.2⟩)
      have XD := Lib.hid (show TxAt wr.drew lab1 (some ⟨bx, ox, none⟩) cx pA pc xs n from ⟨XT.out.row.new ((Below.refl wr.heap.size wr).drew), XT.out.own, fun i hi => (XT.out.src i hi).drewN 1, XT.out.lb⟩)
      have WA := Lib.hid (write_any TD.out.kb (Nat.le_trans HBw.out TD.out.size) (m + j) (SN.out j) (by omega) (tk j) (pA j) (pc j) (xs j) (XD.out.src j hlt) (XD.out.lb j hlt))
      have O1 := OK.out j hlt
      rw [O1] at WA
      have WN := Lib.hid (show (wrK (wrN K tk xs j) (tk j) (xs j)).1 = wrN K tk xs (j + 1) from rfl)
      rw [WN.out] at WA
      have z3 := (ZB.out.1.cell 3).trans (show _ = some (.pointer (some ⟨g, 0, none⟩)) from rfl)
      have y3 := (KB1.out.1.cell 3).trans (show _ = some (.slice (some ⟨bt, ot, none⟩) nt ct) from rfl)
      generalize tk j = tj at *
      generalize pA j = pa at *
      generalize pc j = pk at *
      generalize xs j = x at *
      clear xg tg WN O1 TT DR KB1 ZB TR XT
      go_wp2
      have hS := Lib.hid (show wr.drew.cell? ⟨gs, 3, none⟩ = some (.pointer (some ⟨g, 0, none⟩)) ∧ wr.drew.cell? ⟨gb, 3, none⟩ = some (.slice (some ⟨bt, ot, none⟩) nt ct) ∧ wr.drew.cell? ⟨bt, ot + j, none⟩ = some (.int .i64 tj) from ⟨z3, y3, tc⟩)
      refine wp_head_held (S := fun w' => Hid (w'.cell? ⟨gs, 3, none⟩ = some (.pointer (some ⟨g, 0, none⟩)) ∧ w'.cell? ⟨gb, 3, none⟩ = some (.slice (some ⟨bt, ot, none⟩) nt ct) ∧ w'.cell? ⟨bt, ot + j, none⟩ = some (.int .i64 tj))) 10 (by kernel_rfl) rfl rfl (by kernel_rfl) ?_
      simp only [List.take_succ_cons, List.take_zero, List.drop_succ_cons, List.drop_zero]
      refine held_take (i := 0) (d := (some 15)) (v := ?_) rfl rfl (by kernel_rfl) (by kernel_rfl) (by kernel_rfl) (fun _ _ _ h => h) (by rfl) ?_ hS ?_
      rotate_left
      · intro w' hSw; (try dsimp only at hSw); go_simp <;> with_reducible rfl
      simp only [Act.put, List.setIfInBounds_toArray, List.set_cons_zero, List.set_cons_succ]
      refine held_take (i := 1) (d := (some 16)) (v := ?_) rfl rfl (by kernel_rfl) (by kernel_rfl) (by kernel_rfl) (fun _ _ _ h => h) (by rfl) ?_ hS ?_
      rotate_left
      · intro w' hSw; (try dsimp only at hSw); go_simp <;> with_reducible rfl
      simp only [Act.put, List.setIfInBounds_toArray, List.set_cons_zero, List.set_cons_succ]
      refine held_take (i := 2) (d := (some 17)) (v := ?_) rfl rfl (by kernel_rfl) (by kernel_rfl) (by kernel_rfl) (fun _ _ _ h => h) (by rfl) ?_ hS ?_
      rotate_left
      · intro w' hSw; (try dsimp only at hSw); go_simp <;> with_reducible rfl
      simp only [Act.put, List.setIfInBounds_toArray, List.set_cons_zero, List.set_cons_succ]
      refine held_take (i := 3) (d := (some 18)) (v := ?_) rfl rfl (by kernel_rfl) (by kernel_rfl) (by kernel_rfl) (fun _ _ _ h => h) (by rfl) ?_ hS ?_
      rotate_left
      · intro w' hSw; obtain ⟨hc1, hc2, hc3⟩ := hSw.out; clear hSw; go_simp <;> with_reducible rfl
      simp only [Act.put, List.setIfInBounds_toArray, List.set_cons_zero, List.set_cons_succ]
      refine held_take (i := 4) (d := (some 19)) (v := ?_) rfl rfl (by kernel_rfl) (by kernel_rfl) (by kernel_rfl) (fun _ _ _ h => h) (by rfl) ?_ hS ?_
      rotate_left
      · intro w' hSw; (try dsimp only at hSw); go_simp <;> with_reducible rfl
      simp only [Act.put, List.setIfInBounds_toArray, List.set_cons_zero, List.set_cons_succ]
      refine held_take (i := 5) (d := (some 20)) (v := ?_) rfl rfl (by kernel_rfl) (by kernel_rfl) (by kernel_rfl) (fun _ _ _ h => h) (by rfl) ?_ hS ?_
      rotate_left
      · intro w' hSw; obtain ⟨hc1, hc2, hc3⟩ := hSw.out; clear hSw; go_simp <;> with_reducible rfl
      simp only [Act.put, List.setIfInBounds_toArray, List.set_cons_zero, List.set_cons_succ]
      refine held_take (i := 6) (d := (some 21)) (v := ?_) rfl rfl (by kernel_rfl) (by kernel_rfl) (by kernel_rfl) (fun _ _ _ h => h) (by rfl) ?_ hS ?_
      rotate_left
      · intro w' hSw; (try dsimp only at hSw); go_simp <;> with_reducible rfl
      simp only [Act.put, List.setIfInBounds_toArray, List.set_cons_zero, List.set_cons_succ]
      refine held_take (i := 7) (d := (some 22)) (v := ?_) rfl rfl (by kernel_rfl) (by kernel_rfl) (by kernel_rfl) (fun _ _ _ h => h) (by rfl) ?_ hS ?_
      rotate_left
      · intro w' hSw; (try dsimp only at hSw); go_simp <;> with_reducible rfl
      simp only [Act.put, List.setIfInBounds_toArray, List.set_cons_zero, List.set_cons_succ]
      refine held_take (i := 8) (d := (some 23)) (v := ?_) rfl rfl (by kernel_rfl) (by kernel_rfl) (by kernel_rfl) (fun _ _ _ h => h) (by rfl) ?_ hS ?_
      rotate_left
      · intro w' hSw; obtain ⟨hc1, hc2, hc3⟩ := hSw.out; clear hSw; go_simp <;> with_reducible rfl
      simp only [Act.put, List.setIfInBounds_toArray, List.set_cons_zero, List.set_cons_succ]
      refine held_take (i := 9) (d := (some 24)) (v := ?_) rfl rfl (by kernel_rfl) (by kernel_rfl) (by kernel_rfl) (fun _ _ _ h => h) (by rfl) ?_ hS ?_
      rotate_left
      · intro w' hSw; (try dsimp only at hSw); go_simp <;> with_reducible rfl
      simp only [Act.put, List.setIfInBounds_toArray, List.set_cons_zero, List.set_cons_succ]
      refine wpAnyH_done (by kernel_rfl) ?_ _
      show wpList _ _ _ _ _ _
      go_wp2_with fail
      refine WA.out.mono ?_; rintro e w3 ⟨rfl, lab2, k3⟩
      have KS := k3.sto (fun _ => False)
      have T3 := Lib.hid (TD.out.trans KS)
      have K3 := Lib.hid (show Blk w3 gb 69 #[.int .i64 (gn : Int), .slice D ds.length cd, .slice A nf cf, .slice (some ⟨bt, ot, none⟩) nt ct, .slice (some ⟨bx, ox, none⟩) n cx] ∧ lab2 gb = 0 from ⟨KS.blk KD.out.1 KD.out.2 id, KS.zero _ KD.out.1.lt KD.out.2⟩)
      have Z3 := Lib.hid (show Blk w3 gs 54 #[u0, u1, u2, .pointer (some ⟨g, 0, none⟩), u4] ∧ lab2 gs = 0 from ⟨KS.blk ZD.out.1 ZD.out.2 id, KS.zero _ ZD.out.1.lt ZD.out.2⟩)
      have D3 := Lib.hid (KS.row DD.out.1 DD.out.2 (fun _ _ h => h))
      have R3 := Lib.hid (KS.row TRD.out.1 TRD.out.2 (fun _ _ h => h))
      have X3 := Lib.hid (XD.out.sto KS)
      clear k3 KS TD KD ZD DD TRD XD WA z3 y3 tc xc
      go_wp2
      go_roundw
      case rel => exact ⟨j + 1, lab2, by omega, by go_num, T3, K3, Z3, D3, R3, X3⟩
      case measure => simp [intOf]; omega
    · have hlt' : ¬ (j : Int) < (n : Int) := by omega
      obtain rfl : j = n := by omega
      have HBw := Lib.hid (show B ≤ w.heap.size from by rw [HG.out]; exact HB.out)
      have z3 := (ZB.out.1.cell 3).trans (show _ = some (.pointer (some ⟨g, 0, none⟩)) from rfl)
      have SA := Lib.hid (sync_any TT.out.kb (Nat.le_trans HBw.out TT.out.size) (m + j) (SN.out j) (by omega))
      have SM1 := Lib.hid (small_sy (SN.out j))
      have BA1 := Lib.hid (BN.out j).sy
      rw [K1s.out] at SA
      have s1 := K1s.out
      obtain ⟨r1, hr1⟩ : ∃ r1, (syK (wrN K tk xs j)).1 = r1 := ⟨_, rfl⟩
      have HR1 := Lib.hid hr1
      rw [hr1] at SA SM1 BA1 K2s K3s
      clear hr1
      go_wp2_with fail
      refine SA.out.mono ?_; rintro e w3 ⟨rfl, lab2, k3⟩
      have KS := k3.sto (fun _ => False)
      have T3 := Lib.hid (TT.out.trans KS)
      have KB3 := Lib.hid (show Blk w3 gb 69 #[.int .i64 (gn : Int), .slice D ds.length cd, .slice A nf cf, .slice T nt ct, .slice X j cx] ∧ lab2 gb = 0 from ⟨KS.blk KB1.out.1 KB1.out.2 id, KS.zero _ KB1.out.1.lt KB1.out.2⟩)
      have Z3 := Lib.hid (show Blk w3 gs 54 #[u0, u1, u2, .pointer (some ⟨g, 0, none⟩), u4] ∧ lab2 gs = 0 from ⟨KS.blk ZB.out.1 ZB.out.2 id, KS.zero _ ZB.out.1.lt ZB.out.2⟩)
      have D3 := Lib.hid (KS.row DR.out.1 DR.out.2 (fun _ _ h => h))
      clear k3 KS TT KB1 ZB DR TR XT SA z3
      have z3 := (Z3.out.1.cell 3).trans (show _ = some (.pointer (some ⟨g, 0, none⟩)) from rfl)
      have y0 := (KB3.out.1.cell 0).trans (show _ = some (.int .i64 (gn : Int)) from rfl)
      have y1 := (KB3.out.1.cell 1).trans (show _ = some (.slice D ds.length cd) from rfl)
      have TD := Lib.hid (T3.out.new HBw.out ((Below.refl w3.heap.size w3).drew))
      have KD := Lib.hid (show Blk w3.drew gb 69 #[.int .i64 (gn : Int), .slice D ds.length cd, .slice A nf cf, .slice T nt ct, .slice X j cx] ∧ lab2 gb = 0 from KB3.out)
      have ZD := Lib.hid (show Blk w3.drew gs 54 #[u0, u1, u2, .pointer (some ⟨g, 0, none⟩), u4] ∧ lab2 gs = 0 from Z3.out)
      have DD := Lib.hid (show RowG w3.drew 1 D ds.length cd (In.vi ds) from D3.out.1.new ((Below.refl w3.heap.size w3).drew))
      have WA := Lib.hid (writeRoot_any TD.out.kb (Nat.le_trans HBw.out TD.out.size) (m + j + 1) SM1.out (by omega) gn D cd ds DD.out HR.out)
      rw [RT.out, K2s.out] at WA
      have SM2 := Lib.hid (small_wr SM1.out ((gn % 2 : Nat) : Int) rt)
      have BA2 := Lib.hid (BA1.out.wr ((gn % 2 : Nat) : Int) rt)
      obtain ⟨r2, hr2⟩ : ∃ r2, (wrK r1 ((gn % 2 : Nat) : Int) rt).1 = r2 := ⟨_, rfl⟩
      have HR2 := Lib.hid hr2
      rw [hr2] at WA SM2 BA2 K3s
      clear hr2 T3 KB3 Z3 D3
      go_wp2
      have hS := Lib.hid (show w3.drew.cell? ⟨gs, 3, none⟩ = some (.pointer (some ⟨g, 0, none⟩)) ∧ w3.drew.cell? ⟨gb, 0, none⟩ = some (.int .i64 (gn : Int)) ∧ w3.drew.cell? ⟨gb, 1, none⟩ = some (.slice D ds.length cd) from ⟨z3, y0, y1⟩)
      refine wp_head_held (S := fun w' => Hid (w'.cell? ⟨gs, 3, none⟩ = some (.pointer (some ⟨g, 0, none⟩)) ∧ w'.cell? ⟨gb, 0, none⟩ = some (.int .i64 (gn : Int)) ∧ w'.cell? ⟨gb, 1, none⟩ = some (.slice D ds.length cd))) 7 (by kernel_rfl) rfl rfl (by kernel_rfl) ?_
      simp only [List.take_succ_cons, List.take_zero, List.drop_succ_cons, List.drop_zero]
      refine held_take (i := 0) (d := (some 34)) (v := ?_) rfl rfl (by kernel_rfl) (by kernel_rfl) (by kernel_rfl) (fun _ _ _ h => h) (by rfl) ?_ hS ?_
      rotate_left
      · intro w' hSw; (try dsimp only at hSw); go_simp <;> with_reducible rfl
      simp only [Act.put, List.setIfInBounds_toArray, List.set_cons_zero, List.set_cons_succ]
      refine held_take (i := 1) (d := (some 35)) (v := ?_) rfl rfl (by kernel_rfl) (by kernel_rfl) (by kernel_rfl) (fun _ _ _ h => h) (by rfl) ?_ hS ?_
      rotate_left
      · intro w' hSw; (try dsimp only at hSw); go_simp <;> with_reducible rfl
      simp only [Act.put, List.setIfInBounds_toArray, List.set_cons_zero, List.set_cons_succ]
      refine held_take (i := 2) (d := (some 36)) (v := ?_) rfl rfl (by kernel_rfl) (by kernel_rfl) (by kernel_rfl) (fun _ _ _ h => h) (by rfl) ?_ hS ?_
      rotate_left
      · intro w' hSw; (try dsimp only at hSw); go_simp <;> with_reducible rfl
      simp only [Act.put, List.setIfInBounds_toArray, List.set_cons_zero, List.set_cons_succ]
      refine held_take (i := 3) (d := (some 37)) (v := ?_) rfl rfl (by kernel_rfl) (by kernel_rfl) (by kernel_rfl) (fun _ _ _ h => h) (by rfl) ?_ hS ?_
      rotate_left
      · intro w' hSw; obtain ⟨hc1, hc2, hc3⟩ := hSw.out; clear hSw; go_simp <;> with_reducible rfl
      simp only [Act.put, List.setIfInBounds_toArray, List.set_cons_zero, List.set_cons_succ]
      refine held_take (i := 4) (d := (some 38)) (v := ?_) rfl rfl (by kernel_rfl) (by kernel_rfl) (by kernel_rfl) (fun _ _ _ h => h) (by rfl) ?_ hS ?_
      rotate_left
      · intro w' hSw; (try dsimp only at hSw); go_simp <;> with_reducible rfl
      simp only [Act.put, List.setIfInBounds_toArray, List.set_cons_zero, List.set_cons_succ]
      refine held_take (i := 5) (d := (some 39)) (v := ?_) rfl rfl (by kernel_rfl) (by kernel_rfl) (by kernel_rfl) (fun _ _ _ h => h) (by rfl) ?_ hS ?_
      rotate_left
      · intro w' hSw; (try dsimp only at hSw); go_simp <;> with_reducible rfl
      simp only [Act.put, List.setIfInBounds_toArray, List.set_cons_zero, List.set_cons_succ]
      refine held_take (i := 6) (d := (some 40)) (v := ?_) rfl rfl (by kernel_rfl) (by kernel_rfl) (by kernel_rfl) (fun _ _ _ h => h) (by rfl) ?_ hS ?_
      rotate_left
      · intro w' hSw; obtain ⟨hc1, hc2, hc3⟩ := hSw.out; clear hSw; go_simp <;> with_reducible rfl
      simp only [Act.put, List.setIfInBounds_toArray, List.set_cons_zero, List.set_cons_succ]
      refine wpAnyH_done (by kernel_rfl) ?_ _
      show wpList _ _ _ _ _ _
      go_wp2_with fail
      refine WA.out.mono ?_; rintro e w4 ⟨rfl, lab3, k4⟩
      have KS := k4.sto (fun _ => False)
      have T4 := Lib.hid (TD.out.trans KS)
      have K4 := Lib.hid (show Blk w4 gb 69 #[.int .i64 (gn : Int), .slice D ds.length cd, .slice A nf cf, .slice T nt ct, .slice X j cx] ∧ lab3 gb = 0 from ⟨KS.blk KD.out.1 KD.out.2 id, KS.zero _ KD.out.1.lt KD.out.2⟩)
      have Z4 := Lib.hid (show Blk w4 gs 54 #[u0, u1, u2, .pointer (some ⟨g, 0, none⟩), u4] ∧ lab3 gs = 0 from ⟨KS.blk ZD.out.1 ZD.out.2 id, KS.zero _ ZD.out.1.lt ZD.out.2⟩)
      clear k4 KS TD KD ZD DD WA z3 y0 y1
      have z3 := (Z4.out.1.cell 3).trans (show _ = some (.pointer (some ⟨g, 0, none⟩)) from rfl)
      have SA := Lib.hid (sync_any T4.out.kb (Nat.le_trans HBw.out T4.out.size) (m + j + 1 + 1) SM2.out (by omega))
      rw [K3s.out] at SA
      have BA3 := Lib.hid BA2.out.sy
      go_wp2_with fail
      refine SA.out.mono ?_; rintro e w5 ⟨rfl, lab4, k5⟩
      have KS := k5.sto (fun _ => False)
      have T5 := Lib.hid (T4.out.trans KS)
      have K5 := Lib.hid (show Blk w5 gb 69 #[.int .i64 (gn : Int), .slice D ds.length cd, .slice A nf cf, .slice T nt ct, .slice X j cx] ∧ lab4 gb = 0 from ⟨KS.blk K4.out.1 K4.out.2 id, KS.zero _ K4.out.1.lt K4.out.2⟩)
      have Z5 := Lib.hid (show Blk w5 gs 54 #[u0, u1, u2, .pointer (some ⟨g, 0, none⟩), u4] ∧ lab4 gs = 0 from ⟨KS.blk Z4.out.1 Z4.out.2 id, KS.zero _ Z4.out.1.lt Z4.out.2⟩)
      clear k5 KS T4 K4 Z4 SA z3
      have y0 := (K5.out.1.cell 0).trans (show _ = some (.int .i64 (gn : Int)) from rfl)
      have y1 := (K5.out.1.cell 1).trans (show _ = some (.slice D ds.length cd) from rfl)
      have y2 := (K5.out.1.cell 2).trans (show _ = some (.slice A nf cf) from rfl)
      have hob : (#[.int .i64 (gn : Int), .slice D ds.length cd, .slice A nf cf] : Array Value).all (·.oneCell') = true := by simp [Value.oneCell']
      go_wp2_with (first
        | (refine wpList_store_at rfl 52 (.tmp 53) (.tmp 51) rfl gs 0 #[.int .i64 (gn : Int), .slice D ds.length cd, .slice A nf cf] rfl rfl 54 #[u0, u1, u2, .pointer (some ⟨g, 0, none⟩), u4] Z5.out.1 tree3 (by show 0 + 3 ≤ 5; omega) hob ?_; refine Hid.out ?_)
        | fail)
      unfold Hid
      have ec : (Array.toList #[u0, u1, u2, Value.pointer (some ⟨g, 0, none⟩), u4]).take 0 ++ (Array.toList #[Value.int .i64 (gn : Int), .slice D ds.length cd, .slice A nf cf]) ++ (Array.toList #[u0, u1, u2, Value.pointer (some ⟨g, 0, none⟩), u4]).drop (0 + 3) = [.int .i64 (gn : Int), .slice D ds.length cd, .slice A nf cf, .pointer (some ⟨g, 0, none⟩), u4] := rfl
      have KX := Lib.hid (show (w5.setRow gs ((Array.toList #[u0, u1, u2, Value.pointer (some ⟨g, 0, none⟩), u4]).take 0 ++ (Array.toList #[Value.int .i64 (gn : Int), .slice D ds.length cd, .slice A nf cf]) ++ (Array.toList #[u0, u1, u2, Value.pointer (some ⟨g, 0, none⟩), u4]).drop (0 + 3)).toArray) = w5.setRow gs #[.int .i64 (gn : Int), .slice D ds.length cd, .slice A nf cf, .pointer (some ⟨g, 0, none⟩), u4] from by rw [ec])
      have KY := Chg.setRow w5 (g := gs) (S := fun k => k = gs) #[.int .i64 (gn : Int), .slice D ds.length cd, .slice A nf cf, .pointer (some ⟨g, 0, none⟩), u4] rfl
      have T6 := Lib.hid ((T5.out.weakS (S := fun k => k = gs)).set BA3.out KY (.inl rfl) HBw.out GE.out Z5.out.2)
      have Z6 := Lib.hid (Z5.out.1.row #[.int .i64 (gn : Int), .slice D ds.length cd, .slice A nf cf, .pointer (some ⟨g, 0, none⟩), u4])
      clear KY ec hob T5 Z5 K5 y0 y1 y2
      go_wp2
      rw [HR1.out, HR2.out]
      go_ret
      exact ⟨rfl, lab4, T6.out, Z6.out⟩
end Go.Proofs.YtefnkednnnlhoaaGreatDoor.Sr
