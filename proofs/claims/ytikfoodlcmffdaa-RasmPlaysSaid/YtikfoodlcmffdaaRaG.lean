/- The document's buffer of layer 19: Put. Conditions: those that each states. -/
import Derived.Test.YtikfoodlcmffdaaRaE
namespace Go.Proofs.Ytikfoodlcmffdaa.Ra
open Go.ChangeShapes Go.WideShapes Go.ChangeAt Go.RowKit Go.Deep Rk
set_option linter.unusedVariables false
set_option linter.unusedSimpArgs false

theorem row_set {w : World} {B g c : Nat} {E : TypeId} {xs : List Value} (h : Row w B E (some ⟨g, 0, none⟩) c xs) (j : Nat) (v : Value) : Row (w.setCell ⟨g, j, none⟩ v) B E (some ⟨g, 0, none⟩) c (xs.set j v) := by
  refine ⟨?_⟩
  have := (h.own.stored j v).1
  rw [List.length_set]
  exact this
theorem ev_set (xs : Bs) (k : Nat) (c : UInt8) : (ev xs).set k (.int .i64 (c.toNat : Int)) = ev (xs.set k (some c)) := by
  unfold ev
  rw [List.map_set]
  rfl
theorem far_put (xs : Bs) (d : Int) (b : List UInt8) (h : xs.length < d ∨ d + b.length < 0) : putR xs d b = xs := by
  apply List.ext_getElem (putR_length _ _ _)
  intro k h1 h2
  rw [putR_at _ _ _ _ h2]
  unfold cell1
  split
  · rw [List.getElem?_eq_none (by omega)]; cases xs[k] <;> rfl
  · rfl
theorem put_nil' (xs : Bs) (d : Int) : putR xs d [] = xs := by
  apply List.ext_getElem (putR_length _ _ _)
  intro k h1 h2
  rw [putR_at _ _ _ _ h2]
  unfold cell1
  split
  · rw [List.getElem?_eq_none (by simp)]; cases xs[k] <;> rfl
  · rfl
theorem put_step_at (xs : Bs) (d : Int) (b : List UInt8) (i k : Nat) (hk : k < xs.length) : (putR xs d (b.take i))[k]'(by rw [putR_length]; exact hk) = if d ≤ k ∧ (k : Int) - d < i then xs[k].or (b[((k : Int) - d).toNat]?) else xs[k] := by
  rw [putR_at _ _ _ _ hk]
  unfold cell1
  by_cases h1 : d ≤ k
  · rw [if_pos h1, List.getElem?_take]
    by_cases h2 : (k : Int) - d < i
    · rw [if_pos (show ((k : Int) - d).toNat < i from by omega), if_pos ⟨h1, h2⟩]
    · rw [if_neg (show ¬ ((k : Int) - d).toNat < i from by omega), if_neg (fun h => h2 h.2)]
      cases xs[k] <;> rfl
  · rw [if_neg h1, if_neg (fun h => h1 h.1)]
/-- One byte more: nothing turns where its place has one or is none of the buffer's. -/
theorem put_step_no (xs : Bs) (d : Int) (b : List UInt8) (i : Nat) (h : d + i < 0 ∨ (xs.length : Int) ≤ d + i ∨ ∃ k : Nat, ∃ hk : k < xs.length, (k : Int) = d + i ∧ xs[k].isSome = true) : putR xs d (b.take (i + 1)) = putR xs d (b.take i) := by
  apply List.ext_getElem (by rw [putR_length, putR_length])
  intro k h1 h2
  have hk : k < xs.length := by rw [putR_length] at h2; exact h2
  rw [put_step_at _ _ _ _ _ hk, put_step_at _ _ _ _ _ hk]
  by_cases e : (k : Int) - d = i
  · rcases h with h | h | ⟨k', hk', e', hs⟩
    · omega
    · omega
    · obtain rfl : k' = k := by omega
      rw [if_pos (by omega), if_neg (by omega)]
      cases hx : xs[k'] with
      | none => rw [hx] at hs; cases hs
      | some c => rfl
  · by_cases h3 : d ≤ k ∧ (k : Int) - d < i
    · rw [if_pos (by omega), if_pos h3]
    · rw [if_neg (by omega), if_neg h3]
theorem put_step_yes (xs : Bs) (d : Int) (b : List UInt8) (i k : Nat) (hk : k < xs.length) (e : (k : Int) = d + i) (hi : i < b.length) (hx : xs[k] = none) : putR xs d (b.take (i + 1)) = (putR xs d (b.take i)).set k (some b[i]) ∧ held (putR xs d (b.take (i + 1))) = held (putR xs d (b.take i)) + 1 := by
  have hs : (putR xs d (b.take i))[k]'(by rw [putR_length]; exact hk) = none := by rw [put_step_at _ _ _ _ _ hk, if_neg (by omega), hx]
  have e1 : putR xs d (b.take (i + 1)) = (putR xs d (b.take i)).set k (some b[i]) := by
    apply List.ext_getElem (by rw [List.length_set, putR_length, putR_length])
    intro k' h1 h2
    have hk' : k' < xs.length := by rw [putR_length] at h1; exact h1
    rw [put_step_at _ _ _ _ _ hk', List.getElem_set]
    by_cases e2 : k = k'
    · subst e2
      rw [if_pos rfl, if_pos (by omega), show ((k : Int) - d).toNat = i from by omega, List.getElem?_eq_getElem hi, hx]
      rfl
    · rw [if_neg e2, put_step_at _ _ _ _ _ hk']
      by_cases h3 : d ≤ k' ∧ (k' : Int) - d < i
      · rw [if_pos (by omega), if_pos h3]
      · rw [if_neg (by omega), if_neg h3]
  refine ⟨e1, ?_⟩
  rw [e1]
  exact held_set _ _ (by rw [putR_length]; exact hk) _ hs

set_option maxRecDepth 100000 in
set_option maxHeartbeats 2000000 in
theorem refPut_any {w : World} {R N : Nat} {A : Option Addr} {c : Nat} {xs : Bs} (h : RowG w 1 A R c (ev xs)) (hx : xs.length = R) (r1 : 1 ≤ R) (hR : R ≤ 300) (hN : N ≤ 1000000) (a : Int) (ha : -1099511627776 ≤ a ∧ a ≤ 1099511627776) (S : ByteArray) (hS : S.size ≤ 3000) :
    Calls Try.prog 13 #[.agg (dbV R N A c), .int .i64 a, .string S] w fun e w' => ∃ A' c', e = .returned (.tuple #[.agg (dbV R N A' c'), .int .i64 ((held (putR xs (a - N) S.data.toList) : Int) - held xs)]) ∧ RowG w' 1 A' R c' (ev (putR xs (a - N) S.data.toList)) ∧ Below w.heap.size w w' ∧ ∀ x, A' = some x → w.heap.size ≤ x.block := by
  have B0 := Lib.hid ((((Below.refl w.heap.size w).alloc (Nat.le_refl _) (.cells (dbV R N A c) 31)).alloc (by simp) (.cells #[.int .i64 0, .int .i64 0, .slice none 0 0] 31)))
  have K3 := Lib.hid ((Blk.new w 31 (dbV R N A c)).alloc (.cells #[.int .i64 0, .int .i64 0, .slice none 0 0] 31))
  have K6 := Lib.hid (show Blk ((w.alloc (.cells (dbV R N A c) 31)).alloc (.cells #[.int .i64 0, .int .i64 0, .slice none 0 0] 31)) (w.heap.size + 1) 31 #[.int .i64 0, .int .i64 0, .slice none 0 0] from by
    have := Blk.new (w.alloc (.cells (dbV R N A c) 31)) 31 #[.int .i64 0, .int .i64 0, .slice none 0 0]
    simpa using this)
  have H0 := Lib.hid (h.new B0.out)
  have HX := Lib.hid hx
  obtain ⟨l, hl⟩ : ∃ l, S.data.toList = l := ⟨_, rfl⟩
  have LS := Lib.hid hl
  obtain ⟨n, hn⟩ : ∃ n, S.size = n := ⟨_, rfl⟩
  have LN := Lib.hid (show l.length = n from by rw [← hl, ← hn]; rfl)
  rw [hl]
  rw [hn] at hS
  obtain ⟨d, hd⟩ : ∃ d : Int, d = a - (N : Int) := ⟨_, rfl⟩
  rw [← hd]
  have D := Lib.hid hd
  have SB := Lib.hid (show ∀ i (hi : i < S.size) (hi' : i < l.length), S[i] = l[i] from by subst hl; intro i hi hi'; rfl)
  obtain ⟨ys, hys⟩ : ∃ ys, putR xs d l = ys := ⟨_, rfl⟩
  rw [hys]
  obtain ⟨v, hv⟩ : ∃ v : Int, (held ys : Int) - held xs = v := ⟨_, rfl⟩
  rw [hv]
  have YS := Lib.hid hys
  have VE := Lib.hid hv
  have YL := Lib.hid (show ys.length = R from by rw [← hys, putR_length, HX.out])
  clear h hx hl hd hys hv
  go_enter Try.func13, Try.ntmps13
  go_upto_region 1 with fail
  generalize (w.alloc (.cells (dbV R N A c) 31)).alloc (.cells #[.int .i64 0, .int .i64 0, .slice none 0 0] 31) = W at *
  obtain ⟨g3, hg3⟩ : ∃ g3, g3 = w.heap.size := ⟨_, rfl⟩
  rw [← hg3] at K3 K6 ⊢
  have G3 := Lib.hid hg3
  clear hg3
  have c2 := (K3.out.cell 2).trans (show _ = some (.slice A R c) from rfl)
  have S0 : g3 + 2 ≤ W.heap.size := by have := K6.out.lt; omega
  have hown : Row (W.alloc (.cells #[] 3)) (g3 + 2) 3 (some ⟨W.heap.size, 0, none⟩) 0 [] := ⟨World.ownsRow_lit (base := g3 + 2) (e := 3) (size := 1) W #[] 0 S0 (by decide) rfl⟩
  have HOWN := Lib.hid hown
  have N0 := Lib.hid ((Below.refl W.heap.size W).alloc (Nat.le_refl _) (.cells #[] 3))
  obtain ⟨ad, hA⟩ : ∃ ad : Addr, A = some ad := by
    obtain ⟨b, o, e, _⟩ := rg_at H0.out (i := 0) (by rw [HX.out]; exact r1)
    exact ⟨_, e⟩
  have ROW := Lib.hid (H0.out.new N0.out)
  have NEWS := Lib.hid (show ∀ j u, (ev xs)[j]? = some u → (W.alloc (.cells #[] 3)).cell? (ad.add j) = some u from by
    intro j u hu
    obtain ⟨hj, e⟩ := List.getElem?_eq_some_iff.1 hu
    obtain ⟨b, o, e1, _, hc⟩ := ROW.out.cell hj
    rw [hA] at e1
    cases e1
    have ea : (⟨b, o, none⟩ : Addr).add j = ⟨b, o + j, none⟩ := by unfold Addr.add; split <;> simp_all
    rw [ea, hc, e])
  have KK3 := Lib.hid (K3.out.older (older_below N0.out))
  have KK6 := Lib.hid (K6.out.older (older_below N0.out))
  have B1 := Lib.hid (B0.out.trans (N0.out.mono B0.out.size))
  have c2 := (KK3.out.cell 2).trans (show _ = some (.slice A R c) from rfl)
  have S1 := Lib.hid (show g3 + 2 ≤ (W.alloc (.cells #[] 3)).heap.size from Nat.le_trans S0 N0.out.size)
  clear hown K3 K6 H0 ROW B0
  subst hA
  go_wp2_with (at_builtin; refine Hid.out ?_)
  unfold Hid
  refine wpList_append_row rfl _ _ rfl Try.underlying29 (.int .i64 0) 8 rfl (by decide) int_info rfl HOWN.out S1.out ad R c (ev xs) rfl (by rw [ev_length, HX.out]) NEWS.out (ev_one xs) (by simp; omega) ?_
  intro A1 c1 w2 hr2 k2 _
  rw [List.nil_append] at *
  have hb0 : ∀ i, (Value.slice (some ⟨W.heap.size, 0, none⟩) ([] : List Value).length 0).ownBlock = some i → i = W.heap.size := fun i hi => by simpa [Value.ownBlock, eq_comm] using hi
  have J3 := Lib.hid (KK3.out.chg k2 (fun s => by have := hb0 _ s; have := N0.out.size; omega))
  have J6 := Lib.hid (KK6.out.chg k2 (fun s => by have := hb0 _ s; omega))
  have JB := Lib.hid (B1.out.trans (k2.below (B := w.heap.size) B1.out.size (fun i hi => by have := hb0 i hi; have := G3.out; omega)))
  clear HOWN NEWS KK3 KK6 B1 k2 hb0 c2 S1 N0 S0
  have XL : (ev xs).length = R := by rw [ev_length, HX.out]
  rw [XL]
  obtain ⟨g1, rfl⟩ : ∃ g1, A1 = some ⟨g1, 0, none⟩ := by
    obtain ⟨b, e, _⟩ := hr2.cell (j := 0) (by omega)
    exact ⟨b, e⟩
  have HR := Lib.hid hr2
  have HG1 := Lib.hid (show g3 + 2 ≤ g1 from (hr2.lt g1 rfl).1)
  clear hr2 XL
  go_wp2
  go_loopw [9, 10] (fun nv i wr => ∃ j : Nat, j ≤ n ∧ i = .int .i64 (j : Int) ∧ nv = .int .i64 ((held (putR xs d (l.take j)) : Int) - held xs) ∧ Hid (Row wr (g3 + 2) 3 (some ⟨g1, 0, none⟩) c1 (ev (putR xs d (l.take j)))) ∧ Hid (Blk wr g3 31 (dbV R N (some ad) c)) ∧ Hid (Blk wr (g3 + 1) 31 #[.int .i64 0, .int .i64 0, .slice none 0 0]) ∧ Hid (Below w.heap.size w wr)) (fun _ i _ => n - (intOf i).toNat)
  case atStart => exact ⟨0, Nat.zero_le _, rfl, by rw [List.take_zero, put_nil']; simp, by rw [List.take_zero, put_nil']; exact HR, J3, J6, JB⟩
  case round =>
    obtain ⟨j, hj, rfl, rfl, HR, J3, J6, JB⟩ := hrel
    by_cases hlt : j < n
    · have hlt' : (j : Int) < (n : Int) := by omega
      have c0 := (J3.out.cell 0).trans (show _ = some (.int .i64 (R : Int)) from rfl)
      have c1' := (J3.out.cell 1).trans (show _ = some (.int .i64 (N : Int)) from rfl)
      have x0 := IntWalk.i64_in ((N : Int) + (R : Int)) (by omega)
      have x1 := IntWalk.i64_in ((N : Int) - (n : Int)) (by omega)
      have hD := D.out
      by_cases hf1 : (N : Int) + R < a
      · have hE : putR xs d (l.take j) = putR xs d l := by rw [far_put _ _ _ (.inl (by rw [HX.out]; omega)), far_put _ _ _ (.inl (by rw [HX.out]; omega))]
        rw [YS.out] at hE
        rw [hE] at HR ⊢
        rw [VE.out]
        clear hE hD
        clear c0 c1'
        have c0 := (J3.out.cell 0).trans (show _ = some (.int .i64 (R : Int)) from rfl)
        have c1' := (J3.out.cell 1).trans (show _ = some (.int .i64 (N : Int)) from rfl)
        have XL : (ev ys).length = R := by rw [ev_length, YL.out]
        have RG := Lib.hid (show RowG wr 1 (some ⟨g1, 0, none⟩) R c1 (ev ys) from by have := row_rg HR.out; rw [XL] at this; exact this)
        have c0 := (J3.out.cell 0).trans (show _ = some (.int .i64 (R : Int)) from rfl)
        have c1' := (J3.out.cell 1).trans (show _ = some (.int .i64 (N : Int)) from rfl)
        clear XL HR
        go_wp2_with (first
          | (refine wpList_store_row rfl 31 (.tmp 6) (.tmp 73) rfl (g3 + 1) (dbV R N (some ⟨g1, 0, none⟩) c1) rfl rfl 31 _ J6.out db_info rfl (by simp [Value.oneCell']) ?_)
          | fail)
        refine bodyPost_ret (v := .tuple #[.agg (dbV R N (some ⟨g1, 0, none⟩) c1), .int .i64 v]) ?_ rfl ?_
        · exact results_cell_tmp Try.results13 _ _ (g3 + 1) 31 _ (0, 0) _ rfl (J6.out.row _) Try.underlying31 rfl db_info
        exact ⟨some ⟨g1, 0, none⟩, c1, rfl, RG.out.chg (Chg.setRow wr (g := g3 + 1) (S := fun k => k = g3 + 1) _ rfl) (fun x hx s => by cases hx; have s' : g1 = g3 + 1 := s; have := HG1.out; omega), below_setRow JB.out (by have := G3.out; omega) _, fun x hx => by cases hx; have := HG1.out; have := G3.out; show w.heap.size ≤ g1; omega⟩
      by_cases hf2 : a < (N : Int) - n
      · have hE : putR xs d (l.take j) = putR xs d l := by rw [far_put _ _ _ (.inr (by rw [List.length_take, LN.out]; omega)), far_put _ _ _ (.inr (by rw [LN.out]; omega))]
        rw [YS.out] at hE
        rw [hE] at HR ⊢
        rw [VE.out]
        clear hE hD
        have XL : (ev ys).length = R := by rw [ev_length, YL.out]
        have RG := Lib.hid (show RowG wr 1 (some ⟨g1, 0, none⟩) R c1 (ev ys) from by have := row_rg HR.out; rw [XL] at this; exact this)
        have c0 := (J3.out.cell 0).trans (show _ = some (.int .i64 (R : Int)) from rfl)
        have c1' := (J3.out.cell 1).trans (show _ = some (.int .i64 (N : Int)) from rfl)
        clear XL HR
        go_wp2_with (first
          | (refine wpList_store_row rfl 31 (.tmp 6) (.tmp 73) rfl (g3 + 1) (dbV R N (some ⟨g1, 0, none⟩) c1) rfl rfl 31 _ J6.out db_info rfl (by simp [Value.oneCell']) ?_)
          | fail)
        refine bodyPost_ret (v := .tuple #[.agg (dbV R N (some ⟨g1, 0, none⟩) c1), .int .i64 v]) ?_ rfl ?_
        · exact results_cell_tmp Try.results13 _ _ (g3 + 1) 31 _ (0, 0) _ rfl (J6.out.row _) Try.underlying31 rfl db_info
        exact ⟨some ⟨g1, 0, none⟩, c1, rfl, RG.out.chg (Chg.setRow wr (g := g3 + 1) (S := fun k => k = g3 + 1) _ rfl) (fun x hx s => by cases hx; have s' : g1 = g3 + 1 := s; have := HG1.out; omega), below_setRow JB.out (by have := G3.out; omega) _, fun x hx => by cases hx; have := HG1.out; have := G3.out; show w.heap.size ≤ g1; omega⟩
      have xa := IntWalk.i64_in (a + (j : Int)) (by omega)
      obtain ⟨kz, hkz⟩ : ∃ kz : Int, kz = a + (j : Int) - (N : Int) := ⟨_, rfl⟩
      have xk : IntKind.i64.wrap (a + (j : Int) - (N : Int)) = kz := by rw [IntWalk.i64_in _ (by omega), hkz]
      have xj := IntWalk.i64_in ((j : Int) + 1) (by omega)
      have hf1' : ¬ (N : Int) + R < a := hf1
      have hf2' : ¬ a < (N : Int) - n := hf2
      have KZ := Lib.hid (show kz = d + j from by omega)
      clear hkz hD hf1 hf2
      by_cases hk0 : kz < 0
      · have E := Lib.hid (put_step_no xs d l j (.inl (by have := KZ.out; omega)))
        have hk0' : decide ((0 : Int) ≤ kz) = false := decide_eq_false (by omega)
        go_wp2
        go_roundw
        case rel => exact ⟨j + 1, by omega, by go_num, by rw [E.out], by rw [E.out]; exact HR, J3, J6, JB⟩
        case measure => simp [intOf]; omega
      obtain ⟨k, rfl⟩ : ∃ k : Nat, kz = (k : Int) := ⟨kz.toNat, by omega⟩
      have k0 : (0 : Int) ≤ (k : Int) := by omega
      clear hk0
      by_cases hk1 : R ≤ k
      · have E := Lib.hid (put_step_no xs d l j (.inr (.inl (by have := KZ.out; rw [HX.out]; omega))))
        have hk1' : ¬ (k : Int) < (R : Int) := by omega
        go_wp2
        go_roundw
        case rel => exact ⟨j + 1, by omega, by go_num, by rw [E.out], by rw [E.out]; exact HR, J3, J6, JB⟩
        case measure => simp [intOf]; omega
      have hk1' : (k : Int) < (R : Int) := by omega
      have hkx : k < xs.length := by rw [HX.out]; omega
      have hkp : k < (putR xs d (l.take j)).length := by rw [putR_length]; exact hkx
      have XL : (ev (putR xs d (l.take j))).length = R := by rw [ev_length, putR_length, HX.out]
      have hc := HR.out.own.cellAt k (by rw [XL]; omega)
      have hv : (ev (putR xs d (l.take j)))[k]? = some (en xs[k]) := by
        rw [show (ev (putR xs d (l.take j)))[k]? = ((putR xs d (l.take j))[k]?).map en from by simp [ev], List.getElem?_eq_getElem hkp, put_step_at _ _ _ _ _ hkx, if_neg (by have := KZ.out; omega)]
        rfl
      rw [hv] at hc
      have fz := HR.out.own.frozenAt k
      cases hxk : xs[k] with
      | some cv =>
        have E := Lib.hid (put_step_no xs d l j (.inr (.inr ⟨k, hkx, KZ.out, by rw [hxk]; rfl⟩)))
        rw [hxk, show en (some cv) = .int .i64 (cv.toNat : Int) from rfl] at hc
        have hcv : decide ((cv.toNat : Int) < 0) = false := decide_eq_false (by omega)
        have hcv2 : ¬ (cv.toNat : Int) < 0 := by omega
        generalize (cv.toNat : Int) = cz at *
        clear hv hkp hxk XL
        go_wp2
        go_roundw
        case rel => exact ⟨j + 1, by omega, by go_num, by rw [E.out], by rw [E.out]; exact HR, J3, J6, JB⟩
        case measure => simp [intOf]; omega
      | none =>
        have hjl : j < l.length := by rw [LN.out]; exact hlt
        obtain ⟨E1, E2⟩ := put_step_yes xs d l j k hkx KZ.out hjl hxk
        have EE1 := Lib.hid E1
        have EE2 := Lib.hid E2
        rw [hxk, show en none = .int .i64 (-1) from rfl] at hc
        have hjS : j < S.size := by omega
        have SE := Lib.hid (SB.out j hjS hjl)
        have RS := Lib.hid (row_set HR.out k (.int .i64 (l[j].toNat : Int)))
        rw [ev_set] at RS
        have KS := Lib.hid (Chg.set wr (g := g1) (S := fun k => k = g1) k (.int .i64 (l[j].toNat : Int)) rfl)
        have M3 := Lib.hid (J3.out.chg KS.out (by have := HG1.out; omega))
        have M6 := Lib.hid (J6.out.chg KS.out (by have := HG1.out; omega))
        have MB := Lib.hid (JB.out.trans (KS.out.below (B := w.heap.size) JB.out.size (fun i hi => by have hi' : i = g1 := hi; have := HG1.out; have := G3.out; omega)))
        have hHb := Lib.hid (show held (putR xs d (l.take j)) ≤ R ∧ held xs ≤ held (putR xs d (l.take j)) from ⟨by have := held_le (putR xs d (l.take j)); rw [putR_length, HX.out] at this; exact this, by have := held_to_le xs d (l.take j) xs.length (Nat.le_refl _); exact this⟩)
        have xn : IntKind.i64.wrap ((held (putR xs d (l.take j)) : Int) - held xs + 1) = (held (putR xs d (l.take j)) : Int) - held xs + 1 := IntWalk.i64_in _ (by have := hHb.out; omega)
        have hub : (l[j].toNat : Int) ≤ 255 := by have := UInt8.toNat_lt l[j]; omega
        have xu := IntWalk.i64_in (l[j].toNat : Int) (by omega)
        have SX : (S[j]'hjS) = l[j] := SE.out
        clear hv hkp hxk XL E1 E2 KS
        go_wp2
        go_roundw
        case rel => exact ⟨j + 1, by omega, by go_num, by rw [EE2.out]; congr 1; omega, by rw [EE1.out]; exact RS, M3, M6, MB⟩
        case measure => simp [intOf]; omega
    · have hlt' : ¬ (j : Int) < (n : Int) := by omega
      rw [show l.take j = l from List.take_of_length_le (by rw [LN.out]; omega), YS.out] at HR ⊢
      rw [VE.out]
      have XL : (ev ys).length = R := by rw [ev_length, YL.out]
      have RG := Lib.hid (show RowG wr 1 (some ⟨g1, 0, none⟩) R c1 (ev ys) from by have := row_rg HR.out; rw [XL] at this; exact this)
      have c0 := (J3.out.cell 0).trans (show _ = some (.int .i64 (R : Int)) from rfl)
      have c1' := (J3.out.cell 1).trans (show _ = some (.int .i64 (N : Int)) from rfl)
      clear XL HR
      go_wp2_with (first
        | (refine wpList_store_row rfl 31 (.tmp 6) (.tmp 73) rfl (g3 + 1) (dbV R N (some ⟨g1, 0, none⟩) c1) rfl rfl 31 _ J6.out db_info rfl (by simp [Value.oneCell']) ?_)
        | fail)
      refine bodyPost_ret (v := .tuple #[.agg (dbV R N (some ⟨g1, 0, none⟩) c1), .int .i64 v]) ?_ rfl ?_
      · exact results_cell_tmp Try.results13 _ _ (g3 + 1) 31 _ (0, 0) _ rfl (J6.out.row _) Try.underlying31 rfl db_info
      exact ⟨some ⟨g1, 0, none⟩, c1, rfl, RG.out.chg (Chg.setRow wr (g := g3 + 1) (S := fun k => k = g3 + 1) _ rfl) (fun x hx s => by cases hx; have s' : g1 = g3 + 1 := s; have := HG1.out; omega), below_setRow JB.out (by have := G3.out; omega) _, fun x hx => by cases hx; have := HG1.out; have := G3.out; show w.heap.size ≤ g1; omega⟩
end Go.Proofs.Ytikfoodlcmffdaa.Ra
