/- The document's buffer of layer 19: Take. Conditions: those that each states. -/
import Derived.Test.YtikfoodlcmffdaaRaG
import Derived.Deep.LoopGhost
namespace Go.Proofs.Ytikfoodlcmffdaa.Ra
open Go.ChangeShapes Go.WideShapes Go.ChangeAt Go.RowKit Go.Deep Rk
set_option linter.unusedVariables false
set_option linter.unusedSimpArgs false

theorem u8_inf : (Try.prog.info? 5).map (fun i => (i.zero, i.size, i.bytes)) = some (some (.int .u8 0), 1, 1) := by kernel_rfl
/-- 'l[k:]' of ints. -/
theorem run_cut_ints (ad : Addr) (n c k : Nat) (hk : k ≤ n) : ∃ ad' : Addr, (∀ W, (Instr.slice 29 (.slice (some ad) n c) (some (.int .i64 (k : Int))) none none).run Try.prog W = .ok (.slice (some ad') (n - k) (c - k)) W) ∧ (n ≤ c → k < n → ad' = ad.add k) := by
  have ht : Try.prog.underlying 29 = some (.slice (Try.prog.elem 29)) := by kernel_rfl
  have he : (Try.prog.info? (Try.prog.elem 29)).map (·.size) = some 1 := by kernel_rfl
  obtain ⟨i, hi, hs⟩ := Option.map_eq_some_iff.1 he
  by_cases h : c = k
  · refine ⟨ad, fun W => ?_, fun h1 h2 => by omega⟩
    rw [run_slice_l W 29 (some ad) n c ht .i64 k (by omega) (by omega)]
    simp [sliced, sizeOf, typeInfo, hi, hs, h]
  · refine ⟨ad.add k, fun W => ?_, fun _ _ => rfl⟩
    rw [run_slice_l W 29 (some ad) n c ht .i64 k (by omega) (by omega)]
    simp [sliced, sizeOf, typeInfo, hi, hs, h]
theorem add_add' (a : Addr) (j k : Nat) (b o : Nat) (h : a = ⟨b, o, none⟩) : (a.add j).add k = ⟨b, o + (j + k), none⟩ := by
  subst h
  have ea : ∀ o j, (⟨b, o, none⟩ : Addr).add j = ⟨b, o + j, none⟩ := fun o j => by unfold Addr.add; split <;> simp_all
  rw [ea, ea, Nat.add_assoc]
theorem ev_drop (xs : Bs) (n : Nat) : (ev xs).drop n = ev (xs.drop n) := by simp [ev]

set_option maxRecDepth 100000 in
set_option maxHeartbeats 2000000 in
theorem refTake_any {w : World} {R N : Nat} {A : Option Addr} {c : Nat} {xs : Bs} (h : RowG w 1 A R c (ev xs)) (hx : xs.length = R) (r1 : 1 ≤ R) (hR : R ≤ 300) (hN : N ≤ 1000000) :
    Calls Try.prog 11 #[.agg (dbV R N A c)] w fun e w' => ∃ A' c', e = .returned (.tuple #[.agg (dbV R (N + rdy xs) A' c'), .string ⟨(tk xs).toArray⟩]) ∧ RowG w' 1 A' R c' (ev (aft xs)) ∧ Below w.heap.size w w' ∧ ∀ x, A' = some x → w.heap.size ≤ x.block := by
  have HC := Lib.hid h.cap
  obtain ⟨ad, hA, had⟩ : ∃ ad : Addr, A = some ad ∧ (ad.block < w.heap.size ∧ ∃ b o, ad = ⟨b, o, none⟩) := by
    obtain ⟨b, o, e, hb, _⟩ := rg_at h (i := 0) (by omega)
    exact ⟨_, e, hb, _, _, rfl⟩
  subst hA
  have AD := Lib.hid had
  clear had
  have B0 := Lib.hid ((((Below.refl w.heap.size w).alloc (Nat.le_refl _) (.cells (dbV R N (some ad) c) 31)).alloc (by simp) (.cells #[.int .i64 0, .int .i64 0, .slice none 0 0] 31)))
  have K1 := Lib.hid ((Blk.new w 31 (dbV R N (some ad) c)).alloc (.cells #[.int .i64 0, .int .i64 0, .slice none 0 0] 31))
  have K2 := Lib.hid (show Blk ((w.alloc (.cells (dbV R N (some ad) c) 31)).alloc (.cells #[.int .i64 0, .int .i64 0, .slice none 0 0] 31)) (w.heap.size + 1) 31 #[.int .i64 0, .int .i64 0, .slice none 0 0] from by
    have := Blk.new (w.alloc (.cells (dbV R N (some ad) c) 31)) 31 #[.int .i64 0, .int .i64 0, .slice none 0 0]
    simpa using this)
  have H0 := Lib.hid (h.new B0.out)
  have HX := Lib.hid hx
  obtain ⟨n, hn⟩ : ∃ n, rdy xs = n := ⟨_, rfl⟩
  obtain ⟨M, hM⟩ : ∃ M, N + n = M := ⟨_, rfl⟩
  obtain ⟨bs, hbs⟩ : ∃ bs, tk xs = bs := ⟨_, rfl⟩
  obtain ⟨zs, hzs⟩ : ∃ zs, aft xs = zs := ⟨_, rfl⟩
  rw [hn, hM, hbs, hzs]
  have RN := Lib.hid hn
  have BL := Lib.hid (show bs.length = n from by rw [← hbs, tk_length, hn])
  have nR : n ≤ R := by rw [← hn, ← hx]; exact rdy_le xs
  have TG := Lib.hid (show ∀ k (hk : k < bs.length), ∃ hk' : k < xs.length, xs[k] = some bs[k] from by
    subst hbs
    intro k hk
    rw [tk_length] at hk
    exact ⟨by omega, tk_get xs k hk⟩)
  have ZE := Lib.hid (show xs.drop n ++ List.replicate n none = zs from by rw [← hzs, ← hn]; rfl)
  have ZL := Lib.hid (show zs.length = R from by rw [← hzs, aft_length, hx])
  have xM : IntKind.i64.wrap ((N : Int) + (n : Int)) = (M : Int) := by rw [IntWalk.i64_in _ (by omega)]; omega
  clear h hx hn hM hbs hzs
  go_enter Try.func11, Try.ntmps11
  go_upto_region 1 with fail
  generalize (w.alloc (.cells (dbV R N (some ad) c) 31)).alloc (.cells #[.int .i64 0, .int .i64 0, .slice none 0 0] 31) = W at *
  obtain ⟨g1, hg1⟩ : ∃ g1, g1 = w.heap.size := ⟨_, rfl⟩
  rw [← hg1] at K1 K2 ⊢
  have G1 := Lib.hid hg1
  clear hg1
  have RDY := Lib.hid (refReady_any (N := N) H0.out HX.out hR)
  rw [RN.out] at RDY
  go_wp2_with (first
    | (refine wpList_load_row rfl 31 (.tmp 1) rfl g1 rfl 31 _ (0, 0) _ K1.out Try.underlying31 rfl db_info ?_)
    | fail)
  refine RDY.out.mono ?_; rintro e w1 ⟨rfl, b1⟩
  have H1 := Lib.hid (H0.out.new b1)
  have L1 := Lib.hid (K1.out.older (older_below b1))
  have L2 := Lib.hid (K2.out.older (older_below b1))
  have B1 := Lib.hid (B0.out.trans (b1.mono B0.out.size))
  clear b1 H0 K1 K2 B0 RDY
  go_wp2
  go_loopw [5, 6] (fun bv i wr => ∃ (j : Nat) (Ab : Option Addr) (cb : Nat), j ≤ n ∧ i = .int .i64 (j : Int) ∧ bv = .slice Ab (bys (bs.take j)).length cb ∧ Hid (Row wr (g1 + 2) 5 Ab cb (bys (bs.take j))) ∧ Hid (Blk wr g1 31 (dbV R N (some ad) c)) ∧ Hid (Blk wr (g1 + 1) 31 #[.int .i64 0, .int .i64 0, .slice none 0 0]) ∧ Hid (RowG wr 1 (some ad) R c (ev xs)) ∧ Hid (Below w.heap.size w wr)) (fun _ i _ => n - (intOf i).toNat)
  case atStart => exact ⟨0, none, 0, Nat.zero_le _, rfl, rfl, Lib.hid (Row.nil _ _ _), L1, L2, H1, B1⟩
  case round =>
    obtain ⟨j, Ab, cb, hj, rfl, rfl, RB, J1, J2, JH, JB⟩ := hrel
    clear H1 L1 L2 B1
    by_cases hlt : j < n
    · have hlt' : (j : Int) < (n : Int) := by omega
      have j0 : (0 : Int) ≤ (j : Int) := by omega
      have jR : (j : Int) < (R : Int) := by omega
      have xk := IntWalk.i64_in ((j : Int) + 1) (by omega)
      have c2 := (J1.out.cell 2).trans (show _ = some (.slice (some ad) R c) from rfl)
      have hjb : j < bs.length := by rw [BL.out]; exact hlt
      obtain ⟨hjx, hxj⟩ := TG.out j hjb
      obtain ⟨b, o, hA, _, hc⟩ := rg_at JH.out hjx
      rw [hxj, show en (some bs[j]) = .int .i64 (bs[j].toNat : Int) from rfl] at hc
      have xu := IntWalk.u8_in (bs[j].toNat : Int) (by have := UInt8.toNat_lt bs[j]; omega)
      have EX := Lib.hid (show bys (bs.take j) ++ [Value.int .u8 (bs[j].toNat : Int)] = bys (bs.take (j + 1)) from by
        rw [List.take_succ_eq_append_getElem hjb, bys_append]; rfl)
      have HL := Lib.hid (show (bys (bs.take j)).length ≤ 300 from by rw [bys_length, List.length_take]; omega)
      have hs : g1 + 2 ≤ wr.heap.size := by have := J2.out.lt; omega
      generalize (bs[j].toNat : Int) = bz at *
      generalize bys (bs.take j) = L at *
      clear hxj
      have hA' := Option.some.inj hA
      subst hA'
      go_wp2_with (at_builtin; refine Hid.out ?_)
      unfold Hid
      refine wpList_append_one rfl _ _ rfl Try.underlying37 (.int .u8 0) 1 rfl (by decide) u8_inf rfl RB.out hs (.int .u8 bz) rfl rfl (by have := HL.out; omega) ?_
      intro A' c' w2 hr2 k2 _
      have hb1 : ∀ i, (Value.slice Ab L.length cb).ownBlock = some i → g1 + 2 ≤ i := fun i hi => (RB.out.lt i hi).1
      have J1' := Lib.hid (J1.out.chg k2 (fun s => by have := hb1 _ s; omega))
      have J2' := Lib.hid (J2.out.chg k2 (fun s => by have := hb1 _ s; omega))
      have JH' := Lib.hid (JH.out.chg k2 (fun a ha s => by cases ha; have h2 : g1 + 2 ≤ b := hb1 _ s; have h3 : b < w.heap.size := AD.out.1; have := G1.out; omega))
      have JB' := Lib.hid (JB.out.trans (k2.below (B := w.heap.size) JB.out.size (fun i hi => by have := hb1 i hi; have := G1.out; omega)))
      have MR := Lib.hid hr2
      have XL := Lib.hid (show (L ++ [Value.int .u8 bz]).length = L.length + 1 from by simp)
      clear hr2 k2 hb1 J1 J2 JH JB RB
      generalize (L ++ [Value.int .u8 bz]) = L' at *
      go_wp2
      go_roundw
      case rel => exact ⟨j + 1, A', c', by omega, by go_num, by rw [← EX.out], by rw [← EX.out]; exact MR, J1', J2', JH', JB'⟩
      case measure => simp [intOf]; omega
    · have hlt' : ¬ (j : Int) < (n : Int) := by omega
      obtain rfl : j = n := by omega
      rw [show bs.take j = bs from List.take_of_length_le (by rw [BL.out]; omega)] at RB ⊢
      have SR : ∃ Ab' cb', Value.slice Ab (bys bs).length cb = .slice Ab' j cb' ∧ Src wr Ab' j cb' bs ∧ (0 < j → ∀ x, Ab' = some x → g1 + 2 ≤ x.block) := by
        obtain ⟨A', c', e, s, hb⟩ := src_of_own RB.out.own
        rw [bys_length, BL.out] at e s
        refine ⟨A', c', by rw [bys_length, BL.out]; exact e, s, fun h0 x hx => ?_⟩
        obtain ⟨b, o, e1, _, _⟩ := s.lies (by rw [bys_length, BL.out]; exact h0)
        rw [e1] at hx
        cases hx
        exact hb b o e1
      obtain ⟨Ab', cb', eb, sb, sg⟩ := SR
      have ABG := Lib.hid sg
      clear sg
      rw [eb]
      have SB := Lib.hid sb
      clear eb sb RB
      have c2 := (J1.out.cell 2).trans (show _ = some (.slice (some ad) R c) from rfl)
      obtain ⟨ad', hcut, had'⟩ := run_cut_ints ad R c j nR
      have CA := Lib.hid (had' HC.out)
      have S0 : wr.heap.size ≤ wr.heap.size := Nat.le_refl _
      have hown : Row (wr.alloc (.cells #[] 3)) wr.heap.size 3 (some ⟨wr.heap.size, 0, none⟩) 0 [] := ⟨World.ownsRow_lit (base := wr.heap.size) (e := 3) (size := 1) wr #[] 0 S0 (by decide) rfl⟩
      have HOWN := Lib.hid hown
      have N0 := Lib.hid ((Below.refl wr.heap.size wr).alloc (Nat.le_refl _) (.cells #[] 3))
      have ROW := Lib.hid (JH.out.new N0.out)
      have NEWS := Lib.hid (show ∀ k u, (ev (xs.drop j))[k]? = some u → (wr.alloc (.cells #[] 3)).cell? (ad'.add k) = some u from by
        intro k u hu
        rw [← ev_drop, List.getElem?_drop] at hu
        obtain ⟨hk, e⟩ := List.getElem?_eq_some_iff.1 hu
        obtain ⟨b, o, e1, _, hc⟩ := ROW.out.cell hk
        have hkx : j + k < R := by rw [ev_length, HX.out] at hk; exact hk
        have e1' := Option.some.inj e1
        rw [CA.out (by omega), add_add' ad j k b o e1', hc, e])
      have KK1 := Lib.hid (J1.out.older (older_below N0.out))
      have KK2 := Lib.hid (J2.out.older (older_below N0.out))
      have SB1 := Lib.hid (SB.out.below N0.out)
      have B1 := Lib.hid (JB.out.trans (N0.out.mono JB.out.size))
      have S1 := Lib.hid (show wr.heap.size ≤ (wr.alloc (.cells #[] 3)).heap.size from N0.out.size)
      have c2 := (KK1.out.cell 2).trans (show _ = some (.slice (some ad) R c) from rfl)
      have LT := Lib.hid (show g1 + 2 ≤ wr.heap.size from by have := J2.out.lt; omega)
      have ABL := Lib.hid (show 0 < j → ∀ x, Ab' = some x → x.block < wr.heap.size from src_lt SB.out)
      clear hown J1 J2 JH JB ROW had' S0 SB
      go_wp2_with (at_builtin; refine Hid.out ?_)
      unfold Hid
      refine wpList_append_row rfl _ _ rfl Try.underlying29 (.int .i64 0) 8 rfl (by decide) int_info rfl HOWN.out S1.out ad' (R - j) (c - j) (ev (xs.drop j)) rfl (by rw [ev_length, List.length_drop, HX.out]) NEWS.out (ev_one _) (by simp; omega) ?_
      intro A1 c1 w2 hr2 k2 _
      rw [List.nil_append] at *
      have hb0 : ∀ i, (Value.slice (some ⟨wr.heap.size, 0, none⟩) ([] : List Value).length 0).ownBlock = some i → i = wr.heap.size := fun i hi => by simpa [Value.ownBlock, eq_comm] using hi
      have P1 := Lib.hid (KK1.out.chg k2 (fun s => by have := hb0 _ s; have := LT.out; omega))
      have P2 := Lib.hid (KK2.out.chg k2 (fun s => by have := hb0 _ s; have := LT.out; omega))
      have PB := Lib.hid (B1.out.trans (k2.below (B := w.heap.size) B1.out.size (fun i hi => by have := hb0 i hi; have := G1.out; have := LT.out; omega)))
      have HZ := Lib.hid (show wr.heap.size ≤ w2.heap.size from Nat.le_trans S1.out k2.size)
      have PS := Lib.hid (src_chg SB1.out k2 (fun h0 x hx s => by have := hb0 _ s; have := ABL.out h0 x hx; omega))
      have PR := Lib.hid (show Row w2 wr.heap.size 3 A1 c1 (ev (xs.drop j ++ List.replicate 0 none)) from by rw [List.replicate_zero, List.append_nil]; exact hr2)
      have hL1 : (ev (xs.drop j)).length = (ev (xs.drop j ++ List.replicate 0 none)).length := by rw [List.replicate_zero, List.append_nil]
      rw [hL1]
      obtain ⟨hB, hhB⟩ : ∃ hB, wr.heap.size = hB := ⟨_, rfl⟩
      rw [hhB] at PR ABL LT HZ
      clear HOWN NEWS KK1 KK2 B1 k2 hb0 c2 S1 N0 hr2 hL1 SB1 hcut CA hhB
      go_wp2
      go_loopg [7] j (fun k v wv => ∃ (A1 : Option Addr) (c1 : Nat), k ≤ j ∧ v = .slice A1 (ev (xs.drop j ++ List.replicate (j - k) none)).length c1 ∧ Hid (Row wv hB 3 A1 c1 (ev (xs.drop j ++ List.replicate (j - k) none))) ∧ Hid (Blk wv g1 31 (dbV R N (some ad) c)) ∧ Hid (Blk wv (g1 + 1) 31 #[.int .i64 0, .int .i64 0, .slice none 0 0]) ∧ Hid (Src wv Ab' j cb' bs) ∧ Hid (Below w.heap.size w wv) ∧ Hid (hB ≤ wv.heap.size))
      case atStart => exact ⟨A1, c1, Nat.le_refl _, by rw [Nat.sub_self, List.replicate_zero, List.append_nil], by rw [Nat.sub_self]; exact PR, P1, P2, PS, PB, HZ⟩
      case round =>
        obtain ⟨A1, c1, hk, rfl, QR, Q1, Q2, QS, QB, QZ⟩ := hrel
        clear PR P1 P2 PS PB
        have c0 := (Q1.out.cell 0).trans (show _ = some (.int .i64 (R : Int)) from rfl)
        have XL : (ev (xs.drop j ++ List.replicate (j - gk) none)).length = R - gk := by rw [ev_length, List.length_append, List.length_drop, List.length_replicate, HX.out]; omega
        by_cases hg : gk = 0
        · subst hg
          rw [Nat.sub_zero] at QR XL ⊢
          rw [ZE.out] at QR XL ⊢
          rw [Nat.sub_zero] at XL
          have hlt2 : ¬ ((ev zs).length : Int) < (R : Int) := by omega
          have cN := (Q1.out.cell 1).trans (show _ = some (.int .i64 (N : Int)) from rfl)
          have RG := Lib.hid (show RowG wr 1 A1 R c1 (ev zs) from by have := row_rg QR.out; rw [XL] at this; exact this)
          have FA := Lib.hid (show ∀ x, A1 = some x → hB ≤ x.block from fun x hx => by subst hx; exact (QR.out.lt x.block rfl).1)
          clear QR
          rw [XL] at hlt2 ⊢
          clear XL
          have tl := Di.told_str QS.out
          have nl2 : ¬ (R : Int) < (R : Int) := by omega
          clear hlt2
          go_upto_region 10 with fail
          have hG1 : g1 < wr.heap.size := Q1.out.lt
          have nG1 : ¬ (g1 = g1 + 1) := by omega
          refine wp_region_held_drew (S := fun w' => Hid (Chg wr w' (fun k => k = g1 + 1))) (by kernel_rfl) (Lib.hid ((Chg.refl wr _).drew)) (fun hH => ?_)
          refine held_take (i := 0) (d := (some 38)) (v := ?_) rfl rfl (by kernel_rfl) (by kernel_rfl) (by kernel_rfl) (fun _ _ _ h => h) (by rfl) ?_ hH ?_
          rotate_left
          · intro w' hSw; (try dsimp only at hSw); go_simp <;> with_reducible rfl
          simp only [Act.put, List.setIfInBounds_toArray, List.set_cons_zero, List.set_cons_succ]
          refine held_take (i := 1) (d := (some 39)) (v := ?_) rfl rfl (by kernel_rfl) (by kernel_rfl) (by kernel_rfl) (fun _ _ _ h => h) (by rfl) ?_ hH ?_
          rotate_left
          · intro w' hSw; have hk := hSw.out.block; clear hSw; have z := ((World.cell?_of_block (w := wr) (w' := w') (hk _ hG1 nG1)).trans c0); clear hk; go_simp <;> with_reducible rfl
          simp only [Act.put, List.setIfInBounds_toArray, List.set_cons_zero, List.set_cons_succ]
          refine held_take (i := 2) (d := (some 40)) (v := ?_) rfl rfl (by kernel_rfl) (by kernel_rfl) (by kernel_rfl) (fun _ _ _ h => h) (by rfl) ?_ hH ?_
          rotate_left
          · intro w' hSw; (try dsimp only at hSw); go_simp <;> with_reducible rfl
          simp only [Act.put, List.setIfInBounds_toArray, List.set_cons_zero, List.set_cons_succ]
          refine held_take (i := 3) (d := (some 41)) (v := ?_) rfl rfl (by kernel_rfl) (by kernel_rfl) (by kernel_rfl) (fun _ _ _ h => h) (by rfl) ?_ hH ?_
          rotate_left
          · intro w' hSw; have hk := hSw.out.block; clear hSw; have z := ((World.cell?_of_block (w := wr) (w' := w') (hk _ hG1 nG1)).trans cN); clear hk; go_simp <;> with_reducible rfl
          simp only [Act.put, List.setIfInBounds_toArray, List.set_cons_zero, List.set_cons_succ]
          refine held_take (i := 4) (d := (some 42)) (v := ?_) rfl rfl (by kernel_rfl) (by kernel_rfl) (by kernel_rfl) (fun _ _ _ h => h) (by rfl) ?_ hH ?_
          rotate_left
          · intro w' hSw; (try dsimp only at hSw); go_simp <;> with_reducible rfl
          simp only [Act.put, List.setIfInBounds_toArray, List.set_cons_zero, List.set_cons_succ]
          refine held_take (i := 5) (d := (some 43)) (v := ?_) rfl rfl (by kernel_rfl) (by kernel_rfl) (by kernel_rfl) (fun _ _ _ h => h) (by rfl) ?_ hH ?_
          rotate_left
          · intro w' hSw; (try dsimp only at hSw); go_simp <;> with_reducible rfl
          simp only [Act.put, List.setIfInBounds_toArray, List.set_cons_zero, List.set_cons_succ]
          refine held_take (i := 6) (d := (some 44)) (v := ?_) rfl rfl (by kernel_rfl) (by kernel_rfl) (by kernel_rfl) (fun _ _ _ h => h) (by rfl) ?_ hH ?_
          rotate_left
          · intro w' hSw; (try dsimp only at hSw); go_simp <;> with_reducible rfl
          simp only [Act.put, List.setIfInBounds_toArray, List.set_cons_zero, List.set_cons_succ]
          refine held_take (i := 7) (d := (some 45)) (v := ?_) rfl rfl (by kernel_rfl) (by kernel_rfl) (by kernel_rfl) (fun _ _ _ h => h) (by rfl) ?_ hH ?_
          rotate_left
          · intro w' hSw; (try dsimp only at hSw); go_simp <;> with_reducible rfl
          simp only [Act.put, List.setIfInBounds_toArray, List.set_cons_zero, List.set_cons_succ]
          refine held_take (i := 8) (d := (some 46)) (v := ?_) rfl rfl (by kernel_rfl) (by kernel_rfl) (by kernel_rfl) (fun _ _ _ h => h) (by rfl) ?_ hH ?_
          rotate_left
          · intro w' hSw; (try dsimp only at hSw); go_simp <;> with_reducible rfl
          simp only [Act.put, List.setIfInBounds_toArray, List.set_cons_zero, List.set_cons_succ]
          refine held_take (i := 9) (d := (some 47)) (v := ?_) rfl rfl (by kernel_rfl) (by kernel_rfl) (by kernel_rfl) (fun _ _ _ h => h) (by rfl) ?_ hH ?_
          rotate_left
          · intro w' hSw; have tl := Di.told_str (src_chg QS.out hSw.out (fun h0 x hx s => by have := ABG.out h0 x hx; have s' : x.block = g1 + 1 := s; omega)); clear hSw; go_simp <;> with_reducible rfl
          simp only [Act.put, List.setIfInBounds_toArray, List.set_cons_zero, List.set_cons_succ]
          refine held_one (i := 10) (by kernel_rfl) rfl (by rfl) ?_
          refine Gx.wp_store_row_n rfl 31 (.tmp 2) (.tmp 45) rfl (g1 + 1) (dbV R M A1 c1) rfl rfl 31 _ Q2.out db_info rfl (by simp [Value.oneCell']) ?_
          refine ⟨Lib.hid (hH.out.trans (Chg.setRow _ _ rfl)), ?_⟩
          have hH : Hid (Chg wr (wr.drew.setRow (g1 + 1) (dbV R M A1 c1)) (fun k => k = g1 + 1)) := Lib.hid (hH.out.trans (Chg.setRow _ _ rfl))
          (try simp only [Act.put, List.setIfInBounds_toArray, List.set_cons_zero, List.set_cons_succ])
          refine held_take (i := 11) (d := (some 3)) (v := ?_) rfl rfl (by kernel_rfl) (by kernel_rfl) (by kernel_rfl) (fun _ _ _ h => h) (by rfl) ?_ hH ?_
          rotate_left
          · intro w' hSw; (try dsimp only at hSw); go_simp <;> with_reducible rfl
          simp only [Act.put, List.setIfInBounds_toArray, List.set_cons_zero, List.set_cons_succ]
          refine wpAnyH_done (by kernel_rfl) ?_ _
          go_wp2
          refine bodyPost_ret (v := .tuple #[.agg (dbV R M A1 c1), .string ⟨bs.toArray⟩]) ?_ rfl ?_
          · exact results_cell_tmp Try.results11 _ _ (g1 + 1) 31 _ (0, 0) _ rfl (Q2.out.row _) Try.underlying31 rfl db_info
          exact ⟨A1, c1, rfl, RG.out.chg ((Chg.refl wr (fun k => k = g1 + 1)).drew.trans (Chg.setRow _ _ rfl)) (fun x hx s => by have := FA.out x hx; have := LT.out; have s' : x.block = g1 + 1 := s; omega), below_setRow (below_drewN QB.out 1) (by have := G1.out; omega) _, fun x hx => by have := FA.out x hx; have := LT.out; have := G1.out; omega⟩
        · have hlt2 : ((ev (xs.drop j ++ List.replicate (j - gk) none)).length : Int) < (R : Int) := by omega
          have EX := Lib.hid (show ev (xs.drop j ++ List.replicate (j - gk) none) ++ [.int .i64 (-1)] = ev (xs.drop j ++ List.replicate (j - (gk - 1)) none) from by
            rw [ev_snoc, List.append_assoc, show j - (gk - 1) = j - gk + 1 from by omega, List.replicate_succ'])
          have HL := Lib.hid (show (ev (xs.drop j ++ List.replicate (j - gk) none)).length ≤ 300 from by omega)
          have hs : hB ≤ wr.heap.size := QZ.out
          generalize ev (xs.drop j ++ List.replicate (j - gk) none) = L at *
          go_wp2_with (at_builtin; refine Hid.out ?_)
          unfold Hid
          refine wpList_append_one rfl _ _ rfl Try.underlying29 (.int .i64 0) 8 rfl (by decide) int_info rfl QR.out hs (.int .i64 (-1)) rfl rfl (by have := HL.out; omega) ?_
          intro A' c' w2 hr2 k2 _
          have hb1 : ∀ i, (Value.slice A1 L.length c1).ownBlock = some i → hB ≤ i := fun i hi => (QR.out.lt i hi).1
          have J1' := Lib.hid (Q1.out.chg k2 (fun s => by have := hb1 _ s; have := LT.out; omega))
          have J2' := Lib.hid (Q2.out.chg k2 (fun s => by have := hb1 _ s; have := LT.out; omega))
          have JS' := Lib.hid (src_chg QS.out k2 (fun h0 x hx s => by have := hb1 _ s; have := ABL.out h0 x hx; omega))
          have JB' := Lib.hid (QB.out.trans (k2.below (B := w.heap.size) QB.out.size (fun i hi => by have := hb1 i hi; have := G1.out; have := LT.out; omega)))
          have MZ := Lib.hid (Nat.le_trans QZ.out k2.size)
          have MR := Lib.hid hr2
          have gp : gk - 1 ≤ j := by omega
          clear hr2 k2 hb1 Q1 Q2 QS QB QR XL
          generalize (L ++ [Value.int .i64 (-1)]) = L' at *
          go_wp2
          go_roundg (gk - 1)
          case measure => omega
          case rel => exact ⟨A', c', gp, by rw [← EX.out], by rw [← EX.out]; exact MR, J1', J2', JS', JB', MZ⟩
end Go.Proofs.Ytikfoodlcmffdaa.Ra
