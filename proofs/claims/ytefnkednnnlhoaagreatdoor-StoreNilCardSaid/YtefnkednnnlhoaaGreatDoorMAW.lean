/- Layer 11: the reader's numbers. Conditions: those that each states. -/
import Derived.Test.YtefnkednnnlhoaaGreatDoorMAV
namespace Go.Proofs.YtefnkednnnlhoaaGreatDoor.In
open Go.ChangeShapes Go.WideShapes Go.ChangeAt Go.RowKit Go.Deep Fl Rk
set_option linter.unusedVariables false

theorem chg_of_row {w w' : World} {g : Nat} (h : w.grownBy w' (some g)) : Chg w w' (fun b => b = g) :=
  ⟨h.os, h.tape, h.output, h.size, fun i hi hn => h.block i hi (fun e => hn (Option.some.inj e))⟩
/-- A reader in memory, whose error and bytes are s. -/
structure EyeS (w : World) (g : Nat) (s : Rd) : Prop where
  at_ : EyeAt w 0 g s.1 s.2
  met : s.2 ≠ 0 → s.1 = []
theorem EyeS.lt {w : World} {g : Nat} {s : Rd} (h : EyeS w g s) : g < w.heap.size := by
  obtain ⟨_, _, A, c, hb, _⟩ := h.at_
  exact hb.lt
/-- Writes behind the reader leave it. -/
theorem EyeS.away {w w' : World} {g : Nat} {s : Rd} {S : Nat → Prop} (h : EyeS w g s) (k : Chg w w' S) (hS : ∀ b, S b → g < b) : EyeS w' g s := by
  obtain ⟨⟨h0, hl, A, c, hb, hs, hn⟩, hm⟩ := h
  refine ⟨⟨h0, hl, A, c, hb.chg k (fun e => absurd (hS _ e) (Nat.lt_irrefl _)), ⟨⟨fun hp => ?_, hs.len, hs.cap, hs.max⟩, hs.none_⟩, hn⟩, hm⟩
  obtain ⟨b, o, rfl, hbl, hc⟩ := hs.lies hp
  have hbg : b < g := hn (by rw [bys_length] at hp; exact hp) b o rfl
  refine ⟨b, o, rfl, Nat.lt_of_lt_of_le hbl k.size, fun j hj => ?_⟩
  rw [World.cell?_of_block (w := w) (w' := w') (a := ⟨b, o + j, none⟩) (k.block b hbl (fun e => absurd (hS b e) (by omega)))]
  exact hc j hj
theorem EyeS.new {w w' : World} {g : Nat} {s : Rd} (h : EyeS w g s) (k : Below w.heap.size w w') : EyeS w' g s := h.away (Chg.of_new k fun _ => False) (fun _ e => e.elim)
theorem EyeS.drewN {w : World} {g : Nat} {s : Rd} (h : EyeS w g s) (n : Nat) : EyeS (w.drewN n) g s := h.away ((Chg.refl w (fun _ => False)).drewN n) (fun _ e => e.elim)

theorem num_inv (s : Rd) (k : Int) (h : s.2 ≠ 0 → s.1 = []) : (numS s k).2.2 ≠ 0 → (numS s k).2.1 = [] := takeR_inv s.1 s.2 k true h
theorem byt_inv (s : Rd) (k : Int) (h : s.2 ≠ 0 → s.1 = []) : (bytS s k).2.2 ≠ 0 → (bytS s k).2.1 = [] := takeR_inv s.1 s.2 k false h

theorem number_any (g : Nat) (s : Rd) (k : Int) (w : World) (h : EyeS w g s) :
    Calls Tryz.prog 127 #[.pointer (some ⟨g, 0, none⟩), .int .i64 k] w fun e w' => e = .returned (.int .i64 (intS s k).1) ∧ EyeS w' g (intS s k).2 ∧ Chg w w' (fun b => b = g) := by
  have NA := Lib.hid (num_any 0 g s.1 s.2 k w h.at_ h.met)
  have hi := Lib.hid (num_inv s k h.met)
  have E1 := Lib.hid (show (intS s k).1 = IntKind.i64.wrap ((numB (takeR s.1 s.2 k true).1 : Nat) : Int) from rfl)
  have E2 := Lib.hid (show (intS s k).2 = (takeR s.1 s.2 k true).2 from rfl)
  generalize (intS s k).1 = v at *
  generalize (intS s k).2 = s' at *
  generalize numB (takeR s.1 s.2 k true).1 = m at *
  clear h
  go_enter Tryz.func127, Tryz.ntmps127
  go_wp2_with fail
  refine NA.out.mono ?_; rintro e w1 ⟨rfl, e1, k1⟩
  have e1 := Lib.hid e1
  have k1 := Lib.hid k1
  go_wp2
  go_ret
  refine ⟨?_, ⟨?_, ?_⟩, chg_of_row k1.out⟩
  · rw [E1.out]; (show Ending.returned (Value.int .i64 (wrap64 (m : Int))) = _); exact congrArg (fun x => Ending.returned (Value.int .i64 x)) (by rw [IntKind.wrap_i64]; try (unfold wrap64; omega))
  · rw [E2.out]; exact e1.out
  · rw [E2.out]; exact hi.out
theorem bytesS_any (g : Nat) (s : Rd) (k : Int) (w : World) (h : EyeS w g s) :
    Calls Tryz.prog 126 #[.pointer (some ⟨g, 0, none⟩), .int .i64 k] w fun e w' => ∃ A c, e = .returned (.slice A (bytS s k).1.length c) ∧ Src w' A (bytS s k).1.length c (bytS s k).1 ∧ EyeS w' g (bytS s k).2 ∧ Chg w w' (fun b => b = g) := by
  refine (bytes_any 0 g s.1 s.2 k w h.at_ h.met).mono ?_
  rintro e w' ⟨A, c, rfl, s1, e1, k1⟩
  exact ⟨A, c, rfl, s1, ⟨e1, byt_inv s k h.met⟩, chg_of_row k1⟩
theorem int_info : ∃ i0 z, Tryz.prog.info? 3 = some i0 ∧ i0.zero = some z ∧ z.cells.size = 1 ∧ i0.size = 1 ∧ i0.bytes = 8 := by
  obtain ⟨i, hi, hs⟩ := Option.map_eq_some_iff.1 (show (Tryz.prog.info? 3).map (fun i => (i.zero.map (·.cells.size), i.size, i.bytes)) = some (some 1, 1, 8) by kernel_rfl)
  simp only [Prod.mk.injEq] at hs
  obtain ⟨h0, h1, h2⟩ := hs
  obtain ⟨z, hz, hzs⟩ := Option.map_eq_some_iff.1 h0
  exact ⟨i, z, hi, hz, hzs, h1, h2⟩
theorem vi_snoc (l : List Int) (x : Int) : vi (l ++ [x]) = vi l ++ [.int .i64 x] := by simp [vi]
end Go.Proofs.YtefnkednnnlhoaaGreatDoor.In

/- Layer 11: roots, directories and files read. Conditions: those that each states. -/
namespace Go.Proofs.YtefnkednnnlhoaaGreatDoor.In
open Go.ChangeShapes Go.WideShapes Go.ChangeAt Go.RowKit Go.Deep Fl Rk Di
set_option linter.unusedVariables false
set_option linter.unusedSimpArgs false

theorem takeR_num (s : Rd) (k : Nat) (h : s.2 ≠ 0 → s.1 = []) : numB (takeR s.1 s.2 (k : Int) true).1 < 256 ^ k := by
  have h0 : (0 : Nat) < 256 ^ k := Nat.pow_pos (by decide)
  unfold takeR
  split
  · simpa [numB] using h0
  · split
    · simpa [numB] using h0
    · split
      · simpa [numB] using h0
      · rename_i h1 h2 h3
        have hk : (k : Int).toNat = k := by omega
        rw [hk]
        exact numB_lt _ _ (by omega)
theorem intS_le (s : Rd) (k : Nat) (hk : k ≤ 4) (h : s.2 ≠ 0 → s.1 = []) : 0 ≤ (intS s (k : Int)).1 ∧ (intS s (k : Int)).1 < 256 ^ k ∧ (intS s (k : Int)).1 = (numB (takeR s.1 s.2 (k : Int) true).1 : Nat) := by
  have hn := takeR_num s k h
  have h4 : 256 ^ k ≤ 4294967296 := Nat.le_trans (Nat.pow_le_pow_right (by decide) hk) (by decide)
  have e : (intS s (k : Int)).1 = (numB (takeR s.1 s.2 (k : Int) true).1 : Nat) := (show IntKind.i64.wrap ((numB (takeR s.1 s.2 (k : Int) true).1 : Nat) : Int) = _ from IntWalk.i64_in _ (by omega))
  rw [e]
  have : ((256 ^ k : Nat) : Int) = (256 : Int) ^ k := by simp
  refine ⟨by omega, by omega, rfl⟩
theorem rowG_of {w : World} {E : TypeId} {sz n c : Nat} {A : Option Addr} {xs : List Value} (h : RowW w E sz A n c xs) : RowG w sz A n c xs := by
  obtain ⟨A', c', e, r, _⟩ := RowG.of_owns h.own
  injection e with e1 _ e3
  subst e1 e3
  exact r

theorem chg_cut {w w1 w2 : World} {S S' : Nat → Prop} (h : Chg w w1 S) (k : Chg w1 w2 S') (hS : ∀ i, i < w.heap.size → S' i → S i) : Chg w w2 S :=
  ⟨k.os.trans h.os, k.tape.trans h.tape, k.output.trans h.output, Nat.le_trans h.size k.size, fun i hi hn => (k.block i (Nat.lt_of_lt_of_le hi h.size) (fun e => hn (hS i hi e))).trans (h.block i hi hn)⟩
theorem root_info : (Tryz.prog.info? 49).map (·.size) = some 2 := by kernel_rfl

set_option maxRecDepth 100000 in
set_option maxHeartbeats 2000000 in
theorem readRoot_any (g : Nat) (l : List UInt8) (w : World) (h : EyeS w g (l, 0)) :
    Calls Tryz.prog 85 #[.pointer (some ⟨g, 0, none⟩)] w fun e w' => ∃ A c, e = .returned (.agg #[.int .i64 (rootR l).1, .slice A (rootR l).2.length c]) ∧ RowG w' 1 A (rootR l).2.length c (vi (rootR l).2) ∧ (∀ b, inB A b → w.heap.size ≤ b) ∧ Chg w w' (fun b => b = g) := by
  have hg := h.lt
  obtain ⟨s1, hs1⟩ : ∃ s1, (bytS (l, 0) 4).2 = s1 := ⟨_, rfl⟩
  obtain ⟨G, sG, hG⟩ : ∃ G sG, intS s1 4 = (G, sG) := ⟨_, _, rfl⟩
  obtain ⟨N, sN, hN⟩ : ∃ N sN, intS sG 1 = (N, sN) := ⟨_, _, rfl⟩
  have EQ := Lib.hid (show rootR l = (G, (readInts N.toNat sN).1) from by unfold rootR rootN rootG; rw [hs1, hG, hN])
  have H := Lib.hid h
  obtain ⟨i0, z0, inf⟩ := int_info
  have INF := Lib.hid inf
  clear inf h
  have HS1 := Lib.hid hs1
  have HG := Lib.hid hG
  have HN := Lib.hid hN
  clear hs1 hG hN
  have B0 := Lib.hid ((Below.refl w.heap.size w).alloc (Nat.le_refl _) (.cells #[.int .i64 0, .slice none 0 0] 49))
  have R0 := Lib.hid (Blk.new w 49 #[.int .i64 0, .slice none 0 0])
  go_enter Tryz.func85, Tryz.ntmps85
  go_wp2_with fail
  refine (bytesS_any g (l, 0) 4 _ (H.out.new B0.out)).mono ?_; rintro e w1 ⟨A1, c1, rfl, t1, e1, k1⟩
  rw [HS1.out] at e1
  have E1 := Lib.hid e1
  have R1 := Lib.hid (R0.out.chg k1 (by omega))
  have K1 := Lib.hid ((Chg.of_new B0.out _).trans k1)
  clear t1 e1 k1 H B0 R0
  go_wp2_with fail
  have NU := number_any g s1 4 _ E1.out
  rw [HG.out] at NU
  refine NU.mono ?_; rintro e w2 ⟨rfl, e2, k2⟩
  have R2 := Lib.hid (R1.out.chg k2 (by omega))
  have K2 := Lib.hid (K1.out.trans k2)
  have E2 := Lib.hid e2
  clear e2 k2 NU E1 R1 K1
  have b2 := Lib.hid ((Below.refl w2.heap.size w2).alloc (Nat.le_refl _) (.cells #[.int .i64 G, .slice none 0 0] 49))
  have P2 := Lib.hid (Blk.new w2 49 #[.int .i64 G, .slice none 0 0])
  have z2 := Lib.hid R2.out.lt
  have zg := Lib.hid E2.out.lt
  go_wp2_with fail
  have NU := number_any g sG 1 _ (E2.out.new b2.out)
  rw [HN.out] at NU
  refine NU.mono ?_; rintro e w3 ⟨rfl, e3, k3⟩
  have hN0 := intS_le sG 1 (by decide) E2.out.met
  rw [show ((1 : Nat) : Int) = 1 from rfl, HN.out] at hN0
  have n0 : 0 ≤ N := hN0.1
  have n1 : N < 256 := hN0.2.1
  clear hN0
  have R3 := Lib.hid ((R2.out.alloc _).chg k3 (by omega))
  have P3 := Lib.hid (P2.out.chg k3 (by have := zg.out; omega))
  have K3 := Lib.hid ((K2.out.trans (Chg.of_new b2.out _)).trans k3)
  have E3 := Lib.hid e3
  have S3 := Lib.hid (show w2.heap.size < w3.heap.size from P3.out.lt)
  generalize hgr : w2.heap.size = gr at *
  have hgr' := Lib.hid hgr
  clear hgr e3 k3 NU E2 R2 K2 P2 b2
  go_wp2
  go_loopw [11] (fun i wr => ∃ (j : Nat) (xs : List Int) (s : Rd) (A : Option Addr) (c : Nat), i = .int .i64 (j : Int) ∧ (j : Int) ≤ N ∧ Hid (readInts j sN = (xs, s) ∧ xs.length = j) ∧ Hid (EyeS wr g s) ∧ Hid (Blk wr gr 49 #[.int .i64 G, .slice A xs.length c]) ∧ Hid (RowW wr 3 1 A xs.length c (vi xs)) ∧ Hid (∀ b, inB A b → gr < b) ∧ Hid (Blk wr w.heap.size 49 #[.int .i64 0, .slice none 0 0]) ∧ Hid (Chg w wr (fun b => b = g)) ∧ Hid (gr < wr.heap.size)) (fun i _ => (N - intOf i).toNat)
  case atStart =>
    exact ⟨0, [], sN, none, 0, rfl, n0, Lib.hid ⟨rfl, rfl⟩, E3, P3, Lib.hid (RowW.nil _ _ _), Lib.hid (fun b e => (inB_none b e).elim), R3, K3, S3⟩
  case round =>
    obtain ⟨j, xs, s, A, c, rfl, hj, RI, ES, BK, RW, FR, RC, KC, SZ⟩ := hrel
    have zg' := zg.out
    have NG := Lib.hid (show ¬ gr = g from by omega)
    have RG := Lib.hid (show ∀ b, inB A b → ¬ b = g from fun b e h => by have := FR.out b e; omega)
    by_cases hlt : (j : Int) < N
    · have j0 : (0 : Int) ≤ (j : Int) := by omega
      have xj := IntWalk.i64_in ((j : Int) + 1) (by omega)
      obtain ⟨v, s', hv⟩ : ∃ v s', intS s 2 = (v, s') := ⟨_, _, rfl⟩
      have NU := Lib.hid (number_any g s 2 wr.drew (ES.out.drewN 1))
      rw [hv] at NU
      have hl256 : xs.length < 256 := by have := RI.out.2; omega
      have ca := (BK.out.cell 1).trans (show _ = some (.slice A xs.length c) from rfl)
      have HV := Lib.hid hv
      clear hv
      go_upto_region 5 with fail
      have hS := Lib.hid (show wr.drew.cell? ⟨gr, 1, none⟩ = some (.slice A xs.length c) from ca)
      refine wp_head_held (S := fun w' => Hid (w'.cell? ⟨gr, 1, none⟩ = some (.slice A xs.length c))) 6 (by kernel_rfl) rfl rfl (by kernel_rfl) ?_
      simp only [List.take_succ_cons, List.take_zero, List.drop_succ_cons, List.drop_zero]
      refine held_take (i := 0) (d := (some 13)) (v := ?_) rfl rfl (by kernel_rfl) (by kernel_rfl) (by kernel_rfl) (fun _ _ _ h => h) (by rfl) ?_ hS ?_
      rotate_left
      · intro w' hSw; (try dsimp only at hSw); go_simp <;> with_reducible rfl
      simp only [Act.put, List.setIfInBounds_toArray, List.set_cons_zero, List.set_cons_succ]
      refine held_take (i := 1) (d := (some 14)) (v := ?_) rfl rfl (by kernel_rfl) (by kernel_rfl) (by kernel_rfl) (fun _ _ _ h => h) (by rfl) ?_ hS ?_
      rotate_left
      · intro w' hSw; have hc := hSw.out; clear hSw; go_simp <;> with_reducible rfl
      simp only [Act.put, List.setIfInBounds_toArray, List.set_cons_zero, List.set_cons_succ]
      refine held_take (i := 2) (d := (some 15)) (v := ?_) rfl rfl (by kernel_rfl) (by kernel_rfl) (by kernel_rfl) (fun _ _ _ h => h) (by rfl) ?_ hS ?_
      rotate_left
      · intro w' hSw; (try dsimp only at hSw); go_simp <;> with_reducible rfl
      simp only [Act.put, List.setIfInBounds_toArray, List.set_cons_zero, List.set_cons_succ]
      refine held_one (i := 3) (by kernel_rfl) rfl (by rfl) ?_
      go_simp
      refine (NU.out).mono ?_; rintro e w5 ⟨rfl, e5, k5⟩
      have E5 := Lib.hid e5
      have K5 := Lib.hid (show Chg wr w5 (fun b => b = g) from (Chg.refl wr _).drew.trans k5)
      have hS : Hid (w5.cell? ⟨gr, 1, none⟩ = some (.slice A xs.length c)) := Lib.hid (((BK.out.chg K5.out NG.out).cell 1).trans rfl)
      refine ⟨hS, ?_⟩
      clear e5 k5
      (try simp only [Act.put, List.setIfInBounds_toArray, List.set_cons_zero, List.set_cons_succ])
      refine held_one (i := 4) (by kernel_rfl) rfl (by rfl) ?_
      go_simp
      have hS : Hid ((w5.alloc (.cells #[.int .i64 v] 3)).cell? ⟨gr, 1, none⟩ = some (.slice A xs.length c)) := Lib.hid ((((BK.out.chg K5.out NG.out).alloc _).cell 1).trans rfl)
      refine ⟨hS, ?_⟩
      have RO := Lib.hid ((RW.out.chg K5.out RG.out).new ((Below.refl w5.heap.size w5).alloc (Nat.le_refl _) (.cells #[.int .i64 v] 3))).own
      (try simp only [Act.put, List.setIfInBounds_toArray, List.set_cons_zero, List.set_cons_succ])
      refine held_one (i := 5) (by kernel_rfl) rfl (by rfl) ?_
      refine wp_append_d (d := some 18) rfl (.tmp 14) (.tmp 17) 24 rfl 0 3 i0 z0 1 8 Tryz.underlying24 INF.out.1 INF.out.2.1 INF.out.2.2.2.1 INF.out.2.2.2.2 INF.out.2.2.1 (by decide) (.slice A xs.length c) xs.length (vi xs) rfl RO.out ⟨w5.heap.size, 0, none⟩ 1 1 [.int .i64 v] rfl rfl (World.news_of_block (Blk.new w5 3 _)) (by intro u hu; rw [List.mem_singleton.1 hu]; rfl) (by decide) (by unfold maxLen; omega) (by omega) (Nat.zero_le _) ?_
      intro g6 cap6 w6 o6 k6 at6 l6
      have O6 := Lib.hid (show RowW w6 3 1 (some ⟨g6, 0, none⟩) (xs.length + 1) cap6 (vi (xs ++ [v])) from ⟨by rw [vi_snoc]; exact o6⟩)
      have K6 := Lib.hid (show Chg wr w6 (fun b => b = g ∨ inB A b) from (K5.out.weak (fun _ h => .inl h)).trans ((chg_of_grown ((Below.refl w5.heap.size w5).alloc (Nat.le_refl _) _) k6).weak (fun _ h => .inr h)))
      have AT6 := Lib.hid (at_of (w := w5) (by simp) at6)
      have K56 := Lib.hid (chg_of_grown ((Below.refl w5.heap.size w5).alloc (Nat.le_refl _) _) k6)
      have hS : Hid (w6.cell? ⟨gr, 1, none⟩ = some (.slice A xs.length c)) := Lib.hid (((BK.out.chg K6.out (fun h => h.elim NG.out (fun h => absurd (FR.out _ h) (Nat.lt_irrefl _)))).cell 1).trans rfl)
      refine ⟨hS, ?_⟩
      clear o6 k6 at6 l6
      (try simp only [Act.put, List.setIfInBounds_toArray, List.set_cons_zero, List.set_cons_succ])
      refine wpAnyH_done (by kernel_rfl) ?_ _
      show wpList _ _ _ _ _ _
      have lg := Nat.lt_of_lt_of_le SZ.out K6.out.size
      have NG6 := Lib.hid (show ¬ (gr = g ∨ inB A gr) from fun h => h.elim NG.out (fun h => absurd (FR.out _ h) (Nat.lt_irrefl _)))
      have BK6 := Lib.hid (BK.out.chg K6.out NG6.out)
      have fz := BK6.out.frozen 1
      have ca6 := (BK6.out.cell 1).trans (show _ = some (.slice A xs.length c) from rfl)
      go_wp2
      have KS := Lib.hid (Chg.set w6 1 (.slice (some ⟨g6, 0, none⟩) (xs.length + 1) cap6) (g := gr) (S := fun b => b = gr) rfl)
      have GG := Lib.hid (show gr < g6 from AT6.out.elim (fun h => FR.out _ h) (fun h => by have h1 := K5.out.size; have h2 := SZ.out; omega))
      go_roundw
      case rel =>
        refine ⟨j + 1, xs ++ [v], s', some ⟨g6, 0, none⟩, cap6, by go_num, by omega, Lib.hid ⟨?_, by simp [RI.out.2]⟩, Lib.hid ?_, Lib.hid ?_, Lib.hid ?_, Lib.hid ?_, Lib.hid ?_, Lib.hid ?_, Lib.hid ?_⟩
        · show ((readInts j sN).1 ++ [(intS (readInts j sN).2 2).1], (intS (readInts j sN).2 2).2) = _
          rw [RI.out.1, HV.out]
        · exact (E5.out.away K56.out (fun b h => Nat.lt_trans zg.out (FR.out b h))).away KS.out (fun b h => by rw [h]; exact zg.out)
        · have := BK6.out.put 1 (.slice (some ⟨g6, 0, none⟩) (xs.length + 1) cap6)
          rw [show (xs ++ [v]).length = xs.length + 1 from by simp]
          simpa using this
        · rw [show (xs ++ [v]).length = xs.length + 1 from by simp]
          exact O6.out.chg KS.out (fun b e h => by have := inB_some e; have := GG.out; omega)
        · intro b e
          rw [inB_some e]
          exact GG.out
        · have := z2.out
          exact (RC.out.chg K6.out (fun h => h.elim (by omega) (fun h => by have := FR.out _ h; omega))).chg KS.out (by omega)
        · have := z2.out
          exact chg_cut (chg_cut KC.out K6.out (fun b hb h => h.elim id (fun h => by have := FR.out _ h; omega))) KS.out (fun b hb h => by omega)
        · exact Nat.lt_of_lt_of_le SZ.out (Nat.le_trans K6.out.size KS.out.size)
      case measure => simp [intOf]; omega
    · have hjN : (j : Int) = N := by omega
      have ca := (BK.out.cell 0).trans (show _ = some (.int .i64 G) from rfl)
      have cb := (BK.out.cell 1).trans (show _ = some (.slice A xs.length c) from rfl)
      have EV := Lib.hid (show rootR l = (G, xs) from by rw [EQ.out, show N.toNat = j from by omega, RI.out.1])
      have KE := Lib.hid (Chg.setRow wr #[.int .i64 G, .slice A xs.length c] (g := w.heap.size) (S := fun b => b = w.heap.size) rfl)
      have z2' := z2.out
      clear hjN
      go_upto_region 7 with fail
      go_wp2_with (refine wpList_store_row rfl 49 (.tmp 2) (.tmp 21) rfl w.heap.size #[.int .i64 G, .slice A xs.length c] rfl rfl 49 _ RC.out root_info rfl (by simp [Value.oneCell']) ?_; refine Hid.out ?_)
      unfold Hid
      go_wp2
      refine bodyPost_ret (v := .agg #[.int .i64 G, .slice A xs.length c]) (results_cell_row Tryz.results85 _ _ w.heap.size 49 _ (0, 0) _ rfl (RC.out.row _) Tryz.underlying49 rfl root_info) rfl ?_
      refine ⟨A, c, by rw [EV.out], ?_, fun b e => by have := FR.out b e; omega, ?_⟩
      · rw [EV.out]
        exact rowG_of (RW.out.chg KE.out (fun b e h => by have := FR.out b e; omega))
      · exact chg_cut KC.out KE.out (fun b hb h => by omega)

theorem src_chg {w w' : World} {A : Option Addr} {n c : Nat} {l : List UInt8} {S : Nat → Prop} (h : Src w A n c l) (k : Chg w w' S) (hn : 0 < l.length → ∀ b o, A = some ⟨b, o, none⟩ → ¬ S b) : Src w' A n c l := by
  refine ⟨⟨fun hp => ?_, h.len, h.cap, h.max⟩, h.none_⟩
  obtain ⟨b, o, e, hb, hc⟩ := h.lies hp
  refine ⟨b, o, e, Nat.lt_of_lt_of_le hb k.size, fun j hj => ?_⟩
  rw [World.cell?_of_block (w := w) (w' := w') (a := ⟨b, o + j, none⟩) (k.block b hb (hn (by rw [bys_length] at hp; exact hp) b o e))]
  exact hc j hj
/-- Bytes that are there don't lie where the reader does. -/
theorem src_eye {w : World} {A : Option Addr} {n c g : Nat} {l : List UInt8} {s : Rd} (h : Src w A n c l) (he : EyeS w g s) : 0 < l.length → ∀ b o, A = some ⟨b, o, none⟩ → ¬ b = g := by
  intro hp b o e hbg
  subst e hbg
  obtain ⟨b', o', e', _, hc⟩ := h.lies (by rw [bys_length]; exact hp)
  cases e'
  have h0 := hc 0 (by rw [bys_length]; exact hp)
  obtain ⟨_, _, A', c', hb, _⟩ := he.at_
  rw [hb.cell (o + 0)] at h0
  simp only [bys, List.getElem_map] at h0
  match o, h0 with
  | 0, h0 => simp at h0
  | 1, h0 => simp at h0
  | n + 2, h0 => simp at h0
/-- 'b[:k]' of bytes. -/
theorem one_ent (s : ByteArray) (v : Int) : ∀ u ∈ [Value.string s, Value.int .i64 v], u.oneCell' = true := by
  intro u hu
  simp only [List.mem_cons, List.not_mem_nil, or_false] at hu
  rcases hu with rfl | rfl <;> rfl
/-- append(l, x), what was laid for x a block of its own, the last one. -/
theorem wpList_append_W {ops : Array Oper} {rest : List Oper} {o : Oper} {a : Act} {Q : Exit → Act → World → Prop} {w : World} (hgd : o.guard = none) (s x : Operand) (T E : TypeId)
    (ho : o.op = .call { callee := .builtin .append, args := #[s, x], argTypes := #[T, T] }) (hT : Tryz.prog.underlying T = some (.slice E)) (i0 : TypeInfo) (z0 : Value) (sz bytes : Nat)
    (hi : Tryz.prog.info? E = some i0) (hz : i0.zero = some z0) (hsize : i0.size = sz) (hby : i0.bytes = bytes) (hzs : z0.cells.size = sz) (hsz : 0 < sz) (hb32 : bytes ≤ 32)
    {A : Option Addr} {n c : Nat} {xs : List Value} (hs : a.eval s = .slice A n c) (hown : w.ownsRow 0 E sz (.slice A n c) n xs)
    (us : List Value) (hx : a.eval x = .slice (some ⟨w.heap.size, 0, none⟩) 1 1) (hl : us.length = sz) (h1 : ∀ u ∈ us, u.oneCell' = true) (hn : n ≤ 1000000)
    (h : ∀ g cap w', RowW w' E sz (some ⟨g, 0, none⟩) (n + 1) cap (xs ++ us) → Chg w w' (fun k => inB A k) → (inB A g ∨ w.heap.size ≤ g) → wpList Tryz.prog ops Q rest (a.put o.dst (.slice (some ⟨g, 0, none⟩) (n + 1) cap)) w') :
    wpList Tryz.prog ops Q (o :: rest) a (w.alloc (.cells us.toArray E)) := by
  have b := (Below.refl w.heap.size w).alloc (Nat.le_refl _) (.cells us.toArray E)
  have hown' : (w.alloc (.cells us.toArray E)).ownsRow 0 E sz (.slice A n c) n xs := hown.alloc _
  refine wpList_plain hgd fun K hK => ?_
  refine wp_append_d rfl s x T ho 0 E i0 z0 sz bytes hT hi hz hsize hby hzs hsz _ n xs hs hown' ⟨w.heap.size, 0, none⟩ 1 1 us hx (by omega) (World.news_of_block (Blk.new w E _)) h1 (by decide) (by unfold maxLen; omega) ?_ (Nat.zero_le _) ?_
  · have := Nat.mul_le_mul_left (n + 1) hb32
    omega
  · intro g cap w' o' k' at' _
    exact hK _ _ (h g cap w' ⟨o'⟩ (chg_of_grown b k') (at_of (by simp) at'))
theorem ent_infos : (Tryz.prog.info? 56).map (fun i => (i.zero.map (·.cells.size), i.size, i.bytes)) = some (some 2, 2, 24) := by kernel_rfl
theorem ent_info : ∃ i0 z, Tryz.prog.info? 56 = some i0 ∧ i0.zero = some z ∧ z.cells.size = 2 ∧ i0.size = 2 ∧ i0.bytes = 24 := by
  obtain ⟨i, hi, hs⟩ := Option.map_eq_some_iff.1 ent_infos
  simp only [Prod.mk.injEq] at hs
  obtain ⟨h0, h1, h2⟩ := hs
  obtain ⟨z, hz, hzs⟩ := Option.map_eq_some_iff.1 h0
  exact ⟨i, z, hi, hz, hzs, h1, h2⟩
theorem ve_snoc (l : List Ent) (e : Ent) : ve (l ++ [e]) = ve l ++ [.string ⟨e.name.toArray⟩, .int .i64 e.ino] := by simp [ve]

end Go.Proofs.YtefnkednnnlhoaaGreatDoor.In

/- Layer 11: files read. Conditions: those that each states. -/
namespace Go.Proofs.YtefnkednnnlhoaaGreatDoor.In
open Go.ChangeShapes Go.WideShapes Go.ChangeAt Go.RowKit Go.Deep Fl Rk Di
set_option linter.unusedVariables false
set_option linter.unusedSimpArgs false

theorem file_info : (Tryz.prog.info? 27).map (·.size) = some 5 := by kernel_rfl
end Go.Proofs.YtefnkednnnlhoaaGreatDoor.In
