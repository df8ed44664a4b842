/- Package store: which blocks a tree uses. Conditions: those that each states. -/
import Derived.Test.YtefnkednnnlhoaaGreatDoorMBA
import Derived.Test.YtefnkednnnlhoaaGreatDoorMAX
import Derived.Test.YtefnkednnnlhoaaGreatDoorMAE
namespace Go.Proofs.YtefnkednnnlhoaaGreatDoor.Sr
open Go.ChangeShapes Go.WideShapes Go.ChangeAt Go.RowKit Go.Deep Fr Di Ke Rk
set_option linter.unusedVariables false
set_option linter.unusedSimpArgs false

theorem row_one (w : World) (x : Int) : RowG (w.alloc (.cells #[.int .i64 x] 3)) 1 (some ⟨w.heap.size, 0, none⟩) 1 1 (In.vi [x]) := by
  refine ⟨rfl, Nat.le_refl _, by unfold maxLen; omega, fun e => (by cases e), fun a e h0 => ?_⟩
  cases e
  refine ⟨rfl, by simp, fun j hj => ?_⟩
  have hj' : j = 0 := by simp [In.vi] at hj; omega
  subst hj'
  rw [(Blk.new w 3 #[.int .i64 x]).cell]
  rfl

set_option maxRecDepth 100000 in
set_option maxHeartbeats 4000000 in
theorem used_any {w : World} {lab : Nat → Nat} (gn : Int) (D : Option Addr) (ds : List Int) (cd : Nat) (A : Option Addr) (c : Nat) (l : List Lf) (hD : RowG w 1 D ds.length cd (In.vi ds)) (hdl : ds.length ≤ 1000) (hl : FAt w lab A c l) (hll : l.length ≤ 1000)
    (hd : ∀ d ∈ ds, 0 ≤ d ∧ d < 512) (hx : ∀ x ∈ l, (0 ≤ x.ino ∧ x.ino < 512) ∧ (∀ d ∈ x.f.blocks, 0 ≤ d ∧ d < 512) ∧ x.f.blocks.length ≤ 1000) :
    Calls Tryz.prog 75 #[.agg (trV gn D ds.length cd A l.length c)] w fun e w' => e = .returned (.agg (ub (usedR ds l))) ∧ Below w.heap.size w w' := by
  have b1 := (Below.refl w.heap.size w).alloc (Nat.le_refl _) (.cells (trV gn D ds.length cd A l.length c) 52)
  have B1 := Lib.hid b1
  have K1 := Lib.hid (Blk.new w 52 (trV gn D ds.length cd A l.length c))
  have RD := Lib.hid (hD.new b1)
  have RDW := Lib.hid (show 0 < ds.length → ∀ a, D = some a → a.block < w.heap.size from fun h0 a e => (hD.at_ a e h0).2.1)
  have HL := Lib.hid hl
  have HD := Lib.hid hd
  have HX := Lib.hid hx
  obtain ⟨nd, hnd⟩ : ∃ nd, ds.length = nd := ⟨_, rfl⟩
  obtain ⟨n, hnl⟩ : ∃ n, l.length = n := ⟨_, rfl⟩
  rw [hnd] at RD RDW hdl B1 K1 ⊢
  rw [hnl] at hll B1 K1 ⊢
  have LD := Lib.hid hnd
  have LN := Lib.hid hnl
  obtain ⟨fin, hfin⟩ : ∃ fin, usedR ds l = fin := ⟨_, rfl⟩
  rw [hfin]
  have FIN := Lib.hid hfin
  obtain ⟨uf, huf⟩ : ∃ uf, ub fin = uf := ⟨_, rfl⟩
  rw [huf]
  have UF := Lib.hid huf
  clear huf
  have FL := Lib.hid (show fin.length = 512 from by rw [← hfin]; unfold usedR; rw [usedL, mk_length]; simp)
  obtain ⟨zs, hzs⟩ : ∃ zs, List.replicate 512 false = zs := ⟨_, rfl⟩
  have UZ := used_zero
  rw [hzs] at UZ
  have ZE := Lib.hid hzs
  have ZL := Lib.hid (show zs.length = 512 from by rw [← hzs]; simp)
  clear b1 hD hl hd hx hnd hnl hfin hzs
  rw [show l.length = n from LN.out] at RD
  go_enter Tryz.func75, Tryz.ntmps75
  go_wp2_with (first
    | (refine wpList_alloc_z rfl 121 rfl (ub zs) UZ ?_; refine Hid.out ?_)
    | fail)
  unfold Hid
  generalize w.alloc (.cells (trV gn D nd cd A n c) 52) = W at *
  obtain ⟨q, hq⟩ : ∃ q, w.heap.size = q := ⟨_, rfl⟩
  rw [hq] at K1 RDW ⊢
  have Q := Lib.hid hq
  have WS := Lib.hid (show q + 1 ≤ W.heap.size from K1.out.lt)
  intro w2 k2 b2
  have U2 := Lib.hid k2
  have B2 := Lib.hid (show Below w.heap.size w w2 from B1.out.trans (b2.mono (by rw [hq]; omega)))
  have z1 := ((K1.out.below b2 (by omega)).cell 1).trans (show _ = some (.slice D nd cd) from rfl)
  have z2 := ((K1.out.below b2 (by omega)).cell 2).trans (show _ = some (.slice A n c) from rfl)
  have RD2 := Lib.hid (show RowG w2 1 D nd cd (In.vi ds) from by
    have r := RD.out
    exact ⟨r.len, r.cap, r.max, r.none_, fun a e h0 => by
      obtain ⟨h3, h1, h2⟩ := r.at_ a e h0
      have hl := RDW.out h0 a e
      refine ⟨h3, Nat.lt_of_lt_of_le hl (by have := b2.size; have := WS.out; omega), fun j hj => ?_⟩
      rw [World.cell?_of_block (w := W) (w' := w2) (a := ⟨a.block, a.off + j, none⟩) (b2.block a.block (by omega))]
      exact h2 j hj⟩)
  clear k2 b2 hq K1 B1 RD UZ
  have MK := Lib.hid (mark_any (q + 1) zs ZL.out U2.out D cd ds (by rw [LD.out]; exact RD2.out) HD.out (by rw [LD.out]; omega) (fun h0 a e => by rw [LD.out] at h0; have := RDW.out h0 a e; omega))
  rw [LD.out] at MK
  go_wp2_with fail
  refine MK.out.mono ?_; rintro e w3 ⟨rfl, k3, u3⟩
  have U3 := Lib.hid u3
  have B3 := Lib.hid (B2.out.trans (k3.below (B := w.heap.size) B2.out.size (fun i hi => by have hi' : i = q + 1 := hi; have := Q.out; omega)))
  have z2 : w3.cell? ⟨q, 2, none⟩ = some (.slice A n c) := by
    rw [World.cell?_of_block (w := w2) (w' := w3) (a := ⟨q, 2, none⟩) (k3.block q (by have := U2.out.lt; omega) (by omega))]; exact z2
  have GE := Lib.hid (show q + 1 < w3.heap.size from U3.out.lt)
  clear k3 u3 MK RD2 U2 B2 z1
  obtain ⟨us0, hus0⟩ : ∃ us0, mk zs ds = us0 := ⟨_, rfl⟩
  rw [hus0] at U3
  have US0 := Lib.hid hus0
  have FU := Lib.hid (show l.foldl usedF us0 = fin from by rw [← FIN.out, ← hus0, ← ZE.out]; rfl)
  have UL := Lib.hid (show ∀ j, ((l.take j).foldl usedF us0).length = 512 from fun j => by rw [usedL, ← hus0, mk_length, ZL.out])
  clear hus0
  go_wp2
  go_loopw [15] (fun i wr => ∃ j : Nat, j ≤ n ∧ i = .int .i64 (j : Int) ∧ Hid (Blk wr (q + 1) 121 (ub ((l.take j).foldl usedF us0))) ∧ Hid (Below w.heap.size w wr)) (fun i _ => n - (intOf i).toNat)
  case atStart => exact ⟨0, Nat.zero_le _, rfl, U3, B3⟩
  case round =>
    obtain ⟨j, hj, rfl, UR, BW⟩ := hrel
    have UR' := Lib.hid UR.out.lt
    clear U3 B3 z2
    by_cases hlt : j < n
    rotate_left
    · have hlt' : ¬ (j : Int) < (n : Int) := by omega
      rw [show l.take j = l from List.take_of_length_le (by rw [LN.out]; omega), FU.out] at UR
      have hi : (Tryz.prog.info? 121).map (·.size) = some (ub fin).size := by rw [ub_size, FL.out]; exact bt_info
      have h1 : (ub fin).all (·.oneCell') = true := by
        rw [Array.all_eq_true_iff_forall_mem]
        intro v hv
        unfold ub at hv
        simp at hv
        rcases hv with ⟨_, rfl⟩ | ⟨_, rfl⟩ <;> rfl
      rw [UF.out] at UR hi h1
      go_wp2_with (first
        | (refine wpList_load_row rfl 121 (.tmp 2) rfl (q + 1) rfl 121 _ (0, 0) _ UR.out Tryz.underlying121 rfl hi ?_)
        | (refine wpList_store_row rfl 121 (.tmp 2) (.tmp 31) rfl (q + 1) uf rfl rfl 121 _ UR.out hi rfl h1 ?_)
        | fail)
      refine bodyPost_ret (v := .agg uf) ?_ rfl ?_
      · exact results_cell_row Tryz.results75 _ _ (q + 1) 121 _ (0, 0) _ rfl (UR.out.row _) Tryz.underlying121 rfl hi
      exact ⟨rfl, below_setRow BW.out (by have := Q.out; omega) _⟩
    have hlt' : (j : Int) < (n : Int) := by omega
    have j0 : (0 : Int) ≤ (j : Int) := by omega
    have hjl : j < l.length := by rw [LN.out]; exact hlt
    have x4 := IntWalk.i64_in ((j : Int) + 1) (by omega)
    obtain ⟨b, o, rfl, hb, hc0⟩ := HL.out.cell hjl
    have hc : ∀ k, k < 7 → wr.cell? ⟨b, o + j * 7 + k, none⟩ = (l[j].vals)[k]? := fun k hk => by
      rw [World.cell?_of_block (w := w) (w' := wr) (a := ⟨b, o + j * 7 + k, none⟩) (BW.out.block b hb)]; exact hc0 k hk
    have y0 : wr.cell? ⟨b, o + j * 7, none⟩ = some (.string ⟨l[j].name.toArray⟩) := (hc 0 (by omega)).trans rfl
    have y1 : wr.cell? ⟨b, o + j * 7 + 1, none⟩ = some (.int .i64 l[j].ino) := (hc 1 (by omega)).trans rfl
    have y2 : wr.cell? ⟨b, o + j * 7 + 2, none⟩ = some (.int .i64 l[j].f.ver) := (hc 2 (by omega)).trans rfl
    have y3 : wr.cell? ⟨b, o + j * 7 + 3, none⟩ = some (.int .i64 l[j].f.mtime) := (hc 3 (by omega)).trans rfl
    have y4 : wr.cell? ⟨b, o + j * 7 + 4, none⟩ = some (.int .i64 l[j].f.len) := (hc 4 (by omega)).trans rfl
    have y5 : wr.cell? ⟨b, o + j * 7 + 5, none⟩ = some (.slice l[j].A l[j].f.blocks.length l[j].c) := (hc 5 (by omega)).trans rfl
    have y6 : wr.cell? ⟨b, o + j * 7 + 6, none⟩ = some (.slice l[j].A' l[j].f.parts.length l[j].c') := (hc 6 (by omega)).trans rfl
    obtain ⟨⟨i0, i5⟩, hbk, hbl⟩ := HX.out l[j] (List.getElem_mem hjl)
    have BR := Lib.hid (fun w1 (k : Below w.heap.size w w1) => (HL.out.bl l[j] (List.getElem_mem hjl)).1.new k)
    have BRW := Lib.hid (show 0 < l[j].f.blocks.length → ∀ a, l[j].A = some a → a.block < w.heap.size from fun h0 a e => ((HL.out.bl l[j] (List.getElem_mem hjl)).2 h0 a e).1)
    have HBK := Lib.hid hbk
    have HI := Lib.hid (show ∀ d ∈ [l[j].ino], 0 ≤ d ∧ d < 512 from fun d hd => by rw [List.mem_singleton.1 hd]; exact ⟨i0, i5⟩)
    have FS := Lib.hid (show (l.take (j + 1)).foldl usedF us0 = mk (mk ((l.take j).foldl usedF us0) [l[j].ino]) l[j].f.blocks from by
      rw [List.take_succ_eq_append_getElem hjl, List.foldl_append]; rfl)
    have UJ := Lib.hid (UL.out j)
    generalize (l.take j).foldl usedF us0 = us at *
    have b5 := (Below.refl wr.heap.size wr).alloc (Nat.le_refl _) (.cells #[.string ⟨l[j].name.toArray⟩, .int .i64 l[j].ino, .int .i64 l[j].f.ver, .int .i64 l[j].f.mtime, .int .i64 l[j].f.len, .slice l[j].A l[j].f.blocks.length l[j].c, .slice l[j].A' l[j].f.parts.length l[j].c'] 58)
    have B5 := Lib.hid (BW.out.trans (b5.mono BW.out.size))
    have K5 := Lib.hid (Blk.new wr 58 #[.string ⟨l[j].name.toArray⟩, .int .i64 l[j].ino, .int .i64 l[j].f.ver, .int .i64 l[j].f.mtime, .int .i64 l[j].f.len, .slice l[j].A l[j].f.blocks.length l[j].c, .slice l[j].A' l[j].f.parts.length l[j].c'])
    have U5 := Lib.hid (UR.out.older (older_below b5))
    clear hc hc0 hbk i0 i5 b5 BW UR
    generalize l[j] = x at *
    go_upto_region 6 with fail
    generalize wr.alloc (.cells #[.string ⟨x.name.toArray⟩, .int .i64 x.ino, .int .i64 x.f.ver, .int .i64 x.f.mtime, .int .i64 x.f.len, .slice x.A x.f.blocks.length x.c, .slice x.A' x.f.parts.length x.c'] 58) = w5 at *
    obtain ⟨gl, hgl⟩ : ∃ gl, wr.heap.size = gl := ⟨_, rfl⟩
    rw [hgl] at K5 ⊢
    have GL := Lib.hid (show q + 1 < gl from by rw [← hgl]; exact UR'.out)
    clear y0 y1 y2 y3 y4 y5 y6 hgl
    have k1 := (K5.out.cell 1).trans (show _ = some (.int .i64 x.ino) from rfl)
    have MK := Lib.hid (fun u1 => mark_any (w := w5.alloc (.cells #[.int .i64 x.ino] 3)) (q + 1) us UJ.out u1 (some ⟨w5.heap.size, 0, none⟩) 1 [x.ino] (row_one w5 x.ino) HI.out (by simp) (fun _ a e => by cases e; have := U5.out.lt; show w5.heap.size ≠ q + 1; omega))
    have b6 := (Below.refl w5.heap.size w5).alloc (Nat.le_refl _) (.cells #[.int .i64 x.ino] 3)
    have M6 := Lib.hid (MK.out (U5.out.older (older_below b6)))
    have B6 := Lib.hid (B5.out.trans (b6.mono B5.out.size))
    have K6 := Lib.hid (K5.out.older (older_below b6))
    clear b6 MK U5 B5 K5
    go_wp2_with fail
    refine M6.out.mono ?_; rintro e w7 ⟨rfl, k7, u7⟩
    have B7 := Lib.hid (B6.out.trans (k7.below (B := w.heap.size) B6.out.size (fun i hi => by have hi' : i = q + 1 := hi; have := Q.out; omega)))
    have K7 := Lib.hid (K6.out.chg k7 (by have := GL.out; omega))
    have U7 := Lib.hid u7
    clear k7 u7 M6 B6 K6 k1
    have k5 := (K7.out.cell 5).trans (show _ = some (.slice x.A x.f.blocks.length x.c) from rfl)
    have M8 := Lib.hid (mark_any (w := w7) (q + 1) (mk us [x.ino]) (by rw [mk_length, UJ.out]) U7.out x.A x.c x.f.blocks (BR.out w7 B7.out) HBK.out (by omega) (fun h0 a e => by have := BRW.out h0 a e; have := Q.out; omega))
    go_wp2_with fail
    refine M8.out.mono ?_; rintro e w8 ⟨rfl, k8, u8⟩
    have B8 := Lib.hid (B7.out.trans (k8.below (B := w.heap.size) B7.out.size (fun i hi => by have hi' : i = q + 1 := hi; have := Q.out; omega)))
    have U8 := Lib.hid u8
    clear k8 u8 M8 B7 K7 U7 k5
    go_wp2
    go_roundw
    case rel => exact ⟨j + 1, by omega, by go_num, by rw [FS.out]; exact U8, B8⟩
    case measure => simp [intOf]; omega
end Go.Proofs.YtefnkednnnlhoaaGreatDoor.Sr

/- slices.Clone of rows of numbers. Conditions: those that each states. -/
namespace Go.Proofs.YtefnkednnnlhoaaGreatDoor.Sr
open Go.ChangeShapes Go.WideShapes Go.ChangeAt Go.RowKit Go.Deep Fr Di Ke Rk
set_option linter.unusedVariables false
set_option linter.unusedSimpArgs false

theorem add_of {ad : Addr} (h : ad = ⟨ad.block, ad.off, none⟩) (j : Nat) : ad.add j = ⟨ad.block, ad.off + j, none⟩ := by
  obtain ⟨b, o, e⟩ := ad
  simp only [Addr.mk.injEq, true_and] at h
  subst h
  unfold Addr.add
  split <;> simp_all

set_option maxRecDepth 100000 in
theorem clone_ints (A : Option Addr) (c : Nat) (ds : List Int) (w : World) (h : RowG w 1 A ds.length c (In.vi ds)) (hm : ds.length ≤ 1000000) :
    Calls Tryz.prog 15 #[.slice A ds.length c] w fun e w' => ∃ A' c', e = .returned (.slice A' ds.length c') ∧ RowG w' 1 A' ds.length c' (In.vi ds) ∧ (∀ b, 0 < ds.length → inB A' b → w.heap.size ≤ b) ∧ Below w.heap.size w w' := by
  have hvl : (In.vi ds).length = ds.length := by simp [In.vi]
  cases A with
  | none =>
    obtain ⟨h0, hc⟩ := h.none_ rfl
    have hd : ds = [] := List.length_eq_zero_iff.1 h0
    subst hd hc
    have he : ∀ W, (binOp .eql 24 (.slice none 0 0) (.slice none 0 0)).run Tryz.prog W = .ok (.bool (none : Option Addr).isNone) W := fun W => Lib.run_eql_slice_nil W 24 3 none 0 0 0 0 Tryz.underlying24
    have he := fun W => (he W).trans (congrArg (fun b => Result.ok (Value.bool b) W) (show (none : Option Addr).isNone = true from rfl))
    have h0 : Calls Tryz.prog 15 #[.slice none 0 0] w fun e w' => e = .returned (.slice none 0 0) ∧ w' = w := by
      go_enter Tryz.func15, Tryz.ntmps15
      go_wp2
      go_ret
      exact ⟨rfl, rfl⟩
    refine h0.mono ?_
    rintro e w' ⟨rfl, rfl⟩
    exact ⟨none, 0, rfl, RowG.nil _ 1, fun b hb => absurd hb (by decide), Below.refl _ _⟩
  | some ad =>
    have he : ∀ W, (binOp .eql 24 (.slice (some ad) ds.length c) (.slice none 0 0)).run Tryz.prog W = .ok (.bool (some ad).isNone) W := fun W => Lib.run_eql_slice_nil W 24 3 (some ad) ds.length c 0 0 Tryz.underlying24
    have he := fun W => (he W).trans (congrArg (fun b => Result.ok (Value.bool b) W) (show (some ad).isNone = false from rfl))
    have b0 := (Below.refl w.heap.size w).alloc (Nat.le_refl _) (.cells #[] 3)
    have B0 := Lib.hid b0
    have hown := Lib.hid (show Row (w.alloc (.cells #[] 3)) w.heap.size 3 (some ⟨w.heap.size, 0, none⟩) 0 [] from ⟨World.ownsRow_lit (base := w.heap.size) (e := 3) (size := 1) w #[] 0 (Nat.le_refl _) (by decide) rfl⟩)
    have NW := Lib.hid (show ∀ j u, (In.vi ds)[j]? = some u → (w.alloc (.cells #[] 3)).cell? (ad.add j) = some u from fun j u hu => by
      obtain ⟨hj, e⟩ := List.getElem?_eq_some_iff.1 hu
      have hn : 0 < ds.length := by omega
      obtain ⟨h3, h1, h2⟩ := (h.new b0).at_ ad rfl hn
      have ea : ad.add j = ⟨ad.block, ad.off + j, none⟩ := add_of h3 j
      rw [ea, h2 j hj, e])
    have HV := Lib.hid hvl
    clear h b0 hvl
    go_enter Tryz.func15, Tryz.ntmps15
    go_wp2_with (at_builtin; refine Hid.out ?_)
    unfold Hid
    refine wpList_append_row rfl _ _ rfl Tryz.underlying24 (.int .i64 0) 8 rfl (by decide) (by kernel_rfl) (B := w.heap.size) (A := some ⟨w.heap.size, 0, none⟩) (c := 0) (xs := []) rfl hown.out B0.out.size ad ds.length c (In.vi ds) rfl HV.out NW.out (fun u hu => by obtain ⟨p, _, rfl⟩ := List.mem_map.1 hu; rfl) (by simpa using hm) ?_
    intro A' c2 w' r k _
    rw [List.nil_append] at r ⊢
    have R := Lib.hid r
    have B1 := Lib.hid (show Below w.heap.size w w' from B0.out.trans (k.below (by simp) (fun i e => (hown.out.lt i e).1)))
    have G1 := Lib.hid (show RowG w' 1 A' ds.length c2 (In.vi ds) from by
      obtain ⟨A2, c3, e, g, _⟩ := RowG.of_owns r.own
      cases e
      rw [HV.out] at g
      exact g)
    have F1 := Lib.hid (show ∀ b, 0 < ds.length → inB A' b → w.heap.size ≤ b from fun b _ hb => (r.lt b (inB_own.2 hb)).1)
    have HV2 := HV.out
    clear r k hown NW he
    rw [HV2]
    go_wp2
    go_ret
    exact ⟨A', c2, rfl, G1.out, F1.out, B1.out⟩

set_option maxRecDepth 100000 in
theorem clone_cpx (A : Option Addr) (c : Nat) (ds : List (Nat × Nat)) (w : World) (h : RowG w 1 A ds.length c (In.vp ds)) (hm : ds.length ≤ 1000000) :
    Calls Tryz.prog 16 #[.slice A ds.length c] w fun e w' => ∃ A' c', e = .returned (.slice A' ds.length c') ∧ RowG w' 1 A' ds.length c' (In.vp ds) ∧ (∀ b, 0 < ds.length → inB A' b → w.heap.size ≤ b) ∧ Below w.heap.size w w' := by
  have hvl : (In.vp ds).length = ds.length := by simp [In.vp]
  cases A with
  | none =>
    obtain ⟨h0, hc⟩ := h.none_ rfl
    have hd : ds = [] := List.length_eq_zero_iff.1 h0
    subst hd hc
    have he : ∀ W, (binOp .eql 25 (.slice none 0 0) (.slice none 0 0)).run Tryz.prog W = .ok (.bool (none : Option Addr).isNone) W := fun W => Lib.run_eql_slice_nil W 25 61 none 0 0 0 0 Tryz.underlying25
    have he := fun W => (he W).trans (congrArg (fun b => Result.ok (Value.bool b) W) (show (none : Option Addr).isNone = true from rfl))
    have h0 : Calls Tryz.prog 16 #[.slice none 0 0] w fun e w' => e = .returned (.slice none 0 0) ∧ w' = w := by
      go_enter Tryz.func16, Tryz.ntmps16
      go_wp2
      go_ret
      exact ⟨rfl, rfl⟩
    refine h0.mono ?_
    rintro e w' ⟨rfl, rfl⟩
    exact ⟨none, 0, rfl, RowG.nil _ 1, fun b hb => absurd hb (by decide), Below.refl _ _⟩
  | some ad =>
    have he : ∀ W, (binOp .eql 25 (.slice (some ad) ds.length c) (.slice none 0 0)).run Tryz.prog W = .ok (.bool (some ad).isNone) W := fun W => Lib.run_eql_slice_nil W 25 61 (some ad) ds.length c 0 0 Tryz.underlying25
    have he := fun W => (he W).trans (congrArg (fun b => Result.ok (Value.bool b) W) (show (some ad).isNone = false from rfl))
    have b0 := (Below.refl w.heap.size w).alloc (Nat.le_refl _) (.cells #[] 61)
    have B0 := Lib.hid b0
    have hown := Lib.hid (show Row (w.alloc (.cells #[] 61)) w.heap.size 61 (some ⟨w.heap.size, 0, none⟩) 0 [] from ⟨World.ownsRow_lit (base := w.heap.size) (e := 61) (size := 1) w #[] 0 (Nat.le_refl _) (by decide) rfl⟩)
    have NW := Lib.hid (show ∀ j u, (In.vp ds)[j]? = some u → (w.alloc (.cells #[] 61)).cell? (ad.add j) = some u from fun j u hu => by
      obtain ⟨hj, e⟩ := List.getElem?_eq_some_iff.1 hu
      have hn : 0 < ds.length := by omega
      obtain ⟨h3, h1, h2⟩ := (h.new b0).at_ ad rfl hn
      have ea : ad.add j = ⟨ad.block, ad.off + j, none⟩ := add_of h3 j
      rw [ea, h2 j hj, e])
    have HV := Lib.hid hvl
    clear h b0 hvl
    go_enter Tryz.func16, Tryz.ntmps16
    go_wp2_with (at_builtin; refine Hid.out ?_)
    unfold Hid
    refine wpList_append_row rfl _ _ rfl Tryz.underlying25 (.complex .f64 0 0) 16 rfl (by decide) (by kernel_rfl) (B := w.heap.size) (A := some ⟨w.heap.size, 0, none⟩) (c := 0) (xs := []) rfl hown.out B0.out.size ad ds.length c (In.vp ds) rfl HV.out NW.out (fun u hu => by obtain ⟨p, _, rfl⟩ := List.mem_map.1 hu; rfl) (by simpa using hm) ?_
    intro A' c2 w' r k _
    rw [List.nil_append] at r ⊢
    have R := Lib.hid r
    have B1 := Lib.hid (show Below w.heap.size w w' from B0.out.trans (k.below (by simp) (fun i e => (hown.out.lt i e).1)))
    have G1 := Lib.hid (show RowG w' 1 A' ds.length c2 (In.vp ds) from by
      obtain ⟨A2, c3, e, g, _⟩ := RowG.of_owns r.own
      cases e
      rw [HV.out] at g
      exact g)
    have F1 := Lib.hid (show ∀ b, 0 < ds.length → inB A' b → w.heap.size ≤ b from fun b _ hb => (r.lt b (inB_own.2 hb)).1)
    have HV2 := HV.out
    clear r k hown NW he
    rw [HV2]
    go_wp2
    go_ret
    exact ⟨A', c2, rfl, G1.out, F1.out, B1.out⟩
end Go.Proofs.YtefnkednnnlhoaaGreatDoor.Sr
