/- Package store: Lookup. Conditions: those that each states. -/
import Derived.Test.YtefnkednnnlhoaaGreatDoorMAZ
import Derived.Test.YtefnkednnnlhoaaGreatDoorMBB
import Derived.Test.YtefnkednnnlhoaaGreatDoorMAY
namespace Go.Proofs.YtefnkednnnlhoaaGreatDoor.Sr
open Go.ChangeShapes Go.WideShapes Go.ChangeAt Go.RowKit Go.Deep Fr Di Ke Rk
set_option linter.unusedVariables false
set_option linter.unusedSimpArgs false

set_option maxRecDepth 100000 in
set_option maxHeartbeats 2000000 in
theorem lookup_yes {w : World} {lab : Nat → Nat} {gs g cd c : Nat} {gn : Int} {D A : Option Addr} {ds : List Int} {l : List Lf} {dead : Bool} (h : StAt w lab gs g gn D ds cd A c l dead) (nm : List UInt8) (hn : Pt.nameB nm = true) (i : Nat) (hi : atR l nm = i) (hil : i < l.length) (his : isR l nm i = true)
    (hbl : l[i].f.blocks.length ≤ 1000) (hpl : l[i].f.parts.length ≤ 1000) :
    Calls Tryz.prog 5 #[.pointer (some ⟨gs, 0, none⟩), .string ⟨nm.toArray⟩] w fun e w' => ∃ X cx Y cy, e = .returned (.tuple #[.agg #[.int .i64 l[i].f.ver, .int .i64 l[i].f.mtime, .int .i64 l[i].f.len, .slice X l[i].f.blocks.length cx, .slice Y l[i].f.parts.length cy], .int .i64 0]) ∧
      RowG w' 1 X l[i].f.blocks.length cx (In.vi l[i].f.blocks) ∧ RowG w' 1 Y l[i].f.parts.length cy (In.vp l[i].f.parts) ∧ (∀ b, 0 < l[i].f.blocks.length → inB X b → w.heap.size ≤ b) ∧ Below w.heap.size w w' := by
  have B0 := Lib.hid ((Below.refl w.heap.size w).alloc (Nat.le_refl _) (.cells f0V 27))
  have R0 := Lib.hid (Blk.new w 27 f0V)
  have H := Lib.hid (h.new B0.out)
  obtain ⟨W, hW⟩ : ∃ W, w.alloc (.cells f0V 27) = W := ⟨_, rfl⟩
  rw [hW] at B0 R0 H
  have HW := Lib.hid hW
  have NM := Lib.hid (In.name_all nm W)
  rw [hn] at NM
  have FD := Lib.hid (fun w1 (k : Below W.heap.size W w1) => find_any gn D ds.length cd A c l nm w1 lab (H.out.files.new k) (by have := H.out.few; omega))
  rw [hi, his] at FD
  have Z := Lib.hid H.out.head
  have FEW := Lib.hid H.out.few
  obtain ⟨b, o, hA, hb, hc⟩ := h.files.cell hil
  have HC := Lib.hid (show ∀ w1, Below w.heap.size w w1 → ∀ k, k < 7 → w1.cell? ⟨b, o + i * 7 + k, none⟩ = (l[i].vals)[k]? from fun w1 bw k hk => by
    rw [World.cell?_of_block (w := w) (w' := w1) (a := ⟨b, o + i * 7 + k, none⟩) (bw.block b hb)]; exact hc k hk)
  have BR := Lib.hid (show ∀ w1, Below w.heap.size w w1 → RowG w1 1 l[i].A l[i].f.blocks.length l[i].c (In.vi l[i].f.blocks) from fun w1 bw => ((h.files.bl _ (List.getElem_mem hil)).1.new bw))
  have PR := Lib.hid (show ∀ w1, Below w.heap.size w w1 → RowG w1 1 l[i].A' l[i].f.parts.length l[i].c' (In.vp l[i].f.parts) from fun w1 bw => ((h.files.pt _ (List.getElem_mem hil)).1.new bw))
  have i0 : (0 : Int) ≤ (i : Int) := by omega
  have il : (i : Int) < (l.length : Int) := by omega
  clear hW h hn hi his hc
  generalize l[i] = x at *
  obtain ⟨nb, hnb⟩ : ∃ nb, x.f.blocks.length = nb := ⟨_, rfl⟩
  obtain ⟨np, hnp⟩ : ∃ np, x.f.parts.length = np := ⟨_, rfl⟩
  rw [hnb] at hbl BR ⊢
  rw [hnp] at hpl PR ⊢
  have NBL := Lib.hid hnb
  have NPL := Lib.hid hnp
  subst hA
  clear hnb hnp
  go_enter Tryz.func5, Tryz.ntmps5
  go_upto_region 1 with fail
  rw [HW.out]
  go_wp2_with fail
  refine NM.out.mono ?_; rintro e w1 ⟨rfl, b1⟩
  have R1 := Lib.hid (R0.out.older (older_below b1))
  have B1 := Lib.hid (B0.out.trans (b1.mono B0.out.size))
  have Z1' := Lib.hid (Z.out.older (older_below b1))
  have z0 := (Z1'.out.cell 0).trans (show _ = some (.int .i64 gn) from rfl)
  have z1 := (Z1'.out.cell 1).trans (show _ = some (.slice D ds.length cd) from rfl)
  have z2 := (Z1'.out.cell 2).trans (show _ = some (.slice (some ⟨b, o, none⟩) l.length c) from rfl)
  have F1 := Lib.hid (FD.out w1 b1)
  clear b1
  go_wp2_with fail
  refine F1.out.mono ?_; rintro e w2 ⟨rfl, b2⟩
  have R2 := Lib.hid (R1.out.older (older_below b2))
  have B2 := Lib.hid (B1.out.trans (b2.mono B1.out.size))
  have Z2 := Lib.hid (Z1'.out.older (older_below b2))
  clear b2 z0 z1 z2 R1 Z1' F1 FD Z B1
  have z2 := (Z2.out.cell 2).trans (show _ = some (.slice (some ⟨b, o, none⟩) l.length c) from rfl)
  have hc := HC.out w2 B2.out
  have y0 : w2.cell? ⟨b, o + i * 7, none⟩ = some (.string ⟨x.name.toArray⟩) := (hc 0 (by omega)).trans rfl
  have y1 : w2.cell? ⟨b, o + i * 7 + 1, none⟩ = some (.int .i64 x.ino) := (hc 1 (by omega)).trans rfl
  have y2 : w2.cell? ⟨b, o + i * 7 + 2, none⟩ = some (.int .i64 x.f.ver) := (hc 2 (by omega)).trans rfl
  have y3 : w2.cell? ⟨b, o + i * 7 + 3, none⟩ = some (.int .i64 x.f.mtime) := (hc 3 (by omega)).trans rfl
  have y4 : w2.cell? ⟨b, o + i * 7 + 4, none⟩ = some (.int .i64 x.f.len) := (hc 4 (by omega)).trans rfl
  have y5 : w2.cell? ⟨b, o + i * 7 + 5, none⟩ = some (.slice x.A x.f.blocks.length x.c) := (hc 5 (by omega)).trans rfl
  have y6 : w2.cell? ⟨b, o + i * 7 + 6, none⟩ = some (.slice x.A' x.f.parts.length x.c') := (hc 6 (by omega)).trans rfl
  clear hc
  have KV := Lib.hid (Blk.new w2 27 #[.int .i64 x.f.ver, .int .i64 x.f.mtime, .int .i64 x.f.len, .slice x.A nb x.c, .slice x.A' np x.c'])
  have b3 := (Below.refl w2.heap.size w2).alloc (Nat.le_refl _) (.cells #[.int .i64 x.f.ver, .int .i64 x.f.mtime, .int .i64 x.f.len, .slice x.A nb x.c, .slice x.A' np x.c'] 27)
  have R3 := Lib.hid (R2.out.older (older_below b3))
  have B3 := Lib.hid (B2.out.trans (b3.mono B2.out.size))
  have G3 := Lib.hid (show w.heap.size ≤ w2.heap.size from B2.out.size)
  have lt4 := Lib.hid R2.out.lt
  clear b3
  go_upto_region 9 with fail
  rw [NBL.out, NPL.out]
  generalize (w2.alloc (.cells #[.int .i64 x.f.ver, .int .i64 x.f.mtime, .int .i64 x.f.len, .slice x.A nb x.c, .slice x.A' np x.c'] 27)) = w3 at *
  obtain ⟨gv, hgv⟩ : ∃ gv, w2.heap.size = gv := ⟨_, rfl⟩
  rw [hgv] at KV G3 lt4 ⊢
  clear y0 y1 y2 y3 y4 y5 y6 z2 Z2 R2 B2 hgv HC H B0 R0 NM FEW
  have z3 := (KV.out.cell 3).trans (show _ = some (.slice x.A nb x.c) from rfl)
  have CB := Lib.hid (clone_ints x.A x.c x.f.blocks w3 (by rw [NBL.out]; exact BR.out w3 B3.out) (by rw [NBL.out]; omega))
  rw [NBL.out] at CB
  go_wp2_with fail
  refine CB.out.mono ?_; rintro e w4 ⟨X, cx, rfl, rx, fx, b4⟩
  have FX := Lib.hid (show ∀ q, 0 < nb → inB X q → w3.heap.size ≤ q from fx)
  have XL := Lib.hid (show 0 < nb → ∀ a, X = some a → w3.heap.size ≤ a.block from fun h0 a ha => fx a.block h0 (by rw [ha]; simp [inB]))
  have KV4 := Lib.hid (KV.out.older (older_below b4))
  have R4 := Lib.hid (R3.out.older (older_below b4))
  have B4 := Lib.hid (B3.out.trans (b4.mono B3.out.size))
  have RX4 := Lib.hid rx
  have g3 := Lib.hid (show gv < w3.heap.size from KV.out.lt)
  clear b4 rx fx CB z3 KV R3 B3
  have z3 := (KV4.out.cell 3).trans (show _ = some (.slice x.A nb x.c) from rfl)
  have f3 := KV4.out.frozen 3
  have S5 := Chg.set w4 (g := gv) (S := fun k => k = gv) 3 (.slice X nb cx) rfl
  have KV5 := Lib.hid (show Blk (w4.setCell ⟨gv, 3, none⟩ (.slice X nb cx)) gv 27 #[.int .i64 x.f.ver, .int .i64 x.f.mtime, .int .i64 x.f.len, .slice X nb cx, .slice x.A' np x.c'] from KV4.out.put 3 _)
  have R5 := Lib.hid (R4.out.chg S5 (by have := lt4.out; omega))
  have B5 := Lib.hid (B4.out.trans (S5.below (B := w.heap.size) B4.out.size (fun i hi => by have hi' : i = gv := hi; have := G3.out; omega)))
  have RX5 := Lib.hid (show RowG (w4.setCell ⟨gv, 3, none⟩ (.slice X nb cx)) 1 X nb cx (In.vi x.f.blocks) from by
    by_cases h0 : 0 < nb
    · exact RX4.out.chg S5 (fun a ha s => by have := XL.out h0 a ha; have s' : a.block = gv := s; have := g3.out; omega)
    · have hz : nb = 0 := by omega
      have r := RX4.out
      exact ⟨r.len, r.cap, r.max, r.none_, fun a e h0 => by omega⟩)
  clear KV4 R4 B4 RX4 S5
  go_upto_region 10 with fail
  generalize w4.setCell ⟨gv, 3, none⟩ (.slice X nb cx) = w5 at *
  clear z3 f3
  have z4 := (KV5.out.cell 4).trans (show _ = some (.slice x.A' np x.c') from rfl)
  have CP := Lib.hid (clone_cpx x.A' x.c' x.f.parts w5 (by rw [NPL.out]; exact PR.out w5 B5.out) (by rw [NPL.out]; omega))
  rw [NPL.out] at CP
  go_wp2_with fail
  refine CP.out.mono ?_; rintro e w6 ⟨Y, cy, rfl, ry, fy, b6⟩
  have YL := Lib.hid (show 0 < np → ∀ a, Y = some a → w5.heap.size ≤ a.block from fun h0 a ha => fy a.block h0 (by rw [ha]; simp [inB]))
  have KV6 := Lib.hid (KV5.out.older (older_below b6))
  have R6 := Lib.hid (R5.out.older (older_below b6))
  have B6 := Lib.hid (B5.out.trans (b6.mono B5.out.size))
  have RX6 := Lib.hid (RX5.out.new b6)
  have RY6 := Lib.hid ry
  have g5 := Lib.hid (show gv < w5.heap.size from KV5.out.lt)
  clear b6 ry fy CP z4 KV5 R5 B5 RX5
  have z4 := (KV6.out.cell 4).trans (show _ = some (.slice x.A' np x.c') from rfl)
  have f4 := KV6.out.frozen 4
  have S7 := Chg.set w6 (g := gv) (S := fun k => k = gv) 4 (.slice Y np cy) rfl
  have KV7 := Lib.hid (show Blk (w6.setCell ⟨gv, 4, none⟩ (.slice Y np cy)) gv 27 #[.int .i64 x.f.ver, .int .i64 x.f.mtime, .int .i64 x.f.len, .slice X nb cx, .slice Y np cy] from KV6.out.put 4 _)
  have R7 := Lib.hid (R6.out.chg S7 (by have := lt4.out; omega))
  have B7 := Lib.hid (B6.out.trans (S7.below (B := w.heap.size) B6.out.size (fun i hi => by have hi' : i = gv := hi; have := G3.out; omega)))
  have RX7 := Lib.hid (show RowG (w6.setCell ⟨gv, 4, none⟩ (.slice Y np cy)) 1 X nb cx (In.vi x.f.blocks) from by
    by_cases h0 : 0 < nb
    · exact RX6.out.chg S7 (fun a ha s => by have := XL.out h0 a ha; have s' : a.block = gv := s; have := g3.out; omega)
    · have hz : nb = 0 := by omega
      have r := RX6.out
      exact ⟨r.len, r.cap, r.max, r.none_, fun a e h0 => by omega⟩)
  have RY7 := Lib.hid (show RowG (w6.setCell ⟨gv, 4, none⟩ (.slice Y np cy)) 1 Y np cy (In.vp x.f.parts) from by
    by_cases h0 : 0 < np
    · exact RY6.out.chg S7 (fun a ha s => by have := YL.out h0 a ha; have s' : a.block = gv := s; have := g5.out; omega)
    · have hz : np = 0 := by omega
      have r := RY6.out
      exact ⟨r.len, r.cap, r.max, r.none_, fun a e h0 => by omega⟩)
  clear KV6 R6 B6 RX6 RY6 S7
  go_upto_region 11 with fail
  generalize w6.setCell ⟨gv, 4, none⟩ (.slice Y np cy) = w7 at *
  clear z4 f4
  go_wp2_with (first
    | (refine wpList_load_row rfl 27 (.tmp 8) rfl gv rfl 27 _ (0, 0) _ KV7.out Tryz.underlying27 rfl In.file_info ?_)
    | (refine wpList_store_row rfl 27 (.tmp 4) (.tmp 45) rfl w.heap.size (#[.int .i64 x.f.ver, .int .i64 x.f.mtime, .int .i64 x.f.len, .slice X nb cx, .slice Y np cy]) rfl rfl 27 _ R7.out In.file_info rfl (by simp [Value.oneCell']) ?_)
    | fail)
  refine bodyPost_ret (v := .tuple #[.agg #[.int .i64 x.f.ver, .int .i64 x.f.mtime, .int .i64 x.f.len, .slice X nb cx, .slice Y np cy], .int .i64 0]) ?_ rfl ?_
  · exact results_cell_tmp Tryz.results5 _ _ w.heap.size 27 _ (0, 0) _ rfl (R7.out.row _) Tryz.underlying27 rfl In.file_info
  have SZ := Chg.setRow w7 (g := w.heap.size) (S := fun k => k = w.heap.size) (#[.int .i64 x.f.ver, .int .i64 x.f.mtime, .int .i64 x.f.len, .slice X nb cx, .slice Y np cy]) rfl
  refine ⟨X, cx, Y, cy, rfl, ?_, ?_, fun q h0 hq => by have := FX.out q h0 hq; have := g3.out; have := G3.out; omega, below_setRow B7.out (Nat.le_refl w.heap.size) _⟩
  · by_cases h0 : 0 < nb
    · exact RX7.out.chg SZ (fun a ha s => by have := XL.out h0 a ha; have s' : a.block = w.heap.size := s; have := g3.out; have := G3.out; omega)
    · have r := RX7.out
      exact ⟨r.len, r.cap, r.max, r.none_, fun a e h0 => by omega⟩
  · by_cases h0 : 0 < np
    · exact RY7.out.chg SZ (fun a ha s => by have := YL.out h0 a ha; have s' : a.block = w.heap.size := s; have := g5.out; have := G3.out; omega)
    · have r := RY7.out
      exact ⟨r.len, r.cap, r.max, r.none_, fun a e h0 => by omega⟩
end Go.Proofs.YtefnkednnnlhoaaGreatDoor.Sr

/- Package store: Bytes where all is read. Conditions: those that each states. -/
namespace Go.Proofs.YtefnkednnnlhoaaGreatDoor.Sr
open Go.ChangeShapes Go.WideShapes Go.ChangeAt Go.RowKit Go.Deep Fr Di Ke Rk
set_option linter.unusedVariables false
set_option linter.unusedSimpArgs false

theorem u8_elem : (Tryz.prog.info? (Tryz.prog.elem 31)).map (·.size) = some 1 := by kernel_rfl
theorem u8_under : Tryz.prog.underlying 31 = some (.slice (Tryz.prog.elem 31)) := by kernel_rfl
/-- 'b[:x]' of bytes. -/
theorem run_front_u8 (A : Option Addr) (n c : Nat) (x : Int) (h0 : 0 ≤ x) (hx : x ≤ c) (W : World) :
    (Instr.slice 31 (.slice A n c) none (some (.int .i64 x)) none).run Tryz.prog W = .ok (.slice A x.toNat c) W := by
  obtain ⟨i, hi, hs⟩ := Option.map_eq_some_iff.1 u8_elem
  rw [run_slice_h W 31 A n c u8_under .i64 x h0 hx]
  have hz : (sizeOf (Tryz.prog.elem 31)).run Tryz.prog W = .ok i.size W := by simp [sizeOf, typeInfo, hi]
  rw [hz]
  simp only [Result.andThen_ok, sliced]
  cases A with
  | none => simp
  | some a => simp [Addr.add]

def bkI (f : In.Fil) (i : Nat) : Int := f.blocks.getD i 0
/-- The bytes of the first blocks. -/
def accR (K : Kn) (f : In.Fil) : Nat → List UInt8
  | 0 => []
  | j + 1 => accR K f j ++ (rdK K (bkI f j)).1.take (spanR f.len.toNat j)
theorem accR_len (K : Kn) (f : In.Fil) : ∀ j, (accR K f j).length ≤ 256 * j
  | 0 => Nat.le_refl _
  | j + 1 => by
    have := accR_len K f j
    have h := spanR_le f.len.toNat j
    simp only [accR, List.length_append, List.length_take]
    omega
theorem rd_full {K : Kn} (ok : K.Ok) (b : Int) (h : (rdK K b).2 = 0) : (rdK K b).1.length = 256 := by
  unfold rdK readR at h ⊢
  split
  · rename_i h1
    have hb : b.toNat < K.dk.blocks.length := by
      obtain ⟨_, b', e, h', _⟩ := askE_zero h1
      rw [e]; exact h'
    exact see_len ok.dok hb
  · rename_i h1
    rw [if_neg h1] at h
    exact absurd h h1
theorem row_same0 {B : Nat} {S : Nat → Prop} {w w' : World} {lab lab' : Nat → Nat} {g : Nat} {K : Kn} (h : STo B S w w' lab lab' g K) (hS : ∀ i, ¬ S i) {B0 : Nat} {E : TypeId} {A : Option Addr} {c : Nat} {xs : List Value} (r : Row w B0 E A c xs) (h0 : ∀ b, inB A b → lab b = 0) : Row w' B0 E A c xs :=
  r.same fun b hb => h.keep b (r.lt b hb).2 (h0 b (inB_own.1 hb)) (hS b)

set_option maxRecDepth 100000 in
set_option maxHeartbeats 4000000 in
theorem bytes_ok {B : Nat} {w : World} {lab : Nat → Nat} {gs g cd c : Nat} {gn : Int} {D A : Option Addr} {ds : List Int} {l : List Lf} {dead : Bool} {K : Kn} (h : StAt w lab gs g gn D ds cd A c l dead) (hk : KB B w lab g K) (hB : B ≤ w.heap.size) (m : Nat) (sm : K.Small m) (hm : m < 1000000) (bk : Bare K)
    (nm : List UInt8) (hn : Pt.nameB nm = true) (i : Nat) (hi : atR l nm = i) (hil : i < l.length) (his : isR l nm i = true) (hf : l[i].f.may = true) (herr : ∀ j, j < l[i].f.blocks.length → (rdK K (bkI l[i].f j)).2 = 0) :
    Calls Tryz.prog 6 #[.pointer (some ⟨gs, 0, none⟩), .string ⟨nm.toArray⟩] w fun e w' => ∃ A' c' lab', e = .returned (.tuple #[.slice A' (accR K l[i].f l[i].f.blocks.length).length c', .int .i64 0]) ∧ STo B (fun _ => False) w w' lab lab' g K ∧ Src w' A' (accR K l[i].f l[i].f.blocks.length).length c' (accR K l[i].f l[i].f.blocks.length) := by
  obtain ⟨Q, hQ, hQ9, hnb, hnp, hbk⟩ := fil_may hf
  have LK := Lib.hid (lookup_yes h nm hn i hi hil his (by omega) (by omega))
  have Z := Lib.hid h.head
  have LG := Lib.hid h.lg
  have KB0 := Lib.hid hk
  have HB := Lib.hid hB
  have SM := Lib.hid sm
  have HM := Lib.hid hm
  have BK := Lib.hid bk
  have OK := Lib.hid hk.ok
  clear h hn hi his hf
  generalize l[i].f = f at *
  obtain ⟨nb, hnbe⟩ : ∃ nb, f.blocks.length = nb := ⟨_, rfl⟩
  obtain ⟨np, hnpe⟩ : ∃ np, f.parts.length = np := ⟨_, rfl⟩
  rw [hnbe, hQ] at LK
  rw [hnbe] at herr hnb ⊢
  rw [hnpe] at LK hnp
  have NBL := Lib.hid hnbe
  have HQ := Lib.hid hQ
  have HNB := Lib.hid hnb
  have ER := Lib.hid herr
  have nb9 : nb ≤ 33 := by omega
  obtain ⟨fin, hfin⟩ : ∃ fin, accR K f nb = fin := ⟨_, rfl⟩
  rw [hfin]
  have FIN := Lib.hid hfin
  clear hk hB sm hm hnbe hnpe hQ hnb hnp herr hfin hbk
  go_enter Tryz.func6, Tryz.ntmps6
  go_wp2_with fail
  refine LK.out.mono ?_; rintro e w1 ⟨X, cx, Y, cy, rfl, rx, _, fx, b1⟩
  have RX1 := Lib.hid rx
  have FX1 := Lib.hid (show 0 < nb → ∀ b, inB X b → w.heap.size ≤ b from fun h0 b hb => fx b h0 hb)
  have b2 := (Below.refl w1.heap.size w1).alloc (Nat.le_refl _) (.cells #[.int .i64 f.ver, .int .i64 f.mtime, .int .i64 (Q : Int), .slice X nb cx, .slice Y np cy] 27)
  have F2 := Lib.hid (Blk.new w1 27 #[.int .i64 f.ver, .int .i64 f.mtime, .int .i64 (Q : Int), .slice X nb cx, .slice Y np cy])
  have T2 := Lib.hid (STo.fresh KB0.out HB.out (fun _ => False) (b1.trans (b2.mono b1.size)))
  have RX2 := Lib.hid (rx.new b2)
  have LF := Lib.hid (KB0.out.lab0 (show w.heap.size ≤ w1.heap.size from b1.size))
  have Z2 := Lib.hid (Z.out.older (older_below (b1.trans (b2.mono b1.size))))
  have O2 := Lib.hid (show Own0 (w1.alloc (.cells #[.int .i64 f.ver, .int .i64 f.mtime, .int .i64 (Q : Int), .slice X nb cx, .slice Y np cy] 27)) lab X nb from fun h0 x e => by
    obtain ⟨_, h1, _⟩ := (rx.new b2).at_ x e h0
    exact ⟨h1, KB0.out.lab0 (fx x.block h0 (by rw [e]; simp [inB]))⟩)
  have XLT := Lib.hid (show 0 < nb → ∀ a, X = some a → a.block < w1.heap.size from fun h0 a e => (rx.at_ a e h0).2.1)
  have GW := Lib.hid (show w.heap.size ≤ w1.heap.size from b1.size)
  have GSL := Lib.hid (show gs < w.heap.size from Z.out.lt)
  clear rx fx b1 b2 RX1 FX1 LK
  go_upto_region 2 with fail
  generalize w1.alloc (.cells #[.int .i64 f.ver, .int .i64 f.mtime, .int .i64 (Q : Int), .slice X nb cx, .slice Y np cy] 27) = w2 at *
  generalize w1.heap.size = gf at *
  have z3 := (Z2.out.cell 3).trans (show _ = some (.pointer (some ⟨g, 0, none⟩)) from rfl)
  have y3 := (F2.out.cell 3).trans (show _ = some (.slice X nb cx) from rfl)
  have DK := Lib.hid (disk_any T2.out.kb)
  go_wp2_with fail
  refine DK.out.mono ?_; rintro e w3 ⟨gd, rfl, hw, hon, _⟩
  have ON := Lib.hid (hon w2 (Below.refl _ _))
  rw [← hw]
  clear hw hon w3 DK
  go_wp2_with fail
  refine ON.out.mono ?_; rintro e w3 ⟨rfl, hw⟩
  rw [hw]
  clear hw w3 ON
  go_wp2
  go_loopw [8, 32] (fun av iv wr => ∃ (j : Nat) (A' : Option Addr) (c' : Nat) (lab1 : Nat → Nat), j ≤ nb ∧ iv = .int .i64 (j : Int) ∧ av = .slice A' (bys (accR K f j)).length c' ∧ Hid (STo B (fun _ => False) w wr lab lab1 g K) ∧ Hid (Row wr (gf + 1) 5 A' c' (bys (accR K f j))) ∧ Hid (∀ b, inB A' b → lab1 b = 0) ∧
    Hid (Blk wr gf 27 #[.int .i64 f.ver, .int .i64 f.mtime, .int .i64 (Q : Int), .slice X nb cx, .slice Y np cy] ∧ lab1 gf = 0) ∧ Hid (RowG wr 1 X nb cx (In.vi f.blocks) ∧ Own0 wr lab1 X nb) ∧
    Hid (Blk wr gs 54 #[.int .i64 gn, .slice D ds.length cd, .slice A l.length c, .pointer (some ⟨g, 0, none⟩), .bool dead] ∧ lab1 gs = 0)) (fun _ i _ => nb - (intOf i).toNat)
  case atStart => exact ⟨0, none, 0, lab, Nat.zero_le _, rfl, rfl, T2, Lib.hid (Row.nil _ _ _), Lib.hid (fun b hb => absurd hb (inB_none b)), Lib.hid ⟨F2.out, LF.out⟩, Lib.hid ⟨RX2.out, O2.out⟩, Lib.hid ⟨Z2.out, LG.out⟩⟩
  case round =>
    obtain ⟨j, A', c', lab1, hj, rfl, rfl, T1, AR, AL, FB, XR, ZB⟩ := hrel
    clear T2 RX2 Z2 O2 F2
    by_cases hlt : j < nb
    rotate_left
    · obtain rfl : j = nb := by omega
      have hlt' : ¬ (j : Int) < (j : Int) := by omega
      rw [FIN.out] at AR ⊢
      have SR : ∃ Ab' cb', Value.slice A' (bys fin).length c' = .slice Ab' fin.length cb' ∧ Src wr Ab' fin.length cb' fin := by
        obtain ⟨A2, c2, e, s, _⟩ := src_of_own AR.out.own
        rw [bys_length] at e s
        exact ⟨A2, c2, by rw [bys_length]; exact e, s⟩
      obtain ⟨Ab', cb', eb, sb⟩ := SR
      rw [eb]
      have SB := Lib.hid sb
      clear eb sb AR AL
      go_wp2
      go_ret2
      exact ⟨Ab', cb', rfl, ⟨lab1, T1.out⟩, SB.out⟩
    have hlt' : (j : Int) < (nb : Int) := by omega
    have j0 : (0 : Int) ≤ (j : Int) := by omega
    have xj := IntWalk.i64_in ((j : Int) + 1) (by omega)
    have hjb : j < f.blocks.length := by rw [NBL.out]; exact hlt
    obtain ⟨bx, ox, hX, hbx, hcx⟩ := XR.out.1.cell (j := j) (by simpa [In.vi] using hjb)
    have hbI : bkI f j = f.blocks[j] := by unfold bkI; rw [List.getD_eq_getElem?_getD, List.getElem?_eq_getElem hjb]; rfl
    replace hcx : wr.cell? ⟨bx, ox + j, none⟩ = some (.int .i64 (bkI f j)) := by rw [hcx, hbI]; simp [In.vi]
    have z3 := (ZB.out.1.cell 3).trans (show _ = some (.pointer (some ⟨g, 0, none⟩)) from rfl)
    have E0 := ER.out j hlt
    have RC := Lib.hid (read_any T1.out.kb (Nat.le_trans HB.out T1.out.size) m SM.out HM.out (bkI f j))
    have hfull := rd_full OK.out (bkI f j) E0
    rw [hfull, E0] at RC
    have EA := Lib.hid (show accR K f (j + 1) = accR K f j ++ (rdK K (bkI f j)).1.take (spanR Q j) from by show accR K f j ++ _ = _; rw [HQ.out]; rfl)
    have EL := Lib.hid (show (bys (accR K f j)).length ≤ 10000 from by rw [bys_length]; have := accR_len K f j; omega)
    generalize bkI f j = bj at *
    generalize (rdK K bj).1 = pg at *
    obtain ⟨ac2, hac2⟩ : ∃ ac2, accR K f (j + 1) = ac2 := ⟨_, rfl⟩
    rw [hac2] at EA
    have AC2 := Lib.hid hac2
    clear hac2
    generalize accR K f j = ac at *
    have PF := Lib.hid hfull
    clear E0 hbI hjb hfull
    subst hX
    go_wp2_with fail
    refine RC.out.mono ?_; rintro e w3 ⟨Ap, cp, rfl, lab2, k3, s3, _⟩
    have T3 := Lib.hid (T1.out.trans (k3.sto _))
    have AR3 := Lib.hid (row_same0 (k3.sto (fun _ => False)) (fun _ h => h) AR.out AL.out)
    have AL3 := Lib.hid (show ∀ b, inB A' b → lab2 b = 0 from fun b hb => (k3.sto (fun _ => False)).zero b (AR.out.lt b (inB_own.2 hb)).2 (AL.out b hb))
    have FB3 := Lib.hid (show Blk w3 gf 27 #[.int .i64 f.ver, .int .i64 f.mtime, .int .i64 (Q : Int), .slice (some ⟨bx, ox, none⟩) nb cx, .slice Y np cy] ∧ lab2 gf = 0 from ⟨(k3.sto (fun _ => False)).blk FB.out.1 FB.out.2 id, (k3.sto (fun _ => False)).zero _ FB.out.1.lt FB.out.2⟩)
    have XR3 := Lib.hid ((k3.sto (fun _ => False)).row XR.out.1 XR.out.2 (fun _ _ h => h))
    have ZB3 := Lib.hid (show Blk w3 gs 54 #[.int .i64 gn, .slice D ds.length cd, .slice A l.length c, .pointer (some ⟨g, 0, none⟩), .bool dead] ∧ lab2 gs = 0 from ⟨(k3.sto (fun _ => False)).blk ZB.out.1 ZB.out.2 id, (k3.sto (fun _ => False)).zero _ ZB.out.1.lt ZB.out.2⟩)
    have SP := Lib.hid s3
    clear k3 s3 T1 AR AL FB XR ZB RC z3 hcx
    have SPN := Lib.hid (fun W => span_any f.ver f.mtime Q (some ⟨bx, ox, none⟩) Y nb cx np cy j W hQ9 HNB.out hlt)
    go_wp2_with (first
      | (refine wpList_load_row rfl 27 (.tmp 6) rfl gf rfl 27 _ (0, 0) _ FB3.out.1 Tryz.underlying27 rfl In.file_info ?_)
      | fail)
    refine (SPN.out _).mono ?_; rintro e w4 ⟨rfl, b4⟩
    have T4 := Lib.hid (T3.out.new HB.out b4)
    have AR4 := Lib.hid (AR3.out.new b4)
    have FB4 := Lib.hid (show Blk w4 gf 27 #[.int .i64 f.ver, .int .i64 f.mtime, .int .i64 (Q : Int), .slice (some ⟨bx, ox, none⟩) nb cx, .slice Y np cy] ∧ lab2 gf = 0 from ⟨FB3.out.1.older (older_below b4), FB3.out.2⟩)
    have XR4 := Lib.hid (show RowG w4 1 (some ⟨bx, ox, none⟩) nb cx (In.vi f.blocks) ∧ Own0 w4 lab2 (some ⟨bx, ox, none⟩) nb from ⟨XR3.out.1.new b4, fun h0 x hx => ⟨Nat.lt_of_lt_of_le (XR3.out.2 h0 x hx).1 b4.size, (XR3.out.2 h0 x hx).2⟩⟩)
    have ZB4 := Lib.hid (show Blk w4 gs 54 #[.int .i64 gn, .slice D ds.length cd, .slice A l.length c, .pointer (some ⟨g, 0, none⟩), .bool dead] ∧ lab2 gs = 0 from ⟨ZB3.out.1.older (older_below b4), ZB3.out.2⟩)
    have S4 := Lib.hid (SP.out.below b4)
    clear b4 T3 AR3 FB3 XR3 ZB3 SP SPN
    have hsp := spanR_le Q j
    have hs1 : 0 < spanR Q j := by unfold spanR; have := HNB.out; omega
    generalize spanR Q j = sp at *
    have hpl := PF.out
    have FRN := fun W => run_front_u8 Ap 256 cp (sp : Int) (by omega) (by have := S4.out.cap; omega) W
    rw [Int.toNat_natCast] at FRN
    obtain ⟨ad, had⟩ : ∃ ad, Ap = some ad := by
      obtain ⟨bb, oo, e, _⟩ := S4.out.lies (by rw [bys_length]; omega)
      exact ⟨_, e⟩
    subst had
    have NEWS := Lib.hid (show ∀ k u, (bys (pg.take sp))[k]? = some u → w4.cell? (ad.add k) = some u from fun k u hu => by
      have h1 := (List.getElem?_eq_some_iff.1 hu).1
      rw [bys_length, List.length_take] at h1
      refine Bytes.at_ ad S4.out.toBytes k u ?_
      rw [← hu, ← bys_take, List.getElem?_take, if_pos (by omega)])
    have NL := Lib.hid (show (bys (pg.take sp)).length = sp from by rw [bys_length, List.length_take]; omega)
    have EC := Lib.hid (show bys ac ++ bys (pg.take sp) = bys ac2 from by rw [← bys_append, EA.out])
    have HBW := Lib.hid (show gf + 1 ≤ w4.heap.size from FB4.out.1.lt)
    have LN4 := Lib.hid (show lab2 w4.heap.size = 0 from T4.out.kb.lab0 (Nat.le_refl _))
    clear PF hpl S4 EA
    go_wp2_with (at_builtin; refine Hid.out ?_)
    unfold Hid
    refine wpList_append_row rfl _ _ rfl Tryz.underlying31 (.int .u8 0) 1 rfl (by decide) (by kernel_rfl) rfl AR4.out HBW.out ad sp cp (bys (pg.take sp)) rfl NL.out NEWS.out (fun u hu => bys_one hu) (by have := EL.out; omega) ?_
    intro A2 c2 w5 hr5 k5 hat
    rw [EC.out] at hr5 hat ⊢
    have KS := k5
    have T5 := Lib.hid (show STo B (fun _ => False) w w5 lab lab2 g K from by
      have hS : ∀ q, (Value.slice A' (bys ac).length c').ownBlock = some q → lab2 q = 0 ∧ w.heap.size ≤ q := fun q hq => ⟨AL3.out q (inB_own.1 hq), by have := (AR4.out.lt q hq).1; have := GW.out; omega⟩
      by_cases hA : A' = none
      · subst hA
        exact T4.out.new HB.out ⟨KS.os, KS.tape, KS.output, KS.size, fun q hq => KS.block q hq (fun e => by simp [Value.ownBlock] at e)⟩
      · obtain ⟨ax, rfl⟩ : ∃ ax, A' = some ax := by cases A' with | none => exact absurd rfl hA | some ax => exact ⟨ax, rfl⟩
        refine T4.out.set BK.out (r := ax.block) (KS.weak (fun q hq => by simpa [Value.ownBlock, eq_comm] using hq)) (.inr (hS ax.block rfl).2) HB.out (Nat.le_trans HB.out (hS ax.block rfl).2) (hS ax.block rfl).1)
    have hge : ∀ q, (Value.slice A' (bys ac).length c').ownBlock = some q → gf + 1 ≤ q := fun q hq => (AR4.out.lt q hq).1
    have AR5 := Lib.hid hr5
    have AL5 := Lib.hid (show ∀ q, inB A2 q → lab2 q = 0 from fun q hq => by
      have h1 : (Value.slice A2 (bys ac2).length c2).ownBlock = some q := inB_own.2 hq
      rcases hat with e | e
      · rw [e] at h1; exact AL3.out q (inB_own.1 h1)
      · rw [e] at h1; cases h1; exact LN4.out)
    have FB5 := Lib.hid (show Blk w5 gf 27 #[.int .i64 f.ver, .int .i64 f.mtime, .int .i64 (Q : Int), .slice (some ⟨bx, ox, none⟩) nb cx, .slice Y np cy] ∧ lab2 gf = 0 from ⟨FB4.out.1.chg KS (fun s => by have := hge _ s; omega), FB4.out.2⟩)
    have XR5 := Lib.hid (show RowG w5 1 (some ⟨bx, ox, none⟩) nb cx (In.vi f.blocks) ∧ Own0 w5 lab2 (some ⟨bx, ox, none⟩) nb from ⟨XR4.out.1.chg KS (fun a e s => by have h1 := hge _ s; have h2 := XLT.out (by omega) a e; omega), fun h0 x hx => ⟨Nat.lt_of_lt_of_le (XR4.out.2 h0 x hx).1 KS.size, (XR4.out.2 h0 x hx).2⟩⟩)
    have ZB5 := Lib.hid (show Blk w5 gs 54 #[.int .i64 gn, .slice D ds.length cd, .slice A l.length c, .pointer (some ⟨g, 0, none⟩), .bool dead] ∧ lab2 gs = 0 from ⟨ZB4.out.1.chg KS (fun s => by have h1 := hge _ s; have := GSL.out; have := GW.out; omega), ZB4.out.2⟩)
    clear hr5 hat k5 KS hge AR4 AL3 FB4 XR4 ZB4 NEWS T4 FRN NL EC
    go_wp2
    go_roundw
    case rel => exact ⟨j + 1, A2, c2, lab2, by omega, by go_num, by rw [AC2.out], T5, by rw [AC2.out]; exact AR5, AL5, FB5, XR5, ZB5⟩
    case measure => simp [intOf]; omega
end Go.Proofs.YtefnkednnnlhoaaGreatDoor.Sr
