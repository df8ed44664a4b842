/- Package store: Gen, Names, entries. Conditions: those that each states. -/
import Derived.Test.YtefnkednnnlhoaaGreatDoorMAY
import Derived.Test.YtefnkednnnlhoaaGreatDoorMAX
import Derived.Test.YtefnkednnnlhoaaGreatDoorMAU
import Derived.Test.YtefnkednnnlhoaaGreatDoorMAW
namespace Go.Proofs.YtefnkednnnlhoaaGreatDoor.Sr
open Go.ChangeShapes Go.WideShapes Go.ChangeAt Go.RowKit Go.Deep Fr Di Ke Rk
set_option linter.unusedVariables false
set_option linter.unusedSimpArgs false

/-- A store in memory. -/
structure StAt (w : World) (lab : Nat → Nat) (gs g : Nat) (gn : Int) (D : Option Addr) (ds : List Int) (cd : Nat) (A : Option Addr) (c : Nat) (l : List Lf) (dead : Bool) : Prop where
  head : Blk w gs 54 #[.int .i64 gn, .slice D ds.length cd, .slice A l.length c, .pointer (some ⟨g, 0, none⟩), .bool dead]
  lg : lab gs = 0
  dirs : RowG w 1 D ds.length cd (In.vi ds)
  down : Own0 w lab D ds.length
  files : FAt w lab A c l
  few : l.length ≤ 24
theorem StAt.new {w w' : World} {lab : Nat → Nat} {gs g cd c : Nat} {gn : Int} {D A : Option Addr} {ds : List Int} {l : List Lf} {dead : Bool} (h : StAt w lab gs g gn D ds cd A c l dead) (k : Below w.heap.size w w') : StAt w' lab gs g gn D ds cd A c l dead :=
  ⟨h.head.older (older_below k), h.lg, h.dirs.new k, fun h0 x hx => ⟨Nat.lt_of_lt_of_le (h.down h0 x hx).1 k.size, (h.down h0 x hx).2⟩, h.files.new k, h.few⟩

theorem gen_any {w : World} {lab : Nat → Nat} {gs g cd c : Nat} {gn : Int} {D A : Option Addr} {ds : List Int} {l : List Lf} {dead : Bool} (h : StAt w lab gs g gn D ds cd A c l dead) :
    Calls Tryz.prog 11 #[.pointer (some ⟨gs, 0, none⟩)] w fun e w' => e = .returned (.int .i64 gn) ∧ w' = w := by
  have z0 := (h.head.cell 0).trans (show _ = some (.int .i64 gn) from rfl)
  clear h
  go_enter Tryz.func11, Tryz.ntmps11
  go_wp2
  go_ret
  exact ⟨rfl, rfl⟩
theorem str_info' : (Tryz.prog.info? 9).map (fun i => (i.zero, i.size, i.bytes)) = some (some (.string ⟨#[]⟩), 1, 16) := by kernel_rfl
def nms (l : List Lf) : List Value := l.map fun x => .string ⟨x.name.toArray⟩
theorem nms_length (l : List Lf) : (nms l).length = l.length := by simp [nms]
theorem nms_succ (l : List Lf) (j : Nat) (h : j < l.length) : nms (l.take j) ++ [.string ⟨l[j].name.toArray⟩] = nms (l.take (j + 1)) := by
  rw [List.take_succ_eq_append_getElem h]
  simp only [nms, List.map_append, List.map_cons, List.map_nil]

set_option maxRecDepth 100000 in
set_option maxHeartbeats 2000000 in
theorem names_any {w : World} {lab : Nat → Nat} {gs g cd c : Nat} {gn : Int} {D A : Option Addr} {ds : List Int} {l : List Lf} {dead : Bool} (h : StAt w lab gs g gn D ds cd A c l dead) :
    Calls Tryz.prog 10 #[.pointer (some ⟨gs, 0, none⟩)] w fun e w' => ∃ A' c', e = .returned (.slice A' l.length c') ∧ RowG w' 1 A' l.length c' (nms l) ∧ Below w.heap.size w w' := by
  have H := Lib.hid h.files
  have FW := Lib.hid h.few
  have B0 := Lib.hid (Below.refl w.heap.size w)
  have z2 := (h.head.cell 2).trans (show _ = some (.slice A l.length c) from rfl)
  obtain ⟨n, hn⟩ : ∃ n, l.length = n := ⟨_, rfl⟩
  rw [hn] at z2 FW ⊢
  have LN := Lib.hid hn
  clear h hn
  go_enter Tryz.func10, Tryz.ntmps10
  go_wp2
  go_loopw [3, 14] (fun nv i wr => ∃ (j : Nat) (A' : Option Addr) (c' : Nat), j ≤ n ∧ i = .int .i64 (j : Int) ∧ nv = .slice A' (nms (l.take j)).length c' ∧ Hid (Row wr w.heap.size 9 A' c' (nms (l.take j))) ∧ Hid (Below w.heap.size w wr)) (fun _ i _ => n - (intOf i).toNat)
  case atStart => exact ⟨0, none, 0, Nat.zero_le _, rfl, rfl, Lib.hid (Row.nil _ _ _), B0⟩
  case round =>
    obtain ⟨j, A', c', hj, rfl, rfl, NR, BW⟩ := hrel
    clear B0
    by_cases hlt : j < n
    · have hlt' : (j : Int) < (n : Int) := by omega
      have j0 : (0 : Int) ≤ (j : Int) := by omega
      have hjl : j < l.length := by rw [LN.out]; exact hlt
      have hn24 := FW.out
      have x4 := IntWalk.i64_in ((j : Int) + 1) (by omega)
      obtain ⟨b, o, rfl, hb, hc⟩ := H.out.cell hjl
      have hc : ∀ k, k < 7 → wr.cell? ⟨b, o + j * 7 + k, none⟩ = (l[j].vals)[k]? := fun k hk => by
        rw [World.cell?_of_block (w := w) (w' := wr) (a := ⟨b, o + j * 7 + k, none⟩) (BW.out.block b hb)]; exact hc k hk
      have y0 : wr.cell? ⟨b, o + j * 7, none⟩ = some (.string ⟨l[j].name.toArray⟩) := (hc 0 (by omega)).trans rfl
      have y1 : wr.cell? ⟨b, o + j * 7 + 1, none⟩ = some (.int .i64 l[j].ino) := (hc 1 (by omega)).trans rfl
      have y2 : wr.cell? ⟨b, o + j * 7 + 2, none⟩ = some (.int .i64 l[j].f.ver) := (hc 2 (by omega)).trans rfl
      have y3 : wr.cell? ⟨b, o + j * 7 + 3, none⟩ = some (.int .i64 l[j].f.mtime) := (hc 3 (by omega)).trans rfl
      have y4 : wr.cell? ⟨b, o + j * 7 + 4, none⟩ = some (.int .i64 l[j].f.len) := (hc 4 (by omega)).trans rfl
      have y5 : wr.cell? ⟨b, o + j * 7 + 5, none⟩ = some (.slice l[j].A l[j].f.blocks.length l[j].c) := (hc 5 (by omega)).trans rfl
      have y6 : wr.cell? ⟨b, o + j * 7 + 6, none⟩ = some (.slice l[j].A' l[j].f.parts.length l[j].c') := (hc 6 (by omega)).trans rfl
      have EX := Lib.hid (nms_succ l j hjl)
      have HL := Lib.hid (show (nms (l.take j)).length ≤ 24 from by rw [nms_length, List.length_take]; omega)
      have BZ := Lib.hid (BW.out.trans (((Below.refl wr.heap.size wr).alloc (Nat.le_refl _) (.cells #[.string ⟨l[j].name.toArray⟩, .int .i64 l[j].ino, .int .i64 l[j].f.ver, .int .i64 l[j].f.mtime, .int .i64 l[j].f.len, .slice l[j].A l[j].f.blocks.length l[j].c, .slice l[j].A' l[j].f.parts.length l[j].c'] 58)).mono BW.out.size))
      have KB := Lib.hid (Blk.new wr 58 #[.string ⟨l[j].name.toArray⟩, .int .i64 l[j].ino, .int .i64 l[j].f.ver, .int .i64 l[j].f.mtime, .int .i64 l[j].f.len, .slice l[j].A l[j].f.blocks.length l[j].c, .slice l[j].A' l[j].f.parts.length l[j].c'])
      have NR2 := Lib.hid (NR.out.new ((Below.refl wr.heap.size wr).alloc (Nat.le_refl _) (.cells #[.string ⟨l[j].name.toArray⟩, .int .i64 l[j].ino, .int .i64 l[j].f.ver, .int .i64 l[j].f.mtime, .int .i64 l[j].f.len, .slice l[j].A l[j].f.blocks.length l[j].c, .slice l[j].A' l[j].f.parts.length l[j].c'] 58)))
      generalize l[j].name = nm at *
      clear hc
      go_upto_region 7 with fail
      generalize (wr.alloc (.cells #[.string ⟨nm.toArray⟩, .int .i64 l[j].ino, .int .i64 l[j].f.ver, .int .i64 l[j].f.mtime, .int .i64 l[j].f.len, .slice l[j].A l[j].f.blocks.length l[j].c, .slice l[j].A' l[j].f.parts.length l[j].c'] 58)) = W2 at *
      generalize wr.heap.size = gx at *
      have k0 := (KB.out.cell 0).trans (show _ = some (.string ⟨nm.toArray⟩) from rfl)
      clear y0 y1 y2 y3 y4 y5 y6 KB NR BW
      generalize nms (l.take j) = L at *
      go_wp2_with (at_builtin; refine Hid.out ?_)
      unfold Hid
      refine wpList_append_one rfl _ _ rfl Tryz.underlying39 (.string ⟨#[]⟩) 16 rfl (by decide) str_info' rfl NR2.out BZ.out.size (.string ⟨nm.toArray⟩) rfl rfl (by have := HL.out; omega) ?_
      intro A1 c1 w2 hr2 k2 _
      have hb1 : ∀ i, (Value.slice A' L.length c').ownBlock = some i → w.heap.size ≤ i := fun i hi => (NR2.out.lt i hi).1
      have JB := Lib.hid (BZ.out.trans (k2.below (B := w.heap.size) BZ.out.size (fun i hi => hb1 i hi)))
      have MR := Lib.hid hr2
      clear hr2 k2 hb1 NR2 BZ k0
      generalize (L ++ [Value.string ⟨nm.toArray⟩]) = L' at *
      go_wp2
      go_roundw
      case rel => exact ⟨j + 1, A1, c1, by omega, by go_num, by rw [← EX.out], by rw [← EX.out]; exact MR, JB⟩
      case measure => simp [intOf]; omega
    · have hlt' : ¬ (j : Int) < (n : Int) := by omega
      obtain rfl : j = n := by omega
      have e1 : l.take j = l := List.take_of_length_le (by rw [LN.out]; omega)
      rw [e1] at NR ⊢
      have e2 : (nms l).length = j := by rw [nms_length, LN.out]
      have RG := Lib.hid (show RowG wr 1 A' j c' (nms l) from by
        obtain ⟨A2, c3, e, g, _⟩ := RowG.of_owns NR.out.own
        cases e
        rw [e2] at g
        exact g)
      rw [e2]
      clear NR e1 e2
      go_wp2
      go_ret
      exact ⟨A', c', rfl, RG.out, BW.out⟩
end Go.Proofs.YtefnkednnnlhoaaGreatDoor.Sr

/- Package store: newestRoot. Conditions: those that each states. -/
namespace Go.Proofs.YtefnkednnnlhoaaGreatDoor.Sr
open Go.ChangeShapes Go.WideShapes Go.ChangeAt Go.RowKit Go.Deep Fr Di Ke Rk
set_option linter.unusedVariables false
set_option linter.unusedSimpArgs false

theorem own_new {B : Nat} {w w' : World} {lab : Nat → Nat} {g : Nat} {K : Kn} (h : KB B w lab g K) {A : Option Addr} {n c : Nat} {xs : List Value} {sz : Nat} (r : RowG w' sz A n c xs) (hf : ∀ b, inB A b → w.heap.size ≤ b) : Own0 w' lab A n := by
  intro hn x e
  obtain ⟨h3, h1, _⟩ := r.at_ x e hn
  exact ⟨h1, h.lab0 (hf x.block (by unfold inB; rw [e]; rfl))⟩

set_option maxRecDepth 100000 in
set_option maxHeartbeats 4000000 in
theorem newestRoot_any {B : Nat} {w : World} {lab : Nat → Nat} {g : Nat} {K : Kn} (h : KB B w lab g K) (hB : B ≤ w.heap.size) (n : Nat) (sm : K.Small n) (hn : n < 1000000) (bk : Bare K) :
    Calls Tryz.prog 24 #[.pointer (some ⟨g, 0, none⟩)] w fun e w' => ∃ A c lab', e = .returned (.tuple #[.agg #[.int .i64 (newN K 2).1, .slice A (newN K 2).2.1.length c], .bool (newN K 2).2.2]) ∧ STo B (fun _ => False) w w' lab lab' g K ∧ RowG w' 1 A (newN K 2).2.1.length c (In.vi (newN K 2).2.1) := by
  have b0 : Below w.heap.size w (w.alloc (.cells #[.int .i64 0, .slice none 0 0] 49)) := (Below.refl _ w).alloc (Nat.le_refl _) _
  have R0 := Lib.hid (Blk.new w 49 #[.int .i64 0, .slice none 0 0])
  have T0 := Lib.hid (STo.fresh h hB (fun _ => False) b0)
  have LR := Lib.hid (h.lab0 (Nat.le_refl w.heap.size))
  have HB := Lib.hid hB
  have SM := Lib.hid sm
  have HN := Lib.hid hn
  have OK := Lib.hid h.ok
  have BK := Lib.hid bk
  clear b0 h hB sm hn bk
  go_enter Tryz.func24, Tryz.ntmps24
  go_upto_region 1 with fail
  generalize w.alloc (.cells #[.int .i64 0, .slice none 0 0] 49) = W at *
  go_wp2_with fail
  go_loopw [3, 9] (fun th i wr => ∃ j : Nat, j ≤ 2 ∧ i = .int .i64 (j : Int) ∧ ∃ A c lab', th = .bool (newN K j).2.2 ∧ Hid (STo B (fun _ => False) w wr lab lab' g K) ∧ Hid (lab' w.heap.size = 0) ∧ Hid (Blk wr w.heap.size 49 #[.int .i64 (newN K j).1, .slice A (newN K j).2.1.length c]) ∧ Hid (RowG wr 1 A (newN K j).2.1.length c (In.vi (newN K j).2.1)) ∧ Hid (Own0 wr lab' A (newN K j).2.1.length) ∧ Hid (0 ≤ (newN K j).1)) (fun _ i _ => 2 - (intOf i).toNat)
  case atStart => exact ⟨0, by omega, rfl, none, 0, lab, rfl, T0, LR, R0, Lib.hid (RowG.nil _ 1), Lib.hid (fun _ x e => by cases e), Lib.hid (Int.le_refl 0)⟩
  case round =>
    obtain ⟨j, hj, rfl, A, c, lab1, rfl, T1, L1, R1, G1, O1, P1⟩ := hrel
    by_cases hlt : j < 2
    rotate_left
    · obtain rfl : j = 2 := by omega
      clear T0 R0
      have hx : (0 : Int) ≤ 2 := by omega
      go_wp2_with (first
        | (refine wpList_load_row rfl 49 (.tmp 2) rfl w.heap.size rfl 49 _ (0, 0) _ R1.out Tryz.underlying49 rfl In.root_info ?_)
        | (refine wpList_store_row rfl 49 (.tmp 2) (.tmp 40) rfl w.heap.size (#[.int .i64 (newN K 2).1, .slice A (newN K 2).2.1.length c]) rfl rfl 49 _ R1.out In.root_info rfl (by simp [Value.oneCell']) ?_)
        | fail)
      refine bodyPost_ret (v := .tuple #[.agg #[.int .i64 (newN K 2).1, .slice A (newN K 2).2.1.length c], .bool (newN K 2).2.2]) ?_ rfl ?_
      · exact results_cell_tmp Tryz.results24 _ _ w.heap.size 49 _ (0, 0) _ rfl (R1.out.row _) Tryz.underlying49 rfl In.root_info
      rw [setRow_self wr _ _ _ _ R1.out]
      exact ⟨A, c, lab1, rfl, T1.out, G1.out⟩
    have hlt' : (j : Int) < 2 := by omega
    have C := Lib.hid (read_any T1.out.kb (Nat.le_trans HB.out T1.out.size) n SM.out HN.out (j : Int))
    have EN := Lib.hid (show newN K (j + 1) = newS (rdK K j).1 j (newN K j) from rfl)
    have LE := Lib.hid (rd_len OK.out (j : Int))
    obtain ⟨b, hb⟩ : ∃ b, (rdK K (j : Int)).1 = b := ⟨_, rfl⟩
    rw [hb] at C EN LE
    obtain ⟨cu, hcu⟩ : ∃ x, newN K j = x := ⟨_, rfl⟩
    rw [hcu] at R1 G1 O1 P1 EN ⊢
    clear T0 R0 hb hcu
    go_wp2_with fail
    refine C.out.mono ?_; rintro e w1 ⟨A1, c1, rfl, lab2, k1, s1, o1⟩
    have T2 := Lib.hid (T1.out.trans (k1.sto _))
    have L2 := Lib.hid ((k1.sto (fun _ => False)).zero _ R1.out.lt L1.out)
    have R2 := Lib.hid ((k1.sto (fun _ => False)).blk R1.out L1.out id)
    obtain ⟨g2, o2⟩ := (k1.sto (fun _ => False)).row G1.out O1.out (fun _ _ => id)
    have G2 := Lib.hid g2
    have O2 := Lib.hid o2
    have PR := Lib.hid (In.parsedRoot_any A1 b.length c1 b w1 s1 (by have := LE.out; omega))
    clear T1 L1 R1 G1 O1 g2 o2 k1 s1 o1 C
    go_wp2_with fail
    refine PR.out.mono ?_; rintro e w2 ⟨b2, hp⟩
    have T3 := Lib.hid (T2.out.new HB.out b2)
    have R3 := Lib.hid (R2.out.older (older_below b2))
    have S2 := Lib.hid (STo.fresh T2.out.kb (Nat.le_trans HB.out T2.out.size) (fun _ => False) b2)
    obtain ⟨g3, o3⟩ := S2.out.row G2.out O2.out (fun _ _ => id)
    have G3 := Lib.hid g3
    have O3 := Lib.hid o3
    have LW := Lib.hid (show w.heap.size < w1.heap.size from R2.out.lt)
    clear b2 g3 o3 PR G2 O2 R2 S2
    have xj := IntWalk.i64_in ((j : Int) + 1) (by omega)
    have hp : (rootE b ≠ 0 ∧ e = .returned (.tuple #[.agg #[.int .i64 0, .slice none 0 0], .int .i64 (rootE b)])) ∨ (rootE b = 0 ∧ ∃ A' c', e = .returned (.tuple #[.agg #[.int .i64 (In.rootR b).1, .slice A' (In.rootR b).2.length c'], .int .i64 0]) ∧ RowG w2 1 A' (In.rootR b).2.length c' (In.vi (In.rootR b).2) ∧ ∀ b, inB A' b → w1.heap.size ≤ b) := hp
    rcases hp with ⟨he, rfl⟩ | ⟨he, A', c', rfl, g', hf⟩
    · have EN := Lib.hid (EN.out.trans (show newS b j cu = cu from if_neg (fun h => he h.1)))
      have he' : (rootE b == 0) = false := by simpa using he
      have b4 : Below w2.heap.size w2 (w2.alloc (.cells #[.int .i64 0, .slice none 0 0] 49)) := (Below.refl _ w2).alloc (Nat.le_refl _) _
      have T4 := Lib.hid (T3.out.new HB.out b4)
      have R4 := Lib.hid (R3.out.older (older_below b4))
      have S4 := Lib.hid (STo.fresh T3.out.kb (Nat.le_trans HB.out T3.out.size) (fun _ => False) b4)
      obtain ⟨g4, o4⟩ := S4.out.row G3.out O3.out (fun _ _ => id)
      have G4 := Lib.hid g4
      have O4 := Lib.hid o4
      clear b4 g4 o4 S4 T3 R3 G3 O3 he
      go_upto_region 6 with fail
      generalize w2.alloc (.cells #[.int .i64 0, .slice none 0 0] 49) = w3 at *
      go_wp2
      go_roundw
      case rel => exact ⟨j + 1, by omega, by go_num, A, c, lab2, by rw [EN.out], T4, L2, by rw [EN.out]; exact R4, by rw [EN.out]; exact G4, by rw [EN.out]; exact O4, by rw [EN.out]; exact P1⟩
      case measure => simp [intOf]; omega
    · obtain ⟨gn, hgn, n1, n9⟩ := rootE_gen he
      have EN' := Lib.hid (show newS b j cu = if rootE b = 0 ∧ (In.rootR b).1 % 2 = (j : Int) ∧ cu.1 < (In.rootR b).1 then ((In.rootR b).1, (In.rootR b).2, true) else cu from rfl)
      obtain ⟨ds, hds⟩ : ∃ ds, (In.rootR b).2 = ds := ⟨_, rfl⟩
      rw [hgn, hds] at EN' ⊢
      rw [hds] at g'
      have og := own_new T2.out.kb g' hf
      have PL := Lib.hid (fun w => placeOf_any gn A' ds.length c' w)
      have fA : ∀ x, A' = some x → ¬ x.block = w.heap.size := fun x e hx => by
        have := hf x.block (by unfold inB; rw [e]; rfl)
        have := LW.out
        omega
      have FA := Lib.hid fA
      have b4 : Below w2.heap.size w2 (w2.alloc (.cells #[.int .i64 (gn : Int), .slice A' ds.length c'] 49)) := (Below.refl _ w2).alloc (Nat.le_refl _) _
      have T4 := Lib.hid (T3.out.new HB.out b4)
      have R4 := Lib.hid (R3.out.older (older_below b4))
      have N4 := Lib.hid (Blk.new w2 49 #[.int .i64 (gn : Int), .slice A' ds.length c'])
      have S4 := Lib.hid (STo.fresh T3.out.kb (Nat.le_trans HB.out T3.out.size) (fun _ => False) b4)
      obtain ⟨g4, o4⟩ := S4.out.row G3.out O3.out (fun _ _ => id)
      obtain ⟨g5, o5⟩ := S4.out.row g' og (fun _ _ => id)
      have G4 := Lib.hid g4
      have O4 := Lib.hid o4
      have G5 := Lib.hid g5
      have O5 := Lib.hid o5
      clear b4 g4 o4 g5 o5 S4 T3 R3 G3 O3 g' og hf hds fA
      go_upto_region 6 with fail
      generalize w2.alloc (.cells #[.int .i64 (gn : Int), .slice A' ds.length c'] 49) = w3 at *
      have y0 := (N4.out.cell 0).trans (show _ = some (.int .i64 (gn : Int)) from rfl)
      have y1 := (N4.out.cell 1).trans (show _ = some (.slice A' ds.length c') from rfl)
      go_wp2_with fail
      refine (PL.out w3).mono ?_; rintro e w4 ⟨rfl, b4⟩
      have T5 := Lib.hid (T4.out.new HB.out b4)
      have R5 := Lib.hid (R4.out.older (older_below b4))
      have N5 := Lib.hid (N4.out.older (older_below b4))
      have S5 := Lib.hid (STo.fresh T4.out.kb (Nat.le_trans HB.out T4.out.size) (fun _ => False) b4)
      obtain ⟨g4, o4⟩ := S5.out.row G4.out O4.out (fun _ _ => id)
      obtain ⟨g5, o5⟩ := S5.out.row G5.out O5.out (fun _ _ => id)
      have G6 := Lib.hid g4
      have O6 := Lib.hid o4
      have G7 := Lib.hid g5
      have O7 := Lib.hid o5
      clear b4 g4 o4 g5 o5 S5 T4 R4 N4 G4 O4 G5 O5 y0 y1 PL
      have y0 := (N5.out.cell 0).trans (show _ = some (.int .i64 (gn : Int)) from rfl)
      have r0 := (R5.out.cell 0).trans (show _ = some (.int .i64 cu.1) from rfl)
      by_cases hq : gn % 2 = j
      rotate_left
      · have EN := Lib.hid (EN.out.trans (EN'.out.trans (if_neg (fun h => hq (by have := h.2.1; omega)))))
        have hq1 : ¬ ((gn % 2 : Nat) : Int) = (j : Int) := by omega
        have hq2 : (((gn % 2 : Nat) : Int) == (j : Int)) = false := by simpa using hq1
        generalize gn % 2 = q at *
        go_wp2
        go_roundw
        case rel => exact ⟨j + 1, by omega, by go_num, A, c, lab2, by rw [EN.out], T5, L2, by rw [EN.out]; exact R5, by rw [EN.out]; exact G6, by rw [EN.out]; exact O6, by rw [EN.out]; exact P1⟩
        case measure => simp [intOf]; omega
      have HQQ := Lib.hid (show (gn : Int) % 2 = (j : Int) from by omega)
      have hq1 : ((gn % 2 : Nat) : Int) = (j : Int) := by omega
      generalize gn % 2 = q at *
      by_cases hg : cu.1 < (gn : Int)
      rotate_left
      · have EN := Lib.hid (EN.out.trans (EN'.out.trans (if_neg (fun h => hg h.2.2))))
        have hg1 : ¬ (gn : Int) > cu.1 := by omega
        go_wp2
        go_roundw
        case rel => exact ⟨j + 1, by omega, by go_num, A, c, lab2, by rw [EN.out], T5, L2, by rw [EN.out]; exact R5, by rw [EN.out]; exact G6, by rw [EN.out]; exact O6, by rw [EN.out]; exact P1⟩
        case measure => simp [intOf]; omega
      have EN := Lib.hid (EN.out.trans (EN'.out.trans (if_pos ⟨he, HQQ.out, hg⟩)))
      have hg1 : (gn : Int) > cu.1 := by omega
      obtain ⟨w5, hw5⟩ : ∃ wq, w4.setRow w.heap.size #[.int .i64 (gn : Int), .slice A' ds.length c'] = wq := ⟨_, rfl⟩
      have kk : Chg w4 w5 (fun i => i = w.heap.size) := by rw [← hw5]; exact Chg.setRow w4 _ (g := w.heap.size) (S := fun i => i = w.heap.size) rfl
      have T6 := Lib.hid (T5.out.set BK.out kk (.inr (Nat.le_refl _)) HB.out HB.out L2.out)
      have R6 := Lib.hid (show Blk w5 w.heap.size 49 #[.int .i64 (gn : Int), .slice A' ds.length c'] from by rw [← hw5]; exact R5.out.row _)
      have G8 := Lib.hid (G7.out.chg kk (fun x e => FA.out x e))
      have O8 := Lib.hid (show Own0 w5 lab2 A' ds.length from fun h0 x e => ⟨Nat.lt_of_lt_of_le (O7.out h0 x e).1 kk.size, (O7.out h0 x e).2⟩)
      have P2 := Lib.hid (show (0 : Int) ≤ (gn : Int) from by omega)
      have HQ := Lib.hid hw5
      clear hw5 kk T5 G6 O6 G7 O7
      go_upto_region 8 with (first
        | (refine wpList_load_row rfl 49 (.tmp 7) rfl w2.heap.size rfl 49 _ (0, 0) _ N5.out Tryz.underlying49 rfl In.root_info ?_)
        | (refine wpList_store_row rfl 49 (.tmp 2) (.tmp 38) rfl w.heap.size (#[.int .i64 (gn : Int), .slice A' ds.length c']) rfl rfl 49 _ R5.out In.root_info rfl (by simp [Value.oneCell']) ?_)
        | fail)
      rw [HQ.out]
      clear HQ R5 N5
      go_wp2
      go_roundw
      case rel => exact ⟨j + 1, by omega, by go_num, A', c', lab2, by rw [EN.out], T6, L2, by rw [EN.out]; exact R6, by rw [EN.out]; exact G8, by rw [EN.out]; exact O8, by rw [EN.out]; exact P2⟩
      case measure => simp [intOf]; omega
end Go.Proofs.YtefnkednnnlhoaaGreatDoor.Sr

/- Package store: what no store answers; mayPublish. Conditions: those that each states. -/
namespace Go.Proofs.YtefnkednnnlhoaaGreatDoor.Sr
open Go.ChangeShapes Go.WideShapes Go.ChangeAt Go.RowKit Go.Deep Fr Di Ke Rk
set_option linter.unusedVariables false
set_option linter.unusedSimpArgs false

abbrev f0V : Array Value := #[.int .i64 0, .int .i64 0, .int .i64 0, .slice none 0 0, .slice none 0 0]
theorem gen_nil (w : World) : Calls Tryz.prog 11 #[.pointer none] w fun e w' => e = .returned (.int .i64 0) ∧ w = w' := by
  go_enter Tryz.func11, Tryz.ntmps11
  go_wp2
  go_ret
  exact ⟨rfl, rfl⟩
theorem names_nil (w : World) : Calls Tryz.prog 10 #[.pointer none] w fun e w' => e = .returned (.slice none 0 0) ∧ w = w' := by
  go_enter Tryz.func10, Tryz.ntmps10
  go_wp2
  go_ret
  exact ⟨rfl, rfl⟩
theorem mount_nil (w : World) : Calls Tryz.prog 8 #[.pointer none] w fun e w' => e = .returned (.tuple #[.pointer none, .int .i64 3]) ∧ w = w' := by
  go_enter Tryz.func8, Tryz.ntmps8
  go_wp2
  go_ret2
  exact ⟨rfl, rfl⟩
set_option maxRecDepth 100000 in
theorem publish_nil (nm : ByteArray) (A : Option Addr) (n c : Nat) (m : Int) (w : World) : Calls Tryz.prog 7 #[.pointer none, .string nm, .slice A n c, .int .i64 m] w fun e w' => e = .returned (.tuple #[.slice none 0 0, .int .i64 3]) ∧ w = w' := by
  go_enter Tryz.func7, Tryz.ntmps7
  go_wp2
  go_ret2
  exact ⟨rfl, rfl⟩
set_option maxRecDepth 100000 in
theorem lookup_nil (nm : ByteArray) (w : World) : Calls Tryz.prog 5 #[.pointer none, .string nm] w fun e w' => e = .returned (.tuple #[.agg f0V, .int .i64 3]) ∧ Below w.heap.size w w' := by
  have B0 := Lib.hid ((Below.refl w.heap.size w).alloc (Nat.le_refl _) (.cells f0V 27))
  have R0 := Lib.hid (Blk.new w 27 f0V)
  have KZ := Lib.hid (below_setRow B0.out (Nat.le_refl w.heap.size) f0V)
  obtain ⟨W, hW⟩ : ∃ W, w.alloc (.cells f0V 27) = W := ⟨_, rfl⟩
  rw [hW] at B0 R0 KZ
  have HW := Lib.hid hW
  clear hW
  go_enter Tryz.func5, Tryz.ntmps5
  go_upto_region 1 with fail
  rw [HW.out]
  go_wp2_with (first
    | (refine wpList_store_row rfl 27 (.tmp 4) (.tmp 11) rfl w.heap.size f0V rfl rfl 27 _ R0.out In.file_info rfl (by simp [Value.oneCell']) ?_)
    | fail)
  refine bodyPost_ret (v := .tuple #[.agg f0V, .int .i64 3]) ?_ rfl ?_
  · exact results_cell_tmp Tryz.results5 _ _ w.heap.size 27 _ (0, 0) _ rfl (R0.out.row _) Tryz.underlying27 rfl In.file_info
  exact ⟨rfl, KZ.out⟩
set_option maxRecDepth 100000 in
theorem bytes_nil (nm : ByteArray) (w : World) : Calls Tryz.prog 6 #[.pointer none, .string nm] w fun e w' => e = .returned (.tuple #[.slice none 0 0, .int .i64 3]) ∧ Below w.heap.size w w' := by
  have LK := Lib.hid (lookup_nil nm w)
  go_enter Tryz.func6, Tryz.ntmps6
  go_wp2_with fail
  refine LK.out.mono ?_; rintro e w1 ⟨rfl, b1⟩
  have B2 := Lib.hid (b1.alloc b1.size (.cells f0V 27))
  go_upto_region 2 with fail
  generalize w1.alloc (.cells f0V 27) = w2 at *
  go_wp2
  go_ret2
  exact ⟨rfl, B2.out⟩

/-- What stands against a file in any store. -/
def mayR (nm : List UInt8) (n : Nat) (m : Int) : Int := if Pt.nameB nm = false then 70 else if 8192 < n then 2 else if m < 0 ∨ 253402300799 < m then 1 else 0
set_option maxRecDepth 100000 in
theorem mayPublish_any (nm : List UInt8) (A : Option Addr) (n c : Nat) (m : Int) (w : World) : Calls Tryz.prog 21 #[.string ⟨nm.toArray⟩, .slice A n c, .int .i64 m] w fun e w' => e = .returned (.int .i64 (mayR nm n m)) ∧ Below w.heap.size w w' := by
  have NM := Lib.hid (In.name_all nm w)
  have E := Lib.hid (show mayR nm n m = if Pt.nameB nm = false then 70 else if 8192 < n then 2 else if m < 0 ∨ 253402300799 < m then 1 else 0 from rfl)
  obtain ⟨r, hr⟩ : ∃ r, mayR nm n m = r := ⟨_, rfl⟩
  rw [hr] at E ⊢
  clear hr
  cases hv : Pt.nameB nm with
  | false =>
    rw [hv] at NM E
    have E := Lib.hid (E.out.trans (if_pos rfl))
    go_enter Tryz.func21, Tryz.ntmps21
    go_wp2_with fail
    refine NM.out.mono ?_; rintro e w1 ⟨rfl, b1⟩
    go_wp2
    go_ret
    exact ⟨by rw [E.out]; rfl, b1⟩
  | true =>
    rw [hv] at NM E
    have E := Lib.hid (E.out.trans (if_neg (by simp)))
    by_cases h1 : (n : Int) > 8192
    · have E := Lib.hid (E.out.trans (if_pos (by omega)))
      go_enter Tryz.func21, Tryz.ntmps21
      go_wp2_with fail
      refine NM.out.mono ?_; rintro e w1 ⟨rfl, b1⟩
      go_wp2
      go_ret
      exact ⟨by rw [E.out]; rfl, b1⟩
    have E := Lib.hid (E.out.trans (if_neg (by omega)))
    by_cases h2 : m < 0
    · have E := Lib.hid (E.out.trans (if_pos (.inl h2)))
      go_enter Tryz.func21, Tryz.ntmps21
      go_wp2_with fail
      refine NM.out.mono ?_; rintro e w1 ⟨rfl, b1⟩
      go_wp2
      go_ret
      exact ⟨by rw [E.out]; rfl, b1⟩
    by_cases h3 : m > 253402300799
    · have E := Lib.hid (E.out.trans (if_pos (.inr h3)))
      go_enter Tryz.func21, Tryz.ntmps21
      go_wp2_with fail
      refine NM.out.mono ?_; rintro e w1 ⟨rfl, b1⟩
      go_wp2
      go_ret
      exact ⟨by rw [E.out]; rfl, b1⟩
    have E := Lib.hid (E.out.trans (if_neg (by omega)))
    go_enter Tryz.func21, Tryz.ntmps21
    go_wp2_with fail
    refine NM.out.mono ?_; rintro e w1 ⟨rfl, b1⟩
    go_wp2
    go_ret
    exact ⟨by rw [E.out]; rfl, b1⟩
end Go.Proofs.YtefnkednnnlhoaaGreatDoor.Sr
