/- Package store: plan, where the file comes behind all others. Conditions: those that each states. -/
import Derived.Test.YtefnkednnnlhoaaGreatDoorSrO
import Derived.Test.YtefnkednnnlhoaaGreatDoorSrM
import Derived.Test.YtefnkednnnlhoaaGreatDoorMBD
import Derived.Test.YtefnkednnnlhoaaGreatDoorMAY
import Derived.Test.YtefnkednnnlhoaaGreatDoorMAZ
namespace Go.Proofs.YtefnkednnnlhoaaGreatDoor.Sr
open Go.ChangeShapes Go.WideShapes Go.ChangeAt Go.RowKit Go.Deep Go.Shelf Fr Di Ke Rk Fl
set_option linter.unusedVariables false
set_option linter.unusedSimpArgs false
attribute [local go_sem] Oper.semAt_some
theorem dr_info : (Tryz.prog.info? 69).map (·.size) = some 5 := by kernel_rfl
theorem wp_store_row_n {P : Program} {o : Oper} {a : Act} {w : World} {K : Act → World → Prop} {Q : Exit → Act → World → Prop} (hd : o.dst = none) (ty : TypeId) (x y : Operand) (ho : o.op = .store ty x y)
    (g : Nat) (cells : Array Value) (hx : a.eval x = .pointer (some ⟨g, 0, none⟩)) (hy : a.eval y = .agg cells)
    (t : TypeId) (old : Array Value) (hg : w.heap[g]? = some (.cells old t (0, 0))) (hi : (P.info? ty).map (·.size) = some cells.size)
    (hold : old.size = cells.size) (h1 : cells.all (·.oneCell') = true) (h : K a (w.setRow g cells)) : o.wp P a w K Q :=
  wp_store_row ty x y ho g cells hx hy t old hg hi hold h1 (by rw [hd]; exact h)
def newLf (nm : List UInt8) : Lf := ⟨nm, 0, ⟨0, 0, 0, [], []⟩, none, 0, none, 0⟩
def fileLf (nm : List UInt8) (mt : Int) (nb : Nat) : Lf := ⟨nm, 0, ⟨1, mt, (nb : Int), [], []⟩, none, 0, none, 0⟩
theorem vl_snoc (l : List Lf) (x : Lf) : vl (l ++ [x]) = vl l ++ x.vals := by unfold vl; rw [List.flatMap_append]; simp
theorem plan_cells (l : List Lf) (nm : List UInt8) (mt : Int) (nb : Nat) (sp : List Value) :
    (((vl (l ++ [newLf nm]) ++ sp).toArray.toList.take (l.length * 7 + 2) ++ (#[.int .i64 1, .int .i64 mt, .int .i64 (nb : Int), .slice none 0 0, .slice none 0 0] : Array Value).toList ++ (vl (l ++ [newLf nm]) ++ sp).toArray.toList.drop (l.length * 7 + 2 + 5))) = vl (l ++ [fileLf nm mt nb]) ++ sp := by
  rw [vl_snoc, vl_snoc]
  have hl := vl_length l
  have e1 : (vl l ++ (newLf nm).vals ++ sp).take (l.length * 7 + 2) = vl l ++ [.string ⟨nm.toArray⟩, .int .i64 0] := by
    rw [List.append_assoc, ← hl, List.take_length_add_append]; rfl
  have e2 : (vl l ++ (newLf nm).vals ++ sp).drop (l.length * 7 + 2 + 5) = sp := by
    rw [show l.length * 7 + 2 + 5 = (vl l ++ (newLf nm).vals).length + 0 by rw [List.length_append, hl, vals_length], List.drop_length_add_append]; rfl
  show List.take _ (vl l ++ (newLf nm).vals ++ sp) ++ _ ++ List.drop _ (vl l ++ (newLf nm).vals ++ sp) = _
  rw [e1, e2]
  simp [fileLf, Lf.vals]
theorem plan_cells2 (l : List Lf) (nm : List UInt8) (mt : Int) (nb : Nat) (sp : List Value) :
    (vl (l ++ [newLf nm]) ++ sp).take (l.length * 7 + 2) ++ .int .i64 1 :: .int .i64 mt :: .int .i64 (nb : Int) :: .slice none 0 0 :: .slice none 0 0 :: (vl (l ++ [newLf nm]) ++ sp).drop (l.length * 7 + 2 + 5) = vl (l ++ [fileLf nm mt nb]) ++ sp := by
  have h := plan_cells l nm mt nb sp
  rw [List.append_assoc] at h
  exact h
/-- A row's block, whole. -/
theorem rowW_blk {W : World} {E : TypeId} {sz n c g : Nat} {xs : List Value} (h : RowW W E sz (some ⟨g, 0, none⟩) n c xs) : ∃ sp, Blk W g E (xs ++ sp).toArray := by
  rcases h.own.2 with ⟨e, _⟩ | ⟨g1, cap, cur, e, hb, hh, _, _, _, ht⟩
  · cases e
  · cases e
    refine ⟨cur.toList.drop (n * sz), ?_⟩
    have : (xs ++ cur.toList.drop (n * sz)).toArray = cur := by
      apply Array.ext'
      show xs ++ cur.toList.drop (n * sz) = cur.toList
      rw [← ht, List.take_append_drop]
    rw [this]; exact hh
theorem fil_info5 : (Tryz.prog.info? 27).map (·.size) = some 5 := by kernel_rfl
/-- What plan answers. -/
def Planned (B : Nat) (w w' : World) (lab : Nat → Nat) (g : Nat) (K : Kn) (gn : Int) (l : List Lf) (nm : List UInt8) (v : Int) (np nd : Nat) (ts : List Int) (xs : Nat → List UInt8) (fF : In.Fil) (e : Ending) : Prop :=
  ∃ (D' A' T X : Option Addr) (cd' c' ct cx : Nat) (pA : Nat → Option Addr) (pc : Nat → Nat) (lab' : Nat → Nat) (x : Lf),
    e = .returned (.tuple #[.agg #[.int .i64 (gn + 1), .slice D' nd cd', .slice A' (l.length + 1) c', .slice T ts.length ct, .slice X (np + 1 + nd) cx], .int .i64 0]) ∧ (x.name = nm ∧ x.ino = v ∧ x.f = fF) ∧
    STo B (fun _ => False) w w' lab lab' g K ∧ (RowG w' 1 D' nd cd' (In.vi ((ts.drop (np + 1)).take nd)) ∧ Own0 w' lab' D' nd) ∧ (RowG w' 1 T ts.length ct (In.vi ts) ∧ Own0 w' lab' T ts.length) ∧
    TxAt w' lab' X cx pA pc xs (np + 1 + nd) ∧ FAt w' lab' A' c' (l ++ [x]) ∧ (∀ ad, (D' = some ad ∨ A' = some ad ∨ x.A = some ad ∨ x.A' = some ad) → w.heap.size ≤ ad.block)
theorem STo.turn {B : Nat} {S S2 : Nat → Prop} {w w1 w2 : World} {lab lab1 : Nat → Nat} {g : Nat} {K1 : Kn} (h : STo B S w w1 lab lab1 g K1) (hBw : B ≤ w.heap.size) (b : Bare K1) (k : Chg w1 w2 S2) (h2 : ∀ j, S2 j → w.heap.size ≤ j ∧ lab1 j = 0) : STo B S w w2 lab lab1 g K1 :=
  ⟨KB.chg0 h.kb b k (fun i e => (h2 i e).2), h.below.trans ⟨k.os, k.tape, k.output, k.size, fun i hi => k.block i (by have := h.size; omega) (fun s => by have := (h2 i s).1; omega)⟩, Nat.le_trans h.size k.size, h.zero,
    fun i hi hz hs => (k.block i (Nat.lt_of_lt_of_le hi h.size) (fun e => by have := (h2 i e).1; omega)).trans (h.keep i hi hz hs)⟩
/-- A draft ahead of fill. -/
theorem FmAt.start {w : World} {gd g4 a ct : Nat} {v0 : Value} {T : Option Addr} {ts : List Int} {L : List Lf} {sp : List Value} {cf : Nat} (dr : Blk w gd 69 #[v0, .slice none 0 0, .slice (some ⟨g4, 0, none⟩) L.length cf, .slice T ts.length ct, .slice none 0 0]) (fl : Blk w g4 58 (vl L ++ sp).toArray) (hne : gd ≠ g4)
    (tk : RowG w 1 T ts.length ct (In.vi ts)) (ht : ∀ b, inB T b → b ≠ gd ∧ b ≠ g4 ∧ b < w.heap.size) (ha : a < L.length) (h5 : L[a].vals[5]? = some (.slice none 0 0)) (h6 : L[a].vals[6]? = some (.slice none 0 0)) (xs : Nat → List UInt8) :
    FmAt (fun j => if j = gd then 1 else if j = g4 then 2 else if T.map (·.block) = some j then 7 else 0) w w gd g4 a v0 (.slice none 0 0) (.slice (some ⟨g4, 0, none⟩) L.length cf) T ct ts (vl L ++ sp).toArray 0 xs [] [] ⟨none, 0, none, 0, none, 0, fun _ => none, fun _ => 0⟩ := by
  have g : ∀ k, k < 7 → (vl L ++ sp)[a * 7 + k]? = (L[a].vals)[k]? := fun k hk => by
    rw [List.getElem?_append_left (by rw [vl_length]; omega)]
    exact vl_get L a k ha hk
  have same : ∀ (l : List Value) (i : Nat) (u : Value), l[i]? = some u → l.set i u = l := fun l i u h => by
    obtain ⟨h1, h2⟩ := List.getElem?_eq_some_iff.1 h
    rw [← h2]; exact List.set_getElem_self h1
  have e6 : (vl L ++ sp).set (a * 7 + 6) (.slice none 0 0) = vl L ++ sp := same _ _ _ (by rw [g 6 (by decide)]; exact h6)
  have e5 : (vl L ++ sp).set (a * 7 + 5) (.slice none 0 0) = vl L ++ sp := same _ _ _ (by rw [g 5 (by decide)]; exact h5)
  exact {
    dr := dr
    qd := if_pos rfl
    fl := by
      show Blk w g4 _ (((vl L ++ sp).toArray.setIfInBounds (a * 7 + 6) (.slice none 0 0)).setIfInBounds (a * 7 + 5) (.slice none 0 0))
      simp only [List.setIfInBounds_toArray, e6, e5]
      exact fl
    qa := by show (if g4 = gd then 1 else _) = _; rw [if_neg (fun e => hne e.symm), if_pos rfl]
    tk := tk
    qt := fun b e => by
      obtain ⟨h1, h2, h3⟩ := ht b e
      refine ⟨?_, h3⟩
      show (if b = gd then 1 else _) = _
      rw [if_neg h1, if_neg h2]
      exact if_pos e
    tx := RowW.nil _ _ _
    qx := fun b e => absurd e (inB_none b)
    sr := fun i hi => absurd hi (Nat.not_lt_zero i)
    qs := fun i hi => absurd hi (Nat.not_lt_zero i)
    bk := RowW.nil _ _ _
    qb := fun b e => absurd e (inB_none b)
    pt := RowW.nil _ _ _
    qp := fun b e => absurd e (inB_none b)
    ch := Chg.refl _ _
    sz := Nat.le_refl _ }
/-- The texts that are laid: the pieces, the file, the directories. -/
def planX (np nb : Nat) (bs : List UInt8) (fF : In.Fil) (es : List In.Ent) : Nat → List UInt8 := fun i =>
  if i < np then (bs.drop (i * 256)).take 256 ++ List.replicate (256 - min 256 (nb - i * 256)) 0 else if i = np then In.sealL (In.filT fF) else In.sealL (In.dirT ((es.drop ((i - np - 1) * 8)).take 8))
theorem planX_piece {np nb : Nat} {bs : List UInt8} {fF : In.Fil} {es : List In.Ent} {k : Nat} (h : k < np) : planX np nb bs fF es k = (bs.drop (k * 256)).take 256 ++ List.replicate (256 - min 256 (nb - k * 256)) 0 := if_pos h
theorem planX_file {np nb : Nat} {bs : List UInt8} {fF : In.Fil} {es : List In.Ent} : planX np nb bs fF es np = In.sealL (In.filT fF) := by unfold planX; rw [if_neg (Nat.lt_irrefl _), if_pos rfl]
theorem planX_dir {np nb : Nat} {bs : List UInt8} {fF : In.Fil} {es : List In.Ent} (k : Nat) : planX np nb bs fF es (np + 1 + k) = In.sealL (In.dirT ((es.drop (k * 8)).take 8)) := by unfold planX; rw [if_neg (by omega), if_neg (by omega), show np + 1 + k - np - 1 = k by omega]
theorem plan_store {W1 : World} {gn : Int} {n : Nat} {xs : List Value} (W : World) (gd : Nat) (A1 : Option Addr) (c1 : Nat) (hS : Below W1.heap.size W1 W) (hg : W1.heap.size ≤ gd) (ZD : Blk W gd 69 #[.int .i64 0, .slice none 0 0, .slice none 0 0, .slice none 0 0, .slice none 0 0]) (R1 : RowW W 58 7 A1 n c1 xs) (NA : ∀ b, inB A1 b → W1.heap.size ≤ b ∧ b ≠ gd) :
    Blk (W.setRow gd #[.int .i64 (gn + 1), .slice none 0 0, .slice A1 n c1, .slice none 0 0, .slice none 0 0]) gd 69 #[.int .i64 (gn + 1), .slice none 0 0, .slice A1 n c1, .slice none 0 0, .slice none 0 0] ∧
    RowW (W.setRow gd #[.int .i64 (gn + 1), .slice none 0 0, .slice A1 n c1, .slice none 0 0, .slice none 0 0]) 58 7 A1 n c1 xs ∧ Below W1.heap.size W1 (W.setRow gd #[.int .i64 (gn + 1), .slice none 0 0, .slice A1 n c1, .slice none 0 0, .slice none 0 0]) :=
  ⟨ZD.row _, R1.chg (Chg.setRow (S := fun j => j = gd) W _ rfl) (fun b e s => (NA b e).2 s), hS.trans ((Chg.setRow (S := fun j => j = gd) W _ rfl).below hS.size (fun k hk => by have hk' : k = gd := hk; omega))⟩
set_option maxRecDepth 100000 in
set_option maxHeartbeats 4000000 in
theorem plan_end {B : Nat} {w : World} {lab : Nat → Nat} {gs g cd c : Nat} {gn : Int} {D A : Option Addr} {ds : List Int} {l : List Lf} {dead : Bool} {K : Kn} (h : StAt w lab gs g gn D ds cd A c l dead) (hk : KB B w lab g K) (hB : B ≤ w.heap.size) (m : Nat) (sm : K.Small m) (hm : m < 1000000) (bk : Bare K) (hdl : ds.length ≤ 1000) (hd : ∀ d ∈ ds, 0 ≤ d ∧ d < 512) (hx : ∀ x ∈ l, (0 ≤ x.ino ∧ x.ino < 512) ∧ (∀ d ∈ x.f.blocks, 0 ≤ d ∧ d < 512) ∧ x.f.blocks.length ≤ 1000)
    (hg : 0 ≤ gn ∧ gn < 1073741824) (hroom : l.length < 24) (hz : A = none ∨ 0 < l.length) (nm : List UInt8) (hat : atR l nm = l.length) (Ab : Option Addr) (nb cb : Nat) (mt : Int) (hnb : nb ≤ 8192) (np : Nat) (hnp : np = (nb + 255) / 256) (nd : Nat) (hnd : nd = (l.length + 8) / 8) (ts : List Int) (hts : ts = freeR K (usedR ds l) (np + 1 + nd)) (htl : ts.length = np + 1 + nd)
    (bs : List UInt8) (hsb : Src w Ab nb cb bs) (hsl : ∀ b o, Ab = some ⟨b, o, none⟩ → b < w.heap.size ∧ lab b = 0) (v : Int) (hv : ts[np]? = some v) (fF : In.Fil) (hfF : fF = ⟨1, mt, (nb : Int), ts.take np, prN bs np⟩) (hmf : fF.may = true) (es : List In.Ent) (hes : es = ents l ++ [⟨nm, v⟩]) (hdm : ∀ k, k * 8 < l.length + 1 → In.dirMay ((es.drop (k * 8)).take 8) = true) :
    Calls Tryz.prog 22 #[.pointer (some ⟨gs, 0, none⟩), .string ⟨nm.toArray⟩, .slice Ab nb cb, .int .i64 mt] w fun e w' => Planned B w w' lab g K gn l nm v np nd ts (planX np nb bs fF es) fF e := by
  have hfew := h.few
  have hnp33 : np ≤ 40 := by omega
  have hnd3 : nd ≤ 4 := by omega
  have NP := Lib.hid hnp
  have ND := Lib.hid hnd
  have TS := Lib.hid hts
  have TL := Lib.hid htl
  clear hnp hnd hts htl
  have FND := fun W (hW : FAt W lab A c l) => find_any gn D ds.length cd A c l nm W lab hW (by omega)
  rw [hat, show isR l nm l.length = false from by unfold isR; rw [List.getElem?_eq_none (Nat.le_refl _)]] at FND
  have FND := Lib.hid FND
  have fin := fun (W1 W : World) gd A1 c1 => plan_store (W1 := W1) (gn := gn) (n := l.length) (xs := vl l) W gd A1 c1
  obtain ⟨W1, hW1⟩ : ∃ W1, W1 = w.alloc (.cells #[.int .i64 0, .slice none 0 0, .slice none 0 0, .slice none 0 0, .slice none 0 0] 69) := ⟨_, rfl⟩
  have b1 : Below w.heap.size w W1 := by rw [hW1]; exact (Below.refl _ w).alloc (Nat.le_refl _) _
  have H1 := Lib.hid (h.new b1)
  have Z8 := Lib.hid (show Blk W1 w.heap.size 69 #[.int .i64 0, .slice none 0 0, .slice none 0 0, .slice none 0 0, .slice none 0 0] from by rw [hW1]; exact Blk.new w _ _)
  have hz1 : w.heap.size + 1 = W1.heap.size := by rw [hW1]; simp
  have HW1 := Lib.hid hW1
  have B1 := Lib.hid b1
  have xg := IntWalk.i64_in (gn + 1) (by omega)
  have BQ := Lib.hid ((Below.refl W1.heap.size W1).drew)
  clear hW1 b1
  go_enter Tryz.func22, Tryz.ntmps22
  go_upto_region 1 with fail
  rw [← HW1.out]
  go_cut [10] (fun v wx => ∃ (gd : Nat) (A1 : Option Addr) (c1 : Nat), v = .pointer (some ⟨gd, 0, none⟩) ∧ Hid (Blk wx gd 69 #[.int .i64 (gn + 1), .slice none 0 0, .slice A1 l.length c1, .slice none 0 0, .slice none 0 0]) ∧ Hid (RowW wx 58 7 A1 l.length c1 (vl l)) ∧ Hid (Below W1.heap.size W1 wx) ∧ Hid (W1.heap.size ≤ gd ∧ ∀ b, inB A1 b → W1.heap.size ≤ b ∧ b ≠ gd))
  case first =>
    refine wp_region_held_drew (S := fun w' => Hid (Below W1.heap.size W1 w')) (by kernel_rfl) (Lib.hid ((Below.refl W1.heap.size W1).drew)) (fun hS => ?_)
    refine held_take (i := 0) (d := (some 15)) (v := ?_) rfl rfl (by kernel_rfl) (by kernel_rfl) (by kernel_rfl) (fun _ _ _ h => h) (by rfl) ?_ hS ?_
    rotate_left
    · intro w' hSw; (try dsimp only at hSw); go_simp <;> with_reducible rfl
    simp only [Act.put, List.setIfInBounds_toArray, List.set_cons_zero, List.set_cons_succ]
    refine held_take (i := 1) (d := (some 16)) (v := ?_) rfl rfl (by kernel_rfl) (by kernel_rfl) (by kernel_rfl) (fun _ _ _ h => h) (by rfl) ?_ hS ?_
    rotate_left
    · intro w' hSw; (try dsimp only at hSw); go_simp <;> with_reducible rfl
    simp only [Act.put, List.setIfInBounds_toArray, List.set_cons_zero, List.set_cons_succ]
    refine held_take (i := 2) (d := (some 17)) (v := ?_) rfl rfl (by kernel_rfl) (by kernel_rfl) (by kernel_rfl) (fun _ _ _ h => h) (by rfl) ?_ hS ?_
    rotate_left
    · intro w' hSw; (try dsimp only at hSw); go_simp <;> with_reducible rfl
    simp only [Act.put, List.setIfInBounds_toArray, List.set_cons_zero, List.set_cons_succ]
    refine held_take (i := 3) (d := (some 18)) (v := ?_) rfl rfl (by kernel_rfl) (by kernel_rfl) (by kernel_rfl) (fun _ _ _ h => h) (by rfl) ?_ hS ?_
    rotate_left
    · intro w' hSw; (try dsimp only at hSw); go_simp <;> with_reducible rfl
    simp only [Act.put, List.setIfInBounds_toArray, List.set_cons_zero, List.set_cons_succ]
    refine held_take (i := 4) (d := (some 19)) (v := ?_) rfl rfl (by kernel_rfl) (by kernel_rfl) (by kernel_rfl) (fun _ _ _ h => h) (by rfl) ?_ hS ?_
    rotate_left
    · intro w' hSw; (try dsimp only at hSw); go_simp <;> with_reducible rfl
    simp only [Act.put, List.setIfInBounds_toArray, List.set_cons_zero, List.set_cons_succ]
    refine held_take (i := 5) (d := (some 20)) (v := ?_) rfl rfl (by kernel_rfl) (by kernel_rfl) (by kernel_rfl) (fun _ _ _ h => h) (by rfl) ?_ hS ?_
    rotate_left
    · intro w'' hSw; have hc := ((H1.out.head.older (older_below hSw.out)).cell 0).trans (show _ = some (.int .i64 gn) from rfl); clear hSw; go_simp <;> with_reducible rfl
    simp only [Act.put, List.setIfInBounds_toArray, List.set_cons_zero, List.set_cons_succ]
    refine held_take (i := 6) (d := (some 21)) (v := ?_) rfl rfl (by kernel_rfl) (by kernel_rfl) (by kernel_rfl) (fun _ _ _ h => h) (by rfl) ?_ hS ?_
    rotate_left
    · intro w' hSw; (try dsimp only at hSw); go_simp <;> with_reducible rfl
    simp only [Act.put, List.setIfInBounds_toArray, List.set_cons_zero, List.set_cons_succ]
    refine held_take (i := 7) (d := (some 22)) (v := ?_) rfl rfl (by kernel_rfl) (by kernel_rfl) (by kernel_rfl) (fun _ _ _ h => h) (by rfl) ?_ hS ?_
    rotate_left
    · intro w' hSw; (try dsimp only at hSw); go_simp <;> with_reducible rfl
    simp only [Act.put, List.setIfInBounds_toArray, List.set_cons_zero, List.set_cons_succ]
    refine held_take (i := 8) (d := (some 23)) (v := ?_) rfl rfl (by kernel_rfl) (by kernel_rfl) (by kernel_rfl) (fun _ _ _ h => h) (by rfl) ?_ hS ?_
    rotate_left
    · intro w' hSw; (try dsimp only at hSw); go_simp <;> with_reducible rfl
    simp only [Act.put, List.setIfInBounds_toArray, List.set_cons_zero, List.set_cons_succ]
    refine held_take (i := 9) (d := (some 24)) (v := ?_) rfl rfl (by kernel_rfl) (by kernel_rfl) (by kernel_rfl) (fun _ _ _ h => h) (by rfl) ?_ hS ?_
    rotate_left
    · intro w' hSw; (try dsimp only at hSw); go_simp <;> with_reducible rfl
    simp only [Act.put, List.setIfInBounds_toArray, List.set_cons_zero, List.set_cons_succ]
    refine held_take (i := 10) (d := (some 25)) (v := ?_) rfl rfl (by kernel_rfl) (by kernel_rfl) (by kernel_rfl) (fun _ _ _ h => h) (by rfl) ?_ hS ?_
    rotate_left
    · intro w' hSw; (try dsimp only at hSw); go_simp <;> with_reducible rfl
    simp only [Act.put, List.setIfInBounds_toArray, List.set_cons_zero, List.set_cons_succ]
    refine held_take (i := 11) (d := (some 26)) (v := ?_) rfl rfl (by kernel_rfl) (by kernel_rfl) (by kernel_rfl) (fun _ _ _ h => h) (by rfl) ?_ hS ?_
    rotate_left
    · intro w' hSw; (try dsimp only at hSw); go_simp <;> with_reducible rfl
    simp only [Act.put, List.setIfInBounds_toArray, List.set_cons_zero, List.set_cons_succ]
    refine held_take (i := 12) (d := (some 27)) (v := ?_) rfl rfl (by kernel_rfl) (by kernel_rfl) (by kernel_rfl) (fun _ _ _ h => h) (by rfl) ?_ hS ?_
    rotate_left
    · intro w'' hSw; have hc := ((H1.out.head.older (older_below hSw.out)).cell 2).trans (show _ = some (.slice A l.length c) from rfl); clear hSw; go_simp <;> with_reducible rfl
    simp only [Act.put, List.setIfInBounds_toArray, List.set_cons_zero, List.set_cons_succ]
    refine held_two (i := 13) (j := 16) (by kernel_rfl) rfl rfl (by rfl) (by rfl) ?_ ?_
    · go_simp
      refine (clone_files A c l W1.drew (H1.out.files.row.new BQ.out) hz (by omega)).mono ?_; rintro e wq ⟨A1, c1, rfl, r1, n1, b1⟩
      have hS := Lib.hid (show Below W1.heap.size W1 wq from BQ.out.trans (b1.mono BQ.out.size))
      refine ⟨hS, ?_⟩
      have R1 := Lib.hid r1
      have N1 := Lib.hid (show ∀ b, inB A1 b → W1.heap.size ≤ b from fun b e => Nat.le_trans BQ.out.size (n1 b e))
      clear r1 n1 b1
      (try simp only [Act.put, List.setIfInBounds_toArray, List.set_cons_zero, List.set_cons_succ])
      refine held_take (i := 14) (d := (some 29)) (v := ?_) rfl rfl (by kernel_rfl) (by kernel_rfl) (by kernel_rfl) (fun _ _ _ h => h) (by rfl) ?_ hS ?_
      rotate_left
      · intro w' hSw; (try dsimp only at hSw); go_simp <;> with_reducible rfl
      simp only [Act.put, List.setIfInBounds_toArray, List.set_cons_zero, List.set_cons_succ]
      refine held_take (i := 15) (d := (some 30)) (v := ?_) rfl rfl (by kernel_rfl) (by kernel_rfl) (by kernel_rfl) (fun _ _ _ h => h) (by rfl) ?_ hS ?_
      rotate_left
      · intro w' hSw; (try dsimp only at hSw); go_simp <;> with_reducible rfl
      simp only [Act.put, List.setIfInBounds_toArray, List.set_cons_zero, List.set_cons_succ]
      refine held_one (i := 16) (by kernel_rfl) rfl (by rfl) ?_
      go_simp
      have hSq := hS.out.size
      have bA := (Below.refl wq.heap.size wq).alloc (Nat.le_refl _) (.cells #[.int .i64 0, .slice none 0 0, .slice none 0 0, .slice none 0 0, .slice none 0 0] 69)
      have hS := Lib.hid (show Below W1.heap.size W1 (wq.alloc (.cells #[.int .i64 0, .slice none 0 0, .slice none 0 0, .slice none 0 0, .slice none 0 0] 69)) from hS.out.trans (bA.mono hS.out.size))
      refine ⟨hS, ?_⟩
      have ZD := Lib.hid (Blk.new wq 69 #[.int .i64 0, .slice none 0 0, .slice none 0 0, .slice none 0 0, .slice none 0 0])
      have NA := Lib.hid (show ∀ b, inB A1 b → W1.heap.size ≤ b ∧ b ≠ wq.heap.size from fun b e => ⟨N1.out b e, by have := R1.out.lt b e; omega⟩)
      have R1 := Lib.hid (R1.out.new bA)
      have GD := Lib.hid (show W1.heap.size ≤ wq.heap.size from hSq)
      clear bA hSq
      generalize wq.alloc (.cells #[.int .i64 0, .slice none 0 0, .slice none 0 0, .slice none 0 0, .slice none 0 0] 69) = wa at *
      generalize wq.heap.size = gd at *
      (try simp only [Act.put, List.setIfInBounds_toArray, List.set_cons_zero, List.set_cons_succ])
      refine held_one (i := 17) (by kernel_rfl) rfl (by rfl) ?_
      refine wp_store_row_n rfl 69 (.tmp 10) (.tmp 30) rfl gd #[.int .i64 (gn + 1), .slice none 0 0, .slice A1 l.length c1, .slice none 0 0, .slice none 0 0] rfl rfl 69 _ ZD.out dr_info rfl (by simp [Value.oneCell']) ?_
      have FIN := Lib.hid (fin W1 _ gd A1 c1 hS.out GD.out ZD.out R1.out NA.out)
      have hS := Lib.hid (show Below W1.heap.size W1 _ from FIN.out.2.2)
      refine ⟨hS, ?_⟩
      (try simp only [Act.put, List.setIfInBounds_toArray, List.set_cons_zero, List.set_cons_succ])
      refine wpAnyH_done (by kernel_rfl) ?_ _
      go_wp2
      go_meet
      exact ⟨gd, A1, c1, rfl, Lib.hid FIN.out.1, Lib.hid FIN.out.2.1, hS, Lib.hid ⟨GD.out, NA.out⟩⟩
    · go_simp
      have bA := ((Below.refl W1.heap.size W1).alloc (Nat.le_refl _) (.cells #[.int .i64 0, .slice none 0 0, .slice none 0 0, .slice none 0 0, .slice none 0 0] 69)).drew
      have hS := Lib.hid (show Below W1.heap.size W1 (W1.alloc (.cells #[.int .i64 0, .slice none 0 0, .slice none 0 0, .slice none 0 0, .slice none 0 0] 69)).drew from bA)
      refine ⟨hS, ?_⟩
      have ZD := Lib.hid ((Blk.new W1 69 #[.int .i64 0, .slice none 0 0, .slice none 0 0, .slice none 0 0, .slice none 0 0]).drewN 1)
      have BQ := Lib.hid hS.out
      have ZA := Lib.hid (show W1.heap.size < (W1.alloc (.cells #[.int .i64 0, .slice none 0 0, .slice none 0 0, .slice none 0 0, .slice none 0 0] 69)).drew.heap.size from by simp)
      have GD := Lib.hid (show W1.heap.size ≤ W1.heap.size from Nat.le_refl _)
      clear bA
      obtain ⟨wa, hwa⟩ : ∃ wa, wa = (W1.alloc (.cells #[.int .i64 0, .slice none 0 0, .slice none 0 0, .slice none 0 0, .slice none 0 0] 69)).drew := ⟨_, rfl⟩
      rw [← show wa = (W1.alloc (.cells #[.int .i64 0, .slice none 0 0, .slice none 0 0, .slice none 0 0, .slice none 0 0] 69)).drewN 1 from hwa] at ZD
      rw [← hwa] at hS BQ ZA ⊢
      clear hwa
      obtain ⟨gd, hgd⟩ : ∃ gd, gd = W1.heap.size := ⟨_, rfl⟩
      have GD2 := Lib.hid hgd
      rw [← hgd] at ZD ZA
      have GD := Lib.hid (show W1.heap.size ≤ gd from Nat.le_of_eq hgd.symm)
      rw [show (Value.pointer (some ⟨W1.heap.size, 0, none⟩)) = .pointer (some ⟨gd, 0, none⟩) from by rw [hgd]]
      clear hgd
      (try simp only [Act.put, List.setIfInBounds_toArray, List.set_cons_zero, List.set_cons_succ])
      refine held_one (i := 13) (by kernel_rfl) rfl (by rfl) ?_
      go_simp
      refine (clone_files A c l wa (H1.out.files.row.new BQ.out) hz (by omega)).mono ?_; rintro e wq ⟨A1, c1, rfl, r1, n1, b1⟩
      have hS := Lib.hid (show Below W1.heap.size W1 wq from BQ.out.trans (b1.mono BQ.out.size))
      refine ⟨hS, ?_⟩
      have R1 := Lib.hid r1
      have ZD := Lib.hid (ZD.out.older (older_below b1))
      have NA := Lib.hid (show ∀ b, inB A1 b → W1.heap.size ≤ b ∧ b ≠ gd from fun b e => by have := n1 b e; have := ZA.out; have := BQ.out.size; exact ⟨by omega, by omega⟩)
      clear r1 n1 b1
      (try simp only [Act.put, List.setIfInBounds_toArray, List.set_cons_zero, List.set_cons_succ])
      refine held_take (i := 14) (d := (some 29)) (v := ?_) rfl rfl (by kernel_rfl) (by kernel_rfl) (by kernel_rfl) (fun _ _ _ h => h) (by rfl) ?_ hS ?_
      rotate_left
      · intro w' hSw; (try dsimp only at hSw); go_simp <;> with_reducible rfl
      simp only [Act.put, List.setIfInBounds_toArray, List.set_cons_zero, List.set_cons_succ]
      refine held_take (i := 15) (d := (some 30)) (v := ?_) rfl rfl (by kernel_rfl) (by kernel_rfl) (by kernel_rfl) (fun _ _ _ h => h) (by rfl) ?_ hS ?_
      rotate_left
      · intro w' hSw; (try dsimp only at hSw); go_simp <;> with_reducible rfl
      simp only [Act.put, List.setIfInBounds_toArray, List.set_cons_zero, List.set_cons_succ]
      refine held_one (i := 17) (by kernel_rfl) rfl (by rfl) ?_
      refine wp_store_row_n rfl 69 (.tmp 10) (.tmp 30) rfl gd #[.int .i64 (gn + 1), .slice none 0 0, .slice A1 l.length c1, .slice none 0 0, .slice none 0 0] rfl rfl 69 _ ZD.out dr_info rfl (by simp [Value.oneCell']) ?_
      have FIN := Lib.hid (fin W1 _ gd A1 c1 hS.out GD.out ZD.out R1.out NA.out)
      have hS := Lib.hid (show Below W1.heap.size W1 _ from FIN.out.2.2)
      refine ⟨hS, ?_⟩
      (try simp only [Act.put, List.setIfInBounds_toArray, List.set_cons_zero, List.set_cons_succ])
      refine wpAnyH_done (by kernel_rfl) ?_ _
      go_wp2
      go_meet
      exact ⟨gd, A1, c1, rfl, Lib.hid FIN.out.1, Lib.hid FIN.out.2.1, hS, Lib.hid ⟨GD.out, NA.out⟩⟩
  case rest =>
    obtain ⟨gd, A1, c1, rfl, ZD, R1, BW, NA⟩ := hcut
    have H2 := Lib.hid (H1.out.new BW.out)
    have Y8 := Lib.hid (Z8.out.older (older_below BW.out))
    have z0 := (H2.out.head.cell 0).trans (show _ = some (.int .i64 gn) from rfl)
    have z1 := (H2.out.head.cell 1).trans (show _ = some (.slice D ds.length cd) from rfl)
    have z2 := (H2.out.head.cell 2).trans (show _ = some (.slice A l.length c) from rfl)
    have d2 := (ZD.out.cell 2).trans (show _ = some (.slice A1 l.length c1) from rfl)
    have BWW := Lib.hid (show Below w.heap.size w wc from B1.out.trans (BW.out.mono B1.out.size))
    clear BQ H1 Z8 HW1
    go_wp2_with fail
    refine (FND.out _ H2.out.files).mono ?_; rintro e w2 ⟨rfl, b2⟩
    have ZD2 := ZD.out.older (older_below b2)
    have b3 := (Below.refl w2.heap.size w2).alloc (Nat.le_refl _) (.cells (newLf nm).vals.toArray 58)
    have d2 := (ZD2.cell 2).trans (show _ = some (.slice A1 l.length c1) from rfl)
    have R3 := (R1.out.new b2).new b3
    have INS := Lib.hid (insert_end A1 l.length c1 (vl l) _ R3 (by omega) R3.capMax.1 ⟨w2.heap.size, 0, none⟩ (newLf nm).vals rfl (World.news_of_block (Blk.new w2 58 (newLf nm).vals.toArray)) (fun u hu => vl_one [newLf nm] u (by simpa [vl] using hu)))
    have ZD3 := Lib.hid (ZD2.older (older_below b3))
    have Y83 := Lib.hid ((Y8.out.older (older_below b2)).older (older_below b3))
    have B3 := Lib.hid (show Below w.heap.size w _ from (BWW.out.trans (b2.mono BWW.out.size)).trans (b3.mono (Nat.le_trans BWW.out.size b2.size)))
    have LA := Lib.hid (show ∀ b, inB A1 b → b < w2.heap.size from fun b e => (R1.out.new b2).lt b e)
    have GD2 := Lib.hid (show gd < w2.heap.size from ZD2.lt)
    clear ZD2 b2 b3 R3 ZD Y8 R1 BWW BW z0 z1 z2 FND H2
    go_wp2_with fail
    refine INS.out.mono ?_; rintro e w4 ⟨g4, c4, rfl, r4, a4, k4⟩
    have hg4 : W1.heap.size ≤ g4 ∧ g4 ≠ gd := a4.elim (fun e => NA.out.2 g4 e) (fun e => by
      have e' : w2.heap.size + 1 ≤ g4 := by simpa using e
      have := GD2.out; have := NA.out.1
      exact ⟨by omega, by omega⟩)
    have kA : ∀ j, inB A1 j → W1.heap.size ≤ j ∧ j ≠ gd := NA.out.2
    have ZD4 := ZD3.out.chg k4 (fun s => (kA _ s).2 rfl)
    have Y84 := Y83.out.chg k4 (fun s => by have := (kA _ s).1; omega)
    have B4 := B3.out.trans (k4.below B3.out.size (fun j s => by have := (kA j s).1; omega))
    obtain ⟨sp, G4⟩ := rowW_blk r4
    rw [← vl_snoc] at G4
    have C4 := r4.capMax
    have CM4 := Lib.hid C4
    have KS := Chg.set w4 2 (.slice (some ⟨g4, 0, none⟩) (l.length + 1) c4) (g := gd) (S := fun j => j = gd) rfl
    have ZD5 := Lib.hid (ZD4.put 2 (.slice (some ⟨g4, 0, none⟩) (l.length + 1) c4))
    have Y85 := Lib.hid (Y84.chg KS (fun s => by have s' : w.heap.size = gd := s; have := NA.out.1; omega))
    have G5 := Lib.hid (G4.chg KS (fun s => hg4.2 s))
    have B5 := Lib.hid (B4.trans (KS.below B4.size (fun j s => by have s' : j = gd := s; have := NA.out.1; omega)))
    have f2 := ZD4.frozen 2
    have p2 := ZD4.cell 2
    simp only [List.getElem?_toArray, List.getElem?_cons_succ, List.getElem?_cons_zero] at p2
    have LG := Lib.hid hg4
    clear r4 a4 k4 hg4 kA ZD4 Y84 B4 G4 C4 KS ZD3 Y83 B3 INS LA d2
    go_upto_region 5 with fail
    generalize w4.setCell ⟨gd, 2, none⟩ (.slice (some ⟨g4, 0, none⟩) (l.length + 1) c4) = w5 at *
    have d2 := (ZD5.out.cell 2).trans (show _ = some (.slice (some ⟨g4, 0, none⟩) (l.length + 1) c4) from rfl)
    have ll : (l.length : Int) < ((l.length + 1 : Nat) : Int) := by omega
    have ll2 : (l.length : Int) < (l.length : Int) + 1 := by omega
    have v0 : w5.cell? ⟨g4, l.length * 7 + 2, none⟩ = some (.int .i64 0) := by
      rw [G5.out.cell, List.getElem?_toArray, List.getElem?_append_left (by rw [vl_length, List.length_append, List.length_singleton]; omega), vl_get (l ++ [newLf nm]) l.length 2 (by simp) (by decide)]
      simp [newLf, Lf.vals]
    go_upto_region 6 with fail
    have KR := Chg.setRow (S := fun j => j = g4) w5 (((vl (l ++ [newLf nm]) ++ sp).toArray.toList.take (l.length * 7 + 2) ++ (#[.int .i64 1, .int .i64 mt, .int .i64 (nb : Int), .slice none 0 0, .slice none 0 0] : Array Value).toList ++ (vl (l ++ [newLf nm]) ++ sp).toArray.toList.drop (l.length * 7 + 2 + 5))).toArray rfl
    have G6 := G5.out.row (((vl (l ++ [newLf nm]) ++ sp).toArray.toList.take (l.length * 7 + 2) ++ (#[.int .i64 1, .int .i64 mt, .int .i64 (nb : Int), .slice none 0 0, .slice none 0 0] : Array Value).toList ++ (vl (l ++ [newLf nm]) ++ sp).toArray.toList.drop (l.length * 7 + 2 + 5))).toArray
    rw [plan_cells] at KR G6
    have PC := Lib.hid (plan_cells2 l nm mt nb sp)
    have ZD6 := Lib.hid (ZD5.out.chg KR (fun s => LG.out.2 s.symm))
    have Y86 := Lib.hid (Y85.out.chg KR (fun s => by have s' : w.heap.size = g4 := s; have := LG.out.1; omega))
    have B6 := Lib.hid (B5.out.trans (KR.below B5.out.size (fun j s => by have s' : j = g4 := s; have := LG.out.1; omega)))
    have G6 := Lib.hid G6
    have hold : l.length * 7 + 2 + (#[.int .i64 1, .int .i64 mt, .int .i64 (nb : Int), .slice none 0 0, .slice none 0 0] : Array Value).size ≤ (vl (l ++ [newLf nm]) ++ sp).toArray.size := by
      simp [vl_length]
      omega
    have HO := Lib.hid hold
    clear KR hold d2
    go_wp2_with (first
      | (refine wpList_store_at rfl 27 (.tmp 69) (.tmp 68) rfl g4 (l.length * 7 + 2) #[.int .i64 1, .int .i64 mt, .int .i64 (nb : Int), .slice none 0 0, .slice none 0 0] rfl rfl 58 _ G5.out fil_info5 HO.out (by simp [Value.oneCell']) ?_; refine Hid.out ?_)
      | fail)
    unfold Hid
    rw [PC.out]
    generalize w5.setRow g4 (vl (l ++ [fileLf nm mt nb]) ++ sp).toArray = w6 at *
    have d0 := (ZD6.out.cell 0).trans (show _ = some (.int .i64 (gn + 1)) from rfl)
    have d2 := (ZD6.out.cell 2).trans (show _ = some (.slice (some ⟨g4, 0, none⟩) (l.length + 1) c4) from rfl)
    have v1 : w6.cell? ⟨g4, l.length * 7 + 2, none⟩ = some (.int .i64 1) := by
      rw [G6.out.cell, List.getElem?_toArray, List.getElem?_append_left (by rw [vl_length, List.length_append, List.length_singleton]; omega), vl_get (l ++ [fileLf nm mt nb]) l.length 2 (by simp) (by decide)]
      simp [fileLf, Lf.vals]
    have t1 : ¬ (l.length : Int) + 1 > 24 := by omega
    have t2 : ¬ gn + 1 > 1073741824 := by omega
    clear Y85 B5 ZD5 G5 HO PC v0
    go_upto_region 9 with fail
    have PA1 := Lib.hid (show ∀ W, Calls Tryz.prog 41 #[.int .i64 (nb : Int), .int .i64 256] W fun e w' => e = .returned (.int .i64 (np : Int)) ∧ w' = W from fun W => by rw [NP.out]; exact pieces_any nb 256 (by omega) (by decide) (by decide) W)
    have PA2 := Lib.hid (show ∀ W, Calls Tryz.prog 41 #[.int .i64 ((l.length : Int) + 1), .int .i64 8] W fun e w' => e = .returned (.int .i64 (nd : Int)) ∧ w' = W from fun W => by rw [ND.out]; exact pieces_any (l.length + 1) 8 (by omega) (by decide) (by decide) W)
    have xn1 := IntWalk.i64_in ((np : Int) + 1) (by omega)
    have xn2 := IntWalk.i64_in ((np : Int) + 1 + (nd : Int)) (by omega)
    clear v1 t1 t2
    refine wp_region_held_drew (S := fun w'' => Hid (w''.cell? ⟨gd, 2, none⟩ = some (.slice (some ⟨g4, 0, none⟩) (l.length + 1) c4))) (by kernel_rfl) (Lib.hid (show w6.drew.cell? ⟨gd, 2, none⟩ = some (.slice (some ⟨g4, 0, none⟩) (l.length + 1) c4) from d2)) (fun hS => ?_)
    refine held_take (i := 0) (d := (some 90)) (v := ?_) rfl rfl (by kernel_rfl) (by kernel_rfl) (by kernel_rfl) (fun _ _ _ h => h) (by rfl) ?_ hS ?_
    rotate_left
    · intro w' hSw; (try dsimp only at hSw); go_simp <;> with_reducible rfl
    simp only [Act.put, List.setIfInBounds_toArray, List.set_cons_zero, List.set_cons_succ]
    refine held_take (i := 1) (d := (some 91)) (v := ?_) rfl rfl (by kernel_rfl) (by kernel_rfl) (by kernel_rfl) (fun _ _ _ h => h) (by rfl) ?_ hS ?_
    rotate_left
    · intro w' hSw; (try dsimp only at hSw); go_simp <;> with_reducible rfl
    simp only [Act.put, List.setIfInBounds_toArray, List.set_cons_zero, List.set_cons_succ]
    refine held_take (i := 4) (d := (some 94)) (v := ?_) rfl rfl (by kernel_rfl) (by kernel_rfl) (by kernel_rfl) (fun _ _ _ h => h) (by rfl) ?_ hS ?_
    rotate_left
    · intro w' hSw; (try dsimp only at hSw); go_simp <;> with_reducible rfl
    simp only [Act.put, List.setIfInBounds_toArray, List.set_cons_zero, List.set_cons_succ]
    refine held_take (i := 5) (d := (some 95)) (v := ?_) rfl rfl (by kernel_rfl) (by kernel_rfl) (by kernel_rfl) (fun _ _ _ h => h) (by rfl) ?_ hS ?_
    rotate_left
    · intro w' hSw; (try dsimp only at hSw); go_simp <;> with_reducible rfl
    simp only [Act.put, List.setIfInBounds_toArray, List.set_cons_zero, List.set_cons_succ]
    refine held_take (i := 6) (d := (some 96)) (v := ?_) rfl rfl (by kernel_rfl) (by kernel_rfl) (by kernel_rfl) (fun _ _ _ h => h) (by rfl) ?_ hS ?_
    rotate_left
    · intro w'' hSw; have hc := hSw.out; clear hSw; go_simp <;> with_reducible rfl
    simp only [Act.put, List.setIfInBounds_toArray, List.set_cons_zero, List.set_cons_succ]
    refine held_take (i := 7) (d := (some 97)) (v := ?_) rfl rfl (by kernel_rfl) (by kernel_rfl) (by kernel_rfl) (fun _ _ _ h => h) (by rfl) ?_ hS ?_
    rotate_left
    · intro w' hSw; (try dsimp only at hSw); go_simp <;> with_reducible rfl
    simp only [Act.put, List.setIfInBounds_toArray, List.set_cons_zero, List.set_cons_succ]
    refine held_one (i := 2) (by kernel_rfl) rfl (by rfl) ?_
    go_simp
    refine (PA1.out _).mono ?_; rintro e wp1 ⟨rfl, hwp⟩; subst hwp
    refine ⟨hS, ?_⟩
    (try simp only [Act.put, List.setIfInBounds_toArray, List.set_cons_zero, List.set_cons_succ])
    refine held_take (i := 3) (d := (some 93)) (v := ?_) rfl rfl (by kernel_rfl) (by kernel_rfl) (by kernel_rfl) (fun _ _ _ h => h) (by rfl) ?_ hS ?_
    rotate_left
    · intro w' hSw; (try dsimp only at hSw); go_simp <;> with_reducible rfl
    simp only [Act.put, List.setIfInBounds_toArray, List.set_cons_zero, List.set_cons_succ]
    refine held_one (i := 8) (by kernel_rfl) rfl (by rfl) ?_
    go_simp
    refine (PA2.out _).mono ?_; rintro e wp2 ⟨rfl, hwp⟩; subst hwp
    refine ⟨hS, ?_⟩
    (try simp only [Act.put, List.setIfInBounds_toArray, List.set_cons_zero, List.set_cons_succ])
    refine held_take (i := 9) (d := (some 99)) (v := ?_) rfl rfl (by kernel_rfl) (by kernel_rfl) (by kernel_rfl) (fun _ _ _ h => h) (by rfl) ?_ hS ?_
    rotate_left
    · intro w' hSw; (try dsimp only at hSw); go_simp <;> with_reducible rfl
    simp only [Act.put, List.setIfInBounds_toArray, List.set_cons_zero, List.set_cons_succ]
    refine held_take (i := 10) (d := (some 14)) (v := ?_) rfl rfl (by kernel_rfl) (by kernel_rfl) (by kernel_rfl) (fun _ _ _ h => h) (by rfl) ?_ hS ?_
    rotate_left
    · intro w' hSw; (try dsimp only at hSw); go_simp <;> with_reducible rfl
    simp only [Act.put, List.setIfInBounds_toArray, List.set_cons_zero, List.set_cons_succ]
    refine wpAnyH_done (by kernel_rfl) ?_ _
    have bd : Below w.heap.size w w6.drew := B6.out.drew
    have H7 := Lib.hid (h.new bd)
    have hl0 : ∀ j, w.heap.size ≤ j → lab j = 0 := fun j hj => hk.lab0 hj
    have FR := free_any H7.out (hk.new bd) (Nat.le_trans hB bd.size) m sm hm bk hdl hd hx (np + 1 + nd) (by omega)
    rw [← TS.out] at FR
    have FR := Lib.hid FR
    have T6 := Lib.hid (STo.fresh hk hB (fun _ => False) bd)
    have ZD7 := Lib.hid (show Blk w6.drew gd _ _ from ZD6.out.drewN 1)
    have G7 := Lib.hid (show Blk w6.drew g4 _ _ from G6.out.drewN 1)
    have Y87 := Lib.hid (show Blk w6.drew w.heap.size _ _ from Y86.out.drewN 1)
    have XC : ((np + 1 + nd : Nat) : Int) = (np : Int) + 1 + (nd : Int) := by omega
    have LWS := Lib.hid (show w.heap.size < gd ∧ w.heap.size < g4 ∧ gd < w6.drew.heap.size ∧ g4 < w6.drew.heap.size from ⟨by have := NA.out.1; omega, by have := LG.out.1; omega, ZD6.out.lt, G6.out.lt⟩)
    rw [XC] at FR
    have XCH := Lib.hid XC
    clear ZD6 G6 Y86 B6 H7 hS d0 d2 XC bd
    generalize w6.drew = w7 at *
    go_wp2_with fail
    refine FR.out.mono ?_; rintro e w8 ⟨T, ct, lab1, rfl, t8, rt8, ot8, nt8⟩
    have ZD8 := t8.blk ZD7.out (hl0 _ (Nat.le_of_lt LWS.out.1)) id
    have G8 := t8.blk G7.out (hl0 _ (Nat.le_of_lt LWS.out.2.1)) id
    have Y88 := t8.blk Y87.out (hl0 _ (Nat.le_refl _)) id
    have T8 := T6.out.trans t8
    have l1 : ∀ j, w.heap.size ≤ j → j < w7.heap.size → lab1 j = 0 := fun j h1 h2 => t8.zero j h2 (hl0 j h1)
    have KS := Chg.set w8 3 (.slice T ts.length ct) (g := gd) (S := fun j => j = gd) rfl
    have T9 := Lib.hid (T8.set bk KS (.inr (Nat.le_of_lt LWS.out.1)) hB (Nat.le_trans hB (Nat.le_of_lt LWS.out.1)) (l1 gd (Nat.le_of_lt LWS.out.1) LWS.out.2.2.1))
    have ZD9 := Lib.hid (ZD8.put 3 (.slice T ts.length ct))
    have G9 := Lib.hid (G8.chg KS (fun s => LG.out.2 s))
    have Y89 := Lib.hid (Y88.chg KS (fun s => by have s' : w.heap.size = gd := s; have := LWS.out.1; omega))
    have tb : ∀ b, inB T b → w7.heap.size ≤ b := nt8
    have RT9 := Lib.hid (rt8.chg KS (fun ad e s => by have s' : ad.block = gd := s; have h1 := tb ad.block (by rw [e]; simp [inB]); have := LWS.out.2.2.1; omega))
    have OT8 := Lib.hid (show ∀ b, inB T b → w7.heap.size ≤ b ∧ b < w8.heap.size ∧ lab1 b = 0 from fun b e => by
      obtain ⟨ad, e2, e3⟩ := Option.map_eq_some_iff.1 e
      have h1 := ot8 (by have := TL.out; omega) ad e2
      rw [← e3]
      exact ⟨by have := tb b e; rw [← e3] at this; exact this, h1.1, h1.2⟩)
    have L1 := Lib.hid l1
    have z8 : w7.heap.size ≤ w8.heap.size := t8.size
    have f3 := ZD8.frozen 3
    have p3 := (ZD8.cell 3).trans (show _ = some (.slice none 0 0) from rfl)
    have zset : (w8.setCell ⟨gd, 3, none⟩ (.slice T ts.length ct)).heap.size = w8.heap.size := by simp [World.setCell]
    have ll3 : ¬ (ts.length : Int) < (np : Int) + 1 + (nd : Int) := by have := TL.out; omega
    have ZS := Lib.hid zset
    clear ZD8 G8 Y88 T8 l1 KS t8 rt8 ot8 nt8 tb ZD7 G7 Y87 T6 FR zset
    go_upto_region 11 with fail
    generalize w8.setCell ⟨gd, 3, none⟩ (.slice T ts.length ct) = w9 at *
    have d3 := (ZD9.out.cell 3).trans (show _ = some (.slice T ts.length ct) from rfl)
    have d2 := (ZD9.out.cell 2).trans (show _ = some (.slice (some ⟨g4, 0, none⟩) (l.length + 1) c4) from rfl)
    have ll : (l.length : Int) < ((l.length + 1 : Nat) : Int) := by omega
    have ll2 : (l.length : Int) < (l.length : Int) + 1 := by omega
    obtain ⟨L, hLd⟩ : ∃ L, L = l ++ [fileLf nm mt nb] := ⟨_, rfl⟩
    have hLL : L.length = l.length + 1 := by rw [hLd]; simp
    have ha : l.length < L.length := by omega
    have hLa : L[l.length]'ha = fileLf nm mt nb := by subst hLd; simp
    have F0 := FmAt.start (w := w9) (gd := gd) (g4 := g4) (a := l.length) (v0 := .int .i64 (gn + 1)) (T := T) (ts := ts) (ct := ct) (L := L) (sp := sp) (cf := c4) (by rw [hLL]; exact (show Blk w9 gd _ #[.int .i64 (gn + 1), .slice none 0 0, .slice (some ⟨g4, 0, none⟩) (l.length + 1) c4, .slice T ts.length ct, .slice none 0 0] from ZD9.out)) (by rw [hLd]; exact G9.out) (fun e => LG.out.2 e.symm) RT9.out
      (fun b e => by have h1 := OT8.out b e; have h2 := LWS.out; have h3 := ZS.out; exact ⟨by omega, by omega, by omega⟩) ha (by rw [hLa]; rfl) (by rw [hLa]; rfl) (planX np nb bs fF es)
    have hs9 := src_sto T9.out hsb hsl (fun _ _ _ => id)
    have hq9 : ∀ b, w9.heap.size ≤ b → (fun j => if j = gd then 1 else if j = g4 then 2 else if T.map (·.block) = some j then 7 else 0) b = 0 := fun b hb => by
      have h2 := LWS.out; have h3 := ZS.out
      show (if b = gd then 1 else if b = g4 then 2 else if T.map (·.block) = some b then 7 else 0) = 0
      rw [if_neg (by omega), if_neg (by omega)]
      exact if_neg (fun e => by have h1 := OT8.out b e; omega)
    have hqb9 : ∀ b o, Ab = some ⟨b, o, none⟩ → (fun j => if j = gd then 1 else if j = g4 then 2 else if T.map (·.block) = some j then 7 else 0) b = 0 ∧ b < w9.heap.size := fun b o e => by
      have h0 := (hsl b o e).1; have h2 := LWS.out; have h3 := ZS.out
      refine ⟨?_, by omega⟩
      show (if b = gd then 1 else if b = g4 then 2 else if T.map (·.block) = some b then 7 else 0) = 0
      rw [if_neg (by omega), if_neg (by omega)]
      exact if_neg (fun e => by have h1 := OT8.out b e; omega)
    have hndL : nd = (L.length + 7) / 8 := by rw [hLL]; have := ND.out; omega
    have FILL := fill_any gd g4 l.length (.int .i64 (gn + 1)) T ct ts L sp c4 Ab nb cb bs w9 _ _ (planX np nb bs fF es) F0 ha (by omega) (by have := CM4.out.1; omega) hs9 hnb hq9 hqb9 np NP.out v hv (by rw [← hndL]; have := TL.out; omega) (by have := TL.out; omega)
      (fun k hk => planX_piece (by have := NP.out; omega)) fF (by rw [hLa]; exact hfF) planX_file hmf es (by rw [hLa, hLd, hes]; unfold ents; simp [fileLf]) (fun k hk => ⟨planX_dir k, hdm k (by omega)⟩)
    rw [← hndL] at FILL
    have FILL := Lib.hid FILL
    have HL := Lib.hid (And.intro hLd (And.intro hLL hLa))
    clear F0 hs9 hq9 hqb9 hndL hLd hLL hLa
    go_wp2_with fail
    refine FILL.out.mono ?_; rintro e w10 ⟨rfl, q', m', D', cd', F, RD, QD⟩
    have Y8A := Y89.out.chg F.ch (fun s => by have h2 := LWS.out; omega)
    have lw9 := T9.out.kb
    have TA := T9.out.turn hB bk F.ch (fun j s => by
      have h2 := LWS.out
      rcases s with rfl | rfl
      · exact ⟨Nat.le_of_lt h2.1, L1.out _ (Nat.le_of_lt h2.1) h2.2.2.1⟩
      · exact ⟨Nat.le_of_lt h2.2.1, L1.out _ (Nat.le_of_lt h2.2.1) h2.2.2.2⟩)
    have FF := Lib.hid F
    have e0 := (F.dr.cell 0).trans (show _ = some (.int .i64 (gn + 1)) from rfl)
    have e1 := (F.dr.cell 1).trans (show _ = some (.slice D' nd cd') from rfl)
    have e2 := (F.dr.cell 2).trans (show _ = some (.slice (some ⟨g4, 0, none⟩) L.length c4) from rfl)
    have e3 := (F.dr.cell 3).trans (show _ = some (.slice T ts.length ct) from rfl)
    have e4 := (F.dr.cell 4).trans (show _ = some (.slice m'.X (np + 1 + nd) m'.cx) from rfl)
    have RDH := Lib.hid (And.intro RD QD)
    have TAH := Lib.hid TA
    have Y8H := Lib.hid Y8A
    clear F RD QD TA Y8A lw9 FILL d2 d3 ZD9 G9
    go_wp2_with (first
      | (refine wpList_store_row rfl 69 (.tmp 8) (.tmp 117) rfl w.heap.size #[.int .i64 (gn + 1), .slice D' nd cd', .slice (some ⟨g4, 0, none⟩) L.length c4, .slice T ts.length ct, .slice m'.X (np + 1 + nd) m'.cx] rfl rfl 69 _ Y8H.out dr_info rfl (by simp [Value.oneCell']) ?_)
      | fail)
    refine bodyPost_ret (v := .tuple #[.agg #[.int .i64 (gn + 1), .slice D' nd cd', .slice (some ⟨g4, 0, none⟩) L.length c4, .slice T ts.length ct, .slice m'.X (np + 1 + nd) m'.cx], .int .i64 0]) ?_ rfl ?_
    · exact results_cell_tmp Tryz.results22 _ _ w.heap.size 69 _ (0, 0) _ rfl (Y8H.out.row _) Tryz.underlying69 rfl dr_info
    have CR := Chg.setRow (S := fun j => j = w.heap.size) w10 #[.int .i64 (gn + 1), .slice D' nd cd', .slice (some ⟨g4, 0, none⟩) L.length c4, .slice T ts.length ct, .slice m'.X (np + 1 + nd) m'.cx] rfl
    generalize w10.setRow w.heap.size #[.int .i64 (gn + 1), .slice D' nd cd', .slice (some ⟨g4, 0, none⟩) L.length c4, .slice T ts.length ct, .slice m'.X (np + 1 + nd) m'.cx] = w11 at *
    have F := FF.out
    have h2 := LWS.out
    have h3 := ZS.out
    have lz : ∀ j, w9.heap.size ≤ j → lab1 j = 0 := fun j hj => T9.out.kb.lab0 hj
    have w9lt : w.heap.size < w9.heap.size := by omega
    have z10 : w9.heap.size ≤ w10.heap.size := F.sz
    have TF := TAH.out.turn hB bk CR (fun j s => by have s' : j = w.heap.size := s; rw [s']; exact ⟨Nat.le_refl _, L1.out _ (Nat.le_refl _) (by omega)⟩)
    have new : ∀ (b : Nat), w9.heap.size ≤ b → ¬ b = w.heap.size := fun b hb => by omega
    have zc := CR.size
    have own : ∀ {W : World} {E : TypeId} {sz n c : Nat} {A : Option Addr} {xs : List Value}, RowW w10 E sz A n c xs → (∀ b, inB A b → w9.heap.size ≤ b) → RowG w11 sz A n c xs ∧ Own0 w11 lab1 A n := fun {W E sz n c A xs} r hb => by
      refine ⟨row_g (r.chg CR (fun b e => new b (hb b e))), fun _ ad e => ?_⟩
      have e1 : inB A ad.block := by rw [e]; simp [inB]
      exact ⟨Nat.lt_of_lt_of_le (r.lt _ e1) zc, lz _ (hb _ e1)⟩
    obtain ⟨x, hxx⟩ : ∃ x, x = (L[l.length]'ha).fill v (ts.take np) (prN bs np) m' := ⟨_, rfl⟩
    have hx1 : x.name = nm ∧ x.ino = v ∧ x.f = fF := by
      rw [hxx, HL.out.2.2, hfF]; exact ⟨rfl, rfl, rfl⟩
    have G := F.files ha
    rw [← hxx, show L.set l.length x = l ++ [x] from by rw [HL.out.1]; simp] at G
    have G11 := G.chg CR (fun s => by have s' : g4 = w.heap.size := s; omega)
    have rf0 := rowG_files G11 0 (l.length + 1) (by simp) (by simp; omega)
    rw [List.drop_zero, List.take_of_length_le (by simp), Nat.zero_mul] at rf0
    have hll : (l ++ [x]).length = l.length + 1 := by simp
    have rf : RowG w11 7 (some ⟨g4, 0, none⟩) (l ++ [x]).length c4 (vl (l ++ [x])) := by
      rw [hll]
      exact ⟨rf0.len, CM4.out.1, CM4.out.2, fun e => (by cases e), rf0.at_⟩
    have bk11 := own (W := w10) F.bk (fun b e => (F.qb b e).2)
    have pt11 := own (W := w10) F.pt (fun b e => (F.qp b e).2)
    have tx11 := own (W := w10) F.tx (fun b e => (F.qx b e).2)
    have d11 := own (W := w10) RDH.out.1 (fun b e => (RDH.out.2 b e).2)
    have hA : x.A = m'.Bk ∧ x.c = m'.cb ∧ x.A' = m'.Pt ∧ x.c' = m'.cp ∧ x.f.blocks = ts.take np ∧ x.f.parts = prN bs np := by rw [hxx]; exact ⟨rfl, rfl, rfl, rfl, rfl, rfl⟩
    refine ⟨D', some ⟨g4, 0, none⟩, T, m'.X, cd', c4, ct, m'.cx, m'.pA, m'.pc, lab1, x, by rw [HL.out.2.1], hx1, TF, d11, ⟨F.tk.chg CR (fun ad e s => ?_), fun _ ad e => ?_⟩, ⟨tx11.1, tx11.2, fun i hi => In.src_chg (F.sr i hi) CR (fun _ b o e s => new b (F.qs i hi b o e).2.1 s), fun i hi b o e => ⟨Nat.lt_of_lt_of_le (F.qs i hi b o e).2.2 zc, lz _ (F.qs i hi b o e).2.1⟩⟩, ⟨rf, fun _ ad e => ?_, fun y hy => ?_, fun y hy => ?_⟩, fun ad e => ?_⟩
    · have s' : ad.block = w.heap.size := s
      have := OT8.out ad.block (by rw [e]; simp [inB])
      omega
    · have h1 := OT8.out ad.block (by rw [e]; simp [inB])
      exact ⟨by omega, h1.2.2⟩
    · cases e
      exact ⟨by show g4 < w11.heap.size; omega, L1.out _ (by show w.heap.size ≤ g4; omega) (by show g4 < w7.heap.size; omega)⟩
    · rcases List.mem_append.1 hy with h5 | h5
      · exact TF.row (h.files.bl y h5).1 (h.files.bl y h5).2 (fun _ _ => id)
      · rw [List.mem_singleton.1 h5, hA.1, hA.2.1, hA.2.2.2.2.1]
        exact bk11
    · rcases List.mem_append.1 hy with h5 | h5
      · exact TF.row (h.files.pt y h5).1 (h.files.pt y h5).2 (fun _ _ => id)
      · rw [List.mem_singleton.1 h5, hA.2.2.1, hA.2.2.2.1, hA.2.2.2.2.2]
        exact pt11
    · rcases e with e | e | e | e
      · have := (RDH.out.2 ad.block (by rw [e]; simp [inB])).2; omega
      · cases e; show w.heap.size ≤ g4; omega
      · have := (F.qb ad.block (by rw [← hA.1, e]; simp [inB])).2; omega
      · have := (F.qp ad.block (by rw [← hA.2.2.1, e]; simp [inB])).2; omega
end Go.Proofs.YtefnkednnnlhoaaGreatDoor.Sr
