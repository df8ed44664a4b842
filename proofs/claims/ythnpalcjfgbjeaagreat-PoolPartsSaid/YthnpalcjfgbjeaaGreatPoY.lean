/- A pool: take. Conditions: those that each states. -/
import Derived.Test.YthnpalcjfgbjeaaGreatPoX
import Derived.Deep.Cut
import Derived.Test.YthnpalcjfgbjeaaGreatGxA
import Derived.Test.YthnpalcjfgbjeaaGreatSuA
namespace Go.Proofs.YthnpalcjfgbjeaaGreat.Po
open Go.ChangeShapes Go.WideShapes Go.ChangeAt Go.RowKit Go.Deep Fr Di Ke
set_option linter.unusedVariables false

theorem ptr_ne {gs : Nat} (i : Nat) : ptrV gs (some i) = .pointer (some ⟨gs, i * 7, none⟩) := rfl
theorem sweep_len : ∀ (k : Nat) (P : Po), (sweep k P).1.sl.length = P.sl.length
  | 0, P => rfl
  | k + 1, P => by
    unfold sweep
    split
    · rfl
    · split
      · simp
      · rw [sweep_len k]; simp
theorem sweep_succ {k : Nat} {P : Po} (h : P.hand < P.sl.length) : sweep (k + 1) P = if (unusedB P.K P.sl[P.hand] && !P.sl[P.hand].mark) = true then ({ P with hand := (P.hand + 1) % P.sl.length, sl := P.sl.set P.hand (Sl.bare P.sl[P.hand].frame) }, some P.hand) else sweep k { P with hand := (P.hand + 1) % P.sl.length, sl := P.sl.set P.hand { P.sl[P.hand] with mark := false } } := by
  conv => lhs; unfold sweep
  rw [List.getElem?_eq_getElem h]

set_option maxRecDepth 100000 in
set_option maxHeartbeats 4000000 in
theorem take_any {B : Nat} {w : World} {lab : Nat → Nat} {g gk gs c : Nat} {P : Po} (h : PB B w lab g gk gs c P) (hB : B ≤ w.heap.size) :
    Calls Tryz.prog 29 #[.pointer (some ⟨g, 0, none⟩)] w fun e w' => e = .returned (ptrV gs (takeR P).2) ∧ PB B w' lab g gk gs c (takeR P).1 ∧ PStep w w' lab lab := by
  have b1 : Below w.heap.size w (w.alloc (.cells #[.pointer (some ⟨g, 0, none⟩)] 29)) := (Below.refl w.heap.size w).alloc (Nat.le_refl _) _
  have L1 := Lib.hid (PStep.news lab b1)
  have K1 := Lib.hid (Blk.new w 29 #[.pointer (some ⟨g, 0, none⟩)])
  have H1 := Lib.hid (h.new b1)
  have Z1 := Lib.hid (h.kb.lab0 (Nat.le_refl w.heap.size))
  have G1 := Lib.hid (show B ≤ (w.alloc (.cells #[.pointer (some ⟨g, 0, none⟩)] 29)).heap.size from Nat.le_trans hB b1.size)
  clear b1 h hB
  go_enter Tryz.func29, Tryz.ntmps29
  go_upto_region 1 with fail
  generalize w.alloc (.cells #[.pointer (some ⟨g, 0, none⟩)] 29) = W at *
  generalize w.heap.size = bx at *
  have k0 := (K1.out.cell 0).trans (show _ = some (.pointer (some ⟨g, 0, none⟩)) from rfl)
  go_wp2_with fail
  refine (find_any H1.out.po 57 (enter_of Tryz.func57 (by kernel_rfl) rfl) _ (isFree P.K) (fun i hi W' hb => ?_)).mono ?_
  · exact isFree_any (H1.out.new hb) hi bx (((K1.out.older (older_below hb)).cell 0).trans rfl)
  rintro e w2 ⟨rfl, b2⟩
  have L2 := Lib.hid (L1.out.trans (PStep.news lab b2))
  have K2 := Lib.hid (K1.out.older (older_below b2))
  have H2 := Lib.hid (H1.out.new b2)
  have G2 := Lib.hid (Nat.le_trans G1.out b2.size)
  clear b2 k0 L1 K1 H1 G1
  cases hf : P.sl.findIdx? (isFree P.K) with
  | some i =>
    have E := Lib.hid (show takeR P = (P, some i) from by unfold takeR; rw [hf])
    clear hf
    rw [ptr_ne]
    go_wp2
    go_ret
    rw [E.out]
    exact ⟨rfl, H2.out, L2.out⟩
  | none =>
    have E := Lib.hid (show takeR P = sweep (2 * P.sl.length) P from by unfold takeR; rw [hf])
    have k0 := (K2.out.cell 0).trans (show _ = some (.pointer (some ⟨g, 0, none⟩)) from rfl)
    have c1 := (H2.out.po.head.cell 1).trans (show _ = some (.slice (some ⟨gs, 0, none⟩) P.sl.length c) from rfl)
    have n2 := H2.out.po.n2
    have n1 := H2.out.po.n1
    have xn := IntWalk.i64_in (2 * (P.sl.length : Int)) (by omega)
    clear hf
    rw [show ptrV gs none = .pointer none from rfl]
    go_wp2
    go_loopw [17] (fun i wr => ∃ (k : Nat) (Q : Po), k ≤ 2 * P.sl.length ∧ i = .int .i64 (k : Int) ∧ Q.sl.length = P.sl.length ∧ Hid (sweep (2 * P.sl.length) P = sweep (2 * P.sl.length - k) Q) ∧ Hid (PB B wr lab g gk gs c Q) ∧ Hid (PStep w wr lab lab) ∧ Hid (Blk wr bx 29 #[.pointer (some ⟨g, 0, none⟩)]) ∧ Hid (B ≤ wr.heap.size)) (fun i _ => 2 * P.sl.length - (intOf i).toNat)
    case atStart => exact ⟨0, P, Nat.zero_le _, rfl, rfl, Lib.hid rfl, H2, L2, K2, G2⟩
    case round =>
      clear k0 c1 H2 L2 K2 G2
      obtain ⟨k, Q, hk, rfl, hq, SW, HQ, LQ, KQ, GQ⟩ := hrel
      by_cases hlt : k < 2 * P.sl.length
      · have hlt' : (k : Int) < 2 * (P.sl.length : Int) := by omega
        have xk := IntWalk.i64_in ((k : Int) + 1) (by omega)
        have hh := HQ.out.po.hand
        have k0 := (KQ.out.cell 0).trans (show _ = some (.pointer (some ⟨g, 0, none⟩)) from rfl)
        have c1 := (HQ.out.po.head.cell 1).trans (show _ = some (.slice (some ⟨gs, 0, none⟩) Q.sl.length c) from rfl)
        have c2 := (HQ.out.po.head.cell 2).trans (show _ = some (.int .i64 (Q.hand : Int)) from rfl)
        have f2 := HQ.out.po.head.frozen 2
        have a0 : (0 : Int) ≤ (Q.hand : Int) := by omega
        have a1 : (Q.hand : Int) < (Q.sl.length : Int) := by omega
        have SS := Lib.hid (sweep_succ (k := 2 * P.sl.length - (k + 1)) hh)
        have S0 := Lib.hid (show sweep (2 * P.sl.length) P = sweep (2 * P.sl.length - (k + 1) + 1) Q from by rw [SW.out]; congr 1; omega)
        go_upto_region 6 with fail
        go_quiet (fail)
        go_upto_region 7 with fail
        have H3 := Lib.hid (HQ.out.new (below_drewN (Below.refl wr.heap.size wr) nq))
        have L3 := Lib.hid (LQ.out.trans (PStep.news lab (below_drewN (Below.refl wr.heap.size wr) nq)))
        have K3 := Lib.hid (KQ.out.drewN nq)
        have G3 := Lib.hid (show B ≤ (wr.drewN nq).heap.size from GQ.out)
        clear k0 c1 c2 f2 HQ LQ KQ GQ
        generalize wr.drewN nq = w3 at *
        have k0 := (K3.out.cell 0).trans (show _ = some (.pointer (some ⟨g, 0, none⟩)) from rfl)
        have c1 := (H3.out.po.head.cell 1).trans (show _ = some (.slice (some ⟨gs, 0, none⟩) Q.sl.length c) from rfl)
        have c2 := (H3.out.po.head.cell 2).trans (show _ = some (.int .i64 (Q.hand : Int)) from rfl)
        have f2 := H3.out.po.head.frozen 2
        obtain ⟨hd, hhd⟩ : ∃ hd, (Q.hand + 1) % Q.sl.length = hd := ⟨_, rfl⟩
        have hd1 : ((Q.hand : Int) + 1) % (P.sl.length : Int) = (hd : Int) := by rw [← hhd, hq]; simp
        have hd2 : ((Q.hand : Int) + 1).tmod (P.sl.length : Int) = (hd : Int) := by rw [Int.tmod_eq_emod_of_nonneg (by omega), hd1]
        have hd3 : hd < Q.sl.length := by rw [← hhd]; exact Nat.mod_lt _ (by omega)
        have ne0 : ((P.sl.length : Int) == 0) = false := by rw [beq_eq_false_iff_ne]; omega
        have ne0' : ¬ (P.sl.length : Int) = 0 := by omega
        have xh := IntWalk.i64_in ((Q.hand : Int) + 1) (by omega)
        have xd := IntWalk.i64_in (hd : Int) (by omega)
        rw [hhd] at SS
        have CH : Chg w3 (w3.setCell ⟨g, 2, none⟩ (.int .i64 (hd : Int))) (fun b => b = g) := Chg.set w3 2 _ (g := g) (S := fun b => b = g) rfl
        have H4 := Lib.hid (H3.out.turnHead G3.out hd Q.fills hd3 CH (H3.out.po.head.put 2 _)).1
        have L4 := Lib.hid (L3.out.trans (PStep.at_ (lab := lab) CH (by rw [H3.out.po.lg]; omega)))
        have K4 := Lib.hid (K3.out.far (p := ⟨g, 2, none⟩) (fun e => by have z1 := Z1.out; have z2 := H3.out.po.lg; have e : bx = g := e; rw [← e] at z2; omega) (.int .i64 (hd : Int)))
        have G4 := Lib.hid (show B ≤ (w3.setCell ⟨g, 2, none⟩ (.int .i64 (hd : Int))).heap.size from Nat.le_trans G3.out CH.size)
        clear CH H3 L3 K3 G3 hhd
        have BD := (Below.refl (w3.setCell ⟨g, 2, none⟩ (.int .i64 (hd : Int))).heap.size (w3.setCell ⟨g, 2, none⟩ (.int .i64 (hd : Int)))).drew
        have H4 := Lib.hid (H4.out.new BD)
        have L4 := Lib.hid (L4.out.trans (PStep.news lab BD))
        have K4 := Lib.hid (K4.out.older (older_below BD))
        have G4 := Lib.hid (show B ≤ (w3.setCell ⟨g, 2, none⟩ (.int .i64 (hd : Int))).drew.heap.size from Nat.le_trans G4.out BD.size)
        clear BD
        go_region
        go_upto_region 8 with fail
        generalize (w3.setCell ⟨g, 2, none⟩ (.int .i64 (hd : Int))).drew = w4 at *
        clear k0 c1 c2 f2 hd1 hd2 ne0 ne0' xh xd
        obtain ⟨u, hu⟩ : ∃ u, unusedB Q.K Q.sl[Q.hand] = u := ⟨_, rfl⟩
        obtain ⟨mk, hmk⟩ : ∃ mk, Q.sl[Q.hand].mark = mk := ⟨_, rfl⟩
        have UN := Lib.hid (show Calls Tryz.prog 58 #[.pointer (some ⟨g, 0, none⟩), .pointer (some ⟨gs, Q.hand * 7, none⟩)] w4 (fun e w' => e = .returned (.bool u) ∧ ∃ n, w' = w4.drewN n) from by rw [← hu]; exact unused_any H4.out (i := Q.hand) hh)
        rw [hu, hmk] at SS
        clear hu
        have k0 := (K4.out.cell 0).trans (show _ = some (.pointer (some ⟨g, 0, none⟩)) from rfl)
        go_wp2_with fail
        refine UN.out.mono ?_; rintro e w5 ⟨rfl, n5, hw5⟩
        have b5 : Below w4.heap.size w4 w5 := by rw [hw5]; exact below_drewN (Below.refl _ _) _
        have H5 := Lib.hid (H4.out.new b5)
        have L5 := Lib.hid (L4.out.trans (PStep.news lab b5))
        have K5 := Lib.hid (K4.out.older (older_below b5))
        have G5 := Lib.hid (Nat.le_trans G4.out b5.size)
        have c6 := (H5.out.po.slot (i := Q.hand) hh (j := 6) (by omega)).trans (show _ = some (.bool mk) from by rw [← hmk]; rfl)
        have f6 : w5.frozen? ⟨gs, Q.hand * 7 + 6, none⟩ = false := by obtain ⟨cs, hb, _⟩ := H5.out.po.row; exact hb.frozen _
        have EM := Lib.hid (empty_any H5.out G5.out (i := Q.hand) hh)
        have CE := Lib.hid (H5.out.cell G5.out (i := Q.hand) (j := 6) hh (by omega) (s := { Q.sl[Q.hand] with mark := false }) (v := .bool false) rfl)
        have CC : Chg w5 (w5.setCell ⟨gs, Q.hand * 7 + 6, none⟩ (.bool false)) (fun b => b = gs) := Chg.set w5 _ _ (g := gs) (S := fun b => b = gs) rfl
        have LC := Lib.hid (L5.out.trans (PStep.at_ (lab := lab) CC (by rw [H5.out.po.ls]; omega)))
        have KC := Lib.hid (K5.out.far (p := ⟨gs, Q.hand * 7 + 6, none⟩) (fun e => by have z1 := Z1.out; have z2 := H5.out.po.ls; have e : bx = gs := e; rw [← e] at z2; omega) (.bool false))
        have GC := Lib.hid (show B ≤ (w5.setCell ⟨gs, Q.hand * 7 + 6, none⟩ (.bool false)).heap.size from Nat.le_trans G5.out CC.size)
        have LS := Lib.hid (show lab gs ≠ 0 ∧ lab gs ≠ 1 from by rw [H5.out.po.ls]; omega)
        clear hw5 b5 H4 L4 K4 G4 CC k0 UN
        clear hmk
        cases u with
        | false =>
          have SZ := Lib.hid (show sweep (2 * P.sl.length) P = sweep (2 * P.sl.length - (k + 1)) { Q with hand := hd, sl := Q.sl.set Q.hand { Q.sl[Q.hand] with mark := false } } from by rw [S0.out, SS.out]; rfl)
          clear S0 SS EM
          go_wp2
          go_roundw
          case rel => exact ⟨k + 1, _, by omega, by go_num, by simp [hq], SZ, Lib.hid CE.out.1, LC, KC, GC⟩
          case measure => simp [intOf]; omega
        | true =>
          cases mk with
          | true =>
            have SZ := Lib.hid (show sweep (2 * P.sl.length) P = sweep (2 * P.sl.length - (k + 1)) { Q with hand := hd, sl := Q.sl.set Q.hand { Q.sl[Q.hand] with mark := false } } from by rw [S0.out, SS.out]; rfl)
            clear S0 SS EM
            go_wp2
            go_roundw
            case rel => exact ⟨k + 1, _, by omega, by go_num, by simp [hq], SZ, Lib.hid CE.out.1, LC, KC, GC⟩
            case measure => simp [intOf]; omega
          | false =>
            have SZ := Lib.hid (show sweep (2 * P.sl.length) P = ({ Q with hand := hd, sl := Q.sl.set Q.hand (Sl.bare Q.sl[Q.hand].frame) }, some Q.hand) from by rw [S0.out, SS.out]; rfl)
            clear S0 SS CE LC KC GC
            go_wp2_with fail
            refine EM.out.mono ?_; rintro e w6 ⟨rfl, h6, k6⟩
            have H6 := Lib.hid h6
            have L6 := Lib.hid (L5.out.trans (PStep.at_ (lab := lab) k6 LS.out))
            clear h6 k6 EM
            go_wp2
            go_ret
            rw [E.out, SZ.out]
            exact ⟨rfl, H6.out, L6.out⟩
      · have hlt' : ¬ (k : Int) < 2 * (P.sl.length : Int) := by omega
        have SZ := Lib.hid (show sweep (2 * P.sl.length) P = (Q, none) from by rw [SW.out, show 2 * P.sl.length - k = 0 from by omega]; rfl)
        go_wp2
        go_ret
        rw [E.out, SZ.out]
        exact ⟨rfl, HQ.out, LQ.out⟩
end Go.Proofs.YthnpalcjfgbjeaaGreat.Po

/- A pool: fill. Conditions: those that each states. -/
namespace Go.Proofs.YthnpalcjfgbjeaaGreat.Po
open Go.ChangeShapes Go.WideShapes Go.ChangeAt Go.RowKit Go.Deep Fr Di Ke Gx
set_option linter.unusedVariables false

theorem PoAt.step {w w' : World} {lab lab' : Nat → Nat} {g gk gs c : Nat} {P : Po} (h : PoAt w lab g gk gs c P) (L : LStep w w' lab lab') (K : Kn) : PoAt w' lab' g gk gs c { P with K := K } := by
  have hg : ¬ (lab g ≠ 0 ∧ lab g ≤ 7) := by rw [h.lg]; omega
  have hs : ¬ (lab gs ≠ 0 ∧ lab gs ≤ 7) := by rw [h.ls]; omega
  have lg := L.keep g (by rw [h.lg]; omega)
  have ls := L.keep gs (by rw [h.ls]; omega)
  obtain ⟨h1, ⟨cs, hb, hr, hc⟩, h3, h4, h5, h6, h7, h8, h9, h10⟩ := h
  exact ⟨h1.chg L.chg hg, ⟨cs, hb.chg L.chg hs, hr, hc⟩, h3, h4, h5, h6, h7, by rw [lg, h8], by rw [ls, h9], h10⟩
/-- Four cells of a slot stored at once. -/
theorem rep_four {cs : Array Value} {l : List Sl} (h : Rep cs l) {i : Nat} (hi : i < l.length) (s : Sl) (hs : s.cells.drop 4 = (l[i]).cells.drop 4) : Rep (cs.toList.take (i * 7) ++ s.cells.take 4 ++ cs.toList.drop (i * 7 + 4)).toArray (l.set i s) := by
  have h1 := h.1
  have hl : cs.toList.length = cs.size := by simp
  have h4 : (s.cells.take 4).length = 4 := rfl
  refine rep_turn h hi (by simp only [List.size_toArray, List.length_append, List.length_take, List.length_drop, Sl.len, hl]; omega) (fun k hk => ?_) (fun j hj => ?_)
  · rw [List.getElem?_toArray]
    by_cases e : k < i * 7
    · rw [List.append_assoc, List.getElem?_append_left (by rw [List.length_take]; omega), List.getElem?_take_of_lt e]
      simp
    · rw [List.getElem?_append_right (by rw [List.length_append, List.length_take, h4]; omega), List.getElem?_drop]
      rw [List.length_append, List.length_take, h4, show i * 7 + 4 + (k - (min (i * 7) cs.toList.length + 4)) = k from by omega]
      simp
  · rw [List.getElem?_toArray]
    by_cases e : j < 4
    · rw [List.append_assoc, List.getElem?_append_right (by rw [List.length_take]; omega), List.length_take, show i * 7 + j - min (i * 7) cs.toList.length = j from by omega, List.getElem?_append_left (by rw [h4]; exact e), List.getElem?_take_of_lt e]
    · rw [List.getElem?_append_right (by rw [List.length_append, List.length_take, h4]; omega), List.getElem?_drop, List.length_append, List.length_take, h4, show i * 7 + 4 + (i * 7 + j - (min (i * 7) cs.toList.length + 4)) = i * 7 + j from by omega]
      have e1 := h.2 (i * 7 + j) (by omega)
      rw [flat_at hi hj] at e1
      have e2 : s.cells[j]? = (s.cells.drop 4)[j - 4]? := by rw [List.getElem?_drop, show 4 + (j - 4) = j from by omega]
      have e3 : (l[i]).cells[j]? = ((l[i]).cells.drop 4)[j - 4]? := by rw [List.getElem?_drop, show 4 + (j - 4) = j from by omega]
      rw [e2, hs, ← e3, ← e1]
      simp
/-- A box of a call's own, labelled 9. -/
theorem PB.box {B : Nat} {w : World} {lab : Nat → Nat} {g gk gs c : Nat} {P : Po} (h : PB B w lab g gk gs c P) (hB : B ≤ w.heap.size) (t : TypeId) (cs : Array Value) :
    PB B (w.alloc (.cells cs t)) (mark9 lab w.heap.size) g gk gs c P ∧ PStep w (w.alloc (.cells cs t)) lab (mark9 lab w.heap.size) ∧ Blk (w.alloc (.cells cs t)) w.heap.size t cs := by
  have bl : Below w.heap.size w (w.alloc (.cells cs t)) := (Below.refl _ w).alloc (Nat.le_refl _) _
  obtain ⟨k1, _⟩ := kb_row9 h.kb hB (Chg.of_new bl (fun i => lab i = 9)) w.heap.size (.inr (Nat.le_refl _)) (by simp)
  have hp := h.po.new bl
  have ng : g ≠ w.heap.size := by have := h.po.head.lt; omega
  have ns : gs ≠ w.heap.size := by obtain ⟨_, hb, _⟩ := h.po.row; have := hb.lt; omega
  refine ⟨⟨k1, ⟨hp.head, hp.row, hp.cap, hp.max, hp.n1, hp.n2, hp.hand, ?_, ?_, hp.ne⟩⟩, ⟨Chg.of_new bl _, fun k hk => ?_, fun i hi hl => ⟨World.cell?_of_block (bl.block i hl), by unfold mark9; rw [if_neg (by omega)]; exact hi⟩⟩, Blk.new _ _ _⟩
  · unfold mark9; rw [if_neg ng]; exact hp.lg
  · unfold mark9; rw [if_neg ns]; exact hp.ls
  · unfold mark9 at hk
    split at hk
    · rename_i e; right; omega
    · exact .inl hk
theorem PB.boxSet {B : Nat} {w : World} {lab : Nat → Nat} {g gk gs c r : Nat} {P : Po} (h : PB B w lab g gk gs c P) (hB : B ≤ w.heap.size) (h9 : lab r = 9) (hg : r ≠ g) (hs : r ≠ gs) {t : TypeId} {old : Array Value} (hb : Blk w r t old) (cs : Array Value) :
    PB B (w.setRow r cs) lab g gk gs c P ∧ PStep w (w.setRow r cs) lab lab := by
  have k : Chg w (w.setRow r cs) (fun b => b = r) := Chg.setRow w cs (g := r) (S := fun b => b = r) rfl
  obtain ⟨k1, _⟩ := kb_keep9 h.kb hB (k.weak fun i e => by rw [e]; exact h9) h9 (Nat.lt_of_lt_of_le hb.lt k.size)
  obtain ⟨h1, ⟨cc, hbb, hr, hc⟩, h3, h4, h5, h6, h7, h8, h9', h10⟩ := h.po
  exact ⟨⟨k1, ⟨h1.chg k (fun e => hg e.symm), ⟨cc, hbb.chg k (fun e => hs e.symm), hr, hc⟩, h3, h4, h5, h6, h7, h8, h9', h10⟩⟩, PStep.at_ k (by rw [h9]; omega)⟩
theorem cont_info : (Tryz.prog.info? 83).map (·.size) = some 4 := by kernel_rfl
theorem ans_info : (Tryz.prog.info? 75).map (·.size) = some 2 := by kernel_rfl
/-- A call that writes bytes. -/
theorem write_in {w : World} {lab : Nat → Nat} {A : Option Addr} {n c : Nat} {s : List UInt8} (hs : Src w A n c s) (ha : ∀ b o, A = some ⟨b, o, none⟩ → b < w.heap.size ∧ lab b = 0) (op env a b : Int) (hb : -9223372036854775808 ≤ b ∧ b ≤ 9223372036854775807) :
    (⟨op, env, a, b, 0, s, [], []⟩ : KQ).In w lab ⟨A, c, none, 0, none, 0⟩ := by
  have hl := hs.len
  exact ⟨hb, by rw [← hl] at hs; exact hs, ha, fun i hi => absurd hi (by simp), fun _ => ⟨rfl, rfl⟩, by simp, fun p hp => (by cases hp), fun i hi => absurd hi (by simp), fun p hp => (by cases hp), fun b o e => (by cases e), Nat.le_refl _, by simp⟩

theorem cells_of {w : World} {lab : Nat → Nat} {g gk gs c : Nat} {P : Po} (h : PoAt w lab g gk gs c P) {i : Nat} (hi : i < P.sl.length) {f : Nat} (hf : P.sl[i].frame = f) :
    w.cell? ⟨g, 0, none⟩ = some (.pointer (some ⟨gk, 0, none⟩)) ∧ w.cell? ⟨gs, i * 7 + 4, none⟩ = some (.int .i64 (f : Int)) :=
  ⟨(h.head.cell 0).trans rfl, (h.slot hi (j := 4) (by omega)).trans (by rw [← hf]; rfl)⟩
set_option maxRecDepth 100000 in
set_option maxHeartbeats 4000000 in
theorem fill_any {B : Nat} {w : World} {lab : Nat → Nat} {g gk gs c : Nat} {P : Po} (h : PB B w lab g gk gs c P) (hB : B ≤ w.heap.size) (n : Nat) (sm : P.K.Small n) (hn : n < 1000000) {i : Nat} (hi : i < P.sl.length)
    (A : Option Addr) (m cA : Nat) (s : List UInt8) (hs : Src w A m cA s) (ha : ∀ b o, A = some ⟨b, o, none⟩ → b < w.heap.size ∧ lab b = 0) (kind : Nat) (block nn : Int) (x y : Nat) :
    Calls Tryz.prog 30 #[.pointer (some ⟨g, 0, none⟩), .pointer (some ⟨gs, i * 7, none⟩), .slice A m cA, .agg #[.int .i64 (kind : Int), .int .i64 block, .int .i64 nn, .complex .f64 x y]] w fun e w' => ∃ lab', e = .returned (.int .i64 (fillR P i s kind block nn x y).2) ∧ PB B w' lab' g gk gs c (fillR P i s kind block nn x y).1 ∧ PStep w w' lab lab' := by
  have hl := hs.len
  have b1 : Below w.heap.size w (w.alloc (.cells #[.int .i64 (kind : Int), .int .i64 block, .int .i64 nn, .complex .f64 x y] 83)) := (Below.refl w.heap.size w).alloc (Nat.le_refl _) _
  have L1 := Lib.hid (PStep.news lab b1)
  have K1 := Lib.hid (Blk.new w 83 #[.int .i64 (kind : Int), .int .i64 block, .int .i64 nn, .complex .f64 x y])
  have H1 := Lib.hid (h.new b1)
  have Z1 := Lib.hid (h.kb.lab0 (Nat.le_refl w.heap.size))
  have G1 := Lib.hid (Nat.le_trans hB b1.size)
  have S1 := Lib.hid (hs.below b1)
  have A1 := Lib.hid (show ∀ b o, A = some ⟨b, o, none⟩ → b < (w.alloc (.cells #[.int .i64 (kind : Int), .int .i64 block, .int .i64 nn, .complex .f64 x y] 83)).heap.size ∧ lab b = 0 from fun b o e => ⟨Nat.lt_of_lt_of_le (ha b o e).1 b1.size, (ha b o e).2⟩)
  obtain ⟨f, hfr⟩ : ∃ f, P.sl[i].frame = f := ⟨_, rfl⟩
  obtain ⟨r, hr⟩ : ∃ r, callR P.K ⟨5, 1, (f : Int), 0, 0, s, [], []⟩ = r := ⟨_, rfl⟩
  have FR := Lib.hid (show fillR P i s kind block nn x y = if r.2.2.2 = 0 then ({ P with K := r.1, sl := P.sl.set i ⟨kind, block, nn, x, y, f, 1, P.sl[i].mark⟩ }, 0) else ({ P with K := r.1 }, r.2.2.2) from by unfold fillR; rw [List.getElem?_eq_getElem hi]; dsimp only; rw [hfr, hr])
  clear b1 h hB hs ha
  go_enter Tryz.func30, Tryz.ntmps30
  go_upto_region 1 with fail
  generalize w.alloc (.cells #[.int .i64 (kind : Int), .int .i64 block, .int .i64 nn, .complex .f64 x y] 83) = W at *
  generalize w.heap.size = bx at *
  go_cut [10] (fun v wx => ∃ lab', v = .int .i64 r.2.2.2 ∧ Hid (PB B wx lab' g gk gs c { P with K := r.1 }) ∧ Hid (PStep W wx lab lab') ∧ Hid (B ≤ wx.heap.size))
  case first =>
    have BW := Lib.hid ((Below.refl W.heap.size W).drew)
    have HP := Lib.hid (H1.out.new BW.out)
    have LP := Lib.hid (PStep.news lab BW.out)
    have GP := Lib.hid (show B ≤ W.drew.heap.size from Nat.le_trans G1.out BW.out.size)
    refine wp_region_held_drew (S := fun w' => Hid (w'.cell? ⟨g, 0, none⟩ = some (.pointer (some ⟨gk, 0, none⟩)) ∧ w'.cell? ⟨gs, i * 7 + 4, none⟩ = some (.int .i64 (f : Int)))) (by kernel_rfl) (Lib.hid (cells_of HP.out.po hi hfr)) (fun hS => ?_)
    refine held_take (i := 0) (d := (some 12)) (v := ?_) rfl rfl (by kernel_rfl) (by kernel_rfl) (by kernel_rfl) (fun _ _ _ h => h) (by rfl) ?_ hS ?_
    rotate_left
    · intro w' hSw; (try dsimp only at hSw); go_simp <;> with_reducible rfl
    simp only [Act.put, List.setIfInBounds_toArray, List.set_cons_zero, List.set_cons_succ]
    refine held_take (i := 1) (d := (some 13)) (v := ?_) rfl rfl (by kernel_rfl) (by kernel_rfl) (by kernel_rfl) (fun _ _ _ h => h) (by rfl) ?_ hS ?_
    rotate_left
    · intro w' hSw; (try dsimp only at hSw); go_simp <;> with_reducible rfl
    simp only [Act.put, List.setIfInBounds_toArray, List.set_cons_zero, List.set_cons_succ]
    refine held_take (i := 2) (d := (some 14)) (v := ?_) rfl rfl (by kernel_rfl) (by kernel_rfl) (by kernel_rfl) (fun _ _ _ h => h) (by rfl) ?_ hS ?_
    rotate_left
    · intro w' hSw; (try dsimp only at hSw); go_simp <;> with_reducible rfl
    simp only [Act.put, List.setIfInBounds_toArray, List.set_cons_zero, List.set_cons_succ]
    refine held_take (i := 3) (d := (some 15)) (v := ?_) rfl rfl (by kernel_rfl) (by kernel_rfl) (by kernel_rfl) (fun _ _ _ h => h) (by rfl) ?_ hS ?_
    rotate_left
    · intro w' hSw; have z := hSw.out.1; clear hSw; go_simp <;> with_reducible rfl
    simp only [Act.put, List.setIfInBounds_toArray, List.set_cons_zero, List.set_cons_succ]
    refine held_take (i := 4) (d := (some 16)) (v := ?_) rfl rfl (by kernel_rfl) (by kernel_rfl) (by kernel_rfl) (fun _ _ _ h => h) (by rfl) ?_ hS ?_
    rotate_left
    · intro w' hSw; (try dsimp only at hSw); go_simp <;> with_reducible rfl
    simp only [Act.put, List.setIfInBounds_toArray, List.set_cons_zero, List.set_cons_succ]
    refine held_take (i := 5) (d := (some 17)) (v := ?_) rfl rfl (by kernel_rfl) (by kernel_rfl) (by kernel_rfl) (fun _ _ _ h => h) (by rfl) ?_ hS ?_
    rotate_left
    · intro w' hSw; (try dsimp only at hSw); go_simp <;> with_reducible rfl
    simp only [Act.put, List.setIfInBounds_toArray, List.set_cons_zero, List.set_cons_succ]
    refine held_take (i := 6) (d := (some 18)) (v := ?_) rfl rfl (by kernel_rfl) (by kernel_rfl) (by kernel_rfl) (fun _ _ _ h => h) (by rfl) ?_ hS ?_
    rotate_left
    · intro w' hSw; (try dsimp only at hSw); go_simp <;> with_reducible rfl
    simp only [Act.put, List.setIfInBounds_toArray, List.set_cons_zero, List.set_cons_succ]
    refine held_take (i := 7) (d := (some 19)) (v := ?_) rfl rfl (by kernel_rfl) (by kernel_rfl) (by kernel_rfl) (fun _ _ _ h => h) (by rfl) ?_ hS ?_
    rotate_left
    · intro w' hSw; have z := hSw.out.2; clear hSw; go_simp <;> with_reducible rfl
    simp only [Act.put, List.setIfInBounds_toArray, List.set_cons_zero, List.set_cons_succ]
    refine held_take (i := 8) (d := (some 20)) (v := ?_) rfl rfl (by kernel_rfl) (by kernel_rfl) (by kernel_rfl) (fun _ _ _ h => h) (by rfl) ?_ hS ?_
    rotate_left
    · intro w' hSw; (try dsimp only at hSw); go_simp <;> with_reducible rfl
    simp only [Act.put, List.setIfInBounds_toArray, List.set_cons_zero, List.set_cons_succ]
    refine held_take (i := 9) (d := (some 21)) (v := ?_) rfl rfl (by kernel_rfl) (by kernel_rfl) (by kernel_rfl) (fun _ _ _ h => h) (by rfl) ?_ hS ?_
    rotate_left
    · intro w' hSw; (try dsimp only at hSw); go_simp <;> with_reducible rfl
    simp only [Act.put, List.setIfInBounds_toArray, List.set_cons_zero, List.set_cons_succ]
    refine held_two (i := 10) (j := 14) (by kernel_rfl) rfl rfl (by rfl) (by rfl) ?_ ?_
    · go_simp
      have CK := Lib.hid (call_kb HP.out.kb GP.out n sm hn ⟨5, 1, (f : Int), 0, 0, s, [], []⟩ ⟨A, cA, none, 0, none, 0⟩ (write_in (S1.out.below BW.out) (fun b o e => ⟨Nat.lt_of_lt_of_le (A1.out b o e).1 BW.out.size, (A1.out b o e).2⟩) 5 1 (f : Int) 0 (by omega)))
      rw [hr] at CK
      refine (show Calls _ _ _ _ _ from by have := CK.out; simp only [KQ.cells, hl, List.length_nil] at this; exact this).mono ?_
      rintro e wq ⟨Aq, cq, rfl, labq, kq, lq, bq, sq, oq⟩
      have PQ := HP.out.po.step lq r.1
      have LP := Lib.hid (LP.out.trans (PStep.ofL lq))
      have GP := Lib.hid (show B ≤ wq.heap.size from Nat.le_trans GP.out lq.chg.size)
      have HP := Lib.hid (show PB B wq labq g gk gs c { P with K := r.1 } from ⟨kq, PQ⟩)
      have hS := Lib.hid (cells_of HP.out.po hi hfr)
      refine ⟨hS, ?_⟩
      clear CK PQ kq lq bq sq oq BW
      (try simp only [Act.put, List.setIfInBounds_toArray, List.set_cons_zero, List.set_cons_succ])
      refine held_take (i := 11) (d := (some 11)) (v := ?_) rfl rfl (by kernel_rfl) (by kernel_rfl) (by kernel_rfl) (fun _ _ _ h => h) (by rfl) ?_ hS ?_
      rotate_left
      · intro w' hSw; (try dsimp only at hSw); go_simp <;> with_reducible rfl
      simp only [Act.put, List.setIfInBounds_toArray, List.set_cons_zero, List.set_cons_succ]
      refine held_take (i := 12) (d := (some 23)) (v := ?_) rfl rfl (by kernel_rfl) (by kernel_rfl) (by kernel_rfl) (fun _ _ _ h => h) (by rfl) ?_ hS ?_
      rotate_left
      · intro w' hSw; (try dsimp only at hSw); go_simp <;> with_reducible rfl
      simp only [Act.put, List.setIfInBounds_toArray, List.set_cons_zero, List.set_cons_succ]
      refine held_take (i := 13) (d := (some 24)) (v := ?_) rfl rfl (by kernel_rfl) (by kernel_rfl) (by kernel_rfl) (fun _ _ _ h => h) (by rfl) ?_ hS ?_
      rotate_left
      · intro w' hSw; (try dsimp only at hSw); go_simp <;> with_reducible rfl
      simp only [Act.put, List.setIfInBounds_toArray, List.set_cons_zero, List.set_cons_succ]
      refine held_one (i := 14) (by kernel_rfl) rfl (by rfl) ?_
      go_simp
      obtain ⟨ta, hta⟩ : ∃ ta, wq.heap.size = ta := ⟨_, rfl⟩
      have BX := HP.out.box GP.out 75 #[.int .i64 0, .slice none 0 0]
      rw [hta] at BX
      have TG := Lib.hid (show ta ≠ g ∧ ta ≠ gs from ⟨by have := HP.out.po.head.lt; omega, by obtain ⟨_, hb, _⟩ := HP.out.po.row; have := hb.lt; omega⟩)
      have LP := Lib.hid (LP.out.trans BX.2.1)
      have AB := Lib.hid BX.2.2
      have T9 := Lib.hid (show mark9 labq ta ta = 9 from by unfold mark9; rw [if_pos rfl])
      have HP := Lib.hid BX.1
      have GP := Lib.hid (show B ≤ (wq.alloc (.cells #[.int .i64 0, .slice none 0 0] 75)).heap.size from Nat.le_trans GP.out BX.2.1.chg.size)
      have hS := Lib.hid (cells_of HP.out.po hi hfr)
      refine ⟨hS, ?_⟩
      rw [hta]
      clear BX
      (try simp only [Act.put, List.setIfInBounds_toArray, List.set_cons_zero, List.set_cons_succ])
      refine held_one (i := 15) (by kernel_rfl) rfl (by rfl) ?_
      refine wp_store_row_n rfl 75 (.tmp 9) (.tmp 23) rfl ta #[.int .i64 r.2.1, .slice Aq r.2.2.1.length cq] rfl rfl 75 _ AB.out ans_info rfl (by simp [Value.oneCell']) ?_
      have BX := HP.out.boxSet GP.out T9.out TG.out.1 TG.out.2 AB.out #[.int .i64 r.2.1, .slice Aq r.2.2.1.length cq]
      have LP := Lib.hid (LP.out.trans BX.2)
      have GP := Lib.hid (Nat.le_trans GP.out BX.2.chg.size)
      have HP := Lib.hid BX.1
      have hS := Lib.hid (cells_of HP.out.po hi hfr)
      refine ⟨hS, ?_⟩
      clear BX
      (try simp only [Act.put, List.setIfInBounds_toArray, List.set_cons_zero, List.set_cons_succ])
      refine held_take (i := 16) (d := (some 10)) (v := ?_) rfl rfl (by kernel_rfl) (by kernel_rfl) (by kernel_rfl) (fun _ _ _ h => h) (by rfl) ?_ hS ?_
      rotate_left
      · intro w' hSw; (try dsimp only at hSw); go_simp <;> with_reducible rfl
      simp only [Act.put, List.setIfInBounds_toArray, List.set_cons_zero, List.set_cons_succ]
      refine wpAnyH_done (by kernel_rfl) ?_ _
      go_wp2
      go_meet
      exact ⟨_, rfl, HP, LP, GP⟩
    · go_simp
      obtain ⟨ta, hta⟩ : ∃ ta, W.heap.size = ta := ⟨_, rfl⟩
      have BX := HP.out.box GP.out 75 #[.int .i64 0, .slice none 0 0]
      rw [show W.drew.heap.size = ta from hta] at BX
      have TA := Lib.hid (show W.heap.size ≤ ta from by rw [hta]; exact Nat.le_refl _)
      have TG := Lib.hid (show ta ≠ g ∧ ta ≠ gs from ⟨by have h1 := H1.out.po.head.lt; omega, by obtain ⟨_, hb, _⟩ := H1.out.po.row; have := hb.lt; omega⟩)
      have LP := Lib.hid (LP.out.trans BX.2.1)
      have BW := Lib.hid (BW.out.alloc BW.out.size (.cells #[.int .i64 0, .slice none 0 0] 75))
      have AB := Lib.hid BX.2.2
      have T9 := Lib.hid (show mark9 lab ta ta = 9 from by unfold mark9; rw [if_pos rfl])
      have HP := Lib.hid BX.1
      have GP := Lib.hid (show B ≤ (W.drew.alloc (.cells #[.int .i64 0, .slice none 0 0] 75)).heap.size from Nat.le_trans GP.out BX.2.1.chg.size)
      have hS := Lib.hid (cells_of HP.out.po hi hfr)
      refine ⟨hS, ?_⟩
      rw [hta]
      clear BX
      (try simp only [Act.put, List.setIfInBounds_toArray, List.set_cons_zero, List.set_cons_succ])
      refine held_one (i := 10) (by kernel_rfl) rfl (by rfl) ?_
      go_simp
      have CK := Lib.hid (call_kb HP.out.kb GP.out n sm hn ⟨5, 1, (f : Int), 0, 0, s, [], []⟩ ⟨A, cA, none, 0, none, 0⟩ (write_in (S1.out.below BW.out) (fun b o e => ⟨Nat.lt_of_lt_of_le (A1.out b o e).1 BW.out.size, by unfold mark9; rw [if_neg (by have := (A1.out b o e).1; have := TA.out; omega)]; exact (A1.out b o e).2⟩) 5 1 (f : Int) 0 (by omega)))
      rw [hr] at CK
      refine (show Calls _ _ _ _ _ from by have := CK.out; simp only [KQ.cells, hl, List.length_nil] at this; exact this).mono ?_
      rintro e wq ⟨Aq, cq, rfl, labq, kq, lq, bq, sq, oq⟩
      have PQ := HP.out.po.step lq r.1
      have LP := Lib.hid (LP.out.trans (PStep.ofL lq))
      have GP := Lib.hid (show B ≤ wq.heap.size from Nat.le_trans GP.out lq.chg.size)
      have AB := Lib.hid (AB.out.chg lq.chg (fun e => by have h9 := T9.out; rw [h9] at e; omega))
      have T9 := Lib.hid (show labq ta = 9 from by rw [lq.keep ta (by rw [T9.out]; omega)]; exact T9.out)
      have HP := Lib.hid (show PB B wq labq g gk gs c { P with K := r.1 } from ⟨kq, PQ⟩)
      have hS := Lib.hid (cells_of HP.out.po hi hfr)
      refine ⟨hS, ?_⟩
      clear CK PQ kq lq bq sq oq BW
      (try simp only [Act.put, List.setIfInBounds_toArray, List.set_cons_zero, List.set_cons_succ])
      refine held_take (i := 11) (d := (some 11)) (v := ?_) rfl rfl (by kernel_rfl) (by kernel_rfl) (by kernel_rfl) (fun _ _ _ h => h) (by rfl) ?_ hS ?_
      rotate_left
      · intro w' hSw; (try dsimp only at hSw); go_simp <;> with_reducible rfl
      simp only [Act.put, List.setIfInBounds_toArray, List.set_cons_zero, List.set_cons_succ]
      refine held_take (i := 12) (d := (some 23)) (v := ?_) rfl rfl (by kernel_rfl) (by kernel_rfl) (by kernel_rfl) (fun _ _ _ h => h) (by rfl) ?_ hS ?_
      rotate_left
      · intro w' hSw; (try dsimp only at hSw); go_simp <;> with_reducible rfl
      simp only [Act.put, List.setIfInBounds_toArray, List.set_cons_zero, List.set_cons_succ]
      refine held_take (i := 13) (d := (some 24)) (v := ?_) rfl rfl (by kernel_rfl) (by kernel_rfl) (by kernel_rfl) (fun _ _ _ h => h) (by rfl) ?_ hS ?_
      rotate_left
      · intro w' hSw; (try dsimp only at hSw); go_simp <;> with_reducible rfl
      simp only [Act.put, List.setIfInBounds_toArray, List.set_cons_zero, List.set_cons_succ]
      refine held_one (i := 15) (by kernel_rfl) rfl (by rfl) ?_
      refine wp_store_row_n rfl 75 (.tmp 9) (.tmp 23) rfl ta #[.int .i64 r.2.1, .slice Aq r.2.2.1.length cq] rfl rfl 75 _ AB.out ans_info rfl (by simp [Value.oneCell']) ?_
      have BX := HP.out.boxSet GP.out T9.out TG.out.1 TG.out.2 AB.out #[.int .i64 r.2.1, .slice Aq r.2.2.1.length cq]
      have LP := Lib.hid (LP.out.trans BX.2)
      have GP := Lib.hid (Nat.le_trans GP.out BX.2.chg.size)
      have HP := Lib.hid BX.1
      have hS := Lib.hid (cells_of HP.out.po hi hfr)
      refine ⟨hS, ?_⟩
      clear BX
      (try simp only [Act.put, List.setIfInBounds_toArray, List.set_cons_zero, List.set_cons_succ])
      refine held_take (i := 16) (d := (some 10)) (v := ?_) rfl rfl (by kernel_rfl) (by kernel_rfl) (by kernel_rfl) (fun _ _ _ h => h) (by rfl) ?_ hS ?_
      rotate_left
      · intro w' hSw; (try dsimp only at hSw); go_simp <;> with_reducible rfl
      simp only [Act.put, List.setIfInBounds_toArray, List.set_cons_zero, List.set_cons_succ]
      refine wpAnyH_done (by kernel_rfl) ?_ _
      go_wp2
      go_meet
      exact ⟨_, rfl, HP, LP, GP⟩
  case rest =>
    obtain ⟨lab', rfl, H2, L2, G2⟩ := hcut
    have L3 := Lib.hid (L1.out.trans L2.out)
    have K2 := Lib.hid (L2.out.blk K1.out Z1.out)
    clear K1 H1 G1 S1 A1 L1 L2
    by_cases her : r.2.2.2 = 0
    · have FZ := Lib.hid (show fillR P i s kind block nn x y = ({ P with K := r.1, sl := P.sl.set i ⟨kind, block, nn, x, y, f, 1, P.sl[i].mark⟩ }, 0) from by rw [FR.out, if_pos her])
      have hi2 : i < ({ P with K := r.1 } : Po).sl.length := hi
      obtain ⟨cs, hb, hrep⟩ := H2.out.po.row
      have hT := H2.out.turn G2.out (P.sl.set i ⟨kind, block, nn, x, y, f, P.sl[i].pins, P.sl[i].mark⟩) (List.length_set ..) (Chg.setRow wc (cs.toList.take (i * 7) ++ (Sl.cells ⟨kind, block, nn, x, y, f, P.sl[i].pins, P.sl[i].mark⟩).take 4 ++ cs.toList.drop (i * 7 + 4)).toArray (g := gs) (S := fun b => b = gs) rfl) (hb.row _) (rep_four hrep hi _ (by rw [← hfr]; rfl))
      have h1 := hrep.1
      have HB := Lib.hid hb
      have HT := Lib.hid hT.1
      have LT := Lib.hid (L3.out.trans (PStep.at_ (lab := lab') (Chg.setRow wc (cs.toList.take (i * 7) ++ (Sl.cells ⟨kind, block, nn, x, y, f, P.sl[i].pins, P.sl[i].mark⟩).take 4 ++ cs.toList.drop (i * 7 + 4)).toArray (g := gs) (S := fun b => b = gs) rfl) (by rw [H2.out.po.ls]; omega)))
      have GT := Lib.hid (show B ≤ (wc.setRow gs (cs.toList.take (i * 7) ++ (Sl.cells ⟨kind, block, nn, x, y, f, P.sl[i].pins, P.sl[i].mark⟩).take 4 ++ cs.toList.drop (i * 7 + 4)).toArray).heap.size from Nat.le_trans G2.out hT.2.size)
      have LS := Lib.hid (show lab' gs ≠ 0 ∧ lab' gs ≠ 1 from by rw [H2.out.po.ls]; omega)
      obtain ⟨w3, hw3⟩ : ∃ w3, wc.setRow gs (cs.toList.take (i * 7) ++ (#[.int .i64 (kind : Int), .int .i64 block, .int .i64 nn, .complex .f64 x y] : Array Value).toList ++ cs.toList.drop (i * 7 + (#[.int .i64 (kind : Int), .int .i64 block, .int .i64 nn, .complex .f64 x y] : Array Value).size)).toArray = w3 := ⟨_, rfl⟩
      have hw4 : wc.setRow gs (cs.toList.take (i * 7) ++ (Sl.cells ⟨kind, block, nn, x, y, f, P.sl[i].pins, P.sl[i].mark⟩).take 4 ++ cs.toList.drop (i * 7 + 4)).toArray = w3 := hw3
      rw [hw4] at HT LT GT
      have HW3 := Lib.hid hw3
      clear hT hb hrep FR H2 L3 G2 hw3 hw4
      go_upto_region 4 with fail
      go_upto_region 5 with (first
        | (refine wpList_load_row rfl 83 (.tmp 7) rfl bx rfl 83 _ (0, 0) _ K2.out Tryz.underlying83 rfl cont_info ?_)
        | (refine wpList_store_at rfl 83 (.tmp 31) (.tmp 29) rfl gs (i * 7) #[.int .i64 (kind : Int), .int .i64 block, .int .i64 nn, .complex .f64 x y] rfl rfl 85 cs HB.out cont_info (by show i * 7 + 4 ≤ cs.size; omega) (by simp [Value.oneCell']) ?_; rw [HW3.out])
        | fail)
      clear HB h1
      have hi3 : i < ({ P with K := r.1, sl := P.sl.set i ⟨kind, block, nn, x, y, f, P.sl[i].pins, P.sl[i].mark⟩ } : Po).sl.length := by rw [List.length_set]; exact hi
      have e3 : ({ P with K := r.1, sl := P.sl.set i ⟨kind, block, nn, x, y, f, P.sl[i].pins, P.sl[i].mark⟩ } : Po).sl[i]'hi3 = ⟨kind, block, nn, x, y, f, P.sl[i].pins, P.sl[i].mark⟩ := List.getElem_set_self ..
      have c5 := (HT.out.po.slot hi3 (j := 5) (by omega)).trans (show _ = some (.int .i64 (P.sl[i].pins : Int)) from by rw [e3]; rfl)
      have f5 : w3.frozen? ⟨gs, i * 7 + 5, none⟩ = false := by obtain ⟨cc, hb, _⟩ := HT.out.po.row; exact hb.frozen _
      have CE := Lib.hid (HT.out.cell GT.out hi3 (j := 5) (by omega) (s := ⟨kind, block, nn, x, y, f, 1, P.sl[i].mark⟩) (v := .int .i64 1) (by rw [e3]; rfl)).1
      have LE := Lib.hid (LT.out.trans (PStep.at_ (lab := lab') (Chg.set w3 (i * 7 + 5) (.int .i64 1) (g := gs) (S := fun b => b = gs) rfl) LS.out))
      clear HT LT GT e3
      go_wp2
      go_ret
      rw [FZ.out]
      have hz := CE.out
      simp only [Po.put, List.set_set] at hz
      first | exact ⟨lab', rfl, hz, LE.out⟩ | exact ⟨rfl, lab', hz, LE.out⟩
    · have FZ := Lib.hid (show fillR P i s kind block nn x y = ({ P with K := r.1 }, r.2.2.2) from by rw [FR.out, if_neg her])
      have her' : (r.2.2.2 == 0) = false := by simpa using her
      go_wp2
      go_ret
      rw [FZ.out]
      exact ⟨lab', rfl, H2.out, L3.out⟩
end Go.Proofs.YthnpalcjfgbjeaaGreat.Po

/- A pool: Pins, Has, Fills, Unpin. Conditions: those that each states. -/
namespace Go.Proofs.YthnpalcjfgbjeaaGreat.Po
open Go.ChangeShapes Go.WideShapes Go.ChangeAt Go.RowKit Go.Deep Fr Di Ke Gx
set_option linter.unusedVariables false

theorem pinned_lt {P : Po} {f : Int} {i : Nat} (h : pinned P f = some i) : ∃ hi : i < P.sl.length, isPinned f P.sl[i] = true := by
  obtain ⟨h1, h2, _⟩ := List.findIdx?_eq_some_iff_getElem.1 h
  exact ⟨h1, h2⟩
theorem having_lt {P : Po} {b : Int} {i : Nat} (h : having P b = some i) : ∃ hi : i < P.sl.length, isBlock b P.sl[i] = true := by
  obtain ⟨h1, h2, _⟩ := List.findIdx?_eq_some_iff_getElem.1 h
  exact ⟨h1, h2⟩
theorem isPinned_iff {f : Int} {s : Sl} : isPinned f s = true ↔ (s.frame : Int) = f ∧ 0 < s.pins := by unfold isPinned; simp

theorem pins_any {w : World} {lab : Nat → Nat} {g gk gs c : Nat} {P : Po} (h : PoAt w lab g gk gs c P) (f : Int) :
    Calls Tryz.prog 19 #[.pointer (some ⟨g, 0, none⟩), .int .i64 f] w fun e w' => e = .returned (.int .i64 (pinsR P f : Int)) ∧ Below w.heap.size w w' := by
  have PA := Lib.hid (pinned_any h f)
  have H := Lib.hid h
  clear h
  go_enter Tryz.func19, Tryz.ntmps19
  go_wp2_with fail
  refine PA.out.mono ?_; rintro e w2 ⟨rfl, b2⟩
  have B2 := Lib.hid b2
  have H2 := Lib.hid (H.out.new b2)
  clear b2 PA
  cases hp : pinned P f with
  | none =>
    have E := Lib.hid (show pinsR P f = 0 from by unfold pinsR; rw [hp])
    clear hp
    rw [show ptrV gs none = .pointer none from rfl]
    go_wp2
    go_ret
    exact ⟨by rw [E.out]; rfl, B2.out⟩
  | some i =>
    obtain ⟨hi, _⟩ := pinned_lt hp
    have E := Lib.hid (show pinsR P f = P.sl[i].pins from by unfold pinsR; rw [hp]; simp only [List.getElem?_eq_getElem hi])
    have c5 := (H2.out.slot hi (j := 5) (by omega)).trans (show _ = some (.int .i64 (P.sl[i].pins : Int)) from rfl)
    clear hp
    rw [ptr_ne]
    go_wp2
    go_ret
    exact ⟨by rw [E.out]; rfl, B2.out⟩
theorem pins_nil (f : Int) (w : World) : Calls Tryz.prog 19 #[.pointer none, .int .i64 f] w fun e w' => e = .returned (.int .i64 0) ∧ Below w.heap.size w w' := by
  go_enter Tryz.func19, Tryz.ntmps19
  go_wp2_with fail
  refine (pinned_nil f w).mono ?_; rintro e w2 ⟨rfl, b2⟩
  have B2 := Lib.hid b2
  clear b2
  go_wp2
  go_ret
  exact ⟨rfl, B2.out⟩

theorem has_any {w : World} {lab : Nat → Nat} {g gk gs c : Nat} {P : Po} (h : PoAt w lab g gk gs c P) (b : Int) :
    Calls Tryz.prog 21 #[.pointer (some ⟨g, 0, none⟩), .int .i64 b] w fun e w' => e = .returned (.bool (having P b).isSome) ∧ Below w.heap.size w w' := by
  have PA := Lib.hid (having_any h b)
  clear h
  go_enter Tryz.func21, Tryz.ntmps21
  go_wp2_with fail
  refine PA.out.mono ?_; rintro e w2 ⟨rfl, b2⟩
  have B2 := Lib.hid b2
  clear b2 PA
  cases hp : having P b with
  | none =>
    have E := Lib.hid (show (having P b).isSome = false from by rw [hp]; rfl)
    rw [show ptrV gs none = .pointer none from rfl]
    go_wp2
    go_ret
    exact ⟨by rw [E.out]; rfl, B2.out⟩
  | some i =>
    have E := Lib.hid (show (having P b).isSome = true from by rw [hp]; rfl)
    rw [ptr_ne]
    go_wp2
    go_ret
    exact ⟨by rw [E.out]; rfl, B2.out⟩

theorem fills_any {w : World} {lab : Nat → Nat} {g gk gs c : Nat} {P : Po} (h : PoAt w lab g gk gs c P) :
    Calls Tryz.prog 20 #[.pointer (some ⟨g, 0, none⟩)] w fun e w' => e = .returned (.int .i64 (P.fills : Int)) ∧ w' = w := by
  have c3 := (h.head.cell 3).trans (show _ = some (.int .i64 (P.fills : Int)) from rfl)
  clear h
  go_enter Tryz.func20, Tryz.ntmps20
  go_wp2
  go_ret
  exact ⟨rfl, rfl⟩

set_option maxRecDepth 100000 in
set_option maxHeartbeats 1000000 in
theorem unpin_any {B : Nat} {w : World} {lab : Nat → Nat} {g gk gs c : Nat} {P : Po} (h : PB B w lab g gk gs c P) (hB : B ≤ w.heap.size) (f : Int) (hm : ∀ s ∈ P.sl, s.pins < 1000000) :
    Calls Tryz.prog 18 #[.pointer (some ⟨g, 0, none⟩), .int .i64 f] w fun e w' => e = .returned (.int .i64 (unpinR P f).2) ∧ PB B w' lab g gk gs c (unpinR P f).1 ∧ PStep w w' lab lab := by
  have PA := Lib.hid (pinned_any h.po f)
  have H := Lib.hid h
  clear h
  go_enter Tryz.func18, Tryz.ntmps18
  go_wp2_with fail
  refine PA.out.mono ?_; rintro e w2 ⟨rfl, b2⟩
  have L2 := Lib.hid (PStep.news lab b2)
  have H2 := Lib.hid (H.out.new b2)
  have G2 := Lib.hid (Nat.le_trans hB b2.size)
  clear b2 PA H
  cases hp : pinned P f with
  | none =>
    have E := Lib.hid (show unpinR P f = (P, 1) from by unfold unpinR; rw [hp])
    clear hp
    rw [show ptrV gs none = .pointer none from rfl]
    go_wp2
    go_ret
    rw [E.out]
    exact ⟨rfl, H2.out, L2.out⟩
  | some i =>
    obtain ⟨hi, hpin⟩ := pinned_lt hp
    have E := Lib.hid (show unpinR P f = (P.put i (if P.sl[i].pins = 1 ∧ P.sl[i].kind ≠ 1 then Sl.bare P.sl[i].frame else { P.sl[i] with pins := P.sl[i].pins - 1 }), 0) from by unfold unpinR; rw [hp]; simp only [List.getElem?_eq_getElem hi])
    have hp0 := (isPinned_iff.1 hpin).2
    have hp1 := hm _ (List.getElem_mem hi)
    have c5 := (H2.out.po.slot hi (j := 5) (by omega)).trans (show _ = some (.int .i64 (P.sl[i].pins : Int)) from rfl)
    have f5 : w2.frozen? ⟨gs, i * 7 + 5, none⟩ = false := by obtain ⟨cc, hb, _⟩ := H2.out.po.row; exact hb.frozen _
    have hv : ({ P.sl[i] with pins := P.sl[i].pins - 1 } : Sl).cells = (P.sl[i]).cells.set 5 (.int .i64 ((P.sl[i].pins : Int) - 1)) := by
      have e : ((P.sl[i].pins - 1 : Nat) : Int) = (P.sl[i].pins : Int) - 1 := by omega
      show [_, _, _, _, _, _, _] = _
      simp only [Sl.cells, List.set_cons_succ, List.set_cons_zero, e]
    have hC := H2.out.cell G2.out hi (j := 5) (by omega) hv
    have LC := Lib.hid (L2.out.trans (PStep.at_ (lab := lab) (Chg.set w2 (i * 7 + 5) (.int .i64 ((P.sl[i].pins : Int) - 1)) (g := gs) (S := fun b => b = gs) rfl) (by rw [H2.out.po.ls]; omega)))
    have HC := Lib.hid hC.1
    have GC := Lib.hid (show B ≤ (w2.setCell ⟨gs, i * 7 + 5, none⟩ (.int .i64 ((P.sl[i].pins : Int) - 1))).heap.size from Nat.le_trans G2.out hC.2.size)
    have LS := Lib.hid (show lab gs ≠ 0 ∧ lab gs ≠ 1 from by rw [H2.out.po.ls]; omega)
    have hi3 : i < (P.put i { P.sl[i] with pins := P.sl[i].pins - 1 }).sl.length := by show i < (P.sl.set i _).length; rw [List.length_set]; exact hi
    have e3 : (P.put i { P.sl[i] with pins := P.sl[i].pins - 1 }).sl[i]'hi3 = { P.sl[i] with pins := P.sl[i].pins - 1 } := List.getElem_set_self ..
    have x5 := IntWalk.i64_in ((P.sl[i].pins : Int) - 1) (by omega)
    rw [ptr_ne]
    go_upto_region 7 with fail
    generalize w2.setCell ⟨gs, i * 7 + 5, none⟩ (.int .i64 ((P.sl[i].pins : Int) - 1)) = w3 at *
    clear c5 f5 hC L2 H2 G2 x5 hp
    have c5 := (HC.out.po.slot hi3 (j := 5) (by omega)).trans (show _ = some (.int .i64 ((P.sl[i].pins : Int) - 1)) from by rw [e3, hv]; rfl)
    have c0 := (HC.out.po.slot hi3 (j := 0) (by omega)).trans (show _ = some (.int .i64 (P.sl[i].kind : Int)) from by rw [e3, hv]; rfl)
    rw [Nat.add_zero] at c0
    by_cases h1 : P.sl[i].pins = 1
    · have h1i : (P.sl[i].pins : Int) - 1 = 0 := by omega
      by_cases hk : P.sl[i].kind = 1
      · have hki : (P.sl[i].kind : Int) = 1 := by omega
        have EZ := Lib.hid (show unpinR P f = (P.put i { P.sl[i] with pins := P.sl[i].pins - 1 }, 0) from by rw [E.out, if_neg (fun h => h.2 hk)])
        clear E hv e3 h1 hk
        go_wp2
        go_ret
        rw [EZ.out]
        exact ⟨rfl, HC.out, LC.out⟩
      · have hki : ¬ (P.sl[i].kind : Int) = 1 := by omega
        have hkb : ((P.sl[i].kind : Int) == 1) = false := by rw [beq_eq_false_iff_ne]; exact hki
        have hkc : ((P.sl[i].kind : Int) != 1) = true := by simpa using hki
        have EZ := Lib.hid (show unpinR P f = (P.put i (Sl.bare P.sl[i].frame), 0) from by rw [E.out, if_pos ⟨h1, hk⟩])
        have EM := Lib.hid (empty_any HC.out GC.out hi3)
        have EF := Lib.hid (show (P.put i { P.sl[i] with pins := P.sl[i].pins - 1 }).put i (Sl.bare ((P.put i { P.sl[i] with pins := P.sl[i].pins - 1 }).sl[i]'hi3).frame) = P.put i (Sl.bare P.sl[i].frame) from by rw [e3]; unfold Po.put; dsimp only; rw [List.set_set])
        clear E hv e3 h1 hk
        go_wp2_with fail
        refine EM.out.mono ?_; rintro e w4 ⟨rfl, h4, k4⟩
        rw [EF.out] at h4
        have H4 := Lib.hid h4
        have L4 := Lib.hid (LC.out.trans (PStep.at_ (lab := lab) k4 LS.out))
        clear h4 k4 EM EF
        go_wp2
        go_ret
        rw [EZ.out]
        exact ⟨rfl, H4.out, L4.out⟩
    · have h1i : ¬ (P.sl[i].pins : Int) - 1 = 0 := by omega
      have h1b : ((P.sl[i].pins : Int) - 1 == 0) = false := by rw [beq_eq_false_iff_ne]; exact h1i
      have EZ := Lib.hid (show unpinR P f = (P.put i { P.sl[i] with pins := P.sl[i].pins - 1 }, 0) from by rw [E.out, if_neg (fun h => h1 h.1)])
      clear E hv e3 h1
      go_wp2
      go_ret
      rw [EZ.out]
      exact ⟨rfl, HC.out, LC.out⟩
end Go.Proofs.YthnpalcjfgbjeaaGreat.Po

/- A pool: Head. Conditions: those that each states. -/
namespace Go.Proofs.YthnpalcjfgbjeaaGreat.Po
open Go.ChangeShapes Go.WideShapes Go.ChangeAt Go.RowKit Go.Deep Fr Di Ke Gx Fl
set_option linter.unusedVariables false

theorem sweep_K : ∀ (k : Nat) (P : Po), (sweep k P).1.K = P.K
  | 0, P => rfl
  | k + 1, P => by
    unfold sweep
    split
    · rfl
    · split
      · rfl
      · rw [sweep_K k]
theorem sweep_lt : ∀ (k : Nat) (P : Po) (i : Nat), (sweep k P).2 = some i → i < P.sl.length
  | 0, P, i, h => by cases h
  | k + 1, P, i, h => by
    unfold sweep at h
    split at h
    · cases h
    · rename_i s hs
      split at h
      · cases h
        exact (List.getElem?_eq_some_iff.1 hs).1
      · have := sweep_lt k _ i h
        simpa using this
theorem take_K (P : Po) : (takeR P).1.K = P.K := by
  unfold takeR
  split
  · rfl
  · exact sweep_K _ _
theorem take_len (P : Po) : (takeR P).1.sl.length = P.sl.length := by
  unfold takeR
  split
  · rfl
  · exact sweep_len _ _
theorem take_lt {P : Po} {i : Nat} (h : (takeR P).2 = some i) : i < P.sl.length := by
  unfold takeR at h
  split at h
  · rename_i j hj
    cases h
    exact (List.findIdx?_eq_some_iff_getElem.1 hj).1
  · exact sweep_lt _ _ _ h
theorem fill_len (P : Po) (i : Nat) (b : List UInt8) (kind : Nat) (block n : Int) (x y : Nat) : (fillR P i b kind block n x y).1.sl.length = P.sl.length := by
  unfold fillR
  split
  · rfl
  · dsimp only
    split
    · simp
    · rfl
def headR (P : Po) (b : List UInt8) : Po × Int × Int :=
  if 256 < b.length then (P, 0, 2) else
  match (takeR P).2 with
  | none => ((takeR P).1, 0, 80)
  | some i =>
    let q := fillR (takeR P).1 i b 3 0 (b.length : Int) (fl (evs b)) (fl (ods b))
    if q.2 = 0 then (q.1, frameOf q.1 i, 0) else (q.1, 0, q.2)
theorem frameOf_at {P : Po} {i : Nat} (hi : i < P.sl.length) : frameOf P i = (P.sl[i].frame : Int) := by unfold frameOf; rw [List.getElem?_eq_getElem hi]

set_option maxRecDepth 100000 in
set_option maxHeartbeats 2000000 in
theorem head_any {B : Nat} {w : World} {lab : Nat → Nat} {g gk gs c : Nat} {P : Po} (h : PB B w lab g gk gs c P) (hB : B ≤ w.heap.size) (n : Nat) (sm : P.K.Small n) (hn : n < 1000000)
    (A : Option Addr) (m cA : Nat) (b : List UInt8) (hs : Src w A m cA b) (ha : ∀ bb o, A = some ⟨bb, o, none⟩ → bb < w.heap.size ∧ lab bb = 0) (hm : m ≤ 1000000) :
    Calls Tryz.prog 8 #[.pointer (some ⟨g, 0, none⟩), .slice A m cA] w fun e w' => ∃ lab', e = .returned (.tuple #[.int .i64 (headR P b).2.1, .int .i64 (headR P b).2.2]) ∧ PB B w' lab' g gk gs c (headR P b).1 ∧ PStep w w' lab lab' := by
  have hl := hs.len
  by_cases h1 : (m : Int) > 256
  · have E := Lib.hid (show headR P b = (P, 0, 2) from by unfold headR; rw [if_pos (by omega)])
    have H := Lib.hid h
    have LR := Lib.hid (PStep.refl w lab)
    clear h hs ha
    go_enter Tryz.func8, Tryz.ntmps8
    go_wp2
    go_ret2
    rw [E.out]
    first | exact ⟨lab, rfl, H.out, LR.out⟩ | exact ⟨rfl, lab, H.out, LR.out⟩
  have PA := Lib.hid (part_b A m cA b w hs.toBytes (by omega))
  have H := Lib.hid h
  have S := Lib.hid hs
  have HA := Lib.hid ha
  have HB := Lib.hid hB
  clear h hs ha hB
  go_enter Tryz.func8, Tryz.ntmps8
  go_wp2_with fail
  refine PA.out.mono ?_; rintro e w2 ⟨rfl, b2⟩
  have L2 := Lib.hid (PStep.news lab b2)
  have H2 := Lib.hid (H.out.new b2)
  have G2 := Lib.hid (Nat.le_trans HB.out b2.size)
  have S2 := Lib.hid (S.out.below b2)
  have A2 := Lib.hid (show ∀ bb o, A = some ⟨bb, o, none⟩ → bb < w2.heap.size ∧ lab bb = 0 from fun bb o e => ⟨Nat.lt_of_lt_of_le (HA.out bb o e).1 b2.size, (HA.out bb o e).2⟩)
  clear b2 PA H S HA HB
  go_wp2_with fail
  refine (take_any H2.out G2.out).mono ?_; rintro e w3 ⟨rfl, h3, k3⟩
  have L3 := Lib.hid (L2.out.trans k3)
  have H3 := Lib.hid h3
  have G3 := Lib.hid (Nat.le_trans G2.out k3.chg.size)
  have S3 := Lib.hid (src_chg S2.out k3.chg (fun _ bb o e hf => hf (A2.out bb o e).2))
  have A3 := Lib.hid (show ∀ bb o, A = some ⟨bb, o, none⟩ → bb < w3.heap.size ∧ lab bb = 0 from fun bb o e => ⟨Nat.lt_of_lt_of_le (A2.out bb o e).1 k3.chg.size, (A2.out bb o e).2⟩)
  clear h3 k3 L2 H2 G2 S2 A2
  cases ht : (takeR P).2 with
  | none =>
    have E := Lib.hid (show headR P b = ((takeR P).1, 0, 80) from by unfold headR; rw [if_neg (by omega), ht])
    clear ht
    rw [show ptrV gs none = .pointer none from rfl]
    go_wp2
    go_ret2
    rw [E.out]
    first | exact ⟨lab, rfl, H3.out, L3.out⟩ | exact ⟨rfl, lab, H3.out, L3.out⟩
  | some i =>
    have hi := take_lt ht
    have hi' : i < (takeR P).1.sl.length := by rw [take_len]; exact hi
    have EQ := Lib.hid (show headR P b = if (fillR (takeR P).1 i b 3 0 (b.length : Int) (fl (evs b)) (fl (ods b))).2 = 0 then ((fillR (takeR P).1 i b 3 0 (b.length : Int) (fl (evs b)) (fl (ods b))).1, frameOf (fillR (takeR P).1 i b 3 0 (b.length : Int) (fl (evs b)) (fl (ods b))).1 i, 0) else ((fillR (takeR P).1 i b 3 0 (b.length : Int) (fl (evs b)) (fl (ods b))).1, 0, (fillR (takeR P).1 i b 3 0 (b.length : Int) (fl (evs b)) (fl (ods b))).2) from by unfold headR; rw [if_neg (by omega), ht])
    have FL := fill_len (takeR P).1 i b 3 0 (b.length : Int) (fl (evs b)) (fl (ods b))
    have FI := Lib.hid (fill_any H3.out G3.out n (by rw [take_K]; exact sm) hn hi' A m cA b S3.out A3.out 3 0 (b.length : Int) (fl (evs b)) (fl (ods b)))
    rw [hl] at FI EQ FL
    generalize fillR (takeR P).1 i b 3 0 (m : Int) (fl (evs b)) (fl (ods b)) = q at *
    have hiq : i < q.1.sl.length := by rw [FL]; exact hi'
    clear ht FL
    rw [ptr_ne]
    go_wp2_with fail
    refine FI.out.mono ?_; rintro e w4 ⟨lab', rfl, h4, k4⟩
    have L4 := Lib.hid (L3.out.trans k4)
    have H4 := Lib.hid h4
    clear k4 h4 FI L3 H3 G3 S3 A3
    by_cases hq : q.2 = 0
    · have E := Lib.hid (show headR P b = (q.1, (q.1.sl[i].frame : Int), 0) from by rw [EQ.out, if_pos hq, frameOf_at hiq])
      have c4 := (H4.out.po.slot hiq (j := 4) (by omega)).trans (show _ = some (.int .i64 (q.1.sl[i].frame : Int)) from rfl)
      clear EQ
      go_wp2
      go_ret2
      rw [E.out]
      first | exact ⟨lab', rfl, H4.out, L4.out⟩ | exact ⟨rfl, lab', H4.out, L4.out⟩
    · have E := Lib.hid (show headR P b = (q.1, 0, q.2) from by rw [EQ.out, if_neg hq])
      have hqb : (q.2 == 0) = false := by simpa using hq
      clear EQ
      go_wp2
      go_ret2
      rw [E.out]
      first | exact ⟨lab', rfl, H4.out, L4.out⟩ | exact ⟨rfl, lab', H4.out, L4.out⟩
end Go.Proofs.YthnpalcjfgbjeaaGreat.Po

/- A pool: Get. Conditions: those that each states. -/
namespace Go.Proofs.YthnpalcjfgbjeaaGreat.Po
open Go.ChangeShapes Go.WideShapes Go.ChangeAt Go.RowKit Go.Deep Fr Di Ke Gx Fl
set_option linter.unusedVariables false

/-- What is read of the disk is nothing, or a whole block. -/
theorem read_len {d : Dk} (h : d.Ok) (env block : Int) (he : (readR d env block).2 = 0) : (readR d env block).1.length = 256 := by
  unfold readR at he ⊢
  by_cases ha : askE d env block = 0
  · rw [if_pos ha]
    obtain ⟨_, b, rfl, hb, _⟩ := askE_zero ha
    exact see_len h hb
  · rw [if_neg ha] at he
    exact absurd he ha
theorem sweep_fills : ∀ (k : Nat) (P : Po), (sweep k P).1.fills = P.fills
  | 0, P => rfl
  | k + 1, P => by
    unfold sweep
    split
    · rfl
    · split
      · rfl
      · rw [sweep_fills k]
theorem take_fills (P : Po) : (takeR P).1.fills = P.fills := by
  unfold takeR
  split
  · rfl
  · exact sweep_fills _ _
theorem put_put (P : Po) (i : Nat) (s t : Sl) : (P.put i s).put i t = P.put i t := by unfold Po.put; dsimp only; rw [List.set_set]

set_option maxRecDepth 100000 in
set_option maxHeartbeats 4000000 in
theorem get_any {B : Nat} {w : World} {lab : Nat → Nat} {g gk gs c : Nat} {P : Po} (h : PB B w lab g gk gs c P) (hB : B ≤ w.heap.size) (n : Nat) (sm : P.K.Small n) (hn : n + 1 < 1000000) (hm : ∀ s ∈ P.sl, s.pins < 1000000) (hfi : P.fills < 1000000) (block nn : Int) (x y : Nat) :
    Calls Tryz.prog 16 #[.pointer (some ⟨g, 0, none⟩), .int .i64 block, .int .i64 nn, .complex .f64 x y] w fun e w' => ∃ lab', e = .returned (.tuple #[.int .i64 (getR P block nn x y).2.1, .int .i64 (getR P block nn x y).2.2]) ∧ PB B w' lab' g gk gs c (getR P block nn x y).1 ∧ PStep w w' lab lab' := by
  have H := Lib.hid h
  have LR := Lib.hid (PStep.refl w lab)
  have GB := Lib.hid hB
  clear h hB
  by_cases h1 : nn < 0
  · have E := Lib.hid (show getR P block nn x y = (P, 0, 1) from by unfold getR; rw [if_pos (.inl h1)])
    go_enter Tryz.func16, Tryz.ntmps16
    go_wp2
    go_ret2
    rw [E.out]
    first | exact ⟨lab, rfl, H.out, LR.out⟩ | exact ⟨rfl, lab, H.out, LR.out⟩
  by_cases h2 : nn > 256
  · have E := Lib.hid (show getR P block nn x y = (P, 0, 1) from by unfold getR; rw [if_pos (.inr h2)])
    go_enter Tryz.func16, Tryz.ntmps16
    go_wp2
    go_ret2
    rw [E.out]
    first | exact ⟨lab, rfl, H.out, LR.out⟩ | exact ⟨rfl, lab, H.out, LR.out⟩
  have N0 := Lib.hid (show ¬ (nn < 0 ∨ 256 < nn) from by omega)
  have HV := Lib.hid (having_any H.out.po block)
  go_enter Tryz.func16, Tryz.ntmps16
  go_wp2_with fail
  refine HV.out.mono ?_; rintro e w2 ⟨rfl, b2⟩
  have L2 := Lib.hid (PStep.news lab b2)
  have H2 := Lib.hid (H.out.new b2)
  have G2 := Lib.hid (Nat.le_trans GB.out b2.size)
  clear b2 HV H LR GB
  cases hv : having P block with
  | some i =>
    obtain ⟨hi, _⟩ := having_lt hv
    have E := Lib.hid (show getR P block nn x y = (P.put i { P.sl[i] with pins := P.sl[i].pins + 1, mark := true }, (P.sl[i].frame : Int), 0) from by unfold getR; rw [if_neg N0.out, hv]; simp only [List.getElem?_eq_getElem hi])
    have hp1 := hm _ (List.getElem_mem hi)
    have c5 := (H2.out.po.slot hi (j := 5) (by omega)).trans (show _ = some (.int .i64 (P.sl[i].pins : Int)) from rfl)
    have f5 : w2.frozen? ⟨gs, i * 7 + 5, none⟩ = false := by obtain ⟨cc, hb, _⟩ := H2.out.po.row; exact hb.frozen _
    have x5 := IntWalk.i64_in ((P.sl[i].pins : Int) + 1) (by omega)
    have hC := H2.out.cell G2.out hi (j := 5) (by omega) (s := { P.sl[i] with pins := P.sl[i].pins + 1 }) (v := .int .i64 ((P.sl[i].pins : Int) + 1)) rfl
    have L3 := Lib.hid (L2.out.trans (PStep.at_ (lab := lab) (Chg.set w2 (i * 7 + 5) (.int .i64 ((P.sl[i].pins : Int) + 1)) (g := gs) (S := fun b => b = gs) rfl) (by rw [H2.out.po.ls]; omega)))
    have H3 := Lib.hid hC.1
    have G3 := Lib.hid (Nat.le_trans G2.out hC.2.size)
    rw [ptr_ne]
    go_upto_region 8 with fail
    clear c5 f5 x5 hC L2 H2 G2 hv
    generalize w2.setCell ⟨gs, i * 7 + 5, none⟩ (.int .i64 ((P.sl[i].pins : Int) + 1)) = w3 at *
    have hi3 : i < (P.put i { P.sl[i] with pins := P.sl[i].pins + 1 }).sl.length := by show i < (P.sl.set i _).length; rw [List.length_set]; exact hi
    have e3 : (P.put i { P.sl[i] with pins := P.sl[i].pins + 1 }).sl[i]'hi3 = { P.sl[i] with pins := P.sl[i].pins + 1 } := List.getElem_set_self ..
    have c6 := (H3.out.po.slot hi3 (j := 6) (by omega)).trans (show _ = some (.bool P.sl[i].mark) from by rw [e3]; rfl)
    have f6 : w3.frozen? ⟨gs, i * 7 + 6, none⟩ = false := by obtain ⟨cc, hb, _⟩ := H3.out.po.row; exact hb.frozen _
    have hC := H3.out.cell G3.out hi3 (j := 6) (by omega) (s := { P.sl[i] with pins := P.sl[i].pins + 1, mark := true }) (v := .bool true) (by rw [e3]; rfl)
    rw [put_put] at hC
    have L4 := Lib.hid (L3.out.trans (PStep.at_ (lab := lab) (Chg.set w3 (i * 7 + 6) (.bool true) (g := gs) (S := fun b => b = gs) rfl) (by rw [H3.out.po.ls]; omega)))
    have H4 := Lib.hid hC.1
    go_upto_region 9 with fail
    clear c6 f6 hC L3 H3 G3 e3 hi3
    generalize w3.setCell ⟨gs, i * 7 + 6, none⟩ (.bool true) = w4 at *
    have hi4 : i < (P.put i { P.sl[i] with pins := P.sl[i].pins + 1, mark := true }).sl.length := by show i < (P.sl.set i _).length; rw [List.length_set]; exact hi
    have e4 : (P.put i { P.sl[i] with pins := P.sl[i].pins + 1, mark := true }).sl[i]'hi4 = { P.sl[i] with pins := P.sl[i].pins + 1, mark := true } := List.getElem_set_self ..
    have c4 := (H4.out.po.slot hi4 (j := 4) (by omega)).trans (show _ = some (.int .i64 (P.sl[i].frame : Int)) from by rw [e4]; rfl)
    clear e4 hi4
    go_wp2
    go_ret2
    rw [E.out]
    first | exact ⟨lab, rfl, H4.out, L4.out⟩ | exact ⟨rfl, lab, H4.out, L4.out⟩
  | none =>
    rw [show ptrV gs none = .pointer none from rfl]
    go_wp2_with fail
    refine (take_any H2.out G2.out).mono ?_; rintro e w3 ⟨rfl, h3, k3⟩
    have L3 := Lib.hid (L2.out.trans k3)
    have H3 := Lib.hid h3
    have G3 := Lib.hid (Nat.le_trans G2.out k3.chg.size)
    clear h3 k3 L2 H2 G2
    cases ht : (takeR P).2 with
    | none =>
      have E := Lib.hid (show getR P block nn x y = ((takeR P).1, 0, 80) from by unfold getR; rw [if_neg N0.out, hv]; dsimp only; rw [ht])
      clear ht hv
      rw [show ptrV gs none = .pointer none from rfl]
      go_wp2
      go_ret2
      rw [E.out]
      first | exact ⟨lab, rfl, H3.out, L3.out⟩ | exact ⟨rfl, lab, H3.out, L3.out⟩
    | some i =>
      have hi := take_lt ht
      have hi' : i < (takeR P).1.sl.length := by rw [take_len]; exact hi
      have tk := take_K P
      have hfi' : (takeR P).1.fills < 1000000 := by rw [take_fills]; exact hfi
      obtain ⟨Q, hQ⟩ : ∃ Q, (takeR P).1 = Q := ⟨_, rfl⟩
      rw [hQ] at H3 hi' tk hfi'
      obtain ⟨r, hr⟩ : ∃ r, callR Q.K ⟨6, 1, block, 0, 0, [], [], []⟩ = r := ⟨_, rfl⟩
      obtain ⟨q, hq⟩ : ∃ q, fillR { Q with K := r.1, fills := Q.fills + 1 } i r.2.2.1 1 block nn x y = q := ⟨_, rfl⟩
      have E := Lib.hid (show getR P block nn x y = if r.2.2.2 ≠ 0 then ({ Q with K := r.1 }, 0, r.2.2.2) else if q.2 ≠ 0 then (q.1, 0, q.2) else (setMark q.1 i, frameOf q.1 i, 0) from by
        unfold getR
        rw [if_neg N0.out, hv]
        dsimp only
        rw [ht]
        dsimp only
        rw [hQ, hr, hq])
      have r6 : r = (Q.K, 0, (readR Q.K.dk 1 block).1, (readR Q.K.dk 1 block).2) := by rw [← hr]; exact callR_6 Q.K 1 (.inl rfl) block 0 0 [] [] []
      have smr := small_call (n := n) (K := Q.K) (by rw [tk]; exact sm) ⟨6, 1, block, 0, 0, [], [], []⟩
      have SMR := Lib.hid (show r.1.Small (n + 1) from by rw [← hr]; exact smr)
      have RL := Lib.hid (show r.2.2.2 = 0 → r.2.2.1.length = 256 from fun e => by rw [r6] at e ⊢; exact read_len H3.out.kb.ok.dok 1 block e)
      have CK := Lib.hid (call_kb H3.out.kb G3.out n (by rw [tk]; exact sm) (by omega) (bare 6 1 block 0 0) noX (bare_in _ _ _ _ _ _ _ (by omega)))
      rw [show callR Q.K (bare 6 1 block 0 0) = r from hr] at CK
      have k0 := (H3.out.po.head.cell 0).trans (show _ = some (.pointer (some ⟨gk, 0, none⟩)) from rfl)
      have FL := fill_len { Q with K := r.1, fills := Q.fills + 1 } i r.2.2.1 1 block nn x y
      rw [hq] at FL
      have hiq : i < q.1.sl.length := by rw [FL]; exact hi'
      clear ht hv smr r6 hr tk FL hQ
      rw [ptr_ne]
      go_wp2_with fail
      refine CK.out.mono ?_; rintro e w4 ⟨Aq, cq, rfl, lab4, kb4, ls4, b4, sq, oq⟩
      have H4 := Lib.hid (show PB B w4 lab4 g gk gs c { Q with K := r.1 } from ⟨kb4, H3.out.po.step ls4 r.1⟩)
      have L4 := Lib.hid (L3.out.trans (PStep.ofL ls4))
      have G4 := Lib.hid (Nat.le_trans G3.out b4.size)
      have S4 := Lib.hid sq
      have O4 := Lib.hid oq
      clear kb4 ls4 b4 sq oq CK k0 H3 L3 G3
      have b5 : Below w4.heap.size w4 (w4.alloc (.cells #[.int .i64 r.2.1, .slice Aq r.2.2.1.length cq] 75)) := (Below.refl _ w4).alloc (Nat.le_refl _) _
      have H5 := Lib.hid (H4.out.new b5)
      have L5 := Lib.hid (L4.out.trans (PStep.news lab4 b5))
      have G5 := Lib.hid (Nat.le_trans G4.out b5.size)
      have S5 := Lib.hid (S4.out.below b5)
      have K5 := Lib.hid (Blk.new w4 75 #[.int .i64 r.2.1, .slice Aq r.2.2.1.length cq])
      have Z5 := Lib.hid (H4.out.kb.lab0 (Nat.le_refl w4.heap.size))
      go_upto_region 14 with fail
      generalize w4.alloc (.cells #[.int .i64 r.2.1, .slice Aq r.2.2.1.length cq] 75) = w5 at *
      generalize w4.heap.size = ta at *
      clear b5 H4 L4 G4 S4
      by_cases he : r.2.2.2 = 0
      rotate_left
      · have EZ := Lib.hid (show getR P block nn x y = ({ Q with K := r.1 }, 0, r.2.2.2) from by rw [E.out, if_pos he])
        have heb : (r.2.2.2 == 0) = false := by simpa using he
        clear E RL
        go_wp2
        go_ret2
        rw [EZ.out]
        first | exact ⟨lab4, rfl, H5.out, L5.out⟩ | exact ⟨rfl, lab4, H5.out, L5.out⟩
      have L256 := Lib.hid (RL.out he)
      clear RL
      have c3 := (H5.out.po.head.cell 3).trans (show _ = some (.int .i64 (Q.fills : Int)) from rfl)
      have f3 := H5.out.po.head.frozen 3
      have x3 := IntWalk.i64_in ((Q.fills : Int) + 1) (by omega)
      have CH : Chg w5 (w5.setCell ⟨g, 3, none⟩ (.int .i64 ((Q.fills : Int) + 1))) (fun b => b = g) := Chg.set w5 3 _ (g := g) (S := fun b => b = g) rfl
      have hT := H5.out.turnHead G5.out Q.hand (Q.fills + 1) H5.out.po.hand CH (by have := H5.out.po.head.put 3 (.int .i64 ((Q.fills : Int) + 1)); simpa using this)
      have H6 := Lib.hid hT.1
      have L6 := Lib.hid (L5.out.trans (PStep.at_ (lab := lab4) CH (by rw [H5.out.po.lg]; omega)))
      have G6 := Lib.hid (Nat.le_trans G5.out hT.2.size)
      have gz := H5.out.po.lg
      have K6 := Lib.hid (K5.out.chg CH (fun e => by have := Z5.out; have e : ta = g := e; rw [e] at this; omega))
      have A6 := Lib.hid (show ∀ b o, Aq = some ⟨b, o, none⟩ → b < w5.heap.size ∧ lab4 b = 0 from fun b o e => by
        obtain ⟨b', o', e', hb⟩ := Src.lt_ S5.out (by have := L256.out; omega)
        rw [e] at e'
        cases e'
        refine ⟨hb, ?_⟩
        by_cases h0 : lab4 b = 0
        · exact h0
        · exact absurd h0 (O4.out (by have := L256.out; omega) b o e))
      have S6 := Lib.hid (src_chg S5.out CH (fun _ b o e hf => by have := (A6.out b o e).2; have hf : b = g := hf; rw [hf] at this; omega))
      have A7 := Lib.hid (show ∀ b o, Aq = some ⟨b, o, none⟩ → b < (w5.setCell ⟨g, 3, none⟩ (.int .i64 ((Q.fills : Int) + 1))).heap.size ∧ lab4 b = 0 from fun b o e => ⟨Nat.lt_of_lt_of_le (A6.out b o e).1 CH.size, (A6.out b o e).2⟩)
      clear hT gz
      go_upto_region 17 with fail
      clear c3 f3 x3 CH H5 L5 G5 K5 S5 A6 O4
      generalize w5.setCell ⟨g, 3, none⟩ (.int .i64 ((Q.fills : Int) + 1)) = w6 at *
      have d1 := (K6.out.cell 1).trans (show _ = some (.slice Aq r.2.2.1.length cq) from rfl)
      have FI := Lib.hid (fill_any H6.out G6.out (n + 1) SMR.out (by omega) (i := i) hi' Aq r.2.2.1.length cq r.2.2.1 S6.out A7.out 1 block nn x y)
      rw [hq] at FI
      clear hq
      go_wp2_with fail
      refine FI.out.mono ?_; rintro e w7 ⟨lab7, rfl, h7, k7⟩
      have H7 := Lib.hid h7
      have L7 := Lib.hid (L6.out.trans k7)
      have G7 := Lib.hid (Nat.le_trans G6.out k7.chg.size)
      clear h7 k7 FI d1 K6 H6 L6 G6 S6 A7
      by_cases hq0 : q.2 = 0
      rotate_left
      · have EZ := Lib.hid (show getR P block nn x y = (q.1, 0, q.2) from by rw [E.out, if_neg (fun h => h he), if_pos hq0])
        have hqb : (q.2 == 0) = false := by simpa using hq0
        clear E
        go_wp2
        go_ret2
        rw [EZ.out]
        first | exact ⟨lab7, rfl, H7.out, L7.out⟩ | exact ⟨rfl, lab7, H7.out, L7.out⟩
      have EZ := Lib.hid (show getR P block nn x y = (q.1.put i { q.1.sl[i] with mark := true }, (q.1.sl[i].frame : Int), 0) from by rw [E.out, if_neg (fun h => h he), if_neg (fun h => h hq0), frameOf_at hiq]; unfold setMark; rw [List.getElem?_eq_getElem hiq])
      have c6 := (H7.out.po.slot hiq (j := 6) (by omega)).trans (show _ = some (.bool q.1.sl[i].mark) from rfl)
      have f6 : w7.frozen? ⟨gs, i * 7 + 6, none⟩ = false := by obtain ⟨cc, hb, _⟩ := H7.out.po.row; exact hb.frozen _
      have hC := H7.out.cell G7.out hiq (j := 6) (by omega) (s := { q.1.sl[i] with mark := true }) (v := .bool true) rfl
      have L8 := Lib.hid (L7.out.trans (PStep.at_ (lab := lab7) (Chg.set w7 (i * 7 + 6) (.bool true) (g := gs) (S := fun b => b = gs) rfl) (by rw [H7.out.po.ls]; omega)))
      have H8 := Lib.hid hC.1
      have hi8 : i < (q.1.put i { q.1.sl[i] with mark := true }).sl.length := by show i < (q.1.sl.set i _).length; rw [List.length_set]; exact hiq
      have e8 : (q.1.put i { q.1.sl[i] with mark := true }).sl[i]'hi8 = { q.1.sl[i] with mark := true } := List.getElem_set_self ..
      clear E
      go_upto_region 21 with fail
      clear c6 f6 hC
      generalize w7.setCell ⟨gs, i * 7 + 6, none⟩ (.bool true) = w8 at *
      have c4 := (H8.out.po.slot hi8 (j := 4) (by omega)).trans (show _ = some (.int .i64 (q.1.sl[i].frame : Int)) from by rw [e8]; rfl)
      clear e8 L7 H7 G7
      go_wp2
      go_ret2
      rw [EZ.out]
      first | exact ⟨lab7, rfl, H8.out, L8.out⟩ | exact ⟨rfl, lab7, H8.out, L8.out⟩
end Go.Proofs.YthnpalcjfgbjeaaGreat.Po

/- A pool: Forget. Conditions: those that each states. -/
namespace Go.Proofs.YthnpalcjfgbjeaaGreat.Po
open Go.ChangeShapes Go.WideShapes Go.ChangeAt Go.RowKit Go.Deep Fr Di Ke Gx Rk
set_option linter.unusedVariables false

def forgetR (P : Po) (l : List Int) : Po := l.foldl forget1 P
def vi (l : List Int) : List Value := l.map fun b => .int .i64 b
theorem forget1_len (P : Po) (b : Int) : (forget1 P b).sl.length = P.sl.length := by
  unfold forget1
  split
  · rfl
  · split
    · rfl
    · simp [Po.put]

set_option maxRecDepth 100000 in
set_option maxHeartbeats 2000000 in
theorem forget_any {B : Nat} {w : World} {lab : Nat → Nat} {g gk gs c : Nat} {P : Po} (h : PB B w lab g gk gs c P) (hB : B ≤ w.heap.size) (A : Option Addr) (cA : Nat) (l : List Int) (hr : RowG w 1 A l.length cA (vi l)) (ha : ∀ a, A = some a → a.block < w.heap.size ∧ lab a.block = 0) (hn : l.length ≤ 1000) :
    Calls Tryz.prog 15 #[.pointer (some ⟨g, 0, none⟩), .slice A l.length cA] w fun e w' => e = .returned (.tuple #[]) ∧ PB B w' lab g gk gs c (forgetR P l) ∧ PStep w w' lab lab := by
  have H := Lib.hid h
  have HR := Lib.hid hr
  have HA := Lib.hid ha
  have HB := Lib.hid hB
  have LR := Lib.hid (PStep.refl w lab)
  clear h hr ha hB
  go_enter Tryz.func15, Tryz.ntmps15
  go_wp2
  go_loopw [11] (fun i wr => ∃ (j : Nat) (Q : Po), j ≤ l.length ∧ i = .int .i64 (j : Int) ∧ Hid (forgetR P (l.take j) = Q) ∧ Hid (PB B wr lab g gk gs c Q) ∧ Hid (PStep w wr lab lab)) (fun i _ => l.length - (intOf i).toNat)
  case atStart => exact ⟨0, P, Nat.zero_le _, rfl, Lib.hid rfl, H, LR⟩
  case round =>
    obtain ⟨j, Q, hj, rfl, FQ, HQ, LQ⟩ := hrel
    by_cases hlt : j < l.length
    · have hlt' : (j : Int) < (l.length : Int) := by omega
      have j0 : (0 : Int) ≤ (j : Int) := by omega
      have xj := IntWalk.i64_in ((j : Int) + 1) (by omega)
      obtain ⟨b, o, e, hb, c0⟩ := (HR.out.chg LQ.out.chg (fun a e hf => hf (HA.out a e).2)).cell (j := j) (by simp [vi, hlt])
      subst e
      have e0 : (vi l)[j]'(by simp [vi, hlt]) = .int .i64 l[j] := by simp [vi]
      rw [e0] at c0
      have FN := Lib.hid (show forgetR P (l.take (j + 1)) = forget1 Q l[j] from by rw [List.take_succ_eq_append_getElem hlt]; unfold forgetR at *; rw [List.foldl_append, FQ.out]; rfl)
      generalize l[j] = bl at *
      have GQ := Lib.hid (Nat.le_trans HB.out LQ.out.chg.size)
      have HV := Lib.hid (having_any HQ.out.po bl)
      clear e0
      go_wp2_with fail
      refine HV.out.mono ?_; rintro e w2 ⟨rfl, b2⟩
      have L2 := Lib.hid (LQ.out.trans (PStep.news lab b2))
      have H2 := Lib.hid (HQ.out.new b2)
      have G2 := Lib.hid (Nat.le_trans GQ.out b2.size)
      clear b2 HV HQ LQ GQ c0 hb
      cases hv : having Q bl with
      | none =>
        have FZ := Lib.hid (show forgetR P (l.take (j + 1)) = Q from by rw [FN.out]; unfold forget1; rw [hv])
        clear hv FN FQ
        rw [show ptrV gs none = .pointer none from rfl]
        go_wp2
        go_roundw
        case rel => exact ⟨j + 1, Q, by omega, by go_num, FZ, H2, L2⟩
        case measure => simp [intOf]; omega
      | some i =>
        obtain ⟨hi, _⟩ := having_lt hv
        have FZ := Lib.hid (show forgetR P (l.take (j + 1)) = Q.put i (if Q.sl[i].pins = 0 then Sl.bare Q.sl[i].frame else { Q.sl[i] with kind := 2 }) from by rw [FN.out]; unfold forget1; rw [hv]; simp only [List.getElem?_eq_getElem hi])
        have c5 := (H2.out.po.slot hi (j := 5) (by omega)).trans (show _ = some (.int .i64 (Q.sl[i].pins : Int)) from rfl)
        have c0 := (H2.out.po.slot hi (j := 0) (by omega)).trans (show _ = some (.int .i64 (Q.sl[i].kind : Int)) from rfl)
        have f0 : w2.frozen? ⟨gs, i * 7 + 0, none⟩ = false := by obtain ⟨cc, hb, _⟩ := H2.out.po.row; exact hb.frozen _
        have LS := Lib.hid (show lab gs ≠ 0 ∧ lab gs ≠ 1 from by rw [H2.out.po.ls]; omega)
        clear hv FN FQ
        rw [ptr_ne]
        by_cases hp : Q.sl[i].pins = 0
        · have hpi : (Q.sl[i].pins : Int) = 0 := by omega
          have FY := Lib.hid (show forgetR P (l.take (j + 1)) = Q.put i (Sl.bare Q.sl[i].frame) from by rw [FZ.out, if_pos hp])
          have EM := Lib.hid (empty_any H2.out G2.out hi)
          clear FZ hp
          go_wp2_with fail
          refine EM.out.mono ?_; rintro e w3 ⟨rfl, h3, k3⟩
          have H3 := Lib.hid h3
          have L3 := Lib.hid (L2.out.trans (PStep.at_ (lab := lab) k3 LS.out))
          clear h3 k3 EM c5 c0 f0 H2 L2 G2
          go_wp2
          go_roundw
          case rel => exact ⟨j + 1, _, by omega, by go_num, FY, H3, L3⟩
          case measure => simp [intOf]; omega
        · have hpi : ¬ (Q.sl[i].pins : Int) = 0 := by omega
          have hpb : ((Q.sl[i].pins : Int) == 0) = false := by rw [beq_eq_false_iff_ne]; exact hpi
          have FY := Lib.hid (show forgetR P (l.take (j + 1)) = Q.put i { Q.sl[i] with kind := 2 } from by rw [FZ.out, if_neg hp])
          have hC := H2.out.cell G2.out hi (j := 0) (by omega) (s := { Q.sl[i] with kind := 2 }) (v := .int .i64 2) rfl
          have H3 := Lib.hid hC.1
          have L3 := Lib.hid (L2.out.trans (PStep.at_ (lab := lab) (Chg.set w2 (i * 7 + 0) (.int .i64 2) (g := gs) (S := fun b => b = gs) rfl) LS.out))
          rw [Nat.add_zero] at c0 f0 H3 L3
          clear FZ hp hC
          go_wp2
          go_roundw
          case rel => exact ⟨j + 1, _, by omega, by go_num, FY, H3, L3⟩
          case measure => simp [intOf]; omega
    · have hlt' : ¬ (j : Int) < (l.length : Int) := by omega
      have ht : l.take j = l := List.take_of_length_le (by omega)
      have FZ := Lib.hid (show forgetR P l = Q from by rw [← FQ.out, ht])
      clear ht
      go_wp2
      go_end0
      rw [FZ.out]
      exact ⟨rfl, HQ.out, LQ.out⟩
end Go.Proofs.YthnpalcjfgbjeaaGreat.Po
