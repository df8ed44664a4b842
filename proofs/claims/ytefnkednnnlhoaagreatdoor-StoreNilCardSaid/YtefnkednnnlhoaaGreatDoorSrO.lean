/- Package store: fill. Conditions: those that each states. -/
import Derived.Test.YtefnkednnnlhoaaGreatDoorMBF
import Derived.Test.YtefnkednnnlhoaaGreatDoorMAV
namespace Go.Proofs.YtefnkednnnlhoaaGreatDoor.Sr
open Go.ChangeShapes Go.WideShapes Go.ChangeAt Go.RowKit Go.Deep Go.Shelf Fr Di Ke Rk Fl
set_option linter.unusedVariables false
set_option linter.unusedSimpArgs false
attribute [local go_sem] Oper.semAt_some

theorem wpIn_head_calm {P : Program} {Q : Exit → Act → World → Prop} {S : World → Prop} {l n : Nat} {id : Nat} {a : Act} {w : World} {ll l₁ l₂ : List Oper} (m : Nat) (hm : P.follows .mixedOrders = true) (hd : noDefer ll.toArray = true) (h1 : ll.take m = l₁) (h2 : ll.drop m = l₂)
    (hB : (decide (l₁.length = m) && decide (0 < l₂.length) && Region.sinkB .any ll.toArray m && Region.chainB .any ll.toArray m && Region.headB ll.toArray m && Region.seqB .any ll.toArray l₂.length m (Array.replicate m true ++ Array.replicate l₂.length false)) = true)
    (h : wpAnyH P .any l₁.toArray (TailPost P ll (fun e a w => e = .normal ∧ Q e a w) l₂) S l₁.toArray.size (Array.replicate l₁.toArray.size false) a w.drew) : (Code.region id ll.toArray true).wpIn (Fence.wide.inRound l) n P Q a w :=
  wpIn_mono (wpIn_head_held m hm hd (by rintro ⟨_, _, h, _⟩; cases h) h1 h2 hB h) (fun _ _ _ h => h.2)
theorem cpx_info : ∃ i0 z, Tryz.prog.info? 61 = some i0 ∧ i0.zero = some z ∧ z.cells.size = 1 ∧ i0.size = 1 ∧ i0.bytes = 16 := by
  obtain ⟨i, hi, hs⟩ := Option.map_eq_some_iff.1 (show (Tryz.prog.info? 61).map (fun i => (i.zero.map (·.cells.size), i.size, i.bytes)) = some (some 1, 1, 16) by kernel_rfl)
  simp only [Prod.mk.injEq] at hs
  obtain ⟨h0, h1, h2⟩ := hs
  obtain ⟨z, hz, hzs⟩ := Option.map_eq_some_iff.1 h0
  exact ⟨i, z, hi, hz, hzs, h1, h2⟩
theorem lay_n {w : World} {gd : Nat} {u0 u1 u2 : Value} {T X : Option Addr} {ct cx n : Nat} {ts : List Int} {xs : List Value} {v : Int} (hn : xs.length = n) (hv : ts[n]? = some v) (hd : Blk w gd 69 #[u0, u1, u2, .slice T ts.length ct, .slice X n cx]) (ht : RowG w 1 T ts.length ct (In.vi ts)) (hx : RowW w 31 1 X n cx xs)
    (hgx : ¬ inB X gd) (hto : ∀ b, inB T b → b ≠ gd ∧ ¬ inB X b) (hm : ts.length ≤ 1000) (At : Option Addr) (m c : Nat) :
    Calls Tryz.prog 78 #[.pointer (some ⟨gd, 0, none⟩), .slice At m c] w fun e w' => e = .returned (.int .i64 v) ∧ ∃ X' cx', Blk w' gd 69 #[u0, u1, u2, .slice T ts.length ct, .slice X' (n + 1) cx'] ∧
      RowW w' 31 1 X' (n + 1) cx' (xs ++ [.slice At m c]) ∧ (∀ b, inB X' b → inB X b ∨ w.heap.size ≤ b) ∧ Chg w w' (fun k => k = gd ∨ inB X k) := by
  subst hn
  obtain ⟨h, e⟩ := List.getElem?_eq_some_iff.1 hv
  subst e
  exact lay_any hd ht hx hgx hto h hm At m c
theorem row_g {w : World} {E : TypeId} {sz n c : Nat} {A : Option Addr} {xs : List Value} (h : RowW w E sz A n c xs) : RowG w sz A n c xs := by
  refine ⟨h.len, h.capMax.1, h.capMax.2, fun e => by subst e; exact h.none_, fun ad e hp => ?_⟩
  obtain ⟨g, e2, hg, hc⟩ := h.form hp
  rw [e] at e2
  cases e2
  exact ⟨rfl, hg, fun j hj => by rw [Nat.zero_add]; exact hc j hj⟩
theorem int_info3 : ∃ i0 z, Tryz.prog.info? 3 = some i0 ∧ i0.zero = some z ∧ z.cells.size = 1 ∧ i0.size = 1 ∧ i0.bytes = 8 := by
  obtain ⟨i, hi, hs⟩ := Option.map_eq_some_iff.1 (show (Tryz.prog.info? 3).map (fun i => (i.zero.map (·.cells.size), i.size, i.bytes)) = some (some 1, 1, 8) by kernel_rfl)
  simp only [Prod.mk.injEq] at hs
  obtain ⟨h0, h1, h2⟩ := hs
  obtain ⟨z, hz, hzs⟩ := Option.map_eq_some_iff.1 h0
  exact ⟨i, z, hi, hz, hzs, h1, h2⟩
/-- The parts of the first pieces. -/
def prN (bs : List UInt8) (k : Nat) : List (Nat × Nat) := (List.range k).map fun i => let p := (bs.drop (i * 256)).take 256; (fl (evs p), fl (ods p))
set_option maxRecDepth 100000 in
set_option maxHeartbeats 4000000 in
theorem fill_any (gd gA a : Nat) (v0 : Value) (T : Option Addr) (ct : Nat) (ts : List Int) (L : List Lf) (sp : List Value) (cf : Nat) (Ab : Option Addr) (nb cb : Nat) (bs : List UInt8) (w : World) (q : Nat → Nat) (m : Fm) (xs : Nat → List UInt8)
    (h : FmAt q w w gd gA a v0 (.slice none 0 0) (.slice (some ⟨gA, 0, none⟩) L.length cf) T ct ts (vl L ++ sp).toArray 0 xs [] [] m) (ha : a < L.length) (hL : L.length ≤ 24) (hcf : L.length ≤ cf)
    (hs : Src w Ab nb cb bs) (hnb : nb ≤ 8192) (hq : ∀ b, w.heap.size ≤ b → q b = 0) (hqb : ∀ b o, Ab = some ⟨b, o, none⟩ → q b = 0 ∧ b < w.heap.size) (np : Nat) (hnp : np = (nb + 255) / 256) (v : Int) (hv : ts[np]? = some v) (hT : np + 1 + (L.length + 7) / 8 ≤ ts.length) (hts : ts.length ≤ 1000)
    (hx : ∀ k, k * 256 < nb → xs k = (bs.drop (k * 256)).take 256 ++ List.replicate (256 - min 256 (nb - k * 256)) 0)
    (fF : In.Fil) (hfF : fF = ⟨L[a].f.ver, L[a].f.mtime, L[a].f.len, ts.take np, prN bs np⟩) (hxf : xs np = In.sealL (In.filT fF)) (hmf : fF.may = true)
    (es : List In.Ent) (hes : es = (ents L).set a ⟨L[a].name, v⟩) (hxd : ∀ k, k * 8 < L.length → xs (np + 1 + k) = In.sealL (In.dirT ((es.drop (k * 8)).take 8)) ∧ In.dirMay ((es.drop (k * 8)).take 8) = true) :
    Calls Tryz.prog 43 #[.pointer (some ⟨gd, 0, none⟩), .pointer (some ⟨gA, a * 7, none⟩), .slice Ab nb cb] w fun e w' => e = .returned (.tuple #[]) ∧ ∃ (q' : Nat → Nat) (m' : Fm) (D' : Option Addr) (cd' : Nat),
      FmAt q' w w' gd gA a v0 (.slice D' ((L.length + 7) / 8) cd') (.slice (some ⟨gA, 0, none⟩) L.length cf) T ct ts ((vl L ++ sp).toArray.setIfInBounds (a * 7 + 1) (.int .i64 v)) (np + 1 + (L.length + 7) / 8) xs (ts.take np) (prN bs np) m' ∧
      RowW w' 3 1 D' ((L.length + 7) / 8) cd' (In.vi ((ts.drop (np + 1)).take ((L.length + 7) / 8))) ∧ (∀ b, inB D' b → q' b = 8 ∧ w.heap.size ≤ b) := by
  obtain ⟨cs0, hc0⟩ : ∃ cs0, cs0 = (vl L ++ sp).toArray := ⟨_, rfl⟩
  have hcs : a * 7 + 7 ≤ cs0.size := by rw [hc0]; simp [vl_length]; omega
  rw [← hc0] at h
  have C0 := Lib.hid hc0
  rw [← hc0]
  clear hc0
  have HF := Lib.hid (And.intro hfF (And.intro hxf hmf))
  have HE := Lib.hid (And.intro hes hxd)
  have HNP := Lib.hid hnp
  have HV := Lib.hid hv
  clear hfF hxf hmf hes hxd hnp hv
  refine callsIn_wide (n := 9).1 ?_
  refine callsIn_of_wp_marks Tryz.func43 rfl trivial ?_ rfl
  simp only [Tryz.ntmps43, List.size_toArray, List.length_cons, List.length_nil, Nat.reduceAdd, Nat.reduceSub, Array.replicate_succ, Array.replicate_zero, List.push_toArray, List.append_toArray, List.nil_append, List.cons_append]
  have CK := Lib.hid (fun W => chunk_b Ab nb cb W)
  have hlen := hs.len
  obtain ⟨v2, hv2⟩ : ∃ v2 : Value, v2 = .slice (some ⟨gA, 0, none⟩) L.length cf := ⟨_, rfl⟩
  rw [← hv2] at h ⊢
  obtain ⟨v1, hv1⟩ : ∃ v1 : Value, v1 = .slice none 0 0 := ⟨_, rfl⟩
  rw [← hv1] at h
  have HV1 := Lib.hid hv1
  have HV2 := Lib.hid hv2
  clear hv1 hv2
  have b1 : Below w.heap.size w (((w.alloc (.cells #[.pointer (some ⟨gd, 0, none⟩)] 159)).alloc (.cells #[.pointer (some ⟨gA, a * 7, none⟩)] 117))) := ((Below.refl _ w).alloc (Nat.le_refl _) _).alloc (by simp) _
  have K3 : Blk ((w.alloc (.cells #[.pointer (some ⟨gd, 0, none⟩)] 159)).alloc (.cells #[.pointer (some ⟨gA, a * 7, none⟩)] 117)) w.heap.size 159 #[.pointer (some ⟨gd, 0, none⟩)] := (Blk.new w 159 _).alloc _
  have K4 : Blk ((w.alloc (.cells #[.pointer (some ⟨gd, 0, none⟩)] 159)).alloc (.cells #[.pointer (some ⟨gA, a * 7, none⟩)] 117)) (w.heap.size + 1) 117 #[.pointer (some ⟨gA, a * 7, none⟩)] := by
    have := Blk.new (w.alloc (.cells #[.pointer (some ⟨gd, 0, none⟩)] 159)) 117 #[.pointer (some ⟨gA, a * 7, none⟩)]
    simpa using this
  obtain ⟨W1, hW1⟩ : ∃ W1, (w.alloc (.cells #[.pointer (some ⟨gd, 0, none⟩)] 159)).alloc (.cells #[.pointer (some ⟨gA, a * 7, none⟩)] 117) = W1 := ⟨_, rfl⟩
  have hz1 : W1.heap.size = w.heap.size + 2 := by rw [← hW1]; simp
  rw [hW1] at b1 K3 K4
  have HW1 := Lib.hid hW1
  gi_wp2_with fail
  refine ⟨trivial, ?_⟩
  refine (callsIn_wide.2 (CK.out _)).mono ?_; rintro e w' ⟨rfl, hw'⟩
  clear hW1
  have b2 : Below W1.heap.size W1 w' := by rw [hw']; exact ((Below.refl _ W1).alloc (Nat.le_refl _) _).alloc (by simp) _
  have k1 : Blk w' W1.heap.size 31 #[.slice Ab nb cb] := by rw [hw']; exact (Blk.new W1 _ _).alloc _
  have k2 : Blk w' (W1.heap.size + 1) 3 #[.int .i64 256] := by
    rw [hw']
    have := Blk.new (W1.alloc (.cells #[.slice Ab nb cb] 31)) 3 #[.int .i64 256]
    simpa using this
  have hz2 : w'.heap.size = w.heap.size + 4 := by rw [hw']; simp [hz1]
  rw [hz1] at k1 k2 ⊢
  have b3 := b1.trans (b2.mono b1.size)
  have F1 := Lib.hid (h.chg (Chg.of_new b3 (fun _ => False)) (fun j s => s.elim))
  have Z3 := Lib.hid (K3.older (older_below b2))
  have Z4 := Lib.hid (K4.older (older_below b2))
  have S1 := Lib.hid (hs.below b3)
  have HQ := Lib.hid hq
  have HQB := Lib.hid hqb
  have HX := Lib.hid hx
  have K1 := Lib.hid k1
  have K2 := Lib.hid k2
  have ext : nb ≤ cb := hs.cap
  clear hw' b1 b2 b3 k1 k2 K3 K4 CK HW1 h hs hq hqb hx
  gi_wp2_with fail
  refine range_b (B1 := w.heap.size + 2) (B2 := w.heap.size + 2 + 1) (A := Ab) (n := nb) (c := cb) rfl (by omega) ext K1.out K2.out
    (fun k W => ∃ (q' : Nat → Nat) (m' : Fm), Hid (FmAt q' w W gd gA a v0 v1 v2 T ct ts cs0 k xs (ts.take k) (prN bs k) m') ∧ (q' w.heap.size = 0 ∧ q' (w.heap.size + 1) = 0 ∧ q' (w.heap.size + 2) = 0 ∧ q' (w.heap.size + 3) = 0 ∧ q' (w.heap.size + 4) = 0 ∧ q' (w.heap.size + 5) = 0) ∧
      Hid (Blk W w.heap.size 159 #[.pointer (some ⟨gd, 0, none⟩)]) ∧ Hid (Blk W (w.heap.size + 1) 117 #[.pointer (some ⟨gA, a * 7, none⟩)]) ∧ Hid (Src W Ab nb cb bs) ∧ (∀ b o, Ab = some ⟨b, o, none⟩ → q' b = 0 ∧ b < w.heap.size))
    ?_ ?_
    (fun k => { tmps := #[.pointer (some ⟨gd, 0, none⟩), .pointer (some ⟨gA, a * 7, none⟩), .slice Ab nb cb, .pointer (some ⟨w.heap.size, 0, none⟩), .pointer (some ⟨w.heap.size + 1, 0, none⟩), undef, pc_b Ab nb k, undef, undef, undef, undef, undef, .slice Ab nb cb, .func (.func 119) #[] #[.pointer (some ⟨w.heap.size + 2, 0, none⟩), .pointer (some ⟨w.heap.size + 2 + 1, 0, none⟩)], pc_b Ab nb k, undef, undef, undef, undef, undef, undef, undef, undef, undef, undef, undef, undef, undef, undef, undef, undef, undef, undef, undef, undef, undef, undef, undef, undef, undef, undef, undef, undef, undef, undef, undef, undef, undef, undef, undef, undef, undef, undef, undef, undef, undef, undef, undef, undef, undef, undef, undef, undef, undef, undef, undef, undef, undef, undef, undef, undef, undef, undef, undef, undef, undef, undef, undef, undef, undef, undef, undef, undef, undef, undef, undef, undef, undef, undef, undef, undef], defers := [] }) ?_ ?_ ?_
  · rintro k W W' ⟨q', m', F, Q, z3, z4, S, hb⟩ kc
    rw [hz2] at kc
    exact ⟨q', m', Lib.hid (F.out.chg kc (fun j s _ => by rcases s with rfl | rfl <;> exact ⟨by simp [Q], by omega⟩)), Q, Lib.hid (z3.out.chg kc (by omega)), Lib.hid (z4.out.chg kc (by omega)), Lib.hid (In.src_chg S.out kc (fun _ b o e s => by have := (hb b o e).2; omega)), hb⟩
  · exact ⟨q, m, F1, ⟨HQ.out _ (by omega), HQ.out _ (by omega), HQ.out _ (by omega), HQ.out _ (by omega), HQ.out _ (by omega), HQ.out _ (by omega)⟩, Z3, Z4, S1, HQB.out⟩
  · intro l k W K hK
    gi_wp2
    exact hK
  · rintro l k W ⟨q', m', F, Q, z3, z4, S, hb⟩ hk hz
    clear F1 Z3 Z4 S1 K1 K2
    obtain ⟨i, hi⟩ : ∃ i, k * 256 = i := ⟨_, rfl⟩
    obtain ⟨e, he⟩ : ∃ e, min 256 (nb - i) = e := ⟨_, rfl⟩
    have XK := HX.out k hk
    rw [hi] at XK hk
    rw [he] at XK
    obtain ⟨bb, ob, rfl, hbb, hmap, SP⟩ := src_sub S.out i e (by omega) (by omega)
    have PV : pc_b (some ⟨bb, ob, none⟩) nb k = .slice (some ⟨bb, ob + i, none⟩) e e := by
      unfold pc_b
      rw [hi, he, Nat.mul_one, hmap]
    rw [PV]
    obtain ⟨pg, hpg⟩ : ∃ pg, (bs.drop i).take e = pg := ⟨_, rfl⟩
    have PG : (bs.drop i).take 256 = pg := by rw [← hpg]; rw [List.take_eq_take_iff]; rw [List.length_drop]; omega
    rw [PG] at XK
    rw [hpg] at SP
    have PN : prN bs (k + 1) = prN bs k ++ [(fl (evs pg), fl (ods pg))] := by
      unfold prN
      rw [List.range_succ, List.map_append, List.map_singleton]
      dsimp only
      rw [hi, PG]
    have PB := Lib.hid (part_b _ e e pg W SP.toBytes (by omega))
    have SPH := Lib.hid SP
    have hzW : w.heap.size + 6 ≤ W.heap.size := by omega
    have HPL : (prN bs k).length ≤ 100 := by unfold prN; rw [List.length_map, List.length_range]; omega
    generalize fl (evs pg) = px at *
    generalize fl (ods pg) = py at *
    generalize prN bs k = ps at *
    gi_wp2_with fail
    refine ⟨trivial, ?_⟩
    refine (CallsIn.inRound l (callsIn_wide.2 PB.out)).mono ?_; rintro e1 w3 ⟨rfl, b3⟩
    have F3 := Lib.hid (F.out.chg (Chg.of_new b3 (fun _ => False)) (fun j s => s.elim))
    have y3 := Lib.hid (z3.out.older (older_below b3))
    have y4 := Lib.hid (z4.out.older (older_below b3))
    have S3 := Lib.hid (S.out.below b3)
    have SP3 := Lib.hid (SPH.out.below b3)
    have C3 := Lib.hid (show Chg W w3 (fun _ => False) from Chg.of_new b3 _)
    have hz3 : w.heap.size + 6 ≤ w3.heap.size := Nat.le_trans hzW b3.size
    clear b3 F z3 z4 S SP SPH PB hz
    have c4 := (y4.out.cell 0).trans (show _ = some (.pointer (some ⟨gA, a * 7, none⟩)) from rfl)
    have p4 : w3.cell? ⟨gA, a * 7 + 6, none⟩ = some (.slice m'.Pt ps.length m'.cp) := by
      rw [F3.out.fl.cell, Array.getElem?_setIfInBounds, if_neg (by omega), Array.getElem?_setIfInBounds, if_pos rfl, if_pos (by omega)]
    obtain ⟨i0, z0, inf⟩ := cpx_info
    have INF := Lib.hid inf
    clear inf
    have hpl : ps.length ≤ 100 := HPL
    gi_wp2
    have hS := Lib.hid (show w3.drew.cell? ⟨w.heap.size + 1, 0, none⟩ = some (.pointer (some ⟨gA, a * 7, none⟩)) ∧ w3.drew.cell? ⟨gA, a * 7 + 6, none⟩ = some (.slice m'.Pt ps.length m'.cp) from ⟨c4, p4⟩)
    refine wpIn_head_calm (S := fun w'' => Hid (w''.cell? ⟨w.heap.size + 1, 0, none⟩ = some (.pointer (some ⟨gA, a * 7, none⟩)) ∧ w''.cell? ⟨gA, a * 7 + 6, none⟩ = some (.slice m'.Pt ps.length m'.cp))) 9 (by kernel_rfl) (by kernel_rfl) rfl rfl (by kernel_rfl) ?_
    simp only [List.take_succ_cons, List.take_zero, List.drop_succ_cons, List.drop_zero]
    refine held_take (i := 0) (d := (some 20)) (v := ?_) rfl rfl (by kernel_rfl) (by kernel_rfl) (by kernel_rfl) (fun _ _ _ h => h) (by rfl) ?_ hS ?_
    rotate_left
    · intro w'' hSw; obtain ⟨hc1, hc2⟩ := hSw.out; clear hSw; go_simp <;> with_reducible rfl
    simp only [Act.put, List.setIfInBounds_toArray, List.set_cons_zero, List.set_cons_succ]
    refine held_take (i := 1) (d := (some 21)) (v := ?_) rfl rfl (by kernel_rfl) (by kernel_rfl) (by kernel_rfl) (fun _ _ _ h => h) (by rfl) ?_ hS ?_
    rotate_left
    · intro w'' hSw; obtain ⟨hc1, hc2⟩ := hSw.out; clear hSw; go_simp <;> with_reducible rfl
    simp only [Act.put, List.setIfInBounds_toArray, List.set_cons_zero, List.set_cons_succ]
    refine held_take (i := 2) (d := (some 22)) (v := ?_) rfl rfl (by kernel_rfl) (by kernel_rfl) (by kernel_rfl) (fun _ _ _ h => h) (by rfl) ?_ hS ?_
    rotate_left
    · intro w' hSw; (try dsimp only at hSw); go_simp <;> with_reducible rfl
    simp only [Act.put, List.setIfInBounds_toArray, List.set_cons_zero, List.set_cons_succ]
    refine held_take (i := 3) (d := (some 23)) (v := ?_) rfl rfl (by kernel_rfl) (by kernel_rfl) (by kernel_rfl) (fun _ _ _ h => h) (by rfl) ?_ hS ?_
    rotate_left
    · intro w' hSw; (try dsimp only at hSw); go_simp <;> with_reducible rfl
    simp only [Act.put, List.setIfInBounds_toArray, List.set_cons_zero, List.set_cons_succ]
    refine held_take (i := 4) (d := (some 24)) (v := ?_) rfl rfl (by kernel_rfl) (by kernel_rfl) (by kernel_rfl) (fun _ _ _ h => h) (by rfl) ?_ hS ?_
    rotate_left
    · intro w' hSw; (try dsimp only at hSw); go_simp <;> with_reducible rfl
    simp only [Act.put, List.setIfInBounds_toArray, List.set_cons_zero, List.set_cons_succ]
    refine held_take (i := 5) (d := (some 25)) (v := ?_) rfl rfl (by kernel_rfl) (by kernel_rfl) (by kernel_rfl) (fun _ _ _ h => h) (by rfl) ?_ hS ?_
    rotate_left
    · intro w'' hSw; obtain ⟨hc1, hc2⟩ := hSw.out; clear hSw; go_simp <;> with_reducible rfl
    simp only [Act.put, List.setIfInBounds_toArray, List.set_cons_zero, List.set_cons_succ]
    refine held_take (i := 6) (d := (some 26)) (v := ?_) rfl rfl (by kernel_rfl) (by kernel_rfl) (by kernel_rfl) (fun _ _ _ h => h) (by rfl) ?_ hS ?_
    rotate_left
    · intro w' hSw; (try dsimp only at hSw); go_simp <;> with_reducible rfl
    simp only [Act.put, List.setIfInBounds_toArray, List.set_cons_zero, List.set_cons_succ]
    refine held_one (i := 7) (by kernel_rfl) rfl (by rfl) ?_
    go_simp
    have hS : Hid ((w3.drew.alloc (.cells #[.complex .f64 px py] 61)).cell? ⟨w.heap.size + 1, 0, none⟩ = some (.pointer (some ⟨gA, a * 7, none⟩)) ∧ (w3.drew.alloc (.cells #[.complex .f64 px py] 61)).cell? ⟨gA, a * 7 + 6, none⟩ = some (.slice m'.Pt ps.length m'.cp)) := Lib.hid (by
      have hF := F3.out.chg (Chg.of_new ((Below.refl w3.heap.size w3).drew.alloc (Nat.le_refl _) (.cells #[.complex .f64 px py] 61)) (fun _ => False)) (fun j s => s.elim)
      refine ⟨(y4.out.older (older_below ((Below.refl w3.heap.size w3).drew.alloc (Nat.le_refl _) (.cells #[.complex .f64 px py] 61)))).cell 0, ?_⟩
      rw [hF.fl.cell, Array.getElem?_setIfInBounds, if_neg (by omega), Array.getElem?_setIfInBounds, if_pos rfl, if_pos (by omega)])
    refine ⟨hS, ?_⟩
    have RO := Lib.hid (F3.out.pt.new ((Below.refl w3.heap.size w3).drew.alloc (Nat.le_refl _) (.cells #[.complex .f64 px py] 61))).own
    (try simp only [Act.put, List.setIfInBounds_toArray, List.set_cons_zero, List.set_cons_succ])
    refine held_one (i := 8) (by kernel_rfl) rfl (by rfl) ?_
    refine wp_append_d (d := some 28) rfl (.tmp 25) (.tmp 27) 25 rfl 0 61 i0 z0 1 16 Tryz.underlying25 INF.out.1 INF.out.2.1 INF.out.2.2.2.1 INF.out.2.2.2.2 INF.out.2.2.1 (by decide) (.slice m'.Pt ps.length m'.cp) ps.length (In.vp ps) rfl RO.out ⟨w3.heap.size, 0, none⟩ 1 1 [.complex .f64 px py] rfl rfl (World.news_of_block (Blk.new w3.drew 61 _)) (by intro u hu; rw [List.mem_singleton.1 hu]; rfl) (by decide) (by unfold maxLen; omega) (by omega) (Nat.zero_le _) ?_
    intro g6 cap6 w6 o6 k6 at6 l6
    have O6 := Lib.hid (show RowW w6 61 1 (some ⟨g6, 0, none⟩) (ps.length + 1) cap6 (In.vp (ps ++ [(px, py)])) from ⟨by simpa [In.vp] using o6⟩)
    have AT6 := Lib.hid (at_of (w := w3) (by simp) at6)
    have K6 := Lib.hid (chg_of_grown ((Below.refl w3.heap.size w3).drew.alloc (Nat.le_refl _) (.cells #[.complex .f64 px py] 61)) k6)
    have hS : Hid (w6.cell? ⟨w.heap.size + 1, 0, none⟩ = some (.pointer (some ⟨gA, a * 7, none⟩)) ∧ w6.cell? ⟨gA, a * 7 + 6, none⟩ = some (.slice m'.Pt ps.length m'.cp)) := Lib.hid (by
      refine ⟨(y4.out.chg K6.out (fun s => by have := (F3.out.qp _ s).1; have := Q.2.1; omega)).cell 0, ?_⟩
      rw [(F3.out.fl.chg K6.out (fun s => by have := (F3.out.qp _ s).1; have := F3.out.qa; omega)).cell, Array.getElem?_setIfInBounds, if_neg (by omega), Array.getElem?_setIfInBounds, if_pos rfl, if_pos (by omega)])
    refine ⟨hS, ?_⟩
    clear o6 k6 at6 l6
    (try simp only [Act.put, List.setIfInBounds_toArray, List.set_cons_zero, List.set_cons_succ])
    refine wpAnyH_done (by kernel_rfl) ?_ _
    show wpList _ _ _ _ _ _
    have f6 : w6.frozen? ⟨gA, a * 7 + 6, none⟩ = false := (F3.out.fl.chg K6.out (fun s => by have := (F3.out.qp _ s).1; have := F3.out.qa; omega)).frozen _
    have p6 := hS.out.2
    have FP := Lib.hid (F3.out.part O6.out (fun b e => by rw [inB_some e]; exact AT6.out) K6.out (fun e => AT6.out.elim (fun h6 => by have e2 := inB_some e; rw [← e2] at h6; have := (F3.out.qp _ h6).1; have := F3.out.qa; omega) (fun h6 => by have e2 := inB_some e; have := F3.out.fl.lt; omega)))
    clear hS
    have q57 := fun b (hb : b < w3.heap.size) => (show (fun j => if w3.heap.size ≤ j then 5 else q' j) b = q' b from by show (if _ then _ else _) = _; rw [if_neg (by omega)])
    obtain ⟨q5, hq5⟩ : ∃ q5, (fun j => if w3.heap.size ≤ j then 5 else q' j) = q5 := ⟨_, rfl⟩
    rw [hq5] at FP q57
    obtain ⟨m5, hm5⟩ : ∃ m5 : Fm, ({ m' with Pt := some ⟨g6, 0, none⟩, cp := cap6 } : Fm) = m5 := ⟨_, rfl⟩
    rw [hm5] at FP
    have KS7 := (K6.out.weak (S' := fun j => j = gA ∨ inB m'.Pt j) (fun _ s => .inr s)).trans ((Chg.set w6 (a * 7 + 6) (.slice (some ⟨g6, 0, none⟩) (ps.length + 1) cap6) (g := gA) (S := fun j => j = gA) rfl).weak (fun _ s => .inl s))
    have hL : ∀ j, (j = gA ∨ inB m'.Pt j) → q' j = 2 ∨ q' j = 5 := fun j s => s.elim (fun e => .inl (by rw [e]; exact F3.out.qa)) (fun e => .inr (F3.out.qp j e).1)
    have Y3 := Lib.hid (y3.out.chg KS7 (fun s => by have := hL _ s; have := Q.1; omega))
    have Y4 := Lib.hid (y4.out.chg KS7 (fun s => by have := hL _ s; have := Q.2.1; omega))
    have SB := Lib.hid (In.src_chg S3.out KS7 (fun _ b o e s => by have := hL _ s; have := (hb b o e).1; omega))
    have SP := Lib.hid (In.src_chg SP3.out KS7 (fun _ b o e s => by cases e; have := hL _ s; have := (hb bb ob rfl).1; omega))
    have C7 := Lib.hid (C3.out.weak (S' := fun j => j = gA ∨ inB m'.Pt j) (fun _ s => s.elim) |>.trans KS7)
    have hz7 : w3.heap.size ≤ (w6.setCell ⟨gA, a * 7 + 6, none⟩ (.slice (some ⟨g6, 0, none⟩) (ps.length + 1) cap6)).heap.size := KS7.size
    clear KS7 y3 y4 S3 SP3 hq5 hm5 c4 p4 O6 AT6
    go_wp2
    generalize (w6.setCell ⟨gA, a * 7 + 6, none⟩ (.slice (some ⟨g6, 0, none⟩) (ps.length + 1) cap6)) = w7 at *
    have hkt : k < ts.length := by have := HNP.out; omega
    have BL : (ts.take k).length = k := by rw [List.length_take]; omega
    obtain ⟨v, hv⟩ : ∃ v, ts[k]? = some v := ⟨_, List.getElem?_eq_getElem hkt⟩
    have c5 := (Y4.out.cell 0).trans (show _ = some (.pointer (some ⟨gA, a * 7, none⟩)) from rfl)
    have d5 := (Y3.out.cell 0).trans (show _ = some (.pointer (some ⟨gd, 0, none⟩)) from rfl)
    have p5 : w7.cell? ⟨gA, a * 7 + 5, none⟩ = some (.slice m5.Bk k m5.cb) := by
      rw [FP.out.fl.cell, Array.getElem?_setIfInBounds, if_pos rfl, if_pos (by simp; omega), BL]
    obtain ⟨x, hx⟩ : ∃ x, pg ++ List.replicate (256 - e) 0 = x := ⟨_, rfl⟩
    have LX : x.length = 256 := by rw [← hx, ← hpg]; simp; omega
    rw [hx] at XK
    have FA := Lib.hid (filled_any ⟨bb, ob + i, none⟩ e e pg w7.drew (SP.out.drewN 1) (by omega) (by omega))
    obtain ⟨i1, z1, inf1⟩ := int_info3
    have IN1 := Lib.hid inf1
    clear inf1
    have hS := Lib.hid (show w7.drew.cell? ⟨w.heap.size + 1, 0, none⟩ = some (.pointer (some ⟨gA, a * 7, none⟩)) ∧ w7.drew.cell? ⟨w.heap.size, 0, none⟩ = some (.pointer (some ⟨gd, 0, none⟩)) ∧ w7.drew.cell? ⟨gA, a * 7 + 5, none⟩ = some (.slice m5.Bk k m5.cb) from ⟨c5, d5, p5⟩)
    refine wpIn_head_calm (S := fun w'' => Hid (w''.cell? ⟨w.heap.size + 1, 0, none⟩ = some (.pointer (some ⟨gA, a * 7, none⟩)) ∧ w''.cell? ⟨w.heap.size, 0, none⟩ = some (.pointer (some ⟨gd, 0, none⟩)) ∧ w''.cell? ⟨gA, a * 7 + 5, none⟩ = some (.slice m5.Bk k m5.cb))) 12 (by kernel_rfl) (by kernel_rfl) rfl rfl (by kernel_rfl) ?_
    simp only [List.take_succ_cons, List.take_zero, List.drop_succ_cons, List.drop_zero]
    refine held_take (i := 0) (d := (some 32)) (v := ?_) rfl rfl (by kernel_rfl) (by kernel_rfl) (by kernel_rfl) (fun _ _ _ h => h) (by rfl) ?_ hS ?_
    rotate_left
    · intro w'' hSw; obtain ⟨hc1, hc2, hc3⟩ := hSw.out; clear hSw; go_simp <;> with_reducible rfl
    simp only [Act.put, List.setIfInBounds_toArray, List.set_cons_zero, List.set_cons_succ]
    refine held_take (i := 1) (d := (some 33)) (v := ?_) rfl rfl (by kernel_rfl) (by kernel_rfl) (by kernel_rfl) (fun _ _ _ h => h) (by rfl) ?_ hS ?_
    rotate_left
    · intro w'' hSw; obtain ⟨hc1, hc2, hc3⟩ := hSw.out; clear hSw; go_simp <;> with_reducible rfl
    simp only [Act.put, List.setIfInBounds_toArray, List.set_cons_zero, List.set_cons_succ]
    refine held_take (i := 2) (d := (some 34)) (v := ?_) rfl rfl (by kernel_rfl) (by kernel_rfl) (by kernel_rfl) (fun _ _ _ h => h) (by rfl) ?_ hS ?_
    rotate_left
    · intro w' hSw; (try dsimp only at hSw); go_simp <;> with_reducible rfl
    simp only [Act.put, List.setIfInBounds_toArray, List.set_cons_zero, List.set_cons_succ]
    refine held_take (i := 3) (d := (some 35)) (v := ?_) rfl rfl (by kernel_rfl) (by kernel_rfl) (by kernel_rfl) (fun _ _ _ h => h) (by rfl) ?_ hS ?_
    rotate_left
    · intro w' hSw; (try dsimp only at hSw); go_simp <;> with_reducible rfl
    simp only [Act.put, List.setIfInBounds_toArray, List.set_cons_zero, List.set_cons_succ]
    refine held_take (i := 4) (d := (some 36)) (v := ?_) rfl rfl (by kernel_rfl) (by kernel_rfl) (by kernel_rfl) (fun _ _ _ h => h) (by rfl) ?_ hS ?_
    rotate_left
    · intro w' hSw; (try dsimp only at hSw); go_simp <;> with_reducible rfl
    simp only [Act.put, List.setIfInBounds_toArray, List.set_cons_zero, List.set_cons_succ]
    refine held_take (i := 5) (d := (some 37)) (v := ?_) rfl rfl (by kernel_rfl) (by kernel_rfl) (by kernel_rfl) (fun _ _ _ h => h) (by rfl) ?_ hS ?_
    rotate_left
    · intro w'' hSw; obtain ⟨hc1, hc2, hc3⟩ := hSw.out; clear hSw; go_simp <;> with_reducible rfl
    simp only [Act.put, List.setIfInBounds_toArray, List.set_cons_zero, List.set_cons_succ]
    refine held_take (i := 6) (d := (some 38)) (v := ?_) rfl rfl (by kernel_rfl) (by kernel_rfl) (by kernel_rfl) (fun _ _ _ h => h) (by rfl) ?_ hS ?_
    rotate_left
    · intro w'' hSw; obtain ⟨hc1, hc2, hc3⟩ := hSw.out; clear hSw; go_simp <;> with_reducible rfl
    simp only [Act.put, List.setIfInBounds_toArray, List.set_cons_zero, List.set_cons_succ]
    refine held_take (i := 7) (d := (some 39)) (v := ?_) rfl rfl (by kernel_rfl) (by kernel_rfl) (by kernel_rfl) (fun _ _ _ h => h) (by rfl) ?_ hS ?_
    rotate_left
    · intro w' hSw; (try dsimp only at hSw); go_simp <;> with_reducible rfl
    simp only [Act.put, List.setIfInBounds_toArray, List.set_cons_zero, List.set_cons_succ]
    refine held_one (i := 8) (by kernel_rfl) rfl (by rfl) ?_
    go_simp
    rw [hx] at FA
    refine FA.out.mono ?_; rintro e2 w8 ⟨gf, cf, rfl, o8, b8⟩
    have B8 : Below w7.heap.size w7 w8 := (Below.refl w7.heap.size w7).drew.trans b8
    have F8 := Lib.hid ((FP.out.relab (q' := fun j => if w7.heap.size ≤ j then 6 else q5 j) (fun b hb => by show (if _ then _ else _) = _; rw [if_neg (by omega)])).chg (Chg.of_new B8 (fun _ => False)) (fun j s => s.elim))
    have O8 := Lib.hid o8
    have hS : Hid (w8.cell? ⟨w.heap.size + 1, 0, none⟩ = some (.pointer (some ⟨gA, a * 7, none⟩)) ∧ w8.cell? ⟨w.heap.size, 0, none⟩ = some (.pointer (some ⟨gd, 0, none⟩)) ∧ w8.cell? ⟨gA, a * 7 + 5, none⟩ = some (.slice m5.Bk k m5.cb)) := Lib.hid ⟨(Y4.out.older (older_below B8)).cell 0, (Y3.out.older (older_below B8)).cell 0, by rw [F8.out.fl.cell, Array.getElem?_setIfInBounds, if_pos rfl, if_pos (by simp; omega), BL]⟩
    refine ⟨hS, ?_⟩
    have Z8 := Lib.hid B8
    clear o8 b8 B8
    (try simp only [Act.put, List.setIfInBounds_toArray, List.set_cons_zero, List.set_cons_succ])
    refine held_one (i := 9) (by kernel_rfl) rfl (by rfl) ?_
    go_simp
    refine (lay_n (tv_length m5.pA m5.pc xs k) hv F8.out.dr F8.out.tk F8.out.tx (fun s => by have := (F8.out.qx _ s).1; have := F8.out.qd; omega) (fun b s => ⟨fun e => by have := (F8.out.qt b s).1; have := F8.out.qd; rw [e] at *; omega, fun s2 => by have := (F8.out.qt b s).1; have := (F8.out.qx b s2).1; omega⟩) hts (some ⟨gf, 0, none⟩) 256 cf).mono ?_; rintro e3 w9 ⟨rfl, X9, cx9, hd9, hr9, hn9, k9⟩
    have hr9' : RowW w9 31 1 X9 (k + 1) cx9 (tv m5.pA m5.pc xs k ++ [.slice (some ⟨gf, 0, none⟩) x.length cf]) := by rw [LX]; exact hr9
    have F9 := Lib.hid (F8.out.lay (At := some ⟨gf, 0, none⟩) (c := cf) (x := x) (by rw [LX]; exact O8.out.src) XK (fun b o e => by
      cases e
      have h1 : w7.heap.size ≤ gf := O8.out.base
      exact ⟨by show (if _ then _ else _) = _; rw [if_pos h1], by have := FP.out.sz; omega, O8.out.lt⟩) hd9 hr9' hn9 k9)
    have hL9 : ∀ j, (j = gd ∨ inB m5.X j) → q5 j = 1 ∨ q5 j = 3 := fun j s => s.elim (fun e => .inl (by rw [e]; exact FP.out.qd)) (fun e => .inr (FP.out.qx j e).1)
    have y8 := Lib.hid ((Y4.out.older (older_below Z8.out)).chg k9 (fun s => by have := hL9 _ s; have := q57 _ (show w.heap.size + 1 < w3.heap.size by omega); have := Q.2.1; omega))
    have x8 := Lib.hid ((Y3.out.older (older_below Z8.out)).chg k9 (fun s => by have := hL9 _ s; have := q57 _ (show w.heap.size < w3.heap.size by omega); have := Q.1; omega))
    have hS : Hid (w9.cell? ⟨w.heap.size + 1, 0, none⟩ = some (.pointer (some ⟨gA, a * 7, none⟩)) ∧ w9.cell? ⟨w.heap.size, 0, none⟩ = some (.pointer (some ⟨gd, 0, none⟩)) ∧ w9.cell? ⟨gA, a * 7 + 5, none⟩ = some (.slice m5.Bk k m5.cb)) := Lib.hid ⟨y8.out.cell 0, x8.out.cell 0, by rw [F9.out.fl.cell, Array.getElem?_setIfInBounds, if_pos rfl, if_pos (by simp; omega), BL]⟩
    refine ⟨hS, ?_⟩
    have K9 := Lib.hid k9
    clear hd9 hr9 hr9' hn9 k9
    have Q9 := Lib.hid (show ∀ b, b < w7.heap.size → (fun j => if w8.heap.size ≤ j then 3 else (fun j => if w7.heap.size ≤ j then 6 else q5 j) j) b = q5 b from fun b hb => by
      have := Z8.out.size
      show (if _ then _ else (if _ then _ else _)) = _
      rw [if_neg (by omega), if_neg (by omega)])
    generalize (fun j => if w8.heap.size ≤ j then 3 else (fun j => if w7.heap.size ≤ j then 6 else q5 j) j) = q9 at *
    (try simp only [Act.put, List.setIfInBounds_toArray, List.set_cons_zero, List.set_cons_succ])
    refine held_one (i := 10) (by kernel_rfl) rfl (by rfl) ?_
    go_simp
    have BA := Lib.hid ((Below.refl w9.heap.size w9).alloc (Nat.le_refl _) (.cells #[.int .i64 v] 3))
    have hS : Hid ((w9.alloc (.cells #[.int .i64 v] 3)).cell? ⟨w.heap.size + 1, 0, none⟩ = some (.pointer (some ⟨gA, a * 7, none⟩)) ∧ (w9.alloc (.cells #[.int .i64 v] 3)).cell? ⟨w.heap.size, 0, none⟩ = some (.pointer (some ⟨gd, 0, none⟩)) ∧ (w9.alloc (.cells #[.int .i64 v] 3)).cell? ⟨gA, a * 7 + 5, none⟩ = some (.slice m5.Bk k m5.cb)) := Lib.hid (by
      have hF := F9.out.chg (Chg.of_new BA.out (fun _ => False)) (fun j s => s.elim)
      exact ⟨(y8.out.older (older_below BA.out)).cell 0, (x8.out.older (older_below BA.out)).cell 0, by rw [hF.fl.cell, Array.getElem?_setIfInBounds, if_pos rfl, if_pos (by simp; omega), BL]⟩)
    refine ⟨hS, ?_⟩
    have RO := Lib.hid (show (w9.alloc (.cells #[.int .i64 v] 3)).ownsRow 0 3 1 (.slice m5.Bk k m5.cb) k (In.vi (ts.take k)) from by
      have := (F9.out.bk.new BA.out).own
      rw [BL] at this
      exact this)
    (try simp only [Act.put, List.setIfInBounds_toArray, List.set_cons_zero, List.set_cons_succ])
    refine held_one (i := 11) (by kernel_rfl) rfl (by rfl) ?_
    refine wp_append_d (d := some 43) rfl (.tmp 37) (.tmp 42) 24 rfl 0 3 i1 z1 1 8 Tryz.underlying24 IN1.out.1 IN1.out.2.1 IN1.out.2.2.2.1 IN1.out.2.2.2.2 IN1.out.2.2.1 (by decide) (.slice m5.Bk k m5.cb) k (In.vi (ts.take k)) rfl RO.out ⟨w9.heap.size, 0, none⟩ 1 1 [.int .i64 v] rfl rfl (World.news_of_block (Blk.new w9 3 _)) (by intro u hu; rw [List.mem_singleton.1 hu]; rfl) (by decide) (by unfold maxLen; omega) (by omega) (Nat.zero_le _) ?_
    intro g7 cap7 w10 o7 k7 at7 l7
    have O7 := Lib.hid (show RowW w10 3 1 (some ⟨g7, 0, none⟩) ((ts.take k).length + 1) cap7 (In.vi (ts.take k ++ [v])) from ⟨by rw [BL]; simpa [In.vi] using o7⟩)
    have AT7 := Lib.hid (at_of (w := w9) (by simp) at7)
    have K7 := Lib.hid (chg_of_grown BA.out k7)
    have hLB : ∀ j, inB m5.Bk j → q9 j = 4 := fun j s => (F9.out.qb j s).1
    have z9 : ∀ b, q' b = 0 → b < w3.heap.size → q9 b = 0 := fun b h1 h2 => by rw [Q9.out b (by have := Z8.out.size; omega), q57 b h2, h1]
    have hS : Hid (w10.cell? ⟨w.heap.size + 1, 0, none⟩ = some (.pointer (some ⟨gA, a * 7, none⟩)) ∧ w10.cell? ⟨w.heap.size, 0, none⟩ = some (.pointer (some ⟨gd, 0, none⟩)) ∧ w10.cell? ⟨gA, a * 7 + 5, none⟩ = some (.slice m5.Bk k m5.cb)) := Lib.hid (by
      refine ⟨(y8.out.chg K7.out (fun s => by have := hLB _ s; have := z9 _ Q.2.1 (by omega); omega)).cell 0, (x8.out.chg K7.out (fun s => by have := hLB _ s; have := z9 _ Q.1 (by omega); omega)).cell 0, ?_⟩
      rw [(F9.out.fl.chg K7.out (fun s => by have := hLB _ s; have := F9.out.qa; omega)).cell, Array.getElem?_setIfInBounds, if_pos rfl, if_pos (by simp; omega), BL])
    refine ⟨hS, ?_⟩
    clear o7 k7 at7 l7
    (try simp only [Act.put, List.setIfInBounds_toArray, List.set_cons_zero, List.set_cons_succ])
    refine wpAnyH_done (by kernel_rfl) ?_ _
    show wpList _ _ _ _ _ _
    have f7 : w10.frozen? ⟨gA, a * 7 + 5, none⟩ = false := (F9.out.fl.chg K7.out (fun s => by have := hLB _ s; have := F9.out.qa; omega)).frozen _
    have p7 := hS.out.2.2
    have F11 := Lib.hid (F9.out.block O7.out (fun b e => by rw [inB_some e]; exact AT7.out) K7.out (fun e => AT7.out.elim (fun h6 => by have e2 := inB_some e; rw [← e2] at h6; have := hLB _ h6; have := F9.out.qa; omega) (fun h6 => by have e2 := inB_some e; have := F9.out.fl.lt; omega)))
    clear hS
    rw [BL] at F11
    have TKS : ts.take k ++ [v] = ts.take (k + 1) := by
      obtain ⟨h1, h2⟩ := List.getElem?_eq_some_iff.1 hv
      rw [← h2, List.take_succ_eq_append_getElem h1]
    rw [TKS] at F11
    have k11 : Chg w9 (w10.setCell ⟨gA, a * 7 + 5, none⟩ (.slice (some ⟨g7, 0, none⟩) (k + 1) cap7)) (fun j => j = gA ∨ inB m5.Bk j) := (K7.out.weak (fun _ s => .inr s)).trans ((Chg.set w10 (a * 7 + 5) _ (g := gA) (S := fun j => j = gA) rfl).weak (fun _ s => .inl s))
    have hL11 : ∀ j, (j = gA ∨ inB m5.Bk j) → q9 j = 2 ∨ q9 j = 4 := fun j s => s.elim (fun e => .inl (by rw [e]; exact F9.out.qa)) (fun e => .inr (hLB j e))
    have x11 := Lib.hid (x8.out.chg k11 (fun s => by have := hL11 _ s; have := z9 _ Q.1 (by omega); omega))
    have y11 := Lib.hid (y8.out.chg k11 (fun s => by have := hL11 _ s; have := z9 _ Q.2.1 (by omega); omega))
    have hbq := hb bb ob rfl
    have hs1 := Z8.out.size
    have hs2 := K9.out.size
    have n5 : ∀ b, q' b = 0 → b < w3.heap.size → q5 b = 0 := fun b h1 h2 => by rw [q57 b h2, h1]
    have n11 : ∀ b, q' b = 0 → b < w3.heap.size → (fun j => if w9.heap.size ≤ j then 4 else q9 j) b = 0 := fun b h1 h2 => by
      show (if _ then _ else _) = _
      rw [if_neg (by omega)]
      exact z9 b h1 h2
    obtain ⟨Q0, Q1, Q2, Q3, Q4, Q5⟩ := Q
    have far : ∀ (u : Nat → Nat), (∀ b, q' b = 0 → b < w3.heap.size → u b = 0) → ∀ j, u j ≠ 0 → ¬ j = w.heap.size + 2 ∧ ¬ j = w.heap.size + 2 + 1 ∧ ¬ j = w.heap.size + 4 ∧ ¬ j = w.heap.size + 4 + 1 := fun u hu j hj =>
      ⟨fun e => hj (by rw [e]; exact hu _ Q2 (by omega)), fun e => hj (by rw [e]; exact hu _ Q3 (by omega)), fun e => hj (by rw [e]; exact hu _ Q4 (by omega)), fun e => hj (by rw [e]; exact hu _ Q5 (by omega))⟩
    have CH := Lib.hid ((((C7.out.weak (fun j s => far q' (fun _ h _ => h) j (by have := hL j s; omega))).trans (Chg.of_new Z8.out _)).trans (K9.out.weak (fun j s => far q5 n5 j (by have := hL9 j s; omega)))).trans (k11.weak (fun j s => far q9 z9 j (by have := hL11 j s; omega))))
    have SB9 := In.src_chg (SB.out.below Z8.out) K9.out (fun _ b o e s => by cases e; have := hL9 _ s; have := n5 _ hbq.1 (by omega); omega)
    have SB11 := Lib.hid (In.src_chg SB9 k11 (fun _ b o e s => by cases e; have := hL11 _ s; have := z9 _ hbq.1 (by omega); omega))
    have N0 := Lib.hid (And.intro (n11 _ Q0 (by omega)) (And.intro (n11 _ Q1 (by omega)) (And.intro (n11 _ Q2 (by omega)) (And.intro (n11 _ Q3 (by omega)) (And.intro (n11 _ Q4 (by omega)) (n11 _ Q5 (by omega)))))))
    have NB := Lib.hid (n11 _ hbq.1 (by omega))
    clear k11 SB9 far n5 n11 hL11 hL9 hL
    go_wp2
    refine ⟨CH.out, _, ⟨_, F11⟩, ?_⟩
    first
      | exact ⟨N0.out, NB.out⟩
      | exact ⟨N0.out, x11, y11, SB11, NB.out⟩
  · rintro D W hD ⟨q', m', F, Q, z3, z4, S, hb⟩ hdef
    have hnp2 : (nb + (256 - 1)) / 256 = np := by have := HNP.out; omega
    rw [hnp2] at F
    clear hnp2
    have BL : (ts.take np).length = np := by rw [List.length_take]; omega
    have PL : (prN bs np).length = np := by unfold prN; rw [List.length_map, List.length_range]
    have F6 := F.out
    rw [C0.out] at F6
    have RA := F6.file ha
    rw [BL, PL] at RA
    have PK := In.packFile_any L[a].f.ver L[a].f.mtime L[a].f.len m'.Bk m'.cb (ts.take np) m'.Pt m'.cp (prN bs np) W (row_g F6.bk) (row_g F6.pt)
    rw [← HF.out.1, HF.out.2.2, BL, PL] at PK
    have hkD := Lib.hid hdef
    have hkD0 := Lib.hid hdef
    have QD := Lib.hid (show q' D = 0 from by rw [hD, hz2]; exact Q.2.2.2.2.1)
    have c4 := (z4.out.cell 0).trans (show _ = some (.pointer (some ⟨gA, a * 7, none⟩)) from rfl)
    have r0 : W.cell? ⟨gA, a * 7 + 2, none⟩ = some (.int .i64 L[a].f.ver) := RA 0 _ rfl
    have r1 : W.cell? ⟨gA, a * 7 + 2 + 1, none⟩ = some (.int .i64 L[a].f.mtime) := RA 1 _ rfl
    have r2 : W.cell? ⟨gA, a * 7 + 2 + 2, none⟩ = some (.int .i64 L[a].f.len) := RA 2 _ rfl
    have r3 : W.cell? ⟨gA, a * 7 + 2 + 3, none⟩ = some (.slice m'.Bk np m'.cb) := RA 3 _ rfl
    have r4 : W.cell? ⟨gA, a * 7 + 2 + 4, none⟩ = some (.slice m'.Pt np m'.cp) := RA 4 _ rfl
    replace PK := Lib.hid PK
    have BLH := Lib.hid BL
    have PLH := Lib.hid PL
    clear BL PL
    have FW := Lib.hid (show w.heap.size ≤ W.heap.size from F.out.sz)
    have LW := Lib.hid (show w.heap.size + 2 ≤ W.heap.size from by have := z4.out.lt; omega)
    clear F1 Z3 Z4 S1 HX hdef F6 RA
    gi_wp2_with fail
    refine ⟨trivial, ?_⟩
    refine (callsIn_wide.2 PK.out).mono ?_; rintro e W2 ⟨b2, -, hy⟩
    obtain ⟨g2, cg2, rfl, og2⟩ := hy rfl
    have HkD := Lib.hid (Pt.rec_kept hkD.out (Chg.of_new b2 (fun _ => False)) id)
    have F2 := Lib.hid ((F.out.relab (q' := fun j => if j = g2 then 6 else if j < W.heap.size then q' j else 0) (fun b hb => by
      have h1 := og2.base
      show (if _ then _ else (if _ then _ else _)) = _
      rw [if_neg (by omega), if_pos hb])).chg (Chg.of_new b2 (fun _ => False)) (fun j s => s.elim))
    have hg2 := og2.base
    have q2g : (fun j => if j = g2 then 6 else if j < W.heap.size then q' j else 0) g2 = 6 := by show (if _ then _ else _) = _; rw [if_pos rfl]
    have q2o : ∀ b, b < W.heap.size → (fun j => if j = g2 then 6 else if j < W.heap.size then q' j else 0) b = q' b := fun b hb => by show (if _ then _ else (if _ then _ else _)) = _; rw [if_neg (by omega), if_pos hb]
    have q2n : ∀ b, W.heap.size ≤ b → b ≠ g2 → (fun j => if j = g2 then 6 else if j < W.heap.size then q' j else 0) b = 0 := fun b hb hn => by show (if _ then _ else (if _ then _ else _)) = _; rw [if_neg hn, if_neg (by omega)]
    generalize (fun j => if j = g2 then 6 else if j < W.heap.size then q' j else 0) = q2 at F2 q2g q2o q2n
    have Z3 := Lib.hid (z3.out.older (older_below b2))
    have Z4 := Lib.hid (z4.out.older (older_below b2))
    have OG := Lib.hid og2
    have BB2 := Lib.hid b2
    clear hy PK hkD r0 r1 r2 r3 r4 c4 b2 F z3 z4 S og2
    gi_wp2_with fail
    have b3 := (Below.refl W2.heap.size W2).alloc (Nat.le_refl _) (.cells #[.slice (some ⟨g2, 0, none⟩) 256 cg2] 31)
    have Z9 := Blk.new W2 31 #[.slice (some ⟨g2, 0, none⟩) 256 cg2]
    have hz3 : (W2.alloc (.cells #[.slice (some ⟨g2, 0, none⟩) 256 cg2] 31)).heap.size = W2.heap.size + 1 := by simp
    obtain ⟨W3, hW3⟩ : ∃ W3, W3 = W2.alloc (.cells #[.slice (some ⟨g2, 0, none⟩) 256 cg2] 31) := ⟨_, rfl⟩
    rw [← hW3] at b3 Z9 hz3 ⊢
    clear hW3
    have F3 := Lib.hid ((F2.out.chg (Chg.of_new b3 (fun _ => False)) (fun j s => s.elim)).chg ((Chg.refl W3 (fun _ => False)).drewN 1) (fun j s => s.elim))
    have Y3 := Lib.hid ((Z3.out.older (older_below b3)).drewN 1)
    have Y4 := Lib.hid ((Z4.out.older (older_below b3)).drewN 1)
    have OG3 := Lib.hid (OG.out.below b3)
    have KD3 := Lib.hid (Pt.rec_kept HkD.out (Chg.of_new b3 (fun _ => False)) id)
    have Y9 := Lib.hid (Z9.drewN 1)
    have OG2L := Lib.hid (show g2 < W2.heap.size from OG.out.lt)
    obtain ⟨x, hxx⟩ : ∃ x, x = In.sealL (In.filT fF) := ⟨_, rfl⟩
    have XN := Lib.hid (show xs np = x from by rw [hxx]; exact HF.out.2.1)
    rw [← hxx] at OG3
    have LX := Lib.hid (show x.length = 256 from OG3.out.bytes.len)
    clear hxx
    have hw2 : W.heap.size ≤ W2.heap.size := BB2.out.size
    clear b3 Z9 F2 Z3 Z4 OG HkD
    have c4 := (Y4.out.cell 0).trans (show _ = some (.pointer (some ⟨gA, a * 7, none⟩)) from rfl)
    have c3 := (Y3.out.cell 0).trans (show _ = some (.pointer (some ⟨gd, 0, none⟩)) from rfl)
    have c9 := (Y9.out.cell 0).trans (show _ = some (.slice (some ⟨g2, 0, none⟩) 256 cg2) from rfl)
    have LAY := Lib.hid (lay_n (w := W3.drew) (tv_length m'.pA m'.pc xs np) HV.out F3.out.dr F3.out.tk F3.out.tx (fun s => by have := (F3.out.qx _ s).1; have := F3.out.qd; omega) (fun b s => ⟨fun e => by have := (F3.out.qt b s).1; have := F3.out.qd; rw [e] at *; omega, fun s2 => by have := (F3.out.qt b s).1; have := (F3.out.qx b s2).1; omega⟩) hts (some ⟨g2, 0, none⟩) 256 cg2)
    refine wpIn_wide.2 ?_
    refine wp_region_noPanic ?_
    have hS := Lib.hid (show W3.drew.cell? ⟨w.heap.size + 1, 0, none⟩ = some (.pointer (some ⟨gA, a * 7, none⟩)) ∧ W3.drew.cell? ⟨w.heap.size, 0, none⟩ = some (.pointer (some ⟨gd, 0, none⟩)) ∧ W3.drew.cell? ⟨W2.heap.size, 0, none⟩ = some (.slice (some ⟨g2, 0, none⟩) 256 cg2) from ⟨c4, c3, c9⟩)
    refine wp_head_held (S := fun w'' => Hid (w''.cell? ⟨w.heap.size + 1, 0, none⟩ = some (.pointer (some ⟨gA, a * 7, none⟩)) ∧ w''.cell? ⟨w.heap.size, 0, none⟩ = some (.pointer (some ⟨gd, 0, none⟩)) ∧ w''.cell? ⟨W2.heap.size, 0, none⟩ = some (.slice (some ⟨g2, 0, none⟩) 256 cg2))) 4 (by kernel_rfl) rfl rfl (by kernel_rfl) ?_
    simp only [List.take_succ_cons, List.take_zero, List.drop_succ_cons, List.drop_zero]
    refine held_take (i := 0) (d := (some 55)) (v := ?_) rfl rfl (by kernel_rfl) (by kernel_rfl) (by kernel_rfl) (fun _ _ _ h => h) (by rfl) ?_ hS ?_
    rotate_left
    · intro w'' hSw; obtain ⟨hc1, hc2, hc3⟩ := hSw.out; clear hSw; go_simp <;> with_reducible rfl
    simp only [Act.put, List.setIfInBounds_toArray, List.set_cons_zero, List.set_cons_succ]
    refine held_take (i := 1) (d := (some 56)) (v := ?_) rfl rfl (by kernel_rfl) (by kernel_rfl) (by kernel_rfl) (fun _ _ _ h => h) (by rfl) ?_ hS ?_
    rotate_left
    · intro w'' hSw; obtain ⟨hc1, hc2, hc3⟩ := hSw.out; clear hSw; go_simp <;> with_reducible rfl
    simp only [Act.put, List.setIfInBounds_toArray, List.set_cons_zero, List.set_cons_succ]
    refine held_take (i := 2) (d := (some 57)) (v := ?_) rfl rfl (by kernel_rfl) (by kernel_rfl) (by kernel_rfl) (fun _ _ _ h => h) (by rfl) ?_ hS ?_
    rotate_left
    · intro w'' hSw; obtain ⟨hc1, hc2, hc3⟩ := hSw.out; clear hSw; go_simp <;> with_reducible rfl
    simp only [Act.put, List.setIfInBounds_toArray, List.set_cons_zero, List.set_cons_succ]
    refine held_one (i := 3) (by kernel_rfl) rfl (by rfl) ?_
    go_simp
    refine (LAY.out).mono ?_; rintro e3 w9 ⟨rfl, X9, cx9, hd9, hr9, hn9, k9⟩
    have hr9' : RowW w9 31 1 X9 (np + 1) cx9 (tv m'.pA m'.pc xs np ++ [.slice (some ⟨g2, 0, none⟩) x.length cg2]) := by rw [LX.out]; exact hr9
    have F4 := Lib.hid (F3.out.lay (At := some ⟨g2, 0, none⟩) (c := cg2) (x := x) (by rw [LX.out]; exact OG3.out.src.drewN 1) XN.out (fun b o e => by
      cases e
      exact ⟨q2g, by have := FW.out; omega, OG3.out.lt⟩) hd9 hr9' hn9 k9)
    have hL9 : ∀ j, (j = gd ∨ inB m'.X j) → q2 j = 1 ∨ q2 j = 3 := fun j s => s.elim (fun e => .inl (by rw [e]; exact F3.out.qd)) (fun e => .inr (F3.out.qx j e).1)
    have x3 := Lib.hid (Y3.out.chg k9 (fun s => by have := hL9 _ s; have := q2o w.heap.size (by have := LW.out; omega); have := Q.1; omega))
    have x4 := Lib.hid (Y4.out.chg k9 (fun s => by have := hL9 _ s; have := q2o (w.heap.size + 1) (by have := LW.out; omega); have := Q.2.1; omega))
    have x9 := Lib.hid (Y9.out.chg k9 (fun s => by have := hL9 _ s; have := q2n W2.heap.size hw2 (by have := OG2L.out; omega); omega))
    have kd9 := Lib.hid (Pt.rec_kept (show W3.drew.heap[D]? = _ from KD3.out) k9 (fun s => by
      have := hL9 _ s
      have := q2o D (by have := (Array.getElem?_eq_some_iff.1 hkD0.out).1; exact this)
      have := QD.out
      omega))
    have hS : Hid (w9.cell? ⟨w.heap.size + 1, 0, none⟩ = some (.pointer (some ⟨gA, a * 7, none⟩)) ∧ w9.cell? ⟨w.heap.size, 0, none⟩ = some (.pointer (some ⟨gd, 0, none⟩)) ∧ w9.cell? ⟨W2.heap.size, 0, none⟩ = some (.slice (some ⟨g2, 0, none⟩) 256 cg2)) := Lib.hid ⟨x4.out.cell 0, x3.out.cell 0, x9.out.cell 0⟩
    refine ⟨hS, ?_⟩
    have hs9 := k9.size
    clear hd9 hr9 hr9' hn9 k9 hL9
    (try simp only [Act.put, List.setIfInBounds_toArray, List.set_cons_zero, List.set_cons_succ])
    refine wpAnyH_done (by kernel_rfl) ?_ _
    show wpList _ _ _ _ _ _
    have f7 : w9.frozen? ⟨gA, a * 7 + 1, none⟩ = false := F4.out.fl.frozen _
    have p7 : (w9.cell? ⟨gA, a * 7 + 1, none⟩).isSome = true := by
      rw [F4.out.fl.cell]
      simp
      omega
    obtain ⟨u7, p7⟩ := Option.isSome_iff_exists.1 p7
    go_wp2
    refine NoPanic.normal ?_
    have F10 := Lib.hid (F4.out.ino (.int .i64 v))
    have q4b : ∀ b, b < W3.heap.size → (fun j => if (W3.drewN 1).heap.size ≤ j then 3 else q2 j) b = q2 b := fun b hb => by
      show (if _ then _ else _) = _
      rw [if_neg (by show ¬ W3.heap.size ≤ b; omega)]
    generalize (fun j => if (W3.drewN 1).heap.size ≤ j then 3 else q2 j) = q4 at F10 q4b
    have hga := F10.out.qa
    have kset := Chg.set w9 (a * 7 + 1) (.int .i64 v) (g := gA) (S := fun j => j = gA) rfl
    have lb0 : w.heap.size < W3.heap.size := by have := LW.out; omega
    have lb1 : w.heap.size + 1 < W3.heap.size := by have := LW.out; omega
    have lb4 : w.heap.size + 4 < W3.heap.size := by have := (Array.getElem?_eq_some_iff.1 hkD0.out).1; rw [hD, hz2] at this; omega
    have e0 : q4 w.heap.size = 0 := by rw [q4b _ lb0, q2o _ (by have := LW.out; omega)]; exact Q.1
    have e1 : q4 (w.heap.size + 1) = 0 := by rw [q4b _ lb1, q2o _ (by have := LW.out; omega)]; exact Q.2.1
    have e9 : q4 W2.heap.size = 0 := by rw [q4b _ (by omega)]; exact q2n _ hw2 (by have := OG2L.out; omega)
    have e4 : q4 (w.heap.size + 4) = 0 := by rw [q4b _ lb4, q2o _ (by have := (Array.getElem?_eq_some_iff.1 hkD0.out).1; rw [hD, hz2] at this; exact this)]; exact Q.2.2.2.2.1
    have X3 := Lib.hid (x3.out.chg kset (fun s => by have s' : w.heap.size = gA := s; rw [s', hga] at e0; cases e0))
    have X9 := Lib.hid (x9.out.chg kset (fun s => by have s' : W2.heap.size = gA := s; rw [s', hga] at e9; cases e9))
    have KD := Lib.hid (Pt.rec_kept kd9.out kset (fun s => by have s' : D = gA := s; rw [hD, hz2] at s'; rw [s', hga] at e4; cases e4))
    have hsz : W2.heap.size + 1 ≤ (w9.setCell ⟨gA, a * 7 + 1, none⟩ (.int .i64 v)).heap.size := by have := kset.size; have : W3.heap.size ≤ w9.heap.size := hs9; omega
    have g8 : w.heap.size + 4 < W2.heap.size := by have := (Array.getElem?_eq_some_iff.1 hkD0.out).1; rw [hD, hz2] at this; omega
    clear kset x3 x4 x9 kd9 F4 F3 Y3 Y4 Y9 KD3 hS p7 f7 u7 c4 c3 c9 LAY lb0 lb1 lb4 q4b q2g q2o q2n hga XN LX OG3 hkD0 QD
    obtain ⟨W4, hW4⟩ : ∃ W4, W4 = w9.setCell ⟨gA, a * 7 + 1, none⟩ (.int .i64 v) := ⟨_, rfl⟩
    rw [← hW4] at F10 X3 X9 KD hsz ⊢
    clear hW4
    have c3 := (X3.out.cell 0).trans (show _ = some (.pointer (some ⟨gd, 0, none⟩)) from rfl)
    have d2 := (F10.out.dr.cell 2).trans (show _ = some v2 from rfl)
    rw [HV2.out] at d2
    have CF := Lib.hid (fun W => chunk_f (some ⟨gA, 0, none⟩) L.length cf W)
    gi_wp2_with fail
    refine ⟨trivial, ?_⟩
    refine (callsIn_wide.2 (CF.out _)).mono ?_; rintro e W5 ⟨rfl, hw5⟩
    have b5 : Below W4.heap.size W4 W5 := by rw [hw5]; exact ((Below.refl _ W4).alloc (Nat.le_refl _) _).alloc (by simp) _
    have k1 : Blk W5 W4.heap.size 50 #[.slice (some ⟨gA, 0, none⟩) L.length cf] := by rw [hw5]; exact (Blk.new W4 _ _).alloc _
    have k2 : Blk W5 (W4.heap.size + 1) 3 #[.int .i64 8] := by
      rw [hw5]
      have := Blk.new (W4.alloc (.cells #[.slice (some ⟨gA, 0, none⟩) L.length cf] 50)) 3 #[.int .i64 8]
      simpa using this
    have hz5 : W5.heap.size = W4.heap.size + 2 := by rw [hw5]; simp
    clear hw5
    obtain ⟨q5, hq5⟩ : ∃ q5, q5 = (fun j => if j < W4.heap.size then q4 j else 0) := ⟨_, rfl⟩
    have q5o : ∀ b, b < W4.heap.size → q5 b = q4 b := fun b hb => by rw [hq5]; show (if _ then _ else _) = _; rw [if_pos hb]
    have q5n : ∀ b, W4.heap.size ≤ b → q5 b = 0 := fun b hb => by rw [hq5]; show (if _ then _ else _) = _; rw [if_neg (by omega)]
    clear hq5
    have F5 := Lib.hid ((F10.out.relab (q' := q5) q5o).chg (Chg.of_new b5 (fun _ => False)) (fun j s => s.elim))
    have Y3 := Lib.hid (X3.out.older (older_below b5))
    have Y9 := Lib.hid (X9.out.older (older_below b5))
    have KE := Lib.hid (Pt.rec_kept KD.out (Chg.of_new b5 (fun _ => False)) id)
    have QZ := Lib.hid (show (q5 w.heap.size = 0 ∧ q5 W2.heap.size = 0 ∧ q5 (w.heap.size + 4) = 0) ∧ q5 W4.heap.size = 0 ∧ q5 (W4.heap.size + 1) = 0 ∧ q5 (W4.heap.size + 2) = 0 ∧ q5 (W4.heap.size + 3) = 0 from ⟨⟨(q5o _ (by omega)).trans e0, (q5o _ (by omega)).trans e9, (q5o _ (by omega)).trans e4⟩, q5n _ (by omega), q5n _ (by omega), q5n _ (by omega), q5n _ (by omega)⟩)
    have K1 := Lib.hid k1
    have K2 := Lib.hid k2
    rw [HV1.out] at F5
    clear F10 X3 X9 KD c3 d2 CF b5 k1 k2 q5o q5n e0 e1 e9 e4
    gi_wp2_with fail
    refine range_f (B1 := W4.heap.size) (B2 := W4.heap.size + 1) (A := some ⟨gA, 0, none⟩) (n := L.length) (c := cf) rfl (by omega) hcf K1.out K2.out
      (fun k W => ∃ (q' : Nat → Nat) (m' : Fm) (D1 : Option Addr) (cd1 : Nat) (u9 : Value), Hid (FmAt q' w W gd gA a v0 (.slice D1 k cd1) v2 T ct ts (cs0.setIfInBounds (a * 7 + 1) (.int .i64 v)) (np + 1 + k) xs (ts.take np) (prN bs np) m') ∧
        Hid (RowW W 3 1 D1 k cd1 (In.vi ((ts.drop (np + 1)).take k))) ∧ Hid (∀ b, inB D1 b → q' b = 8 ∧ w.heap.size ≤ b) ∧ Hid ((q' w.heap.size = 0 ∧ q' W2.heap.size = 0 ∧ q' (w.heap.size + 4) = 0) ∧ q' W4.heap.size = 0 ∧ q' (W4.heap.size + 1) = 0 ∧ q' (W4.heap.size + 2) = 0 ∧ q' (W4.heap.size + 3) = 0) ∧
        Hid (Blk W w.heap.size 159 #[.pointer (some ⟨gd, 0, none⟩)]) ∧ Hid (Blk W W2.heap.size 31 #[u9]) ∧ Hid (W.heap[D]? = some (.deferred (some []))))
      ?_ ?_
      (fun k => { tmps := #[.pointer (some ⟨gd, 0, none⟩), .pointer (some ⟨gA, a * 7, none⟩), .slice Ab nb cb, .pointer (some ⟨w.heap.size, 0, none⟩), .pointer (some ⟨w.heap.size + 1, 0, none⟩), undef, undef, undef, undef, .pointer (some ⟨W2.heap.size, 0, none⟩), .int .i64 0, pc_f (some ⟨gA, 0, none⟩) L.length k, .slice Ab nb cb, .func (.func 119) #[] #[.pointer (some ⟨w.heap.size + 2, 0, none⟩), .pointer (some ⟨w.heap.size + 2 + 1, 0, none⟩)], undef, undef, undef, undef, undef, undef, undef, undef, undef, undef, undef, undef, undef, undef, undef, undef, undef, undef, undef, undef, undef, undef, undef, undef, undef, undef, undef, undef, undef, undef, undef, undef, undef, .tuple #[.slice (some ⟨g2, 0, none⟩) 256 cg2, .int .i64 0], .pointer (some ⟨gA, a * 7, none⟩), .pointer (some ⟨gA, a * 7, none⟩), .pointer (some ⟨gA, a * 7 + 2, none⟩), .agg #[.int .i64 L[a].f.ver, .int .i64 L[a].f.mtime, .int .i64 L[a].f.len, .slice m'.Bk np m'.cb, .slice m'.Pt np m'.cp], .tuple #[.slice (some ⟨g2, 0, none⟩) 256 cg2, .int .i64 0], .slice (some ⟨g2, 0, none⟩) 256 cg2, .int .i64 0, .pointer (some ⟨gA, a * 7, none⟩), .pointer (some ⟨gd, 0, none⟩), .slice (some ⟨g2, 0, none⟩) 256 cg2, .int .i64 v, .pointer (some ⟨gA, a * 7, none⟩), .pointer (some ⟨gA, a * 7, none⟩), .pointer (some ⟨gA, a * 7 + 1, none⟩), .pointer (some ⟨gd, 0, none⟩), .pointer (some ⟨gd, 0, none⟩), .pointer (some ⟨gd, 0, none⟩), .pointer (some ⟨gd, 2, none⟩), .slice (some ⟨gA, 0, none⟩) L.length cf, .func (.func 121) #[] #[.pointer (some ⟨W4.heap.size, 0, none⟩), .pointer (some ⟨W4.heap.size + 1, 0, none⟩)], pc_f (some ⟨gA, 0, none⟩) L.length k, undef, undef, undef, undef, undef, undef, undef, undef, undef, undef, undef, undef, undef, undef, undef, undef, undef, undef, undef, undef, undef, undef], defers := [] }) ?_ ?_ ?_
    · rintro k W W' ⟨q6, m6, D1, cd1, u9, F, R, QD, QZ, z3, z9, kd⟩ kc
      rw [hz5] at kc
      have hs : ∀ j, (j = W4.heap.size + 2 ∨ j = W4.heap.size + 2 + 1) → q6 j = 0 ∧ w.heap.size ≤ j := fun j s => by rcases s with rfl | rfl <;> exact ⟨by simp [QZ.out], by omega⟩
      refine ⟨q6, m6, D1, cd1, u9, Lib.hid (F.out.chg kc (fun j s _ => hs j s)), Lib.hid (R.out.chg kc (fun b e s => by have h1 := (QD.out b e).1; have := (hs b s).1; omega)), QD, QZ, Lib.hid (z3.out.chg kc (by omega)), Lib.hid (z9.out.chg kc (by omega)), Lib.hid (Pt.rec_kept kd.out kc (by rw [hD, hz2]; omega))⟩
    · exact ⟨q5, _, none, 0, _, F5, Lib.hid (RowW.nil _ _ _), Lib.hid (fun b e => absurd e (inB_none b)), QZ, Y3, Y9, KE⟩
    · intro l k W K hK
      gi_wp2
      exact hK
    · rintro l k W ⟨q6, m6, D1, cd1, u9, F, R, QD, QZ, z3, z9, kd⟩ hk hz
      clear F5 Y3 Y9 KE K1 K2
      obtain ⟨n8, hn8⟩ : ∃ n8, n8 = min 8 (L.length - k * 8) := ⟨_, rfl⟩
      have PV : pc_f (some ⟨gA, 0, none⟩) L.length k = .slice (some ⟨gA, k * 8 * 7, none⟩) n8 n8 := by
        unfold pc_f
        rw [← hn8]
        simp only [Option.map_some]
        rw [Addr.add_mid, Nat.zero_add]
      rw [PV]
      obtain ⟨E, hE⟩ : ∃ E, E = (es.drop (k * 8)).take 8 := ⟨_, rfl⟩
      have hes := HE.out.1
      have hesl : es.length = L.length := by rw [hes, List.length_set, ents_length]
      have hEl : E.length = n8 := by rw [hE, List.length_take, List.length_drop, hesl, hn8]
      obtain ⟨hxd1, hxd2⟩ := HE.out.2 k hk
      rw [← hE] at hxd1 hxd2
      have F' := F.out
      rw [C0.out] at F'
      have EN := entries_any (some ⟨gA, k * 8 * 7, none⟩) n8 (((L.set a (L[a].fill v (ts.take np) (prN bs np) m6)).drop (k * 8)).take n8) W (by
        have h0 := rowG_files (F'.files ha) (k * 8) n8 (by rw [List.length_set]; omega) (by rw [List.length_set]; omega)
        have hl0 : (((L.set a (L[a].fill v (ts.take np) (prN bs np) m6)).drop (k * 8)).take n8).length = n8 := by rw [List.length_take, List.length_drop, List.length_set]; omega
        rw [hl0]; exact h0) (by rw [List.length_take, List.length_drop, List.length_set]; omega)
      rw [show (((L.set a (L[a].fill v (ts.take np) (prN bs np) m6)).drop (k * 8)).take n8).length = n8 from by rw [List.length_take, List.length_drop, List.length_set]; omega, ents_part, ents_fill L a ha, ← hes, show (es.drop (k * 8)).take n8 = E from by rw [hE, List.take_eq_take_iff, List.length_drop, hesl, hn8]; omega] at EN
      have PDR := fun A' c' W' (h : RowG W' 2 A' n8 c' (In.ve E)) => In.packDir_any A' c' E W' (by rw [hEl]; exact h)
      rw [hEl, hxd2] at PDR
      obtain ⟨y, hy0⟩ : ∃ y, y = In.sealL (In.dirT E) := ⟨_, rfl⟩
      have YN := Lib.hid (show xs (np + 1 + k) = y from by rw [hxd1, hy0])
      have EN := Lib.hid EN
      have PDR := Lib.hid PDR
      have HY := Lib.hid hy0
      have HDD := Lib.hid (show D = w.heap.size + 4 from by rw [hD, hz2])
      have hkt : np + 1 + k < ts.length := by omega
      obtain ⟨v8, hv8⟩ : ∃ v8, ts[np + 1 + k]? = some v8 := ⟨_, List.getElem?_eq_getElem hkt⟩
      have HV8 := Lib.hid hv8
      have hk3 : k < 3 := by omega
      clear PV hE hes hesl hEl hxd1 hxd2 F' hy0 hv8 hkt hn8
      gi_wp2_with fail
      refine ⟨trivial, ?_⟩
      refine (CallsIn.inRound l (callsIn_wide.2 EN.out)).mono ?_; rintro e1 w6 ⟨A6, c6, rfl, r6, b6, -⟩
      have R6 := Lib.hid r6
      have B6 := Lib.hid b6
      clear r6 b6 EN
      gi_wp2_with fail
      refine ⟨trivial, ?_⟩
      refine (CallsIn.inRound l (callsIn_wide.2 (PDR.out A6 c6 w6 R6.out))).mono ?_; rintro e2 w7 ⟨b7, -, hy⟩
      obtain ⟨g3, cg3, rfl, og3⟩ := hy rfl
      have b67 := B6.out.trans (b7.mono B6.out.size)
      have hg3 : W.heap.size ≤ g3 := Nat.le_trans B6.out.size og3.base
      have hg3l := og3.lt
      have B67 := Lib.hid b67
      have OG := Lib.hid og3
      have z97 := z9.out.older (older_below b67)
      have c97 := z97.cell 0
      have f97 := z97.frozen 0
      have LWk := Lib.hid (show w.heap.size + 4 < W.heap.size ∧ W2.heap.size < W.heap.size ∧ W4.heap.size + 3 < W.heap.size from ⟨by omega, by omega, by omega⟩)
      have FWk := Lib.hid (show w.heap.size ≤ W.heap.size from F.out.sz)
      have kt9 := Chg.set w7 0 (.slice (some ⟨g3, 0, none⟩) 256 cg3) (g := W2.heap.size) (S := fun j => j = W2.heap.size) rfl
      have kc := (Chg.of_new B67.out (fun j => j = W2.heap.size)).trans kt9
      obtain ⟨q8, hq8⟩ : ∃ q8, q8 = (fun j => if j = g3 then 6 else if j < W.heap.size then q6 j else 0) := ⟨_, rfl⟩
      have q8g : q8 g3 = 6 := by rw [hq8]; show (if _ then _ else _) = _; rw [if_pos rfl]
      have q8o : ∀ b, b < W.heap.size → q8 b = q6 b := fun b hb => by rw [hq8]; show (if _ then _ else (if _ then _ else _)) = _; rw [if_neg (by omega), if_pos hb]
      clear hq8
      have qt9 : q8 W2.heap.size = 0 := (q8o _ LWk.out.2.1).trans QZ.out.1.2.1
      have F8' := (F.out.relab (q' := q8) q8o).chg kc (fun j s _ => by have s' : j = W2.heap.size := s; rw [s']; exact ⟨qt9, by omega⟩)
      have R8' := R.out.chg kc (fun b e s => by have s' : b = W2.heap.size := s; have h1 := (QD.out b e).1; have := QZ.out.1.2.1; rw [s'] at h1; omega)
      have Z38' := z3.out.chg kc (fun s => by have s' : w.heap.size = W2.heap.size := s; omega)
      have Z98' : Blk (w7.setCell ⟨W2.heap.size, 0, none⟩ (.slice (some ⟨g3, 0, none⟩) 256 cg3)) W2.heap.size 31 #[.slice (some ⟨g3, 0, none⟩) 256 cg3] := (z9.out.older (older_below B67.out)).put 0 _
      have OG8' := OG.out.far (p := ⟨W2.heap.size, 0, none⟩) (fun s => by have s' : g3 = W2.heap.size := s; have := LWk.out.2.1; omega) (.slice (some ⟨g3, 0, none⟩) 256 cg3)
      have KD8' := Pt.rec_kept kd.out kc (fun s => by have s' : D = W2.heap.size := s; rw [HDD.out] at s'; omega)
      have LW8' := kc.size
      have kcw := kc.weak (S' := fun j => ¬ j = W4.heap.size ∧ ¬ j = W4.heap.size + 1 ∧ ¬ j = W4.heap.size + 2 ∧ ¬ j = W4.heap.size + 3) (fun j s => by have s' : j = W2.heap.size := s; show ¬ _ ∧ ¬ _ ∧ ¬ _ ∧ ¬ _; omega)
      clear hy og3 b67 b7 z97 kc kt9 z3 z9 kd F
      gi_wp2_with fail
      generalize (w7.setCell ⟨W2.heap.size, 0, none⟩ (.slice (some ⟨g3, 0, none⟩) 256 cg3)) = W8 at *
      have F8 := Lib.hid (F8'.chg ((Chg.refl W8 (fun _ => False)).drewN 1) (fun j s => s.elim))
      have R8 := Lib.hid R8'
      have Z38 := Lib.hid Z38'
      have Z98 := Lib.hid Z98'
      have OG8 := Lib.hid OG8'
      have KD8 := Lib.hid KD8'
      have LW8 := Lib.hid LW8'
      have KCW := Lib.hid kcw
      have LY := Lib.hid (show y.length = 256 from by rw [HY.out]; exact OG8'.bytes.len)
      have OG8 := Lib.hid (show OwnB W8 w6.heap.size g3 256 cg3 y from by rw [HY.out]; exact OG8')
      clear F8' R8' Z38' Z98' OG8' KD8' LW8' kcw c97 f97 qt9
      have c3 := (Z38.out.cell 0).trans (show _ = some (.pointer (some ⟨gd, 0, none⟩)) from rfl)
      have d1 := (F8.out.dr.cell 1).trans (show _ = some (.slice D1 k cd1) from rfl)
      have c9 := (Z98.out.cell 0).trans (show _ = some (.slice (some ⟨g3, 0, none⟩) 256 cg3) from rfl)
      obtain ⟨i1, z1, inf1⟩ := int_info3
      have IN1 := Lib.hid inf1
      clear inf1
      have LAY := Lib.hid (lay_n (w := W8.drew) (tv_length m6.pA m6.pc xs (np + 1 + k)) HV8.out F8.out.dr F8.out.tk F8.out.tx (fun s => by have := (F8.out.qx _ s).1; have := F8.out.qd; omega) (fun b s => ⟨fun e => by have := (F8.out.qt b s).1; have := F8.out.qd; rw [e] at *; omega, fun s2 => by have := (F8.out.qt b s).1; have := (F8.out.qx b s2).1; omega⟩) hts (some ⟨g3, 0, none⟩) 256 cg3)
      have hS := Lib.hid (show W8.drew.cell? ⟨w.heap.size, 0, none⟩ = some (.pointer (some ⟨gd, 0, none⟩)) ∧ W8.drew.cell? ⟨gd, 1, none⟩ = some (.slice D1 k cd1) ∧ W8.drew.cell? ⟨W2.heap.size, 0, none⟩ = some (.slice (some ⟨g3, 0, none⟩) 256 cg3) from ⟨c3, d1, c9⟩)
      refine wpIn_head_calm (S := fun w'' => Hid (w''.cell? ⟨w.heap.size, 0, none⟩ = some (.pointer (some ⟨gd, 0, none⟩)) ∧ w''.cell? ⟨gd, 1, none⟩ = some (.slice D1 k cd1) ∧ w''.cell? ⟨W2.heap.size, 0, none⟩ = some (.slice (some ⟨g3, 0, none⟩) 256 cg3))) 12 (by kernel_rfl) (by kernel_rfl) rfl rfl (by kernel_rfl) ?_
      simp only [List.take_succ_cons, List.take_zero, List.drop_succ_cons, List.drop_zero]
      refine held_take (i := 0) (d := (some 75)) (v := ?_) rfl rfl (by kernel_rfl) (by kernel_rfl) (by kernel_rfl) (fun _ _ _ h => h) (by rfl) ?_ hS ?_
      rotate_left
      · intro w'' hSw; obtain ⟨hc1, hc2, hc3⟩ := hSw.out; clear hSw; go_simp <;> with_reducible rfl
      simp only [Act.put, List.setIfInBounds_toArray, List.set_cons_zero, List.set_cons_succ]
      refine held_take (i := 1) (d := (some 76)) (v := ?_) rfl rfl (by kernel_rfl) (by kernel_rfl) (by kernel_rfl) (fun _ _ _ h => h) (by rfl) ?_ hS ?_
      rotate_left
      · intro w'' hSw; obtain ⟨hc1, hc2, hc3⟩ := hSw.out; clear hSw; go_simp <;> with_reducible rfl
      simp only [Act.put, List.setIfInBounds_toArray, List.set_cons_zero, List.set_cons_succ]
      refine held_take (i := 2) (d := (some 77)) (v := ?_) rfl rfl (by kernel_rfl) (by kernel_rfl) (by kernel_rfl) (fun _ _ _ h => h) (by rfl) ?_ hS ?_
      rotate_left
      · intro w' hSw; (try dsimp only at hSw); go_simp <;> with_reducible rfl
      simp only [Act.put, List.setIfInBounds_toArray, List.set_cons_zero, List.set_cons_succ]
      refine held_take (i := 3) (d := (some 78)) (v := ?_) rfl rfl (by kernel_rfl) (by kernel_rfl) (by kernel_rfl) (fun _ _ _ h => h) (by rfl) ?_ hS ?_
      rotate_left
      · intro w' hSw; (try dsimp only at hSw); go_simp <;> with_reducible rfl
      simp only [Act.put, List.setIfInBounds_toArray, List.set_cons_zero, List.set_cons_succ]
      refine held_take (i := 4) (d := (some 79)) (v := ?_) rfl rfl (by kernel_rfl) (by kernel_rfl) (by kernel_rfl) (fun _ _ _ h => h) (by rfl) ?_ hS ?_
      rotate_left
      · intro w' hSw; (try dsimp only at hSw); go_simp <;> with_reducible rfl
      simp only [Act.put, List.setIfInBounds_toArray, List.set_cons_zero, List.set_cons_succ]
      refine held_take (i := 5) (d := (some 80)) (v := ?_) rfl rfl (by kernel_rfl) (by kernel_rfl) (by kernel_rfl) (fun _ _ _ h => h) (by rfl) ?_ hS ?_
      rotate_left
      · intro w' hSw; (try dsimp only at hSw); go_simp <;> with_reducible rfl
      simp only [Act.put, List.setIfInBounds_toArray, List.set_cons_zero, List.set_cons_succ]
      refine held_take (i := 6) (d := (some 81)) (v := ?_) rfl rfl (by kernel_rfl) (by kernel_rfl) (by kernel_rfl) (fun _ _ _ h => h) (by rfl) ?_ hS ?_
      rotate_left
      · intro w'' hSw; obtain ⟨hc1, hc2, hc3⟩ := hSw.out; clear hSw; go_simp <;> with_reducible rfl
      simp only [Act.put, List.setIfInBounds_toArray, List.set_cons_zero, List.set_cons_succ]
      refine held_take (i := 7) (d := (some 82)) (v := ?_) rfl rfl (by kernel_rfl) (by kernel_rfl) (by kernel_rfl) (fun _ _ _ h => h) (by rfl) ?_ hS ?_
      rotate_left
      · intro w'' hSw; obtain ⟨hc1, hc2, hc3⟩ := hSw.out; clear hSw; go_simp <;> with_reducible rfl
      simp only [Act.put, List.setIfInBounds_toArray, List.set_cons_zero, List.set_cons_succ]
      refine held_take (i := 8) (d := (some 83)) (v := ?_) rfl rfl (by kernel_rfl) (by kernel_rfl) (by kernel_rfl) (fun _ _ _ h => h) (by rfl) ?_ hS ?_
      rotate_left
      · intro w'' hSw; obtain ⟨hc1, hc2, hc3⟩ := hSw.out; clear hSw; go_simp <;> with_reducible rfl
      simp only [Act.put, List.setIfInBounds_toArray, List.set_cons_zero, List.set_cons_succ]
      refine held_one (i := 9) (by kernel_rfl) rfl (by rfl) ?_
      go_simp
      refine (LAY.out).mono ?_; rintro e3 w9 ⟨rfl, X9, cx9, hd9, hr9, hn9, k9⟩
      have hr9' : RowW w9 31 1 X9 (np + 1 + k + 1) cx9 (tv m6.pA m6.pc xs (np + 1 + k) ++ [.slice (some ⟨g3, 0, none⟩) y.length cg3]) := by rw [LY.out]; exact hr9
      have F9 := Lib.hid (F8.out.lay (At := some ⟨g3, 0, none⟩) (c := cg3) (x := y) (by rw [LY.out]; exact OG8.out.src.drewN 1) YN.out (fun b o e => by
        cases e
        exact ⟨q8g, by have := FWk.out; omega, OG8.out.lt⟩) hd9 hr9' hn9 k9)
      have q9b : ∀ b, b < W8.heap.size → (fun j => if (W8.drewN 1).heap.size ≤ j then 3 else q8 j) b = q8 b := fun b hb => by
        show (if _ then _ else _) = _
        rw [if_neg (by show ¬ W8.heap.size ≤ b; omega)]
      have hL9 : ∀ j, (j = gd ∨ inB m6.X j) → q8 j = 1 ∨ q8 j = 3 := fun j s => s.elim (fun e => .inl (by rw [e]; exact F8.out.qd)) (fun e => .inr (F8.out.qx j e).1)
      have y3 := Lib.hid (Z38.out.chg (Chg.of_drewN (n := 1) k9) (fun s => by have := hL9 _ s; have := q8o w.heap.size (by have := LWk.out; omega); have := QZ.out.1.1; omega))
      have y9 := Lib.hid (Z98.out.chg (Chg.of_drewN (n := 1) k9) (fun s => by have := hL9 _ s; have := q8o W2.heap.size (by have := LWk.out; omega); have := QZ.out.1.2.1; omega))
      have kd9 := Lib.hid (Pt.rec_kept (show W8.drew.heap[D]? = _ from KD8.out) k9 (fun s => by have := hL9 _ s; have := q8o D (by have := LWk.out; rw [hD, hz2]; omega); have h0 := QZ.out.1.2.2; rw [← HDD.out] at h0; omega))
      have hsz9 : W8.heap.size ≤ w9.heap.size := k9.size
      have r9 := Lib.hid (R8.out.chg (Chg.of_drewN (n := 1) k9) (fun b e s => by have := hL9 _ s; have := q8o b (R.out.lt b e); have := (QD.out b e).1; omega))
      have hS : Hid (w9.cell? ⟨w.heap.size, 0, none⟩ = some (.pointer (some ⟨gd, 0, none⟩)) ∧ w9.cell? ⟨gd, 1, none⟩ = some (.slice D1 k cd1) ∧ w9.cell? ⟨W2.heap.size, 0, none⟩ = some (.slice (some ⟨g3, 0, none⟩) 256 cg3)) := Lib.hid ⟨y3.out.cell 0, hd9.cell 1, y9.out.cell 0⟩
      refine ⟨hS, ?_⟩
      have K9 := Lib.hid (k9.weak (S' := fun j => ¬ j = W4.heap.size ∧ ¬ j = W4.heap.size + 1 ∧ ¬ j = W4.heap.size + 2 ∧ ¬ j = W4.heap.size + 3) (fun j s => by
        have h1 := hL9 j s
        refine ⟨fun e => ?_, fun e => ?_, fun e => ?_, fun e => ?_⟩ <;> (have h2 := q8o j (by have := LWk.out; omega); subst e; have := QZ.out.2; omega)))
      clear hd9 hr9 hr9' hn9 k9 hL9
      generalize (fun j => if (W8.drewN 1).heap.size ≤ j then 3 else q8 j) = q9 at F9 q9b
      (try simp only [Act.put, List.setIfInBounds_toArray, List.set_cons_zero, List.set_cons_succ])
      refine held_one (i := 10) (by kernel_rfl) rfl (by rfl) ?_
      go_simp
      have BA := Lib.hid ((Below.refl w9.heap.size w9).alloc (Nat.le_refl _) (.cells #[.int .i64 v8] 3))
      have hS : Hid ((w9.alloc (.cells #[.int .i64 v8] 3)).cell? ⟨w.heap.size, 0, none⟩ = some (.pointer (some ⟨gd, 0, none⟩)) ∧ (w9.alloc (.cells #[.int .i64 v8] 3)).cell? ⟨gd, 1, none⟩ = some (.slice D1 k cd1) ∧ (w9.alloc (.cells #[.int .i64 v8] 3)).cell? ⟨W2.heap.size, 0, none⟩ = some (.slice (some ⟨g3, 0, none⟩) 256 cg3)) := Lib.hid ⟨(y3.out.older (older_below BA.out)).cell 0, (F9.out.dr.older (older_below BA.out)).cell 1, (y9.out.older (older_below BA.out)).cell 0⟩
      refine ⟨hS, ?_⟩
      have RO := Lib.hid (r9.out.new BA.out).own
      (try simp only [Act.put, List.setIfInBounds_toArray, List.set_cons_zero, List.set_cons_succ])
      refine held_one (i := 11) (by kernel_rfl) rfl (by rfl) ?_
      refine wp_append_d (d := some 86) rfl (.tmp 81) (.tmp 85) 24 rfl 0 3 i1 z1 1 8 Tryz.underlying24 IN1.out.1 IN1.out.2.1 IN1.out.2.2.2.1 IN1.out.2.2.2.2 IN1.out.2.2.1 (by decide) (.slice D1 k cd1) k (In.vi ((ts.drop (np + 1)).take k)) rfl RO.out ⟨w9.heap.size, 0, none⟩ 1 1 [.int .i64 v8] rfl rfl (World.news_of_block (Blk.new w9 3 _)) (by intro u hu; rw [List.mem_singleton.1 hu]; rfl) (by decide) (by unfold maxLen; omega) (by omega) (Nat.zero_le _) ?_
      intro g7 cap7 w10 o7 k7 at7 l7
      have O7 := Lib.hid (show RowW w10 3 1 (some ⟨g7, 0, none⟩) (k + 1) cap7 (In.vi ((ts.drop (np + 1)).take k ++ [v8])) from ⟨by simpa [In.vi] using o7⟩)
      have AT7 := Lib.hid (at_of (w := w9) (by simp) at7)
      have K7 := Lib.hid (chg_of_grown BA.out k7)
      have hLB : ∀ j, inB D1 j → q9 j = 8 ∧ w.heap.size ≤ j := fun j s => ⟨by rw [q9b j (Nat.lt_of_lt_of_le (R.out.lt j s) LW8.out), q8o j (R.out.lt j s)]; exact (QD.out j s).1, (QD.out j s).2⟩
      have z9 : ∀ b, q6 b = 0 → b < W.heap.size → q9 b = 0 := fun b h1 h2 => by rw [q9b b (Nat.lt_of_lt_of_le h2 LW8.out), q8o b h2]; exact h1
      have y3a := Lib.hid (y3.out.chg K7.out (fun s => by have := (hLB _ s).1; have := z9 _ QZ.out.1.1 (by have := LWk.out; omega); omega))
      have y9a := Lib.hid (y9.out.chg K7.out (fun s => by have := (hLB _ s).1; have := z9 _ QZ.out.1.2.1 (by have := LWk.out; omega); omega))
      have d9a := F9.out.dr.chg K7.out (fun s => by have := (hLB _ s).1; have := F9.out.qd; omega)
      have kda := Lib.hid (Pt.rec_kept kd9.out K7.out (fun s => by have := (hLB _ s).1; have h0 := z9 _ QZ.out.1.2.2 (by have := LWk.out; omega); rw [← HDD.out] at h0; omega))
      have hS : Hid (w10.cell? ⟨w.heap.size, 0, none⟩ = some (.pointer (some ⟨gd, 0, none⟩)) ∧ w10.cell? ⟨gd, 1, none⟩ = some (.slice D1 k cd1) ∧ w10.cell? ⟨W2.heap.size, 0, none⟩ = some (.slice (some ⟨g3, 0, none⟩) 256 cg3)) := Lib.hid ⟨y3a.out.cell 0, d9a.cell 1, y9a.out.cell 0⟩
      refine ⟨hS, ?_⟩
      clear o7 k7 at7 l7
      (try simp only [Act.put, List.setIfInBounds_toArray, List.set_cons_zero, List.set_cons_succ])
      refine wpAnyH_done (by kernel_rfl) ?_ _
      show wpList _ _ _ _ _ _
      have fd : w10.frozen? ⟨gd, 1, none⟩ = false := d9a.frozen _
      have pd := hS.out.2.1
      obtain ⟨q10, hq10⟩ : ∃ q10, q10 = (fun j => if w9.heap.size ≤ j then 8 else q9 j) := ⟨_, rfl⟩
      have q10o : ∀ b, b < w9.heap.size → q10 b = q9 b := fun b hb => by rw [hq10]; show (if _ then _ else _) = _; rw [if_neg (by omega)]
      have q10n : ∀ b, w9.heap.size ≤ b → q10 b = 8 := fun b hb => by rw [hq10]; show (if _ then _ else _) = _; rw [if_pos hb]
      clear hq10
      have LB9 : ∀ j, inB D1 j → j < W.heap.size := fun j s => R.out.lt j s
      have W9s : W.heap.size ≤ w9.heap.size := Nat.le_trans LW8.out hsz9
      have F11 := Lib.hid (((F9.out.relab (q' := q10) q10o).chg8 K7.out (fun j s _ => by have h1 := hLB j s; exact ⟨.inr (by rw [q10o j (Nat.lt_of_lt_of_le (LB9 j s) W9s)]; exact h1.1), h1.2⟩)).dir (.slice (some ⟨g7, 0, none⟩) (k + 1) cap7))
      have kd1 := Chg.set w10 1 (.slice (some ⟨g7, 0, none⟩) (k + 1) cap7) (g := gd) (S := fun j => j = gd) rfl
      have q10d : q10 gd = 1 := F11.out.qd
      have z10 : ∀ b, q6 b = 0 → b < W.heap.size → q10 b = 0 := fun b h1 h2 => by rw [q10o b (Nat.lt_of_lt_of_le h2 W9s)]; exact z9 b h1 h2
      have QD11 := Lib.hid (show ∀ b, inB (some ⟨g7, 0, none⟩) b → q10 b = 8 ∧ w.heap.size ≤ b from fun b e => by
        rw [inB_some e]
        rcases AT7.out with h1 | h1
        · have h2 := hLB g7 h1; exact ⟨by rw [q10o g7 (Nat.lt_of_lt_of_le (LB9 g7 h1) W9s)]; exact h2.1, h2.2⟩
        · exact ⟨q10n g7 h1, Nat.le_trans FWk.out (Nat.le_trans W9s h1)⟩)
      have DS : (ts.drop (np + 1)).take k ++ [v8] = (ts.drop (np + 1)).take (k + 1) := by
        obtain ⟨h1, h2⟩ := List.getElem?_eq_some_iff.1 HV8.out
        rw [List.take_succ_eq_append_getElem (by rw [List.length_drop]; omega), List.getElem_drop, h2]
      have R11 := Lib.hid (show RowW (w10.setCell ⟨gd, 1, none⟩ (.slice (some ⟨g7, 0, none⟩) (k + 1) cap7)) 3 1 (some ⟨g7, 0, none⟩) (k + 1) cap7 (In.vi ((ts.drop (np + 1)).take (k + 1))) from by
        rw [← DS]
        exact O7.out.chg kd1 (fun b e s => by have s' : b = gd := s; have h1 := (QD11.out b e).1; rw [s', q10d] at h1; cases h1))
      have Y3b := Lib.hid (y3a.out.chg kd1 (fun s => by have s' : w.heap.size = gd := s; have h1 := z10 _ QZ.out.1.1 (by have := LWk.out; omega); rw [s', q10d] at h1; cases h1))
      have Y9b := Lib.hid (y9a.out.chg kd1 (fun s => by have s' : W2.heap.size = gd := s; have h1 := z10 _ QZ.out.1.2.1 LWk.out.2.1; rw [s', q10d] at h1; cases h1))
      have KDb := Lib.hid (Pt.rec_kept kda.out kd1 (fun s => by have s' : D = gd := s; have h1 := z10 _ QZ.out.1.2.2 LWk.out.1; rw [← HDD.out, s', q10d] at h1; cases h1))
      have QZ11 := Lib.hid (show (q10 w.heap.size = 0 ∧ q10 W2.heap.size = 0 ∧ q10 (w.heap.size + 4) = 0) ∧ q10 W4.heap.size = 0 ∧ q10 (W4.heap.size + 1) = 0 ∧ q10 (W4.heap.size + 2) = 0 ∧ q10 (W4.heap.size + 3) = 0 from ⟨⟨z10 _ QZ.out.1.1 (by have := LWk.out; omega), z10 _ QZ.out.1.2.1 LWk.out.2.1, z10 _ QZ.out.1.2.2 LWk.out.1⟩, z10 _ QZ.out.2.1 (by have := LWk.out; omega), z10 _ QZ.out.2.2.1 (by have := LWk.out; omega), z10 _ QZ.out.2.2.2.1 (by have := LWk.out; omega), z10 _ QZ.out.2.2.2.2 LWk.out.2.2⟩)
      have far : ∀ j, q10 j ≠ 0 → ¬ j = W4.heap.size ∧ ¬ j = W4.heap.size + 1 ∧ ¬ j = W4.heap.size + 2 ∧ ¬ j = W4.heap.size + 3 := fun j h => ⟨fun e => h (by rw [e]; exact QZ11.out.2.1), fun e => h (by rw [e]; exact QZ11.out.2.2.1), fun e => h (by rw [e]; exact QZ11.out.2.2.2.1), fun e => h (by rw [e]; exact QZ11.out.2.2.2.2)⟩
      have CH := Lib.hid (show Chg W (w10.setCell ⟨gd, 1, none⟩ (.slice (some ⟨g7, 0, none⟩) (k + 1) cap7)) (fun j => ¬ j = W4.heap.size ∧ ¬ j = W4.heap.size + 1 ∧ ¬ j = W4.heap.size + 2 ∧ ¬ j = W4.heap.size + 2 + 1) from by
        exact ((KCW.out.trans (Chg.of_drewN (n := 1) K9.out)).trans ((K7.out.weak (fun j s => far j (by rw [q10o j (Nat.lt_of_lt_of_le (LB9 j s) W9s), (hLB j s).1]; decide))).trans (kd1.weak (fun j s => far j (by have s' : j = gd := s; rw [s', q10d]; decide))))))
      clear kd1 far DS z10 q10o q10n q10d hS F9 O7 K7 AT7
      go_wp2
      exact ⟨CH.out, q10, _, some ⟨g7, 0, none⟩, cap7, F11, R11, QD11, QZ11, ⟨_, Y9b⟩, Lib.hid (by rw [← HDD.out]; exact KDb.out)⟩
    · rintro D2 W hD2 ⟨q6, m6, D1, cd1, u9, F, R, QD, QZ, z3, z9, kd⟩ hk2
      have hnd : (L.length + (8 - 1)) / 8 = (L.length + 7) / 8 := by omega
      rw [hnd] at F R
      have HK2 := Lib.hid hk2
      have hne : D2 ≠ D := by rw [hD2, hD, hz2]; omega
      clear F5 Y3 Y9 KE K1 K2 hnd hk2
      gi_wp2
      have c5 := Pt.chg_putObj W D2 (.deferred none)
      have kd5 := Pt.rec_kept kd.out c5 (fun s => hne s.symm)
      have c6 := Pt.chg_putObj (W.putObj D2 (.deferred none)) D (.deferred none)
      have cc : Chg W ((W.putObj D2 (.deferred none)).putObj D (.deferred none)) (fun j => j = D ∨ j = D2) := (c5.weak fun _ s => .inr s).trans (c6.weak fun _ s => .inl s)
      have hq : ∀ j, (j = D ∨ j = D2) → q6 j = 0 ∧ w.heap.size ≤ j := fun j s => by
        rcases s with rfl | rfl
        · rw [hD, hz2]; exact ⟨QZ.out.1.2.2, by omega⟩
        · rw [hD2, hz5]; exact ⟨QZ.out.2.2.2.1, by omega⟩
      rw [hD, hz2] at kd5
      refine ⟨by simp, .inl ⟨_, _, rfl, run_takeDeferred HK2.out, by simp, .inl ⟨_, _, rfl, run_takeDeferred kd5, ?_⟩⟩⟩
      rw [show w.heap.size + 4 = D from by rw [hD, hz2]]
      refine ⟨.tuple #[], ?_, rfl, q6, m6, D1, cd1, F.out.chg cc (fun j s _ => hq j s), R.out.chg cc (fun b e s => by have h1 := (QD.out b e).1; have := (hq b s).1; omega), QD.out⟩
      simp [results, Tryz.f43, go_sem]
end Go.Proofs.YtefnkednnnlhoaaGreatDoor.Sr
