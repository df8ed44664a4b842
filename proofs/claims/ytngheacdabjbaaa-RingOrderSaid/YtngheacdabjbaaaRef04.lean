/- The document's ring: what its functions do; a slice of calls (two integers each) that came in. Conditions: those that each states. -/
import Derived.Test.YtngheacdabjbaaaAliveR
import Derived.Deep.SlicePairs
import Derived.Deep.RegionWith
import Derived.Deep.RegionHeld3
import Derived.Deep.DeepCutAuto
namespace Go.Proofs.Ytngheacdabjbaaa
open Go.ChangeShapes Go.WideShapes Go.ChangeAt Go.RowKit Go.Deep
set_option linter.unusedVariables false

def Acts (w : World) (A : Option Addr) (n : Nat) (f : Nat → Int × Int) : Prop :=
  ∀ i, i < n → ∃ b o, A = some ⟨b, o, none⟩ ∧ b < w.heap.size ∧ w.cell? ⟨b, o + i * 2, none⟩ = some (.int .i64 (f i).1) ∧ w.cell? ⟨b, o + i * 2 + 1, none⟩ = some (.int .i64 (f i).2)
theorem Acts.older {w w' : World} {A : Option Addr} {n : Nat} {f : Nat → Int × Int} (h : Acts w A n f) (k : Older w w') : Acts w' A n f := by
  intro i hi
  obtain ⟨b, o, e, hb, h1, h2⟩ := h i hi
  refine ⟨b, o, e, Nat.lt_of_lt_of_le hb k.1, ?_, ?_⟩
  · rw [World.cell?_of_block (w := w) (w' := w') (a := ⟨b, o + i * 2, none⟩) (k.2 b hb)]; exact h1
  · rw [World.cell?_of_block (w := w) (w' := w') (a := ⟨b, o + i * 2 + 1, none⟩) (k.2 b hb)]; exact h2
theorem open_acts {H : Type} {enc : TypeId × Value → H} {P : Program} {w : World} {base : Nat} {t e : TypeId} {f0 f1 : Field} {v : Value} {d : DataW H} {p : List MemPlace} (ht : P.underlying t = some (.slice e)) (he : P.underlying e = some (.struct #[f0, f1]))
    (ce : P.cellsOf e = 2) (o0 : f0.offset = 0) (o1 : f1.offset = 1) (c0 : P.cellsOf f0.type = 1) (c1 : P.cellsOf f1.type = 1) (u0 : P.underlying f0.type = some (.int .i64)) (u1 : P.underlying f1.type = some (.int .i64))
    (hv : Value.okWide P w .any base t v) (h : DataW.Trod enc P w 0 (fun _ => true) true t v d p) : ∃ A n c f, v = .slice A n c ∧ Acts w A n f := by
  have hlt : ∀ x ∈ p, x.block < w.heap.size := by obtain ⟨m, hm⟩ := h; exact DataW.trod_lt m _ _ _ hm
  obtain ⟨a, n, c, rfl⟩ := okWide_slice ht hv
  refine ⟨a, n, c, ?_⟩
  obtain ⟨fuel, hf⟩ := h
  rcases open_slice_pairs ht he ce o0 o1 c0 c1 hf with ⟨hcs, _⟩ | ⟨x, len, cap, m, k, V0, V1, D0, D1, P0, P1, hcs, _, hl, hm, hmm, _, hx⟩
  · simp [Value.cells] at hcs
    obtain ⟨rfl, rfl, rfl⟩ := hcs
    exact ⟨fun _ => (0, 0), rfl, fun i hi => absurd hi (by omega)⟩
  · simp [Value.cells] at hcs
    obtain ⟨rfl, rfl, rfl⟩ := hcs
    simp only [if_true] at hmm
    refine ⟨fun i => (intOf (V0 i), intOf (V1 i)), rfl, fun i hi => ?_⟩
    obtain ⟨h0, h1, r0, r1⟩ := hx i (by omega)
    obtain ⟨z, e0, _, _⟩ := DataW.trod_int u0 r0
    obtain ⟨z1, e1, _, _⟩ := DataW.trod_int u1 r1
    simp at e0 e1
    rw [e0] at h0
    rw [e1] at h1
    obtain ⟨b, o, sp⟩ := x
    have hsp : sp = none := by
      simpa [Addr.add] using World.cell?_spot (hx 0 (by omega)).1
    subst hsp
    have ea : ∀ j, (⟨b, o, none⟩ : Addr).add j = ⟨b, o + j, none⟩ := fun j => by unfold Addr.add; split <;> simp_all
    rw [ea] at h0 h1
    refine ⟨b, o, rfl, ?_, ?_, ?_⟩
    · unfold World.cell? at h0
      cases hh : w.heap[b]? with
      | none => simp only [hh] at h0; cases h0
      | some ob => exact (Array.getElem?_eq_some_iff.1 hh).1
    · rw [h0]; simp [e0, intOf]
    · rw [Nat.add_assoc, h1]; simp [e1, intOf]

/-- The document's ring in block gm: all that was put, and how many of it were taken. -/
structure RefAt (w : World) (gm room taken : Nat) (A : Option Addr) (c : Nat) (xs : List Value) : Prop where
  head : Blk w gm 31 #[.int .i64 (room : Int), .slice A xs.length c, .int .i64 (taken : Int)]
  row : Row w (gm + 1) 3 A c xs
  le : taken ≤ xs.length
  small : xs.length ≤ 100000
  one : ∀ u ∈ xs, u.oneCell' = true
section
variable {w w' : World} {gm room taken : Nat} {A : Option Addr} {c : Nat} {xs : List Value} {S : Nat → Prop}
theorem RefAt.drewN (h : RefAt w gm room taken A c xs) (n : Nat) : RefAt (w.drewN n) gm room taken A c xs := ⟨h.head, h.row.drewN n, h.le, h.small, h.one⟩
theorem RefAt.chg (h : RefAt w gm room taken A c xs) (k : Chg w w' S) (hs : ∀ i, S i → i < gm) : RefAt w' gm room taken A c xs :=
  ⟨h.head.chg k (fun s => absurd (hs _ s) (by omega)), h.row.chg k (fun b hb s => by have := (h.row.lt b hb).1; have := hs b s; omega), h.le, h.small, h.one⟩
end

theorem int_info : (Try.prog.info? 3).map (fun i => (i.zero, i.size, i.bytes)) = some (some (.int .i64 0), 1, 8) := by kernel_rfl

set_option maxRecDepth 100000 in
theorem refPut_full (gm room taken : Nat) (A : Option Addr) (c : Nat) (xs : List Value) (x : Int) (w : World) (h : RefAt w gm room taken A c xs) (hr : room ≤ 32) (hf : room ≤ xs.length - taken) :
    Calls Try.prog 10 #[.pointer (some ⟨gm, 0, none⟩), .int .i64 x] w fun e w' => e = .returned (.tuple #[.int .i64 0, .int .i64 10]) ∧ ∃ m, w' = w.drewN m := by
  have c0 := h.head.cell 0
  have c1 := h.head.cell 1
  have c2 := h.head.cell 2
  simp only [List.getElem?_toArray, List.getElem?_cons_succ, List.getElem?_cons_zero] at c0 c1 c2
  have hle := h.le
  have hsm := h.small
  have x0 : IntKind.i64.wrap ((xs.length : Int) - (taken : Int)) = (xs.length : Int) - (taken : Int) := IntWalk.i64_in _ (by omega)
  have g0 : decide ((room : Int) ≤ (xs.length : Int) - (taken : Int)) = true := by simp; omega
  clear h
  go_enter Try.func10, Try.ntmps10
  go_wp2_with fail
  go_quiet (fail)
  go_wp2
  go_ret2
  exact ⟨rfl, _, rfl⟩

set_option maxRecDepth 100000 in
set_option maxHeartbeats 1000000 in
theorem refPut_ok (gm room taken : Nat) (A : Option Addr) (c : Nat) (xs : List Value) (x : Int) (w : World) (h : RefAt w gm room taken A c xs) (hr : room ≤ 32) (hf : xs.length - taken < room) (hlen : xs.length < 100000) :
    Calls Try.prog 10 #[.pointer (some ⟨gm, 0, none⟩), .int .i64 x] w fun e w' => e = .returned (.tuple #[.int .i64 (xs.length : Int), .int .i64 0]) ∧ (∃ A' c', RefAt w' gm room taken A' c' (xs ++ [.int .i64 x])) ∧ Chg w w' (fun k => gm ≤ k) := by
  have c0 := h.head.cell 0
  have c1 := h.head.cell 1
  have c2 := h.head.cell 2
  simp only [List.getElem?_toArray, List.getElem?_cons_succ, List.getElem?_cons_zero] at c0 c1 c2
  have hle := h.le
  have hsm := h.small
  have x0 : IntKind.i64.wrap ((xs.length : Int) - (taken : Int)) = (xs.length : Int) - (taken : Int) := IntWalk.i64_in _ (by omega)
  have g0 : decide ((room : Int) ≤ (xs.length : Int) - (taken : Int)) = false := by simp; omega
  have HR := Lib.hid h
  have hgm := h.head.lt
  clear h
  go_enter Try.func10, Try.ntmps10
  go_wp2_with fail
  go_quiet (fail)
  have R1 := Lib.hid (HR.out.drewN nq)
  have K1 := Lib.hid ((Chg.refl w (fun k => gm ≤ k)).drewN nq)
  clear c0 c1 c2 hgm HR
  go_upto_region 3 with fail
  generalize w.drewN nq = w1 at *
  have hown : Row (w1.alloc (.cells #[] 3)) (gm + 1) 3 (some ⟨w1.heap.size, 0, none⟩) 0 [] :=
    ⟨World.ownsRow_lit (base := gm + 1) (e := 3) (size := 1) w1 #[] 0 (by have := R1.out.head.lt; omega) (by decide) rfl⟩
  have K2 := Lib.hid (K1.out.alloc (.cells #[] 3))
  have R2 := Lib.hid (R1.out.chg (Chg.of_new ((Below.refl _ w1).alloc (Nat.le_refl _) (.cells #[] 3)) (fun _ => False)) (fun _ h => h.elim))
  have c1 := R2.out.head.cell 1
  simp only [List.getElem?_toArray, List.getElem?_cons_succ, List.getElem?_cons_zero] at c1
  have hz : gm < w1.heap.size := R1.out.head.lt
  have HOWN := Lib.hid hown
  clear hown
  go_wp2_with (at_builtin; refine Hid.out ?_)
  unfold Hid
  refine wpList_append_both rfl _ _ rfl Try.underlying29 (.int .i64 0) 8 rfl (by decide) int_info rfl HOWN.out (by simp; omega) rfl R2.out.row R2.out.one (by simp; omega) ?_
  intro A1 c3 w2 hr1 k1 _
  rw [List.nil_append] at *
  have K3 := Lib.hid (K2.out.trans (k1.weak (S' := fun k => gm ≤ k) (by intro i hi; simp [Value.ownBlock] at hi; omega)))
  have H3 := Lib.hid (R2.out.head.chg k1 (by simp [Value.ownBlock]; omega))
  have ONE := Lib.hid R2.out.one
  have S2 : gm + 1 ≤ w2.heap.size := by have := H3.out.lt; omega
  clear R1 R2 K1 K2 HOWN c1 hz k1
  go_wp2_with (at_builtin; refine Hid.out ?_)
  unfold Hid
  refine wpList_append_one rfl _ _ rfl Try.underlying29 (.int .i64 0) 8 rfl (by decide) int_info rfl hr1 S2 (.int .i64 x) rfl rfl (by omega) ?_
  intro A4 c4 w3 hr3 k3 _
  have hb1 : ∀ i, (Value.slice A1 xs.length c3).ownBlock = some i → gm + 1 ≤ i := fun i hi => (hr1.lt i hi).1
  have H4 := Lib.hid (H3.out.chg k3 (fun s => by have := hb1 _ s; omega))
  have K4 := Lib.hid (K3.out.trans (k3.weak (S' := fun k => gm ≤ k) (fun i hi => by have := hb1 i hi; omega)))
  have c1 := H4.out.cell 1
  simp only [List.getElem?_toArray, List.getElem?_cons_succ, List.getElem?_cons_zero] at c1
  have f1 := H4.out.frozen 1
  have R3 := Lib.hid hr3
  have e1 : (xs ++ [Value.int IntKind.i64 x]).length = xs.length + 1 := by simp
  have fin : ∃ W, W = w3.setCell ⟨gm, 1, none⟩ (.slice A4 (xs ++ [Value.int IntKind.i64 x]).length c4) ∧ RefAt W gm room taken A4 c4 (xs ++ [.int .i64 x]) ∧ Chg w W (fun k => gm ≤ k) := by
    have kk : Chg w3 (w3.setCell ⟨gm, 1, none⟩ (.slice A4 (xs ++ [Value.int IntKind.i64 x]).length c4)) (fun k => k = gm) := Chg.set _ _ _ rfl
    refine ⟨_, rfl, ⟨?_, hr3.chg kk (fun b hb s => by have := (hr3.lt b hb).1; have s' : b = gm := s; omega), by omega, by omega, ?_⟩, K4.out.trans (kk.weak (fun i hi => by have hi' : i = gm := hi; omega))⟩
    · have := H4.out.put 1 (.slice A4 (xs ++ [Value.int IntKind.i64 x]).length c4)
      simpa using this
    · intro u hu
      rcases List.mem_append.1 hu with h | h
      · exact ONE.out u h
      · obtain rfl := List.mem_singleton.1 h; rfl
  have FIN := Lib.hid fin
  clear fin hr3 k3 hb1 hr1 H3 K3
  generalize (xs ++ [Value.int IntKind.i64 x]).length = nl at *
  have e2 : (nl : Int) = (xs.length : Int) + 1 := by omega
  have E2 := Lib.hid e2
  have hn1 : 1 ≤ nl := by omega
  have hn2 : nl ≤ 200000 := by omega
  clear e1 e2
  go_wp2
  go_ret2
  obtain ⟨W, rfl, r1, r2⟩ := FIN.out
  refine ⟨?_, ⟨_, _, r1⟩, r2⟩
  show Ending.returned (.tuple #[.int .i64 ((nl : Int) - 1), .int .i64 0]) = _
  rw [E2.out]
  simp

set_option maxRecDepth 100000 in
theorem refTake_ok (gm room taken : Nat) (A : Option Addr) (c : Nat) (xs : List Value) (x : Int) (w : World) (h : RefAt w gm room taken A c xs) (hx : xs[taken]? = some (.int .i64 x)) :
    Calls Try.prog 12 #[.pointer (some ⟨gm, 0, none⟩)] w fun e w' => e = .returned (.tuple #[.int .i64 x, .int .i64 0]) ∧ RefAt w' gm room (taken + 1) A c xs ∧ Chg w w' (fun k => gm ≤ k) := by
  obtain ⟨hlt, hxe⟩ := List.getElem?_eq_some_iff.1 hx
  have c1 := h.head.cell 1
  have c2 := h.head.cell 2
  simp only [List.getElem?_toArray, List.getElem?_cons_succ, List.getElem?_cons_zero] at c1 c2
  have f2 := h.head.frozen 2
  have hle := h.le
  have hsm := h.small
  obtain ⟨b, rfl, hb1, hb2, cc⟩ := h.row.cell hlt
  rw [hxe] at cc
  have g0 : ((taken : Int) == (xs.length : Int)) = false := by simp; omega
  have fin : ∀ n m : Nat, ∃ W, W = (w.drewN n).setCell ⟨gm, 2, none⟩ (.int .i64 ((taken : Int) + 1)) ∧ RefAt (W.drewN m) gm room (taken + 1) (some ⟨b, 0, none⟩) c xs ∧ Chg w (W.drewN m) (fun k => gm ≤ k) := by
    intro n m
    have kk : Chg (w.drewN n) ((w.drewN n).setCell ⟨gm, 2, none⟩ (.int .i64 ((taken : Int) + 1))) (fun k => k = gm) := Chg.set _ _ _ rfl
    refine ⟨_, rfl, RefAt.drewN ⟨?_, (h.row.drewN n).chg kk (fun b hb s => by have := (h.row.lt b hb).1; have s' : b = gm := s; omega), by omega, hsm, h.one⟩ m, Chg.drewN (((Chg.refl w _).drewN n).trans (kk.weak (fun i hi => by have hi' : i = gm := hi; omega))) m⟩
    have := (h.head.drewN n).put 2 (.int .i64 ((taken : Int) + 1))
    simpa using this
  have FIN := Lib.hid fin
  have ht : (taken : Int) < (xs.length : Int) := by omega
  have ht0 : (0 : Int) ≤ (taken : Int) := by omega
  have hw0 : IntKind.i64.wrap (taken : Int) = (taken : Int) := IntWalk.i64_in _ (by omega)
  have hw1 : IntKind.i64.wrap ((taken : Int) + 1 - 1) = (taken : Int) := by rw [Int.add_sub_cancel]; exact hw0
  have hbm : gm ≠ b := by omega
  have hcap := h.row.own.2
  clear fin h hx hxe hcap
  go_enter Try.func12, Try.ntmps12
  go_wp2_with fail
  go_quiet (fail)
  generalize nq = nq1 at *
  go_wp2_with fail
  go_quiet (fail)
  go_wp2
  go_ret2
  obtain ⟨W, rfl, r1, r2⟩ := FIN.out nq1 nq
  exact ⟨rfl, r1, r2⟩
theorem refTake_empty (gm room : Nat) (A : Option Addr) (c : Nat) (xs : List Value) (w : World) (h : RefAt w gm room xs.length A c xs) :
    Calls Try.prog 12 #[.pointer (some ⟨gm, 0, none⟩)] w fun e w' => e = .returned (.tuple #[.int .i64 0, .int .i64 11]) ∧ ∃ m, w' = w.drewN m := by
  have c1 := h.head.cell 1
  have c2 := h.head.cell 2
  simp only [List.getElem?_toArray, List.getElem?_cons_succ, List.getElem?_cons_zero] at c1 c2
  clear h
  go_enter Try.func12, Try.ntmps12
  go_wp2_with fail
  go_quiet (fail)
  go_wp2
  go_ret2
  exact ⟨rfl, _, rfl⟩

theorem refAt_ok (gm room taken : Nat) (A : Option Addr) (c : Nat) (xs : List Value) (t : Nat) (x : Int) (w : World) (h : RefAt w gm room taken A c xs) (h1 : taken ≤ t) (hx : xs[t]? = some (.int .i64 x)) :
    Calls Try.prog 14 #[.pointer (some ⟨gm, 0, none⟩), .int .i64 (t : Int)] w fun e w' => e = .returned (.tuple #[.int .i64 x, .int .i64 0]) ∧ w' = w := by
  obtain ⟨hlt, hxe⟩ := List.getElem?_eq_some_iff.1 hx
  have c1 := h.head.cell 1
  have c2 := h.head.cell 2
  simp only [List.getElem?_toArray, List.getElem?_cons_succ, List.getElem?_cons_zero] at c1 c2
  obtain ⟨b, rfl, hb1, hb2, cc⟩ := h.row.cell hlt
  rw [hxe] at cc
  have g1 : ¬ (t : Int) < (taken : Int) := by omega
  have g2 : ¬ (t : Int) ≥ (xs.length : Int) := by omega
  have g3 : (t : Int) < (xs.length : Int) := by omega
  have g4 : (0 : Int) ≤ (t : Int) := by omega
  have hsm := h.small
  clear h hx hxe
  go_enter Try.func14, Try.ntmps14
  go_wp2
  go_ret2
  exact ⟨rfl, rfl⟩
theorem refAt_no (gm room taken : Nat) (A : Option Addr) (c : Nat) (xs : List Value) (t : Int) (w : World) (h : RefAt w gm room taken A c xs) (ht : t < (taken : Int) ∨ (xs.length : Int) ≤ t) :
    Calls Try.prog 14 #[.pointer (some ⟨gm, 0, none⟩), .int .i64 t] w fun e w' => e = .returned (.tuple #[.int .i64 0, .int .i64 11]) ∧ w' = w := by
  have c1 := h.head.cell 1
  have c2 := h.head.cell 2
  simp only [List.getElem?_toArray, List.getElem?_cons_succ, List.getElem?_cons_zero] at c1 c2
  clear h
  by_cases g1 : t < (taken : Int)
  · clear ht
    go_enter Try.func14, Try.ntmps14
    go_wp2
    go_ret2
    exact ⟨rfl, rfl⟩
  · have g2 : t ≥ (xs.length : Int) := by omega
    clear ht
    go_enter Try.func14, Try.ntmps14
    go_wp2
    go_ret2
    exact ⟨rfl, rfl⟩
end Go.Proofs.Ytngheacdabjbaaa
