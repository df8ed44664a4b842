/- Package store: slices.Clone of files; slices.Insert of one at the end. Conditions: those that each states. -/
import Derived.Test.YtefnkednnnlhoaaGreatDoorMBE
import Derived.Test.YtefnkednnnlhoaaGreatDoorMBB
namespace Go.Proofs.YtefnkednnnlhoaaGreatDoor.Sr
open Go.ChangeShapes Go.WideShapes Go.ChangeAt Go.RowKit Go.Deep Fr Di Ke Rk
set_option linter.unusedVariables false
set_option linter.unusedSimpArgs false

theorem lst_info : ∃ i0 z, Tryz.prog.info? 58 = some i0 ∧ i0.zero = some z ∧ z.cells.size = 7 ∧ i0.size = 7 ∧ i0.bytes = 96 := by
  obtain ⟨i, hi, hs⟩ := Option.map_eq_some_iff.1 (show (Tryz.prog.info? 58).map (fun i => (i.zero.map (·.cells.size), i.size, i.bytes)) = some (some 7, 7, 96) by kernel_rfl)
  simp only [Prod.mk.injEq] at hs
  obtain ⟨h0, h1, h2⟩ := hs
  obtain ⟨z, hz, hzs⟩ := Option.map_eq_some_iff.1 h0
  exact ⟨i, z, hi, hz, hzs, h1, h2⟩
theorem vl_one (l : List Lf) : ∀ u ∈ vl l, u.oneCell' = true := by
  intro u hu
  simp only [vl, List.mem_flatMap] at hu
  obtain ⟨x, _, hx⟩ := hu
  simp only [Lf.vals, List.mem_cons, List.not_mem_nil, or_false] at hx
  rcases hx with rfl | rfl | rfl | rfl | rfl | rfl | rfl <;> rfl

set_option maxRecDepth 100000 in
set_option maxHeartbeats 2000000 in
theorem clone_files (A : Option Addr) (c : Nat) (l : List Lf) (w : World) (h : RowG w 7 A l.length c (vl l)) (hz : A = none ∨ 0 < l.length) (hm : l.length ≤ 1000) :
    Calls Tryz.prog 39 #[.slice A l.length c] w fun e w' => ∃ A' c', e = .returned (.slice A' l.length c') ∧ RowW w' 58 7 A' l.length c' (vl l) ∧ (∀ b, inB A' b → w.heap.size ≤ b) ∧ Below w.heap.size w w' := by
  have hvl := vl_length l
  cases A with
  | none =>
    obtain ⟨h0, hc⟩ := h.none_ rfl
    have hd : l = [] := List.length_eq_zero_iff.1 h0
    subst hd hc
    have he : ∀ W, (binOp .eql 50 (.slice none 0 0) (.slice none 0 0)).run Tryz.prog W = .ok (.bool (none : Option Addr).isNone) W := fun W => Lib.run_eql_slice_nil W 50 58 none 0 0 0 0 Tryz.underlying50
    have he := fun W => (he W).trans (congrArg (fun b => Result.ok (Value.bool b) W) (show (none : Option Addr).isNone = true from rfl))
    have h0 : Calls Tryz.prog 39 #[.slice none 0 0] w fun e w' => e = .returned (.slice none 0 0) ∧ w' = w := by
      go_enter Tryz.func39, Tryz.ntmps39
      go_wp2
      go_ret
      exact ⟨rfl, rfl⟩
    refine h0.mono ?_
    rintro e w' ⟨rfl, rfl⟩
    exact ⟨none, 0, rfl, RowW.nil _ _ _, fun b hb => (inB_none b hb).elim, Below.refl _ _⟩
  | some ad =>
    have hp : 0 < l.length := hz.resolve_left (fun e => by cases e)
    have he : ∀ W, (binOp .eql 50 (.slice (some ad) l.length c) (.slice none 0 0)).run Tryz.prog W = .ok (.bool (some ad).isNone) W := fun W => Lib.run_eql_slice_nil W 50 58 (some ad) l.length c 0 0 Tryz.underlying50
    have he := fun W => (he W).trans (congrArg (fun b => Result.ok (Value.bool b) W) (show (some ad).isNone = false from rfl))
    have b0 := (Below.refl w.heap.size w).alloc (Nat.le_refl _) (.cells #[] 58)
    have B0 := Lib.hid b0
    have hown := Lib.hid (World.ownsRow_lit (base := w.heap.size) (e := 58) (size := 7) w #[] 0 (Nat.le_refl _) (by decide) rfl)
    have NW := Lib.hid (show ∀ j u, (vl l)[j]? = some u → (w.alloc (.cells #[] 58)).cell? (ad.add j) = some u from fun j u hu => by
      obtain ⟨hj, e⟩ := List.getElem?_eq_some_iff.1 hu
      obtain ⟨h3, h1, h2⟩ := (h.new b0).at_ ad rfl hp
      have ea : ad.add j = ⟨ad.block, ad.off + j, none⟩ := add_of h3 j
      rw [ea, h2 j hj, e])
    have HV := Lib.hid hvl
    obtain ⟨i0, z0, inf⟩ := lst_info
    have INF := Lib.hid inf
    clear h b0 hvl inf
    go_enter Tryz.func39, Tryz.ntmps39
    go_wp2_with (at_builtin; refine Hid.out ?_)
    unfold Hid
    refine wpList_plain rfl fun K hK => ?_
    refine wp_append_d rfl (.tmp 5) (.tmp 6) 50 rfl w.heap.size 58 i0 z0 7 96 Tryz.underlying50 INF.out.1 INF.out.2.1 INF.out.2.2.2.1 INF.out.2.2.2.2 INF.out.2.2.1 (by decide) _ 0 [] rfl hown.out ad l.length c (vl l) rfl HV.out NW.out (vl_one l) hp (by unfold maxLen; omega) (by omega) B0.out.size ?_
    intro g cap w' o' k' at' _
    refine hK _ _ ?_
    rw [Nat.zero_add, List.nil_append] at o'
    have hge : w.heap.size ≤ g := at'.elim (fun e => by have := inB_some (inB_own.1 e); omega) (fun e => by rw [e]; exact B0.out.size)
    have O1 := Lib.hid (show RowW w' 58 7 (some ⟨g, 0, none⟩) l.length cap (vl l) from ⟨by
      rcases o'.2 with ⟨e, _⟩ | ⟨g1, cap1, cur, e, hb, rest⟩
      · cases e
      · exact ⟨o'.1, .inr ⟨g1, cap1, cur, e, Nat.zero_le _, rest⟩⟩⟩)
    have B1 := Lib.hid (show Below w.heap.size w w' from B0.out.trans ⟨k'.os, k'.tape, k'.output, k'.size, fun i hi => k'.block i (Nat.lt_of_lt_of_le hi B0.out.size) (fun e => by have := inB_some (inB_own.1 e.symm); omega)⟩)
    have G1 := Lib.hid (show ∀ b, inB (some ⟨g, 0, none⟩) b → w.heap.size ≤ b from fun b e => by rw [inB_some e]; exact hge)
    clear o' k' at' hown NW he hK hge
    rw [Nat.zero_add]
    go_wp2
    go_ret
    exact ⟨_, _, rfl, O1.out, G1.out, B1.out⟩

set_option maxRecDepth 100000 in
set_option maxHeartbeats 2000000 in
theorem insert_end (A : Option Addr) (n c : Nat) (xs : List Value) (w : World) (h : RowW w 58 7 A n c xs) (hn : n ≤ 1000) (hc : n ≤ c) (ad : Addr) (us : List Value) (hl : us.length = 7) (hnew : ∀ j u, us[j]? = some u → w.cell? (ad.add j) = some u) (h1 : ∀ u ∈ us, u.oneCell' = true) :
    Calls Tryz.prog 40 #[.slice A n c, .int .i64 (n : Int), .slice (some ad) 1 1] w fun e w' => ∃ g' c', e = .returned (.slice (some ⟨g', 0, none⟩) (n + 1) c') ∧ RowW w' 58 7 (some ⟨g', 0, none⟩) (n + 1) c' (xs ++ us) ∧ (inB A g' ∨ w.heap.size ≤ g') ∧ Chg w w' (fun k => inB A k) := by
  have H := Lib.hid h.own
  have NW := Lib.hid hnew
  have H1 := Lib.hid h1
  obtain ⟨V, C1⟩ : ∃ V, ∀ W, (Instr.slice 50 (.slice A n c) (some (.int .i64 (n : Int))) none none).run Tryz.prog W = .ok V W := ⟨_, fun W => cut1_f A n c n (Nat.le_refl _) W⟩
  obtain ⟨i0, z0, inf⟩ := lst_info
  have INF := Lib.hid inf
  clear h hnew h1 inf
  go_enter Tryz.func40, Tryz.ntmps40
  go_wp2_with (at_builtin; refine Hid.out ?_)
  unfold Hid
  refine wpList_plain rfl fun K hK => ?_
  refine wp_append_d rfl (.tmp 23) (.tmp 24) 50 rfl 0 58 i0 z0 7 96 Tryz.underlying50 INF.out.1 INF.out.2.1 INF.out.2.2.2.1 INF.out.2.2.2.2 INF.out.2.2.1 (by decide) _ n xs rfl H.out ad 1 1 us rfl (by rw [hl]) NW.out H1.out (by decide) (by unfold maxLen; omega) (by omega) (Nat.zero_le _) ?_
  intro g cap w' o' k' at' _
  refine hK _ _ ?_
  have O1 := Lib.hid (show RowW w' 58 7 (some ⟨g, 0, none⟩) (n + 1) cap (xs ++ us) from ⟨o'⟩)
  have K1 := Lib.hid (chg_of_grown (Below.refl w.heap.size w) k')
  have A1 := Lib.hid (at_of (Nat.le_refl _) at')
  clear o' k' at' hK C1
  go_wp2
  go_ret
  exact ⟨_, _, rfl, O1.out, A1.out, K1.out⟩
end Go.Proofs.YtefnkednnnlhoaaGreatDoor.Sr
