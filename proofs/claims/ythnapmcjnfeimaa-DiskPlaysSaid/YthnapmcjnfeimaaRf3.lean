/- The document's New. Conditions: those that each states. -/
import Derived.Test.YthnapmcjnfeimaaRf2
import Derived.Deep.AppendLies
namespace Go.Proofs.Ythnapmcjnfeimaa.RD
open Go.ChangeShapes Go.WideShapes Go.ChangeAt Go.RowKit Go.Deep Di
set_option linter.unusedVariables false

theorem int_info : (Try.prog.info? 3).map (fun i => (i.zero, i.size, i.bytes)) = some (some (.int .i64 0), 1, 8) := by kernel_rfl
theorem str_info : (Try.prog.info? 9).map (fun i => (i.zero, i.size, i.bytes)) = some (some (.string ⟨#[]⟩), 1, 16) := by kernel_rfl

theorem s_info : ∃ i0, Try.prog.info? 9 = some i0 ∧ i0.zero = some (.string ⟨#[]⟩) ∧ i0.size = 1 ∧ i0.bytes = 16 := by
  obtain ⟨i, hi, hs⟩ := Option.map_eq_some_iff.1 str_info
  simp at hs
  exact ⟨i, hi, hs.1, hs.2.1, hs.2.2⟩
theorem i_info : ∃ i0, Try.prog.info? 3 = some i0 ∧ i0.zero = some (.int .i64 0) ∧ i0.size = 1 ∧ i0.bytes = 8 := by
  obtain ⟨i, hi, hs⟩ := Option.map_eq_some_iff.1 int_info
  simp at hs
  exact ⟨i, hi, hs.1, hs.2.1, hs.2.2⟩
theorem one_int (x : Int) : ∀ u ∈ ([.int .i64 x] : List Value), u.oneCell' = true := fun u hu => by rw [List.mem_singleton.1 hu]; rfl
theorem one_str (x : ByteArray) : ∀ u ∈ ([.string x] : List Value), u.oneCell' = true := fun u hu => by rw [List.mem_singleton.1 hu]; rfl

/-- A row with its length in a letter. -/
structure RowN (w : World) (B : Nat) (E : TypeId) (A : Option Addr) (n c : Nat) (xs : List Value) : Prop where
  own : w.ownsRow B E 1 (.slice A n c) n xs
section
variable {w w' : World} {B : Nat} {E : TypeId} {A : Option Addr} {n c : Nat} {xs : List Value} {S : Nat → Prop}
theorem RowN.lt (h : RowN w B E A n c xs) : ∀ b, inB A b → B ≤ b ∧ b < w.heap.size := by
  intro b hb
  have hb' := inB_own (n := n) (c := c).2 hb
  exact h.own.lt b hb'
theorem RowN.same (h : RowN w B E A n c xs) (k : ∀ b, inB A b → w'.heap[b]? = w.heap[b]?) : RowN w' B E A n c xs := by
  refine ⟨⟨h.own.1, ?_⟩⟩
  rcases h.own.2 with hl | ⟨g, cap, cur, e, hg, hh, r⟩
  · exact .inl hl
  · refine .inr ⟨g, cap, cur, e, hg, ?_, r⟩
    rw [k g (by injection e with e1; rw [e1]; rfl)]
    exact hh
theorem RowN.chg (h : RowN w B E A n c xs) (k : Chg w w' S) (hn : ∀ b, inB A b → ¬ S b) : RowN w' B E A n c xs := h.same fun b hb => k.block b (h.lt b hb).2 (hn b hb)
theorem RowN.new (h : RowN w B E A n c xs) (k : Below w.heap.size w w') : RowN w' B E A n c xs := h.same fun b hb => k.block b (h.lt b hb).2
theorem RowN.drewN (h : RowN w B E A n c xs) (m : Nat) : RowN (w.drewN m) B E A n c xs := h.same fun _ _ => rfl
theorem RowN.nil (w : World) (B : Nat) (E : TypeId) : RowN w B E none 0 0 [] := ⟨World.ownsRow_nil w B E 1⟩
end


theorem rep_succ (n : Nat) (u : Value) : List.replicate n u ++ [u] = List.replicate (n + 1) u := by rw [List.replicate_succ']
def zb : ByteArray := ⟨zeros.toArray⟩
/-- The document's disk while it is made. -/
structure New2 (w : World) (gm nb no : Nat) (Ab : Option Addr) (cb : Nat) (Ao : Option Addr) (co : Nat) : Prop where
  head : Blk w gm 40 #[.slice Ab nb cb, .slice Ao no co, .slice none 0 0, .bool false, .int .i64 (-1)]
  rb : RowN w (gm + 1) 9 Ab nb cb (List.replicate nb (.string zb))
  ro : RowN w (gm + 1) 3 Ao no co (List.replicate no (.int .i64 0))
  ob : Apart Ab Ao
section
variable {w w1 w' : World} {gm nb no cb co g cap : Nat} {Ab Ao : Option Addr}
theorem New2.drewN (h : New2 w gm nb no Ab cb Ao co) (n : Nat) : New2 (w.drewN n) gm nb no Ab cb Ao co := ⟨h.head, h.rb.drewN n, h.ro.drewN n, h.ob⟩
theorem New2.stepB (h : New2 w gm nb no Ab cb Ao co) (hb : Below w.heap.size w w1) {H : Nat} (hz : w.heap.size ≤ H) (hg : w1.grownBy w' (Value.slice Ab nb cb).ownBlock) (hat : (Value.slice Ab nb cb).ownBlock = some g ∨ g = H)
    (hown : w'.ownsRow (gm + 1) 9 1 (.slice (some ⟨g, 0, none⟩) (nb + 1) cap) (nb + 1) (List.replicate nb (.string zb) ++ [.string zb])) :
    Blk w' gm 40 #[.slice Ab nb cb, .slice Ao no co, .slice none 0 0, .bool false, .int .i64 (-1)] ∧ ∀ m, New2 ((w'.setCell ⟨gm, 0, none⟩ (.slice (some ⟨g, 0, none⟩) (nb + 1) cap)).drewN m) gm (nb + 1) no (some ⟨g, 0, none⟩) cap Ao co ∧ Chg w ((w'.setCell ⟨gm, 0, none⟩ (.slice (some ⟨g, 0, none⟩) (nb + 1) cap)).drewN m) (fun k => gm ≤ k) := by
  rw [rep_succ] at hown
  have k := chg_of_grown hb hg
  have ha := at_of hz hat
  have hne : ¬ inB Ab gm := fun e => by have := (h.rb.lt gm e).1; omega
  have b1 := h.head.chg k hne
  have r0 : RowN w' (gm + 1) 9 (some ⟨g, 0, none⟩) (nb + 1) cap _ := ⟨hown⟩
  have ro := h.ro.chg k (fun b hb e => h.ob b e hb)
  refine ⟨b1, fun m => ?_⟩
  have ks : Chg w' (w'.setCell ⟨gm, 0, none⟩ (.slice (some ⟨g, 0, none⟩) (nb + 1) cap)) (fun k => k = gm) := Chg.set _ _ _ rfl
  refine ⟨New2.drewN ⟨b1.put 0 _, r0.chg ks (fun b hb e => by have := (r0.lt b hb).1; have e' : b = gm := e; omega), ro.chg ks (fun b hb e => by have := (ro.lt b hb).1; have e' : b = gm := e; omega), h.ob.new (fun b hb => (h.ro.lt b hb).2) ha⟩ m, Chg.drewN ?_ m⟩
  exact (k.weak (fun i hi => by have := (h.rb.lt i hi).1; omega)).trans (ks.weak (fun i hi => by have hi' : i = gm := hi; omega))
theorem New2.stepO (h : New2 w gm nb no Ab cb Ao co) (hb : Below w.heap.size w w1) {H : Nat} (hz : w.heap.size ≤ H) (hg : w1.grownBy w' (Value.slice Ao no co).ownBlock) (hat : (Value.slice Ao no co).ownBlock = some g ∨ g = H)
    (hown : w'.ownsRow (gm + 1) 3 1 (.slice (some ⟨g, 0, none⟩) (no + 1) cap) (no + 1) (List.replicate no (.int .i64 0) ++ [.int .i64 0])) :
    Blk w' gm 40 #[.slice Ab nb cb, .slice Ao no co, .slice none 0 0, .bool false, .int .i64 (-1)] ∧ ∀ m, New2 ((w'.setCell ⟨gm, 1, none⟩ (.slice (some ⟨g, 0, none⟩) (no + 1) cap)).drewN m) gm nb (no + 1) Ab cb (some ⟨g, 0, none⟩) cap ∧ Chg w ((w'.setCell ⟨gm, 1, none⟩ (.slice (some ⟨g, 0, none⟩) (no + 1) cap)).drewN m) (fun k => gm ≤ k) := by
  rw [rep_succ] at hown
  have k := chg_of_grown hb hg
  have ha := at_of hz hat
  have hne : ¬ inB Ao gm := fun e => by have := (h.ro.lt gm e).1; omega
  have b1 := h.head.chg k hne
  have r0 : RowN w' (gm + 1) 3 (some ⟨g, 0, none⟩) (no + 1) cap _ := ⟨hown⟩
  have rb := h.rb.chg k (fun b hb e => h.ob b hb e)
  refine ⟨b1, fun m => ?_⟩
  have ks : Chg w' (w'.setCell ⟨gm, 1, none⟩ (.slice (some ⟨g, 0, none⟩) (no + 1) cap)) (fun k => k = gm) := Chg.set _ _ _ rfl
  refine ⟨New2.drewN ⟨b1.put 1 _, rb.chg ks (fun b hb e => by have := (rb.lt b hb).1; have e' : b = gm := e; omega), r0.chg ks (fun b hb e => by have := (r0.lt b hb).1; have e' : b = gm := e; omega), (h.ob.symm.new (fun b hb => (h.rb.lt b hb).2) ha).symm⟩ m, Chg.drewN ?_ m⟩
  exact (k.weak (fun i hi => by have := (h.ro.lt i hi).1; omega)).trans (ks.weak (fun i hi => by have hi' : i = gm := hi; omega))
theorem New2.done {n : Nat} (h : New2 w gm n n Ab cb Ao co) (h1 : 1 ≤ n) (h2 : n ≤ 512) : ∃ bt bo, RefAt w gm bt bo cb co none 0 (newD n) ∧ gm ≤ bt ∧ gm ≤ bo := by
  obtain ⟨bb, c1, e1, g1, _⟩ := h.rb.own.form (by omega)
  obtain ⟨bo, c2, e2, g2, _⟩ := h.ro.own.form (by omega)
  cases e1
  cases e2
  have ho := h.ro.own
  have hb := h.rb.own
  have e1 : (newD n).blocks.length = n := List.length_replicate
  refine ⟨bb, bo, ⟨?_, ?_, ?_, RowW.nil _ _ _, by omega, by omega, fun e => h.ob bb rfl (by rw [e]; rfl), inB_none _, inB_none _, inB_none _, newD_ok h1 h2⟩, by omega, by omega⟩
  · rw [e1]; exact h.head
  · have := Heads.of_row hb
    show Heads _ _ _ (textsD (List.replicate n zeros))
    unfold textsD
    rw [List.map_replicate]; exact this
  · have := Heads.of_row ho
    show Heads _ _ _ (ownsD (List.replicate n 0))
    unfold ownsD
    rw [List.map_replicate]; exact this
end

set_option maxRecDepth 100000 in
set_option maxHeartbeats 2000000 in
theorem rnew_any (n : Nat) (h1 : 1 ≤ n) (h2 : n ≤ 512) (w : World) :
    Calls Try.prog 7 #[.int .i64 (n : Int)] w fun e w' => e = .returned (.pointer (some ⟨w.heap.size, 0, none⟩)) ∧ (∃ R, RA w' R w.heap.size (newD n) ∧ ∀ k, R k → w.heap.size ≤ k) ∧ Below w.heap.size w w' := by
  have k0 := Lib.hid (show New2 (w.alloc (.cells #[.slice none 0 0, .slice none 0 0, .slice none 0 0, .bool false, .int .i64 (-1)] 40)) w.heap.size 0 0 none 0 none 0 from
    ⟨Blk.new w _ _, RowN.nil _ _ _, RowN.nil _ _ _, fun b h => by simp [inB] at h⟩)
  have b0 := Lib.hid ((Below.refl w.heap.size w).alloc (Nat.le_refl _) (.cells #[.slice none 0 0, .slice none 0 0, .slice none 0 0, .bool false, .int .i64 (-1)] 40))
  generalize hgm : w.heap.size = gm at *
  have HGM := Lib.hid hgm
  clear hgm
  obtain ⟨is, hsi, hs0, hs1, hs2⟩ := s_info
  obtain ⟨ii, hii, hi0, hi1, hi2⟩ := i_info
  have INF := Lib.hid (And.intro hsi (And.intro hs0 (And.intro hs1 (And.intro hs2 (And.intro hii (And.intro hi0 (And.intro hi1 hi2)))))))
  clear hsi hs0 hs1 hs2 hii hi0 hi1 hi2
  have mk := fun W => make256 W
  have tl := fun W => told_str (made256 W)
  have ez : (⟨(List.replicate 256 (0 : UInt8)).toArray⟩ : ByteArray) = zb := rfl
  rw [ez] at tl
  clear ez
  generalize madeCells #[.int .u8 0] 256 = Z at *
  go_enter Try.func7, Try.ntmps7
  go_wp2
  rw [HGM.out]
  go_loopw [4] (fun i wr => ∃ (j : Nat) (Ab : Option Addr) (cb : Nat) (Ao : Option Addr) (co : Nat), j ≤ n ∧ i = .int .i64 (j : Int) ∧ New2 wr gm j j Ab cb Ao co ∧ Below gm w wr) (fun i _ => n - (intOf i).toNat)
  case atStart => exact ⟨0, none, 0, none, 0, Nat.zero_le _, rfl, k0.out, b0.out⟩
  case round =>
    clear k0 b0
    obtain ⟨j, Ab, cb, Ao, co, hj, rfl, hN, hbel⟩ := hrel
    have HN := Lib.hid hN
    have HB := Lib.hid hbel
    have hgl : gm < wr.heap.size := hN.head.lt
    by_cases hlt : j < n
    · have hlt' : (j : Int) < (n : Int) := by omega
      have xj := IntWalk.i64_in ((j : Int) + 1) (by omega)
      have c0 : wr.cell? ⟨gm, 0, none⟩ = some (.slice Ab j cb) := hN.head.cell 0
      have d0 : wr.drew.cell? ⟨gm, 0, none⟩ = some (.slice Ab j cb) := hN.head.cell 0
      have TL : (convert 46 9 (.slice (some ⟨wr.heap.size, 0, none⟩) 256 256)).run Try.prog (wr.alloc (.cells Z 5)).drew = .ok (.string zb) (wr.alloc (.cells Z 5)).drew := tl wr.drew
      have hba1 : Below wr.heap.size wr (wr.alloc (.cells Z 5)).drew :=
        (show Below wr.heap.size wr wr.drew from ⟨rfl, rfl, rfl, Nat.le_refl _, fun _ _ => rfl⟩).alloc (Nat.le_refl _) _
      have hba : Below wr.heap.size wr ((wr.alloc (.cells Z 5)).alloc (.cells #[.string zb] 9)).drew :=
        hba1.alloc (by show wr.heap.size ≤ (wr.alloc _).heap.size; simp) _
      have c1 : (wr.alloc (.cells Z 5)).drew.cell? ⟨gm, 0, none⟩ = some (.slice Ab j cb) := (hN.head.chg (Chg.of_new hba1 (fun _ => False)) (fun s => s.elim)).cell 0
      have c2 : ((wr.alloc (.cells Z 5)).alloc (.cells #[.string zb] 9)).drew.cell? ⟨gm, 0, none⟩ = some (.slice Ab j cb) := (hN.head.chg (Chg.of_new hba (fun _ => False)) (fun s => s.elim)).cell 0
      have HBA := Lib.hid hba
      have ONE := Lib.hid (show ((wr.alloc (.cells Z 5)).alloc (.cells #[.string zb] 9)).drew.cell? ⟨wr.heap.size + 1, 0, none⟩ = some (.string zb) from by
        have := (Blk.new (wr.alloc (.cells Z 5)) 9 #[.string zb]).cell 0
        rw [show (wr.alloc (.cells Z 5)).heap.size = wr.heap.size + 1 by simp] at this
        exact this)
      clear hN hbel hba hba1 tl
      go_wp2_with fail
      have HSZ := Lib.hid (show ((wr.alloc (.cells Z 5)).alloc (.cells #[.string zb] 9)).drew.heap.size = wr.heap.size + 1 + 1 from by show ((wr.alloc _).alloc _).heap.size = _; simp)
      have ONE2 := Lib.hid (show ∀ (i : Nat) (u : Value), ([.string zb] : List Value)[i]? = some u → ((wr.alloc (.cells Z 5)).alloc (.cells #[.string zb] 9)).drew.cell? ((⟨wr.heap.size + 1, 0, none⟩ : Addr).add i) = some u from World.news_of_block (B := wr.heap.size + 1) (cs := #[.string zb]) (by
        have := (Blk.new (wr.alloc (.cells Z 5)) 9 #[.string zb])
        rw [show (wr.alloc (.cells Z 5)).heap.size = wr.heap.size + 1 by simp] at this
        exact this))
      go_region_law
        ((refine step_append_lies _ rfl (.tmp 16) (.tmp 19) 36 rfl (gm + 1) 9 is (.string ⟨#[]⟩) 1 16 Try.underlying36 INF.out.1 INF.out.2.1 INF.out.2.2.1 INF.out.2.2.2.1 rfl (by decide) _ j (List.replicate j (.string zb)) rfl (HN.out.rb.new HBA.out).own ⟨wr.heap.size + 1, 0, none⟩ 1 1 [.string zb] rfl rfl ONE2.out (one_str zb) (by decide) (by unfold maxLen; omega) (by omega) (by rw [HSZ.out]; omega) (wr.heap.size + 1 + 1) HSZ.out ?_
          intro g3 cap3 w5 hown hgrow hat hlg3
          have hs2 := HN.out.stepB HBA.out (by omega) hgrow hat hown
          have c5 : w5.cell? ⟨gm, 0, none⟩ = some (.slice Ab j cb) := hs2.1.cell 0
          have f5 := hs2.1.frozen 0
          have HS2 := Lib.hid hs2
          clear hs2 hown hgrow hat))
      all_goals
        have HN1 := Lib.hid (HS2.out.2 0).1
        have HB1 := Lib.hid (HB.out.trans ((HS2.out.2 0).2.below (by omega) (fun i hi => hi)))
        rw [World.drewN_zero] at HN1 HB1
        clear HN HB HS2 c0 d0 c1 c2 TL HSZ ONE2 ONE
        go_upto_region 6 with fail
        generalize (w5.setCell ⟨gm, 0, none⟩ (.slice (some ⟨g3, 0, none⟩) (j + 1) cap3)) = w2 at *
        have hgl2 : gm < w2.heap.size := HN1.out.head.lt
        have c0 : w2.cell? ⟨gm, 1, none⟩ = some (.slice Ao j co) := HN1.out.head.cell 1
        clear c5 f5
        go_wp2_with (at_builtin; refine Hid.out ?_)
        unfold Hid
        refine wpList_append_lies _ rfl (.tmp 27) (.tmp 28) 37 rfl (gm + 1) 3 ii (.int .i64 0) 1 8 Try.underlying37 INF.out.2.2.2.2.1 INF.out.2.2.2.2.2.1 INF.out.2.2.2.2.2.2.1 INF.out.2.2.2.2.2.2.2 rfl (by decide) _ j (List.replicate j (.int .i64 0)) rfl (HN1.out.ro.new ((Below.refl _ w2).alloc (Nat.le_refl _) _)).own ⟨w2.heap.size, 0, none⟩ 1 1 [.int .i64 0] rfl rfl (cell_one_new _ _ _) (one_int 0) (by decide) (by unfold maxLen; omega) (by omega) (by simp; omega) (w2.heap.size + 1) (by simp) ?_
        intro g2 cap2 w3 hown hgrow hat hlg2
        obtain ⟨hd1, hn1⟩ := HN1.out.stepO ((Below.refl _ w2).alloc (Nat.le_refl _) (.cells #[.int .i64 0] 3)) (Nat.le_succ _) hgrow hat hown
        have c1 : w3.cell? ⟨gm, 1, none⟩ = some (.slice Ao j co) := hd1.cell 1
        have f1 := hd1.frozen 1
        have HN2 := Lib.hid (hn1 0).1
        have HB2 := Lib.hid (HB1.out.trans ((hn1 0).2.below (by omega) (fun i hi => hi)))
        rw [World.drewN_zero] at HN2 HB2
        clear hown hgrow hat hd1 hn1 c0 HN1 HB1
        go_wp2
        go_roundw
        case rel => exact ⟨j + 1, _, _, _, _, by omega, by simp, HN2.out, HB2.out⟩
        case measure => simp [intOf]; omega
    · have hge : ¬ (j : Int) < (n : Int) := by omega
      obtain rfl : j = n := by omega
      clear hN hbel
      go_wp2
      go_ret
      obtain ⟨bt, bo, r, hbt, hbo⟩ := HN.out.done h1 h2
      exact ⟨rfl, ⟨_, r.ra, fun k hk => by
        rcases hk with e | e | e | e
        · omega
        · omega
        · omega
        · exact absurd e (inB_none _)⟩, HB.out⟩
end Go.Proofs.Ythnapmcjnfeimaa.RD
