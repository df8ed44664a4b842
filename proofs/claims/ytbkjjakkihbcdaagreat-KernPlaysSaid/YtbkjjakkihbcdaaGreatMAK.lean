/- The document's New. Conditions: those that each states. -/
import Derived.Test.YtbkjjakkihbcdaaGreatMAJ
import Derived.Deep.AppendLies
namespace Go.Proofs.YtbkjjakkihbcdaaGreat.RE
open Go.ChangeShapes Go.WideShapes Go.ChangeAt Go.RowKit Go.Deep Di
set_option linter.unusedVariables false

theorem int_info : (Tryz.prog.info? 3).map (fun i => (i.zero, i.size, i.bytes)) = some (some (.int .i64 0), 1, 8) := by kernel_rfl
theorem str_info : (Tryz.prog.info? 9).map (fun i => (i.zero, i.size, i.bytes)) = some (some (.string ⟨#[]⟩), 1, 16) := by kernel_rfl

theorem s_info : ∃ i0, Tryz.prog.info? 9 = some i0 ∧ i0.zero = some (.string ⟨#[]⟩) ∧ i0.size = 1 ∧ i0.bytes = 16 := by
 obtain ⟨i, hi, hs⟩ := Option.map_eq_some_iff.1 str_info
 simp at hs
 exact ⟨i, hi, hs.1, hs.2.1, hs.2.2⟩
theorem i_info : ∃ i0, Tryz.prog.info? 3 = some i0 ∧ i0.zero = some (.int .i64 0) ∧ i0.size = 1 ∧ i0.bytes = 8 := by
 obtain ⟨i, hi, hs⟩ := Option.map_eq_some_iff.1 int_info
 simp at hs
 exact ⟨i, hi, hs.1, hs.2.1, hs.2.2⟩
theorem one_int (x : Int) : ∀ u ∈ ([.int .i64 x] : List Value), u.oneCell' = true := fun u hu => by rw [List.mem_singleton.1 hu]; rfl
theorem one_str (x : ByteArray) : ∀ u ∈ ([.string x] : List Value), u.oneCell' = true := fun u hu => by rw [List.mem_singleton.1 hu]; rfl

structure RowN (w : World) (B : Nat) (E : TypeId) (A : Option Addr) (n c : Nat) (xs : List Value) : Prop where
 own : w.ownsRow B E 1 (.slice A n c) n xs
section
variable {w w' : World} {B : Nat} {E : TypeId} {A : Option Addr} {n c : Nat} {xs : List Value} {S : Nat → Prop}
theorem RowN.lt (h : RowN w B E A n c xs) : ∀ b, inB A b → B ≤ b ∧ b < w.heap.size := by
 intro b hb
 have hb' := inB_own (n := n) (c := c).2 hb
 exact h.own.lt b hb'
theorem RowN.same (h : RowN w B E A n c xs) (k : ∀ b, inB A b → w'.heap[b]? = w.heap[b]?) : RowN w' B E A n c xs := by
 refine ⟨⟨h.own.1, ?_⟩⟩
 rcases h.own.2 with hl | ⟨g, cap, cur, e, hg, hh, r⟩
 ·exact .inl hl
 ·refine .inr ⟨g, cap, cur, e, hg, ?_, r⟩
  rw [k g (by injection e with e1; rw [e1]; rfl)]
  exact hh
theorem RowN.chg (h : RowN w B E A n c xs) (k : Chg w w' S) (hn : ∀ b, inB A b → ¬ S b) : RowN w' B E A n c xs := h.same fun b hb => k.block b (h.lt b hb).2 (hn b hb)
theorem RowN.new (h : RowN w B E A n c xs) (k : Below w.heap.size w w') : RowN w' B E A n c xs := h.same fun b hb => k.block b (h.lt b hb).2
theorem RowN.drewN (h : RowN w B E A n c xs) (m : Nat) : RowN (w.drewN m) B E A n c xs := h.same fun _ _ => rfl
theorem RowN.nil (w : World) (B : Nat) (E : TypeId) : RowN w B E none 0 0 [] := ⟨World.ownsRow_nil w B E 1⟩
end


theorem rep_succ (n : Nat) (u : Value) : List.replicate n u ++ [u] = List.replicate (n + 1) u := by rw [List.replicate_succ']
def zb : ByteArray := ⟨zeros.toArray⟩
structure New2 (w : World) (gm nb no : Nat) (Ab : Option Addr) (cb : Nat) (Ao : Option Addr) (co : Nat) : Prop where
 head : Blk w gm 74 #[.slice Ab nb cb, .slice Ao no co, .slice none 0 0, .bool false, .int .i64 (-1)]
 rb : RowN w (gm + 1) 9 Ab nb cb (List.replicate nb (.string zb))
 ro : RowN w (gm + 1) 3 Ao no co (List.replicate no (.int .i64 0))
 ob : Apart Ab Ao
section
variable {w w1 w' : World} {gm nb no cb co g cap : Nat} {Ab Ao : Option Addr}
theorem New2.drewN (h : New2 w gm nb no Ab cb Ao co) (n : Nat) : New2 (w.drewN n) gm nb no Ab cb Ao co := ⟨h.head, h.rb.drewN n, h.ro.drewN n, h.ob⟩
theorem New2.stepB (h : New2 w gm nb no Ab cb Ao co) (hb : Below w.heap.size w w1) {H : Nat} (hz : w.heap.size ≤ H) (hg : w1.grownBy w' (Value.slice Ab nb cb).ownBlock) (hat : (Value.slice Ab nb cb).ownBlock = some g ∨ g = H)
  (hown : w'.ownsRow (gm + 1) 9 1 (.slice (some ⟨g, 0, none⟩) (nb + 1) cap) (nb + 1) (List.replicate nb (.string zb) ++ [.string zb])) :
  Blk w' gm 74 #[.slice Ab nb cb, .slice Ao no co, .slice none 0 0, .bool false, .int .i64 (-1)] ∧ ∀ m, New2 ((w'.setCell ⟨gm, 0, none⟩ (.slice (some ⟨g, 0, none⟩) (nb + 1) cap)).drewN m) gm (nb + 1) no (some ⟨g, 0, none⟩) cap Ao co ∧ Chg w ((w'.setCell ⟨gm, 0, none⟩ (.slice (some ⟨g, 0, none⟩) (nb + 1) cap)).drewN m) (fun k => gm ≤ k) := by
 rw [rep_succ] at hown
 have k := chg_of_grown hb hg
 have ha := at_of hz hat
 have hne : ¬ inB Ab gm := fun e => by have := (h.rb.lt gm e).1; omega
 have b1 := h.head.chg k hne
 have r0 : RowN w' (gm + 1) 9 (some ⟨g, 0, none⟩) (nb + 1) cap _ := ⟨hown⟩
 have ro := h.ro.chg k (fun b hb e => h.ob b e hb)
 refine ⟨b1, fun m => ?_⟩
 have ks : Chg w' (w'.setCell ⟨gm, 0, none⟩ (.slice (some ⟨g, 0, none⟩) (nb + 1) cap)) (fun k => k = gm) := Chg.set _ _ _ rfl
 refine ⟨New2.drewN ⟨b1.put 0 _, r0.chg ks (fun b hb e => by have := (r0.lt b hb).1; have e' : b = gm := e; omega), ro.chg ks (fun b hb e => by have := (ro.lt b hb).1; have e' : b = gm := e; omega), h.ob.new (fun b hb => (h.ro.lt b hb).2) ha⟩ m, Chg.drewN ?_ m⟩
 exact (k.weak (fun i hi => by have := (h.rb.lt i hi).1; omega)).trans (ks.weak (fun i hi => by have hi' : i = gm := hi; omega))
theorem New2.stepO (h : New2 w gm nb no Ab cb Ao co) (hb : Below w.heap.size w w1) {H : Nat} (hz : w.heap.size ≤ H) (hg : w1.grownBy w' (Value.slice Ao no co).ownBlock) (hat : (Value.slice Ao no co).ownBlock = some g ∨ g = H)
  (hown : w'.ownsRow (gm + 1) 3 1 (.slice (some ⟨g, 0, none⟩) (no + 1) cap) (no + 1) (List.replicate no (.int .i64 0) ++ [.int .i64 0])) :
  Blk w' gm 74 #[.slice Ab nb cb, .slice Ao no co, .slice none 0 0, .bool false, .int .i64 (-1)] ∧ ∀ m, New2 ((w'.setCell ⟨gm, 1, none⟩ (.slice (some ⟨g, 0, none⟩) (no + 1) cap)).drewN m) gm nb (no + 1) Ab cb (some ⟨g, 0, none⟩) cap ∧ Chg w ((w'.setCell ⟨gm, 1, none⟩ (.slice (some ⟨g, 0, none⟩) (no + 1) cap)).drewN m) (fun k => gm ≤ k) := by
 rw [rep_succ] at hown
 have k := chg_of_grown hb hg
 have ha := at_of hz hat
 have hne : ¬ inB Ao gm := fun e => by have := (h.ro.lt gm e).1; omega
 have b1 := h.head.chg k hne
 have r0 : RowN w' (gm + 1) 3 (some ⟨g, 0, none⟩) (no + 1) cap _ := ⟨hown⟩
 have rb := h.rb.chg k (fun b hb e => h.ob b hb e)
 refine ⟨b1, fun m => ?_⟩
 have ks : Chg w' (w'.setCell ⟨gm, 1, none⟩ (.slice (some ⟨g, 0, none⟩) (no + 1) cap)) (fun k => k = gm) := Chg.set _ _ _ rfl
 refine ⟨New2.drewN ⟨b1.put 1 _, rb.chg ks (fun b hb e => by have := (rb.lt b hb).1; have e' : b = gm := e; omega), r0.chg ks (fun b hb e => by have := (r0.lt b hb).1; have e' : b = gm := e; omega), (h.ob.symm.new (fun b hb => (h.rb.lt b hb).2) ha).symm⟩ m, Chg.drewN ?_ m⟩
 exact (k.weak (fun i hi => by have := (h.ro.lt i hi).1; omega)).trans (ks.weak (fun i hi => by have hi' : i = gm := hi; omega))
theorem New2.done {n : Nat} (h : New2 w gm n n Ab cb Ao co) (h1 : 1 ≤ n) (h2 : n ≤ 512) : ∃ bt bo, RefAt w gm bt bo cb co none 0 (newD n) ∧ gm ≤ bt ∧ gm ≤ bo := by
 obtain ⟨bb, c1, e1, g1, _⟩ := h.rb.own.form (by omega)
 obtain ⟨bo, c2, e2, g2, _⟩ := h.ro.own.form (by omega)
 cases e1
 cases e2
 have ho := h.ro.own
 have hb := h.rb.own
 have e1 : (newD n).blocks.length = n := List.length_replicate
 refine ⟨bb, bo, ⟨?_, ?_, ?_, RowW.nil _ _ _, by omega, by omega, fun e => h.ob bb rfl (by rw [e]; rfl), inB_none _, inB_none _, inB_none _, newD_ok h1 h2⟩, by omega, by omega⟩
 ·rw [e1]; exact h.head
 ·have := Heads.of_row hb
  show Heads _ _ _ (textsD (List.replicate n zeros))
  unfold textsD
  rw [List.map_replicate]; exact this
 ·have := Heads.of_row ho
  show Heads _ _ _ (ownsD (List.replicate n 0))
  unfold ownsD
  rw [List.map_replicate]; exact this
end

set_option maxRecDepth 100000 in
set_option maxHeartbeats 2000000 in
theorem rnew_any (n : Nat) (h1 : 1 ≤ n) (h2 : n ≤ 512) (w : World) :
  Calls Tryz.prog 25 #[.int .i64 (n : Int)] w fun e w' => e = .returned (.pointer (some ⟨w.heap.size, 0, none⟩)) ∧ (∃ R, RA w' R w.heap.size (newD n) ∧ ∀ k, R k → w.heap.size ≤ k) ∧ Below w.heap.size w w' := by
 have k0 := Lib.hid (show New2 (w.alloc (.cells #[.slice none 0 0, .slice none 0 0, .slice none 0 0, .bool false, .int .i64 (-1)] 74)) w.heap.size 0 0 none 0 none 0 from
  ⟨Blk.new w _ _, RowN.nil _ _ _, RowN.nil _ _ _, fun b h => by simp [inB] at h⟩)
 have b0 := Lib.hid ((Below.refl w.heap.size w).alloc (Nat.le_refl _) (.cells #[.slice none 0 0, .slice none 0 0, .slice none 0 0, .bool false, .int .i64 (-1)] 74))
 generalize hgm : w.heap.size = gm at *
 have HGM := Lib.hid hgm
 clear hgm
 obtain ⟨is, hsi, hs0, hs1, hs2⟩ := s_info
 obtain ⟨ii, hii, hi0, hi1, hi2⟩ := i_info
 have INF := Lib.hid (And.intro hsi (And.intro hs0 (And.intro hs1 (And.intro hs2 (And.intro hii (And.intro hi0 (And.intro hi1 hi2)))))))
 clear hsi hs0 hs1 hs2 hii hi0 hi1 hi2
 have mk := fun W => make256 W
 have tl := fun W => told_str (made256 W)
 have ez : (⟨(List.replicate 256 (0 : UInt8)).toArray⟩ : ByteArray) = zb := rfl
 rw [ez] at tl
 clear ez
 generalize madeCells #[.int .u8 0] 256 = Z at *
 go_enter Tryz.func25, Tryz.ntmps25
 go_wp2
 rw [HGM.out]
 go_loopw [4] (fun i wr => ∃ (j : Nat) (Ab : Option Addr) (cb : Nat) (Ao : Option Addr) (co : Nat), j ≤ n ∧ i = .int .i64 (j : Int) ∧ New2 wr gm j j Ab cb Ao co ∧ Below gm w wr) (fun i _ => n - (intOf i).toNat)
 case atStart => exact ⟨0, none, 0, none, 0, Nat.zero_le _, rfl, k0.out, b0.out⟩
 case round =>
  clear k0 b0
  obtain ⟨j, Ab, cb, Ao, co, hj, rfl, hN, hbel⟩ := hrel
  have HN := Lib.hid hN
  have HB := Lib.hid hbel
  have hgl : gm < wr.heap.size := hN.head.lt
  by_cases hlt : j < n
  ·have hlt' : (j : Int) < (n : Int) := by omega
   have xj := IntWalk.i64_in ((j : Int) + 1) (by omega)
   have c0 : wr.cell? ⟨gm, 0, none⟩ = some (.slice Ab j cb) := hN.head.cell 0
   have d0 : wr.drew.cell? ⟨gm, 0, none⟩ = some (.slice Ab j cb) := hN.head.cell 0
   have TL : (convert 37 9 (.slice (some ⟨wr.heap.size, 0, none⟩) 256 256)).run Tryz.prog (wr.alloc (.cells Z 5)).drew = .ok (.string zb) (wr.alloc (.cells Z 5)).drew := tl wr.drew
   have hba1 : Below wr.heap.size wr (wr.alloc (.cells Z 5)).drew :=
    (show Below wr.heap.size wr wr.drew from ⟨rfl, rfl, rfl, Nat.le_refl _, fun _ _ => rfl⟩).alloc (Nat.le_refl _) _
   have hba : Below wr.heap.size wr ((wr.alloc (.cells Z 5)).alloc (.cells #[.string zb] 9)).drew :=
    hba1.alloc (by show wr.heap.size ≤ (wr.alloc _).heap.size; simp) _
   have c1 : (wr.alloc (.cells Z 5)).drew.cell? ⟨gm, 0, none⟩ = some (.slice Ab j cb) := (hN.head.chg (Chg.of_new hba1 (fun _ => False)) (fun s => s.elim)).cell 0
   have c2 : ((wr.alloc (.cells Z 5)).alloc (.cells #[.string zb] 9)).drew.cell? ⟨gm, 0, none⟩ = some (.slice Ab j cb) := (hN.head.chg (Chg.of_new hba (fun _ => False)) (fun s => s.elim)).cell 0
   have HBA := Lib.hid hba
   have ONE := Lib.hid (show ((wr.alloc (.cells Z 5)).alloc (.cells #[.string zb] 9)).drew.cell? ⟨wr.heap.size + 1, 0, none⟩ = some (.string zb) from by
    have := (Blk.new (wr.alloc (.cells Z 5)) 9 #[.string zb]).cell 0
    rw [show (wr.alloc (.cells Z 5)).heap.size = wr.heap.size + 1 by simp] at this
    exact this)
   clear hN hbel hba hba1 tl
   go_wp2_with fail
   have HSZ := Lib.hid (show ((wr.alloc (.cells Z 5)).alloc (.cells #[.string zb] 9)).drew.heap.size = wr.heap.size + 1 + 1 from by show ((wr.alloc _).alloc _).heap.size = _; simp)
   have ONE2 := Lib.hid (show ∀ (i : Nat) (u : Value), ([.string zb] : List Value)[i]? = some u → ((wr.alloc (.cells Z 5)).alloc (.cells #[.string zb] 9)).drew.cell? ((⟨wr.heap.size + 1, 0, none⟩ : Addr).add i) = some u from World.news_of_block (B := wr.heap.size + 1) (cs := #[.string zb]) (by
    have := (Blk.new (wr.alloc (.cells Z 5)) 9 #[.string zb])
    rw [show (wr.alloc (.cells Z 5)).heap.size = wr.heap.size + 1 by simp] at this
    exact this))
   go_region_law
    ((refine step_append_lies _ rfl (.tmp 16) (.tmp 19) 63 rfl (gm + 1) 9 is (.string ⟨#[]⟩) 1 16 Tryz.underlying63 INF.out.1 INF.out.2.1 INF.out.2.2.1 INF.out.2.2.2.1 rfl (by decide) _ j (List.replicate j (.string zb)) rfl (HN.out.rb.new HBA.out).own ⟨wr.heap.size + 1, 0, none⟩ 1 1 [.string zb] rfl rfl ONE2.out (one_str zb) (by decide) (by unfold maxLen; omega) (by omega) (by rw [HSZ.out]; omega) (wr.heap.size + 1 + 1) HSZ.out ?_
      intro g3 cap3 w5 hown hgrow hat hlg3
      have hs2 := HN.out.stepB HBA.out (by omega) hgrow hat hown
      have c5 : w5.cell? ⟨gm, 0, none⟩ = some (.slice Ab j cb) := hs2.1.cell 0
      have f5 := hs2.1.frozen 0
      have HS2 := Lib.hid hs2
      clear hs2 hown hgrow hat))
   all_goals
    have HN1 := Lib.hid (HS2.out.2 0).1
    have HB1 := Lib.hid (HB.out.trans ((HS2.out.2 0).2.below (by omega) (fun i hi => hi)))
    rw [World.drewN_zero] at HN1 HB1
    clear HN HB HS2 c0 d0 c1 c2 TL HSZ ONE2 ONE
    go_upto_region 6 with fail
    generalize (w5.setCell ⟨gm, 0, none⟩ (.slice (some ⟨g3, 0, none⟩) (j + 1) cap3)) = w2 at *
    have hgl2 : gm < w2.heap.size := HN1.out.head.lt
    have c0 : w2.cell? ⟨gm, 1, none⟩ = some (.slice Ao j co) := HN1.out.head.cell 1
    clear c5 f5
    go_wp2_with (at_builtin; refine Hid.out ?_)
    unfold Hid
    refine wpList_append_lies _ rfl (.tmp 27) (.tmp 28) 71 rfl (gm + 1) 3 ii (.int .i64 0) 1 8 Tryz.underlying71 INF.out.2.2.2.2.1 INF.out.2.2.2.2.2.1 INF.out.2.2.2.2.2.2.1 INF.out.2.2.2.2.2.2.2 rfl (by decide) _ j (List.replicate j (.int .i64 0)) rfl (HN1.out.ro.new ((Below.refl _ w2).alloc (Nat.le_refl _) _)).own ⟨w2.heap.size, 0, none⟩ 1 1 [.int .i64 0] rfl rfl (cell_one_new _ _ _) (one_int 0) (by decide) (by unfold maxLen; omega) (by omega) (by simp; omega) (w2.heap.size + 1) (by simp) ?_
    intro g2 cap2 w3 hown hgrow hat hlg2
    obtain ⟨hd1, hn1⟩ := HN1.out.stepO ((Below.refl _ w2).alloc (Nat.le_refl _) (.cells #[.int .i64 0] 3)) (Nat.le_succ _) hgrow hat hown
    have c1 : w3.cell? ⟨gm, 1, none⟩ = some (.slice Ao j co) := hd1.cell 1
    have f1 := hd1.frozen 1
    have HN2 := Lib.hid (hn1 0).1
    have HB2 := Lib.hid (HB1.out.trans ((hn1 0).2.below (by omega) (fun i hi => hi)))
    rw [World.drewN_zero] at HN2 HB2
    clear hown hgrow hat hd1 hn1 c0 HN1 HB1
    go_wp2
    go_roundw
    case rel => exact ⟨j + 1, _, _, _, _, by omega, by simp, HN2.out, HB2.out⟩
    case measure => simp [intOf]; omega
  ·have hge : ¬ (j : Int) < (n : Int) := by omega
   obtain rfl : j = n := by omega
   clear hN hbel
   go_wp2
   go_ret
   obtain ⟨bt, bo, r, hbt, hbo⟩ := HN.out.done h1 h2
   exact ⟨rfl, ⟨_, r.ra, fun k hk => by
    rcases hk with e | e | e | e
    ·omega
    ·omega
    ·omega
    ·exact absurd e (inB_none _)⟩, HB.out⟩
end Go.Proofs.YtbkjjakkihbcdaaGreat.RE

/- The document's disk: its calls, all but Grant and Write. Conditions: those that each states. -/
namespace Go.Proofs.YtbkjjakkihbcdaaGreat.RE
open Go.ChangeShapes Go.WideShapes Go.ChangeAt Go.RowKit Go.Deep Di
set_option linter.unusedVariables false
def RPost (w : World) (gm bt bo : Nat) (Al : Option Addr) (d' : Dk) (t : List UInt8) (E : Int) (e : Ending) (w' : World) : Prop :=
 e = .returned (.tuple #[.string ⟨t.toArray⟩, .int .i64 E]) ∧ ∃ R', RA w' R' gm d' ∧ Step w w' (rfoot gm bt bo Al) R'
section
variable {w w' w1 w2 : World} {gm bt bo ct co cl cl' co' ct' : Nat} {Al Al' : Option Addr} {d d' : Dk} {S R : Nat → Prop}
theorem post_of (h : RefAt w' gm bt bo ct' co' Al' cl' d') (hb : Below w.heap.size w w1) (k : Chg w1 w' (rfoot gm bt bo Al)) (ha : ∀ i, inB Al' i → inB Al i ∨ w.heap.size ≤ i) : ∃ R', RA w' R' gm d' ∧ Step w w' (rfoot gm bt bo Al) R' :=
 ⟨_, h.ra, (Chg.of_new hb _).trans k, fun i hi => by
  rcases hi with e | e | e | e
  ·exact .inl (.inl e)
  ·exact .inl (.inr (.inl e))
  ·exact .inl (.inr (.inr (.inl e)))
  ·rcases ha i e with e | e
   ·exact .inl (.inr (.inr (.inr e)))
   ·exact .inr e⟩
theorem post_same (h : RefAt w1 gm bt bo ct co Al cl d) (hb : Below w.heap.size w w1) : ∃ R', RA w1 R' gm d ∧ Step w w1 (rfoot gm bt bo Al) R' :=
 post_of h hb (Chg.refl _ _) (fun i hi => .inl hi)
theorem RefAt.setLeft (h : RefAt w gm bt bo ct co Al cl d) (ar : Int) (ha : -1 ≤ ar ∧ ar ≤ 9223372036854775807) : RefAt (w.setCell ⟨gm, 4, none⟩ (.int .i64 ar)) gm bt bo ct co Al cl { d with armed := ar } ∧ Chg w (w.setCell ⟨gm, 4, none⟩ (.int .i64 ar)) (rfoot gm bt bo Al) := by
 have k : Chg w (w.setCell ⟨gm, 4, none⟩ (.int .i64 ar)) (fun k => k = gm) := Chg.set _ _ _ rfl
 refine ⟨⟨?_, h.text.chg k (fun e => h.nt (by have e' : bt = gm := e; exact e'.symm)), h.own.chg k (fun e => h.no (by have e' : bo = gm := e; exact e'.symm)), h.line.chg k (fun b hb e => h.lm (by have e' : b = gm := e; rw [← e']; exact hb)), h.nt, h.no, h.tn, h.lm, h.lt_, h.lo, ⟨h.ok.n1, h.ok.n2, h.ok.bl, h.ok.ow, h.ok.ex, h.ok.mt, h.ok.li, ha⟩⟩, k.weak (fun i hi => .inl hi)⟩
 have := h.head.put 4 (.int .i64 ar)
 simp at this
 exact this
theorem RefAt.setOn (h : RefAt w gm bt bo ct co Al cl d) (on off : Bool) (ho : off = !on) : RefAt (w.setCell ⟨gm, 3, none⟩ (.bool off)) gm bt bo ct co Al cl { d with on := on } ∧ Chg w (w.setCell ⟨gm, 3, none⟩ (.bool off)) (rfoot gm bt bo Al) := by
 subst ho
 have k : Chg w (w.setCell ⟨gm, 3, none⟩ (.bool (!on))) (fun k => k = gm) := Chg.set _ _ _ rfl
 refine ⟨⟨?_, h.text.chg k (fun e => h.nt (by have e' : bt = gm := e; exact e'.symm)), h.own.chg k (fun e => h.no (by have e' : bo = gm := e; exact e'.symm)), h.line.chg k (fun b hb e => h.lm (by have e' : b = gm := e; rw [← e']; exact hb)), h.nt, h.no, h.tn, h.lm, h.lt_, h.lo, ⟨h.ok.n1, h.ok.n2, h.ok.bl, h.ok.ow, h.ok.ex, h.ok.mt, h.ok.li, h.ok.ar⟩⟩, k.weak (fun i hi => .inl hi)⟩
 have := h.head.put 3 (.bool (!on))
 simp at this
 exact this
theorem RefAt.cut (h : RefAt w gm bt bo ct co Al cl d) : RefAt ((w.setCell ⟨gm, 3, none⟩ (.bool true)).setCell ⟨gm, 4, none⟩ (.int .i64 (-1))) gm bt bo ct co Al cl (cutR d) ∧ Chg w ((w.setCell ⟨gm, 3, none⟩ (.bool true)).setCell ⟨gm, 4, none⟩ (.int .i64 (-1))) (rfoot gm bt bo Al) := by
 obtain ⟨h1, k1⟩ := h.setOn false true rfl
 obtain ⟨h2, k2⟩ := h1.setLeft (-1) (by omega)
 exact ⟨h2, k1.trans k2⟩
set_option maxRecDepth 100000 in
set_option maxHeartbeats 2000000 in
theorem rdo1 (h : RefAt w gm bt bo ct co Al cl d) (env a b : Int) (s : ByteArray)  :
  Calls Tryz.prog 42 #[.pointer (some ⟨gm, 0, none⟩), .agg #[.int .i64 1, .int .i64 env, .int .i64 a, .int .i64 b, .string s]] w (RPost w gm bt bo Al d (readR d env a).1 (readR d env a).2) := by
 by_cases he : askE d env a = 0
 ·have e : readR d env a = (see d a.toNat, 0) := by unfold readR; rw [if_pos he]
  obtain ⟨_, bk, rfl, hbl, _⟩ := askE_zero he
  rw [e, Int.toNat_natCast]
  clear e
  have hB := (Below.refl w.heap.size w).alloc (Nat.le_refl _) (.cells #[.int .i64 1, .int .i64 env, .int .i64 (bk : Int), .int .i64 b, .string s] 115)
  have hq := Blk.new w 115 #[.int .i64 1, .int .i64 env, .int .i64 (bk : Int), .int .i64 b, .string s]
  have H := Lib.hid (h.new hB)
  have HB := Lib.hid hB
  have HQ := Lib.hid hq
  have hgl := h.head.lt
  clear hB hq
  go_enter Tryz.func42, Tryz.ntmps42
  go_upto_region 1 with fail
  generalize (w.alloc (.cells #[.int .i64 1, .int .i64 env, .int .i64 (bk : Int), .int .i64 b, .string s] 115)) = w1 at *
  obtain ⟨a0, a1, a2, a3, a4⟩ := act_cells HQ.out
  obtain ⟨c0, c1, c2, c3, c4⟩ := H.out.heads
  have f2 := H.out.head.frozen 2
  have f3 := H.out.head.frozen 3
  have f4 := H.out.head.frozen 4
  have ok := H.out.ok
  clear h HQ
  have MAY := Lib.hid (rmay_any H.out env bk)
  have FIN := Lib.hid (post_same H.out HB.out)
  have SEE := Lib.hid (rsee_any H.out bk hbl)
  rw [he] at MAY
  clear he
  generalize see d bk = tt at *
  go_wp2_with fail
  refine MAY.out.mono ?_; rintro e w2 ⟨rfl, rfl⟩
  go_wp2_with fail
  refine SEE.out.mono ?_; rintro e w3 ⟨rfl, rfl⟩
  go_wp2
  go_ret2
  exact ⟨rfl, FIN.out⟩
 ·have e : readR d env a = ([], askE d env a) := by unfold readR; rw [if_neg he]
  rw [e]
  have hv : (askE d env a == 0) = false := by simpa using he
  clear e
  obtain ⟨v, ev⟩ : ∃ v, v = askE d env a := ⟨_, rfl⟩
  rw [← ev] at hv ⊢
  have hB := (Below.refl w.heap.size w).alloc (Nat.le_refl _) (.cells #[.int .i64 1, .int .i64 env, .int .i64 a, .int .i64 b, .string s] 115)
  have hq := Blk.new w 115 #[.int .i64 1, .int .i64 env, .int .i64 a, .int .i64 b, .string s]
  have H := Lib.hid (h.new hB)
  have HB := Lib.hid hB
  have HQ := Lib.hid hq
  have hgl := h.head.lt
  clear hB hq
  go_enter Tryz.func42, Tryz.ntmps42
  go_upto_region 1 with fail
  generalize (w.alloc (.cells #[.int .i64 1, .int .i64 env, .int .i64 a, .int .i64 b, .string s] 115)) = w1 at *
  obtain ⟨a0, a1, a2, a3, a4⟩ := act_cells HQ.out
  obtain ⟨c0, c1, c2, c3, c4⟩ := H.out.heads
  have f2 := H.out.head.frozen 2
  have f3 := H.out.head.frozen 3
  have f4 := H.out.head.frozen 4
  have ok := H.out.ok
  clear h HQ
  have MAY := Lib.hid (rmay_any H.out env a)
  rw [← ev] at MAY
  have FIN := Lib.hid (post_same H.out HB.out)
  clear he ev
  go_wp2_with fail
  refine MAY.out.mono ?_; rintro e w2 ⟨rfl, rfl⟩
  go_wp2
  go_ret2
  exact ⟨rfl, FIN.out⟩

set_option maxRecDepth 100000 in
set_option maxHeartbeats 2000000 in
theorem rdo3 (h : RefAt w gm bt bo ct co Al cl d) (env a b : Int) (s : ByteArray)  :
  Calls Tryz.prog 42 #[.pointer (some ⟨gm, 0, none⟩), .agg #[.int .i64 3, .int .i64 env, .int .i64 a, .int .i64 b, .string s]] w (RPost w gm bt bo Al (syncR d).1 [] (syncR d).2) := by
 by_cases hon : d.on = true
 ·have e : syncR d = (settleR d d.line.length, 0) := by unfold syncR; rw [if_pos hon]
  rw [e]
  clear e
  have hB := (Below.refl w.heap.size w).alloc (Nat.le_refl _) (.cells #[.int .i64 3, .int .i64 env, .int .i64 a, .int .i64 b, .string s] 115)
  have hq := Blk.new w 115 #[.int .i64 3, .int .i64 env, .int .i64 a, .int .i64 b, .string s]
  have H := Lib.hid (h.new hB)
  have HB := Lib.hid hB
  have HQ := Lib.hid hq
  have hgl := h.head.lt
  clear hB hq
  go_enter Tryz.func42, Tryz.ntmps42
  go_upto_region 1 with fail
  generalize (w.alloc (.cells #[.int .i64 3, .int .i64 env, .int .i64 a, .int .i64 b, .string s] 115)) = w1 at *
  obtain ⟨a0, a1, a2, a3, a4⟩ := act_cells HQ.out
  obtain ⟨c0, c1, c2, c3, c4⟩ := H.out.heads
  have f2 := H.out.head.frozen 2
  have f3 := H.out.head.frozen 3
  have f4 := H.out.head.frozen 4
  have ok := H.out.ok
  clear h HQ
  rw [hon] at c3
  have c3' : w1.cell? ⟨gm, 3, none⟩ = some (.bool false) := c3
  have SET := Lib.hid (rsettle_any H.out (d.line.length : Int))
  rw [Int.toNat_natCast] at SET
  clear c3 hon
  go_wp2_with fail
  refine SET.out.mono ?_; rintro e w2 ⟨rfl, h2, k2⟩
  have FIN := Lib.hid (post_of h2 HB.out k2 (fun i hi => absurd hi (inB_none i)))
  clear h2 k2
  go_wp2
  go_ret2
  exact ⟨rfl, FIN.out⟩
 ·have e : syncR d = (d, 30) := by unfold syncR; rw [if_neg hon]
  rw [e]
  have hon' : d.on = false := by simpa using hon
  clear e
  have hB := (Below.refl w.heap.size w).alloc (Nat.le_refl _) (.cells #[.int .i64 3, .int .i64 env, .int .i64 a, .int .i64 b, .string s] 115)
  have hq := Blk.new w 115 #[.int .i64 3, .int .i64 env, .int .i64 a, .int .i64 b, .string s]
  have H := Lib.hid (h.new hB)
  have HB := Lib.hid hB
  have HQ := Lib.hid hq
  have hgl := h.head.lt
  clear hB hq
  go_enter Tryz.func42, Tryz.ntmps42
  go_upto_region 1 with fail
  generalize (w.alloc (.cells #[.int .i64 3, .int .i64 env, .int .i64 a, .int .i64 b, .string s] 115)) = w1 at *
  obtain ⟨a0, a1, a2, a3, a4⟩ := act_cells HQ.out
  obtain ⟨c0, c1, c2, c3, c4⟩ := H.out.heads
  have f2 := H.out.head.frozen 2
  have f3 := H.out.head.frozen 3
  have f4 := H.out.head.frozen 4
  have ok := H.out.ok
  clear h HQ
  rw [hon'] at c3
  have c3' : w1.cell? ⟨gm, 3, none⟩ = some (.bool true) := c3
  clear c3 hon hon'
  have FIN := Lib.hid (post_same H.out HB.out)
  go_wp2
  go_ret2
  exact ⟨rfl, FIN.out⟩

set_option maxRecDepth 100000 in
set_option maxHeartbeats 2000000 in
theorem rdo4 (h : RefAt w gm bt bo ct co Al cl d) (env a b : Int) (s : ByteArray) (wa : a ≤ 9223372036854775807) :
  Calls Tryz.prog 42 #[.pointer (some ⟨gm, 0, none⟩), .agg #[.int .i64 4, .int .i64 env, .int .i64 a, .int .i64 b, .string s]] w (RPost w gm bt bo Al (armR d a) [] 0) := by
 by_cases h1 : a < -1
 ·have e2 : armR d a = { d with armed := -1 } := by unfold armR; rw [if_pos h1]
  rw [e2]
  clear e2
  have hB := (Below.refl w.heap.size w).alloc (Nat.le_refl _) (.cells #[.int .i64 4, .int .i64 env, .int .i64 a, .int .i64 b, .string s] 115)
  have hq := Blk.new w 115 #[.int .i64 4, .int .i64 env, .int .i64 a, .int .i64 b, .string s]
  have H := Lib.hid (h.new hB)
  have HB := Lib.hid hB
  have HQ := Lib.hid hq
  have hgl := h.head.lt
  clear hB hq
  go_enter Tryz.func42, Tryz.ntmps42
  go_upto_region 1 with fail
  generalize (w.alloc (.cells #[.int .i64 4, .int .i64 env, .int .i64 a, .int .i64 b, .string s] 115)) = w1 at *
  obtain ⟨a0, a1, a2, a3, a4⟩ := act_cells HQ.out
  obtain ⟨c0, c1, c2, c3, c4⟩ := H.out.heads
  have f2 := H.out.head.frozen 2
  have f3 := H.out.head.frozen 3
  have f4 := H.out.head.frozen 4
  have ok := H.out.ok
  clear h HQ
  have ST := Lib.hid (H.out.setLeft (-1) (by omega))
  have FIN := Lib.hid (post_of ST.out.1 HB.out ST.out.2 (fun i hi => .inl hi))
  clear ST
  go_wp2
  go_ret2
  exact ⟨rfl, FIN.out⟩
 ·have e2 : armR d a = { d with armed := a } := by unfold armR; rw [if_neg h1]
  rw [e2]
  clear e2
  have hB := (Below.refl w.heap.size w).alloc (Nat.le_refl _) (.cells #[.int .i64 4, .int .i64 env, .int .i64 a, .int .i64 b, .string s] 115)
  have hq := Blk.new w 115 #[.int .i64 4, .int .i64 env, .int .i64 a, .int .i64 b, .string s]
  have H := Lib.hid (h.new hB)
  have HB := Lib.hid hB
  have HQ := Lib.hid hq
  have hgl := h.head.lt
  clear hB hq
  go_enter Tryz.func42, Tryz.ntmps42
  go_upto_region 1 with fail
  generalize (w.alloc (.cells #[.int .i64 4, .int .i64 env, .int .i64 a, .int .i64 b, .string s] 115)) = w1 at *
  obtain ⟨a0, a1, a2, a3, a4⟩ := act_cells HQ.out
  obtain ⟨c0, c1, c2, c3, c4⟩ := H.out.heads
  have f2 := H.out.head.frozen 2
  have f3 := H.out.head.frozen 3
  have f4 := H.out.head.frozen 4
  have ok := H.out.ok
  clear h HQ
  have ST := Lib.hid (H.out.setLeft (a) (by omega))
  have FIN := Lib.hid (post_of ST.out.1 HB.out ST.out.2 (fun i hi => .inl hi))
  clear ST
  go_wp2
  go_ret2
  exact ⟨rfl, FIN.out⟩

set_option maxRecDepth 100000 in
set_option maxHeartbeats 2000000 in
theorem rdo5 (h : RefAt w gm bt bo ct co Al cl d) (env a b : Int) (s : ByteArray)  :
  Calls Tryz.prog 42 #[.pointer (some ⟨gm, 0, none⟩), .agg #[.int .i64 5, .int .i64 env, .int .i64 a, .int .i64 b, .string s]] w (RPost w gm bt bo Al (cutR d) [] 0) := by
 have hB := (Below.refl w.heap.size w).alloc (Nat.le_refl _) (.cells #[.int .i64 5, .int .i64 env, .int .i64 a, .int .i64 b, .string s] 115)
 have hq := Blk.new w 115 #[.int .i64 5, .int .i64 env, .int .i64 a, .int .i64 b, .string s]
 have H := Lib.hid (h.new hB)
 have HB := Lib.hid hB
 have HQ := Lib.hid hq
 have hgl := h.head.lt
 clear hB hq
 go_enter Tryz.func42, Tryz.ntmps42
 go_upto_region 1 with fail
 generalize (w.alloc (.cells #[.int .i64 5, .int .i64 env, .int .i64 a, .int .i64 b, .string s] 115)) = w1 at *
 obtain ⟨a0, a1, a2, a3, a4⟩ := act_cells HQ.out
 obtain ⟨c0, c1, c2, c3, c4⟩ := H.out.heads
 have f2 := H.out.head.frozen 2
 have f3 := H.out.head.frozen 3
 have f4 := H.out.head.frozen 4
 have ok := H.out.ok
 clear h HQ
 have ST := Lib.hid H.out.cut
 have FIN := Lib.hid (post_of ST.out.1 HB.out ST.out.2 (fun i hi => .inl hi))
 clear ST
 go_wp2
 go_ret2
 exact ⟨rfl, FIN.out⟩

set_option maxRecDepth 100000 in
set_option maxHeartbeats 2000000 in
theorem rdo6 (h : RefAt w gm bt bo ct co Al cl d) (env a b : Int) (s : ByteArray)  :
  Calls Tryz.prog 42 #[.pointer (some ⟨gm, 0, none⟩), .agg #[.int .i64 6, .int .i64 env, .int .i64 a, .int .i64 b, .string s]] w (RPost w gm bt bo Al (reviveR d a).1 [] (reviveR d a).2) := by
 by_cases hon : d.on = true
 ·have e : reviveR d a = (d, 21) := by unfold reviveR; rw [if_pos hon]
  rw [e]
  clear e
  have hB := (Below.refl w.heap.size w).alloc (Nat.le_refl _) (.cells #[.int .i64 6, .int .i64 env, .int .i64 a, .int .i64 b, .string s] 115)
  have hq := Blk.new w 115 #[.int .i64 6, .int .i64 env, .int .i64 a, .int .i64 b, .string s]
  have H := Lib.hid (h.new hB)
  have HB := Lib.hid hB
  have HQ := Lib.hid hq
  have hgl := h.head.lt
  clear hB hq
  go_enter Tryz.func42, Tryz.ntmps42
  go_upto_region 1 with fail
  generalize (w.alloc (.cells #[.int .i64 6, .int .i64 env, .int .i64 a, .int .i64 b, .string s] 115)) = w1 at *
  obtain ⟨a0, a1, a2, a3, a4⟩ := act_cells HQ.out
  obtain ⟨c0, c1, c2, c3, c4⟩ := H.out.heads
  have f2 := H.out.head.frozen 2
  have f3 := H.out.head.frozen 3
  have f4 := H.out.head.frozen 4
  have ok := H.out.ok
  clear h HQ
  rw [hon] at c3
  have c3' : w1.cell? ⟨gm, 3, none⟩ = some (.bool false) := c3
  clear c3 hon
  have FIN := Lib.hid (post_same H.out HB.out)
  go_wp2
  go_ret2
  exact ⟨rfl, FIN.out⟩
 ·have e : reviveR d a = ({ settleR d a.toNat with on := true }, 0) := by unfold reviveR; rw [if_neg hon]
  rw [e]
  have hon' : d.on = false := by simpa using hon
  clear e
  have hB := (Below.refl w.heap.size w).alloc (Nat.le_refl _) (.cells #[.int .i64 6, .int .i64 env, .int .i64 a, .int .i64 b, .string s] 115)
  have hq := Blk.new w 115 #[.int .i64 6, .int .i64 env, .int .i64 a, .int .i64 b, .string s]
  have H := Lib.hid (h.new hB)
  have HB := Lib.hid hB
  have HQ := Lib.hid hq
  have hgl := h.head.lt
  clear hB hq
  go_enter Tryz.func42, Tryz.ntmps42
  go_upto_region 1 with fail
  generalize (w.alloc (.cells #[.int .i64 6, .int .i64 env, .int .i64 a, .int .i64 b, .string s] 115)) = w1 at *
  obtain ⟨a0, a1, a2, a3, a4⟩ := act_cells HQ.out
  obtain ⟨c0, c1, c2, c3, c4⟩ := H.out.heads
  have f2 := H.out.head.frozen 2
  have f3 := H.out.head.frozen 3
  have f4 := H.out.head.frozen 4
  have ok := H.out.ok
  clear h HQ
  rw [hon'] at c3
  have c3' : w1.cell? ⟨gm, 3, none⟩ = some (.bool true) := c3
  have SET := Lib.hid (rsettle_any H.out a)
  clear c3 hon hon'
  go_wp2_with fail
  refine SET.out.mono ?_; rintro e w2 ⟨rfl, h2, k2⟩
  have g3 := h2.head.frozen 3
  have d3 := h2.heads.2.2.2.1
  obtain ⟨h3, k3⟩ := h2.setOn true false rfl
  have FIN := Lib.hid (post_of h3 HB.out (k2.trans (k3.weak (fun i hi => by
   rcases hi with e | e | e | e
   ·exact .inl e
   ·exact .inr (.inl e)
   ·exact .inr (.inr (.inl e))
   ·exact absurd e (inB_none i)))) (fun i hi => absurd hi (inB_none i)))
  clear h2 k2 h3 k3
  go_wp2
  go_ret2
  exact ⟨rfl, FIN.out⟩

set_option maxRecDepth 100000 in
set_option maxHeartbeats 2000000 in
theorem rdo7 (h : RefAt w gm bt bo ct co Al cl d) (kind env a b : Int) (s : ByteArray) (q0 : kind ≠ 0) (q1 : kind ≠ 1) (q2 : kind ≠ 2) (q3 : kind ≠ 3) (q4 : kind ≠ 4) (q5 : kind ≠ 5) (q6 : kind ≠ 6) :
  Calls Tryz.prog 42 #[.pointer (some ⟨gm, 0, none⟩), .agg #[.int .i64 kind, .int .i64 env, .int .i64 a, .int .i64 b, .string s]] w (RPost w gm bt bo Al d [] 0) := by
 have x0 : (kind == 0) = false := by simpa using q0
 have x1 : (kind == 1) = false := by simpa using q1
 have x2 : (kind == 2) = false := by simpa using q2
 have x3 : (kind == 3) = false := by simpa using q3
 have x4 : (kind == 4) = false := by simpa using q4
 have x5 : (kind == 5) = false := by simpa using q5
 have x6 : (kind == 6) = false := by simpa using q6
 clear q0 q1 q2 q3 q4 q5 q6
 have hB := (Below.refl w.heap.size w).alloc (Nat.le_refl _) (.cells #[.int .i64 kind, .int .i64 env, .int .i64 a, .int .i64 b, .string s] 115)
 have hq := Blk.new w 115 #[.int .i64 kind, .int .i64 env, .int .i64 a, .int .i64 b, .string s]
 have H := Lib.hid (h.new hB)
 have HB := Lib.hid hB
 have HQ := Lib.hid hq
 have hgl := h.head.lt
 clear hB hq
 go_enter Tryz.func42, Tryz.ntmps42
 go_upto_region 1 with fail
 generalize (w.alloc (.cells #[.int .i64 kind, .int .i64 env, .int .i64 a, .int .i64 b, .string s] 115)) = w1 at *
 obtain ⟨a0, a1, a2, a3, a4⟩ := act_cells HQ.out
 obtain ⟨c0, c1, c2, c3, c4⟩ := H.out.heads
 have f2 := H.out.head.frozen 2
 have f3 := H.out.head.frozen 3
 have f4 := H.out.head.frozen 4
 have ok := H.out.ok
 clear h HQ
 have FIN := Lib.hid (post_same H.out HB.out)
 go_wp2
 go_ret2
 exact ⟨rfl, FIN.out⟩

end
end Go.Proofs.YtbkjjakkihbcdaaGreat.RE
