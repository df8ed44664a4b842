/- The document's New. Conditions: those that each states. -/
import Derived.Test.YtbkjjakkihbcdaaGreatMFD
import Derived.StillTailTactics
import Derived.Deep.QuietTactic
import Derived.BigQuiet
import Derived.Test.YtbkjjakkihbcdaaGreatMAE
namespace Go.Proofs.YtbkjjakkihbcdaaGreat.RD
open Go.ChangeShapes Go.WideShapes Go.ChangeAt Go.RowKit Go.Deep Fr
set_option linter.unusedVariables false

theorem int_info : (Tryz.prog.info? 3).map (fun i => (i.zero, i.size, i.bytes)) = some (some (.int .i64 0), 1, 8) := by kernel_rfl
theorem str_info : (Tryz.prog.info? 9).map (fun i => (i.zero, i.size, i.bytes)) = some (some (.string ⟨#[]⟩), 1, 16) := by kernel_rfl

def inB (A : Option Addr) (b : Nat) : Prop := A.map (·.block) = some b
theorem inB_own {A : Option Addr} {n c b : Nat} : (Value.slice A n c).ownBlock = some b ↔ inB A b := by cases A <;> simp [Value.ownBlock, inB]
structure RowN (w : World) (B : Nat) (E : TypeId) (A : Option Addr) (n c : Nat) (xs : List Value) : Prop where
 own : w.ownsRow B E 1 (.slice A n c) n xs
section
variable {w w' : World} {B : Nat} {E : TypeId} {A : Option Addr} {n c : Nat} {xs : List Value} {S : Nat → Prop}
theorem RowN.lt (h : RowN w B E A n c xs) : ∀ b, inB A b → B ≤ b ∧ b < w.heap.size := by
 intro b hb
 have hb' := inB_own (n := n) (c := c).2 hb
 exact h.own.lt b hb'
theorem RowN.same (h : RowN w B E A n c xs) (k : ∀ b, inB A b → w'.heap[b]? = w.heap[b]?) : RowN w' B E A n c xs := by
 refine ⟨⟨h.own.1, ?_⟩⟩
 rcases h.own.2 with hl | ⟨g, cap, cur, e, hg, hh, r⟩
 ·exact .inl hl
 ·refine .inr ⟨g, cap, cur, e, hg, ?_, r⟩
  rw [k g (by injection e with e1; rw [e1]; rfl)]
  exact hh
theorem RowN.chg (h : RowN w B E A n c xs) (k : Chg w w' S) (hn : ∀ b, inB A b → ¬ S b) : RowN w' B E A n c xs := h.same fun b hb => k.block b (h.lt b hb).2 (hn b hb)
theorem RowN.new (h : RowN w B E A n c xs) (k : Below w.heap.size w w') : RowN w' B E A n c xs := h.same fun b hb => k.block b (h.lt b hb).2
theorem RowN.drewN (h : RowN w B E A n c xs) (m : Nat) : RowN (w.drewN m) B E A n c xs := h.same fun _ _ => rfl
theorem RowN.nil (w : World) (B : Nat) (E : TypeId) : RowN w B E none 0 0 [] := ⟨World.ownsRow_nil w B E 1⟩
end

def Apart (A A' : Option Addr) : Prop := ∀ b, inB A b → inB A' b → False
theorem Apart.symm {A A' : Option Addr} (h : Apart A A') : Apart A' A := fun b h1 h2 => h b h2 h1
theorem Apart.new {A A' : Option Addr} {g H : Nat} (h : Apart A A') (hk : ∀ b, inB A' b → b < H) (hat : inB A g ∨ H ≤ g) : Apart (some ⟨g, 0, none⟩) A' := by
 intro b h1 h2
 have e : g = b := by simpa [inB] using h1
 subst e
 rcases hat with e | e
 ·exact h g e h2
 ·have := hk g h2; omega

structure New3 (w : World) (gm no nh nb : Nat) (Ao : Option Addr) (co : Nat) (Ah : Option Addr) (ch : Nat) (Ab : Option Addr) (cb : Nat) : Prop where
 head : Blk w gm 138 #[.slice Ao no co, .slice Ah nh ch, .slice Ab nb cb]
 ro : RowN w (gm + 1) 3 Ao no co (List.replicate no (.int .i64 0))
 rh : RowN w (gm + 1) 3 Ah nh ch (List.replicate nh (.int .i64 0))
 rb : RowN w (gm + 1) 9 Ab nb cb (List.replicate nb (.string page0'))
 oh : Apart Ao Ah
 ob : Apart Ao Ab
 hb : Apart Ah Ab
section
variable {w w1 w' : World} {gm no nh nb co ch cb g cap : Nat} {Ao Ah Ab : Option Addr}
theorem New3.drewN (h : New3 w gm no nh nb Ao co Ah ch Ab cb) (n : Nat) : New3 (w.drewN n) gm no nh nb Ao co Ah ch Ab cb := ⟨h.head, h.ro.drewN n, h.rh.drewN n, h.rb.drewN n, h.oh, h.ob, h.hb⟩
theorem chg_of_grown {A : Option Addr} {n c : Nat} (hb : Below w.heap.size w w1) (hg : w1.grownBy w' (Value.slice A n c).ownBlock) : Chg w w' (fun k => inB A k) :=
 (Chg.of_new hb _).trans ⟨hg.os, hg.tape, hg.output, hg.size, fun k hk hn => hg.block k hk fun e => hn (inB_own (n := n) (c := c).1 e.symm)⟩
theorem at_of {A : Option Addr} {n c H : Nat} (hz : w.heap.size ≤ H) (hat : (Value.slice A n c).ownBlock = some g ∨ g = H) : inB A g ∨ w.heap.size ≤ g := by
 rcases hat with e | e
 ·exact .inl (inB_own (n := n) (c := c).1 e)
 ·exact .inr (by omega)
theorem rep_succ (n : Nat) (u : Value) : List.replicate n u ++ [u] = List.replicate (n + 1) u := by rw [List.replicate_succ']
theorem New3.step0 (h : New3 w gm no nh nb Ao co Ah ch Ab cb) (hb : Below w.heap.size w w1) {H : Nat} (hz : w.heap.size ≤ H) (hg : w1.grownBy w' (Value.slice Ao no co).ownBlock) (hat : (Value.slice Ao no co).ownBlock = some g ∨ g = H)
  (hown : w'.ownsRow (gm + 1) 3 1 (.slice (some ⟨g, 0, none⟩) (no + 1) cap) (no + 1) (List.replicate no (.int .i64 0) ++ [.int .i64 0])) :
  Blk w' gm 138 #[.slice Ao no co, .slice Ah nh ch, .slice Ab nb cb] ∧ ∀ m, New3 ((w'.setCell ⟨gm, 0, none⟩ (.slice (some ⟨g, 0, none⟩) (no + 1) cap)).drewN m) gm (no + 1) nh nb (some ⟨g, 0, none⟩) cap Ah ch Ab cb ∧ Chg w ((w'.setCell ⟨gm, 0, none⟩ (.slice (some ⟨g, 0, none⟩) (no + 1) cap)).drewN m) (fun k => gm ≤ k) := by
 rw [rep_succ] at hown
 have k := chg_of_grown hb hg
 have ha := at_of hz hat
 have hne : ¬ inB Ao gm := fun e => by have := (h.ro.lt gm e).1; omega
 have b1 := h.head.chg k hne
 have r0 : RowN w' (gm + 1) 3 (some ⟨g, 0, none⟩) (no + 1) cap _ := ⟨hown⟩
 have rh := h.rh.chg k (fun b hb e => h.oh b e hb)
 have rb := h.rb.chg k (fun b hb e => h.ob b e hb)
 refine ⟨b1, fun m => ?_⟩
 have ks : Chg w' (w'.setCell ⟨gm, 0, none⟩ (.slice (some ⟨g, 0, none⟩) (no + 1) cap)) (fun k => k = gm) := Chg.set _ _ _ rfl
 refine ⟨New3.drewN ⟨b1.put 0 _, r0.chg ks (fun b hb e => by have := (r0.lt b hb).1; have e' : b = gm := e; omega), rh.chg ks (fun b hb e => by have := (rh.lt b hb).1; have e' : b = gm := e; omega), rb.chg ks (fun b hb e => by have := (rb.lt b hb).1; have e' : b = gm := e; omega), h.oh.new (fun b hb => (h.rh.lt b hb).2) ha, h.ob.new (fun b hb => (h.rb.lt b hb).2) ha, h.hb⟩ m, Chg.drewN ?_ m⟩
 exact (k.weak (fun i hi => by have := (h.ro.lt i hi).1; omega)).trans (ks.weak (fun i hi => by have hi' : i = gm := hi; omega))
theorem New3.step1 (h : New3 w gm no nh nb Ao co Ah ch Ab cb) (hb : Below w.heap.size w w1) {H : Nat} (hz : w.heap.size ≤ H) (hg : w1.grownBy w' (Value.slice Ah nh ch).ownBlock) (hat : (Value.slice Ah nh ch).ownBlock = some g ∨ g = H)
  (hown : w'.ownsRow (gm + 1) 3 1 (.slice (some ⟨g, 0, none⟩) (nh + 1) cap) (nh + 1) (List.replicate nh (.int .i64 0) ++ [.int .i64 0])) :
  Blk w' gm 138 #[.slice Ao no co, .slice Ah nh ch, .slice Ab nb cb] ∧ ∀ m, New3 ((w'.setCell ⟨gm, 1, none⟩ (.slice (some ⟨g, 0, none⟩) (nh + 1) cap)).drewN m) gm no (nh + 1) nb Ao co (some ⟨g, 0, none⟩) cap Ab cb ∧ Chg w ((w'.setCell ⟨gm, 1, none⟩ (.slice (some ⟨g, 0, none⟩) (nh + 1) cap)).drewN m) (fun k => gm ≤ k) := by
 rw [rep_succ] at hown
 have k := chg_of_grown hb hg
 have ha := at_of hz hat
 have hne : ¬ inB Ah gm := fun e => by have := (h.rh.lt gm e).1; omega
 have b1 := h.head.chg k hne
 have r0 : RowN w' (gm + 1) 3 (some ⟨g, 0, none⟩) (nh + 1) cap _ := ⟨hown⟩
 have ro := h.ro.chg k (fun b hb e => h.oh b hb e)
 have rb := h.rb.chg k (fun b hb e => h.hb b e hb)
 refine ⟨b1, fun m => ?_⟩
 have ks : Chg w' (w'.setCell ⟨gm, 1, none⟩ (.slice (some ⟨g, 0, none⟩) (nh + 1) cap)) (fun k => k = gm) := Chg.set _ _ _ rfl
 refine ⟨New3.drewN ⟨b1.put 1 _, ro.chg ks (fun b hb e => by have := (ro.lt b hb).1; have e' : b = gm := e; omega), r0.chg ks (fun b hb e => by have := (r0.lt b hb).1; have e' : b = gm := e; omega), rb.chg ks (fun b hb e => by have := (rb.lt b hb).1; have e' : b = gm := e; omega), (h.oh.symm.new (fun b hb => (h.ro.lt b hb).2) ha).symm, h.ob, h.hb.new (fun b hb => (h.rb.lt b hb).2) ha⟩ m, Chg.drewN ?_ m⟩
 exact (k.weak (fun i hi => by have := (h.rh.lt i hi).1; omega)).trans (ks.weak (fun i hi => by have hi' : i = gm := hi; omega))
theorem New3.step2 (h : New3 w gm no nh nb Ao co Ah ch Ab cb) (hb : Below w.heap.size w w1) {H : Nat} (hz : w.heap.size ≤ H) (hg : w1.grownBy w' (Value.slice Ab nb cb).ownBlock) (hat : (Value.slice Ab nb cb).ownBlock = some g ∨ g = H)
  (hown : w'.ownsRow (gm + 1) 9 1 (.slice (some ⟨g, 0, none⟩) (nb + 1) cap) (nb + 1) (List.replicate nb (.string page0') ++ [.string page0'])) :
  Blk w' gm 138 #[.slice Ao no co, .slice Ah nh ch, .slice Ab nb cb] ∧ ∀ m, New3 ((w'.setCell ⟨gm, 2, none⟩ (.slice (some ⟨g, 0, none⟩) (nb + 1) cap)).drewN m) gm no nh (nb + 1) Ao co Ah ch (some ⟨g, 0, none⟩) cap ∧ Chg w ((w'.setCell ⟨gm, 2, none⟩ (.slice (some ⟨g, 0, none⟩) (nb + 1) cap)).drewN m) (fun k => gm ≤ k) := by
 rw [rep_succ] at hown
 have k := chg_of_grown hb hg
 have ha := at_of hz hat
 have hne : ¬ inB Ab gm := fun e => by have := (h.rb.lt gm e).1; omega
 have b1 := h.head.chg k hne
 have r0 : RowN w' (gm + 1) 9 (some ⟨g, 0, none⟩) (nb + 1) cap _ := ⟨hown⟩
 have ro := h.ro.chg k (fun b hb e => h.ob b hb e)
 have rh := h.rh.chg k (fun b hb e => h.hb b hb e)
 refine ⟨b1, fun m => ?_⟩
 have ks : Chg w' (w'.setCell ⟨gm, 2, none⟩ (.slice (some ⟨g, 0, none⟩) (nb + 1) cap)) (fun k => k = gm) := Chg.set _ _ _ rfl
 refine ⟨New3.drewN ⟨b1.put 2 _, ro.chg ks (fun b hb e => by have := (ro.lt b hb).1; have e' : b = gm := e; omega), rh.chg ks (fun b hb e => by have := (rh.lt b hb).1; have e' : b = gm := e; omega), r0.chg ks (fun b hb e => by have := (r0.lt b hb).1; have e' : b = gm := e; omega), h.oh, (h.ob.symm.new (fun b hb => (h.ro.lt b hb).2) ha).symm, (h.hb.symm.new (fun b hb => (h.rh.lt b hb).2) ha).symm⟩ m, Chg.drewN ?_ m⟩
 exact (k.weak (fun i hi => by have := (h.rb.lt i hi).1; omega)).trans (ks.weak (fun i hi => by have hi' : i = gm := hi; omega))
theorem New3.done {n : Nat} (h : New3 w gm n n n Ao co Ah ch Ab cb) (h1 : 0 < n) (h2 : n ≤ 256) : ∃ bo bh bb, RefT w gm bo bh bb co ch cb (List.replicate n .blank) := by
 obtain ⟨bo, c1, e1, g1, _⟩ := h.ro.own.form h1
 obtain ⟨bh, c2, e2, g2, _⟩ := h.rh.own.form h1
 obtain ⟨bb, c3, e3, g3, _⟩ := h.rb.own.form h1
 cases e1
 cases e2
 cases e3
 have ho := h.ro.own
 have hh := h.rh.own
 have hb := h.rb.own
 refine ⟨bo, bh, bb, ?_, by omega, by omega, by omega, fun e => h.oh bo rfl (by rw [e]; rfl), fun e => h.ob bo rfl (by rw [e]; rfl), fun e => h.hb bh rfl (by rw [e]; rfl), ?_, ?_, ?_, by rw [List.length_replicate]; exact h2, fun p hp => by rw [(List.mem_replicate.1 hp).2]; exact Pg.blank_ok⟩
 ·rw [List.length_replicate]; exact h.head
 ·have := Heads.of_row ho
  unfold ownersOf
  rw [List.map_replicate]; exact this
 ·have := Heads.of_row hh
  unfold holdsOf
  rw [List.map_replicate]; exact this
 ·have := Heads.of_row hb
  unfold textsOf
  rw [List.map_replicate]; exact this
end

theorem s_info : ∃ i0, Tryz.prog.info? 9 = some i0 ∧ i0.zero = some (.string ⟨#[]⟩) ∧ i0.size = 1 ∧ i0.bytes = 16 := by
 obtain ⟨i, hi, hs⟩ := Option.map_eq_some_iff.1 str_info
 simp at hs
 exact ⟨i, hi, hs.1, hs.2.1, hs.2.2⟩
theorem i_info : ∃ i0, Tryz.prog.info? 3 = some i0 ∧ i0.zero = some (.int .i64 0) ∧ i0.size = 1 ∧ i0.bytes = 8 := by
 obtain ⟨i, hi, hs⟩ := Option.map_eq_some_iff.1 int_info
 simp at hs
 exact ⟨i, hi, hs.1, hs.2.1, hs.2.2⟩
theorem one_int (x : Int) : ∀ u ∈ ([.int .i64 x] : List Value), u.oneCell' = true := fun u hu => by rw [List.mem_singleton.1 hu]; rfl
theorem one_str (x : ByteArray) : ∀ u ∈ ([.string x] : List Value), u.oneCell' = true := fun u hu => by rw [List.mem_singleton.1 hu]; rfl

set_option maxRecDepth 100000 in
set_option maxHeartbeats 2000000 in
theorem rnew_any (n : Nat) (h1 : 0 < n) (h2 : n ≤ 256) (w : World) :
  Calls Tryz.prog 24 #[.int .i64 (n : Int)] w fun e w' => e = .returned (.pointer (some ⟨w.heap.size, 0, none⟩)) ∧ (∃ bo bh bb co ch cb, RefT w' w.heap.size bo bh bb co ch cb (List.replicate n .blank)) ∧ Below w.heap.size w w' := by
 have k0 := Lib.hid (show New3 (w.alloc (.cells #[.slice none 0 0, .slice none 0 0, .slice none 0 0] 138)) w.heap.size 0 0 0 none 0 none 0 none 0 from
  ⟨Blk.new w _ _, RowN.nil _ _ _, RowN.nil _ _ _, RowN.nil _ _ _, fun b h => by simp [inB] at h, fun b h => by simp [inB] at h, fun b h => by simp [inB] at h⟩)
 have b0 := Lib.hid ((Below.refl w.heap.size w).alloc (Nat.le_refl _) (.cells #[.slice none 0 0, .slice none 0 0, .slice none 0 0] 138))
 generalize hgm : w.heap.size = gm at *
 have HGM := Lib.hid hgm
 clear hgm
 obtain ⟨is, hsi, hs0, hs1, hs2⟩ := s_info
 obtain ⟨ii, hii, hi0, hi1, hi2⟩ := i_info
 have INF := Lib.hid (And.intro hsi (And.intro hs0 (And.intro hs1 (And.intro hs2 (And.intro hii (And.intro hi0 (And.intro hi1 hi2)))))))
 clear hsi hs0 hs1 hs2 hii hi0 hi1 hi2
 go_enter Tryz.func24, Tryz.ntmps24
 go_wp2
 rw [HGM.out]
 go_loopw [4] (fun i wr => ∃ (j : Nat) (Ao : Option Addr) (co : Nat) (Ah : Option Addr) (ch : Nat) (Ab : Option Addr) (cb : Nat), j ≤ n ∧ i = .int .i64 (j : Int) ∧ New3 wr gm j j j Ao co Ah ch Ab cb ∧ Below gm w wr) (fun i _ => n - (intOf i).toNat)
 case atStart => exact ⟨0, none, 0, none, 0, none, 0, Nat.zero_le _, rfl, k0.out, b0.out⟩
 case round =>
  clear k0 b0
  obtain ⟨j, Ao, co, Ah, ch, Ab, cb, hj, rfl, hN, hbel⟩ := hrel
  have HN := Lib.hid hN
  have HB := Lib.hid hbel
  have hgl : gm < wr.heap.size := hN.head.lt
  by_cases hlt : j < n
  ·have hlt' : (j : Int) < (n : Int) := by omega
   have xj := IntWalk.i64_in ((j : Int) + 1) (by omega)
   have c0 : wr.cell? ⟨gm, 0, none⟩ = some (.slice Ao j co) := hN.head.cell 0
   clear hN hbel
   go_wp2_with (at_builtin; refine Hid.out ?_)
   unfold Hid
   refine wpList_append_lies _ rfl (.tmp 16) (.tmp 17) 71 rfl (gm + 1) 3 ii (.int .i64 0) 1 8 Tryz.underlying71 INF.out.2.2.2.2.1 INF.out.2.2.2.2.2.1 INF.out.2.2.2.2.2.2.1 INF.out.2.2.2.2.2.2.2 rfl (by decide) _ j (List.replicate j (.int .i64 0)) rfl (HN.out.ro.new ((Below.refl _ wr).alloc (Nat.le_refl _) _)).own ⟨wr.heap.size, 0, none⟩ 1 1 [.int .i64 0] rfl rfl (cell_one_new _ _ _) (one_int 0) (by decide) (by unfold maxLen; omega) (by omega) (by simp; omega) (wr.heap.size + 1) (by simp) ?_
   intro g cap w1 hown hgrow hat hlg
   obtain ⟨hd1, hn1⟩ := HN.out.step0 ((Below.refl _ wr).alloc (Nat.le_refl _) (.cells #[.int .i64 0] 3)) (Nat.le_succ _) hgrow hat hown
   have c1 : w1.cell? ⟨gm, 0, none⟩ = some (.slice Ao j co) := hd1.cell 0
   have f1 := hd1.frozen 0
   have HN1 := Lib.hid (hn1 0).1
   have HB1 := Lib.hid (HB.out.trans ((hn1 0).2.below (by omega) (fun i hi => hi)))
   rw [World.drewN_zero] at HN1 HB1
   clear hown hgrow hat hd1 hn1 c0 HN HB
   go_upto_region 6 with fail
   generalize (w1.setCell ⟨gm, 0, none⟩ (.slice (some ⟨g, 0, none⟩) (j + 1) cap)) = w2 at *
   have hgl2 : gm < w2.heap.size := HN1.out.head.lt
   have c0 : w2.cell? ⟨gm, 1, none⟩ = some (.slice Ah j ch) := HN1.out.head.cell 1
   clear c1 f1
   go_wp2_with (at_builtin; refine Hid.out ?_)
   unfold Hid
   refine wpList_append_lies _ rfl (.tmp 25) (.tmp 26) 71 rfl (gm + 1) 3 ii (.int .i64 0) 1 8 Tryz.underlying71 INF.out.2.2.2.2.1 INF.out.2.2.2.2.2.1 INF.out.2.2.2.2.2.2.1 INF.out.2.2.2.2.2.2.2 rfl (by decide) _ j (List.replicate j (.int .i64 0)) rfl (HN1.out.rh.new ((Below.refl _ w2).alloc (Nat.le_refl _) _)).own ⟨w2.heap.size, 0, none⟩ 1 1 [.int .i64 0] rfl rfl (cell_one_new _ _ _) (one_int 0) (by decide) (by unfold maxLen; omega) (by omega) (by simp; omega) (w2.heap.size + 1) (by simp) ?_
   intro g2 cap2 w3 hown hgrow hat hlg2
   obtain ⟨hd1, hn1⟩ := HN1.out.step1 ((Below.refl _ w2).alloc (Nat.le_refl _) (.cells #[.int .i64 0] 3)) (Nat.le_succ _) hgrow hat hown
   have c1 : w3.cell? ⟨gm, 1, none⟩ = some (.slice Ah j ch) := hd1.cell 1
   have f1 := hd1.frozen 1
   have HN2 := Lib.hid (hn1 0).1
   have HB2 := Lib.hid (HB1.out.trans ((hn1 0).2.below (by omega) (fun i hi => hi)))
   rw [World.drewN_zero] at HN2 HB2
   clear hown hgrow hat hd1 hn1 c0 HN1 HB1
   go_upto_region 7 with fail
   generalize (w3.setCell ⟨gm, 1, none⟩ (.slice (some ⟨g2, 0, none⟩) (j + 1) cap2)) = w4 at *
   have hgl4 : gm < w4.heap.size := HN2.out.head.lt
   have c0 : w4.cell? ⟨gm, 2, none⟩ = some (.slice Ab j cb) := HN2.out.head.cell 2
   clear c1 f1 hgl hgl2
   go_region_law (first
     | (go_simp; go_at_call 63; refine (blank_any _).mono ?_; rintro e wt ⟨rfl, bt⟩
        have hz : w4.heap.size ≤ wt.heap.size := bt.size
        have ht : Blk wt gm 138 _ := Blk.older HN2.out.head (show Older w4 wt from ⟨bt.size, bt.block⟩)
        have ct : wt.cell? ⟨gm, 2, none⟩ = some (.slice Ab j cb) := ht.cell 2
        have ca : (wt.alloc (.cells #[.string page0'] 9)).cell? ⟨gm, 2, none⟩ = some (.slice Ab j cb) := (ht.alloc _).cell 2
        have hba : Below w4.heap.size w4 (wt.alloc (.cells #[.string page0'] 9)) := (show Below w4.heap.size w4 wt from ⟨bt.os, bt.tape, bt.output, bt.size, bt.block⟩).alloc bt.size _)
     | (refine step_append_lies _ rfl (.tmp 34) (.tmp 36) 63 rfl (gm + 1) 9 is (.string ⟨#[]⟩) 1 16 Tryz.underlying63 INF.out.1 INF.out.2.1 INF.out.2.2.1 INF.out.2.2.2.1 rfl (by decide) _ j (List.replicate j (.string page0')) rfl (HN2.out.rb.new hba).own ⟨wt.heap.size, 0, none⟩ 1 1 [.string page0'] rfl rfl (cell_one_new _ _ _) (one_str page0') (by decide) (by unfold maxLen; omega) (by omega) (by simp; omega) (wt.heap.size + 1) (by simp) ?_
        intro g3 cap3 w5 hown hgrow hat hlg3
        have hs2 := HN2.out.step2 hba (Nat.le_succ_of_le hz) hgrow hat hown
        have c5 : w5.cell? ⟨gm, 2, none⟩ = some (.slice Ab j cb) := hs2.1.cell 2
        have f5 := hs2.1.frozen 2
        have HS2 := Lib.hid hs2
        clear hs2 hown hgrow hat))
   all_goals
    go_wp2
    go_roundw
    case rel =>
     have q := (HS2.out.2 0).2
     exact ⟨j + 1, _, _, _, _, _, _, by omega, by simp, (HS2.out.2 0).1, HB2.out.trans (q.below (by omega) (fun i hi => hi))⟩
    case measure => simp [intOf]; omega
  ·have hge : ¬ (j : Int) < (n : Int) := by omega
   obtain rfl : j = n := by omega
   clear hN hbel
   go_wp2
   go_ret
   obtain ⟨bo, bh, bb, r⟩ := HN.out.done h1 h2
   exact ⟨rfl, ⟨bo, bh, bb, co, ch, cb, r⟩, HB.out⟩
end Go.Proofs.YtbkjjakkihbcdaaGreat.RD

/- Does a table show what the document's does? Conditions: those that each states. -/
namespace Go.Proofs.YtbkjjakkihbcdaaGreat
open Go.ChangeShapes Go.WideShapes Go.ChangeAt Go.RowKit Go.Deep Fr
set_option linter.unusedVariables false

section
variable {gs g : Nat} {ps : List Pg} {w : World}
theorem read_all {k : Nat} (hk : k < ps.length) (ht : ps[k].text.length = 256) (h2 : ps[k].owner ≤ 2) (h0 : ps[k].owner ≠ 0) : readR ps (ps[k].owner : Int) (k : Int) 0 256 = (ps[k].text, 0) := by
 have hE : isE (ps[k].owner : Int) := by unfold isE; omega
 have e : ownErr ps (ps[k].owner : Int) (k : Int) = 0 := by
  unfold ownErr
  rw [if_pos ⟨hE, ⟨by omega, by omega⟩⟩, pg_at hk, if_pos rfl]
 unfold readR
 rw [if_pos e, if_pos ⟨by decide, by decide, by decide⟩, pg_at hk]
 show ((ps[k].text.drop 0).take 256, (0 : Int)) = _
 rw [List.drop_zero, List.take_of_length_le (by omega)]
end

end Go.Proofs.YtbkjjakkihbcdaaGreat
