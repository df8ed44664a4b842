/- The reads of a frame and of a block: their bytes lie in blocks that were not there. Conditions: those that each states. -/
import Derived.Test.YthnpalcjfgbjeaaGreatKnA
namespace Go.Proofs.YthnpalcjfgbjeaaGreat.Ke
open Go.ChangeShapes Go.WideShapes Go.ChangeAt Go.RowKit Go.Deep
set_option linter.unusedVariables false
/-- Bytes that lie in blocks that were not there in W. -/
structure SrcF (W w : World) (A : Option Addr) (n c : Nat) (l : List UInt8) : Prop extends Src w A n c l where
  fresh : Fresh W A n
theorem SrcF.nil (W w : World) : SrcF W w none 0 0 [] := ⟨Src.nil w, fun h => absurd h (by decide)⟩
theorem SrcF.mono {W W' w : World} {A : Option Addr} {n c : Nat} {l : List UInt8} (h : SrcF W w A n c l) (k : W'.heap.size ≤ W.heap.size) : SrcF W' w A n c l := ⟨h.toSrc, fun h0 b o e => Nat.le_trans k (h.fresh h0 b o e)⟩
theorem clone_f (A : Addr) (n c : Nat) (l : List UInt8) (w : World) (hb : Src w (some A) n c l) (hn : n ≤ 1099511627776) :
    Calls Tryz.prog 65 #[.slice (some A) n c] w fun e w' => ∃ A' c', e = .returned (.slice A' n c') ∧ SrcF w w' A' n c' l ∧ Below w.heap.size w w' :=
  (clone_bytes (some A) n c l w hb hn).mono fun e w' ⟨A', c', he, h1, h2, h3⟩ => ⟨A', c', he, ⟨h1, h2⟩, h3⟩
namespace Rf
open Fr
section
variable {gs g : Nat} {ps : List Pg} {w : World}
set_option maxRecDepth 100000 in
theorem piece_yes (h : Tab w gs g ps) (k : Nat) (hk : k < ps.length) (o n : Nat) (hn : o + n ≤ 256) :
    Calls Tryz.prog 36 #[.pointer (some ⟨gs, k * 258, none⟩), .int .i64 (o : Int), .int .i64 (n : Int)] w fun e w' => ∃ A c, e = .returned (.tuple #[.slice A n c, .int .i64 0]) ∧ SrcF w w' A n c ((ps[k].text.drop o).take n) ∧ Below w.heap.size w w' := by
  have n2 := h.n2
  have WI := Lib.hid (within_yes o n ⟨by omega, by omega, by omega⟩ w)
  have hcut := run_cut2 ⟨gs, k * 258 + 2, none⟩ o n hn
  have CL := Lib.hid (clone_f _ _ _ _ w (cut_src h hk hn) (by omega))
  have x0 := IntWalk.i64_in ((o : Int) + (n : Int)) (by omega)
  generalize cutAt ⟨gs, k * 258 + 2, none⟩ o = ca at *
  clear h
  go_enter Tryz.func36, Tryz.ntmps36
  go_wp2_with fail
  refine WI.out.mono ?_; rintro e w1 ⟨rfl, rfl⟩
  go_wp2_with fail
  refine CL.out.mono ?_; rintro e w2 ⟨A', c', rfl, S2, b2⟩
  have HS2 := Lib.hid S2
  have B2 := Lib.hid b2
  clear S2 b2
  go_wp2
  go_ret2
  exact ⟨A', c', rfl, HS2.out, B2.out⟩
set_option maxRecDepth 100000 in
theorem read_any (h : Tab w gs g ps) (env f off n : Int) (wo : -9223372036854775808 ≤ off ∧ off ≤ 9223372036854775807) :
    Calls Tryz.prog 12 #[.pointer (some ⟨g, 0, none⟩), .int .i64 env, .int .i64 f, .int .i64 off, .int .i64 n] w fun e w' => ∃ A c, e = .returned (.tuple #[.slice A (Fr.readR ps env f off n).1.length c, .int .i64 (Fr.readR ps env f off n).2]) ∧ SrcF w w' A (Fr.readR ps env f off n).1.length c (Fr.readR ps env f off n).1 ∧ Below w.heap.size w w' := by
  by_cases he : ownErr ps env f = 0
  · obtain ⟨k, hk, rfl, hE, ho⟩ := ownErr_zero he
    have OW := Lib.hid (owned_ok h env k hk hE ho)
    by_cases hin : isIn off n
    · have er : Fr.readR ps env k off n = ((ps[k].text.drop off.toNat).take n.toNat, 0) := by unfold Fr.readR; rw [if_pos he, if_pos hin, pg_at hk]
      rw [er]
      obtain ⟨o, rfl⟩ : ∃ o : Nat, off = (o : Int) := ⟨off.toNat, by have := hin.1; omega⟩
      obtain ⟨m, rfl⟩ : ∃ m : Nat, n = (m : Int) := ⟨n.toNat, by have := hin.2.1; omega⟩
      have hfit : o + m ≤ 256 := by have := hin.2.2; omega
      simp only [Int.toNat_natCast]
      have htl := (h.at_ hk).t
      have hl : ((ps[k].text.drop o).take m).length = m := by simp [htl]; omega
      have PC := Lib.hid (Rf.piece_yes h k hk o m hfit)
      rw [hl]
      generalize (ps[k].text.drop o).take m = l at *
      clear h hE ho he er hin htl hl wo
      go_enter Tryz.func12, Tryz.ntmps12
      go_wp2_with fail
      refine OW.out.mono ?_; rintro e w1 ⟨rfl, rfl⟩
      go_wp2_with fail
      refine PC.out.mono ?_; rintro e w2 ⟨A', c', rfl, S2, b2⟩
      have HS2 := Lib.hid S2
      have B2 := Lib.hid b2
      clear S2 b2
      go_wp2
      go_ret2
      exact ⟨A', c', rfl, HS2.out, B2.out⟩
    · have er : Fr.readR ps env k off n = ([], 1) := by unfold Fr.readR; rw [if_pos he, if_neg hin]
      rw [er]
      have PC := Lib.hid (piece_no (w := w) (.pointer (some ⟨gs, k * 258, none⟩)) off n wo hin)
      clear h hE ho he er hin wo
      go_enter Tryz.func12, Tryz.ntmps12
      go_wp2_with fail
      refine OW.out.mono ?_; rintro e w1 ⟨rfl, rfl⟩
      go_wp2_with fail
      refine PC.out.mono ?_; rintro e w2 ⟨rfl, rfl⟩
      go_wp2
      go_ret2
      exact ⟨none, 0, rfl, SrcF.nil _ _, Below.refl _ _⟩
  · have er : Fr.readR ps env f off n = ([], ownErr ps env f) := by unfold Fr.readR; rw [if_neg he]
    rw [er]
    have OW := Lib.hid (owned_no h env f he)
    have hv : (ownErr ps env f == 0) = false := by simpa using he
    generalize ownErr ps env f = v at *
    clear h er he wo
    go_enter Tryz.func12, Tryz.ntmps12
    go_wp2_with fail
    refine OW.out.mono ?_; rintro e w1 ⟨rfl, rfl⟩
    go_wp2
    go_ret2
    exact ⟨none, 0, rfl, SrcF.nil _ _, Below.refl _ _⟩

end
end Rf
namespace Rd
open Di
def Told (w : World) (t : List UInt8) (e : Ending) (w' : World) : Prop := ∃ A c, e = .returned (.tuple #[.slice A t.length c, .int .i64 0]) ∧ SrcF w w' A t.length c t ∧ Below w.heap.size w w'
section
variable {gb g cl ce : Nat} {Al Ae : Option Addr} {d : Dk} {w : World} {F : Nat → Prop}
set_option maxRecDepth 100000 in
set_option maxHeartbeats 2000000 in
theorem read_yes (h : DskAt w gb g Al cl Ae ce d) (env : Int) (b : Nat) (hb : b < d.blocks.length) (he : askE d env b = 0) (t : List UInt8) (ht : t = see d b) :
    Calls Tryz.prog 48 #[.pointer (some ⟨g, 0, none⟩), .int .i64 env, .int .i64 (b : Int)] w (Rd.Told w t) := by
  have AS := Lib.hid (asked_any h env b)
  rw [he] at AS
  have H := Lib.hid h
  have T := Lib.hid ht
  have n2 := h.ok.n2
  have hL : d.line.length ≤ 9223372036854775807 := by have := h.line.capMax; unfold maxLen at this; omega
  have hgl := h.head.lt
  have b0 : (0 : Int) ≤ (b : Int) := by omega
  have b3 : (b : Int) < (d.blocks.length : Int) := by omega
  clear h he ht
  go_enter Tryz.func48, Tryz.ntmps48
  go_wp2_with fail
  refine AS.out.mono ?_; rintro e w1 ⟨rfl, b1⟩
  have D1 := Lib.hid (H.out.new b1)
  have B1 := Lib.hid b1
  have hw1 : w.heap.size ≤ w1.heap.size := b1.size
  obtain ⟨c0, c1, _, _, _⟩ := heads D1.out
  have xL := IntWalk.i64_in ((d.line.length : Int) - 1) (by omega)
  clear b1 AS
  go_wp2
  go_loopw [9] (fun i wr => ∃ (j : Nat), j ≤ d.line.length ∧ i = .int .i64 ((j : Int) - 1) ∧ Hid (∀ k (hk : k < d.line.length), j ≤ k → d.line[k].block ≠ b) ∧ wr = w1) (fun i _ => (intOf i + 1).toNat)
  case atStart => exact ⟨d.line.length, Nat.le_refl _, rfl, Lib.hid (fun k hk h => absurd h (by omega)), rfl⟩
  case round =>
    obtain ⟨j, hj, hi, NO, rfl⟩ := hrel
    cases j with
    | zero =>
      have hi' := hi.trans (show (Value.int .i64 (((0 : Nat) : Int) - 1)) = .int .i64 (-1) from rfl)
      clear hi
      subst hi'
      have CL := Lib.hid (clone_f _ _ _ _ wr (block_src D1.out hb) (by omega))
      have hcut := run_cut gb (b * 256)
      have HS := Lib.hid (show t = d.blocks[b] from T.out.trans (by
        unfold see
        rw [seen_none (fun q hq => by
          obtain ⟨k, hk, rfl⟩ := List.mem_iff_getElem.1 hq
          exact NO.out k hk (Nat.zero_le _))]
        simp [hb]))
      have HL := Lib.hid (D1.out.ok.bl _ (List.getElem_mem hb))
      clear NO
      generalize d.blocks[b] = tb at *
      go_wp2_with fail
      refine CL.out.mono ?_; rintro e w2 ⟨A', c', rfl, s2, b2⟩
      have S2 := Lib.hid (s2.mono hw1)
      have B2 := Lib.hid (B1.out.trans (b2.mono hw1))
      clear s2 b2
      go_wp2
      go_ret2
      refine ⟨A', c', ?_, ?_, B2.out⟩
      · rw [HS.out, HL.out]; rfl
      · rw [HS.out, HL.out]; exact S2.out
    | succ k =>
      have hi' := hi.trans (show (Value.int .i64 (((k + 1 : Nat) : Int) - 1)) = .int .i64 (k : Int) by congr 1; omega)
      clear hi
      subst hi'
      have hk : k < d.line.length := by omega
      have k0 : (k : Int) ≥ 0 := by omega
      have k0' : (0 : Int) ≤ (k : Int) := by omega
      have k1 : (k : Int) < (d.line.length : Int) := by omega
      have xk := IntWalk.i64_in ((k : Int) - 1) (by omega)
      obtain ⟨l, rfl, hl, cb, hr, hsrc⟩ := wr_parts D1.out hk
      by_cases hh : d.line[k].block = b
      · have CL := Lib.hid (clone_f _ _ _ _ wr hsrc (by omega))
        have hcut := run_cut l (k * 257 + 1)
        have HS := Lib.hid (show t = d.line[k].text from T.out.trans (by
          unfold see
          exact seen_last hk hh (fun j hj hlt => NO.out j hj (by omega)) _))
        have HL := Lib.hid (D1.out.ok.li _ (List.getElem_mem hk)).2
        rw [hh] at cb
        clear NO hr hsrc hh
        generalize d.line[k].text = tb at *
        go_wp2_with fail
        refine CL.out.mono ?_; rintro e w2 ⟨A', c', rfl, s2, b2⟩
        have S2 := Lib.hid (s2.mono hw1)
        have B2 := Lib.hid (B1.out.trans (b2.mono hw1))
        clear s2 b2
        go_wp2
        go_ret2
        refine ⟨A', c', ?_, ?_, B2.out⟩
        · rw [HS.out, HL.out]; rfl
        · rw [HS.out, HL.out]; exact S2.out
      · have NO2 : Hid (∀ k' (hk : k' < d.line.length), k ≤ k' → d.line[k'].block ≠ b) := Lib.hid (fun k' hk h => by
          by_cases e : k' = k
          · subst e; exact hh
          · exact NO.out k' hk (by omega))
        have hh' : ((d.line[k].block : Int) == (b : Int)) = false := beq_eq_false_iff_ne.2 (by omega)
        clear NO hr hsrc hh
        generalize (d.line[k].block : Int) = q at *
        go_wp2
        go_roundw
        case rel => exact ⟨k, by omega, rfl, NO2, by first | rfl | trivial⟩
        case measure => simp [intOf]
theorem read_any (h : DA w F g d) (env block : Int) :
    Calls Tryz.prog 48 #[.pointer (some ⟨g, 0, none⟩), .int .i64 env, .int .i64 block] w fun e w' => ∃ A c, e = .returned (.tuple #[.slice A (readR d env block).1.length c, .int .i64 (readR d env block).2]) ∧ SrcF w w' A (readR d env block).1.length c (readR d env block).1 ∧ Below w.heap.size w w' := by
  obtain ⟨gb, Al, cl, Ae, ce, D, hF⟩ := h
  unfold readR
  by_cases he : askE d env block = 0
  · rw [if_pos he]
    obtain ⟨_, b, rfl, hb, _⟩ := askE_zero he
    exact (Rd.read_yes D env b hb he _ rfl).mono fun e w' h => h
  · rw [if_neg he]
    refine (read_no D env block he).mono ?_
    rintro e w' ⟨rfl, b⟩
    exact ⟨none, 0, rfl, SrcF.nil _ _, b⟩
end
end Rd
end Go.Proofs.YthnpalcjfgbjeaaGreat.Ke

/- gather's Fetch: its bytes lie in a block that was not there. Conditions: those that each states. -/
namespace Go.Proofs.YthnpalcjfgbjeaaGreat.Ke.Rg
open Go.ChangeShapes Go.WideShapes Go.ChangeAt Go.RowKit Go.Deep Fr
set_option linter.unusedVariables false
section
variable {gs g : Nat} {ps : List Pg} {w : World}
end
end Go.Proofs.YthnpalcjfgbjeaaGreat.Ke.Rg

/- A kernel in memory beside blocks that a call makes for itself. Conditions: those that each states. -/
namespace Go.Proofs.YthnpalcjfgbjeaaGreat.Ke
open Go.ChangeShapes Go.WideShapes Go.ChangeAt Go.RowKit Go.Deep Fr Di
set_option linter.unusedVariables false
section
variable {w w' W : World} {lab m : Nat → Nat} {g : Nat} {K K' : Kn} {a : Ad}
/-- Blocks that are new are labelled 8, as no part's. -/
theorem KAt.mark (h : KAt w lab g K a) (k : Below w.heap.size w W) (hm : ∀ i, i < w.heap.size → m i = lab i) (hn : ∀ i, w.heap.size ≤ i → m i = 0 ∨ (m i = 8 ∧ i < W.heap.size)) : KAt W m g K a := by
  have hs : Step w W (on lab) (on m) := ⟨Chg.of_new k _, fun i hi => by
    by_cases c : i < w.heap.size
    · left; show lab i ≠ 0; rw [← hm i c]; exact hi
    · right; omega⟩
  have far : ∀ i n, lab i = n → n ≠ 0 → m i = n := fun i n e h0 => (hm i (h.all i (by omega))).trans e
  refine ⟨h.head.older (older_below k), h.tab.new k, da_iff (h.dk.new k) (fun i => ?_), RowW.new h.row k, h.fil.weak (fun _ _ _ h => h.step hs), h.r1.new k, h.p1.weak (fun _ _ _ h => h.step hs), h.r2.new k, h.p2.weak (fun _ _ _ h => h.step hs), h.r3.new k, h.p3.weak (fun _ _ _ h => h.step hs),
    far _ _ h.lg (by omega), far _ _ h.lt1 (by omega), far _ _ h.lt2 (by omega), fun b hb => far _ _ (h.lr b hb) (by omega), far _ _ h.l11 (by omega), far _ _ h.l12 (by omega), far _ _ h.l21 (by omega), far _ _ h.l22 (by omega), far _ _ h.l31 (by omega), far _ _ h.l32 (by omega), fun i hi => ?_⟩
  · constructor
    · intro e; exact far i 3 e (by omega)
    · intro e
      have e' : m i = 3 := e
      by_cases c : i < w.heap.size
      · show lab i = 3; rw [← hm i c]; exact e'
      · rcases hn i (by omega) with h1 | h1 <;> omega
  · by_cases c : i < w.heap.size
    · exact Nat.lt_of_lt_of_le c k.size
    · rcases hn i (by omega) with h1 | h1
      · exact absurd h1 hi
      · exact h1.2
/-- Label 8 is taken off again. -/
def off8 (lab : Nat → Nat) : Nat → Nat := fun k => if lab k = 8 then 0 else lab k
theorem off8_on {k : Nat} (h : on (off8 lab) k) : on lab k := by
  intro e
  have h' : off8 lab k ≠ 0 := h
  unfold off8 at h'
  rw [e] at h'
  exact h' rfl
theorem off8_eq {k n : Nat} (h : lab k = n) (hn : n ≠ 8) : off8 lab k = n := by unfold off8; rw [if_neg (by omega)]; exact h
theorem off8_ne (lab : Nat → Nat) (k : Nat) : off8 lab k ≠ 8 := by unfold off8; split <;> omega
theorem KAt.unmark (h : KAt w lab g K a) : KAt w (off8 lab) g K a := by
  have hs : Step w w (on lab) (on (off8 lab)) := ⟨Chg.refl _ _, fun i hi => .inl (off8_on hi)⟩
  refine ⟨h.head, h.tab, da_iff h.dk (fun i => ?_), h.row, h.fil.weak (fun _ _ _ h => h.step hs), h.r1, h.p1.weak (fun _ _ _ h => h.step hs), h.r2, h.p2.weak (fun _ _ _ h => h.step hs), h.r3, h.p3.weak (fun _ _ _ h => h.step hs),
    off8_eq h.lg (by omega), off8_eq h.lt1 (by omega), off8_eq h.lt2 (by omega), fun b hb => off8_eq (h.lr b hb) (by omega), off8_eq h.l11 (by omega), off8_eq h.l12 (by omega), off8_eq h.l21 (by omega), off8_eq h.l22 (by omega), off8_eq h.l31 (by omega), off8_eq h.l32 (by omega), fun i hi => h.all i (off8_on hi)⟩
  constructor
  · intro e; exact off8_eq e (by omega)
  · intro e
    have e' : off8 lab i = 3 := e
    unfold off8 at e'
    split at e'
    · omega
    · exact e'
/-- Blocks that are no part's have turned, labelled 8. -/
theorem KAt.far8 (h : KAt w lab g K a) (k : Chg w w' (fun i => lab i = 8)) : KAt w' lab g K a := by
  obtain ⟨q1, q2, q3, q4, q5, q6, q7, q8, q9, q10, q11, q12⟩ := h.keep (m := 8) k (by omega)
  exact ⟨q1 (by omega), q2 (by omega), q3 (by omega), q4 (by omega), q8, q5 (by omega), q9, q6 (by omega), q10, q7 (by omega), q11, h.lg, h.lt1, h.lt2, h.lr, h.l11, h.l12, h.l21, h.l22, h.l31, h.l32, fun i hi => Nat.lt_of_lt_of_le (h.all i hi) k.size⟩
theorem LStep.blk8 {lab' : Nat → Nat} (L : LStep w w' lab lab') {i : Nat} {t : TypeId} {cs : Array Value} (hb : Blk w i t cs) (h8 : 8 ≤ lab i) : Blk w' i t cs := hb.chg L.chg (fun h => by omega)

/-- A call's own two blocks: what it was asked, and its answer. -/
structure Bx (w W : World) (lab m : Nat → Nat) (g : Nat) (K : Kn) (a : Ad) (cs : Array Value) : Prop where
  below : Below w.heap.size w W
  size : W.heap.size = w.heap.size + 2
  ka : KAt W m g K a
  bc : Blk W w.heap.size 80 cs
  ba : Blk W (w.heap.size + 1) 75 #[.int .i64 0, .slice none 0 0]
  m1 : m w.heap.size = 8
  m2 : m (w.heap.size + 1) = 8
  ml : ∀ i, i < w.heap.size → m i = lab i
  n8 : ∀ k, lab k ≠ 8
  la : ∀ k, lab k ≠ 0 → k < w.heap.size
def mk2 (lab : Nat → Nat) (H : Nat) : Nat → Nat := fun k => if k = H ∨ k = H + 1 then 8 else if k < H then lab k else 0
theorem boxed (h : KAt w lab g K a) (n8 : ∀ k, lab k ≠ 8) (cs : Array Value) : Bx w ((w.alloc (.cells cs 80)).alloc (.cells #[.int .i64 0, .slice none 0 0] 75)) lab (mk2 lab w.heap.size) g K a cs := by
  have kb : Below w.heap.size w ((w.alloc (.cells cs 80)).alloc (.cells #[.int .i64 0, .slice none 0 0] 75)) := ((Below.refl _ w).alloc (Nat.le_refl _) _).alloc (by simp) _
  have hml : ∀ i, i < w.heap.size → mk2 lab w.heap.size i = lab i := fun i hi => by unfold mk2; rw [if_neg (by omega), if_pos hi]
  refine ⟨kb, by simp, h.mark kb hml (fun i hi => ?_), (Blk.new w _ _).alloc _, ?_, by unfold mk2; rw [if_pos (.inl rfl)], by unfold mk2; rw [if_pos (.inr rfl)], hml, n8, h.all⟩
  · unfold mk2
    by_cases c : i = w.heap.size ∨ i = w.heap.size + 1
    · rw [if_pos c]; right; simp; omega
    · rw [if_neg c, if_neg (by omega)]; exact .inl rfl
  · have := Blk.new (w.alloc (.cells cs 80)) 75 #[.int .i64 0, .slice none 0 0]
    simpa using this

/-- What a call answers and leaves. -/
def Called (w : World) (lab : Nat → Nat) (g : Nat) (r : Kn × Int × List UInt8 × Int) (e : Ending) (w' : World) : Prop :=
  ∃ A c, e = .returned (.tuple #[.agg #[.int .i64 r.2.1, .slice A r.2.2.1.length c], .int .i64 r.2.2.2]) ∧
    ∃ lab', KA w' lab' g r.1 ∧ LStep w w' lab lab' ∧ (∀ k, lab' k ≠ 8) ∧ Src w' A r.2.2.1.length c r.2.2.1 ∧ Off (on lab') A r.2.2.1.length
theorem finish {m1 : Nat → Nat} {cs : Array Value} (B : Bx w W lab m g K a cs) {w5 w6 : World} (k5 : KA w5 m1 g K') (L : LStep W w5 m m1) (k6 : Chg w5 w6 (fun i => i = w.heap.size + 1)) {n ev : Int} {A : Option Addr} {c : Nat} {s : List UInt8}
    (b6 : Blk w6 (w.heap.size + 1) 75 #[.int .i64 n, .slice A s.length c]) (hs : Src w5 A s.length c s) (ho : Off (on m1) A s.length) :
    Called w lab g (K', n, s, ev) (.returned (.tuple #[.agg #[.int .i64 n, .slice A s.length c], .int .i64 ev])) ((w6.setCell ⟨w.heap.size + 1, 0, none⟩ (.int .i64 n)).setCell ⟨w.heap.size + 1, 1, none⟩ (.slice A s.length c)) ∧
      Blk ((w6.setCell ⟨w.heap.size + 1, 0, none⟩ (.int .i64 n)).setCell ⟨w.heap.size + 1, 1, none⟩ (.slice A s.length c)) (w.heap.size + 1) 75 #[.int .i64 n, .slice A s.length c] := by
  obtain ⟨wF, hF⟩ : ∃ wF, wF = (w6.setCell ⟨w.heap.size + 1, 0, none⟩ (.int .i64 n)).setCell ⟨w.heap.size + 1, 1, none⟩ (.slice A s.length c) := ⟨_, rfl⟩
  have hbF : Blk wF (w.heap.size + 1) 75 #[.int .i64 n, .slice A s.length c] := by rw [hF]; exact (b6.put 0 _).put 1 _
  have kF : Chg w5 wF (fun i => i = w.heap.size + 1) := by
    rw [hF]
    exact k6.trans (Chg.trans (w' := w6.setCell ⟨w.heap.size + 1, 0, none⟩ (.int .i64 n)) (Chg.set _ _ _ rfl) (Chg.set _ _ _ rfl))
  rw [← hF]
  have e8 : m1 (w.heap.size + 1) = 8 := by rw [L.keep _ (by rw [B.m2]; omega)]; exact B.m2
  have kF8 : Chg w5 wF (fun i => m1 i = 8) := kF.weak fun i (hi : i = w.heap.size + 1) => by show m1 i = 8; rw [hi]; exact e8
  have HDF : ∀ i, lab i = 1 → i < w.heap.size → wF.cell? ⟨i, 0, none⟩ = w.cell? ⟨i, 0, none⟩ ∧ off8 m1 i = 1 := fun i hi hl => by
    obtain ⟨e1, e2⟩ := L.hd i (by rw [B.ml i hl]; exact hi) (Nat.lt_of_lt_of_le hl B.below.size)
    refine ⟨?_, off8_eq e2 (by omega)⟩
    rw [World.cell?_of_block (w := w5) (w' := wF) (a := ⟨i, 0, none⟩) (kF.block i (Nat.lt_of_lt_of_le hl (Nat.le_trans B.below.size L.chg.size)) (by show ¬ i = w.heap.size + 1; omega)), e1]
    exact World.cell?_of_block (B.below.block i hl)
  obtain ⟨a5, ka5⟩ := k5
  refine ⟨⟨A, c, rfl, off8 m1, ⟨a5, (ka5.far8 kF8).unmark⟩, ⟨⟨kF.os.trans (L.chg.os.trans B.below.os), kF.tape.trans (L.chg.tape.trans B.below.tape), kF.output.trans (L.chg.output.trans B.below.output), Nat.le_trans (Nat.le_trans B.below.size L.chg.size) kF.size, fun i hi hn => ?_⟩, fun k hk => ?_, fun k hk => ?_, HDF⟩, off8_ne m1, ?_, ?_⟩, hbF⟩
  · have hmi := B.ml i hi
    refine (kF.block i (Nat.lt_of_lt_of_le hi (Nat.le_trans B.below.size L.chg.size)) (by show ¬ i = w.heap.size + 1; omega)).trans ((L.chg.block i (Nat.lt_of_lt_of_le hi B.below.size) (by rw [hmi]; exact hn)).trans (B.below.block i hi))
  · by_cases c1 : k < w.heap.size
    · left
      rcases L.old k (off8_on hk) with h1 | h1
      · rw [← B.ml k c1]; exact h1
      · have := B.size; omega
    · right; omega
  · have hk2 : k < w.heap.size ∨ w.heap.size ≤ k := by omega
    have h9 := B.n8 k
    by_cases c1 : k < w.heap.size
    · have e1 : m1 k = lab k := by rw [L.keep k (by rw [B.ml k c1]; exact hk), B.ml k c1]
      exact off8_eq e1 h9
    · exact absurd (B.la k (by omega)) c1
  · refine ⟨⟨fun hp => ?_, hs.len, hs.cap, hs.max⟩, hs.none_⟩
    obtain ⟨b, o, e, hb, hc⟩ := hs.lies hp
    have h0 : 0 < s.length := by rw [bys_length] at hp; exact hp
    have hne : b ≠ w.heap.size + 1 := fun e1 => ho h0 b o e (by show m1 b ≠ 0; rw [e1, e8]; omega)
    refine ⟨b, o, e, Nat.lt_of_lt_of_le hb kF.size, fun j hj => ?_⟩
    rw [World.cell?_of_block (w := w5) (w' := wF) (a := ⟨b, o + j, none⟩) (kF.block b hb hne)]
    exact hc j hj
  · exact fun h0 b o e hf => ho h0 b o e (off8_on hf)
end
end Go.Proofs.YthnpalcjfgbjeaaGreat.Ke

/- Package kern: the calls, one by one. Conditions: those that each states. -/
namespace Go.Proofs.YthnpalcjfgbjeaaGreat.Ke
open Go.ChangeShapes Go.WideShapes Go.ChangeAt Go.RowKit Go.Deep Fr Di
set_option linter.unusedVariables false
theorem ainfo : (Tryz.prog.info? 75).map (·.size) = some 2 := by kernel_rfl
theorem kenv_yes (env : Int) (h : env = 1 ∨ env = 2) (w : World) :
    Calls Tryz.prog 43 #[.int .i64 env] w fun e w' => e = .returned (.bool true) ∧ w' = w := by
  have g1 : env ≥ 1 := by omega
  have g2 : env ≤ 2 := by omega
  clear h
  go_enter Tryz.func43, Tryz.ntmps43
  go_wp2
  go_ret
  exact ⟨rfl, rfl⟩
theorem kenv_no (env : Int) (h : ¬ (env = 1 ∨ env = 2)) (w : World) :
    Calls Tryz.prog 43 #[.int .i64 env] w fun e w' => e = .returned (.bool false) ∧ w' = w := by
  by_cases g1 : env ≥ 1
  · have g2 : ¬ env ≤ 2 := by omega
    clear h
    go_enter Tryz.func43, Tryz.ntmps43
    go_wp2
    go_ret
    exact ⟨rfl, rfl⟩
  · clear h
    go_enter Tryz.func43, Tryz.ntmps43
    go_wp2
    go_ret
    exact ⟨rfl, rfl⟩
section
variable {w : World} {lab : Nat → Nat} {g : Nat} {K : Kn} {a : Ad}

set_option maxRecDepth 100000 in
set_option maxHeartbeats 2000000 in
theorem call_1 (h : KAt w lab g K a) (n8 : ∀ k, lab k ≠ 8) (ok : K.Ok) (env : Int) (he : env = 1 ∨ env = 2) (qa qb qc : Int) (s : List UInt8) (p : List Ins) (l : List Pc) (Ab Ap Al : Option Addr) (cb cp cl : Nat) :
    Calls Tryz.prog 26 #[.pointer (some ⟨g, 0, none⟩), .agg #[.int .i64 1, .int .i64 env, .int .i64 qa, .int .i64 qb, .int .i64 qc, .slice Ab s.length cb, .slice Ap p.length cp, .slice Al l.length cl]] w (Called w lab g ({ K with ps := (Fr.allocR K.ps env).1 }, (Fr.allocR K.ps env).2.1, [], (Fr.allocR K.ps env).2.2)) := by
  have hB := boxed h n8 #[.int .i64 1, .int .i64 env, .int .i64 qa, .int .i64 qb, .int .i64 qc, .slice Ab s.length cb, .slice Ap p.length cp, .slice Al l.length cl]
  obtain ⟨W, hW⟩ : ∃ W, W = (w.alloc (.cells #[.int .i64 1, .int .i64 env, .int .i64 qa, .int .i64 qb, .int .i64 qc, .slice Ab s.length cb, .slice Ap p.length cp, .slice Al l.length cl] 80)).alloc (.cells #[.int .i64 0, .slice none 0 0] 75) := ⟨_, rfl⟩
  rw [← hW] at hB
  generalize mk2 lab w.heap.size = m at hB
  have B := Lib.hid hB
  have b0 := (hB.bc.cell 0).trans (show _ = some (.int .i64 1) from rfl)
  have b1 := (hB.bc.cell 1).trans (show _ = some (.int .i64 env) from rfl)
  have EV := Lib.hid (kenv_yes env he W)
  have HW := Lib.hid hW
  have CA := Lib.hid (Fr.alloc_any (hB.ka.tab.drewN 1) env)
  generalize (Fr.allocR K.ps env).1 = ps2 at *
  generalize (Fr.allocR K.ps env).2.1 = n at *
  generalize (Fr.allocR K.ps env).2.2 = ev at *
  clear h ok hB hW n8
  go_enter Tryz.func26, Tryz.ntmps26
  go_upto_region 1 with fail
  rw [show (w.alloc (.cells #[.int .i64 1, .int .i64 env, .int .i64 qa, .int .i64 qb, .int .i64 qc, .slice Ab s.length cb, .slice Ap p.length cp, .slice Al l.length cl] 80)).alloc (.cells #[.int .i64 0, .slice none 0 0] 75) = W from HW.out.symm]
  go_wp2_with fail
  refine EV.out.mono ?_; rintro e w1 ⟨rfl, hw1⟩; subst w1
  go_upto_region 8 with fail
  refine wp_region_held_drew (S := fun w' => Hid (w'.cell? ⟨g, 0, none⟩ = some (.pointer (some ⟨a.gt, 0, none⟩)) ∧ Blk w' w.heap.size 80 #[.int .i64 1, .int .i64 env, .int .i64 qa, .int .i64 qb, .int .i64 qc, .slice Ab s.length cb, .slice Ap p.length cp, .slice Al l.length cl])) (by kernel_rfl) (Lib.hid (show W.drew.cell? ⟨g, 0, none⟩ = some (.pointer (some ⟨a.gt, 0, none⟩)) ∧ Blk W.drew w.heap.size 80 #[.int .i64 1, .int .i64 env, .int .i64 qa, .int .i64 qb, .int .i64 qc, .slice Ab s.length cb, .slice Ap p.length cp, .slice Al l.length cl] from ⟨(B.out.ka.head.cell 0).trans rfl, B.out.bc⟩)) (fun hS => ?_)
  refine held_take (i := 0) (d := (some 19)) (v := ?_) rfl rfl (by kernel_rfl) (by kernel_rfl) (by kernel_rfl) (fun _ _ _ h => h) (by rfl) ?_ hS ?_
  rotate_left
  · intro w' hSw; (try dsimp only at hSw); go_simp <;> with_reducible rfl
  simp only [Act.put, List.setIfInBounds_toArray, List.set_cons_zero, List.set_cons_succ]
  refine held_take (i := 1) (d := (some 20)) (v := ?_) rfl rfl (by kernel_rfl) (by kernel_rfl) (by kernel_rfl) (fun _ _ _ h => h) (by rfl) ?_ hS ?_
  rotate_left
  · intro w' hSw; (try dsimp only at hSw); go_simp <;> with_reducible rfl
  simp only [Act.put, List.setIfInBounds_toArray, List.set_cons_zero, List.set_cons_succ]
  refine held_take (i := 2) (d := (some 21)) (v := ?_) rfl rfl (by kernel_rfl) (by kernel_rfl) (by kernel_rfl) (fun _ _ _ h => h) (by rfl) ?_ hS ?_
  rotate_left
  · intro w' hSw; (try dsimp only at hSw); go_simp <;> with_reducible rfl
  simp only [Act.put, List.setIfInBounds_toArray, List.set_cons_zero, List.set_cons_succ]
  refine held_take (i := 3) (d := (some 22)) (v := ?_) rfl rfl (by kernel_rfl) (by kernel_rfl) (by kernel_rfl) (fun _ _ _ h => h) (by rfl) ?_ hS ?_
  rotate_left
  · intro w' hSw; have hc := hSw.out.1; clear hSw; go_simp <;> with_reducible rfl
  simp only [Act.put, List.setIfInBounds_toArray, List.set_cons_zero, List.set_cons_succ]
  refine held_take (i := 4) (d := (some 23)) (v := ?_) rfl rfl (by kernel_rfl) (by kernel_rfl) (by kernel_rfl) (fun _ _ _ h => h) (by rfl) ?_ hS ?_
  rotate_left
  · intro w' hSw; (try dsimp only at hSw); go_simp <;> with_reducible rfl
  simp only [Act.put, List.setIfInBounds_toArray, List.set_cons_zero, List.set_cons_succ]
  refine held_take (i := 5) (d := (some 24)) (v := ?_) rfl rfl (by kernel_rfl) (by kernel_rfl) (by kernel_rfl) (fun _ _ _ h => h) (by rfl) ?_ hS ?_
  rotate_left
  · intro w' hSw; have hc := (hSw.out.2.cell 1).trans (show _ = some (.int .i64 env) from rfl); clear hSw; go_simp <;> with_reducible rfl
  simp only [Act.put, List.setIfInBounds_toArray, List.set_cons_zero, List.set_cons_succ]
  refine held_one (i := 6) (by kernel_rfl) rfl (by rfl) ?_
  go_simp
  refine (CA.out).mono ?_; rintro e w5 ⟨rfl, t5, k5⟩
  obtain ⟨h5, l5⟩ := (B.out.ka.drewN 1).setPs k5 t5
  have H5 := Lib.hid h5
  have L5 := Lib.hid (show LStep W w5 m m from (LStep.drawn m 1).trans l5)
  clear t5 k5 h5 l5
  have BA5 := Lib.hid (L5.out.blk8 B.out.ba (by rw [B.out.m2]; omega))
  have hS : Hid (w5.cell? ⟨g, 0, none⟩ = some (.pointer (some ⟨a.gt, 0, none⟩)) ∧ Blk w5 w.heap.size 80 #[.int .i64 1, .int .i64 env, .int .i64 qa, .int .i64 qb, .int .i64 qc, .slice Ab s.length cb, .slice Ap p.length cp, .slice Al l.length cl]) := Lib.hid ⟨(H5.out.head.cell 0).trans rfl, L5.out.blk8 B.out.bc (by rw [B.out.m1]; omega)⟩
  have c5a := (BA5.out.cell 0).trans (show _ = some (.int .i64 0) from rfl)
  have f5a := BA5.out.frozen 0
  have HNE := Lib.hid (show g ≠ w.heap.size + 1 ∧ w.heap.size ≠ w.heap.size + 1 from ⟨by have h1 := H5.out.lg; have h8 := L5.out.keep (w.heap.size + 1) (by rw [B.out.m2]; omega); have h9 := B.out.m2; intro e; rw [e] at h1; omega, by omega⟩)
  refine ⟨hS, ?_⟩
  (try simp only [Act.put, List.setIfInBounds_toArray, List.set_cons_zero, List.set_cons_succ])
  refine held_take (i := 7) (d := (some 18)) (v := ?_) rfl rfl (by kernel_rfl) (by kernel_rfl) (by kernel_rfl) (fun _ _ _ h => h) (by rfl) ?_ hS ?_
  rotate_left
  · intro w' hSw; (try dsimp only at hSw); go_simp <;> with_reducible rfl
  simp only [Act.put, List.setIfInBounds_toArray, List.set_cons_zero, List.set_cons_succ]
  refine held_take (i := 8) (d := (some 26)) (v := ?_) rfl rfl (by kernel_rfl) (by kernel_rfl) (by kernel_rfl) (fun _ _ _ h => h) (by rfl) ?_ hS ?_
  rotate_left
  · intro w' hSw; (try dsimp only at hSw); go_simp <;> with_reducible rfl
  simp only [Act.put, List.setIfInBounds_toArray, List.set_cons_zero, List.set_cons_succ]
  refine held_take (i := 9) (d := (some 27)) (v := ?_) rfl rfl (by kernel_rfl) (by kernel_rfl) (by kernel_rfl) (fun _ _ _ h => h) (by rfl) ?_ hS ?_
  rotate_left
  · intro w' hSw; (try dsimp only at hSw); go_simp <;> with_reducible rfl
  simp only [Act.put, List.setIfInBounds_toArray, List.set_cons_zero, List.set_cons_succ]
  refine held_take (i := 10) (d := (some 28)) (v := ?_) rfl rfl (by kernel_rfl) (by kernel_rfl) (by kernel_rfl) (fun _ _ _ h => h) (by rfl) ?_ hS ?_
  rotate_left
  · intro w' hSw; (try dsimp only at hSw); go_simp <;> with_reducible rfl
  simp only [Act.put, List.setIfInBounds_toArray, List.set_cons_zero, List.set_cons_succ]
  refine held_one (i := 11) (by kernel_rfl) rfl (by rfl) ?_
  go_simp
  have hS : Hid ((w5.setCell ⟨w.heap.size + 1, 0, none⟩ (.int .i64 n)).cell? ⟨g, 0, none⟩ = some (.pointer (some ⟨a.gt, 0, none⟩)) ∧ Blk (w5.setCell ⟨w.heap.size + 1, 0, none⟩ (.int .i64 n)) w.heap.size 80 #[.int .i64 1, .int .i64 env, .int .i64 qa, .int .i64 qb, .int .i64 qc, .slice Ab s.length cb, .slice Ap p.length cp, .slice Al l.length cl]) := Lib.hid ⟨((H5.out.head.far (p := ⟨w.heap.size + 1, 0, none⟩) HNE.out.1 _).cell 0).trans rfl, hS.out.2.far (p := ⟨w.heap.size + 1, 0, none⟩) HNE.out.2 _⟩
  have hT := Lib.hid (And.intro ((H5.out.head.cell 0).trans (show _ = some (.pointer (some ⟨a.gt, 0, none⟩)) from rfl)) hS.out.2)
  refine ⟨by first | exact hS | exact hT, ?_⟩
  (try simp only [Act.put, List.setIfInBounds_toArray, List.set_cons_zero, List.set_cons_succ])
  refine held_take (i := 12) (d := (some 5)) (v := ?_) rfl rfl (by kernel_rfl) (by kernel_rfl) (by kernel_rfl) (fun _ _ _ h => h) (by rfl) ?_ hS ?_
  rotate_left
  · intro w' hSw; (try dsimp only at hSw); go_simp <;> with_reducible rfl
  simp only [Act.put, List.setIfInBounds_toArray, List.set_cons_zero, List.set_cons_succ]
  refine wpAnyH_done (by kernel_rfl) ?_ _
  obtain ⟨W6, hW6⟩ : ∃ W6, W6 = (w5.setCell ⟨w.heap.size + 1, 0, none⟩ (.int .i64 n)) := ⟨_, rfl⟩
  have b6 : Blk W6 (w.heap.size + 1) 75 #[.int .i64 n, .slice none ([] : List UInt8).length 0] := by rw [hW6]; exact (BA5.out.put 0 (.int .i64 n))
  have k6 : Chg w5 W6 (fun i => i = w.heap.size + 1) := by rw [hW6]; exact Chg.set _ _ _ rfl
  have d0 := (b6.cell 0).trans (show _ = some (.int .i64 n) from rfl)
  have d1 := (b6.cell 1).trans (show _ = some (.slice none ([] : List UInt8).length 0) from rfl)
  have e0 := b6.frozen 0
  have e1 := b6.frozen 1
  have FIN := Lib.hid (finish (ev := ev) (s := ([] : List UInt8)) B.out ⟨a, H5.out⟩ L5.out k6 b6 (Src.nil _) (fun h => absurd h (by decide)))
  have HW6 := Lib.hid hW6
  clear b6 k6 hW6
  go_upto_region 33 with fail
  rw [show (w5.setCell ⟨w.heap.size + 1, 0, none⟩ (.int .i64 n)) = W6 from HW6.out.symm]
  go_wp2
  refine bodyPost_ret (v := .tuple #[.agg #[.int .i64 n, .slice none ([] : List UInt8).length 0], .int .i64 ev]) ?_ rfl ?_
  · exact results_cell_tmp Tryz.results26 _ _ (w.heap.size + 1) 75 _ (0, 0) _ rfl FIN.out.2 Tryz.underlying75 rfl ainfo
  · exact FIN.out.1

set_option maxRecDepth 100000 in
set_option maxHeartbeats 2000000 in
theorem call_2 (h : KAt w lab g K a) (n8 : ∀ k, lab k ≠ 8) (ok : K.Ok) (env : Int) (he : env = 1 ∨ env = 2) (qa qb qc : Int) (s : List UInt8) (p : List Ins) (l : List Pc) (Ab Ap Al : Option Addr) (cb cp cl : Nat) :
    Calls Tryz.prog 26 #[.pointer (some ⟨g, 0, none⟩), .agg #[.int .i64 2, .int .i64 env, .int .i64 qa, .int .i64 qb, .int .i64 qc, .slice Ab s.length cb, .slice Ap p.length cp, .slice Al l.length cl]] w (Called w lab g ({ K with ps := (Fr.freeR K.ps env qa).1 }, 0, [], (Fr.freeR K.ps env qa).2)) := by
  have hB := boxed h n8 #[.int .i64 2, .int .i64 env, .int .i64 qa, .int .i64 qb, .int .i64 qc, .slice Ab s.length cb, .slice Ap p.length cp, .slice Al l.length cl]
  obtain ⟨W, hW⟩ : ∃ W, W = (w.alloc (.cells #[.int .i64 2, .int .i64 env, .int .i64 qa, .int .i64 qb, .int .i64 qc, .slice Ab s.length cb, .slice Ap p.length cp, .slice Al l.length cl] 80)).alloc (.cells #[.int .i64 0, .slice none 0 0] 75) := ⟨_, rfl⟩
  rw [← hW] at hB
  generalize mk2 lab w.heap.size = m at hB
  have B := Lib.hid hB
  have b0 := (hB.bc.cell 0).trans (show _ = some (.int .i64 2) from rfl)
  have b1 := (hB.bc.cell 1).trans (show _ = some (.int .i64 env) from rfl)
  have EV := Lib.hid (kenv_yes env he W)
  have HW := Lib.hid hW
  have b2 := (hB.bc.cell 2).trans (show _ = some (.int .i64 qa) from rfl)
  have CA := Lib.hid (Fr.free_any (hB.ka.tab.drewN 1) env qa)
  generalize (Fr.freeR K.ps env qa).1 = ps2 at *
  generalize (Fr.freeR K.ps env qa).2 = ev at *
  clear h ok hB hW n8
  go_enter Tryz.func26, Tryz.ntmps26
  go_upto_region 1 with fail
  rw [show (w.alloc (.cells #[.int .i64 2, .int .i64 env, .int .i64 qa, .int .i64 qb, .int .i64 qc, .slice Ab s.length cb, .slice Ap p.length cp, .slice Al l.length cl] 80)).alloc (.cells #[.int .i64 0, .slice none 0 0] 75) = W from HW.out.symm]
  go_wp2_with fail
  refine EV.out.mono ?_; rintro e w1 ⟨rfl, hw1⟩; subst w1
  go_upto_region 10 with fail
  refine wp_region_held_drew (S := fun w' => Hid (w'.cell? ⟨g, 0, none⟩ = some (.pointer (some ⟨a.gt, 0, none⟩)) ∧ Blk w' w.heap.size 80 #[.int .i64 2, .int .i64 env, .int .i64 qa, .int .i64 qb, .int .i64 qc, .slice Ab s.length cb, .slice Ap p.length cp, .slice Al l.length cl])) (by kernel_rfl) (Lib.hid (show W.drew.cell? ⟨g, 0, none⟩ = some (.pointer (some ⟨a.gt, 0, none⟩)) ∧ Blk W.drew w.heap.size 80 #[.int .i64 2, .int .i64 env, .int .i64 qa, .int .i64 qb, .int .i64 qc, .slice Ab s.length cb, .slice Ap p.length cp, .slice Al l.length cl] from ⟨(B.out.ka.head.cell 0).trans rfl, B.out.bc⟩)) (fun hS => ?_)
  refine held_take (i := 0) (d := (some 31)) (v := ?_) rfl rfl (by kernel_rfl) (by kernel_rfl) (by kernel_rfl) (fun _ _ _ h => h) (by rfl) ?_ hS ?_
  rotate_left
  · intro w' hSw; (try dsimp only at hSw); go_simp <;> with_reducible rfl
  simp only [Act.put, List.setIfInBounds_toArray, List.set_cons_zero, List.set_cons_succ]
  refine held_take (i := 1) (d := (some 32)) (v := ?_) rfl rfl (by kernel_rfl) (by kernel_rfl) (by kernel_rfl) (fun _ _ _ h => h) (by rfl) ?_ hS ?_
  rotate_left
  · intro w' hSw; (try dsimp only at hSw); go_simp <;> with_reducible rfl
  simp only [Act.put, List.setIfInBounds_toArray, List.set_cons_zero, List.set_cons_succ]
  refine held_take (i := 2) (d := (some 33)) (v := ?_) rfl rfl (by kernel_rfl) (by kernel_rfl) (by kernel_rfl) (fun _ _ _ h => h) (by rfl) ?_ hS ?_
  rotate_left
  · intro w' hSw; (try dsimp only at hSw); go_simp <;> with_reducible rfl
  simp only [Act.put, List.setIfInBounds_toArray, List.set_cons_zero, List.set_cons_succ]
  refine held_take (i := 3) (d := (some 34)) (v := ?_) rfl rfl (by kernel_rfl) (by kernel_rfl) (by kernel_rfl) (fun _ _ _ h => h) (by rfl) ?_ hS ?_
  rotate_left
  · intro w' hSw; have hc := hSw.out.1; clear hSw; go_simp <;> with_reducible rfl
  simp only [Act.put, List.setIfInBounds_toArray, List.set_cons_zero, List.set_cons_succ]
  refine held_take (i := 4) (d := (some 35)) (v := ?_) rfl rfl (by kernel_rfl) (by kernel_rfl) (by kernel_rfl) (fun _ _ _ h => h) (by rfl) ?_ hS ?_
  rotate_left
  · intro w' hSw; (try dsimp only at hSw); go_simp <;> with_reducible rfl
  simp only [Act.put, List.setIfInBounds_toArray, List.set_cons_zero, List.set_cons_succ]
  refine held_take (i := 5) (d := (some 36)) (v := ?_) rfl rfl (by kernel_rfl) (by kernel_rfl) (by kernel_rfl) (fun _ _ _ h => h) (by rfl) ?_ hS ?_
  rotate_left
  · intro w' hSw; have hc := (hSw.out.2.cell 1).trans (show _ = some (.int .i64 env) from rfl); clear hSw; go_simp <;> with_reducible rfl
  simp only [Act.put, List.setIfInBounds_toArray, List.set_cons_zero, List.set_cons_succ]
  refine held_take (i := 6) (d := (some 37)) (v := ?_) rfl rfl (by kernel_rfl) (by kernel_rfl) (by kernel_rfl) (fun _ _ _ h => h) (by rfl) ?_ hS ?_
  rotate_left
  · intro w' hSw; (try dsimp only at hSw); go_simp <;> with_reducible rfl
  simp only [Act.put, List.setIfInBounds_toArray, List.set_cons_zero, List.set_cons_succ]
  refine held_take (i := 7) (d := (some 38)) (v := ?_) rfl rfl (by kernel_rfl) (by kernel_rfl) (by kernel_rfl) (fun _ _ _ h => h) (by rfl) ?_ hS ?_
  rotate_left
  · intro w' hSw; have hc := (hSw.out.2.cell 2).trans (show _ = some (.int .i64 qa) from rfl); clear hSw; go_simp <;> with_reducible rfl
  simp only [Act.put, List.setIfInBounds_toArray, List.set_cons_zero, List.set_cons_succ]
  refine held_one (i := 8) (by kernel_rfl) rfl (by rfl) ?_
  go_simp
  refine (CA.out).mono ?_; rintro e w5 ⟨rfl, t5, k5⟩
  obtain ⟨h5, l5⟩ := (B.out.ka.drewN 1).setPs k5 t5
  have H5 := Lib.hid h5
  have L5 := Lib.hid (show LStep W w5 m m from (LStep.drawn m 1).trans l5)
  clear t5 k5 h5 l5
  have BA5 := Lib.hid (L5.out.blk8 B.out.ba (by rw [B.out.m2]; omega))
  have hS : Hid (w5.cell? ⟨g, 0, none⟩ = some (.pointer (some ⟨a.gt, 0, none⟩)) ∧ Blk w5 w.heap.size 80 #[.int .i64 2, .int .i64 env, .int .i64 qa, .int .i64 qb, .int .i64 qc, .slice Ab s.length cb, .slice Ap p.length cp, .slice Al l.length cl]) := Lib.hid ⟨(H5.out.head.cell 0).trans rfl, L5.out.blk8 B.out.bc (by rw [B.out.m1]; omega)⟩
  refine ⟨hS, ?_⟩
  (try simp only [Act.put, List.setIfInBounds_toArray, List.set_cons_zero, List.set_cons_succ])
  refine held_take (i := 9) (d := (some 5)) (v := ?_) rfl rfl (by kernel_rfl) (by kernel_rfl) (by kernel_rfl) (fun _ _ _ h => h) (by rfl) ?_ hS ?_
  rotate_left
  · intro w' hSw; (try dsimp only at hSw); go_simp <;> with_reducible rfl
  simp only [Act.put, List.setIfInBounds_toArray, List.set_cons_zero, List.set_cons_succ]
  refine wpAnyH_done (by kernel_rfl) ?_ _
  obtain ⟨W6, hW6⟩ : ∃ W6, W6 = w5 := ⟨_, rfl⟩
  have b6 : Blk W6 (w.heap.size + 1) 75 #[.int .i64 0, .slice none ([] : List UInt8).length 0] := by rw [hW6]; exact BA5.out
  have k6 : Chg w5 W6 (fun i => i = w.heap.size + 1) := by rw [hW6]; exact Chg.refl _ _
  have d0 := (b6.cell 0).trans (show _ = some (.int .i64 0) from rfl)
  have d1 := (b6.cell 1).trans (show _ = some (.slice none ([] : List UInt8).length 0) from rfl)
  have e0 := b6.frozen 0
  have e1 := b6.frozen 1
  have FIN := Lib.hid (finish (ev := ev) (s := ([] : List UInt8)) B.out ⟨a, H5.out⟩ L5.out k6 b6 (Src.nil _) (fun h => absurd h (by decide)))
  have HW6 := Lib.hid hW6
  clear b6 k6 hW6
  go_upto_region 33 with fail
  obtain rfl : W6 = w5 := HW6.out
  go_wp2
  refine bodyPost_ret (v := .tuple #[.agg #[.int .i64 0, .slice none ([] : List UInt8).length 0], .int .i64 ev]) ?_ rfl ?_
  · exact results_cell_tmp Tryz.results26 _ _ (w.heap.size + 1) 75 _ (0, 0) _ rfl FIN.out.2 Tryz.underlying75 rfl ainfo
  · exact FIN.out.1

set_option maxRecDepth 100000 in
set_option maxHeartbeats 2000000 in
theorem call_3 (h : KAt w lab g K a) (n8 : ∀ k, lab k ≠ 8) (ok : K.Ok) (env : Int) (he : env = 1 ∨ env = 2) (qa qb qc : Int) (s : List UInt8) (p : List Ins) (l : List Pc) (Ab Ap Al : Option Addr) (cb cp cl : Nat) :
    Calls Tryz.prog 26 #[.pointer (some ⟨g, 0, none⟩), .agg #[.int .i64 3, .int .i64 env, .int .i64 qa, .int .i64 qb, .int .i64 qc, .slice Ab s.length cb, .slice Ap p.length cp, .slice Al l.length cl]] w (Called w lab g ({ K with ps := (Fr.giveR K.ps env qa qb).1 }, 0, [], (Fr.giveR K.ps env qa qb).2)) := by
  have hB := boxed h n8 #[.int .i64 3, .int .i64 env, .int .i64 qa, .int .i64 qb, .int .i64 qc, .slice Ab s.length cb, .slice Ap p.length cp, .slice Al l.length cl]
  obtain ⟨W, hW⟩ : ∃ W, W = (w.alloc (.cells #[.int .i64 3, .int .i64 env, .int .i64 qa, .int .i64 qb, .int .i64 qc, .slice Ab s.length cb, .slice Ap p.length cp, .slice Al l.length cl] 80)).alloc (.cells #[.int .i64 0, .slice none 0 0] 75) := ⟨_, rfl⟩
  rw [← hW] at hB
  generalize mk2 lab w.heap.size = m at hB
  have B := Lib.hid hB
  have b0 := (hB.bc.cell 0).trans (show _ = some (.int .i64 3) from rfl)
  have b1 := (hB.bc.cell 1).trans (show _ = some (.int .i64 env) from rfl)
  have EV := Lib.hid (kenv_yes env he W)
  have HW := Lib.hid hW
  have CA := Lib.hid (Fr.give_any (hB.ka.tab.drewN 1) env qa qb)
  generalize (Fr.giveR K.ps env qa qb).1 = ps2 at *
  generalize (Fr.giveR K.ps env qa qb).2 = ev at *
  clear h ok hB hW n8
  go_enter Tryz.func26, Tryz.ntmps26
  go_upto_region 1 with fail
  rw [show (w.alloc (.cells #[.int .i64 3, .int .i64 env, .int .i64 qa, .int .i64 qb, .int .i64 qc, .slice Ab s.length cb, .slice Ap p.length cp, .slice Al l.length cl] 80)).alloc (.cells #[.int .i64 0, .slice none 0 0] 75) = W from HW.out.symm]
  go_wp2_with fail
  refine EV.out.mono ?_; rintro e w1 ⟨rfl, hw1⟩; subst w1
  go_upto_region 12 with fail
  refine wp_region_held_drew (S := fun w' => Hid (w'.cell? ⟨g, 0, none⟩ = some (.pointer (some ⟨a.gt, 0, none⟩)) ∧ Blk w' w.heap.size 80 #[.int .i64 3, .int .i64 env, .int .i64 qa, .int .i64 qb, .int .i64 qc, .slice Ab s.length cb, .slice Ap p.length cp, .slice Al l.length cl])) (by kernel_rfl) (Lib.hid (show W.drew.cell? ⟨g, 0, none⟩ = some (.pointer (some ⟨a.gt, 0, none⟩)) ∧ Blk W.drew w.heap.size 80 #[.int .i64 3, .int .i64 env, .int .i64 qa, .int .i64 qb, .int .i64 qc, .slice Ab s.length cb, .slice Ap p.length cp, .slice Al l.length cl] from ⟨(B.out.ka.head.cell 0).trans rfl, B.out.bc⟩)) (fun hS => ?_)
  refine held_take (i := 0) (d := (some 42)) (v := ?_) rfl rfl (by kernel_rfl) (by kernel_rfl) (by kernel_rfl) (fun _ _ _ h => h) (by rfl) ?_ hS ?_
  rotate_left
  · intro w' hSw; (try dsimp only at hSw); go_simp <;> with_reducible rfl
  simp only [Act.put, List.setIfInBounds_toArray, List.set_cons_zero, List.set_cons_succ]
  refine held_take (i := 1) (d := (some 43)) (v := ?_) rfl rfl (by kernel_rfl) (by kernel_rfl) (by kernel_rfl) (fun _ _ _ h => h) (by rfl) ?_ hS ?_
  rotate_left
  · intro w' hSw; (try dsimp only at hSw); go_simp <;> with_reducible rfl
  simp only [Act.put, List.setIfInBounds_toArray, List.set_cons_zero, List.set_cons_succ]
  refine held_take (i := 2) (d := (some 44)) (v := ?_) rfl rfl (by kernel_rfl) (by kernel_rfl) (by kernel_rfl) (fun _ _ _ h => h) (by rfl) ?_ hS ?_
  rotate_left
  · intro w' hSw; (try dsimp only at hSw); go_simp <;> with_reducible rfl
  simp only [Act.put, List.setIfInBounds_toArray, List.set_cons_zero, List.set_cons_succ]
  refine held_take (i := 3) (d := (some 45)) (v := ?_) rfl rfl (by kernel_rfl) (by kernel_rfl) (by kernel_rfl) (fun _ _ _ h => h) (by rfl) ?_ hS ?_
  rotate_left
  · intro w' hSw; have hc := hSw.out.1; clear hSw; go_simp <;> with_reducible rfl
  simp only [Act.put, List.setIfInBounds_toArray, List.set_cons_zero, List.set_cons_succ]
  refine held_take (i := 4) (d := (some 46)) (v := ?_) rfl rfl (by kernel_rfl) (by kernel_rfl) (by kernel_rfl) (fun _ _ _ h => h) (by rfl) ?_ hS ?_
  rotate_left
  · intro w' hSw; (try dsimp only at hSw); go_simp <;> with_reducible rfl
  simp only [Act.put, List.setIfInBounds_toArray, List.set_cons_zero, List.set_cons_succ]
  refine held_take (i := 5) (d := (some 47)) (v := ?_) rfl rfl (by kernel_rfl) (by kernel_rfl) (by kernel_rfl) (fun _ _ _ h => h) (by rfl) ?_ hS ?_
  rotate_left
  · intro w' hSw; have hc := (hSw.out.2.cell 1).trans (show _ = some (.int .i64 env) from rfl); clear hSw; go_simp <;> with_reducible rfl
  simp only [Act.put, List.setIfInBounds_toArray, List.set_cons_zero, List.set_cons_succ]
  refine held_take (i := 6) (d := (some 48)) (v := ?_) rfl rfl (by kernel_rfl) (by kernel_rfl) (by kernel_rfl) (fun _ _ _ h => h) (by rfl) ?_ hS ?_
  rotate_left
  · intro w' hSw; (try dsimp only at hSw); go_simp <;> with_reducible rfl
  simp only [Act.put, List.setIfInBounds_toArray, List.set_cons_zero, List.set_cons_succ]
  refine held_take (i := 7) (d := (some 49)) (v := ?_) rfl rfl (by kernel_rfl) (by kernel_rfl) (by kernel_rfl) (fun _ _ _ h => h) (by rfl) ?_ hS ?_
  rotate_left
  · intro w' hSw; have hc := (hSw.out.2.cell 2).trans (show _ = some (.int .i64 qa) from rfl); clear hSw; go_simp <;> with_reducible rfl
  simp only [Act.put, List.setIfInBounds_toArray, List.set_cons_zero, List.set_cons_succ]
  refine held_take (i := 8) (d := (some 50)) (v := ?_) rfl rfl (by kernel_rfl) (by kernel_rfl) (by kernel_rfl) (fun _ _ _ h => h) (by rfl) ?_ hS ?_
  rotate_left
  · intro w' hSw; (try dsimp only at hSw); go_simp <;> with_reducible rfl
  simp only [Act.put, List.setIfInBounds_toArray, List.set_cons_zero, List.set_cons_succ]
  refine held_take (i := 9) (d := (some 51)) (v := ?_) rfl rfl (by kernel_rfl) (by kernel_rfl) (by kernel_rfl) (fun _ _ _ h => h) (by rfl) ?_ hS ?_
  rotate_left
  · intro w' hSw; have hc := (hSw.out.2.cell 3).trans (show _ = some (.int .i64 qb) from rfl); clear hSw; go_simp <;> with_reducible rfl
  simp only [Act.put, List.setIfInBounds_toArray, List.set_cons_zero, List.set_cons_succ]
  refine held_one (i := 10) (by kernel_rfl) rfl (by rfl) ?_
  go_simp
  refine (CA.out).mono ?_; rintro e w5 ⟨rfl, t5, k5⟩
  obtain ⟨h5, l5⟩ := (B.out.ka.drewN 1).setPs k5 t5
  have H5 := Lib.hid h5
  have L5 := Lib.hid (show LStep W w5 m m from (LStep.drawn m 1).trans l5)
  clear t5 k5 h5 l5
  have BA5 := Lib.hid (L5.out.blk8 B.out.ba (by rw [B.out.m2]; omega))
  have hS : Hid (w5.cell? ⟨g, 0, none⟩ = some (.pointer (some ⟨a.gt, 0, none⟩)) ∧ Blk w5 w.heap.size 80 #[.int .i64 3, .int .i64 env, .int .i64 qa, .int .i64 qb, .int .i64 qc, .slice Ab s.length cb, .slice Ap p.length cp, .slice Al l.length cl]) := Lib.hid ⟨(H5.out.head.cell 0).trans rfl, L5.out.blk8 B.out.bc (by rw [B.out.m1]; omega)⟩
  refine ⟨hS, ?_⟩
  (try simp only [Act.put, List.setIfInBounds_toArray, List.set_cons_zero, List.set_cons_succ])
  refine held_take (i := 11) (d := (some 5)) (v := ?_) rfl rfl (by kernel_rfl) (by kernel_rfl) (by kernel_rfl) (fun _ _ _ h => h) (by rfl) ?_ hS ?_
  rotate_left
  · intro w' hSw; (try dsimp only at hSw); go_simp <;> with_reducible rfl
  simp only [Act.put, List.setIfInBounds_toArray, List.set_cons_zero, List.set_cons_succ]
  refine wpAnyH_done (by kernel_rfl) ?_ _
  obtain ⟨W6, hW6⟩ : ∃ W6, W6 = w5 := ⟨_, rfl⟩
  have b6 : Blk W6 (w.heap.size + 1) 75 #[.int .i64 0, .slice none ([] : List UInt8).length 0] := by rw [hW6]; exact BA5.out
  have k6 : Chg w5 W6 (fun i => i = w.heap.size + 1) := by rw [hW6]; exact Chg.refl _ _
  have d0 := (b6.cell 0).trans (show _ = some (.int .i64 0) from rfl)
  have d1 := (b6.cell 1).trans (show _ = some (.slice none ([] : List UInt8).length 0) from rfl)
  have e0 := b6.frozen 0
  have e1 := b6.frozen 1
  have FIN := Lib.hid (finish (ev := ev) (s := ([] : List UInt8)) B.out ⟨a, H5.out⟩ L5.out k6 b6 (Src.nil _) (fun h => absurd h (by decide)))
  have HW6 := Lib.hid hW6
  clear b6 k6 hW6
  go_upto_region 33 with fail
  obtain rfl : W6 = w5 := HW6.out
  go_wp2
  refine bodyPost_ret (v := .tuple #[.agg #[.int .i64 0, .slice none ([] : List UInt8).length 0], .int .i64 ev]) ?_ rfl ?_
  · exact results_cell_tmp Tryz.results26 _ _ (w.heap.size + 1) 75 _ (0, 0) _ rfl FIN.out.2 Tryz.underlying75 rfl ainfo
  · exact FIN.out.1

set_option maxRecDepth 100000 in
set_option maxHeartbeats 2000000 in
theorem call_5 (h : KAt w lab g K a) (n8 : ∀ k, lab k ≠ 8) (ok : K.Ok) (env : Int) (he : env = 1 ∨ env = 2) (qa qb qc : Int) (s : List UInt8) (p : List Ins) (l : List Pc) (Ab Ap Al : Option Addr) (cb cp cl : Nat) (wb : -9223372036854775808 ≤ qb ∧ qb ≤ 9223372036854775807) (hs : Src w Ab s.length cb s) :
    Calls Tryz.prog 26 #[.pointer (some ⟨g, 0, none⟩), .agg #[.int .i64 5, .int .i64 env, .int .i64 qa, .int .i64 qb, .int .i64 qc, .slice Ab s.length cb, .slice Ap p.length cp, .slice Al l.length cl]] w (Called w lab g ({ K with ps := (Fr.writeR K.ps env qa qb s).1 }, 0, [], (Fr.writeR K.ps env qa qb s).2)) := by
  have hB := boxed h n8 #[.int .i64 5, .int .i64 env, .int .i64 qa, .int .i64 qb, .int .i64 qc, .slice Ab s.length cb, .slice Ap p.length cp, .slice Al l.length cl]
  obtain ⟨W, hW⟩ : ∃ W, W = (w.alloc (.cells #[.int .i64 5, .int .i64 env, .int .i64 qa, .int .i64 qb, .int .i64 qc, .slice Ab s.length cb, .slice Ap p.length cp, .slice Al l.length cl] 80)).alloc (.cells #[.int .i64 0, .slice none 0 0] 75) := ⟨_, rfl⟩
  rw [← hW] at hB
  generalize mk2 lab w.heap.size = m at hB
  have B := Lib.hid hB
  have b0 := (hB.bc.cell 0).trans (show _ = some (.int .i64 5) from rfl)
  have b1 := (hB.bc.cell 1).trans (show _ = some (.int .i64 env) from rfl)
  have EV := Lib.hid (kenv_yes env he W)
  have HW := Lib.hid hW
  have CA := Lib.hid (Fr.write_any (hB.ka.tab.drewN 1) env qa qb wb Ab s.length cb s ((hs.older (older_below hB.below)).drewN 1))
  generalize (Fr.writeR K.ps env qa qb s).1 = ps2 at *
  generalize (Fr.writeR K.ps env qa qb s).2 = ev at *
  clear hs
  clear h ok hB hW n8
  go_enter Tryz.func26, Tryz.ntmps26
  go_upto_region 1 with fail
  rw [show (w.alloc (.cells #[.int .i64 5, .int .i64 env, .int .i64 qa, .int .i64 qb, .int .i64 qc, .slice Ab s.length cb, .slice Ap p.length cp, .slice Al l.length cl] 80)).alloc (.cells #[.int .i64 0, .slice none 0 0] 75) = W from HW.out.symm]
  go_wp2_with fail
  refine EV.out.mono ?_; rintro e w1 ⟨rfl, hw1⟩; subst w1
  go_upto_region 16 with fail
  refine wp_region_held_drew (S := fun w' => Hid (w'.cell? ⟨g, 0, none⟩ = some (.pointer (some ⟨a.gt, 0, none⟩)) ∧ Blk w' w.heap.size 80 #[.int .i64 5, .int .i64 env, .int .i64 qa, .int .i64 qb, .int .i64 qc, .slice Ab s.length cb, .slice Ap p.length cp, .slice Al l.length cl])) (by kernel_rfl) (Lib.hid (show W.drew.cell? ⟨g, 0, none⟩ = some (.pointer (some ⟨a.gt, 0, none⟩)) ∧ Blk W.drew w.heap.size 80 #[.int .i64 5, .int .i64 env, .int .i64 qa, .int .i64 qb, .int .i64 qc, .slice Ab s.length cb, .slice Ap p.length cp, .slice Al l.length cl] from ⟨(B.out.ka.head.cell 0).trans rfl, B.out.bc⟩)) (fun hS => ?_)
  refine held_take (i := 0) (d := (some 74)) (v := ?_) rfl rfl (by kernel_rfl) (by kernel_rfl) (by kernel_rfl) (fun _ _ _ h => h) (by rfl) ?_ hS ?_
  rotate_left
  · intro w' hSw; (try dsimp only at hSw); go_simp <;> with_reducible rfl
  simp only [Act.put, List.setIfInBounds_toArray, List.set_cons_zero, List.set_cons_succ]
  refine held_take (i := 1) (d := (some 75)) (v := ?_) rfl rfl (by kernel_rfl) (by kernel_rfl) (by kernel_rfl) (fun _ _ _ h => h) (by rfl) ?_ hS ?_
  rotate_left
  · intro w' hSw; (try dsimp only at hSw); go_simp <;> with_reducible rfl
  simp only [Act.put, List.setIfInBounds_toArray, List.set_cons_zero, List.set_cons_succ]
  refine held_take (i := 2) (d := (some 76)) (v := ?_) rfl rfl (by kernel_rfl) (by kernel_rfl) (by kernel_rfl) (fun _ _ _ h => h) (by rfl) ?_ hS ?_
  rotate_left
  · intro w' hSw; (try dsimp only at hSw); go_simp <;> with_reducible rfl
  simp only [Act.put, List.setIfInBounds_toArray, List.set_cons_zero, List.set_cons_succ]
  refine held_take (i := 3) (d := (some 77)) (v := ?_) rfl rfl (by kernel_rfl) (by kernel_rfl) (by kernel_rfl) (fun _ _ _ h => h) (by rfl) ?_ hS ?_
  rotate_left
  · intro w' hSw; have hc := hSw.out.1; clear hSw; go_simp <;> with_reducible rfl
  simp only [Act.put, List.setIfInBounds_toArray, List.set_cons_zero, List.set_cons_succ]
  refine held_take (i := 4) (d := (some 78)) (v := ?_) rfl rfl (by kernel_rfl) (by kernel_rfl) (by kernel_rfl) (fun _ _ _ h => h) (by rfl) ?_ hS ?_
  rotate_left
  · intro w' hSw; (try dsimp only at hSw); go_simp <;> with_reducible rfl
  simp only [Act.put, List.setIfInBounds_toArray, List.set_cons_zero, List.set_cons_succ]
  refine held_take (i := 5) (d := (some 79)) (v := ?_) rfl rfl (by kernel_rfl) (by kernel_rfl) (by kernel_rfl) (fun _ _ _ h => h) (by rfl) ?_ hS ?_
  rotate_left
  · intro w' hSw; have hc := (hSw.out.2.cell 1).trans (show _ = some (.int .i64 env) from rfl); clear hSw; go_simp <;> with_reducible rfl
  simp only [Act.put, List.setIfInBounds_toArray, List.set_cons_zero, List.set_cons_succ]
  refine held_take (i := 6) (d := (some 80)) (v := ?_) rfl rfl (by kernel_rfl) (by kernel_rfl) (by kernel_rfl) (fun _ _ _ h => h) (by rfl) ?_ hS ?_
  rotate_left
  · intro w' hSw; (try dsimp only at hSw); go_simp <;> with_reducible rfl
  simp only [Act.put, List.setIfInBounds_toArray, List.set_cons_zero, List.set_cons_succ]
  refine held_take (i := 7) (d := (some 81)) (v := ?_) rfl rfl (by kernel_rfl) (by kernel_rfl) (by kernel_rfl) (fun _ _ _ h => h) (by rfl) ?_ hS ?_
  rotate_left
  · intro w' hSw; have hc := (hSw.out.2.cell 2).trans (show _ = some (.int .i64 qa) from rfl); clear hSw; go_simp <;> with_reducible rfl
  simp only [Act.put, List.setIfInBounds_toArray, List.set_cons_zero, List.set_cons_succ]
  refine held_take (i := 8) (d := (some 82)) (v := ?_) rfl rfl (by kernel_rfl) (by kernel_rfl) (by kernel_rfl) (fun _ _ _ h => h) (by rfl) ?_ hS ?_
  rotate_left
  · intro w' hSw; (try dsimp only at hSw); go_simp <;> with_reducible rfl
  simp only [Act.put, List.setIfInBounds_toArray, List.set_cons_zero, List.set_cons_succ]
  refine held_take (i := 9) (d := (some 83)) (v := ?_) rfl rfl (by kernel_rfl) (by kernel_rfl) (by kernel_rfl) (fun _ _ _ h => h) (by rfl) ?_ hS ?_
  rotate_left
  · intro w' hSw; have hc := (hSw.out.2.cell 3).trans (show _ = some (.int .i64 qb) from rfl); clear hSw; go_simp <;> with_reducible rfl
  simp only [Act.put, List.setIfInBounds_toArray, List.set_cons_zero, List.set_cons_succ]
  refine held_take (i := 10) (d := (some 84)) (v := ?_) rfl rfl (by kernel_rfl) (by kernel_rfl) (by kernel_rfl) (fun _ _ _ h => h) (by rfl) ?_ hS ?_
  rotate_left
  · intro w' hSw; (try dsimp only at hSw); go_simp <;> with_reducible rfl
  simp only [Act.put, List.setIfInBounds_toArray, List.set_cons_zero, List.set_cons_succ]
  refine held_take (i := 11) (d := (some 85)) (v := ?_) rfl rfl (by kernel_rfl) (by kernel_rfl) (by kernel_rfl) (fun _ _ _ h => h) (by rfl) ?_ hS ?_
  rotate_left
  · intro w' hSw; have hc := (hSw.out.2.cell 5).trans (show _ = some (.slice Ab s.length cb) from rfl); clear hSw; go_simp <;> with_reducible rfl
  simp only [Act.put, List.setIfInBounds_toArray, List.set_cons_zero, List.set_cons_succ]
  refine held_one (i := 12) (by kernel_rfl) rfl (by rfl) ?_
  go_simp
  refine (CA.out).mono ?_; rintro e w5 ⟨rfl, t5, k5⟩
  obtain ⟨h5, l5⟩ := (B.out.ka.drewN 1).setPs k5 t5
  have H5 := Lib.hid h5
  have L5 := Lib.hid (show LStep W w5 m m from (LStep.drawn m 1).trans l5)
  clear t5 k5 h5 l5
  have BA5 := Lib.hid (L5.out.blk8 B.out.ba (by rw [B.out.m2]; omega))
  have hS : Hid (w5.cell? ⟨g, 0, none⟩ = some (.pointer (some ⟨a.gt, 0, none⟩)) ∧ Blk w5 w.heap.size 80 #[.int .i64 5, .int .i64 env, .int .i64 qa, .int .i64 qb, .int .i64 qc, .slice Ab s.length cb, .slice Ap p.length cp, .slice Al l.length cl]) := Lib.hid ⟨(H5.out.head.cell 0).trans rfl, L5.out.blk8 B.out.bc (by rw [B.out.m1]; omega)⟩
  refine ⟨hS, ?_⟩
  (try simp only [Act.put, List.setIfInBounds_toArray, List.set_cons_zero, List.set_cons_succ])
  refine held_take (i := 13) (d := (some 5)) (v := ?_) rfl rfl (by kernel_rfl) (by kernel_rfl) (by kernel_rfl) (fun _ _ _ h => h) (by rfl) ?_ hS ?_
  rotate_left
  · intro w' hSw; (try dsimp only at hSw); go_simp <;> with_reducible rfl
  simp only [Act.put, List.setIfInBounds_toArray, List.set_cons_zero, List.set_cons_succ]
  refine wpAnyH_done (by kernel_rfl) ?_ _
  obtain ⟨W6, hW6⟩ : ∃ W6, W6 = w5 := ⟨_, rfl⟩
  have b6 : Blk W6 (w.heap.size + 1) 75 #[.int .i64 0, .slice none ([] : List UInt8).length 0] := by rw [hW6]; exact BA5.out
  have k6 : Chg w5 W6 (fun i => i = w.heap.size + 1) := by rw [hW6]; exact Chg.refl _ _
  have d0 := (b6.cell 0).trans (show _ = some (.int .i64 0) from rfl)
  have d1 := (b6.cell 1).trans (show _ = some (.slice none ([] : List UInt8).length 0) from rfl)
  have e0 := b6.frozen 0
  have e1 := b6.frozen 1
  have FIN := Lib.hid (finish (ev := ev) (s := ([] : List UInt8)) B.out ⟨a, H5.out⟩ L5.out k6 b6 (Src.nil _) (fun h => absurd h (by decide)))
  have HW6 := Lib.hid hW6
  clear b6 k6 hW6
  go_upto_region 33 with fail
  obtain rfl : W6 = w5 := HW6.out
  go_wp2
  refine bodyPost_ret (v := .tuple #[.agg #[.int .i64 0, .slice none ([] : List UInt8).length 0], .int .i64 ev]) ?_ rfl ?_
  · exact results_cell_tmp Tryz.results26 _ _ (w.heap.size + 1) 75 _ (0, 0) _ rfl FIN.out.2 Tryz.underlying75 rfl ainfo
  · exact FIN.out.1

set_option maxRecDepth 100000 in
set_option maxHeartbeats 2000000 in
theorem call_4 (h : KAt w lab g K a) (n8 : ∀ k, lab k ≠ 8) (ok : K.Ok) (env : Int) (he : env = 1 ∨ env = 2) (qa qb qc : Int) (s : List UInt8) (p : List Ins) (l : List Pc) (Ab Ap Al : Option Addr) (cb cp cl : Nat) (wb : -9223372036854775808 ≤ qb ∧ qb ≤ 9223372036854775807) :
    Calls Tryz.prog 26 #[.pointer (some ⟨g, 0, none⟩), .agg #[.int .i64 4, .int .i64 env, .int .i64 qa, .int .i64 qb, .int .i64 qc, .slice Ab s.length cb, .slice Ap p.length cp, .slice Al l.length cl]] w (Called w lab g (K, 0, (Fr.readR K.ps env qa qb qc).1, (Fr.readR K.ps env qa qb qc).2)) := by
  have hB := boxed h n8 #[.int .i64 4, .int .i64 env, .int .i64 qa, .int .i64 qb, .int .i64 qc, .slice Ab s.length cb, .slice Ap p.length cp, .slice Al l.length cl]
  obtain ⟨W, hW⟩ : ∃ W, W = (w.alloc (.cells #[.int .i64 4, .int .i64 env, .int .i64 qa, .int .i64 qb, .int .i64 qc, .slice Ab s.length cb, .slice Ap p.length cp, .slice Al l.length cl] 80)).alloc (.cells #[.int .i64 0, .slice none 0 0] 75) := ⟨_, rfl⟩
  rw [← hW] at hB
  generalize mk2 lab w.heap.size = m at hB
  have B := Lib.hid hB
  have b0 := (hB.bc.cell 0).trans (show _ = some (.int .i64 4) from rfl)
  have b1 := (hB.bc.cell 1).trans (show _ = some (.int .i64 env) from rfl)
  have EV := Lib.hid (kenv_yes env he W)
  have HW := Lib.hid hW
  have CA := Lib.hid (Rf.read_any (hB.ka.tab.drewN 1) env qa qb qc wb)
  generalize (Fr.readR K.ps env qa qb qc).1 = sl at *
  generalize (Fr.readR K.ps env qa qb qc).2 = ev at *
  clear h ok hB hW n8
  go_enter Tryz.func26, Tryz.ntmps26
  go_upto_region 1 with fail
  rw [show (w.alloc (.cells #[.int .i64 4, .int .i64 env, .int .i64 qa, .int .i64 qb, .int .i64 qc, .slice Ab s.length cb, .slice Ap p.length cp, .slice Al l.length cl] 80)).alloc (.cells #[.int .i64 0, .slice none 0 0] 75) = W from HW.out.symm]
  go_wp2_with fail
  refine EV.out.mono ?_; rintro e w1 ⟨rfl, hw1⟩; subst w1
  go_upto_region 14 with fail
  refine wp_region_held_drew (S := fun w' => Hid (w'.cell? ⟨g, 0, none⟩ = some (.pointer (some ⟨a.gt, 0, none⟩)) ∧ Blk w' w.heap.size 80 #[.int .i64 4, .int .i64 env, .int .i64 qa, .int .i64 qb, .int .i64 qc, .slice Ab s.length cb, .slice Ap p.length cp, .slice Al l.length cl])) (by kernel_rfl) (Lib.hid (show W.drew.cell? ⟨g, 0, none⟩ = some (.pointer (some ⟨a.gt, 0, none⟩)) ∧ Blk W.drew w.heap.size 80 #[.int .i64 4, .int .i64 env, .int .i64 qa, .int .i64 qb, .int .i64 qc, .slice Ab s.length cb, .slice Ap p.length cp, .slice Al l.length cl] from ⟨(B.out.ka.head.cell 0).trans rfl, B.out.bc⟩)) (fun hS => ?_)
  refine held_take (i := 0) (d := (some 56)) (v := ?_) rfl rfl (by kernel_rfl) (by kernel_rfl) (by kernel_rfl) (fun _ _ _ h => h) (by rfl) ?_ hS ?_
  rotate_left
  · intro w' hSw; (try dsimp only at hSw); go_simp <;> with_reducible rfl
  simp only [Act.put, List.setIfInBounds_toArray, List.set_cons_zero, List.set_cons_succ]
  refine held_take (i := 1) (d := (some 57)) (v := ?_) rfl rfl (by kernel_rfl) (by kernel_rfl) (by kernel_rfl) (fun _ _ _ h => h) (by rfl) ?_ hS ?_
  rotate_left
  · intro w' hSw; (try dsimp only at hSw); go_simp <;> with_reducible rfl
  simp only [Act.put, List.setIfInBounds_toArray, List.set_cons_zero, List.set_cons_succ]
  refine held_take (i := 2) (d := (some 58)) (v := ?_) rfl rfl (by kernel_rfl) (by kernel_rfl) (by kernel_rfl) (fun _ _ _ h => h) (by rfl) ?_ hS ?_
  rotate_left
  · intro w' hSw; (try dsimp only at hSw); go_simp <;> with_reducible rfl
  simp only [Act.put, List.setIfInBounds_toArray, List.set_cons_zero, List.set_cons_succ]
  refine held_take (i := 3) (d := (some 59)) (v := ?_) rfl rfl (by kernel_rfl) (by kernel_rfl) (by kernel_rfl) (fun _ _ _ h => h) (by rfl) ?_ hS ?_
  rotate_left
  · intro w' hSw; have hc := hSw.out.1; clear hSw; go_simp <;> with_reducible rfl
  simp only [Act.put, List.setIfInBounds_toArray, List.set_cons_zero, List.set_cons_succ]
  refine held_take (i := 4) (d := (some 60)) (v := ?_) rfl rfl (by kernel_rfl) (by kernel_rfl) (by kernel_rfl) (fun _ _ _ h => h) (by rfl) ?_ hS ?_
  rotate_left
  · intro w' hSw; (try dsimp only at hSw); go_simp <;> with_reducible rfl
  simp only [Act.put, List.setIfInBounds_toArray, List.set_cons_zero, List.set_cons_succ]
  refine held_take (i := 5) (d := (some 61)) (v := ?_) rfl rfl (by kernel_rfl) (by kernel_rfl) (by kernel_rfl) (fun _ _ _ h => h) (by rfl) ?_ hS ?_
  rotate_left
  · intro w' hSw; have hc := (hSw.out.2.cell 1).trans (show _ = some (.int .i64 env) from rfl); clear hSw; go_simp <;> with_reducible rfl
  simp only [Act.put, List.setIfInBounds_toArray, List.set_cons_zero, List.set_cons_succ]
  refine held_take (i := 6) (d := (some 62)) (v := ?_) rfl rfl (by kernel_rfl) (by kernel_rfl) (by kernel_rfl) (fun _ _ _ h => h) (by rfl) ?_ hS ?_
  rotate_left
  · intro w' hSw; (try dsimp only at hSw); go_simp <;> with_reducible rfl
  simp only [Act.put, List.setIfInBounds_toArray, List.set_cons_zero, List.set_cons_succ]
  refine held_take (i := 7) (d := (some 63)) (v := ?_) rfl rfl (by kernel_rfl) (by kernel_rfl) (by kernel_rfl) (fun _ _ _ h => h) (by rfl) ?_ hS ?_
  rotate_left
  · intro w' hSw; have hc := (hSw.out.2.cell 2).trans (show _ = some (.int .i64 qa) from rfl); clear hSw; go_simp <;> with_reducible rfl
  simp only [Act.put, List.setIfInBounds_toArray, List.set_cons_zero, List.set_cons_succ]
  refine held_take (i := 8) (d := (some 64)) (v := ?_) rfl rfl (by kernel_rfl) (by kernel_rfl) (by kernel_rfl) (fun _ _ _ h => h) (by rfl) ?_ hS ?_
  rotate_left
  · intro w' hSw; (try dsimp only at hSw); go_simp <;> with_reducible rfl
  simp only [Act.put, List.setIfInBounds_toArray, List.set_cons_zero, List.set_cons_succ]
  refine held_take (i := 9) (d := (some 65)) (v := ?_) rfl rfl (by kernel_rfl) (by kernel_rfl) (by kernel_rfl) (fun _ _ _ h => h) (by rfl) ?_ hS ?_
  rotate_left
  · intro w' hSw; have hc := (hSw.out.2.cell 3).trans (show _ = some (.int .i64 qb) from rfl); clear hSw; go_simp <;> with_reducible rfl
  simp only [Act.put, List.setIfInBounds_toArray, List.set_cons_zero, List.set_cons_succ]
  refine held_take (i := 10) (d := (some 66)) (v := ?_) rfl rfl (by kernel_rfl) (by kernel_rfl) (by kernel_rfl) (fun _ _ _ h => h) (by rfl) ?_ hS ?_
  rotate_left
  · intro w' hSw; (try dsimp only at hSw); go_simp <;> with_reducible rfl
  simp only [Act.put, List.setIfInBounds_toArray, List.set_cons_zero, List.set_cons_succ]
  refine held_take (i := 11) (d := (some 67)) (v := ?_) rfl rfl (by kernel_rfl) (by kernel_rfl) (by kernel_rfl) (fun _ _ _ h => h) (by rfl) ?_ hS ?_
  rotate_left
  · intro w' hSw; have hc := (hSw.out.2.cell 4).trans (show _ = some (.int .i64 qc) from rfl); clear hSw; go_simp <;> with_reducible rfl
  simp only [Act.put, List.setIfInBounds_toArray, List.set_cons_zero, List.set_cons_succ]
  refine held_one (i := 12) (by kernel_rfl) rfl (by rfl) ?_
  go_simp
  refine CA.out.mono ?_; rintro e w5 ⟨A5, c5, rfl, s5, bl5⟩
  have H5 := Lib.hid (B.out.ka.new (show Below W.heap.size W w5 from ⟨bl5.os, bl5.tape, bl5.output, bl5.size, bl5.block⟩))
  have L5 := Lib.hid (LStep.news m (show Below W.heap.size W w5 from ⟨bl5.os, bl5.tape, bl5.output, bl5.size, bl5.block⟩))
  have S5 := Lib.hid s5.toSrc
  have O5 := Lib.hid (show Off (on m) A5 sl.length from Fresh.off (w := W.drewN 1) s5.fresh B.out.ka.all)
  clear s5 bl5
  have BA5 := Lib.hid (L5.out.blk8 B.out.ba (by rw [B.out.m2]; omega))
  have hS : Hid (w5.cell? ⟨g, 0, none⟩ = some (.pointer (some ⟨a.gt, 0, none⟩)) ∧ Blk w5 w.heap.size 80 #[.int .i64 4, .int .i64 env, .int .i64 qa, .int .i64 qb, .int .i64 qc, .slice Ab s.length cb, .slice Ap p.length cp, .slice Al l.length cl]) := Lib.hid ⟨(H5.out.head.cell 0).trans rfl, L5.out.blk8 B.out.bc (by rw [B.out.m1]; omega)⟩
  have c5a := (BA5.out.cell 1).trans (show _ = some (.slice none 0 0) from rfl)
  have f5a := BA5.out.frozen 1
  have HNE := Lib.hid (show g ≠ w.heap.size + 1 ∧ w.heap.size ≠ w.heap.size + 1 from ⟨by have h1 := H5.out.lg; have h8 := L5.out.keep (w.heap.size + 1) (by rw [B.out.m2]; omega); have h9 := B.out.m2; intro e; rw [e] at h1; omega, by omega⟩)
  refine ⟨hS, ?_⟩
  (try simp only [Act.put, List.setIfInBounds_toArray, List.set_cons_zero, List.set_cons_succ])
  refine held_take (i := 13) (d := (some 55)) (v := ?_) rfl rfl (by kernel_rfl) (by kernel_rfl) (by kernel_rfl) (fun _ _ _ h => h) (by rfl) ?_ hS ?_
  rotate_left
  · intro w' hSw; (try dsimp only at hSw); go_simp <;> with_reducible rfl
  simp only [Act.put, List.setIfInBounds_toArray, List.set_cons_zero, List.set_cons_succ]
  refine held_take (i := 14) (d := (some 69)) (v := ?_) rfl rfl (by kernel_rfl) (by kernel_rfl) (by kernel_rfl) (fun _ _ _ h => h) (by rfl) ?_ hS ?_
  rotate_left
  · intro w' hSw; (try dsimp only at hSw); go_simp <;> with_reducible rfl
  simp only [Act.put, List.setIfInBounds_toArray, List.set_cons_zero, List.set_cons_succ]
  refine held_take (i := 15) (d := (some 70)) (v := ?_) rfl rfl (by kernel_rfl) (by kernel_rfl) (by kernel_rfl) (fun _ _ _ h => h) (by rfl) ?_ hS ?_
  rotate_left
  · intro w' hSw; (try dsimp only at hSw); go_simp <;> with_reducible rfl
  simp only [Act.put, List.setIfInBounds_toArray, List.set_cons_zero, List.set_cons_succ]
  refine held_take (i := 16) (d := (some 71)) (v := ?_) rfl rfl (by kernel_rfl) (by kernel_rfl) (by kernel_rfl) (fun _ _ _ h => h) (by rfl) ?_ hS ?_
  rotate_left
  · intro w' hSw; (try dsimp only at hSw); go_simp <;> with_reducible rfl
  simp only [Act.put, List.setIfInBounds_toArray, List.set_cons_zero, List.set_cons_succ]
  refine held_one (i := 17) (by kernel_rfl) rfl (by rfl) ?_
  go_simp
  have hS : Hid ((w5.setCell ⟨w.heap.size + 1, 1, none⟩ (.slice A5 sl.length c5)).cell? ⟨g, 0, none⟩ = some (.pointer (some ⟨a.gt, 0, none⟩)) ∧ Blk (w5.setCell ⟨w.heap.size + 1, 1, none⟩ (.slice A5 sl.length c5)) w.heap.size 80 #[.int .i64 4, .int .i64 env, .int .i64 qa, .int .i64 qb, .int .i64 qc, .slice Ab s.length cb, .slice Ap p.length cp, .slice Al l.length cl]) := Lib.hid ⟨((H5.out.head.far (p := ⟨w.heap.size + 1, 1, none⟩) HNE.out.1 _).cell 0).trans rfl, hS.out.2.far (p := ⟨w.heap.size + 1, 1, none⟩) HNE.out.2 _⟩
  have hT := Lib.hid (And.intro ((H5.out.head.cell 0).trans (show _ = some (.pointer (some ⟨a.gt, 0, none⟩)) from rfl)) hS.out.2)
  refine ⟨by first | exact hS | exact hT, ?_⟩
  (try simp only [Act.put, List.setIfInBounds_toArray, List.set_cons_zero, List.set_cons_succ])
  refine held_take (i := 18) (d := (some 5)) (v := ?_) rfl rfl (by kernel_rfl) (by kernel_rfl) (by kernel_rfl) (fun _ _ _ h => h) (by rfl) ?_ hS ?_
  rotate_left
  · intro w' hSw; (try dsimp only at hSw); go_simp <;> with_reducible rfl
  simp only [Act.put, List.setIfInBounds_toArray, List.set_cons_zero, List.set_cons_succ]
  refine wpAnyH_done (by kernel_rfl) ?_ _
  obtain ⟨W6, hW6⟩ : ∃ W6, W6 = (w5.setCell ⟨w.heap.size + 1, 1, none⟩ (.slice A5 sl.length c5)) := ⟨_, rfl⟩
  have b6 : Blk W6 (w.heap.size + 1) 75 #[.int .i64 0, .slice A5 sl.length c5] := by rw [hW6]; exact (BA5.out.put 1 (.slice A5 sl.length c5))
  have k6 : Chg w5 W6 (fun i => i = w.heap.size + 1) := by rw [hW6]; exact Chg.set _ _ _ rfl
  have d0 := (b6.cell 0).trans (show _ = some (.int .i64 0) from rfl)
  have d1 := (b6.cell 1).trans (show _ = some (.slice A5 sl.length c5) from rfl)
  have e0 := b6.frozen 0
  have e1 := b6.frozen 1
  have FIN := Lib.hid (finish (ev := ev) (s := sl) B.out ⟨a, H5.out⟩ L5.out k6 b6 S5.out O5.out)
  have HW6 := Lib.hid hW6
  clear b6 k6 hW6
  go_upto_region 33 with fail
  rw [show (w5.setCell ⟨w.heap.size + 1, 1, none⟩ (.slice A5 sl.length c5)) = W6 from HW6.out.symm]
  go_wp2
  refine bodyPost_ret (v := .tuple #[.agg #[.int .i64 0, .slice A5 sl.length c5], .int .i64 ev]) ?_ rfl ?_
  · exact results_cell_tmp Tryz.results26 _ _ (w.heap.size + 1) 75 _ (0, 0) _ rfl FIN.out.2 Tryz.underlying75 rfl ainfo
  · exact FIN.out.1

set_option maxRecDepth 100000 in
set_option maxHeartbeats 2000000 in
theorem call_6 (h : KAt w lab g K a) (n8 : ∀ k, lab k ≠ 8) (ok : K.Ok) (env : Int) (he : env = 1 ∨ env = 2) (qa qb qc : Int) (s : List UInt8) (p : List Ins) (l : List Pc) (Ab Ap Al : Option Addr) (cb cp cl : Nat) :
    Calls Tryz.prog 26 #[.pointer (some ⟨g, 0, none⟩), .agg #[.int .i64 6, .int .i64 env, .int .i64 qa, .int .i64 qb, .int .i64 qc, .slice Ab s.length cb, .slice Ap p.length cp, .slice Al l.length cl]] w (Called w lab g (K, 0, (readR K.dk env qa).1, (readR K.dk env qa).2)) := by
  have hB := boxed h n8 #[.int .i64 6, .int .i64 env, .int .i64 qa, .int .i64 qb, .int .i64 qc, .slice Ab s.length cb, .slice Ap p.length cp, .slice Al l.length cl]
  obtain ⟨W, hW⟩ : ∃ W, W = (w.alloc (.cells #[.int .i64 6, .int .i64 env, .int .i64 qa, .int .i64 qb, .int .i64 qc, .slice Ab s.length cb, .slice Ap p.length cp, .slice Al l.length cl] 80)).alloc (.cells #[.int .i64 0, .slice none 0 0] 75) := ⟨_, rfl⟩
  rw [← hW] at hB
  generalize mk2 lab w.heap.size = m at hB
  have B := Lib.hid hB
  have b0 := (hB.bc.cell 0).trans (show _ = some (.int .i64 6) from rfl)
  have b1 := (hB.bc.cell 1).trans (show _ = some (.int .i64 env) from rfl)
  have EV := Lib.hid (kenv_yes env he W)
  have HW := Lib.hid hW
  have CA := Lib.hid (Rd.read_any (hB.ka.dk.drewN 1) env qa)
  generalize (readR K.dk env qa).1 = sl at *
  generalize (readR K.dk env qa).2 = ev at *
  clear h ok hB hW n8
  go_enter Tryz.func26, Tryz.ntmps26
  go_upto_region 1 with fail
  rw [show (w.alloc (.cells #[.int .i64 6, .int .i64 env, .int .i64 qa, .int .i64 qb, .int .i64 qc, .slice Ab s.length cb, .slice Ap p.length cp, .slice Al l.length cl] 80)).alloc (.cells #[.int .i64 0, .slice none 0 0] 75) = W from HW.out.symm]
  go_wp2_with fail
  refine EV.out.mono ?_; rintro e w1 ⟨rfl, hw1⟩; subst w1
  go_upto_region 18 with fail
  refine wp_region_held_drew (S := fun w' => Hid (w'.cell? ⟨g, 1, none⟩ = some (.pointer (some ⟨a.gd, 0, none⟩)) ∧ Blk w' w.heap.size 80 #[.int .i64 6, .int .i64 env, .int .i64 qa, .int .i64 qb, .int .i64 qc, .slice Ab s.length cb, .slice Ap p.length cp, .slice Al l.length cl])) (by kernel_rfl) (Lib.hid (show W.drew.cell? ⟨g, 1, none⟩ = some (.pointer (some ⟨a.gd, 0, none⟩)) ∧ Blk W.drew w.heap.size 80 #[.int .i64 6, .int .i64 env, .int .i64 qa, .int .i64 qb, .int .i64 qc, .slice Ab s.length cb, .slice Ap p.length cp, .slice Al l.length cl] from ⟨(B.out.ka.head.cell 1).trans rfl, B.out.bc⟩)) (fun hS => ?_)
  refine held_take (i := 0) (d := (some 90)) (v := ?_) rfl rfl (by kernel_rfl) (by kernel_rfl) (by kernel_rfl) (fun _ _ _ h => h) (by rfl) ?_ hS ?_
  rotate_left
  · intro w' hSw; (try dsimp only at hSw); go_simp <;> with_reducible rfl
  simp only [Act.put, List.setIfInBounds_toArray, List.set_cons_zero, List.set_cons_succ]
  refine held_take (i := 1) (d := (some 91)) (v := ?_) rfl rfl (by kernel_rfl) (by kernel_rfl) (by kernel_rfl) (fun _ _ _ h => h) (by rfl) ?_ hS ?_
  rotate_left
  · intro w' hSw; (try dsimp only at hSw); go_simp <;> with_reducible rfl
  simp only [Act.put, List.setIfInBounds_toArray, List.set_cons_zero, List.set_cons_succ]
  refine held_take (i := 2) (d := (some 92)) (v := ?_) rfl rfl (by kernel_rfl) (by kernel_rfl) (by kernel_rfl) (fun _ _ _ h => h) (by rfl) ?_ hS ?_
  rotate_left
  · intro w' hSw; (try dsimp only at hSw); go_simp <;> with_reducible rfl
  simp only [Act.put, List.setIfInBounds_toArray, List.set_cons_zero, List.set_cons_succ]
  refine held_take (i := 3) (d := (some 93)) (v := ?_) rfl rfl (by kernel_rfl) (by kernel_rfl) (by kernel_rfl) (fun _ _ _ h => h) (by rfl) ?_ hS ?_
  rotate_left
  · intro w' hSw; have hc := hSw.out.1; clear hSw; go_simp <;> with_reducible rfl
  simp only [Act.put, List.setIfInBounds_toArray, List.set_cons_zero, List.set_cons_succ]
  refine held_take (i := 4) (d := (some 94)) (v := ?_) rfl rfl (by kernel_rfl) (by kernel_rfl) (by kernel_rfl) (fun _ _ _ h => h) (by rfl) ?_ hS ?_
  rotate_left
  · intro w' hSw; (try dsimp only at hSw); go_simp <;> with_reducible rfl
  simp only [Act.put, List.setIfInBounds_toArray, List.set_cons_zero, List.set_cons_succ]
  refine held_take (i := 5) (d := (some 95)) (v := ?_) rfl rfl (by kernel_rfl) (by kernel_rfl) (by kernel_rfl) (fun _ _ _ h => h) (by rfl) ?_ hS ?_
  rotate_left
  · intro w' hSw; have hc := (hSw.out.2.cell 1).trans (show _ = some (.int .i64 env) from rfl); clear hSw; go_simp <;> with_reducible rfl
  simp only [Act.put, List.setIfInBounds_toArray, List.set_cons_zero, List.set_cons_succ]
  refine held_take (i := 6) (d := (some 96)) (v := ?_) rfl rfl (by kernel_rfl) (by kernel_rfl) (by kernel_rfl) (fun _ _ _ h => h) (by rfl) ?_ hS ?_
  rotate_left
  · intro w' hSw; (try dsimp only at hSw); go_simp <;> with_reducible rfl
  simp only [Act.put, List.setIfInBounds_toArray, List.set_cons_zero, List.set_cons_succ]
  refine held_take (i := 7) (d := (some 97)) (v := ?_) rfl rfl (by kernel_rfl) (by kernel_rfl) (by kernel_rfl) (fun _ _ _ h => h) (by rfl) ?_ hS ?_
  rotate_left
  · intro w' hSw; have hc := (hSw.out.2.cell 2).trans (show _ = some (.int .i64 qa) from rfl); clear hSw; go_simp <;> with_reducible rfl
  simp only [Act.put, List.setIfInBounds_toArray, List.set_cons_zero, List.set_cons_succ]
  refine held_one (i := 8) (by kernel_rfl) rfl (by rfl) ?_
  go_simp
  refine CA.out.mono ?_; rintro e w5 ⟨A5, c5, rfl, s5, bl5⟩
  have H5 := Lib.hid (B.out.ka.new (show Below W.heap.size W w5 from ⟨bl5.os, bl5.tape, bl5.output, bl5.size, bl5.block⟩))
  have L5 := Lib.hid (LStep.news m (show Below W.heap.size W w5 from ⟨bl5.os, bl5.tape, bl5.output, bl5.size, bl5.block⟩))
  have S5 := Lib.hid s5.toSrc
  have O5 := Lib.hid (show Off (on m) A5 sl.length from Fresh.off (w := W.drewN 1) s5.fresh B.out.ka.all)
  clear s5 bl5
  have BA5 := Lib.hid (L5.out.blk8 B.out.ba (by rw [B.out.m2]; omega))
  have hS : Hid (w5.cell? ⟨g, 1, none⟩ = some (.pointer (some ⟨a.gd, 0, none⟩)) ∧ Blk w5 w.heap.size 80 #[.int .i64 6, .int .i64 env, .int .i64 qa, .int .i64 qb, .int .i64 qc, .slice Ab s.length cb, .slice Ap p.length cp, .slice Al l.length cl]) := Lib.hid ⟨(H5.out.head.cell 1).trans rfl, L5.out.blk8 B.out.bc (by rw [B.out.m1]; omega)⟩
  have c5a := (BA5.out.cell 1).trans (show _ = some (.slice none 0 0) from rfl)
  have f5a := BA5.out.frozen 1
  have HNE := Lib.hid (show g ≠ w.heap.size + 1 ∧ w.heap.size ≠ w.heap.size + 1 from ⟨by have h1 := H5.out.lg; have h8 := L5.out.keep (w.heap.size + 1) (by rw [B.out.m2]; omega); have h9 := B.out.m2; intro e; rw [e] at h1; omega, by omega⟩)
  refine ⟨hS, ?_⟩
  (try simp only [Act.put, List.setIfInBounds_toArray, List.set_cons_zero, List.set_cons_succ])
  refine held_take (i := 9) (d := (some 89)) (v := ?_) rfl rfl (by kernel_rfl) (by kernel_rfl) (by kernel_rfl) (fun _ _ _ h => h) (by rfl) ?_ hS ?_
  rotate_left
  · intro w' hSw; (try dsimp only at hSw); go_simp <;> with_reducible rfl
  simp only [Act.put, List.setIfInBounds_toArray, List.set_cons_zero, List.set_cons_succ]
  refine held_take (i := 10) (d := (some 99)) (v := ?_) rfl rfl (by kernel_rfl) (by kernel_rfl) (by kernel_rfl) (fun _ _ _ h => h) (by rfl) ?_ hS ?_
  rotate_left
  · intro w' hSw; (try dsimp only at hSw); go_simp <;> with_reducible rfl
  simp only [Act.put, List.setIfInBounds_toArray, List.set_cons_zero, List.set_cons_succ]
  refine held_take (i := 11) (d := (some 100)) (v := ?_) rfl rfl (by kernel_rfl) (by kernel_rfl) (by kernel_rfl) (fun _ _ _ h => h) (by rfl) ?_ hS ?_
  rotate_left
  · intro w' hSw; (try dsimp only at hSw); go_simp <;> with_reducible rfl
  simp only [Act.put, List.setIfInBounds_toArray, List.set_cons_zero, List.set_cons_succ]
  refine held_take (i := 12) (d := (some 101)) (v := ?_) rfl rfl (by kernel_rfl) (by kernel_rfl) (by kernel_rfl) (fun _ _ _ h => h) (by rfl) ?_ hS ?_
  rotate_left
  · intro w' hSw; (try dsimp only at hSw); go_simp <;> with_reducible rfl
  simp only [Act.put, List.setIfInBounds_toArray, List.set_cons_zero, List.set_cons_succ]
  refine held_one (i := 13) (by kernel_rfl) rfl (by rfl) ?_
  go_simp
  have hS : Hid ((w5.setCell ⟨w.heap.size + 1, 1, none⟩ (.slice A5 sl.length c5)).cell? ⟨g, 1, none⟩ = some (.pointer (some ⟨a.gd, 0, none⟩)) ∧ Blk (w5.setCell ⟨w.heap.size + 1, 1, none⟩ (.slice A5 sl.length c5)) w.heap.size 80 #[.int .i64 6, .int .i64 env, .int .i64 qa, .int .i64 qb, .int .i64 qc, .slice Ab s.length cb, .slice Ap p.length cp, .slice Al l.length cl]) := Lib.hid ⟨((H5.out.head.far (p := ⟨w.heap.size + 1, 1, none⟩) HNE.out.1 _).cell 1).trans rfl, hS.out.2.far (p := ⟨w.heap.size + 1, 1, none⟩) HNE.out.2 _⟩
  have hT := Lib.hid (And.intro ((H5.out.head.cell 1).trans (show _ = some (.pointer (some ⟨a.gd, 0, none⟩)) from rfl)) hS.out.2)
  refine ⟨by first | exact hS | exact hT, ?_⟩
  (try simp only [Act.put, List.setIfInBounds_toArray, List.set_cons_zero, List.set_cons_succ])
  refine held_take (i := 14) (d := (some 5)) (v := ?_) rfl rfl (by kernel_rfl) (by kernel_rfl) (by kernel_rfl) (fun _ _ _ h => h) (by rfl) ?_ hS ?_
  rotate_left
  · intro w' hSw; (try dsimp only at hSw); go_simp <;> with_reducible rfl
  simp only [Act.put, List.setIfInBounds_toArray, List.set_cons_zero, List.set_cons_succ]
  refine wpAnyH_done (by kernel_rfl) ?_ _
  obtain ⟨W6, hW6⟩ : ∃ W6, W6 = (w5.setCell ⟨w.heap.size + 1, 1, none⟩ (.slice A5 sl.length c5)) := ⟨_, rfl⟩
  have b6 : Blk W6 (w.heap.size + 1) 75 #[.int .i64 0, .slice A5 sl.length c5] := by rw [hW6]; exact (BA5.out.put 1 (.slice A5 sl.length c5))
  have k6 : Chg w5 W6 (fun i => i = w.heap.size + 1) := by rw [hW6]; exact Chg.set _ _ _ rfl
  have d0 := (b6.cell 0).trans (show _ = some (.int .i64 0) from rfl)
  have d1 := (b6.cell 1).trans (show _ = some (.slice A5 sl.length c5) from rfl)
  have e0 := b6.frozen 0
  have e1 := b6.frozen 1
  have FIN := Lib.hid (finish (ev := ev) (s := sl) B.out ⟨a, H5.out⟩ L5.out k6 b6 S5.out O5.out)
  have HW6 := Lib.hid hW6
  clear b6 k6 hW6
  go_upto_region 33 with fail
  rw [show (w5.setCell ⟨w.heap.size + 1, 1, none⟩ (.slice A5 sl.length c5)) = W6 from HW6.out.symm]
  go_wp2
  refine bodyPost_ret (v := .tuple #[.agg #[.int .i64 0, .slice A5 sl.length c5], .int .i64 ev]) ?_ rfl ?_
  · exact results_cell_tmp Tryz.results26 _ _ (w.heap.size + 1) 75 _ (0, 0) _ rfl FIN.out.2 Tryz.underlying75 rfl ainfo
  · exact FIN.out.1

set_option maxRecDepth 100000 in
set_option maxHeartbeats 2000000 in
theorem call_7 (h : KAt w lab g K a) (n8 : ∀ k, lab k ≠ 8) (ok : K.Ok) (env : Int) (he : env = 1 ∨ env = 2) (qa qb qc : Int) (s : List UInt8) (p : List Ins) (l : List Pc) (Ab Ap Al : Option Addr) (cb cp cl : Nat) (hs : Src w Ab s.length cb s) (hab : ∀ b o, Ab = some ⟨b, o, none⟩ → b < w.heap.size ∧ lab b = 0) (hln : K.dk.line.length < 1000000) :
    Calls Tryz.prog 26 #[.pointer (some ⟨g, 0, none⟩), .agg #[.int .i64 7, .int .i64 env, .int .i64 qa, .int .i64 qb, .int .i64 qc, .slice Ab s.length cb, .slice Ap p.length cp, .slice Al l.length cl]] w (Called w lab g ({ K with dk := (writeR K.dk env qa s).1 }, 0, [], (writeR K.dk env qa s).2)) := by
  have hB := boxed h n8 #[.int .i64 7, .int .i64 env, .int .i64 qa, .int .i64 qb, .int .i64 qc, .slice Ab s.length cb, .slice Ap p.length cp, .slice Al l.length cl]
  obtain ⟨W, hW⟩ : ∃ W, W = (w.alloc (.cells #[.int .i64 7, .int .i64 env, .int .i64 qa, .int .i64 qb, .int .i64 qc, .slice Ab s.length cb, .slice Ap p.length cp, .slice Al l.length cl] 80)).alloc (.cells #[.int .i64 0, .slice none 0 0] 75) := ⟨_, rfl⟩
  rw [← hW] at hB
  generalize mk2 lab w.heap.size = m at hB
  have B := Lib.hid hB
  have b0 := (hB.bc.cell 0).trans (show _ = some (.int .i64 7) from rfl)
  have b1 := (hB.bc.cell 1).trans (show _ = some (.int .i64 env) from rfl)
  have EV := Lib.hid (kenv_yes env he W)
  have HW := Lib.hid hW
  have CA := Lib.hid (Di.write_any (hB.ka.dk.drewN 1) env qa Ab s.length cb s ((hs.older (older_below hB.below)).drewN 1) (fun b o e hf => by have h1 := hab b o e; have h2 := hB.ml b h1.1; have hf' : m b = 3 := hf; omega) hln)
  generalize (writeR K.dk env qa s).1 = dk2 at *
  generalize (writeR K.dk env qa s).2 = ev at *
  clear h ok hB hW n8 hs hab
  go_enter Tryz.func26, Tryz.ntmps26
  go_upto_region 1 with fail
  rw [show (w.alloc (.cells #[.int .i64 7, .int .i64 env, .int .i64 qa, .int .i64 qb, .int .i64 qc, .slice Ab s.length cb, .slice Ap p.length cp, .slice Al l.length cl] 80)).alloc (.cells #[.int .i64 0, .slice none 0 0] 75) = W from HW.out.symm]
  go_wp2_with fail
  refine EV.out.mono ?_; rintro e w1 ⟨rfl, hw1⟩; subst w1
  go_upto_region 20 with fail
  refine wp_region_held_drew (S := fun w' => Hid (w'.cell? ⟨g, 1, none⟩ = some (.pointer (some ⟨a.gd, 0, none⟩)) ∧ Blk w' w.heap.size 80 #[.int .i64 7, .int .i64 env, .int .i64 qa, .int .i64 qb, .int .i64 qc, .slice Ab s.length cb, .slice Ap p.length cp, .slice Al l.length cl])) (by kernel_rfl) (Lib.hid (show W.drew.cell? ⟨g, 1, none⟩ = some (.pointer (some ⟨a.gd, 0, none⟩)) ∧ Blk W.drew w.heap.size 80 #[.int .i64 7, .int .i64 env, .int .i64 qa, .int .i64 qb, .int .i64 qc, .slice Ab s.length cb, .slice Ap p.length cp, .slice Al l.length cl] from ⟨(B.out.ka.head.cell 1).trans rfl, B.out.bc⟩)) (fun hS => ?_)
  refine held_take (i := 0) (d := (some 104)) (v := ?_) rfl rfl (by kernel_rfl) (by kernel_rfl) (by kernel_rfl) (fun _ _ _ h => h) (by rfl) ?_ hS ?_
  rotate_left
  · intro w' hSw; (try dsimp only at hSw); go_simp <;> with_reducible rfl
  simp only [Act.put, List.setIfInBounds_toArray, List.set_cons_zero, List.set_cons_succ]
  refine held_take (i := 1) (d := (some 105)) (v := ?_) rfl rfl (by kernel_rfl) (by kernel_rfl) (by kernel_rfl) (fun _ _ _ h => h) (by rfl) ?_ hS ?_
  rotate_left
  · intro w' hSw; (try dsimp only at hSw); go_simp <;> with_reducible rfl
  simp only [Act.put, List.setIfInBounds_toArray, List.set_cons_zero, List.set_cons_succ]
  refine held_take (i := 2) (d := (some 106)) (v := ?_) rfl rfl (by kernel_rfl) (by kernel_rfl) (by kernel_rfl) (fun _ _ _ h => h) (by rfl) ?_ hS ?_
  rotate_left
  · intro w' hSw; (try dsimp only at hSw); go_simp <;> with_reducible rfl
  simp only [Act.put, List.setIfInBounds_toArray, List.set_cons_zero, List.set_cons_succ]
  refine held_take (i := 3) (d := (some 107)) (v := ?_) rfl rfl (by kernel_rfl) (by kernel_rfl) (by kernel_rfl) (fun _ _ _ h => h) (by rfl) ?_ hS ?_
  rotate_left
  · intro w' hSw; have hc := hSw.out.1; clear hSw; go_simp <;> with_reducible rfl
  simp only [Act.put, List.setIfInBounds_toArray, List.set_cons_zero, List.set_cons_succ]
  refine held_take (i := 4) (d := (some 108)) (v := ?_) rfl rfl (by kernel_rfl) (by kernel_rfl) (by kernel_rfl) (fun _ _ _ h => h) (by rfl) ?_ hS ?_
  rotate_left
  · intro w' hSw; (try dsimp only at hSw); go_simp <;> with_reducible rfl
  simp only [Act.put, List.setIfInBounds_toArray, List.set_cons_zero, List.set_cons_succ]
  refine held_take (i := 5) (d := (some 109)) (v := ?_) rfl rfl (by kernel_rfl) (by kernel_rfl) (by kernel_rfl) (fun _ _ _ h => h) (by rfl) ?_ hS ?_
  rotate_left
  · intro w' hSw; have hc := (hSw.out.2.cell 1).trans (show _ = some (.int .i64 env) from rfl); clear hSw; go_simp <;> with_reducible rfl
  simp only [Act.put, List.setIfInBounds_toArray, List.set_cons_zero, List.set_cons_succ]
  refine held_take (i := 6) (d := (some 110)) (v := ?_) rfl rfl (by kernel_rfl) (by kernel_rfl) (by kernel_rfl) (fun _ _ _ h => h) (by rfl) ?_ hS ?_
  rotate_left
  · intro w' hSw; (try dsimp only at hSw); go_simp <;> with_reducible rfl
  simp only [Act.put, List.setIfInBounds_toArray, List.set_cons_zero, List.set_cons_succ]
  refine held_take (i := 7) (d := (some 111)) (v := ?_) rfl rfl (by kernel_rfl) (by kernel_rfl) (by kernel_rfl) (fun _ _ _ h => h) (by rfl) ?_ hS ?_
  rotate_left
  · intro w' hSw; have hc := (hSw.out.2.cell 2).trans (show _ = some (.int .i64 qa) from rfl); clear hSw; go_simp <;> with_reducible rfl
  simp only [Act.put, List.setIfInBounds_toArray, List.set_cons_zero, List.set_cons_succ]
  refine held_take (i := 8) (d := (some 112)) (v := ?_) rfl rfl (by kernel_rfl) (by kernel_rfl) (by kernel_rfl) (fun _ _ _ h => h) (by rfl) ?_ hS ?_
  rotate_left
  · intro w' hSw; (try dsimp only at hSw); go_simp <;> with_reducible rfl
  simp only [Act.put, List.setIfInBounds_toArray, List.set_cons_zero, List.set_cons_succ]
  refine held_take (i := 9) (d := (some 113)) (v := ?_) rfl rfl (by kernel_rfl) (by kernel_rfl) (by kernel_rfl) (fun _ _ _ h => h) (by rfl) ?_ hS ?_
  rotate_left
  · intro w' hSw; have hc := (hSw.out.2.cell 5).trans (show _ = some (.slice Ab s.length cb) from rfl); clear hSw; go_simp <;> with_reducible rfl
  simp only [Act.put, List.setIfInBounds_toArray, List.set_cons_zero, List.set_cons_succ]
  refine held_one (i := 10) (by kernel_rfl) rfl (by rfl) ?_
  go_simp
  refine CA.out.mono ?_; rintro e w5 ⟨rfl, F5, d5, s5⟩
  obtain ⟨m5, h5, l5⟩ := (B.out.ka.drewN 1).setDk s5 d5
  have H5 := Lib.hid h5
  have L5 := Lib.hid (show LStep W w5 m m5 from (LStep.drawn m 1).trans l5)
  clear d5 s5 h5 l5
  have BA5 := Lib.hid (L5.out.blk8 B.out.ba (by rw [B.out.m2]; omega))
  have hS : Hid (w5.cell? ⟨g, 1, none⟩ = some (.pointer (some ⟨a.gd, 0, none⟩)) ∧ Blk w5 w.heap.size 80 #[.int .i64 7, .int .i64 env, .int .i64 qa, .int .i64 qb, .int .i64 qc, .slice Ab s.length cb, .slice Ap p.length cp, .slice Al l.length cl]) := Lib.hid ⟨(H5.out.head.cell 1).trans rfl, L5.out.blk8 B.out.bc (by rw [B.out.m1]; omega)⟩
  refine ⟨hS, ?_⟩
  (try simp only [Act.put, List.setIfInBounds_toArray, List.set_cons_zero, List.set_cons_succ])
  refine held_take (i := 11) (d := (some 5)) (v := ?_) rfl rfl (by kernel_rfl) (by kernel_rfl) (by kernel_rfl) (fun _ _ _ h => h) (by rfl) ?_ hS ?_
  rotate_left
  · intro w' hSw; (try dsimp only at hSw); go_simp <;> with_reducible rfl
  simp only [Act.put, List.setIfInBounds_toArray, List.set_cons_zero, List.set_cons_succ]
  refine wpAnyH_done (by kernel_rfl) ?_ _
  obtain ⟨W6, hW6⟩ : ∃ W6, W6 = w5 := ⟨_, rfl⟩
  have b6 : Blk W6 (w.heap.size + 1) 75 #[.int .i64 0, .slice none ([] : List UInt8).length 0] := by rw [hW6]; exact BA5.out
  have k6 : Chg w5 W6 (fun i => i = w.heap.size + 1) := by rw [hW6]; exact Chg.refl _ _
  have d0 := (b6.cell 0).trans (show _ = some (.int .i64 0) from rfl)
  have d1 := (b6.cell 1).trans (show _ = some (.slice none ([] : List UInt8).length 0) from rfl)
  have e0 := b6.frozen 0
  have e1 := b6.frozen 1
  have FIN := Lib.hid (finish (ev := ev) (s := ([] : List UInt8)) B.out ⟨a, H5.out⟩ L5.out k6 b6 (Src.nil _) (fun h => absurd h (by decide)))
  have HW6 := Lib.hid hW6
  clear b6 k6 hW6
  go_upto_region 33 with fail
  obtain rfl : W6 = w5 := HW6.out
  go_wp2
  refine bodyPost_ret (v := .tuple #[.agg #[.int .i64 0, .slice none ([] : List UInt8).length 0], .int .i64 ev]) ?_ rfl ?_
  · exact results_cell_tmp Tryz.results26 _ _ (w.heap.size + 1) 75 _ (0, 0) _ rfl FIN.out.2 Tryz.underlying75 rfl ainfo
  · exact FIN.out.1

set_option maxRecDepth 100000 in
set_option maxHeartbeats 2000000 in
theorem call_8 (h : KAt w lab g K a) (n8 : ∀ k, lab k ≠ 8) (ok : K.Ok) (env : Int) (he : env = 1 ∨ env = 2) (qa qb qc : Int) (s : List UInt8) (p : List Ins) (l : List Pc) (Ab Ap Al : Option Addr) (cb cp cl : Nat) :
    Calls Tryz.prog 26 #[.pointer (some ⟨g, 0, none⟩), .agg #[.int .i64 8, .int .i64 env, .int .i64 qa, .int .i64 qb, .int .i64 qc, .slice Ab s.length cb, .slice Ap p.length cp, .slice Al l.length cl]] w (Called w lab g ({ K with dk := (syncR K.dk).1 }, 0, [], (syncR K.dk).2)) := by
  have hB := boxed h n8 #[.int .i64 8, .int .i64 env, .int .i64 qa, .int .i64 qb, .int .i64 qc, .slice Ab s.length cb, .slice Ap p.length cp, .slice Al l.length cl]
  obtain ⟨W, hW⟩ : ∃ W, W = (w.alloc (.cells #[.int .i64 8, .int .i64 env, .int .i64 qa, .int .i64 qb, .int .i64 qc, .slice Ab s.length cb, .slice Ap p.length cp, .slice Al l.length cl] 80)).alloc (.cells #[.int .i64 0, .slice none 0 0] 75) := ⟨_, rfl⟩
  rw [← hW] at hB
  generalize mk2 lab w.heap.size = m at hB
  have B := Lib.hid hB
  have b0 := (hB.bc.cell 0).trans (show _ = some (.int .i64 8) from rfl)
  have b1 := (hB.bc.cell 1).trans (show _ = some (.int .i64 env) from rfl)
  have EV := Lib.hid (kenv_yes env he W)
  have HW := Lib.hid hW
  have CA := Lib.hid (Di.sync_any hB.ka.dk)
  have cg := (hB.ka.head.cell 1).trans (show _ = some (.pointer (some ⟨a.gd, 0, none⟩)) from rfl)
  generalize (syncR K.dk).1 = dk2 at *
  generalize (syncR K.dk).2 = ev at *
  clear h ok hB hW n8
  go_enter Tryz.func26, Tryz.ntmps26
  go_upto_region 1 with fail
  rw [show (w.alloc (.cells #[.int .i64 8, .int .i64 env, .int .i64 qa, .int .i64 qb, .int .i64 qc, .slice Ab s.length cb, .slice Ap p.length cp, .slice Al l.length cl] 80)).alloc (.cells #[.int .i64 0, .slice none 0 0] 75) = W from HW.out.symm]
  go_wp2_with fail
  refine EV.out.mono ?_; rintro e w1 ⟨rfl, hw1⟩; subst w1
  go_wp2_with fail
  refine CA.out.mono ?_; rintro e w5 ⟨rfl, F5, d5, s5⟩
  obtain ⟨m5, h5, l5⟩ := B.out.ka.setDk s5 d5
  have H5 := Lib.hid h5
  have L5 := Lib.hid l5
  clear d5 s5 h5 l5
  have BA5 := Lib.hid (L5.out.blk8 B.out.ba (by rw [B.out.m2]; omega))
  obtain ⟨W6, hW6⟩ : ∃ W6, W6 = w5 := ⟨_, rfl⟩
  have b6 : Blk W6 (w.heap.size + 1) 75 #[.int .i64 0, .slice none ([] : List UInt8).length 0] := by rw [hW6]; exact BA5.out
  have k6 : Chg w5 W6 (fun i => i = w.heap.size + 1) := by rw [hW6]; exact Chg.refl _ _
  have d0 := (b6.cell 0).trans (show _ = some (.int .i64 0) from rfl)
  have d1 := (b6.cell 1).trans (show _ = some (.slice none ([] : List UInt8).length 0) from rfl)
  have e0 := b6.frozen 0
  have e1 := b6.frozen 1
  have FIN := Lib.hid (finish (ev := ev) (s := ([] : List UInt8)) B.out ⟨a, H5.out⟩ L5.out k6 b6 (Src.nil _) (fun h => absurd h (by decide)))
  have HW6 := Lib.hid hW6
  clear b6 k6 hW6
  go_upto_region 33 with fail
  obtain rfl : W6 = w5 := HW6.out
  go_wp2
  refine bodyPost_ret (v := .tuple #[.agg #[.int .i64 0, .slice none ([] : List UInt8).length 0], .int .i64 ev]) ?_ rfl ?_
  · exact results_cell_tmp Tryz.results26 _ _ (w.heap.size + 1) 75 _ (0, 0) _ rfl FIN.out.2 Tryz.underlying75 rfl ainfo
  · exact FIN.out.1

set_option maxRecDepth 100000 in
set_option maxHeartbeats 2000000 in
theorem call_9 (h : KAt w lab g K a) (n8 : ∀ k, lab k ≠ 8) (ok : K.Ok) (env : Int) (he : env = 1 ∨ env = 2) (qa qb qc : Int) (s : List UInt8) (p : List Ins) (l : List Pc) (Ab Ap Al : Option Addr) (cb cp cl : Nat) (hp : Prg w Ap p) (hn : Ap = none → p = [] ∧ cp = 0) (mp : p.length ≤ 1000000) (hnx : K.next < 1000000) :
    Calls Tryz.prog 26 #[.pointer (some ⟨g, 0, none⟩), .agg #[.int .i64 9, .int .i64 env, .int .i64 qa, .int .i64 qb, .int .i64 qc, .slice Ab s.length cb, .slice Ap p.length cp, .slice Al l.length cl]] w (Called w lab g ((bindR K env p).1, (bindR K env p).2.1, [], (bindR K env p).2.2)) := by
  have hB := boxed h n8 #[.int .i64 9, .int .i64 env, .int .i64 qa, .int .i64 qb, .int .i64 qc, .slice Ab s.length cb, .slice Ap p.length cp, .slice Al l.length cl]
  obtain ⟨W, hW⟩ : ∃ W, W = (w.alloc (.cells #[.int .i64 9, .int .i64 env, .int .i64 qa, .int .i64 qb, .int .i64 qc, .slice Ab s.length cb, .slice Ap p.length cp, .slice Al l.length cl] 80)).alloc (.cells #[.int .i64 0, .slice none 0 0] 75) := ⟨_, rfl⟩
  rw [← hW] at hB
  generalize mk2 lab w.heap.size = m at hB
  have B := Lib.hid hB
  have b0 := (hB.bc.cell 0).trans (show _ = some (.int .i64 9) from rfl)
  have b1 := (hB.bc.cell 1).trans (show _ = some (.int .i64 env) from rfl)
  have EV := Lib.hid (kenv_yes env he W)
  have HW := Lib.hid hW
  have b6 := (hB.bc.cell 6).trans (show _ = some (.slice Ap p.length cp) from rfl)
  have CA := Lib.hid (bind_any hB.ka ok env he Ap cp p (hp.new hB.below) hn mp hnx)
  generalize (bindR K env p).1 = K2 at *
  generalize (bindR K env p).2.1 = n at *
  generalize (bindR K env p).2.2 = ev at *
  clear hp hn
  clear h hB hW n8 ok
  go_enter Tryz.func26, Tryz.ntmps26
  go_upto_region 1 with fail
  rw [show (w.alloc (.cells #[.int .i64 9, .int .i64 env, .int .i64 qa, .int .i64 qb, .int .i64 qc, .slice Ab s.length cb, .slice Ap p.length cp, .slice Al l.length cl] 80)).alloc (.cells #[.int .i64 0, .slice none 0 0] 75) = W from HW.out.symm]
  go_wp2_with fail
  refine EV.out.mono ?_; rintro e w1 ⟨rfl, hw1⟩; subst w1
  go_wp2_with fail
  refine CA.out.mono ?_; rintro e w5 ⟨rfl, m5, h5, l5⟩
  have H5 := Lib.hid h5
  have L5 := Lib.hid l5
  clear h5 l5
  have BA5 := Lib.hid (L5.out.blk8 B.out.ba (by rw [B.out.m2]; omega))
  have c5a := (BA5.out.cell 0).trans (show _ = some (.int .i64 0) from rfl)
  have f5a := BA5.out.frozen 0
  obtain ⟨W6, hW6⟩ : ∃ W6, W6 = (w5.setCell ⟨w.heap.size + 1, 0, none⟩ (.int .i64 n)) := ⟨_, rfl⟩
  have b6 : Blk W6 (w.heap.size + 1) 75 #[.int .i64 n, .slice none ([] : List UInt8).length 0] := by rw [hW6]; exact (BA5.out.put 0 (.int .i64 n))
  have k6 : Chg w5 W6 (fun i => i = w.heap.size + 1) := by rw [hW6]; exact Chg.set _ _ _ rfl
  have d0 := (b6.cell 0).trans (show _ = some (.int .i64 n) from rfl)
  have d1 := (b6.cell 1).trans (show _ = some (.slice none ([] : List UInt8).length 0) from rfl)
  have e0 := b6.frozen 0
  have e1 := b6.frozen 1
  have FIN := Lib.hid (finish (ev := ev) (s := ([] : List UInt8)) B.out H5.out L5.out k6 b6 (Src.nil _) (fun h => absurd h (by decide)))
  have HW6 := Lib.hid hW6
  clear b6 k6 hW6
  go_upto_region 33 with fail
  rw [show (w5.setCell ⟨w.heap.size + 1, 0, none⟩ (.int .i64 n)) = W6 from HW6.out.symm]
  go_wp2
  refine bodyPost_ret (v := .tuple #[.agg #[.int .i64 n, .slice none ([] : List UInt8).length 0], .int .i64 ev]) ?_ rfl ?_
  · exact results_cell_tmp Tryz.results26 _ _ (w.heap.size + 1) 75 _ (0, 0) _ rfl FIN.out.2 Tryz.underlying75 rfl ainfo
  · exact FIN.out.1

set_option maxRecDepth 100000 in
set_option maxHeartbeats 2000000 in
theorem call_10 (h : KAt w lab g K a) (n8 : ∀ k, lab k ≠ 8) (ok : K.Ok) (env : Int) (he : env = 1 ∨ env = 2) (qa qb qc : Int) (s : List UInt8) (p : List Ins) (l : List Pc) (Ab Ap Al : Option Addr) (cb cp cl : Nat) :
    Calls Tryz.prog 26 #[.pointer (some ⟨g, 0, none⟩), .agg #[.int .i64 10, .int .i64 env, .int .i64 qa, .int .i64 qb, .int .i64 qc, .slice Ab s.length cb, .slice Ap p.length cp, .slice Al l.length cl]] w (Called w lab g ((unbindR K env qa).1, 0, [], (unbindR K env qa).2)) := by
  have hB := boxed h n8 #[.int .i64 10, .int .i64 env, .int .i64 qa, .int .i64 qb, .int .i64 qc, .slice Ab s.length cb, .slice Ap p.length cp, .slice Al l.length cl]
  obtain ⟨W, hW⟩ : ∃ W, W = (w.alloc (.cells #[.int .i64 10, .int .i64 env, .int .i64 qa, .int .i64 qb, .int .i64 qc, .slice Ab s.length cb, .slice Ap p.length cp, .slice Al l.length cl] 80)).alloc (.cells #[.int .i64 0, .slice none 0 0] 75) := ⟨_, rfl⟩
  rw [← hW] at hB
  generalize mk2 lab w.heap.size = m at hB
  have B := Lib.hid hB
  have b0 := (hB.bc.cell 0).trans (show _ = some (.int .i64 10) from rfl)
  have b1 := (hB.bc.cell 1).trans (show _ = some (.int .i64 env) from rfl)
  have EV := Lib.hid (kenv_yes env he W)
  have HW := Lib.hid hW
  have b2 := (hB.bc.cell 2).trans (show _ = some (.int .i64 qa) from rfl)
  have CA := Lib.hid (unbind_any hB.ka ok env qa)
  generalize (unbindR K env qa).1 = K2 at *
  generalize (unbindR K env qa).2 = ev at *
  clear h hB hW n8 ok
  go_enter Tryz.func26, Tryz.ntmps26
  go_upto_region 1 with fail
  rw [show (w.alloc (.cells #[.int .i64 10, .int .i64 env, .int .i64 qa, .int .i64 qb, .int .i64 qc, .slice Ab s.length cb, .slice Ap p.length cp, .slice Al l.length cl] 80)).alloc (.cells #[.int .i64 0, .slice none 0 0] 75) = W from HW.out.symm]
  go_wp2_with fail
  refine EV.out.mono ?_; rintro e w1 ⟨rfl, hw1⟩; subst w1
  go_wp2_with fail
  refine CA.out.mono ?_; rintro e w5 ⟨rfl, m5, h5, l5⟩
  have H5 := Lib.hid h5
  have L5 := Lib.hid l5
  clear h5 l5
  have BA5 := Lib.hid (L5.out.blk8 B.out.ba (by rw [B.out.m2]; omega))
  obtain ⟨W6, hW6⟩ : ∃ W6, W6 = w5 := ⟨_, rfl⟩
  have b6 : Blk W6 (w.heap.size + 1) 75 #[.int .i64 0, .slice none ([] : List UInt8).length 0] := by rw [hW6]; exact BA5.out
  have k6 : Chg w5 W6 (fun i => i = w.heap.size + 1) := by rw [hW6]; exact Chg.refl _ _
  have d0 := (b6.cell 0).trans (show _ = some (.int .i64 0) from rfl)
  have d1 := (b6.cell 1).trans (show _ = some (.slice none ([] : List UInt8).length 0) from rfl)
  have e0 := b6.frozen 0
  have e1 := b6.frozen 1
  have FIN := Lib.hid (finish (ev := ev) (s := ([] : List UInt8)) B.out H5.out L5.out k6 b6 (Src.nil _) (fun h => absurd h (by decide)))
  have HW6 := Lib.hid hW6
  clear b6 k6 hW6
  go_upto_region 33 with fail
  obtain rfl : W6 = w5 := HW6.out
  go_wp2
  refine bodyPost_ret (v := .tuple #[.agg #[.int .i64 0, .slice none ([] : List UInt8).length 0], .int .i64 ev]) ?_ rfl ?_
  · exact results_cell_tmp Tryz.results26 _ _ (w.heap.size + 1) 75 _ (0, 0) _ rfl FIN.out.2 Tryz.underlying75 rfl ainfo
  · exact FIN.out.1

set_option maxRecDepth 100000 in
set_option maxHeartbeats 2000000 in
theorem call_11 (h : KAt w lab g K a) (n8 : ∀ k, lab k ≠ 8) (ok : K.Ok) (env : Int) (he : env = 1 ∨ env = 2) (qa qb qc : Int) (s : List UInt8) (p : List Ins) (l : List Pc) (Ab Ap Al : Option Addr) (cb cp cl : Nat) (hl : Pcs w Al l) (lok : ∀ p ∈ l, p.Ok) (hal : ∀ b o, Al = some ⟨b, o, none⟩ → b < w.heap.size ∧ lab b = 0) (hc : l.length ≤ cl) (ml : l.length ≤ 1000000) (hf3 : K.f3 + K.out.length < 1000000) :
    Calls Tryz.prog 26 #[.pointer (some ⟨g, 0, none⟩), .agg #[.int .i64 11, .int .i64 env, .int .i64 qa, .int .i64 qb, .int .i64 qc, .slice Ab s.length cb, .slice Ap p.length cp, .slice Al l.length cl]] w (Called w lab g ((submitR K env l).1, (submitR K env l).2.1, [], (submitR K env l).2.2)) := by
  have hB := boxed h n8 #[.int .i64 11, .int .i64 env, .int .i64 qa, .int .i64 qb, .int .i64 qc, .slice Ab s.length cb, .slice Ap p.length cp, .slice Al l.length cl]
  obtain ⟨W, hW⟩ : ∃ W, W = (w.alloc (.cells #[.int .i64 11, .int .i64 env, .int .i64 qa, .int .i64 qb, .int .i64 qc, .slice Ab s.length cb, .slice Ap p.length cp, .slice Al l.length cl] 80)).alloc (.cells #[.int .i64 0, .slice none 0 0] 75) := ⟨_, rfl⟩
  rw [← hW] at hB
  generalize mk2 lab w.heap.size = m at hB
  have B := Lib.hid hB
  have b0 := (hB.bc.cell 0).trans (show _ = some (.int .i64 11) from rfl)
  have b1 := (hB.bc.cell 1).trans (show _ = some (.int .i64 env) from rfl)
  have EV := Lib.hid (kenv_yes env he W)
  have HW := Lib.hid hW
  have b7 := (hB.bc.cell 7).trans (show _ = some (.slice Al l.length cl) from rfl)
  have CA := Lib.hid (submit_any hB.ka ok env he Al cl l (hl.new hB.below) lok (fun b o e => by have h1 := hal b o e; rw [hB.ml b h1.1]; exact h1.2) hc ml hf3)
  generalize (submitR K env l).1 = K2 at *
  generalize (submitR K env l).2.1 = n at *
  generalize (submitR K env l).2.2 = ev at *
  clear hl lok hal
  clear h hB hW n8 ok
  go_enter Tryz.func26, Tryz.ntmps26
  go_upto_region 1 with fail
  rw [show (w.alloc (.cells #[.int .i64 11, .int .i64 env, .int .i64 qa, .int .i64 qb, .int .i64 qc, .slice Ab s.length cb, .slice Ap p.length cp, .slice Al l.length cl] 80)).alloc (.cells #[.int .i64 0, .slice none 0 0] 75) = W from HW.out.symm]
  go_wp2_with fail
  refine EV.out.mono ?_; rintro e w1 ⟨rfl, hw1⟩; subst w1
  go_wp2_with fail
  refine CA.out.mono ?_; rintro e w5 ⟨rfl, m5, h5, l5⟩
  have H5 := Lib.hid h5
  have L5 := Lib.hid l5
  clear h5 l5
  have BA5 := Lib.hid (L5.out.blk8 B.out.ba (by rw [B.out.m2]; omega))
  have c5a := (BA5.out.cell 0).trans (show _ = some (.int .i64 0) from rfl)
  have f5a := BA5.out.frozen 0
  obtain ⟨W6, hW6⟩ : ∃ W6, W6 = (w5.setCell ⟨w.heap.size + 1, 0, none⟩ (.int .i64 n)) := ⟨_, rfl⟩
  have b6 : Blk W6 (w.heap.size + 1) 75 #[.int .i64 n, .slice none ([] : List UInt8).length 0] := by rw [hW6]; exact (BA5.out.put 0 (.int .i64 n))
  have k6 : Chg w5 W6 (fun i => i = w.heap.size + 1) := by rw [hW6]; exact Chg.set _ _ _ rfl
  have d0 := (b6.cell 0).trans (show _ = some (.int .i64 n) from rfl)
  have d1 := (b6.cell 1).trans (show _ = some (.slice none ([] : List UInt8).length 0) from rfl)
  have e0 := b6.frozen 0
  have e1 := b6.frozen 1
  have FIN := Lib.hid (finish (ev := ev) (s := ([] : List UInt8)) B.out H5.out L5.out k6 b6 (Src.nil _) (fun h => absurd h (by decide)))
  have HW6 := Lib.hid hW6
  clear b6 k6 hW6
  go_upto_region 33 with fail
  rw [show (w5.setCell ⟨w.heap.size + 1, 0, none⟩ (.int .i64 n)) = W6 from HW6.out.symm]
  go_wp2
  refine bodyPost_ret (v := .tuple #[.agg #[.int .i64 n, .slice none ([] : List UInt8).length 0], .int .i64 ev]) ?_ rfl ?_
  · exact results_cell_tmp Tryz.results26 _ _ (w.heap.size + 1) 75 _ (0, 0) _ rfl FIN.out.2 Tryz.underlying75 rfl ainfo
  · exact FIN.out.1

set_option maxRecDepth 100000 in
set_option maxHeartbeats 2000000 in
theorem call_13 (h : KAt w lab g K a) (n8 : ∀ k, lab k ≠ 8) (ok : K.Ok) (env : Int) (he : env = 1 ∨ env = 2) (qa qb qc : Int) (s : List UInt8) (p : List Ins) (l : List Pc) (Ab Ap Al : Option Addr) (cb cp cl : Nat) :
    Calls Tryz.prog 26 #[.pointer (some ⟨g, 0, none⟩), .agg #[.int .i64 13, .int .i64 env, .int .i64 qa, .int .i64 qb, .int .i64 qc, .slice Ab s.length cb, .slice Ap p.length cp, .slice Al l.length cl]] w (Called w lab g (K, (K.done : Int), [], 0)) := by
  have hB := boxed h n8 #[.int .i64 13, .int .i64 env, .int .i64 qa, .int .i64 qb, .int .i64 qc, .slice Ab s.length cb, .slice Ap p.length cp, .slice Al l.length cl]
  obtain ⟨W, hW⟩ : ∃ W, W = (w.alloc (.cells #[.int .i64 13, .int .i64 env, .int .i64 qa, .int .i64 qb, .int .i64 qc, .slice Ab s.length cb, .slice Ap p.length cp, .slice Al l.length cl] 80)).alloc (.cells #[.int .i64 0, .slice none 0 0] 75) := ⟨_, rfl⟩
  rw [← hW] at hB
  generalize mk2 lab w.heap.size = m at hB
  have B := Lib.hid hB
  have b0 := (hB.bc.cell 0).trans (show _ = some (.int .i64 13) from rfl)
  have b1 := (hB.bc.cell 1).trans (show _ = some (.int .i64 env) from rfl)
  have EV := Lib.hid (kenv_yes env he W)
  have HW := Lib.hid hW
  have cg := (hB.ka.head.cell 7).trans (show _ = some (.int .i64 (K.done : Int)) from rfl)
  have L5 := Lib.hid (LStep.news m (Below.refl _ W))
  have BA5 := Lib.hid hB.ba
  have c5a := (hB.ba.cell 0).trans (show _ = some (.int .i64 0) from rfl)
  have f5a := hB.ba.frozen 0
  obtain ⟨w5, hw5⟩ : ∃ w5, w5 = W := ⟨_, rfl⟩
  clear h hB hW n8 ok
  go_enter Tryz.func26, Tryz.ntmps26
  go_upto_region 1 with fail
  rw [show (w.alloc (.cells #[.int .i64 13, .int .i64 env, .int .i64 qa, .int .i64 qb, .int .i64 qc, .slice Ab s.length cb, .slice Ap p.length cp, .slice Al l.length cl] 80)).alloc (.cells #[.int .i64 0, .slice none 0 0] 75) = W from HW.out.symm]
  go_wp2_with fail
  refine EV.out.mono ?_; rintro e w1 ⟨rfl, hw1⟩; subst w1
  subst hw5
  obtain ⟨W6, hW6⟩ : ∃ W6, W6 = (w5.setCell ⟨w.heap.size + 1, 0, none⟩ (.int .i64 (K.done : Int))) := ⟨_, rfl⟩
  have b6 : Blk W6 (w.heap.size + 1) 75 #[.int .i64 (K.done : Int), .slice none ([] : List UInt8).length 0] := by rw [hW6]; exact (BA5.out.put 0 (.int .i64 (K.done : Int)))
  have k6 : Chg w5 W6 (fun i => i = w.heap.size + 1) := by rw [hW6]; exact Chg.set _ _ _ rfl
  have d0 := (b6.cell 0).trans (show _ = some (.int .i64 (K.done : Int)) from rfl)
  have d1 := (b6.cell 1).trans (show _ = some (.slice none ([] : List UInt8).length 0) from rfl)
  have e0 := b6.frozen 0
  have e1 := b6.frozen 1
  have FIN := Lib.hid (finish (ev := 0) (s := ([] : List UInt8)) B.out ⟨a, B.out.ka⟩ L5.out k6 b6 (Src.nil _) (fun h => absurd h (by decide)))
  have HW6 := Lib.hid hW6
  clear b6 k6 hW6
  go_upto_region 33 with fail
  rw [show (w5.setCell ⟨w.heap.size + 1, 0, none⟩ (.int .i64 (K.done : Int))) = W6 from HW6.out.symm]
  go_wp2
  refine bodyPost_ret (v := .tuple #[.agg #[.int .i64 (K.done : Int), .slice none ([] : List UInt8).length 0], .int .i64 0]) ?_ rfl ?_
  · exact results_cell_tmp Tryz.results26 _ _ (w.heap.size + 1) 75 _ (0, 0) _ rfl FIN.out.2 Tryz.underlying75 rfl ainfo
  · exact FIN.out.1
end
end Go.Proofs.YthnpalcjfgbjeaaGreat.Ke

/- Package kern: Call. Conditions: those that each states. -/
namespace Go.Proofs.YthnpalcjfgbjeaaGreat.Ke
open Go.ChangeShapes Go.WideShapes Go.ChangeAt Go.RowKit Go.Deep Fr Di
set_option linter.unusedVariables false
section
variable {w : World} {lab : Nat → Nat} {g : Nat} {K : Kn} {a : Ad}

set_option maxRecDepth 100000 in
set_option maxHeartbeats 2000000 in
theorem take_1 (h : KAt w lab g K a) (n8 : ∀ k, lab k ≠ 8) (ok : K.Ok) (qa qb qc : Int) (s : List UInt8) (p : List Ins) (l : List Pc) (Ab Ap Al : Option Addr) (cb cp cl : Nat) (pk : List UInt8) (r : List (List UInt8)) (hi : K.i1 = pk :: r) :
    Calls Tryz.prog 26 #[.pointer (some ⟨g, 0, none⟩), .agg #[.int .i64 12, .int .i64 1, .int .i64 qa, .int .i64 qb, .int .i64 qc, .slice Ab s.length cb, .slice Ap p.length cp, .slice Al l.length cl]] w (Called w lab g ({ K with i1 := r, f1 := K.f1 + 1 }, 0, pk, 0)) := by
  have hB := boxed h n8 #[.int .i64 12, .int .i64 1, .int .i64 qa, .int .i64 qb, .int .i64 qc, .slice Ab s.length cb, .slice Ap p.length cp, .slice Al l.length cl]
  obtain ⟨W, hW⟩ : ∃ W, W = (w.alloc (.cells #[.int .i64 12, .int .i64 1, .int .i64 qa, .int .i64 qb, .int .i64 qc, .slice Ab s.length cb, .slice Ap p.length cp, .slice Al l.length cl] 80)).alloc (.cells #[.int .i64 0, .slice none 0 0] 75) := ⟨_, rfl⟩
  rw [← hW] at hB
  generalize mk2 lab w.heap.size = m at hB
  have B := Lib.hid hB
  have b0 := (hB.bc.cell 0).trans (show _ = some (.int .i64 12) from rfl)
  have b1 := (hB.bc.cell 1).trans (show _ = some (.int .i64 1) from rfl)
  have EV := Lib.hid (kenv_yes 1 (by omega) W)
  have HW := Lib.hid hW
  have RG := Lib.hid (rings_1 hB.ka)
  have hp := hB.ka.p1
  rw [hi] at hp
  obtain ⟨v, x', hx, ⟨A5, c5, rfl, s5, o5⟩, hp2⟩ := hp.cons_inv
  have hr := hB.ka.r1
  rw [hx] at hr
  have CA := Lib.hid (RgP.take_ok a.a1 a.b1 16 K.f1 x' A5 pk.length c5 W hr)
  have S5 := Lib.hid s5
  have O5 := Lib.hid o5
  have P2 := Lib.hid hp2
  clear h ok hB hW n8 hi hp hx hr s5 o5 hp2
  go_enter Tryz.func26, Tryz.ntmps26
  go_upto_region 1 with fail
  rw [show (w.alloc (.cells #[.int .i64 12, .int .i64 1, .int .i64 qa, .int .i64 qb, .int .i64 qc, .slice Ab s.length cb, .slice Ap p.length cp, .slice Al l.length cl] 80)).alloc (.cells #[.int .i64 0, .slice none 0 0] 75) = W from HW.out.symm]
  go_wp2_with fail
  refine EV.out.mono ?_; rintro e w1 ⟨rfl, hw1⟩; subst w1
  go_wp2_with fail
  refine RG.out.mono ?_; rintro e w2 ⟨rfl, hw2⟩; subst w2
  go_wp2_with fail
  refine CA.out.mono ?_; rintro e w5 ⟨rfl, r5, k5⟩
  obtain ⟨h5, l5⟩ := B.out.ka.setRing1 (i' := r) k5 r5 P2.out
  have H5 := Lib.hid h5
  have L5 := Lib.hid l5
  have S6 := Lib.hid (Src.step S5.out l5.step O5.out)
  clear r5 k5 h5 l5
  have BA5 := Lib.hid (L5.out.blk8 B.out.ba (by rw [B.out.m2]; omega))
  have c5a := (BA5.out.cell 1).trans (show _ = some (.slice none 0 0) from rfl)
  have f5a := BA5.out.frozen 1
  obtain ⟨W6, hW6⟩ : ∃ W6, W6 = (w5.setCell ⟨w.heap.size + 1, 1, none⟩ (.slice A5 pk.length c5)) := ⟨_, rfl⟩
  have b6 : Blk W6 (w.heap.size + 1) 75 #[.int .i64 0, .slice A5 pk.length c5] := by rw [hW6]; exact (BA5.out.put 1 (.slice A5 pk.length c5))
  have k6 : Chg w5 W6 (fun i => i = w.heap.size + 1) := by rw [hW6]; exact Chg.set _ _ _ rfl
  have d0 := (b6.cell 0).trans (show _ = some (.int .i64 0) from rfl)
  have d1 := (b6.cell 1).trans (show _ = some (.slice A5 pk.length c5) from rfl)
  have e0 := b6.frozen 0
  have e1 := b6.frozen 1
  have FIN := Lib.hid (finish (ev := 0) (s := pk) B.out ⟨_, H5.out⟩ L5.out k6 b6 S6.out O5.out)
  have HW6 := Lib.hid hW6
  clear b6 k6 hW6
  go_upto_region 33 with fail
  rw [show (w5.setCell ⟨w.heap.size + 1, 1, none⟩ (.slice A5 pk.length c5)) = W6 from HW6.out.symm]
  go_wp2
  refine bodyPost_ret (v := .tuple #[.agg #[.int .i64 0, .slice A5 pk.length c5], .int .i64 0]) ?_ rfl ?_
  · exact results_cell_tmp Tryz.results26 _ _ (w.heap.size + 1) 75 _ (0, 0) _ rfl FIN.out.2 Tryz.underlying75 rfl ainfo
  · exact FIN.out.1

set_option maxRecDepth 100000 in
set_option maxHeartbeats 2000000 in
theorem take_1e (h : KAt w lab g K a) (n8 : ∀ k, lab k ≠ 8) (ok : K.Ok) (qa qb qc : Int) (s : List UInt8) (p : List Ins) (l : List Pc) (Ab Ap Al : Option Addr) (cb cp cl : Nat) (hi : K.i1 = []) :
    Calls Tryz.prog 26 #[.pointer (some ⟨g, 0, none⟩), .agg #[.int .i64 12, .int .i64 1, .int .i64 qa, .int .i64 qb, .int .i64 qc, .slice Ab s.length cb, .slice Ap p.length cp, .slice Al l.length cl]] w (Called w lab g (K, 0, [], 11)) := by
  have hB := boxed h n8 #[.int .i64 12, .int .i64 1, .int .i64 qa, .int .i64 qb, .int .i64 qc, .slice Ab s.length cb, .slice Ap p.length cp, .slice Al l.length cl]
  obtain ⟨W, hW⟩ : ∃ W, W = (w.alloc (.cells #[.int .i64 12, .int .i64 1, .int .i64 qa, .int .i64 qb, .int .i64 qc, .slice Ab s.length cb, .slice Ap p.length cp, .slice Al l.length cl] 80)).alloc (.cells #[.int .i64 0, .slice none 0 0] 75) := ⟨_, rfl⟩
  rw [← hW] at hB
  generalize mk2 lab w.heap.size = m at hB
  have B := Lib.hid hB
  have b0 := (hB.bc.cell 0).trans (show _ = some (.int .i64 12) from rfl)
  have b1 := (hB.bc.cell 1).trans (show _ = some (.int .i64 1) from rfl)
  have EV := Lib.hid (kenv_yes 1 (by omega) W)
  have HW := Lib.hid hW
  have RG := Lib.hid (rings_1 hB.ka)
  have hp := hB.ka.p1
  rw [hi] at hp
  have hx := hp.nil_inv
  have hr := hB.ka.r1
  rw [hx] at hr
  have CA := Lib.hid (RgP.take_empty a.a1 a.b1 16 K.f1 W hr)
  clear h ok hB hW n8 hi hp hx hr
  go_enter Tryz.func26, Tryz.ntmps26
  go_upto_region 1 with fail
  rw [show (w.alloc (.cells #[.int .i64 12, .int .i64 1, .int .i64 qa, .int .i64 qb, .int .i64 qc, .slice Ab s.length cb, .slice Ap p.length cp, .slice Al l.length cl] 80)).alloc (.cells #[.int .i64 0, .slice none 0 0] 75) = W from HW.out.symm]
  go_wp2_with fail
  refine EV.out.mono ?_; rintro e w1 ⟨rfl, hw1⟩; subst w1
  go_wp2_with fail
  refine RG.out.mono ?_; rintro e w2 ⟨rfl, hw2⟩; subst w2
  go_wp2_with fail
  refine CA.out.mono ?_; rintro e w5 ⟨rfl, hw5⟩
  have L5 := Lib.hid (show LStep W w5 m m from by rw [hw5]; exact LStep.news m (Below.refl _ W))
  have BA5 := Lib.hid (show Blk w5 (w.heap.size + 1) 75 #[.int .i64 0, .slice none 0 0] from by rw [hw5]; exact B.out.ba)
  have H5 := Lib.hid (show KAt w5 m g K a from by rw [hw5]; exact B.out.ka)
  have c5a := (BA5.out.cell 1).trans (show _ = some (.slice none 0 0) from rfl)
  have f5a := BA5.out.frozen 1
  clear hw5
  obtain ⟨W6, hW6⟩ : ∃ W6, W6 = (w5.setCell ⟨w.heap.size + 1, 1, none⟩ (.slice none 0 0)) := ⟨_, rfl⟩
  have b6 : Blk W6 (w.heap.size + 1) 75 #[.int .i64 0, .slice none ([] : List UInt8).length 0] := by rw [hW6]; exact (BA5.out.put 1 (.slice none 0 0))
  have k6 : Chg w5 W6 (fun i => i = w.heap.size + 1) := by rw [hW6]; exact Chg.set _ _ _ rfl
  have d0 := (b6.cell 0).trans (show _ = some (.int .i64 0) from rfl)
  have d1 := (b6.cell 1).trans (show _ = some (.slice none ([] : List UInt8).length 0) from rfl)
  have e0 := b6.frozen 0
  have e1 := b6.frozen 1
  have FIN := Lib.hid (finish (ev := 11) (s := ([] : List UInt8)) B.out ⟨_, H5.out⟩ L5.out k6 b6 (Src.nil _) (fun h => absurd h (by decide)))
  have HW6 := Lib.hid hW6
  clear b6 k6 hW6
  go_upto_region 33 with fail
  rw [show (w5.setCell ⟨w.heap.size + 1, 1, none⟩ (.slice none 0 0)) = W6 from HW6.out.symm]
  go_wp2
  refine bodyPost_ret (v := .tuple #[.agg #[.int .i64 0, .slice none ([] : List UInt8).length 0], .int .i64 11]) ?_ rfl ?_
  · exact results_cell_tmp Tryz.results26 _ _ (w.heap.size + 1) 75 _ (0, 0) _ rfl FIN.out.2 Tryz.underlying75 rfl ainfo
  · exact FIN.out.1

set_option maxRecDepth 100000 in
set_option maxHeartbeats 2000000 in
theorem take_2 (h : KAt w lab g K a) (n8 : ∀ k, lab k ≠ 8) (ok : K.Ok) (qa qb qc : Int) (s : List UInt8) (p : List Ins) (l : List Pc) (Ab Ap Al : Option Addr) (cb cp cl : Nat) (pk : List UInt8) (r : List (List UInt8)) (hi : K.i2 = pk :: r) :
    Calls Tryz.prog 26 #[.pointer (some ⟨g, 0, none⟩), .agg #[.int .i64 12, .int .i64 2, .int .i64 qa, .int .i64 qb, .int .i64 qc, .slice Ab s.length cb, .slice Ap p.length cp, .slice Al l.length cl]] w (Called w lab g ({ K with i2 := r, f2 := K.f2 + 1 }, 0, pk, 0)) := by
  have hB := boxed h n8 #[.int .i64 12, .int .i64 2, .int .i64 qa, .int .i64 qb, .int .i64 qc, .slice Ab s.length cb, .slice Ap p.length cp, .slice Al l.length cl]
  obtain ⟨W, hW⟩ : ∃ W, W = (w.alloc (.cells #[.int .i64 12, .int .i64 2, .int .i64 qa, .int .i64 qb, .int .i64 qc, .slice Ab s.length cb, .slice Ap p.length cp, .slice Al l.length cl] 80)).alloc (.cells #[.int .i64 0, .slice none 0 0] 75) := ⟨_, rfl⟩
  rw [← hW] at hB
  generalize mk2 lab w.heap.size = m at hB
  have B := Lib.hid hB
  have b0 := (hB.bc.cell 0).trans (show _ = some (.int .i64 12) from rfl)
  have b1 := (hB.bc.cell 1).trans (show _ = some (.int .i64 2) from rfl)
  have EV := Lib.hid (kenv_yes 2 (by omega) W)
  have HW := Lib.hid hW
  have RG := Lib.hid (rings_2 hB.ka)
  have hp := hB.ka.p2
  rw [hi] at hp
  obtain ⟨v, x', hx, ⟨A5, c5, rfl, s5, o5⟩, hp2⟩ := hp.cons_inv
  have hr := hB.ka.r2
  rw [hx] at hr
  have CA := Lib.hid (RgP.take_ok a.a2 a.b2 16 K.f2 x' A5 pk.length c5 W hr)
  have S5 := Lib.hid s5
  have O5 := Lib.hid o5
  have P2 := Lib.hid hp2
  clear h ok hB hW n8 hi hp hx hr s5 o5 hp2
  go_enter Tryz.func26, Tryz.ntmps26
  go_upto_region 1 with fail
  rw [show (w.alloc (.cells #[.int .i64 12, .int .i64 2, .int .i64 qa, .int .i64 qb, .int .i64 qc, .slice Ab s.length cb, .slice Ap p.length cp, .slice Al l.length cl] 80)).alloc (.cells #[.int .i64 0, .slice none 0 0] 75) = W from HW.out.symm]
  go_wp2_with fail
  refine EV.out.mono ?_; rintro e w1 ⟨rfl, hw1⟩; subst w1
  go_wp2_with fail
  refine RG.out.mono ?_; rintro e w2 ⟨rfl, hw2⟩; subst w2
  go_wp2_with fail
  refine CA.out.mono ?_; rintro e w5 ⟨rfl, r5, k5⟩
  obtain ⟨h5, l5⟩ := B.out.ka.setRing2 (i' := r) k5 r5 P2.out
  have H5 := Lib.hid h5
  have L5 := Lib.hid l5
  have S6 := Lib.hid (Src.step S5.out l5.step O5.out)
  clear r5 k5 h5 l5
  have BA5 := Lib.hid (L5.out.blk8 B.out.ba (by rw [B.out.m2]; omega))
  have c5a := (BA5.out.cell 1).trans (show _ = some (.slice none 0 0) from rfl)
  have f5a := BA5.out.frozen 1
  obtain ⟨W6, hW6⟩ : ∃ W6, W6 = (w5.setCell ⟨w.heap.size + 1, 1, none⟩ (.slice A5 pk.length c5)) := ⟨_, rfl⟩
  have b6 : Blk W6 (w.heap.size + 1) 75 #[.int .i64 0, .slice A5 pk.length c5] := by rw [hW6]; exact (BA5.out.put 1 (.slice A5 pk.length c5))
  have k6 : Chg w5 W6 (fun i => i = w.heap.size + 1) := by rw [hW6]; exact Chg.set _ _ _ rfl
  have d0 := (b6.cell 0).trans (show _ = some (.int .i64 0) from rfl)
  have d1 := (b6.cell 1).trans (show _ = some (.slice A5 pk.length c5) from rfl)
  have e0 := b6.frozen 0
  have e1 := b6.frozen 1
  have FIN := Lib.hid (finish (ev := 0) (s := pk) B.out ⟨_, H5.out⟩ L5.out k6 b6 S6.out O5.out)
  have HW6 := Lib.hid hW6
  clear b6 k6 hW6
  go_upto_region 33 with fail
  rw [show (w5.setCell ⟨w.heap.size + 1, 1, none⟩ (.slice A5 pk.length c5)) = W6 from HW6.out.symm]
  go_wp2
  refine bodyPost_ret (v := .tuple #[.agg #[.int .i64 0, .slice A5 pk.length c5], .int .i64 0]) ?_ rfl ?_
  · exact results_cell_tmp Tryz.results26 _ _ (w.heap.size + 1) 75 _ (0, 0) _ rfl FIN.out.2 Tryz.underlying75 rfl ainfo
  · exact FIN.out.1

set_option maxRecDepth 100000 in
set_option maxHeartbeats 2000000 in
theorem take_2e (h : KAt w lab g K a) (n8 : ∀ k, lab k ≠ 8) (ok : K.Ok) (qa qb qc : Int) (s : List UInt8) (p : List Ins) (l : List Pc) (Ab Ap Al : Option Addr) (cb cp cl : Nat) (hi : K.i2 = []) :
    Calls Tryz.prog 26 #[.pointer (some ⟨g, 0, none⟩), .agg #[.int .i64 12, .int .i64 2, .int .i64 qa, .int .i64 qb, .int .i64 qc, .slice Ab s.length cb, .slice Ap p.length cp, .slice Al l.length cl]] w (Called w lab g (K, 0, [], 11)) := by
  have hB := boxed h n8 #[.int .i64 12, .int .i64 2, .int .i64 qa, .int .i64 qb, .int .i64 qc, .slice Ab s.length cb, .slice Ap p.length cp, .slice Al l.length cl]
  obtain ⟨W, hW⟩ : ∃ W, W = (w.alloc (.cells #[.int .i64 12, .int .i64 2, .int .i64 qa, .int .i64 qb, .int .i64 qc, .slice Ab s.length cb, .slice Ap p.length cp, .slice Al l.length cl] 80)).alloc (.cells #[.int .i64 0, .slice none 0 0] 75) := ⟨_, rfl⟩
  rw [← hW] at hB
  generalize mk2 lab w.heap.size = m at hB
  have B := Lib.hid hB
  have b0 := (hB.bc.cell 0).trans (show _ = some (.int .i64 12) from rfl)
  have b1 := (hB.bc.cell 1).trans (show _ = some (.int .i64 2) from rfl)
  have EV := Lib.hid (kenv_yes 2 (by omega) W)
  have HW := Lib.hid hW
  have RG := Lib.hid (rings_2 hB.ka)
  have hp := hB.ka.p2
  rw [hi] at hp
  have hx := hp.nil_inv
  have hr := hB.ka.r2
  rw [hx] at hr
  have CA := Lib.hid (RgP.take_empty a.a2 a.b2 16 K.f2 W hr)
  clear h ok hB hW n8 hi hp hx hr
  go_enter Tryz.func26, Tryz.ntmps26
  go_upto_region 1 with fail
  rw [show (w.alloc (.cells #[.int .i64 12, .int .i64 2, .int .i64 qa, .int .i64 qb, .int .i64 qc, .slice Ab s.length cb, .slice Ap p.length cp, .slice Al l.length cl] 80)).alloc (.cells #[.int .i64 0, .slice none 0 0] 75) = W from HW.out.symm]
  go_wp2_with fail
  refine EV.out.mono ?_; rintro e w1 ⟨rfl, hw1⟩; subst w1
  go_wp2_with fail
  refine RG.out.mono ?_; rintro e w2 ⟨rfl, hw2⟩; subst w2
  go_wp2_with fail
  refine CA.out.mono ?_; rintro e w5 ⟨rfl, hw5⟩
  have L5 := Lib.hid (show LStep W w5 m m from by rw [hw5]; exact LStep.news m (Below.refl _ W))
  have BA5 := Lib.hid (show Blk w5 (w.heap.size + 1) 75 #[.int .i64 0, .slice none 0 0] from by rw [hw5]; exact B.out.ba)
  have H5 := Lib.hid (show KAt w5 m g K a from by rw [hw5]; exact B.out.ka)
  have c5a := (BA5.out.cell 1).trans (show _ = some (.slice none 0 0) from rfl)
  have f5a := BA5.out.frozen 1
  clear hw5
  obtain ⟨W6, hW6⟩ : ∃ W6, W6 = (w5.setCell ⟨w.heap.size + 1, 1, none⟩ (.slice none 0 0)) := ⟨_, rfl⟩
  have b6 : Blk W6 (w.heap.size + 1) 75 #[.int .i64 0, .slice none ([] : List UInt8).length 0] := by rw [hW6]; exact (BA5.out.put 1 (.slice none 0 0))
  have k6 : Chg w5 W6 (fun i => i = w.heap.size + 1) := by rw [hW6]; exact Chg.set _ _ _ rfl
  have d0 := (b6.cell 0).trans (show _ = some (.int .i64 0) from rfl)
  have d1 := (b6.cell 1).trans (show _ = some (.slice none ([] : List UInt8).length 0) from rfl)
  have e0 := b6.frozen 0
  have e1 := b6.frozen 1
  have FIN := Lib.hid (finish (ev := 11) (s := ([] : List UInt8)) B.out ⟨_, H5.out⟩ L5.out k6 b6 (Src.nil _) (fun h => absurd h (by decide)))
  have HW6 := Lib.hid hW6
  clear b6 k6 hW6
  go_upto_region 33 with fail
  rw [show (w5.setCell ⟨w.heap.size + 1, 1, none⟩ (.slice none 0 0)) = W6 from HW6.out.symm]
  go_wp2
  refine bodyPost_ret (v := .tuple #[.agg #[.int .i64 0, .slice none ([] : List UInt8).length 0], .int .i64 11]) ?_ rfl ?_
  · exact results_cell_tmp Tryz.results26 _ _ (w.heap.size + 1) 75 _ (0, 0) _ rfl FIN.out.2 Tryz.underlying75 rfl ainfo
  · exact FIN.out.1

set_option maxRecDepth 100000 in
set_option maxHeartbeats 2000000 in
theorem call_other (h : KAt w lab g K a) (n8 : ∀ k, lab k ≠ 8) (ok : K.Ok) (env : Int) (he : env = 1 ∨ env = 2) (qa qb qc : Int) (s : List UInt8) (p : List Ins) (l : List Pc) (Ab Ap Al : Option Addr) (cb cp cl : Nat) (op : Int) (ho : op < 1 ∨ 13 < op) :
    Calls Tryz.prog 26 #[.pointer (some ⟨g, 0, none⟩), .agg #[.int .i64 op, .int .i64 env, .int .i64 qa, .int .i64 qb, .int .i64 qc, .slice Ab s.length cb, .slice Ap p.length cp, .slice Al l.length cl]] w (Called w lab g (K, 0, [], 1)) := by
  have hB := boxed h n8 #[.int .i64 op, .int .i64 env, .int .i64 qa, .int .i64 qb, .int .i64 qc, .slice Ab s.length cb, .slice Ap p.length cp, .slice Al l.length cl]
  obtain ⟨W, hW⟩ : ∃ W, W = (w.alloc (.cells #[.int .i64 op, .int .i64 env, .int .i64 qa, .int .i64 qb, .int .i64 qc, .slice Ab s.length cb, .slice Ap p.length cp, .slice Al l.length cl] 80)).alloc (.cells #[.int .i64 0, .slice none 0 0] 75) := ⟨_, rfl⟩
  rw [← hW] at hB
  generalize mk2 lab w.heap.size = m at hB
  have B := Lib.hid hB
  have b0 := (hB.bc.cell 0).trans (show _ = some (.int .i64 op) from rfl)
  have b1 := (hB.bc.cell 1).trans (show _ = some (.int .i64 env) from rfl)
  have EV := Lib.hid (kenv_yes env he W)
  have HW := Lib.hid hW
  have L5 := Lib.hid (LStep.news m (Below.refl _ W))
  have BA5 := Lib.hid hB.ba
  obtain ⟨w5, hw5⟩ : ∃ w5, w5 = W := ⟨_, rfl⟩
  have ne1 : (op == 1) = false := by simpa using (show ¬ op = 1 by omega)
  have ne2 : (op == 2) = false := by simpa using (show ¬ op = 2 by omega)
  have ne3 : (op == 3) = false := by simpa using (show ¬ op = 3 by omega)
  have ne4 : (op == 4) = false := by simpa using (show ¬ op = 4 by omega)
  have ne5 : (op == 5) = false := by simpa using (show ¬ op = 5 by omega)
  have ne6 : (op == 6) = false := by simpa using (show ¬ op = 6 by omega)
  have ne7 : (op == 7) = false := by simpa using (show ¬ op = 7 by omega)
  have ne8 : (op == 8) = false := by simpa using (show ¬ op = 8 by omega)
  have ne9 : (op == 9) = false := by simpa using (show ¬ op = 9 by omega)
  have ne10 : (op == 10) = false := by simpa using (show ¬ op = 10 by omega)
  have ne11 : (op == 11) = false := by simpa using (show ¬ op = 11 by omega)
  have ne12 : (op == 12) = false := by simpa using (show ¬ op = 12 by omega)
  have ne13 : (op == 13) = false := by simpa using (show ¬ op = 13 by omega)
  clear h hB hW n8 ok ho
  go_enter Tryz.func26, Tryz.ntmps26
  go_upto_region 1 with fail
  rw [show (w.alloc (.cells #[.int .i64 op, .int .i64 env, .int .i64 qa, .int .i64 qb, .int .i64 qc, .slice Ab s.length cb, .slice Ap p.length cp, .slice Al l.length cl] 80)).alloc (.cells #[.int .i64 0, .slice none 0 0] 75) = W from HW.out.symm]
  go_wp2_with fail
  refine EV.out.mono ?_; rintro e w1 ⟨rfl, hw1⟩; subst w1
  subst hw5
  obtain ⟨W6, hW6⟩ : ∃ W6, W6 = w5 := ⟨_, rfl⟩
  have b6 : Blk W6 (w.heap.size + 1) 75 #[.int .i64 0, .slice none ([] : List UInt8).length 0] := by rw [hW6]; exact BA5.out
  have k6 : Chg w5 W6 (fun i => i = w.heap.size + 1) := by rw [hW6]; exact Chg.refl _ _
  have d0 := (b6.cell 0).trans (show _ = some (.int .i64 0) from rfl)
  have d1 := (b6.cell 1).trans (show _ = some (.slice none ([] : List UInt8).length 0) from rfl)
  have e0 := b6.frozen 0
  have e1 := b6.frozen 1
  have FIN := Lib.hid (finish (ev := 1) (s := ([] : List UInt8)) B.out ⟨a, B.out.ka⟩ L5.out k6 b6 (Src.nil _) (fun h => absurd h (by decide)))
  have HW6 := Lib.hid hW6
  clear b6 k6 hW6
  go_upto_region 33 with fail
  obtain rfl : W6 = w5 := HW6.out
  go_wp2
  refine bodyPost_ret (v := .tuple #[.agg #[.int .i64 0, .slice none ([] : List UInt8).length 0], .int .i64 1]) ?_ rfl ?_
  · exact results_cell_tmp Tryz.results26 _ _ (w.heap.size + 1) 75 _ (0, 0) _ rfl FIN.out.2 Tryz.underlying75 rfl ainfo
  · exact FIN.out.1

set_option maxRecDepth 100000 in
set_option maxHeartbeats 2000000 in
theorem call_noenv (h : KAt w lab g K a) (n8 : ∀ k, lab k ≠ 8) (op env : Int) (he : ¬ (env = 1 ∨ env = 2)) (qa qb qc : Int) (s : List UInt8) (p : List Ins) (l : List Pc) (Ab Ap Al : Option Addr) (cb cp cl : Nat) :
    Calls Tryz.prog 26 #[.pointer (some ⟨g, 0, none⟩), .agg #[.int .i64 op, .int .i64 env, .int .i64 qa, .int .i64 qb, .int .i64 qc, .slice Ab s.length cb, .slice Ap p.length cp, .slice Al l.length cl]] w (Called w lab g (K, 0, [], 1)) := by
  have hB := boxed h n8 #[.int .i64 op, .int .i64 env, .int .i64 qa, .int .i64 qb, .int .i64 qc, .slice Ab s.length cb, .slice Ap p.length cp, .slice Al l.length cl]
  obtain ⟨W, hW⟩ : ∃ W, W = (w.alloc (.cells #[.int .i64 op, .int .i64 env, .int .i64 qa, .int .i64 qb, .int .i64 qc, .slice Ab s.length cb, .slice Ap p.length cp, .slice Al l.length cl] 80)).alloc (.cells #[.int .i64 0, .slice none 0 0] 75) := ⟨_, rfl⟩
  rw [← hW] at hB
  generalize mk2 lab w.heap.size = m at hB
  have B := Lib.hid hB
  have b1 := (hB.bc.cell 1).trans (show _ = some (.int .i64 env) from rfl)
  have EV := Lib.hid (kenv_no env he W)
  have HW := Lib.hid hW
  have d0 := (hB.ba.cell 0).trans (show _ = some (.int .i64 0) from rfl)
  have d1 := (hB.ba.cell 1).trans (show _ = some (.slice none 0 0) from rfl)
  have e0 := hB.ba.frozen 0
  have e1 := hB.ba.frozen 1
  have FIN := Lib.hid (finish (ev := 1) (s := ([] : List UInt8)) hB ⟨a, hB.ka⟩ (LStep.news m (Below.refl _ W)) (Chg.refl W _) hB.ba (Src.nil _) (fun h => absurd h (by decide)))
  clear h hB hW n8 he
  go_enter Tryz.func26, Tryz.ntmps26
  go_upto_region 1 with fail
  rw [show (w.alloc (.cells #[.int .i64 op, .int .i64 env, .int .i64 qa, .int .i64 qb, .int .i64 qc, .slice Ab s.length cb, .slice Ap p.length cp, .slice Al l.length cl] 80)).alloc (.cells #[.int .i64 0, .slice none 0 0] 75) = W from HW.out.symm]
  go_wp2_with fail
  refine EV.out.mono ?_; rintro e w1 ⟨rfl, hw1⟩; subst w1
  go_wp2
  refine bodyPost_ret (v := .tuple #[.agg #[.int .i64 0, .slice none 0 0], .int .i64 1]) ?_ rfl ?_
  · exact results_cell_tmp Tryz.results26 _ _ (w.heap.size + 1) 75 _ (0, 0) _ rfl FIN.out.2 Tryz.underlying75 rfl ainfo
  · exact FIN.out.1

/-- Where the parts of a call lie. -/
structure KX where
  Ab : Option Addr
  cb : Nat
  Ap : Option Addr
  cp : Nat
  Al : Option Addr
  cl : Nat
def KQ.cells (q : KQ) (x : KX) : Array Value := #[.int .i64 q.op, .int .i64 q.env, .int .i64 q.a, .int .i64 q.b, .int .i64 q.c, .slice x.Ab q.s.length x.cb, .slice x.Ap q.p.length x.cp, .slice x.Al q.l.length x.cl]
structure KQ.In (w : World) (lab : Nat → Nat) (q : KQ) (x : KX) : Prop where
  wb : -9223372036854775808 ≤ q.b ∧ q.b ≤ 9223372036854775807
  hs : Src w x.Ab q.s.length x.cb q.s
  ab : ∀ b o, x.Ab = some ⟨b, o, none⟩ → b < w.heap.size ∧ lab b = 0
  hp : Prg w x.Ap q.p
  np : x.Ap = none → q.p = [] ∧ x.cp = 0
  mp : q.p.length ≤ 1000000
  pok : ∀ p ∈ q.p, p.Ok
  hl : Pcs w x.Al q.l
  lok : ∀ p ∈ q.l, p.Ok
  al : ∀ b o, x.Al = some ⟨b, o, none⟩ → b < w.heap.size ∧ lab b = 0
  cl : q.l.length ≤ x.cl
  ml : q.l.length ≤ 1000000
theorem call_any (h : KA w lab g K) (n8 : ∀ k, lab k ≠ 8) (ok : K.Ok) (n : Nat) (sm : K.Small n) (hn : n < 1000000) (q : KQ) (x : KX) (hq : q.In w lab x) :
    Calls Tryz.prog 26 #[.pointer (some ⟨g, 0, none⟩), .agg (q.cells x)] w (Called w lab g (callR K q)) := by
  obtain ⟨a, h⟩ := h
  have s1 := sm.next; have s2 := sm.out; have s3 := sm.line
  obtain ⟨op, env, qa, qb, qc, s, p, l⟩ := q
  obtain ⟨Ab, cb, Ap, cp, Al, cl⟩ := x
  obtain ⟨wb, hs, ab, hp, np, mp, pok, hl, lok, al, hcl, ml⟩ := hq
  unfold callR
  by_cases he : env = 1 ∨ env = 2
  · rw [if_neg (fun hne => hne he)]
    dsimp only
    by_cases c1 : op = 1
    · subst c1; rw [if_pos rfl]; exact call_1 h n8 ok env he qa qb qc s p l Ab Ap Al cb cp cl
    rw [if_neg c1]
    by_cases c2 : op = 2
    · subst c2; rw [if_pos rfl]; exact call_2 h n8 ok env he qa qb qc s p l Ab Ap Al cb cp cl
    rw [if_neg c2]
    by_cases c3 : op = 3
    · subst c3; rw [if_pos rfl]; exact call_3 h n8 ok env he qa qb qc s p l Ab Ap Al cb cp cl
    rw [if_neg c3]
    by_cases c4 : op = 4
    · subst c4; rw [if_pos rfl]; exact call_4 h n8 ok env he qa qb qc s p l Ab Ap Al cb cp cl wb
    rw [if_neg c4]
    by_cases c5 : op = 5
    · subst c5; rw [if_pos rfl]; exact call_5 h n8 ok env he qa qb qc s p l Ab Ap Al cb cp cl wb hs
    rw [if_neg c5]
    by_cases c6 : op = 6
    · subst c6; rw [if_pos rfl]; exact call_6 h n8 ok env he qa qb qc s p l Ab Ap Al cb cp cl
    rw [if_neg c6]
    by_cases c7 : op = 7
    · subst c7; rw [if_pos rfl]; exact call_7 h n8 ok env he qa qb qc s p l Ab Ap Al cb cp cl hs ab (by omega)
    rw [if_neg c7]
    by_cases c8 : op = 8
    · subst c8; rw [if_pos rfl]; exact call_8 h n8 ok env he qa qb qc s p l Ab Ap Al cb cp cl
    rw [if_neg c8]
    by_cases c9 : op = 9
    · subst c9; rw [if_pos rfl]; exact call_9 h n8 ok env he qa qb qc s p l Ab Ap Al cb cp cl hp np mp (by omega)
    rw [if_neg c9]
    by_cases c10 : op = 10
    · subst c10; rw [if_pos rfl]; exact call_10 h n8 ok env he qa qb qc s p l Ab Ap Al cb cp cl
    rw [if_neg c10]
    by_cases c11 : op = 11
    · subst c11; rw [if_pos rfl]; exact call_11 h n8 ok env he qa qb qc s p l Ab Ap Al cb cp cl hl lok al hcl ml (by omega)
    rw [if_neg c11]
    by_cases c12 : op = 12
    · subst c12
      rw [if_pos rfl]
      rcases he with rfl | rfl
      · cases hi : K.i1 with
        | nil =>
          have er : takeR K 1 = (K, [], 11) := by unfold takeR; rw [if_pos rfl, hi]
          rw [er]
          exact take_1e h n8 ok qa qb qc s p l Ab Ap Al cb cp cl hi
        | cons pk r =>
          have er : takeR K 1 = ({ K with i1 := r, f1 := K.f1 + 1 }, pk, 0) := by unfold takeR; rw [if_pos rfl, hi]
          rw [er]
          exact take_1 h n8 ok qa qb qc s p l Ab Ap Al cb cp cl pk r hi
      · cases hi : K.i2 with
        | nil =>
          have er : takeR K 2 = (K, [], 11) := by unfold takeR; rw [if_neg (by decide), hi]
          rw [er]
          exact take_2e h n8 ok qa qb qc s p l Ab Ap Al cb cp cl hi
        | cons pk r =>
          have er : takeR K 2 = ({ K with i2 := r, f2 := K.f2 + 1 }, pk, 0) := by unfold takeR; rw [if_neg (by decide), hi]
          rw [er]
          exact take_2 h n8 ok qa qb qc s p l Ab Ap Al cb cp cl pk r hi
    rw [if_neg c12]
    by_cases c13 : op = 13
    · subst c13; rw [if_pos rfl]; exact call_13 h n8 ok env he qa qb qc s p l Ab Ap Al cb cp cl
    rw [if_neg c13]
    exact call_other h n8 ok env he qa qb qc s p l Ab Ap Al cb cp cl op (by omega)
  · rw [if_pos he]
    exact call_noenv h n8 op env he qa qb qc s p l Ab Ap Al cb cp cl
end
end Go.Proofs.YthnpalcjfgbjeaaGreat.Ke
