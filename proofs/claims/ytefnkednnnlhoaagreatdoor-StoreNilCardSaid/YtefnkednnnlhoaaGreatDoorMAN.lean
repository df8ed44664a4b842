/- The reads of a frame and of a block: their bytes lie in blocks that were not there. Conditions: those that each states. -/
import Derived.Test.YtefnkednnnlhoaaGreatDoorKn3
namespace Go.Proofs.YtefnkednnnlhoaaGreatDoor.Ke
open Go.ChangeShapes Go.WideShapes Go.ChangeAt Go.RowKit Go.Deep
set_option linter.unusedVariables false
/-- Bytes that lie in blocks that were not there in W. -/
structure SrcF (W w : World) (A : Option Addr) (n c : Nat) (l : List UInt8) : Prop extends Src w A n c l where
  fresh : Fresh W A n
theorem SrcF.nil (W w : World) : SrcF W w none 0 0 [] := ⟨Src.nil w, fun h => absurd h (by decide)⟩
theorem SrcF.mono {W W' w : World} {A : Option Addr} {n c : Nat} {l : List UInt8} (h : SrcF W w A n c l) (k : W'.heap.size ≤ W.heap.size) : SrcF W' w A n c l := ⟨h.toSrc, fun h0 b o e => Nat.le_trans k (h.fresh h0 b o e)⟩
theorem clone_f (A : Addr) (n c : Nat) (l : List UInt8) (w : World) (hb : Src w (some A) n c l) (hn : n ≤ 1099511627776) :
    Calls Tryz.prog 103 #[.slice (some A) n c] w fun e w' => ∃ A' c', e = .returned (.slice A' n c') ∧ SrcF w w' A' n c' l ∧ Below w.heap.size w w' :=
  (clone_bytes (some A) n c l w hb hn).mono fun e w' ⟨A', c', he, h1, h2, h3⟩ => ⟨A', c', he, ⟨h1, h2⟩, h3⟩
namespace Rf
open Fr
section
variable {gs g : Nat} {ps : List Pg} {w : World}
set_option maxRecDepth 100000 in
theorem piece_yes (h : Tab w gs g ps) (k : Nat) (hk : k < ps.length) (o n : Nat) (hn : o + n ≤ 256) :
    Calls Tryz.prog 100 #[.pointer (some ⟨gs, k * 258, none⟩), .int .i64 (o : Int), .int .i64 (n : Int)] w fun e w' => ∃ A c, e = .returned (.tuple #[.slice A n c, .int .i64 0]) ∧ SrcF w w' A n c ((ps[k].text.drop o).take n) ∧ Below w.heap.size w w' := by
  have n2 := h.n2
  have WI := Lib.hid (within_yes o n ⟨by omega, by omega, by omega⟩ w)
  have hcut := run_cut2 ⟨gs, k * 258 + 2, none⟩ o n hn
  have CL := Lib.hid (clone_f _ _ _ _ w (cut_src h hk hn) (by omega))
  have x0 := IntWalk.i64_in ((o : Int) + (n : Int)) (by omega)
  generalize cutAt ⟨gs, k * 258 + 2, none⟩ o = ca at *
  clear h
  go_enter Tryz.func100, Tryz.ntmps100
  go_wp2_with fail
  refine WI.out.mono ?_; rintro e w1 ⟨rfl, rfl⟩
  go_wp2_with fail
  refine CL.out.mono ?_; rintro e w2 ⟨A', c', rfl, S2, b2⟩
  have HS2 := Lib.hid S2
  have B2 := Lib.hid b2
  clear S2 b2
  go_wp2
  go_ret2
  exact ⟨A', c', rfl, HS2.out, B2.out⟩
set_option maxRecDepth 100000 in
theorem read_any (h : Tab w gs g ps) (env f off n : Int) (wo : -9223372036854775808 ≤ off ∧ off ≤ 9223372036854775807) :
    Calls Tryz.prog 63 #[.pointer (some ⟨g, 0, none⟩), .int .i64 env, .int .i64 f, .int .i64 off, .int .i64 n] w fun e w' => ∃ A c, e = .returned (.tuple #[.slice A (Fr.readR ps env f off n).1.length c, .int .i64 (Fr.readR ps env f off n).2]) ∧ SrcF w w' A (Fr.readR ps env f off n).1.length c (Fr.readR ps env f off n).1 ∧ Below w.heap.size w w' := by
  by_cases he : ownErr ps env f = 0
  · obtain ⟨k, hk, rfl, hE, ho⟩ := ownErr_zero he
    have OW := Lib.hid (owned_ok h env k hk hE ho)
    by_cases hin : isIn off n
    · have er : Fr.readR ps env k off n = ((ps[k].text.drop off.toNat).take n.toNat, 0) := by unfold Fr.readR; rw [if_pos he, if_pos hin, pg_at hk]
      rw [er]
      obtain ⟨o, rfl⟩ : ∃ o : Nat, off = (o : Int) := ⟨off.toNat, by have := hin.1; omega⟩
      obtain ⟨m, rfl⟩ : ∃ m : Nat, n = (m : Int) := ⟨n.toNat, by have := hin.2.1; omega⟩
      have hfit : o + m ≤ 256 := by have := hin.2.2; omega
      simp only [Int.toNat_natCast]
      have htl := (h.at_ hk).t
      have hl : ((ps[k].text.drop o).take m).length = m := by simp [htl]; omega
      have PC := Lib.hid (Rf.piece_yes h k hk o m hfit)
      rw [hl]
      generalize (ps[k].text.drop o).take m = l at *
      clear h hE ho he er hin htl hl wo
      go_enter Tryz.func63, Tryz.ntmps63
      go_wp2_with fail
      refine OW.out.mono ?_; rintro e w1 ⟨rfl, rfl⟩
      go_wp2_with fail
      refine PC.out.mono ?_; rintro e w2 ⟨A', c', rfl, S2, b2⟩
      have HS2 := Lib.hid S2
      have B2 := Lib.hid b2
      clear S2 b2
      go_wp2
      go_ret2
      exact ⟨A', c', rfl, HS2.out, B2.out⟩
    · have er : Fr.readR ps env k off n = ([], 1) := by unfold Fr.readR; rw [if_pos he, if_neg hin]
      rw [er]
      have PC := Lib.hid (piece_no (w := w) (.pointer (some ⟨gs, k * 258, none⟩)) off n wo hin)
      clear h hE ho he er hin wo
      go_enter Tryz.func63, Tryz.ntmps63
      go_wp2_with fail
      refine OW.out.mono ?_; rintro e w1 ⟨rfl, rfl⟩
      go_wp2_with fail
      refine PC.out.mono ?_; rintro e w2 ⟨rfl, rfl⟩
      go_wp2
      go_ret2
      exact ⟨none, 0, rfl, SrcF.nil _ _, Below.refl _ _⟩
  · have er : Fr.readR ps env f off n = ([], ownErr ps env f) := by unfold Fr.readR; rw [if_neg he]
    rw [er]
    have OW := Lib.hid (owned_no h env f he)
    have hv : (ownErr ps env f == 0) = false := by simpa using he
    generalize ownErr ps env f = v at *
    clear h er he wo
    go_enter Tryz.func63, Tryz.ntmps63
    go_wp2_with fail
    refine OW.out.mono ?_; rintro e w1 ⟨rfl, rfl⟩
    go_wp2
    go_ret2
    exact ⟨none, 0, rfl, SrcF.nil _ _, Below.refl _ _⟩

end
end Rf
namespace Rd
open Di
def Told (w : World) (t : List UInt8) (e : Ending) (w' : World) : Prop := ∃ A c, e = .returned (.tuple #[.slice A t.length c, .int .i64 0]) ∧ SrcF w w' A t.length c t ∧ Below w.heap.size w w'
section
variable {gb g cl ce : Nat} {Al Ae : Option Addr} {d : Dk} {w : World} {F : Nat → Prop}
set_option maxRecDepth 100000 in
set_option maxHeartbeats 2000000 in
theorem read_yes (h : DskAt w gb g Al cl Ae ce d) (env : Int) (b : Nat) (hb : b < d.blocks.length) (he : askE d env b = 0) (t : List UInt8) (ht : t = see d b) :
    Calls Tryz.prog 65 #[.pointer (some ⟨g, 0, none⟩), .int .i64 env, .int .i64 (b : Int)] w (Rd.Told w t) := by
  have AS := Lib.hid (asked_any h env b)
  rw [he] at AS
  have H := Lib.hid h
  have T := Lib.hid ht
  have n2 := h.ok.n2
  have hL : d.line.length ≤ 9223372036854775807 := by have := h.line.capMax; unfold maxLen at this; omega
  have hgl := h.head.lt
  have b0 : (0 : Int) ≤ (b : Int) := by omega
  have b3 : (b : Int) < (d.blocks.length : Int) := by omega
  clear h he ht
  go_enter Tryz.func65, Tryz.ntmps65
  go_wp2_with fail
  refine AS.out.mono ?_; rintro e w1 ⟨rfl, b1⟩
  have D1 := Lib.hid (H.out.new b1)
  have B1 := Lib.hid b1
  have hw1 : w.heap.size ≤ w1.heap.size := b1.size
  obtain ⟨c0, c1, _, _, _⟩ := heads D1.out
  have xL := IntWalk.i64_in ((d.line.length : Int) - 1) (by omega)
  clear b1 AS
  go_wp2
  go_loopw [9] (fun i wr => ∃ (j : Nat), j ≤ d.line.length ∧ i = .int .i64 ((j : Int) - 1) ∧ Hid (∀ k (hk : k < d.line.length), j ≤ k → d.line[k].block ≠ b) ∧ wr = w1) (fun i _ => (intOf i + 1).toNat)
  case atStart => exact ⟨d.line.length, Nat.le_refl _, rfl, Lib.hid (fun k hk h => absurd h (by omega)), rfl⟩
  case round =>
    obtain ⟨j, hj, hi, NO, rfl⟩ := hrel
    cases j with
    | zero =>
      have hi' := hi.trans (show (Value.int .i64 (((0 : Nat) : Int) - 1)) = .int .i64 (-1) from rfl)
      clear hi
      subst hi'
      have CL := Lib.hid (clone_f _ _ _ _ wr (block_src D1.out hb) (by omega))
      have hcut := run_cut gb (b * 256)
      have HS := Lib.hid (show t = d.blocks[b] from T.out.trans (by
        unfold see
        rw [seen_none (fun q hq => by
          obtain ⟨k, hk, rfl⟩ := List.mem_iff_getElem.1 hq
          exact NO.out k hk (Nat.zero_le _))]
        simp [hb]))
      have HL := Lib.hid (D1.out.ok.bl _ (List.getElem_mem hb))
      clear NO
      generalize d.blocks[b] = tb at *
      go_wp2_with fail
      refine CL.out.mono ?_; rintro e w2 ⟨A', c', rfl, s2, b2⟩
      have S2 := Lib.hid (s2.mono hw1)
      have B2 := Lib.hid (B1.out.trans (b2.mono hw1))
      clear s2 b2
      go_wp2
      go_ret2
      refine ⟨A', c', ?_, ?_, B2.out⟩
      · rw [HS.out, HL.out]; rfl
      · rw [HS.out, HL.out]; exact S2.out
    | succ k =>
      have hi' := hi.trans (show (Value.int .i64 (((k + 1 : Nat) : Int) - 1)) = .int .i64 (k : Int) by congr 1; omega)
      clear hi
      subst hi'
      have hk : k < d.line.length := by omega
      have k0 : (k : Int) ≥ 0 := by omega
      have k0' : (0 : Int) ≤ (k : Int) := by omega
      have k1 : (k : Int) < (d.line.length : Int) := by omega
      have xk := IntWalk.i64_in ((k : Int) - 1) (by omega)
      obtain ⟨l, rfl, hl, cb, hr, hsrc⟩ := wr_parts D1.out hk
      by_cases hh : d.line[k].block = b
      · have CL := Lib.hid (clone_f _ _ _ _ wr hsrc (by omega))
        have hcut := run_cut l (k * 257 + 1)
        have HS := Lib.hid (show t = d.line[k].text from T.out.trans (by
          unfold see
          exact seen_last hk hh (fun j hj hlt => NO.out j hj (by omega)) _))
        have HL := Lib.hid (D1.out.ok.li _ (List.getElem_mem hk)).2
        rw [hh] at cb
        clear NO hr hsrc hh
        generalize d.line[k].text = tb at *
        go_wp2_with fail
        refine CL.out.mono ?_; rintro e w2 ⟨A', c', rfl, s2, b2⟩
        have S2 := Lib.hid (s2.mono hw1)
        have B2 := Lib.hid (B1.out.trans (b2.mono hw1))
        clear s2 b2
        go_wp2
        go_ret2
        refine ⟨A', c', ?_, ?_, B2.out⟩
        · rw [HS.out, HL.out]; rfl
        · rw [HS.out, HL.out]; exact S2.out
      · have NO2 : Hid (∀ k' (hk : k' < d.line.length), k ≤ k' → d.line[k'].block ≠ b) := Lib.hid (fun k' hk h => by
          by_cases e : k' = k
          · subst e; exact hh
          · exact NO.out k' hk (by omega))
        have hh' : ((d.line[k].block : Int) == (b : Int)) = false := beq_eq_false_iff_ne.2 (by omega)
        clear NO hr hsrc hh
        generalize (d.line[k].block : Int) = q at *
        go_wp2
        go_roundw
        case rel => exact ⟨k, by omega, rfl, NO2, by first | rfl | trivial⟩
        case measure => simp [intOf]
theorem read_any (h : DA w F g d) (env block : Int) :
    Calls Tryz.prog 65 #[.pointer (some ⟨g, 0, none⟩), .int .i64 env, .int .i64 block] w fun e w' => ∃ A c, e = .returned (.tuple #[.slice A (readR d env block).1.length c, .int .i64 (readR d env block).2]) ∧ SrcF w w' A (readR d env block).1.length c (readR d env block).1 ∧ Below w.heap.size w w' := by
  obtain ⟨gb, Al, cl, Ae, ce, D, hF⟩ := h
  unfold readR
  by_cases he : askE d env block = 0
  · rw [if_pos he]
    obtain ⟨_, b, rfl, hb, _⟩ := askE_zero he
    exact (Rd.read_yes D env b hb he _ rfl).mono fun e w' h => h
  · rw [if_neg he]
    refine (read_no D env block he).mono ?_
    rintro e w' ⟨rfl, b⟩
    exact ⟨none, 0, rfl, SrcF.nil _ _, b⟩
end
end Rd
end Go.Proofs.YtefnkednnnlhoaaGreatDoor.Ke

/- A kernel in memory beside blocks that a call makes for itself. Conditions: those that each states. -/
namespace Go.Proofs.YtefnkednnnlhoaaGreatDoor.Ke
open Go.ChangeShapes Go.WideShapes Go.ChangeAt Go.RowKit Go.Deep Fr Di
set_option linter.unusedVariables false
section
variable {w w' W : World} {lab m : Nat → Nat} {g : Nat} {K K' : Kn} {a : Ad}
/-- Blocks that are new are labelled 8, as no part's. -/
theorem KAt.mark (h : KAt w lab g K a) (k : Below w.heap.size w W) (hm : ∀ i, i < w.heap.size → m i = lab i) (hn : ∀ i, w.heap.size ≤ i → m i = 0 ∨ (m i = 8 ∧ i < W.heap.size)) : KAt W m g K a := by
  have hs : Step w W (on lab) (on m) := ⟨Chg.of_new k _, fun i hi => by
    by_cases c : i < w.heap.size
    · left; show lab i ≠ 0; rw [← hm i c]; exact hi
    · right; omega⟩
  have far : ∀ i n, lab i = n → n ≠ 0 → m i = n := fun i n e h0 => (hm i (h.all i (by omega))).trans e
  refine ⟨h.head.older (older_below k), h.tab.new k, da_iff (h.dk.new k) (fun i => ?_), RowW.new h.row k, h.fil.weak (fun _ _ _ h => h.step hs), h.r1.new k, h.p1.weak (fun _ _ _ h => h.step hs), h.r2.new k, h.p2.weak (fun _ _ _ h => h.step hs), h.r3.new k, h.p3.weak (fun _ _ _ h => h.step hs),
    far _ _ h.lg (by omega), far _ _ h.lt1 (by omega), far _ _ h.lt2 (by omega), fun b hb => far _ _ (h.lr b hb) (by omega), far _ _ h.l11 (by omega), far _ _ h.l12 (by omega), far _ _ h.l21 (by omega), far _ _ h.l22 (by omega), far _ _ h.l31 (by omega), far _ _ h.l32 (by omega), fun i hi => ?_⟩
  · constructor
    · intro e; exact far i 3 e (by omega)
    · intro e
      have e' : m i = 3 := e
      by_cases c : i < w.heap.size
      · show lab i = 3; rw [← hm i c]; exact e'
      · rcases hn i (by omega) with h1 | h1 <;> omega
  · by_cases c : i < w.heap.size
    · exact Nat.lt_of_lt_of_le c k.size
    · rcases hn i (by omega) with h1 | h1
      · exact absurd h1 hi
      · exact h1.2
/-- Label 8 is taken off again. -/
def off8 (lab : Nat → Nat) : Nat → Nat := fun k => if lab k = 8 then 0 else lab k
theorem off8_on {k : Nat} (h : on (off8 lab) k) : on lab k := by
  intro e
  have h' : off8 lab k ≠ 0 := h
  unfold off8 at h'
  rw [e] at h'
  exact h' rfl
theorem off8_eq {k n : Nat} (h : lab k = n) (hn : n ≠ 8) : off8 lab k = n := by unfold off8; rw [if_neg (by omega)]; exact h
theorem off8_ne (lab : Nat → Nat) (k : Nat) : off8 lab k ≠ 8 := by unfold off8; split <;> omega
theorem KAt.unmark (h : KAt w lab g K a) : KAt w (off8 lab) g K a := by
  have hs : Step w w (on lab) (on (off8 lab)) := ⟨Chg.refl _ _, fun i hi => .inl (off8_on hi)⟩
  refine ⟨h.head, h.tab, da_iff h.dk (fun i => ?_), h.row, h.fil.weak (fun _ _ _ h => h.step hs), h.r1, h.p1.weak (fun _ _ _ h => h.step hs), h.r2, h.p2.weak (fun _ _ _ h => h.step hs), h.r3, h.p3.weak (fun _ _ _ h => h.step hs),
    off8_eq h.lg (by omega), off8_eq h.lt1 (by omega), off8_eq h.lt2 (by omega), fun b hb => off8_eq (h.lr b hb) (by omega), off8_eq h.l11 (by omega), off8_eq h.l12 (by omega), off8_eq h.l21 (by omega), off8_eq h.l22 (by omega), off8_eq h.l31 (by omega), off8_eq h.l32 (by omega), fun i hi => h.all i (off8_on hi)⟩
  constructor
  · intro e; exact off8_eq e (by omega)
  · intro e
    have e' : off8 lab i = 3 := e
    unfold off8 at e'
    split at e'
    · omega
    · exact e'
/-- Blocks that are no part's have turned, labelled 8. -/
theorem KAt.far8 (h : KAt w lab g K a) (k : Chg w w' (fun i => lab i = 8)) : KAt w' lab g K a := by
  obtain ⟨q1, q2, q3, q4, q5, q6, q7, q8, q9, q10, q11, q12⟩ := h.keep (m := 8) k (by omega)
  exact ⟨q1 (by omega), q2 (by omega), q3 (by omega), q4 (by omega), q8, q5 (by omega), q9, q6 (by omega), q10, q7 (by omega), q11, h.lg, h.lt1, h.lt2, h.lr, h.l11, h.l12, h.l21, h.l22, h.l31, h.l32, fun i hi => Nat.lt_of_lt_of_le (h.all i hi) k.size⟩
theorem LStep.blk8 {lab' : Nat → Nat} (L : LStep w w' lab lab') {i : Nat} {t : TypeId} {cs : Array Value} (hb : Blk w i t cs) (h8 : 8 ≤ lab i) : Blk w' i t cs := hb.chg L.chg (fun h => by omega)

/-- A call's own two blocks: what it was asked, and its answer. -/
structure Bx (w W : World) (lab m : Nat → Nat) (g : Nat) (K : Kn) (a : Ad) (cs : Array Value) : Prop where
  below : Below w.heap.size w W
  size : W.heap.size = w.heap.size + 2
  ka : KAt W m g K a
  bc : Blk W w.heap.size 110 cs
  ba : Blk W (w.heap.size + 1) 104 #[.int .i64 0, .slice none 0 0]
  m1 : m w.heap.size = 8
  m2 : m (w.heap.size + 1) = 8
  ml : ∀ i, i < w.heap.size → m i = lab i
  n8 : ∀ k, lab k ≠ 8
  la : ∀ k, lab k ≠ 0 → k < w.heap.size
def mk2 (lab : Nat → Nat) (H : Nat) : Nat → Nat := fun k => if k = H ∨ k = H + 1 then 8 else if k < H then lab k else 0
theorem boxed (h : KAt w lab g K a) (n8 : ∀ k, lab k ≠ 8) (cs : Array Value) : Bx w ((w.alloc (.cells cs 110)).alloc (.cells #[.int .i64 0, .slice none 0 0] 104)) lab (mk2 lab w.heap.size) g K a cs := by
  have kb : Below w.heap.size w ((w.alloc (.cells cs 110)).alloc (.cells #[.int .i64 0, .slice none 0 0] 104)) := ((Below.refl _ w).alloc (Nat.le_refl _) _).alloc (by simp) _
  have hml : ∀ i, i < w.heap.size → mk2 lab w.heap.size i = lab i := fun i hi => by unfold mk2; rw [if_neg (by omega), if_pos hi]
  refine ⟨kb, by simp, h.mark kb hml (fun i hi => ?_), (Blk.new w _ _).alloc _, ?_, by unfold mk2; rw [if_pos (.inl rfl)], by unfold mk2; rw [if_pos (.inr rfl)], hml, n8, h.all⟩
  · unfold mk2
    by_cases c : i = w.heap.size ∨ i = w.heap.size + 1
    · rw [if_pos c]; right; simp; omega
    · rw [if_neg c, if_neg (by omega)]; exact .inl rfl
  · have := Blk.new (w.alloc (.cells cs 110)) 104 #[.int .i64 0, .slice none 0 0]
    simpa using this

/-- What a call answers and leaves. -/
def Called (w : World) (lab : Nat → Nat) (g : Nat) (r : Kn × Int × List UInt8 × Int) (e : Ending) (w' : World) : Prop :=
  ∃ A c, e = .returned (.tuple #[.agg #[.int .i64 r.2.1, .slice A r.2.2.1.length c], .int .i64 r.2.2.2]) ∧
    ∃ lab', KA w' lab' g r.1 ∧ LStep w w' lab lab' ∧ (∀ k, lab' k ≠ 8) ∧ Src w' A r.2.2.1.length c r.2.2.1 ∧ Off (on lab') A r.2.2.1.length
theorem finish {m1 : Nat → Nat} {cs : Array Value} (B : Bx w W lab m g K a cs) {w5 w6 : World} (k5 : KA w5 m1 g K') (L : LStep W w5 m m1) (k6 : Chg w5 w6 (fun i => i = w.heap.size + 1)) {n ev : Int} {A : Option Addr} {c : Nat} {s : List UInt8}
    (b6 : Blk w6 (w.heap.size + 1) 104 #[.int .i64 n, .slice A s.length c]) (hs : Src w5 A s.length c s) (ho : Off (on m1) A s.length) :
    Called w lab g (K', n, s, ev) (.returned (.tuple #[.agg #[.int .i64 n, .slice A s.length c], .int .i64 ev])) ((w6.setCell ⟨w.heap.size + 1, 0, none⟩ (.int .i64 n)).setCell ⟨w.heap.size + 1, 1, none⟩ (.slice A s.length c)) ∧
      Blk ((w6.setCell ⟨w.heap.size + 1, 0, none⟩ (.int .i64 n)).setCell ⟨w.heap.size + 1, 1, none⟩ (.slice A s.length c)) (w.heap.size + 1) 104 #[.int .i64 n, .slice A s.length c] := by
  obtain ⟨wF, hF⟩ : ∃ wF, wF = (w6.setCell ⟨w.heap.size + 1, 0, none⟩ (.int .i64 n)).setCell ⟨w.heap.size + 1, 1, none⟩ (.slice A s.length c) := ⟨_, rfl⟩
  have hbF : Blk wF (w.heap.size + 1) 104 #[.int .i64 n, .slice A s.length c] := by rw [hF]; exact (b6.put 0 _).put 1 _
  have kF : Chg w5 wF (fun i => i = w.heap.size + 1) := by
    rw [hF]
    exact k6.trans (Chg.trans (w' := w6.setCell ⟨w.heap.size + 1, 0, none⟩ (.int .i64 n)) (Chg.set _ _ _ rfl) (Chg.set _ _ _ rfl))
  rw [← hF]
  have e8 : m1 (w.heap.size + 1) = 8 := by rw [L.keep _ (by rw [B.m2]; omega)]; exact B.m2
  have kF8 : Chg w5 wF (fun i => m1 i = 8) := kF.weak fun i (hi : i = w.heap.size + 1) => by show m1 i = 8; rw [hi]; exact e8
  have HDF : ∀ i, lab i = 1 → i < w.heap.size → wF.cell? ⟨i, 0, none⟩ = w.cell? ⟨i, 0, none⟩ ∧ off8 m1 i = 1 := fun i hi hl => by
    obtain ⟨e1, e2⟩ := L.hd i (by rw [B.ml i hl]; exact hi) (Nat.lt_of_lt_of_le hl B.below.size)
    refine ⟨?_, off8_eq e2 (by omega)⟩
    rw [World.cell?_of_block (w := w5) (w' := wF) (a := ⟨i, 0, none⟩) (kF.block i (Nat.lt_of_lt_of_le hl (Nat.le_trans B.below.size L.chg.size)) (by show ¬ i = w.heap.size + 1; omega)), e1]
    exact World.cell?_of_block (B.below.block i hl)
  obtain ⟨a5, ka5⟩ := k5
  refine ⟨⟨A, c, rfl, off8 m1, ⟨a5, (ka5.far8 kF8).unmark⟩, ⟨⟨kF.os.trans (L.chg.os.trans B.below.os), kF.tape.trans (L.chg.tape.trans B.below.tape), kF.output.trans (L.chg.output.trans B.below.output), Nat.le_trans (Nat.le_trans B.below.size L.chg.size) kF.size, fun i hi hn => ?_⟩, fun k hk => ?_, fun k hk => ?_, HDF⟩, off8_ne m1, ?_, ?_⟩, hbF⟩
  · have hmi := B.ml i hi
    refine (kF.block i (Nat.lt_of_lt_of_le hi (Nat.le_trans B.below.size L.chg.size)) (by show ¬ i = w.heap.size + 1; omega)).trans ((L.chg.block i (Nat.lt_of_lt_of_le hi B.below.size) (by rw [hmi]; exact hn)).trans (B.below.block i hi))
  · by_cases c1 : k < w.heap.size
    · left
      rcases L.old k (off8_on hk) with h1 | h1
      · rw [← B.ml k c1]; exact h1
      · have := B.size; omega
    · right; omega
  · have hk2 : k < w.heap.size ∨ w.heap.size ≤ k := by omega
    have h9 := B.n8 k
    by_cases c1 : k < w.heap.size
    · have e1 : m1 k = lab k := by rw [L.keep k (by rw [B.ml k c1]; exact hk), B.ml k c1]
      exact off8_eq e1 h9
    · exact absurd (B.la k (by omega)) c1
  · refine ⟨⟨fun hp => ?_, hs.len, hs.cap, hs.max⟩, hs.none_⟩
    obtain ⟨b, o, e, hb, hc⟩ := hs.lies hp
    have h0 : 0 < s.length := by rw [bys_length] at hp; exact hp
    have hne : b ≠ w.heap.size + 1 := fun e1 => ho h0 b o e (by show m1 b ≠ 0; rw [e1, e8]; omega)
    refine ⟨b, o, e, Nat.lt_of_lt_of_le hb kF.size, fun j hj => ?_⟩
    rw [World.cell?_of_block (w := w5) (w' := wF) (a := ⟨b, o + j, none⟩) (kF.block b hb hne)]
    exact hc j hj
  · exact fun h0 b o e hf => ho h0 b o e (off8_on hf)
end
end Go.Proofs.YtefnkednnnlhoaaGreatDoor.Ke
