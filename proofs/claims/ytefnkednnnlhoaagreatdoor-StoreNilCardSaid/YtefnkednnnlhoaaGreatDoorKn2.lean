/- Package kern: New, packetsOf, Table, Disk, Owned. Conditions: those that each states. -/
import Derived.Test.YtefnkednnnlhoaaGreatDoorMAM
namespace Go.Proofs.YtefnkednnnlhoaaGreatDoor.Ke
open Go.ChangeShapes Go.WideShapes Go.ChangeAt Go.RowKit Go.Deep Fr Di
set_option linter.unusedVariables false

def newK (n b : Nat) : Kn := ⟨List.replicate n .blank, granted (granted (newD b) 1 0 (b - b / 4)) 2 (b - b / 4) (b / 4), [], 0, [], 0, [], 0, [], 0, 0⟩
theorem own_newD (n b : Nat) : (newD n).own b = 0 := by
  unfold Dk.own newD
  simp only [List.getD_eq_getElem?_getD, List.getElem?_replicate]
  split <;> rfl
theorem grant1 (b f : Nat) (h1 : 1 ≤ f) (h2 : f ≤ b) (h3 : b ≤ 512) : grantR (newD b) 1 0 (f : Int) = (granted (newD b) 1 0 f, 0) := by
  unfold grantR
  have hb : (newD b).blocks.length = b := by simp [newD]
  have hn : ¬ noGrant (newD b) 1 0 (f : Int) := by unfold noGrant; rw [hb]; omega
  have hbusy : busy (newD b) 0 f = false := busy_of (fun k _ _ => own_newD b k)
  rw [if_neg hn, Int.toNat_natCast]
  show (if busy (newD b) 0 f = true then _ else _) = _
  rw [hbusy]; rfl
theorem grant2 (b f s : Nat) (h0 : f + s = b) (h1 : 1 ≤ f) (h2 : 1 ≤ s) (h3 : b ≤ 512) : grantR (granted (newD b) 1 0 f) 2 (f : Int) (s : Int) = (granted (granted (newD b) 1 0 f) 2 f s, 0) := by
  unfold grantR
  have hb : (granted (newD b) 1 0 f).blocks.length = b := by simp [granted, newD]
  have hn : ¬ noGrant (granted (newD b) 1 0 f) 2 (f : Int) (s : Int) := by unfold noGrant; rw [hb]; omega
  have hbusy : busy (granted (newD b) 1 0 f) f s = false := busy_of (fun k h4 h5 => by
    show (lent (newD b).owners 0 f 1).getD k 0 = 0
    rw [lent_get (by simp [newD]; omega), if_neg (by omega)]
    exact own_newD b k)
  rw [if_neg hn, Int.toNat_natCast, Int.toNat_natCast, hbusy]; rfl
theorem newK_ok {n b : Nat} (h1 : 1 ≤ n) (h2 : n ≤ 256) (h3 : 4 ≤ b) (h4 : b ≤ 512) : (newK n b).Ok := by
  have hs : (newD b).blocks.length = b := by simp [newD]
  refine ⟨by show (0 : Nat) ≤ 8; omega, fun f hf => (by cases hf), by show (0 : Nat) ≤ 16; omega, by show (0 : Nat) ≤ 16; omega, by show (0 : Nat) ≤ 16; omega, fun f hf => (by cases hf), fun f hf => (by cases hf), fun f hf => (by cases hf), fun k hk => ?_, rfl, rfl, fun p hp => ?_, ?_, rfl⟩
  · have hk' : k < (List.replicate n Pg.blank).length := hk
    show ((List.replicate n Pg.blank)[k]'hk').holds = 0
    rw [List.getElem_replicate]; rfl
  · rw [(List.mem_replicate.1 hp).2]; exact Pg.blank_ok
  · have hb1 : busy (newD b) 0 (b - b / 4) = false := busy_of (fun k _ _ => own_newD b k)
    have o1 := (newD_ok (n := b) (by omega) h4).granted (e := 1) (f := 0) (n := b - b / 4) (by omega) (by omega) (by rw [hs]; omega) hb1
    refine o1.granted (e := 2) (by omega) (by omega) (by show _ ≤ (newD b).blocks.length; rw [hs]; omega) (busy_of (fun k h4 h5 => ?_))
    show (lent (newD b).owners 0 (b - b / 4) 1).getD k 0 = 0
    rw [lent_get (by simp [newD]), if_neg (by omega)]
    exact own_newD b k

/-- A kernel as New leaves it. -/
theorem made_ka {w5 w8 : World} {H gd n : Nat} {d : Dk} {F : Nat → Prop} (hT : Fr.Tab w5 H (H + 1) (List.replicate n .blank)) (hD : DA w5 F gd d) (hF : ∀ k, F k → H + 2 ≤ k) (hz : H + 2 ≤ w5.heap.size) (R : Rings (w5.alloc (.cells #[.pointer (some ⟨H + 1, 0, none⟩), .pointer (some ⟨gd, 0, none⟩), .slice none 0 0, .int .i64 0, .pointer none, .pointer none, .pointer none, .int .i64 0] 91)) w5.heap.size (H + 1) gd w8) :
    ∃ lab, KA w8 lab w5.heap.size ⟨List.replicate n .blank, d, [], 0, [], 0, [], 0, [], 0, 0⟩ ∧ ∀ k, lab k ≠ 0 → H ≤ k := by
  obtain ⟨L, hL⟩ : ∃ L : Nat → Nat, ∀ k, L k = if k < H then 0 else if k < H + 2 then 2 else if k < w5.heap.size then (@ite _ (F k) (Classical.propDecidable _) 3 0) else if k = w5.heap.size then 1 else if k < w5.heap.size + 3 then 5 else if k < w5.heap.size + 5 then 6 else if k < w5.heap.size + 7 then 7 else 0 := ⟨_, fun k => rfl⟩
  have kb : Below w5.heap.size w5 (w5.alloc (.cells #[.pointer (some ⟨H + 1, 0, none⟩), .pointer (some ⟨gd, 0, none⟩), .slice none 0 0, .int .i64 0, .pointer none, .pointer none, .pointer none, .int .i64 0] 91)) := (Below.refl _ w5).alloc (Nat.le_refl _) _
  have r1 := R.r1; have r2 := R.r2; have r3 := R.r3; have hd := R.head; have sz := R.size; have ck := R.chg
  simp only [World.size_alloc] at r1 r2 r3 hd sz
  have hgt : H + 1 < w5.heap.size := hT.head.lt
  have q1 : L (w5.heap.size) = 1 := by
    rw [hL]
    rw [if_neg (by omega), if_neg (by omega), if_neg (by omega), if_pos (by omega)]
  have q2 : L (H) = 2 := by
    rw [hL]
    rw [if_neg (by omega), if_pos (by omega)]
  have q3 : L (H + 1) = 2 := by
    rw [hL]
    rw [if_neg (by omega), if_pos (by omega)]
  have q4 : L (w5.heap.size + 1) = 5 := by
    rw [hL]
    rw [if_neg (by omega), if_neg (by omega), if_neg (by omega), if_neg (by omega), if_pos (by omega)]
  have q5 : L (w5.heap.size + 1 + 1) = 5 := by
    rw [hL]
    rw [if_neg (by omega), if_neg (by omega), if_neg (by omega), if_neg (by omega), if_pos (by omega)]
  have q6 : L (w5.heap.size + 1 + 2) = 6 := by
    rw [hL]
    rw [if_neg (by omega), if_neg (by omega), if_neg (by omega), if_neg (by omega), if_neg (by omega), if_pos (by omega)]
  have q7 : L (w5.heap.size + 1 + 3) = 6 := by
    rw [hL]
    rw [if_neg (by omega), if_neg (by omega), if_neg (by omega), if_neg (by omega), if_neg (by omega), if_pos (by omega)]
  have q8 : L (w5.heap.size + 1 + 4) = 7 := by
    rw [hL]
    rw [if_neg (by omega), if_neg (by omega), if_neg (by omega), if_neg (by omega), if_neg (by omega), if_neg (by omega), if_pos (by omega)]
  have q9 : L (w5.heap.size + 1 + 5) = 7 := by
    rw [hL]
    rw [if_neg (by omega), if_neg (by omega), if_neg (by omega), if_neg (by omega), if_neg (by omega), if_neg (by omega), if_pos (by omega)]
  refine ⟨L, ⟨⟨H, H + 1, gd, none, 0, [], w5.heap.size + 1, w5.heap.size + 1 + 1, [], w5.heap.size + 1 + 2, w5.heap.size + 1 + 3, [], w5.heap.size + 1 + 4, w5.heap.size + 1 + 5, []⟩, ?_⟩, ?_⟩
  · refine ⟨hd, (hT.new kb).chg ck (by show ¬ H = w5.heap.size; omega) (by show ¬ H + 1 = w5.heap.size; omega), ?_, RowW.nil _ _ _, Pair.nil, r1, Pair.nil, r2, Pair.nil, r3, Pair.nil, ?_, ?_, ?_, fun b hb => absurd hb (inB_none b), ?_, ?_, ?_, ?_, ?_, ?_, ?_⟩
    · refine da_iff ((hD.new kb).chg ck (fun i (hi : i = w5.heap.size) hf => by have := hD.lt hf; omega)) (fun k => ?_)
      constructor
      · intro hk
        have h1 := hF k hk
        have h2 := hD.lt hk
        show L k = 3
        have h1' : H + 2 ≤ k := h1
        have h2' : k < w5.heap.size := h2
        rw [hL, if_neg (by omega), if_neg (by omega), if_pos h2', if_pos hk]
      · intro hk
        have hk' : L k = 3 := hk
        rw [hL] at hk'
        repeat' (split at hk')
        all_goals first | assumption | contradiction | omega
    · exact q1
    · exact q2
    · exact q3
    · exact q4
    · exact q5
    · exact q6
    · exact q7
    · exact q8
    · exact q9
    · intro k hk
      rw [hL] at hk
      rw [sz]
      by_cases h7 : k < w5.heap.size + 7
      · omega
      · exfalso
        rw [if_neg (by omega), if_neg (by omega), if_neg (by omega), if_neg (by omega), if_neg (by omega), if_neg (by omega), if_neg (by omega)] at hk
        exact hk rfl
  · intro k hk
    rw [hL] at hk
    by_cases h7 : k < H
    · rw [if_pos h7] at hk; exact absurd rfl hk
    · omega

set_option maxRecDepth 100000 in
set_option maxHeartbeats 1000000 in
theorem new_ok (n b : Nat) (w : World) (h1 : 1 ≤ n) (h2 : n ≤ 256) (h3 : 4 ≤ b) (h4 : b ≤ 512) :
    Calls Tryz.prog 12 #[.int .i64 (n : Int), .int .i64 (b : Int)] w fun e w' => ∃ g lab, e = .returned (.tuple #[.pointer (some ⟨g, 0, none⟩), .int .i64 0]) ∧ KA w' lab g (newK n b) ∧ (∀ k, lab k ≠ 0 → w.heap.size ≤ k) ∧ Below w.heap.size w w' := by
  obtain ⟨s, hs⟩ : ∃ s, s = b / 4 := ⟨_, rfl⟩
  obtain ⟨f, hf⟩ : ∃ f, f = b - s := ⟨_, rfl⟩
  have hK : newK n b = ⟨List.replicate n .blank, granted (granted (newD b) 1 0 f) 2 f s, [], 0, [], 0, [], 0, [], 0, 0⟩ := by unfold newK; rw [hf, hs]
  rw [hK]
  have x1 : Int.tdiv (b : Int) 4 = (s : Int) := by rw [Int.tdiv_eq_ediv_of_nonneg (by omega)]; omega
  have x2 : IntKind.i64.wrap ((b : Int) - (s : Int)) = (f : Int) := by rw [IntWalk.i64_in _ (by omega)]; omega
  have x3 : IntKind.i64.wrap (s : Int) = (s : Int) := IntWalk.i64_in _ (by omega)
  have g1 : ¬ (b : Int) < 4 := by omega
  have FN := Lib.hid (fun W => Fr.new_ok n W h1 h2)
  have DN := Lib.hid (fun W => Di.new_ok b W (by omega) h4)
  have G1 := Lib.hid (show ∀ (W : World) F gd, DA W F gd (newD b) → Calls Tryz.prog 31 #[.pointer (some ⟨gd, 0, none⟩), .int .i64 1, .int .i64 0, .int .i64 (f : Int)] W fun e w' => e = .returned (.int .i64 0) ∧ ∃ F', DA w' F' gd (granted (newD b) 1 0 f) ∧ Step W w' F F' from fun W F gd hD => by
    have := grant_any hD 1 0 (f : Int) (by omega) (by simp [newD])
    rw [grant1 b f (by omega) (by omega) h4] at this
    exact this)
  have G2 := Lib.hid (show ∀ (W : World) F gd, DA W F gd (granted (newD b) 1 0 f) → Calls Tryz.prog 31 #[.pointer (some ⟨gd, 0, none⟩), .int .i64 2, .int .i64 (f : Int), .int .i64 (s : Int)] W fun e w' => e = .returned (.int .i64 0) ∧ ∃ F', DA w' F' gd (granted (granted (newD b) 1 0 f) 2 f s) ∧ Step W w' F F' from fun W F gd hD => by
    have := grant_any hD 2 (f : Int) (s : Int) (by omega) (by simp [newD, granted])
    rw [grant2 b f s (by omega) (by omega) (by omega) h4] at this
    exact this)
  clear hK hs hf h1 h2 h3 h4
  go_enter Tryz.func12, Tryz.ntmps12
  go_wp2_with fail
  refine (FN.out _).mono ?_; rintro e w1 ⟨rfl, t1, b1, z1⟩
  have T1 := Lib.hid t1
  have B1 := Lib.hid b1
  have Z1 := Lib.hid z1
  clear t1 b1 z1
  go_wp2_with fail
  refine (DN.out _).mono ?_; rintro e w2 ⟨rfl, d2, b2, z2⟩
  have D2 := Lib.hid (DskAt.da d2)
  have B2 := Lib.hid b2
  clear d2 b2 z2
  go_wp2_with fail
  refine (G1.out _ _ _ D2.out).mono ?_; rintro e w3 ⟨rfl, F3, d3, s3⟩
  have D3 := Lib.hid d3
  have S3 := Lib.hid s3
  clear d3 s3
  go_wp2_with fail
  refine (G2.out _ _ _ D3.out).mono ?_; rintro e w4 ⟨rfl, F4, d4, s4⟩
  have D4 := Lib.hid d4
  have S4 := Lib.hid s4
  clear d4 s4
  have F2 := Lib.hid (show ∀ k, foot w1.heap.size (w1.heap.size + 1) none none k → w1.heap.size ≤ k from fun k hk => by
    rcases hk with h | h | h | h
    · omega
    · omega
    · exact absurd h (inB_none k)
    · exact absurd h (inB_none k))
  have S24 := Lib.hid (S3.out.trans S4.out)
  have hz1 := Z1.out
  have B4 := Lib.hid (show Below w1.heap.size w1 w4 from B2.out.trans (S24.out.below (B := w1.heap.size) B2.out.size F2.out).1)
  have T4 := Lib.hid (T1.out.new B4.out)
  have R4 := Lib.hid (show KHead (w4.alloc (.cells #[.pointer (some ⟨w.heap.size + 1, 0, none⟩), .pointer (some ⟨w1.heap.size + 1, 0, none⟩), .slice none 0 0, .int .i64 0, .pointer none, .pointer none, .pointer none, .int .i64 0] 91)) w4.heap.size (w.heap.size + 1) (w1.heap.size + 1) none none none from Blk.new w4 _ _)
  clear hz1
  go_wp2_with fail
  refine (rings_any _ _ _ _ R4.out).mono ?_; rintro e w8 ⟨rfl, r8⟩
  have FIN := Lib.hid (made_ka T4.out D4.out (fun k hk => by
    have hz1 := Z1.out
    have := (S24.out.below (B := w1.heap.size) B2.out.size F2.out).2 k hk
    omega) (by have := Z1.out; have := B4.out.size; omega) r8)
  have BF := Lib.hid (show Below w.heap.size w w8 from by
    have b0 : Below w.heap.size w w4 := B1.out.trans (B4.out.mono B1.out.size)
    exact (b0.alloc b0.size _).trans (r8.chg.below (by simp; have := b0.size; omega) (fun k (hk : k = w4.heap.size) => by have := b0.size; omega)))
  clear r8
  go_wp2
  go_ret2
  obtain ⟨lab, h5, h6⟩ := FIN.out
  exact ⟨_, lab, rfl, h5, h6, BF.out⟩
end Go.Proofs.YtefnkednnnlhoaaGreatDoor.Ke
