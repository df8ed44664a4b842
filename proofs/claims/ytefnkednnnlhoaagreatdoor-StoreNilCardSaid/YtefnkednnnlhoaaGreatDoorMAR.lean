/- What sums.Part and sums.Good do, said of the bytes of their argument. Conditions: those that each states. -/
import Derived.Test.YtefnkednnnlhoaaGreatDoorMAQ
import Derived.Test.YtefnkednnnlhoaaGreatDoorMAA
import Derived.Lib.SliceRun
import Derived.Laws.BitsAllLaws
import Derived.RegionTactic
import Derived.BigRegion
import Derived.ScopeJumps
import Derived.WalkMore
import Derived.StillTailTactics
namespace Go.Proofs.YtefnkednnnlhoaaGreatDoor
open Go.ChangeShapes Go.WideShapes Go.ChangeAt Go.RowKit Fl

theorem ret_bool {a b : Bool} (h : a = b) : Ending.returned (.bool a) = .returned (.bool b) := by rw [h]

mutual
/-- The sum of the bytes at even places. -/
def evs : List UInt8 → Nat
  | [] => 0
  | a :: l => a.toNat + ods l
/-- The sum of the bytes at odd places. -/
def ods : List UInt8 → Nat
  | [] => 0
  | _ :: l => evs l
end

theorem evs_append (l r : List UInt8) : evs (l ++ r) = evs l + (if l.length % 2 = 0 then evs r else ods r) ∧ ods (l ++ r) = ods l + (if l.length % 2 = 0 then ods r else evs r) := by
  induction l with
  | nil => simp [evs, ods]
  | cons a l ih =>
    simp only [List.cons_append, evs, ods, ih.1, ih.2, List.length_cons]
    by_cases h : l.length % 2 = 0
    · have : ¬ (l.length + 1) % 2 = 0 := by omega
      rw [if_pos h, if_pos h, if_neg this, if_neg this]; omega
    · have : (l.length + 1) % 2 = 0 := by omega
      rw [if_neg h, if_neg h, if_pos this, if_pos this]; omega

theorem evs_le (l : List UInt8) : evs l + ods l ≤ 255 * l.length := by
  induction l with
  | nil => simp [evs, ods]
  | cons a l ih =>
    have := a.toNat_lt
    simp only [evs, ods, List.length_cons]; omega

theorem take_two {l : List UInt8} {p : Nat} (h : p + 1 < l.length) : l.take (p + 2) = l.take p ++ [l[p], l[p + 1]] := by
  have h1 : l.take (p + 2) = l.take (p + 1) ++ [l[p + 1]] := List.take_succ_eq_append_getElem h
  have h2 : l.take (p + 1) = l.take p ++ [l[p]] := List.take_succ_eq_append_getElem (by omega)
  rw [h1, h2, List.append_assoc]; rfl

theorem evs_two {l : List UInt8} {p : Nat} (h : p + 1 < l.length) (he : p % 2 = 0) : evs (l.take (p + 2)) = evs (l.take p) + l[p].toNat ∧ ods (l.take (p + 2)) = ods (l.take p) + l[p + 1].toNat := by
  rw [take_two h]
  have hl : (l.take p).length % 2 = 0 := by rw [List.length_take]; omega
  rw [(evs_append _ _).1, (evs_append _ _).2, if_pos hl, if_pos hl]
  simp [evs, ods]

theorem evs_one {l : List UInt8} {p : Nat} (h : p + 1 = l.length) (he : p % 2 = 0) : evs l = evs (l.take p) + l[p].toNat ∧ ods l = ods (l.take p) := by
  have e : l = l.take p ++ [l[p]] := by
    have := List.take_succ_eq_append_getElem (l := l) (i := p) (by omega)
    rw [h, List.take_length] at this
    exact this
  have hl : (l.take p).length % 2 = 0 := by rw [List.length_take]; omega
  have h1 := (evs_append (l.take p) [l[p]])
  rw [if_pos hl, if_pos hl, ← e] at h1
  refine ⟨h1.1.trans (by simp [evs, ods]), h1.2.trans (by simp [evs, ods])⟩

theorem part_ok (A : Option Addr) (n c : Nat) (l : List UInt8) (w : World) (hb : Bytes w A n c l) (hn : n ≤ 16777216) :
    Calls Tryz.prog 77 #[.slice A n c] w fun e w' => e = .returned (.tuple #[.complex .f64 (fl (evs l)) (fl (ods l)), .int .i64 0]) ∧ ∃ m, w' = w.drewN m := by
  have hlen := hb.len
  go_enter Tryz.func77, Tryz.ntmps77
  go_wp2
  go_loopw [4, 5] (fun z i wr => ∃ p m : Nat, wr = w.drewN m ∧ p ≤ n ∧ p % 2 = 0 ∧ i = .int .i64 ((p : Int) + 1) ∧ z = .complex .f64 (fl (evs (l.take p))) (fl (ods (l.take p)))) (fun _ i _ => n - (intOf i).toNat)
  case atStart => exact ⟨0, 0, rfl, by omega, rfl, rfl, rfl⟩
  case round =>
    obtain ⟨p, m, rfl, hp, hpe, rfl, rfl⟩ := hrel
    by_cases hlt : p + 1 < n
    · obtain ⟨b, o, hl0, rfl, hbk, hc0⟩ := hb.byte (k := p) (by omega)
      obtain ⟨b', o', hl1, hA, _, hc1⟩ := hb.byte (k := p + 1) (by omega)
      cases hA
      have ht := evs_two (l := l) (p := p) (by omega) hpe
      have hle := evs_le (l.take p)
      have hll : (l.take p).length ≤ p := List.length_take_le _ _
      have hz : ∀ w, (binOp .add 61 (.complex .f64 (fl (evs (l.take p))) (fl (ods (l.take p)))) (.complex .f64 (floatOfInt .f64 (l[p].toNat : Int)) (floatOfInt .f64 (l[p + 1].toNat : Int)))).run Tryz.prog w = .ok (.complex .f64 (fl (evs (l.take p) + l[p].toNat : Int)) (fl (ods (l.take p) + l[p + 1].toNat : Int))) w := cadd_fl (a := evs (l.take p)) (b := ods (l.take p)) (c := (l[p].toNat : Int)) (d := (l[p + 1].toNat : Int)) 61 (by omega) (by omega) (by have := l[p].toNat_lt; omega) (by have := l[p+1].toNat_lt; omega) (by have := l[p].toNat_lt; omega) (by have := l[p+1].toNat_lt; omega)
      have HT := Lib.hid ht
      clear ht
      go_wp2
      have hw := IntWalk.i64_in (p : Int) (by omega)
      have i1 : p < n := by omega
      have i2 : (p : Int) + 1 < (n : Int) := by omega
      have i3 : 0 ≤ (p : Int) + 1 := by omega
      have i4 : ((p : Int) + 1).toNat = p + 1 := by omega
      go_quiet (fail)
      clear hw i4
      go_wp2
      go_roundw
      case rel => exact ⟨p + 2, _, rfl, by omega, by omega, by go_num, by rw [HT.out.1, HT.out.2]; rfl⟩
      case measure => simp [intOf]; omega
    · by_cases he : p + 1 = n
      · obtain rfl : n = p + 1 := he.symm
        obtain ⟨b, o, hl0, rfl, hbk, hc0⟩ := hb.byte (k := p) (by omega)
        have ht := evs_one (l := l) (p := p) (by omega) hpe
        have hle := evs_le (l.take p)
        have hll : (l.take p).length ≤ p := List.length_take_le _ _
        have hz : ∀ w, (binOp .add 61 (.complex .f64 (fl (evs (l.take p))) (fl (ods (l.take p)))) (.complex .f64 (floatOfInt .f64 (l[p].toNat : Int)) 0)).run Tryz.prog w = .ok (.complex .f64 (fl (evs (l.take p) + l[p].toNat : Int)) (fl (ods (l.take p) + 0 : Int))) w := cadd (a := evs (l.take p)) (b := ods (l.take p)) (y := fl (l[p].toNat : Int)) (c := (l[p].toNat : Int)) (d := 0) 61 (by omega) (by omega) (read_fl (by have := l[p].toNat_lt; omega)).rep rep0 (by have := l[p].toNat_lt; omega) (by omega)
        have HT := Lib.hid ht
        clear ht
        have hp1 : ((p : Int) + 1) % 2 = 1 := by omega
        have i1 : p < p + 1 := by omega
        have i2 : (p : Int) < (p : Int) + 1 := by omega
        go_wp2
        go_ret2
        refine ⟨?_, _, rfl⟩
        rw [HT.out.1, HT.out.2]; simp
      · obtain rfl : n = p := by omega
        have hp1 : ((n : Int) % 2 == 1) = false := by simp; omega
        have ht : l.take n = l := List.take_of_length_le (by omega)
        have HT := Lib.hid ht
        clear ht
        go_wp2
        go_ret2
        refine ⟨?_, _, rfl⟩
        rw [HT.out]; rfl

theorem part_b (A : Option Addr) (n c : Nat) (l : List UInt8) (w : World) (hb : Bytes w A n c l) (hn : n ≤ 16777216) :
    Calls Tryz.prog 77 #[.slice A n c] w fun e w' => e = .returned (.tuple #[.complex .f64 (fl (evs l)) (fl (ods l)), .int .i64 0]) ∧ Below w.heap.size w w' :=
  (part_ok A n c l w hb hn).mono fun _ _ ⟨he, m, hm⟩ => ⟨he, by rw [hm]; exact below_drewN (Below.refl _ _) m⟩

theorem good_ok (A : Option Addr) (n c : Nat) (l : List UInt8) (w : World) (hb : Bytes w A n c l) (hn : n ≤ 16777216) :
    Calls Tryz.prog 123 #[.slice A n c] w fun e w' => e = .returned (.bool (decide (fo (256 * evs l + ods l) = 65535))) ∧ ∃ m, w' = w.drewN m := by
  have hle := evs_le l
  have hlen := hb.len
  have h1 : evs l ≤ 1099511627776 := by omega
  have h2 : ods l ≤ 1099511627776 := by omega
  have r1 : Rep (Ieee.double.read (fl (evs l : Int))) (evs l : Int) := (read_fl (by omega)).rep
  have r2 : Rep (Ieee.double.read (fl (ods l : Int))) (ods l : Int) := (read_fl (by omega)).rep
  clear hlen
  go_enter Tryz.func123, Tryz.ntmps123
  go_wp2_with (first | (go_at_call 77; refine (part_ok _ _ _ l _ (by assumption) (by assumption)).mono ?_; rintro e w' ⟨rfl, m, rfl⟩) | (go_at_call 146; refine (fold_ok _ _ (evs l) (ods l) _ (by assumption) (by assumption) (by assumption) (by assumption)).mono ?_; rintro e w' ⟨rfl, rfl⟩))
  go_ret
  refine ⟨ret_bool ?_, _, rfl⟩
  by_cases h : fo (256 * evs l + ods l) = 65535
  · rw [h]; rfl
  · have h' : ¬ ((fo (256 * evs l + ods l) : Int) = 65535) := by omega
    simp [h, h']
end Go.Proofs.YtefnkednnnlhoaaGreatDoor

/- Package octet's numbers in bytes, and its reader: what its functions do. Conditions: those that each states. -/
namespace Go.Proofs.YtefnkednnnlhoaaGreatDoor
open Go.ChangeShapes Go.WideShapes Go.ChangeAt Go.RowKit Go.Deep

/-- Byte number k of n. -/
def nb (n k : Nat) : UInt8 := UInt8.ofNat (n / 256 ^ k % 256)
theorem nb_eq (n k : Nat) : (nb n k).toNat = n / 256 ^ k % 256 := by simp [nb, UInt8.toNat_ofNat']
/-- n in k bytes, the highest first. -/
def be (n : Nat) : Nat → List UInt8
  | 0 => []
  | k + 1 => nb n k :: be n k
theorem be_length (n : Nat) : ∀ k, (be n k).length = k
  | 0 => rfl
  | k + 1 => by simp [be, be_length n k]

/-- 'n<<8 | v'. -/
theorem or256 (n v : Nat) (hv : v < 256) (hn : n * 256 + v < 18446744073709551616) : bits .or .u64 ((n : Int) * 256) (v : Int) = ((n * 256 + v : Nat) : Int) := by
  have h5 : ((n * 256 : Nat) : Int) = (n : Int) * 256 := Int.natCast_mul n 256
  have h1 : n * 256 < 18446744073709551616 := Nat.lt_of_le_of_lt (Nat.le_add_right _ v) hn
  have h2 : v < 18446744073709551616 := Nat.lt_of_lt_of_le hv (by decide)
  have e := Nat.two_pow_add_eq_or_of_lt (i := 8) (b := v) (by simpa using hv) n
  have h3 := u64_or_nat (n * 256) v h1 h2
  have h4 : n * 256 ||| v = n * 256 + v := by rw [Nat.mul_comm n 256]; exact e.symm
  rw [h4] at h3
  rw [h5] at h3
  exact h3
theorem fits_any (n k : Nat) (hn : n ≤ 18446744073709551615) (h1 : 1 ≤ k) (h8 : k ≤ 8) (w : World) :
    Calls Tryz.prog 150 #[.int .u64 (n : Int), .int .i64 (k : Int)] w fun e w' => e = .returned (.bool (decide (n < 256 ^ k))) ∧ w' = w := by
  obtain rfl | rfl | rfl | rfl | rfl | rfl | rfl | rfl : k = 1 ∨ k = 2 ∨ k = 3 ∨ k = 4 ∨ k = 5 ∨ k = 6 ∨ k = 7 ∨ k = 8 := by omega
  all_goals
    go_enter Tryz.func150, Tryz.ntmps150
    go_wp2
    go_ret
    refine ⟨congrArg (fun b => Ending.returned (Value.bool b)) ?_, rfl⟩
    rw [Bool.eq_iff_iff]
    simp only [beq_iff_eq, decide_eq_true_eq, Nat.reducePow]
    omega
theorem byteAt_any (n k : Nat) (hn : n ≤ 18446744073709551615) (h8 : k < 8) (w : World) :
    Calls Tryz.prog 151 #[.int .u64 (n : Int), .int .i64 (k : Int)] w fun e w' => e = .returned (.int .u8 ((nb n k).toNat : Int)) ∧ w' = w := by
  have e := nb_eq n k
  rw [e]
  obtain rfl | rfl | rfl | rfl | rfl | rfl | rfl | rfl : k = 0 ∨ k = 1 ∨ k = 2 ∨ k = 3 ∨ k = 4 ∨ k = 5 ∨ k = 6 ∨ k = 7 := by omega
  all_goals
    go_enter Tryz.func151, Tryz.ntmps151
    go_wp2
    go_ret
    refine ⟨congrArg (fun b => Ending.returned (Value.int .u8 b)) ?_, rfl⟩
    simp only [Nat.reducePow]
    omega

set_option maxRecDepth 100000 in
set_option maxHeartbeats 2000000 in
theorem clone_any (A : Option Addr) (n c : Nat) (l : List UInt8) (w : World) (hb : Src w A n c l) (hn : n ≤ 1000000) :
    Calls Tryz.prog 147 #[.slice A n c] w fun e w' => ∃ A' c', e = .returned (.slice A' n c') ∧ Src w' A' n c' l ∧ (∀ b o, A' = some ⟨b, o, none⟩ → w.heap.size ≤ b) ∧ Below w.heap.size w w' := by
  have he : ∀ W, (binOp .eql 31 (.slice A n c) (.slice none 0 0)).run Tryz.prog W = .ok (.bool A.isNone) W := fun W => Lib.run_eql_slice_nil W 31 5 A n c 0 0 Tryz.underlying31
  cases A with
  | none =>
    have hc := hb.none_ rfl
    have hm : n = 0 := by have := hb.cap; omega
    subst hc hm
    have hl := List.length_eq_zero_iff.1 hb.len
    subst hl
    have he := fun W => (he W).trans (congrArg (fun b => Result.ok (Value.bool b) W) (show (none : Option Addr).isNone = true from rfl))
    go_enter Tryz.func147, Tryz.ntmps147
    go_wp2
    go_ret
    exact ⟨none, 0, rfl, hb, fun _ _ e => by (cases e), Below.refl _ _⟩
  | some ad =>
    have he := fun W => (he W).trans (congrArg (fun b => Result.ok (Value.bool b) W) (show (some ad).isNone = false from rfl))
    have hown := World.ownsRow_lit (base := w.heap.size) (e := 5) (size := 1) w #[] 0 (Nat.le_refl _) (by decide) rfl
    have HB := Lib.hid hb
    clear hb
    go_enter Tryz.func147, Tryz.ntmps147
    go_wp2_with (at_builtin; refine Hid.out ?_)
    unfold Hid
    refine wpList_append_src rfl _ _ rfl w.heap.size _ 0 [] rfl hown (some ad) n c l rfl (HB.out.alloc _) (by omega) (by simp) ?_
    intro v' w' h1 h2
    rw [Nat.zero_add] at h1
    have b2 := (Below.refl w.heap.size w).alloc (Nat.le_refl _) (.cells #[] 5) |>.trans h2
    obtain ⟨A', c', rfl, hs, hbs⟩ := src_of_own h1
    clear h1 h2 hown he
    go_wp2
    go_ret
    exact ⟨A', c', rfl, hs, hbs, b2⟩

set_option maxRecDepth 100000 in
set_option maxHeartbeats 2000000 in
/-- Put, where the number has so many bytes. -/
theorem put_ok (A : Option Addr) (n c : Nat) (l : List UInt8) (a k : Nat) (w : World) (hb : Src w A n c l) (hn : n ≤ 1000000) (ha : a ≤ 18446744073709551615) (h1 : 1 ≤ k) (h8 : k ≤ 8) (hf : a < 256 ^ k) :
    Calls Tryz.prog 131 #[.slice A n c, .int .u64 (a : Int), .int .i64 (k : Int)] w fun e w' => ∃ g c', e = .returned (.tuple #[.slice (some ⟨g, 0, none⟩) (n + k) c', .int .i64 0]) ∧ OwnB w' w.heap.size g (n + k) c' (l ++ be a k) ∧ Below w.heap.size w w' := by
  have k1 : ¬ (k : Int) < 1 := by omega
  have k8 : ¬ (k : Int) > 8 := by omega
  have x0 := IntWalk.i64_in ((n : Int) + k) (by omega)
  have x1 := IntWalk.i64_in ((k : Int) - 1) (by omega)
  have hd : decide (a < 256 ^ k) = true := by simpa using hf
  go_enter Tryz.func131, Tryz.ntmps131
  go_wp2_with fail
  refine (fits_any a k ha h1 h8 _).mono ?_; rintro e w' ⟨rfl, rfl⟩
  rw [hd]
  have hmk := fun W => make_bytes (n + k) (by omega) W
  have hcast : ((n + k : Nat) : Int) = (n : Int) + k := by omega
  rw [hcast] at hmk
  have hown := World.ownsRow_made (base := w'.heap.size) (e := 5) (size := 1) w' (madeCells #[.int .u8 0] (n + k)) (n + k) (Nat.le_refl _) (by unfold maxLen; omega) (by rw [size_madeCells]; simp)
  have HB := Lib.hid hb
  clear hb
  go_wp2_with (at_builtin; refine Hid.out ?_)
  unfold Hid
  refine wpList_append_src rfl _ _ rfl w'.heap.size _ 0 [] rfl hown A n c l rfl (HB.out.alloc _) (by omega) (by simp) ?_
  intro v' w2 h1 h2
  rw [Nat.zero_add] at h1
  have b2 := (Below.refl w'.heap.size w').alloc (Nat.le_refl _) (.cells (madeCells #[.int .u8 0] (n + k)) 5) |>.trans h2
  clear h2 hown hmk HB
  have H1 := Lib.hid h1
  have B2 := Lib.hid b2
  clear h1 b2
  go_wp2
  go_loopw [8, 9] (fun v i wr => ∃ (j : Nat) (r : List UInt8) (z : Int), j ≤ k ∧ i = .int .i64 z ∧ z = (j : Int) - 1 ∧ wr.ownsRow w'.heap.size 5 1 v (n + (k - j)) (bys r) ∧ r ++ be a j = l ++ be a k ∧ Below w'.heap.size w' wr) (fun _ i _ => (intOf i + 1).toNat)
  case atStart =>
    refine ⟨k, l, (k : Int) - 1, Nat.le_refl _, rfl, rfl, ?_, rfl, B2.out⟩
    rw [Nat.sub_self, Nat.add_zero]
    exact H1.out
  case round =>
    obtain ⟨j, r, z, hj, rfl, hz, ho, hr, hbel⟩ := hrel
    have HO := Lib.hid ho
    have HR := Lib.hid hr
    have HBEL := Lib.hid hbel
    clear ho hr hbel H1 B2
    cases j with
    | zero =>
      have hz0 : z < 0 := by omega
      clear hz
      obtain ⟨g, c2, rfl, O⟩ := OwnB.of HO.out (by omega)
      have O := Lib.hid O
      go_wp2
      go_ret2
      refine ⟨g, c2, ?_, ?_, HBEL.out⟩
      · simp
      · have hr := HR.out
        simp only [be, List.append_nil] at hr
        rw [← hr]
        exact O.out
    | succ q =>
      obtain rfl : z = (q : Int) := by omega
      clear hz
      have x2 := IntWalk.i64_in ((q : Int) - 1) (by omega)
      have q0 : (0 : Int) ≤ (q : Int) := by omega
      go_wp2_with fail
      refine (byteAt_any a q ha (by omega) _).mono ?_; rintro e wq ⟨rfl, rfl⟩
      have hsz := HBEL.out.size
      have hs1 := Lib.hid (Src.one wq (nb a q))
      have ho1 := Lib.hid (HO.out.alloc (.cells #[.int .u8 ((nb a q).toNat : Int)] 5))
      generalize hcc : nb a q = cc at *
      have HCC := Lib.hid hcc
      clear hcc HO
      go_wp2_with (at_builtin; refine Hid.out ?_)
      unfold Hid
      refine wpList_append_src rfl _ _ rfl w'.heap.size _ (n + (k - (q + 1))) r rfl ho1.out _ 1 1 [cc] rfl hs1.out (by omega) (by simp; omega) ?_
      intro v3 w3 h31 h32
      have b3 := Lib.hid ((HBEL.out.alloc hsz (.cells #[.int .u8 (cc.toNat : Int)] 5)).trans h32)
      have h31 := Lib.hid h31
      clear h32 hs1 ho1 HBEL
      go_wp2
      go_roundw
      case rel =>
        refine ⟨q, r ++ [cc], (q : Int) - 1, by omega, rfl, rfl, ?_, ?_, b3.out⟩
        · have e : n + (k - (q + 1)) + 1 = n + (k - q) := by omega
          rw [← e]; exact h31.out
        · rw [← HR.out, ← HCC.out]; simp [be]
      case measure => simp [intOf]

end Go.Proofs.YtefnkednnnlhoaaGreatDoor

/- Package octet's reader: what its functions do. Conditions: those that each states. -/
namespace Go.Proofs.YtefnkednnnlhoaaGreatDoor
open Go.ChangeShapes Go.WideShapes Go.ChangeAt Go.RowKit Go.Deep

/-- A scope in which the run jumps to its label once, and not again. -/
theorem scope_once {P : Program} {c rest : Code} {a : Act} {w : World} {Q : Exit → Act → World → Prop} (l : Nat) (hf : findLabel c l = some rest)
    (first : c.wp P (Exit.jump l (fun a' w' => rest.wp P (Exit.noGoto Q) a' w') Q) a w) : (Code.scope c).wp P Q a w := by
  refine wp_scope_jumps l (fun a' w' => rest.wp P (Exit.noGoto Q) a' w') (fun _ _ => 0) hf first fun a' w' h => ?_
  refine wp_mono h fun e a2 w2 he => ?_
  cases e with
  | goto _ => exact he.elim
  | _ => exact he

/-- A reader in block g, of the call's own from B on: the bytes that are left, and its error. -/
def EyeAt (w : World) (B g : Nat) (l : List UInt8) (err : Int) : Prop :=
  B ≤ g ∧ l.length ≤ 1000000 ∧ ∃ A c, Blk w g 237 #[.slice A l.length c, .int .i64 err] ∧ Src w A l.length c l ∧ (0 < l.length → ∀ b o, A = some ⟨b, o, none⟩ → b < g)
theorem EyeAt.older {w w' : World} {B g : Nat} {l : List UInt8} {err : Int} (h : EyeAt w B g l err) (k : Older w w') : EyeAt w' B g l err := by
  obtain ⟨hB, hl, A, c, hb, hs, hn⟩ := h
  exact ⟨hB, hl, A, c, hb.older k, hs.older k, hn⟩
theorem EyeAt.below {w w' : World} {B g : Nat} {l : List UInt8} {err : Int} (h : EyeAt w B g l err) (k : Below w.heap.size w w') : EyeAt w' B g l err := h.older (older_below k)

/-- What stands while only block g is written and new blocks are laid. -/
theorem grown_set (w : World) (g i : Nat) (u : Value) : w.grownBy (w.setCell ⟨g, i, none⟩ u) (some g) :=
  ⟨rfl, rfl, rfl, by simp [World.setCell], fun k _ hne => Below.heap_setCell w ⟨g, i, none⟩ u k (fun e => hne (by rw [e]))⟩
theorem grown_trans {w w1 w2 : World} {g : Nat} (h : w.grownBy w1 (some g)) (k : w1.grownBy w2 (some g)) : w.grownBy w2 (some g) :=
  ⟨k.os.trans h.os, k.tape.trans h.tape, k.output.trans h.output, Nat.le_trans h.size k.size, fun i hi hne => (k.block i (Nat.lt_of_lt_of_le hi h.size) hne).trans (h.block i hi hne)⟩
theorem grown_drew {w w1 : World} {g : Nat} (h : w.grownBy w1 (some g)) : w.grownBy w1.drew (some g) := ⟨h.os, h.tape, h.output, h.size, h.block⟩
theorem src_slice {w : World} {A : Option Addr} {n c : Nat} {l : List UInt8} (h : Src w A n c l) {k : Nat} (hk : k ≤ n) : Src w A k c (l.take k) := ⟨h.toBytes.take hk, h.none_⟩
theorem src_rest {w : World} {A : Option Addr} {n c : Nat} {l : List UInt8} (h : Src w A n c l) {k : Nat} (hk : k ≤ n) : Src w (if c = k then A else A.map (·.add k)) (n - k) (c - k) (l.drop k) := by
  refine ⟨h.toBytes.cut hk, fun e => ?_⟩
  split at e
  · omega
  · have := h.none_ (by cases A <;> simp_all); omega
theorem lies_far {w : World} {A : Option Addr} {xs : List Value} (h : Lies w A xs) {g : Nat} (hg : 0 < xs.length → ∀ b o, A = some ⟨b, o, none⟩ → b ≠ g) (i : Nat) (u : Value) : Lies (w.setCell ⟨g, i, none⟩ u) A xs := by
  intro hp
  obtain ⟨b, o, e, hb, hc⟩ := h hp
  have hne := hg hp b o e
  refine ⟨b, o, e, by simpa [World.setCell] using hb, fun j hj => ?_⟩
  rw [World.cell?_of_block (w := w) (a := ⟨b, o + j, none⟩) (Below.heap_setCell w ⟨g, i, none⟩ u b (by simpa using hne))]
  exact hc j hj
theorem Src.far {w : World} {A : Option Addr} {n c : Nat} {l : List UInt8} (h : Src w A n c l) {g : Nat} (hg : 0 < l.length → ∀ b o, A = some ⟨b, o, none⟩ → b ≠ g) (i : Nat) (u : Value) : Src (w.setCell ⟨g, i, none⟩ u) A n c l :=
  ⟨⟨lies_far h.lies (by rw [bys_length]; exact hg) i u, h.len, h.cap, h.max⟩, h.none_⟩

set_option maxRecDepth 100000 in
/-- next, at a reader that met an error or meets one. -/
theorem next_stop (B g : Nat) (l : List UInt8) (err : Int) (n lo hi : Int) (w : World) (h : EyeAt w B g l err) (e' : Int)
    (he : (err ≠ 0 ∧ e' = err) ∨ (err = 0 ∧ (n < lo ∨ hi < n) ∧ e' = 1) ∨ (err = 0 ∧ ¬ n < lo ∧ ¬ hi < n ∧ (l.length : Int) < n ∧ e' = 50)) :
    Calls Tryz.prog 148 #[.pointer (some ⟨g, 0, none⟩), .int .i64 n, .int .i64 lo, .int .i64 hi] w fun e w' => e = .returned (.slice none 0 0) ∧ EyeAt w' B g [] e' ∧ w.grownBy w' (some g) := by
  obtain ⟨hB, hl, A, c, hb, hs, hn⟩ := h
  have c0 := hb.cell 0
  have c1 := hb.cell 1
  simp only [List.getElem?_toArray, List.getElem?_cons_zero, List.getElem?_cons_succ] at c0 c1
  have f0 := hb.frozen 0
  have f1 := hb.frozen 1
  have fin : EyeAt ((w.setCell ⟨g, 0, none⟩ (.slice none 0 0)).setCell ⟨g, 1, none⟩ (.int .i64 e')) B g [] e' ∧ w.grownBy ((w.setCell ⟨g, 0, none⟩ (.slice none 0 0)).setCell ⟨g, 1, none⟩ (.int .i64 e')) (some g) := by
    refine ⟨⟨hB, by simp, none, 0, ?_, Src.nil _, fun _ _ _ e => by cases e⟩, grown_trans (grown_set _ _ _ _) (grown_set _ _ _ _)⟩
    have := (hb.put 0 (.slice none 0 0)).put 1 (.int .i64 e')
    simpa using this
  have FIN := Lib.hid fin
  clear fin hb hs hn
  rcases he with ⟨h1, rfl⟩ | ⟨rfl, h2, rfl⟩ | ⟨rfl, h2, h3, h4, rfl⟩
  · go_enter Tryz.func148, Tryz.ntmps148
    go_wp2
    refine scope_once 0 rfl ?_
    go_wp2
    go_step3
    refine ⟨rfl, ?_⟩
    go_wp2
    rw [Exit.noGoto_ret]
    go_ret
    exact ⟨rfl, FIN.out⟩
  · by_cases h3 : n < lo
    · clear h2
      go_enter Tryz.func148, Tryz.ntmps148
      go_wp2
      refine scope_once 0 rfl ?_
      go_wp2
      go_step3
      refine ⟨rfl, ?_⟩
      go_wp2
      rw [Exit.noGoto_ret]
      go_ret
      exact ⟨rfl, FIN.out⟩
    · have h4 : hi < n := by omega
      clear h2
      go_enter Tryz.func148, Tryz.ntmps148
      go_wp2
      refine scope_once 0 rfl ?_
      go_wp2
      go_step3
      refine ⟨rfl, ?_⟩
      go_wp2
      rw [Exit.noGoto_ret]
      go_ret
      exact ⟨rfl, FIN.out⟩
  · go_enter Tryz.func148, Tryz.ntmps148
    go_wp2
    refine scope_once 0 rfl ?_
    go_wp2
    go_step3
    refine ⟨rfl, ?_⟩
    go_wp2
    rw [Exit.noGoto_ret]
    go_ret
    exact ⟨rfl, FIN.out⟩

set_option maxRecDepth 100000 in
set_option maxHeartbeats 2000000 in
/-- next, where so many bytes are there. -/
theorem next_ok (B g : Nat) (l : List UInt8) (k : Nat) (lo hi : Int) (w : World) (h : EyeAt w B g l 0) (h1 : lo ≤ (k : Int)) (h2 : (k : Int) ≤ hi) (h3 : k ≤ l.length) :
    Calls Tryz.prog 148 #[.pointer (some ⟨g, 0, none⟩), .int .i64 (k : Int), .int .i64 lo, .int .i64 hi] w fun e w' => ∃ A c, e = .returned (.slice A k c) ∧ Src w' A k c (l.take k) ∧ EyeAt w' B g (l.drop k) 0 ∧ w.grownBy w' (some g) := by
  obtain ⟨hB, hl, A, c, hb, hs, hn⟩ := h
  have c0 := hb.cell 0
  have c1 := hb.cell 1
  simp only [List.getElem?_toArray, List.getElem?_cons_zero, List.getElem?_cons_succ] at c0 c1
  have f0 := hb.frozen 0
  have g1 : ¬ (k : Int) < lo := by omega
  have g2 : ¬ (k : Int) > hi := by omega
  have g3 : ¬ (k : Int) > (l.length : Int) := by omega
  have hcut := fun W => run_cut_bytes A l.length c k h3 W
  have hcap := hs.cap
  have hk0 : (0 : Int) ≤ k := by omega
  have hkc : (k : Int) ≤ c := by omega
  have e1 : l.length - k = (l.drop k).length := by simp
  have hn' : 0 < (l.drop k).length → ∀ b o, (if c = k then A else A.map (·.add k)) = some ⟨b, o, none⟩ → b < g := by
    intro hp b o e
    have hp' : k < l.length := by simp at hp; omega
    rw [if_neg (by omega)] at e
    obtain ⟨b0, o0, rfl, _, _⟩ := hs.lies (by rw [bys_length]; omega)
    have hne := hn (by omega) b0 o0 rfl
    simp only [Addr.add, Option.map_some, Option.some.injEq] at e
    split at e <;> (cases e; exact hne)
  have hs' := src_rest hs h3
  have hb' := hb.put 0 (.slice (if c = k then A else A.map (·.add k)) (l.length - k) (c - k))
  rw [e1] at hs' hb'
  have fin : ∃ W, W = w.setCell ⟨g, 0, none⟩ (.slice (if c = k then A else A.map (·.add k)) (l.length - k) (c - k)) ∧ Src W A k c (l.take k) ∧ EyeAt W B g (l.drop k) 0 ∧ w.grownBy W (some g) := by
    refine ⟨_, rfl, ?_, ⟨hB, by simp; omega, (if c = k then A else A.map (·.add k)), c - k, ?_, ?_, hn'⟩, grown_set _ _ _ _⟩
    · exact (src_slice hs h3).far (fun hp b o e => Nat.ne_of_lt (hn (by simp at hp; omega) b o e)) 0 _
    · rw [e1]; simpa using hb'
    · exact hs'.far (fun hp b o e => Nat.ne_of_lt (hn' hp b o e)) 0 _
  clear hs' hb' hn'
  obtain ⟨W, hW, fs, fe, fb⟩ := fin
  have FS := Lib.hid fs
  have FE := Lib.hid fe
  have FB := Lib.hid fb
  have HW := Lib.hid hW
  clear fs fe fb hW hb hs hn e1
  generalize (if c = k then A else A.map (·.add k)) = A' at *
  go_enter Tryz.func148, Tryz.ntmps148
  go_wp2
  go_step3
  go_wp2
  refine wp_region_still_tail 16 (by kernel_rfl) (by kernel_rfl) ?_
  change wpStill _ _ w.drew (fun a' => wpList _ _ _ _ a' w.drew) _ _
  simp only [List.take_succ_cons, List.take_zero, List.drop_succ_cons, List.drop_zero]
  repeat still_step
  refine wpStill_nil ?_
  go_wp2
  rw [Exit.noGoto_ret]
  go_ret
  rw [← HW.out]
  have dr : Older W W.drew := ⟨Nat.le_refl _, fun _ _ => rfl⟩
  exact ⟨A, c, rfl, FS.out.older dr, FE.out.older dr, grown_drew FB.out⟩
end Go.Proofs.YtefnkednnnlhoaaGreatDoor

/- Package octet's reader: New, Num, Bytes, Rest, Err, Done, and what the document's own reader answers. Conditions: those that each states. -/
namespace Go.Proofs.YtefnkednnnlhoaaGreatDoor
open Go.ChangeShapes Go.WideShapes Go.ChangeAt Go.RowKit Go.Deep

theorem new_any (A : Option Addr) (n c : Nat) (l : List UInt8) (w : World) (hb : Src w A n c l) (hn : n ≤ 1000000) :
    Calls Tryz.prog 124 #[.slice A n c] w fun e w' => ∃ g, e = .returned (.pointer (some ⟨g, 0, none⟩)) ∧ EyeAt w' w.heap.size g l 0 ∧ g < w'.heap.size ∧ Below w.heap.size w w' := by
  have hl := hb.len
  subst hl
  go_enter Tryz.func124, Tryz.ntmps124
  go_wp2_with fail
  refine (clone_any A l.length c l _ hb hn).mono ?_; rintro e w1 ⟨A', c', rfl, hs, hbs, b1⟩
  have e1 : EyeAt (w1.alloc (.cells #[.slice A' l.length c', .int .i64 0] 237)) w.heap.size w1.heap.size l 0 := by
    refine ⟨b1.size, hn, A', c', Blk.new _ _ _, hs.alloc _, fun hp b o e => ?_⟩
    obtain ⟨b0, o0, e0, hlt, _⟩ := hs.lies (by rw [bys_length]; exact hp)
    rw [e0] at e
    cases e
    omega
  have E1 := Lib.hid e1
  have B1 := Lib.hid (b1.alloc b1.size (.cells #[.slice A' l.length c', .int .i64 0] 237))
  clear hs hbs b1 e1 hb
  go_wp2
  go_ret
  exact ⟨_, rfl, E1.out, by simp, B1.out⟩

/-- The number that bytes tell. -/
def numB (l : List UInt8) : Nat := l.foldl (fun a c => a * 256 + c.toNat) 0
theorem numB_snoc (l : List UInt8) (c : UInt8) : numB (l ++ [c]) = numB l * 256 + c.toNat := by simp [numB]
theorem numB_lt (l : List UInt8) : ∀ i, i ≤ l.length → numB (l.take i) < 256 ^ i
  | 0, _ => by simp [numB]
  | i + 1, hi => by
    have h1 := numB_lt l i (by omega)
    have h2 := UInt8.toNat_lt l[i]
    rw [List.take_succ_eq_append_getElem (by omega), numB_snoc, Nat.pow_succ]
    omega

set_option maxRecDepth 100000 in
set_option maxHeartbeats 1000000 in
/-- Num, out of what next hands back. -/
theorem num_from (p : Option Addr) (n : Int) (w : World) (r : List UInt8) (R : World → Prop) (hr : r.length ≤ 8)
    (hnext : Calls Tryz.prog 148 #[.pointer p, .int .i64 n, .int .i64 1, .int .i64 8] w fun e w' => ∃ A c, e = .returned (.slice A r.length c) ∧ Src w' A r.length c r ∧ R w') :
    Calls Tryz.prog 149 #[.pointer p, .int .i64 n] w fun e w' => e = .returned (.int .u64 (numB r : Int)) ∧ R w' := by
  have HN := Lib.hid hnext
  clear hnext
  go_enter Tryz.func149, Tryz.ntmps149
  go_wp2_with fail
  refine HN.out.mono ?_; rintro e w1 ⟨A, c, rfl, hs, hR⟩
  have HR := Lib.hid hR
  have HS := Lib.hid hs
  clear hR hs
  go_wp2
  go_loop [5, 7, 12] (fun n _ i => ∃ j : Nat, j ≤ r.length ∧ i = .int .i64 (j : Int) ∧ n = .int .u64 (numB (r.take j) : Int)) (fun _ _ i => r.length - (intOf i).toNat)
  case atStart => exact ⟨0, Nat.zero_le _, rfl, by simp [numB]⟩
  case round =>
    obtain ⟨j, hj, rfl, rfl⟩ := hrel
    by_cases hlt : j < r.length
    · have hlt' : (j : Int) < r.length := by omega
      have j0 : (0 : Int) ≤ j := by omega
      obtain ⟨b, o, _, rfl, _, hc⟩ := HS.out.toBytes.byte hlt
      have x2 := IntWalk.i64_in ((j : Int) + 1) (by omega)
      have hn1 := numB_lt r j hj
      have hn2 : 256 ^ j ≤ 256 ^ 7 := Nat.pow_le_pow_right (by omega) (by omega)
      have hst : numB (r.take (j + 1)) = numB (r.take j) * 256 + (r[j]).toNat := by
        rw [List.take_succ_eq_append_getElem hlt, numB_snoc]
      have hc8 := UInt8.toNat_lt r[j]
      generalize hv : (r[j]).toNat = v at *
      generalize hn : numB (r.take j) = m at *
      have hor := or256 m v hc8 (by simp at hn2; omega)
      have HST := Lib.hid hst
      clear hv hn hst
      go_wp2
      go_round
      case rel => exact ⟨j + 1, by omega, by simp, by rw [HST.out]; simp⟩
      case measure => simp [intOf]; omega
    · have hge : ¬ (j : Int) < r.length := by omega
      have hjk : j = r.length := by omega
      subst hjk
      go_wp2
      go_ret
      exact ⟨rfl, HR.out⟩

/-- Bytes, out of what next hands back. -/
theorem bytes_from (p : Option Addr) (n : Int) (w : World) (r : List UInt8) (R : World → Prop) (hr : r.length ≤ 1000000)
    (hnext : Calls Tryz.prog 148 #[.pointer p, .int .i64 n, .int .i64 0, .int .i64 n] w fun e w' => ∃ A c, e = .returned (.slice A r.length c) ∧ Src w' A r.length c r ∧ R w') :
    Calls Tryz.prog 126 #[.pointer p, .int .i64 n] w fun e w2 => ∃ A c w', e = .returned (.slice A r.length c) ∧ Src w2 A r.length c r ∧ R w' ∧ Below w'.heap.size w' w2 := by
  have HN := Lib.hid hnext
  clear hnext
  go_enter Tryz.func126, Tryz.ntmps126
  go_wp2_with fail
  refine HN.out.mono ?_; rintro e w1 ⟨A, c, rfl, hs, hR⟩
  go_wp2_with fail
  refine (clone_any A r.length c r _ hs hr).mono ?_; rintro e w2 ⟨A2, c2, rfl, hs2, _, b2⟩
  have HR := Lib.hid hR
  have HS := Lib.hid hs2
  have B2 := Lib.hid b2
  clear hR hs hs2 b2
  go_wp2
  go_ret
  exact ⟨A2, c2, w1, rfl, HS.out, HR.out, B2.out⟩

end Go.Proofs.YtefnkednnnlhoaaGreatDoor
