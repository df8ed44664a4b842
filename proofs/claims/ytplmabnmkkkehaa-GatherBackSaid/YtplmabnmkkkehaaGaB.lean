/- What GatherBack wants beside: parts of slices of bytes, tables without holds, good lists. Conditions: those that each states. -/
import Derived.Test.YtplmabnmkkkehaaGaH
namespace Go.Proofs.Ytplmabnmkkkehaa
open Go.ChangeShapes Go.WideShapes Go.ChangeAt Go.RowKit Go.Deep Fr
set_option linter.unusedVariables false

theorem u8_under : Try.prog.underlying 44 = some (.slice (Try.prog.elem 44)) := by kernel_rfl
theorem u8_elem : (Try.prog.info? (Try.prog.elem 44)).map (·.size) = some 1 := by kernel_rfl
/-- 'b[:x]' of bytes. -/
theorem run_front_u8 (A : Option Addr) (n c : Nat) (x : Int) (h0 : 0 ≤ x) (hx : x ≤ c) (W : World) :
    (Instr.slice 44 (.slice A n c) none (some (.int .i64 x)) none).run Try.prog W = .ok (.slice A x.toNat c) W := by
  obtain ⟨i, hi, hs⟩ := Option.map_eq_some_iff.1 u8_elem
  rw [run_slice_h W 44 A n c u8_under .i64 x h0 hx]
  have hz : (sizeOf (Try.prog.elem 44)).run Try.prog W = .ok i.size W := by simp [sizeOf, typeInfo, hi]
  rw [hz]
  simp only [Result.andThen_ok, sliced]
  cases A with
  | none => simp
  | some a => simp [Addr.add]
/-- 'b[a:a+n]' of bytes. -/
theorem run_sub_u8 (A : Option Addr) (len c a n : Nat) (hx : a + n ≤ c) (W : World) :
    (Instr.slice 44 (.slice A len c) (some (.int .i64 (a : Int))) (some (.int .i64 ((a : Int) + (n : Int)))) none).run Try.prog W = .ok (.slice (if c = a then A else A.map (·.add a)) n (c - a)) W := by
  obtain ⟨i, hi, hs⟩ := Option.map_eq_some_iff.1 u8_elem
  rw [run_slice_lh W 44 A len c u8_under .i64 .i64 (a : Int) ((a : Int) + (n : Int)) (by omega) (by omega) (by omega)]
  have hz : (sizeOf (Try.prog.elem 44)).run Try.prog W = .ok i.size W := by simp [sizeOf, typeInfo, hi]
  rw [hz]
  have e1 : ((a : Int) + (n : Int)).toNat = a + n := by omega
  simp [sliced, hs, e1]
theorem Src.front {w : World} {A : Option Addr} {n c k : Nat} {l : List UInt8} (h : Src w A n c l) (hk : k ≤ n) : Src w A k c (l.take k) := ⟨h.toBytes.take hk, h.none_⟩
theorem Src.sub {w : World} {A : Option Addr} {n c a b : Nat} {l : List UInt8} (h : Src w A n c l) (hk : a + b ≤ n) : Src w (if c = a then A else A.map (·.add a)) b (c - a) ((l.drop a).take b) := by
  refine ⟨(h.toBytes.cut (by omega)).take (by omega), fun e => ?_⟩
  split at e
  · rename_i h1
    omega
  · cases A with
    | none => have := h.none_ rfl; omega
    | some x => cases e
/-- Three frames without holds. -/
def Idle (ps : List Pg) : Prop := ps.length = 3 ∧ ∀ p ∈ ps, p.holds = 0
theorem Idle.pg {ps : List Pg} (h : Idle ps) (f : Int) : (pg ps f).holds = 0 := by
  unfold Fr.pg
  by_cases hf : f.toNat < ps.length
  · rw [List.getD_eq_getElem?_getD, List.getElem?_eq_getElem hf]
    exact h.2 _ (List.getElem_mem hf)
  · rw [List.getD_eq_getElem?_getD, List.getElem?_eq_none (by omega)]
    rfl
theorem Idle.set {ps : List Pg} (h : Idle ps) (k : Nat) (p : Pg) (hp : p.holds = 0) : Idle (ps.set k p) := by
  refine ⟨by rw [List.length_set]; exact h.1, fun q hq => ?_⟩
  rcases List.mem_or_eq_of_mem_set hq with h1 | rfl
  · exact h.2 q h1
  · exact hp
theorem Idle.alloc {ps : List Pg} (h : Idle ps) (env : Int) : Idle (allocR ps env).1 := by
  unfold allocR
  split
  · split
    · exact h.set _ _ (h.pg _)
    · exact h
  · exact h
theorem Idle.write {ps : List Pg} (h : Idle ps) (env f off : Int) (s : List UInt8) : Idle (writeR ps env f off s).1 := by
  unfold writeR
  split
  · split
    · split
      · exact h.set _ _ (h.pg _)
      · exact h
    · exact h
  · exact h
theorem Idle.blank : Idle (List.replicate 3 Pg.blank) := ⟨rfl, fun p hp => by rw [(List.mem_replicate.1 hp).2]; rfl⟩
theorem Idle.holdsV {ps : List Pg} (h : Idle ps) (f : Int) : holdsV ps f = 0 := by
  unfold Go.Proofs.Ytplmabnmkkkehaa.holdsV
  split
  · rw [h.pg]; rfl
  · rfl
theorem cutL_okb {l : List Pc} (h : ∀ p ∈ l, p.Good) (hok : ∀ p ∈ l, p.Ok) (a n : Nat) : ∀ q ∈ cutL l a n, q.Ok := by
  intro q hq
  obtain ⟨h1, h2, p, hp, e⟩ := cutL_in (fun p hp => (h p hp).2.2) a n q hq
  obtain ⟨g1, g2, g3, g4, g5⟩ := h1
  exact ⟨by rw [e]; exact (hok p hp).frame, by omega, by omega⟩
/-- A list that is held: all that is asked of it. -/
structure HeldL (ps rs : List Pg) (l : List Pc) : Prop where
  own : ∀ p ∈ l, ownErr ps 1 p.frame = 0
  good : ∀ p ∈ l, p.Good
  gets : ∀ p ∈ l, p.Gets rs
  full : ∀ p ∈ l, (txt rs p.frame).length = 256
  size : sizeR l = (total l : Int)
  max : total l ≤ 1024
theorem heldL {ps : List Pg} {l : List Pc} (hi : Idle ps) (ht : ∀ p ∈ ps, p.text.length = 256) (hc : checkR ps 1 l = 0) : HeldL ps (holdN ps 1 l) l := by
  obtain ⟨hf, ho⟩ := check_zero hc
  obtain ⟨_, _, hall, _, h16⟩ := fits_of_zero hf
  have hT := holdN_turned l ho (Turned.refl ps)
  have hmax : sizeR l = (total l : Int) ∧ total l ≤ 1024 := by
    unfold sizeR at h16 ⊢
    split
    · rename_i h; rw [if_pos h] at h16; omega
    · rename_i h; rw [if_neg h] at h16; exact ⟨rfl, by omega⟩
  have hF : ∀ p ∈ l, isF ps p.frame := fun p hp => by obtain ⟨_, _, h3, h4⟩ := hall p hp; exact ⟨h3, h4⟩
  refine ⟨ho, fun p hp => ?_, fun p hp => ?_, fun p hp => ?_, hmax.1, hmax.2⟩
  · obtain ⟨_, h2, h3, h4⟩ := hall p hp
    have := hi.1
    exact ⟨h3, by omega, h2⟩
  · obtain ⟨_, h2, _, _⟩ := hall p hp
    refine ⟨⟨(hT.isF _).2 (hF p hp), ?_⟩, ?_⟩
    · rw [hT.pg (hF p hp)]
      obtain ⟨k, hk, ek⟩ := isF_nat (hF p hp)
      show (ps.getD p.frame.toNat Pg.blank).holds + cnt l ((p.frame.toNat : Nat) : Int) ≠ 0
      have e : ((p.frame.toNat : Nat) : Int) = p.frame := by omega
      rw [e]
      have : 0 < cnt l p.frame := by
        unfold cnt
        rw [List.countP_pos_iff]
        exact ⟨p, hp, by simp⟩
      omega
    · obtain ⟨g1, g2, g3, g4, g5⟩ := h2
      exact ⟨g1, g3, g5⟩
  · unfold txt
    rw [hT.pg (hF p hp)]
    obtain ⟨k, hk, ek⟩ := isF_nat (hF p hp)
    show (pg ps p.frame).text.length = 256
    rw [ek, pg_at hk]
    exact ht _ (List.getElem_mem hk)
theorem HeldL.fetch {ps rs : List Pg} {l : List Pc} (h : HeldL ps rs l) : fetchG rs l = (gatherB (txt rs) l, 0) := by unfold fetchG; rw [if_pos h.gets]
theorem HeldL.length {ps rs : List Pg} {l : List Pc} (h : HeldL ps rs l) : (gatherB (txt rs) l).length = total l := gatherB_length h.full (fun p hp => (h.good p hp).2.2)
theorem HeldL.cut {ps rs : List Pg} {l : List Pc} (h : HeldL ps rs l) (a n : Nat) : fetchG rs (cutL l a n) = (((gatherB (txt rs) l).drop a).take n, 0) := by
  have hg : ∀ p ∈ cutL l a n, p.Gets rs := fun q hq => by
    obtain ⟨h1, h2, p, hp, e⟩ := cutL_in (fun p hp => (h.good p hp).2.2) a n q hq
    obtain ⟨g1, g2, g3, g4, g5⟩ := h1
    exact ⟨by rw [e]; exact (h.gets p hp).1, ⟨g1, g3, g5⟩⟩
  unfold fetchG
  rw [if_pos hg, gatherB_cut h.full (fun p hp => (h.good p hp).2.2)]
theorem HeldL.cutL {ps rs : List Pg} {l : List Pc} (h : HeldL ps rs l) (hok : ∀ p ∈ l, p.Ok) (hl : l.length ≤ 100) (A : Option Addr) (c : Nat) (W : World) (a n : Nat) (hp : Pcs W A l) (han : a + n ≤ total l) :
    Calls Try.prog 28 #[.slice A l.length c, .int .i64 (a : Int), .int .i64 (n : Int)] W fun e w' => ∃ A' c' L, e = .returned (.tuple #[.slice A' (L : List Pc).length c', .int .i64 0]) ∧ Pcs w' A' L ∧ (∀ p ∈ L, p.Ok) ∧ L.length ≤ 100 ∧ fetchG rs L = (((gatherB (txt rs) l).drop a).take n, 0) ∧ Below W.heap.size W w' := by
  have hm := h.max
  refine (cut_any A c l a n W hp hok (by omega) (by omega) (by omega)).mono ?_
  rintro e w' ⟨hh, hb⟩
  rcases hh with ⟨_, A', c', e1, p1⟩ | ⟨hn, _⟩
  · have hlen := cutL_len l (a : Int).toNat (n : Int).toNat
    exact ⟨A', c', _, e1, p1, cutL_okb h.good hok _ _, by omega, by rw [Int.toNat_natCast, Int.toNat_natCast]; exact h.cut a n, hb⟩
  · exact absurd ⟨h.good, by omega, by omega, by rw [h.size]; omega⟩ hn
end Go.Proofs.Ytplmabnmkkkehaa
