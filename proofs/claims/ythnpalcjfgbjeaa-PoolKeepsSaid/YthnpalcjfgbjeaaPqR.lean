/- PoolKeeps' pool in memory, with the steps that come in and the table that was told. Conditions: those that each states. -/
import Derived.Test.YthnpalcjfgbjeaaPqI
namespace Go.Proofs.Ythnpalcjfgbjeaa.Pq
open Go.ChangeShapes Go.WideShapes Go.ChangeAt Go.RowKit Go.Deep Fr Di Ke Po Rk Gx
set_option linter.unusedVariables false

theorem rowG_chg {w w' : World} {sz n c : Nat} {A : Option Addr} {xs : List Value} {S : Nat → Prop} (h : RowG w sz A n c xs) (k : Chg w w' S) (hn : ∀ a, A = some a → 0 < n → ¬ S a.block) : RowG w' sz A n c xs := by
  refine ⟨h.len, h.cap, h.max, h.none_, fun a e h0 => ?_⟩
  obtain ⟨h3, h1, h2⟩ := h.at_ a e h0
  refine ⟨h3, Nat.lt_of_lt_of_le h1 k.size, fun j hj => ?_⟩
  rw [World.cell?_of_block (w := w) (w' := w') (a := ⟨a.block, a.off + j, none⟩) (k.block a.block h1 (hn a e h0))]
  exact h2 j hj
structure Run (B : Nat) (W0 w : World) (lab : Nat → Nat) (g gk gs c gt : Nat) (P : Po) (st : Int → Bool) (N : Nat) (s : List UInt8) (A : Option Addr) (c' : Nat) (l : List PAct) : Prop where
  pb : PB B w lab g gk gs c P
  tb : w.cell? ⟨gk, 0, none⟩ = some (.pointer (some ⟨gt, 0, none⟩))
  ki : KI P s st N
  ro : RowG w 7 A l.length c' (l.flatMap PAct.cells)
  lo : ∀ a, A = some a → 0 < l.length → a.block < B
  hB : B ≤ w.heap.size
  be : Below B W0 w
section
variable {B : Nat} {W0 w w' : World} {lab lab' : Nat → Nat} {g gk gs c gt : Nat} {P P' : Po} {st st' : Int → Bool} {N M : Nat} {s : List UInt8} {A : Option Addr} {c' : Nat} {l : List PAct}
theorem Run.zero (h : Run B W0 w lab g gk gs c gt P st N s A c' l) {a : Addr} (ha : A = some a) (hl : 0 < l.length) : lab a.block = 0 := by
  by_cases h0 : lab a.block = 0
  · exact h0
  · have := h.pb.kb.ge _ h0
    have := h.lo a ha hl
    omega
theorem KB.head1 {K : Kn} (h : KB B w lab gk K) : lab gk = 1 ∧ gk < w.heap.size := by
  obtain ⟨a, ha⟩ := h.ka
  exact ⟨ha.lg, ha.head.lt⟩
theorem Run.step (h : Run B W0 w lab g gk gs c gt P st N s A c' l) (k : PStep w w' lab lab') (pb : PB B w' lab' g gk gs c P') (ki : KI P' s st' M) : Run B W0 w' lab' g gk gs c gt P' st' M s A c' l :=
  ⟨pb, (k.hd gk (KB.head1 h.pb.kb).1 (KB.head1 h.pb.kb).2).1.trans h.tb, ki, rowG_chg h.ro k.chg (fun a e h0 hf => hf (h.zero e h0)), h.lo, Nat.le_trans h.hB k.chg.size, h.be.trans (PStep.below h.pb h.hB k)⟩
theorem Run.new (h : Run B W0 w lab g gk gs c gt P st N s A c' l) (k : Below w.heap.size w w') : Run B W0 w' lab g gk gs c gt P st N s A c' l :=
  h.step (PStep.news lab k) (h.pb.new k) h.ki
/-- A call to the kernel itself. -/
theorem Run.call {K' : Kn} (h : Run B W0 w lab g gk gs c gt P st N s A c' l) (L : LStep w w' lab lab') (kb : KB B w' lab' gk K') (ki : KI { P with K := K' } s st' M) : Run B W0 w' lab' g gk gs c gt { P with K := K' } st' M s A c' l :=
  h.step (PStep.ofL L) ⟨kb, PoAt.step h.pb.po L K'⟩ ki
theorem Run.below (h : Run B W0 w lab g gk gs c gt P st N s A c' l) (k : PStep w w' lab lab') : Below B w w' := PStep.below h.pb h.hB k
/-- The table that was told is the kernel's. -/
theorem Run.tab (h : Run B W0 w lab g gk gs c gt P st N s A c' l) : ∃ gs', Fr.Tab w gs' gt P.K.ps := by
  obtain ⟨a, ha⟩ := h.pb.kb.ka
  have e := (ha.head.cell 0).trans (show _ = some (.pointer (some ⟨a.gt, 0, none⟩)) from rfl)
  rw [h.tb] at e
  cases e
  exact ⟨a.gs, ha.tab⟩
theorem Run.few (h : Run B W0 w lab g gk gs c gt P st N s A c' l) (hn : N < 1000000) : (∀ z ∈ P.sl, z.pins < 1000000) ∧ P.fills < 1000000 := ⟨h.ki.few hn, by have := h.ki.fi; omega⟩
theorem Run.up (h : Run B W0 w lab g gk gs c gt P st N s A c' l) (hm : N ≤ M) (hs : ∀ b, st b = true → st' b = true) : Run B W0 w lab g gk gs c gt P st' M s A c' l := ⟨h.pb, h.tb, (h.ki.more hm).stale hs, h.ro, h.lo, h.hB, h.be⟩
theorem far_len {l : List PAct} (h : farB l = false) : ∀ q ∈ l, q.s.length ≤ 1000 := fun q hq => by
  unfold farB at h
  rw [Bool.or_eq_false_iff] at h
  have h1 := List.any_eq_false.1 h.2 q hq
  unfold farA at h1
  simp at h1
  exact h1.1.1.1.1
theorem KB.lt {K : Kn} (h : KB B w lab gk K) {k : Nat} (hk : on lab k) : k < w.heap.size := by
  obtain ⟨a, ha⟩ := h.ka
  exact ha.all k hk
theorem tl_ne {T U : ByteArray} (h : ¬ T = U) : (T.toList == U.toList) = false := by
  rw [beq_eq_false_iff_ne]
  intro e
  apply h
  rw [ByteArray.toList_eq, ByteArray.toList_eq] at e
  cases T; cases U
  simpa using e
theorem act_elem : (Try.prog.info? (Try.prog.elem 22)).map (·.size) = some 7 := by kernel_rfl
theorem act_under : Try.prog.underlying 22 = some (.slice (Try.prog.elem 22)) := by kernel_rfl
theorem run_front_acts (A : Option Addr) (c n k : Nat) (hk : k ≤ n) (hn : n ≤ c) (W : World) :
    (Instr.sliceAt 22 (.slice A n c) none (some (.int .i64 (k : Int))) none).run Try.prog W = .ok (.slice A k c) W := by
  obtain ⟨i, hi, hs⟩ := Option.map_eq_some_iff.1 act_elem
  rw [run_sliceAt_slice (P := Try.prog) (w := W) 22 (.slice A n c) none (some (.int .i64 (k : Int))) none act_under]
  rw [run_slice_h W 22 A n c act_under .i64 (k : Int) (by omega) (by omega)]
  have hz : (sizeOf (Try.prog.elem 22)).run Try.prog W = .ok i.size W := by simp [sizeOf, typeInfo, hi]
  rw [hz]
  simp only [Result.andThen_ok, sliced]
  cases A with
  | none => simp
  | some a => simp [Addr.add]
theorem act_info : (Try.prog.info? 41).map (·.size) = some 7 := by kernel_rfl
end
end Go.Proofs.Ythnpalcjfgbjeaa.Pq
