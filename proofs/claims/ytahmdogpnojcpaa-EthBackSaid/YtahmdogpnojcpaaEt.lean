/- Package eth's 'put': pairs of a number and its width, written one behind the other; its head of a packet; and what a packet's bytes are, in plain words. Conditions: those that each states. -/
import Derived.Test.YtahmdogpnojcpaaRk0
import Derived.Test.YtahmdogpnojcpaaTk
import Derived.Test.YtahmdogpnojcpaaRow
import Derived.Test.YtahmdogpnojcpaaTail
import Derived.BigQuiet
import Derived.Deep.Cut
import Derived.Deep.DeepCutAuto
namespace Go.Proofs.Ytahmdogpnojcpaa.Et
open Go.ChangeShapes Go.WideShapes Go.ChangeAt Go.RowKit Go.Deep Rk
set_option linter.unusedVariables false

/-- Numbers in their widths, one behind the other. -/
def putL : List (Nat × Nat) → List UInt8
  | [] => []
  | p :: r => be p.1 p.2 ++ putL r
def putMay (ps : List (Nat × Nat)) : Bool := ps.all fun p => decide (p.1 < 256 ^ p.2)
def vp (ps : List (Nat × Nat)) : List Value := ps.flatMap fun p => [.int .u64 (p.1 : Int), .int .i64 (p.2 : Int)]
theorem vp_length (ps : List (Nat × Nat)) : (vp ps).length = ps.length * 2 := by
  induction ps with
  | nil => rfl
  | cons p r ih => simp only [vp, List.flatMap_cons, List.length_append, List.length_cons, List.length_nil] at ih ⊢; omega
theorem vp_get : ∀ (ps : List (Nat × Nat)) (j : Nat) (hj : j < ps.length), (vp ps)[j * 2]? = some (.int .u64 (ps[j].1 : Int)) ∧ (vp ps)[j * 2 + 1]? = some (.int .i64 (ps[j].2 : Int))
  | [], j, h => absurd h (by simp)
  | p :: r, 0, _ => ⟨rfl, rfl⟩
  | p :: r, j + 1, h => by
    obtain ⟨h1, h2⟩ := vp_get r j (by simpa using h)
    have e : vp (p :: r) = .int .u64 (p.1 : Int) :: .int .i64 (p.2 : Int) :: vp r := rfl
    rw [e, show (j + 1) * 2 = j * 2 + 1 + 1 from by omega]
    simp only [List.getElem?_cons_succ, List.getElem_cons_succ]
    exact ⟨h1, h2⟩
theorem putL_append : ∀ a b : List (Nat × Nat), putL (a ++ b) = putL a ++ putL b
  | [], b => rfl
  | p :: r, b => by simp [putL, putL_append r b]
theorem putMay_snoc (a : List (Nat × Nat)) (p : Nat × Nat) : putMay (a ++ [p]) = (putMay a && decide (p.1 < 256 ^ p.2)) := by simp [putMay]

theorem rowG_blk {w : World} {g n sz : Nat} {t : TypeId} {cs : Array Value} (h : Blk w g t cs) (hs : cs.size = n * sz) (hn : n ≤ maxLen) : RowG w sz (some ⟨g, 0, none⟩) n n cs.toList := by
  refine ⟨by simpa using hs, Nat.le_refl _, hn, fun e => (by cases e), fun a e _ => ?_⟩
  cases e
  refine ⟨rfl, h.lt, fun j hj => ?_⟩
  rw [Nat.zero_add, h.cell j]
  simp at hj
  simp [hj]

theorem pair_cells {w : World} {A : Option Addr} {c : Nat} {l : List (Nat × Nat)} (h : RowG w 2 A l.length c (vp l)) {j : Nat} (hj : j < l.length) :
    ∃ b o, A = some ⟨b, o, none⟩ ∧ b < w.heap.size ∧ w.cell? ⟨b, o + j * 2, none⟩ = some (.int .u64 (l[j].1 : Int)) ∧ w.cell? ⟨b, o + j * 2 + 1, none⟩ = some (.int .i64 (l[j].2 : Int)) := by
  have hl := vp_length l
  obtain ⟨g1, g2⟩ := vp_get l j hj
  obtain ⟨b, o, rfl, hb, c0⟩ := h.cell (j := j * 2) (by omega)
  obtain ⟨b', o', e, _, c1⟩ := h.cell (j := j * 2 + 1) (by omega)
  cases e
  rw [List.getElem?_eq_getElem (by omega)] at g1 g2
  injection g1 with g1
  injection g2 with g2
  rw [g1] at c0
  rw [g2] at c1
  exact ⟨b, o, rfl, hb, c0, by rw [Nat.add_assoc]; exact c1⟩

theorem ownB_mono {w : World} {B B' g n c : Nat} {l : List UInt8} (h : OwnB w B g n c l) (hb : B' ≤ B) : OwnB w B' g n c l := ⟨owns_mono h.own hb, Nat.le_trans hb h.base, h.lt, h.cap, h.max⟩

/-- What is told of a call that tells bytes and an error: the bytes where it may, else none and that error. -/
def Told (w w' : World) (e : Ending) (may : Bool) (l : List UInt8) (er : Int) : Prop :=
  (may = false ∧ e = .returned (.tuple #[.slice none 0 0, .int .i64 er])) ∨ (may = true ∧ ∃ g c, e = .returned (.tuple #[.slice (some ⟨g, 0, none⟩) l.length c, .int .i64 0]) ∧ OwnB w' w.heap.size g l.length c l)

theorem Told.base {w W w' : World} {e : Ending} {may : Bool} {l : List UInt8} {er : Int} (h : Told W w' e may l er) (k : w.heap.size ≤ W.heap.size) : Told w w' e may l er := by
  rcases h with h | ⟨h, g, c, e1, o⟩
  · exact .inl h
  · exact .inr ⟨h, g, c, e1, ownB_mono o k⟩

set_option maxRecDepth 100000 in
set_option maxHeartbeats 2000000 in
theorem put_any (A : Option Addr) (c : Nat) (ps : List (Nat × Nat)) (w : World) (h : RowG w 2 A ps.length c (vp ps)) (hp : ∀ p ∈ ps, p.1 ≤ 18446744073709551615 ∧ 1 ≤ p.2 ∧ p.2 ≤ 8) (h0 : 0 < ps.length) (h9 : ps.length ≤ 100) :
    Calls Try.prog 25 #[.slice A ps.length c] w fun e w' => Told w w' e (putMay ps) (putL ps) 1 ∧ Below w.heap.size w w' := by
  have H := Lib.hid h
  have HP := Lib.hid hp
  clear h hp
  go_enter Try.func25, Try.ntmps25
  go_wp2
  go_loopw [4, 5, 10] (fun b e i wr => ∃ (j : Nat) (A' : Option Addr) (n' c' : Nat), j ≤ ps.length ∧ i = .int .i64 (j : Int) ∧ e = .int .i64 0 ∧ b = .slice A' n' c' ∧ Hid (putMay (ps.take j) = true) ∧ Hid (n' ≤ 8 * j) ∧ Hid (Src wr A' n' c' (putL (ps.take j))) ∧ Hid (0 < j → ∃ g, A' = some ⟨g, 0, none⟩ ∧ OwnB wr w.heap.size g n' c' (putL (ps.take j))) ∧ Hid (Below w.heap.size w wr)) (fun _ _ i _ => ps.length - (intOf i).toNat)
  case atStart => exact ⟨0, none, 0, 0, Nat.zero_le _, rfl, rfl, rfl, Lib.hid rfl, Lib.hid (by omega), Lib.hid (Src.nil _), Lib.hid (fun h => absurd h (by omega)), Lib.hid (Below.refl _ _)⟩
  case round =>
    obtain ⟨j, A', n', c', hj, rfl, rfl, rfl, MAY, LE, SR, OW, BL⟩ := hrel
    by_cases hlt : j < ps.length
    · have hlt' : (j : Int) < (ps.length : Int) := by omega
      have j0 : (0 : Int) ≤ (j : Int) := by omega
      have xj := IntWalk.i64_in ((j : Int) + 1) (by omega)
      obtain ⟨q1, q2, q3⟩ := HP.out ps[j] (List.getElem_mem hlt)
      obtain ⟨b, o, rfl, hb, c0, c1⟩ := pair_cells (H.out.new BL.out) hlt
      have TK := Lib.hid (show putL (ps.take (j + 1)) = putL (ps.take j) ++ be ps[j].1 ps[j].2 from by rw [List.take_succ_eq_append_getElem hlt, putL_append]; simp [putL])
      have TM := Lib.hid (show putMay (ps.take (j + 1)) = (putMay (ps.take j) && decide (ps[j].1 < 256 ^ ps[j].2)) from by rw [List.take_succ_eq_append_getElem hlt, putMay_snoc])
      have TF := Lib.hid (show ¬ ps[j].1 < 256 ^ ps[j].2 → putMay ps = false from fun hn => by
        unfold putMay
        rw [List.all_eq_false]
        exact ⟨ps[j], List.getElem_mem hlt, by simpa using hn⟩)
      generalize ps[j].1 = a at *
      generalize ps[j].2 = k at *
      have BA := Lib.hid (BL.out.alloc BL.out.size (.cells #[.int .u64 (a : Int), .int .i64 (k : Int)] 66))
      have SA := Lib.hid (SR.out.alloc (.cells #[.int .u64 (a : Int), .int .i64 (k : Int)] 66))
      have ln := LE.out
      by_cases hf : a < 256 ^ k
      · have PO := Lib.hid (put_ok A' n' c' _ a k _ SA.out (by omega) q1 q2 q3 hf)
        clear TF SA SR
        go_wp2_with fail
        refine PO.out.mono ?_; rintro e w' ⟨g, c2, rfl, o2, b2⟩
        have B2 := Lib.hid (BA.out.trans (b2.mono BA.out.size))
        have O2 := Lib.hid (ownB_mono o2 BA.out.size)
        clear PO o2 b2 c0 c1
        go_wp2
        go_roundw
        case rel =>
          refine ⟨j + 1, _, n' + k, c2, by omega, by go_num, rfl, rfl, Lib.hid ?_, Lib.hid (by omega), Lib.hid ?_, Lib.hid (fun _ => ⟨g, rfl, ?_⟩), B2⟩
          · rw [TM.out, MAY.out]; simpa using hf
          · rw [TK.out]; exact O2.out.src
          · rw [TK.out]; exact O2.out
        case measure => simp [intOf]; omega
      · have PB := Lib.hid (fun W => put_big A' n' c' a k W q1 q2 q3 hf)
        have T := TF.out hf
        clear TF SA SR TK TM
        go_wp2_with fail
        refine (PB.out _).mono ?_; rintro e w' ⟨rfl, rfl⟩
        clear PB c0 c1
        go_wp2
        go_ret2
        exact ⟨.inl ⟨T, rfl⟩, BA.out⟩
    · have hlt' : ¬ (j : Int) < (ps.length : Int) := by omega
      obtain rfl : j = ps.length := by omega
      obtain ⟨g, rfl, O⟩ := OW.out (by omega)
      have M := MAY.out
      rw [List.take_length] at O M
      have L := O.bytes.len
      subst L
      have OO := Lib.hid O
      have M := Lib.hid M
      clear O SR OW
      go_wp2
      go_ret2
      exact ⟨.inr ⟨by first | rfl | exact M.out, g, c', rfl, OO.out⟩, BL.out⟩
end Go.Proofs.Ytahmdogpnojcpaa.Et
