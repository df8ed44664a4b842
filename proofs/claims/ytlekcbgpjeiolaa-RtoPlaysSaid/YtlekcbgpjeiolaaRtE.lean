/- Two hundred equal samples bring a wait near them. Conditions: those that each states. -/
import Derived.Test.YtlekcbgpjeiolaaRtD
import Derived.Test.YtlekcbgpjeiolaaRtO
import Derived.Test.YtlekcbgpjeiolaaTail
import Derived.Test.YtlekcbgpjeiolaaSto
namespace Go.Proofs.Ytlekcbgpjeiolaa.Rt
open Go.ChangeShapes Go.WideShapes Go.ChangeAt Go.RowKit Go.Deep
set_option linter.unusedVariables false

/-- So many samples of t. -/
def it (t : Int) : Nat → Clk → Clk
  | 0, c => c
  | n + 1, c => sampR (it t n c) t
theorem it_sm {t : Int} : ∀ (n : Nat) {c : Clk}, Sm c → Sm (it t n c)
  | 0, _, h => h
  | n + 1, _, h => sm_samp (it_sm n h) t
/-- How far the smooth time is off, behind so many samples; how a swing falls. -/
def eI : Nat → Int → Int
  | 0, e => e
  | n + 1, e => eI n e - eI n e / 8
def vI : Nat → Int → Int
  | 0, v => v
  | n + 1, v => vI n v - vI n v / 4
theorem it_far {t : Int} (ht : 0 ≤ t ∧ t ≤ 64) {c : Clk} (hb : c.b = true) (hs : Sm c) : ∀ n, (it t n c).b = true ∧ eI n (-512) ≤ (it t n c).s - 8 * t ∧ (it t n c).s - 8 * t ≤ eI n 519
  | 0 => by have := hs.s; exact ⟨hb, by show -512 ≤ c.s - 8 * t; omega, by show c.s - 8 * t ≤ 519; omega⟩
  | n + 1 => by
    obtain ⟨h1, h2, h3⟩ := it_far ht hb hs n
    have e : (it t (n + 1) c).s = (it t n c).s + (t - (it t n c).s / 8) := by
      show smoothR _ (cutR t 0 64) = _
      rw [show cutR t 0 64 = t by unfold cutR; omega]
      unfold smoothR
      rw [h1]; rfl
    refine ⟨rfl, ?_, ?_⟩
    · rw [e]; show eI n (-512) - eI n (-512) / 8 ≤ _; omega
    · rw [e]; show _ ≤ eI n 519 - eI n 519 / 8; omega
theorem it_near {t : Int} (ht : 0 ≤ t ∧ t ≤ 64) {c : Clk} (hb : c.b = true) (hs : Sm c) (h0 : 0 ≤ c.s - 8 * t ∧ c.s - 8 * t ≤ 7) : ∀ n, (it t n c).b = true ∧ (it t n c).s = c.s ∧ (it t n c).v ≤ vI n 259
  | 0 => by have := hs.v; exact ⟨hb, rfl, this.2⟩
  | n + 1 => by
    obtain ⟨h1, h2, h3⟩ := it_near ht hb hs h0 n
    have e : (it t (n + 1) c).s = (it t n c).s + (t - (it t n c).s / 8) := by
      show smoothR _ (cutR t 0 64) = _
      rw [show cutR t 0 64 = t by unfold cutR; omega]
      unfold smoothR
      rw [h1]; rfl
    have e' : (it t (n + 1) c).v = (it t n c).v - (it t n c).v / 4 + max (t - (it t n c).s / 8) (-(t - (it t n c).s / 8)) := by
      show swingR _ (cutR t 0 64) = _
      rw [show cutR t 0 64 = t by unfold cutR; omega]
      unfold swingR
      rw [h1]; rfl
    rw [h2] at e e'
    refine ⟨rfl, by rw [e]; omega, ?_⟩
    rw [e']
    show _ ≤ vI n 259 - vI n 259 / 4
    omega
theorem it_add (t : Int) (m : Nat) (c : Clk) : ∀ n, it t n (it t m c) = it t (m + n) c
  | 0 => rfl
  | n + 1 => by show sampR (it t n (it t m c)) t = _; rw [it_add t m c n]; rfl
theorem ends_ok {t : Int} (ht : 0 ≤ t ∧ t ≤ 64) {c : Clk} (hs : Sm c) : min (max t 2) 64 ≤ (it t 200 c).w ∧ (it t 200 c).w ≤ min (t + 5) 64 := by
  have s1 : Sm (it t 1 c) := it_sm 1 hs
  obtain ⟨b2, l2, u2⟩ := it_far ht (c := it t 1 c) rfl s1 99
  rw [it_add] at b2 l2 u2
  have s2 : Sm (it t (1 + 99) c) := it_sm _ hs
  have k1 : 0 ≤ eI 99 (-512) := by decide +kernel
  have k2 : eI 99 519 ≤ 7 := by decide +kernel
  obtain ⟨b3, l3, u3⟩ := it_near ht b2 s2 (by omega) 100
  rw [it_add] at b3 l3 u3
  have k3 : vI 100 259 ≤ 3 := by decide +kernel
  have k4 := (it_sm (t := t) (1 + 99 + 100) hs).v
  have e : (it t 200 c).w = cutR ((it t 200 c).s / 8 + max 1 (it t 200 c).v) 2 64 := rfl
  rw [show 1 + 99 + 100 = 200 from rfl] at l3 u3 k4
  rw [e]
  generalize (it t 200 c).s = a at *
  generalize (it t 200 c).v = v at *
  unfold cutR
  omega

theorem wp_load_d {P : Program} {o : Oper} {a : Go.Act} {w : World} {K : Go.Act → World → Prop} {Q : Exit → Go.Act → World → Prop} {t : TypeId} {x : Operand} {d : Option Tmp} (hd : o.dst = d) {y v : Value} (ho : o.op = .load t x) (hx : a.eval x = y) (h : (Instr.loadAt t y).run P w = .ok v w)
    (hk : K (a.put d v) w) : o.wp P a w K Q := by
  subst hd
  unfold Oper.wp execOp
  simp only [ho, hx, Sem.run_bind, h, Result.andThen_ok, Sem.run_pure]
  exact hk
theorem dv_load {w : World} {g : Nat} {c : Clk} (h : Blk w g 27 (dv c)) : (Instr.loadAt 27 (.pointer (some ⟨g, 0, none⟩))).run Try.prog w = .ok (.agg (dv c)) w := by
  have hh : w.heap[g]? = some (.cells (dv c) 27 (0, 0)) := h
  have := run_loadVar_row w g 27 27 (dv c) (0, 0) _ hh Try.underlying27 rfl d_info
  simp [Instr.loadAt, Instr.sureAddr, this]
theorem Own.chg {w0 w w' : World} {g : Nat} {c : Clk} {S : Nat → Prop} (h : Own w0 w g c) (k : Chg w w' S) (hn : ¬ S g) (hS : ∀ i, S i → w0.heap.size ≤ i) : Own w0 w' g c :=
  ⟨Blk.chg h.at_ k hn, h.below.trans (k.below h.below.size hS), h.own⟩
theorem Own.new {w0 w w' : World} {g : Nat} {c : Clk} (h : Own w0 w g c) (k : Below w.heap.size w w') : Own w0 w' g c := h.chg (Chg.of_new k (fun _ => False)) id (fun _ hi => hi.elim)
theorem Own.lt {w0 w : World} {g : Nat} {c : Clk} (h : Own w0 w g c) : g < w.heap.size := Blk.lt h.at_
end Go.Proofs.Ytlekcbgpjeiolaa.Rt
