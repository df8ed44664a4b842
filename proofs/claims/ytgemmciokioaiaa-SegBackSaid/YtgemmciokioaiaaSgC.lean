/- A word turned is told, in plain words (layer 17). Conditions: those that each states. -/
import Derived.Test.YtgemmciokioaiaaSgB
namespace Go.Proofs.Ytgemmciokioaiaa.Sg
open Go.ChangeShapes Go.WideShapes Go.ChangeAt Go.RowKit Go.Deep Rk Fl Gx
open Ip (tot)
set_option linter.unusedVariables false

theorem ev_set : ∀ (l : List UInt8) (j : Nat) (y : UInt8) (hj : j < l.length), (j % 2 = 0 → evs (l.set j y) + l[j].toNat = evs l + y.toNat ∧ ods (l.set j y) = ods l) ∧ (j % 2 = 1 → ods (l.set j y) + l[j].toNat = ods l + y.toNat ∧ evs (l.set j y) = evs l)
  | [], _, _, h => absurd h (by simp)
  | a :: l, 0, y, _ => by
    refine ⟨fun _ => ?_, fun h => by simp at h⟩
    simp only [List.set_cons_zero, evs, ods, List.getElem_cons_zero]
    exact ⟨by omega, trivial⟩
  | a :: l, j + 1, y, h => by
    have ih := ev_set l j y (by simpa using h)
    simp only [List.set_cons_succ, evs, ods, List.getElem_cons_succ]
    refine ⟨fun hj => ?_, fun hj => ?_⟩
    · have := ih.2 (by omega)
      omega
    · have := ih.1 (by omega)
      omega

theorem tot_set2 (b : List UInt8) (i : Nat) (he : i % 2 = 0) (h : i + 1 < b.length) (u v : UInt8) :
    tot ((b.set i u).set (i + 1) v) + ((b[i]'(by omega)).toNat * 256 + b[i + 1].toNat) = tot b + (u.toNat * 256 + v.toNat) := by
  have h1 := (ev_set b i u (by omega)).1 he
  have h2 := (ev_set (b.set i u) (i + 1) v (by simpa using h)).2 (by omega)
  rw [List.getElem_set_ne (by omega)] at h2
  unfold tot
  omega
set_option maxRecDepth 100000 in
/-- A word that becomes another one: the sum isn't right any more. -/
theorem sg_turned {P : Nat} {b : List UInt8} (hg : fo (P + tot b) = 65535) (i : Nat) (he : i % 2 = 0) (h : i + 1 < b.length) (now : Nat) (hn : now < 65535) (hw : now ≠ ((b[i]'(by omega)).toNat * 256 + b[i + 1].toNat) % 65535) :
    fo (P + tot ((b.set i (UInt8.ofNat (now / 256))).set (i + 1) (UInt8.ofNat (now % 256)))) ≠ 65535 := by
  intro h0
  have hs := tot_set2 b i he h (UInt8.ofNat (now / 256)) (UInt8.ofNat (now % 256))
  rw [UInt8.toNat_ofNat', UInt8.toNat_ofNat'] at hs
  have ee : now / 256 % 2 ^ 8 * 256 + now % 256 % 2 ^ 8 = now := by omega
  rw [ee] at hs
  rw [Ip.fo_good] at hg h0
  generalize tot ((b.set i (UInt8.ofNat (now / 256))).set (i + 1) (UInt8.ofNat (now % 256))) = t2 at *
  generalize tot b = t1 at *
  generalize (b[i]'(by omega)).toNat * 256 + b[i + 1].toNat = was at *
  clear ee
  have k1 : P + t2 + was = P + t1 + now := by omega
  clear hs
  generalize P + t2 = y2 at *
  generalize P + t1 = y1 at *
  omega
theorem sg_turned' {P : Nat} {b : List UInt8} (hg : fo (P + tot b) = 65535) (i : Nat) (he : i % 2 = 0) (h : i + 1 < b.length) (p r : Nat) (hp : ∀ h, (b[i]'h).toNat = p) (hr : ∀ h, (b[i + 1]'h).toNat = r) (now : Nat) (hn : now < 65535) (hw : now ≠ (p * 256 + r) % 65535) :
    fo (P + tot ((b.set i (UInt8.ofNat (now / 256))).set (i + 1) (UInt8.ofNat (now % 256)))) ≠ 65535 :=
  sg_turned hg i he h now hn (by rw [hp, hr]; exact hw)
end Go.Proofs.Ytgemmciokioaiaa.Sg
