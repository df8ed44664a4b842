/- Package filter: what a program ends with. Conditions: those that each states. -/
import Derived.Test.YthnpalcjfgbjeaaGreatFlt3
import Derived.ScopeJumps
import Derived.StillTailTactics
namespace Go.Proofs.YthnpalcjfgbjeaaGreat
open Go.ChangeShapes Go.WideShapes Go.ChangeAt Go.RowKit Go.Deep
set_option linter.unusedVariables false
/-- A scope with one label to which the run jumps back; what stands behind the label is walked once. -/
theorem wp_scope_back {P : Program} {a : Act} {w : World} {Q : Exit → Act → World → Prop} {c b rest : Code} (l : Nat) (J : Act → World → Prop) (μ : Act → World → Nat) (hf : findLabel c l = some rest) (hr : rest = .seq .skip b)
    (pass : ∀ a w, J a w → b.wp P (Exit.jump l (fun a' w' => J a' w' ∧ μ a' w' < μ a w) Q) a w)
    (first : (∀ a w, J a w → b.wp P (Exit.jump l J Q) a w) → c.wp P (Exit.jump l J Q) a w) : (Code.scope c).wp P Q a w := by
  subst hr
  refine wp_scope_jumps l J μ hf (first fun a w h => Code.wp_mono (fun e a w h => ?_) (pass a w h)) (fun a w h => wp_seq (wp_skip ?_))
  · cases e with
    | goto l' => exact ⟨h.1, h.2.1⟩
    | _ => exact h
  · exact pass a w h
theorem Chk.at_ {p : List Ins} (h : Chk p) {i : Nat} (hi : i < p.length) : 0 ≤ p[i].code ∧ p[i].code ≤ 8 ∧ ((p[i].code = 5 ∨ p[i].code = 6) → 0 ≤ p[i].t ∧ 0 ≤ p[i].f ∧ (i : Int) + 1 + p[i].t < p.length ∧ (i : Int) + 1 + p[i].f < p.length) ∧ (p[i].code ≤ 4 → i + 1 < p.length) := by
  have h1 := h.may i hi
  have hl := h.n1
  unfold mayB leaveB asks at h1
  simp only [Bool.and_eq_true, Bool.not_eq_true', decide_eq_false_iff_not, decide_eq_true_eq] at h1
  obtain ⟨⟨⟨⟨a1, a2⟩, a3, _⟩, a4, _⟩, a5⟩ := h1
  refine ⟨by omega, by omega, fun h56 => ?_, fun h4 => ?_⟩
  · have e : (p[i].code == 5 || p[i].code == 6) = true := by simpa using h56
    rw [if_pos e] at a5
    simp only [Bool.and_eq_true, decide_eq_true_eq] at a5
    exact ⟨a3, a4, by omega, by omega⟩
  · by_cases e : i = p.length - 1
    · subst e
      have := h.last hi
      omega
    · omega
/-- One step of a program. -/
def stepF (p : List Ins) (s : List UInt8) (n i : Nat) (a : Int) (q : Ins) : Int :=
  if q.code = 0 then (match num s q.k.toNat 1 with | none => 0 | some x => runF p s n (i + 1) x)
  else if q.code = 1 then (match num s q.k.toNat 2 with | none => 0 | some x => runF p s n (i + 1) x)
  else if q.code = 2 then (match num s q.k.toNat 4 with | none => 0 | some x => runF p s n (i + 1) x)
  else if q.code = 3 then runF p s n (i + 1) (bits .and .u32 a q.k)
  else if q.code = 4 then runF p s n (i + 1) (a / 2 ^ min q.k.toNat 32)
  else if q.code = 5 then runF p s n (i + 1 + (if a = q.k then q.t else q.f).toNat) a
  else if q.code = 6 then runF p s n (i + 1 + (if a > q.k then q.t else q.f).toNat) a
  else if q.code = 7 then q.k
  else a
def stepX (p : List Ins) (s : List UInt8) (n i : Nat) (a c : Int) (kn : Nat) (k t f : Int) : Int :=
  if c = 0 then (match num s kn 1 with | none => 0 | some x => runF p s n (i + 1) x)
  else if c = 1 then (match num s kn 2 with | none => 0 | some x => runF p s n (i + 1) x)
  else if c = 2 then (match num s kn 4 with | none => 0 | some x => runF p s n (i + 1) x)
  else if c = 3 then runF p s n (i + 1) (bits .and .u32 a k)
  else if c = 4 then runF p s n (i + 1) (a / 2 ^ min kn 32)
  else if c = 5 then runF p s n (i + 1 + (if a = k then t else f).toNat) a
  else if c = 6 then runF p s n (i + 1 + (if a > k then t else f).toNat) a
  else if c = 7 then k
  else a
theorem runF_succ (p : List Ins) (s : List UInt8) (n i : Nat) (a : Int) (hi : i < p.length) : runF p s (n + 1) i a = stepX p s n i a p[i].code p[i].k.toNat p[i].k p[i].t p[i].f := by
  show (match p[i]? with | none => 0 | some q => stepF p s n i a q) = _
  rw [List.getElem?_eq_getElem hi]
  rfl
section
variable {p : List Ins} {s : List UInt8} {n i kn : Nat} {a k t f : Int}
theorem stepF_0 : stepX p s n i a 0 kn k t f = (match num s kn 1 with | none => 0 | some x => runF p s n (i + 1) x) := rfl
theorem stepF_1 : stepX p s n i a 1 kn k t f = (match num s kn 2 with | none => 0 | some x => runF p s n (i + 1) x) := rfl
theorem stepF_2 : stepX p s n i a 2 kn k t f = (match num s kn 4 with | none => 0 | some x => runF p s n (i + 1) x) := rfl
theorem stepF_3 : stepX p s n i a 3 kn k t f = runF p s n (i + 1) (bits .and .u32 a k) := rfl
theorem stepF_4 : stepX p s n i a 4 kn k t f = runF p s n (i + 1) (a / 2 ^ min kn 32) := rfl
theorem stepF_5 : stepX p s n i a 5 kn k t f = runF p s n (i + 1 + (if a = k then t else f).toNat) a := rfl
theorem stepF_6 : stepX p s n i a 6 kn k t f = runF p s n (i + 1 + (if a > k then t else f).toNat) a := rfl
theorem stepF_7 : stepX p s n i a 7 kn k t f = k := rfl
theorem stepF_8 : stepX p s n i a 8 kn k t f = a := rfl
end
theorem ret_tup {x y : Int} (h : x = y) : Ending.returned (.tuple #[.int .u32 x, .int .i64 0]) = .returned (.tuple #[.int .u32 y, .int .i64 0]) := by rw [h]
def Fr84 (u : Nat → Value) : Array Value := #[u 0, u 1, u 2, u 3, u 4, u 5, u 6, u 7, u 8, u 9, u 10, u 11, u 12, u 13, u 14, u 15, u 16, u 17, u 18, u 19, u 20, u 21, u 22, u 23, u 24, u 25, u 26, u 27, u 28, u 29, u 30, u 31, u 32, u 33, u 34, u 35, u 36, u 37, u 38, u 39, u 40, u 41, u 42, u 43, u 44, u 45, u 46, u 47, u 48, u 49, u 50, u 51, u 52, u 53, u 54, u 55, u 56, u 57, u 58, u 59, u 60, u 61, u 62, u 63, u 64, u 65, u 66, u 67, u 68, u 69, u 70, u 71, u 72, u 73, u 74, u 75, u 76, u 77, u 78, u 79, u 80, u 81, u 82, u 83]
theorem fr84 (a : Act) (hd : a.defers = []) (hz : a.tmps.size = 84) : a = { tmps := Fr84 (fun k => a.tmps.getD k undef), defers := [] } := by
  obtain ⟨⟨l⟩, d⟩ := a
  subst hd
  have hz' : l.length = 84 := hz
  have e : l = (List.range 84).map (fun k => l.getD k undef) := by
    apply List.ext_getElem
    · simp [hz']
    · intro k h1 h2
      simp [List.getD_eq_getElem?_getD, List.getElem?_eq_getElem h1]
  have e2 : (Fr84 (fun k => (List.toArray l).getD k undef)).toList = (List.range 84).map (fun k => l.getD k undef) := by
    have e3 : (fun k => (List.toArray l).getD k undef) = fun k => l.getD k undef := by funext k; rw [Array.getD_eq_getD_getElem?, List.getD_eq_getElem?_getD, List.getElem?_toArray]
    rw [e3]
    rfl
  have e4 : (⟨l⟩ : Array Value) = Fr84 (fun k => (List.toArray l).getD k undef) := by
    apply Array.ext'
    rw [e2]
    exact e
  exact congrArg (fun t => ({ tmps := t, defers := [] } : Act)) e4
end Go.Proofs.YthnpalcjfgbjeaaGreat
