/- What a push sends, in plain words. Conditions: those that each states. -/
import Derived.Test.YtldmcoagjgeeoaaTc3
namespace Go.Proofs.Ytldmcoagjgeeoaa.Tc
open Go.ChangeShapes Go.WideShapes Go.ChangeAt Go.RowKit Go.Deep Rk Rv
set_option linter.unusedVariables false
set_option linter.unusedSimpArgs false

/-- What is small, and what never was: no FIN of either side. -/
structure Ok (T : TC) : Prop where
  done : T.done = false
  shut : T.shut = false
  fin : T.fin = -1
  una : 0 ≤ T.una
  nxt : T.una ≤ T.nxt
  en : T.nxt ≤ T.en
  big : T.en ≤ 1099511627776
  win : 0 ≤ T.win ∧ T.win ≤ 65535
  mss : 1 ≤ T.mss ∧ T.mss ≤ 900
  tm : 0 ≤ T.tm ∧ T.tm ≤ 64
  tr : True
  due : -1 ≤ T.due ∧ T.due ≤ 2
  sm : Rt.Sm T.c
def limR (T : TC) : Int := min T.en (T.una + T.win)
def timeR (X : TC) : TC := if X.timed = -1 then { X with timed := X.nxt, took := 0 } else X
def advR (X : TC) (n : Int) : TC := { X with nxt := X.nxt + n }
def stepT (T : TC) (p : Int) : TC :=
  { T with due := -1, nxt := p, timed := if T.timed = -1 then T.nxt else T.timed, took := if T.timed = -1 then 0 else T.took, tm := if T.tm = 0 then T.c.w else T.tm }
def loopT (T : TC) (p : Int) : TC := if p = T.nxt then T else stepT T p
theorem loop_0 (T : TC) : loopT T T.nxt = T := if_pos rfl
theorem loop_step {T : TC} (hT : Ok T) {p n : Int} (hp : T.nxt ≤ p) (hn : 1 ≤ n) : wakeR (advR (timeR (sentR (loopT T p))) n) = loopT T (p + n) := by
  have hw := hT.sm.w
  have h0 := hT.una
  have h1 := hT.nxt
  have hne : ¬ p + n = T.nxt := by omega
  have e2 : loopT T (p + n) = stepT T (p + n) := if_neg hne
  rw [e2]
  by_cases e : p = T.nxt
  · subst e
    rw [loop_0]
    obtain ⟨st, own, peer, una, nxt, en, win, mss, om, shut, room, done, fin, tm, tr, du, timed, took, due, rest, N, xs, c⟩ := T
    dsimp only at *
    unfold timeR sentR
    dsimp only
    by_cases h2 : timed = -1
    · rw [if_pos h2]
      unfold advR wakeR armR stepT
      dsimp only
      by_cases h3 : tm = 0 <;> simp [h2, h3]
    · rw [if_neg h2]
      unfold advR wakeR armR stepT
      dsimp only
      by_cases h3 : tm = 0 <;> simp [h2, h3]
  · have e1 : loopT T p = stepT T p := if_neg e
    rw [e1]
    obtain ⟨st, own, peer, una, nxt, en, win, mss, om, shut, room, done, fin, tm, tr, du, timed, took, due, rest, N, xs, c⟩ := T
    dsimp only at *
    have h4 : ¬ (if timed = -1 then nxt else timed) = -1 := by split <;> omega
    have h5 : ¬ (if tm = 0 then c.w else tm) = 0 := by split <;> omega
    unfold timeR sentR stepT
    dsimp only
    rw [if_neg h4]
    unfold advR wakeR armR
    dsimp only
    rw [if_neg h5]
/-- The pieces that a push sends, up to a place. -/
inductive Ch (T : TC) (o : OutV) : Int → List OutV → Prop
  | nil : Ch T o T.nxt []
  | snoc {p : Int} {l : List OutV} : Ch T o p l → p < limR T → Ch T o (p + min T.mss (limR T - p)) (l ++ [withR T o p (min T.mss (limR T - p))])
theorem Ch.le {T : TC} {o : OutV} {p : Int} {l : List OutV} (h : Ch T o p l) (hm : 1 ≤ T.mss) : (l.length : Int) ≤ p - T.nxt ∧ (p ≤ limR T ∨ p = T.nxt) := by
  induction h with
  | nil => simp
  | snoc h hp ih =>
    rw [List.length_append]
    simp only [List.length_cons, List.length_nil]
    omega
theorem with_loop (T : TC) (q p n : Int) (o : OutV) : withR (loopT T q) o p n = withR T o p n := by
  unfold loopT; split <;> rfl
def pushT (T : TC) : TC := if T.nxt < limR T then loopT T (limR T) else if T.nxt < T.en ∧ T.una = T.nxt then wakeR T else T
/-- All that a push sends. -/
def Pushed (T : TC) (l : List OutV) : Prop := (¬ T.nxt < limR T ∧ l = []) ∨ (T.nxt < limR T ∧ Ch T (plainR T) (limR T) l)

theorem out_load {w : World} {g : Nat} {o : OutV} (h : Blk w g 55 (outA o)) : (Instr.loadAt 55 (.pointer (some ⟨g, 0, none⟩))).run Try.prog w = .ok (.agg (outA o)) w := by
  have := run_loadVar_row (P := Try.prog) w g 55 55 (outA o) (0, 0) _ h Try.underlying55 rfl out_info
  simp only [Instr.loadAt, Instr.sureAddr, Sem.run_bind, Sem.run_pure, Result.andThen_ok]
  exact this
/-- The facts on a connection's block that a walk wants. -/
theorem loop_f (T : TC) (p : Int) : (loopT T p).nxt = p ∧ (loopT T p).st = T.st ∧ (loopT T p).una = T.una ∧ (loopT T p).en = T.en ∧ (loopT T p).win = T.win ∧ (loopT T p).mss = T.mss ∧ (loopT T p).shut = T.shut ∧ (loopT T p).done = T.done := by
  unfold loopT
  split
  · rename_i e; exact ⟨e.symm, rfl, rfl, rfl, rfl, rfl, rfl, rfl⟩
  · exact ⟨rfl, rfl, rfl, rfl, rfl, rfl, rfl, rfl⟩
end Go.Proofs.Ytldmcoagjgeeoaa.Tc
