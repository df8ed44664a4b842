/- A kernel whose first filter takes every packet, and what it counts, in plain words. Conditions: those that each states. -/
import Derived.Test.YtlilfblnlpjkcaaKS
namespace Go.Proofs.Ytlilfblnlpjkcaa.Ke
open Go.ChangeShapes Go.WideShapes Go.ChangeAt Go.RowKit Go.Deep Fr Di
set_option linter.unusedVariables false
/-- The program of one step that takes every packet. -/
def allP : List Ins := [⟨7, 1, 0, 0⟩]
theorem allP_ok : ∀ q ∈ allP, q.Ok := by
  intro q hq
  have : q = ⟨7, 1, 0, 0⟩ := by simpa [allP] using hq
  subst this
  exact ⟨⟨by decide, by decide⟩, ⟨by decide, by decide⟩, ⟨by decide, by decide⟩, ⟨by decide, by decide⟩⟩
theorem allP_run (s : List UInt8) : runP allP s = 1 := rfl
theorem allP_chk : chkB allP = true := by decide
def allF : Fil := ⟨0, 1, allP⟩
theorem wants_all (s : List UInt8) : wants s allF = true := by
  unfold wants
  show decide (runP allP s ≠ 0) = true
  rw [allP_run]; rfl
/-- Frames and blocks with the one filter. -/
def cK (K : Kn) : Kn := { K with fs := [allF], next := 1 }
theorem bind_all (K : Kn) (h1 : K.fs = []) (h2 : K.next = 0) : bindR K 1 allP = (cK K, 0, 0) := by
  unfold bindR
  rw [h1, if_neg (by simp), if_pos allP_chk, h2]
  rfl
theorem cK_call : callR (newK 4 8) ⟨9, 1, 0, 0, 0, [], allP, []⟩ = (cK (newK 4 8), 0, [], 0) := by
  have h := callR_9 (newK 4 8) 1 (.inl rfl) 0 0 0 [] allP []
  rw [bind_all (newK 4 8) rfl rfl] at h
  exact h
/-- What the law counts: what came for environment 1, how many transfers there were, how many are done. -/
structure Cnt (came : List (List UInt8)) (next done : Nat) (K : Kn) : Prop where
  fs : K.fs = [allF]
  i1 : K.i1 = came
  nx : K.f3 + K.out.length = next
  dn : K.done = done
theorem cnt_new : Cnt [] 0 0 (cK (newK 4 8)) := ⟨rfl, rfl, rfl, rfl⟩
theorem Cnt.le {came : List (List UInt8)} {next done : Nat} {K : Kn} (h : Cnt came next done K) (ok : K.Ok) : done ≤ next := by
  have := ok.f3; have := h.nx; have := h.dn
  omega
theorem cnt_eq {came : List (List UInt8)} {next done : Nat} {K K' : Kn} (h : Cnt came next done K) (e1 : K'.fs = K.fs) (e2 : K'.i1 = K.i1) (e3 : K'.f3 = K.f3) (e4 : K'.out = K.out) (e5 : K'.done = K.done) : Cnt came next done K' :=
  ⟨by rw [e1]; exact h.fs, by rw [e2]; exact h.i1, by rw [e3, e4]; exact h.nx, by rw [e5]; exact h.dn⟩
section
variable {came : List (List UInt8)} {next done : Nat} {K : Kn} (h : Cnt came next done K)
include h
theorem cnt_depart : (K.out = [] ∧ departR K = (K, [], 0, 11)) ∨ ((departR K).2.2.2 = 0 ∧ Cnt came next (done + 1) (departR K).1) := by
  cases ho : K.out with
  | nil => exact .inl ⟨rfl, by unfold departR; rw [ho]⟩
  | cons t r =>
    refine .inr ?_
    have hn := h.nx
    rw [ho] at hn
    unfold departR
    rw [ho]
    exact ⟨rfl, h.fs, h.i1, by show K.f3 + 1 + r.length = next; simp at hn; omega, by show K.done + 1 = done + 1; rw [h.dn]⟩
theorem cnt_arrive (s : List UInt8) : ((arriveR K s).2.2 ≠ 0 ∧ Cnt came next done (arriveR K s).1) ∨ ((arriveR K s).2.1 = 1 ∧ (arriveR K s).2.2 = 0 ∧ Cnt (came ++ [s]) next done (arriveR K s).1 ∧ came.length < 16) := by
  unfold arriveR
  by_cases hl : 1024 < s.length
  · rw [if_pos hl]; exact .inl ⟨(show (2 : Int) ≠ 0 by decide), h⟩
  rw [if_neg hl]
  have hf : K.fs.find? (wants s) = some allF := by rw [h.fs, List.find?_cons_of_pos (wants_all s)]
  rw [hf]
  show _ ∨ _
  dsimp only
  rw [if_pos (show allF.env = 1 from rfl)]
  by_cases h16 : 16 ≤ K.i1.length
  · rw [if_pos h16]; exact .inl ⟨(show (10 : Int) ≠ 0 by decide), h⟩
  · rw [if_neg h16]
    refine .inr ⟨rfl, rfl, ⟨h.fs, by show K.i1 ++ [s] = came ++ [s]; rw [h.i1], h.nx, h.dn⟩, by have := h.i1; rw [this] at h16; omega⟩
theorem cnt_13 : callR K ⟨13, 2, 0, 0, 0, [], [], []⟩ = (K, (done : Int), [], 0) := by
  have := callR_13 K 2 (.inr rfl) 0 0 0 [] [] []
  rw [h.dn] at this
  exact this
/-- A call that is no binding, no unbinding, no transfer, and doesn't take for environment 1. -/
theorem cnt_other (q : KQ) (h9 : q.op ≠ 9) (h10 : q.op ≠ 10) (h11 : q.op ≠ 11) (h12 : ¬ (q.op = 12 ∧ q.env = 1)) : Cnt came next done (callR K q).1 := by
  unfold callR
  refine ite_all (P := fun (z : Kn × Int × List UInt8 × Int) => Cnt came next done z.1) (fun c0 => ?_) (fun c0 => ?_)
  · exact h
  refine ite_all (P := fun (z : Kn × Int × List UInt8 × Int) => Cnt came next done z.1) (fun c1 => ?_) (fun c1 => ?_)
  · exact cnt_eq h rfl rfl rfl rfl rfl
  refine ite_all (P := fun (z : Kn × Int × List UInt8 × Int) => Cnt came next done z.1) (fun c2 => ?_) (fun c2 => ?_)
  · exact cnt_eq h rfl rfl rfl rfl rfl
  refine ite_all (P := fun (z : Kn × Int × List UInt8 × Int) => Cnt came next done z.1) (fun c3 => ?_) (fun c3 => ?_)
  · exact cnt_eq h rfl rfl rfl rfl rfl
  refine ite_all (P := fun (z : Kn × Int × List UInt8 × Int) => Cnt came next done z.1) (fun c4 => ?_) (fun c4 => ?_)
  · exact h
  refine ite_all (P := fun (z : Kn × Int × List UInt8 × Int) => Cnt came next done z.1) (fun c5 => ?_) (fun c5 => ?_)
  · exact cnt_eq h rfl rfl rfl rfl rfl
  refine ite_all (P := fun (z : Kn × Int × List UInt8 × Int) => Cnt came next done z.1) (fun c6 => ?_) (fun c6 => ?_)
  · exact h
  refine ite_all (P := fun (z : Kn × Int × List UInt8 × Int) => Cnt came next done z.1) (fun c7 => ?_) (fun c7 => ?_)
  · exact cnt_eq h rfl rfl rfl rfl rfl
  refine ite_all (P := fun (z : Kn × Int × List UInt8 × Int) => Cnt came next done z.1) (fun c8 => ?_) (fun c8 => ?_)
  · exact cnt_eq h rfl rfl rfl rfl rfl
  refine ite_all (P := fun (z : Kn × Int × List UInt8 × Int) => Cnt came next done z.1) (fun c9 => ?_) (fun c9 => ?_)
  · exact absurd c9 h9
  refine ite_all (P := fun (z : Kn × Int × List UInt8 × Int) => Cnt came next done z.1) (fun c10 => ?_) (fun c10 => ?_)
  · exact absurd c10 h10
  refine ite_all (P := fun (z : Kn × Int × List UInt8 × Int) => Cnt came next done z.1) (fun c11 => ?_) (fun c11 => ?_)
  · exact absurd c11 h11
  refine ite_all (P := fun (z : Kn × Int × List UInt8 × Int) => Cnt came next done z.1) (fun c12 => ?_) (fun c12 => ?_)
  · unfold takeR
    rw [if_neg (fun e => h12 ⟨c12, e⟩)]
    split
    · exact cnt_eq h rfl rfl rfl rfl rfl
    · exact h
  refine ite_all (P := fun (z : Kn × Int × List UInt8 × Int) => Cnt came next done z.1) (fun c13 => ?_) (fun c13 => ?_)
  · exact h
  · exact h
theorem cnt_submit (env : Int) (l : List Pc) : ((submitR K env l).2.2 ≠ 0 ∧ Cnt came next done (submitR K env l).1) ∨ ((submitR K env l).2.1 = (next : Int) ∧ (submitR K env l).2.2 = 0 ∧ Cnt came (next + 1) done (submitR K env l).1) := by
  unfold submitR
  by_cases h16 : 16 ≤ K.out.length
  · rw [if_pos h16]; exact .inl ⟨(show (10 : Int) ≠ 0 by decide), h⟩
  rw [if_neg h16]
  by_cases h0 : (holdG K.ps env l).2 = 0
  · rw [if_pos h0]
    have hn := h.nx
    exact .inr ⟨by show (K.f3 : Int) + (K.out.length : Int) = (next : Int); omega, rfl, h.fs, h.i1, by show K.f3 + (K.out ++ [_]).length = next + 1; simp; omega, h.dn⟩
  · rw [if_neg h0]; exact .inl ⟨h0, h⟩
theorem cnt_11 (q : KQ) (e : q.op = 11) : ((callR K q).2.2.2 ≠ 0 ∧ Cnt came next done (callR K q).1) ∨ ((callR K q).2.1 = (next : Int) ∧ (callR K q).2.2.2 = 0 ∧ Cnt came (next + 1) done (callR K q).1) := by
  obtain ⟨op, env, a, b, c, s, p, l⟩ := q
  have e' : op = 11 := e
  subst e'
  by_cases he : env = 1 ∨ env = 2
  · rw [callR_11 K env he]
    exact cnt_submit h env l
  · unfold callR
    rw [if_pos he]
    exact .inl ⟨(show (1 : Int) ≠ 0 by decide), h⟩
theorem cnt_12 (q : KQ) (e : q.op = 12) (e1 : q.env = 1) : (came = [] ∧ (callR K q).2.2.2 = 11 ∧ Cnt [] next done (callR K q).1) ∨ (∃ s r, came = s :: r ∧ (callR K q).2.2.1 = s ∧ Cnt r next done (callR K q).1) := by
  obtain ⟨op, env, a, b, c, s, p, l⟩ := q
  have e' : op = 12 := e
  have e1' : env = 1 := e1
  subst e' e1'
  rw [callR_12 K 1 (.inl rfl)]
  unfold takeR
  rw [if_pos rfl]
  cases hi : K.i1 with
  | nil => exact .inl ⟨by rw [← h.i1, hi], rfl, h.fs, hi, h.nx, h.dn⟩
  | cons s r => exact .inr ⟨s, r, by rw [← h.i1, hi], rfl, h.fs, rfl, h.nx, h.dn⟩
end
end Go.Proofs.Ytlilfblnlpjkcaa.Ke
