/- What a call does to a table, plainly: lengths, holds, how many are free, what stays. Conditions: those that each states. -/
import Derived.Test.YtplmabnmkkkehaaFar
namespace Go.Proofs.Ytplmabnmkkkehaa
open Go.ChangeShapes Go.WideShapes Go.ChangeAt Go.RowKit Go.Deep Fr
set_option linter.unusedVariables false

/-- What a call does: nothing, or one frame turns. -/
def Turn (ps : List Pg) (a : Cmd) (ps' : List Pg) (e : Int) : Prop :=
  (ps' = ps ∧ ¬ (e = 0 ∧ (a.kind = 0 ∨ a.kind = 1 ∨ a.kind = 2))) ∨
  (∃ k, ∃ hk : k < ps.length, ps' = ps.set k { ps[k] with owner := a.env.toNat } ∧ e = 0 ∧ a.kind = 0 ∧ isE a.env ∧ ps[k].owner = 0) ∨
  (∃ k, ∃ hk : k < ps.length, ps' = ps.set k .blank ∧ e = 0 ∧ a.kind = 1 ∧ a.f = (k : Int) ∧ ps[k].holds = 0 ∧ ps[k].owner ≠ 0) ∨
  (∃ k, ∃ hk : k < ps.length, ps' = ps.set k { ps[k] with owner := a.n.toNat } ∧ e = 0 ∧ a.kind = 2 ∧ a.f = (k : Int) ∧ isE a.n ∧ ps[k].holds = 0 ∧ ps[k].owner ≠ 0) ∨
  (∃ k, ∃ hk : k < ps.length, ∃ t : List UInt8, ps' = ps.set k { ps[k] with text := t } ∧ e = 0 ∧ a.kind = 4 ∧ ps[k].holds = 0) ∨
  (∃ k, ∃ hk : k < ps.length, ps' = ps.set k { ps[k] with holds := ps[k].holds + 1 } ∧ e = 0 ∧ a.kind = 5) ∨
  (∃ k, ∃ hk : k < ps.length, ps' = ps.set k { ps[k] with holds := ps[k].holds - 1 } ∧ e = 0 ∧ a.kind = 6 ∧ a.f = (k : Int) ∧ ps[k].holds ≠ 0)
section
variable {ps : List Pg} {a : Cmd}
theorem Turn.same (e : Int) (h : ¬ (e = 0 ∧ (a.kind = 0 ∨ a.kind = 1 ∨ a.kind = 2))) : Turn ps a ps e := .inl ⟨rfl, h⟩
theorem Turn.alloc (k : Nat) (hk : k < ps.length) (h : a.kind = 0) (he : isE a.env) (ho : ps[k].owner = 0) : Turn ps a (ps.set k { ps[k] with owner := a.env.toNat }) 0 := .inr (.inl ⟨k, hk, rfl, rfl, h, he, ho⟩)
theorem Turn.free (k : Nat) (hk : k < ps.length) (h : a.kind = 1) (hf : a.f = (k : Int)) (hh : ps[k].holds = 0) (ho : ps[k].owner ≠ 0) : Turn ps a (ps.set k .blank) 0 := .inr (.inr (.inl ⟨k, hk, rfl, rfl, h, hf, hh, ho⟩))
theorem Turn.give (k : Nat) (hk : k < ps.length) (h : a.kind = 2) (hf : a.f = (k : Int)) (he : isE a.n) (hh : ps[k].holds = 0) (ho : ps[k].owner ≠ 0) : Turn ps a (ps.set k { ps[k] with owner := a.n.toNat }) 0 := .inr (.inr (.inr (.inl ⟨k, hk, rfl, rfl, h, hf, he, hh, ho⟩)))
theorem Turn.write (k : Nat) (hk : k < ps.length) (h : a.kind = 4) (hh : ps[k].holds = 0) (t : List UInt8) : Turn ps a (ps.set k { ps[k] with text := t }) 0 := .inr (.inr (.inr (.inr (.inl ⟨k, hk, t, rfl, rfl, h, hh⟩))))
theorem Turn.hold (k : Nat) (hk : k < ps.length) (h : a.kind = 5) : Turn ps a (ps.set k { ps[k] with holds := ps[k].holds + 1 }) 0 := .inr (.inr (.inr (.inr (.inr (.inl ⟨k, hk, rfl, rfl, h⟩)))))
theorem Turn.drop (k : Nat) (hk : k < ps.length) (h : a.kind = 6) (hf : a.f = (k : Int)) (hh : ps[k].holds ≠ 0) : Turn ps a (ps.set k { ps[k] with holds := ps[k].holds - 1 }) 0 := .inr (.inr (.inr (.inr (.inr (.inr ⟨k, hk, rfl, rfl, h, hf, hh⟩)))))
end

theorem own_ne {ps : List Pg} {env f : Int} {k : Nat} {hk : k < ps.length} (hE : isE env) (ho : (ps[k].owner : Int) = env) : ps[k].owner ≠ 0 := by
  rcases hE with e | e <;> omega
theorem doR_turn (ps : List Pg) (a : Cmd) : Turn ps a (doR ps a).1 (doR ps a).2.2.2 := by
  unfold doR
  by_cases q0 : a.kind = 0
  · rw [if_pos q0]
    unfold allocR
    by_cases hE : isE a.env
    · rw [if_pos hE]
      cases hf : ps.findIdx? (fun p => p.owner == 0) with
      | none => exact .same 10 (by omega)
      | some k =>
        obtain ⟨hk, ho, _⟩ := List.findIdx?_eq_some_iff_getElem.1 hf
        simp only [pg_at hk]
        exact .alloc k hk q0 hE (by simpa using ho)
    · rw [if_neg hE]
      exact .same 1 (by omega)
  rw [if_neg q0]
  by_cases q1 : a.kind = 1
  · rw [if_pos q1]
    unfold freeR
    by_cases he : ownErr ps a.env a.f = 0
    · obtain ⟨k, hk, hf, hE, ho⟩ := ownErr_zero he
      rw [if_pos he, hf, pg_at hk, Int.toNat_natCast]
      by_cases hh : ps[k].holds = 0
      · rw [if_pos hh]
        exact .free k hk q1 hf hh (own_ne (f := a.f) hE ho)
      · rw [if_neg hh]
        exact .same 21 (by omega)
    · rw [if_neg he]
      exact .same _ (fun x => he x.1)
  rw [if_neg q1]
  by_cases q2 : a.kind = 2
  · rw [if_pos q2]
    unfold giveR
    by_cases he : ownErr ps a.env a.f = 0
    · obtain ⟨k, hk, hf, hE, ho⟩ := ownErr_zero he
      rw [if_pos he, hf, pg_at hk, Int.toNat_natCast]
      by_cases hto : isE a.n
      · rw [if_pos hto]
        by_cases hh : ps[k].holds = 0
        · rw [if_pos hh]
          exact .give k hk q2 hf hto hh (own_ne (f := a.f) hE ho)
        · rw [if_neg hh]
          exact .same 21 (by omega)
      · rw [if_neg hto]
        exact .same 1 (by omega)
    · rw [if_neg he]
      exact .same _ (fun x => he x.1)
  rw [if_neg q2]
  by_cases q3 : a.kind = 3
  · rw [if_pos q3]
    exact .same _ (by omega)
  rw [if_neg q3]
  by_cases q4 : a.kind = 4
  · rw [if_pos q4]
    unfold writeR
    by_cases he : ownErr ps a.env a.f = 0
    · obtain ⟨k, hk, hf, hE, ho⟩ := ownErr_zero he
      rw [if_pos he, hf, pg_at hk, Int.toNat_natCast]
      by_cases hto : isIn a.off (a.s.data.toList.length : Int)
      · rw [if_pos hto]
        by_cases hh : ps[k].holds = 0
        · rw [if_pos hh]
          exact .write k hk q4 hh _
        · rw [if_neg hh]
          exact .same 21 (by omega)
      · rw [if_neg hto]
        exact .same 1 (by omega)
    · rw [if_neg he]
      exact .same _ (fun x => he x.1)
  rw [if_neg q4]
  by_cases q5 : a.kind = 5
  · rw [if_pos q5]
    unfold holdR
    by_cases he : ownErr ps a.env a.f = 0
    · obtain ⟨k, hk, hf, hE, ho⟩ := ownErr_zero he
      rw [if_pos he, hf, pg_at hk, Int.toNat_natCast]
      exact .hold k hk q5
    · rw [if_neg he]
      exact .same _ (fun x => he x.1)
  rw [if_neg q5]
  by_cases q6 : a.kind = 6
  · rw [if_pos q6]
    unfold dropR
    by_cases he : isH ps a.f
    · obtain ⟨k, hf⟩ : ∃ k : Nat, a.f = (k : Int) := ⟨a.f.toNat, by have := he.1.1; omega⟩
      have hk : k < ps.length := by have := he.1.2; omega
      have hh : ps[k].holds ≠ 0 := by have := he.2; rwa [hf, pg_at hk] at this
      rw [if_pos he, hf, pg_at hk, Int.toNat_natCast]
      exact .drop k hk q6 hf hh
    · rw [if_neg he]
      exact .same _ (by omega)
  rw [if_neg q6]
  exact .same _ (by omega)

section
variable {ps ps' : List Pg} {a : Cmd} {e : Int}
theorem Turn.length (h : Turn ps a ps' e) : ps'.length = ps.length := by
  rcases h with ⟨rfl, h⟩ | ⟨k, hk, rfl, rfl, h, hE, ho⟩ | ⟨k, hk, rfl, rfl, h, hf, hh, ho⟩ | ⟨k, hk, rfl, rfl, h, hf, hE, hh, ho⟩ | ⟨k, hk, t, rfl, rfl, h, hh⟩ | ⟨k, hk, rfl, rfl, h⟩ | ⟨k, hk, rfl, rfl, h, hf, hh⟩ <;> simp
theorem holds_set {j : Nat} (hj : ∀ p ∈ ps, p.holds ≤ j) (k : Nat) (p' : Pg) (hp : p'.holds ≤ j + 1) : ∀ p ∈ ps.set k p', p.holds ≤ j + 1 := by
  intro p h
  rcases List.mem_or_eq_of_mem_set h with h1 | rfl
  · exact Nat.le_succ_of_le (hj p h1)
  · exact hp
theorem Turn.holds (h : Turn ps a ps' e) {j : Nat} (hj : ∀ p ∈ ps, p.holds ≤ j) : ∀ p ∈ ps', p.holds ≤ j + 1 := by
  have at_ : ∀ k (hk : k < ps.length), ps[k].holds ≤ j := fun k hk => hj _ (List.getElem_mem hk)
  rcases h with ⟨rfl, h⟩ | ⟨k, hk, rfl, rfl, h, hE, ho⟩ | ⟨k, hk, rfl, rfl, h, hf, hh, ho⟩ | ⟨k, hk, rfl, rfl, h, hf, hE, hh, ho⟩ | ⟨k, hk, t, rfl, rfl, h, hh⟩ | ⟨k, hk, rfl, rfl, h⟩ | ⟨k, hk, rfl, rfl, h, hf, hh⟩
  · exact fun p hp => Nat.le_succ_of_le (hj p hp)
  · exact holds_set hj k _ (Nat.le_succ_of_le (at_ k hk))
  · exact holds_set hj k _ (Nat.zero_le _)
  · exact holds_set hj k _ (Nat.le_succ_of_le (at_ k hk))
  · exact holds_set hj k _ (Nat.le_succ_of_le (at_ k hk))
  · exact holds_set hj k _ (Nat.succ_le_succ (at_ k hk))
  · exact holds_set hj k _ (Nat.le_succ_of_le (Nat.le_trans (Nat.sub_le _ _) (at_ k hk)))

theorem freeN_cons (p : Pg) (l : List Pg) : freeN (p :: l) = freeN l + (if p.owner = 0 then 1 else 0) := by
  unfold freeN
  by_cases e : p.owner = 0 <;> simp [e]
theorem freeN_set : ∀ (ps : List Pg) (k : Nat) (hk : k < ps.length) (p' : Pg), freeN (ps.set k p') + (if ps[k].owner = 0 then 1 else 0) = freeN ps + (if p'.owner = 0 then 1 else 0)
  | [], k, hk, _ => absurd hk (by simp)
  | p :: l, 0, hk, p' => by
    rw [List.set_cons_zero, freeN_cons, freeN_cons]
    simp only [List.getElem_cons_zero]
    omega
  | p :: l, k + 1, hk, p' => by
    have := freeN_set l k (by simpa using hk) p'
    rw [List.set_cons_succ, freeN_cons, freeN_cons]
    simp only [List.getElem_cons_succ]
    omega
theorem isE_nat {env : Int} (h : isE env) : env.toNat ≠ 0 ∧ (env.toNat : Int) = env := by rcases h with e | e <;> subst e <;> decide
theorem Turn.free0 (h : Turn ps a ps' e) (hz : a.kind = 0) (he : e = 0) : freeN ps' + 1 = freeN ps := by
  rcases h with ⟨rfl, h⟩ | ⟨k, hk, rfl, rfl, h, hE, ho⟩ | ⟨k, hk, rfl, rfl, h, hf, hh, ho⟩ | ⟨k, hk, rfl, rfl, h, hf, hE, hh, ho⟩ | ⟨k, hk, t, rfl, rfl, h, hh⟩ | ⟨k, hk, rfl, rfl, h⟩ | ⟨k, hk, rfl, rfl, h, hf, hh⟩
  · exact absurd ⟨he, .inl hz⟩ h
  · have := freeN_set ps k hk { ps[k] with owner := a.env.toNat }
    rw [if_pos ho, if_neg (isE_nat hE).1] at this
    omega
  all_goals omega
theorem Turn.free1 (h : Turn ps a ps' e) (hz : a.kind = 1) (he : e = 0) : freeN ps' = freeN ps + 1 ∧ ∃ k, ∃ hk : k < ps'.length, a.f = (k : Int) ∧ ps'[k].owner = 0 := by
  rcases h with ⟨rfl, h⟩ | ⟨k, hk, rfl, rfl, h, hE, ho⟩ | ⟨k, hk, rfl, rfl, h, hf, hh, ho⟩ | ⟨k, hk, rfl, rfl, h, hf, hE, hh, ho⟩ | ⟨k, hk, t, rfl, rfl, h, hh⟩ | ⟨k, hk, rfl, rfl, h⟩ | ⟨k, hk, rfl, rfl, h, hf, hh⟩
  · exact absurd ⟨he, .inr (.inl hz)⟩ h
  · omega
  · have := freeN_set ps k hk .blank
    rw [if_neg ho, if_pos (show Pg.blank.owner = 0 from rfl)] at this
    exact ⟨by omega, k, by simpa using hk, hf, by simp [List.getElem_set_self]; rfl⟩
  all_goals omega
theorem Turn.free2 (h : Turn ps a ps' e) (hz : a.kind = 2) (he : e = 0) : ∃ k, ∃ hk : k < ps'.length, a.f = (k : Int) ∧ (ps'[k].owner : Int) = a.n := by
  rcases h with ⟨rfl, h⟩ | ⟨k, hk, rfl, rfl, h, hE, ho⟩ | ⟨k, hk, rfl, rfl, h, hf, hh, ho⟩ | ⟨k, hk, rfl, rfl, h, hf, hE, hh, ho⟩ | ⟨k, hk, t, rfl, rfl, h, hh⟩ | ⟨k, hk, rfl, rfl, h⟩ | ⟨k, hk, rfl, rfl, h, hf, hh⟩
  · exact absurd ⟨he, .inr (.inr hz)⟩ h
  · omega
  · omega
  · exact ⟨k, by simpa using hk, hf, by simp [List.getElem_set_self]; have := hE; rcases this with e | e <;> omega⟩
  all_goals omega
theorem Turn.freeN (h : Turn ps a ps' e) (hn : ¬ (e = 0 ∧ (a.kind = 0 ∨ a.kind = 1))) : freeN ps' = freeN ps := by
  rcases h with ⟨rfl, h⟩ | ⟨k, hk, rfl, rfl, h, hE, ho⟩ | ⟨k, hk, rfl, rfl, h, hf, hh, ho⟩ | ⟨k, hk, rfl, rfl, h, hf, hE, hh, ho⟩ | ⟨k, hk, t, rfl, rfl, h, hh⟩ | ⟨k, hk, rfl, rfl, h⟩ | ⟨k, hk, rfl, rfl, h, hf, hh⟩
  · rfl
  · exact absurd ⟨rfl, .inl h⟩ hn
  · exact absurd ⟨rfl, .inr h⟩ hn
  · have := freeN_set ps k hk { ps[k] with owner := a.n.toNat }
    rw [if_neg ho, if_neg (isE_nat hE).1] at this
    omega
  · exact Nat.add_right_cancel (freeN_set ps k hk { ps[k] with text := t })
  · exact Nat.add_right_cancel (freeN_set ps k hk { ps[k] with holds := ps[k].holds + 1 })
  · exact Nat.add_right_cancel (freeN_set ps k hk { ps[k] with holds := ps[k].holds - 1 })
/-- What is held stays. -/
theorem Turn.stays (h : Turn ps a ps' e) {i : Nat} (hi : i < ps.length) (hhi : ps[i].holds ≠ 0) (hoi : ps[i].owner ≠ 0) (hd : ¬ (a.kind = 6 ∧ a.f = (i : Int))) :
    ∃ hi' : i < ps'.length, ps'[i].owner = ps[i].owner ∧ ps'[i].text = ps[i].text ∧ ps'[i].holds ≠ 0 := by
  refine ⟨by rw [h.length]; exact hi, ?_⟩
  rcases h with ⟨rfl, h⟩ | ⟨k, hk, rfl, rfl, h, hE, ho⟩ | ⟨k, hk, rfl, rfl, h, hf, hh, ho⟩ | ⟨k, hk, rfl, rfl, h, hf, hE, hh, ho⟩ | ⟨k, hk, t, rfl, rfl, h, hh⟩ | ⟨k, hk, rfl, rfl, h⟩ | ⟨k, hk, rfl, rfl, h, hf, hh⟩
  · exact ⟨rfl, rfl, hhi⟩
  · by_cases e : k = i
    · subst e; exact absurd ho hoi
    · rw [List.getElem_set_ne e]; exact ⟨rfl, rfl, hhi⟩
  · by_cases e : k = i
    · subst e; exact absurd hh hhi
    · rw [List.getElem_set_ne e]; exact ⟨rfl, rfl, hhi⟩
  · by_cases e : k = i
    · subst e; exact absurd hh hhi
    · rw [List.getElem_set_ne e]; exact ⟨rfl, rfl, hhi⟩
  · by_cases e : k = i
    · subst e; exact absurd hh hhi
    · rw [List.getElem_set_ne e]; exact ⟨rfl, rfl, hhi⟩
  · by_cases e : k = i
    · subst e; rw [List.getElem_set_self]; exact ⟨rfl, rfl, Nat.succ_ne_zero _⟩
    · rw [List.getElem_set_ne e]; exact ⟨rfl, rfl, hhi⟩
  · by_cases e : k = i
    · subst e; exact absurd ⟨h, hf⟩ hd
    · rw [List.getElem_set_ne e]; exact ⟨rfl, rfl, hhi⟩
/-- How many are somebody's. -/
def usedN (ps : List Pg) : Nat := (ps.filter fun p => p.owner != 0).length
theorem used_free (ps : List Pg) : usedN ps + freeN ps = ps.length := by
  induction ps with
  | nil => rfl
  | cons p l ih =>
    rw [freeN_cons, List.length_cons]
    unfold usedN at *
    by_cases e : p.owner = 0 <;> simp [e] <;> omega
theorem used_step (ps : List Pg) (j : Nat) (hj : j < ps.length) : usedN (ps.take (j + 1)) = usedN (ps.take j) + (if ps[j].owner = 0 then 0 else 1) := by
  unfold usedN
  rw [List.take_succ_eq_append_getElem hj, List.filter_append, List.length_append]
  by_cases e : ps[j].owner = 0 <;> simp [e]
end
end Go.Proofs.Ytplmabnmkkkehaa
