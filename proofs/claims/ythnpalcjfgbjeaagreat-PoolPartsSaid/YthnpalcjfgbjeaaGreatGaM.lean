/- What Hold and Drop do to a table, in plain words. Conditions: those that each states. -/
import Derived.Test.YthnpalcjfgbjeaaGreatGaD
namespace Go.Proofs.YthnpalcjfgbjeaaGreat
open Go.ChangeShapes Go.WideShapes Go.ChangeAt Go.RowKit Go.Deep Fr
set_option linter.unusedVariables false

def holdN (ps : List Pg) (env : Int) (l : List Pc) : List Pg := l.foldl (fun ps p => (Fr.holdR ps env p.frame).1) ps
theorem holdN_succ {ps : List Pg} {env : Int} {l : List Pc} {j : Nat} (hj : j < l.length) : holdN ps env (l.take (j + 1)) = (Fr.holdR (holdN ps env (l.take j)) env l[j].frame).1 := by
  unfold holdN
  rw [List.take_succ_eq_append_getElem hj, List.foldl_append]
  rfl
def holdG (ps : List Pg) (env : Int) (l : List Pc) : List Pg × Int := if checkR ps env l = 0 then (holdN ps env l, 0) else (ps, checkR ps env l)
/-- qs is ps with other holds: those of d. -/
def Turned (ps qs : List Pg) (d : Nat → Nat) : Prop := qs.length = ps.length ∧ ∀ k (h : k < ps.length) (h' : k < qs.length), qs[k] = { ps[k] with holds := d k }
theorem Turned.refl (ps : List Pg) : Turned ps ps (fun k => (ps.getD k .blank).holds) := ⟨rfl, fun k h h' => by simp [h]⟩
theorem Turned.ext {ps qs rs : List Pg} {d : Nat → Nat} (h : Turned ps qs d) (h2 : Turned ps rs d) : qs = rs := by
  refine List.ext_getElem (h.1.trans h2.1.symm) fun k hk hk' => ?_
  rw [h.2 k (by rw [← h.1]; exact hk) hk, h2.2 k (by rw [← h.1]; exact hk) hk']
theorem Turned.pg {ps qs : List Pg} {d : Nat → Nat} (h : Turned ps qs d) {f : Int} (hf : isF ps f) : pg qs f = { pg ps f with holds := d f.toNat } := by
  obtain ⟨k, hk, rfl⟩ := isF_nat hf
  rw [pg_at hk, pg_at (by rw [h.1]; exact hk), h.2 k hk (by rw [h.1]; exact hk), Int.toNat_natCast]
theorem Turned.isF {ps qs : List Pg} {d : Nat → Nat} (h : Turned ps qs d) (f : Int) : isF qs f ↔ isF ps f := by unfold Fr.isF; rw [h.1]
theorem Turned.ownErr {ps qs : List Pg} {d : Nat → Nat} (h : Turned ps qs d) (env f : Int) : ownErr qs env f = ownErr ps env f := by
  unfold Fr.ownErr
  by_cases hE : isE env ∧ Fr.isF ps f
  · have hq : isE env ∧ Fr.isF qs f := ⟨hE.1, (h.isF f).2 hE.2⟩
    have e : (Fr.pg qs f).owner = (Fr.pg ps f).owner := by rw [h.pg hE.2]
    rw [if_pos hE, if_pos hq, e]
  · rw [if_neg hE, if_neg (fun h1 => hE ⟨h1.1, (h.isF f).1 h1.2⟩)]
theorem drop_turned {ps qs : List Pg} {d : Nat → Nat} (h : Turned ps qs d) (f : Int) : Turned ps (dropR qs f).1 (fun k => d k - if f = (k : Int) then 1 else 0) := by
  unfold dropR
  by_cases hh : isH qs f
  · rw [if_pos hh]
    obtain ⟨hF, h0⟩ := hh
    obtain ⟨j, hj, rfl⟩ := isF_nat hF
    refine ⟨by rw [List.length_set]; exact h.1, fun k hk hk' => ?_⟩
    rw [List.length_set] at hk'
    simp only [Int.toNat_natCast, pg_at hj]
    by_cases e : j = k
    · subst e
      simp [h.2 j hk hj]
    · rw [List.getElem_set_ne e, h.2 k hk hk', if_neg (by omega)]
      simp
  · rw [if_neg hh]
    refine ⟨h.1, fun k hk hk1 => ?_⟩
    have hk' : k < qs.length := hk1
    rw [h.2 k hk hk']
    by_cases e : f = (k : Int)
    · subst e
      have hF : isF qs (k : Int) := ⟨by omega, by omega⟩
      have h0 : (pg qs (k : Int)).holds = 0 := by
        by_cases e0 : (pg qs (k : Int)).holds = 0
        · exact e0
        · exact absurd ⟨hF, e0⟩ hh
      rw [pg_at hk', h.2 k hk hk'] at h0
      have h0' : d k = 0 := h0
      simp [h0']
    · simp [e]
theorem hold_turned {ps qs : List Pg} {d : Nat → Nat} (h : Turned ps qs d) {env f : Int} (he : ownErr ps env f = 0) : Turned ps (Fr.holdR qs env f).1 (fun k => d k + if f = (k : Int) then 1 else 0) := by
  unfold Fr.holdR
  rw [h.ownErr, if_pos he]
  obtain ⟨j, hj, rfl, _, _⟩ := ownErr_zero he
  have hj' : j < qs.length := by rw [h.1]; exact hj
  refine ⟨by rw [List.length_set]; exact h.1, fun k hk hk' => ?_⟩
  rw [List.length_set] at hk'
  simp only [Int.toNat_natCast, pg_at hj']
  by_cases e : j = k
  · subst e
    simp [h.2 j hk hj']
  · rw [List.getElem_set_ne e, h.2 k hk hk', if_neg (by omega)]
    simp
theorem cnt_cons (p : Pc) (l : List Pc) (f : Int) : cnt (p :: l) f = cnt l f + if p.frame = f then 1 else 0 := by
  unfold cnt
  rw [List.countP_cons]
  by_cases e : p.frame = f <;> simp [e]
theorem dropN_turned {ps : List Pg} (l : List Pc) {qs : List Pg} {d : Nat → Nat} (h : Turned ps qs d) : Turned ps (dropN qs l) (fun k => d k - cnt l (k : Int)) := by
  induction l generalizing qs d with
  | nil => simpa [dropN, cnt] using h
  | cons p l ih =>
    have h1 := ih (drop_turned h p.frame)
    have e : (fun k => d k - (if p.frame = (k : Int) then 1 else 0) - cnt l (k : Int)) = (fun k => d k - cnt (p :: l) (k : Int)) := by
      funext k
      rw [cnt_cons]
      omega
    rw [e] at h1
    exact h1
theorem holdN_turned {ps : List Pg} {env : Int} (l : List Pc) (hl : ∀ p ∈ l, ownErr ps env p.frame = 0) {qs : List Pg} {d : Nat → Nat} (h : Turned ps qs d) : Turned ps (holdN qs env l) (fun k => d k + cnt l (k : Int)) := by
  induction l generalizing qs d with
  | nil => simpa [holdN, cnt] using h
  | cons p l ih =>
    have h1 := ih (fun q hq => hl q (by simp [hq])) (hold_turned h (hl p (by simp)))
    have e : (fun k => d k + (if p.frame = (k : Int) then 1 else 0) + cnt l (k : Int)) = (fun k => d k + cnt (p :: l) (k : Int)) := by
      funext k
      rw [cnt_cons]
      omega
    rw [e] at h1
    exact h1
/-- What has been held and is dropped is as it was. -/
theorem dropG_holdN {ps : List Pg} {env : Int} {l : List Pc} (hl : ∀ p ∈ l, ownErr ps env p.frame = 0) : dropG (holdN ps env l) l = (ps, 0) := by
  have h1 := holdN_turned l hl (Turned.refl ps)
  have h2 := dropN_turned l h1
  have e : (fun k => (ps.getD k .blank).holds + cnt l (k : Int) - cnt l (k : Int)) = fun k => (ps.getD k .blank).holds := by funext k; omega
  rw [e] at h2
  unfold dropG
  rw [if_pos]
  · rw [h2.ext (Turned.refl ps)]
  · intro p hp
    obtain ⟨j, hj, ej, _, _⟩ := ownErr_zero (hl p hp)
    have hF : isF ps p.frame := by rw [ej]; exact ⟨by omega, by omega⟩
    refine ⟨(h1.isF _).2 hF, ?_⟩
    rw [h1.pg hF, ej]
    show cnt l (j : Int) ≤ (ps.getD _ Pg.blank).holds + cnt l (((j : Int).toNat : Nat) : Int)
    rw [Int.toNat_natCast]
    omega
theorem owner_ownErr {ps : List Pg} {env f : Int} (he : env = 1 ∨ env = 2) (hF : isF ps f) : ownErr ps env f = if ((pg ps f).owner : Int) = env then 0 else 20 := by
  unfold ownErr; rw [if_pos ⟨he, hF⟩]
theorem check_zero {ps : List Pg} {env : Int} {l : List Pc} (h : checkR ps env l = 0) : fitsR ps.length env l = 0 ∧ ∀ p ∈ l, ownErr ps env p.frame = 0 := by
  unfold checkR at h
  by_cases hf : fitsR ps.length env l = 0
  · rw [if_pos hf] at h
    obtain ⟨he, _, hall, _⟩ := fits_of_zero hf
    refine ⟨hf, fun p hp => ?_⟩
    obtain ⟨_, _, h3, h4⟩ := hall p hp
    rw [owner_ownErr he ⟨h3, h4⟩]
    split at h
    · rename_i h5
      rw [if_pos (h5 p hp)]
    · cases h
  · rw [if_neg hf] at h
    exact absurd h hf
theorem Turned.max {ps qs : List Pg} {d : Nat → Nat} (h : Turned ps qs d) {m : Nat} (hd : ∀ k, k < ps.length → d k < m) : ∀ p ∈ qs, p.holds < m := by
  intro p hp
  obtain ⟨k, hk, rfl⟩ := List.mem_iff_getElem.1 hp
  have hk' : k < ps.length := by rw [← h.1]; exact hk
  rw [h.2 k hk' hk]
  exact hd k hk'
theorem holdN_max {ps : List Pg} {env : Int} {l : List Pc} {m : Nat} (hl : ∀ p ∈ l, ownErr ps env p.frame = 0) (hm : ∀ p ∈ ps, p.holds + l.length < m) : ∀ p ∈ holdN ps env l, p.holds < m := by
  refine (holdN_turned l hl (Turned.refl ps)).max fun k hk => ?_
  have h1 := hm ps[k] (List.getElem_mem hk)
  have h2 := cnt_len l (k : Int)
  have e : (ps.getD k Pg.blank) = ps[k] := by simp [hk]
  rw [e]
  omega
end Go.Proofs.YthnpalcjfgbjeaaGreat
