/- The document's Do: what any call answers. Conditions: those that each states. -/
import Derived.Test.YtplmabnmkkkehaaRefDoA
import Derived.Test.YtplmabnmkkkehaaRefDoB
import Derived.Test.YtplmabnmkkkehaaRefDoC
import Derived.Test.YtplmabnmkkkehaaRefDoD
import Derived.Test.YtplmabnmkkkehaaRefDoE
import Derived.Test.YtplmabnmkkkehaaRefDoF
import Derived.Test.YtplmabnmkkkehaaRefDoG
import Derived.Test.YtplmabnmkkkehaaRefDoH
import Derived.Test.YtplmabnmkkkehaaRefDoI
import Derived.Test.YtplmabnmkkkehaaRefDoJ
namespace Go.Proofs.Ytplmabnmkkkehaa.RD
open Go.ChangeShapes Go.WideShapes Go.ChangeAt Go.RowKit Go.Deep Fr
set_option linter.unusedVariables false
section
variable {gm bo bh bb co ch cb : Nat} {ps : List Pg} {w : World}
abbrev Did (w : World) (gm bo bh bb co ch cb : Nat) (kind env f off n : Int) (l : List UInt8) (r : List Pg × Int × List UInt8 × Int) : Prop :=
  Calls Try.prog 12 #[.pointer (some ⟨gm, 0, none⟩), .agg #[.int .i64 kind, .int .i64 env, .int .i64 f, .int .i64 off, .int .i64 n, .string ⟨l.toArray⟩]] w fun e w' =>
    e = .returned (.tuple #[.int .i64 r.2.1, .string ⟨r.2.2.1.toArray⟩, .int .i64 r.2.2.2]) ∧ RefT w' gm bo bh bb co ch cb r.1 ∧ Chg w w' (Three bo bh bb)
theorem own_err (h : RefT w gm bo bh bb co ch cb ps) (kind env f off n : Int) (l : List UInt8) (k6 : kind < 6) (kn : kind ≠ 0) (he : ownErr ps env f ≠ 0) :
    Did w gm bo bh bb co ch cb kind env f off n l (ps, 0, [], ownErr ps env f) := by
  by_cases hE : isE env
  · by_cases h1 : f < 0
    · have e1 : ownErr ps env f = 1 := if_neg (fun x => by have := x.2.1; omega)
      rw [e1]
      exact f_neg h kind env f off n l k6 kn hE h1
    · by_cases h2 : (ps.length : Int) ≤ f
      · have e1 : ownErr ps env f = 1 := if_neg (fun x => by have := x.2.2; omega)
        rw [e1]
        exact f_big h kind env f off n l k6 kn hE h1 h2
      · obtain ⟨k, rfl⟩ : ∃ k : Nat, f = (k : Int) := ⟨f.toNat, by omega⟩
        have hk : k < ps.length := by omega
        have ho : ¬ (ps[k].owner : Int) = env := by
          intro e
          apply he
          unfold ownErr
          rw [if_pos ⟨hE, ⟨by omega, by omega⟩⟩, pg_at hk, if_pos e]
        have e20 : ownErr ps env k = 20 := by
          unfold ownErr
          rw [if_pos ⟨hE, ⟨by omega, by omega⟩⟩, pg_at hk, if_neg ho]
        rw [e20]
        exact own_no h kind env k off n l k6 kn hE k hk rfl ho
  · have e1 : ownErr ps env f = 1 := if_neg (fun x => hE x.1)
    rw [e1]
    exact env_no h kind env f off n l k6 hE
theorem held_err (h : RefT w gm bo bh bb co ch cb ps) (kind env f off n : Int) (l : List UInt8) (k7 : 6 ≤ kind) (he : ¬ isH ps f) :
    Did w gm bo bh bb co ch cb kind env f off n l (ps, 0, [], 1) := by
  by_cases h1 : f < 0
  · exact f_neg7 h kind env f off n l k7 h1
  · by_cases h2 : (ps.length : Int) ≤ f
    · exact f_big7 h kind env f off n l k7 h1 h2
    · obtain ⟨k, rfl⟩ : ∃ k : Nat, f = (k : Int) := ⟨f.toNat, by omega⟩
      have hk : k < ps.length := by omega
      have hh : ps[k].holds = 0 := by
        by_cases e : ps[k].holds = 0
        · exact e
        · exact absurd ⟨⟨by omega, by omega⟩, by rw [pg_at hk]; exact e⟩ he
      exact hold_no h kind env k off n l k7 k hk rfl hh
theorem isH_nat {f : Int} (he : isH ps f) : ∃ k : Nat, ∃ hk : k < ps.length, f = (k : Int) ∧ ps[k].holds ≠ 0 := by
  obtain ⟨k, rfl⟩ : ∃ k : Nat, f = (k : Int) := ⟨f.toNat, by have := he.1.1; omega⟩
  have hk : k < ps.length := by have := he.1.2; omega
  exact ⟨k, hk, rfl, by have := he.2; rwa [pg_at hk] at this⟩
theorem isIn_nat {off n : Int} (h : isIn off n) : ∃ o m : Nat, off = (o : Int) ∧ n = (m : Int) ∧ o + m ≤ 256 :=
  ⟨off.toNat, n.toNat, by have := h.1; omega, by have := h.2.1; omega, by have := h.2.2; have := h.1; have := h.2.1; omega⟩

theorem refDo_list (h : RefT w gm bo bh bb co ch cb ps) (kind env f off n : Int) (l : List UInt8) (k0 : 0 ≤ kind) (k7 : kind ≤ 7) (hm : ∀ p ∈ ps, p.holds < 1000000) :
    Did w gm bo bh bb co ch cb kind env f off n l (doR ps ⟨kind, env, f, off, n, ⟨l.toArray⟩⟩) := by
  have hl : (⟨l.toArray⟩ : ByteArray).data.toList = l := rfl
  by_cases q0 : kind = 0
  · subst q0
    show Did _ _ _ _ _ _ _ _ _ _ _ _ _ _ ((allocR ps env).1, (allocR ps env).2.1, [], (allocR ps env).2.2)
    unfold allocR
    by_cases hE : isE env
    · rw [if_pos hE]
      cases hf : ps.findIdx? (fun p => p.owner == 0) with
      | none =>
        refine alloc_full h env f off n l hE fun x hx => ?_
        have := (List.findIdx?_eq_none_iff.1 hf) ps[x] (List.getElem_mem hx)
        simpa using this
      | some k =>
        obtain ⟨hk, ho, hmin⟩ := List.findIdx?_eq_some_iff_getElem.1 hf
        simp only [pg_at hk]
        exact alloc_ok h env f off n l hE k hk (by simpa using ho) fun x hx hlt => by have := hmin x hlt; simpa using this
    · rw [if_neg hE]
      exact env_no h 0 env f off n l (by decide) hE
  by_cases q1 : kind = 1
  · subst q1
    show Did _ _ _ _ _ _ _ _ _ _ _ _ _ _ ((freeR ps env f).1, 0, [], (freeR ps env f).2)
    unfold freeR
    by_cases he : ownErr ps env f = 0
    · obtain ⟨k, hk, rfl, hE, ho⟩ := ownErr_zero he
      rw [if_pos he, pg_at hk, Int.toNat_natCast]
      by_cases hh : ps[k].holds = 0
      · rw [if_pos hh]; exact free_ok h env k off n l k hk rfl hE ho hh
      · rw [if_neg hh]; exact free_busy h env k off n l k hk rfl hE ho hh
    · rw [if_neg he]; exact own_err h 1 env f off n l (by decide) (by decide) he
  by_cases q2 : kind = 2
  · subst q2
    show Did _ _ _ _ _ _ _ _ _ _ _ _ _ _ ((giveR ps env f n).1, 0, [], (giveR ps env f n).2)
    unfold giveR
    by_cases he : ownErr ps env f = 0
    · obtain ⟨k, hk, rfl, hE, ho⟩ := ownErr_zero he
      rw [if_pos he, pg_at hk, Int.toNat_natCast]
      by_cases hto : isE n
      · rw [if_pos hto]
        by_cases hh : ps[k].holds = 0
        · rw [if_pos hh]; exact give_ok h env k off n l k hk rfl hE ho hto hh
        · rw [if_neg hh]; exact give_busy h env k off n l k hk rfl hE ho hto hh
      · rw [if_neg hto]; exact give_bad h env k off n l k hk rfl hE ho hto
    · rw [if_neg he]; exact own_err h 2 env f off n l (by decide) (by decide) he
  by_cases q3 : kind = 3
  · subst q3
    show Did _ _ _ _ _ _ _ _ _ _ _ _ _ _ (ps, 0, (readR ps env f off n).1, (readR ps env f off n).2)
    unfold readR
    by_cases he : ownErr ps env f = 0
    · obtain ⟨k, hk, rfl, hE, ho⟩ := ownErr_zero he
      rw [if_pos he, pg_at hk]
      by_cases hin : isIn off n
      · obtain ⟨o, m, rfl, rfl, hfit⟩ := isIn_nat hin
        rw [if_pos hin, Int.toNat_natCast, Int.toNat_natCast]
        exact read_ok h env k o m l k hk rfl hE ho o m rfl rfl hfit
      · rw [if_neg hin]; exact read_out h env k off n l k hk rfl hE ho hin
    · rw [if_neg he]; exact own_err h 3 env f off n l (by decide) (by decide) he
  by_cases q4 : kind = 4
  · subst q4
    show Did _ _ _ _ _ _ _ _ _ _ _ _ _ _ ((writeR ps env f off l).1, 0, [], (writeR ps env f off l).2)
    unfold writeR
    by_cases he : ownErr ps env f = 0
    · obtain ⟨k, hk, rfl, hE, ho⟩ := ownErr_zero he
      rw [if_pos he, pg_at hk, Int.toNat_natCast]
      by_cases hin : isIn off (l.length : Int)
      · rw [if_pos hin]
        by_cases hh : ps[k].holds = 0
        · obtain ⟨o, m, rfl, em, hfit⟩ := isIn_nat hin
          rw [if_pos hh, Int.toNat_natCast]
          exact write_ok h env k o n l k hk rfl hE ho hh o rfl (by omega)
        · rw [if_neg hh]; exact write_busy h env k off n l k hk rfl hE ho hin hh
      · rw [if_neg hin]; exact write_out h env k off n l k hk rfl hE ho hin
    · rw [if_neg he]; exact own_err h 4 env f off n l (by decide) (by decide) he
  by_cases q5 : kind = 5
  · subst q5
    show Did _ _ _ _ _ _ _ _ _ _ _ _ _ _ ((holdR ps env f).1, 0, [], (holdR ps env f).2)
    unfold holdR
    by_cases he : ownErr ps env f = 0
    · obtain ⟨k, hk, rfl, hE, ho⟩ := ownErr_zero he
      rw [if_pos he, pg_at hk, Int.toNat_natCast]
      exact hold_ok h env k off n l k hk rfl hE ho (hm _ (List.getElem_mem hk))
    · rw [if_neg he]; exact own_err h 5 env f off n l (by decide) (by decide) he
  by_cases q6 : kind = 6
  · subst q6
    show Did _ _ _ _ _ _ _ _ _ _ _ _ _ _ ((dropR ps f).1, 0, [], (dropR ps f).2)
    unfold dropR
    by_cases he : isH ps f
    · obtain ⟨k, hk, rfl, hh⟩ := isH_nat he
      rw [if_pos he, pg_at hk, Int.toNat_natCast]
      exact drop_ok h env k off n l k hk rfl hh
    · rw [if_neg he]; exact held_err h 6 env f off n l (by decide) he
  have q7 : kind = 7 := by omega
  subst q7
  show Did _ _ _ _ _ _ _ _ _ _ _ _ _ _ (ps, 0, (fetchR ps f off n).1, (fetchR ps f off n).2)
  unfold fetchR
  by_cases he : isH ps f
  · obtain ⟨k, hk, rfl, hh⟩ := isH_nat he
    rw [if_pos he, pg_at hk]
    by_cases hin : isIn off n
    · obtain ⟨o, m, rfl, rfl, hfit⟩ := isIn_nat hin
      rw [if_pos hin, Int.toNat_natCast, Int.toNat_natCast]
      exact fetch_ok h env k o m l k hk rfl hh o m rfl rfl hfit
    · rw [if_neg hin]; exact fetch_out h env k off n l k hk rfl hh hin
  · rw [if_neg he]; exact held_err h 7 env f off n l (by decide) he
theorem refDo_any (h : RefT w gm bo bh bb co ch cb ps) (kind env f off n : Int) (s : ByteArray) (k0 : 0 ≤ kind) (k7 : kind ≤ 7) (hm : ∀ p ∈ ps, p.holds < 1000000) :
    Calls Try.prog 12 #[.pointer (some ⟨gm, 0, none⟩), .agg #[.int .i64 kind, .int .i64 env, .int .i64 f, .int .i64 off, .int .i64 n, .string s]] w fun e w' =>
      e = .returned (.tuple #[.int .i64 (doR ps ⟨kind, env, f, off, n, s⟩).2.1, .string ⟨(doR ps ⟨kind, env, f, off, n, s⟩).2.2.1.toArray⟩, .int .i64 (doR ps ⟨kind, env, f, off, n, s⟩).2.2.2]) ∧ RefT w' gm bo bh bb co ch cb (doR ps ⟨kind, env, f, off, n, s⟩).1 ∧ Chg w w' (Three bo bh bb) := by
  obtain ⟨l, rfl⟩ : ∃ l : List UInt8, s = ⟨l.toArray⟩ := ⟨s.data.toList, by simp⟩
  exact refDo_list h kind env f off n l k0 k7 hm
end
end Go.Proofs.Ytplmabnmkkkehaa.RD
