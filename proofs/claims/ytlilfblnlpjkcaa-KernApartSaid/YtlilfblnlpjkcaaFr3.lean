/- Package frame: what its methods do. Conditions: those that each states. -/
import Derived.Test.YtlilfblnlpjkcaaFr2
namespace Go.Proofs.Ytlilfblnlpjkcaa.Fr
open Go.ChangeShapes Go.WideShapes Go.ChangeAt Go.RowKit Go.Deep
set_option linter.unusedVariables false

theorem wpList_build_is {P : Program} {ops : Array Oper} {rest : List Oper} {o : Oper} {a : Act} {w : World} {Q : Exit → Act → World → Prop} (hg : o.guard = none) (t : TypeId) (ho : o.op = .build t #[]) (cells : Array Value)
    (hc : P.built t [] = some cells) (h : wpList P ops Q rest (a.put o.dst (.agg cells)) w) : wpList P ops Q (o :: rest) a w := by
  refine wpList_build hg t #[] ho (by simp [hc]) (by simpa [hc] using h)
theorem blank_built : Try.prog.built 106 [] = some Pg.blank.cells.toArray := by kernel_rfl
theorem bys_all (l : List UInt8) : ∀ v ∈ bys l, v.oneCell' = true := fun v hv => bys_one hv
theorem cells_all (p : Pg) : p.cells.toArray.all (·.oneCell') = true := by
  rw [Array.all_eq_true_iff_forall_mem]
  intro v hv
  have hv' : v ∈ p.cells := by simpa using hv
  unfold Pg.cells at hv'
  rcases List.mem_cons.1 hv' with rfl | hv'
  · rfl
  · rcases List.mem_cons.1 hv' with rfl | hv'
    · rfl
    · exact bys_one hv'

def freeR (ps : List Pg) (env f : Int) : List Pg × Int :=
  if ownErr ps env f = 0 then (if (pg ps f).holds = 0 then (ps.set f.toNat .blank, 0) else (ps, 21)) else (ps, ownErr ps env f)
def giveR (ps : List Pg) (env f to : Int) : List Pg × Int :=
  if ownErr ps env f = 0 then (if isE to then (if (pg ps f).holds = 0 then (ps.set f.toNat { pg ps f with owner := to.toNat }, 0) else (ps, 21)) else (ps, 1)) else (ps, ownErr ps env f)
def holdR (ps : List Pg) (env f : Int) : List Pg × Int :=
  if ownErr ps env f = 0 then (ps.set f.toNat { pg ps f with holds := (pg ps f).holds + 1 }, 0) else (ps, ownErr ps env f)
def dropR (ps : List Pg) (f : Int) : List Pg × Int :=
  if isH ps f then (ps.set f.toNat { pg ps f with holds := (pg ps f).holds - 1 }, 0) else (ps, 1)

section
variable {gs g : Nat} {ps : List Pg} {w : World}
set_option maxRecDepth 100000 in
theorem free_any (h : Tab w gs g ps) (env f : Int) :
    Calls Try.prog 26 #[.pointer (some ⟨g, 0, none⟩), .int .i64 env, .int .i64 f] w fun e w' => e = .returned (.int .i64 (freeR ps env f).2) ∧ Tab w' gs g (freeR ps env f).1 ∧ Chg w w' (fun k => k = gs) := by
  by_cases he : ownErr ps env f = 0
  · obtain ⟨k, hk, rfl, hE, ho⟩ := ownErr_zero he
    have n2 := h.n2
    have OW := Lib.hid (owned_ok h env k hk hE ho)
    have c1 := h.holds hk
    by_cases hh : ps[k].holds = 0
    · have er : freeR ps env k = (ps.set k .blank, 0) := by unfold freeR; rw [if_pos he, pg_at hk, if_pos hh, Int.toNat_natCast]
      rw [er]
      obtain ⟨cs, hb, hs, _⟩ := h.row
      have hv := h.seg hk (i := 0) Pg.blank.cells (by have := Pg.blank_ok.len; omega) .blank Pg.blank_ok (by
        have := (h.at_ hk).len
        rw [Pg.blank_ok.len, List.take_zero, List.nil_append, List.drop_eq_nil_of_le (by omega), List.append_nil]) hb
      rw [Nat.add_zero] at hv
      have HB := Lib.hid hb
      have HV := Lib.hid hv
      have hcs : Pg.blank.cells.toArray.size = 258 := by simpa using Pg.blank_ok.len
      have hlen : Pg.blank.cells.length = 258 := Pg.blank_ok.len
      have hca := cells_all Pg.blank
      have hbu := blank_built
      generalize Pg.blank.cells = Z at *
      have hk1 : ¬ (ps[k].holds : Int) > 0 := by omega
      rw [hh] at c1
      have CS := Lib.hid hcs
      have CA := Lib.hid hca
      have BU := Lib.hid hbu
      clear h hb hv hE ho he er hh hk1 hcs hca hbu
      go_enter Try.func26, Try.ntmps26
      go_wp2_with fail
      refine OW.out.mono ?_; rintro e w1 ⟨rfl, rfl⟩
      go_wp2_with (first
        | (refine wpList_build_is rfl 106 rfl Z.toArray BU.out ?_)
        | (refine wpList_store_at rfl 106 (.tmp 26) (.tmp 25) rfl gs (k * 258) Z.toArray rfl rfl 106 cs HB.out (page_size.trans (congrArg some CS.out.symm)) (by rw [CS.out]; omega) CA.out ?_))
      go_ret
      refine ⟨rfl, ?_, Chg.setRow _ _ rfl⟩
      have hv := HV.out.2
      rw [hlen] at hv
      simpa using hv
    · have er : freeR ps env k = (ps, 21) := by unfold freeR; rw [if_pos he, pg_at hk, if_neg hh]
      rw [er]
      have H := Lib.hid h
      have hk1 : (ps[k].holds : Int) > 0 := by omega
      generalize (ps[k].holds : Int) = v at *
      clear h hE ho he er hh
      go_enter Try.func26, Try.ntmps26
      go_wp2_with fail
      refine OW.out.mono ?_; rintro e w1 ⟨rfl, rfl⟩
      go_wp2
      go_ret
      exact ⟨rfl, H.out, Chg.refl _ _⟩
  · have er : freeR ps env f = (ps, ownErr ps env f) := by unfold freeR; rw [if_neg he]
    rw [er]
    have OW := Lib.hid (owned_no h env f he)
    have H := Lib.hid h
    have hv : (ownErr ps env f == 0) = false := by simpa using he
    generalize ownErr ps env f = v at *
    clear h er he
    go_enter Try.func26, Try.ntmps26
    go_wp2_with fail
    refine OW.out.mono ?_; rintro e w1 ⟨rfl, rfl⟩
    go_wp2
    go_ret
    exact ⟨rfl, H.out, Chg.refl _ _⟩

set_option maxRecDepth 100000 in
theorem give_any (h : Tab w gs g ps) (env f to : Int) :
    Calls Try.prog 27 #[.pointer (some ⟨g, 0, none⟩), .int .i64 env, .int .i64 f, .int .i64 to] w fun e w' => e = .returned (.int .i64 (giveR ps env f to).2) ∧ Tab w' gs g (giveR ps env f to).1 ∧ Chg w w' (fun k => k = gs) := by
  by_cases he : ownErr ps env f = 0
  · obtain ⟨k, hk, rfl, hE, ho⟩ := ownErr_zero he
    have n2 := h.n2
    have OW := Lib.hid (owned_ok h env k hk hE ho)
    have c1 := h.holds hk
    have c2 := h.owner hk
    have f0 := h.thaw (k * 258)
    have H := Lib.hid h
    by_cases hto : isE to
    · have TO := Lib.hid (isEnv_yes to hto w)
      by_cases hh : ps[k].holds = 0
      · have er : giveR ps env k to = (ps.set k { ps[k] with owner := to.toNat }, 0) := by unfold giveR; rw [if_pos he, if_pos hto, pg_at hk, if_pos hh, Int.toNat_natCast]
        rw [er]
        have oko := h.at_ hk
        have oto : to.toNat ≤ 2 := by rcases hto with e | e <;> omega
        have eto : ((to.toNat : Nat) : Int) = to := by rcases hto with e | e <;> rw [e] <;> rfl
        have hv := h.set hk (i := 0) (by omega) (.int .i64 to) { ps[k] with owner := to.toNat } ⟨oto, oko.h, oko.t⟩ (by
          unfold Pg.cells; rw [List.set_cons_zero]; simp only [eto])
        rw [Nat.add_zero] at hv
        have HV := Lib.hid hv
        rw [hh] at c1
        generalize (ps[k].owner : Int) = v at *
        clear h hv hE ho he er hh eto hto oko
        go_enter Try.func27, Try.ntmps27
        go_wp2_with fail
        refine OW.out.mono ?_; rintro e w1 ⟨rfl, rfl⟩
        go_wp2_with fail
        refine TO.out.mono ?_; rintro e w1 ⟨rfl, rfl⟩
        go_wp2
        go_ret
        exact ⟨rfl, HV.out, Chg.set _ _ _ rfl⟩
      · have er : giveR ps env k to = (ps, 21) := by unfold giveR; rw [if_pos he, if_pos hto, pg_at hk, if_neg hh]
        rw [er]
        have hk1 : (ps[k].holds : Int) > 0 := by omega
        generalize (ps[k].holds : Int) = v at *
        clear h hE ho he er hh hto c2
        go_enter Try.func27, Try.ntmps27
        go_wp2_with fail
        refine OW.out.mono ?_; rintro e w1 ⟨rfl, rfl⟩
        go_wp2_with fail
        refine TO.out.mono ?_; rintro e w1 ⟨rfl, rfl⟩
        go_wp2
        go_ret
        exact ⟨rfl, H.out, Chg.refl _ _⟩
    · have TO := Lib.hid (isEnv_no to hto w)
      have er : giveR ps env k to = (ps, 1) := by unfold giveR; rw [if_pos he, if_neg hto]
      rw [er]
      clear h hE ho he er hto c1 c2
      go_enter Try.func27, Try.ntmps27
      go_wp2_with fail
      refine OW.out.mono ?_; rintro e w1 ⟨rfl, rfl⟩
      go_wp2_with fail
      refine TO.out.mono ?_; rintro e w1 ⟨rfl, rfl⟩
      go_wp2
      go_ret
      exact ⟨rfl, H.out, Chg.refl _ _⟩
  · have er : giveR ps env f to = (ps, ownErr ps env f) := by unfold giveR; rw [if_neg he]
    rw [er]
    have OW := Lib.hid (owned_no h env f he)
    have H := Lib.hid h
    have hv : (ownErr ps env f == 0) = false := by simpa using he
    generalize ownErr ps env f = v at *
    clear h er he
    go_enter Try.func27, Try.ntmps27
    go_wp2_with fail
    refine OW.out.mono ?_; rintro e w1 ⟨rfl, rfl⟩
    go_wp2
    go_ret
    exact ⟨rfl, H.out, Chg.refl _ _⟩

set_option maxRecDepth 100000 in
theorem hold_any (h : Tab w gs g ps) (env f : Int) (hm : ∀ p ∈ ps, p.holds < 1000000) :
    Calls Try.prog 82 #[.pointer (some ⟨g, 0, none⟩), .int .i64 env, .int .i64 f] w fun e w' => e = .returned (.int .i64 (holdR ps env f).2) ∧ Tab w' gs g (holdR ps env f).1 ∧ Chg w w' (fun k => k = gs) := by
  by_cases he : ownErr ps env f = 0
  · obtain ⟨k, hk, rfl, hE, ho⟩ := ownErr_zero he
    have n2 := h.n2
    have OW := Lib.hid (owned_ok h env k hk hE ho)
    have c1 := h.holds hk
    have f1 := h.thaw (k * 258 + 1)
    have er : holdR ps env k = (ps.set k { ps[k] with holds := ps[k].holds + 1 }, 0) := by unfold holdR; rw [if_pos he, pg_at hk, Int.toNat_natCast]
    rw [er]
    have oko := h.at_ hk
    have hlt := hm _ (List.getElem_mem hk)
    have x0 : IntKind.i64.wrap ((ps[k].holds : Int) + 1) = (ps[k].holds : Int) + 1 := IntWalk.i64_in _ (by omega)
    have hv := h.set hk (i := 1) (by omega) (.int .i64 ((ps[k].holds : Int) + 1)) { ps[k] with holds := ps[k].holds + 1 } ⟨oko.o, hlt, oko.t⟩ (by
      unfold Pg.cells; rw [List.set_cons_succ, List.set_cons_zero]; simp)
    have HV := Lib.hid hv
    generalize (ps[k].holds : Int) = v at *
    clear h hv hE ho he er oko hlt hm
    go_enter Try.func82, Try.ntmps82
    go_wp2_with fail
    refine OW.out.mono ?_; rintro e w1 ⟨rfl, rfl⟩
    go_wp2
    go_ret
    exact ⟨rfl, HV.out, Chg.set _ _ _ rfl⟩
  · have er : holdR ps env f = (ps, ownErr ps env f) := by unfold holdR; rw [if_neg he]
    rw [er]
    have OW := Lib.hid (owned_no h env f he)
    have H := Lib.hid h
    have hv : (ownErr ps env f == 0) = false := by simpa using he
    generalize ownErr ps env f = v at *
    clear h er he hm
    go_enter Try.func82, Try.ntmps82
    go_wp2_with fail
    refine OW.out.mono ?_; rintro e w1 ⟨rfl, rfl⟩
    go_wp2
    go_ret
    exact ⟨rfl, H.out, Chg.refl _ _⟩

set_option maxRecDepth 100000 in
theorem drop_any (h : Tab w gs g ps) (f : Int) :
    Calls Try.prog 72 #[.pointer (some ⟨g, 0, none⟩), .int .i64 f] w fun e w' => e = .returned (.int .i64 (dropR ps f).2) ∧ Tab w' gs g (dropR ps f).1 ∧ Chg w w' (fun k => k = gs) := by
  by_cases he : isH ps f
  · obtain ⟨k, rfl⟩ : ∃ k : Nat, f = (k : Int) := ⟨f.toNat, by have := he.1.1; omega⟩
    have hk : k < ps.length := by have := he.1.2; omega
    have hh : ps[k].holds ≠ 0 := by have := he.2; rwa [pg_at hk] at this
    have n2 := h.n2
    have OW := Lib.hid (held_ok h k hk hh)
    have c1 := h.holds hk
    have f1 := h.thaw (k * 258 + 1)
    have er : dropR ps k = (ps.set k { ps[k] with holds := ps[k].holds - 1 }, 0) := by unfold dropR; rw [if_pos he, pg_at hk, Int.toNat_natCast]
    rw [er]
    have oko := h.at_ hk
    have hm := oko.h
    have x0 : IntKind.i64.wrap ((ps[k].holds : Int) - 1) = (ps[k].holds : Int) - 1 := IntWalk.i64_in _ (by omega)
    have e1 : ((ps[k].holds - 1 : Nat) : Int) = (ps[k].holds : Int) - 1 := by omega
    have hv := h.set hk (i := 1) (by omega) (.int .i64 ((ps[k].holds : Int) - 1)) { ps[k] with holds := ps[k].holds - 1 } ⟨oko.o, by show ps[k].holds - 1 ≤ 1000000; omega, oko.t⟩ (by
      unfold Pg.cells; rw [List.set_cons_succ, List.set_cons_zero]; simp only [e1])
    have HV := Lib.hid hv
    generalize (ps[k].holds : Int) = v at *
    clear h hv he er oko hm hh e1
    go_enter Try.func72, Try.ntmps72
    go_wp2_with fail
    refine OW.out.mono ?_; rintro e w1 ⟨rfl, rfl⟩
    go_wp2
    go_ret
    exact ⟨rfl, HV.out, Chg.set _ _ _ rfl⟩
  · have er : dropR ps f = (ps, 1) := by unfold dropR; rw [if_neg he]
    rw [er]
    have OW := Lib.hid (held_no h f he)
    have H := Lib.hid h
    clear h er he
    go_enter Try.func72, Try.ntmps72
    go_wp2_with fail
    refine OW.out.mono ?_; rintro e w1 ⟨rfl, rfl⟩
    go_wp2
    go_ret
    exact ⟨rfl, H.out, Chg.refl _ _⟩
end
end Go.Proofs.Ytlilfblnlpjkcaa.Fr
