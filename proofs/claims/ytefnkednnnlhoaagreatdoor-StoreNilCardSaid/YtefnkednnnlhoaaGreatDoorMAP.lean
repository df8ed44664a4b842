/- What calls to a kernel keep. Conditions: those that each states. -/
import Derived.Test.YtefnkednnnlhoaaGreatDoorMAO
import Derived.Test.YtefnkednnnlhoaaGreatDoorMAA
namespace Go.Proofs.YtefnkednnnlhoaaGreatDoor.Ke
open Go.ChangeShapes Go.WideShapes Go.ChangeAt Go.RowKit Go.Deep Fr Di
set_option linter.unusedVariables false

theorem ite_all {α : Type} {c : Prop} [Decidable c] {P : α → Prop} {x y : α} (h1 : c → P x) (h2 : ¬ c → P y) : P (if c then x else y) := by
  by_cases h : c
  · rw [if_pos h]; exact h1 h
  · rw [if_neg h]; exact h2 h
/-! Small. -/
theorem Kn.Small.mono {K : Kn} {n m : Nat} (h : K.Small n) (k : n ≤ m) : K.Small m := ⟨Nat.le_trans h.next k, Nat.le_trans h.a1 k, Nat.le_trans h.a2 k, Nat.le_trans h.out k, Nat.le_trans h.done k, Nat.le_trans h.line k⟩
theorem write_line (d : Dk) (env block : Int) (s : List UInt8) : (writeR d env block s).1.line.length ≤ d.line.length + 1 := by
  unfold writeR
  split
  · split
    · split
      · show d.line.length ≤ _; omega
      · show (d.line ++ [_]).length ≤ _; simp
    · show d.line.length ≤ _; omega
  · show d.line.length ≤ _; omega
theorem sync_line (d : Dk) : (syncR d).1.line.length ≤ d.line.length := by
  unfold syncR
  split
  · show ([] : List Wr).length ≤ _; simp
  · exact Nat.le_refl _
theorem small_call {K : Kn} {n : Nat} (h : K.Small n) (q : KQ) : (callR K q).1.Small (n + 1) := by
  have h1 := h.next; have h2 := h.a1; have h3 := h.a2; have h4 := h.out; have h5 := h.done; have h6 := h.line
  have hm := h.mono (Nat.le_succ n)
  unfold callR
  refine ite_all (P := fun (z : Kn × Int × List UInt8 × Int) => z.1.Small (n + 1)) (fun c0 => ?_) (fun c0 => ?_)
  · exact hm
  refine ite_all (P := fun (z : Kn × Int × List UInt8 × Int) => z.1.Small (n + 1)) (fun c1 => ?_) (fun c1 => ?_)
  · exact ⟨hm.next, hm.a1, hm.a2, hm.out, hm.done, hm.line⟩
  refine ite_all (P := fun (z : Kn × Int × List UInt8 × Int) => z.1.Small (n + 1)) (fun c2 => ?_) (fun c2 => ?_)
  · exact ⟨hm.next, hm.a1, hm.a2, hm.out, hm.done, hm.line⟩
  refine ite_all (P := fun (z : Kn × Int × List UInt8 × Int) => z.1.Small (n + 1)) (fun c3 => ?_) (fun c3 => ?_)
  · exact ⟨hm.next, hm.a1, hm.a2, hm.out, hm.done, hm.line⟩
  refine ite_all (P := fun (z : Kn × Int × List UInt8 × Int) => z.1.Small (n + 1)) (fun c4 => ?_) (fun c4 => ?_)
  · exact hm
  refine ite_all (P := fun (z : Kn × Int × List UInt8 × Int) => z.1.Small (n + 1)) (fun c5 => ?_) (fun c5 => ?_)
  · exact ⟨hm.next, hm.a1, hm.a2, hm.out, hm.done, hm.line⟩
  refine ite_all (P := fun (z : Kn × Int × List UInt8 × Int) => z.1.Small (n + 1)) (fun c6 => ?_) (fun c6 => ?_)
  · exact hm
  refine ite_all (P := fun (z : Kn × Int × List UInt8 × Int) => z.1.Small (n + 1)) (fun c7 => ?_) (fun c7 => ?_)
  · exact ⟨hm.next, hm.a1, hm.a2, hm.out, hm.done, Nat.le_trans (write_line _ _ _ _) (by omega)⟩
  refine ite_all (P := fun (z : Kn × Int × List UInt8 × Int) => z.1.Small (n + 1)) (fun c8 => ?_) (fun c8 => ?_)
  · exact ⟨hm.next, hm.a1, hm.a2, hm.out, hm.done, Nat.le_trans (sync_line _) (by omega)⟩
  refine ite_all (P := fun (z : Kn × Int × List UInt8 × Int) => z.1.Small (n + 1)) (fun c9 => ?_) (fun c9 => ?_)
  · unfold bindR
    split
    · exact hm
    · split
      · exact ⟨by show K.next + 1 ≤ n + 1; omega, hm.a1, hm.a2, hm.out, hm.done, hm.line⟩
      · exact hm
  refine ite_all (P := fun (z : Kn × Int × List UInt8 × Int) => z.1.Small (n + 1)) (fun c10 => ?_) (fun c10 => ?_)
  · unfold unbindR
    split
    · exact ⟨hm.next, hm.a1, hm.a2, hm.out, hm.done, hm.line⟩
    · exact hm
  refine ite_all (P := fun (z : Kn × Int × List UInt8 × Int) => z.1.Small (n + 1)) (fun c11 => ?_) (fun c11 => ?_)
  · unfold submitR
    split
    · exact hm
    · split
      · exact ⟨hm.next, hm.a1, hm.a2, by show K.f3 + (K.out ++ [_]).length ≤ _; simp; omega, hm.done, hm.line⟩
      · exact hm
  refine ite_all (P := fun (z : Kn × Int × List UInt8 × Int) => z.1.Small (n + 1)) (fun c12 => ?_) (fun c12 => ?_)
  · unfold takeR
    split
    · split
      · rename_i s r hr
        rw [hr] at h2
        exact ⟨hm.next, by show K.f1 + 1 + r.length ≤ _; simp at h2; omega, hm.a2, hm.out, hm.done, hm.line⟩
      · exact hm
    · split
      · rename_i s r hr
        rw [hr] at h3
        exact ⟨hm.next, hm.a1, by show K.f2 + 1 + r.length ≤ _; simp at h3; omega, hm.out, hm.done, hm.line⟩
      · exact hm
  refine ite_all (P := fun (z : Kn × Int × List UInt8 × Int) => z.1.Small (n + 1)) (fun c13 => ?_) (fun c13 => ?_)
  · exact hm
  · exact hm
/-! Ok. -/
/-- Another table, where what is held is as it was, and held as often. -/
structure Kept (ps qs : List Pg) : Prop where
  len : qs.length = ps.length
  hold : ∀ k (h : k < ps.length) (h' : k < qs.length), qs[k].holds = ps[k].holds
  stay : ∀ k (h : k < ps.length) (h' : k < qs.length), ps[k].holds ≠ 0 → qs[k] = ps[k]
  ok : ∀ p ∈ qs, p.Ok
theorem Kept.refl {ps : List Pg} (h : ∀ p ∈ ps, p.Ok) : Kept ps ps := ⟨rfl, fun _ _ _ => rfl, fun _ _ _ _ => rfl, h⟩
theorem Kept.set {ps : List Pg} (h : ∀ p ∈ ps, p.Ok) {k : Nat} (hk : k < ps.length) (h0 : ps[k].holds = 0) {p : Pg} (hp : p.Ok) (hp0 : p.holds = 0) : Kept ps (ps.set k p) := by
  refine ⟨by simp, fun i hi h' => ?_, fun i hi h' hn => ?_, fun q hq => ?_⟩
  · rw [List.getElem_set]
    split
    · rename_i e; subst e; rw [hp0, h0]
    · rfl
  · rw [List.getElem_set]
    split
    · rename_i e; subst e; exact absurd h0 hn
    · rfl
  · rcases List.mem_or_eq_of_mem_set hq with h1 | rfl
    · exact h q h1
    · exact hp
theorem cnt_zero {l : List Pc} {f : Int} (h : cnt l f ≠ 0) : ∃ p ∈ l, p.frame = f := by
  have h1 : 0 < cnt l f := by omega
  obtain ⟨p, hp, e⟩ := List.countP_pos_iff.1 h1
  exact ⟨p, hp, by simpa using e⟩
theorem heldN_pos {o : List Tr} {f : Int} (h : heldN o f ≠ 0) : ∃ t ∈ o, ∃ p ∈ t.l, p.frame = f := by
  induction o with
  | nil => exact absurd rfl h
  | cons t o ih =>
    rw [heldN_cons] at h
    by_cases h1 : cnt t.l f = 0
    · obtain ⟨u, hu, p, hp, e⟩ := ih (by omega)
      exact ⟨u, List.mem_cons_of_mem _ hu, p, hp, e⟩
    · obtain ⟨p, hp, e⟩ := cnt_zero h1
      exact ⟨t, List.mem_cons_self, p, hp, e⟩
/-- A frame that is held is its transfer's. -/
theorem Kn.Ok.whose {K : Kn} (ok : K.Ok) {k : Nat} (hk : k < K.ps.length) (h : K.ps[k].holds ≠ 0) : ∃ t ∈ K.out, K.ps[k].owner = t.env ∧ 1 ≤ t.env := by
  rw [ok.holds k hk] at h
  obtain ⟨t, ht, p, hp, e⟩ := heldN_pos h
  have := (ok.out t ht).own p hp
  rw [e, pg_at hk] at this
  exact ⟨t, ht, this, (ok.out t ht).e1⟩
theorem Kn.Ok.setPs {K : Kn} (ok : K.Ok) {qs : List Pg} (h : Kept K.ps qs) : ({ K with ps := qs } : Kn).Ok := by
  refine ⟨ok.f8, ok.fs, ok.n1, ok.n2, ok.no, ok.s1, ok.s2, fun t ht => ?_, fun k hk => ?_, ok.on, ok.arm, h.ok, ok.dok, ok.f3⟩
  · have o := ok.out t ht
    refine ⟨o.ne, o.n, o.ok, fun p hp => by show p.Fits qs.length; rw [h.len]; exact o.fits p hp, fun p hp => ?_, o.e1, o.e2⟩
    obtain ⟨k, hk, e, h1, h2⟩ := ok.held ht hp
    have hk' : k < qs.length := by rw [h.len]; exact hk
    have := o.own p hp
    rw [e, pg_at hk] at this
    show (pg qs p.frame).owner = t.env
    rw [e, pg_at hk', h.stay k hk hk' (by omega)]
    exact this
  · have hk' : k < K.ps.length := by rw [← h.len]; exact hk
    exact (h.hold k hk' hk).trans (ok.holds k hk')
section
variable {K : Kn}
theorem kept_alloc (ok : K.Ok) (env : Int) : Kept K.ps (Fr.allocR K.ps env).1 := by
  unfold Fr.allocR
  split
  · rename_i he
    split
    · rename_i k hk
      obtain ⟨hl, h0, _⟩ := List.findIdx?_eq_some_iff_getElem.1 hk
      have hpo := ok.pok _ (List.getElem_mem hl)
      have hz : K.ps[k].holds = 0 := by
        by_cases hn : K.ps[k].holds = 0
        · exact hn
        · obtain ⟨t, _, h1, h2⟩ := ok.whose hl hn
          have : K.ps[k].owner = 0 := by simpa using h0
          omega
      refine Kept.set ok.pok hl hz ?_ ?_
      · rw [pg_at hl]
        exact ⟨by show env.toNat ≤ 2; rcases he with h | h <;> omega, hpo.h, hpo.t⟩
      · rw [pg_at hl]; exact hz
    · exact Kept.refl ok.pok
  · exact Kept.refl ok.pok
theorem kept_free (ok : K.Ok) (env f : Int) : Kept K.ps (Fr.freeR K.ps env f).1 := by
  unfold Fr.freeR
  split
  · rename_i he
    obtain ⟨k, hk, rfl, hE, ho⟩ := ownErr_zero he
    rw [pg_at hk]
    split
    · rename_i h0
      exact Kept.set ok.pok hk h0 Pg.blank_ok rfl
    · exact Kept.refl ok.pok
  · exact Kept.refl ok.pok
theorem kept_give (ok : K.Ok) (env f dst : Int) : Kept K.ps (Fr.giveR K.ps env f dst).1 := by
  unfold Fr.giveR
  split
  · rename_i he
    obtain ⟨k, hk, rfl, hE, ho⟩ := ownErr_zero he
    have hpo := ok.pok _ (List.getElem_mem hk)
    rw [pg_at hk]
    split
    · rename_i ht
      split
      · rename_i h0
        exact Kept.set ok.pok hk h0 ⟨by show dst.toNat ≤ 2; rcases ht with h | h <;> omega, hpo.h, hpo.t⟩ h0
      · exact Kept.refl ok.pok
    · exact Kept.refl ok.pok
  · exact Kept.refl ok.pok
theorem kept_write (ok : K.Ok) (env f off : Int) (s : List UInt8) : Kept K.ps (Fr.writeR K.ps env f off s).1 := by
  unfold Fr.writeR
  split
  · rename_i he
    obtain ⟨k, hk, rfl, hE, ho⟩ := ownErr_zero he
    have hpo := ok.pok _ (List.getElem_mem hk)
    rw [pg_at hk]
    split
    · rename_i hin
      split
      · rename_i h0
        have h1 := hin.1; have h2 := hin.2.2
        have ht := hpo.t
        exact Kept.set ok.pok hk h0 ⟨hpo.o, hpo.h, by show (K.ps[k].text.take _ ++ s ++ K.ps[k].text.drop _).length = 256; simp [ht]; omega⟩ h0
      · exact Kept.refl ok.pok
    · exact Kept.refl ok.pok
  · exact Kept.refl ok.pok
theorem ok_dk (ok : K.Ok) {d : Dk} (h1 : d.on = true) (h2 : d.armed = -1) (h3 : d.Ok) : ({ K with dk := d } : Kn).Ok :=
  ⟨ok.f8, ok.fs, ok.n1, ok.n2, ok.no, ok.s1, ok.s2, ok.out, ok.holds, h1, h2, ok.pok, h3, ok.f3⟩
theorem ok_write (ok : K.Ok) (env block : Int) (s : List UInt8) : ({ K with dk := (writeR K.dk env block s).1 } : Kn).Ok := by
  unfold writeR
  split
  · rename_i he
    obtain ⟨_, b, rfl, hb, _⟩ := askE_zero he
    split
    · rename_i hs
      rw [if_neg (by rw [ok.arm]; decide)]
      refine ok_dk ok ok.on ?_ (by rw [Int.toNat_natCast]; exact ok.dok.laid hb hs (by rw [ok.arm]; decide))
      show (if K.dk.armed = -1 then -1 else K.dk.armed - 1) = -1
      rw [if_pos ok.arm]
    · exact ok_dk ok ok.on ok.arm ok.dok
  · exact ok_dk ok ok.on ok.arm ok.dok
theorem ok_sync (ok : K.Ok) : ({ K with dk := (syncR K.dk).1 } : Kn).Ok := by
  unfold syncR
  rw [if_pos ok.on]
  exact ok_dk ok ok.on ok.arm (ok.dok.settle _)
theorem ok_bind (ok : K.Ok) (env : Int) (he : env = 1 ∨ env = 2) (p : List Ins) (hp : ∀ q ∈ p, q.Ok) : (bindR K env p).1.Ok := by
  unfold bindR
  split
  · exact ok
  · rename_i h8
    split
    · rename_i hc
      refine ⟨by show (K.fs ++ [_]).length ≤ 8; simp; omega, fun f hf => ?_, ok.n1, ok.n2, ok.no, ok.s1, ok.s2, ok.out, ok.holds, ok.on, ok.arm, ok.pok, ok.dok, ok.f3⟩
      rcases List.mem_append.1 hf with h1 | h1
      · exact ok.fs f h1
      · rw [List.mem_singleton.1 h1]
        exact ⟨(chkB_iff p).1 hc, hp, by show 1 ≤ env.toNat; omega, by show env.toNat ≤ 2; omega⟩
    · exact ok
theorem ok_unbind (ok : K.Ok) (env id : Int) : (unbindR K env id).1.Ok := by
  unfold unbindR
  split
  · exact ⟨Nat.le_trans (by show (K.fs.eraseIdx _).length ≤ K.fs.length; rw [List.length_eraseIdx]; split <;> omega) ok.f8, fun f hf => ok.fs f (List.mem_of_mem_eraseIdx hf), ok.n1, ok.n2, ok.no, ok.s1, ok.s2, ok.out, ok.holds, ok.on, ok.arm, ok.pok, ok.dok, ok.f3⟩
  · exact ok
theorem ok_take (ok : K.Ok) (env : Int) : (takeR K env).1.Ok := by
  have h1 := ok.n1; have h2 := ok.n2
  unfold takeR
  split
  · split
    · rename_i s r hr
      rw [hr] at h1
      exact ⟨ok.f8, ok.fs, by show r.length ≤ 16; simp at h1; omega, ok.n2, ok.no, fun x hx => ok.s1 x (by rw [hr]; exact List.mem_cons_of_mem _ hx), ok.s2, ok.out, ok.holds, ok.on, ok.arm, ok.pok, ok.dok, ok.f3⟩
    · exact ok
  · split
    · rename_i s r hr
      rw [hr] at h2
      exact ⟨ok.f8, ok.fs, ok.n1, by show r.length ≤ 16; simp at h2; omega, ok.no, ok.s1, fun x hx => ok.s2 x (by rw [hr]; exact List.mem_cons_of_mem _ hx), ok.out, ok.holds, ok.on, ok.arm, ok.pok, ok.dok, ok.f3⟩
    · exact ok
/-- Another table, the same but for its holds. -/
theorem turned_tr {ps qs : List Pg} {d : Nat → Nat} (h : Turned ps qs d) {t : Tr} (o : t.Ok ps) : t.Ok qs := by
  refine ⟨o.ne, o.n, o.ok, fun p hp => by rw [h.1]; exact o.fits p hp, fun p hp => ?_, o.e1, o.e2⟩
  have hf := o.fits p hp
  have := o.own p hp
  rw [h.pg ⟨hf.2.2.1, hf.2.2.2⟩]
  exact this
theorem ok_submit (ok : K.Ok) (env : Int) (l : List Pc) (hl : ∀ p ∈ l, p.Ok) : (submitR K env l).1.Ok := by
  unfold submitR
  split
  · exact ok
  · rename_i h16
    split
    · rename_i h0
      have hchk : checkR K.ps env l = 0 := by
        unfold holdG at h0
        split at h0
        · assumption
        · exact absurd h0 (by assumption)
      have e1 : (holdG K.ps env l).1 = holdN K.ps env l := by unfold holdG; rw [if_pos hchk]
      rw [e1]
      obtain ⟨hz, hown⟩ := check_zero hchk
      obtain ⟨hE, hne, hall, hl16, _⟩ := fits_of_zero hz
      have hT := holdN_turned l hown (Turned.refl K.ps)
      have hh : ∀ k (hk : k < (holdN K.ps env l).length), (holdN K.ps env l)[k].holds = heldN (K.out ++ [⟨env.toNat, l⟩]) (k : Int) := by
        intro k hk
        have hk' : k < K.ps.length := by rw [← hT.1]; exact hk
        rw [hT.2 k hk' hk]
        show (K.ps.getD k .blank).holds + cnt l (k : Int) = _
        have : heldN (K.out ++ [⟨env.toNat, l⟩]) (k : Int) = heldN K.out (k : Int) + cnt l (k : Int) := by unfold heldN; rw [List.map_append, List.sum_append]; simp
        rw [this, ← ok.holds k hk']
        simp [hk']
      have hto : ∀ t ∈ K.out ++ [⟨env.toNat, l⟩], t.Ok (holdN K.ps env l) := by
        intro t ht
        refine turned_tr hT ?_
        rcases List.mem_append.1 ht with h1 | h1
        · exact ok.out t h1
        · rw [List.mem_singleton.1 h1]
          refine ⟨hne, hl16, hl, hall, fun p hp => ?_, by show 1 ≤ env.toNat; omega, by show env.toNat ≤ 2; omega⟩
          obtain ⟨k, hk, e, _, ho⟩ := ownErr_zero (hown p hp)
          rw [e, pg_at hk]
          show K.ps[k].owner = env.toNat
          omega
      refine ⟨ok.f8, ok.fs, ok.n1, ok.n2, by show (K.out ++ [_]).length ≤ 16; simp; omega, ok.s1, ok.s2, hto, hh, ok.on, ok.arm, fun p hp => ?_, ok.dok, ok.f3⟩
      obtain ⟨k, hk, rfl⟩ := List.mem_iff_getElem.1 hp
      have hk' : k < K.ps.length := by rw [← hT.1]; exact hk
      have hpo := ok.pok _ (List.getElem_mem hk')
      have h1 := hh k hk
      have h2 := heldN_le hto (k : Int)
      have h3 : (K.out ++ [(⟨env.toNat, l⟩ : Tr)]).length ≤ 16 := by simp; omega
      have e := hT.2 k hk' hk
      refine ⟨?_, by show (holdN K.ps env l)[k].holds ≤ _; omega, ?_⟩
      · rw [e]; exact hpo.o
      · rw [e]; exact hpo.t
    · exact ok
theorem ok_call (ok : K.Ok) (q : KQ) (hp : ∀ p ∈ q.p, p.Ok) (hl : ∀ p ∈ q.l, p.Ok) : (callR K q).1.Ok := by
  unfold callR
  refine ite_all (P := fun (z : Kn × Int × List UInt8 × Int) => z.1.Ok) (fun c0 => ?_) (fun c0 => ?_)
  · exact ok
  have he' : q.env = 1 ∨ q.env = 2 := Decidable.not_not.1 c0
  refine ite_all (P := fun (z : Kn × Int × List UInt8 × Int) => z.1.Ok) (fun c1 => ?_) (fun c1 => ?_)
  · exact ok.setPs (kept_alloc ok _)
  refine ite_all (P := fun (z : Kn × Int × List UInt8 × Int) => z.1.Ok) (fun c2 => ?_) (fun c2 => ?_)
  · exact ok.setPs (kept_free ok _ _)
  refine ite_all (P := fun (z : Kn × Int × List UInt8 × Int) => z.1.Ok) (fun c3 => ?_) (fun c3 => ?_)
  · exact ok.setPs (kept_give ok _ _ _)
  refine ite_all (P := fun (z : Kn × Int × List UInt8 × Int) => z.1.Ok) (fun c4 => ?_) (fun c4 => ?_)
  · exact ok
  refine ite_all (P := fun (z : Kn × Int × List UInt8 × Int) => z.1.Ok) (fun c5 => ?_) (fun c5 => ?_)
  · exact ok.setPs (kept_write ok _ _ _ _)
  refine ite_all (P := fun (z : Kn × Int × List UInt8 × Int) => z.1.Ok) (fun c6 => ?_) (fun c6 => ?_)
  · exact ok
  refine ite_all (P := fun (z : Kn × Int × List UInt8 × Int) => z.1.Ok) (fun c7 => ?_) (fun c7 => ?_)
  · exact ok_write ok _ _ _
  refine ite_all (P := fun (z : Kn × Int × List UInt8 × Int) => z.1.Ok) (fun c8 => ?_) (fun c8 => ?_)
  · exact ok_sync ok
  refine ite_all (P := fun (z : Kn × Int × List UInt8 × Int) => z.1.Ok) (fun c9 => ?_) (fun c9 => ?_)
  · exact ok_bind ok _ he' _ hp
  refine ite_all (P := fun (z : Kn × Int × List UInt8 × Int) => z.1.Ok) (fun c10 => ?_) (fun c10 => ?_)
  · exact ok_unbind ok _ _
  refine ite_all (P := fun (z : Kn × Int × List UInt8 × Int) => z.1.Ok) (fun c11 => ?_) (fun c11 => ?_)
  · exact ok_submit ok _ _ hl
  refine ite_all (P := fun (z : Kn × Int × List UInt8 × Int) => z.1.Ok) (fun c12 => ?_) (fun c12 => ?_)
  · exact ok_take ok _
  refine ite_all (P := fun (z : Kn × Int × List UInt8 × Int) => z.1.Ok) (fun c13 => ?_) (fun c13 => ?_)
  · exact ok
  · exact ok
end
end Go.Proofs.YtefnkednnnlhoaaGreatDoor.Ke

/- The chapter's example. No condition. -/
namespace Go.Proofs.YtefnkednnnlhoaaGreatDoor.Ke
open Go.ChangeShapes Go.WideShapes Go.ChangeAt Go.RowKit Go.Deep Fr Di
set_option linter.unusedVariables false
/-- A kernel in memory, all of it behind block B; no label is 8. -/
structure KB (B : Nat) (w : World) (lab : Nat → Nat) (g : Nat) (K : Kn) : Prop where
  ka : KA w lab g K
  n8 : ∀ k, lab k ≠ 8
  ge : ∀ k, lab k ≠ 0 → B ≤ k
  ok : K.Ok
theorem KB.step {B : Nat} {w w' : World} {lab lab' : Nat → Nat} {g : Nat} {K K' : Kn} (h : KB B w lab g K) (ka : KA w' lab' g K') (L : LStep w w' lab lab') (n8 : ∀ k, lab' k ≠ 8) (ok : K'.Ok) (hB : B ≤ w.heap.size) : KB B w' lab' g K' ∧ Below B w w' :=
  ⟨⟨ka, n8, fun k hk => by
    rcases L.old k hk with h1 | h1
    · exact h.ge k h1
    · omega, ok⟩, L.chg.below hB (fun k hk => h.ge k hk.1)⟩
theorem KB.new {B : Nat} {w w' : World} {lab : Nat → Nat} {g : Nat} {K : Kn} (h : KB B w lab g K) (k : Below w.heap.size w w') : KB B w' lab g K := by
  obtain ⟨a, ha⟩ := h.ka
  exact ⟨⟨a, ha.new k⟩, h.n8, h.ge, h.ok⟩
/-- A kernel that New makes. -/
theorem new_kb (n b : Nat) (w : World) (h1 : 1 ≤ n) (h2 : n ≤ 256) (h3 : 4 ≤ b) (h4 : b ≤ 512) :
    Calls Tryz.prog 12 #[.int .i64 (n : Int), .int .i64 (b : Int)] w fun e w' => ∃ g lab, e = .returned (.tuple #[.pointer (some ⟨g, 0, none⟩), .int .i64 0]) ∧ KB w.heap.size w' lab g (newK n b) ∧ Below w.heap.size w w' :=
  (new_ok n b w h1 h2 h3 h4).mono fun e w' ⟨g, lab, he, ka, ge, hb⟩ => ⟨g, off8 lab, he, ⟨by obtain ⟨a, ha⟩ := ka; exact ⟨a, ha.unmark⟩, off8_ne lab, fun k hk => ge k (off8_on hk), newK_ok h1 h2 h3 h4⟩, hb⟩
theorem call_kb {B : Nat} {w : World} {lab : Nat → Nat} {g : Nat} {K : Kn} (h : KB B w lab g K) (hB : B ≤ w.heap.size) (n : Nat) (sm : K.Small n) (hn : n < 1000000) (q : KQ) (x : KX) (hq : q.In w lab x) :
    Calls Tryz.prog 38 #[.pointer (some ⟨g, 0, none⟩), .agg (q.cells x)] w fun e w' => ∃ A c, e = .returned (.tuple #[.agg #[.int .i64 (callR K q).2.1, .slice A (callR K q).2.2.1.length c], .int .i64 (callR K q).2.2.2]) ∧
      ∃ lab', KB B w' lab' g (callR K q).1 ∧ LStep w w' lab lab' ∧ Below B w w' ∧ Src w' A (callR K q).2.2.1.length c (callR K q).2.2.1 ∧ Off (on lab') A (callR K q).2.2.1.length := by
  refine (call_any h.ka h.n8 h.ok n sm hn q x hq).mono ?_
  rintro e w' ⟨A, c, he, lab', ka, L, n8, hs, ho⟩
  obtain ⟨k1, k2⟩ := h.step ka L n8 (ok_call h.ok q hq.pok hq.lok) hB
  exact ⟨A, c, he, lab', k1, L, k2, hs, ho⟩
section
variable (K : Kn) (env : Int) (he : env = 1 ∨ env = 2) (a b c : Int) (s : List UInt8) (p : List Ins) (l : List Pc)
include he
theorem callR_6 : callR K ⟨6, env, a, b, c, s, p, l⟩ = (K, 0, (readR K.dk env a).1, (readR K.dk env a).2) := by unfold callR; rw [if_neg (fun h => h he)]; rfl
theorem callR_7 : callR K ⟨7, env, a, b, c, s, p, l⟩ = ({ K with dk := (writeR K.dk env a s).1 }, 0, [], (writeR K.dk env a s).2) := by unfold callR; rw [if_neg (fun h => h he)]; rfl
end
theorem KB.lab0 {B : Nat} {w : World} {lab : Nat → Nat} {g : Nat} {K : Kn} (h : KB B w lab g K) {i : Nat} (hi : w.heap.size ≤ i) : lab i = 0 := by
  obtain ⟨a, ha⟩ := h.ka
  by_cases h0 : lab i = 0
  · exact h0
  · have := ha.all i h0; omega
end Go.Proofs.YtefnkednnnlhoaaGreatDoor.Ke

/- Names, targets, kinds, in plain words; no program's run in this text. No condition. -/
namespace Go.Proofs.YtefnkednnnlhoaaGreatDoor.Pt
/-- The bytes of segments. -/
def plainC (c : UInt8) : Bool := (97 ≤ c && c ≤ 122) || (65 ≤ c && c ≤ 90) || (48 ≤ c && c ≤ 57) || c == 46 || c == 45 || c == 95
def segB (l : List UInt8) : Bool := l != [] && l != [46] && l != [46, 46] && l.all plainC
/-- What stands between the strokes. -/
def segs : List UInt8 → List (List UInt8)
  | [] => [[]]
  | b :: t => if b = 47 then [] :: segs t else (match segs t with | x :: r => (b :: x) :: r | [] => [[b]])
theorem segs_cons (b : UInt8) (t : List UInt8) : segs (b :: t) = if b = 47 then [] :: segs t else (match segs t with | x :: r => (b :: x) :: r | [] => [[b]]) := rfl
theorem segs_none {l : List UInt8} (h : (47 : UInt8) ∉ l) : segs l = [l] := by
  induction l with
  | nil => rfl
  | cons b t ih =>
    simp only [List.mem_cons, not_or] at h
    rw [segs_cons, if_neg (fun e => h.1 e.symm), ih h.2]
theorem segs_at {l r : List UInt8} (h : (47 : UInt8) ∉ l) : segs (l ++ 47 :: r) = l :: segs r := by
  induction l with
  | nil => show segs (47 :: r) = _; rw [segs_cons, if_pos rfl]
  | cons b t ih =>
    simp only [List.mem_cons, not_or] at h
    show segs (b :: (t ++ 47 :: r)) = _
    rw [segs_cons, if_neg (fun e => h.1 e.symm), ih h.2]
def nameB (l : List UInt8) : Bool := decide (l.length ≤ 24) && (segs l).all segB
/-! Names. -/
/-! The document's way through a name. -/
/-! Kinds. -/
/-! A byte as digits. -/
end Go.Proofs.YtefnkednnnlhoaaGreatDoor.Pt
