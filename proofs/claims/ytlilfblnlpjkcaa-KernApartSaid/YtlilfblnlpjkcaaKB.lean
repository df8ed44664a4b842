/- What the second environment's calls leave alone, in plain words. Conditions: those that each states. -/
import Derived.Test.YtlilfblnlpjkcaaKC
namespace Go.Proofs.Ytlilfblnlpjkcaa.Ke
open Go.ChangeShapes Go.WideShapes Go.ChangeAt Go.RowKit Go.Deep Fr Di
set_option linter.unusedVariables false
/-- Frame 0 is environment 1's and has T, block 0 is its and has B, the first filter takes everything, and nothing waits for it. -/
structure Apt (T B : List UInt8) (K : Kn) : Prop where
  n : 0 < K.ps.length
  own : (pg K.ps 0).owner = 1
  txt : (pg K.ps 0).text = T
  fs : ∃ r, K.fs = allF :: r
  i1 : K.i1 = []
  nb : 0 < K.dk.blocks.length
  ow : K.dk.own 0 = 1
  sb : see K.dk 0 = B
theorem pg_set_ne {ps : List Pg} {k : Nat} (p : Pg) (h : 0 < ps.length) (hk : k ≠ 0) : pg (ps.set k p) 0 = pg ps 0 := by
  rw [pg_zero (by simpa using h), pg_zero h, List.getElem_set, if_neg hk]
theorem see_put (d : Dk) (b b' : Nat) (s : List UInt8) : see (laid d b s) b' = if b = b' then s else see d b' := by
  unfold see
  show seen (d.line ++ [⟨b, s⟩]) b' _ = _
  rw [seen_append]
  rfl
theorem see_done {d : Dk} (b : Nat) (hb : b < d.blocks.length) : see (settleR d d.line.length) b = see d b := by
  unfold see
  show seen [] b ((put d.blocks (d.line.take d.line.length)).getD b []) = _
  rw [List.take_length, put_get _ _ _ hb]
  rfl
section
variable {T B : List UInt8} {K : Kn}
theorem apt_ps (h : Apt T B K) {qs : List Pg} (h1 : 0 < qs.length) (h2 : (pg qs 0).owner = 1) (h3 : (pg qs 0).text = T) : Apt T B { K with ps := qs } :=
  ⟨h1, h2, h3, h.fs, h.i1, h.nb, h.ow, h.sb⟩
theorem apt_set (h : Apt T B K) {k : Nat} (p : Pg) (hk : k ≠ 0) : Apt T B { K with ps := K.ps.set k p } :=
  apt_ps h (by simpa using h.n) (by rw [pg_set_ne p h.n hk]; exact h.own) (by rw [pg_set_ne p h.n hk]; exact h.txt)
theorem apt_ne (h : Apt T B K) {k : Nat} (hk : k < K.ps.length) (ho : K.ps[k].owner ≠ 1) : k ≠ 0 := by
  rintro rfl
  have := h.own
  rw [pg_zero hk] at this
  exact ho this
theorem apt_alloc (h : Apt T B K) : Apt T B { K with ps := (Fr.allocR K.ps 2).1 } := by
  unfold Fr.allocR
  rw [if_pos (show isE 2 from .inr rfl)]
  split
  · rename_i k hk
    obtain ⟨hl, h0, _⟩ := List.findIdx?_eq_some_iff_getElem.1 hk
    exact apt_set h _ (apt_ne h hl (by have : K.ps[k].owner = 0 := by simpa using h0
                                       omega))
  · exact h
theorem apt_own (h : Apt T B K) {f : Int} (he : ownErr K.ps 2 f = 0) : f.toNat ≠ 0 := by
  obtain ⟨k, hk, e, _, ho⟩ := ownErr_zero he
  rw [e, Int.toNat_natCast]
  exact apt_ne h hk (by omega)
theorem apt_free (h : Apt T B K) (f : Int) : Apt T B { K with ps := (Fr.freeR K.ps 2 f).1 } := by
  unfold Fr.freeR
  split
  · rename_i he
    have hk := apt_own h he
    split
    · exact apt_set h _ hk
    · exact h
  · exact h
theorem apt_give (h : Apt T B K) (f d : Int) : Apt T B { K with ps := (Fr.giveR K.ps 2 f d).1 } := by
  unfold Fr.giveR
  split
  · rename_i he
    have hk := apt_own h he
    split
    · split
      · exact apt_set h _ hk
      · exact h
    · exact h
  · exact h
theorem apt_write (h : Apt T B K) (f off : Int) (s : List UInt8) : Apt T B { K with ps := (Fr.writeR K.ps 2 f off s).1 } := by
  unfold Fr.writeR
  split
  · rename_i he
    have hk := apt_own h he
    split
    · split
      · exact apt_set h _ hk
      · exact h
    · exact h
  · exact h
theorem apt_turned (h : Apt T B K) {qs : List Pg} {d : Nat → Nat} (hT : Turned K.ps qs d) : Apt T B { K with ps := qs } := by
  have e := hT.pg (f := 0) ⟨by omega, by have := h.n; omega⟩
  exact apt_ps h (by rw [hT.1]; exact h.n) (by rw [e]; exact h.own) (by rw [e]; exact h.txt)
theorem apt_dk (h : Apt T B K) {d : Dk} (h1 : 0 < d.blocks.length) (h2 : d.own 0 = 1) (h3 : see d 0 = B) : Apt T B { K with dk := d } :=
  ⟨h.n, h.own, h.txt, h.fs, h.i1, h1, h2, h3⟩
theorem apt_wblock (ok : K.Ok) (h : Apt T B K) (block : Int) (s : List UInt8) : Apt T B { K with dk := (writeR K.dk 2 block s).1 } := by
  unfold writeR
  split
  · rename_i he
    obtain ⟨_, b, rfl, hb, ho, _⟩ := askE_zero he
    split
    · rw [if_neg (by rw [ok.arm]; decide)]
      rw [Int.toNat_natCast]
      have hne : b ≠ 0 := by
        rintro rfl
        have := h.ow
        omega
      exact apt_dk h h.nb h.ow (by show see (laid K.dk b s) 0 = B; rw [see_put, if_neg hne]; exact h.sb)
    · exact h
  · exact h
theorem apt_sync (ok : K.Ok) (h : Apt T B K) : Apt T B { K with dk := (syncR K.dk).1 } := by
  unfold syncR
  rw [if_pos ok.on]
  exact apt_dk h (by show 0 < (put _ _).length; rw [put_len]; exact h.nb) h.ow (by show see (settleR K.dk K.dk.line.length) 0 = B; rw [see_done 0 h.nb]; exact h.sb)
theorem apt_bind (h : Apt T B K) (p : List Ins) : Apt T B (bindR K 2 p).1 := by
  obtain ⟨r, hr⟩ := h.fs
  unfold bindR
  split
  · exact h
  · split
    · exact ⟨h.n, h.own, h.txt, ⟨r ++ [⟨K.next, 2, p⟩], by show K.fs ++ _ = _; rw [hr]; rfl⟩, h.i1, h.nb, h.ow, h.sb⟩
    · exact h
theorem apt_unbind (h : Apt T B K) (id : Int) : Apt T B (unbindR K 2 id).1 := by
  obtain ⟨r, hr⟩ := h.fs
  unfold unbindR
  split
  · rename_i i hi
    have h0 : isFil id 2 allF = false := by
      have : decide ((allF.env : Int) = 2) = false := by decide
      unfold isFil
      rw [this, Bool.and_false]
    rw [hr, List.findIdx?_cons, h0] at hi
    obtain ⟨j, hj, rfl⟩ : ∃ j, List.findIdx? (isFil id 2) r = some j ∧ j + 1 = i := by simpa using hi
    exact ⟨h.n, h.own, h.txt, ⟨r.eraseIdx j, by show K.fs.eraseIdx (j + 1) = _; rw [hr]; rfl⟩, h.i1, h.nb, h.ow, h.sb⟩
  · exact h
theorem apt_submit (h : Apt T B K) (l : List Pc) : Apt T B (submitR K 2 l).1 := by
  unfold submitR
  split
  · exact h
  · split
    · rename_i h0
      have hchk : checkR K.ps 2 l = 0 := by
        unfold holdG at h0
        split at h0
        · assumption
        · exact absurd h0 (by assumption)
      have e1 : (holdG K.ps 2 l).1 = holdN K.ps 2 l := by unfold holdG; rw [if_pos hchk]
      rw [e1]
      obtain ⟨hz, hown⟩ := check_zero hchk
      have hA := apt_turned h (holdN_turned l hown (Turned.refl K.ps))
      exact ⟨hA.n, hA.own, hA.txt, hA.fs, hA.i1, hA.nb, hA.ow, hA.sb⟩
    · exact h
theorem apt_take (h : Apt T B K) : Apt T B (takeR K 2).1 := by
  unfold takeR
  rw [if_neg (by decide)]
  split
  · exact ⟨h.n, h.own, h.txt, h.fs, h.i1, h.nb, h.ow, h.sb⟩
  · exact h
theorem apt_call (ok : K.Ok) (h : Apt T B K) (q : KQ) (he : q.env = 2) : Apt T B (callR K q).1 := by
  obtain ⟨op, env, a, b, c, s, p, l⟩ := q
  have he' : env = 2 := he
  subst he'
  unfold callR
  refine ite_all (P := fun (z : Kn × Int × List UInt8 × Int) => Apt T B z.1) (fun c0 => ?_) (fun c0 => ?_)
  · exact h
  refine ite_all (P := fun (z : Kn × Int × List UInt8 × Int) => Apt T B z.1) (fun c1 => ?_) (fun c1 => ?_)
  · exact apt_alloc h
  refine ite_all (P := fun (z : Kn × Int × List UInt8 × Int) => Apt T B z.1) (fun c2 => ?_) (fun c2 => ?_)
  · exact apt_free h _
  refine ite_all (P := fun (z : Kn × Int × List UInt8 × Int) => Apt T B z.1) (fun c3 => ?_) (fun c3 => ?_)
  · exact apt_give h _ _
  refine ite_all (P := fun (z : Kn × Int × List UInt8 × Int) => Apt T B z.1) (fun c4 => ?_) (fun c4 => ?_)
  · exact h
  refine ite_all (P := fun (z : Kn × Int × List UInt8 × Int) => Apt T B z.1) (fun c5 => ?_) (fun c5 => ?_)
  · exact apt_write h _ _ _
  refine ite_all (P := fun (z : Kn × Int × List UInt8 × Int) => Apt T B z.1) (fun c6 => ?_) (fun c6 => ?_)
  · exact h
  refine ite_all (P := fun (z : Kn × Int × List UInt8 × Int) => Apt T B z.1) (fun c7 => ?_) (fun c7 => ?_)
  · exact apt_wblock ok h _ _
  refine ite_all (P := fun (z : Kn × Int × List UInt8 × Int) => Apt T B z.1) (fun c8 => ?_) (fun c8 => ?_)
  · exact apt_sync ok h
  refine ite_all (P := fun (z : Kn × Int × List UInt8 × Int) => Apt T B z.1) (fun c9 => ?_) (fun c9 => ?_)
  · exact apt_bind h _
  refine ite_all (P := fun (z : Kn × Int × List UInt8 × Int) => Apt T B z.1) (fun c10 => ?_) (fun c10 => ?_)
  · exact apt_unbind h _
  refine ite_all (P := fun (z : Kn × Int × List UInt8 × Int) => Apt T B z.1) (fun c11 => ?_) (fun c11 => ?_)
  · exact apt_submit h _
  refine ite_all (P := fun (z : Kn × Int × List UInt8 × Int) => Apt T B z.1) (fun c12 => ?_) (fun c12 => ?_)
  · exact apt_take h
  refine ite_all (P := fun (z : Kn × Int × List UInt8 × Int) => Apt T B z.1) (fun c13 => ?_) (fun c13 => ?_)
  · exact h
  · exact h
theorem apt_depart (ok : K.Ok) (h : Apt T B K) : Apt T B (departR K).1 := by
  unfold departR
  split
  · exact h
  · rename_i t r hr
    have ht : t ∈ K.out := by rw [hr]; exact List.mem_cons_self
    rw [ok.drops ht]
    have hA := apt_turned h (dropN_turned t.l (Turned.refl K.ps))
    exact ⟨hA.n, hA.own, hA.txt, hA.fs, hA.i1, hA.nb, hA.ow, hA.sb⟩
/-- What comes is environment 1's, and taken. -/
theorem apt_arrive (h : Apt T B K) (s : List UInt8) : Apt T B ((callR (arriveR K s).1 ⟨12, 1, 0, 0, 0, [], [], []⟩).1) ∧ (s.length ≤ 1024 → (arriveR K s).2 = (1, 0)) := by
  obtain ⟨r, hr⟩ := h.fs
  rw [callR_12 _ 1 (.inl rfl)]
  unfold arriveR
  by_cases hl : 1024 < s.length
  · rw [if_pos hl]
    refine ⟨?_, fun h1 => by omega⟩
    show Apt T B (takeR K 1).1
    unfold takeR
    rw [if_pos rfl, h.i1]
    exact h
  · rw [if_neg hl]
    have hf : K.fs.find? (wants s) = some allF := by rw [hr, List.find?_cons_of_pos (wants_all s)]
    rw [hf]
    dsimp only
    rw [if_pos (show allF.env = 1 from rfl), if_neg (by rw [h.i1]; simp)]
    refine ⟨?_, fun _ => rfl⟩
    show Apt T B (takeR { K with i1 := K.i1 ++ [s] } 1).1
    unfold takeR
    rw [if_pos rfl, h.i1]
    exact ⟨h.n, h.own, h.txt, h.fs, rfl, h.nb, h.ow, h.sb⟩
theorem apt_rblock (ok : K.Ok) (h : Apt T B K) : callR K ⟨6, 1, 0, 0, 0, [], [], []⟩ = (K, 0, B, 0) := by
  have h1 := callR_6 K 1 (.inl rfl) 0 0 0 [] [] []
  have e : askE K.dk 1 0 = 0 := by
    unfold askE
    rw [if_neg (by rw [ok.on]; decide), if_neg (by have := h.nb; omega)]
    have := h.ow
    rw [if_pos]
    refine ⟨?_, by decide⟩
    show ((K.dk.own 0 : Nat) : Int) = 1
    omega
  have h2 : readR K.dk 1 0 = (B, 0) := by
    unfold readR
    rw [if_pos e]
    show (see K.dk 0, (0 : Int)) = _
    rw [h.sb]
  rw [h2] at h1
  exact h1
end
theorem apt_read {s B : List UInt8} {K : Kn} (h : Apt (sT 0 s) B K) (hs : s.length ≤ 256) : callR K ⟨4, 1, 0, 0, (s.length : Int), [], [], []⟩ = (K, 0, s, 0) := by
  have h1 := callR_4 K 1 (.inl rfl) 0 0 (s.length : Int) [] [] []
  have e : ownErr K.ps 1 0 = 0 := by
    unfold ownErr
    rw [if_pos ⟨.inl rfl, ⟨by omega, by have := h.n; omega⟩⟩, if_pos (by rw [h.own]; rfl)]
  have h2 : Fr.readR K.ps 1 0 0 (s.length : Int) = (s, 0) := by
    unfold Fr.readR
    rw [if_pos e, if_pos (show isIn 0 (s.length : Int) from ⟨by omega, by omega, by omega⟩), h.txt]
    have : List.take (Int.toNat (s.length : Int)) (List.drop (Int.toNat 0) (sT 0 s)) = s := by
      rw [Int.toNat_natCast]
      show List.take s.length (List.drop 0 (List.take 0 Pg.blank.text ++ s ++ _)) = s
      rw [List.drop_zero, List.take_zero, List.nil_append, List.take_append_of_le_length (Nat.le_refl _), List.take_of_length_le (Nat.le_refl _)]
    rw [this]
  rw [h2] at h1
  exact h1
/-- The law's kernel, block 0 written. -/
def aK2 (s B : List UInt8) : Kn := { sK2 0 s with dk := laid (newK 4 8).dk 0 B }
theorem aK2_call (s B : List UInt8) (hB : B.length = 256) : callR (sK2 0 s) ⟨7, 1, 0, 0, 0, B, [], []⟩ = (aK2 s B, 0, [], 0) := by
  have h1 := callR_7 (sK2 0 s) 1 (.inl rfl) 0 0 0 B [] []
  have e : askE (sK2 0 s).dk 1 0 = 0 := by
    show askE (newK 4 8).dk 1 0 = 0
    decide
  have h2 : writeR (sK2 0 s).dk 1 0 B = (laid (newK 4 8).dk 0 B, 0) := by
    unfold writeR
    rw [if_pos e, if_pos hB, if_neg (show ¬ (sK2 0 s).dk.armed = 0 from by show ¬ (newK 4 8).dk.armed = 0; decide)]
    rfl
  rw [h2] at h1
  exact h1
theorem aK3_call (s B : List UInt8) : callR (aK2 s B) ⟨9, 1, 0, 0, 0, [], allP, []⟩ = (cK (aK2 s B), 0, [], 0) := by
  have h := callR_9 (aK2 s B) 1 (.inl rfl) 0 0 0 [] allP []
  rw [bind_all (aK2 s B) rfl rfl] at h
  exact h
theorem aK_apt (s B : List UInt8) : Apt (sT 0 s) B (cK (aK2 s B)) :=
  ⟨(by show 0 < 4; omega), rfl, rfl, ⟨[], rfl⟩, rfl, (by show 0 < ((newK 4 8).dk.blocks.length); decide), (by show (newK 4 8).dk.own 0 = 1; decide), by show see (laid (newK 4 8).dk 0 B) 0 = B; rw [see_put, if_pos rfl]⟩
end Go.Proofs.Ytlilfblnlpjkcaa.Ke
