/- What a transfer that waits first keeps, in plain words. Conditions: those that each states. -/
import Derived.Test.YtlilfblnlpjkcaaKnD
namespace Go.Proofs.Ytlilfblnlpjkcaa.Ke
open Go.ChangeShapes Go.WideShapes Go.ChangeAt Go.RowKit Go.Deep Fr Di
set_option linter.unusedVariables false
/-- The program's call, made of the law's, as a call to a kernel. -/
theorem made_in {B : Nat} {w w' : World} {lab : Nat → Nat} {g : Nat} {K : Kn} {q : KC} {x : KX} (h : KB B w lab g K) (hq : q.In w) (hn : Near q) (m : MadeQ w q x w') : (kq q).In w' lab x :=
  ⟨hq.b, m.hs, fun b o e => (by have h1 := m.fb b (by rw [e]; rfl); exact ⟨h1.2, h.lab0 h1.1⟩), m.hp, m.np, (by have := hn.2.1; show q.p.length ≤ _; omega), hq.pok, m.hl, hq.lok, fun b o e => (by have h1 := m.fl b (by rw [e]; rfl); exact ⟨h1.2, h.lab0 h1.1⟩), m.cl, (by have := hn.2.2; show q.l.length ≤ _; omega)⟩
theorem kc_new {w w' : World} {q : KC} (h : q.In w) (k : Below w.heap.size w w') : q.In w' :=
  ⟨h.a, h.b, h.c, h.s, h.p.new k, h.pok, h.pn, h.l.new k, h.lok, h.ln⟩
theorem kacts_new {w w' : World} {A : Option Addr} {n : Nat} {fn : Nat → KAct} (h : KActs w A n fn) (k : Below w.heap.size w w') : KActs w' A n fn := by
  intro i hi
  obtain ⟨b, o, e, hb, hr, hq, hs⟩ := h i hi
  refine ⟨b, o, e, Nat.lt_of_lt_of_le hb k.size, fun j v hj => ?_, kc_new hq k, hs⟩
  rw [World.cell?_of_block (w := w) (w' := w') (a := ⟨b, o + i * 10 + j, none⟩) (k.block b hb)]
  exact hr j v hj
theorem LStep.zero {w w' : World} {lab lab' : Nat → Nat} (L : LStep w w' lab lab') {k : Nat} (h0 : lab k = 0) (hk : k < w.heap.size) : lab' k = 0 := by
  by_cases h : lab' k = 0
  · exact h
  · rcases L.old k h with h1 | h1
    · exact absurd h0 h1
    · omega
theorem gpc_info : (Try.prog.info? 55).map (·.size) = some 3 := by kernel_rfl
theorem piece_any (f o n : Int) (w : World) : Calls Try.prog 15 #[.int .i64 f, .int .i64 o, .int .i64 n] w fun e w' => e = .returned (.agg #[.int .i64 f, .int .i64 o, .int .i64 n]) ∧ Below w.heap.size w w' := by
  obtain ⟨W, hW⟩ : ∃ W, W = w.alloc (.cells #[.int .i64 0, .int .i64 0, .int .i64 0] 55) := ⟨_, rfl⟩
  have hb : Below w.heap.size w W := by rw [hW]; exact (Below.refl _ w).alloc (Nat.le_refl _) _
  have bp := Lib.hid (show Blk W w.heap.size 55 #[.int .i64 0, .int .i64 0, .int .i64 0] by rw [hW]; exact Blk.new w _ _)
  have R0 := Lib.hid (show Blk (((W.setCell ⟨w.heap.size, 0, none⟩ (.int .i64 f)).setCell ⟨w.heap.size, 1, none⟩ (.int .i64 o)).setCell ⟨w.heap.size, 2, none⟩ (.int .i64 n)) w.heap.size 55 #[.int .i64 f, .int .i64 o, .int .i64 n] from ((bp.out.put 0 _).put 1 _).put 2 _)
  have FIN := Lib.hid (show Below w.heap.size w (((W.setCell ⟨w.heap.size, 0, none⟩ (.int .i64 f)).setCell ⟨w.heap.size, 1, none⟩ (.int .i64 o)).setCell ⟨w.heap.size, 2, none⟩ (.int .i64 n)) from ((hb.setCell (Nat.le_refl _) _).setCell (Nat.le_refl _) _).setCell (Nat.le_refl _) _)
  have d0 := (bp.out.cell 0).trans (show _ = some (.int .i64 0) from rfl)
  have d1 := (bp.out.cell 1).trans (show _ = some (.int .i64 0) from rfl)
  have d2 := (bp.out.cell 2).trans (show _ = some (.int .i64 0) from rfl)
  have e0 := bp.out.frozen 0
  have e1 := bp.out.frozen 1
  have e2 := bp.out.frozen 2
  have HW := Lib.hid hW
  clear hW hb
  go_enter Try.func15, Try.ntmps15
  go_upto_region 1 with fail
  rw [show w.alloc (.cells #[.int .i64 0, .int .i64 0, .int .i64 0] 55) = W from HW.out.symm]
  go_wp2
  refine bodyPost_ret (v := .agg #[.int .i64 f, .int .i64 o, .int .i64 n]) (results_cell_row Try.results15 _ _ w.heap.size 55 _ (0, 0) _ rfl R0.out Try.underlying55 rfl gpc_info) rfl ?_
  exact ⟨rfl, FIN.out⟩
/-- The first transfer that waits is t, frame 0 is of environment 1 and has T. -/
structure Snd (T : List UInt8) (t : Tr) (K : Kn) : Prop where
  hd : ∃ r, K.out = t :: r
  n : 0 < K.ps.length
  own : (pg K.ps 0).owner = 1
  txt : (pg K.ps 0).text = T
theorem snd_holds {T : List UInt8} {t : Tr} {K : Kn} (ok : K.Ok) (h : Snd T t K) (ht : 0 < cnt t.l 0) : 1 ≤ (K.ps[0]'h.n).holds := by
  obtain ⟨r, e⟩ := h.hd
  have h1 := ok.holds 0 h.n
  rw [e, heldN_cons] at h1
  have h2 : cnt t.l ((0 : Nat) : Int) = cnt t.l 0 := rfl
  omega
theorem pg_zero {ps : List Pg} (h : 0 < ps.length) : pg ps 0 = ps[0] := pg_at h
theorem snd_ps {T : List UInt8} {t : Tr} {K : Kn} (ok : K.Ok) (h : Snd T t K) (ht : 0 < cnt t.l 0) {qs : List Pg} (k : Kept K.ps qs) : Snd T t { K with ps := qs } := by
  have h1 := snd_holds ok h ht
  have h' : 0 < qs.length := by rw [k.len]; exact h.n
  have e : pg qs 0 = pg K.ps 0 := by rw [pg_zero h', pg_zero h.n]; exact k.stay 0 h.n h' (by omega)
  exact ⟨h.hd, h', by show (pg qs 0).owner = 1; rw [e]; exact h.own, by show (pg qs 0).text = T; rw [e]; exact h.txt⟩
theorem snd_same {T : List UInt8} {t : Tr} {K K' : Kn} (h : Snd T t K) (e1 : K'.ps = K.ps) (e2 : K'.out = K.out) : Snd T t K' :=
  ⟨by rw [e2]; exact h.hd, by rw [e1]; exact h.n, by rw [e1]; exact h.own, by rw [e1]; exact h.txt⟩
theorem snd_submit {T : List UInt8} {t : Tr} {K : Kn} (ok : K.Ok) (h : Snd T t K) (env : Int) (l : List Pc) : Snd T t (submitR K env l).1 := by
  unfold submitR
  split
  · exact h
  · split
    · rename_i h0
      have hchk : checkR K.ps env l = 0 := by
        unfold holdG at h0
        split at h0
        · assumption
        · exact absurd h0 (by assumption)
      have e1 : (holdG K.ps env l).1 = holdN K.ps env l := by unfold holdG; rw [if_pos hchk]
      rw [e1]
      obtain ⟨hz, hown⟩ := check_zero hchk
      have hT := holdN_turned l hown (Turned.refl K.ps)
      have e := hT.pg (f := 0) ⟨by omega, by have := h.n; omega⟩
      obtain ⟨r, er⟩ := h.hd
      refine ⟨⟨r ++ [⟨env.toNat, l⟩], by show K.out ++ _ = _; rw [er]; rfl⟩, by show 0 < (holdN K.ps env l).length; rw [hT.1]; exact h.n, ?_, ?_⟩
      · show (pg (holdN K.ps env l) 0).owner = 1
        rw [e]; exact h.own
      · show (pg (holdN K.ps env l) 0).text = T
        rw [e]; exact h.txt
    · exact h
theorem snd_call {T : List UInt8} {t : Tr} {K : Kn} (ok : K.Ok) (h : Snd T t K) (ht : 0 < cnt t.l 0) (q : KQ) : Snd T t (callR K q).1 := by
  unfold callR
  refine ite_all (P := fun (z : Kn × Int × List UInt8 × Int) => Snd T t z.1) (fun c0 => ?_) (fun c0 => ?_)
  · exact h
  refine ite_all (P := fun (z : Kn × Int × List UInt8 × Int) => Snd T t z.1) (fun c1 => ?_) (fun c1 => ?_)
  · exact snd_ps ok h ht (kept_alloc ok _)
  refine ite_all (P := fun (z : Kn × Int × List UInt8 × Int) => Snd T t z.1) (fun c2 => ?_) (fun c2 => ?_)
  · exact snd_ps ok h ht (kept_free ok _ _)
  refine ite_all (P := fun (z : Kn × Int × List UInt8 × Int) => Snd T t z.1) (fun c3 => ?_) (fun c3 => ?_)
  · exact snd_ps ok h ht (kept_give ok _ _ _)
  refine ite_all (P := fun (z : Kn × Int × List UInt8 × Int) => Snd T t z.1) (fun c4 => ?_) (fun c4 => ?_)
  · exact h
  refine ite_all (P := fun (z : Kn × Int × List UInt8 × Int) => Snd T t z.1) (fun c5 => ?_) (fun c5 => ?_)
  · exact snd_ps ok h ht (kept_write ok _ _ _ _)
  refine ite_all (P := fun (z : Kn × Int × List UInt8 × Int) => Snd T t z.1) (fun c6 => ?_) (fun c6 => ?_)
  · exact h
  refine ite_all (P := fun (z : Kn × Int × List UInt8 × Int) => Snd T t z.1) (fun c7 => ?_) (fun c7 => ?_)
  · exact snd_same h rfl rfl
  refine ite_all (P := fun (z : Kn × Int × List UInt8 × Int) => Snd T t z.1) (fun c8 => ?_) (fun c8 => ?_)
  · exact snd_same h rfl rfl
  refine ite_all (P := fun (z : Kn × Int × List UInt8 × Int) => Snd T t z.1) (fun c9 => ?_) (fun c9 => ?_)
  · unfold bindR
    split
    · exact h
    · split
      · exact snd_same h rfl rfl
      · exact h
  refine ite_all (P := fun (z : Kn × Int × List UInt8 × Int) => Snd T t z.1) (fun c10 => ?_) (fun c10 => ?_)
  · unfold unbindR
    split
    · exact snd_same h rfl rfl
    · exact h
  refine ite_all (P := fun (z : Kn × Int × List UInt8 × Int) => Snd T t z.1) (fun c11 => ?_) (fun c11 => ?_)
  · exact snd_submit ok h _ _
  refine ite_all (P := fun (z : Kn × Int × List UInt8 × Int) => Snd T t z.1) (fun c12 => ?_) (fun c12 => ?_)
  · unfold takeR
    split
    · split
      · exact snd_same h rfl rfl
      · exact h
    · split
      · exact snd_same h rfl rfl
      · exact h
  refine ite_all (P := fun (z : Kn × Int × List UInt8 × Int) => Snd T t z.1) (fun c13 => ?_) (fun c13 => ?_)
  · exact h
  · exact h
/-- The kernel of 4 frames behind its first call: frame 0 is environment 1's. -/
def sK1 : Kn := { newK 4 8 with ps := (List.replicate 4 Pg.blank).set 0 { Pg.blank with owner := 1 } }
theorem sK1_call : callR (newK 4 8) (bare 1 1 0 0 0) = (sK1, 0, [], 0) := by
  have h := callR_1 (newK 4 8) 1 (.inl rfl) 0 0 0 [] [] []
  have h2 : Fr.allocR (newK 4 8).ps 1 = ((List.replicate 4 Pg.blank).set 0 { Pg.blank with owner := 1 }, 0, 0) := alloc_new 4 (by omega) 1 (.inl rfl)
  rw [h2] at h
  exact h
/-- What frame 0 has behind the writing. -/
def sT (o : Nat) (s : List UInt8) : List UInt8 := Pg.blank.text.take o ++ s ++ Pg.blank.text.drop (o + s.length)
def sK2 (o : Nat) (s : List UInt8) : Kn := { newK 4 8 with ps := (List.replicate 4 Pg.blank).set 0 { Pg.blank with owner := 1, text := sT o s } }
theorem sK2_call (o : Nat) (s : List UInt8) (h : o + s.length ≤ 256) : callR sK1 ⟨5, 1, 0, (o : Int), 0, s, [], []⟩ = (sK2 o s, 0, [], 0) := by
  have h1 := callR_5 sK1 1 (.inl rfl) 0 (o : Int) 0 s [] []
  have e : ownErr sK1.ps 1 0 = 0 := by
    unfold ownErr
    rw [if_pos ⟨.inl rfl, by decide, by decide⟩]
    have e2 : pg sK1.ps 0 = { Pg.blank with owner := 1 } := rfl
    rw [e2]
    decide
  have h2 : Fr.writeR sK1.ps 1 0 (o : Int) s = ((sK2 o s).ps, 0) := by
    unfold Fr.writeR
    rw [if_pos e, if_pos (show isIn (o : Int) (s.length : Int) from ⟨by omega, by omega, by omega⟩)]
    have e2 : pg sK1.ps 0 = { Pg.blank with owner := 1 } := rfl
    rw [e2, if_pos (show ({ Pg.blank with owner := 1 } : Pg).holds = 0 from rfl)]
    show (sK1.ps.set 0 _, (0 : Int)) = _
    rw [Int.toNat_natCast]
    rfl
  rw [h2] at h1
  exact h1
theorem sK1_small : sK1.Small 0 := ⟨Nat.le_refl _, Nat.le_refl _, Nat.le_refl _, Nat.le_refl _, Nat.le_refl _, Nat.le_refl _⟩
theorem sK2_small (o : Nat) (s : List UInt8) : (sK2 o s).Small 0 := ⟨Nat.le_refl _, Nat.le_refl _, Nat.le_refl _, Nat.le_refl _, Nat.le_refl _, Nat.le_refl _⟩
/-- A call that writes a text. -/
theorem write_in {B : Nat} {w w' : World} {lab : Nat → Nat} {g : Nat} {K : Kn} (h : KB B w lab g K) {A : Option Addr} {n c : Nat} {s : List UInt8} (hs : Src w' A n c s) (h1 : 0 < n) (hn : ∀ b o, A = some ⟨b, o, none⟩ → w.heap.size ≤ b) (op env a b : Int) (hb : -9223372036854775808 ≤ b ∧ b ≤ 9223372036854775807) :
    (⟨op, env, a, b, 0, s, [], []⟩ : KQ).In w' lab ⟨A, c, none, 0, none, 0⟩ := by
  have hl := hs.len
  refine ⟨hb, by rw [← hl] at hs; exact hs, fun b' o' e => ⟨?_, h.lab0 (hn b' o' e)⟩, fun i hi => absurd hi (by simp), fun _ => ⟨rfl, rfl⟩, by simp, fun p hp => (by cases hp), fun i hi => absurd hi (by simp), fun p hp => (by cases hp), fun b o e => (by cases e), Nat.le_refl _, by simp⟩
  obtain ⟨b2, o2, e2, hb2, _⟩ := hs.lies (by rw [bys_length]; omega)
  have e3 : A = some ⟨b', o', none⟩ := e
  rw [e3] at e2
  cases e2
  exact hb2
def sL (o n : Nat) : List Pc := [⟨0, (o : Int), (n : Int)⟩]
theorem sK3_call (o : Nat) (s : List UInt8) (h1 : 1 ≤ s.length) (h : o + s.length ≤ 256) : ∃ K, callR (sK2 o s) ⟨11, 1, 0, 0, 0, [], [], sL o s.length⟩ = (K, 0, [], 0) ∧ Snd (sT o s) ⟨1, sL o s.length⟩ K := by
  have h3 := callR_11 (sK2 o s) 1 (.inl rfl) 0 0 0 [] [] (sL o s.length)
  have hp : pg (sK2 o s).ps 0 = { Pg.blank with owner := 1, text := sT o s } := rfl
  have hfit : fitsR (sK2 o s).ps.length 1 (sL o s.length) = 0 := by
    have e4 : (sK2 o s).ps.length = 4 := rfl
    rw [e4, fitsR_all (.inl rfl) (by simp [sL]) (fun p hp => by
      have : p = ⟨0, (o : Int), (s.length : Int)⟩ := by simpa [sL] using hp
      subst this
      exact ⟨by show (1 : Int) ≤ s.length; omega, ⟨by show (0 : Int) ≤ o; omega, by show (o : Int) ≤ 256; omega, by show (0 : Int) ≤ s.length; omega, by show (s.length : Int) ≤ 256; omega, by show (o : Int) + s.length ≤ 256; omega⟩, by show (0 : Int) ≤ 0; omega, by show (0 : Int) < (4 : Nat); omega⟩)]
    rw [if_neg]
    intro hh
    rcases hh with hh | hh
    · simp [sL] at hh
    · have e5 : total (sL o s.length) = s.length := by simp [sL, total]
      unfold sizeR at hh
      rw [e5] at hh
      rw [if_neg (by omega)] at hh
      omega
  have hchk : checkR (sK2 o s).ps 1 (sL o s.length) = 0 := by
    unfold checkR
    rw [if_pos hfit, if_pos]
    intro p hp'
    have : p = ⟨0, (o : Int), (s.length : Int)⟩ := by simpa [sL] using hp'
    subst this
    show ((pg (sK2 o s).ps 0).owner : Int) = 1
    rw [hp]; rfl
  have hg : holdG (sK2 o s).ps 1 (sL o s.length) = (holdN (sK2 o s).ps 1 (sL o s.length), 0) := by unfold holdG; rw [if_pos hchk]
  have hsub : submitR (sK2 o s) 1 (sL o s.length) = ({ sK2 o s with ps := holdN (sK2 o s).ps 1 (sL o s.length), out := [⟨1, sL o s.length⟩] }, 0, 0) := by
    unfold submitR
    rw [if_neg (show ¬ 16 ≤ (sK2 o s).out.length from by show ¬ 16 ≤ ([] : List Tr).length; simp), hg, if_pos rfl]
    rfl
  rw [hsub] at h3
  refine ⟨_, h3, ⟨⟨[], rfl⟩, ?_, ?_, ?_⟩⟩
  all_goals
    obtain ⟨hz, hown⟩ := check_zero hchk
    have hT := holdN_turned (sL o s.length) hown (Turned.refl (sK2 o s).ps)
    have e := hT.pg (f := 0) ⟨by omega, by show (0 : Int) < ((4 : Nat) : Int); omega⟩
  · show 0 < (holdN (sK2 o s).ps 1 (sL o s.length)).length
    rw [hT.1]; show 0 < 4; omega
  · show (pg (holdN (sK2 o s).ps 1 (sL o s.length)) 0).owner = 1
    rw [e]; rfl
  · show (pg (holdN (sK2 o s).ps 1 (sL o s.length)) 0).text = _
    rw [e]; rfl
theorem snd_cnt (o n : Nat) : 0 < cnt (sL o n) 0 := by simp [sL, cnt]
/-- What departs. -/
theorem snd_depart {o : Nat} {s : List UInt8} {K : Kn} (h1 : o + s.length ≤ 256) (h : Snd (sT o s) ⟨1, sL o s.length⟩ K) : ∃ K', departR K = (K', s, 1, 0) := by
  obtain ⟨r, e⟩ := h.hd
  unfold departR
  rw [e]
  have e2 : gatherB (txt K.ps) (sL o s.length) = s := by
    show gatherB (txt K.ps) [⟨0, (o : Int), (s.length : Int)⟩] = s
    rw [gatherB_cons]
    have e3 : txt K.ps 0 = sT o s := h.txt
    show ((txt K.ps 0).drop (Int.toNat (o : Int))).take (Int.toNat (s.length : Int)) ++ gatherB (txt K.ps) [] = s
    rw [e3, Int.toNat_natCast, Int.toNat_natCast]
    have e4 : gatherB (txt K.ps) [] = [] := rfl
    rw [e4, List.append_nil]
    unfold sT
    have e5 : (Pg.blank.text.take o).length = o := by rw [List.length_take]; show min o (List.replicate 256 (0 : UInt8)).length = o; rw [List.length_replicate]; omega
    rw [List.append_assoc, List.drop_append_of_le_length (by omega), List.drop_of_length_le (by omega), List.nil_append, List.take_append_of_le_length (by omega), List.take_of_length_le (by omega)]
  exact ⟨{ K with ps := (dropG K.ps (sL o s.length)).1, out := r, f3 := K.f3 + 1, done := K.done + 1 }, Prod.ext rfl (Prod.ext e2 (Prod.ext rfl rfl))⟩
end Go.Proofs.Ytlilfblnlpjkcaa.Ke
