/- Package kern: Arrive. Conditions: those that each states. -/
import Derived.Test.YtlilfblnlpjkcaaKnB
namespace Go.Proofs.Ytlilfblnlpjkcaa.Ke
open Go.ChangeShapes Go.WideShapes Go.ChangeAt Go.RowKit Go.Deep Fr Di
set_option linter.unusedVariables false
section
variable {w : World} {lab : Nat → Nat} {g : Nat} {K : Kn} {a : Ad}
set_option maxRecDepth 100000 in
set_option maxHeartbeats 2000000 in
theorem arrive_long (h : KAt w lab g K a) (A : Option Addr) (c : Nat) (s : List UInt8) (hl : 1024 < s.length) :
    Calls Try.prog 14 #[.pointer (some ⟨g, 0, none⟩), .slice A s.length c] w fun e w' => e = .returned (.tuple #[.int .i64 0, .int .i64 2]) ∧ Left w w' lab g K := by
  have g1 : (s.length : Int) > 1024 := by omega
  have FIN := Lib.hid (Left.same h (Below.refl _ w))
  clear h hl
  go_enter Try.func14, Try.ntmps14
  go_wp2
  go_ret2
  exact ⟨rfl, FIN.out⟩

/-- A packet is put into a ring that has room, or isn't. -/
theorem lay_1 (h : KAt w lab g K a) {A : Option Addr} {c : Nat} {s : List UInt8} (hs : Src w A s.length c s) (ho : Off (on lab) A s.length) (hi : K.i1.length < 16) (hf : K.f1 + K.i1.length < 1000000) :
    Calls Try.prog 44 #[.pointer (some ⟨a.b1, 0, none⟩), .slice A s.length c] w fun e w' => (∃ t, e = .returned (.tuple #[.int .i64 t, .int .i64 0])) ∧ Left w w' lab g { K with i1 := K.i1 ++ [s] } := by
  have hx := h.p1.1
  refine (RgP.put_ok a.a1 a.b1 16 K.f1 a.x1 A s.length c w h.r1 (by omega) (by omega)).mono ?_
  rintro e w' ⟨rfl, r, k⟩
  obtain ⟨h5, l5⟩ := h.setRing1 (i' := K.i1 ++ [s]) k r (h.p1.snoc ⟨A, c, rfl, hs, ho⟩)
  exact ⟨⟨_, rfl⟩, lab, ⟨_, h5⟩, l5⟩
theorem lay_2 (h : KAt w lab g K a) {A : Option Addr} {c : Nat} {s : List UInt8} (hs : Src w A s.length c s) (ho : Off (on lab) A s.length) (hi : K.i2.length < 16) (hf : K.f2 + K.i2.length < 1000000) :
    Calls Try.prog 44 #[.pointer (some ⟨a.b2, 0, none⟩), .slice A s.length c] w fun e w' => (∃ t, e = .returned (.tuple #[.int .i64 t, .int .i64 0])) ∧ Left w w' lab g { K with i2 := K.i2 ++ [s] } := by
  have hx := h.p2.1
  refine (RgP.put_ok a.a2 a.b2 16 K.f2 a.x2 A s.length c w h.r2 (by omega) (by omega)).mono ?_
  rintro e w' ⟨rfl, r, k⟩
  obtain ⟨h5, l5⟩ := h.setRing2 (i' := K.i2 ++ [s]) k r (h.p2.snoc ⟨A, c, rfl, hs, ho⟩)
  exact ⟨⟨_, rfl⟩, lab, ⟨_, h5⟩, l5⟩
theorem full_1 (h : KAt w lab g K a) {A : Option Addr} {n c : Nat} (hi : K.i1.length = 16) :
    Calls Try.prog 44 #[.pointer (some ⟨a.b1, 0, none⟩), .slice A n c] w fun e w' => e = .returned (.tuple #[.int .i64 0, .int .i64 10]) ∧ Left w w' lab g K := by
  have hx := h.p1.1
  refine (RgP.put_full a.a1 a.b1 16 K.f1 a.x1 A n c w h.r1 (by omega)).mono ?_
  rintro e w' ⟨rfl, m, rfl⟩
  exact ⟨rfl, lab, ⟨_, h.drewN m⟩, LStep.drawn lab m⟩
theorem full_2 (h : KAt w lab g K a) {A : Option Addr} {n c : Nat} (hi : K.i2.length = 16) :
    Calls Try.prog 44 #[.pointer (some ⟨a.b2, 0, none⟩), .slice A n c] w fun e w' => e = .returned (.tuple #[.int .i64 0, .int .i64 10]) ∧ Left w w' lab g K := by
  have hx := h.p2.1
  refine (RgP.put_full a.a2 a.b2 16 K.f2 a.x2 A n c w h.r2 (by omega)).mono ?_
  rintro e w' ⟨rfl, m, rfl⟩
  exact ⟨rfl, lab, ⟨_, h.drewN m⟩, LStep.drawn lab m⟩

set_option maxRecDepth 100000 in
set_option maxHeartbeats 4000000 in
theorem arrive_any (h : KA w lab g K) (ok : K.Ok) (n : Nat) (sm : K.Small n) (hn : n < 1000000) (A : Option Addr) (c : Nat) (s : List UInt8) (hs : Src w A s.length c s) :
    Calls Try.prog 14 #[.pointer (some ⟨g, 0, none⟩), .slice A s.length c] w fun e w' => e = .returned (.tuple #[.int .i64 (arriveR K s).2.1, .int .i64 (arriveR K s).2.2]) ∧ Left w w' lab g (arriveR K s).1 := by
  obtain ⟨a, h⟩ := h
  by_cases hlong : 1024 < s.length
  · have er : arriveR K s = (K, 0, 2) := by unfold arriveR; rw [if_pos hlong]
    rw [er]
    exact arrive_long h A c s hlong
  have g1 : ¬ (s.length : Int) > 1024 := by omega
  have hs1 := sm.a1; have hs2 := sm.a2
  have SM := Lib.hid (show K.f1 + K.i1.length < 1000000 ∧ K.f2 + K.i2.length < 1000000 from ⟨by omega, by omega⟩)
  have N12 := Lib.hid (show K.i1.length ≤ 16 ∧ K.i2.length ≤ 16 from ⟨ok.n1, ok.n2⟩)
  have OKF := Lib.hid ok.fs
  have hfl := h.fil.1
  have f8 := ok.f8
  have ER := Lib.hid (show arriveR K s = (match K.fs.find? (wants s) with
    | none => (K, 0, 11)
    | some f => if f.env = 1 then (if 16 ≤ K.i1.length then (K, 0, 10) else ({ K with i1 := K.i1 ++ [s] }, 1, 0))
      else (if 16 ≤ K.i2.length then (K, 0, 10) else ({ K with i2 := K.i2 ++ [s] }, 2, 0))) from by unfold arriveR; rw [if_neg hlong]; rfl)
  generalize arriveR K s = R at *
  obtain ⟨AA, hAA⟩ : ∃ AA, AA = a.A := ⟨_, rfl⟩
  have c2 := (h.head.cell 2).trans (show _ = some (.slice AA K.fs.length a.c) from by rw [hAA]; rfl)
  have HR := Lib.hid (show FRow w AA a.c a.fm from by rw [hAA]; exact h.row)
  have H := Lib.hid h
  have HS := Lib.hid hs
  have B0 := Lib.hid (Below.refl w.heap.size w)
  have LS := Lib.hid (show s.length ≤ 1024 by omega)
  have HFL := Lib.hid hfl
  have FA := Lib.hid h.fil.2
  clear h hs ok sm hs1 hs2 hfl hlong hAA
  go_enter Try.func14, Try.ntmps14
  go_wp2
  go_loopw [20] (fun i wr => ∃ (j : Nat), j ≤ K.fs.length ∧ i = .int .i64 (j : Int) ∧ Hid (Below w.heap.size w wr) ∧ Hid (∀ x (hx : x < K.fs.length), x < j → wants s K.fs[x] = false)) (fun i _ => K.fs.length - (intOf i).toNat)
  case atStart => exact ⟨0, Nat.zero_le _, rfl, B0, Lib.hid (fun x hx h => absurd h (by omega))⟩
  case round =>
    clear B0
    obtain ⟨j, hj, rfl, HB, HN⟩ := hrel
    have hgs : w.heap.size ≤ wr.heap.size := HB.out.size
    by_cases hlt : j < K.fs.length
    · have hlt' : (j : Int) < (K.fs.length : Int) := by omega
      have j0 : (0 : Int) ≤ (j : Int) := by omega
      have xj := IntWalk.i64_in ((j : Int) + 1) (by omega)
      have hjf : j < a.fm.length := by rw [HFL.out]; exact hlt
      obtain ⟨gr, rfl, hg, hr⟩ := FRow.range (RowW.new HR.out HB.out) hjf
      obtain ⟨e1, e2, e3, hp, hof⟩ := FA.out j hjf hlt
      have hok := OKF.out _ (List.getElem_mem hlt)
      have hnf : wants s K.fs[j] = false → ∀ x (hx : x < K.fs.length), x < j + 1 → wants s K.fs[x] = false := fun hb x hx h => by
        by_cases e : x = j
        · subst e; exact hb
        · exact HN.out x hx (by omega)
      have hfind : wants s K.fs[j] = true → K.fs.find? (wants s) = some K.fs[j] := fun hb => by
        rw [List.find?_eq_some_iff_getElem]
        exact ⟨hb, j, hlt, rfl, fun x hx => by simp [HN.out x (by omega) hx]⟩
      have NO := Lib.hid hnf
      have FI := Lib.hid hfind
      generalize K.fs[j] = f at *
      generalize a.fm[j] = q at *
      obtain ⟨qi, qe, qA, qn, qc⟩ := q
      have e2' : qe = (f.env : Int) := e2
      have e3' : qn = f.p.length := e3
      subst e3'
      have LD := Lib.hid (show wr.rangeAt gr (j * 3) [.int .i64 qi, .int .i64 qe, .slice qA f.p.length qc] from hr)
      have hb7 : Below wr.heap.size wr (wr.alloc (.cells #[.int .i64 qi, .int .i64 qe, .slice qA f.p.length qc] 100)) := (Below.refl _ wr).alloc (Nat.le_refl _) _
      have D7 := Lib.hid (Blk.new wr 100 #[.int .i64 qi, .int .i64 qe, .slice qA f.p.length qc])
      have HB7 := Lib.hid (HB.out.trans (hb7.mono hgs))
      obtain ⟨v, hv⟩ : ∃ v, runP f.p s = v := ⟨_, rfl⟩
      have RUN := Lib.hid (run_src qA A qc c s.length f.p s (wr.alloc (.cells #[.int .i64 qi, .int .i64 qe, .slice qA f.p.length qc] 100)) ((show Prg w qA f.p from hp).new HB7.out) (HS.out.older (older_below HB7.out)) hok.ok hok.chk LS.out v hv)
      have HENV := Lib.hid (show qe = (f.env : Int) ∧ (f.env = 1 ∨ f.env = 2) from ⟨e2', by have := hok.e1; have := hok.e2; omega⟩)
      have HV := Lib.hid (show wants s f = decide (v ≠ 0) from by unfold wants; rw [hv])
      clear hr hg e1 e2 e3 e2' hp hof hok hnf hfind hb7 hv HN
      go_wp2_with (first
        | (refine wpList_load_mid rfl 100 (.tmp 22) rfl gr (j * 3) rfl _ _ LD.out Try.underlying100 rfl bound_info ?_)
        | fail)
      refine RUN.out.mono ?_; rintro e w8 ⟨rfl, b8⟩
      have HB8 := Lib.hid (HB7.out.trans (b8.mono HB7.out.size))
      have D8 := Lib.hid (D7.out.older (older_below b8))
      have d8 := (D8.out.cell 1).trans (show _ = some (.int .i64 qe) from rfl)
      clear b8
      by_cases hv0 : v = 0
      · subst hv0
        have HN2 := Lib.hid (NO.out (by rw [HV.out]; rfl))
        clear NO FI HV d8
        go_wp2
        go_roundw
        case rel => exact ⟨j + 1, by omega, by simp, HB8, HN2⟩
        case measure => simp [intOf]; omega
      · have hvb : (v == 0) = false := by simpa using hv0
        have FIND := Lib.hid (show K.fs.find? (wants s) = some f from FI.out (by rw [HV.out]; simpa using hv0))
        clear NO FI HV RUN
        rcases HENV.out.2 with he | he
        · have qe1 : qe = 1 := by rw [HENV.out.1, he]; rfl
          subst qe1
          have HE := Lib.hid he
          clear HENV he
          have RGS := Lib.hid (rings_1 (H.out.new HB8.out))
          go_wp2_with fail
          refine RGS.out.mono ?_; rintro e w9 ⟨rfl, hw9⟩; subst w9
          go_wp2_with fail
          refine (clone_bytes A s.length c s w8 (HS.out.older (older_below HB8.out)) (by have := LS.out; omega)).mono ?_; rintro e w10 ⟨A', c', rfl, s10, f10, b10⟩
          have HB10 := Lib.hid (HB8.out.trans (b10.mono HB8.out.size))
          have D10 := Lib.hid (D8.out.older (older_below b10))
          have h10 := H.out.new HB10.out
          have ho10 : Off (on lab) A' s.length := Fresh.off (w := w8) f10 (fun k hk => Nat.lt_of_lt_of_le (H.out.all k hk) HB8.out.size)
          have HZ := Lib.hid (show lab wr.heap.size = 0 from by
            by_cases h0 : lab wr.heap.size = 0
            · exact h0
            · have := H.out.all _ h0; omega)
          by_cases hfull : 16 ≤ K.i1.length
          · have FU := Lib.hid (full_1 (A := A') (n := s.length) (c := c') h10 (by have := N12.out; omega))
            have RR := Lib.hid (show R = (K, 0, 10) from by
              rw [ER.out, FIND.out]
              dsimp only
              rw [if_pos HE.out, if_pos hfull])
            clear s10 f10 b10 h10 ho10 hfull
            go_wp2_with fail
            refine FU.out.mono ?_; rintro e w11 ⟨rfl, L11⟩
            have LL := Lib.hid L11
            clear L11
            go_wp2
            go_ret2
            rw [RR.out]
            obtain ⟨lab', k1, k2⟩ := LL.out
            exact ⟨rfl, lab', k1, (LStep.news lab HB10.out).trans k2⟩
          · have FU := Lib.hid (lay_1 h10 s10 ho10 (by omega) SM.out.1)
            have RR := Lib.hid (show R = ({ K with i1 := K.i1 ++ [s] }, 1, 0) from by
              rw [ER.out, FIND.out]
              dsimp only
              rw [if_pos HE.out, if_neg hfull])
            clear s10 f10 b10 h10 ho10 hfull
            go_wp2_with fail
            refine FU.out.mono ?_; rintro e w11 ⟨⟨t, rfl⟩, L11⟩
            have LL := Lib.hid L11
            have D11 : Blk w11 wr.heap.size 100 #[.int .i64 qi, .int .i64 1, .slice qA f.p.length qc] := by
              obtain ⟨lab', k1, k2⟩ := L11
              exact D10.out.chg k2.chg (fun hx => hx.1 HZ.out)
            have d11 := (D11.cell 1).trans (show _ = some (.int .i64 1) from rfl)
            clear L11 D11
            go_wp2
            go_ret2
            rw [RR.out]
            obtain ⟨lab', k1, k2⟩ := LL.out
            exact ⟨rfl, lab', k1, (LStep.news lab HB10.out).trans k2⟩
        · have qe1 : qe = 2 := by rw [HENV.out.1, he]; rfl
          subst qe1
          have HE := Lib.hid (show ¬ f.env = 1 by omega)
          clear HENV he
          have RGS := Lib.hid (rings_2 (H.out.new HB8.out))
          go_wp2_with fail
          refine RGS.out.mono ?_; rintro e w9 ⟨rfl, hw9⟩; subst w9
          go_wp2_with fail
          refine (clone_bytes A s.length c s w8 (HS.out.older (older_below HB8.out)) (by have := LS.out; omega)).mono ?_; rintro e w10 ⟨A', c', rfl, s10, f10, b10⟩
          have HB10 := Lib.hid (HB8.out.trans (b10.mono HB8.out.size))
          have D10 := Lib.hid (D8.out.older (older_below b10))
          have h10 := H.out.new HB10.out
          have ho10 : Off (on lab) A' s.length := Fresh.off (w := w8) f10 (fun k hk => Nat.lt_of_lt_of_le (H.out.all k hk) HB8.out.size)
          have HZ := Lib.hid (show lab wr.heap.size = 0 from by
            by_cases h0 : lab wr.heap.size = 0
            · exact h0
            · have := H.out.all _ h0; omega)
          by_cases hfull : 16 ≤ K.i2.length
          · have FU := Lib.hid (full_2 (A := A') (n := s.length) (c := c') h10 (by have := N12.out; omega))
            have RR := Lib.hid (show R = (K, 0, 10) from by
              rw [ER.out, FIND.out]
              dsimp only
              rw [if_neg HE.out, if_pos hfull])
            clear s10 f10 b10 h10 ho10 hfull
            go_wp2_with fail
            refine FU.out.mono ?_; rintro e w11 ⟨rfl, L11⟩
            have LL := Lib.hid L11
            clear L11
            go_wp2
            go_ret2
            rw [RR.out]
            obtain ⟨lab', k1, k2⟩ := LL.out
            exact ⟨rfl, lab', k1, (LStep.news lab HB10.out).trans k2⟩
          · have FU := Lib.hid (lay_2 h10 s10 ho10 (by omega) SM.out.2)
            have RR := Lib.hid (show R = ({ K with i2 := K.i2 ++ [s] }, 2, 0) from by
              rw [ER.out, FIND.out]
              dsimp only
              rw [if_neg HE.out, if_neg hfull])
            clear s10 f10 b10 h10 ho10 hfull
            go_wp2_with fail
            refine FU.out.mono ?_; rintro e w11 ⟨⟨t, rfl⟩, L11⟩
            have LL := Lib.hid L11
            have D11 : Blk w11 wr.heap.size 100 #[.int .i64 qi, .int .i64 2, .slice qA f.p.length qc] := by
              obtain ⟨lab', k1, k2⟩ := L11
              exact D10.out.chg k2.chg (fun hx => hx.1 HZ.out)
            have d11 := (D11.cell 1).trans (show _ = some (.int .i64 2) from rfl)
            clear L11 D11
            go_wp2
            go_ret2
            rw [RR.out]
            obtain ⟨lab', k1, k2⟩ := LL.out
            exact ⟨rfl, lab', k1, (LStep.news lab HB10.out).trans k2⟩
    · have hge : ¬ (j : Int) < (K.fs.length : Int) := by omega
      obtain rfl : j = K.fs.length := by omega
      have RR := Lib.hid (show R = (K, 0, 11) from by
        rw [ER.out]
        have e : K.fs.find? (wants s) = none := by
          rw [List.find?_eq_none]
          intro x hx
          obtain ⟨i, hi, rfl⟩ := List.mem_iff_getElem.1 hx
          rw [HN.out i hi hi]; decide
        rw [e])
      go_wp2
      go_ret2
      rw [RR.out]
      exact ⟨rfl, Left.same H.out HB.out⟩
end
end Go.Proofs.Ytlilfblnlpjkcaa.Ke

/- Package kern: Depart, Table, Disk, Owned. Conditions: those that each states. -/
namespace Go.Proofs.Ytlilfblnlpjkcaa.Ke
open Go.ChangeShapes Go.WideShapes Go.ChangeAt Go.RowKit Go.Deep Fr Di
set_option linter.unusedVariables false
/-- What of a list that waits is asked by Fetch and Drop. -/
theorem cnt_pos {l : List Pc} {p : Pc} (h : p ∈ l) : 0 < cnt l p.frame := List.countP_pos_iff.2 ⟨p, h, by simp⟩
theorem heldN_cons (t : Tr) (o : List Tr) (f : Int) : heldN (t :: o) f = cnt t.l f + heldN o f := by unfold heldN; rw [List.map_cons, List.sum_cons]
theorem heldN_mem {o : List Tr} {t : Tr} (h : t ∈ o) (f : Int) : cnt t.l f ≤ heldN o f := by
  induction o with
  | nil => cases h
  | cons u o ih =>
    rw [heldN_cons]
    rcases List.mem_cons.1 h with rfl | h1
    · omega
    · have := ih h1; omega
theorem Kn.Ok.held {K : Kn} (ok : K.Ok) {t : Tr} (ht : t ∈ K.out) {p : Pc} (hp : p ∈ t.l) : ∃ k, ∃ hk : k < K.ps.length, p.frame = (k : Int) ∧ cnt t.l p.frame ≤ K.ps[k].holds ∧ 0 < cnt t.l p.frame := by
  have hf := (ok.out t ht).fits p hp
  have h1 := hf.2.2.1
  have h2 := hf.2.2.2
  refine ⟨p.frame.toNat, by omega, by omega, ?_, cnt_pos hp⟩
  rw [ok.holds _ (by omega), show ((p.frame.toNat : Nat) : Int) = p.frame by omega]
  exact heldN_mem ht _
theorem Kn.Ok.gets {K : Kn} (ok : K.Ok) {t : Tr} (ht : t ∈ K.out) : fetchG K.ps t.l = (gatherB (txt K.ps) t.l, 0) := by
  unfold fetchG
  rw [if_pos]
  intro p hp
  obtain ⟨k, hk, e, h1, h2⟩ := ok.held ht hp
  have hf := (ok.out t ht).fits p hp
  have hin := hf.2.1
  unfold Pc.In at hin
  refine ⟨⟨⟨hf.2.2.1, hf.2.2.2⟩, ?_⟩, ⟨hin.1, hin.2.2.1, hin.2.2.2.2⟩⟩
  rw [e, pg_at hk]
  omega
theorem Kn.Ok.drops {K : Kn} (ok : K.Ok) {t : Tr} (ht : t ∈ K.out) : dropG K.ps t.l = (dropN K.ps t.l, 0) := by
  unfold dropG
  rw [if_pos]
  intro p hp
  obtain ⟨k, hk, e, h1, h2⟩ := ok.held ht hp
  have hf := (ok.out t ht).fits p hp
  refine ⟨⟨hf.2.2.1, hf.2.2.2⟩, ?_⟩
  rw [e, pg_at hk, ← e]
  exact h1
section
variable {w : World} {lab : Nat → Nat} {g : Nat} {K : Kn} {a : Ad}
/-- What a departure answers and leaves. -/
def Gone (w : World) (lab : Nat → Nat) (g : Nat) (r : Kn × List UInt8 × Int × Int) (e : Ending) (w' : World) : Prop :=
  ∃ A c, e = .returned (.tuple #[.slice A r.2.1.length c, .int .i64 r.2.2.1, .int .i64 r.2.2.2]) ∧ Left w w' lab g r.1 ∧ Src w' A r.2.1.length c r.2.1
set_option maxRecDepth 100000 in
set_option maxHeartbeats 4000000 in
theorem depart_any (h : KA w lab g K) (ok : K.Ok) (n : Nat) (sm : K.Small n) (hn : n < 1000000) :
    Calls Try.prog 11 #[.pointer (some ⟨g, 0, none⟩)] w (Gone w lab g (departR K)) := by
  obtain ⟨a, h⟩ := h
  have c6 := (h.head.cell 6).trans (show _ = some (.pointer (some ⟨a.b3, 0, none⟩)) from rfl)
  cases ho : K.out with
  | nil =>
    have er : departR K = (K, [], 0, 11) := by unfold departR; rw [ho]
    have hp := h.p3
    rw [ho] at hp
    have hx := hp.nil_inv
    have hr := h.r3
    rw [hx] at hr
    have CA := Lib.hid (RgT.take_empty a.a3 a.b3 16 K.f3 w hr)
    have H := Lib.hid h
    rw [er]
    clear h ok sm ho er hp hx hr
    go_enter Try.func11, Try.ntmps11
    go_wp2_with fail
    refine CA.out.mono ?_; rintro e w3 ⟨rfl, b3⟩
    have B3 := Lib.hid (b3.alloc b3.size (.cells #[.int .i64 0, .slice none 0 0] 92))
    clear b3
    go_wp2
    refine bodyPost_ret (results_tmp3 rfl _ _ _) rfl ?_
    exact ⟨none, 0, rfl, Left.same H.out B3.out, Src.nil _⟩
  | cons t r =>
    have htm : t ∈ K.out := by rw [ho]; exact List.mem_cons_self
    have hto := ok.out t htm
    have er : departR K = ({ K with ps := dropN K.ps t.l, out := r, f3 := K.f3 + 1, done := K.done + 1 }, gatherB (txt K.ps) t.l, (t.env : Int), 0) := by
      unfold departR; rw [ho]; dsimp only; rw [ok.drops htm]
    have hp := h.p3
    rw [ho] at hp
    obtain ⟨u, x', hx, ⟨A, c, rfl, hpc, hof, hlc⟩, hp2⟩ := hp.cons_inv
    have hr := h.r3
    rw [hx] at hr
    have CA := Lib.hid (RgT.take_ok a.a3 a.b3 16 K.f3 x' (t.env : Int) A t.l.length c w hr)
    have H := Lib.hid h
    have PC := Lib.hid hpc
    have OF := Lib.hid hof
    have PR := Lib.hid hp2
    have hgets := ok.gets htm
    have hdrops := ok.drops htm
    have hl0 : 0 < t.l.length := List.length_pos_iff.2 hto.ne
    have hmax : t.l.length ≤ 1000000 := by have := hto.n; omega
    have NB := Lib.hid (show ∀ b o, A = some ⟨b, o, none⟩ → lab b = 0 from fun b o e => by
      have := hof hl0 b o e
      by_cases h0 : lab b = 0
      · exact h0
      · exact absurd h0 this)
    have FEG := Lib.hid (fun (W : World) (hT : Fr.Tab W a.gs a.gt K.ps) (hP : Pcs W A t.l) => Rg.fetch_list hT A c t.l hP hto.ok hmax)
    rw [hgets] at FEG
    have DR := Lib.hid (fun (W : World) (hT : Fr.Tab W a.gs a.gt K.ps) (hP : Pcs W A t.l) => drop_list hT A c t.l hP (fun b o e hb => by have h1 := NB.out b o e; have h2 := H.out.lt1; rw [hb] at h1; omega) hmax)
    rw [hdrops] at DR
    have hd1 := sm.done
    have xd := IntWalk.i64_in ((K.done : Int) + 1) (by omega)
    rw [er]
    clear h ok sm ho er hp hx hr hpc hof hp2 hgets hdrops hto hmax hl0 hlc
    go_enter Try.func11, Try.ntmps11
    go_wp2_with fail
    refine CA.out.mono ?_; rintro e w3 ⟨rfl, r3, k3⟩
    obtain ⟨h3, l3⟩ := H.out.setRing3 (o' := r) k3 r3 PR.out
    obtain ⟨W4, hW4⟩ : ∃ W4, W4 = w3.alloc (.cells #[.int .i64 (t.env : Int), .slice A t.l.length c] 92) := ⟨_, rfl⟩
    have b4 : Below w3.heap.size w3 W4 := by rw [hW4]; exact (Below.refl _ w3).alloc (Nat.le_refl _) _
    have D4 := Lib.hid (show Blk W4 w3.heap.size 92 #[.int .i64 (t.env : Int), .slice A t.l.length c] by rw [hW4]; exact Blk.new w3 _ _)
    have H4 := Lib.hid (h3.new b4)
    have L4 := Lib.hid (l3.trans (LStep.news lab b4))
    have P4 := Lib.hid (Pcs.step PC.out L4.out.step OF.out)
    have HGL := Lib.hid (show g < w3.heap.size from h3.head.lt)
    have HZ := Lib.hid (show ¬ w3.heap.size = a.gs from fun e => by have := H.out.all a.gs (by have := H.out.lt1; omega); have := k3.size; omega)
    have FE := Lib.hid (FEG.out W4.drew (H4.out.tab.drewN 1) (P4.out.drewN 1))
    have HW4 := Lib.hid hW4
    clear r3 k3 h3 l3 hW4 b4 c6 FEG
    go_upto_region 4 with fail
    rw [show w3.alloc (.cells #[.int .i64 (t.env : Int), .slice A t.l.length c] 92) = W4 from HW4.out.symm]
    go_upto_region 6 with fail
    refine wp_region_held_drew (S := fun w' => Hid (w'.cell? ⟨g, 0, none⟩ = some (.pointer (some ⟨a.gt, 0, none⟩)) ∧ Blk w' w3.heap.size 92 #[.int .i64 (t.env : Int), .slice A t.l.length c])) (by kernel_rfl) ((show Hid (W4.drew.cell? ⟨g, 0, none⟩ = some (.pointer (some ⟨a.gt, 0, none⟩)) ∧ Blk W4.drew w3.heap.size 92 #[.int .i64 (t.env : Int), .slice A t.l.length c]) from Lib.hid ⟨(H4.out.head.cell 0).trans rfl, D4.out⟩)) (fun hS => ?_)
    refine held_take (i := 0) (d := (some 22)) (v := ?_) rfl rfl (by kernel_rfl) (by kernel_rfl) (by kernel_rfl) (fun _ _ _ h => h) (by rfl) ?_ hS ?_
    rotate_left
    · intro w' hSw; (try dsimp only at hSw); go_simp <;> with_reducible rfl
    simp only [Act.put, List.setIfInBounds_toArray, List.set_cons_zero, List.set_cons_succ]
    refine held_take (i := 1) (d := (some 23)) (v := ?_) rfl rfl (by kernel_rfl) (by kernel_rfl) (by kernel_rfl) (fun _ _ _ h => h) (by rfl) ?_ hS ?_
    rotate_left
    · intro w' hSw; (try dsimp only at hSw); go_simp <;> with_reducible rfl
    simp only [Act.put, List.setIfInBounds_toArray, List.set_cons_zero, List.set_cons_succ]
    refine held_take (i := 2) (d := (some 24)) (v := ?_) rfl rfl (by kernel_rfl) (by kernel_rfl) (by kernel_rfl) (fun _ _ _ h => h) (by rfl) ?_ hS ?_
    rotate_left
    · intro w' hSw; (try dsimp only at hSw); go_simp <;> with_reducible rfl
    simp only [Act.put, List.setIfInBounds_toArray, List.set_cons_zero, List.set_cons_succ]
    refine held_take (i := 3) (d := (some 25)) (v := ?_) rfl rfl (by kernel_rfl) (by kernel_rfl) (by kernel_rfl) (fun _ _ _ h => h) (by rfl) ?_ hS ?_
    rotate_left
    · intro w' hSw; have hc := hSw.out.1; clear hSw; go_simp <;> with_reducible rfl
    simp only [Act.put, List.setIfInBounds_toArray, List.set_cons_zero, List.set_cons_succ]
    refine held_take (i := 4) (d := (some 26)) (v := ?_) rfl rfl (by kernel_rfl) (by kernel_rfl) (by kernel_rfl) (fun _ _ _ h => h) (by rfl) ?_ hS ?_
    rotate_left
    · intro w' hSw; (try dsimp only at hSw); go_simp <;> with_reducible rfl
    simp only [Act.put, List.setIfInBounds_toArray, List.set_cons_zero, List.set_cons_succ]
    refine held_take (i := 5) (d := (some 27)) (v := ?_) rfl rfl (by kernel_rfl) (by kernel_rfl) (by kernel_rfl) (fun _ _ _ h => h) (by rfl) ?_ hS ?_
    rotate_left
    · intro w' hSw; have hc := (hSw.out.2.cell 1).trans (show _ = some (.slice A t.l.length c) from rfl); clear hSw; go_simp <;> with_reducible rfl
    simp only [Act.put, List.setIfInBounds_toArray, List.set_cons_zero, List.set_cons_succ]
    refine held_one (i := 6) (by kernel_rfl) rfl (by rfl) ?_
    go_simp
    refine FE.out.mono ?_; rintro e w5 ⟨A5, c5, rfl, s5, bl5⟩
    have B5 := Lib.hid (show Below W4.heap.size W4 w5 from ⟨bl5.os, bl5.tape, bl5.output, bl5.size, bl5.block⟩)
    have S5 := Lib.hid s5.toSrc
    have O5 := Lib.hid (show Off (on lab) A5 (gatherB (txt K.ps) t.l).length from Fresh.off (w := W4.drewN 1) s5.fresh H4.out.all)
    have hS : Hid (w5.cell? ⟨g, 0, none⟩ = some (.pointer (some ⟨a.gt, 0, none⟩)) ∧ Blk w5 w3.heap.size 92 #[.int .i64 (t.env : Int), .slice A t.l.length c]) := Lib.hid ⟨((H4.out.new B5.out).head.cell 0).trans rfl, D4.out.older (older_below B5.out)⟩
    refine ⟨hS, ?_⟩
    clear s5 bl5
    (try simp only [Act.put, List.setIfInBounds_toArray, List.set_cons_zero, List.set_cons_succ])
    refine held_take (i := 7) (d := (some 21)) (v := ?_) rfl rfl (by kernel_rfl) (by kernel_rfl) (by kernel_rfl) (fun _ _ _ h => h) (by rfl) ?_ hS ?_
    rotate_left
    · intro w' hSw; (try dsimp only at hSw); go_simp <;> with_reducible rfl
    simp only [Act.put, List.setIfInBounds_toArray, List.set_cons_zero, List.set_cons_succ]
    refine held_take (i := 8) (d := (some 29)) (v := ?_) rfl rfl (by kernel_rfl) (by kernel_rfl) (by kernel_rfl) (fun _ _ _ h => h) (by rfl) ?_ hS ?_
    rotate_left
    · intro w' hSw; (try dsimp only at hSw); go_simp <;> with_reducible rfl
    simp only [Act.put, List.setIfInBounds_toArray, List.set_cons_zero, List.set_cons_succ]
    refine held_take (i := 9) (d := (some 30)) (v := ?_) rfl rfl (by kernel_rfl) (by kernel_rfl) (by kernel_rfl) (fun _ _ _ h => h) (by rfl) ?_ hS ?_
    rotate_left
    · intro w' hSw; (try dsimp only at hSw); go_simp <;> with_reducible rfl
    simp only [Act.put, List.setIfInBounds_toArray, List.set_cons_zero, List.set_cons_succ]
    refine held_take (i := 10) (d := (some 7)) (v := ?_) rfl rfl (by kernel_rfl) (by kernel_rfl) (by kernel_rfl) (fun _ _ _ h => h) (by rfl) ?_ hS ?_
    rotate_left
    · intro w' hSw; (try dsimp only at hSw); go_simp <;> with_reducible rfl
    simp only [Act.put, List.setIfInBounds_toArray, List.set_cons_zero, List.set_cons_succ]
    refine held_take (i := 11) (d := (some 6)) (v := ?_) rfl rfl (by kernel_rfl) (by kernel_rfl) (by kernel_rfl) (fun _ _ _ h => h) (by rfl) ?_ hS ?_
    rotate_left
    · intro w' hSw; (try dsimp only at hSw); go_simp <;> with_reducible rfl
    simp only [Act.put, List.setIfInBounds_toArray, List.set_cons_zero, List.set_cons_succ]
    refine wpAnyH_done (by kernel_rfl) ?_ _
    go_upto_region 7 with fail
    refine wp_region_held_drew (S := fun w' => Hid (w'.cell? ⟨g, 0, none⟩ = some (.pointer (some ⟨a.gt, 0, none⟩)) ∧ Blk w' w3.heap.size 92 #[.int .i64 (t.env : Int), .slice A t.l.length c])) (by kernel_rfl) ((show Hid (w5.drew.cell? ⟨g, 0, none⟩ = some (.pointer (some ⟨a.gt, 0, none⟩)) ∧ Blk w5.drew w3.heap.size 92 #[.int .i64 (t.env : Int), .slice A t.l.length c]) from Lib.hid ⟨((H4.out.new B5.out).head.cell 0).trans rfl, (D4.out.older (older_below B5.out)).drewN 1⟩)) (fun hS => ?_)
    refine held_take (i := 0) (d := (some 31)) (v := ?_) rfl rfl (by kernel_rfl) (by kernel_rfl) (by kernel_rfl) (fun _ _ _ h => h) (by rfl) ?_ hS ?_
    rotate_left
    · intro w' hSw; (try dsimp only at hSw); go_simp <;> with_reducible rfl
    simp only [Act.put, List.setIfInBounds_toArray, List.set_cons_zero, List.set_cons_succ]
    refine held_take (i := 1) (d := (some 32)) (v := ?_) rfl rfl (by kernel_rfl) (by kernel_rfl) (by kernel_rfl) (fun _ _ _ h => h) (by rfl) ?_ hS ?_
    rotate_left
    · intro w' hSw; (try dsimp only at hSw); go_simp <;> with_reducible rfl
    simp only [Act.put, List.setIfInBounds_toArray, List.set_cons_zero, List.set_cons_succ]
    refine held_take (i := 2) (d := (some 33)) (v := ?_) rfl rfl (by kernel_rfl) (by kernel_rfl) (by kernel_rfl) (fun _ _ _ h => h) (by rfl) ?_ hS ?_
    rotate_left
    · intro w' hSw; (try dsimp only at hSw); go_simp <;> with_reducible rfl
    simp only [Act.put, List.setIfInBounds_toArray, List.set_cons_zero, List.set_cons_succ]
    refine held_take (i := 3) (d := (some 34)) (v := ?_) rfl rfl (by kernel_rfl) (by kernel_rfl) (by kernel_rfl) (fun _ _ _ h => h) (by rfl) ?_ hS ?_
    rotate_left
    · intro w' hSw; have hc := hSw.out.1; clear hSw; go_simp <;> with_reducible rfl
    simp only [Act.put, List.setIfInBounds_toArray, List.set_cons_zero, List.set_cons_succ]
    refine held_take (i := 4) (d := (some 35)) (v := ?_) rfl rfl (by kernel_rfl) (by kernel_rfl) (by kernel_rfl) (fun _ _ _ h => h) (by rfl) ?_ hS ?_
    rotate_left
    · intro w' hSw; (try dsimp only at hSw); go_simp <;> with_reducible rfl
    simp only [Act.put, List.setIfInBounds_toArray, List.set_cons_zero, List.set_cons_succ]
    refine held_take (i := 5) (d := (some 36)) (v := ?_) rfl rfl (by kernel_rfl) (by kernel_rfl) (by kernel_rfl) (fun _ _ _ h => h) (by rfl) ?_ hS ?_
    rotate_left
    · intro w' hSw; have hc := (hSw.out.2.cell 1).trans (show _ = some (.slice A t.l.length c) from rfl); clear hSw; go_simp <;> with_reducible rfl
    simp only [Act.put, List.setIfInBounds_toArray, List.set_cons_zero, List.set_cons_succ]
    refine held_one (i := 6) (by kernel_rfl) rfl (by rfl) ?_
    go_simp
    refine (DR.out _ (((H4.out.new B5.out).tab.drewN 1)) ((P4.out.new B5.out).drewN 1)).mono ?_; rintro e w6 ⟨rfl, t6, k6⟩
    have hp6 := ((H4.out.new B5.out).drewN 1).setPs k6 t6
    have H6 := Lib.hid hp6.1
    have L6 := Lib.hid hp6.2
    have D6 := Lib.hid (((D4.out.older (older_below B5.out)).drewN 1).chg k6 HZ.out)
    have hS : Hid (w6.cell? ⟨g, 0, none⟩ = some (.pointer (some ⟨a.gt, 0, none⟩)) ∧ Blk w6 w3.heap.size 92 #[.int .i64 (t.env : Int), .slice A t.l.length c]) := Lib.hid ⟨(H6.out.head.cell 0).trans rfl, D6.out⟩
    refine ⟨hS, ?_⟩
    clear t6 k6 hp6
    (try simp only [Act.put, List.setIfInBounds_toArray, List.set_cons_zero, List.set_cons_succ])
    refine wpAnyH_done (by kernel_rfl) ?_ _
    have c7 := (H6.out.head.cell 7).trans (show _ = some (.int .i64 (K.done : Int)) from rfl)
    have f7 := H6.out.head.frozen 7
    obtain ⟨h7, l7⟩ := H6.out.setDone (K.done + 1)
    obtain ⟨W7, hW7⟩ : ∃ W7, W7 = w6.setCell ⟨g, 7, none⟩ (.int .i64 ((K.done : Int) + 1)) := ⟨_, rfl⟩
    have D7 := Lib.hid (show Blk W7 w3.heap.size 92 #[.int .i64 (t.env : Int), .slice A t.l.length c] by
      rw [hW7]
      exact D6.out.far (p := ⟨g, 7, none⟩) (by have := HGL.out; intro e; have e' : w3.heap.size = g := e; omega) _)
    have d70 := (D7.out.cell 0).trans (show _ = some (.int .i64 (t.env : Int)) from rfl)
    have LL := Lib.hid (show LStep W4 W7 lab lab by
      rw [hW7]
      exact (((LStep.news lab B5.out).trans (LStep.drawn lab 1)).trans L6.out).trans l7)
    have H7 := Lib.hid (show KAt W7 lab g _ _ by rw [hW7]; exact h7)
    have S7 := Lib.hid (show Src W7 A5 (gatherB (txt K.ps) t.l).length c5 (gatherB (txt K.ps) t.l) by
      rw [hW7]
      exact Src.step S5.out (((LStep.drawn lab 1).trans L6.out).trans l7).step O5.out)
    have HW7 := Lib.hid hW7
    clear h7 l7 hW7
    go_upto_region 9 with fail
    rw [show w6.setCell ⟨g, 7, none⟩ (.int .i64 ((K.done : Int) + 1)) = W7 from HW7.out.symm]
    go_wp2_with fail
    go_quiet (fail)
    go_wp2
    refine bodyPost_ret (results_tmp3 rfl _ _ _) rfl ?_
    exact ⟨A5, c5, rfl, ⟨lab, ⟨_, H7.out.drewN _⟩, (L4.out.trans LL.out).trans (LStep.drawn lab _)⟩, S7.out.drewN _⟩
theorem table_any (h : KAt w lab g K a) : Calls Try.prog 16 #[.pointer (some ⟨g, 0, none⟩)] w fun e w' => e = .returned (.pointer (some ⟨a.gt, 0, none⟩)) ∧ w' = w := by
  have c0 := (h.head.cell 0).trans (show _ = some (.pointer (some ⟨a.gt, 0, none⟩)) from rfl)
  clear h
  go_enter Try.func16, Try.ntmps16
  go_wp2
  go_ret
  exact ⟨rfl, rfl⟩
theorem owned_1 (h : KAt w lab g K a) (f : Int) (v : Bool) (hv : v = decide (ownerV K.ps f = 1)) : Calls Try.prog 13 #[.pointer (some ⟨g, 0, none⟩), .int .i64 1, .int .i64 f] w fun e w' => e = .returned (.bool v) ∧ w' = w := by
  have TA := Lib.hid (table_any h)
  have OW := Lib.hid (owner_any h.tab f)
  have EV := Lib.hid (kenv_yes 1 (by omega) w)
  by_cases h1 : ownerV K.ps f = 1
  · rw [h1] at OW
    have e : v = true := by rw [hv]; simpa using h1
    subst e
    clear h hv h1
    go_enter Try.func13, Try.ntmps13
    go_wp2_with fail
    refine EV.out.mono ?_; rintro e w1 ⟨rfl, hw1⟩; subst w1
    go_wp2_with fail
    refine TA.out.mono ?_; rintro e w1 ⟨rfl, hw1⟩; subst w1
    go_wp2_with fail
    refine OW.out.mono ?_; rintro e w1 ⟨rfl, hw1⟩; subst w1
    go_wp2
    go_ret
    exact ⟨rfl, rfl⟩
  · have hb : (ownerV K.ps f == 1) = false := by simpa using h1
    have e : v = false := by rw [hv]; simpa using h1
    subst e
    generalize ownerV K.ps f = q at *
    clear h hv h1
    go_enter Try.func13, Try.ntmps13
    go_wp2_with fail
    refine EV.out.mono ?_; rintro e w1 ⟨rfl, hw1⟩; subst w1
    go_wp2_with fail
    refine TA.out.mono ?_; rintro e w1 ⟨rfl, hw1⟩; subst w1
    go_wp2_with fail
    refine OW.out.mono ?_; rintro e w1 ⟨rfl, hw1⟩; subst w1
    go_wp2
    go_ret
    exact ⟨rfl, rfl⟩
end
end Go.Proofs.Ytlilfblnlpjkcaa.Ke

/- What calls to a kernel keep. Conditions: those that each states. -/
namespace Go.Proofs.Ytlilfblnlpjkcaa.Ke
open Go.ChangeShapes Go.WideShapes Go.ChangeAt Go.RowKit Go.Deep Fr Di
set_option linter.unusedVariables false

theorem ite_all {α : Type} {c : Prop} [Decidable c] {P : α → Prop} {x y : α} (h1 : c → P x) (h2 : ¬ c → P y) : P (if c then x else y) := by
  by_cases h : c
  · rw [if_pos h]; exact h1 h
  · rw [if_neg h]; exact h2 h
/-! Small. -/
theorem Kn.Small.mono {K : Kn} {n m : Nat} (h : K.Small n) (k : n ≤ m) : K.Small m := ⟨Nat.le_trans h.next k, Nat.le_trans h.a1 k, Nat.le_trans h.a2 k, Nat.le_trans h.out k, Nat.le_trans h.done k, Nat.le_trans h.line k⟩
theorem write_line (d : Dk) (env block : Int) (s : List UInt8) : (writeR d env block s).1.line.length ≤ d.line.length + 1 := by
  unfold writeR
  split
  · split
    · split
      · show d.line.length ≤ _; omega
      · show (d.line ++ [_]).length ≤ _; simp
    · show d.line.length ≤ _; omega
  · show d.line.length ≤ _; omega
theorem sync_line (d : Dk) : (syncR d).1.line.length ≤ d.line.length := by
  unfold syncR
  split
  · show ([] : List Wr).length ≤ _; simp
  · exact Nat.le_refl _
theorem small_call {K : Kn} {n : Nat} (h : K.Small n) (q : KQ) : (callR K q).1.Small (n + 1) := by
  have h1 := h.next; have h2 := h.a1; have h3 := h.a2; have h4 := h.out; have h5 := h.done; have h6 := h.line
  have hm := h.mono (Nat.le_succ n)
  unfold callR
  refine ite_all (P := fun (z : Kn × Int × List UInt8 × Int) => z.1.Small (n + 1)) (fun c0 => ?_) (fun c0 => ?_)
  · exact hm
  refine ite_all (P := fun (z : Kn × Int × List UInt8 × Int) => z.1.Small (n + 1)) (fun c1 => ?_) (fun c1 => ?_)
  · exact ⟨hm.next, hm.a1, hm.a2, hm.out, hm.done, hm.line⟩
  refine ite_all (P := fun (z : Kn × Int × List UInt8 × Int) => z.1.Small (n + 1)) (fun c2 => ?_) (fun c2 => ?_)
  · exact ⟨hm.next, hm.a1, hm.a2, hm.out, hm.done, hm.line⟩
  refine ite_all (P := fun (z : Kn × Int × List UInt8 × Int) => z.1.Small (n + 1)) (fun c3 => ?_) (fun c3 => ?_)
  · exact ⟨hm.next, hm.a1, hm.a2, hm.out, hm.done, hm.line⟩
  refine ite_all (P := fun (z : Kn × Int × List UInt8 × Int) => z.1.Small (n + 1)) (fun c4 => ?_) (fun c4 => ?_)
  · exact hm
  refine ite_all (P := fun (z : Kn × Int × List UInt8 × Int) => z.1.Small (n + 1)) (fun c5 => ?_) (fun c5 => ?_)
  · exact ⟨hm.next, hm.a1, hm.a2, hm.out, hm.done, hm.line⟩
  refine ite_all (P := fun (z : Kn × Int × List UInt8 × Int) => z.1.Small (n + 1)) (fun c6 => ?_) (fun c6 => ?_)
  · exact hm
  refine ite_all (P := fun (z : Kn × Int × List UInt8 × Int) => z.1.Small (n + 1)) (fun c7 => ?_) (fun c7 => ?_)
  · exact ⟨hm.next, hm.a1, hm.a2, hm.out, hm.done, Nat.le_trans (write_line _ _ _ _) (by omega)⟩
  refine ite_all (P := fun (z : Kn × Int × List UInt8 × Int) => z.1.Small (n + 1)) (fun c8 => ?_) (fun c8 => ?_)
  · exact ⟨hm.next, hm.a1, hm.a2, hm.out, hm.done, Nat.le_trans (sync_line _) (by omega)⟩
  refine ite_all (P := fun (z : Kn × Int × List UInt8 × Int) => z.1.Small (n + 1)) (fun c9 => ?_) (fun c9 => ?_)
  · unfold bindR
    split
    · exact hm
    · split
      · exact ⟨by show K.next + 1 ≤ n + 1; omega, hm.a1, hm.a2, hm.out, hm.done, hm.line⟩
      · exact hm
  refine ite_all (P := fun (z : Kn × Int × List UInt8 × Int) => z.1.Small (n + 1)) (fun c10 => ?_) (fun c10 => ?_)
  · unfold unbindR
    split
    · exact ⟨hm.next, hm.a1, hm.a2, hm.out, hm.done, hm.line⟩
    · exact hm
  refine ite_all (P := fun (z : Kn × Int × List UInt8 × Int) => z.1.Small (n + 1)) (fun c11 => ?_) (fun c11 => ?_)
  · unfold submitR
    split
    · exact hm
    · split
      · exact ⟨hm.next, hm.a1, hm.a2, by show K.f3 + (K.out ++ [_]).length ≤ _; simp; omega, hm.done, hm.line⟩
      · exact hm
  refine ite_all (P := fun (z : Kn × Int × List UInt8 × Int) => z.1.Small (n + 1)) (fun c12 => ?_) (fun c12 => ?_)
  · unfold takeR
    split
    · split
      · rename_i s r hr
        rw [hr] at h2
        exact ⟨hm.next, by show K.f1 + 1 + r.length ≤ _; simp at h2; omega, hm.a2, hm.out, hm.done, hm.line⟩
      · exact hm
    · split
      · rename_i s r hr
        rw [hr] at h3
        exact ⟨hm.next, hm.a1, by show K.f2 + 1 + r.length ≤ _; simp at h3; omega, hm.out, hm.done, hm.line⟩
      · exact hm
  refine ite_all (P := fun (z : Kn × Int × List UInt8 × Int) => z.1.Small (n + 1)) (fun c13 => ?_) (fun c13 => ?_)
  · exact hm
  · exact hm
theorem small_arrive {K : Kn} {n : Nat} (h : K.Small n) (s : List UInt8) : (arriveR K s).1.Small (n + 1) := by
  have h2 := h.a1; have h3 := h.a2
  have hm := h.mono (Nat.le_succ n)
  unfold arriveR
  split
  · exact hm
  split
  · exact hm
  split
  · split
    · exact hm
    · exact ⟨hm.next, by show K.f1 + (K.i1 ++ [s]).length ≤ _; simp; omega, hm.a2, hm.out, hm.done, hm.line⟩
  · split
    · exact hm
    · exact ⟨hm.next, hm.a1, by show K.f2 + (K.i2 ++ [s]).length ≤ _; simp; omega, hm.out, hm.done, hm.line⟩
theorem small_depart {K : Kn} {n : Nat} (h : K.Small n) : (departR K).1.Small (n + 1) := by
  have h4 := h.out; have h5 := h.done
  have hm := h.mono (Nat.le_succ n)
  unfold departR
  split
  · exact hm
  · rename_i t r hr
    rw [hr] at h4
    exact ⟨hm.next, hm.a1, hm.a2, by show K.f3 + 1 + r.length ≤ _; simp at h4; omega, by show K.done + 1 ≤ _; omega, hm.line⟩

/-! Ok. -/
/-- Another table, where what is held is as it was, and held as often. -/
structure Kept (ps qs : List Pg) : Prop where
  len : qs.length = ps.length
  hold : ∀ k (h : k < ps.length) (h' : k < qs.length), qs[k].holds = ps[k].holds
  stay : ∀ k (h : k < ps.length) (h' : k < qs.length), ps[k].holds ≠ 0 → qs[k] = ps[k]
  ok : ∀ p ∈ qs, p.Ok
theorem Kept.refl {ps : List Pg} (h : ∀ p ∈ ps, p.Ok) : Kept ps ps := ⟨rfl, fun _ _ _ => rfl, fun _ _ _ _ => rfl, h⟩
theorem Kept.set {ps : List Pg} (h : ∀ p ∈ ps, p.Ok) {k : Nat} (hk : k < ps.length) (h0 : ps[k].holds = 0) {p : Pg} (hp : p.Ok) (hp0 : p.holds = 0) : Kept ps (ps.set k p) := by
  refine ⟨by simp, fun i hi h' => ?_, fun i hi h' hn => ?_, fun q hq => ?_⟩
  · rw [List.getElem_set]
    split
    · rename_i e; subst e; rw [hp0, h0]
    · rfl
  · rw [List.getElem_set]
    split
    · rename_i e; subst e; exact absurd h0 hn
    · rfl
  · rcases List.mem_or_eq_of_mem_set hq with h1 | rfl
    · exact h q h1
    · exact hp
theorem cnt_zero {l : List Pc} {f : Int} (h : cnt l f ≠ 0) : ∃ p ∈ l, p.frame = f := by
  have h1 : 0 < cnt l f := by omega
  obtain ⟨p, hp, e⟩ := List.countP_pos_iff.1 h1
  exact ⟨p, hp, by simpa using e⟩
theorem heldN_pos {o : List Tr} {f : Int} (h : heldN o f ≠ 0) : ∃ t ∈ o, ∃ p ∈ t.l, p.frame = f := by
  induction o with
  | nil => exact absurd rfl h
  | cons t o ih =>
    rw [heldN_cons] at h
    by_cases h1 : cnt t.l f = 0
    · obtain ⟨u, hu, p, hp, e⟩ := ih (by omega)
      exact ⟨u, List.mem_cons_of_mem _ hu, p, hp, e⟩
    · obtain ⟨p, hp, e⟩ := cnt_zero h1
      exact ⟨t, List.mem_cons_self, p, hp, e⟩
/-- A frame that is held is its transfer's. -/
theorem Kn.Ok.whose {K : Kn} (ok : K.Ok) {k : Nat} (hk : k < K.ps.length) (h : K.ps[k].holds ≠ 0) : ∃ t ∈ K.out, K.ps[k].owner = t.env ∧ 1 ≤ t.env := by
  rw [ok.holds k hk] at h
  obtain ⟨t, ht, p, hp, e⟩ := heldN_pos h
  have := (ok.out t ht).own p hp
  rw [e, pg_at hk] at this
  exact ⟨t, ht, this, (ok.out t ht).e1⟩
theorem Kn.Ok.setPs {K : Kn} (ok : K.Ok) {qs : List Pg} (h : Kept K.ps qs) : ({ K with ps := qs } : Kn).Ok := by
  refine ⟨ok.f8, ok.fs, ok.n1, ok.n2, ok.no, ok.s1, ok.s2, fun t ht => ?_, fun k hk => ?_, ok.on, ok.arm, h.ok, ok.dok, ok.f3⟩
  · have o := ok.out t ht
    refine ⟨o.ne, o.n, o.ok, fun p hp => by show p.Fits qs.length; rw [h.len]; exact o.fits p hp, fun p hp => ?_, o.e1, o.e2⟩
    obtain ⟨k, hk, e, h1, h2⟩ := ok.held ht hp
    have hk' : k < qs.length := by rw [h.len]; exact hk
    have := o.own p hp
    rw [e, pg_at hk] at this
    show (pg qs p.frame).owner = t.env
    rw [e, pg_at hk', h.stay k hk hk' (by omega)]
    exact this
  · have hk' : k < K.ps.length := by rw [← h.len]; exact hk
    exact (h.hold k hk' hk).trans (ok.holds k hk')
section
variable {K : Kn}
theorem kept_alloc (ok : K.Ok) (env : Int) : Kept K.ps (Fr.allocR K.ps env).1 := by
  unfold Fr.allocR
  split
  · rename_i he
    split
    · rename_i k hk
      obtain ⟨hl, h0, _⟩ := List.findIdx?_eq_some_iff_getElem.1 hk
      have hpo := ok.pok _ (List.getElem_mem hl)
      have hz : K.ps[k].holds = 0 := by
        by_cases hn : K.ps[k].holds = 0
        · exact hn
        · obtain ⟨t, _, h1, h2⟩ := ok.whose hl hn
          have : K.ps[k].owner = 0 := by simpa using h0
          omega
      refine Kept.set ok.pok hl hz ?_ ?_
      · rw [pg_at hl]
        exact ⟨by show env.toNat ≤ 2; rcases he with h | h <;> omega, hpo.h, hpo.t⟩
      · rw [pg_at hl]; exact hz
    · exact Kept.refl ok.pok
  · exact Kept.refl ok.pok
theorem kept_free (ok : K.Ok) (env f : Int) : Kept K.ps (Fr.freeR K.ps env f).1 := by
  unfold Fr.freeR
  split
  · rename_i he
    obtain ⟨k, hk, rfl, hE, ho⟩ := ownErr_zero he
    rw [pg_at hk]
    split
    · rename_i h0
      exact Kept.set ok.pok hk h0 Pg.blank_ok rfl
    · exact Kept.refl ok.pok
  · exact Kept.refl ok.pok
theorem kept_give (ok : K.Ok) (env f dst : Int) : Kept K.ps (Fr.giveR K.ps env f dst).1 := by
  unfold Fr.giveR
  split
  · rename_i he
    obtain ⟨k, hk, rfl, hE, ho⟩ := ownErr_zero he
    have hpo := ok.pok _ (List.getElem_mem hk)
    rw [pg_at hk]
    split
    · rename_i ht
      split
      · rename_i h0
        exact Kept.set ok.pok hk h0 ⟨by show dst.toNat ≤ 2; rcases ht with h | h <;> omega, hpo.h, hpo.t⟩ h0
      · exact Kept.refl ok.pok
    · exact Kept.refl ok.pok
  · exact Kept.refl ok.pok
theorem kept_write (ok : K.Ok) (env f off : Int) (s : List UInt8) : Kept K.ps (Fr.writeR K.ps env f off s).1 := by
  unfold Fr.writeR
  split
  · rename_i he
    obtain ⟨k, hk, rfl, hE, ho⟩ := ownErr_zero he
    have hpo := ok.pok _ (List.getElem_mem hk)
    rw [pg_at hk]
    split
    · rename_i hin
      split
      · rename_i h0
        have h1 := hin.1; have h2 := hin.2.2
        have ht := hpo.t
        exact Kept.set ok.pok hk h0 ⟨hpo.o, hpo.h, by show (K.ps[k].text.take _ ++ s ++ K.ps[k].text.drop _).length = 256; simp [ht]; omega⟩ h0
      · exact Kept.refl ok.pok
    · exact Kept.refl ok.pok
  · exact Kept.refl ok.pok
theorem ok_dk (ok : K.Ok) {d : Dk} (h1 : d.on = true) (h2 : d.armed = -1) (h3 : d.Ok) : ({ K with dk := d } : Kn).Ok :=
  ⟨ok.f8, ok.fs, ok.n1, ok.n2, ok.no, ok.s1, ok.s2, ok.out, ok.holds, h1, h2, ok.pok, h3, ok.f3⟩
theorem ok_write (ok : K.Ok) (env block : Int) (s : List UInt8) : ({ K with dk := (writeR K.dk env block s).1 } : Kn).Ok := by
  unfold writeR
  split
  · rename_i he
    obtain ⟨_, b, rfl, hb, _⟩ := askE_zero he
    split
    · rename_i hs
      rw [if_neg (by rw [ok.arm]; decide)]
      refine ok_dk ok ok.on ?_ (by rw [Int.toNat_natCast]; exact ok.dok.laid hb hs (by rw [ok.arm]; decide))
      show (if K.dk.armed = -1 then -1 else K.dk.armed - 1) = -1
      rw [if_pos ok.arm]
    · exact ok_dk ok ok.on ok.arm ok.dok
  · exact ok_dk ok ok.on ok.arm ok.dok
theorem ok_sync (ok : K.Ok) : ({ K with dk := (syncR K.dk).1 } : Kn).Ok := by
  unfold syncR
  rw [if_pos ok.on]
  exact ok_dk ok ok.on ok.arm (ok.dok.settle _)
theorem ok_bind (ok : K.Ok) (env : Int) (he : env = 1 ∨ env = 2) (p : List Ins) (hp : ∀ q ∈ p, q.Ok) : (bindR K env p).1.Ok := by
  unfold bindR
  split
  · exact ok
  · rename_i h8
    split
    · rename_i hc
      refine ⟨by show (K.fs ++ [_]).length ≤ 8; simp; omega, fun f hf => ?_, ok.n1, ok.n2, ok.no, ok.s1, ok.s2, ok.out, ok.holds, ok.on, ok.arm, ok.pok, ok.dok, ok.f3⟩
      rcases List.mem_append.1 hf with h1 | h1
      · exact ok.fs f h1
      · rw [List.mem_singleton.1 h1]
        exact ⟨(chkB_iff p).1 hc, hp, by show 1 ≤ env.toNat; omega, by show env.toNat ≤ 2; omega⟩
    · exact ok
theorem ok_unbind (ok : K.Ok) (env id : Int) : (unbindR K env id).1.Ok := by
  unfold unbindR
  split
  · exact ⟨Nat.le_trans (by show (K.fs.eraseIdx _).length ≤ K.fs.length; rw [List.length_eraseIdx]; split <;> omega) ok.f8, fun f hf => ok.fs f (List.mem_of_mem_eraseIdx hf), ok.n1, ok.n2, ok.no, ok.s1, ok.s2, ok.out, ok.holds, ok.on, ok.arm, ok.pok, ok.dok, ok.f3⟩
  · exact ok
theorem ok_take (ok : K.Ok) (env : Int) : (takeR K env).1.Ok := by
  have h1 := ok.n1; have h2 := ok.n2
  unfold takeR
  split
  · split
    · rename_i s r hr
      rw [hr] at h1
      exact ⟨ok.f8, ok.fs, by show r.length ≤ 16; simp at h1; omega, ok.n2, ok.no, fun x hx => ok.s1 x (by rw [hr]; exact List.mem_cons_of_mem _ hx), ok.s2, ok.out, ok.holds, ok.on, ok.arm, ok.pok, ok.dok, ok.f3⟩
    · exact ok
  · split
    · rename_i s r hr
      rw [hr] at h2
      exact ⟨ok.f8, ok.fs, ok.n1, by show r.length ≤ 16; simp at h2; omega, ok.no, ok.s1, fun x hx => ok.s2 x (by rw [hr]; exact List.mem_cons_of_mem _ hx), ok.out, ok.holds, ok.on, ok.arm, ok.pok, ok.dok, ok.f3⟩
    · exact ok
theorem ok_arrive (ok : K.Ok) (s : List UInt8) : (arriveR K s).1.Ok := by
  unfold arriveR
  split
  · exact ok
  · rename_i hl
    split
    · exact ok
    · split
      · split
        · exact ok
        · refine ⟨ok.f8, ok.fs, by show (K.i1 ++ [s]).length ≤ 16; simp; omega, ok.n2, ok.no, fun x hx => ?_, ok.s2, ok.out, ok.holds, ok.on, ok.arm, ok.pok, ok.dok, ok.f3⟩
          rcases List.mem_append.1 hx with h1 | h1
          · exact ok.s1 x h1
          · rw [List.mem_singleton.1 h1]; omega
      · split
        · exact ok
        · refine ⟨ok.f8, ok.fs, ok.n1, by show (K.i2 ++ [s]).length ≤ 16; simp; omega, ok.no, ok.s1, fun x hx => ?_, ok.out, ok.holds, ok.on, ok.arm, ok.pok, ok.dok, ok.f3⟩
          rcases List.mem_append.1 hx with h1 | h1
          · exact ok.s2 x h1
          · rw [List.mem_singleton.1 h1]; omega
/-- Another table, the same but for its holds. -/
theorem turned_tr {ps qs : List Pg} {d : Nat → Nat} (h : Turned ps qs d) {t : Tr} (o : t.Ok ps) : t.Ok qs := by
  refine ⟨o.ne, o.n, o.ok, fun p hp => by rw [h.1]; exact o.fits p hp, fun p hp => ?_, o.e1, o.e2⟩
  have hf := o.fits p hp
  have := o.own p hp
  rw [h.pg ⟨hf.2.2.1, hf.2.2.2⟩]
  exact this
theorem ok_submit (ok : K.Ok) (env : Int) (l : List Pc) (hl : ∀ p ∈ l, p.Ok) : (submitR K env l).1.Ok := by
  unfold submitR
  split
  · exact ok
  · rename_i h16
    split
    · rename_i h0
      have hchk : checkR K.ps env l = 0 := by
        unfold holdG at h0
        split at h0
        · assumption
        · exact absurd h0 (by assumption)
      have e1 : (holdG K.ps env l).1 = holdN K.ps env l := by unfold holdG; rw [if_pos hchk]
      rw [e1]
      obtain ⟨hz, hown⟩ := check_zero hchk
      obtain ⟨hE, hne, hall, hl16, _⟩ := fits_of_zero hz
      have hT := holdN_turned l hown (Turned.refl K.ps)
      have hh : ∀ k (hk : k < (holdN K.ps env l).length), (holdN K.ps env l)[k].holds = heldN (K.out ++ [⟨env.toNat, l⟩]) (k : Int) := by
        intro k hk
        have hk' : k < K.ps.length := by rw [← hT.1]; exact hk
        rw [hT.2 k hk' hk]
        show (K.ps.getD k .blank).holds + cnt l (k : Int) = _
        have : heldN (K.out ++ [⟨env.toNat, l⟩]) (k : Int) = heldN K.out (k : Int) + cnt l (k : Int) := by unfold heldN; rw [List.map_append, List.sum_append]; simp
        rw [this, ← ok.holds k hk']
        simp [hk']
      have hto : ∀ t ∈ K.out ++ [⟨env.toNat, l⟩], t.Ok (holdN K.ps env l) := by
        intro t ht
        refine turned_tr hT ?_
        rcases List.mem_append.1 ht with h1 | h1
        · exact ok.out t h1
        · rw [List.mem_singleton.1 h1]
          refine ⟨hne, hl16, hl, hall, fun p hp => ?_, by show 1 ≤ env.toNat; omega, by show env.toNat ≤ 2; omega⟩
          obtain ⟨k, hk, e, _, ho⟩ := ownErr_zero (hown p hp)
          rw [e, pg_at hk]
          show K.ps[k].owner = env.toNat
          omega
      refine ⟨ok.f8, ok.fs, ok.n1, ok.n2, by show (K.out ++ [_]).length ≤ 16; simp; omega, ok.s1, ok.s2, hto, hh, ok.on, ok.arm, fun p hp => ?_, ok.dok, ok.f3⟩
      obtain ⟨k, hk, rfl⟩ := List.mem_iff_getElem.1 hp
      have hk' : k < K.ps.length := by rw [← hT.1]; exact hk
      have hpo := ok.pok _ (List.getElem_mem hk')
      have h1 := hh k hk
      have h2 := heldN_le hto (k : Int)
      have h3 : (K.out ++ [(⟨env.toNat, l⟩ : Tr)]).length ≤ 16 := by simp; omega
      have e := hT.2 k hk' hk
      refine ⟨?_, by show (holdN K.ps env l)[k].holds ≤ _; omega, ?_⟩
      · rw [e]; exact hpo.o
      · rw [e]; exact hpo.t
    · exact ok
theorem ok_depart (ok : K.Ok) : (departR K).1.Ok := by
  unfold departR
  split
  · exact ok
  · rename_i t r hr
    have ht : t ∈ K.out := by rw [hr]; exact List.mem_cons_self
    rw [ok.drops ht]
    have hT := dropN_turned t.l (Turned.refl K.ps)
    have hno := ok.no
    have hto : ∀ u ∈ r, u.Ok (dropN K.ps t.l) := fun u hu => turned_tr hT (ok.out u (by rw [hr]; exact List.mem_cons_of_mem _ hu))
    have hh : ∀ k (hk : k < (dropN K.ps t.l).length), (dropN K.ps t.l)[k].holds = heldN r (k : Int) := by
      intro k hk
      have hk' : k < K.ps.length := by rw [← hT.1]; exact hk
      rw [hT.2 k hk' hk]
      show (K.ps.getD k .blank).holds - cnt t.l (k : Int) = _
      have h1 := ok.holds k hk'
      rw [hr, heldN_cons] at h1
      have h2 : (K.ps.getD k .blank) = K.ps[k] := by simp [hk']
      rw [h2, h1]
      omega
    refine ⟨ok.f8, ok.fs, ok.n1, ok.n2, by show r.length ≤ 16; rw [hr] at hno; simp at hno; omega, ok.s1, ok.s2, hto, hh, ok.on, ok.arm, fun p hp => ?_, ok.dok, by show K.f3 + 1 = K.done + 1; rw [ok.f3]⟩
    obtain ⟨k, hk, rfl⟩ := List.mem_iff_getElem.1 hp
    have hk' : k < K.ps.length := by rw [← hT.1]; exact hk
    have hpo := ok.pok _ (List.getElem_mem hk')
    have e := hT.2 k hk' hk
    have h1 := hh k hk
    have h2 := heldN_le hto (k : Int)
    have h3 : r.length ≤ 16 := by rw [hr] at hno; simp at hno; omega
    refine ⟨?_, by show (dropN K.ps t.l)[k].holds ≤ _; omega, ?_⟩
    · rw [e]; exact hpo.o
    · rw [e]; exact hpo.t
theorem ok_call (ok : K.Ok) (q : KQ) (hp : ∀ p ∈ q.p, p.Ok) (hl : ∀ p ∈ q.l, p.Ok) : (callR K q).1.Ok := by
  unfold callR
  refine ite_all (P := fun (z : Kn × Int × List UInt8 × Int) => z.1.Ok) (fun c0 => ?_) (fun c0 => ?_)
  · exact ok
  have he' : q.env = 1 ∨ q.env = 2 := Decidable.not_not.1 c0
  refine ite_all (P := fun (z : Kn × Int × List UInt8 × Int) => z.1.Ok) (fun c1 => ?_) (fun c1 => ?_)
  · exact ok.setPs (kept_alloc ok _)
  refine ite_all (P := fun (z : Kn × Int × List UInt8 × Int) => z.1.Ok) (fun c2 => ?_) (fun c2 => ?_)
  · exact ok.setPs (kept_free ok _ _)
  refine ite_all (P := fun (z : Kn × Int × List UInt8 × Int) => z.1.Ok) (fun c3 => ?_) (fun c3 => ?_)
  · exact ok.setPs (kept_give ok _ _ _)
  refine ite_all (P := fun (z : Kn × Int × List UInt8 × Int) => z.1.Ok) (fun c4 => ?_) (fun c4 => ?_)
  · exact ok
  refine ite_all (P := fun (z : Kn × Int × List UInt8 × Int) => z.1.Ok) (fun c5 => ?_) (fun c5 => ?_)
  · exact ok.setPs (kept_write ok _ _ _ _)
  refine ite_all (P := fun (z : Kn × Int × List UInt8 × Int) => z.1.Ok) (fun c6 => ?_) (fun c6 => ?_)
  · exact ok
  refine ite_all (P := fun (z : Kn × Int × List UInt8 × Int) => z.1.Ok) (fun c7 => ?_) (fun c7 => ?_)
  · exact ok_write ok _ _ _
  refine ite_all (P := fun (z : Kn × Int × List UInt8 × Int) => z.1.Ok) (fun c8 => ?_) (fun c8 => ?_)
  · exact ok_sync ok
  refine ite_all (P := fun (z : Kn × Int × List UInt8 × Int) => z.1.Ok) (fun c9 => ?_) (fun c9 => ?_)
  · exact ok_bind ok _ he' _ hp
  refine ite_all (P := fun (z : Kn × Int × List UInt8 × Int) => z.1.Ok) (fun c10 => ?_) (fun c10 => ?_)
  · exact ok_unbind ok _ _
  refine ite_all (P := fun (z : Kn × Int × List UInt8 × Int) => z.1.Ok) (fun c11 => ?_) (fun c11 => ?_)
  · exact ok_submit ok _ _ hl
  refine ite_all (P := fun (z : Kn × Int × List UInt8 × Int) => z.1.Ok) (fun c12 => ?_) (fun c12 => ?_)
  · exact ok_take ok _
  refine ite_all (P := fun (z : Kn × Int × List UInt8 × Int) => z.1.Ok) (fun c13 => ?_) (fun c13 => ?_)
  · exact ok
  · exact ok
end
end Go.Proofs.Ytlilfblnlpjkcaa.Ke
