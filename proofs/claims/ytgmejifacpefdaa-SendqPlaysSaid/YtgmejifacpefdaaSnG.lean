/- Layer 21's law: its lists of calls, Ints, Same, To, far; a line beside the document's. Conditions: those that each states. -/
import Derived.Test.YtgmejifacpefdaaSnF
import Derived.Laws.StructEq
namespace Go.Proofs.Ytgmejifacpefdaa.Sn
open Go.ChangeShapes Go.WideShapes Go.ChangeAt Go.RowKit Go.Deep Rk Rv Gx
set_option linter.unusedVariables false
set_option linter.unusedSimpArgs false

theorem int_at {w : World} {A : Option Addr} {n c : Nat} {l : List Pc} (h : RowG w 1 A n c (frsV l)) {i : Nat} (hi : i < l.length) : ∃ b o, A = some ⟨b, o, none⟩ ∧ w.cell? ⟨b, o + i, none⟩ = some (.int .i64 l[i].frame) := by
  obtain ⟨b, o, e, _, hc⟩ := h.cell (j := i) (by rw [frsV_length]; exact hi)
  refine ⟨b, o, e, hc.trans ?_⟩
  simp [frsV]
set_option maxRecDepth 100000 in
theorem ints_any (A1 A2 : Option Addr) (n c1 c2 : Nat) (l : List Pc) (hn : l.length = n) (hmax : n ≤ 100000) (w : World) (h1 : RowG w 1 A1 n c1 (frsV l)) (h2 : RowG w 1 A2 n c2 (frsV l)) :
    Calls Try.prog 15 #[.slice A1 n c1, .slice A2 n c2] w fun e w' => e = .returned (.bool true) ∧ Below w.heap.size w w' := by
  have R1 := Lib.hid h1
  have R2 := Lib.hid h2
  have NN := Lib.hid hn
  have B0 := Lib.hid (Below.refl w.heap.size w)
  clear h1 h2 hn
  go_enter Try.func15, Try.ntmps15
  go_wp2
  go_loopw [5] (fun i wr => ∃ j : Nat, j ≤ n ∧ i = .int .i64 (j : Int) ∧ Hid (Below w.heap.size w wr)) (fun i _ => n - (intOf i).toNat)
  case atStart => exact ⟨0, Nat.zero_le _, rfl, B0⟩
  case round =>
    obtain ⟨j, hj, rfl, HB⟩ := hrel
    clear B0
    by_cases hlt : j < n
    · have hlt' : (j : Int) < (n : Int) := by omega
      have j0 : (0 : Int) ≤ (j : Int) := by omega
      have xj := IntWalk.i64_in ((j : Int) + 1) (by omega)
      obtain ⟨b, o, rfl, q1⟩ := int_at (R1.out.new HB.out) (i := j) (by have := NN.out; omega)
      obtain ⟨b', o', rfl, q2⟩ := int_at (R2.out.new HB.out) (i := j) (by have := NN.out; omega)
      generalize l[j]'(by have := NN.out; omega) = r at *
      generalize r.frame = fr at *
      go_upto_region 6 with fail
      go_quiet (fail)
      go_wp2
      go_roundw
      case rel => exact ⟨j + 1, by omega, by simp, Lib.hid (below_drewN HB.out _)⟩
      case measure => simp [intOf]; omega
    · have hge : ¬ (j : Int) < (n : Int) := by omega
      go_wp2
      go_ret
      exact ⟨rfl, HB.out⟩

set_option maxRecDepth 100000 in
theorem same_any (A1 A2 : Option Addr) (n c1 c2 : Nat) (l : List Pc) (hn : l.length = n) (hmax : n ≤ 100000) (w : World) (h1 : Pcs w A1 l) (h2 : Pcs w A2 l) :
    Calls Try.prog 18 #[.slice A1 n c1, .slice A2 n c2] w fun e w' => e = .returned (.bool true) ∧ Below w.heap.size w w' := by
  have R1 := Lib.hid h1
  have R2 := Lib.hid h2
  have NN := Lib.hid hn
  have B0 := Lib.hid (Below.refl w.heap.size w)
  clear h1 h2 hn
  go_enter Try.func18, Try.ntmps18
  go_wp2
  go_loopw [5] (fun i wr => ∃ j : Nat, j ≤ n ∧ i = .int .i64 (j : Int) ∧ Hid (Below w.heap.size w wr)) (fun i _ => n - (intOf i).toNat)
  case atStart => exact ⟨0, Nat.zero_le _, rfl, B0⟩
  case round =>
    obtain ⟨j, hj, rfl, HB⟩ := hrel
    clear B0
    by_cases hlt : j < n
    · have hlt' : (j : Int) < (n : Int) := by omega
      have j0 : (0 : Int) ≤ (j : Int) := by omega
      have xj := IntWalk.i64_in ((j : Int) + 1) (by omega)
      obtain ⟨b, o, rfl, -, q0, q1, q2⟩ := (R1.out.new HB.out).cells (i := j) (by have := NN.out; omega)
      obtain ⟨b', o', rfl, -, r0, r1, r2⟩ := (R2.out.new HB.out).cells (i := j) (by have := NN.out; omega)
      generalize l[j]'(by have := NN.out; omega) = r at *
      generalize r.frame = fr at *
      generalize r.off = fo at *
      generalize r.len = fl at *
      go_upto_region 6 with fail
      go_quiet (fail)
      go_wp2
      go_roundw
      case rel => exact ⟨j + 1, by omega, by simp, Lib.hid (below_drewN HB.out _)⟩
      case measure => simp [intOf]; omega
    · have hge : ¬ (j : Int) < (n : Int) := by omega
      go_wp2
      go_ret
      exact ⟨rfl, HB.out⟩

set_option maxRecDepth 100000 in
set_option maxHeartbeats 2000000 in
theorem to_any (A : Option Addr) (n c : Nat) (l : List Pc) (hn : l.length = n) (hmax : n ≤ 100000) (w : World) (hp : Pcs w A l) :
    Calls Try.prog 19 #[.slice A n c] w fun e w' => ∃ A' c', e = .returned (.slice A' n c') ∧ Pcs w' A' l ∧ Below w.heap.size w w' := by
  subst hn
  have P := Lib.hid hp
  have B0 := Lib.hid (Below.refl w.heap.size w)
  obtain ⟨i0, z0, hi, hz, hsz, hby, hzs⟩ := rpc_i
  have INF := Lib.hid (And.intro hi (And.intro hz (And.intro hsz (And.intro hby hzs))))
  clear hp hi hz hsz hby hzs
  go_enter Try.func19, Try.ntmps19
  go_wp2
  go_loopw [3, 4] (fun out i wr => ∃ (j : Nat) (A' : Option Addr) (c' : Nat), j ≤ l.length ∧ i = .int .i64 (j : Int) ∧ out = .slice A' j c' ∧ Hid (RowV wr 55 3 A' j c' (flatP (l.take j))) ∧ Hid (∀ i, inR A' i → w.heap.size ≤ i) ∧ Hid (Below w.heap.size w wr)) (fun _ i _ => l.length - (intOf i).toNat)
  case atStart => exact ⟨0, none, 0, Nat.zero_le _, rfl, rfl, Lib.hid (RowV.nil _ _ _), Lib.hid (fun k ⟨a, e, _⟩ => by cases e), B0⟩
  case round =>
    obtain ⟨j, A', c', hj, rfl, rfl, HO, OW, HB⟩ := hrel
    clear B0
    have P1 := Lib.hid (P.out.new HB.out)
    by_cases hlt : j < l.length
    · have hlt' : (j : Int) < (l.length : Int) := by omega
      have j0 : (0 : Int) ≤ (j : Int) := by omega
      have xj := IntWalk.i64_in ((j : Int) + 1) (by omega)
      obtain ⟨b, o, rfl, hbl, hr⟩ := P1.out j hlt
      have LD := Lib.hid (show wr.rangeAt b (o + j * 3) [.int .i64 l[j].frame, .int .i64 l[j].off, .int .i64 l[j].len] from hr)
      have HT := Lib.hid (show flatP (l.take (j + 1)) = flatP (l.take j) ++ [.int .i64 l[j].frame, .int .i64 l[j].off, .int .i64 l[j].len] from by
        rw [List.take_succ_eq_append_getElem hlt, flatP_snoc]; rfl)
      generalize l[j].frame = qf at *
      generalize l[j].off = qo at *
      generalize l[j].len = qn at *
      clear hr hbl
      go_wp2_with (first
        | (refine wpList_load_mid rfl 59 (.tmp 14) rfl b (o + j * 3) rfl _ _ LD.out Try.underlying59 rfl piece_info ?_)
        | (at_builtin; refine Hid.out ?_)
        | fail)
      unfold Hid
      have NB := (Below.refl wr.heap.size wr).alloc (Nat.le_refl _) (.cells #[.int .i64 qf, .int .i64 qo, .int .i64 qn] 55)
      refine wpList_append_V rfl (.tmp 11) (.tmp 16) 31 rfl 55 i0 z0 3 24 Try.underlying31 INF.out.1 INF.out.2.1 INF.out.2.2.1 INF.out.2.2.2.1 INF.out.2.2.2.2 (by decide) (by decide) A' j c' _ rfl (HO.out.new NB) (some ⟨wr.heap.size, 0, none⟩) 1 1 [.int .i64 qf, .int .i64 qo, .int .i64 qn] rfl (G_one wr 55 [.int .i64 qf, .int .i64 qo, .int .i64 qn] 3 rfl) (one_pc ⟨qf, qo, qn⟩) (by omega) ?_
      intro A2 c2 w2 r2 k2 n2
      rw [← HT.out] at r2
      have HO2 := Lib.hid r2
      have OW2 := Lib.hid (show ∀ k, inR A2 k → w.heap.size ≤ k from fun k hk => by
        rcases n2 k hk with h | h
        · exact OW.out k h
        · have := HB.out.size; simp at h; omega)
      have HB2 := Lib.hid (show Below w.heap.size w w2 from (HB.out.trans (NB.mono HB.out.size)).trans (k2.below (by have := HB.out.size; simp; omega) OW.out))
      clear r2 k2 n2 NB HO HB HT OW LD
      go_wp2
      go_roundw
      case rel => exact ⟨j + 1, A2, c2, by omega, by simp, rfl, HO2, OW2, HB2⟩
      case measure => simp [intOf]; omega
    · have hge : ¬ (j : Int) < (l.length : Int) := by omega
      obtain rfl : j = l.length := by omega
      have ho := HO.out
      rw [List.take_length] at ho
      have HG := Lib.hid (pcs_of_G ho.toG)
      clear ho HO
      go_wp2
      go_ret
      exact ⟨A', ⟨c', rfl⟩, HG.out, HB.out⟩

/-- A call to a line. -/
structure Act where
  kind : Int
  a : Int
  b : Int
  A : Option Addr
  c : Nat
  l : List Pc
def Act.cells (q : Act) : List Value := [.int .i64 q.kind, .int .i64 q.a, .int .i64 q.b, .slice q.A q.l.length q.c]
theorem Act.len (q : Act) : q.cells.length = 4 := rfl
structure Act.In (w : World) (q : Act) : Prop where
  kind : -9223372036854775808 ≤ q.kind ∧ q.kind ≤ 9223372036854775807
  a : -9223372036854775808 ≤ q.a ∧ q.a ≤ 9223372036854775807
  b : -9223372036854775808 ≤ q.b ∧ q.b ≤ 9223372036854775807
  l : Pcs w q.A q.l
  ok : ∀ p ∈ q.l, p.Ok
theorem cells_int : Try.prog.cellsOf 3 = 1 := by kernel_rfl
theorem cells_pcs : Try.prog.cellsOf 31 = 1 := by kernel_rfl
set_option maxRecDepth 100000 in
theorem open_Act {H : Type} {enc : TypeId × Value → H} {w : World} {base : Nat} {v : Value} {d : DataW H} {p : List MemPlace}
    (hv : Value.okWide Try.prog w .any base 22 v) (h : DataW.Trod enc Try.prog w 0 (fun _ => true) true 22 v d p) :
    ∃ A c l, v = .slice A (l : List Act).length c ∧ RowG w 4 A l.length c (l.flatMap Act.cells) ∧ ∀ a ∈ l, Act.In w a := by
  obtain ⟨a, n, c, rfl⟩ := okWide_slice Try.underlying22 hv
  obtain ⟨fuel, hf⟩ := h
  obtain ⟨A, c', l, e, r, k⟩ := row_of_trod Act.cells (Act.In w) (sz := 4) (by decide) Act.len Try.underlying22 (by kernel_rfl) (fun fuel cs x hl h => by
    obtain ⟨xs, k', hk, hxy, _, hxl, hff⟩ := DataW.trod_struct Try.underlying33 h
    match xs, hxl, cs, hl with
    | [y0, y1, y2, y3], _, [v0, v1, v2, v3], _ =>
      have g0 := hff 0 _ rfl
      have g1 := hff 1 _ rfl
      have g2 := hff 2 _ rfl
      have g3 := hff 3 _ rfl
      simp [cells_int, cells_pcs] at g0 g1 g2 g3
      obtain ⟨b0, z0, _, x0⟩ := DataW.trod_int Try.underlying3 g0
      obtain ⟨b1, z1, _, x1⟩ := DataW.trod_int Try.underlying3 g1
      obtain ⟨b2, z2, _, x2⟩ := DataW.trod_int Try.underlying3 g2
      obtain ⟨A3, c3, l3, z3, h31, h32, h33⟩ := pcs_of_trod Try.underlying31 Try.underlying55 (by kernel_rfl) rfl rfl rfl (by kernel_rfl) (by kernel_rfl) (by kernel_rfl) Try.underlying3 Try.underlying3 Try.underlying3 g3
      simp at z0 z1 z2 z3
      subst z0 z1 z2 z3
      exact ⟨⟨b0, b1, b2, A3, c3, l3⟩, rfl, ⟨wf_i64 x0, wf_i64 x1, wf_i64 x2, h31, h32⟩⟩) hf
  simp [Value.cells] at e
  obtain ⟨rfl, rfl, rfl⟩ := e
  exact ⟨a, c, l, rfl, r, k⟩
theorem act_at {w : World} {A : Option Addr} {c : Nat} {l : List Act} (h : RowG w 4 A l.length c (l.flatMap Act.cells)) {i : Nat} (hi : i < l.length) : ∃ b o, A = some ⟨b, o, none⟩ ∧ b < w.heap.size ∧ w.cell? ⟨b, o + i * 4, none⟩ = some (.int .i64 l[i].kind) ∧ w.cell? ⟨b, o + i * 4 + 1, none⟩ = some (.int .i64 l[i].a) ∧ w.cell? ⟨b, o + i * 4 + 2, none⟩ = some (.int .i64 l[i].b) ∧ w.cell? ⟨b, o + i * 4 + 3, none⟩ = some (.slice l[i].A l[i].l.length l[i].c) := by
  obtain ⟨b, o, e, hb, c0⟩ := rowG_at Act.len h hi (j := 0) (by decide)
  obtain ⟨b1, o1, e1, _, c1⟩ := rowG_at Act.len h hi (j := 1) (by decide)
  obtain ⟨b2, o2, e2, _, c2⟩ := rowG_at Act.len h hi (j := 2) (by decide)
  obtain ⟨b3, o3, e3, _, c3⟩ := rowG_at Act.len h hi (j := 3) (by decide)
  rw [e] at e1 e2 e3
  cases e1
  cases e2
  cases e3
  exact ⟨b, o, e, hb, c0, c1, c2, c3⟩
def farB (l : List Act) : Bool := decide (60 < l.length) || l.any fun q => decide (200 < q.l.length)
theorem far_ok {l : List Act} (h : farB l = false) : l.length ≤ 60 ∧ ∀ j (hj : j < l.length), l[j].l.length ≤ 200 := by
  unfold farB at h
  simp only [Bool.or_eq_false_iff, decide_eq_false_iff_not, Nat.not_lt] at h
  refine ⟨h.1, fun j hj => ?_⟩
  have := List.any_eq_false.1 h.2 _ (List.getElem_mem hj)
  simpa using this
set_option maxRecDepth 100000 in
theorem far_any (A : Option Addr) (c : Nat) (l : List Act) (w : World) (h : RowG w 4 A l.length c (l.flatMap Act.cells)) :
    Calls Try.prog 8 #[.slice A l.length c] w fun e w' => e = .returned (.bool (farB l)) ∧ w' = w := by
  have R := Lib.hid h
  clear h
  obtain ⟨v, hv⟩ : ∃ v, farB l = v := ⟨_, rfl⟩
  rw [hv]
  have V := Lib.hid hv
  clear hv
  by_cases h60 : 60 < l.length
  · obtain rfl : v = true := by rw [← V.out]; unfold farB; simp [h60]
    have g0 : (l.length : Int) > 60 := by omega
    go_enter Try.func8, Try.ntmps8
    go_wp2
    go_ret
    exact ⟨rfl, rfl⟩
  have g0 : ¬ (l.length : Int) > 60 := by omega
  go_enter Try.func8, Try.ntmps8
  go_wp2
  go_loop [3] (fun i => ∃ j : Nat, j ≤ l.length ∧ i = .int .i64 (j : Int) ∧ Hid (∀ x (hx : x < l.length), x < j → l[x].l.length ≤ 200)) (fun i => l.length - (intOf i).toNat)
  case atStart => exact ⟨0, Nat.zero_le _, rfl, Lib.hid (fun x hx h => absurd h (by omega))⟩
  case round =>
    obtain ⟨j, hj, rfl, HG⟩ := hrel
    by_cases hlt : j < l.length
    · have hlt' : (j : Int) < (l.length : Int) := by omega
      have j0 : (0 : Int) ≤ (j : Int) := by omega
      have xj := IntWalk.i64_in ((j : Int) + 1) (by omega)
      obtain ⟨b, o, rfl, -, -, -, -, c3⟩ := act_at R.out hlt
      have GD := Lib.hid (fun (h1 : l[j].l.length ≤ 200) => show ∀ x (hx : x < l.length), x < j + 1 → l[x].l.length ≤ 200 from fun x hx h => by
        by_cases e : x = j
        · subst e; exact h1
        · exact HG.out x hx (by omega))
      have BAD := Lib.hid (fun (h1 : 200 < l[j].l.length) => show v = true from by
        rw [← V.out]
        unfold farB
        rw [List.any_eq_true.2 ⟨_, List.getElem_mem hlt, decide_eq_true h1⟩, Bool.or_true])
      generalize l[j].l.length = n at *
      generalize l[j].A = An at *
      generalize l[j].c = cn at *
      by_cases g1 : 200 < n
      · have g2 : (n : Int) > 200 := by omega
        have NB := Lib.hid (BAD.out g1)
        go_wp2
        go_ret
        exact ⟨by rw [NB.out]; rfl, rfl⟩
      · have g2 : ¬ (n : Int) > 200 := by omega
        have G2 := Lib.hid (GD.out (by omega))
        go_wp2
        go_round
        case rel => exact ⟨j + 1, by omega, by go_num, G2⟩
        case measure => simp [intOf]; omega
    · have hge : ¬ (j : Int) < (l.length : Int) := by omega
      have VV := Lib.hid (show v = false from by
        rw [← V.out]
        unfold farB
        rw [Bool.or_eq_false_iff]
        refine ⟨decide_eq_false h60, List.any_eq_false.2 fun q hq => ?_⟩
        obtain ⟨x, hx, rfl⟩ := List.mem_iff_getElem.1 hq
        have := HG.out x hx (by omega)
        simpa using this)
      go_wp2
      go_ret
      exact ⟨by rw [VV.out]; rfl, rfl⟩

theorem LB.keep2 {w0 w w' : World} {F S : Nat → Prop} {g st : Nat} {l : List Pc} (h : LB w0 w F g l st) (hn : ∀ i, S i → ¬ F i) (k : Chg w w' S) (ho : ∀ i, S i → w0.heap.size ≤ i) : LB w0 w' F g l st :=
  ⟨h.line.chg k (fun i hf hs => hn i hs hf), h.below.trans (k.below h.below.size ho), h.own⟩
/-- A line of the call's own beside the document's. -/
structure Two (w0 w : World) (F : Nat → Prop) (g : Nat) (G : Nat → Prop) (gd : Nat) (l : List Pc) (st : Nat) (L : List By) (st2 : Nat) : Prop where
  x : LB w0 w F g l st
  d : DLine w G gd L st2
  ap : ∀ i, F i → ¬ G i
  og : ∀ i, G i → w0.heap.size ≤ i
section
variable {w0 w w' : World} {F F' G G' : Nat → Prop} {g gd st st' st2 st2' : Nat} {l l' : List Pc} {L L' : List By}
theorem Two.new (h : Two w0 w F g G gd l st L st2) (k : Below w.heap.size w w') : Two w0 w' F g G gd l st L st2 := ⟨h.x.new k, h.d.new k, h.ap, h.og⟩
theorem Two.left (h : Two w0 w F g G gd l st L st2) (h2 : LB w0 w' F' g l' st') (s : Stp w w' F F') : Two w0 w' F' g G gd l' st' L st2 :=
  ⟨h2, h.d.chg s.chg (fun i hg hf => h.ap i hf hg), fun i hi hg => by
    rcases s.new i hi with h1 | h1
    · exact h.ap i h1 hg
    · have := h.d.lt i hg; omega, h.og⟩
theorem Two.right (h : Two w0 w F g G gd l st L st2) (h2 : DLine w' G' gd L' st2') (s : Stp w w' G G') : Two w0 w' F g G' gd l st L' st2' :=
  ⟨h.x.keep2 (fun i hg hf => h.ap i hf hg) s.chg h.og, h2, fun i hi hg => by
    rcases s.new i hg with h1 | h1
    · exact h.ap i hi h1
    · have := h.x.line.lt i hi; omega, fun i hi => by
    rcases s.new i hi with h1 | h1
    · exact h.og i h1
    · have := h.x.below.size; omega⟩
end
end Go.Proofs.Ytgmejifacpefdaa.Sn
