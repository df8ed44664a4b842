/- Generic: slices of anything that came in, element by element. Conditions: those that each states. -/
import Derived.Test.YthnpalcjfgbjeaaGxA
import Derived.Deep.Slices
import Derived.ChangeSame
import Derived.Test.YthnpalcjfgbjeaaRef01
import Derived.Deep.Cut
import Derived.Deep.DeepCutAuto
namespace Go.Proofs.Ythnpalcjfgbjeaa.Gx
open Go.ChangeShapes Go.WideShapes Go.ChangeAt Go.RowKit Go.Deep Rk
set_option linter.unusedVariables false
set_option linter.unusedSimpArgs false

theorem flatG_at {α : Type} {f : α → List Value} {sz : Nat} (hf : ∀ a, (f a).length = sz) : ∀ (l : List α) (i j : Nat) (hi : i < l.length) (hj : j < sz), (l.flatMap f)[i * sz + j]? = (f l[i])[j]?
  | a :: l, 0, j, _, hj => by
    rw [List.flatMap_cons, List.getElem?_append_left (by rw [hf]; omega), Nat.zero_mul, Nat.zero_add]; rfl
  | a :: l, i + 1, j, hi, hj => by
    have := flatG_at hf l i j (by simpa using hi) hj
    rw [List.flatMap_cons, List.getElem?_append_right (by rw [hf, Nat.succ_mul]; omega), hf, show (i + 1) * sz + j - sz = i * sz + j from by rw [Nat.succ_mul]; omega, this]
    rfl
theorem flatG_length {α : Type} {f : α → List Value} {sz : Nat} (hf : ∀ a, (f a).length = sz) (l : List α) : (l.flatMap f).length = l.length * sz := by
  induction l with
  | nil => simp
  | cons a l ih => rw [List.flatMap_cons, List.length_append, ih, hf, List.length_cons, Nat.succ_mul]; omega

/-- A slice that came in, element by element. -/
theorem row_of_trod {H : Type} {enc : TypeId × Value → H} {P : Program} {w : World} {t e : TypeId} {fuel : Nat} {cs : List Value} {x : DataW H × List MemPlace} {held : Bool} {α : Type} (f : α → List Value) (Ok : α → Prop) {sz : Nat} (hsz : 0 < sz) (hf : ∀ a, (f a).length = sz)
    (ht : P.underlying t = some (.slice e)) (ce : P.cellsOf e = sz)
    (hdec : ∀ (fuel : Nat) (cs : List Value) (x : DataW H × List MemPlace), cs.length = sz → DataW.trod enc P w 0 (fun _ => true) held fuel e cs = some x → ∃ a : α, cs = f a ∧ Ok a)
    (h : DataW.trod enc P w 0 (fun _ => true) held fuel t cs = some x) : ∃ A c l, cs = [.slice A (l : List α).length c] ∧ RowG w sz A l.length c (l.flatMap f) ∧ ∀ a ∈ l, Ok a := by
  rcases open_slice ht h with ⟨hcs, _⟩ | ⟨x, n, c, m, k, D, Pl, hcs, _, hl, hm, hmm, _, hx⟩
  · exact ⟨none, 0, [], hcs, RowG.nil w sz, fun a ha => (by cases ha)⟩
  · subst hcs
    simp only [if_true] at hmm
    obtain ⟨b, o, sp⟩ := x
    have each : ∀ i, i < n → ∃ a : α, Ok a ∧ ∀ j, j < sz → w.cell? ((⟨b, o, sp⟩ : Addr).add (i * sz + j)) = (f a)[j]? := by
      intro i hi
      obtain ⟨cs', h1, h2⟩ := hx i (by omega)
      rw [ce] at h1
      obtain ⟨_, hlen, hcell⟩ := World.cells?_some h1
      obtain ⟨a, rfl, ha⟩ := hdec _ _ _ hlen h2
      refine ⟨a, ha, fun j hj => ?_⟩
      have := hcell j hj
      rw [add_add] at this
      exact this
    obtain ⟨q, hq⟩ : ∃ q : List α, q.length = n ∧ ∀ i (hi : i < q.length), Ok q[i] ∧ ∀ j, j < sz → w.cell? ((⟨b, o, sp⟩ : Addr).add (i * sz + j)) = (f q[i])[j]? := by
      have : ∀ k, k ≤ n → ∃ q : List α, q.length = k ∧ ∀ i (hi : i < q.length), Ok q[i] ∧ ∀ j, j < sz → w.cell? ((⟨b, o, sp⟩ : Addr).add (i * sz + j)) = (f q[i])[j]? := by
        intro k
        induction k with
        | zero => intro _; exact ⟨[], rfl, fun i hi => absurd hi (by simp)⟩
        | succ k ih =>
          intro hk
          obtain ⟨q, h1, h2⟩ := ih (by omega)
          obtain ⟨a, h3, h4⟩ := each k (by omega)
          refine ⟨q ++ [a], by simp [h1], fun i hi => ?_⟩
          by_cases hik : i < q.length
          · rw [List.getElem_append_left hik]
            exact h2 i hik
          · have : i = q.length := by simp at hi; omega
            subst this
            rw [List.getElem_concat_length rfl]
            rw [h1]
            exact ⟨h3, h4⟩
      exact this n (Nat.le_refl _)
    obtain ⟨rfl, hq⟩ := hq
    refine ⟨some ⟨b, o, sp⟩, c, q, rfl, ⟨flatG_length hf q, hl, hm, fun e => (by cases e), fun a e h0 => ?_⟩, fun a ha => ?_⟩
    · cases e
      have h00 := (hq 0 h0).2 0 hsz
      rw [List.getElem?_eq_getElem (by rw [hf]; exact hsz)] at h00
      have hsp : sp = none := by
        have := World.cell?_spot h00
        simpa [Addr.add] using this
      subst hsp
      have ea : ∀ j, (⟨b, o, none⟩ : Addr).add j = ⟨b, o + j, none⟩ := fun j => by unfold Addr.add; split <;> simp_all
      refine ⟨rfl, ?_, fun j hj => ?_⟩
      · rw [ea] at h00
        unfold World.cell? at h00
        cases hh : w.heap[b]? with
        | none => simp only [hh] at h00; cases h00
        | some ob => exact (Array.getElem?_eq_some_iff.1 hh).1
      · have hj' : j < q.length * sz := by rw [← flatG_length hf q]; exact hj
        have hd : j / sz < q.length := (Nat.div_lt_iff_lt_mul hsz).2 hj'
        have hr : j % sz < sz := Nat.mod_lt _ hsz
        have h1 := (hq (j / sz) hd).2 (j % sz) hr
        have e1 : j / sz * sz + j % sz = j := by rw [Nat.mul_comm]; exact Nat.div_add_mod j sz
        rw [e1, ea] at h1
        rw [h1, ← flatG_at hf q _ _ hd hr, e1, List.getElem?_eq_getElem hj]
    · obtain ⟨i, hi, rfl⟩ := List.mem_iff_getElem.1 ha
      exact (hq i hi).1

/-- A cell of an element of a row. -/
theorem rowG_at {w : World} {α : Type} {f : α → List Value} {sz : Nat} (hf : ∀ a, (f a).length = sz) {A : Option Addr} {c : Nat} {l : List α} (h : RowG w sz A l.length c (l.flatMap f)) {i j : Nat} (hi : i < l.length) (hj : j < sz) :
    ∃ b o, A = some ⟨b, o, none⟩ ∧ b < w.heap.size ∧ w.cell? ⟨b, o + (i * sz + j), none⟩ = (f l[i])[j]? := by
  have hm : (i + 1) * sz ≤ l.length * sz := Nat.mul_le_mul_right sz hi
  rw [Nat.succ_mul] at hm
  have hx : i * sz + j < (l.flatMap f).length := by rw [flatG_length hf]; omega
  obtain ⟨b, o, e, hb, hc⟩ := h.cell hx
  refine ⟨b, o, e, hb, ?_⟩
  rw [hc, ← flatG_at hf l i j hi hj, List.getElem?_eq_getElem hx]
theorem flatG_take {α : Type} {f : α → List Value} {sz : Nat} (hf : ∀ a, (f a).length = sz) : ∀ (l : List α) (i : Nat), (l.take i).flatMap f = (l.flatMap f).take (i * sz)
  | [], i => by simp
  | a :: l, 0 => by simp
  | a :: l, i + 1 => by
    rw [List.take_succ_cons, List.flatMap_cons, List.flatMap_cons, flatG_take hf l i, Nat.succ_mul, Nat.add_comm (i * sz) sz, List.take_append, hf, Nat.add_sub_cancel_left, List.take_of_length_le (l := f a) (by rw [hf]; omega)]
/-- The first elements of a row. -/
theorem rowG_front {w : World} {α : Type} {f : α → List Value} {sz : Nat} (hf : ∀ a, (f a).length = sz) {A : Option Addr} {c : Nat} {l : List α} (h : RowG w sz A l.length c (l.flatMap f)) {i : Nat} (hi : i ≤ l.length) : RowG w sz A (l.take i).length c ((l.take i).flatMap f) := by
  have hl : (l.take i).length = i := by rw [List.length_take]; omega
  refine ⟨flatG_length hf _, by rw [hl]; exact Nat.le_trans hi h.cap, h.max, fun e => ?_, fun a e h0 => ?_⟩
  · have := h.none_ e
    rw [hl]; omega
  · rw [hl] at h0
    obtain ⟨h3, h1, h2⟩ := h.at_ a e (by omega)
    refine ⟨h3, h1, fun j hj => ?_⟩
    have hj' : j < (l.flatMap f).length := by
      rw [flatG_length hf] at hj ⊢
      rw [hl] at hj
      have : i * sz ≤ l.length * sz := Nat.mul_le_mul_right sz hi
      omega
    rw [h2 j hj']
    simp only [flatG_take hf l i, List.getElem_take]
end Go.Proofs.Ythnpalcjfgbjeaa.Gx

/- The steps of layer 13's laws, as they come in. Conditions: those that each states. -/
namespace Go.Proofs.Ythnpalcjfgbjeaa.Pq
open Go.ChangeShapes Go.WideShapes Go.ChangeAt Go.RowKit Go.Deep Rk Gx
set_option linter.unusedVariables false
set_option linter.unusedSimpArgs false

def In64 (z : Int) : Prop := -9223372036854775808 ≤ z ∧ z ≤ 9223372036854775807
/-- A step. -/
structure PAct where
  kind : Int
  a : Int
  b : Int
  ev : Int
  od : Int
  s : List UInt8
  L : Option Addr
  n : Nat
  c : Nat
def PAct.cells (q : PAct) : List Value := [.int .i64 q.kind, .int .i64 q.a, .int .i64 q.b, .int .i64 q.ev, .int .i64 q.od, .string ⟨q.s.toArray⟩, .slice q.L q.n q.c]
theorem PAct.len (q : PAct) : q.cells.length = 7 := rfl
structure PAct.In (q : PAct) : Prop where
  a : In64 q.a
  b : In64 q.b
theorem cells_int : Try.prog.cellsOf 3 = 1 := by kernel_rfl
theorem cells_i64 : Try.prog.cellsOf 2 = 1 := by kernel_rfl
theorem cells_str : Try.prog.cellsOf 9 = 1 := by kernel_rfl
theorem cells_pcs : Try.prog.cellsOf 39 = 1 := by kernel_rfl
theorem cells_pair : Try.prog.cellsOf 38 = 2 := by kernel_rfl
theorem slice_of_trod {H : Type} {enc : TypeId × Value → H} {P : Program} {w : World} {t e : TypeId} {fuel : Nat} {cs : List Value} {x : DataW H × List MemPlace} {held : Bool} (ht : P.underlying t = some (.slice e))
    (h : DataW.trod enc P w 0 (fun _ => true) held fuel t cs = some x) : ∃ A n c, cs = [.slice A n c] := by
  rcases open_slice ht h with ⟨hcs, _⟩ | ⟨x, n, c, m, k, D, Pl, hcs, _⟩
  · exact ⟨_, _, _, hcs⟩
  · exact ⟨_, _, _, hcs⟩
set_option maxRecDepth 100000 in
theorem acts_of_trod {H : Type} {enc : TypeId × Value → H} {w : World} {fuel : Nat} {cs : List Value} {x : DataW H × List MemPlace} {held : Bool} (h : DataW.trod enc Try.prog w 0 (fun _ => true) held fuel 22 cs = some x) :
    ∃ A c l, cs = [.slice A (l : List PAct).length c] ∧ RowG w 7 A l.length c (l.flatMap PAct.cells) ∧ ∀ a ∈ l, a.In := by
  exact row_of_trod PAct.cells PAct.In (sz := 7) (by decide) PAct.len Try.underlying22 (by kernel_rfl) (fun fuel cs x hl h => by
    obtain ⟨xs, k', hk, hxy, _, hxl, hff⟩ := DataW.trod_struct Try.underlying41 h
    match xs, hxl, cs, hl with
    | [y0, y1, y2, y3, y4, y5], _, [v0, v1, v2, v3, v4, v5, v6], _ =>
      have g0 := hff 0 _ rfl
      have g1 := hff 1 _ rfl
      have g2 := hff 2 _ rfl
      have g3 := hff 3 _ rfl
      have g4 := hff 4 _ rfl
      have g5 := hff 5 _ rfl
      simp [cells_int, cells_str, cells_pcs, cells_pair] at g0 g1 g2 g3 g4 g5
      obtain ⟨z0, e0, _, w0⟩ := DataW.trod_int Try.underlying3 g0
      obtain ⟨z1, e1, _, w1⟩ := DataW.trod_int Try.underlying3 g1
      obtain ⟨z2, e2, _, w2⟩ := DataW.trod_int Try.underlying3 g2
      obtain ⟨xs3, k3, hk3, _, _, hxl3, hff3⟩ := DataW.trod_struct Try.underlying38 g3
      match xs3, hxl3 with
      | [u0, u1], _ =>
        have p0 := hff3 0 _ rfl
        have p1 := hff3 1 _ rfl
        simp [cells_i64] at p0 p1
        obtain ⟨z3, e3, _, w3⟩ := DataW.trod_int Try.underlying2 p0
        obtain ⟨z4, e4, _, w4⟩ := DataW.trod_int Try.underlying2 p1
        obtain ⟨z5, e5, _, w5⟩ := DataW.trod_string Try.underlying9 g4
        obtain ⟨A6, n6, c6, e6⟩ := slice_of_trod Try.underlying39 g5
        simp at e0 e1 e2 e3 e4 e5 e6
        subst e0 e1 e2 e3 e4 e5 e6
        exact ⟨⟨z0, z1, z2, z3, z4, z5.data.toList, A6, n6, c6⟩, rfl, wf_i64 w1, wf_i64 w2⟩) h
set_option maxRecDepth 100000 in
/-- Steps that come in. -/
theorem open_acts {H : Type} {enc : TypeId × Value → H} {w : World} {base : Nat} {v : Value} {d : DataW H} {p : List MemPlace}
    (hv : Value.okWide Try.prog w .any base 22 v) (h : DataW.Trod enc Try.prog w 0 (fun _ => true) true 22 v d p) :
    ∃ A c l, v = .slice A (l : List PAct).length c ∧ RowG w 7 A l.length c (l.flatMap PAct.cells) ∧ ∀ a ∈ l, a.In := by
  obtain ⟨a, n, c, rfl⟩ := okWide_slice Try.underlying22 hv
  obtain ⟨fuel, hf⟩ := h
  obtain ⟨A, c', l, e, r, k⟩ := acts_of_trod hf
  simp [Value.cells] at e
  obtain ⟨rfl, rfl, rfl⟩ := e
  exact ⟨a, c, l, rfl, r, k⟩
end Go.Proofs.Ythnpalcjfgbjeaa.Pq

/- Layer 13's laws: which steps are too many or too great; what was written anew; a text of so many bytes. Conditions: those that each states. -/
namespace Go.Proofs.Ythnpalcjfgbjeaa.Pq
open Go.ChangeShapes Go.WideShapes Go.ChangeAt Go.RowKit Go.Deep Rk Gx Di
set_option linter.unusedVariables false
set_option linter.unusedSimpArgs false

def farA (q : PAct) : Bool := decide (1000 < q.s.length) || decide (50 < q.n) || !mayP q.ev q.od || decide (1073741824 < q.ev) || decide (1073741824 < q.od)
def farB (l : List PAct) : Bool := decide (80 < l.length) || l.any farA
theorem farA_is (kind a b ev od : Int) (s : List UInt8) (L : Option Addr) (n c : Nat) : farA ⟨kind, a, b, ev, od, s, L, n, c⟩ = (decide (1000 < s.length) || decide (50 < n) || !mayP ev od || decide (1073741824 < ev) || decide (1073741824 < od)) := rfl
theorem act_at {w : World} {A : Option Addr} {c : Nat} {l : List PAct} (h : RowG w 7 A l.length c (l.flatMap PAct.cells)) {i : Nat} (hi : i < l.length) : ∃ b o, A = some ⟨b, o, none⟩ ∧ b < w.heap.size ∧
    w.cell? ⟨b, o + i * 7, none⟩ = some (.int .i64 l[i].kind) ∧ w.cell? ⟨b, o + i * 7 + 1, none⟩ = some (.int .i64 l[i].a) ∧ w.cell? ⟨b, o + i * 7 + 2, none⟩ = some (.int .i64 l[i].b) ∧ w.cell? ⟨b, o + i * 7 + 3, none⟩ = some (.int .i64 l[i].ev) ∧ w.cell? ⟨b, o + i * 7 + 4, none⟩ = some (.int .i64 l[i].od) ∧ w.cell? ⟨b, o + i * 7 + 5, none⟩ = some (.string ⟨l[i].s.toArray⟩) ∧ w.cell? ⟨b, o + i * 7 + 6, none⟩ = some (.slice l[i].L l[i].n l[i].c) := by
  obtain ⟨b, o, e, hb, c0⟩ := rowG_at PAct.len h hi (j := 0) (by omega)
  subst e
  have g : ∀ j, j < 7 → w.cell? ⟨b, o + (i * 7 + j), none⟩ = (l[i]).cells[j]? := fun j hj => by
    obtain ⟨b', o', e', _, c'⟩ := rowG_at PAct.len h hi (j := j) hj
    cases e'
    exact c'
  refine ⟨b, o, rfl, hb, c0, ?_, ?_, ?_, ?_, ?_, ?_⟩
  · rw [Nat.add_assoc]; exact g 1 (by omega)
  · rw [Nat.add_assoc]; exact g 2 (by omega)
  · rw [Nat.add_assoc]; exact g 3 (by omega)
  · rw [Nat.add_assoc]; exact g 4 (by omega)
  · rw [Nat.add_assoc]; exact g 5 (by omega)
  · rw [Nat.add_assoc]; exact g 6 (by omega)

set_option maxRecDepth 100000 in
set_option maxHeartbeats 2000000 in
theorem far_any (A : Option Addr) (c : Nat) (l : List PAct) (w : World) (h : RowG w 7 A l.length c (l.flatMap PAct.cells)) :
    Calls Try.prog 6 #[.slice A l.length c] w fun e w' => e = .returned (.bool (farB l)) ∧ Below w.heap.size w w' := by
  have H := Lib.hid h
  have BR := Lib.hid (Below.refl w.heap.size w)
  clear h
  by_cases h80 : (l.length : Int) > 80
  · have E := Lib.hid (show farB l = true from by unfold farB; rw [decide_eq_true (by omega)]; rfl)
    go_enter Try.func6, Try.ntmps6
    go_wp2
    go_ret
    exact ⟨by rw [E.out]; rfl, BR.out⟩
  have E80 := Lib.hid (show decide (80 < l.length) = false from decide_eq_false (by omega))
  go_enter Try.func6, Try.ntmps6
  go_wp2
  go_loopw [3] (fun i wr => ∃ j : Nat, j ≤ l.length ∧ i = .int .i64 (j : Int) ∧ Hid (∀ k (hk : k < l.length), k < j → farA l[k] = false) ∧ Hid (Below w.heap.size w wr)) (fun i _ => l.length - (intOf i).toNat)
  case atStart => exact ⟨0, Nat.zero_le _, rfl, Lib.hid (fun k hk h => by omega), BR⟩
  case round =>
    obtain ⟨j, hj, rfl, NO, BL⟩ := hrel
    clear BR
    by_cases hlt : j < l.length
    · have hlt' : (j : Int) < (l.length : Int) := by omega
      have j0 : (0 : Int) ≤ (j : Int) := by omega
      have xj := IntWalk.i64_in ((j : Int) + 1) (by omega)
      have YES := Lib.hid (fun hf : farA l[j] = true => show farB l = true from by
        unfold farB
        rw [List.any_eq_true.2 ⟨l[j], List.getElem_mem hlt, hf⟩, Bool.or_true])
      have NX := Lib.hid (fun hf : farA l[j] = false => show ∀ k (hk : k < l.length), k < j + 1 → farA l[k] = false from fun k hk h => by
        by_cases e : k = j
        · subst e; exact hf
        · exact NO.out k hk (by omega))
      have hr := H.out.new BL.out
      obtain ⟨b, o, rfl, hb, c0, c1, c2, c3, c4, c5, c6⟩ := act_at hr hlt
      have HB := Lib.hid hb
      clear hb
      clear hr c0 c1 c2 NO
      generalize l[j] = q at *
      obtain ⟨kind, a, bq, ev, od, s, L, n, cq⟩ := q
      dsimp only at *
      have hsz : (⟨s.toArray⟩ : ByteArray).size = s.length := rfl
      by_cases f1 : (s.length : Int) > 1000
      · have E := Lib.hid (YES.out (by rw [farA_is, decide_eq_true (show 1000 < s.length from by omega)]; rfl))
        clear YES NX
        go_wp2
        go_ret
        exact ⟨by rw [E.out]; rfl, BL.out⟩
      by_cases f2 : (n : Int) > 50
      · have E := Lib.hid (YES.out (by rw [farA_is, decide_eq_true (show 50 < n from by omega), Bool.or_true]; rfl))
        clear YES NX
        go_wp2
        go_ret
        exact ⟨by rw [E.out]; rfl, BL.out⟩
      have F12 := Lib.hid (show (decide (1000 < s.length) || decide (50 < n)) = false from by rw [decide_eq_false (show ¬ 1000 < s.length from by omega), decide_eq_false (show ¬ 50 < n from by omega)]; rfl)
      have MA := Lib.hid (fun W => may_any ev od W)
      cases hm : mayP ev od with
      | false =>
        have E := Lib.hid (YES.out (by rw [farA_is, hm]; simp))
        rw [hm] at MA
        clear YES NX hm
        go_wp2_with fail
        refine (MA.out wr).mono ?_; rintro e w2 ⟨rfl, ob, hw2⟩
        have B2 := Lib.hid (show Below w.heap.size w w2 from by rw [hw2]; exact BL.out.alloc BL.out.size ob)
        clear hw2
        go_wp2
        go_ret
        exact ⟨by rw [E.out]; rfl, B2.out⟩
      | true =>
        rw [hm] at MA
        go_wp2_with fail
        refine (MA.out wr).mono ?_; rintro e w2 ⟨rfl, ob, hw2⟩
        have b2 : Below wr.heap.size wr w2 := by rw [hw2]; exact (Below.refl _ wr).alloc (Nat.le_refl _) ob
        have B2 := Lib.hid (BL.out.trans (b2.mono BL.out.size))
        have c3 := (World.cell?_of_block (b2.block b HB.out)).trans c3
        have c4 := (World.cell?_of_block (b2.block b HB.out)).trans c4
        clear hw2 b2
        by_cases f3 : ev > 1073741824
        · have E := Lib.hid (YES.out (by rw [farA_is, decide_eq_true (show 1073741824 < ev from f3)]; simp))
          clear YES NX hm
          go_wp2
          go_ret
          exact ⟨by rw [E.out]; rfl, B2.out⟩
        by_cases f4 : od > 1073741824
        · have E := Lib.hid (YES.out (by rw [farA_is, decide_eq_true (show 1073741824 < od from f4)]; simp))
          clear YES NX hm
          go_wp2
          go_ret
          exact ⟨by rw [E.out]; rfl, B2.out⟩
        have N := NX.out (by rw [farA_is, F12.out, hm, decide_eq_false (show ¬ 1073741824 < ev from f3), decide_eq_false (show ¬ 1073741824 < od from f4)]; rfl)
        have NN := Lib.hid N
        clear N YES NX hm
        go_wp2
        go_roundw
        case rel => exact ⟨j + 1, by omega, by go_num, NN, B2⟩
        case measure => simp [intOf]; omega
    · have hlt' : ¬ (j : Int) < (l.length : Int) := by omega
      have E := Lib.hid (show farB l = false from by
        unfold farB
        rw [E80.out, Bool.false_or, List.any_eq_false]
        intro x hx
        obtain ⟨k, hk, rfl⟩ := List.mem_iff_getElem.1 hx
        rw [NO.out k hk (by omega)]; simp)
      go_wp2
      go_ret
      exact ⟨by rw [E.out]; rfl, BL.out⟩

theorem madeCells_nil (N : Nat) : (madeCells #[.int .u8 0] N).toList = bys (List.replicate N 0) := by
  refine List.ext_getElem (by rw [Array.length_toList, size_madeCells, bys_length, List.length_replicate]) fun j h1 h2 => ?_
  have hj : j < N := by rw [bys_length, List.length_replicate] at h2; exact h2
  have e : (madeCells #[.int .u8 0] N)[j]? = some (.int .u8 0) := by
    unfold madeCells
    rw [Array.getElem?_map, Array.getElem?_range, if_pos hj]
    have e : j % (#[Value.int .u8 0] : Array Value).size = 0 := Nat.mod_one j
    simp only [Option.map_some, e]
    rfl
  have e2 : (madeCells #[.int .u8 0] N).toList[j]? = some (.int .u8 0) := by rw [Array.getElem?_toList]; exact e
  rw [List.getElem?_eq_getElem h1] at e2
  injection e2 with e2
  rw [e2]
  simp only [bys, List.getElem_map, List.getElem_replicate]
  rfl
theorem made_own256 (w : World) : OwnB (w.alloc (.cells (madeCells #[.int .u8 0] 256) 5)) w.heap.size w.heap.size 256 256 (List.replicate 256 0) := by
  have e : (madeCells #[Value.int .u8 0] 256).toList = bys (List.replicate 256 0) := madeCells_nil 256
  have h := World.ownsRow_lit (base := w.heap.size) (e := 5) (size := 1) w (madeCells #[.int .u8 0] 256) 256 (Nat.le_refl _) (by decide) (by rw [size_madeCells])
  rw [e] at h
  exact ⟨h, Nat.le_refl _, by simp, Nat.le_refl _, by omega⟩
/-- Was the block written anew? -/
def staleA (block : Int) (q : PAct) : Bool := q.kind == 8 && q.a == block
def staleB (l : List PAct) (block : Int) : Bool := l.any (staleA block)
set_option maxRecDepth 100000 in
set_option maxHeartbeats 2000000 in
theorem stale_any (A : Option Addr) (c : Nat) (l : List PAct) (block : Int) (w : World) (h : RowG w 7 A l.length c (l.flatMap PAct.cells)) (hn : l.length ≤ 1000) :
    Calls Try.prog 16 #[.slice A l.length c, .int .i64 block] w fun e w' => e = .returned (.bool (staleB l block)) ∧ w = w' := by
  have H := Lib.hid h
  clear h
  go_enter Try.func16, Try.ntmps16
  go_wp2
  go_loop [5] (fun i => ∃ j : Nat, j ≤ l.length ∧ i = .int .i64 (j : Int) ∧ Hid (∀ k (hk : k < l.length), k < j → staleA block l[k] = false)) (fun i => l.length - (intOf i).toNat)
  case atStart => exact ⟨0, Nat.zero_le _, rfl, Lib.hid (fun k hk h => by omega)⟩
  case round =>
    obtain ⟨j, hj, rfl, NO⟩ := hrel
    by_cases hlt : j < l.length
    · have hlt' : (j : Int) < (l.length : Int) := by omega
      have j0 : (0 : Int) ≤ (j : Int) := by omega
      have xj := IntWalk.i64_in ((j : Int) + 1) (by omega)
      have YES := Lib.hid (fun hf : staleA block l[j] = true => show staleB l block = true from by
        unfold staleB
        rw [List.any_eq_true.2 ⟨l[j], List.getElem_mem hlt, hf⟩])
      have NX := Lib.hid (fun hf : staleA block l[j] = false => show ∀ k (hk : k < l.length), k < j + 1 → staleA block l[k] = false from fun k hk h => by
        by_cases e : k = j
        · subst e; exact hf
        · exact NO.out k hk (by omega))
      obtain ⟨b, o, rfl, hb, c0, c1, c2, c3, c4, c5, c6⟩ := act_at H.out hlt
      unfold staleA at YES NX
      generalize l[j].kind = kd at *
      generalize l[j].a = av at *
      clear c2 c3 c4 c5 c6 hb NO
      by_cases hk : kd = 8
      · subst hk
        by_cases ha : av = block
        · subst ha
          have E := Lib.hid (YES.out (by simp))
          clear YES NX
          go_wp2
          go_ret
          exact ⟨by rw [E.out]; rfl, rfl⟩
        · have ha' : (av == block) = false := by simpa using ha
          have N := Lib.hid (NX.out (by rw [ha']; rfl))
          clear YES NX
          go_wp2
          go_round
          case rel => exact ⟨j + 1, by omega, by go_num, N⟩
          case measure => simp [intOf]; omega
      · have hk' : (kd == 8) = false := by simpa using hk
        have N := Lib.hid (NX.out (by rw [hk']; rfl))
        clear YES NX
        go_wp2
        go_round
        case rel => exact ⟨j + 1, by omega, by go_num, N⟩
        case measure => simp [intOf]; omega
    · have hlt' : ¬ (j : Int) < (l.length : Int) := by omega
      have E := Lib.hid (show staleB l block = false from by
        unfold staleB
        rw [List.any_eq_false]
        intro x hx
        obtain ⟨k, hk, rfl⟩ := List.mem_iff_getElem.1 hx
        rw [NO.out k hk (by omega)]; simp)
      go_wp2
      go_ret
      exact ⟨by rw [E.out]; rfl, rfl⟩

set_option maxRecDepth 100000 in
set_option maxHeartbeats 2000000 in
/-- A text of 256 bytes. -/
theorem fill_any (x : Nat) (hx : x ≤ 255) (w : World) : Calls Try.prog 19 #[.int .u8 (x : Int), .int .i64 256] w fun e w' => ∃ t : List UInt8, t.length = 256 ∧ e = .returned (.string ⟨t.toArray⟩) ∧ Below w.heap.size w w' := by
  have mk := make256 w
  have O0 := Lib.hid (made_own256 w)
  have B0 := Lib.hid ((Below.refl w.heap.size w).alloc (Nat.le_refl _) (.cells (madeCells #[.int .u8 0] 256) 5))
  go_enter Try.func19, Try.ntmps19
  go_upto_region 2 with fail
  generalize w.alloc (.cells (madeCells #[.int .u8 0] 256) 5) = W at *
  clear mk
  go_upto_region 3 with fail
  go_loopw [6] (fun i wr => ∃ (j : Nat) (t : List UInt8), j ≤ 256 ∧ i = .int .i64 (j : Int) ∧ Hid (t.length = 256) ∧ Hid (OwnB wr w.heap.size w.heap.size 256 256 t) ∧ Hid (Below w.heap.size w wr)) (fun i _ => 256 - (intOf i).toNat)
  case atStart => exact ⟨0, List.replicate 256 0, by omega, rfl, Lib.hid (by simp), O0, B0⟩
  case round =>
    obtain ⟨j, t, hj, rfl, TL, OT, BT⟩ := hrel
    clear O0 B0
    by_cases hlt : j < 256
    · have hlt' : (j : Int) < 256 := by omega
      have j0 : (0 : Int) ≤ (j : Int) := by omega
      have xj := IntWalk.i64_in ((j : Int) + 1) (by omega)
      obtain ⟨v, hv⟩ : ∃ v : UInt8, (v.toNat : Int) = ((x : Int) + ((j * j % 251 : Nat) : Int)) % 256 := ⟨UInt8.ofNat (x + j * j % 251), by rw [UInt8.toNat_ofNat']; omega⟩
      obtain ⟨r, hr⟩ : ∃ r : Nat, j * j % 251 = r := ⟨_, rfl⟩
      have hjj : j * j ≤ 65536 := Nat.mul_le_mul (show j ≤ 256 by omega) (show j ≤ 256 by omega)
      have hcast : ((j * j : Nat) : Int) = (j : Int) * (j : Int) := Int.natCast_mul j j
      obtain ⟨p, hp⟩ : ∃ p : Nat, j * j = p := ⟨_, rfl⟩
      rw [hp] at hjj hr hcast
      have e1 : (j : Int) * (j : Int) = (p : Int) := hcast.symm
      have e2 : (p : Int) % 251 = (r : Int) := by omega
      have e3 : (p : Int).tmod 251 = (r : Int) := by rw [Int.tmod_eq_emod_of_nonneg (by omega), e2]
      have xp := IntWalk.i64_in (p : Int) (by omega)
      have xr := IntWalk.u8_in (r : Int) (by omega)
      have xs : IntKind.u8.wrap ((x : Int) + (r : Int)) = (v.toNat : Int) := by rw [IntKind.wrap_u8, hv, hp, hr]
      obtain ⟨hq, cj⟩ := OT.out.cell (j := j) (by omega)
      have fj := OT.out.frozen j
      have O2 := Lib.hid (OT.out.set (j := j) v)
      have B2 := Lib.hid (BT.out.setCell (p := ⟨w.heap.size, j, none⟩) (Nat.le_refl _) (.int .u8 (v.toNat : Int)))
      have T2 := Lib.hid (show (t.set j v).length = 256 from by rw [List.length_set]; exact TL.out)
      clear hv hr hp hcast hjj
      go_wp2
      go_roundw
      case rel => exact ⟨j + 1, _, by omega, by go_num, T2, O2, B2⟩
      case measure => simp [intOf]; omega
    · have hlt' : ¬ (j : Int) < 256 := by omega
      have TS := told_str OT.out.src
      have TT := TL
      clear TL
      go_wp2
      go_ret
      exact ⟨t, TT.out, rfl, BT.out⟩
end Go.Proofs.Ythnpalcjfgbjeaa.Pq
