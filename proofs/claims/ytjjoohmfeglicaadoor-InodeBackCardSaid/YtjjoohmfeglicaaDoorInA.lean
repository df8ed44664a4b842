/- Layer 11: what comes in: slices of numbers, of entries, of pairs; a root and a file by value. Conditions: those that each states. -/
import Derived.Test.YtjjoohmfeglicaaDoorIn9
import Derived.Deep.Slices
import Derived.ChangeSame
namespace Go.Proofs.YtjjoohmfeglicaaDoor.In
open Go.ChangeShapes Go.WideShapes Go.ChangeAt Go.RowKit Go.Deep Fl Rk Di
set_option linter.unusedVariables false
set_option linter.unusedSimpArgs false

theorem flat_at {α : Type} {f : α → List Value} {sz : Nat} (hf : ∀ a, (f a).length = sz) : ∀ (l : List α) (i j : Nat) (hi : i < l.length) (hj : j < sz), (l.flatMap f)[i * sz + j]? = (f l[i])[j]?
  | a :: l, 0, j, _, hj => by
    rw [List.flatMap_cons, List.getElem?_append_left (by rw [hf]; omega), Nat.zero_mul, Nat.zero_add]; rfl
  | a :: l, i + 1, j, hi, hj => by
    have := flat_at hf l i j (by simpa using hi) hj
    rw [List.flatMap_cons, List.getElem?_append_right (by rw [hf, Nat.succ_mul]; omega), hf, show (i + 1) * sz + j - sz = i * sz + j from by rw [Nat.succ_mul]; omega, this]
    rfl
theorem flat_length {α : Type} {f : α → List Value} {sz : Nat} (hf : ∀ a, (f a).length = sz) (l : List α) : (l.flatMap f).length = l.length * sz := by
  induction l with
  | nil => simp
  | cons a l ih => rw [List.flatMap_cons, List.length_append, ih, hf, List.length_cons, Nat.succ_mul]; omega

/-- A slice that came in, element by element. -/
theorem row_of_trod {H : Type} {enc : TypeId × Value → H} {P : Program} {w : World} {t e : TypeId} {fuel : Nat} {cs : List Value} {x : DataW H × List MemPlace} {held : Bool} {α : Type} (f : α → List Value) (Ok : α → Prop) {sz : Nat} (hsz : 0 < sz) (hf : ∀ a, (f a).length = sz)
    (ht : P.underlying t = some (.slice e)) (ce : P.cellsOf e = sz)
    (hdec : ∀ (fuel : Nat) (cs : List Value) (x : DataW H × List MemPlace), cs.length = sz → DataW.trod enc P w 0 (fun _ => true) held fuel e cs = some x → ∃ a : α, cs = f a ∧ Ok a)
    (h : DataW.trod enc P w 0 (fun _ => true) held fuel t cs = some x) : ∃ A c l, cs = [.slice A (l : List α).length c] ∧ RowG w sz A l.length c (l.flatMap f) ∧ ∀ a ∈ l, Ok a := by
  rcases open_slice ht h with ⟨hcs, _⟩ | ⟨x, n, c, m, k, D, Pl, hcs, _, hl, hm, hmm, _, hx⟩
  · exact ⟨none, 0, [], hcs, RowG.nil w sz, fun a ha => (by cases ha)⟩
  · subst hcs
    simp only [if_true] at hmm
    obtain ⟨b, o, sp⟩ := x
    have each : ∀ i, i < n → ∃ a : α, Ok a ∧ ∀ j, j < sz → w.cell? ((⟨b, o, sp⟩ : Addr).add (i * sz + j)) = (f a)[j]? := by
      intro i hi
      obtain ⟨cs', h1, h2⟩ := hx i (by omega)
      rw [ce] at h1
      obtain ⟨_, hlen, hcell⟩ := World.cells?_some h1
      obtain ⟨a, rfl, ha⟩ := hdec _ _ _ hlen h2
      refine ⟨a, ha, fun j hj => ?_⟩
      have := hcell j hj
      rw [add_add] at this
      exact this
    obtain ⟨q, hq⟩ : ∃ q : List α, q.length = n ∧ ∀ i (hi : i < q.length), Ok q[i] ∧ ∀ j, j < sz → w.cell? ((⟨b, o, sp⟩ : Addr).add (i * sz + j)) = (f q[i])[j]? := by
      have : ∀ k, k ≤ n → ∃ q : List α, q.length = k ∧ ∀ i (hi : i < q.length), Ok q[i] ∧ ∀ j, j < sz → w.cell? ((⟨b, o, sp⟩ : Addr).add (i * sz + j)) = (f q[i])[j]? := by
        intro k
        induction k with
        | zero => intro _; exact ⟨[], rfl, fun i hi => absurd hi (by simp)⟩
        | succ k ih =>
          intro hk
          obtain ⟨q, h1, h2⟩ := ih (by omega)
          obtain ⟨a, h3, h4⟩ := each k (by omega)
          refine ⟨q ++ [a], by simp [h1], fun i hi => ?_⟩
          by_cases hik : i < q.length
          · rw [List.getElem_append_left hik]
            exact h2 i hik
          · have : i = q.length := by simp at hi; omega
            subst this
            rw [List.getElem_concat_length rfl]
            rw [h1]
            exact ⟨h3, h4⟩
      exact this n (Nat.le_refl _)
    obtain ⟨rfl, hq⟩ := hq
    refine ⟨some ⟨b, o, sp⟩, c, q, rfl, ⟨flat_length hf q, hl, hm, fun e => (by cases e), fun a e h0 => ?_⟩, fun a ha => ?_⟩
    · cases e
      have h00 := (hq 0 h0).2 0 hsz
      rw [List.getElem?_eq_getElem (by rw [hf]; exact hsz)] at h00
      have hsp : sp = none := by
        have := World.cell?_spot h00
        simpa [Addr.add] using this
      subst hsp
      have ea : ∀ j, (⟨b, o, none⟩ : Addr).add j = ⟨b, o + j, none⟩ := fun j => by unfold Addr.add; split <;> simp_all
      refine ⟨rfl, ?_, fun j hj => ?_⟩
      · rw [ea] at h00
        unfold World.cell? at h00
        cases hh : w.heap[b]? with
        | none => simp only [hh] at h00; cases h00
        | some ob => exact (Array.getElem?_eq_some_iff.1 hh).1
      · have hj' : j < q.length * sz := by rw [← flat_length hf q]; exact hj
        have hd : j / sz < q.length := (Nat.div_lt_iff_lt_mul hsz).2 hj'
        have hr : j % sz < sz := Nat.mod_lt _ hsz
        have h1 := (hq (j / sz) hd).2 (j % sz) hr
        have e1 : j / sz * sz + j % sz = j := by rw [Nat.mul_comm]; exact Nat.div_add_mod j sz
        rw [e1, ea] at h1
        rw [h1, ← flat_at hf q _ _ hd hr, e1, List.getElem?_eq_getElem hj]
    · obtain ⟨i, hi, rfl⟩ := List.mem_iff_getElem.1 ha
      exact (hq i hi).1

theorem vi_flat (l : List Int) : l.flatMap (fun d => [Value.int .i64 d]) = vi l := by
  induction l with
  | nil => rfl
  | cons d l ih => rw [List.flatMap_cons, ih]; rfl
def In64 (z : Int) : Prop := -9223372036854775808 ≤ z ∧ z ≤ 9223372036854775807
theorem ints_of_trod {H : Type} {enc : TypeId × Value → H} {w : World} {fuel : Nat} {cs : List Value} {x : DataW H × List MemPlace} {held : Bool} (h : DataW.trod enc Tryd.prog w 0 (fun _ => true) held fuel 22 cs = some x) :
    ∃ A c l, cs = [.slice A (l : List Int).length c] ∧ RowG w 1 A l.length c (vi l) ∧ ∀ a ∈ l, In64 a := by
  obtain ⟨A, c, l, h1, h2, h3⟩ := row_of_trod (fun d => [Value.int .i64 d]) In64 (sz := 1) (by decide) (fun _ => rfl) Tryd.underlying22 (by kernel_rfl) (fun fuel cs x hl h => by
    match cs, hl with
    | [v], _ =>
      obtain ⟨z, e, _, w0⟩ := DataW.trod_int Tryd.underlying3 h
      simp at e
      subst e
      exact ⟨z, rfl, wf_i64 w0⟩) h
  rw [vi_flat] at h2
  exact ⟨A, c, l, h1, h2, h3⟩
theorem cells_int : Tryd.prog.cellsOf 3 = 1 := by kernel_rfl
theorem cells_i64 : Tryd.prog.cellsOf 2 = 1 := by kernel_rfl
theorem cells_str : Tryd.prog.cellsOf 9 = 1 := by kernel_rfl
theorem cells_ints : Tryd.prog.cellsOf 22 = 1 := by kernel_rfl
theorem cells_pairs : Tryd.prog.cellsOf 26 = 1 := by kernel_rfl
set_option maxRecDepth 100000 in
theorem ents_of_trod {H : Type} {enc : TypeId × Value → H} {w : World} {fuel : Nat} {cs : List Value} {x : DataW H × List MemPlace} {held : Bool} (h : DataW.trod enc Tryd.prog w 0 (fun _ => true) held fuel 25 cs = some x) :
    ∃ A c l, cs = [.slice A (l : List Ent).length c] ∧ RowG w 2 A l.length c (ve l) ∧ ∀ a ∈ l, In64 a.ino := by
  exact row_of_trod (fun e : Ent => [.string ⟨e.name.toArray⟩, .int .i64 e.ino]) (fun a => In64 a.ino) (sz := 2) (by decide) (fun _ => rfl) Tryd.underlying25 (by kernel_rfl) (fun fuel cs x hl h => by
    obtain ⟨xs, k', hk, hxy, _, hxl, hff⟩ := DataW.trod_struct Tryd.underlying66 h
    match xs, hxl, cs, hl with
    | [y0, y1], _, [v0, v1], _ =>
      have g0 := hff 0 _ rfl
      have g1 := hff 1 _ rfl
      simp [cells_int, cells_str] at g0 g1
      obtain ⟨z0, e0, _, w0⟩ := DataW.trod_string Tryd.underlying9 g0
      obtain ⟨z1, e1, _, w1⟩ := DataW.trod_int Tryd.underlying3 g1
      simp at e0 e1
      subst e0 e1
      exact ⟨⟨z0.data.toList, z1⟩, rfl, wf_i64 w1⟩) h
def vq (l : List (Int × Int)) : List Value := l.flatMap fun p => [.int .i64 p.1, .int .i64 p.2]
set_option maxRecDepth 100000 in
theorem pairs_of_trod {H : Type} {enc : TypeId × Value → H} {w : World} {fuel : Nat} {cs : List Value} {x : DataW H × List MemPlace} {held : Bool} (h : DataW.trod enc Tryd.prog w 0 (fun _ => true) held fuel 26 cs = some x) :
    ∃ A c l, cs = [.slice A (l : List (Int × Int)).length c] ∧ RowG w 2 A l.length c (vq l) ∧ ∀ a ∈ l, In64 a.1 ∧ In64 a.2 := by
  exact row_of_trod (fun e : Int × Int => [.int .i64 e.1, .int .i64 e.2]) (fun a => In64 a.1 ∧ In64 a.2) (sz := 2) (by decide) (fun _ => rfl) Tryd.underlying26 (by kernel_rfl) (fun fuel cs x hl h => by
    obtain ⟨xs, k', hk, hxy, _, hxl, hff⟩ := DataW.trod_struct Tryd.underlying74 h
    match xs, hxl, cs, hl with
    | [y0, y1], _, [v0, v1], _ =>
      have g0 := hff 0 _ rfl
      have g1 := hff 1 _ rfl
      simp [cells_i64] at g0 g1
      obtain ⟨z0, e0, _, w0⟩ := DataW.trod_int Tryd.underlying2 g0
      obtain ⟨z1, e1, _, w1⟩ := DataW.trod_int Tryd.underlying2 g1
      simp at e0 e1
      subst e0 e1
      exact ⟨(z0, z1), rfl, wf_i64 w0, wf_i64 w1⟩) h
set_option maxRecDepth 100000 in
/-- A root by value. -/
theorem open_root {H : Type} {enc : TypeId × Value → H} {w : World} {base : Nat} {v : Value} {d : DataW H} {p : List MemPlace}
    (hv : Value.okWide Tryd.prog w .any base 24 v) (h : DataW.Trod enc Tryd.prog w 0 (fun _ => true) true 24 v d p) :
    ∃ g A c ds, v = .agg #[.int .i64 g, .slice A (ds : List Int).length c] ∧ RowG w 1 A ds.length c (vi ds) ∧ In64 g := by
  obtain ⟨cs, rfl, hsz⟩ := okWide_struct Tryd.underlying24 hv
  obtain ⟨l⟩ := cs
  obtain ⟨fuel, hf⟩ := h
  have hl : l.length = 2 := by
    have := hsz.trans (show Tryd.prog.cellsOf 24 = 2 by kernel_rfl)
    simpa using this
  obtain ⟨xs, k', hk, hxy, _, hxl, hff⟩ := DataW.trod_struct Tryd.underlying24 (show DataW.trod enc Tryd.prog w 0 (fun _ => true) true fuel 24 l = some _ by simpa [Value.cells] using hf)
  match xs, hxl, l, hl with
  | [y0, y1], _, [v0, v1], _ =>
    have g0 := hff 0 _ rfl
    have g1 := hff 1 _ rfl
    simp [cells_int, cells_ints] at g0 g1
    obtain ⟨z0, e0, _, w0⟩ := DataW.trod_int Tryd.underlying3 g0
    obtain ⟨A, c, ds, e1, r1, _⟩ := ints_of_trod g1
    simp at e0 e1
    subst e0 e1
    exact ⟨z0, A, c, ds, rfl, r1, wf_i64 w0⟩
set_option maxRecDepth 100000 in
/-- A file by value. -/
theorem open_file {H : Type} {enc : TypeId × Value → H} {w : World} {base : Nat} {v : Value} {d : DataW H} {p : List MemPlace}
    (hv : Value.okWide Tryd.prog w .any base 28 v) (h : DataW.Trod enc Tryd.prog w 0 (fun _ => true) true 28 v d p) :
    ∃ a b m A c bs A' c' ps, v = .agg #[.int .i64 a, .int .i64 b, .int .i64 m, .slice A (bs : List Int).length c, .slice A' (ps : List (Int × Int)).length c'] ∧ RowG w 1 A bs.length c (vi bs) ∧ RowG w 2 A' ps.length c' (vq ps) ∧ In64 m ∧ ∀ q ∈ ps, In64 q.1 ∧ In64 q.2 := by
  obtain ⟨cs, rfl, hsz⟩ := okWide_struct Tryd.underlying28 hv
  obtain ⟨l⟩ := cs
  obtain ⟨fuel, hf⟩ := h
  have hl : l.length = 5 := by
    have := hsz.trans (show Tryd.prog.cellsOf 28 = 5 by kernel_rfl)
    simpa using this
  obtain ⟨xs, k', hk, hxy, _, hxl, hff⟩ := DataW.trod_struct Tryd.underlying28 (show DataW.trod enc Tryd.prog w 0 (fun _ => true) true fuel 28 l = some _ by simpa [Value.cells] using hf)
  match xs, hxl, l, hl with
  | [y0, y1, y2, y3, y4], _, [v0, v1, v2, v3, v4], _ =>
    have g0 := hff 0 _ rfl
    have g1 := hff 1 _ rfl
    have g2 := hff 2 _ rfl
    have g3 := hff 3 _ rfl
    have g4 := hff 4 _ rfl
    simp [cells_int, cells_ints, cells_i64, cells_pairs] at g0 g1 g2 g3 g4
    obtain ⟨z0, e0, _, w0⟩ := DataW.trod_int Tryd.underlying3 g0
    obtain ⟨z1, e1, _, w1⟩ := DataW.trod_int Tryd.underlying2 g1
    obtain ⟨z2, e2, _, w2⟩ := DataW.trod_int Tryd.underlying3 g2
    obtain ⟨A, c, ds, e3, r3, _⟩ := ints_of_trod g3
    obtain ⟨A', c', ps, e4, r4, k4⟩ := pairs_of_trod g4
    simp at e0 e1 e2 e3 e4
    subst e0 e1 e2 e3 e4
    exact ⟨z0, z1, z2, A, c, ds, A', c', ps, rfl, r3, r4, wf_i64 w2, k4⟩
set_option maxRecDepth 100000 in
/-- Entries that came in. -/
theorem open_ents {H : Type} {enc : TypeId × Value → H} {w : World} {base : Nat} {v : Value} {d : DataW H} {p : List MemPlace}
    (hv : Value.okWide Tryd.prog w .any base 25 v) (h : DataW.Trod enc Tryd.prog w 0 (fun _ => true) true 25 v d p) :
    ∃ A c l, v = .slice A (l : List Ent).length c ∧ RowG w 2 A l.length c (ve l) := by
  obtain ⟨a, n, c, rfl⟩ := okWide_slice Tryd.underlying25 hv
  obtain ⟨fuel, hf⟩ := h
  obtain ⟨A, c', l, e, r, _⟩ := ents_of_trod hf
  simp [Value.cells] at e
  obtain ⟨rfl, rfl, rfl⟩ := e
  exact ⟨a, c, l, rfl, r⟩
end Go.Proofs.YtjjoohmfeglicaaDoor.In
