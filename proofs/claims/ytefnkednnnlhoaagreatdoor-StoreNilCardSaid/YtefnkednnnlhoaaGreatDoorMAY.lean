/- Package disk: Image; what no disk answers. Conditions: those that each states. -/
import Derived.Test.YtefnkednnnlhoaaGreatDoorMAJ
import Derived.Test.YtefnkednnnlhoaaGreatDoorMAX
import Derived.Test.YtefnkednnnlhoaaGreatDoorShelf
namespace Go.Proofs.YtefnkednnnlhoaaGreatDoor.Di
open Go.ChangeShapes Go.WideShapes Go.ChangeAt Go.RowKit Go.Deep
set_option linter.unusedVariables false

section
variable {gb g cl ce q n : Nat} {Al Ae : Option Addr} {d : Dk} {w w' : World} {F S : Nat → Prop} {bs : List (List UInt8)}
theorem on_da (h : DA w F g d) : Calls Tryz.prog 18 #[.pointer (some ⟨g, 0, none⟩)] w fun e w' => e = .returned (.bool d.on) ∧ w' = w := by
  obtain ⟨gb, Al, cl, Ae, ce, D, hF⟩ := h
  exact on_any D
theorem size_da (h : DA w F g d) : Calls Tryz.prog 52 #[.pointer (some ⟨g, 0, none⟩)] w fun e w' => e = .returned (.int .i64 (d.blocks.length : Int)) ∧ w' = w := by
  obtain ⟨gb, Al, cl, Ae, ce, D, hF⟩ := h
  exact size_any D
end
end Go.Proofs.YtefnkednnnlhoaaGreatDoor.Di

/- Package store: the closure that takes blocks of a tree; the kernel's disk and its power. Conditions: those that each states. -/
namespace Go.Proofs.YtefnkednnnlhoaaGreatDoor.Sr
open Go.ChangeShapes Go.WideShapes Go.ChangeAt Go.RowKit Go.Deep Fr Di Ke Rk
set_option linter.unusedVariables false
set_option linter.unusedSimpArgs false

/-- The kernel's disk, and whether its power is on: it is. -/
theorem disk_any {B : Nat} {w : World} {lab : Nat → Nat} {g : Nat} {K : Kn} (h : KB B w lab g K) :
    Calls Tryz.prog 17 #[.pointer (some ⟨g, 0, none⟩)] w fun e w' => ∃ gd, e = .returned (.pointer (some ⟨gd, 0, none⟩)) ∧ w = w' ∧ (∀ W, Below w.heap.size w W → Calls Tryz.prog 18 #[.pointer (some ⟨gd, 0, none⟩)] W fun e w' => e = .returned (.bool true) ∧ w' = W) ∧
      (∀ W, Below w.heap.size w W → Calls Tryz.prog 52 #[.pointer (some ⟨gd, 0, none⟩)] W fun e w' => e = .returned (.int .i64 (K.dk.blocks.length : Int)) ∧ w' = W) := by
  obtain ⟨a, ha⟩ := h.ka
  have z1 := (ha.head.cell 1).trans (show _ = some (.pointer (some ⟨a.gd, 0, none⟩)) from rfl)
  have ON := Lib.hid (show ∀ W, Below w.heap.size w W → Calls Tryz.prog 18 #[.pointer (some ⟨a.gd, 0, none⟩)] W fun e w' => e = .returned (.bool true) ∧ w' = W from fun W k => by
    have := on_da (ha.new k).dk
    rwa [h.ok.on] at this)
  have SZ := Lib.hid (show ∀ W, Below w.heap.size w W → Calls Tryz.prog 52 #[.pointer (some ⟨a.gd, 0, none⟩)] W fun e w' => e = .returned (.int .i64 (K.dk.blocks.length : Int)) ∧ w' = W from fun W k => size_da (ha.new k).dk)
  clear ha h
  go_enter Tryz.func17, Tryz.ntmps17
  go_wp2
  go_ret
  exact ⟨a.gd, rfl, rfl, ON.out, SZ.out⟩

/-- Which blocks are used, in memory. -/
def ub (us : List Bool) : Array Value := (us.map fun b => Value.bool b).toArray
theorem ub_get {us : List Bool} {b : Nat} (h : b < us.length) : (ub us)[b]? = some (.bool us[b]) := by simp [ub, h]
theorem ub_put (us : List Bool) (b : Nat) (v : Bool) : (ub us).setIfInBounds b (.bool v) = ub (us.set b v) := by simp [ub, List.map_set]
end Go.Proofs.YtefnkednnnlhoaaGreatDoor.Sr

/- Package store: inode's Span, hasParts. Conditions: those that each states. -/
namespace Go.Proofs.YtefnkednnnlhoaaGreatDoor.Sr
open Go.ChangeShapes Go.WideShapes Go.ChangeAt Go.RowKit Go.Deep Fr Di Ke Rk
set_option linter.unusedVariables false
set_option linter.unusedSimpArgs false

def spanR (q : Nat) (i : Nat) : Nat := min (256 * (i + 1)) q - min (256 * i) q
theorem spanR_le (q i : Nat) : spanR q i ≤ 256 := by unfold spanR; omega
theorem span_any (v m : Int) (Q : Nat) (A A' : Option Addr) (n c n' c' i : Nat) (w : World) (hQ : Q ≤ 8192) (hn : n = (Q + 255) / 256) (hi : i < n) :
    Calls Tryz.prog 20 #[.agg #[.int .i64 v, .int .i64 m, .int .i64 (Q : Int), .slice A n c, .slice A' n' c'], .int .i64 (i : Int)] w fun e w' => e = .returned (.int .i64 (spanR Q i : Nat)) ∧ Below w.heap.size w w' := by
  have B0 := Lib.hid ((Below.refl w.heap.size w).alloc (Nat.le_refl _) (.cells #[.int .i64 v, .int .i64 m, .int .i64 (Q : Int), .slice A n c, .slice A' n' c'] 27))
  have i0 : ¬ (i : Int) < 0 := by omega
  have i1 : ¬ (i : Int) ≥ (n : Int) := by omega
  have hq0 : (Q : Int).tdiv 256 = ((Q / 256 : Nat) : Int) := by rw [Int.tdiv_eq_ediv_of_nonneg (by omega)]; omega
  have hq1 : (Q : Int) % 256 = ((Q % 256 : Nat) : Int) := by omega
  by_cases hf : i < Q / 256
  · have R := Lib.hid (show spanR Q i = 256 from by unfold spanR; omega)
    have hf' : (i : Int) < ((Q / 256 : Nat) : Int) := by omega
    clear hn
    have hF32 : Q / 256 ≤ 32 := by omega
    generalize Q / 256 = F at *
    have hw := IntWalk.i64_in (F : Int) (by omega)
    go_enter Tryz.func20, Tryz.ntmps20
    go_wp2
    go_ret
    exact ⟨by rw [R.out]; rfl, B0.out⟩
  · have R := Lib.hid (show spanR Q i = Q % 256 from by unfold spanR; omega)
    obtain ⟨F, hF⟩ : ∃ F, Q / 256 = F := ⟨_, rfl⟩
    obtain rfl : i = F := by omega
    rw [hF] at hq0
    obtain ⟨G, hG⟩ : ∃ G, Q % 256 = G := ⟨_, rfl⟩
    rw [hG] at hq1 R
    have hw := IntWalk.i64_in (i : Int) (by omega)
    have hm := Int.max_eq_left (a := (G : Int)) (b := 0) (by omega)
    clear hn hf hF hG
    go_enter Tryz.func20, Tryz.ntmps20
    go_wp2
    go_ret
    exact ⟨by rw [R.out]; rfl, B0.out⟩

/-- A file that may be, its numbers. -/
theorem fil_may {f : In.Fil} (h : f.may = true) : ∃ Q : Nat, f.len = (Q : Int) ∧ Q ≤ 8192 ∧ f.blocks.length = (Q + 255) / 256 ∧ f.parts.length = (Q + 255) / 256 ∧ ∀ b ∈ f.blocks, 2 ≤ b ∧ b < 512 := by
  unfold In.Fil.may In.Fil.head at h
  simp only [Bool.and_eq_true, decide_eq_true_eq, List.all_eq_true] at h
  obtain ⟨⟨⟨h1, h2⟩, h3⟩, ⟨⟨⟨h4, h5⟩, h6⟩, h7⟩⟩ := h
  rw [In.cntB, Int.tdiv_eq_ediv_of_nonneg (by omega)] at h4 h5
  refine ⟨f.len.toNat, by omega, by omega, by omega, by omega, fun b hb => ?_⟩
  have := h6 b hb
  unfold In.isBlk at this
  simpa using this
end Go.Proofs.YtefnkednnnlhoaaGreatDoor.Sr

/- Package store: the files of a tree in memory; mayBeNext. Conditions: those that each states. -/
namespace Go.Proofs.YtefnkednnnlhoaaGreatDoor.Sr
open Go.ChangeShapes Go.WideShapes Go.ChangeAt Go.RowKit Go.Deep Fr Di Ke Rk
set_option linter.unusedVariables false
set_option linter.unusedSimpArgs false

/-- A file of a tree, with the places of its rows. -/
structure Lf where
  name : List UInt8
  ino : Int
  f : In.Fil
  A : Option Addr
  c : Nat
  A' : Option Addr
  c' : Nat
def Lf.vals (x : Lf) : List Value := [.string ⟨x.name.toArray⟩, .int .i64 x.ino, .int .i64 x.f.ver, .int .i64 x.f.mtime, .int .i64 x.f.len, .slice x.A x.f.blocks.length x.c, .slice x.A' x.f.parts.length x.c']
def vl (l : List Lf) : List Value := l.flatMap Lf.vals
theorem vl_length (l : List Lf) : (vl l).length = l.length * 7 := by
  induction l with
  | nil => rfl
  | cons x l ih => simp only [vl, List.flatMap_cons, List.length_append, List.length_cons] at ih ⊢; rw [ih]; simp [Lf.vals]; omega
theorem vl_get : ∀ (l : List Lf) (j k : Nat) (h : j < l.length) (hk : k < 7), (vl l)[j * 7 + k]? = (l[j].vals)[k]?
  | x :: l, 0, k, _, hk => by
    simp only [vl, List.flatMap_cons, List.getElem_cons_zero, Nat.zero_mul, Nat.zero_add]
    rw [List.getElem?_append_left (by simp [Lf.vals]; omega)]
  | x :: l, j + 1, k, h, hk => by
    have ih := vl_get l j k (by simpa using h) hk
    simp only [vl, List.flatMap_cons, List.getElem_cons_succ] at ih ⊢
    rw [List.getElem?_append_right (by simp [Lf.vals]; omega), ← ih]
    congr 1
    simp [Lf.vals]
    omega
/-- The files of a tree in memory: rows of their own, all of them the store's. -/
structure FAt (w : World) (lab : Nat → Nat) (A : Option Addr) (c : Nat) (l : List Lf) : Prop where
  row : RowG w 7 A l.length c (vl l)
  own : Own0 w lab A l.length
  bl : ∀ x ∈ l, RowG w 1 x.A x.f.blocks.length x.c (In.vi x.f.blocks) ∧ Own0 w lab x.A x.f.blocks.length
  pt : ∀ x ∈ l, RowG w 1 x.A' x.f.parts.length x.c' (In.vp x.f.parts) ∧ Own0 w lab x.A' x.f.parts.length
theorem FAt.cell {w : World} {lab : Nat → Nat} {A : Option Addr} {c : Nat} {l : List Lf} (h : FAt w lab A c l) {j : Nat} (hj : j < l.length) : ∃ b o, A = some ⟨b, o, none⟩ ∧ b < w.heap.size ∧ ∀ k, k < 7 → w.cell? ⟨b, o + j * 7 + k, none⟩ = (l[j].vals)[k]? := by
  obtain ⟨b, o, e, hb, _⟩ := h.row.cell (j := 0) (by rw [vl_length]; omega)
  refine ⟨b, o, e, hb, fun k hk => ?_⟩
  have hlt : j * 7 + k < (vl l).length := by rw [vl_length]; omega
  obtain ⟨b', o', e', _, hc⟩ := h.row.cell hlt
  rw [e] at e'
  cases e'
  rw [← vl_get l j k hj hk, Nat.add_assoc, hc, List.getElem?_eq_getElem hlt]

end Go.Proofs.YtefnkednnnlhoaaGreatDoor.Sr

/- Package store: find. Conditions: those that each states. -/
namespace Go.Proofs.YtefnkednnnlhoaaGreatDoor.Sr
open Go.ChangeShapes Go.WideShapes Go.ChangeAt Go.RowKit Go.Deep Fr Di Ke Rk
set_option linter.unusedVariables false
set_option linter.unusedSimpArgs false

/-- How a file's name stands to another. -/
def cmpB (a b : List UInt8) : Int := Lib.compareBytes a b
set_option maxRecDepth 100000 in
theorem cmp_any (x : Lf) (nm : List UInt8) (w : World) :
    Calls Tryz.prog 36 #[.agg x.vals.toArray, .string ⟨nm.toArray⟩] w fun e w' => e = .returned (.int .i64 (cmpB x.name nm)) ∧ Below w.heap.size w w' := by
  show Calls Tryz.prog 36 #[.agg #[.string ⟨x.name.toArray⟩, .int .i64 x.ino, .int .i64 x.f.ver, .int .i64 x.f.mtime, .int .i64 x.f.len, .slice x.A x.f.blocks.length x.c, .slice x.A' x.f.parts.length x.c'], .string ⟨nm.toArray⟩] w fun e w' => e = .returned (.int .i64 (cmpB x.name nm)) ∧ Below w.heap.size w w'
  have B0 := Lib.hid ((Below.refl w.heap.size w).alloc (Nat.le_refl _) (.cells #[.string ⟨x.name.toArray⟩, .int .i64 x.ino, .int .i64 x.f.ver, .int .i64 x.f.mtime, .int .i64 x.f.len, .slice x.A x.f.blocks.length x.c, .slice x.A' x.f.parts.length x.c'] 58))
  have R0 := Lib.hid (Blk.new w 58 #[.string ⟨x.name.toArray⟩, .int .i64 x.ino, .int .i64 x.f.ver, .int .i64 x.f.mtime, .int .i64 x.f.len, .slice x.A x.f.blocks.length x.c, .slice x.A' x.f.parts.length x.c'])
  have C := Lib.hid (fun W => show Calls Tryz.prog 37 #[.string ⟨x.name.toArray⟩, .string ⟨nm.toArray⟩] W (fun e w' => e = .returned (.int .i64 (cmpB x.name nm)) ∧ w' = W) from Tryz.strings_Compare ⟨x.name.toArray⟩ ⟨nm.toArray⟩ W)
  generalize cmpB x.name nm = v at *
  go_enter Tryz.func36, Tryz.ntmps36
  go_upto_region 1 with fail
  generalize w.alloc (.cells #[.string ⟨x.name.toArray⟩, .int .i64 x.ino, .int .i64 x.f.ver, .int .i64 x.f.mtime, .int .i64 x.f.len, .slice x.A x.f.blocks.length x.c, .slice x.A' x.f.parts.length x.c'] 58) = W at *
  have z0 := (R0.out.cell 0).trans (show _ = some (.string ⟨x.name.toArray⟩) from rfl)
  go_wp2_with fail
  refine (C.out W).mono ?_; rintro e w1 ⟨rfl, rfl⟩
  go_wp2
  go_ret
  exact ⟨rfl, B0.out⟩

/-- Where a name stands, or would stand. -/
def bsN (l : List Lf) (nm : List UInt8) : Nat → Nat → Nat → Nat
  | 0, i, _ => i
  | k + 1, i, j => if i < j then (match l[(i + j) / 2]? with | some x => if cmpB x.name nm < 0 then bsN l nm k ((i + j) / 2 + 1) j else bsN l nm k i ((i + j) / 2) | none => i) else i
theorem bsN_end (l : List Lf) (nm : List UInt8) {i j : Nat} (h : ¬ i < j) : ∀ k, bsN l nm k i j = i
  | 0 => rfl
  | k + 1 => if_neg h
theorem bsN_step (l : List Lf) (nm : List UInt8) {i j h : Nat} (hij : i < j) (hh : (i + j) / 2 = h) (hl : h < l.length) (k : Nat) : bsN l nm (k + 1) i j = if cmpB l[h].name nm < 0 then bsN l nm k (h + 1) j else bsN l nm k i h := by
  subst hh
  show (if i < j then _ else _) = _
  rw [if_pos hij, List.getElem?_eq_getElem hl]
def atR (l : List Lf) (nm : List UInt8) : Nat := bsN l nm l.length 0 l.length
def isR (l : List Lf) (nm : List UInt8) (i : Nat) : Bool := match l[i]? with | some x => decide (cmpB x.name nm = 0) | none => false

set_option maxRecDepth 100000 in
set_option maxHeartbeats 4000000 in
theorem search_any (A : Option Addr) (c : Nat) (l : List Lf) (nm : List UInt8) (w : World) (lab : Nat → Nat) (h : FAt w lab A c l) (hm : l.length ≤ 1000000) :
    Calls Tryz.prog 35 #[.slice A l.length c, .string ⟨nm.toArray⟩, .func (.func 36) #[] #[]] w fun e w' => e = .returned (.tuple #[.int .i64 (atR l nm : Int), .bool (isR l nm (atR l nm))]) ∧ Below w.heap.size w w' := by
  have H := Lib.hid h
  have B0 := Lib.hid (Below.refl w.heap.size w)
  have CM := Lib.hid (fun x W => cmp_any x nm W)
  clear h
  go_enter Tryz.func35, Tryz.ntmps35
  go_wp2_with fail
  go_loopw [9, 10] (fun a b wr => ∃ i j k : Nat, i ≤ j ∧ j ≤ l.length ∧ a = .int .i64 (i : Int) ∧ b = .int .i64 (j : Int) ∧ Hid (atR l nm = bsN l nm k i j) ∧ j - i ≤ k ∧ Hid (Below w.heap.size w wr)) (fun a b _ => (intOf b).toNat - (intOf a).toNat)
  case atStart => exact ⟨0, l.length, l.length, Nat.zero_le _, Nat.le_refl _, rfl, rfl, Lib.hid rfl, by omega, B0⟩
  case round =>
    clear B0
    obtain ⟨i, j, k, hij, hjl, rfl, rfl, E, hk, BW⟩ := hrel
    by_cases hlt : i < j
    · have hlt' : (i : Int) < (j : Int) := by omega
      obtain ⟨k, rfl⟩ : ∃ k', k = k' + 1 := ⟨k - 1, by omega⟩
      obtain ⟨q, hq⟩ : ∃ q, (i + j) / 2 = q := ⟨_, rfl⟩
      have hql : q < l.length := by omega
      have E := Lib.hid (E.out.trans (bsN_step l nm hlt hq hql k))
      obtain ⟨b, o, rfl, hb, hc⟩ := H.out.cell hql
      have hc : ∀ k, k < 7 → wr.cell? ⟨b, o + q * 7 + k, none⟩ = (l[q].vals)[k]? := fun k hk => by
        rw [World.cell?_of_block (w := w) (w' := wr) (a := ⟨b, o + q * 7 + k, none⟩) (BW.out.block b hb)]; exact hc k hk
      have SM := Lib.hid (show Calls Tryz.prog 36 #[.agg #[.string ⟨l[q].name.toArray⟩, .int .i64 l[q].ino, .int .i64 l[q].f.ver, .int .i64 l[q].f.mtime, .int .i64 l[q].f.len, .slice l[q].A l[q].f.blocks.length l[q].c, .slice l[q].A' l[q].f.parts.length l[q].c'], .string ⟨nm.toArray⟩] wr (fun e w' => e = .returned (.int .i64 (cmpB l[q].name nm)) ∧ Below wr.heap.size wr w') from CM.out l[q] wr)
      have y0 : wr.cell? ⟨b, o + q * 7, none⟩ = some (.string ⟨l[q].name.toArray⟩) := (hc 0 (by omega)).trans rfl
      have y1 : wr.cell? ⟨b, o + q * 7 + 1, none⟩ = some (.int .i64 l[q].ino) := (hc 1 (by omega)).trans rfl
      have y2 : wr.cell? ⟨b, o + q * 7 + 2, none⟩ = some (.int .i64 l[q].f.ver) := (hc 2 (by omega)).trans rfl
      have y3 : wr.cell? ⟨b, o + q * 7 + 3, none⟩ = some (.int .i64 l[q].f.mtime) := (hc 3 (by omega)).trans rfl
      have y4 : wr.cell? ⟨b, o + q * 7 + 4, none⟩ = some (.int .i64 l[q].f.len) := (hc 4 (by omega)).trans rfl
      have y5 : wr.cell? ⟨b, o + q * 7 + 5, none⟩ = some (.slice l[q].A l[q].f.blocks.length l[q].c) := (hc 5 (by omega)).trans rfl
      have y6 : wr.cell? ⟨b, o + q * 7 + 6, none⟩ = some (.slice l[q].A' l[q].f.parts.length l[q].c') := (hc 6 (by omega)).trans rfl
      have q0 : (0 : Int) ≤ (q : Int) := by omega
      have q1 : (q : Int) < (l.length : Int) := by omega
      have q2 : ((i : Int) + (j : Int)) / 2 = (q : Int) := by omega
      have x1 := IntWalk.i64_in ((i : Int) + (j : Int)) (by omega)
      have x2 := IntWalk.u64_in ((i : Int) + (j : Int)) (by omega)
      have x3 := IntWalk.i64_in (q : Int) (by omega)
      have x4 := IntWalk.i64_in ((q : Int) + 1) (by omega)
      have x5 := IntWalk.u64_in (q : Int) (by omega)
      generalize cmpB l[q].name nm = v at *
      clear hc hq
      go_wp2_with fail
      refine SM.out.mono ?_; rintro e w1 ⟨rfl, b1⟩
      have BX := Lib.hid (BW.out.trans (b1.mono BW.out.size))
      clear b1 SM y0 y1 y2 y3 y4 y5 y6 BW
      by_cases hv : v < 0
      · have E := Lib.hid (E.out.trans (if_pos hv))
        go_wp2
        go_roundw
        case rel => exact ⟨q + 1, j, k, by omega, hjl, by go_num, rfl, E, by omega, BX⟩
        case measure => simp [intOf]; omega
      · have E := Lib.hid (E.out.trans (if_neg hv))
        go_wp2
        go_roundw
        case rel => exact ⟨i, q, k, by omega, by omega, rfl, rfl, E, by omega, BX⟩
        case measure => simp [intOf]; omega
    · have E := Lib.hid (E.out.trans (bsN_end l nm hlt k))
      have hlt' : ¬ (i : Int) < (j : Int) := by omega
      have R := Lib.hid (show isR l nm i = (match l[i]? with | some x => decide (cmpB x.name nm = 0) | none => false) from rfl)
      by_cases hil : i < l.length
      rotate_left
      · have hil' : ¬ (i : Int) < (l.length : Int) := by omega
        have R := Lib.hid (R.out.trans (by rw [List.getElem?_eq_none (by omega)]))
        go_wp2
        go_ret2
        exact ⟨by rw [E.out, R.out]; rfl, BW.out⟩
      have hil' : (i : Int) < (l.length : Int) := by omega
      have i0 : (0 : Int) ≤ (i : Int) := by omega
      obtain ⟨b, o, rfl, hb, hc⟩ := H.out.cell hil
      have hc : ∀ k, k < 7 → wr.cell? ⟨b, o + i * 7 + k, none⟩ = (l[i].vals)[k]? := fun k hk => by
        rw [World.cell?_of_block (w := w) (w' := wr) (a := ⟨b, o + i * 7 + k, none⟩) (BW.out.block b hb)]; exact hc k hk
      have SM := Lib.hid (show Calls Tryz.prog 36 #[.agg #[.string ⟨l[i].name.toArray⟩, .int .i64 l[i].ino, .int .i64 l[i].f.ver, .int .i64 l[i].f.mtime, .int .i64 l[i].f.len, .slice l[i].A l[i].f.blocks.length l[i].c, .slice l[i].A' l[i].f.parts.length l[i].c'], .string ⟨nm.toArray⟩] wr (fun e w' => e = .returned (.int .i64 (cmpB l[i].name nm)) ∧ Below wr.heap.size wr w') from CM.out l[i] wr)
      have R := Lib.hid (R.out.trans (show _ = decide (cmpB l[i].name nm = 0) from by rw [List.getElem?_eq_getElem hil]))
      have y0 : wr.cell? ⟨b, o + i * 7, none⟩ = some (.string ⟨l[i].name.toArray⟩) := (hc 0 (by omega)).trans rfl
      have y1 : wr.cell? ⟨b, o + i * 7 + 1, none⟩ = some (.int .i64 l[i].ino) := (hc 1 (by omega)).trans rfl
      have y2 : wr.cell? ⟨b, o + i * 7 + 2, none⟩ = some (.int .i64 l[i].f.ver) := (hc 2 (by omega)).trans rfl
      have y3 : wr.cell? ⟨b, o + i * 7 + 3, none⟩ = some (.int .i64 l[i].f.mtime) := (hc 3 (by omega)).trans rfl
      have y4 : wr.cell? ⟨b, o + i * 7 + 4, none⟩ = some (.int .i64 l[i].f.len) := (hc 4 (by omega)).trans rfl
      have y5 : wr.cell? ⟨b, o + i * 7 + 5, none⟩ = some (.slice l[i].A l[i].f.blocks.length l[i].c) := (hc 5 (by omega)).trans rfl
      have y6 : wr.cell? ⟨b, o + i * 7 + 6, none⟩ = some (.slice l[i].A' l[i].f.parts.length l[i].c') := (hc 6 (by omega)).trans rfl
      generalize cmpB l[i].name nm = v at *
      clear hc
      go_wp2_with fail
      refine SM.out.mono ?_; rintro e w1 ⟨rfl, b1⟩
      have BX := Lib.hid (BW.out.trans (b1.mono BW.out.size))
      clear b1 SM y0 y1 y2 y3 y4 y5 y6 BW
      by_cases hv : v = 0
      · have R := Lib.hid (R.out.trans (decide_eq_true hv))
        subst hv
        go_wp2
        go_ret2
        exact ⟨by rw [E.out, R.out]; rfl, BX.out⟩
      · have R := Lib.hid (R.out.trans (decide_eq_false hv))
        have hv' : (v == 0) = false := by simpa using hv
        go_wp2
        go_ret2
        exact ⟨by rw [E.out, R.out]; rfl, BX.out⟩

theorem FAt.new {w w' : World} {lab : Nat → Nat} {A : Option Addr} {c : Nat} {l : List Lf} (h : FAt w lab A c l) (k : Below w.heap.size w w') : FAt w' lab A c l :=
  ⟨h.row.new k, fun h0 x e => ⟨Nat.lt_of_lt_of_le (h.own h0 x e).1 k.size, (h.own h0 x e).2⟩,
    fun x hx => ⟨(h.bl x hx).1.new k, fun h0 y e => ⟨Nat.lt_of_lt_of_le ((h.bl x hx).2 h0 y e).1 k.size, ((h.bl x hx).2 h0 y e).2⟩⟩,
    fun x hx => ⟨(h.pt x hx).1.new k, fun h0 y e => ⟨Nat.lt_of_lt_of_le ((h.pt x hx).2 h0 y e).1 k.size, ((h.pt x hx).2 h0 y e).2⟩⟩⟩
set_option maxRecDepth 100000 in
theorem find_any (gn : Int) (D : Option Addr) (nd cd : Nat) (A : Option Addr) (c : Nat) (l : List Lf) (nm : List UInt8) (w : World) (lab : Nat → Nat) (h : FAt w lab A c l) (hm : l.length ≤ 1000000) :
    Calls Tryz.prog 14 #[.agg #[.int .i64 gn, .slice D nd cd, .slice A l.length c], .string ⟨nm.toArray⟩] w fun e w' => e = .returned (.tuple #[.int .i64 (atR l nm : Int), .bool (isR l nm (atR l nm))]) ∧ Below w.heap.size w w' := by
  have b0 : Below w.heap.size w (w.alloc (.cells #[.int .i64 gn, .slice D nd cd, .slice A l.length c] 52)) := (Below.refl _ w).alloc (Nat.le_refl _) _
  have B0 := Lib.hid b0
  have R0 := Lib.hid (Blk.new w 52 #[.int .i64 gn, .slice D nd cd, .slice A l.length c])
  have SR := Lib.hid (search_any A c l nm _ lab (h.new b0) hm)
  clear h b0
  generalize (atR l nm : Int) = v1 at *
  generalize isR l nm (atR l nm) = v2 at *
  go_enter Tryz.func14, Tryz.ntmps14
  go_upto_region 1 with fail
  generalize w.alloc (.cells #[.int .i64 gn, .slice D nd cd, .slice A l.length c] 52) = W at *
  have z2 := (R0.out.cell 2).trans (show _ = some (.slice A l.length c) from rfl)
  go_wp2_with fail
  refine SR.out.mono ?_; rintro e w1 ⟨rfl, b1⟩
  have B1 := Lib.hid (B0.out.trans (b1.mono B0.out.size))
  go_wp2
  go_ret2
  exact ⟨rfl, B1.out⟩
end Go.Proofs.YtefnkednnnlhoaaGreatDoor.Sr
