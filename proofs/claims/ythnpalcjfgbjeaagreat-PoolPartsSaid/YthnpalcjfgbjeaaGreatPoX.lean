/- A pool in plain words, what each call does to it, and how it lies in memory beside its kernel. Conditions: those that each states. -/
import Derived.Test.YthnpalcjfgbjeaaGreatKnD
namespace Go.Proofs.YthnpalcjfgbjeaaGreat.Po
open Go.ChangeShapes Go.WideShapes Go.ChangeAt Go.RowKit Go.Deep Fr Di Ke
set_option linter.unusedVariables false

/-- A slot: kind 0 nothing, 1 a block, 2 what was forgotten, 3 a head; its part's words; its frame. -/
structure Sl where
  kind : Nat
  block : Int
  n : Int
  x : Nat
  y : Nat
  frame : Nat
  pins : Nat
  mark : Bool
def Sl.cells (s : Sl) : List Value := [.int .i64 (s.kind : Int), .int .i64 s.block, .int .i64 s.n, .complex .f64 s.x s.y, .int .i64 (s.frame : Int), .int .i64 (s.pins : Int), .bool s.mark]
theorem Sl.len (s : Sl) : s.cells.length = 7 := rfl
def Sl.bare (f : Nat) : Sl := ⟨0, 0, 0, 0, 0, f, 0, false⟩
structure Po where
  K : Kn
  sl : List Sl
  hand : Nat
  fills : Nat
def isBlock (b : Int) (s : Sl) : Bool := s.kind == 1 && decide (s.block = b)
def isPinned (f : Int) (s : Sl) : Bool := decide ((s.frame : Int) = f) && decide (0 < s.pins)
def unusedB (K : Kn) (s : Sl) : Bool := s.pins == 0 && decide (holdsV K.ps (s.frame : Int) = 0)
def isFree (K : Kn) (s : Sl) : Bool := s.kind == 0 && unusedB K s
def having (P : Po) (b : Int) : Option Nat := P.sl.findIdx? (isBlock b)
def pinned (P : Po) (f : Int) : Option Nat := P.sl.findIdx? (isPinned f)
/-- A slot turned. -/
def Po.put (P : Po) (i : Nat) (s : Sl) : Po := { P with sl := P.sl.set i s }
def sweep : Nat → Po → Po × Option Nat
  | 0, P => (P, none)
  | k + 1, P =>
    match P.sl[P.hand]? with
    | none => (P, none)
    | some s =>
      if unusedB P.K s && !s.mark then ({ P with hand := (P.hand + 1) % P.sl.length, sl := P.sl.set P.hand (Sl.bare s.frame) }, some P.hand)
      else sweep k { P with hand := (P.hand + 1) % P.sl.length, sl := P.sl.set P.hand { s with mark := false } }
def takeR (P : Po) : Po × Option Nat :=
  match P.sl.findIdx? (isFree P.K) with
  | some i => (P, some i)
  | none => sweep (2 * P.sl.length) P
/-- The bytes b written to a slot's frame; the slot then has what c says, and one pin. -/
def fillR (P : Po) (i : Nat) (b : List UInt8) (kind : Nat) (block n : Int) (x y : Nat) : Po × Int :=
  match P.sl[i]? with
  | none => (P, 1)
  | some s =>
    let r := callR P.K ⟨5, 1, (s.frame : Int), 0, 0, b, [], []⟩
    if r.2.2.2 = 0 then ({ P with K := r.1, sl := P.sl.set i ⟨kind, block, n, x, y, s.frame, 1, s.mark⟩ }, 0) else ({ P with K := r.1 }, r.2.2.2)
def setMark (P : Po) (i : Nat) : Po := match P.sl[i]? with | none => P | some s => P.put i { s with mark := true }
def frameOf (P : Po) (i : Nat) : Int := match P.sl[i]? with | none => 0 | some s => (s.frame : Int)
def getR (P : Po) (block n : Int) (x y : Nat) : Po × Int × Int :=
  if n < 0 ∨ 256 < n then (P, 0, 1) else
  match having P block with
  | some i => (match P.sl[i]? with | none => (P, 0, 0) | some s => (P.put i { s with pins := s.pins + 1, mark := true }, (s.frame : Int), 0))
  | none =>
    match (takeR P).2 with
    | none => ((takeR P).1, 0, 80)
    | some i =>
      let P1 := (takeR P).1
      let r := callR P1.K ⟨6, 1, block, 0, 0, [], [], []⟩
      if r.2.2.2 ≠ 0 then ({ P1 with K := r.1 }, 0, r.2.2.2) else
      let q := fillR { P1 with K := r.1, fills := P1.fills + 1 } i r.2.2.1 1 block n x y
      if q.2 ≠ 0 then (q.1, 0, q.2) else (setMark q.1 i, frameOf q.1 i, 0)
def pinR (P : Po) (f : Int) : Po × Int :=
  match pinned P f with
  | none => (P, 1)
  | some i => (match P.sl[i]? with | none => (P, 0) | some s => (P.put i { s with pins := s.pins + 1 }, 0))
def unpinR (P : Po) (f : Int) : Po × Int :=
  match pinned P f with
  | none => (P, 1)
  | some i => (match P.sl[i]? with | none => (P, 0) | some s => (P.put i (if s.pins = 1 ∧ s.kind ≠ 1 then Sl.bare s.frame else { s with pins := s.pins - 1 }), 0))
def forget1 (P : Po) (b : Int) : Po :=
  match having P b with
  | none => P
  | some i => (match P.sl[i]? with | none => P | some s => P.put i (if s.pins = 0 then Sl.bare s.frame else { s with kind := 2 }))
def pinsR (P : Po) (f : Int) : Nat := match pinned P f with | none => 0 | some i => (match P.sl[i]? with | none => 0 | some s => s.pins)

/-! In memory. -/
def flat (l : List Sl) : List Value := (l.map Sl.cells).flatten
theorem flat_length (l : List Sl) : (flat l).length = l.length * 7 := flat_len (sz := 7) (by intro r hr; obtain ⟨s, _, rfl⟩ := List.mem_map.1 hr; rfl) |>.trans (by rw [List.length_map])
theorem flat_at {l : List Sl} {i j : Nat} (hi : i < l.length) (hj : j < 7) : (flat l)[i * 7 + j]? = (l[i]).cells[j]? := by
  have h := flat_get (l := l.map Sl.cells) (sz := 7) (by intro r hr; obtain ⟨s, _, rfl⟩ := List.mem_map.1 hr; rfl) (i := i) (j := j) (by rw [List.length_map]; exact hi) hj
  rw [List.getElem_map] at h
  exact h
/-- Where a pool lies: the kernel's head, the slots' block and the room there. -/
structure PoAt (w : World) (lab : Nat → Nat) (g : Nat) (gk gs c : Nat) (P : Po) : Prop where
  head : Blk w g 73 #[.pointer (some ⟨gk, 0, none⟩), .slice (some ⟨gs, 0, none⟩) P.sl.length c, .int .i64 (P.hand : Int), .int .i64 (P.fills : Int)]
  row : ∃ cs : Array Value, Blk w gs 85 cs ∧ P.sl.length * 7 ≤ cs.size ∧ ∀ k (h : k < P.sl.length * 7), cs[k]? = (flat P.sl)[k]?
  cap : P.sl.length ≤ c
  max : c ≤ maxLen
  n1 : 1 ≤ P.sl.length
  n2 : P.sl.length ≤ 256
  hand : P.hand < P.sl.length
  lg : lab g = 9
  ls : lab gs = 9
  ne : g ≠ gs
/-- A pool and its kernel, all of it behind block B. -/
structure PB (B : Nat) (w : World) (lab : Nat → Nat) (g gk gs c : Nat) (P : Po) : Prop where
  kb : KB B w lab gk P.K
  po : PoAt w lab g gk gs c P
theorem PoAt.slot {w : World} {lab : Nat → Nat} {g gk gs c : Nat} {P : Po} (h : PoAt w lab g gk gs c P) {i j : Nat} (hi : i < P.sl.length) (hj : j < 7) : w.cell? ⟨gs, i * 7 + j, none⟩ = (P.sl[i]).cells[j]? := by
  obtain ⟨cs, hb, hs, hc⟩ := h.row
  rw [hb.cell, hc _ (by omega), flat_at hi hj]
end Go.Proofs.YthnpalcjfgbjeaaGreat.Po

/- A pool: the first slot that is wanted; which slots are unused. Conditions: those that each states. -/
namespace Go.Proofs.YthnpalcjfgbjeaaGreat.Po
open Go.ChangeShapes Go.WideShapes Go.ChangeAt Go.RowKit Go.Deep Fr Di Ke
set_option linter.unusedVariables false

theorem PoAt.new {w w' : World} {lab : Nat → Nat} {g gk gs c : Nat} {P : Po} (h : PoAt w lab g gk gs c P) (k : Below w.heap.size w w') : PoAt w' lab g gk gs c P := by
  obtain ⟨h1, ⟨cs, hb, hs, hc⟩, h3, h4, h5, h6, h7, h8, h9, h10⟩ := h
  exact ⟨h1.older (older_below k), ⟨cs, hb.older (older_below k), hs, hc⟩, h3, h4, h5, h6, h7, h8, h9, h10⟩
/-- The pointer to a slot, or none. -/
def ptrV (gs : Nat) : Option Nat → Value
  | none => .pointer none
  | some i => .pointer (some ⟨gs, i * 7, none⟩)
/-- A function with a body is entered. -/
theorem enter_of {f : FuncId} {fn : Func} {c : Code} (hf : Tryz.prog.funcs[f]? = some fn) (hn : (fn.name == "runtime.NumGoroutine") = false) (hb : fn.body = some c) (args : Array Value) (w : World) : (callFunc f args).run Tryz.prog w = .ok (.enter f args) w := by
  have h1 : fn.name ≠ "runtime.NumGoroutine" := by simpa using hn
  simp [callFunc, hf, h1, hb]
theorem slot_info : (Tryz.prog.info? 85).map (·.size) = some 7 := by kernel_rfl

set_option maxRecDepth 100000 in
set_option maxHeartbeats 1000000 in
/-- The first slot that is wanted. -/
theorem find_any {w : World} {lab : Nat → Nat} {g gk gs c : Nat} {P : Po} (h : PoAt w lab g gk gs c P) (F : FuncId) (hE : ∀ args W, (callFunc F args).run Tryz.prog W = .ok (.enter F args) W) (cap : Value) (q : Sl → Bool)
    (hF : ∀ (i : Nat) (hi : i < P.sl.length) (W : World), Below w.heap.size w W → Calls Tryz.prog F #[.pointer (some ⟨gs, i * 7, none⟩), cap] W fun e W' => e = .returned (.bool (q P.sl[i])) ∧ Below W.heap.size W W') :
    Calls Tryz.prog 56 #[.pointer (some ⟨g, 0, none⟩), .func (.func F) #[] #[cap]] w fun e w' => e = .returned (ptrV gs (P.sl.findIdx? q)) ∧ Below w.heap.size w w' := by
  have H := Lib.hid h
  have HF := Lib.hid hF
  have c1 := (h.head.cell 1).trans (show _ = some (.slice (some ⟨gs, 0, none⟩) P.sl.length c) from rfl)
  have hn2 := h.n2
  clear h hF
  go_enter Tryz.func56, Tryz.ntmps56
  go_wp2
  go_loopw [14] (fun i wr => ∃ j : Nat, j ≤ P.sl.length ∧ i = .int .i64 (j : Int) ∧ Hid (∀ k (hk : k < P.sl.length), k < j → q P.sl[k] = false) ∧ Hid (Below w.heap.size w wr)) (fun i _ => P.sl.length - (intOf i).toNat)
  case atStart => exact ⟨0, Nat.zero_le _, rfl, Lib.hid (fun k hk h => by omega), Lib.hid (Below.refl _ _)⟩
  case round =>
    obtain ⟨j, hj, rfl, NO, BL⟩ := hrel
    have hr := H.out.new BL.out
    have c1 := (hr.head.cell 1).trans (show _ = some (.slice (some ⟨gs, 0, none⟩) P.sl.length c) from rfl)
    clear hr
    by_cases hlt : j < P.sl.length
    · have hlt' : (j : Int) < (P.sl.length : Int) := by omega
      have j0 : (0 : Int) ≤ (j : Int) := by omega
      have xj := IntWalk.i64_in ((j : Int) + 1) (by omega)
      have CF := Lib.hid (HF.out j hlt wr BL.out)
      go_wp2_with fail
      refine CF.out.mono ?_; rintro e w2 ⟨rfl, b2⟩
      have B2 := Lib.hid (BL.out.trans (b2.mono BL.out.size))
      clear b2 CF c1 HF
      by_cases hq : q P.sl[j] = true
      · have FI := Lib.hid (show P.sl.findIdx? q = some j from by
          rw [List.findIdx?_eq_some_iff_getElem]
          exact ⟨hlt, hq, fun k hk => by rw [NO.out k (by omega) hk]; simp⟩)
        rw [hq]
        clear hq
        go_wp2
        go_ret
        exact ⟨by rw [FI.out]; rfl, B2.out⟩
      · have hq' : q P.sl[j] = false := by simpa using hq
        have NX := Lib.hid (show ∀ k (hk : k < P.sl.length), k < j + 1 → q P.sl[k] = false from fun k hk h => by
          by_cases e : k = j
          · subst e; exact hq'
          · exact NO.out k hk (by omega))
        rw [hq']
        clear hq hq'
        go_wp2
        go_roundw
        case rel => exact ⟨j + 1, by omega, by go_num, NX, B2⟩
        case measure => simp [intOf]; omega
    · have hlt' : ¬ (j : Int) < (P.sl.length : Int) := by omega
      have FI := Lib.hid (show P.sl.findIdx? q = none from by
        rw [List.findIdx?_eq_none_iff]
        intro x hx
        obtain ⟨k, hk, rfl⟩ := List.mem_iff_getElem.1 hx
        exact NO.out k hk (by omega))
      go_wp2
      go_ret
      exact ⟨by rw [FI.out]; rfl, BL.out⟩

theorem find_nil (f : Value) (w : World) : Calls Tryz.prog 56 #[.pointer none, f] w fun e w' => e = .returned (.pointer none) ∧ w' = w := by
  go_enter Tryz.func56, Tryz.ntmps56
  go_wp2
  go_ret
  exact ⟨rfl, rfl⟩

set_option maxRecDepth 100000 in
theorem isBlock_any {w : World} {lab : Nat → Nat} {g gk gs c : Nat} {P : Po} (h : PoAt w lab g gk gs c P) {i : Nat} (hi : i < P.sl.length) (bx : Nat) (block : Int) (hb : w.cell? ⟨bx, 0, none⟩ = some (.int .i64 block)) :
    Calls Tryz.prog 66 #[.pointer (some ⟨gs, i * 7, none⟩), .pointer (some ⟨bx, 0, none⟩)] w fun e w' => e = .returned (.bool (isBlock block P.sl[i])) ∧ Below w.heap.size w w' := by
  have c0 := (h.slot hi (j := 0) (by omega)).trans (show _ = some (.int .i64 (P.sl[i].kind : Int)) from rfl)
  have c1 := (h.slot hi (j := 1) (by omega)).trans (show _ = some (.int .i64 P.sl[i].block) from rfl)
  have BD := Lib.hid (Below.refl w.heap.size w).drew
  unfold isBlock
  clear h
  generalize P.sl[i].kind = k at *
  generalize P.sl[i].block = b at *
  rw [Nat.add_zero] at c0
  by_cases h1 : k = 1
  · subst h1
    by_cases h2 : b = block
    · subst h2
      go_enter Tryz.func66, Tryz.ntmps66
      go_upto_region 1 with fail
      go_quiet (fail)
      go_wp2
      go_ret
      exact ⟨by simp, below_drewN (Below.refl _ _) _⟩
    · have h2' : (b == block) = false := by simpa using h2
      go_enter Tryz.func66, Tryz.ntmps66
      go_upto_region 1 with fail
      go_quiet (fail)
      go_wp2
      go_ret
      exact ⟨by simp [h2], below_drewN (Below.refl _ _) _⟩
  · have h1' : ¬ (k : Int) = 1 := by omega
    have h1b : ((k : Int) == 1) = false := by rw [beq_eq_false_iff_ne]; exact h1'
    go_enter Tryz.func66, Tryz.ntmps66
    go_upto_region 1 with fail
    go_quiet (fail)
    go_wp2
    go_ret
    exact ⟨by simp [h1], below_drewN (Below.refl _ _) _⟩

theorem having_nil (block : Int) (w : World) : Calls Tryz.prog 37 #[.pointer none, .int .i64 block] w fun e w' => e = .returned (.pointer none) ∧ Below w.heap.size w w' := by
  have B1 := Lib.hid ((Below.refl w.heap.size w).alloc (Nat.le_refl _) (.cells #[.int .i64 block] 3))
  go_enter Tryz.func37, Tryz.ntmps37
  go_wp2_with fail
  refine (find_nil _ _).mono ?_; rintro e w' ⟨rfl, rfl⟩
  go_wp2
  go_ret
  exact ⟨rfl, B1.out⟩
set_option maxRecDepth 100000 in
theorem having_any {w : World} {lab : Nat → Nat} {g gk gs c : Nat} {P : Po} (h : PoAt w lab g gk gs c P) (block : Int) :
    Calls Tryz.prog 37 #[.pointer (some ⟨g, 0, none⟩), .int .i64 block] w fun e w' => e = .returned (ptrV gs (having P block)) ∧ Below w.heap.size w w' := by
  have b1 : Below w.heap.size w (w.alloc (.cells #[.int .i64 block] 3)) := (Below.refl w.heap.size w).alloc (Nat.le_refl _) _
  have B1 := Lib.hid b1
  have K1 := Lib.hid (Blk.new w 3 #[.int .i64 block])
  have H1 := Lib.hid (h.new b1)
  go_enter Tryz.func37, Tryz.ntmps37
  go_upto_region 1 with fail
  generalize w.alloc (.cells #[.int .i64 block] 3) = W at *
  go_wp2_with fail
  refine (find_any H1.out 66 (enter_of Tryz.func66 (by kernel_rfl) rfl) _ (isBlock block) (fun i hi W' hb => ?_)).mono ?_
  · exact isBlock_any (H1.out.new hb) hi w.heap.size block (((K1.out.older (older_below hb)).cell 0).trans rfl)
  rintro e w2 ⟨rfl, b2⟩
  have B2 := Lib.hid (B1.out.trans (b2.mono B1.out.size))
  clear b2
  go_wp2
  go_ret
  exact ⟨rfl, B2.out⟩

set_option maxRecDepth 100000 in
theorem isPinned_any {w : World} {lab : Nat → Nat} {g gk gs c : Nat} {P : Po} (h : PoAt w lab g gk gs c P) {i : Nat} (hi : i < P.sl.length) (bx : Nat) (f : Int) (hb : w.cell? ⟨bx, 0, none⟩ = some (.int .i64 f)) :
    Calls Tryz.prog 59 #[.pointer (some ⟨gs, i * 7, none⟩), .pointer (some ⟨bx, 0, none⟩)] w fun e w' => e = .returned (.bool (isPinned f P.sl[i])) ∧ Below w.heap.size w w' := by
  have c4 := (h.slot hi (j := 4) (by omega)).trans (show _ = some (.int .i64 (P.sl[i].frame : Int)) from rfl)
  have c5 := (h.slot hi (j := 5) (by omega)).trans (show _ = some (.int .i64 (P.sl[i].pins : Int)) from rfl)
  unfold isPinned
  clear h
  generalize P.sl[i].frame = k at *
  generalize P.sl[i].pins = n at *
  by_cases h1 : (k : Int) = f
  · subst h1
    by_cases h2 : 0 < n
    · have h2' : (n : Int) > 0 := by omega
      go_enter Tryz.func59, Tryz.ntmps59
      go_upto_region 1 with fail
      go_quiet (fail)
      go_wp2
      go_ret
      exact ⟨by simp [h2], below_drewN (Below.refl _ _) _⟩
    · obtain rfl : n = 0 := by omega
      go_enter Tryz.func59, Tryz.ntmps59
      go_upto_region 1 with fail
      go_quiet (fail)
      go_wp2
      go_ret
      exact ⟨by simp, below_drewN (Below.refl _ _) _⟩
  · have h1b : ((k : Int) == f) = false := by rw [beq_eq_false_iff_ne]; exact h1
    go_enter Tryz.func59, Tryz.ntmps59
    go_upto_region 1 with fail
    go_quiet (fail)
    go_wp2
    go_ret
    exact ⟨by simp [h1], below_drewN (Below.refl _ _) _⟩

theorem pinned_nil (f : Int) (w : World) : Calls Tryz.prog 32 #[.pointer none, .int .i64 f] w fun e w' => e = .returned (.pointer none) ∧ Below w.heap.size w w' := by
  have B1 := Lib.hid ((Below.refl w.heap.size w).alloc (Nat.le_refl _) (.cells #[.int .i64 f] 3))
  go_enter Tryz.func32, Tryz.ntmps32
  go_wp2_with fail
  refine (find_nil _ _).mono ?_; rintro e w' ⟨rfl, rfl⟩
  go_wp2
  go_ret
  exact ⟨rfl, B1.out⟩
set_option maxRecDepth 100000 in
theorem pinned_any {w : World} {lab : Nat → Nat} {g gk gs c : Nat} {P : Po} (h : PoAt w lab g gk gs c P) (f : Int) :
    Calls Tryz.prog 32 #[.pointer (some ⟨g, 0, none⟩), .int .i64 f] w fun e w' => e = .returned (ptrV gs (pinned P f)) ∧ Below w.heap.size w w' := by
  have b1 : Below w.heap.size w (w.alloc (.cells #[.int .i64 f] 3)) := (Below.refl w.heap.size w).alloc (Nat.le_refl _) _
  have B1 := Lib.hid b1
  have K1 := Lib.hid (Blk.new w 3 #[.int .i64 f])
  have H1 := Lib.hid (h.new b1)
  go_enter Tryz.func32, Tryz.ntmps32
  go_upto_region 1 with fail
  generalize w.alloc (.cells #[.int .i64 f] 3) = W at *
  go_wp2_with fail
  refine (find_any H1.out 59 (enter_of Tryz.func59 (by kernel_rfl) rfl) _ (isPinned f) (fun i hi W' hb => ?_)).mono ?_
  · exact isPinned_any (H1.out.new hb) hi w.heap.size f (((K1.out.older (older_below hb)).cell 0).trans rfl)
  rintro e w2 ⟨rfl, b2⟩
  have B2 := Lib.hid (B1.out.trans (b2.mono B1.out.size))
  clear b2
  go_wp2
  go_ret
  exact ⟨rfl, B2.out⟩
end Go.Proofs.YthnpalcjfgbjeaaGreat.Po

/- A pool: which slots are unused, which is taken. Conditions: those that each states. -/
namespace Go.Proofs.YthnpalcjfgbjeaaGreat.Po
open Go.ChangeShapes Go.WideShapes Go.ChangeAt Go.RowKit Go.Deep Fr Di Ke
set_option linter.unusedVariables false

theorem PB.new {B : Nat} {w w' : World} {lab : Nat → Nat} {g gk gs c : Nat} {P : Po} (h : PB B w lab g gk gs c P) (k : Below w.heap.size w w') : PB B w' lab g gk gs c P := ⟨h.kb.new k, h.po.new k⟩

set_option maxRecDepth 100000 in
set_option maxHeartbeats 1000000 in
theorem unused_any {B : Nat} {w : World} {lab : Nat → Nat} {g gk gs c : Nat} {P : Po} (h : PB B w lab g gk gs c P) {i : Nat} (hi : i < P.sl.length) :
    Calls Tryz.prog 58 #[.pointer (some ⟨g, 0, none⟩), .pointer (some ⟨gs, i * 7, none⟩)] w fun e w' => e = .returned (.bool (unusedB P.K P.sl[i])) ∧ ∃ n, w' = w.drewN n := by
  have c4 := (h.po.slot hi (j := 4) (by omega)).trans (show _ = some (.int .i64 (P.sl[i].frame : Int)) from rfl)
  have c5 := (h.po.slot hi (j := 5) (by omega)).trans (show _ = some (.int .i64 (P.sl[i].pins : Int)) from rfl)
  have k0 := (h.po.head.cell 0).trans (show _ = some (.pointer (some ⟨gk, 0, none⟩)) from rfl)
  obtain ⟨a, ha⟩ := h.kb.ka
  have TA := Lib.hid (fun n => table_any (ha.new (below_drewN (Below.refl _ _) n)))
  have HO := Lib.hid (fun n => holds_any (ha.new (below_drewN (Below.refl _ _) n)).tab (P.sl[i].frame : Int))
  unfold unusedB
  clear ha h
  generalize P.sl[i].frame = f at *
  generalize P.sl[i].pins = p at *
  generalize holdsV P.K.ps (f : Int) = hv at *
  by_cases h1 : p = 0
  · subst h1
    by_cases h2 : hv = 0
    · subst h2
      go_enter Tryz.func58, Tryz.ntmps58
      go_upto_region 1 with fail
      go_quiet (first
        | (go_at_call 11; exact Calls.quiet_of_same (TA.out _))
        | (go_at_call 82; exact Calls.quiet_of_same (HO.out _)))
      go_wp2
      go_ret
      exact ⟨by simp, _, rfl⟩
    · have h2b : (hv == 0) = false := by simpa using h2
      go_enter Tryz.func58, Tryz.ntmps58
      go_upto_region 1 with fail
      go_quiet (first
        | (go_at_call 11; exact Calls.quiet_of_same (TA.out _))
        | (go_at_call 82; exact Calls.quiet_of_same (HO.out _)))
      go_wp2
      go_ret
      exact ⟨by simp [h2], _, rfl⟩
  · have h1b : ((p : Int) == 0) = false := by rw [beq_eq_false_iff_ne]; omega
    have h1c : (p == 0) = false := by simpa using h1
    go_enter Tryz.func58, Tryz.ntmps58
    go_upto_region 1 with fail
    go_quiet (fail)
    go_wp2
    go_ret
    exact ⟨by simp [h1c], _, rfl⟩

set_option maxRecDepth 100000 in
theorem isFree_any {B : Nat} {w : World} {lab : Nat → Nat} {g gk gs c : Nat} {P : Po} (h : PB B w lab g gk gs c P) {i : Nat} (hi : i < P.sl.length) (bx : Nat) (hb : w.cell? ⟨bx, 0, none⟩ = some (.pointer (some ⟨g, 0, none⟩))) :
    Calls Tryz.prog 57 #[.pointer (some ⟨gs, i * 7, none⟩), .pointer (some ⟨bx, 0, none⟩)] w fun e w' => e = .returned (.bool (isFree P.K P.sl[i])) ∧ Below w.heap.size w w' := by
  have c0 := (h.po.slot hi (j := 0) (by omega)).trans (show _ = some (.int .i64 (P.sl[i].kind : Int)) from rfl)
  have UN := Lib.hid (unused_any h hi)
  have BR := Lib.hid (Below.refl w.heap.size w)
  rw [Nat.add_zero] at c0
  unfold isFree
  clear h
  generalize P.sl[i].kind = k at *
  generalize unusedB P.K P.sl[i] = u at *
  by_cases h1 : k = 0
  · subst h1
    go_enter Tryz.func57, Tryz.ntmps57
    go_wp2_with fail
    refine UN.out.mono ?_; rintro e w2 ⟨rfl, n, rfl⟩
    go_wp2
    go_ret
    exact ⟨by simp, below_drewN BR.out _⟩
  · have h1b : ((k : Int) == 0) = false := by rw [beq_eq_false_iff_ne]; omega
    have h1c : (k == 0) = false := by simpa using h1
    go_enter Tryz.func57, Tryz.ntmps57
    go_wp2
    go_ret
    exact ⟨by simp [h1c], BR.out⟩
end Go.Proofs.YthnpalcjfgbjeaaGreat.Po

/- A pool's own blocks beside its kernel: label 9; a slot turned, a head turned. Conditions: those that each states. -/
namespace Go.Proofs.YthnpalcjfgbjeaaGreat.Po
open Go.ChangeShapes Go.WideShapes Go.ChangeAt Go.RowKit Go.Deep Fr Di Ke
set_option linter.unusedVariables false

def mark9 (lab : Nat → Nat) (r : Nat) : Nat → Nat := fun i => if i = r then 9 else lab i
section
variable {w w' : World} {lab : Nat → Nat} {g : Nat} {K : Kn} {a : Ad}
theorem kat_row9 (h : KAt w lab g K a) (k : Chg w w' (fun i => lab i = 9)) (r : Nat) (hr : lab r = 9 ∨ w.heap.size ≤ r) (hlt : r < w'.heap.size) : KAt w' (mark9 lab r) g K a := by
  obtain ⟨q1, q2, q3, q4, q5, q6, q7, _⟩ := h.keep (m := 9) k (by omega)
  have h0 : ∀ i, i ≠ r → mark9 lab r i = lab i := fun i hi => by unfold mark9; rw [if_neg hi]
  have hr9 : mark9 lab r r = 9 := by unfold mark9; rw [if_pos rfl]
  have ne : ∀ i, lab i ≠ 0 → lab i ≠ 9 → i ≠ r := by
    rintro i h1 h2 rfl
    rcases hr with hr | hr
    · exact h2 hr
    · have := h.all i h1; omega
  have hs : Step w w' (on lab) (on (mark9 lab r)) := ⟨k.weak (fun i hi => by show lab i ≠ 0; omega), fun i hi => by
    by_cases e : i = r
    · subst e
      rcases hr with hr | hr
      · exact .inl (by show lab i ≠ 0; omega)
      · exact .inr hr
    · have : mark9 lab r i ≠ 0 := hi
      rw [h0 i e] at this
      exact .inl this⟩
  have h3 : (fun i => mark9 lab r i = 3) = (fun i => lab i = 3) := by
    funext i
    by_cases e : i = r
    · subst e
      rw [hr9]
      rcases hr with hr | hr
      · simp [hr]
      · have hz : lab i ≠ 3 := fun hh => by have := h.all i (by omega); omega
        simp [hz]
    · rw [h0 i e]
  have lb : ∀ i m, lab i = m → m ≠ 0 → m ≠ 9 → mark9 lab r i = m := fun i m e h1 h2 => by rw [h0 i (ne i (by omega) (by omega))]; exact e
  exact ⟨q1 (by omega), q2 (by omega), by rw [h3]; exact q3 (by omega), q4 (by omega), h.fil.weak (fun _ _ _ h => h.step hs), q5 (by omega), h.p1.weak (fun _ _ _ h => h.step hs), q6 (by omega), h.p2.weak (fun _ _ _ h => h.step hs), q7 (by omega), h.p3.weak (fun _ _ _ h => h.step hs),
    lb _ _ h.lg (by omega) (by omega), lb _ _ h.lt1 (by omega) (by omega), lb _ _ h.lt2 (by omega) (by omega), fun b hb => lb _ _ (h.lr b hb) (by omega) (by omega), lb _ _ h.l11 (by omega) (by omega), lb _ _ h.l12 (by omega) (by omega), lb _ _ h.l21 (by omega) (by omega), lb _ _ h.l22 (by omega) (by omega), lb _ _ h.l31 (by omega) (by omega), lb _ _ h.l32 (by omega) (by omega), fun i hi => by
      by_cases e : i = r
      · rw [e]; exact hlt
      · rw [h0 i e] at hi
        exact Nat.lt_of_lt_of_le (h.all i hi) k.size⟩
theorem kb_row9 {B : Nat} (h : KB B w lab g K) (hB : B ≤ w.heap.size) (k : Chg w w' (fun i => lab i = 9)) (r : Nat) (hr : lab r = 9 ∨ w.heap.size ≤ r) (hlt : r < w'.heap.size) : KB B w' (mark9 lab r) g K ∧ Below B w w' := by
  obtain ⟨a, ha⟩ := h.ka
  refine ⟨⟨⟨a, kat_row9 ha k r hr hlt⟩, fun i => ?_, fun i hi => ?_, h.ok⟩, k.below hB (fun i hi => h.ge i (by have : lab i = 9 := hi; omega))⟩
  · unfold mark9
    split
    · omega
    · exact h.n8 i
  · unfold mark9 at hi
    split at hi
    · rename_i e
      subst e
      rcases hr with hr | hr
      · exact h.ge i (by omega)
      · omega
    · exact h.ge i hi
end

theorem mark9_same {lab : Nat → Nat} {r : Nat} (h : lab r = 9) : mark9 lab r = lab := by
  funext i
  unfold mark9
  split
  · rename_i e; rw [e, h]
  · rfl
theorem kb_keep9 {B : Nat} {w w' : World} {lab : Nat → Nat} {gk r : Nat} {K : Kn} (h : KB B w lab gk K) (hB : B ≤ w.heap.size) (k : Chg w w' (fun i => lab i = 9)) (hr : lab r = 9) (hlt : r < w'.heap.size) : KB B w' lab gk K ∧ Below B w w' := by
  have := kb_row9 h hB k r (.inl hr) hlt
  rw [mark9_same hr] at this
  exact this
/-- What cells tell of slots. -/
def Rep (cs : Array Value) (l : List Sl) : Prop := l.length * 7 ≤ cs.size ∧ ∀ k (h : k < l.length * 7), cs[k]? = (flat l)[k]?
theorem flat_slot {l : List Sl} {k : Nat} (h : k < l.length * 7) : (flat l)[k]? = (l[k / 7]'(by omega)).cells[k % 7]? := by
  have := flat_at (l := l) (i := k / 7) (j := k % 7) (by omega) (Nat.mod_lt _ (by omega))
  rw [show k / 7 * 7 + k % 7 = k from by omega] at this
  exact this
theorem rep_turn {cs cs' : Array Value} {l : List Sl} (h : Rep cs l) {i : Nat} (hi : i < l.length) {s : Sl} (hs : cs'.size = cs.size) (ho : ∀ k, k / 7 ≠ i → cs'[k]? = cs[k]?) (hn : ∀ j, j < 7 → cs'[i * 7 + j]? = s.cells[j]?) : Rep cs' (l.set i s) := by
  refine ⟨by rw [List.length_set, hs]; exact h.1, fun k hk => ?_⟩
  rw [List.length_set] at hk
  rw [flat_slot (by rw [List.length_set]; exact hk), List.getElem_set]
  by_cases e : i = k / 7
  · rw [if_pos e]
    have := hn (k % 7) (Nat.mod_lt _ (by omega))
    rw [← this]
    congr 1
    omega
  · rw [if_neg e, ho k (fun e' => e e'.symm), h.2 k hk, flat_slot hk]
theorem rep_cell {cs : Array Value} {l : List Sl} (h : Rep cs l) {i j : Nat} (hi : i < l.length) (hj : j < 7) {s : Sl} {v : Value} (hv : s.cells = (l[i]).cells.set j v) : Rep (cs.setIfInBounds (i * 7 + j) v) (l.set i s) := by
  have h1 := h.1
  refine rep_turn h hi (by simp) (fun k hk => ?_) (fun m hm => ?_)
  · rw [Array.getElem?_setIfInBounds_ne (by omega)]
  · rw [hv]
    by_cases e : m = j
    · subst e
      rw [Array.getElem?_setIfInBounds_self_of_lt (by omega), List.getElem?_set_self (by rw [Sl.len]; exact hm)]
    · rw [Array.getElem?_setIfInBounds_ne (by omega), List.getElem?_set_ne (fun e' => e e'.symm), h.2 _ (by omega), flat_at hi hm]
/-- The slots turned: all else stays. -/
theorem PB.turn {B : Nat} {w w' : World} {lab : Nat → Nat} {g gk gs c : Nat} {P : Po} (h : PB B w lab g gk gs c P) (hB : B ≤ w.heap.size) (l : List Sl) (hl : l.length = P.sl.length) (k : Chg w w' (fun b => b = gs)) {cs : Array Value} (hc : Blk w' gs 85 cs) (hr : Rep cs l) :
    PB B w' lab g gk gs c { P with sl := l } ∧ Below B w w' := by
  have k9 : Chg w w' (fun i => lab i = 9) := k.weak fun i e => by rw [e]; exact h.po.ls
  obtain ⟨k1, k2⟩ := kb_keep9 h.kb hB k9 h.po.ls hc.lt
  refine ⟨⟨k1, ?_⟩, k2⟩
  exact ⟨by show Blk w' g _ #[_, .slice _ l.length c, _, _]; rw [hl]; exact h.po.head.chg k h.po.ne, ⟨cs, hc, hr.1, hr.2⟩, by show l.length ≤ c; rw [hl]; exact h.po.cap, h.po.max, by show 1 ≤ l.length; rw [hl]; exact h.po.n1, by show l.length ≤ 256; rw [hl]; exact h.po.n2, by show _ < l.length; rw [hl]; exact h.po.hand, h.po.lg, h.po.ls, h.po.ne⟩
/-- The head turned: hand and fills. -/
theorem PB.turnHead {B : Nat} {w w' : World} {lab : Nat → Nat} {g gk gs c : Nat} {P : Po} (h : PB B w lab g gk gs c P) (hB : B ≤ w.heap.size) (hand fills : Nat) (hh : hand < P.sl.length) (k : Chg w w' (fun b => b = g)) (hc : Blk w' g 73 #[.pointer (some ⟨gk, 0, none⟩), .slice (some ⟨gs, 0, none⟩) P.sl.length c, .int .i64 (hand : Int), .int .i64 (fills : Int)]) :
    PB B w' lab g gk gs c { P with hand := hand, fills := fills } ∧ Below B w w' := by
  have k9 : Chg w w' (fun i => lab i = 9) := k.weak fun i e => by rw [e]; exact h.po.lg
  obtain ⟨k1, k2⟩ := kb_keep9 h.kb hB k9 h.po.lg hc.lt
  refine ⟨⟨k1, ?_⟩, k2⟩
  obtain ⟨cs, hb, hs⟩ := h.po.row
  exact ⟨hc, ⟨cs, hb.chg k (fun e => h.po.ne e.symm), hs⟩, h.po.cap, h.po.max, h.po.n1, h.po.n2, hh, h.po.lg, h.po.ls, h.po.ne⟩
/-- A cell of a slot stored. -/
theorem PB.cell {B : Nat} {w : World} {lab : Nat → Nat} {g gk gs c : Nat} {P : Po} (h : PB B w lab g gk gs c P) (hB : B ≤ w.heap.size) {i j : Nat} (hi : i < P.sl.length) (hj : j < 7) {s : Sl} {v : Value} (hv : s.cells = (P.sl[i]).cells.set j v) :
    PB B (w.setCell ⟨gs, i * 7 + j, none⟩ v) lab g gk gs c (P.put i s) ∧ Below B w (w.setCell ⟨gs, i * 7 + j, none⟩ v) := by
  obtain ⟨cs, hb, hs⟩ := h.po.row
  exact h.turn hB (P.sl.set i s) (List.length_set ..) (Chg.set w (i * 7 + j) v (g := gs) (S := fun b => b = gs) rfl) (hb.put (i * 7 + j) v) (rep_cell hs hi hj hv)
end Go.Proofs.YthnpalcjfgbjeaaGreat.Po

/- A pool: a slot emptied, a slot taken. Conditions: those that each states. -/
namespace Go.Proofs.YthnpalcjfgbjeaaGreat.Po
open Go.ChangeShapes Go.WideShapes Go.ChangeAt Go.RowKit Go.Deep Fr Di Ke
set_option linter.unusedVariables false

/-- Seven cells of a slot stored at once. -/
theorem rep_all {cs : Array Value} {l : List Sl} (h : Rep cs l) {i : Nat} (hi : i < l.length) (s : Sl) : Rep (cs.toList.take (i * 7) ++ s.cells ++ cs.toList.drop (i * 7 + 7)).toArray (l.set i s) := by
  have h1 := h.1
  have hl : cs.toList.length = cs.size := by simp
  refine rep_turn h hi (by simp only [List.size_toArray, List.length_append, List.length_take, List.length_drop, Sl.len, hl]; omega) (fun k hk => ?_) (fun j hj => ?_)
  · rw [List.getElem?_toArray]
    by_cases e : k < i * 7
    · rw [List.append_assoc, List.getElem?_append_left (by rw [List.length_take]; omega), List.getElem?_take_of_lt e]
      simp
    · rw [List.getElem?_append_right (by simp only [List.length_append, List.length_take, Sl.len]; omega), List.getElem?_drop]
      simp only [List.length_append, List.length_take, Sl.len]
      rw [show i * 7 + 7 + (k - (min (i * 7) cs.toList.length + 7)) = k from by omega]
      simp
  · rw [List.getElem?_toArray, List.append_assoc, List.getElem?_append_right (by rw [List.length_take]; omega), List.length_take, show i * 7 + j - min (i * 7) cs.toList.length = j from by omega, List.getElem?_append_left (by rw [Sl.len]; exact hj)]

set_option maxRecDepth 100000 in
set_option maxHeartbeats 1000000 in
theorem empty_any {B : Nat} {w : World} {lab : Nat → Nat} {g gk gs c : Nat} {P : Po} (h : PB B w lab g gk gs c P) (hB : B ≤ w.heap.size) {i : Nat} (hi : i < P.sl.length) :
    Calls Tryz.prog 38 #[.pointer (some ⟨gs, i * 7, none⟩)] w fun e w' => e = .returned (.tuple #[]) ∧ PB B w' lab g gk gs c (P.put i (Sl.bare P.sl[i].frame)) ∧ Chg w w' (fun b => b = gs) := by
  have c4 := (h.po.slot hi (j := 4) (by omega)).trans (show _ = some (.int .i64 (P.sl[i].frame : Int)) from rfl)
  obtain ⟨cs, hb, hs⟩ := h.po.row
  have HT := Lib.hid (h.turn hB (P.sl.set i (Sl.bare P.sl[i].frame)) (List.length_set ..) (Chg.setRow w (cs.toList.take (i * 7) ++ (Sl.bare P.sl[i].frame).cells ++ cs.toList.drop (i * 7 + 7)).toArray (g := gs) (S := fun b => b = gs) rfl) (hb.row _) (rep_all hs hi _))
  have h1 := hs.1
  have HB := Lib.hid hb
  clear h hb hs
  generalize P.sl[i].frame = f at *
  go_enter Tryz.func38, Tryz.ntmps38
  go_wp2_with (refine wpList_store_at rfl 85 (.tmp 8) (.tmp 7) rfl gs (i * 7) (Sl.bare f).cells.toArray rfl rfl 85 cs HB.out slot_info (by show i * 7 + 7 ≤ cs.size; omega) (by simp [Sl.bare, Sl.cells, Value.oneCell']) ?_)
  go_end0
  have HT := HT.out
  rw [List.append_assoc] at HT
  exact ⟨rfl, HT.1, Chg.setRow w _ (g := gs) (S := fun b => b = gs) rfl⟩

/-- What a call to a pool leaves: of the blocks that were there only labelled ones may have turned; what has a label now had one, or is new. -/
structure PStep (w w' : World) (lab lab' : Nat → Nat) : Prop where
  chg : Chg w w' (fun k => lab k ≠ 0)
  old : ∀ k, lab' k ≠ 0 → lab k ≠ 0 ∨ w.heap.size ≤ k
  hd : ∀ i, lab i = 1 → i < w.heap.size → w'.cell? ⟨i, 0, none⟩ = w.cell? ⟨i, 0, none⟩ ∧ lab' i = 1
theorem PStep.refl (w : World) (lab : Nat → Nat) : PStep w w lab lab := ⟨Chg.refl _ _, fun _ h => .inl h, fun _ h _ => ⟨rfl, h⟩⟩
theorem PStep.news {w w' : World} (lab : Nat → Nat) (h : Below w.heap.size w w') : PStep w w' lab lab := ⟨Chg.of_new h _, fun _ h => .inl h, fun i hi hl => ⟨World.cell?_of_block (h.block i hl), hi⟩⟩
theorem PStep.at_ {w w' : World} {lab : Nat → Nat} {r : Nat} (k : Chg w w' (fun b => b = r)) (hr : lab r ≠ 0 ∧ lab r ≠ 1) : PStep w w' lab lab := ⟨k.weak fun i e => by rw [e]; exact hr.1, fun _ h => .inl h, fun i hi hl => ⟨World.cell?_of_block (k.block i hl (fun e => hr.2 (by rw [← e]; exact hi))), hi⟩⟩
theorem PStep.ofL {w w' : World} {lab lab' : Nat → Nat} (h : LStep w w' lab lab') : PStep w w' lab lab' := ⟨h.chg.weak fun i e => e.1, h.old, h.hd⟩
theorem PStep.trans {w w' w2 : World} {lab lab' lab2 : Nat → Nat} (h : PStep w w' lab lab') (k : PStep w' w2 lab' lab2) : PStep w w2 lab lab2 := by
  refine ⟨⟨k.chg.os.trans h.chg.os, k.chg.tape.trans h.chg.tape, k.chg.output.trans h.chg.output, Nat.le_trans h.chg.size k.chg.size, fun i hi hn => ?_⟩, fun i hi => ?_, fun i hi hl => ⟨(k.hd i (h.hd i hi hl).2 (Nat.lt_of_lt_of_le hl h.chg.size)).1.trans (h.hd i hi hl).1, (k.hd i (h.hd i hi hl).2 (Nat.lt_of_lt_of_le hl h.chg.size)).2⟩⟩
  · refine (k.chg.block i (Nat.lt_of_lt_of_le hi h.chg.size) fun hf => ?_).trans (h.chg.block i hi hn)
    rcases h.old i hf with h1 | h1
    · exact hn h1
    · omega
  · rcases k.old i hi with h1 | h1
    · exact h.old i h1
    · exact .inr (Nat.le_trans h.chg.size h1)
theorem PStep.blk {w w' : World} {lab lab' : Nat → Nat} (h : PStep w w' lab lab') {i : Nat} {t : TypeId} {cs : Array Value} (hb : Blk w i t cs) (h0 : lab i = 0) : Blk w' i t cs := hb.chg h.chg (fun e => e h0)
theorem PStep.zero {w w' : World} {lab lab' : Nat → Nat} (h : PStep w w' lab lab') {i : Nat} (h0 : lab i = 0) (hi : i < w.heap.size) : lab' i = 0 := by
  by_cases e : lab' i = 0
  · exact e
  · rcases h.old i e with h1 | h1
    · exact absurd h0 h1
    · omega
theorem PStep.below {B : Nat} {w w' : World} {lab lab' : Nat → Nat} {g gk gs c : Nat} {P : Po} (h : PB B w lab g gk gs c P) (hB : B ≤ w.heap.size) (k : PStep w w' lab lab') : Below B w w' := k.chg.below hB (fun i hi => h.kb.ge i hi)
end Go.Proofs.YthnpalcjfgbjeaaGreat.Po
