/- Package ring at a transfer: what its functions do. Conditions: those that each states. -/
import Derived.Test.YtefnkednnnlhoaaGreatDoorMAK
import Derived.Deep.Cut
import Derived.Deep.CutBlock
import Derived.RegionTactic
import Derived.BigRegion
import Derived.WalkMore
import Derived.StillTailTactics
import Derived.Deep.QuietTactic
import Derived.BigQuiet
import Derived.Deep.OwnRows
import Derived.Test.YtefnkednnnlhoaaGreatDoorMAF
import Derived.Test.YtefnkednnnlhoaaGreatDoorGaH
namespace Go.Proofs.YtefnkednnnlhoaaGreatDoor.RgT
open Go.ChangeShapes Go.WideShapes Go.ChangeAt Go.RowKit Go.Deep
set_option linter.unusedVariables false

abbrev Ring (w : World) (gs g room first : Nat) (xs : List (Value × Value)) : Prop := RingW 140 185 w gs g room first xs

theorem infos : (Tryz.prog.info? 140).map (fun i => (i.zero.map (·.cells), i.size, i.bytes)) = some (some #[.int .i64 0, .slice none 0 0], 2, 32) := by kernel_rfl
theorem make_things (n : Nat) (hn : n ≤ 32) (W : World) :
    (Instr.makeSlice 183 (.int .i64 (n : Int)) (.int .i64 (n : Int))).run Tryz.prog W = .ok (.slice (some ⟨W.heap.size, 0, none⟩) n n) (W.alloc (.cells (madeCells #[.int .i64 0, .slice none 0 0] (n * 2)) 140)) := by
  obtain ⟨i, hi, hs⟩ := Option.map_eq_some_iff.1 infos
  simp only [Prod.mk.injEq] at hs
  obtain ⟨h0, h1, h2⟩ := hs
  obtain ⟨z, hz, hzc⟩ := Option.map_eq_some_iff.1 h0
  have hr := run_make (P := Tryz.prog) W 183 140 i z Tryz.underlying183 hi hz .i64 .i64 (n : Int) (n : Int) (by omega) (by omega) (by rw [h2]; omega) (by omega)
  simp only [h1, hzc, Int.toNat_natCast] at hr
  exact hr

set_option maxRecDepth 100000 in
theorem new_ok (room : Nat) (w : World) (h1 : 1 ≤ room) (h2 : room ≤ 32) :
    Calls Tryz.prog 55 #[.int .i64 (room : Int)] w fun e w' => e = .returned (.tuple #[.pointer (some ⟨w.heap.size + 1, 0, none⟩), .int .i64 0]) ∧ Ring w' w.heap.size (w.heap.size + 1) room 0 [] ∧ Below w.heap.size w w' ∧ w'.heap.size = w.heap.size + 2 := by
  have g1 : ¬ (room : Int) < 1 := by omega
  have g2 : ¬ (room : Int) > 32 := by omega
  have fin : ∀ W1 W2 : World, W1 = w.alloc (.cells (madeCells #[.int .i64 0, .slice none 0 0] (room * 2)) 140) → W2 = W1.alloc (.cells #[.slice (some ⟨w.heap.size, 0, none⟩) room room, .int .i64 0, .int .i64 0] 185) → Ring W2 w.heap.size (w.heap.size + 1) room 0 [] ∧ Below w.heap.size w W2 ∧ W2.heap.size = w.heap.size + 2 := by
    rintro W1 W2 rfl rfl
    refine ⟨⟨by omega, h1, h2, by simp, by simp, ?_, madeCells #[.int .i64 0, .slice none 0 0] (room * 2), (Blk.new w _ _).alloc _, size_madeCells _ _, fun j h => absurd h (by simp)⟩, ((Below.refl _ w).alloc (Nat.le_refl _) _).alloc (by simp) _, by simp⟩
    have := Blk.new (w.alloc (.cells (madeCells #[.int .i64 0, .slice none 0 0] (room * 2)) 140)) 185 #[.slice (some ⟨w.heap.size, 0, none⟩) room room, .int .i64 0, .int .i64 0]
    simpa using this
  have FIN := Lib.hid fin
  have hm := fun W => make_things room h2 W
  clear fin
  go_enter Tryz.func55, Tryz.ntmps55
  go_wp2
  go_ret2
  exact ⟨rfl, FIN.out _ _ rfl rfl⟩
theorem place_any (gs g room first : Nat) (xs : List (Value × Value)) (t : Nat) (w : World) (h : Ring w gs g room first xs) :
    Calls Tryz.prog 142 #[.pointer (some ⟨g, 0, none⟩), .int .i64 (t : Int)] w fun e w' => e = .returned (.int .i64 ((t % room : Nat) : Int)) ∧ w' = w := by
  have c0 := h.head.cell 0
  simp only [List.getElem?_toArray, List.getElem?_cons_zero] at c0
  have r1 := h.r1
  have r2 := h.r2
  have hr0 : (room : Int) ≠ 0 := by omega
  have x0 : Int.tmod (t : Int) (room : Int) = ((t % room : Nat) : Int) := by rw [Int.tmod_eq_emod_of_nonneg (by omega)]; omega
  have X0 := Lib.hid x0
  clear h x0
  go_enter Tryz.func142, Tryz.ntmps142
  go_wp2
  go_ret
  exact ⟨by first | rfl | (rw [← X0.out]) | simp, rfl⟩

theorem len_any (gs g room first : Nat) (xs : List (Value × Value)) (w : World) (h : Ring w gs g room first xs) :
    Calls Tryz.prog 137 #[.pointer (some ⟨g, 0, none⟩)] w fun e w' => e = .returned (.int .i64 (xs.length : Int)) ∧ ∃ m, w' = w.drewN m := by
  have c1 := h.head.cell 1
  have c2 := h.head.cell 2
  simp only [List.getElem?_toArray, List.getElem?_cons_succ, List.getElem?_cons_zero] at c1 c2
  have hs := h.small
  generalize hn : (first : Int) + (xs.length : Int) = nx at *
  have x0 : IntKind.i64.wrap (nx - (first : Int)) = (xs.length : Int) := by
    rw [IntWalk.i64_in _ (by omega)]; omega
  clear h hn
  go_enter Tryz.func137, Tryz.ntmps137
  go_wp2_with fail
  go_quiet (fail)
  go_wp2
  go_ret
  exact ⟨rfl, _, rfl⟩
theorem room_any (gs g room first : Nat) (xs : List (Value × Value)) (w : World) (h : Ring w gs g room first xs) :
    Calls Tryz.prog 111 #[.pointer (some ⟨g, 0, none⟩)] w fun e w' => e = .returned (.int .i64 ((room : Int) - (xs.length : Int))) ∧ ∃ m, w' = w.drewN m := by
  have c0 := h.head.cell 0
  simp only [List.getElem?_toArray, List.getElem?_cons_zero] at c0
  have hl := h.len
  have h2 := h.r2
  have x0 : IntKind.i64.wrap ((room : Int) - (xs.length : Int)) = (room : Int) - (xs.length : Int) := IntWalk.i64_in _ (by omega)
  have H := Lib.hid h
  clear h
  go_enter Tryz.func111, Tryz.ntmps111
  go_wp2_with fail
  go_quiet ((go_at_call 137; exact Calls.quiet_of (len_any gs g room first xs _ (H.out.drewN _))))
  go_wp2
  go_ret
  exact ⟨rfl, _, rfl⟩


/-- The block that a struct of a transfer's kind lies in, new. -/
abbrev box (w : World) (te : Int) (tA : Option Addr) (tn tc : Nat) : World := w.alloc (.cells #[.int .i64 te, .slice tA tn tc] 140)

set_option maxRecDepth 100000 in
set_option maxHeartbeats 1000000 in
theorem put_ok (gs g room first : Nat) (xs : List (Value × Value)) (te : Int) (tA : Option Addr) (tn tc : Nat) (w : World) (h : Ring w gs g room first xs) (hl : xs.length < room) (hs : first + xs.length < 1000000) :
    Calls Tryz.prog 113 #[.pointer (some ⟨g, 0, none⟩), .agg #[.int .i64 te, .slice tA tn tc]] w fun e w' => e = .returned (.tuple #[.int .i64 ((first : Int) + (xs.length : Int)), .int .i64 0]) ∧ Ring w' gs g room first (xs ++ [(.int .i64 te, .slice tA tn tc)]) ∧ Chg w w' (fun k => k = gs ∨ k = g) := by
  have hb1 : Below w.heap.size w (box w te tA tn tc) := (Below.refl _ w).alloc (Nat.le_refl _) _
  have h1 := h.new hb1
  have bb := Blk.new w 140 #[.int .i64 te, .slice tA tn tc]
  obtain ⟨W, hW⟩ : ∃ W, W = box w te tA tn tc := ⟨_, rfl⟩
  rw [← hW] at h1 hb1
  have fin : ∀ n m : Nat, ∃ W2, W2 = (((W.drewN n).setCell ⟨gs, (first + xs.length) % room * 2, none⟩ (.int .i64 te)).setCell ⟨gs, (first + xs.length) % room * 2 + 1, none⟩ (.slice tA tn tc)).setCell ⟨g, 2, none⟩ (.int .i64 ((first : Int) + (xs.length : Int) + 1)) ∧ Ring (W2.drewN m) gs g room first (xs ++ [(.int .i64 te, .slice tA tn tc)]) ∧ Chg w (W2.drewN m) (fun k => k = gs ∨ k = g) := by
    intro n m
    refine ⟨_, rfl, (h1.put hl hs (.int .i64 te) (.slice tA tn tc) n).drewN m, Chg.drewN ?_ m⟩
    exact ((((Chg.of_new hb1 _).drewN n).trans (Chg.set _ _ _ (.inl rfl))).trans (Chg.set _ _ _ (.inl rfl))).trans (Chg.set _ _ _ (.inr rfl))
  have FIN := Lib.hid fin
  have d0 : W.cell? ⟨w.heap.size, 0, none⟩ = some (.int .i64 te) := by rw [hW]; exact (bb.cell 0).trans rfl
  have d1 : W.cell? ⟨w.heap.size, 1, none⟩ = some (.slice tA tn tc) := by rw [hW]; exact (bb.cell 1).trans rfl
  have c0 := h1.head.cell 0
  have c2 := h1.head.cell 2
  simp only [List.getElem?_toArray, List.getElem?_cons_succ, List.getElem?_cons_zero] at c0 c2
  have hne : gs ≠ g := Nat.ne_of_lt h.lt
  obtain ⟨u, v, cu, cv⟩ := h1.place (first + xs.length)
  have ft := h1.thaw ((first + xs.length) % room * 2)
  have ft2 := h1.thaw ((first + xs.length) % room * 2 + 1)
  have fg := h1.head.frozen 2
  have hm : (first + xs.length) % room < room := Nat.mod_lt _ h.r1
  have r2 := h.r2
  have rm := fun W hW => room_any gs g room first xs W hW
  obtain ⟨q, hq, hq0⟩ : ∃ q : Int, q = (room : Int) - (xs.length : Int) ∧ ¬ q = 0 := ⟨_, rfl, by have := h.r1; omega⟩
  rw [← hq] at rm
  have RM := Lib.hid rm
  have pl := fun W hW => place_any gs g room first xs (first + xs.length) W hW
  rw [Int.natCast_add] at pl
  have PL := Lib.hid pl
  have H := Lib.hid h1
  generalize hp : (first + xs.length) % room = p at *
  have hpr : (p : Int) < (room : Int) := by omega
  have hp0 : (0 : Int) ≤ (p : Int) := by omega
  have HW := Lib.hid hW
  clear fin h hq rm hp pl h1 hb1 hW bb
  go_enter Tryz.func113, Tryz.ntmps113
  go_wp2_with fail
  rw [show w.alloc (.cells #[.int .i64 te, .slice tA tn tc] 140) = W from HW.out.symm]
  refine (RM.out _ H.out).mono ?_; rintro e w1 ⟨rfl, m1, rfl⟩
  go_wp2_with fail
  refine wp_region_still_tail 9 (by kernel_rfl) (by kernel_rfl) ?_
  change wpStill _ _ (W.drewN m1).drew (fun a' => wpList _ _ _ _ a' (W.drewN m1).drew) _ _
  simp only [List.take_succ_cons, List.take_zero, List.drop_succ_cons, List.drop_zero]
  repeat still_step
  still_call (PL.out _ ((H.out.drewN m1).drewN 1))
  repeat still_step
  refine wpStill_nil ?_
  go_wp2
  go_ret2
  obtain ⟨W, rfl, r1, r2⟩ := FIN.out m1 1
  exact ⟨rfl, r1, r2⟩

end Go.Proofs.YtefnkednnnlhoaaGreatDoor.RgT

/- A kernel in plain words, what each call does to it, and how it lies in memory. Conditions: those that each states. -/
namespace Go.Proofs.YtefnkednnnlhoaaGreatDoor.Ke
open Go.ChangeShapes Go.WideShapes Go.ChangeAt Go.RowKit Go.Deep Fr Di
set_option linter.unusedVariables false

structure Fil where
  id : Nat
  env : Nat
  p : List Ins
structure Tr where
  env : Nat
  l : List Pc
structure Kn where
  ps : List Pg
  dk : Dk
  fs : List Fil
  next : Nat
  i1 : List (List UInt8)
  f1 : Nat
  i2 : List (List UInt8)
  f2 : Nat
  out : List Tr
  f3 : Nat
  done : Nat
/-- A call, in plain words. -/
structure KQ where
  op : Int
  env : Int
  a : Int
  b : Int
  c : Int
  s : List UInt8
  p : List Ins
  l : List Pc

/-- Whether a program may be a filter. -/
def lastB (p : List Ins) : Bool := match p[p.length - 1]? with | some q => q.code == 7 || q.code == 8 | none => true
def chkB (p : List Ins) : Bool := decide (1 ≤ p.length) && decide (p.length ≤ 64) && ((List.range p.length).all fun i => match p[i]? with | some q => mayB q ((p.length : Int) - 1 - i) | none => true) && lastB p
theorem lastB_iff (p : List Ins) : lastB p = true ↔ ∀ (h : p.length - 1 < p.length), p[p.length - 1].code = 7 ∨ p[p.length - 1].code = 8 := by
  unfold lastB
  by_cases h : p.length - 1 < p.length
  · rw [List.getElem?_eq_getElem h]
    simp [h]
  · rw [List.getElem?_eq_none (by omega)]
    simp [h]
theorem chkB_iff (p : List Ins) : chkB p = true ↔ Chk p := by
  unfold chkB
  simp only [Bool.and_eq_true, decide_eq_true_eq, List.all_eq_true, List.mem_range, lastB_iff]
  constructor
  · rintro ⟨⟨⟨h1, h2⟩, h3⟩, h4⟩
    refine ⟨h1, h2, fun i hi => ?_, h4⟩
    have := h3 i hi
    rw [List.getElem?_eq_getElem hi] at this
    exact this
  · rintro ⟨h1, h2, h3, h4⟩
    refine ⟨⟨⟨h1, h2⟩, fun i hi => ?_⟩, h4⟩
    rw [List.getElem?_eq_getElem hi]
    exact h3 i hi

def isFil (id env : Int) (f : Fil) : Bool := decide ((f.id : Int) = id) && decide ((f.env : Int) = env)
def bindR (K : Kn) (env : Int) (p : List Ins) : Kn × Int × Int :=
  if 8 ≤ K.fs.length then (K, 0, 10) else if chkB p = true then ({ K with fs := K.fs ++ [⟨K.next, env.toNat, p⟩], next := K.next + 1 }, (K.next : Int), 0) else (K, 0, 40)
def unbindR (K : Kn) (env id : Int) : Kn × Int :=
  match K.fs.findIdx? (isFil id env) with | some i => ({ K with fs := K.fs.eraseIdx i }, 0) | none => (K, 11)
def submitR (K : Kn) (env : Int) (l : List Pc) : Kn × Int × Int :=
  if 16 ≤ K.out.length then (K, 0, 10) else
  if (holdG K.ps env l).2 = 0 then ({ K with ps := (holdG K.ps env l).1, out := K.out ++ [⟨env.toNat, l⟩] }, (K.f3 : Int) + (K.out.length : Int), 0) else (K, 0, (holdG K.ps env l).2)
def takeR (K : Kn) (env : Int) : Kn × List UInt8 × Int :=
  if env = 1 then (match K.i1 with | s :: r => ({ K with i1 := r, f1 := K.f1 + 1 }, s, 0) | [] => (K, [], 11))
  else (match K.i2 with | s :: r => ({ K with i2 := r, f2 := K.f2 + 1 }, s, 0) | [] => (K, [], 11))
def callR (K : Kn) (q : KQ) : Kn × Int × List UInt8 × Int :=
  if ¬ (q.env = 1 ∨ q.env = 2) then (K, 0, [], 1)
  else if q.op = 1 then ({ K with ps := (Fr.allocR K.ps q.env).1 }, (Fr.allocR K.ps q.env).2.1, [], (Fr.allocR K.ps q.env).2.2)
  else if q.op = 2 then ({ K with ps := (Fr.freeR K.ps q.env q.a).1 }, 0, [], (Fr.freeR K.ps q.env q.a).2)
  else if q.op = 3 then ({ K with ps := (Fr.giveR K.ps q.env q.a q.b).1 }, 0, [], (Fr.giveR K.ps q.env q.a q.b).2)
  else if q.op = 4 then (K, 0, (Fr.readR K.ps q.env q.a q.b q.c).1, (Fr.readR K.ps q.env q.a q.b q.c).2)
  else if q.op = 5 then ({ K with ps := (Fr.writeR K.ps q.env q.a q.b q.s).1 }, 0, [], (Fr.writeR K.ps q.env q.a q.b q.s).2)
  else if q.op = 6 then (K, 0, (readR K.dk q.env q.a).1, (readR K.dk q.env q.a).2)
  else if q.op = 7 then ({ K with dk := (writeR K.dk q.env q.a q.s).1 }, 0, [], (writeR K.dk q.env q.a q.s).2)
  else if q.op = 8 then ({ K with dk := (syncR K.dk).1 }, 0, [], (syncR K.dk).2)
  else if q.op = 9 then ((bindR K q.env q.p).1, (bindR K q.env q.p).2.1, [], (bindR K q.env q.p).2.2)
  else if q.op = 10 then ((unbindR K q.env q.a).1, 0, [], (unbindR K q.env q.a).2)
  else if q.op = 11 then ((submitR K q.env q.l).1, (submitR K q.env q.l).2.1, [], (submitR K q.env q.l).2.2)
  else if q.op = 12 then ((takeR K q.env).1, 0, (takeR K q.env).2.1, (takeR K q.env).2.2)
  else if q.op = 13 then (K, (K.done : Int), [], 0)
  else (K, 0, [], 1)
/-- How often the transfers that wait hold a frame. -/
def heldN (o : List Tr) (f : Int) : Nat := (o.map fun t => cnt t.l f).sum
structure Tr.Ok (ps : List Pg) (t : Tr) : Prop where
  ne : t.l ≠ []
  n : t.l.length ≤ 16
  ok : ∀ p ∈ t.l, p.Ok
  fits : ∀ p ∈ t.l, p.Fits ps.length
  own : ∀ p ∈ t.l, (pg ps p.frame).owner = t.env
  e1 : 1 ≤ t.env
  e2 : t.env ≤ 2
structure Fil.Ok (f : Fil) : Prop where
  chk : Chk f.p
  ok : ∀ q ∈ f.p, q.Ok
  e1 : 1 ≤ f.env
  e2 : f.env ≤ 2
structure Kn.Ok (K : Kn) : Prop where
  f8 : K.fs.length ≤ 8
  fs : ∀ f ∈ K.fs, f.Ok
  n1 : K.i1.length ≤ 16
  n2 : K.i2.length ≤ 16
  no : K.out.length ≤ 16
  s1 : ∀ s ∈ K.i1, s.length ≤ 1024
  s2 : ∀ s ∈ K.i2, s.length ≤ 1024
  out : ∀ t ∈ K.out, t.Ok K.ps
  holds : ∀ k (h : k < K.ps.length), K.ps[k].holds = heldN K.out (k : Int)
  on : K.dk.on = true
  arm : K.dk.armed = -1
  pok : ∀ p ∈ K.ps, p.Ok
  dok : K.dk.Ok
  f3 : K.f3 = K.done
structure Kn.Small (K : Kn) (n : Nat) : Prop where
  next : K.next ≤ n
  a1 : K.f1 + K.i1.length ≤ n
  a2 : K.f2 + K.i2.length ≤ n
  out : K.f3 + K.out.length ≤ n
  done : K.done ≤ n
  line : K.dk.line.length ≤ n
theorem cnt_le_len (l : List Pc) (f : Int) : cnt l f ≤ l.length := cnt_len l f
theorem heldN_le {ps : List Pg} {o : List Tr} (h : ∀ t ∈ o, t.Ok ps) (f : Int) : heldN o f ≤ o.length * 16 := by
  induction o with
  | nil => simp [heldN]
  | cons t o ih =>
    have h1 := ih (fun t ht => h t (by simp [ht]))
    have h2 := cnt_le_len t.l f
    have h3 := (h t (by simp)).n
    unfold heldN at *
    rw [List.map_cons, List.sum_cons, List.length_cons]
    omega
theorem Kn.Ok.hm {K : Kn} (h : K.Ok) : ∀ p ∈ K.ps, p.holds + 16 < 1000000 := by
  intro p hp
  obtain ⟨k, hk, rfl⟩ := List.mem_iff_getElem.1 hp
  have h1 := h.holds k hk
  have h2 := heldN_le h.out (k : Int)
  have h3 := h.no
  omega

/-! In memory. -/
/-- No block of what lies at A, n elements of it, is F's. -/
def Off (F : Nat → Prop) (A : Option Addr) (n : Nat) : Prop := 0 < n → ∀ b o, A = some ⟨b, o, none⟩ → ¬ F b
section
variable {w w' : World} {F F' : Nat → Prop} {A : Option Addr} {n c : Nat}
theorem Fresh.off (h : Fresh w A n) (hF : ∀ k, F k → k < w.heap.size) : Off F A n := fun h0 b o e hf => by
  have := h h0 b o e
  have := hF b hf
  omega
theorem Src.lt_ {s : List UInt8} (h : Src w A n c s) (hn : 0 < n) : ∃ b o, A = some ⟨b, o, none⟩ ∧ b < w.heap.size := by
  have hl := h.len
  obtain ⟨b, o, e, hb, _⟩ := h.lies (by rw [bys_length]; omega)
  exact ⟨b, o, e, hb⟩
theorem Src.step {s : List UInt8} (h : Src w A n c s) (k : Step w w' F F') (ho : Off F A n) : Src w' A n c s := by
  refine ⟨⟨fun hp => ?_, h.len, h.cap, h.max⟩, h.none_⟩
  obtain ⟨b, o, e, hb, hc⟩ := h.lies hp
  have hn : 0 < n := by rw [bys_length, h.len] at hp; exact hp
  refine ⟨b, o, e, Nat.lt_of_lt_of_le hb k.1.size, fun j hj => ?_⟩
  rw [World.cell?_of_block (w := w) (w' := w') (a := ⟨b, o + j, none⟩) (k.1.block b hb (ho hn b o e))]
  exact hc j hj
theorem Off.step {b0 o0 : Nat} (ho : Off F A n) (k : Step w w' F F') (hl : 0 < n → ∃ b o, A = some ⟨b, o, none⟩ ∧ b < w.heap.size) : Off F' A n := fun h0 b o e hf => by
  obtain ⟨b', o', e', hb⟩ := hl h0
  rw [e] at e'
  cases e'
  rcases k.2 b hf with h1 | h1
  · exact ho h0 b o e h1
  · omega
theorem Prg.step {p : List Ins} (h : Prg w A p) (k : Step w w' F F') (ho : Off F A p.length) : Prg w' A p := by
  intro i hi
  obtain ⟨b, o, e, hb, h1⟩ := h i hi
  refine ⟨b, o, e, Nat.lt_of_lt_of_le hb k.1.size, fun j v hj => ?_⟩
  rw [World.cell?_of_block (w := w) (w' := w') (a := ⟨b, o + i * 4 + j, none⟩) (k.1.block b hb (ho (by omega) b o e))]
  exact h1 j v hj
theorem Pcs.step {p : List Pc} (h : Pcs w A p) (k : Step w w' F F') (ho : Off F A p.length) : Pcs w' A p := by
  intro i hi
  obtain ⟨b, o, e, hb, h1⟩ := h i hi
  refine ⟨b, o, e, Nat.lt_of_lt_of_le hb k.1.size, fun j v hj => ?_⟩
  rw [World.cell?_of_block (w := w) (w' := w') (a := ⟨b, o + i * 3 + j, none⟩) (k.1.block b hb (ho (by omega) b o e))]
  exact h1 j v hj
theorem Prg.lt_ {p : List Ins} (h : Prg w A p) : 0 < p.length → ∃ b o, A = some ⟨b, o, none⟩ ∧ b < w.heap.size := fun h0 => by
  obtain ⟨b, o, e, hb, _⟩ := h 0 h0
  exact ⟨b, o, e, hb⟩
theorem Pcs.lt_ {p : List Pc} (h : Pcs w A p) : 0 < p.length → ∃ b o, A = some ⟨b, o, none⟩ ∧ b < w.heap.size := fun h0 => by
  obtain ⟨b, o, e, hb, _⟩ := h 0 h0
  exact ⟨b, o, e, hb⟩
end
/-- A packet, a filter, a transfer in a row. -/
def PkAt (w : World) (F : Nat → Prop) (v : Value) (s : List UInt8) : Prop := ∃ A c, v = .slice A s.length c ∧ Src w A s.length c s ∧ Off F A s.length
def FilAt (w : World) (F : Nat → Prop) (q : FM) (f : Fil) : Prop := q.id = (f.id : Int) ∧ q.env = (f.env : Int) ∧ q.n = f.p.length ∧ Prg w q.A f.p ∧ Off F q.A f.p.length
def TrAt (w : World) (F : Nat → Prop) (u : Value × Value) (t : Tr) : Prop := ∃ A c, u = (.int .i64 (t.env : Int), .slice A t.l.length c) ∧ Pcs w A t.l ∧ Off F A t.l.length ∧ t.l.length ≤ c
/-- Two lists, one thing of the one beside one of the other. -/
def Pair {α β : Type} (R : α → β → Prop) (l : List α) (r : List β) : Prop := l.length = r.length ∧ ∀ i (h : i < l.length) (h' : i < r.length), R l[i] r[i]
section
variable {α β : Type} {R R' : α → β → Prop} {l : List α} {r : List β}
theorem Pair.nil : Pair R [] [] := ⟨rfl, fun i h => absurd h (by simp)⟩
theorem Pair.weak (h : Pair R l r) (k : ∀ x y, y ∈ r → R x y → R' x y) : Pair R' l r := ⟨h.1, fun i h1 h2 => k _ _ (List.getElem_mem h2) (h.2 i h1 h2)⟩
theorem Pair.snoc (h : Pair R l r) {x : α} {y : β} (hx : R x y) : Pair R (l ++ [x]) (r ++ [y]) := by
  refine ⟨by simp [h.1], fun i h1 h2 => ?_⟩
  by_cases e : i < l.length
  · rw [List.getElem_append_left e, List.getElem_append_left (by have := h.1; omega)]
    exact h.2 i e _
  · have h3 : i = l.length := by simp at h1; omega
    subst h3
    have e2 : (r ++ [y])[l.length]'h2 = y := by
      rw [List.getElem_append_right (by have := h.1; omega)]; simp [h.1]
    rw [e2]
    simpa using hx
theorem Pair.cons_inv {y : β} (h : Pair R l (y :: r)) : ∃ x l', l = x :: l' ∧ R x y ∧ Pair R l' r := by
  cases l with
  | nil => have := h.1; simp at this
  | cons x l' => exact ⟨x, l', rfl, h.2 0 (by simp) (by simp), by have := h.1; simpa using this, fun i h1 h2 => h.2 (i + 1) (by simp; omega) (by simp; omega)⟩
theorem Pair.nil_inv (h : Pair R l ([] : List β)) : l = [] := List.length_eq_zero_iff.1 h.1
theorem Pair.erase (h : Pair R l r) (i : Nat) : Pair R (l.eraseIdx i) (r.eraseIdx i) := by
  refine ⟨by rw [List.length_eraseIdx, List.length_eraseIdx, h.1], fun j h1 h2 => ?_⟩
  rw [List.getElem_eraseIdx, List.getElem_eraseIdx]
  split
  · exact h.2 _ _ _
  · exact h.2 _ _ _
theorem Pair.findIdx {p : α → Bool} {q : β → Bool} (h : Pair R l r) (hpq : ∀ x y, R x y → p x = q y) : l.findIdx? p = r.findIdx? q := by
  induction l generalizing r with
  | nil =>
    have : r = [] := List.length_eq_zero_iff.1 h.1.symm
    rw [this]; rfl
  | cons x l ih =>
    cases r with
    | nil => have := h.1; simp at this
    | cons y r =>
      have hxy : p x = q y := hpq _ _ (h.2 0 (by simp) (by simp))
      have hi := ih (r := r) ⟨by have := h.1; simpa using this, fun i h1 h2 => h.2 (i + 1) (by simp; omega) (by simp; omega)⟩
      rw [List.findIdx?_cons, List.findIdx?_cons, hxy, hi]
end
theorem PkAt.step {w w' : World} {F F' : Nat → Prop} {v : Value} {s : List UInt8} (h : PkAt w F v s) (k : Step w w' F F') : PkAt w' F' v s := by
  obtain ⟨A, c, e, h1, h2⟩ := h
  exact ⟨A, c, e, Src.step h1 k h2, Off.step (b0 := 0) (o0 := 0) h2 k fun h0 => Src.lt_ h1 h0⟩
theorem FilAt.step {w w' : World} {F F' : Nat → Prop} {q : FM} {f : Fil} (h : FilAt w F q f) (k : Step w w' F F') : FilAt w' F' q f := by
  obtain ⟨e1, e2, e3, h1, h2⟩ := h
  exact ⟨e1, e2, e3, Prg.step h1 k h2, Off.step (b0 := 0) (o0 := 0) h2 k (Prg.lt_ h1)⟩
theorem TrAt.step {w w' : World} {F F' : Nat → Prop} {u : Value × Value} {t : Tr} (h : TrAt w F u t) (k : Step w w' F F') : TrAt w' F' u t := by
  obtain ⟨A, c, e, h1, h2, h3⟩ := h
  exact ⟨A, c, e, Pcs.step h1 k h2, Off.step (b0 := 0) (o0 := 0) h2 k (Pcs.lt_ h1), h3⟩

/-- Where the parts of a kernel lie. -/
structure Ad where
  gs : Nat
  gt : Nat
  gd : Nat
  A : Option Addr
  c : Nat
  fm : List FM
  a1 : Nat
  b1 : Nat
  x1 : List Value
  a2 : Nat
  b2 : Nat
  x2 : List Value
  a3 : Nat
  b3 : Nat
  x3 : List (Value × Value)
/-- What the label tells to be the kernel's own. -/
def on (lab : Nat → Nat) : Nat → Prop := fun k => lab k ≠ 0
/-- A kernel in memory: its head is block g; lab tells of each block whose it is: 1 the head, 2 the table, 3 the disk, 4 the filters' row, 5 and 6 the rings of packets, 7 the ring of transfers, 0 no part's. -/
structure KAt (w : World) (lab : Nat → Nat) (g : Nat) (K : Kn) (a : Ad) : Prop where
  head : Blk w g 91 #[.pointer (some ⟨a.gt, 0, none⟩), .pointer (some ⟨a.gd, 0, none⟩), .slice a.A K.fs.length a.c, .int .i64 (K.next : Int), .pointer (some ⟨a.b1, 0, none⟩), .pointer (some ⟨a.b2, 0, none⟩), .pointer (some ⟨a.b3, 0, none⟩), .int .i64 (K.done : Int)]
  tab : Fr.Tab w a.gs a.gt K.ps
  dk : DA w (fun k => lab k = 3) a.gd K.dk
  row : FRow w a.A a.c a.fm
  fil : Pair (FilAt w (on lab)) a.fm K.fs
  r1 : RgP.Ring w a.a1 a.b1 16 K.f1 a.x1
  p1 : Pair (PkAt w (on lab)) a.x1 K.i1
  r2 : RgP.Ring w a.a2 a.b2 16 K.f2 a.x2
  p2 : Pair (PkAt w (on lab)) a.x2 K.i2
  r3 : RgT.Ring w a.a3 a.b3 16 K.f3 a.x3
  p3 : Pair (TrAt w (on lab)) a.x3 K.out
  lg : lab g = 1
  lt1 : lab a.gs = 2
  lt2 : lab a.gt = 2
  lr : ∀ b, inB a.A b → lab b = 4
  l11 : lab a.a1 = 5
  l12 : lab a.b1 = 5
  l21 : lab a.a2 = 6
  l22 : lab a.b2 = 6
  l31 : lab a.a3 = 7
  l32 : lab a.b3 = 7
  all : ∀ k, lab k ≠ 0 → k < w.heap.size
def KA (w : World) (lab : Nat → Nat) (g : Nat) (K : Kn) : Prop := ∃ a, KAt w lab g K a
theorem Step.of_chg {w w' : World} {F S : Nat → Prop} (h : Chg w w' S) (hs : ∀ k, S k → F k) : Step w w' F F := ⟨h.weak hs, fun k hk => .inl hk⟩
theorem Step.news {w w' : World} {F : Nat → Prop} (h : Below w.heap.size w w') : Step w w' F F := ⟨Chg.of_new h _, fun k hk => .inl hk⟩
/-- Of the kernel's parts' blocks only may have turned; what has a label now had one, or is new; what is labelled beyond the parts stays so. -/
structure LStep (w w' : World) (lab lab' : Nat → Nat) : Prop where
  chg : Chg w w' (fun k => lab k ≠ 0 ∧ lab k ≤ 7)
  old : ∀ k, lab' k ≠ 0 → lab k ≠ 0 ∨ w.heap.size ≤ k
  keep : ∀ k, 8 ≤ lab k → lab' k = lab k
  hd : ∀ i, lab i = 1 → i < w.heap.size → w'.cell? ⟨i, 0, none⟩ = w.cell? ⟨i, 0, none⟩ ∧ lab' i = 1
theorem LStep.step {w w' : World} {lab lab' : Nat → Nat} (h : LStep w w' lab lab') : Step w w' (on lab) (on lab') := ⟨h.chg.weak fun i hi => hi.1, h.old⟩
theorem LStep.of {w w' : World} {lab : Nat → Nat} {m : Nat} (k : Chg w w' (fun i => lab i = m)) (h0 : m ≠ 0) (h7 : m ≤ 7) (h1 : m ≠ 1) : LStep w w' lab lab :=
  ⟨k.weak fun i hi => by rw [hi]; exact ⟨h0, h7⟩, fun k hk => .inl hk, fun k _ => rfl, fun i hi hl => ⟨World.cell?_of_block (k.block i hl (fun e : lab i = m => h1 (e.symm.trans hi))), hi⟩⟩
theorem LStep.news {w w' : World} (lab : Nat → Nat) (h : Below w.heap.size w w') : LStep w w' lab lab := ⟨Chg.of_new h _, fun k hk => .inl hk, fun k _ => rfl, fun i hi hl => ⟨World.cell?_of_block (h.block i hl), hi⟩⟩
theorem LStep.drawn {w : World} (lab : Nat → Nat) (n : Nat) : LStep w (w.drewN n) lab lab := ⟨⟨rfl, rfl, rfl, Nat.le_refl _, fun _ _ _ => rfl⟩, fun _ h => .inl h, fun k _ => rfl, fun i hi _ => ⟨rfl, hi⟩⟩
theorem LStep.trans {w w' w2 : World} {lab lab' lab2 : Nat → Nat} (h : LStep w w' lab lab') (k : LStep w' w2 lab' lab2) : LStep w w2 lab lab2 := by
  refine ⟨⟨k.chg.os.trans h.chg.os, k.chg.tape.trans h.chg.tape, k.chg.output.trans h.chg.output, Nat.le_trans h.chg.size k.chg.size, fun i hi hn => ?_⟩, fun i hi => ?_, fun i hi => (k.keep i (by rw [h.keep i hi]; exact hi)).trans (h.keep i hi), fun i hi hl => ⟨(k.hd i (h.hd i hi hl).2 (Nat.lt_of_lt_of_le hl h.chg.size)).1.trans (h.hd i hi hl).1, (k.hd i (h.hd i hi hl).2 (Nat.lt_of_lt_of_le hl h.chg.size)).2⟩⟩
  · refine (k.chg.block i (Nat.lt_of_lt_of_le hi h.chg.size) fun hf => ?_).trans (h.chg.block i hi hn)
    rcases h.old i hf.1 with h1 | h1
    · by_cases h8 : 8 ≤ lab i
      · have := h.keep i h8
        omega
      · exact hn ⟨h1, by omega⟩
    · omega
  · rcases k.old i hi with h1 | h1
    · exact h.old i h1
    · exact .inr (Nat.le_trans h.chg.size h1)
section
variable {w w' : World} {lab : Nat → Nat} {g m : Nat} {K : Kn} {a : Ad} {S : Nat → Prop}
theorem KAt.new (h : KAt w lab g K a) (k : Below w.heap.size w w') : KAt w' lab g K a := by
  have hs : Step w w' (on lab) (on lab) := Step.news k
  exact ⟨h.head.older (older_below k), h.tab.new k, h.dk.new k, RowW.new h.row k, h.fil.weak (fun _ _ _ h => h.step hs), h.r1.new k, h.p1.weak (fun _ _ _ h => h.step hs), h.r2.new k, h.p2.weak (fun _ _ _ h => h.step hs), h.r3.new k, h.p3.weak (fun _ _ _ h => h.step hs),
    h.lg, h.lt1, h.lt2, h.lr, h.l11, h.l12, h.l21, h.l22, h.l31, h.l32, fun i hi => Nat.lt_of_lt_of_le (h.all i hi) k.size⟩
theorem KAt.drewN (h : KAt w lab g K a) (n : Nat) : KAt (w.drewN n) lab g K a := h.new ⟨rfl, rfl, rfl, Nat.le_refl _, fun _ _ => rfl⟩
/-- Of the labelled blocks only those of one part may have turned. -/
theorem KAt.keep (h : KAt w lab g K a) (k : Chg w w' (fun i => lab i = m)) (hm : m ≠ 0) :
    (m ≠ 1 → Blk w' g 91 #[.pointer (some ⟨a.gt, 0, none⟩), .pointer (some ⟨a.gd, 0, none⟩), .slice a.A K.fs.length a.c, .int .i64 (K.next : Int), .pointer (some ⟨a.b1, 0, none⟩), .pointer (some ⟨a.b2, 0, none⟩), .pointer (some ⟨a.b3, 0, none⟩), .int .i64 (K.done : Int)]) ∧
    (m ≠ 2 → Fr.Tab w' a.gs a.gt K.ps) ∧ (m ≠ 3 → DA w' (fun k => lab k = 3) a.gd K.dk) ∧ (m ≠ 4 → FRow w' a.A a.c a.fm) ∧
    (m ≠ 5 → RgP.Ring w' a.a1 a.b1 16 K.f1 a.x1) ∧ (m ≠ 6 → RgP.Ring w' a.a2 a.b2 16 K.f2 a.x2) ∧ (m ≠ 7 → RgT.Ring w' a.a3 a.b3 16 K.f3 a.x3) ∧
    Pair (FilAt w' (on lab)) a.fm K.fs ∧ Pair (PkAt w' (on lab)) a.x1 K.i1 ∧ Pair (PkAt w' (on lab)) a.x2 K.i2 ∧ Pair (TrAt w' (on lab)) a.x3 K.out ∧ Step w w' (on lab) (on lab) := by
  have hs : Step w w' (on lab) (on lab) := Step.of_chg k (fun i hi => by show lab i ≠ 0; rw [hi]; exact hm)
  refine ⟨fun h1 => h.head.chg k (by show ¬ lab g = m; rw [h.lg]; omega), fun h1 => h.tab.chg k (by show ¬ lab a.gs = m; rw [h.lt1]; omega) (by show ¬ lab a.gt = m; rw [h.lt2]; omega),
    fun h1 => h.dk.chg k (fun i (hi : lab i = m) (hj : lab i = 3) => by omega), fun h1 => RowW.chg h.row k (fun b hb (hi : lab b = m) => by have := h.lr b hb; omega),
    fun h1 => h.r1.chg k (by show ¬ lab a.a1 = m; rw [h.l11]; omega) (by show ¬ lab a.b1 = m; rw [h.l12]; omega), fun h1 => h.r2.chg k (by show ¬ lab a.a2 = m; rw [h.l21]; omega) (by show ¬ lab a.b2 = m; rw [h.l22]; omega),
    fun h1 => h.r3.chg k (by show ¬ lab a.a3 = m; rw [h.l31]; omega) (by show ¬ lab a.b3 = m; rw [h.l32]; omega),
    h.fil.weak (fun _ _ _ h => h.step hs), h.p1.weak (fun _ _ _ h => h.step hs), h.p2.weak (fun _ _ _ h => h.step hs), h.p3.weak (fun _ _ _ h => h.step hs), hs⟩
end
end Go.Proofs.YtefnkednnnlhoaaGreatDoor.Ke
