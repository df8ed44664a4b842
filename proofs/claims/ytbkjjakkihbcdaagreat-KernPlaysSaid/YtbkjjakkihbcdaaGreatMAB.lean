/- Package filter: which programs may be. Conditions: those that each states. -/
import Derived.Test.YtbkjjakkihbcdaaGreatMAA
import Derived.Deep.LoopGhost
import Derived.ScopeJumps
import Derived.StillTailTactics
namespace Go.Proofs.YtbkjjakkihbcdaaGreat
open Go.ChangeShapes Go.WideShapes Go.ChangeAt Go.RowKit Go.Deep
set_option linter.unusedVariables false
theorem op_info : (Tryz.prog.info? 107).map (·.size) = some 4 := by kernel_rfl
set_option maxRecDepth 100000 in
set_option maxHeartbeats 2000000 in
theorem check_v (A : Option Addr) (c : Nat) (p : List Ins) (w : World) (hp : Prg w A p) (hmax : p.length ≤ 1000000) (v : Int) (hv : (Chk p ∧ v = 0) ∨ (¬ Chk p ∧ v = 40)) :
  Calls Tryz.prog 71 #[.slice A p.length c] w fun e w' => e = .returned (.int .i64 v) ∧ Below w.heap.size w w' := by
 have V := Lib.hid hv
 have P := Lib.hid hp
 have B0 := Lib.hid (Below.refl w.heap.size w)
 clear hv hp
 by_cases h1 : p.length < 1
 ·have h1' : (p.length : Int) < 1 := by omega
  have e : v = 40 := by
   rcases V.out with h | h
   ·exact absurd h.1.n1 (by omega)
   ·exact h.2
  subst e
  clear V h1
  go_enter Tryz.func71, Tryz.ntmps71
  go_wp2
  go_ret
  exact ⟨rfl, B0.out⟩
 by_cases h2 : p.length > 64
 ·have h1' : ¬ (p.length : Int) < 1 := by omega
  have h2' : (p.length : Int) > 64 := by omega
  have e : v = 40 := by
   rcases V.out with h | h
   ·exact absurd h.1.n2 (by omega)
   ·exact h.2
  subst e
  clear V h1 h2
  go_enter Tryz.func71, Tryz.ntmps71
  go_wp2
  go_ret
  exact ⟨rfl, B0.out⟩
 have h1' : ¬ (p.length : Int) < 1 := by omega
 have h2' : ¬ (p.length : Int) > 64 := by omega
 have n1 : 1 ≤ p.length := by omega
 have n2 : p.length ≤ 64 := by omega
 clear h1 h2
 go_enter Tryz.func71, Tryz.ntmps71
 go_wp2
 go_loopw [16] (fun i wr => ∃ (j : Nat), j ≤ p.length ∧ i = .int .i64 (j : Int) ∧ Below w.heap.size w wr ∧ Hid (∀ i (h : i < p.length), i < j → mayB p[i] ((p.length : Int) - 1 - i) = true)) (fun i _ => p.length - (intOf i).toNat)
 case atStart => exact ⟨0, Nat.zero_le _, rfl, B0.out, Lib.hid (fun i h h0 => absurd h0 (by omega))⟩
 case round =>
  clear B0
  obtain ⟨j, hj, rfl, hb, HM⟩ := hrel
  have HB := Lib.hid hb
  have hgs : w.heap.size ≤ wr.heap.size := hb.size
  have P1 := Lib.hid (P.out.new hb)
  clear hb
  by_cases hlt : j < p.length
  ·have hlt' : (j : Int) < (p.length : Int) := by omega
   have j0 : (0 : Int) ≤ (j : Int) := by omega
   have xj := IntWalk.i64_in ((j : Int) + 1) (by omega)
   have x1 := IntWalk.i64_in ((p.length : Int) - 1) (by omega)
   have x2 := IntWalk.i64_in ((p.length : Int) - 1 - (j : Int)) (by omega)
   obtain ⟨b, o, rfl, hbl, hr⟩ := P1.out j hlt
   have LD := Lib.hid (show wr.rangeAt b (o + j * 4) [.int .i64 p[j].code, .int .u32 p[j].k, .int .i64 p[j].t, .int .i64 p[j].f] from hr)
   have HA := Lib.hid (HB.out.trans (((Below.refl wr.heap.size wr).alloc (Nat.le_refl _) (.cells #[.int .i64 p[j].code, .int .u32 p[j].k, .int .i64 p[j].t, .int .i64 p[j].f] 107)).mono hgs))
   have HSZ : w.heap.size ≤ (wr.alloc (.cells #[.int .i64 p[j].code, .int .u32 p[j].k, .int .i64 p[j].t, .int .i64 p[j].f] 107)).heap.size := by have := HA.out.size; exact this
   have HSZ := Lib.hid HSZ
   have ST := Lib.hid (fun (v : Bool) (hv : v = mayB p[j] ((p.length : Int) - 1 - j)) (w : World) => stand_v p[j] ((p.length : Int) - 1 - j) v hv w)
   have HM2 := Lib.hid (fun (hm : mayB p[j] ((p.length : Int) - 1 - j) = true) i (h : i < p.length) (hi : i < j + 1) => show mayB p[i] ((p.length : Int) - 1 - i) = true from by
    by_cases e : i = j
    ·subst e; exact hm
    ·exact HM.out i h (by omega))
   have NO := Lib.hid (fun (hm : mayB p[j] ((p.length : Int) - 1 - j) = false) => show v = 40 from by
    rcases V.out with h | h
    ·have := h.1.may j hlt
     rw [hm] at this; cases this
    ·exact h.2)
   generalize hmv : mayB p[j] ((p.length : Int) - 1 - j) = mv at *
   have ST := Lib.hid (fun w => ST.out mv rfl w)
   generalize p[j].code = qc at *
   generalize p[j].k = qk at *
   generalize p[j].t = qt at *
   generalize p[j].f = qf at *
   clear hr hmv
   cases mv with
   | true =>
    have HM3 := Lib.hid (HM2.out rfl)
    clear NO HM HM2
    go_wp2_with (first
     | (refine wpList_load_mid rfl 107 (.tmp 19) rfl b (o + j * 4) rfl _ _ LD.out Tryz.underlying107 rfl op_info ?_)
     | fail)
    refine (ST.out _).mono ?_; rintro e w4 ⟨rfl, b4⟩
    have HB4 := Lib.hid (HA.out.trans (b4.mono HSZ.out))
    clear b4
    go_wp2
    go_roundw
    case rel => exact ⟨j + 1, by omega, by simp, HB4.out, HM3⟩
    case measure => simp [intOf]; omega
   | false =>
    have e : v = 40 := NO.out rfl
    subst e
    clear NO HM HM2 V
    go_wp2_with (first
     | (refine wpList_load_mid rfl 107 (.tmp 19) rfl b (o + j * 4) rfl _ _ LD.out Tryz.underlying107 rfl op_info ?_)
     | fail)
    refine (ST.out _).mono ?_; rintro e w4 ⟨rfl, b4⟩
    have HB4 := Lib.hid (HA.out.trans (b4.mono HSZ.out))
    clear b4
    go_wp2
    go_ret
    exact ⟨rfl, HB4.out⟩
  ·have hge : ¬ (j : Int) < (p.length : Int) := by omega
   obtain rfl : j = p.length := by omega
   have hl : p.length - 1 < p.length := by omega
   have l0 : (0 : Int) ≤ (p.length : Int) - 1 := by omega
   have l1 : (p.length : Int) - 1 < (p.length : Int) := by omega
   have x1 := IntWalk.i64_in ((p.length : Int) - 1) (by omega)
   have x3 : ((p.length : Int) - 1).toNat = p.length - 1 := by omega
   obtain ⟨b, o, rfl, hbl, hr⟩ := P1.out (p.length - 1) hl
   have LD := Lib.hid (show wr.rangeAt b (o + (p.length - 1) * 4) [.int .i64 p[p.length - 1].code, .int .u32 p[p.length - 1].k, .int .i64 p[p.length - 1].t, .int .i64 p[p.length - 1].f] from hr)
   have HA := Lib.hid (HB.out.trans (((Below.refl wr.heap.size wr).alloc (Nat.le_refl _) (.cells #[.int .i64 p[p.length - 1].code, .int .u32 p[p.length - 1].k, .int .i64 p[p.length - 1].t, .int .i64 p[p.length - 1].f] 107)).mono hgs))
   have YES := Lib.hid (fun (h : p[p.length - 1].code = 7 ∨ p[p.length - 1].code = 8) => show v = 0 from by
    rcases V.out with h3 | h3
    ·exact h3.2
    ·exact absurd ⟨n1, n2, fun i h0 => HM.out i h0 h0, fun _ => h⟩ h3.1)
   have NO := Lib.hid (fun (h7 : ¬ p[p.length - 1].code = 7) (h8 : ¬ p[p.length - 1].code = 8) => show v = 40 from by
    rcases V.out with h3 | h3
    ·rcases h3.1.last hl with h4 | h4
     ·exact absurd h4 h7
     ·exact absurd h4 h8
    ·exact h3.2)
   generalize p[p.length - 1].code = qc at *
   generalize p[p.length - 1].k = qk at *
   generalize p[p.length - 1].t = qt at *
   generalize p[p.length - 1].f = qf at *
   clear hr HM V hj hlt
   by_cases e7 : qc = 7
   ·have e : v = 0 := YES.out (.inl e7)
    subst e e7
    clear YES NO
    go_wp2_with (first
     | (refine wpList_load_mid rfl 107 (.tmp 34) rfl b (o + (p.length - 1) * 4) rfl _ _ LD.out Tryz.underlying107 rfl op_info ?_)
     | fail)
    go_ret
    exact ⟨rfl, HA.out⟩
   ·by_cases e8 : qc = 8
    ·have e : v = 0 := YES.out (.inr e8)
     subst e e8
     clear YES NO
     go_wp2_with (first
      | (refine wpList_load_mid rfl 107 (.tmp 34) rfl b (o + (p.length - 1) * 4) rfl _ _ LD.out Tryz.underlying107 rfl op_info ?_)
      | fail)
     go_ret
     exact ⟨rfl, HA.out⟩
    ·have e : v = 40 := NO.out e7 e8
     subst e
     have m7 : (qc != 7) = true := by simpa using e7
     have m8 : (qc != 8) = true := by simpa using e8
     have n7 : (qc == 7) = false := by simpa using e7
     have n8 : (qc == 8) = false := by simpa using e8
     clear YES NO
     go_wp2_with (first
      | (refine wpList_load_mid rfl 107 (.tmp 34) rfl b (o + (p.length - 1) * 4) rfl _ _ LD.out Tryz.underlying107 rfl op_info ?_)
      | fail)
     go_ret
     exact ⟨rfl, HA.out⟩
end Go.Proofs.YtbkjjakkihbcdaaGreat

/- Package filter: a number of a packet; how many steps are left out; the document's steps as the program's. Conditions: those that each states. -/
namespace Go.Proofs.YtbkjjakkihbcdaaGreat
open Go.ChangeShapes Go.WideShapes Go.ChangeAt Go.RowKit Go.Deep
set_option linter.unusedVariables false
theorem left_any (q : Ins) (y : Bool) (w : World) :
  Calls Tryz.prog 88 #[.agg #[.int .i64 q.code, .int .u32 q.k, .int .i64 q.t, .int .i64 q.f], .bool y] w fun e w' => e = .returned (.int .i64 (if y = true then q.t else q.f)) ∧ Below w.heap.size w w' := by
 have HB := Lib.hid ((Below.refl w.heap.size w).alloc (Nat.le_refl _) (.cells #[.int .i64 q.code, .int .u32 q.k, .int .i64 q.t, .int .i64 q.f] 107))
 obtain ⟨c, k, t, f⟩ := q
 cases y with
 | true =>
  show Calls _ _ _ w fun e w' => e = .returned (.int .i64 t) ∧ _
  go_enter Tryz.func88, Tryz.ntmps88
  go_wp2
  go_ret
  exact ⟨rfl, HB.out⟩
 | false =>
  show Calls _ _ _ w fun e w' => e = .returned (.int .i64 f) ∧ _
  go_enter Tryz.func88, Tryz.ntmps88
  go_wp2
  go_ret
  exact ⟨rfl, HB.out⟩
theorem joined_snoc (l : List UInt8) (b : UInt8) : joined (l ++ [b]) = bits .or .u32 (joined l * 256 % 4294967296) ((b.toNat : Int) % 4294967296) := by unfold joined; rw [List.foldl_append]; rfl
def Found (o : Option Int) (e : Ending) : Prop := e = .returned (.tuple #[.int .u32 (o.getD 0), .bool o.isSome])
set_option maxRecDepth 100000 in
set_option maxHeartbeats 1000000 in
theorem load_any (A : Option Addr) (c : Nat) (s : List UInt8) (w : World) (hs : Src w A s.length c s) (hmax : s.length ≤ 1000000) (k m : Nat) (hk : k < 4294967296) (hm : 1 ≤ m ∧ m ≤ 4) :
  Calls Tryz.prog 87 #[.slice A s.length c, .int .u32 (k : Int), .int .i64 (m : Int)] w fun e w' => Found (num s k m) e ∧ w' = w := by
 have hx : (k : Int) + (m : Int) ≤ 18446744073709551615 := by omega
 have k0 : (0 : Int) ≤ (k : Int) := by omega
 by_cases h : k + m ≤ s.length
 ·have g1 : ¬ (k : Int) + (m : Int) > (s.length : Int) := by omega
  have e : num s k m = some (joined ((s.drop k).take m)) := by unfold num; rw [if_pos h]
  rw [e]
  clear e
  obtain ⟨b, o, -, rfl, hbl, -⟩ := hs.byte (k := k) (by omega)
  have HC := Lib.hid (fun j (hj : j < m) => show ∃ hl : k + j < s.length, w.cell? ⟨b, o + k + j, none⟩ = some (.int .u8 (s[k + j].toNat : Int)) from by
   obtain ⟨b', o', hl', e, _, hc⟩ := hs.byte (k := k + j) (by omega)
   cases e
   exact ⟨hl', by rw [Nat.add_assoc]; exact hc⟩)
  have hcap := hs.cap
  have hcm := hs.max
  clear hs
  go_enter Tryz.func87, Tryz.ntmps87
  go_wp2
  go_loopw [8, 26] (fun n i wr => ∃ (j : Nat), j ≤ m ∧ i = .int .i64 (j : Int) ∧ n = .int .u32 (joined (((s.drop k).take m).take j)) ∧ wr = w) (fun _ i _ => m - (intOf i).toNat)
  case atStart => exact ⟨0, Nat.zero_le _, rfl, rfl, rfl⟩
  case round =>
   obtain ⟨j, hj, rfl, rfl, rfl⟩ := hrel
   by_cases hlt : j < m
   ·have hlt' : (j : Int) < (m : Int) := by omega
    have j0 : (0 : Int) ≤ (j : Int) := by omega
    have xj := IntWalk.i64_in ((j : Int) + 1) (by omega)
    obtain ⟨hl, hc⟩ := HC.out j hlt
    have HS := Lib.hid (show joined (((s.drop k).take m).take (j + 1)) = bits .or .u32 (joined (((s.drop k).take m).take j) * 256 % 4294967296) ((s[k + j].toNat : Int) % 4294967296) from by
     rw [← joined_snoc]
     congr 1
     rw [List.take_succ_eq_append_getElem (by simp; omega)]
     congr 2
     simp)
    generalize s[k + j] = by_ at *
    generalize joined (((s.drop k).take m).take j) = x at *
    go_wp2
    go_roundw
    case rel => exact ⟨j + 1, by omega, by simp, by rw [HS.out], by first | rfl | trivial⟩
    case measure => simp [intOf]; omega
   ·have hge : ¬ (j : Int) < (m : Int) := by omega
    obtain rfl : j = m := by omega
    have e2 : ((s.drop k).take j).take j = (s.drop k).take j := by rw [List.take_take, Nat.min_self]
    rw [e2]
    clear e2
    go_wp2
    go_ret2
    exact ⟨rfl, rfl⟩
 ·have g1 : (k : Int) + (m : Int) > (s.length : Int) := by omega
  have e : num s k m = none := by unfold num; rw [if_neg h]
  rw [e]
  clear e hs
  go_enter Tryz.func87, Tryz.ntmps87
  go_wp2
  go_ret2
  exact ⟨rfl, rfl⟩
theorem rop_info : (Tryz.prog.info? 108).map (·.size) = some 4 := by kernel_rfl
end Go.Proofs.YtbkjjakkihbcdaaGreat

/- Package filter: what a program ends with. Conditions: those that each states. -/
namespace Go.Proofs.YtbkjjakkihbcdaaGreat
open Go.ChangeShapes Go.WideShapes Go.ChangeAt Go.RowKit Go.Deep
set_option linter.unusedVariables false
theorem wp_scope_back {P : Program} {a : Act} {w : World} {Q : Exit → Act → World → Prop} {c b rest : Code} (l : Nat) (J : Act → World → Prop) (μ : Act → World → Nat) (hf : findLabel c l = some rest) (hr : rest = .seq .skip b)
  (pass : ∀ a w, J a w → b.wp P (Exit.jump l (fun a' w' => J a' w' ∧ μ a' w' < μ a w) Q) a w)
  (first : (∀ a w, J a w → b.wp P (Exit.jump l J Q) a w) → c.wp P (Exit.jump l J Q) a w) : (Code.scope c).wp P Q a w := by
 subst hr
 refine wp_scope_jumps l J μ hf (first fun a w h => Code.wp_mono (fun e a w h => ?_) (pass a w h)) (fun a w h => wp_seq (wp_skip ?_))
 ·cases e with
  | goto l' => exact ⟨h.1, h.2.1⟩
  | _ => exact h
 ·exact pass a w h
theorem Chk.at_ {p : List Ins} (h : Chk p) {i : Nat} (hi : i < p.length) : 0 ≤ p[i].code ∧ p[i].code ≤ 8 ∧ ((p[i].code = 5 ∨ p[i].code = 6) → 0 ≤ p[i].t ∧ 0 ≤ p[i].f ∧ (i : Int) + 1 + p[i].t < p.length ∧ (i : Int) + 1 + p[i].f < p.length) ∧ (p[i].code ≤ 4 → i + 1 < p.length) := by
 have h1 := h.may i hi
 have hl := h.n1
 unfold mayB leaveB asks at h1
 simp only [Bool.and_eq_true, Bool.not_eq_true', decide_eq_false_iff_not, decide_eq_true_eq] at h1
 obtain ⟨⟨⟨⟨a1, a2⟩, a3, _⟩, a4, _⟩, a5⟩ := h1
 refine ⟨by omega, by omega, fun h56 => ?_, fun h4 => ?_⟩
 ·have e : (p[i].code == 5 || p[i].code == 6) = true := by simpa using h56
  rw [if_pos e] at a5
  simp only [Bool.and_eq_true, decide_eq_true_eq] at a5
  exact ⟨a3, a4, by omega, by omega⟩
 ·by_cases e : i = p.length - 1
  ·subst e
   have := h.last hi
   omega
  ·omega
def stepF (p : List Ins) (s : List UInt8) (n i : Nat) (a : Int) (q : Ins) : Int :=
 if q.code = 0 then (match num s q.k.toNat 1 with | none => 0 | some x => runF p s n (i + 1) x)
 else if q.code = 1 then (match num s q.k.toNat 2 with | none => 0 | some x => runF p s n (i + 1) x)
 else if q.code = 2 then (match num s q.k.toNat 4 with | none => 0 | some x => runF p s n (i + 1) x)
 else if q.code = 3 then runF p s n (i + 1) (bits .and .u32 a q.k)
 else if q.code = 4 then runF p s n (i + 1) (a / 2 ^ min q.k.toNat 32)
 else if q.code = 5 then runF p s n (i + 1 + (if a = q.k then q.t else q.f).toNat) a
 else if q.code = 6 then runF p s n (i + 1 + (if a > q.k then q.t else q.f).toNat) a
 else if q.code = 7 then q.k
 else a
def stepX (p : List Ins) (s : List UInt8) (n i : Nat) (a c : Int) (kn : Nat) (k t f : Int) : Int :=
 if c = 0 then (match num s kn 1 with | none => 0 | some x => runF p s n (i + 1) x)
 else if c = 1 then (match num s kn 2 with | none => 0 | some x => runF p s n (i + 1) x)
 else if c = 2 then (match num s kn 4 with | none => 0 | some x => runF p s n (i + 1) x)
 else if c = 3 then runF p s n (i + 1) (bits .and .u32 a k)
 else if c = 4 then runF p s n (i + 1) (a / 2 ^ min kn 32)
 else if c = 5 then runF p s n (i + 1 + (if a = k then t else f).toNat) a
 else if c = 6 then runF p s n (i + 1 + (if a > k then t else f).toNat) a
 else if c = 7 then k
 else a
theorem runF_succ (p : List Ins) (s : List UInt8) (n i : Nat) (a : Int) (hi : i < p.length) : runF p s (n + 1) i a = stepX p s n i a p[i].code p[i].k.toNat p[i].k p[i].t p[i].f := by
 show (match p[i]? with | none => 0 | some q => stepF p s n i a q) = _
 rw [List.getElem?_eq_getElem hi]
 rfl
section
variable {p : List Ins} {s : List UInt8} {n i kn : Nat} {a k t f : Int}
theorem stepF_0 : stepX p s n i a 0 kn k t f = (match num s kn 1 with | none => 0 | some x => runF p s n (i + 1) x) := rfl
theorem stepF_1 : stepX p s n i a 1 kn k t f = (match num s kn 2 with | none => 0 | some x => runF p s n (i + 1) x) := rfl
theorem stepF_2 : stepX p s n i a 2 kn k t f = (match num s kn 4 with | none => 0 | some x => runF p s n (i + 1) x) := rfl
theorem stepF_3 : stepX p s n i a 3 kn k t f = runF p s n (i + 1) (bits .and .u32 a k) := rfl
theorem stepF_4 : stepX p s n i a 4 kn k t f = runF p s n (i + 1) (a / 2 ^ min kn 32) := rfl
theorem stepF_5 : stepX p s n i a 5 kn k t f = runF p s n (i + 1 + (if a = k then t else f).toNat) a := rfl
theorem stepF_6 : stepX p s n i a 6 kn k t f = runF p s n (i + 1 + (if a > k then t else f).toNat) a := rfl
theorem stepF_7 : stepX p s n i a 7 kn k t f = k := rfl
theorem stepF_8 : stepX p s n i a 8 kn k t f = a := rfl
end
theorem ret_tup {x y : Int} (h : x = y) : Ending.returned (.tuple #[.int .u32 x, .int .i64 0]) = .returned (.tuple #[.int .u32 y, .int .i64 0]) := by rw [h]
theorem load_none (A : Option Addr) (c : Nat) (s : List UInt8) (w : World) (hs : Src w A s.length c s) (hmax : s.length ≤ 1000000) (k m : Nat) (hk : k < 4294967296) (hm : 1 ≤ m ∧ m ≤ 4) (hn : num s k m = none) :
  Calls Tryz.prog 87 #[.slice A s.length c, .int .u32 (k : Int), .int .i64 (m : Int)] w fun e w' => e = .returned (.tuple #[.int .u32 0, .bool false]) ∧ w' = w := by
 have := load_any A c s w hs hmax k m hk hm
 rw [hn] at this
 exact this
theorem load_some (A : Option Addr) (c : Nat) (s : List UInt8) (w : World) (hs : Src w A s.length c s) (hmax : s.length ≤ 1000000) (k m : Nat) (hk : k < 4294967296) (hm : 1 ≤ m ∧ m ≤ 4) (y : Int) (hn : num s k m = some y) :
  Calls Tryz.prog 87 #[.slice A s.length c, .int .u32 (k : Int), .int .i64 (m : Int)] w fun e w' => e = .returned (.tuple #[.int .u32 y, .bool true]) ∧ w' = w := by
 have := load_any A c s w hs hmax k m hk hm
 rw [hn] at this
 exact this
def Fr84 (u : Nat → Value) : Array Value := #[u 0, u 1, u 2, u 3, u 4, u 5, u 6, u 7, u 8, u 9, u 10, u 11, u 12, u 13, u 14, u 15, u 16, u 17, u 18, u 19, u 20, u 21, u 22, u 23, u 24, u 25, u 26, u 27, u 28, u 29, u 30, u 31, u 32, u 33, u 34, u 35, u 36, u 37, u 38, u 39, u 40, u 41, u 42, u 43, u 44, u 45, u 46, u 47, u 48, u 49, u 50, u 51, u 52, u 53, u 54, u 55, u 56, u 57, u 58, u 59, u 60, u 61, u 62, u 63, u 64, u 65, u 66, u 67, u 68, u 69, u 70, u 71, u 72, u 73, u 74, u 75, u 76, u 77, u 78, u 79, u 80, u 81, u 82, u 83]
theorem fr84 (a : Act) (hd : a.defers = []) (hz : a.tmps.size = 84) : a = { tmps := Fr84 (fun k => a.tmps.getD k undef), defers := [] } := by
 obtain ⟨⟨l⟩, d⟩ := a
 subst hd
 have hz' : l.length = 84 := hz
 have e : l = (List.range 84).map (fun k => l.getD k undef) := by
  apply List.ext_getElem
  ·simp [hz']
  ·intro k h1 h2
   simp [List.getD_eq_getElem?_getD, List.getElem?_eq_getElem h1]
 have e2 : (Fr84 (fun k => (List.toArray l).getD k undef)).toList = (List.range 84).map (fun k => l.getD k undef) := by
  have e3 : (fun k => (List.toArray l).getD k undef) = fun k => l.getD k undef := by funext k; rw [Array.getD_eq_getD_getElem?, List.getD_eq_getElem?_getD, List.getElem?_toArray]
  rw [e3]
  rfl
 have e4 : (⟨l⟩ : Array Value) = Fr84 (fun k => (List.toArray l).getD k undef) := by
  apply Array.ext'
  rw [e2]
  exact e
 exact congrArg (fun t => ({ tmps := t, defers := [] } : Act)) e4
set_option maxRecDepth 1000000 in
set_option maxHeartbeats 4000000 in
theorem run_ok (A As : Option Addr) (c cs : Nat) (p : List Ins) (s : List UInt8) (w : World) (hp : Prg w A p) (hs : Src w As s.length cs s) (hok : ∀ q ∈ p, q.Ok) (h : Chk p) (hsm : s.length ≤ 1024) :
  Calls Tryz.prog 45 #[.slice A p.length c, .slice As s.length cs] w fun e w' => e = .returned (.tuple #[.int .u32 (runP p s), .int .i64 0]) ∧ Below w.heap.size w w' := by
 have CK := Lib.hid (check_v A c p w hp (by have := h.n2; omega) 0 (.inl ⟨h, rfl⟩))
 have HP := Lib.hid hp
 have HS := Lib.hid hs
 have HOK := Lib.hid hok
 have HCHK := Lib.hid h
 have n1 := h.n1
 have n2 := h.n2
 have g1 : ¬ (s.length : Int) > 1024 := by omega
 have hsm : s.length ≤ 1000000 := by omega
 clear hp hs hok h
 go_enter Tryz.func45, Tryz.ntmps45
 go_wp2
 refine wp_scope_back 0 (fun a' w' => ∃ (i n : Nat) (x : Int) (u : Nat → Value), a' = { tmps := Fr84 u, defers := [] } ∧ u 0 = .slice A p.length c ∧ u 1 = .slice As s.length cs ∧ u 7 = .int .u32 x ∧ u 8 = .int .i64 (i : Int) ∧ i < p.length ∧ p.length ≤ i + n ∧ Hid (runF p s n i x = runP p s) ∧ Below w.heap.size w w') (fun a' _ => p.length - (intOf (a'.tmps.getD 8 undef)).toNat) rfl rfl ?_ ?_
 ·rintro a' wr ⟨i, n, x, u, ea, u0, u1, u7, u8, hi, hn, HR, hb⟩
  unfold Fr84 at ea
  rw [u0, u1, u7, u8] at ea
  clear u0 u1 u7 u8
  subst ea
  have HB := Lib.hid hb
  clear hb CK
  have hil : (i : Int) < (p.length : Int) := by omega
  have hi0 : (0 : Int) ≤ (i : Int) := by omega
  have x1 := IntWalk.i64_in ((i : Int) + 1) (by omega)
  obtain ⟨c0, c8, c56, c4⟩ := HCHK.out.at_ hi
  have QOK := Lib.hid (HOK.out p[i] (List.getElem_mem hi))
  obtain ⟨n, rfl⟩ : ∃ n', n = n' + 1 := ⟨n - 1, by omega⟩
  have UN := Lib.hid (HR.out.symm.trans (runF_succ p s n i x hi)).symm
  obtain ⟨b, o, rfl, hbl, hr⟩ := (HP.out.new HB.out) i hi
  have LD := Lib.hid (show wr.rangeAt b (o + i * 4) [.int .i64 p[i].code, .int .u32 p[i].k, .int .i64 p[i].t, .int .i64 p[i].f] from hr)
  have hgs : w.heap.size ≤ wr.heap.size := HB.out.size
  obtain ⟨k0, k1⟩ := QOK.out.k
  generalize p[i].code = qc at *
  generalize hqk : p[i].k = qk at *
  generalize p[i].t = qt at *
  generalize p[i].f = qf at *
  have HA := Lib.hid (HB.out.trans (((Below.refl wr.heap.size wr).alloc (Nat.le_refl _) (.cells #[.int .i64 qc, .int .u32 qk, .int .i64 qt, .int .i64 qf] 107)).mono hgs))
  have HZ := Lib.hid (show w.heap.size ≤ (wr.alloc (.cells #[.int .i64 qc, .int .u32 qk, .int .i64 qt, .int .i64 qf] 107)).heap.size from HA.out.size)
  have PK := Lib.hid ((HS.out.below HB.out).alloc (.cells #[.int .i64 qc, .int .u32 qk, .int .i64 qt, .int .i64 qf] 107))
  clear hr HR hqk QOK
  have hcs : qc = 0 ∨ qc = 1 ∨ qc = 2 ∨ qc = 3 ∨ qc = 4 ∨ qc = 5 ∨ qc = 6 ∨ qc = 7 ∨ qc = 8 := by omega
  obtain ⟨kn, rfl⟩ : ∃ kn : Nat, qk = (kn : Int) := ⟨qk.toNat, by omega⟩
  have kn1 : kn < 4294967296 := by omega
  rw [Int.toNat_natCast] at UN
  rcases hcs with rfl | rfl | rfl | rfl | rfl | rfl | rfl | rfl | rfl
  ·have hn1 : i + 1 < p.length := c4 (by decide)
   clear c56 c4 c0 c8
   cases hnum : num s kn 1 with
   | none =>
    have UN := Lib.hid (show (0 : Int) = runP p s from by
     have := UN.out
     rw [stepF_0] at this
     rw [hnum] at this
     exact this)
    have LO := Lib.hid (fun q => load_none As cs s (((wr.alloc (.cells #[.int .i64 0, .int .u32 (kn : Int), .int .i64 qt, .int .i64 qf] 107)).drewN q)) (PK.out.drewN q) hsm kn 1 kn1 (by decide) hnum)
    clear hnum
    go_wp2_with (first
     | (refine wpList_load_mid rfl 107 (.tmp 22) rfl b (o + i * 4) rfl _ _ LD.out Tryz.underlying107 rfl op_info ?_)
     | fail)
    go_quiet ((go_at_call 87; exact Calls.quiet_of_same (LO.out _)))
    go_wp2
    simp only [Exit.jump]
    go_ret2
    exact ⟨ret_tup UN.out, below_drewN HA.out _⟩
   | some y =>
    have UN := Lib.hid (show runF p s n (i + 1) y = runP p s from by
     have := UN.out
     rw [stepF_0] at this
     rw [hnum] at this
     exact this)
    have LO := Lib.hid (fun q => load_some As cs s (((wr.alloc (.cells #[.int .i64 0, .int .u32 (kn : Int), .int .i64 qt, .int .i64 qf] 107)).drewN q)) (PK.out.drewN q) hsm kn 1 kn1 (by decide) y hnum)
    clear hnum
    go_wp2_with (first
     | (refine wpList_load_mid rfl 107 (.tmp 22) rfl b (o + i * 4) rfl _ _ LD.out Tryz.underlying107 rfl op_info ?_)
     | fail)
    go_quiet ((go_at_call 87; exact Calls.quiet_of_same (LO.out _)))
    go_wp2
    go_step3
    refine ⟨rfl, ⟨i + 1, n, y, _, fr84 _ rfl rfl, ?_, ?_, ?_, ?_, by omega, by omega, UN, below_drewN HA.out _⟩, by simp [intOf]; omega⟩
    all_goals rfl
  ·have hn1 : i + 1 < p.length := c4 (by decide)
   clear c56 c4 c0 c8
   cases hnum : num s kn 2 with
   | none =>
    have UN := Lib.hid (show (0 : Int) = runP p s from by
     have := UN.out
     rw [stepF_1] at this
     rw [hnum] at this
     exact this)
    have LO := Lib.hid (fun q => load_none As cs s (((wr.alloc (.cells #[.int .i64 1, .int .u32 (kn : Int), .int .i64 qt, .int .i64 qf] 107)).drewN q)) (PK.out.drewN q) hsm kn 2 kn1 (by decide) hnum)
    clear hnum
    go_wp2_with (first
     | (refine wpList_load_mid rfl 107 (.tmp 22) rfl b (o + i * 4) rfl _ _ LD.out Tryz.underlying107 rfl op_info ?_)
     | fail)
    go_quiet ((go_at_call 87; exact Calls.quiet_of_same (LO.out _)))
    go_wp2
    simp only [Exit.jump]
    go_ret2
    exact ⟨ret_tup UN.out, below_drewN HA.out _⟩
   | some y =>
    have UN := Lib.hid (show runF p s n (i + 1) y = runP p s from by
     have := UN.out
     rw [stepF_1] at this
     rw [hnum] at this
     exact this)
    have LO := Lib.hid (fun q => load_some As cs s (((wr.alloc (.cells #[.int .i64 1, .int .u32 (kn : Int), .int .i64 qt, .int .i64 qf] 107)).drewN q)) (PK.out.drewN q) hsm kn 2 kn1 (by decide) y hnum)
    clear hnum
    go_wp2_with (first
     | (refine wpList_load_mid rfl 107 (.tmp 22) rfl b (o + i * 4) rfl _ _ LD.out Tryz.underlying107 rfl op_info ?_)
     | fail)
    go_quiet ((go_at_call 87; exact Calls.quiet_of_same (LO.out _)))
    go_wp2
    go_step3
    refine ⟨rfl, ⟨i + 1, n, y, _, fr84 _ rfl rfl, ?_, ?_, ?_, ?_, by omega, by omega, UN, below_drewN HA.out _⟩, by simp [intOf]; omega⟩
    all_goals rfl
  ·have hn1 : i + 1 < p.length := c4 (by decide)
   clear c56 c4 c0 c8
   cases hnum : num s kn 4 with
   | none =>
    have UN := Lib.hid (show (0 : Int) = runP p s from by
     have := UN.out
     rw [stepF_2] at this
     rw [hnum] at this
     exact this)
    have LO := Lib.hid (fun q => load_none As cs s (((wr.alloc (.cells #[.int .i64 2, .int .u32 (kn : Int), .int .i64 qt, .int .i64 qf] 107)).drewN q)) (PK.out.drewN q) hsm kn 4 kn1 (by decide) hnum)
    clear hnum
    go_wp2_with (first
     | (refine wpList_load_mid rfl 107 (.tmp 22) rfl b (o + i * 4) rfl _ _ LD.out Tryz.underlying107 rfl op_info ?_)
     | fail)
    go_quiet ((go_at_call 87; exact Calls.quiet_of_same (LO.out _)))
    go_wp2
    simp only [Exit.jump]
    go_ret2
    exact ⟨ret_tup UN.out, below_drewN HA.out _⟩
   | some y =>
    have UN := Lib.hid (show runF p s n (i + 1) y = runP p s from by
     have := UN.out
     rw [stepF_2] at this
     rw [hnum] at this
     exact this)
    have LO := Lib.hid (fun q => load_some As cs s (((wr.alloc (.cells #[.int .i64 2, .int .u32 (kn : Int), .int .i64 qt, .int .i64 qf] 107)).drewN q)) (PK.out.drewN q) hsm kn 4 kn1 (by decide) y hnum)
    clear hnum
    go_wp2_with (first
     | (refine wpList_load_mid rfl 107 (.tmp 22) rfl b (o + i * 4) rfl _ _ LD.out Tryz.underlying107 rfl op_info ?_)
     | fail)
    go_quiet ((go_at_call 87; exact Calls.quiet_of_same (LO.out _)))
    go_wp2
    go_step3
    refine ⟨rfl, ⟨i + 1, n, y, _, fr84 _ rfl rfl, ?_, ?_, ?_, ?_, by omega, by omega, UN, below_drewN HA.out _⟩, by simp [intOf]; omega⟩
    all_goals rfl
  ·have hn1 : i + 1 < p.length := c4 (by decide)
   clear c56 c4 c0 c8
   have UN := Lib.hid (show runF p s n (i + 1) (bits .and .u32 x (kn : Int)) = runP p s from by
    have := UN.out
    rw [stepF_3] at this
    exact this)
   go_wp2_with (first
    | (refine wpList_load_mid rfl 107 (.tmp 22) rfl b (o + i * 4) rfl _ _ LD.out Tryz.underlying107 rfl op_info ?_)
    | fail)
   go_step3
   refine ⟨rfl, ⟨i + 1, n, _, _, fr84 _ rfl rfl, ?_, ?_, ?_, ?_, by omega, by omega, UN, HA.out⟩, by simp [intOf]; omega⟩
   all_goals rfl
  ·have hn1 : i + 1 < p.length := c4 (by decide)
   clear c56 c4 c0 c8
   have UN := Lib.hid (show runF p s n (i + 1) (x / 2 ^ min kn 32) = runP p s from by
    have := UN.out
    rw [stepF_4] at this
    exact this)
   go_wp2_with (first
    | (refine wpList_load_mid rfl 107 (.tmp 22) rfl b (o + i * 4) rfl _ _ LD.out Tryz.underlying107 rfl op_info ?_)
    | fail)
   go_step3
   refine ⟨rfl, ⟨i + 1, n, _, _, fr84 _ rfl rfl, ?_, ?_, ?_, ?_, by omega, by omega, UN, HA.out⟩, by simp [intOf]; omega⟩
   all_goals rfl
  ·obtain ⟨t0, f0, t1, f1⟩ := c56 (by decide)
   clear c56 c4 c0 c8
   by_cases hx : x = (kn : Int)
   ·have UN := Lib.hid (show runF p s n (i + 1 + qt.toNat) x = runP p s from by
     have := UN.out
     rw [stepF_5] at this
     rw [if_pos hx] at this
     exact this)
    obtain ⟨v, rfl⟩ : ∃ v : Nat, qt = (v : Int) := ⟨qt.toNat, by omega⟩
    rw [Int.toNat_natCast] at UN
    have x2 := IntWalk.i64_in ((i : Int) + 1 + (v : Int)) (by omega)
    have LO := Lib.hid (fun W => left_any ⟨5, (kn : Int), (v : Int), qf⟩ true W)
    subst hx
    go_wp2_with (first
     | (refine wpList_load_mid rfl 107 (.tmp 22) rfl b (o + i * 4) rfl _ _ LD.out Tryz.underlying107 rfl op_info ?_)
     | fail)
    refine (LO.out _).mono ?_; rintro e w6 ⟨rfl, b6⟩
    have B6 := Lib.hid (HA.out.trans (b6.mono HZ.out))
    clear b6
    go_wp2
    go_step3
    refine ⟨rfl, ⟨i + 1 + v, n, _, _, fr84 _ rfl rfl, ?_, ?_, ?_, ?_, by omega, by omega, UN, B6.out⟩, by simp [intOf]; omega⟩
    all_goals rfl
   ·have UN := Lib.hid (show runF p s n (i + 1 + qf.toNat) x = runP p s from by
     have := UN.out
     rw [stepF_5] at this
     rw [if_neg hx] at this
     exact this)
    obtain ⟨v, rfl⟩ : ∃ v : Nat, qf = (v : Int) := ⟨qf.toNat, by omega⟩
    rw [Int.toNat_natCast] at UN
    have x2 := IntWalk.i64_in ((i : Int) + 1 + (v : Int)) (by omega)
    have LO := Lib.hid (fun W => left_any ⟨5, (kn : Int), qt, (v : Int)⟩ false W)
    have hx' : (x == (kn : Int)) = false := by simpa using hx
    go_wp2_with (first
     | (refine wpList_load_mid rfl 107 (.tmp 22) rfl b (o + i * 4) rfl _ _ LD.out Tryz.underlying107 rfl op_info ?_)
     | fail)
    refine (LO.out _).mono ?_; rintro e w6 ⟨rfl, b6⟩
    have B6 := Lib.hid (HA.out.trans (b6.mono HZ.out))
    clear b6
    go_wp2
    go_step3
    refine ⟨rfl, ⟨i + 1 + v, n, _, _, fr84 _ rfl rfl, ?_, ?_, ?_, ?_, by omega, by omega, UN, B6.out⟩, by simp [intOf]; omega⟩
    all_goals rfl
  ·obtain ⟨t0, f0, t1, f1⟩ := c56 (by decide)
   clear c56 c4 c0 c8
   by_cases hx : x > (kn : Int)
   ·have UN := Lib.hid (show runF p s n (i + 1 + qt.toNat) x = runP p s from by
     have := UN.out
     rw [stepF_6] at this
     rw [if_pos hx] at this
     exact this)
    obtain ⟨v, rfl⟩ : ∃ v : Nat, qt = (v : Int) := ⟨qt.toNat, by omega⟩
    rw [Int.toNat_natCast] at UN
    have x2 := IntWalk.i64_in ((i : Int) + 1 + (v : Int)) (by omega)
    have LO := Lib.hid (fun W => left_any ⟨6, (kn : Int), (v : Int), qf⟩ true W)

    go_wp2_with (first
     | (refine wpList_load_mid rfl 107 (.tmp 22) rfl b (o + i * 4) rfl _ _ LD.out Tryz.underlying107 rfl op_info ?_)
     | fail)
    refine (LO.out _).mono ?_; rintro e w6 ⟨rfl, b6⟩
    have B6 := Lib.hid (HA.out.trans (b6.mono HZ.out))
    clear b6
    go_wp2
    go_step3
    refine ⟨rfl, ⟨i + 1 + v, n, _, _, fr84 _ rfl rfl, ?_, ?_, ?_, ?_, by omega, by omega, UN, B6.out⟩, by simp [intOf]; omega⟩
    all_goals rfl
   ·have UN := Lib.hid (show runF p s n (i + 1 + qf.toNat) x = runP p s from by
     have := UN.out
     rw [stepF_6] at this
     rw [if_neg hx] at this
     exact this)
    obtain ⟨v, rfl⟩ : ∃ v : Nat, qf = (v : Int) := ⟨qf.toNat, by omega⟩
    rw [Int.toNat_natCast] at UN
    have x2 := IntWalk.i64_in ((i : Int) + 1 + (v : Int)) (by omega)
    have LO := Lib.hid (fun W => left_any ⟨6, (kn : Int), qt, (v : Int)⟩ false W)

    go_wp2_with (first
     | (refine wpList_load_mid rfl 107 (.tmp 22) rfl b (o + i * 4) rfl _ _ LD.out Tryz.underlying107 rfl op_info ?_)
     | fail)
    refine (LO.out _).mono ?_; rintro e w6 ⟨rfl, b6⟩
    have B6 := Lib.hid (HA.out.trans (b6.mono HZ.out))
    clear b6
    go_wp2
    go_step3
    refine ⟨rfl, ⟨i + 1 + v, n, _, _, fr84 _ rfl rfl, ?_, ?_, ?_, ?_, by omega, by omega, UN, B6.out⟩, by simp [intOf]; omega⟩
    all_goals rfl
  ·have UN := Lib.hid (show (kn : Int) = runP p s from by
    have := UN.out
    rw [stepF_7] at this
    exact this)
   clear c56 c4 c0 c8
   go_wp2_with (first
    | (refine wpList_load_mid rfl 107 (.tmp 22) rfl b (o + i * 4) rfl _ _ LD.out Tryz.underlying107 rfl op_info ?_)
    | fail)
   simp only [Exit.jump]
   go_ret2
   exact ⟨ret_tup UN.out, HA.out⟩
  ·have UN := Lib.hid (show x = runP p s from by
    have := UN.out
    rw [stepF_8] at this
    exact this)
   clear c56 c4 c0 c8
   go_wp2_with (first
    | (refine wpList_load_mid rfl 107 (.tmp 22) rfl b (o + i * 4) rfl _ _ LD.out Tryz.underlying107 rfl op_info ?_)
    | fail)
   simp only [Exit.jump]
   go_ret2
   exact ⟨ret_tup UN.out, HA.out⟩
 ·intro PASS
  have PASS := Lib.hid PASS
  go_wp2_with fail
  refine CK.out.mono ?_; rintro e wr ⟨rfl, b1⟩
  have HB := Lib.hid b1
  have HR := Lib.hid (show runF p s p.length 0 0 = runP p s from rfl)
  clear b1 CK
  go_wp2
  go_step3
  rename_i K hK
  refine hK _ _ (PASS.out _ _ ?_)
  refine ⟨0, p.length, 0, _, fr84 _ rfl rfl, ?_, ?_, ?_, ?_, by omega, by omega, HR, HB.out⟩
  all_goals rfl
end Go.Proofs.YtbkjjakkihbcdaaGreat

/- The chapter's example; what a program that may be has behind it; how a program runs on longer packets. Conditions: those that each states. -/
namespace Go.Proofs.YtbkjjakkihbcdaaGreat
open Go.ChangeShapes Go.WideShapes Go.ChangeAt Go.RowKit Go.Deep
set_option linter.unusedVariables false

/-! Steps behind the end. -/
end Go.Proofs.YtbkjjakkihbcdaaGreat
