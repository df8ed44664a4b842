/- The document's filter: may a program be? Conditions: those that each states. -/
import Derived.Test.YtbkjjakkihbcdaaGreatR7
import Derived.Test.YtbkjjakkihbcdaaGreatMFD
import Derived.StillTailTactics
import Derived.Deep.QuietTactic
import Derived.BigQuiet
import Derived.Lib.Strings
namespace Go.Proofs.YtbkjjakkihbcdaaGreat.R7
open Go.ChangeShapes Go.WideShapes Go.ChangeAt Go.RowKit Go.Deep
set_option linter.unusedVariables false
theorem may_iff {q : Ins} {b : Int} : mayB q b = true ↔ 0 ≤ q.code ∧ q.code ≤ 8 ∧ 0 ≤ q.t ∧ q.t ≤ 255 ∧ 0 ≤ q.f ∧ q.f ≤ 255 ∧ (q.code = 5 ∨ q.code = 6 → q.t < b ∧ q.f < b) := by
 unfold mayB leaveB asks
 by_cases h : q.code = 5 ∨ q.code = 6
 ·have : (q.code == 5 || q.code == 6) = true := by simpa using h
  simp only [this, if_true, Bool.and_eq_true, Bool.not_eq_true', decide_eq_true_eq, decide_eq_false_iff_not]
  omega
 ·have : (q.code == 5 || q.code == 6) = false := by simpa using h
  rw [if_neg (by rw [this]; decide)]
  simp only [Bool.and_eq_true, Bool.not_eq_true', decide_eq_true_eq, decide_eq_false_iff_not, and_true]
  have hx : (q.code = 5 ∨ q.code = 6 → q.t < b ∧ q.f < b) ↔ True := ⟨fun _ => trivial, fun _ hh => absurd hh h⟩
  rw [hx]
  simp only [and_true]
  omega
set_option maxRecDepth 1000000 in
set_option maxHeartbeats 4000000 in
theorem check_is (A : Option Addr) (c : Nat) (p : List Ins) (w : World) (hp : Prg w A p) (hmax : p.length ≤ 1000000) (v : Bool) (hv : v = true ↔ Chk p) :
  Calls Tryz.prog 43 #[.slice A p.length c] w fun e w' => e = .returned (.bool v) ∧ Below w.heap.size w w' := by
 have P := Lib.hid hp
 have B0 := Lib.hid (Below.refl w.heap.size w)
 have NV : ¬ Chk p → v = false := fun h => by
  cases v with
  | false => rfl
  | true => exact absurd (hv.1 rfl) h
 by_cases h1 : p.length = 0
 ·have hz : (p.length : Int) = 0 := by omega
  have e := NV (fun h => absurd h.n1 (by omega))
  subst e
  have b1 : ((p.length : Int) == 0) = true := by rw [beq_iff_eq]; exact hz
  clear hv NV hp h1
  go_enter Tryz.func43, Tryz.ntmps43
  go_wp2
  go_ret
  exact ⟨rfl, B0.out⟩
 have b1 : ((p.length : Int) == 0) = false := by rw [beq_eq_false_iff_ne]; omega
 by_cases h2 : p.length > 64
 ·have h2' : (p.length : Int) > 64 := by omega
  have e := NV (fun h => absurd h.n2 (by omega))
  subst e
  clear hv NV hp h1 h2
  go_enter Tryz.func43, Tryz.ntmps43
  go_wp2
  go_ret
  exact ⟨rfl, B0.out⟩
 have h2' : ¬ (p.length : Int) > 64 := by omega
 have n1 : 1 ≤ p.length := by omega
 have n2 : p.length ≤ 64 := by omega
 have NW := Lib.hid NV
 have HV := Lib.hid hv
 clear h1 h2 NV hp hv
 go_enter Tryz.func43, Tryz.ntmps43
 go_wp2
 go_loopw [4] (fun i wr => ∃ (j : Nat), j ≤ p.length ∧ i = .int .i64 (j : Int) ∧ Below w.heap.size w wr ∧ Hid (∀ i (h : i < p.length), i < j → mayB p[i] ((p.length : Int) - 1 - i) = true)) (fun i _ => p.length - (intOf i).toNat)
 case atStart => exact ⟨0, Nat.zero_le _, rfl, B0.out, Lib.hid (fun i h h0 => absurd h0 (by omega))⟩
 case round =>
  clear B0
  obtain ⟨j, hj, rfl, hb, HM⟩ := hrel
  have HB := Lib.hid hb
  have hgs : w.heap.size ≤ wr.heap.size := hb.size
  have P1 := Lib.hid (P.out.new hb)
  clear hb
  by_cases hlt : j < p.length
  ·have hlt' : (j : Int) < (p.length : Int) := by omega
   have j0 : (0 : Int) ≤ (j : Int) := by omega
   have xj := IntWalk.i64_in ((j : Int) + 1) (by omega)
   obtain ⟨b, o, rfl, hbl, hr⟩ := P1.out j hlt
   have LD := Lib.hid (show wr.rangeAt b (o + j * 4) [.int .i64 p[j].code, .int .u32 p[j].k, .int .i64 p[j].t, .int .i64 p[j].f] from hr)
   have HA := Lib.hid (HB.out.trans (((Below.refl wr.heap.size wr).alloc (Nat.le_refl _) (.cells #[.int .i64 p[j].code, .int .u32 p[j].k, .int .i64 p[j].t, .int .i64 p[j].f] 108)).mono hgs))
   have HM2 := Lib.hid (fun (hm : mayB p[j] ((p.length : Int) - 1 - j) = true) i (h : i < p.length) (hi : i < j + 1) => show mayB p[i] ((p.length : Int) - 1 - i) = true from by
    by_cases e : i = j
    ·subst e; exact hm
    ·exact HM.out i h (by omega))
   have NO := Lib.hid (fun (hm : ¬ mayB p[j] ((p.length : Int) - 1 - j) = true) => NW.out (fun h => hm (h.may j hlt)))
   have MI := Lib.hid (@may_iff p[j] ((p.length : Int) - 1 - j))
   generalize hmv : mayB p[j] ((p.length : Int) - 1 - j) = mv at *
   generalize p[j].code = qc at *
   generalize p[j].k = qk at *
   generalize p[j].t = qt at *
   generalize p[j].f = qf at *
   clear hr hmv HM
   by_cases a1 : qc < 0
   ·have e : v = false := NO.out (fun h => by have := MI.out.1 h; omega)
    subst e
    clear NO MI HM2
    go_wp2_with (first
     | (refine wpList_load_mid rfl 108 (.tmp 21) rfl b (o + j * 4) rfl _ _ LD.out Tryz.underlying108 rfl rop_info ?_)
     | fail)
    go_wp2
    go_ret
    exact ⟨rfl, HA.out⟩
   by_cases a2 : qc > 8
   ·have e : v = false := NO.out (fun h => by have := MI.out.1 h; omega)
    subst e
    clear NO MI HM2
    go_wp2_with (first
     | (refine wpList_load_mid rfl 108 (.tmp 21) rfl b (o + j * 4) rfl _ _ LD.out Tryz.underlying108 rfl rop_info ?_)
     | fail)
    go_wp2
    go_ret
    exact ⟨rfl, HA.out⟩
   by_cases a3 : qt < 0
   ·have e : v = false := NO.out (fun h => by have := MI.out.1 h; omega)
    subst e
    clear NO MI HM2
    go_wp2_with (first
     | (refine wpList_load_mid rfl 108 (.tmp 21) rfl b (o + j * 4) rfl _ _ LD.out Tryz.underlying108 rfl rop_info ?_)
     | fail)
    go_wp2
    go_ret
    exact ⟨rfl, HA.out⟩
   by_cases a4 : qt > 255
   ·have e : v = false := NO.out (fun h => by have := MI.out.1 h; omega)
    subst e
    clear NO MI HM2
    go_wp2_with (first
     | (refine wpList_load_mid rfl 108 (.tmp 21) rfl b (o + j * 4) rfl _ _ LD.out Tryz.underlying108 rfl rop_info ?_)
     | fail)
    go_wp2
    go_ret
    exact ⟨rfl, HA.out⟩
   by_cases a5 : qf < 0
   ·have e : v = false := NO.out (fun h => by have := MI.out.1 h; omega)
    subst e
    clear NO MI HM2
    go_wp2_with (first
     | (refine wpList_load_mid rfl 108 (.tmp 21) rfl b (o + j * 4) rfl _ _ LD.out Tryz.underlying108 rfl rop_info ?_)
     | fail)
    go_wp2
    go_ret
    exact ⟨rfl, HA.out⟩
   by_cases a6 : qf > 255
   ·have e : v = false := NO.out (fun h => by have := MI.out.1 h; omega)
    subst e
    clear NO MI HM2
    go_wp2_with (first
     | (refine wpList_load_mid rfl 108 (.tmp 21) rfl b (o + j * 4) rfl _ _ LD.out Tryz.underlying108 rfl rop_info ?_)
     | fail)
    go_wp2
    go_ret
    exact ⟨rfl, HA.out⟩
   by_cases c5 : qc = 5
   ·subst c5
    have x2 := IntWalk.i64_in ((j : Int) + 1 + qt) (by omega)
    have x3 := IntWalk.i64_in ((j : Int) + 1 + qf) (by omega)
    by_cases a7 : (j : Int) + 1 + qt ≥ (p.length : Int)
    ·have e : v = false := NO.out (fun h => by have := MI.out.1 h; omega)
     subst e
     clear NO MI HM2
     go_wp2_with (first
      | (refine wpList_load_mid rfl 108 (.tmp 21) rfl b (o + j * 4) rfl _ _ LD.out Tryz.underlying108 rfl rop_info ?_)
      | fail)
     go_wp2
     go_ret
     exact ⟨rfl, HA.out⟩
    by_cases a8 : (j : Int) + 1 + qf ≥ (p.length : Int)
    ·have e : v = false := NO.out (fun h => by have := MI.out.1 h; omega)
     subst e
     clear NO MI HM2
     go_wp2_with (first
      | (refine wpList_load_mid rfl 108 (.tmp 21) rfl b (o + j * 4) rfl _ _ LD.out Tryz.underlying108 rfl rop_info ?_)
      | fail)
     go_wp2
     go_ret
     exact ⟨rfl, HA.out⟩
    have HM3 := Lib.hid (HM2.out (MI.out.2 (by omega)))
    clear NO MI HM2
    go_wp2_with (first
     | (refine wpList_load_mid rfl 108 (.tmp 21) rfl b (o + j * 4) rfl _ _ LD.out Tryz.underlying108 rfl rop_info ?_)
     | fail)
    go_roundw
    case rel => exact ⟨j + 1, by omega, by simp, HA.out, HM3⟩
    case measure => simp [intOf]; omega
   have c5' : (qc == 5) = false := by simpa using c5
   by_cases c6 : qc = 6
   ·subst c6
    have x2 := IntWalk.i64_in ((j : Int) + 1 + qt) (by omega)
    have x3 := IntWalk.i64_in ((j : Int) + 1 + qf) (by omega)
    by_cases a7 : (j : Int) + 1 + qt ≥ (p.length : Int)
    ·have e : v = false := NO.out (fun h => by have := MI.out.1 h; omega)
     subst e
     clear NO MI HM2
     go_wp2_with (first
      | (refine wpList_load_mid rfl 108 (.tmp 21) rfl b (o + j * 4) rfl _ _ LD.out Tryz.underlying108 rfl rop_info ?_)
      | fail)
     go_wp2
     go_ret
     exact ⟨rfl, HA.out⟩
    by_cases a8 : (j : Int) + 1 + qf ≥ (p.length : Int)
    ·have e : v = false := NO.out (fun h => by have := MI.out.1 h; omega)
     subst e
     clear NO MI HM2
     go_wp2_with (first
      | (refine wpList_load_mid rfl 108 (.tmp 21) rfl b (o + j * 4) rfl _ _ LD.out Tryz.underlying108 rfl rop_info ?_)
      | fail)
     go_wp2
     go_ret
     exact ⟨rfl, HA.out⟩
    have HM3 := Lib.hid (HM2.out (MI.out.2 (by omega)))
    clear NO MI HM2
    go_wp2_with (first
     | (refine wpList_load_mid rfl 108 (.tmp 21) rfl b (o + j * 4) rfl _ _ LD.out Tryz.underlying108 rfl rop_info ?_)
     | fail)
    go_roundw
    case rel => exact ⟨j + 1, by omega, by simp, HA.out, HM3⟩
    case measure => simp [intOf]; omega
   have c6' : (qc == 6) = false := by simpa using c6
   have HM3 := Lib.hid (HM2.out (MI.out.2 (by omega)))
   clear NO MI HM2
   go_wp2_with (first
    | (refine wpList_load_mid rfl 108 (.tmp 21) rfl b (o + j * 4) rfl _ _ LD.out Tryz.underlying108 rfl rop_info ?_)
    | fail)
   go_roundw
   case rel => exact ⟨j + 1, by omega, by simp, HA.out, HM3⟩
   case measure => simp [intOf]; omega
  ·have hge : ¬ (j : Int) < (p.length : Int) := by omega
   have x1 := IntWalk.i64_in ((p.length : Int) - 1) (by omega)
   have hl : p.length - 1 < p.length := by omega
   obtain ⟨b, o, rfl, hbl, hr⟩ := P1.out (p.length - 1) hl
   have hc : wr.cell? ⟨b, o + (p.length - 1) * 4, none⟩ = some (.int .i64 p[p.length - 1].code) := hr 0 _ rfl
   have hla : mayB p[p.length - 1] ((p.length : Int) - 1 - (p.length - 1 : Nat)) = true := HM.out (p.length - 1) hl (by omega)
   obtain ⟨m0, m8, -⟩ := may_iff.1 hla
   have HF := Lib.hid (show decide (p[p.length - 1].code ≥ 7) = v from by
    by_cases h7 : p[p.length - 1].code ≥ 7
    ·rw [decide_eq_true h7]
     exact (HV.out.2 ⟨n1, n2, fun i h => HM.out i h (by omega), fun h => by omega⟩).symm
    ·rw [decide_eq_false h7]
     exact (NW.out (fun h => by have := h.last hl; omega)).symm)
   generalize p[p.length - 1].code = qc at *
   have e1 : ((p.length : Int) - 1).toNat = p.length - 1 := by omega
   have e2 : (0 : Int) ≤ (p.length : Int) - 1 := by omega
   have e3 : (p.length : Int) - 1 < (p.length : Int) := by omega
   have HC := Lib.hid hc
   clear hr hla HM m0 m8 hc

   have hc := HC.out
   go_wp2
   go_ret
   exact ⟨by rw [← HF.out]; rfl, HB.out⟩
end Go.Proofs.YtbkjjakkihbcdaaGreat.R7

/- The document's Do: what its last steps leave, cuts of texts. Conditions: those that each states. -/
namespace Go.Proofs.YtbkjjakkihbcdaaGreat.RD
open Go.ChangeShapes Go.WideShapes Go.ChangeAt Go.RowKit Go.Deep Fr
set_option linter.unusedVariables false
section
variable {gm bo bh bb co ch cb : Nat} {ps : List Pg} {w : World}
theorem fin_own {wc : World} (T : RefT wc gm bo bh bb co ch cb ps) (K : Chg w wc (Three bo bh bb)) {k : Nat} (hk : k < ps.length) (o : Nat) (ho : o ≤ 2) :
  ∀ n m : Nat, ∃ W, W = (wc.drewN n).setCell ⟨bo, k, none⟩ (.int .i64 (o : Int)) ∧ RefT (W.drewN m) gm bo bh bb co ch cb (ps.set k { ps[k] with owner := o }) ∧ Chg w (W.drewN m) (Three bo bh bb) :=
 fun n m => ⟨_, rfl, ((T.drewN n).setOwn hk o ho).drewN m, Chg.drewN ((K.drewN n).trans (Chg.set _ _ _ (.inl rfl))) m⟩
theorem fin_holds {wc : World} (T : RefT wc gm bo bh bb co ch cb ps) (K : Chg w wc (Three bo bh bb)) {k : Nat} (hk : k < ps.length) (q : Nat) (hq : q ≤ 1000000) :
  ∀ n m : Nat, ∃ W, W = (wc.drewN n).setCell ⟨bh, k, none⟩ (.int .i64 (q : Int)) ∧ RefT (W.drewN m) gm bo bh bb co ch cb (ps.set k { ps[k] with holds := q }) ∧ Chg w (W.drewN m) (Three bo bh bb) :=
 fun n m => ⟨_, rfl, ((T.drewN n).setHolds hk q hq).drewN m, Chg.drewN ((K.drewN n).trans (Chg.set _ _ _ (.inr (.inl rfl)))) m⟩
theorem fin_text {wc : World} (T : RefT wc gm bo bh bb co ch cb ps) (K : Chg w wc (Three bo bh bb)) {k : Nat} (hk : k < ps.length) (t : List UInt8) (ht : t.length = 256) :
  ∀ n m : Nat, ∃ W, W = (wc.drewN n).setCell ⟨bb, k, none⟩ (.string ⟨t.toArray⟩) ∧ RefT (W.drewN m) gm bo bh bb co ch cb (ps.set k { ps[k] with text := t }) ∧ Chg w (W.drewN m) (Three bo bh bb) :=
 fun n m => ⟨_, rfl, ((T.drewN n).setText hk t ht).drewN m, Chg.drewN ((K.drewN n).trans (Chg.set _ _ _ (.inr (.inr rfl)))) m⟩
theorem fin_blank {wt : World} {k : Nat} {hk0 : k < ps.length} (hT : RefT wt gm bo bh bb co ch cb (ps.set k { ps[k]'hk0 with owner := 0 })) (hK : Chg w wt (Three bo bh bb)) (hk : k < ps.length) (hh : ps[k].holds = 0) :
  RefT (wt.setCell ⟨bb, k, none⟩ (.string page0')) gm bo bh bb co ch cb (ps.set k .blank) ∧ Chg w (wt.setCell ⟨bb, k, none⟩ (.string page0')) (Three bo bh bb) := by
 have hk' : k < (ps.set k { ps[k] with owner := 0 }).length := by simpa using hk
 have h1 := hT.setText hk' (List.replicate 256 0) List.length_replicate
 rw [List.set_set] at h1
 have e : ({ (ps.set k { ps[k] with owner := 0 })[k] with text := List.replicate 256 0 } : Pg) = .blank := by
  rw [List.getElem_set_self]
  show (⟨0, ps[k].holds, List.replicate 256 0⟩ : Pg) = _
  rw [hh]
  rfl
 rw [e] at h1
 exact ⟨h1, hK.trans (Chg.set _ _ _ (.inr (.inr rfl)))⟩
theorem cut_data (l : List UInt8) (a b : Nat) : (⟨l.toArray⟩ : ByteArray).extract a b = ⟨((l.drop a).take (b - a)).toArray⟩ := by
 apply ByteArray.ext
 apply Array.toList_inj.1
 exact Lib.extract_data ⟨l.toArray⟩ a b
theorem cut_text (l : List UInt8) (o m : Nat) (h : o + m ≤ l.length) (w : World) :
  (Instr.slice 9 (.string ⟨l.toArray⟩) (some (.int .i64 (o : Int))) (some (.int .i64 ((o : Int) + (m : Int)))) none).run Tryz.prog w = .ok (.string ⟨((l.drop o).take m).toArray⟩) w := by
 have hs : (⟨l.toArray⟩ : ByteArray).size = l.length := by simp [ByteArray.size]
 have := run_slice_string (P := Tryz.prog) w 9 ⟨l.toArray⟩ .i64 .i64 (o : Int) ((o : Int) + (m : Int)) Tryz.underlying9 (by omega) (by omega) (by rw [hs]; omega)
 rw [this, cut_data, Int.toNat_natCast, show ((o : Int) + (m : Int)).toNat - o = m by omega]
theorem cut_front (l : List UInt8) (o : Nat) (h : o ≤ l.length) (w : World) :
  (Instr.slice 9 (.string ⟨l.toArray⟩) none (some (.int .i64 (o : Int))) none).run Tryz.prog w = .ok (.string ⟨(l.take o).toArray⟩) w := by
 have hs : (⟨l.toArray⟩ : ByteArray).size = l.length := by simp [ByteArray.size]
 rw [run_slice_string_h w 9 _ Tryz.underlying9 .i64 (o : Int) (by omega) (by rw [hs]; omega), cut_data, Int.toNat_natCast, List.drop_zero, Nat.sub_zero]
theorem cut_rest (l : List UInt8) (o : Nat) (h : o ≤ l.length) (w : World) :
  (Instr.slice 9 (.string ⟨l.toArray⟩) (some (.int .i64 (o : Int))) none none).run Tryz.prog w = .ok (.string ⟨(l.drop o).toArray⟩) w := by
 have hs : (⟨l.toArray⟩ : ByteArray).size = l.length := by simp [ByteArray.size]
 rw [run_slice_string_l w 9 _ Tryz.underlying9 .i64 (o : Int) (by omega) (by rw [hs]; omega), cut_data, Int.toNat_natCast, hs, List.take_of_length_le (by simp)]
end
end Go.Proofs.YtbkjjakkihbcdaaGreat.RD
