/- The document's Do: what its last steps leave, cuts of texts. Conditions: those that each states. -/
import Derived.Test.YtplmabnmkkkehaaRef05
import Derived.StillTailTactics
import Derived.Deep.QuietTactic
import Derived.BigQuiet
import Derived.Lib.Strings
namespace Go.Proofs.Ytplmabnmkkkehaa.RD
open Go.ChangeShapes Go.WideShapes Go.ChangeAt Go.RowKit Go.Deep Fr
set_option linter.unusedVariables false
section
variable {gm bo bh bb co ch cb : Nat} {ps : List Pg} {w : World}
theorem fin_own {wc : World} (T : RefT wc gm bo bh bb co ch cb ps) (K : Chg w wc (Three bo bh bb)) {k : Nat} (hk : k < ps.length) (o : Nat) (ho : o ≤ 2) :
    ∀ n m : Nat, ∃ W, W = (wc.drewN n).setCell ⟨bo, k, none⟩ (.int .i64 (o : Int)) ∧ RefT (W.drewN m) gm bo bh bb co ch cb (ps.set k { ps[k] with owner := o }) ∧ Chg w (W.drewN m) (Three bo bh bb) :=
  fun n m => ⟨_, rfl, ((T.drewN n).setOwn hk o ho).drewN m, Chg.drewN ((K.drewN n).trans (Chg.set _ _ _ (.inl rfl))) m⟩
theorem fin_holds {wc : World} (T : RefT wc gm bo bh bb co ch cb ps) (K : Chg w wc (Three bo bh bb)) {k : Nat} (hk : k < ps.length) (q : Nat) (hq : q ≤ 1000000) :
    ∀ n m : Nat, ∃ W, W = (wc.drewN n).setCell ⟨bh, k, none⟩ (.int .i64 (q : Int)) ∧ RefT (W.drewN m) gm bo bh bb co ch cb (ps.set k { ps[k] with holds := q }) ∧ Chg w (W.drewN m) (Three bo bh bb) :=
  fun n m => ⟨_, rfl, ((T.drewN n).setHolds hk q hq).drewN m, Chg.drewN ((K.drewN n).trans (Chg.set _ _ _ (.inr (.inl rfl)))) m⟩
theorem fin_text {wc : World} (T : RefT wc gm bo bh bb co ch cb ps) (K : Chg w wc (Three bo bh bb)) {k : Nat} (hk : k < ps.length) (t : List UInt8) (ht : t.length = 256) :
    ∀ n m : Nat, ∃ W, W = (wc.drewN n).setCell ⟨bb, k, none⟩ (.string ⟨t.toArray⟩) ∧ RefT (W.drewN m) gm bo bh bb co ch cb (ps.set k { ps[k] with text := t }) ∧ Chg w (W.drewN m) (Three bo bh bb) :=
  fun n m => ⟨_, rfl, ((T.drewN n).setText hk t ht).drewN m, Chg.drewN ((K.drewN n).trans (Chg.set _ _ _ (.inr (.inr rfl)))) m⟩
theorem fin_blank {wt : World} {k : Nat} {hk0 : k < ps.length} (hT : RefT wt gm bo bh bb co ch cb (ps.set k { ps[k]'hk0 with owner := 0 })) (hK : Chg w wt (Three bo bh bb)) (hk : k < ps.length) (hh : ps[k].holds = 0) :
    RefT (wt.setCell ⟨bb, k, none⟩ (.string page0')) gm bo bh bb co ch cb (ps.set k .blank) ∧ Chg w (wt.setCell ⟨bb, k, none⟩ (.string page0')) (Three bo bh bb) := by
  have hk' : k < (ps.set k { ps[k] with owner := 0 }).length := by simpa using hk
  have h1 := hT.setText hk' (List.replicate 256 0) List.length_replicate
  rw [List.set_set] at h1
  have e : ({ (ps.set k { ps[k] with owner := 0 })[k] with text := List.replicate 256 0 } : Pg) = .blank := by
    rw [List.getElem_set_self]
    show (⟨0, ps[k].holds, List.replicate 256 0⟩ : Pg) = _
    rw [hh]
    rfl
  rw [e] at h1
  exact ⟨h1, hK.trans (Chg.set _ _ _ (.inr (.inr rfl)))⟩
/-- Cuts of a text, and two put together. -/
theorem cut_data (l : List UInt8) (a b : Nat) : (⟨l.toArray⟩ : ByteArray).extract a b = ⟨((l.drop a).take (b - a)).toArray⟩ := by
  apply ByteArray.ext
  apply Array.toList_inj.1
  exact Lib.extract_data ⟨l.toArray⟩ a b
theorem cut_text (l : List UInt8) (o m : Nat) (h : o + m ≤ l.length) (w : World) :
    (Instr.slice 9 (.string ⟨l.toArray⟩) (some (.int .i64 (o : Int))) (some (.int .i64 ((o : Int) + (m : Int)))) none).run Try.prog w = .ok (.string ⟨((l.drop o).take m).toArray⟩) w := by
  have hs : (⟨l.toArray⟩ : ByteArray).size = l.length := by simp [ByteArray.size]
  have := run_slice_string (P := Try.prog) w 9 ⟨l.toArray⟩ .i64 .i64 (o : Int) ((o : Int) + (m : Int)) Try.underlying9 (by omega) (by omega) (by rw [hs]; omega)
  rw [this, cut_data, Int.toNat_natCast, show ((o : Int) + (m : Int)).toNat - o = m by omega]
theorem cut_front (l : List UInt8) (o : Nat) (h : o ≤ l.length) (w : World) :
    (Instr.slice 9 (.string ⟨l.toArray⟩) none (some (.int .i64 (o : Int))) none).run Try.prog w = .ok (.string ⟨(l.take o).toArray⟩) w := by
  have hs : (⟨l.toArray⟩ : ByteArray).size = l.length := by simp [ByteArray.size]
  rw [run_slice_string_h w 9 _ Try.underlying9 .i64 (o : Int) (by omega) (by rw [hs]; omega), cut_data, Int.toNat_natCast, List.drop_zero, Nat.sub_zero]
theorem cut_rest (l : List UInt8) (o : Nat) (h : o ≤ l.length) (w : World) :
    (Instr.slice 9 (.string ⟨l.toArray⟩) (some (.int .i64 (o : Int))) none none).run Try.prog w = .ok (.string ⟨(l.drop o).toArray⟩) w := by
  have hs : (⟨l.toArray⟩ : ByteArray).size = l.length := by simp [ByteArray.size]
  rw [run_slice_string_l w 9 _ Try.underlying9 .i64 (o : Int) (by omega) (by rw [hs]; omega), cut_data, Int.toNat_natCast, hs, List.take_of_length_le (by simp)]
theorem add_text (x y : List UInt8) (hx : x.length ≤ 100000) (hy : y.length ≤ 100000) (w : World) :
    (binOp .add 9 (.string ⟨x.toArray⟩) (.string ⟨y.toArray⟩)).run Try.prog w = .ok (.string ⟨(x ++ y).toArray⟩) w := by
  have := run_string_add_lists (P := Try.prog) w x y (by omega) (by omega)
  simpa [binOp] using this
end
end Go.Proofs.Ytplmabnmkkkehaa.RD
