/- The library's variables that this program's calls read, as its rows lay them, and that they stand while nothing that was there turns. Conditions: those that each states. -/
import Derived.Test.YtflbckeebmlofaaDoorCards
import Derived.Test.YtflbckeebmlofaaDoorTie
import Derived.Test.YtflbckeebmlofaaDoorGen
import Derived.Test.YtflbckeebmlofaaDoorShelf
import Derived.Lay
import Derived.LaidMore
import Derived.MakeChecks
import Derived.JoinedCond
import Derived.Deep.DeepHandedRow
import Derived.Stop.LaidErr
import Derived.Lib.LaidTab
import Derived.Lib.ItoaNum
namespace Go.Proofs.YtflbckeebmlofaaDoor
open Go.ChangeShapes Go.WideShapes Go.ChangeAt Go.RowKit

/-- What the calls into the library read. -/
structure Vars (w : World) : Prop where
  tab : Lib.TabIs Tryd.prog w "internal/strconv.uint64pow10" .u64 Lib.pow10Tab
  max : ∃ m, w.cell? ⟨3, 0, none⟩ = some (.int .i64 m)
  room : 2 < w.heap.size ∧ 3 < w.heap.size

theorem gTab : Tryd.prog.globalNamed "internal/strconv.uint64pow10" = some 2 := by kernel_rfl
theorem Vars.carry {w w' : World} (h : Vars w) (hs : w.heap.size ≤ w'.heap.size) (k : ∀ i, i = 2 ∨ i = 3 → w'.heap[i]? = w.heap[i]?) : Vars w' := by
  refine ⟨?_, ?_, Nat.lt_of_lt_of_le h.room.1 hs, Nat.lt_of_lt_of_le h.room.2 hs⟩
  · have h0 : w.var? Tryd.prog "internal/strconv.uint64pow10" = _ := h.tab
    show w'.var? Tryd.prog "internal/strconv.uint64pow10" = _
    rw [← h0]
    unfold World.var?
    rw [gTab]
    simp only [Option.bind_some]
    rw [k _ (.inl rfl)]
  · obtain ⟨m, hm⟩ := h.max
    refine ⟨m, ?_⟩
    rw [World.cell?_of_block (w := w) (w' := w') (a := ⟨3, 0, none⟩) (k _ (.inr rfl))]
    exact hm
theorem Vars.older {w w' : World} (h : Vars w) (k : Older w w') : Vars w' :=
  h.carry k.1 fun i hi => k.2 i (by rcases hi with rfl | rfl <;> first | exact h.room.1 | exact h.room.2)
theorem Vars.below {w w' : World} (h : Vars w) (hb : Below w.heap.size w w') : Vars w' := h.older (older_below hb)
/-- Likewise where all that lay below B stands, and they lie below B. -/
theorem Vars.belowN {w0 w w' : World} (h0 : Vars w0) (h : Vars w) (hb : Below w0.heap.size w w') : Vars w' :=
  h.carry hb.size fun i hi => hb.block i (by rcases hi with rfl | rfl <;> first | exact h0.room.1 | exact h0.room.2)
theorem Vars.alloc {w : World} (h : Vars w) (o : Obj) : Vars (w.alloc o) := h.older (older_alloc w o)
theorem Vars.drewN {w : World} (h : Vars w) (k : Nat) : Vars (w.drewN k) := h.older ⟨Nat.le_refl _, fun _ _ => rfl⟩
theorem Vars.drew {w : World} (h : Vars w) : Vars w.drew := h.older ⟨Nat.le_refl _, fun _ _ => rfl⟩

theorem pow10_data : (Rows.laid_internal_strconv_uint64pow10 : DataW Unit) = Lib.tabData .u64 Lib.pow10Tab := by kernel_rfl
/-- What a row's list and a world's shape give. -/
theorem Vars.of {W : World} (hL : laidMetH Tryd.prog Rows.octetPutsRow.laid W) (hsh : W.ShapedOpen Tryd.prog) : Vars W := by
  rw [MakeChecks.laidMetH_plain _ _ _ (by kernel_rfl)] at hL
  have h2 := hL.tail.tail
  have hmax := Tryd.laysM147.s1_3 W hsh
  have htab : Lib.TabIs Tryd.prog W "internal/strconv.uint64pow10" .u64 Lib.pow10Tab := by
    unfold Rows.octetPutsRow at h2
    exact Lib.tabIs_of_head (rest := _) gTab (by kernel_rfl) Tryd.underlying108 Tryd.underlying23 (by kernel_rfl) (by kernel_rfl) (pow10_data ▸ h2)
  refine ⟨htab, hmax, ?_, ?_⟩
  · have h : W.var? Tryd.prog "internal/strconv.uint64pow10" = _ := htab
    unfold World.var? at h
    rw [gTab] at h
    simp only [Option.bind_some] at h
    rcases Nat.lt_or_ge 2 W.heap.size with hlt | hge
    · exact hlt
    · rw [Array.getElem?_eq_none hge] at h; cases h
  · obtain ⟨m, hm⟩ := hmax
    have hm' : W.cell? ⟨3, 0, none⟩ = some (.int .i64 m) := hm
    unfold World.cell? at hm'
    rcases Nat.lt_or_ge 3 W.heap.size with hlt | hge
    · exact hlt
    · simp only [Array.getElem?_eq_none hge] at hm'; cases hm'
end Go.Proofs.YtflbckeebmlofaaDoor
