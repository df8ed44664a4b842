/- The variables that this program's calls read, as its rows lay them (the library's table of powers of ten; the names of weekdays and months, the days of months), and that they stand while nothing that was there turns. Conditions: those that each states. -/
import Derived.Test.YtbmnfefpkahejaaDoorCards
import Derived.Test.YtbmnfefpkahejaaDoorTie
import Derived.Test.YtbmnfefpkahejaaDoorGen
import Derived.Test.YtbmnfefpkahejaaDoorShelf
import Derived.Lay
import Derived.LaidMore
import Derived.MakeChecks
import Derived.JoinedCond
import Derived.Deep.DeepHandedRow
import Derived.Stop.LaidErr
import Derived.Lib.LaidTab
import Derived.Lib.ItoaNum
namespace Go.Proofs.YtbmnfefpkahejaaDoor
open Go.ChangeShapes Go.WideShapes Go.ChangeAt Go.RowKit

/-- A table of texts, as a row lists it. -/
def strData {H : Type} (ls : List (List UInt8)) : DataW H := .agg (ls.map fun l => .lit (.string l))
/-- Its cells. -/
def strCellsOf (ls : List (List UInt8)) : List Value := ls.map fun l => Value.string ⟨l.toArray⟩
theorem cells_of_strs {H : Type} {enc : TypeId × Value → H} {P : Program} {w : World} {base : Nat} {sp : Nat → Bool} {held : Bool} {fuel : Nat} {t e : TypeId} {n : Nat} {cs : List Value} {ls : List (List UInt8)} {p : List MemPlace}
    (ht : P.underlying t = some (.array n e)) (he : P.underlying e = some .string) (hce : P.cellsOf e = 1) (hct : P.cellsOf t = n)
    (h : DataW.trod enc P w base sp held fuel t cs = some (strData ls, p)) : cs = strCellsOf ls := by
  cases fuel with
  | zero => simp [DataW.trod] at h
  | succ fuel =>
    simp only [DataW.trod, ht, hce, hct, Nat.mul_one] at h
    split at h
    · rename_i hl
      obtain ⟨xs, hm, hx⟩ := Option.map_eq_some_iff.1 h
      have hxs : xs.map (·.1) = ls.map fun l => (DataW.lit (.string l) : DataW H) := by
        have := congrArg Prod.fst hx
        simpa [strData] using this
      have hxl : xs.length = n := by simpa using Lib.mapM_length hm
      have hzl : ls.length = n := by
        have := congrArg List.length hxs
        simp at this
        omega
      unfold strCellsOf
      apply List.ext_getElem?
      intro i
      by_cases hi : i < n
      · obtain ⟨b, hb, hf⟩ := Lib.mapM_at hm i i (by simp [hi])
        obtain ⟨s, hc, rfl, _⟩ := DataW.trod_string he hf
        have h1 : cs[i]? = some (.string s) := by
          have := congrArg (·[0]?) hc
          simpa [List.getElem?_take, List.getElem?_drop] using this
        have h2 : (xs.map (·.1))[i]? = some (DataW.lit (.string s.data.toList) : DataW H) := by simp [hb]
        rw [hxs] at h2
        simp only [List.getElem?_map, Option.map_eq_some_iff, DataW.lit.injEq, Lit.string.injEq] at h2
        obtain ⟨l, hl', rfl⟩ := h2
        simp [h1, hl']
      · rw [List.getElem?_eq_none (by omega), List.getElem?_eq_none (by simp; omega)]
    · cases h
theorem strs_of_head {P : Program} {W : World} {name : String} {ls : List (List UInt8)} {rest : List (String × DataW Unit)} {g : Nat} {t e : TypeId} {n : Nat}
    (hg : P.globalNamed name = some g) (hty : (P.globals[g]?).map (·.type) = some t) (ht : P.underlying t = some (.array n e)) (he : P.underlying e = some .string) (hce : P.cellsOf e = 1) (hct : P.cellsOf t = n)
    (h : laidMet P ((name, strData ls) :: rest) W) : W.var? P name = some (strCellsOf ls).toArray := by
  obtain ⟨ps, ⟨g', t', cs, fuel, p, q, hg', ht', hvar, hd, _, _⟩, _⟩ := h
  obtain rfl := Option.some.inj (hg.symm.trans hg')
  obtain rfl := Option.some.inj (hty.symm.trans ht')
  rw [hvar, ← cells_of_strs ht he hce hct hd]

def wdNames : List (List UInt8) := [[83, 117, 110], [77, 111, 110], [84, 117, 101], [87, 101, 100], [84, 104, 117], [70, 114, 105], [83, 97, 116]]
def moNames : List (List UInt8) := [[74, 97, 110], [70, 101, 98], [77, 97, 114], [65, 112, 114], [77, 97, 121], [74, 117, 110], [74, 117, 108], [65, 117, 103], [83, 101, 112], [79, 99, 116], [78, 111, 118], [68, 101, 99]]
def moDays : List Int := [31, 28, 31, 30, 31, 30, 31, 31, 30, 31, 30, 31]

/-- What the calls read. -/
structure Vars (w : World) : Prop where
  tab : Lib.TabIs Tryd.prog w "internal/strconv.uint64pow10" .u64 Lib.pow10Tab
  days : Lib.TabIs Tryd.prog w "pantler/civil.monthDays" .i64 moDays
  wds : w.var? Tryd.prog "pantler/civil.weekdays" = some (strCellsOf wdNames).toArray
  mos : w.var? Tryd.prog "pantler/civil.months" = some (strCellsOf moNames).toArray

theorem gTab : Tryd.prog.globalNamed "internal/strconv.uint64pow10" = some 3 := by kernel_rfl
theorem gDays : Tryd.prog.globalNamed "pantler/civil.monthDays" = some 2 := by kernel_rfl
theorem gWds : Tryd.prog.globalNamed "pantler/civil.weekdays" = some 0 := by kernel_rfl
theorem gMos : Tryd.prog.globalNamed "pantler/civil.months" = some 1 := by kernel_rfl
theorem var_carry {w w' : World} {name : String} {g : Nat} {cs : Array Value} (hg : Tryd.prog.globalNamed name = some g) (h : w.var? Tryd.prog name = some cs) (k : w'.heap[g]? = w.heap[g]?) : w'.var? Tryd.prog name = some cs := by
  rw [← h]
  unfold World.var?
  rw [hg]
  simp only [Option.bind_some]
  rw [k]
theorem var_room {w : World} {name : String} {g : Nat} {cs : Array Value} (hg : Tryd.prog.globalNamed name = some g) (h : w.var? Tryd.prog name = some cs) : g < w.heap.size := by
  unfold World.var? at h
  rw [hg] at h
  simp only [Option.bind_some] at h
  rcases Nat.lt_or_ge g w.heap.size with hlt | hge
  · exact hlt
  · rw [Array.getElem?_eq_none hge] at h; cases h
theorem Vars.room {w : World} (h : Vars w) : 3 < w.heap.size ∧ 2 < w.heap.size ∧ 0 < w.heap.size ∧ 1 < w.heap.size :=
  ⟨var_room gTab h.tab, var_room gDays h.days, var_room gWds h.wds, var_room gMos h.mos⟩
theorem Vars.older {w w' : World} (h : Vars w) (k : Older w w') : Vars w' :=
  ⟨var_carry gTab h.tab (k.2 _ h.room.1), var_carry gDays h.days (k.2 _ h.room.2.1), var_carry gWds h.wds (k.2 _ h.room.2.2.1), var_carry gMos h.mos (k.2 _ h.room.2.2.2)⟩
theorem Vars.below {w w' : World} (h : Vars w) (hb : Below w.heap.size w w') : Vars w' := h.older (older_below hb)
theorem Vars.alloc {w : World} (h : Vars w) (o : Obj) : Vars (w.alloc o) := h.older (older_alloc w o)
theorem Vars.drewN {w : World} (h : Vars w) (k : Nat) : Vars (w.drewN k) := h.older ⟨Nat.le_refl _, fun _ _ => rfl⟩
theorem Vars.drew {w : World} (h : Vars w) : Vars w.drew := h.older ⟨Nat.le_refl _, fun _ _ => rfl⟩
theorem Vars.day {w : World} (h : Vars w) (i : Nat) (hi : i < 12) : w.cell? ⟨2, i, none⟩ = some (.int .i64 (moDays.getD i 0)) := h.days.cell gDays i hi
theorem Vars.wd {w : World} (h : Vars w) (i : Nat) (hi : i < 7) : w.cell? ⟨0, i, none⟩ = some (.string ⟨(wdNames.getD i []).toArray⟩) := by
  have := World.var?_cell gWds h.wds i
  rw [this]
  have hl : i < wdNames.length := hi
  simp [strCellsOf, List.getD, hl]
theorem Vars.mo {w : World} (h : Vars w) (i : Nat) (hi : i < 12) : w.cell? ⟨1, i, none⟩ = some (.string ⟨(moNames.getD i []).toArray⟩) := by
  have := World.var?_cell gMos h.mos i
  rw [this]
  have hl : i < moNames.length := hi
  simp [strCellsOf, List.getD, hl]

theorem pow10_data : (Rows.laid_internal_strconv_uint64pow10 : DataW Unit) = Lib.tabData .u64 Lib.pow10Tab := by kernel_rfl
theorem days_data : (Rows.laid_pantler_civil_monthDays : DataW Unit) = Lib.tabData .i64 moDays := by kernel_rfl
theorem wds_data : (Rows.laid_pantler_civil_weekdays : DataW Unit) = strData wdNames := by kernel_rfl
theorem mos_data : (Rows.laid_pantler_civil_months : DataW Unit) = strData moNames := by kernel_rfl
/-- What a row's list gives. -/
theorem Vars.of {W : World} (hL : laidMetH Tryd.prog Rows.civilDatesRow.laid W) : Vars W := by
  rw [MakeChecks.laidMetH_plain _ _ _ (by kernel_rfl)] at hL
  unfold Rows.civilDatesRow at hL
  have h2 := hL.tail.tail
  have h3 := h2.tail
  have h4 := h3.tail
  have h5 := h4.tail
  exact ⟨Lib.tabIs_of_head (rest := _) gTab (by kernel_rfl) Tryd.underlying63 Tryd.underlying57 (by kernel_rfl) (by kernel_rfl) (pow10_data ▸ h2),
    Lib.tabIs_of_head (rest := _) gDays (by kernel_rfl) Tryd.underlying54 Tryd.underlying3 (by kernel_rfl) (by kernel_rfl) (days_data ▸ h5),
    strs_of_head (rest := _) gWds (by kernel_rfl) Tryd.underlying45 Tryd.underlying9 (by kernel_rfl) (by kernel_rfl) (wds_data ▸ h3),
    strs_of_head (rest := _) gMos (by kernel_rfl) Tryd.underlying47 Tryd.underlying9 (by kernel_rfl) (by kernel_rfl) (mos_data ▸ h4)⟩
end Go.Proofs.YtbmnfefpkahejaaDoor
