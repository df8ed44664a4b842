/- Generic steps that several layers use: cuts of texts, structs stored whole, sources beside blocks. Conditions: those that each states. -/
import Derived.Test.YtldmcoagjgeeoaaRk0
import Derived.Test.YtldmcoagjgeeoaaTail
import Derived.Test.YtldmcoagjgeeoaaRow
import Derived.Test.YtldmcoagjgeeoaaCom
import Derived.Laws.BytesString
import Derived.Laws.IdiomStrings
import Derived.ChangeKeysEq
namespace Go.Proofs.Ytldmcoagjgeeoaa.Gx
open Go.ChangeShapes Go.WideShapes Go.ChangeAt Go.RowKit Go.Deep Rk
set_option linter.unusedVariables false

theorem chg_of_row {w w' : World} {g : Nat} (h : w.grownBy w' (some g)) : Chg w w' (fun b => b = g) :=
  ⟨h.os, h.tape, h.output, h.size, fun i hi hn => h.block i hi (fun e => hn (Option.some.inj e))⟩
theorem src_chg {w w' : World} {A : Option Addr} {n c : Nat} {l : List UInt8} {S : Nat → Prop} (h : Src w A n c l) (k : Chg w w' S) (hn : 0 < l.length → ∀ b o, A = some ⟨b, o, none⟩ → ¬ S b) : Src w' A n c l := by
  refine ⟨⟨fun hp => ?_, h.len, h.cap, h.max⟩, h.none_⟩
  obtain ⟨b, o, e, hb, hc⟩ := h.lies hp
  refine ⟨b, o, e, Nat.lt_of_lt_of_le hb k.size, fun j hj => ?_⟩
  rw [World.cell?_of_block (w := w) (w' := w') (a := ⟨b, o + j, none⟩) (k.block b hb (hn (by rw [bys_length] at hp; exact hp) b o e))]
  exact hc j hj
theorem chg_below {w w1 w2 : World} {g : Nat} (h : Below w.heap.size w w1) (k : Chg w1 w2 (fun b => b = g)) (hg : w.heap.size ≤ g) : Below w.heap.size w w2 :=
  ⟨k.os.trans h.os, k.tape.trans h.tape, k.output.trans h.output, Nat.le_trans h.size k.size, fun i hi => (k.block i (Nat.lt_of_lt_of_le hi h.size) (by omega)).trans (h.block i hi)⟩
/-- Bytes that are there don't lie in a block of other cells. -/
theorem src_apart {w : World} {A : Option Addr} {n c g : Nat} {l : List UInt8} {t : TypeId} {cs : Array Value} (h : Src w A n c l) (hb : Blk w g t cs) (hc : ∀ v ∈ cs.toList, ∀ x, v ≠ .int .u8 x) : 0 < l.length → ∀ b o, A = some ⟨b, o, none⟩ → ¬ b = g := by
  intro hp b o e hbg
  subst e hbg
  obtain ⟨b', o', e', _, hk⟩ := h.lies (by rw [bys_length]; exact hp)
  cases e'
  have h0 := hk 0 (by rw [bys_length]; exact hp)
  rw [hb.cell (o + 0)] at h0
  simp only [bys, List.getElem_map] at h0
  obtain ⟨hi, e⟩ := Array.getElem?_eq_some_iff.1 h0
  exact hc _ (by rw [← e]; simp) _ rfl
theorem src_row {w : World} {A : Option Addr} {n c g : Nat} {l : List UInt8} {t : TypeId} {cs : Array Value} (h : Src w A n c l) (hb : Blk w g t cs) (hc : ∀ v ∈ cs.toList, ∀ x, v ≠ .int .u8 x) (new : Array Value) : Src (w.setRow g new) A n c l :=
  src_chg h (Chg.setRow w new (g := g) (S := fun b => b = g) rfl) (src_apart h hb hc)
theorem blk_of {B : Nat} {W w' : World} (h : Below B W w') (t : TypeId) (cs : Array Value) : Blk (w'.alloc (.cells cs t)) w'.heap.size t cs ∧ W.heap.size ≤ w'.heap.size := ⟨Blk.new _ _ _, h.size⟩
/-- A struct stored whole in a drawing region; the store has no place of its own. -/
theorem wp_store_row_n {P : Program} {o : Oper} {a : Act} {w : World} {K : Act → World → Prop} {Q : Exit → Act → World → Prop} (hd : o.dst = none) (ty : TypeId) (x y : Operand) (ho : o.op = .store ty x y)
    (g : Nat) (cells : Array Value) (hx : a.eval x = .pointer (some ⟨g, 0, none⟩)) (hy : a.eval y = .agg cells)
    (t : TypeId) (old : Array Value) (hg : w.heap[g]? = some (.cells old t (0, 0))) (hi : (P.info? ty).map (·.size) = some cells.size)
    (hold : old.size = cells.size) (h1 : cells.all (·.oneCell') = true) (h : K a (w.setRow g cells)) : o.wp P a w K Q :=
  wp_store_row ty x y ho g cells hx hy t old hg hi hold h1 (by rw [hd]; exact h)
theorem text_of (s : ByteArray) : ∃ l : List UInt8, s = ⟨l.toArray⟩ := ⟨s.data.toList, by simp⟩
theorem rowG_blk {w : World} {g n sz : Nat} {t : TypeId} {cs : Array Value} (h : Blk w g t cs) (hs : cs.size = n * sz) (hn : n ≤ maxLen) : RowG w sz (some ⟨g, 0, none⟩) n n cs.toList := by
  refine ⟨by simpa using hs, Nat.le_refl _, hn, fun e => (by cases e), fun a e _ => ?_⟩
  cases e
  refine ⟨rfl, h.lt, fun j hj => ?_⟩
  rw [Nat.zero_add, h.cell j]
  simp at hj
  simp [hj]
theorem ownB_mono {w : World} {B B' g n c : Nat} {l : List UInt8} (h : OwnB w B g n c l) (hb : B' ≤ B) : OwnB w B' g n c l := ⟨owns_mono h.own hb, Nat.le_trans hb h.base, h.lt, h.cap, h.max⟩

/-- A cell of an array that is a value. -/
theorem run_index_arr {P : Program} (W : World) {t e : TypeId} {n : Nat} {cs : Array Value} {k : IntKind} {i : Nat} {v : Value} {ie : TypeInfo} (h : P.underlying t = some (.array n e)) (he : P.info? e = some ie) (hs : P.cellsOf e = 1) (ha : (isAgg e).run P W = .ok false W) (hi : i < n) (hv : cs[i]? = some v) :
    (Instr.index t (.agg cs) (.int k (i : Int))).run P W = .ok v W := by
  have h1 : (0 : Int) ≤ (i : Int) ∧ (i : Int) < (n : Int) := by omega
  unfold Instr.index
  simp [asIntOf, run_underlying h, Result.andThen_ok, run_sizeOf W he, hs, hi, part, ha, hv, go_sem]
/-- Bytes that a call lays out in a new block. -/
theorem src_new (w : World) (l : List UInt8) (hm : l.length ≤ 1000000) : Src (w.alloc (.cells (bys l).toArray 5)) (some ⟨w.heap.size, 0, none⟩) l.length l.length l := by
  refine ⟨⟨fun _ => ⟨w.heap.size, 0, rfl, by simp, fun j hj => ?_⟩, rfl, Nat.le_refl _, by omega⟩, fun e => by cases e⟩
  rw [(Blk.new w 5 (bys l).toArray).cell, Nat.zero_add]
  simp [List.getElem?_eq_getElem hj]

theorem u8_elem : (Try.prog.info? (Try.prog.elem 33)).map (·.size) = some 1 := by kernel_rfl
theorem u8_under : Try.prog.underlying 33 = some (.slice (Try.prog.elem 33)) := by kernel_rfl
/-- 'b[:x]' of bytes. -/
theorem run_front_u8 (A : Option Addr) (n c : Nat) (x : Int) (h0 : 0 ≤ x) (hx : x ≤ c) (W : World) :
    (Instr.slice 33 (.slice A n c) none (some (.int .i64 x)) none).run Try.prog W = .ok (.slice A x.toNat c) W := by
  obtain ⟨i, hi, hs⟩ := Option.map_eq_some_iff.1 u8_elem
  rw [run_slice_h W 33 A n c u8_under .i64 x h0 hx]
  have hz : (sizeOf (Try.prog.elem 33)).run Try.prog W = .ok i.size W := by simp [sizeOf, typeInfo, hi]
  rw [hz]
  simp only [Result.andThen_ok, sliced]
  cases A with
  | none => simp
  | some a => simp [Addr.add]
/-- 'b[a:b]' of bytes. -/
theorem run_sub_u8 (A : Option Addr) (len c a b : Nat) (hab : a ≤ b) (hx : b ≤ c) (W : World) :
    (Instr.slice 33 (.slice A len c) (some (.int .i64 (a : Int))) (some (.int .i64 (b : Int))) none).run Try.prog W = .ok (.slice (if c = a then A else A.map (·.add a)) (b - a) (c - a)) W := by
  obtain ⟨i, hi, hs⟩ := Option.map_eq_some_iff.1 u8_elem
  rw [run_slice_lh W 33 A len c u8_under .i64 .i64 (a : Int) (b : Int) (by omega) (by omega) (by omega)]
  have hz : (sizeOf (Try.prog.elem 33)).run Try.prog W = .ok i.size W := by simp [sizeOf, typeInfo, hi]
  rw [hz]
  simp [sliced, hs]
theorem sub_at_u8 (A : Option Addr) (len c a b : Nat) (hab : a ≤ b) (hx : b ≤ c) : ∃ A', (∀ W, (Instr.sliceAt 33 (.slice A len c) (some (.int .i64 (a : Int))) (some (.int .i64 (b : Int))) none).run Try.prog W = .ok (.slice A' (b - a) (c - a)) W) ∧ A' = (if c = a then A else A.map (·.add a)) :=
  ⟨_, fun W => (run_sliceAt_slice (P := Try.prog) (w := W) 33 (.slice A len c) (some (.int .i64 (a : Int))) (some (.int .i64 (b : Int))) none u8_under).trans (run_sub_u8 A len c a b hab hx W), rfl⟩
theorem src_front {w : World} {A : Option Addr} {n c k : Nat} {l : List UInt8} (h : Src w A n c l) (hk : k ≤ n) : Src w A k c (l.take k) := ⟨h.toBytes.take hk, h.none_⟩
theorem src_sub {w : World} {A : Option Addr} {n c a b : Nat} {l : List UInt8} (h : Src w A n c l) (hk : a + b ≤ n) : Src w (if c = a then A else A.map (·.add a)) b (c - a) ((l.drop a).take b) := by
  refine ⟨(h.toBytes.cut (by omega)).take (by omega), fun e => ?_⟩
  split at e
  · rename_i h1
    omega
  · cases A with
    | none => have := h.none_ rfl; omega
    | some x => cases e

/-- What is told of a call that tells bytes and an error: the bytes where it may, else none and that error. -/
def Tells (w w' : World) (e : Ending) (may : Bool) (l : List UInt8) (er : Int) : Prop :=
  (may = false ∧ e = .returned (.tuple #[.slice none 0 0, .int .i64 er])) ∨ (may = true ∧ ∃ g c, e = .returned (.tuple #[.slice (some ⟨g, 0, none⟩) l.length c, .int .i64 0]) ∧ OwnB w' w.heap.size g l.length c l)
theorem Tells.base {w W w' : World} {e : Ending} {may : Bool} {l : List UInt8} {er : Int} (h : Tells W w' e may l er) (k : w.heap.size ≤ W.heap.size) : Tells w w' e may l er := by
  rcases h with h | ⟨h, g, c, e1, o⟩
  · exact .inl h
  · exact .inr ⟨h, g, c, e1, ownB_mono o k⟩
def textOf (may : Bool) (l : List UInt8) : List UInt8 := if may then l else []
def errIf (may : Bool) (er : Int) : Int := if may then 0 else er
theorem Tells.form {w w' : World} {e : Ending} {may : Bool} {l : List UInt8} {er : Int} (h : Tells w w' e may l er) :
    ∃ A c, e = .returned (.tuple #[.slice A (textOf may l).length c, .int .i64 (errIf may er)]) ∧ Src w' A (textOf may l).length c (textOf may l) := by
  rcases h with ⟨rfl, rfl⟩ | ⟨rfl, g, c, rfl, O⟩
  · exact ⟨none, 0, rfl, Src.nil _⟩
  · exact ⟨_, _, rfl, O.src⟩
def STells (e : Ending) (may : Bool) (l : List UInt8) (er : Int) : Prop := e = .returned (if may then .tuple #[.string ⟨l.toArray⟩, .int .i64 0] else .tuple #[.string ⟨#[]⟩, .int .i64 er])
theorem STells.form {e : Ending} {may : Bool} {l : List UInt8} {er : Int} (h : STells e may l er) : e = .returned (.tuple #[.string ⟨(textOf may l).toArray⟩, .int .i64 (errIf may er)]) := by
  unfold STells at h
  cases may <;> exact h

theorem exec_slice {P : Program} {a : Act} {o : Oper} {t : TypeId} {x : Operand} {lo hi : Option Operand} {lo' hi' : Option Value} (ht : P.underlying t = some .string) (ho : o.op = .slice t x lo hi none) {v y : Value} (hx : a.eval x = y) (h1 : lo.map a.eval = lo') (h2 : hi.map a.eval = hi') {w : World} (h : (Instr.slice t y lo' hi' none).run P w = .ok v w) : (execOp a.eval o).run P w = .ok (.value v) w := by
  unfold execOp
  simp only [ho, hx, h1, h2, Option.map_none, Sem.run_bind, run_sliceAt_string _ _ _ _ _ _ ht, h, Result.andThen_ok, Sem.run_pure]
/-- A part of a text. -/
theorem run_cut_text (l : List UInt8) (i j : Nat) (h : i ≤ j) (hj : j ≤ l.length) (hm : l.length ≤ 1000000) (W : World) :
    (Instr.slice 9 (.string ⟨l.toArray⟩) (some (.int .i64 (i : Int))) (some (.int .i64 (j : Int))) none).run Try.prog W = .ok (.string ⟨((l.drop i).take (j - i)).toArray⟩) W := by
  have hs : (⟨l.toArray⟩ : ByteArray).size = l.length := rfl
  rw [run_slice_string W 9 _ .i64 .i64 (i : Int) (j : Int) Try.underlying9 (by omega) (by omega) (by omega), Int.toNat_natCast, Int.toNat_natCast, ByteArray.extract_mk]
theorem run_front_text (l : List UInt8) (j : Nat) (hj : j ≤ l.length) (W : World) :
    (Instr.slice 9 (.string ⟨l.toArray⟩) none (some (.int .i64 (j : Int))) none).run Try.prog W = .ok (.string ⟨(l.take j).toArray⟩) W := by
  have hs : (⟨l.toArray⟩ : ByteArray).size = l.length := rfl
  rw [run_slice_string_h W 9 _ Try.underlying9 .i64 (j : Int) (by omega) (by omega)]
  congr 2
  apply ByteArray.ext
  rw [ByteArray.data_extract]
  simp
theorem run_back_text (l : List UInt8) (j : Nat) (hj : j ≤ l.length) (W : World) :
    (Instr.slice 9 (.string ⟨l.toArray⟩) (some (.int .i64 (j : Int))) none none).run Try.prog W = .ok (.string ⟨(l.drop j).toArray⟩) W := by
  have hs : (⟨l.toArray⟩ : ByteArray).size = l.length := rfl
  rw [run_slice_string_l W 9 _ Try.underlying9 .i64 (j : Int) (by omega) (by omega)]
  congr 2
  apply ByteArray.ext
  rw [ByteArray.data_extract]
  simp [hs]
  rw [List.take_of_length_le (by simp)]
end Go.Proofs.Ytldmcoagjgeeoaa.Gx
