/- Texts as bytes in blocks of a call's own; a text copied into 256 bytes. Conditions: those that each states. -/
import Derived.Test.YtlilfblnlpjkcaaKB
import Derived.Test.YtlilfblnlpjkcaaKD
import Derived.Lib.BufferWrite
namespace Go.Proofs.Ytlilfblnlpjkcaa.Ke
open Go.ChangeShapes Go.WideShapes Go.ChangeAt Go.RowKit Go.Deep Fr Di
set_option linter.unusedVariables false
/-- '[]byte(s)' lies in a block of its own. -/
theorem conv_own (s : ByteArray) (hs : s.size ≤ 1000000) (w : World) : ∃ c W', (convert 9 29 (.string s)).run Try.prog w = .ok (.slice (some ⟨w.heap.size, 0, none⟩) s.size c) W' ∧ Src W' (some ⟨w.heap.size, 0, none⟩) s.size c s.data.toList ∧ Below w.heap.size w W' ∧ w.heap.size < W'.heap.size := by
  refine ⟨_, _, run_bytes_of_string w 9 29 5 s Try.underlying9 Try.underlying29 Try.underlying5, ⟨⟨fun hp => ⟨w.heap.size, 0, rfl, (Array.getElem?_eq_some_iff.1 (heap_alloc_new w.drew _)).1, fun j hj => ?_⟩, Array.length_toList, grownCap_ge w _ _ _, ?_⟩, fun e => by cases e⟩, ?_, (Array.getElem?_eq_some_iff.1 (heap_alloc_new w.drew _)).1⟩
  · have hj' : j < s.data.size := by simpa [bys] using hj
    have hh : (w.drew.alloc (.cells (bytesRow s (grownCap w s.size 0 5)) 5 ((bytesRow s (grownCap w s.size 0 5)).size, (bytesRow s (grownCap w s.size 0 5)).size + 1))).heap[w.heap.size]? = some (.cells (bytesRow s (grownCap w s.size 0 5)) 5 ((bytesRow s (grownCap w s.size 0 5)).size, (bytesRow s (grownCap w s.size 0 5)).size + 1)) := heap_alloc_new w.drew _
    rw [Nat.zero_add, cell_of_row _ _ _ _ _ _ hh, bytesRow_at s _ j hj']
    simp [bys]
  · have := grownCap_le_maxLen w s.size 0 5 (by unfold maxLen; omega)
    simpa [maxLen] using this
  · exact (⟨rfl, rfl, rfl, Nat.le_refl _, fun _ _ => rfl⟩ : Below w.heap.size w w.drew).alloc (Nat.le_refl _) _
/-- A call that writes bytes that lie in a block of the caller's own. -/
theorem bytes_in {w : World} {lab : Nat → Nat} {g n c : Nat} {s : List UInt8} (hs : Src w (some ⟨g, 0, none⟩) n c s) (hg : g < w.heap.size) (h0 : lab g = 0) (op env a b : Int) (hb : -9223372036854775808 ≤ b ∧ b ≤ 9223372036854775807) :
    (⟨op, env, a, b, 0, s, [], []⟩ : KQ).In w lab ⟨some ⟨g, 0, none⟩, c, none, 0, none, 0⟩ := by
  have hl := hs.len
  exact ⟨hb, by rw [← hl] at hs; exact hs, fun b' o' e => (by cases e; exact ⟨hg, h0⟩), fun i hi => absurd hi (by simp), fun _ => ⟨rfl, rfl⟩, by simp, fun p hp => (by cases hp), fun i hi => absurd hi (by simp), fun p hp => (by cases hp), fun b o e => (by cases e), Nat.le_refl _, by simp⟩
/-- Bytes in a block of the call's own, beside a kernel. -/
def OwnAt (w : World) (lab : Nat → Nat) (g n c : Nat) (s : List UInt8) : Prop := Src w (some ⟨g, 0, none⟩) n c s ∧ g < w.heap.size ∧ lab g = 0
theorem OwnAt.step {w w' : World} {lab lab' : Nat → Nat} {g n c : Nat} {s : List UInt8} (h : OwnAt w lab g n c s) (L : LStep w w' lab lab') : OwnAt w' lab' g n c s :=
  ⟨src_chg h.1 L.chg (fun b o e hh => by cases e; exact hh.1 h.2.2), Nat.lt_of_lt_of_le h.2.1 L.chg.size, L.zero h.2.2 h.2.1⟩
theorem OwnAt.new {w w' : World} {lab : Nat → Nat} {g n c : Nat} {s : List UInt8} (h : OwnAt w lab g n c s) (k : Below w.heap.size w w') : OwnAt w' lab g n c s := h.step (LStep.news lab k)
/-- A text and what is behind it in 256 bytes. -/
def blkT (s : ByteArray) : List UInt8 := s.data.toList ++ List.replicate (256 - s.size) 0
theorem blkT_len {s : ByteArray} (h : s.size ≤ 256) : (blkT s).length = 256 := by
  have : s.data.toList.length = s.size := rfl
  unfold blkT
  rw [List.length_append, List.length_replicate]
  omega
theorem blk_cells (g : Nat) {s : ByteArray} (h : s.size ≤ 256) : (⟨7, 1, 0, 0, 0, blkT s, [], []⟩ : KQ).cells ⟨some ⟨g, 0, none⟩, 256, none, 0, none, 0⟩ = #[.int .i64 7, .int .i64 1, .int .i64 0, .int .i64 0, .int .i64 0, .slice (some ⟨g, 0, none⟩) 256 256, .slice none 0 0, .slice none 0 0] := by
  show (#[.int .i64 7, .int .i64 1, .int .i64 0, .int .i64 0, .int .i64 0, .slice (some ⟨g, 0, none⟩) (blkT s).length 256, .slice none 0 0, .slice none 0 0] : Array Value) = _
  rw [blkT_len h]
theorem made_size : (madeCells #[.int .u8 0] 256).size = 256 := by simp [madeCells]
theorem made_at {j : Nat} (h : j < 256) : (madeCells #[.int .u8 0] 256)[j]? = some (.int .u8 0) := by
  unfold madeCells
  rw [Array.getElem?_map, Array.getElem?_range, if_pos (by simpa using h)]
  have e : j % (#[Value.int .u8 0] : Array Value).size = 0 := Nat.mod_one j
  simp only [Option.map_some, e]
  rfl
theorem wpList_copy_str {w : World} {ops : Array Oper} {rest : List Oper} {op : Oper} {a : Act} {Q : Exit → Act → World → Prop} (hgd : op.guard = none) (d x : Operand)
    (ho : op.op = .call { callee := .builtin .copy, args := #[d, x], argTypes := #[29, 9] }) (g : Nat) (s : ByteArray) (hd : a.eval d = .slice (some ⟨g, 0, none⟩) 256 256) (hx : a.eval x = .string s)
    (hg : Blk w g 5 (madeCells #[.int .u8 0] 256)) (hle : s.size ≤ 256)
    (h : ∀ w', Chg w w' (fun k => k = g) → Src w' (some ⟨g, 0, none⟩) 256 256 (blkT s) → g < w'.heap.size → wpList Try.prog ops Q rest (a.put op.dst (goInt s.size)) w') : wpList Try.prog ops Q (op :: rest) a w := by
  obtain ⟨i0, hi, hz0, hz1, hz2⟩ := u8_info
  have hcs := made_size
  have hlen : (Lib.byteCells s.data.toList).length = s.size := by rw [Lib.byteCells_length]; rfl
  have hrun := Lib.run_copy_row_string (P := Try.prog) w 29 9 op.type 5 g 0 256 256 s (madeCells #[.int .u8 0] 256) 5 Try.underlying29 (by rw [hi]; simp [hz1]) hg hle (by rw [hcs]; omega)
  refine wpList_plain hgd fun K hK => ?_
  unfold Oper.wp
  simp only [execOp, ho, resolve, invoke, builtin, List.map_toArray, List.map_cons, List.map_nil, hd, hx, Sem.run_bind, Sem.run_pure, Result.andThen_ok, hrun]
  refine hK _ _ (h _ (Chg.setRow w _ rfl) ?_ (by simpa using hg.lt))
  have hb := hg.row ((madeCells #[.int .u8 0] 256).toList.take 0 ++ Lib.byteCells s.data.toList ++ (madeCells #[.int .u8 0] 256).toList.drop (0 + s.size)).toArray
  refine ⟨⟨fun hp => ⟨g, 0, rfl, hb.lt, fun j hj => ?_⟩, blkT_len hle, Nat.le_refl _, by omega⟩, fun e => by cases e⟩
  have hj' : j < 256 := by rw [bys_length, blkT_len hle] at hj; exact hj
  have hsl : s.data.toList.length = s.size := rfl
  rw [hb.cell (0 + j), Nat.zero_add, List.getElem?_toArray, List.take_zero, List.nil_append, Nat.zero_add]
  have hr : (bys (blkT s))[j]? = some ((bys (blkT s))[j]'hj) := List.getElem?_eq_getElem hj
  rw [← hr]
  unfold bys blkT
  rw [List.map_append]
  by_cases hjs : j < s.size
  · rw [List.getElem?_append_left (by rw [hlen]; exact hjs), List.getElem?_append_left (by rw [List.length_map]; omega)]
    rfl
  · rw [List.getElem?_append_right (by rw [hlen]; omega), List.getElem?_append_right (by rw [List.length_map]; omega), hlen, List.length_map, hsl, List.getElem?_drop, Array.getElem?_toList, made_at (by omega)]
    rw [List.getElem?_map, List.getElem?_replicate, if_pos (by omega)]
    rfl
theorem kc_env (q : KC) {w : World} (h : q.In w) : ({ q with env := 2 } : KC).In w := ⟨h.a, h.b, h.c, h.s, h.p, h.pok, h.pn, h.l, h.lok, h.ln⟩
/-- What stands between two steps of KernApart. -/
structure Rnd (B q4 gb g : Nat) (A4 : Option Addr) (c4 : Nat) (s : ByteArray) (m : Nat) (wr : World) (lab : Nat → Nat) (K : Kn) : Prop where
  kb : KB B wr lab g K
  apt : Apt (sT 0 s.data.toList) (blkT s) K
  sm : K.Small m
  d : Blk wr q4 31 #[.int .i64 0, .slice A4 0 c4]
  ld : lab q4 = 0
  ow : OwnAt wr lab gb 256 256 (blkT s)
  z : B ≤ wr.heap.size
section
variable {B q4 gb g : Nat} {A4 : Option Addr} {c4 : Nat} {s : ByteArray} {m m' : Nat} {w w' : World} {lab lab' : Nat → Nat} {K K' : Kn}
theorem Rnd.new (h : Rnd B q4 gb g A4 c4 s m w lab K) (k : Below w.heap.size w w') : Rnd B q4 gb g A4 c4 s m w' lab K :=
  ⟨h.kb.new k, h.apt, h.sm, h.d.older (older_below k), h.ld, h.ow.new k, Nat.le_trans h.z k.size⟩
theorem Rnd.call (h : Rnd B q4 gb g A4 c4 s m w lab K) (kb : KB B w' lab' g K') (L : LStep w w' lab lab') (apt : Apt (sT 0 s.data.toList) (blkT s) K') (sm : K'.Small m') : Rnd B q4 gb g A4 c4 s m' w' lab' K' :=
  ⟨kb, apt, sm, L.blk0 h.d h.ld, L.zero h.ld h.d.lt, h.ow.step L, Nat.le_trans h.z L.chg.size⟩
end
theorem aK2_small (s B : List UInt8) : (aK2 s B).Small 1 := ⟨Nat.zero_le _, Nat.zero_le _, Nat.zero_le _, Nat.zero_le _, Nat.zero_le _, Nat.le_refl _⟩
theorem aK3_small (s B : List UInt8) : (cK (aK2 s B)).Small 10 := ⟨by show 1 ≤ 10; omega, Nat.zero_le _, Nat.zero_le _, Nat.zero_le _, Nat.zero_le _, by show 1 ≤ 10; omega⟩
end Go.Proofs.Ytlilfblnlpjkcaa.Ke
