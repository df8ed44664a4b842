/- Package disk: Read. Conditions: those that each states. -/
import Derived.Test.YtbkjjakkihbcdaaGreatMAF
namespace Go.Proofs.YtbkjjakkihbcdaaGreat.Di
open Go.ChangeShapes Go.WideShapes Go.ChangeAt Go.RowKit Go.Deep
set_option linter.unusedVariables false

theorem page_under : Tryz.prog.underlying 162 = some (.array (Tryz.prog.arrayLen 162) (Tryz.prog.elem 162)) := by kernel_rfl
theorem page_len : Tryz.prog.arrayLen 162 = 256 := by kernel_rfl
theorem page_elem : Tryz.prog.elem 162 = 5 := by kernel_rfl
theorem size_u8 (W : World) : (sizeOf 5).run Tryz.prog W = .ok 1 W := by
 obtain ⟨i, hi, hs⟩ := Option.map_eq_some_iff.1 u8_size
 simp [sizeOf, typeInfo, hi, hs]
theorem run_cut (b o : Nat) (W : World) : (Instr.sliceAt 162 (.pointer (some ⟨b, o, none⟩)) none none none).run Tryz.prog W = .ok (.slice (some ⟨b, o, none⟩) 256 256) W := by
 rw [run_sliceAt_array_all W 162 ⟨b, o, none⟩ page_under, page_elem, size_u8, page_len]
 simp only [Result.andThen_ok, slicedAt]
 rw [if_neg (by decide)]
 have ea : (⟨b, o, none⟩ : Addr).add (0 * 1) = ⟨b, o, none⟩ := by unfold Addr.add; split <;> simp_all
 rw [ea]

section
variable {gb g cl ce : Nat} {Al Ae : Option Addr} {d : Dk} {w : World} {F : Nat → Prop}
theorem src_of_range {b o : Nat} {l : List UInt8} (hb : b < w.heap.size) (hl : l.length = 256) (h : w.rangeAt b o (bys l)) : Src w (some ⟨b, o, none⟩) 256 256 l :=
 ⟨⟨fun hp => ⟨b, o, rfl, hb, fun j hj => h j _ (List.getElem?_eq_getElem hj)⟩, hl, Nat.le_refl _, by omega⟩, fun e => by cases e⟩
theorem block_src (h : DskAt w gb g Al cl Ae ce d) {b : Nat} (hb : b < d.blocks.length) : Src w (some ⟨gb, b * 256, none⟩) 256 256 d.blocks[b] :=
 src_of_range h.tab.lt (h.ok.bl _ (List.getElem_mem hb)) (h.block hb)
theorem wr_parts (h : DskAt w gb g Al cl Ae ce d) {i : Nat} (hi : i < d.line.length) : ∃ l, Al = some ⟨l, 0, none⟩ ∧ l < w.heap.size ∧ w.cell? ⟨l, i * 257, none⟩ = some (.int .i64 (d.line[i].block : Int)) ∧ w.rangeAt l (i * 257 + 1) (bys d.line[i].text) ∧ Src w (some ⟨l, i * 257 + 1, none⟩) 256 256 d.line[i].text := by
 obtain ⟨l, rfl, hl, _, _, hr⟩ := h.wr hi
 have hr2 : w.rangeAt l (i * 257 + 1) (bys d.line[i].text) := by
  intro j v hj
  have := hr (j + 1) v (by rw [← hj]; rfl)
  rw [← Nat.add_assoc] at this
  rw [show i * 257 + 1 + j = i * 257 + j + 1 by omega]
  exact this
 refine ⟨l, rfl, hl, ?_, hr2, src_of_range hl (h.ok.li _ (List.getElem_mem hi)).2 hr2⟩
 have := hr 0 _ rfl
 rwa [Nat.add_zero] at this

set_option maxRecDepth 100000 in
set_option maxHeartbeats 2000000 in
theorem read_no (h : DskAt w gb g Al cl Ae ce d) (env block : Int) (he : askE d env block ≠ 0) :
  Calls Tryz.prog 32 #[.pointer (some ⟨g, 0, none⟩), .int .i64 env, .int .i64 block] w fun e w' => e = .returned (.tuple #[.slice none 0 0, .int .i64 (askE d env block)]) ∧ Below w.heap.size w w' := by
 have AS := Lib.hid (asked_any h env block)
 have hv : (askE d env block == 0) = false := by simpa using he
 generalize askE d env block = v at *
 clear h he
 go_enter Tryz.func32, Tryz.ntmps32
 go_wp2_with fail
 refine AS.out.mono ?_; rintro e w1 ⟨rfl, b1⟩
 have B1 := Lib.hid b1
 clear b1
 go_wp2
 go_ret2
 exact ⟨rfl, B1.out⟩
end
end Go.Proofs.YtbkjjakkihbcdaaGreat.Di
