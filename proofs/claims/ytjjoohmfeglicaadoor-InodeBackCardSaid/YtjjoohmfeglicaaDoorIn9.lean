/- Layer 11: the chapter's example; what blocks begin with. Conditions: those that each states. -/
import Derived.Test.YtjjoohmfeglicaaDoorIn8
import Derived.Test.YtjjoohmfeglicaaDoorConv
namespace Go.Proofs.YtjjoohmfeglicaaDoor.In
open Go.ChangeShapes Go.WideShapes Go.ChangeAt Go.RowKit Go.Deep Fl Rk Di
set_option linter.unusedVariables false
set_option linter.unusedSimpArgs false

theorem seal_take (t : List UInt8) (k : Nat) (h : k ≤ t.length) : (sealL t).take k = t.take k := by
  unfold sealL pad
  rw [List.append_assoc, List.take_append_of_le_length h]
theorem seal_one : (sealL (rootT 1 [])).take 9 = [80, 82, 79, 84, 0, 0, 0, 1, 0] := by
  rw [seal_take _ _ (by decide)]
  rfl
theorem head_of {l t : List UInt8} {m : Bool} {b : UInt8} (h : errOf l m t = 0) (ht : t.take 1 = [b]) : l.take 1 = [b] := by
  have hl : 1 ≤ t.length := by
    cases t with
    | nil => simp at ht
    | cons a t => simp
  by_cases h1 : l.length ≠ 256
  · rw [errOf_len h1] at h; cases h
  · cases hg : goodL l with
    | false => rw [errOf_sum h1 hg] at h; cases h
    | true =>
      by_cases k : m = true ∧ sealL t = l
      · rw [← k.2, seal_take t 1 hl, ht]
      · rw [errOf_no h1 hg k] at h; cases h
theorem errOf_nil (m : Bool) (t : List UInt8) : errOf [] m t = 50 := errOf_len (by decide)

set_option maxRecDepth 100000 in
set_option maxHeartbeats 2000000 in
theorem alive_any (w : World) : Calls Tryd.prog 5 #[] w fun e w' => e = .returned (.bool true) ∧ Below w.heap.size w w' := by
  have P := Lib.hid (fun w => packRoot_any 1 none 0 [] w (RowG.nil w 1))
  have hm : rootMay 1 [] = true := by decide
  go_enter Tryd.func5, Tryd.ntmps5
  go_wp2_with fail
  refine (P.out _).mono ?_; rintro e w1 ⟨b1, _, p2⟩
  obtain ⟨g, c, rfl, o1⟩ := p2 hm
  have B1 := Lib.hid b1
  have O1 := Lib.hid o1
  clear b1 p2 o1 P
  go_wp2_with fail
  refine (parsedRoot_any none 0 0 [] _ (Src.nil _) (by decide)).mono ?_
  rintro e w2 ⟨b2, ⟨h0, rfl⟩ | ⟨h0, _⟩⟩
  · rw [errOf_nil]
    have o2 := O1.out.below b2
    have B2 := Lib.hid (B1.out.trans (b2.mono B1.out.size))
    have S2 := Lib.hid (show Src (w2.alloc (.cells #[.int .i64 0, .slice none 0 0] 34)) (some ⟨g, 0, none⟩) 9 c [80, 82, 79, 84, 0, 0, 0, 1, 0] from by
      have := (o2.alloc (.cells #[.int .i64 0, .slice none 0 0] 34)).src
      rw [← seal_one]
      exact ⟨this.toBytes.take (by decide), this.none_⟩)
    have hcut : ∀ W : World, (Instr.slice 30 (.slice (some ⟨g, 0, none⟩) 256 c) none (some (.int .i64 9)) none).run Tryd.prog W = .ok (.slice (some ⟨g, 0, none⟩) 9 c) W := fun W => cut_front (some ⟨g, 0, none⟩) 256 c 9 (by decide) o2.cap W
    have hcv := told_str S2.out
    have B3 := Lib.hid (B2.out.alloc B2.out.size (.cells #[.int .i64 0, .slice none 0 0] 34))
    clear b2 o2 h0
    go_wp2
    go_ret
    exact ⟨rfl, B3.out⟩
  · rw [errOf_nil] at h0; cases h0
end Go.Proofs.YtjjoohmfeglicaaDoor.In
