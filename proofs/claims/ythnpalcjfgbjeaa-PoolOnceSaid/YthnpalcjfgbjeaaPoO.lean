/- What PoolOnce's pool tells, in plain words. No condition. -/
import Derived.Test.YthnpalcjfgbjeaaPoZ
namespace Go.Proofs.Ythnpalcjfgbjeaa.Po
open Go.ChangeShapes Go.WideShapes Go.ChangeAt Go.RowKit Go.Deep Fr Di Ke
set_option linter.unusedVariables false

def o0 : Po := newP 4 12 3
def oz (b : Nat) : List UInt8 := see o0.K.dk b
def k1 (b : Nat) : Kn := wroteK o0.K 0 (oz b)
/-- Behind the first Get. -/
def o1 (b : Nat) (pins : Nat) : Po := ⟨k1 b, [⟨1, (b : Int), 256, 0, 0, 0, pins, true⟩, Sl.bare 1, Sl.bare 2], 0, 1⟩
theorem o0_get (b : Nat) (hb : b < 9) : getR o0 (b : Int) 256 0 0 = (o1 b 1, 0, 0) := by
  have ht := take_free (P := o0) (i := 0) (by decide +kernel)
  have h := get_taken (P := o0) (block := (b : Int)) (n := 256) 0 0 (i := 0) (s := Sl.bare 0) (by omega) (by clear ht; revert hb; revert b; decide +kernel) (by rw [ht]) (by rw [ht]; rfl) (by clear ht; revert hb; revert b; decide +kernel) (by clear ht; revert hb; revert b; decide +kernel)
  rw [h, ht]
  rfl
theorem o1_get (b : Nat) (p : Nat) : getR (o1 b p) (b : Int) 256 0 0 = (o1 b (p + 1), 0, 0) := by
  have h := get_had (P := o1 b p) (block := (b : Int)) (n := 256) 0 0 (i := 0) (s := ⟨1, (b : Int), 256, 0, 0, 0, p, true⟩) (by omega) (by unfold having o1; rw [List.findIdx?_cons]; simp [isBlock]) rfl
  rw [h]
  rfl
theorem o1_pinned (b p : Nat) (hp : 0 < p) : pinned (o1 b p) 0 = some 0 := by
  unfold pinned o1; rw [List.findIdx?_cons]; simp [isPinned, hp]
theorem o1_unpin (b : Nat) (p : Nat) : unpinR (o1 b (p + 1)) 0 = (o1 b p, 0) := by
  unfold unpinR
  rw [o1_pinned b (p + 1) (by omega)]
  show ((o1 b (p + 1)).put 0 (if p + 1 = 1 ∧ (1 : Nat) ≠ 1 then _ else _), (0 : Int)) = _
  rw [if_neg (by simp)]
  rfl
theorem o1_pins (b : Nat) : pinsR (o1 b 1) 0 = 1 := by
  unfold pinsR
  rw [o1_pinned b 1 (by omega)]
  rfl
theorem o1_has (b p : Nat) : (having (o1 b p) (b : Int)).isSome = true := by
  unfold having o1; rw [List.findIdx?_cons]; simp [isBlock]
theorem o1_having (b p : Nat) : having (o1 b p) (b : Int) = some 0 := by
  unfold having o1; rw [List.findIdx?_cons]; simp [isBlock]
/-- Behind Forget, with a pin and without one. -/
def o2 (b : Nat) : Po := ⟨k1 b, [⟨2, (b : Int), 256, 0, 0, 0, 1, true⟩, Sl.bare 1, Sl.bare 2], 0, 1⟩
def o3 (b : Nat) : Po := ⟨k1 b, [Sl.bare 0, Sl.bare 1, Sl.bare 2], 0, 1⟩
theorem o2_is (b : Nat) : forgetR (o1 b 1) [(b : Int)] = o2 b := by
  show forget1 (o1 b 1) (b : Int) = _
  unfold forget1
  rw [o1_having]
  rfl
theorem o3_is (b : Nat) : forgetR (o1 b 0) [(b : Int)] = o3 b := by
  show forget1 (o1 b 0) (b : Int) = _
  unfold forget1
  rw [o1_having]
  rfl
def k2 (b : Nat) : Kn := wroteK (k1 b) 1 (see (k1 b).dk b)
def k3 (b : Nat) : Kn := wroteK (k1 b) 0 (see (k1 b).dk b)
def o4 (b : Nat) : Po := ⟨k2 b, [⟨2, (b : Int), 256, 0, 0, 0, 1, true⟩, ⟨1, (b : Int), 256, 0, 0, 1, 1, true⟩, Sl.bare 2], 0, 2⟩
def o5 (b : Nat) : Po := ⟨k3 b, [⟨1, (b : Int), 256, 0, 0, 0, 1, true⟩, Sl.bare 1, Sl.bare 2], 0, 2⟩
theorem o2_get (b : Nat) (hb : b < 9) : getR (o2 b) (b : Int) 256 0 0 = (o4 b, 1, 0) := by
  have ht := take_free (P := o2 b) (i := 1) (by revert hb; revert b; decide +kernel)
  have h := get_taken (P := o2 b) (block := (b : Int)) (n := 256) 0 0 (i := 1) (s := Sl.bare 1) (by omega) (by clear ht; revert hb; revert b; decide +kernel) (by rw [ht]) (by rw [ht]; rfl) (by clear ht; revert hb; revert b; decide +kernel) (by clear ht; revert hb; revert b; decide +kernel)
  rw [h, ht]
  rfl
theorem o3_get (b : Nat) (hb : b < 9) : getR (o3 b) (b : Int) 256 0 0 = (o5 b, 0, 0) := by
  have ht := take_free (P := o3 b) (i := 0) (by revert hb; revert b; decide +kernel)
  have h := get_taken (P := o3 b) (block := (b : Int)) (n := 256) 0 0 (i := 0) (s := Sl.bare 0) (by omega) (by clear ht; revert hb; revert b; decide +kernel) (by rw [ht]) (by rw [ht]; rfl) (by clear ht; revert hb; revert b; decide +kernel) (by clear ht; revert hb; revert b; decide +kernel)
  rw [h, ht]
  rfl
theorem o4_pins (b : Nat) : pinsR (o4 b) 0 = 1 := by
  have h : pinned (o4 b) 0 = some 0 := by unfold pinned o4; rw [List.findIdx?_cons]; simp [isPinned]
  unfold pinsR
  rw [h]
  rfl
theorem wroteK_small {K : Kn} (h : K.Small 0) (f : Nat) (b : List UInt8) : (wroteK K f b).Small 0 := by
  unfold wroteK
  rw [callR_5 _ 1 (.inl rfl)]
  exact ⟨h.next, h.a1, h.a2, h.out, h.done, h.line⟩
theorem k1_small (b : Nat) : (k1 b).Small 0 := wroteK_small (newAt_small 4 12 3) 0 _
theorem o1_few (b p : Nat) (hp : p < 1000000) : ∀ s ∈ (o1 b p).sl, s.pins < 1000000 := by
  intro s hs
  simp only [o1, List.mem_cons, List.not_mem_nil, or_false] at hs
  rcases hs with rfl | rfl | rfl
  · exact hp
  · decide
  · decide
theorem o2_few (b : Nat) : ∀ s ∈ (o2 b).sl, s.pins < 1000000 := by
  intro s hs
  simp only [o2, List.mem_cons, List.not_mem_nil, or_false] at hs
  rcases hs with rfl | rfl | rfl <;> (first | decide | (show (1 : Nat) < 1000000; omega))
theorem o3_few (b : Nat) : ∀ s ∈ (o3 b).sl, s.pins < 1000000 := by
  intro s hs
  simp only [o3, List.mem_cons, List.not_mem_nil, or_false] at hs
  rcases hs with rfl | rfl | rfl <;> (first | decide | (show (1 : Nat) < 1000000; omega))
end Go.Proofs.Ythnpalcjfgbjeaa.Po
