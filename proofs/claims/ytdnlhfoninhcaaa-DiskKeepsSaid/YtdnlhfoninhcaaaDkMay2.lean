/- Rows of texts beside a disk: what stands in a round of the law on what is durable. Conditions: those that each states. -/
import Derived.Test.YtdnlhfoninhcaaaDkMay
namespace Go.Proofs.Ytdnlhfoninhcaaa
open Go.ChangeShapes Go.WideShapes Go.ChangeAt Go.RowKit Go.Deep Di
set_option linter.unusedVariables false

/-- What stands behind a call: the disk, the rows, and the call's own block q. -/
structure St (B MB g q : Nat) (act : Array Value) (w : World) (d : Dk) (R : Nat → Nat × Nat × Nat) (M : Nat → List ByteArray) (wX : World) : Prop where
  own : OwnX B (Xof MB R) wX g d
  may : MayAt wX MB R M
  bel : Below B w wX
  blk : Blk wX q 34 act
  qn : ¬ Xof MB R q
  xb : ∀ i, Xof MB R i → B ≤ i
section
variable {B MB g q : Nat} {act : Array Value} {w wX wY w1 : World} {d : Dk} {R : Nat → Nat × Nat × Nat} {M : Nat → List ByteArray}
theorem St.new (h : St B MB g q act w d R M wX) (k : Below wX.heap.size wX wY) : St B MB g q act w d R M wY :=
  ⟨h.own.new k, h.may.new k, h.bel.trans (k.mono h.own.lt), h.blk.older (older_below k), h.qn, h.xb⟩
theorem St.drewN (h : St B MB g q act w d R M wX) (n : Nat) : St B MB g q act w d R M (wX.drewN n) :=
  ⟨h.own.drewN n, h.may.drewN n, below_drewN h.bel n, h.blk.drewN n, h.qn, h.xb⟩
theorem St.set (h : St B MB g q act w d R M wX) {b : Nat} (hb : b < 4) (k : Chg wX w1 (fun k => k = (R b).1)) {r o c : Nat} {l : List ByteArray} (row : RowO w1 r o c l) (hr : r = (R b).1 ∨ wX.heap.size ≤ r) :
    St B MB g q act w d (updR R b (r, o, c)) (updM M b l) (w1.setCell ⟨MB, b, none⟩ (.slice (some ⟨r, o, none⟩) l.length c)) := by
  obtain ⟨hm, hk, hx⟩ := h.may.set hb k row hr
  have hq : q < wX.heap.size := h.blk.lt
  exact ⟨h.own.grow hk hx (fun i hi => hm.lt hi), hm, h.bel.trans (hk.below h.own.lt h.xb), h.blk.chg hk h.qn, fun hi => by
    rcases hx q hi with h1 | h1
    · exact h.qn h1
    · omega, fun i hi => by
    rcases hx i hi with h1 | h1
    · exact h.xb i h1
    · exact Nat.le_trans h.own.lt h1⟩
end
def Inv (B MB g : Nat) (w : World) (j : Nat) (wr : World) : Prop :=
  ∃ (d : Dk) (R : Nat → Nat × Nat × Nat) (M : Nat → List ByteArray), d.blocks.length = 4 ∧ d.exts.length ≤ j + 1 ∧ d.line.length ≤ j ∧ Sem d M ∧ (∀ b, b < 4 → (M b).length ≤ j + 1) ∧ OwnX B (Xof MB R) wr g d ∧ MayAt wr MB R M ∧ Below B w wr ∧ (∀ i, Xof MB R i → B ≤ i)
theorem St.inv {B MB g q : Nat} {act : Array Value} {w wX : World} {d : Dk} {R : Nat → Nat × Nat × Nat} {M : Nat → List ByteArray} {j : Nat} (h : St B MB g q act w d R M wX) (h1 : d.blocks.length = 4) (h2 : d.exts.length ≤ j + 1 + 1) (h3 : d.line.length ≤ j + 1) (h4 : Sem d M) (h5 : ∀ b, b < 4 → (M b).length ≤ j + 1 + 1) : Inv B MB g w (j + 1) wX :=
  ⟨d, R, M, h1, h2, h3, h4, h5, h.own, h.may, h.bel, h.xb⟩
theorem RowO.oneN (W : World) (n : Nat) (hn : W.heap.size = n) (s : ByteArray) : RowO (W.alloc (.cells #[.string s] 9)) n 0 1 [s] := by
  subst hn
  exact RowO.one W s
def R0 (h : Nat) : Nat → Nat × Nat × Nat := fun b => (h + 1 + b, 0, 1)
theorem inv0 (w w3 : World) (Z : Array Value) (z0 : ByteArray) (B g : Nat) (hT : OwnX B (fun _ => False) w3 g four0) (hb : Below B w w3) (sm : Sem four0 (fun _ => [z0])) :
    Inv B (w3.heap.size + 1 + 1 + 1 + 1 + 1) g w 0 ((((((w3.alloc (.cells Z 5)).alloc (.cells #[.string z0] 9)).alloc (.cells #[.string z0] 9)).alloc (.cells #[.string z0] 9)).alloc (.cells #[.string z0] 9)).alloc (.cells #[.slice (some ⟨w3.heap.size + 1, 0, none⟩) 1 1, .slice (some ⟨w3.heap.size + 1 + 1, 0, none⟩) 1 1, .slice (some ⟨w3.heap.size + 1 + 1 + 1, 0, none⟩) 1 1, .slice (some ⟨w3.heap.size + 1 + 1 + 1 + 1, 0, none⟩) 1 1] 36)) := by
  have a1 : (w3.alloc (.cells Z 5)).heap.size = w3.heap.size + 1 := by simp
  generalize hw1 : w3.alloc (.cells Z 5) = w4 at *
  have b1 : Below w3.heap.size w3 w4 := by rw [← hw1]; exact (Below.refl _ w3).alloc (Nat.le_refl _) _
  have r1 := RowO.oneN w4 _ a1 z0
  have a2 : (w4.alloc (.cells #[.string z0] 9)).heap.size = w3.heap.size + 1 + 1 := by simp [a1]
  have b2 := (Below.refl w4.heap.size w4).alloc (Nat.le_refl _) (.cells #[.string z0] 9)
  generalize w4.alloc (.cells #[.string z0] 9) = w5 at *
  have r2 := RowO.oneN w5 _ a2 z0
  have a3 : (w5.alloc (.cells #[.string z0] 9)).heap.size = w3.heap.size + 1 + 1 + 1 := by simp [a2]
  have b3 := (Below.refl w5.heap.size w5).alloc (Nat.le_refl _) (.cells #[.string z0] 9)
  generalize w5.alloc (.cells #[.string z0] 9) = w6 at *
  have r3 := RowO.oneN w6 _ a3 z0
  have a4 : (w6.alloc (.cells #[.string z0] 9)).heap.size = w3.heap.size + 1 + 1 + 1 + 1 := by simp [a3]
  have b4 := (Below.refl w6.heap.size w6).alloc (Nat.le_refl _) (.cells #[.string z0] 9)
  generalize w6.alloc (.cells #[.string z0] 9) = w7 at *
  have r4 := RowO.oneN w7 _ a4 z0
  have a5 : (w7.alloc (.cells #[.string z0] 9)).heap.size = w3.heap.size + 1 + 1 + 1 + 1 + 1 := by simp [a4]
  have b5 := (Below.refl w7.heap.size w7).alloc (Nat.le_refl _) (.cells #[.string z0] 9)
  generalize w7.alloc (.cells #[.string z0] 9) = w8 at *
  have hd := Blk.new w8 36 #[.slice (some ⟨w3.heap.size + 1, 0, none⟩) 1 1, .slice (some ⟨w3.heap.size + 1 + 1, 0, none⟩) 1 1, .slice (some ⟨w3.heap.size + 1 + 1 + 1, 0, none⟩) 1 1, .slice (some ⟨w3.heap.size + 1 + 1 + 1 + 1, 0, none⟩) 1 1]
  have b6 := (Below.refl w8.heap.size w8).alloc (Nat.le_refl _) (.cells #[.slice (some ⟨w3.heap.size + 1, 0, none⟩) 1 1, .slice (some ⟨w3.heap.size + 1 + 1, 0, none⟩) 1 1, .slice (some ⟨w3.heap.size + 1 + 1 + 1, 0, none⟩) 1 1, .slice (some ⟨w3.heap.size + 1 + 1 + 1 + 1, 0, none⟩) 1 1] 36)
  rw [a5] at hd
  have hm : MayAt (w8.alloc (.cells #[.slice (some ⟨w3.heap.size + 1, 0, none⟩) 1 1, .slice (some ⟨w3.heap.size + 1 + 1, 0, none⟩) 1 1, .slice (some ⟨w3.heap.size + 1 + 1 + 1, 0, none⟩) 1 1, .slice (some ⟨w3.heap.size + 1 + 1 + 1 + 1, 0, none⟩) 1 1] 36)) (w3.heap.size + 1 + 1 + 1 + 1 + 1) (R0 w3.heap.size) (fun _ => [z0]) := by
    refine ⟨hd, fun b hb => ?_, fun b hb => ?_, fun b b' hb hb' hn => ?_⟩
    · rcases (by omega : b = 0 ∨ b = 1 ∨ b = 2 ∨ b = 3) with rfl | rfl | rfl | rfl
      · exact (((r1.new b3).new b4).new b5).new b6
      · exact ((r2.new b4).new b5).new b6
      · exact (r3.new b5).new b6
      · exact r4.new b6
    · show w3.heap.size + 1 + b ≠ _
      omega
    · show w3.heap.size + 1 + b ≠ w3.heap.size + 1 + b'
      omega
  have hbel : Below w3.heap.size w3 (w8.alloc (.cells #[.slice (some ⟨w3.heap.size + 1, 0, none⟩) 1 1, .slice (some ⟨w3.heap.size + 1 + 1, 0, none⟩) 1 1, .slice (some ⟨w3.heap.size + 1 + 1 + 1, 0, none⟩) 1 1, .slice (some ⟨w3.heap.size + 1 + 1 + 1 + 1, 0, none⟩) 1 1] 36)) :=
    ((((b1.trans (b2.mono (by omega))).trans (b3.mono (by omega))).trans (b4.mono (by omega))).trans (b5.mono (by omega))).trans (b6.mono (by omega))
  have hge : ∀ i, Xof (w3.heap.size + 1 + 1 + 1 + 1 + 1) (R0 w3.heap.size) i → w3.heap.size ≤ i := by
    rintro i (rfl | ⟨b, hb, rfl⟩)
    · omega
    · show _ ≤ w3.heap.size + 1 + b
      omega
  exact ⟨four0, R0 w3.heap.size, fun _ => [z0], four0_four.n, by rw [four0_exts]; omega, by rw [four0_line]; exact Nat.le_refl _, sm, fun b hb => Nat.le_refl _, hT.grow (Chg.of_new hbel _) (fun i hi => .inr (hge i hi)) (fun i hi => hm.lt hi), hm, hb.trans (hbel.mono hT.lt), fun i hi => Nat.le_trans hT.lt (hge i hi)⟩
/-- 'append' of one to a row, as one step of a region that draws its order. -/
theorem step_append_off {ops : Array Oper} {op : Oper} {a : Act} {K : Act → World → Prop} {Q : Exit → Act → World → Prop} {E : Prop} {w : World} {r o c : Nat} {l : List ByteArray} (hg : op.guard = none) (s x : Operand) (hop : op.op = Op.call { callee := Callee.builtin Builtin.append, args := #[s, x], argTypes := #[36, 36] })
    (h : RowO w r o c l) (hs : a.eval s = .slice (some ⟨r, o, none⟩) l.length c) (q : Nat) (u : ByteArray) (hx : a.eval x = .slice (some ⟨q, 0, none⟩) 1 1) (hq : w.cell? ⟨q, 0, none⟩ = some (.string u)) (hl : l.length ≤ 1000000)
    (hK : ∀ r' o' c' w', RowO w' r' o' c' (l ++ [u]) → Chg w w' (fun k => k = r) → (r' = r ∨ w.heap.size ≤ r') → r' < w'.heap.size → K (a.put op.dst (.slice (some ⟨r', o', none⟩) (l.length + 1) c')) w') :
    if Region.wanted op (yielded ops a.tmps) = true then Oper.wp Try.prog op a w K Q else E := by
  have hw : Region.wanted op (yielded ops a.tmps) = true := by simp [Region.wanted, hg]
  rw [if_pos hw]
  exact wp_append_off s x hop h hs q u hx hq hl hK
theorem tl_ne {T U : ByteArray} (h : ¬ T = U) : (T.toList == U.toList) = false := by
  rw [beq_eq_false_iff_ne]
  intro e
  apply h
  rw [ByteArray.toList_eq, ByteArray.toList_eq] at e
  rw [← text_back T, ← text_back U, e]
theorem run_cutstr (r o n c : Nat) (h1 : 1 ≤ n) (h2 : n ≤ c) (W : World) :
    (Instr.slice 36 (.slice (some ⟨r, o, none⟩) n c) (some (.int .i64 ((n : Int) - 1))) none none).run Try.prog W = .ok (.slice (some ⟨r, o + (n - 1), none⟩) 1 (c - (n - 1))) W := by
  have ht : Try.prog.underlying 36 = some (.slice (Try.prog.elem 36)) := by kernel_rfl
  have he : (Try.prog.info? (Try.prog.elem 36)).map (·.size) = some 1 := by kernel_rfl
  obtain ⟨i, hi, hs⟩ := Option.map_eq_some_iff.1 he
  have hz : (sizeOf (Try.prog.elem 36)).run Try.prog W = .ok i.size W := by simp [sizeOf, typeInfo, hi]
  have en : ((n : Int) - 1) = ((n - 1 : Nat) : Int) := by omega
  rw [en, run_slice_l W 36 (some ⟨r, o, none⟩) n c ht .i64 ((n - 1 : Nat) : Int) (by omega) (by omega), hz]
  simp only [Result.andThen_ok, sliced, Int.toNat_natCast]
  have ea : (⟨r, o, none⟩ : Addr).add (n - 1) = ⟨r, o + (n - 1), none⟩ := by unfold Addr.add; split <;> simp_all
  rw [if_neg (by omega)]
  simp only [Option.map_some, hs, Nat.mul_one, ea, show n - (n - 1) = 1 by omega]
theorem updM_lt {M : Nat → List ByteArray} {b : Nat} {l : List ByteArray} {n : Nat} (h : ∀ b, b < 4 → (M b).length ≤ n) (hl : l.length ≤ n) : ∀ b', b' < 4 → (updM M b l b').length ≤ n := by
  intro b' hb'
  unfold updM
  split
  · exact hl
  · exact h b' hb'
end Go.Proofs.Ytdnlhfoninhcaaa
