/- Layer 19's laws: the chapter's example. Conditions: none. -/
import Derived.Test.YtldmcoagjgeeoaaRa3
import Derived.Test.YtldmcoagjgeeoaaGf
namespace Go.Proofs.Ytldmcoagjgeeoaa.Ra
open Go.ChangeShapes Go.WideShapes Go.ChangeAt Go.RowKit Go.Deep
set_option linter.unusedVariables false
set_option linter.unusedSimpArgs false

/-- A buffer of the call's own. -/
structure BB (w0 w : World) (gt gm g R N : Nat) (xs : Bs) : Prop where
  buf : Buf w gt gm g R N xs
  below : Below w0.heap.size w0 w
  own : w0.heap.size ≤ gt ∧ w0.heap.size ≤ gm ∧ w0.heap.size ≤ g
theorem below_chg {B : Nat} {w w' : World} {gt gm g : Nat} (k : Chg w w' (fun k => k = gt ∨ k = gm ∨ k = g)) (hB : B ≤ w.heap.size) (h : B ≤ gt ∧ B ≤ gm ∧ B ≤ g) : Below B w w' := k.below hB (fun i hi => by rcases hi with e | e | e <;> omega)

theorem conv_one (c : UInt8) (w : World) : (convert 33 33 (.slice (some ⟨w.heap.size, 0, none⟩) 1 1)).run Try.prog (w.alloc (.cells #[.int .u8 (c.toNat : Int)] 5)) = .ok (.slice (some ⟨w.heap.size, 0, none⟩) 1 1) (w.alloc (.cells #[.int .u8 (c.toNat : Int)] 5 (1, 2))) := Gx.conv_fresh _ _ _ _
theorem src_conv (w : World) (c : UInt8) : Src (w.alloc (.cells #[.int .u8 (c.toNat : Int)] 5 (1, 2))) (some ⟨w.heap.size, 0, none⟩) 1 1 [c] := by
  refine ⟨⟨fun _ => ⟨w.heap.size, 0, rfl, by simp, fun j hj => ?_⟩, rfl, Nat.le_refl _, by omega⟩, fun e => by cases e⟩
  have hj' : j = 0 := by simp [bys] at hj; omega
  subst hj'
  rw [cell_of_row _ _ _ _ _ _ (heap_alloc_new w (.cells #[.int .u8 (c.toNat : Int)] 5 (1, 2)))]
  rfl
/-- A byte is put. -/
theorem put_one {w0 w : World} {gt gm g R N : Nat} {xs : Bs} (hB : BB w0 w gt gm g R N xs) (a : Int) (ha : -9223372036854775808 ≤ a ∧ a ≤ 9223372036854775807) (c : UInt8) (k : Int) (ys : Bs) (hk : (held (putR xs (a - N) [c]) : Int) - held xs = k) (hy : putR xs (a - N) [c] = ys) :
    Calls Try.prog 57 #[.pointer (some ⟨g, 0, none⟩), .int .i64 a, .slice (some ⟨w.heap.size, 0, none⟩) 1 1] (w.alloc (.cells #[.int .u8 (c.toNat : Int)] 5 (1, 2))) fun e w' => e = .returned (.int .i64 k) ∧ BB w0 w' gt gm g R N ys := by
  have nb := (Below.refl w.heap.size w).alloc (Nat.le_refl _) (.cells #[.int .u8 (c.toNat : Int)] 5 (1, 2))
  have L1 := hB.buf.lt
  refine (put_any (hB.buf.new nb) a ha _ 1 1 [c] (src_conv w c) (by omega) (fun _ x hx => by cases hx; exact ⟨by show w.heap.size ≠ gt; omega, by show w.heap.size ≠ gm; omega, by show w.heap.size ≠ g; omega⟩)).mono ?_
  rintro e w' ⟨rfl, h2, k2⟩
  rw [hk]
  rw [hy] at h2
  have nb' := nb.mono hB.below.size
  exact ⟨rfl, h2, (hB.below.trans nb').trans (below_chg k2 (by have := hB.below.size; simp; omega) hB.own), hB.own⟩
theorem BB.drewN {w0 w : World} {gt gm g R N : Nat} {xs : Bs} (h : BB w0 w gt gm g R N xs) (m : Nat) : BB w0 (w.drewN m) gt gm g R N xs := ⟨h.buf.drewN m, below_drewN h.below m, h.own⟩
theorem BB.ready {w0 w : World} {gt gm g R N : Nat} {xs : Bs} (h : BB w0 w gt gm g R N xs) : Calls Try.prog 53 #[.pointer (some ⟨g, 0, none⟩)] w fun e w' => e = .returned (.int .i64 (rdy xs : Int)) ∧ BB w0 w' gt gm g R N xs := by
  refine (ready_any h.buf).mono ?_
  rintro e w' ⟨rfl, m, rfl⟩
  exact ⟨rfl, h.drewN m⟩
theorem BB.take {w0 w : World} {gt gm g R N : Nat} {xs : Bs} (h : BB w0 w gt gm g R N xs) (hs : N + R ≤ 1099511627776) : Calls Try.prog 35 #[.pointer (some ⟨g, 0, none⟩)] w fun e w' => ∃ gn, e = .returned (.slice (some ⟨gn, 0, none⟩) (rdy xs) (rdy xs)) ∧ Src w' (some ⟨gn, 0, none⟩) (rdy xs) (rdy xs) (tk xs) ∧ BB w0 w' gt gm g R (N + rdy xs) (aft xs) ∧ w.heap.size ≤ gn ∧ gn ≠ gt ∧ gn ≠ gm ∧ gn ≠ g := by
  refine (take_any h.buf hs).mono ?_
  rintro e w' ⟨gn, rfl, s, z1, z2, b, k⟩
  have L := h.buf.lt
  exact ⟨gn, rfl, s, ⟨b, h.below.trans (below_chg k h.below.size h.own), h.own⟩, z1, by omega, by omega, by omega⟩
theorem BB.put {w0 w : World} {gt gm g R N : Nat} {xs : Bs} (h : BB w0 w gt gm g R N xs) (a : Int) (ha : -9223372036854775808 ≤ a ∧ a ≤ 9223372036854775807) (A : Option Addr) (n c : Nat) (b : List UInt8) (hb : Src w A n c b) (hn : n ≤ 1099511627776) (hA : 0 < n → ∀ x, A = some x → x.block ≠ gt ∧ x.block ≠ gm ∧ x.block ≠ g) :
    Calls Try.prog 57 #[.pointer (some ⟨g, 0, none⟩), .int .i64 a, .slice A n c] w fun e w' => e = .returned (.int .i64 ((held (putR xs (a - N) b) : Int) - held xs)) ∧ BB w0 w' gt gm g R N (putR xs (a - N) b) ∧ Chg w w' (fun k => k = gt ∨ k = gm ∨ k = g) := by
  refine (put_any h.buf a ha A n c b hb hn hA).mono ?_
  rintro e w' ⟨rfl, b, k⟩
  exact ⟨rfl, ⟨b, h.below.trans (below_chg k h.below.size h.own), h.own⟩, k⟩
theorem BB.new {w0 w w' : World} {gt gm g R N : Nat} {xs : Bs} (h : BB w0 w gt gm g R N xs) (k : Below w.heap.size w w') : BB w0 w' gt gm g R N xs := ⟨h.buf.new k, h.below.trans (k.mono h.below.size), h.own⟩
theorem new_bb (R : Nat) (w w0 : World) (h1 : 1 ≤ R) (h2 : R ≤ 2048) (hb : Below w0.heap.size w0 w) :
    Calls Try.prog 20 #[.int .i64 (R : Int)] w fun e w' => ∃ gt gm g, e = .returned (.tuple #[.pointer (some ⟨g, 0, none⟩), .int .i64 0]) ∧ BB w0 w' gt gm g R 0 (List.replicate R none) ∧ Below w.heap.size w w' ∧ w.heap.size ≤ gt ∧ w.heap.size ≤ gm ∧ w.heap.size ≤ g := by
  refine (new_ok R w h1 h2).mono ?_
  rintro e w' ⟨gt, gm, g, rfl, b, k, z1, z2, z3⟩
  exact ⟨gt, gm, g, rfl, ⟨b, hb.trans (k.mono hb.size), Nat.le_trans hb.size z1, Nat.le_trans hb.size z2, Nat.le_trans hb.size z3⟩, k, z1, z2, z3⟩

end Go.Proofs.Ytldmcoagjgeeoaa.Ra
