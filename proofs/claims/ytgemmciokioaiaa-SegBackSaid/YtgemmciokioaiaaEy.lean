/- Package octet's reader: what its functions do. Conditions: those that each states. -/
import Derived.Test.YtgemmciokioaiaaOct
import Derived.RegionTactic
import Derived.BigRegion
import Derived.ScopeJumps
import Derived.WalkMore
import Derived.StillTailTactics
namespace Go.Proofs.Ytgemmciokioaiaa
open Go.ChangeShapes Go.WideShapes Go.ChangeAt Go.RowKit Go.Deep

/-- A scope in which the run jumps to its label once, and not again. -/
theorem scope_once {P : Program} {c rest : Code} {a : Act} {w : World} {Q : Exit → Act → World → Prop} (l : Nat) (hf : findLabel c l = some rest)
    (first : c.wp P (Exit.jump l (fun a' w' => rest.wp P (Exit.noGoto Q) a' w') Q) a w) : (Code.scope c).wp P Q a w := by
  refine wp_scope_jumps l (fun a' w' => rest.wp P (Exit.noGoto Q) a' w') (fun _ _ => 0) hf first fun a' w' h => ?_
  refine wp_mono h fun e a2 w2 he => ?_
  cases e with
  | goto _ => exact he.elim
  | _ => exact he

/-- A reader in block g, of the call's own from B on: the bytes that are left, and its error. -/
def EyeAt (w : World) (B g : Nat) (l : List UInt8) (err : Int) : Prop :=
  B ≤ g ∧ l.length ≤ 1000000 ∧ ∃ A c, Blk w g 79 #[.slice A l.length c, .int .i64 err] ∧ Src w A l.length c l ∧ (0 < l.length → ∀ b o, A = some ⟨b, o, none⟩ → b < g)
theorem EyeAt.older {w w' : World} {B g : Nat} {l : List UInt8} {err : Int} (h : EyeAt w B g l err) (k : Older w w') : EyeAt w' B g l err := by
  obtain ⟨hB, hl, A, c, hb, hs, hn⟩ := h
  exact ⟨hB, hl, A, c, hb.older k, hs.older k, hn⟩
theorem EyeAt.below {w w' : World} {B g : Nat} {l : List UInt8} {err : Int} (h : EyeAt w B g l err) (k : Below w.heap.size w w') : EyeAt w' B g l err := h.older (older_below k)

/-- What stands while only block g is written and new blocks are laid. -/
theorem grown_set (w : World) (g i : Nat) (u : Value) : w.grownBy (w.setCell ⟨g, i, none⟩ u) (some g) :=
  ⟨rfl, rfl, rfl, by simp [World.setCell], fun k _ hne => Below.heap_setCell w ⟨g, i, none⟩ u k (fun e => hne (by rw [e]))⟩
theorem grown_trans {w w1 w2 : World} {g : Nat} (h : w.grownBy w1 (some g)) (k : w1.grownBy w2 (some g)) : w.grownBy w2 (some g) :=
  ⟨k.os.trans h.os, k.tape.trans h.tape, k.output.trans h.output, Nat.le_trans h.size k.size, fun i hi hne => (k.block i (Nat.lt_of_lt_of_le hi h.size) hne).trans (h.block i hi hne)⟩
theorem grown_drew {w w1 : World} {g : Nat} (h : w.grownBy w1 (some g)) : w.grownBy w1.drew (some g) := ⟨h.os, h.tape, h.output, h.size, h.block⟩
theorem grown_below {B g : Nat} {w w' : World} (h : w.grownBy w' (some g)) (hg : B ≤ g) (hB : B ≤ w.heap.size) : Below B w w' :=
  ⟨h.os, h.tape, h.output, h.size, fun i hi => h.block i (Nat.lt_of_lt_of_le hi hB) (fun e => by cases e; omega)⟩
theorem grown_blk {w w' : World} {g k : Nat} {t : TypeId} {cs : Array Value} (h : w.grownBy w' (some g)) (hk : k ≠ g) (hb : Blk w k t cs) : Blk w' k t cs :=
  (h.block k hb.lt (fun e => hk (by cases e; rfl))).trans hb

theorem src_slice {w : World} {A : Option Addr} {n c : Nat} {l : List UInt8} (h : Src w A n c l) {k : Nat} (hk : k ≤ n) : Src w A k c (l.take k) := ⟨h.toBytes.take hk, h.none_⟩
theorem src_rest {w : World} {A : Option Addr} {n c : Nat} {l : List UInt8} (h : Src w A n c l) {k : Nat} (hk : k ≤ n) : Src w (if c = k then A else A.map (·.add k)) (n - k) (c - k) (l.drop k) := by
  refine ⟨h.toBytes.cut hk, fun e => ?_⟩
  split at e
  · omega
  · have := h.none_ (by cases A <;> simp_all); omega
theorem lies_far {w : World} {A : Option Addr} {xs : List Value} (h : Lies w A xs) {g : Nat} (hg : 0 < xs.length → ∀ b o, A = some ⟨b, o, none⟩ → b ≠ g) (i : Nat) (u : Value) : Lies (w.setCell ⟨g, i, none⟩ u) A xs := by
  intro hp
  obtain ⟨b, o, e, hb, hc⟩ := h hp
  have hne := hg hp b o e
  refine ⟨b, o, e, by simpa [World.setCell] using hb, fun j hj => ?_⟩
  rw [World.cell?_of_block (w := w) (a := ⟨b, o + j, none⟩) (Below.heap_setCell w ⟨g, i, none⟩ u b (by simpa using hne))]
  exact hc j hj
theorem Src.far {w : World} {A : Option Addr} {n c : Nat} {l : List UInt8} (h : Src w A n c l) {g : Nat} (hg : 0 < l.length → ∀ b o, A = some ⟨b, o, none⟩ → b ≠ g) (i : Nat) (u : Value) : Src (w.setCell ⟨g, i, none⟩ u) A n c l :=
  ⟨⟨lies_far h.lies (by rw [bys_length]; exact hg) i u, h.len, h.cap, h.max⟩, h.none_⟩

theorem EyeAt.far {w : World} {B g gm : Nat} {l : List UInt8} {err : Int} (h : EyeAt w B g l err) (hg : g < gm) (i : Nat) (u : Value) : EyeAt (w.setCell ⟨gm, i, none⟩ u) B g l err := by
  obtain ⟨hB, hl, A, c, hb, hs, hn⟩ := h
  exact ⟨hB, hl, A, c, hb.far (p := ⟨gm, i, none⟩) (by show g ≠ gm; omega) u, hs.far (fun hp b o e => by have := hn hp b o e; omega) i u, hn⟩

set_option maxRecDepth 100000 in
/-- next, at a reader that met an error or meets one. -/
theorem next_stop (B g : Nat) (l : List UInt8) (err : Int) (n lo hi : Int) (w : World) (h : EyeAt w B g l err) (e' : Int)
    (he : (err ≠ 0 ∧ e' = err) ∨ (err = 0 ∧ (n < lo ∨ hi < n) ∧ e' = 1) ∨ (err = 0 ∧ ¬ n < lo ∧ ¬ hi < n ∧ (l.length : Int) < n ∧ e' = 50)) :
    Calls Try.prog 44 #[.pointer (some ⟨g, 0, none⟩), .int .i64 n, .int .i64 lo, .int .i64 hi] w fun e w' => e = .returned (.slice none 0 0) ∧ EyeAt w' B g [] e' ∧ w.grownBy w' (some g) := by
  obtain ⟨hB, hl, A, c, hb, hs, hn⟩ := h
  have c0 := hb.cell 0
  have c1 := hb.cell 1
  simp only [List.getElem?_toArray, List.getElem?_cons_zero, List.getElem?_cons_succ] at c0 c1
  have f0 := hb.frozen 0
  have f1 := hb.frozen 1
  have fin : EyeAt ((w.setCell ⟨g, 0, none⟩ (.slice none 0 0)).setCell ⟨g, 1, none⟩ (.int .i64 e')) B g [] e' ∧ w.grownBy ((w.setCell ⟨g, 0, none⟩ (.slice none 0 0)).setCell ⟨g, 1, none⟩ (.int .i64 e')) (some g) := by
    refine ⟨⟨hB, by simp, none, 0, ?_, Src.nil _, fun _ _ _ e => by cases e⟩, grown_trans (grown_set _ _ _ _) (grown_set _ _ _ _)⟩
    have := (hb.put 0 (.slice none 0 0)).put 1 (.int .i64 e')
    simpa using this
  have FIN := Lib.hid fin
  clear fin hb hs hn
  rcases he with ⟨h1, rfl⟩ | ⟨rfl, h2, rfl⟩ | ⟨rfl, h2, h3, h4, rfl⟩
  · go_enter Try.func44, Try.ntmps44
    go_wp2
    refine scope_once 0 rfl ?_
    go_wp2
    go_step3
    refine ⟨rfl, ?_⟩
    go_wp2
    rw [Exit.noGoto_ret]
    go_ret
    exact ⟨rfl, FIN.out⟩
  · by_cases h3 : n < lo
    · clear h2
      go_enter Try.func44, Try.ntmps44
      go_wp2
      refine scope_once 0 rfl ?_
      go_wp2
      go_step3
      refine ⟨rfl, ?_⟩
      go_wp2
      rw [Exit.noGoto_ret]
      go_ret
      exact ⟨rfl, FIN.out⟩
    · have h4 : hi < n := by omega
      clear h2
      go_enter Try.func44, Try.ntmps44
      go_wp2
      refine scope_once 0 rfl ?_
      go_wp2
      go_step3
      refine ⟨rfl, ?_⟩
      go_wp2
      rw [Exit.noGoto_ret]
      go_ret
      exact ⟨rfl, FIN.out⟩
  · go_enter Try.func44, Try.ntmps44
    go_wp2
    refine scope_once 0 rfl ?_
    go_wp2
    go_step3
    refine ⟨rfl, ?_⟩
    go_wp2
    rw [Exit.noGoto_ret]
    go_ret
    exact ⟨rfl, FIN.out⟩

set_option maxRecDepth 100000 in
set_option maxHeartbeats 2000000 in
/-- next, where so many bytes are there. -/
theorem next_ok (B g : Nat) (l : List UInt8) (k : Nat) (lo hi : Int) (w : World) (h : EyeAt w B g l 0) (h1 : lo ≤ (k : Int)) (h2 : (k : Int) ≤ hi) (h3 : k ≤ l.length) :
    Calls Try.prog 44 #[.pointer (some ⟨g, 0, none⟩), .int .i64 (k : Int), .int .i64 lo, .int .i64 hi] w fun e w' => ∃ A c, e = .returned (.slice A k c) ∧ Src w' A k c (l.take k) ∧ EyeAt w' B g (l.drop k) 0 ∧ w.grownBy w' (some g) := by
  obtain ⟨hB, hl, A, c, hb, hs, hn⟩ := h
  have c0 := hb.cell 0
  have c1 := hb.cell 1
  simp only [List.getElem?_toArray, List.getElem?_cons_zero, List.getElem?_cons_succ] at c0 c1
  have f0 := hb.frozen 0
  have g1 : ¬ (k : Int) < lo := by omega
  have g2 : ¬ (k : Int) > hi := by omega
  have g3 : ¬ (k : Int) > (l.length : Int) := by omega
  have hcut := fun W => run_cut_bytes A l.length c k h3 W
  have hcap := hs.cap
  have hk0 : (0 : Int) ≤ k := by omega
  have hkc : (k : Int) ≤ c := by omega
  have e1 : l.length - k = (l.drop k).length := by simp
  have hn' : 0 < (l.drop k).length → ∀ b o, (if c = k then A else A.map (·.add k)) = some ⟨b, o, none⟩ → b < g := by
    intro hp b o e
    have hp' : k < l.length := by simp at hp; omega
    rw [if_neg (by omega)] at e
    obtain ⟨b0, o0, rfl, _, _⟩ := hs.lies (by rw [bys_length]; omega)
    have hne := hn (by omega) b0 o0 rfl
    simp only [Addr.add, Option.map_some, Option.some.injEq] at e
    split at e <;> (cases e; exact hne)
  have hs' := src_rest hs h3
  have hb' := hb.put 0 (.slice (if c = k then A else A.map (·.add k)) (l.length - k) (c - k))
  rw [e1] at hs' hb'
  have fin : ∃ W, W = w.setCell ⟨g, 0, none⟩ (.slice (if c = k then A else A.map (·.add k)) (l.length - k) (c - k)) ∧ Src W A k c (l.take k) ∧ EyeAt W B g (l.drop k) 0 ∧ w.grownBy W (some g) := by
    refine ⟨_, rfl, ?_, ⟨hB, by simp; omega, (if c = k then A else A.map (·.add k)), c - k, ?_, ?_, hn'⟩, grown_set _ _ _ _⟩
    · exact (src_slice hs h3).far (fun hp b o e => Nat.ne_of_lt (hn (by simp at hp; omega) b o e)) 0 _
    · rw [e1]; simpa using hb'
    · exact hs'.far (fun hp b o e => Nat.ne_of_lt (hn' hp b o e)) 0 _
  clear hs' hb' hn'
  obtain ⟨W, hW, fs, fe, fb⟩ := fin
  have FS := Lib.hid fs
  have FE := Lib.hid fe
  have FB := Lib.hid fb
  have HW := Lib.hid hW
  clear fs fe fb hW hb hs hn e1
  generalize (if c = k then A else A.map (·.add k)) = A' at *
  go_enter Try.func44, Try.ntmps44
  go_wp2
  go_step3
  go_wp2
  refine wp_region_still_tail 16 (by kernel_rfl) (by kernel_rfl) ?_
  change wpStill _ _ w.drew (fun a' => wpList _ _ _ _ a' w.drew) _ _
  simp only [List.take_succ_cons, List.take_zero, List.drop_succ_cons, List.drop_zero]
  repeat still_step
  refine wpStill_nil ?_
  go_wp2
  rw [Exit.noGoto_ret]
  go_ret
  rw [← HW.out]
  have dr : Older W W.drew := ⟨Nat.le_refl _, fun _ _ => rfl⟩
  exact ⟨A, c, rfl, FS.out.older dr, FE.out.older dr, grown_drew FB.out⟩
end Go.Proofs.Ytgemmciokioaiaa
