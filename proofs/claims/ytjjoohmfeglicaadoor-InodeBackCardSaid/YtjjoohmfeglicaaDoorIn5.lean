/- Layer 11: the reader's numbers. Conditions: those that each states. -/
import Derived.Test.YtjjoohmfeglicaaDoorIn4
namespace Go.Proofs.YtjjoohmfeglicaaDoor.In
open Go.ChangeShapes Go.WideShapes Go.ChangeAt Go.RowKit Go.Deep Fl Rk
set_option linter.unusedVariables false

theorem chg_of_row {w w' : World} {g : Nat} (h : w.grownBy w' (some g)) : Chg w w' (fun b => b = g) :=
  ⟨h.os, h.tape, h.output, h.size, fun i hi hn => h.block i hi (fun e => hn (Option.some.inj e))⟩
/-- A reader in memory, whose error and bytes are s. -/
structure EyeS (w : World) (g : Nat) (s : Rd) : Prop where
  at_ : EyeAt w 0 g s.1 s.2
  met : s.2 ≠ 0 → s.1 = []
theorem EyeS.lt {w : World} {g : Nat} {s : Rd} (h : EyeS w g s) : g < w.heap.size := by
  obtain ⟨_, _, A, c, hb, _⟩ := h.at_
  exact hb.lt
/-- Writes behind the reader leave it. -/
theorem EyeS.away {w w' : World} {g : Nat} {s : Rd} {S : Nat → Prop} (h : EyeS w g s) (k : Chg w w' S) (hS : ∀ b, S b → g < b) : EyeS w' g s := by
  obtain ⟨⟨h0, hl, A, c, hb, hs, hn⟩, hm⟩ := h
  refine ⟨⟨h0, hl, A, c, hb.chg k (fun e => absurd (hS _ e) (Nat.lt_irrefl _)), ⟨⟨fun hp => ?_, hs.len, hs.cap, hs.max⟩, hs.none_⟩, hn⟩, hm⟩
  obtain ⟨b, o, rfl, hbl, hc⟩ := hs.lies hp
  have hbg : b < g := hn (by rw [bys_length] at hp; exact hp) b o rfl
  refine ⟨b, o, rfl, Nat.lt_of_lt_of_le hbl k.size, fun j hj => ?_⟩
  rw [World.cell?_of_block (w := w) (w' := w') (a := ⟨b, o + j, none⟩) (k.block b hbl (fun e => absurd (hS b e) (by omega)))]
  exact hc j hj
theorem EyeS.new {w w' : World} {g : Nat} {s : Rd} (h : EyeS w g s) (k : Below w.heap.size w w') : EyeS w' g s := h.away (Chg.of_new k fun _ => False) (fun _ e => e.elim)
theorem EyeS.drewN {w : World} {g : Nat} {s : Rd} (h : EyeS w g s) (n : Nat) : EyeS (w.drewN n) g s := h.away ((Chg.refl w (fun _ => False)).drewN n) (fun _ e => e.elim)

theorem num_inv (s : Rd) (k : Int) (h : s.2 ≠ 0 → s.1 = []) : (numS s k).2.2 ≠ 0 → (numS s k).2.1 = [] := takeR_inv s.1 s.2 k true h
theorem byt_inv (s : Rd) (k : Int) (h : s.2 ≠ 0 → s.1 = []) : (bytS s k).2.2 ≠ 0 → (bytS s k).2.1 = [] := takeR_inv s.1 s.2 k false h

theorem number_any (g : Nat) (s : Rd) (k : Int) (w : World) (h : EyeS w g s) :
    Calls Tryd.prog 42 #[.pointer (some ⟨g, 0, none⟩), .int .i64 k] w fun e w' => e = .returned (.int .i64 (intS s k).1) ∧ EyeS w' g (intS s k).2 ∧ Chg w w' (fun b => b = g) := by
  have NA := Lib.hid (num_any 0 g s.1 s.2 k w h.at_ h.met)
  have hi := Lib.hid (num_inv s k h.met)
  have E1 := Lib.hid (show (intS s k).1 = IntKind.i64.wrap ((numB (takeR s.1 s.2 k true).1 : Nat) : Int) from rfl)
  have E2 := Lib.hid (show (intS s k).2 = (takeR s.1 s.2 k true).2 from rfl)
  generalize (intS s k).1 = v at *
  generalize (intS s k).2 = s' at *
  generalize numB (takeR s.1 s.2 k true).1 = m at *
  clear h
  go_enter Tryd.func42, Tryd.ntmps42
  go_wp2_with fail
  refine NA.out.mono ?_; rintro e w1 ⟨rfl, e1, k1⟩
  have e1 := Lib.hid e1
  have k1 := Lib.hid k1
  go_wp2
  go_ret
  refine ⟨?_, ⟨?_, ?_⟩, chg_of_row k1.out⟩
  · rw [E1.out]; (show Ending.returned (Value.int .i64 (wrap64 (m : Int))) = _); exact congrArg (fun x => Ending.returned (Value.int .i64 x)) (by rw [IntKind.wrap_i64]; try (unfold wrap64; omega))
  · rw [E2.out]; exact e1.out
  · rw [E2.out]; exact hi.out
theorem bytesS_any (g : Nat) (s : Rd) (k : Int) (w : World) (h : EyeS w g s) :
    Calls Tryd.prog 41 #[.pointer (some ⟨g, 0, none⟩), .int .i64 k] w fun e w' => ∃ A c, e = .returned (.slice A (bytS s k).1.length c) ∧ Src w' A (bytS s k).1.length c (bytS s k).1 ∧ EyeS w' g (bytS s k).2 ∧ Chg w w' (fun b => b = g) := by
  refine (bytes_any 0 g s.1 s.2 k w h.at_ h.met).mono ?_
  rintro e w' ⟨A, c, rfl, s1, e1, k1⟩
  exact ⟨A, c, rfl, s1, ⟨e1, byt_inv s k h.met⟩, chg_of_row k1⟩
theorem int_info : ∃ i0 z, Tryd.prog.info? 3 = some i0 ∧ i0.zero = some z ∧ z.cells.size = 1 ∧ i0.size = 1 ∧ i0.bytes = 8 := by
  obtain ⟨i, hi, hs⟩ := Option.map_eq_some_iff.1 (show (Tryd.prog.info? 3).map (fun i => (i.zero.map (·.cells.size), i.size, i.bytes)) = some (some 1, 1, 8) by kernel_rfl)
  simp only [Prod.mk.injEq] at hs
  obtain ⟨h0, h1, h2⟩ := hs
  obtain ⟨z, hz, hzs⟩ := Option.map_eq_some_iff.1 h0
  exact ⟨i, z, hi, hz, hzs, h1, h2⟩
theorem vi_snoc (l : List Int) (x : Int) : vi (l ++ [x]) = vi l ++ [.int .i64 x] := by simp [vi]
end Go.Proofs.YtjjoohmfeglicaaDoor.In
