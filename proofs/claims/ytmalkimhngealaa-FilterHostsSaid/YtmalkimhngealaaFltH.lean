/- Programs for a port, for ARP: what they are, what they end with. Conditions: those that each states. -/
import Derived.Test.YtmalkimhngealaaFltO
namespace Go.Proofs.Ytmalkimhngealaa
open Go.ChangeShapes Go.WideShapes Go.ChangeAt Go.RowKit Go.Deep
set_option linter.unusedVariables false
def hostP (port : Int) : List Ins := [⟨1, 12, 0, 0⟩, ⟨5, 2048, 0, 7⟩, ⟨0, 14, 0, 0⟩, ⟨5, 69, 0, 5⟩, ⟨0, 23, 0, 0⟩, ⟨5, 6, 0, 3⟩, ⟨1, 36, 0, 0⟩, ⟨5, port, 0, 1⟩, ⟨7, 1, 0, 0⟩, ⟨7, 0, 0, 0⟩]
def arpP : List Ins := [⟨1, 12, 0, 0⟩, ⟨5, 2054, 0, 1⟩, ⟨7, 1, 0, 0⟩, ⟨7, 0, 0, 0⟩]
theorem chk_arp : Chk arpP := by
  refine ⟨by decide, by decide, fun i h => ?_, fun h => .inl rfl⟩
  have : i = 0 ∨ i = 1 ∨ i = 2 ∨ i = 3 := by simp [arpP] at h; omega
  rcases this with rfl | rfl | rfl | rfl <;> rfl
theorem ok_arp : ∀ q ∈ arpP, q.Ok := by
  intro q hq
  unfold arpP at hq
  simp only [List.mem_cons, List.not_mem_nil, or_false] at hq
  rcases hq with rfl | rfl | rfl | rfl <;> exact ⟨by decide, by decide, by decide, by decide⟩
theorem chk_host (port : Int) : Chk (hostP port) := by
  refine ⟨by show 1 ≤ 10; omega, by show 10 ≤ 64; omega, fun i h => ?_, fun h => .inl rfl⟩
  have : i = 0 ∨ i = 1 ∨ i = 2 ∨ i = 3 ∨ i = 4 ∨ i = 5 ∨ i = 6 ∨ i = 7 ∨ i = 8 ∨ i = 9 := by simp [hostP] at h; omega
  rcases this with rfl | rfl | rfl | rfl | rfl | rfl | rfl | rfl | rfl | rfl <;> rfl
theorem ok_host {port : Int} (h0 : 0 ≤ port) (h1 : port < 65536) : ∀ q ∈ hostP port, q.Ok := by
  intro q hq
  unfold hostP at hq
  simp only [List.mem_cons, List.not_mem_nil, or_false] at hq
  rcases hq with rfl | rfl | rfl | rfl | rfl | rfl | rfl | rfl | rfl | rfl
  all_goals
    refine ⟨⟨?_, ?_⟩, ⟨?_, ?_⟩, ⟨?_, ?_⟩, ⟨?_, ?_⟩⟩
    all_goals dsimp only
    all_goals omega
def MadeAt (w : World) (p : List Ins) (n : Nat) (e : Ending) (w' : World) : Prop := ∃ A c, e = .returned (.slice A n c) ∧ Prg w' A p ∧ Below w.heap.size w w'
theorem host_any (port : Int) (h0 : 0 ≤ port) (h1 : port < 65536) (w : World) : Calls Try.prog 8 #[.int .u16 port] w (MadeAt w (hostP port) 10) := by
  have hb := Blk.new w 43 (flat (hostP port)).toArray
  have P := Lib.hid (prg_block hb)
  have B := Lib.hid ((Below.refl w.heap.size w).alloc (Nat.le_refl _) (.cells (flat (hostP port)).toArray 43))
  clear hb
  unfold flat hostP Ins.list at *
  simp only [List.map_cons, List.map_nil, List.flatten_cons, List.flatten_nil, List.cons_append, List.nil_append, List.append_nil] at P B
  go_enter Try.func8, Try.ntmps8
  go_wp2
  go_ret
  exact ⟨_, _, rfl, P.out, B.out⟩
theorem arp_any (w : World) : Calls Try.prog 9 #[] w (MadeAt w arpP 4) := by
  have hb := Blk.new w 43 (flat arpP).toArray
  have P := Lib.hid (prg_block hb)
  have B := Lib.hid ((Below.refl w.heap.size w).alloc (Nat.le_refl _) (.cells (flat arpP).toArray 43))
  clear hb
  unfold flat arpP Ins.list at *
  simp only [List.map_cons, List.map_nil, List.flatten_cons, List.flatten_nil, List.cons_append, List.nil_append, List.append_nil] at P B
  go_enter Try.func9, Try.ntmps9
  go_wp2
  go_ret
  exact ⟨_, _, rfl, P.out, B.out⟩

/-! What they end with. -/
def byt (s : List UInt8) (i : Nat) : Nat := (s.getD i 0).toNat
theorem byt_lt (s : List UInt8) (i : Nat) : byt s i < 256 := by unfold byt; exact (s.getD i 0).toNat_lt
theorem or_u32 (n v : Nat) (hv : v < 256) (hn : n < 16777216) : bits .or .u32 ((n : Int) * 256 % 4294967296) ((v : Int) % 4294967296) = ((n * 256 + v : Nat) : Int) := by
  have e1 : (n : Int) * 256 % 4294967296 = ((n * 256 : Nat) : Int) := by omega
  have e2 : (v : Int) % 4294967296 = (v : Int) := by omega
  rw [e1, e2]
  have e := Nat.two_pow_add_eq_or_of_lt (i := 8) (b := v) (by simpa using hv) n
  have h3 := u32_or_nat (n * 256) v (by omega) (by omega)
  have h4 : n * 256 ||| v = n * 256 + v := by rw [Nat.mul_comm n 256]; exact e.symm
  rw [h4] at h3
  exact h3
theorem num1 (s : List UInt8) (i : Nat) : num s i 1 = if i + 1 ≤ s.length then some (byt s i : Int) else none := by
  unfold num
  by_cases h : i + 1 ≤ s.length
  · rw [if_pos h, if_pos h]
    have e : (s.drop i).take 1 = [s[i]'(by omega)] := by
      rw [List.drop_eq_getElem_cons (by omega)]; rfl
    rw [e]
    have := or_u32 0 (s[i]'(by omega)).toNat (s[i]'(by omega)).toNat_lt (by decide)
    unfold byt
    rw [List.getD_eq_getElem?_getD, List.getElem?_eq_getElem (by omega)]
    simpa [joined] using this
  · rw [if_neg h, if_neg h]
theorem num2 (s : List UInt8) (i : Nat) : num s i 2 = if i + 2 ≤ s.length then some ((byt s i * 256 + byt s (i + 1) : Nat) : Int) else none := by
  unfold num
  by_cases h : i + 2 ≤ s.length
  · rw [if_pos h, if_pos h]
    have e : (s.drop i).take 2 = [s[i]'(by omega), s[i + 1]'(by omega)] := by
      rw [List.drop_eq_getElem_cons (by omega), List.drop_eq_getElem_cons (by omega)]; rfl
    rw [e]
    have h0 := (s[i]'(by omega)).toNat_lt
    have e1 := or_u32 0 (s[i]'(by omega)).toNat h0 (by decide)
    have e2 := or_u32 (s[i]'(by omega)).toNat (s[i + 1]'(by omega)).toNat (s[i + 1]'(by omega)).toNat_lt (by omega)
    unfold byt
    rw [List.getD_eq_getElem?_getD, List.getElem?_eq_getElem (by omega), List.getD_eq_getElem?_getD, List.getElem?_eq_getElem (by omega)]
    simp only [Nat.zero_mul, Nat.zero_add] at e1
    have e1 : bits .or .u32 ((0 : Int) * 256 % 4294967296) (((s[i]'(by omega)).toNat : Int) % 4294967296) = ((s[i]'(by omega)).toNat : Int) := e1
    unfold joined
    simp only [List.foldl_cons, List.foldl_nil, Option.getD_some]
    rw [e1, e2]
  · rw [if_neg h, if_neg h]
def hostB (s : List UInt8) (port : Int) : Bool := decide (38 ≤ s.length ∧ byt s 12 = 8 ∧ byt s 13 = 0 ∧ byt s 14 = 69 ∧ byt s 23 = 6 ∧ (byt s 36 : Int) = port / 256 ∧ (byt s 37 : Int) = port % 256)
def arpB (s : List UInt8) : Bool := decide (14 ≤ s.length ∧ byt s 12 = 8 ∧ byt s 13 = 6)
theorem arp_run (s : List UInt8) : runP arpP s = if arpB s = true then 1 else 0 := by
  have r0 : runP arpP s = (match num s 12 2 with | none => 0 | some x => runF arpP s 3 1 x) := (runF_succ arpP s 3 0 0 (by show 0 < 4; omega)).trans stepF_1
  have r1 : ∀ x, runF arpP s 3 1 x = runF arpP s 2 (1 + 1 + (if x = (2054 : Int) then (0 : Int) else 1).toNat) x := fun x => (runF_succ arpP s 2 1 x (by show 1 < 4; omega)).trans stepF_5
  have y : ∀ x, runF arpP s 2 2 x = 1 := fun x => (runF_succ arpP s 1 2 x (by show 2 < 4; omega)).trans stepF_7
  have n : ∀ x, runF arpP s 2 3 x = 0 := fun x => (runF_succ arpP s 1 3 x (by show 3 < 4; omega)).trans stepF_7
  rw [r0, num2]
  unfold arpB
  have b0 := byt_lt s 12
  have b1 := byt_lt s 13
  simp only [decide_eq_true_eq]
  by_cases h : 12 + 2 ≤ s.length
  · rw [if_pos h]
    show runF arpP s 3 1 _ = _
    rw [r1]
    by_cases hx : ((byt s 12 * 256 + byt s 13 : Nat) : Int) = 2054
    · rw [if_pos hx, if_pos (by omega)]; exact y _
    · rw [if_neg hx, if_neg (by omega)]; exact n _
  · rw [if_neg h, if_neg (by omega)]
theorem host_run (s : List UInt8) (port : Int) (p0 : 0 ≤ port) (p1 : port < 65536) : runP (hostP port) s = if hostB s port = true then 1 else 0 := by
  have r0 : runP (hostP port) s = (match num s 12 2 with | none => 0 | some x => runF (hostP port) s 9 1 x) := (runF_succ (hostP port) s 9 0 0 (by show 0 < 10; omega)).trans stepF_1
  have r1 : ∀ x, runF (hostP port) s 9 1 x = runF (hostP port) s 8 (1 + 1 + (if x = (2048 : Int) then (0 : Int) else 7).toNat) x := fun x => (runF_succ (hostP port) s 8 1 x (by show 1 < 10; omega)).trans stepF_5
  have r2 : ∀ x, runF (hostP port) s 8 2 x = (match num s 14 1 with | none => 0 | some x => runF (hostP port) s 7 3 x) := fun x => (runF_succ (hostP port) s 7 2 x (by show 2 < 10; omega)).trans stepF_0
  have r3 : ∀ x, runF (hostP port) s 7 3 x = runF (hostP port) s 6 (3 + 1 + (if x = (69 : Int) then (0 : Int) else 5).toNat) x := fun x => (runF_succ (hostP port) s 6 3 x (by show 3 < 10; omega)).trans stepF_5
  have r4 : ∀ x, runF (hostP port) s 6 4 x = (match num s 23 1 with | none => 0 | some x => runF (hostP port) s 5 5 x) := fun x => (runF_succ (hostP port) s 5 4 x (by show 4 < 10; omega)).trans stepF_0
  have r5 : ∀ x, runF (hostP port) s 5 5 x = runF (hostP port) s 4 (5 + 1 + (if x = (6 : Int) then (0 : Int) else 3).toNat) x := fun x => (runF_succ (hostP port) s 4 5 x (by show 5 < 10; omega)).trans stepF_5
  have r6 : ∀ x, runF (hostP port) s 4 6 x = (match num s 36 2 with | none => 0 | some x => runF (hostP port) s 3 7 x) := fun x => (runF_succ (hostP port) s 3 6 x (by show 6 < 10; omega)).trans stepF_1
  have r7 : ∀ x, runF (hostP port) s 3 7 x = runF (hostP port) s 2 (7 + 1 + (if x = port then (0 : Int) else 1).toNat) x := fun x => (runF_succ (hostP port) s 2 7 x (by show 7 < 10; omega)).trans stepF_5
  have n1 : ∀ x, runF (hostP port) s 8 9 x = 0 := fun x => (runF_succ (hostP port) s 7 9 x (by show 9 < 10; omega)).trans stepF_7
  have n3 : ∀ x, runF (hostP port) s 6 9 x = 0 := fun x => (runF_succ (hostP port) s 5 9 x (by show 9 < 10; omega)).trans stepF_7
  have n5 : ∀ x, runF (hostP port) s 4 9 x = 0 := fun x => (runF_succ (hostP port) s 3 9 x (by show 9 < 10; omega)).trans stepF_7
  have n7 : ∀ x, runF (hostP port) s 2 9 x = 0 := fun x => (runF_succ (hostP port) s 1 9 x (by show 9 < 10; omega)).trans stepF_7
  have y7 : ∀ x, runF (hostP port) s 2 8 x = 1 := fun x => (runF_succ (hostP port) s 1 8 x (by show 8 < 10; omega)).trans stepF_7
  rw [r0, num2]
  unfold hostB
  have b0 := byt_lt s 12
  have b1 := byt_lt s 13
  have b2 := byt_lt s 36
  have b3 := byt_lt s 37
  simp only [decide_eq_true_eq]
  by_cases h : 12 + 2 ≤ s.length
  · rw [if_pos h]
    show runF (hostP port) s 9 1 _ = _
    rw [r1]
    by_cases hx : ((byt s 12 * 256 + byt s 13 : Nat) : Int) = 2048
    · rw [if_pos hx]
      show runF (hostP port) s 8 2 _ = _
      rw [r2, num1]
      by_cases h2 : 14 + 1 ≤ s.length
      · rw [if_pos h2]
        show runF (hostP port) s 7 3 _ = _
        rw [r3]
        by_cases hx2 : (byt s 14 : Int) = 69
        · rw [if_pos hx2]
          show runF (hostP port) s 6 4 _ = _
          rw [r4, num1]
          by_cases h3 : 23 + 1 ≤ s.length
          · rw [if_pos h3]
            show runF (hostP port) s 5 5 _ = _
            rw [r5]
            by_cases hx3 : (byt s 23 : Int) = 6
            · rw [if_pos hx3]
              show runF (hostP port) s 4 6 _ = _
              rw [r6, num2]
              by_cases h4 : 36 + 2 ≤ s.length
              · rw [if_pos h4]
                show runF (hostP port) s 3 7 _ = _
                rw [r7]
                by_cases hx4 : ((byt s 36 * 256 + byt s 37 : Nat) : Int) = port
                · rw [if_pos hx4, if_pos (by omega)]; exact y7 _
                · rw [if_neg hx4, if_neg (by omega)]; exact n7 _
              · rw [if_neg h4, if_neg (by omega)]
            · rw [if_neg hx3, if_neg (by omega)]; exact n5 _
          · rw [if_neg h3, if_neg (by omega)]
        · rw [if_neg hx2, if_neg (by omega)]; exact n3 _
      · rw [if_neg h2, if_neg (by omega)]
    · rw [if_neg hx, if_neg (by omega)]; exact n1 _
  · rw [if_neg h, if_neg (by omega)]
end Go.Proofs.Ytmalkimhngealaa
