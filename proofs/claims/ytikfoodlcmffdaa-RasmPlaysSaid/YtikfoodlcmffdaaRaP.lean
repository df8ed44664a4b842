/- Layer 19's laws: far; no buffer made; loads of the document's buffer. Conditions: those that each states. -/
import Derived.Test.YtikfoodlcmffdaaRaH
namespace Go.Proofs.Ytikfoodlcmffdaa.Ra
open Go.ChangeShapes Go.WideShapes Go.ChangeAt Go.RowKit Go.Deep Rk
set_option linter.unusedVariables false
set_option linter.unusedSimpArgs false

def farA (q : Act) : Bool := decide (3000 < q.s.length) || (decide (1099511627776 < q.pl) || decide (q.pl < -1099511627776))
def farB (l : List Act) : Bool := decide (80 < l.length) || l.any farA
theorem act_at {w : World} {A : Option Addr} {c : Nat} {l : List Act} (h : RowG w 3 A l.length c (l.flatMap Act.cells)) {i : Nat} (hi : i < l.length) :
    ∃ b o, A = some ⟨b, o, none⟩ ∧ w.cell? ⟨b, o + i * 3, none⟩ = some (.int .i64 l[i].pl) ∧ w.cell? ⟨b, o + i * 3 + 1, none⟩ = some (.string ⟨l[i].s.toArray⟩) ∧ w.cell? ⟨b, o + i * 3 + 2, none⟩ = some (.bool l[i].take) := by
  obtain ⟨b, o, e, _, h0⟩ := Act_at0 h hi
  obtain ⟨b1, o1, e1, _, h1⟩ := Act_at1 h hi
  obtain ⟨b2, o2, e2, _, h2⟩ := Act_at2 h hi
  rw [e] at e1 e2
  cases e1
  cases e2
  exact ⟨b, o, e, by rw [Nat.add_zero] at h0; exact h0, by rw [Nat.add_assoc]; exact h1, by rw [Nat.add_assoc]; exact h2⟩

set_option maxRecDepth 100000 in
set_option maxHeartbeats 1000000 in
theorem far_any (A : Option Addr) (c : Nat) (l : List Act) (w : World) (h : RowG w 3 A l.length c (l.flatMap Act.cells)) :
    Calls Try.prog 8 #[.slice A l.length c] w fun e w' => e = .returned (.bool (farB l)) ∧ w' = w := by
  have H := Lib.hid h
  clear h
  by_cases h80 : (l.length : Int) > 80
  · have E := Lib.hid (show farB l = true from by unfold farB; rw [decide_eq_true (by omega)]; rfl)
    go_enter Try.func8, Try.ntmps8
    go_wp2
    go_ret
    exact ⟨by rw [E.out]; rfl, rfl⟩
  have E80 := Lib.hid (show decide (80 < l.length) = false from decide_eq_false (by omega))
  go_enter Try.func8, Try.ntmps8
  go_wp2
  go_loop [3] (fun i => ∃ j : Nat, j ≤ l.length ∧ i = .int .i64 (j : Int) ∧ Hid (∀ k (hk : k < l.length), k < j → farA l[k] = false)) (fun i => l.length - (intOf i).toNat)
  case atStart => exact ⟨0, Nat.zero_le _, rfl, Lib.hid (fun k hk h => by omega)⟩
  case round =>
    obtain ⟨j, hj, rfl, NO⟩ := hrel
    by_cases hlt : j < l.length
    · have hlt' : (j : Int) < (l.length : Int) := by omega
      have j0 : (0 : Int) ≤ (j : Int) := by omega
      have xj := IntWalk.i64_in ((j : Int) + 1) (by omega)
      have YES := Lib.hid (fun hf : farA l[j] = true => show farB l = true from by
        unfold farB
        rw [List.any_eq_true.2 ⟨l[j], List.getElem_mem hlt, hf⟩, Bool.or_true])
      have NX := Lib.hid (fun hf : farA l[j] = false => show ∀ k (hk : k < l.length), k < j + 1 → farA l[k] = false from fun k hk h => by
        by_cases e : k = j
        · subst e; exact hf
        · exact NO.out k hk (by omega))
      obtain ⟨b, o, rfl, c0, c1, _⟩ := act_at H.out hlt
      generalize l[j] = q at *
      obtain ⟨pl, s, tk'⟩ := q
      dsimp only at *
      obtain ⟨S, hS⟩ : ∃ S : ByteArray, S = ⟨s.toArray⟩ := ⟨_, rfl⟩
      rw [← hS] at c1
      obtain ⟨m, hm⟩ : ∃ m, s.length = m := ⟨_, rfl⟩
      have hsz : S.size = m := by rw [hS, ← hm]; rfl
      have FA := Lib.hid (show farA ⟨pl, s, tk'⟩ = (decide (3000 < m) || (decide (1099511627776 < pl) || decide (pl < -1099511627776))) from by unfold farA; rw [hm])
      clear hS hm
      by_cases f1 : (3000 : Int) < m
      · have E := Lib.hid (YES.out (by rw [FA.out, decide_eq_true (show 3000 < m from by omega)]; rfl))
        clear YES NX NO
        go_wp2
        go_ret
        exact ⟨by rw [E.out]; rfl, rfl⟩
      by_cases f2 : (1099511627776 : Int) < pl
      · have E := Lib.hid (YES.out (by rw [FA.out, decide_eq_true f2]; simp))
        clear YES NX NO
        go_wp2
        go_ret
        exact ⟨by rw [E.out]; rfl, rfl⟩
      by_cases f3 : pl < (-1099511627776 : Int)
      · have E := Lib.hid (YES.out (by rw [FA.out, decide_eq_true f3]; simp))
        clear YES NX NO
        go_wp2
        go_ret
        exact ⟨by rw [E.out]; rfl, rfl⟩
      have N2 := Lib.hid (NX.out (by rw [FA.out, decide_eq_false f2, decide_eq_false f3, decide_eq_false (show ¬ 3000 < m from by omega)]; rfl))
      clear YES NX NO
      go_wp2
      go_round
      case rel => exact ⟨j + 1, by omega, by go_num, N2⟩
      case measure => simp [intOf]; omega
    · have hlt' : ¬ (j : Int) < (l.length : Int) := by omega
      have E := Lib.hid (show farB l = false from by
        unfold farB
        rw [E80.out, Bool.false_or, List.any_eq_false]
        intro x hx
        obtain ⟨k, hk, rfl⟩ := List.mem_iff_getElem.1 hx
        rw [NO.out k hk (by omega)]
        simp)
      go_wp2
      go_ret
      exact ⟨by rw [E.out]; rfl, rfl⟩
theorem far_ok {l : List Act} (h : farB l = false) : l.length ≤ 80 ∧ ∀ i (hi : i < l.length), l[i].s.length ≤ 3000 ∧ -1099511627776 ≤ l[i].pl ∧ l[i].pl ≤ 1099511627776 := by
  unfold farB at h
  rw [Bool.or_eq_false_iff] at h
  refine ⟨by have := h.1; simp at this; omega, fun i hi => ?_⟩
  have h2 := List.any_eq_false.1 h.2 _ (List.getElem_mem hi)
  unfold farA at h2
  simp at h2
  omega

theorem new_no (a : Int) (w : World) (h : a < 1 ∨ 2048 < a) :
    Calls Try.prog 9 #[.int .i64 a] w fun e w' => e = .returned (.tuple #[.pointer none, .int .i64 1]) ∧ w' = w := by
  by_cases h1 : a < 1
  · clear h
    go_enter Try.func9, Try.ntmps9
    go_wp2
    go_ret2
    exact ⟨rfl, rfl⟩
  · have h2 : a > 2048 := by omega
    clear h
    go_enter Try.func9, Try.ntmps9
    go_wp2
    go_ret2
    exact ⟨rfl, rfl⟩
/-- The document's buffer, read whole. -/
theorem db_load {w : World} {g : Nat} {cs : Array Value} (h : Blk w g 31 cs) (hs : cs.size = 3) : (Instr.loadAt 31 (.pointer (some ⟨g, 0, none⟩))).run Try.prog w = .ok (.agg cs) w := by
  have hh : w.heap[g]? = some (.cells cs 31 (0, 0)) := h
  have := run_loadVar_row w g 31 31 cs (0, 0) _ hh Try.underlying31 rfl (by rw [hs]; exact db_info)
  simp [Instr.loadAt, Instr.sureAddr, this]
theorem wp_conv_d {P : Program} {o : Oper} {a : Go.Act} {w w' : World} {K : Go.Act → World → Prop} {Q : Exit → Go.Act → World → Prop} {s t : TypeId} {x : Operand} {d : Option Tmp} (hd : o.dst = d) {y v : Value} (ho : o.op = .convert s t x) (hx : a.eval x = y) (h : (convert s t y).run P w = .ok v w')
    (hk : K (a.put d v) w') : o.wp P a w K Q := by
  subst hd
  unfold Oper.wp execOp
  simp only [ho, hx, Sem.run_bind, h, Result.andThen_ok, Sem.run_pure]
  exact hk
/-- '[]byte(t)' is put; what turns. -/
theorem put_conv2 {w0 w : World} {gt gm g R N : Nat} {xs : Bs} (h : BB w0 w gt gm g R N xs) (a : Int) (ha : -9223372036854775808 ≤ a ∧ a ≤ 9223372036854775807) (t : ByteArray) (ht : t.size ≤ 1000000) :
    ∃ A c W', (convert 9 37 (.string t)).run Try.prog w = .ok (.slice A t.size c) W' ∧ Below w.heap.size w W' ∧
      Calls Try.prog 14 #[.pointer (some ⟨g, 0, none⟩), .int .i64 a, .slice A t.size c] W' fun e w' => e = .returned (.int .i64 ((held (putR xs (a - N) t.data.toList) : Int) - held xs)) ∧ BB w0 w' gt gm g R N (putR xs (a - N) t.data.toList) ∧ Chg W' w' (fun k => k = gt ∨ k = gm ∨ k = g) := by
  obtain ⟨A, c, W', hr, hs, hb, hA⟩ := Di.conv_src t ht w
  have L := h.buf.lt
  refine ⟨A, c, W', hr, hb, (h.new hb).put a ha A t.size c _ hs (by omega) (fun h0 x hx => ?_)⟩
  obtain ⟨b, o, e, _, _⟩ := hs.lies (by rw [bys_length]; have := hs.len; omega)
  rw [e] at hx
  cases hx
  have := hA b o e
  exact ⟨by show b ≠ gt; omega, by show b ≠ gm; omega, by show b ≠ g; omega⟩
theorem wp_load_d {P : Program} {o : Oper} {a : Go.Act} {w : World} {K : Go.Act → World → Prop} {Q : Exit → Go.Act → World → Prop} {t : TypeId} {x : Operand} {d : Option Tmp} (hd : o.dst = d) {y v : Value} (ho : o.op = .load t x) (hx : a.eval x = y) (h : (Instr.loadAt t y).run P w = .ok v w)
    (hk : K (a.put d v) w) : o.wp P a w K Q := by
  subst hd
  unfold Oper.wp execOp
  simp only [ho, hx, Sem.run_bind, h, Result.andThen_ok, Sem.run_pure]
  exact hk
theorem BB.chg {w0 w w' : World} {gt gm g R N : Nat} {xs : Bs} {S : Nat → Prop} (h : BB w0 w gt gm g R N xs) (k : Chg w w' S) (h1 : ¬ S gt) (h2 : ¬ S gm) (h3 : ¬ S g) (hS : ∀ i, S i → w0.heap.size ≤ i) : BB w0 w' gt gm g R N xs :=
  ⟨h.buf.chg k h1 h2 h3, h.below.trans (k.below h.below.size hS), h.own⟩
end Go.Proofs.Ytikfoodlcmffdaa.Ra
