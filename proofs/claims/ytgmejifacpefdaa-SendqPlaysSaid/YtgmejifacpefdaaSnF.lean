/- The document's line: Ack, Cut. Conditions: those that each states. -/
import Derived.Test.YtgmejifacpefdaaSnE
namespace Go.Proofs.Ytgmejifacpefdaa.Sn
open Go.ChangeShapes Go.WideShapes Go.ChangeAt Go.RowKit Go.Deep Rk Rv Gx
set_option linter.unusedVariables false
set_option linter.unusedSimpArgs false

theorem dack_bad {w : World} {F : Nat → Prop} {g st : Nat} {L : List By} (h : DLine w F g L st) (hL : L.length ≤ 100000) (tt : Int) (htt : ¬ ((st : Int) ≤ tt ∧ tt ≤ (st : Int) + (L.length : Int))) :
    Calls Try.prog 14 #[.pointer (some ⟨g, 0, none⟩), .int .i64 tt] w fun e w' => e = .returned (.tuple #[.slice none 0 0, .int .i64 1]) ∧ Below w.heap.size w w' := by
  obtain ⟨A, c, h1, h2, h3⟩ := h.ex
  have hc0 := (h1.cell 0).trans (show _ = some (.int .i64 (st : Int)) from rfl)
  have hc1 := (h1.cell 1).trans (show _ = some (.slice A L.length c) from rfl)
  have hs := h.small
  have x0 : IntKind.i64.wrap ((st : Int) + (L.length : Int)) = (st : Int) + (L.length : Int) := IntWalk.i64_in _ (by omega)
  have B0 := Lib.hid (fun n => below_drewN (Below.refl w.heap.size w) n)
  clear h h1 h2 h3
  by_cases hl : tt < (st : Int)
  · have d1 : decide (tt < (st : Int)) = true := decide_eq_true hl
    clear htt
    go_enter Try.func14, Try.ntmps14
    go_wp2_with fail
    go_quiet (fail)
    go_wp2
    go_ret2
    exact ⟨rfl, B0.out _⟩
  · have d1 : decide (tt < (st : Int)) = false := decide_eq_false hl
    have d2 : decide ((st : Int) + (L.length : Int) < tt) = true := decide_eq_true (by omega)
    clear htt
    go_enter Try.func14, Try.ntmps14
    go_wp2_with fail
    go_quiet (fail)
    go_wp2
    go_ret2
    exact ⟨rfl, B0.out _⟩

theorem chg_add {w w1 w2 : World} {F S : Nat → Prop} (h : Chg w w1 F) (k : Chg w1 w2 (fun i => F i ∨ S i)) (hs : ∀ i, S i → w.heap.size ≤ i) : Chg w w2 F :=
  ⟨k.os.trans h.os, k.tape.trans h.tape, k.output.trans h.output, Nat.le_trans h.size k.size, fun i hi hn => (k.block i (Nat.lt_of_lt_of_le hi h.size) (fun hh => hh.elim hn (fun h => by have := hs i h; omega))).trans (h.block i hi hn)⟩
/-- A byte goes. -/
theorem dline_tail {w : World} {F : Nat → Prop} {g st c n : Nat} {L : List By} {A A3 : Option Addr} (h : DLine w F g L st) (hn : L.length = n + 1) (h1 : Blk w g 30 #[.int .i64 (st : Int), .slice A L.length c]) (h2 : RowV w 66 3 A L.length c (flatB L)) (h3 : ∀ k, inR A k → k ≠ g ∧ F k)
    (e3 : A3 = if c = 1 then A else A.map (·.add (1 * 3))) (hs : st + 1 ≤ 1000000000) :
    DLine ((w.setCell ⟨g, 1, none⟩ (.slice A3 n (c - 1))).setCell ⟨g, 0, none⟩ (.int .i64 ((st + 1 : Nat) : Int))) F g (L.drop 1) (st + 1) ∧ Chg w ((w.setCell ⟨g, 1, none⟩ (.slice A3 n (c - 1))).setCell ⟨g, 0, none⟩ (.int .i64 ((st + 1 : Nat) : Int))) F := by
  have hl : (L.drop 1).length = n := by rw [List.length_drop]; omega
  have k : ∀ S : Nat → Prop, S g → Chg w ((w.setCell ⟨g, 1, none⟩ (.slice A3 n (c - 1))).setCell ⟨g, 0, none⟩ (.int .i64 ((st + 1 : Nat) : Int))) S := fun S hS => (Chg.set w 1 _ hS).trans (Chg.set _ 0 _ hS)
  have inA : ∀ i, inR A3 i → i ≠ g ∧ F i := fun i ⟨a, ha, e⟩ => by rw [e]; exact h3 _ (drop_block (e3.symm.trans ha))
  refine ⟨⟨⟨A3, c - 1, ?_, ?_, inA⟩, h.fg, fun i hi => Nat.lt_of_lt_of_le (h.lt i hi) (k F h.fg).size, hs⟩, k F h.fg⟩
  · rw [hl]
    exact (h1.put 1 (.slice A3 n (c - 1))).put 0 (.int .i64 ((st + 1 : Nat) : Int))
  · have d := h2.drop (k := 1) (by omega)
    rw [← e3, show L.length - 1 = n by omega, ← flatB_drop] at d
    rw [hl]
    exact d.chg (k (fun i => i = g) rfl) (fun a ha hh => (inA _ ⟨a, ha, rfl⟩).1 hh)
theorem cell0_of {w : World} {F : Nat → Prop} {g st : Nat} {L : List By} (h : DLine w F g L st) : w.cell? ⟨g, 0, none⟩ = some (.int .i64 (st : Int)) := by
  obtain ⟨A, c, h1, _⟩ := h.ex
  exact (h1.cell 0).trans rfl
theorem run_tail (b o n c : Nat) : ∃ A3, (∀ W, (Instr.slice 28 (.slice (some ⟨b, o, none⟩) (n + 1) c) (some (.int .i64 1)) none none).run Try.prog W = .ok (.slice A3 n (c - 1)) W) ∧ A3 = (if c = 1 then (some (⟨b, o, none⟩ : Addr)) else (some (⟨b, o, none⟩ : Addr)).map (·.add (1 * 3))) := by
  obtain ⟨i0, z0, hi, hz, hsz, hby, hzs⟩ := byte_i
  refine ⟨_, fun W => ?_, rfl⟩
  exact run_from (P := Try.prog) Try.underlying28 (by kernel_rfl) hi hsz (some ⟨b, o, none⟩) (n + 1) c 1 (by omega) W

set_option maxRecDepth 100000 in
set_option maxHeartbeats 4000000 in
theorem dack_ok {w : World} {F : Nat → Prop} {g st : Nat} {L : List By} (h : DLine w F g L st) (hL : L.length ≤ 100000) (tt : Int) (k : Nat) (htt : tt = ((st + k : Nat) : Int)) (hk : k ≤ L.length) (hs : st + k ≤ 1000000000) :
    Calls Try.prog 14 #[.pointer (some ⟨g, 0, none⟩), .int .i64 tt] w fun e w' => ∃ A' c', e = .returned (.tuple #[.slice A' (lastsV (L.take k)).length c', .int .i64 0]) ∧ RowG w' 1 A' (lastsV (L.take k)).length c' (lastsV (L.take k)) ∧ (∀ a, A' = some a → w.heap.size ≤ a.block) ∧ DLine w' F g (L.drop k) (st + k) ∧ Chg w w' F := by
  obtain ⟨A, c, h1, h2, h3⟩ := h.ex
  have H := Lib.hid h
  have hc0 := (h1.cell 0).trans (show _ = some (.int .i64 (st : Int)) from rfl)
  have hc1 := (h1.cell 1).trans (show _ = some (.slice A L.length c) from rfl)
  have x0 : IntKind.i64.wrap ((st : Int) + (L.length : Int)) = (st : Int) + (L.length : Int) := IntWalk.i64_in _ (by omega)
  have d1 : decide (tt < (st : Int)) = false := decide_eq_false (by omega)
  have d2 : decide ((st : Int) + (L.length : Int) < tt) = false := decide_eq_false (by omega)
  have ET := Lib.hid htt
  obtain ⟨i0, INF0⟩ := int_i
  have INF := Lib.hid INF0
  clear h h1 h2 h3 INF0 htt
  go_enter Try.func14, Try.ntmps14
  go_wp2_with fail
  go_quiet (fail)
  have W0 := Lib.hid (H.out.drewN nq)
  have K0 := Lib.hid ((Chg.refl w F).drewN nq)
  generalize w.drewN nq = w1 at *
  clear hc0 hc1 d1 d2 x0
  go_wp2
  go_loopw [6] (fun out wr => ∃ (j m : Nat) (A' : Option Addr) (c' : Nat), j ≤ k ∧ out = .slice A' m c' ∧ Hid (m = (lastsV (L.take j)).length) ∧ Hid (DLine wr F g (L.drop j) (st + j)) ∧ Hid (RowV wr 3 1 A' m c' (lastsV (L.take j))) ∧ Hid (∀ i, inR A' i → ¬ F i) ∧ Hid (∀ i, inR A' i → w.heap.size ≤ i) ∧ Hid (Chg w wr F)) (fun _ wr => (match wr.cell? ⟨g, 0, none⟩ with | some (.int _ x) => (tt - x).toNat | _ => 0))
  case atStart => exact ⟨0, 0, none, 0, Nat.zero_le _, rfl, Lib.hid rfl, W0, Lib.hid (RowV.nil _ _ _), Lib.hid (fun k ⟨a, e, _⟩ => by cases e), Lib.hid (fun k ⟨a, e, _⟩ => by cases e), K0⟩
  case round =>
    obtain ⟨j, m, A', c', hj, rfl, HM, D1, RT, AP, OW, KK⟩ := hrel
    clear W0 K0
    obtain ⟨A2, c2, h1, h2, h3⟩ := D1.out.ex
    have hc0 := (h1.cell 0).trans (show _ = some (.int .i64 ((st + j : Nat) : Int)) from rfl)
    by_cases hjk : j < k
    · obtain ⟨n, hn⟩ : ∃ n, (L.drop j).length = n + 1 := ⟨(L.drop j).length - 1, by rw [List.length_drop]; omega⟩
      obtain ⟨s, hs1⟩ : ∃ s, st + j = s := ⟨_, rfl⟩
      have hlt' : (s : Int) < tt := by have := ET.out; omega
      have NN := Lib.hid hn
      have ES := Lib.hid hs1
      obtain ⟨b, o, rfl, hbl, q0, -, q2⟩ := byte_at h2 (i := 0) (by omega)
      obtain ⟨A3, SD, e3⟩ := run_tail b o n c2
      have hjl : j < L.length := by omega
      have e0 : (L.drop j)[0]'(by omega) = L[j] := by simp
      rw [e0] at q0 q2
      rw [Nat.zero_mul, Nat.add_zero] at q0 q2
      have HT := Lib.hid (show lastsV (L.take (j + 1)) = lastsV (L.take j) ++ (if L[j].last then [.int .i64 L[j].frame] else []) by
        rw [List.take_succ_eq_append_getElem hjl, lastsV_append]
        unfold lastsV
        cases hx : L[j].last <;> simp [List.filter_cons, hx])
      have hmb : m ≤ 100000 := by
        have := List.length_filter_le (fun (x : By) => x.last) (L.take j)
        have h2 := HM.out
        unfold lastsV at h2
        rw [List.length_map] at h2
        rw [List.length_take] at this
        omega
      rw [hs1] at D1 h1 hc0
      rw [hn] at h1
      have hc1 := (h1.cell 1).trans (show _ = some (.slice (some ⟨b, o, none⟩) (n + 1) c2) from rfl)
      have HC := Lib.hid hc0
      have HD := Lib.hid h1
      have RV := Lib.hid h2
      have I2 := Lib.hid h3
      have E3 := Lib.hid e3
      have xs := IntWalk.i64_in ((s : Int) + 1) (by omega)
      have TAIL := Lib.hid (fun (W : World) (hk : Chg wr W (fun i => wr.heap.size ≤ i ∨ inR A' i)) => show DLine ((W.setCell ⟨g, 1, none⟩ (.slice A3 n (c2 - 1))).setCell ⟨g, 0, none⟩ (.int .i64 ((s : Int) + 1))) F g (L.drop (j + 1)) (st + (j + 1)) ∧ Chg wr ((W.setCell ⟨g, 1, none⟩ (.slice A3 n (c2 - 1))).setCell ⟨g, 0, none⟩ (.int .i64 ((s : Int) + 1))) (fun i => F i ∨ inR A' i) ∧ Chg W ((W.setCell ⟨g, 1, none⟩ (.slice A3 n (c2 - 1))).setCell ⟨g, 0, none⟩ (.int .i64 ((s : Int) + 1))) F from by
        have nf : ∀ i, F i → ¬ (wr.heap.size ≤ i ∨ inR A' i) := fun i hf hh => by
          rcases hh with h | h
          · have := D1.out.lt i hf; omega
          · exact AP.out i h hf
        have q := dline_tail (A3 := A3) (n := n) (D1.out.chg hk nf) hn (by rw [hn]; exact HD.out.chg hk (nf g D1.out.fg)) (RV.out.chg hk (fun a ha => nf _ (I2.out _ ⟨a, ha, rfl⟩).2)) I2.out E3.out (by omega)
        rw [List.drop_drop, Int.natCast_add] at q
        refine ⟨by rw [show st + (j + 1) = s + 1 by omega]; exact q.1, ?_, q.2⟩
        exact ⟨q.2.os.trans hk.os, q.2.tape.trans hk.tape, q.2.output.trans hk.output, Nat.le_trans hk.size q.2.size, fun i hi hn => (q.2.block i (Nat.lt_of_lt_of_le hi hk.size) (fun hf => hn (.inl hf))).trans (hk.block i hi (fun hh => hh.elim (fun h => by omega) (fun h => hn (.inr h))))⟩)
      clear h1 h2 h3 hn hs1 e0 e3
      generalize L[j].frame = qf at *
      cases hx : L[j].last with
      | true =>
        rw [hx] at q2 HT
        have HT' := Lib.hid (show lastsV (L.take (j + 1)) = lastsV (L.take j) ++ [.int .i64 qf] from HT.out)
        clear hx HT
        go_wp2_with (first | (at_builtin; refine Hid.out ?_) | fail)
        unfold Hid
        have NB := (Below.refl wr.heap.size wr).alloc (Nat.le_refl _) (.cells #[.int .i64 qf] 3)
        refine wpList_append_V rfl (.tmp 40) (.tmp 48) 39 rfl 3 i0 (.int .i64 0) 1 8 Try.underlying39 INF.out.1 INF.out.2.1 INF.out.2.2.1 INF.out.2.2.2 rfl (by decide) (by decide) A' m c' _ rfl (RT.out.new NB) (some ⟨wr.heap.size, 0, none⟩) 1 1 [.int .i64 qf] rfl (G_one wr 3 [.int .i64 qf] 1 rfl) (by simp; rfl) (by omega) ?_
        intro A4 c4 w2 r2 k2 n2
        rw [← HT'.out] at r2
        have KW : Chg wr w2 (fun i => wr.heap.size ≤ i ∨ inR A' i) := (Chg.of_new NB _).trans (k2.weak (fun i hi => .inr hi))
        have T2 := Lib.hid (TAIL.out w2 KW)
        have HM2 := Lib.hid (show m + 1 = (lastsV (L.take (j + 1))).length by rw [HT'.out, List.length_append, ← HM.out]; rfl)
        have OW2 := Lib.hid (show ∀ i, inR A4 i → w.heap.size ≤ i from fun i hi => by
          rcases n2 i hi with h | h
          · exact OW.out i h
          · have := KK.out.size; simp at h; omega)
        have AP2 := Lib.hid (show ∀ i, inR A4 i → ¬ F i from fun i hi => by
          rcases n2 i hi with h | h
          · exact AP.out i h
          · exact fun hf => by have := D1.out.lt i hf; simp at h; omega)
        have RT2 := Lib.hid (r2.chg T2.out.2.2 (fun a ha => AP2.out _ ⟨a, ha, rfl⟩))
        have KK2 := Lib.hid (chg_add KK.out T2.out.2.1 OW.out)
        have hn := NN.out
        have HD2 := HD.out.chg KW (fun hh => by
          rcases hh with h | h
          · have := HD.out.lt; omega
          · exact AP.out g h D1.out.fg)
        have hc0 := (HD2.cell 0).trans (show _ = some (.int .i64 (s : Int)) from rfl)
        have hc1 := (HD2.cell 1).trans (show _ = some (.slice (some ⟨b, o, none⟩) (n + 1) c2) from rfl)
        have fz0 := HD2.frozen 0
        have fz1 := HD2.frozen 1
        have CELL := Lib.hid (cell0_of T2.out.1)
        clear TAIL HD RV I2 E3 HT' HM RT KK D1 NN
        go_wp2
        go_roundw
        case rel => exact ⟨j + 1, m + 1, A4, c4, by omega, rfl, HM2, Lib.hid T2.out.1, RT2, AP2, OW2, KK2⟩
        case measure =>
          have e1 := CELL.out
          have e2 := HC.out
          have e4 := ET.out
          have e5 := ES.out
          simp only [e1, e2]
          omega
      | false =>
        rw [hx] at q2 HT
        have HT' := Lib.hid (show lastsV (L.take (j + 1)) = lastsV (L.take j) from HT.out.trans (by simp))
        clear hx HT
        have T2 := Lib.hid (TAIL.out wr (Chg.refl _ _))
        have HM2 := Lib.hid (show m = (lastsV (L.take (j + 1))).length by rw [HT'.out]; exact HM.out)
        have RT2 := Lib.hid (show RowV _ 3 1 A' m c' (lastsV (L.take (j + 1))) by rw [HT'.out]; exact RT.out.chg T2.out.2.2 (fun a ha => AP.out _ ⟨a, ha, rfl⟩))
        have KK2 := Lib.hid (chg_add KK.out T2.out.2.1 OW.out)
        have fz0 := HD.out.frozen 0
        have fz1 := HD.out.frozen 1
        have CELL := Lib.hid (cell0_of T2.out.1)
        clear TAIL HD RV I2 E3 HT' HM RT KK D1 NN
        go_wp2
        go_roundw
        case rel => exact ⟨j + 1, m, A', c', by omega, rfl, HM2, Lib.hid T2.out.1, RT2, AP, OW, KK2⟩
        case measure =>
          have e1 := CELL.out
          have e2 := HC.out
          have e4 := ET.out
          have e5 := ES.out
          simp only [e1, e2]
          omega
    · obtain rfl : j = k := by omega
      have hge : ¬ ((st + j : Nat) : Int) < tt := by have := ET.out; omega
      obtain ⟨s, hs1⟩ : ∃ s, st + j = s := ⟨_, rfl⟩
      have ho := Lib.hid RT.out.toG
      have hm := HM.out
      rw [hm] at ho
      rw [hs1] at hc0 hge
      have HH := Lib.hid h1
      clear h1 h2 h3 hs1 RT HM
      rw [hm]
      clear hm
      go_wp2
      go_ret2
      exact ⟨A', c', rfl, ho.out, fun a ha => OW.out _ ⟨a, ha, rfl⟩, D1.out, KK.out⟩

/-- When the document's Cut says yes. -/
theorem dcut_bad {w : World} {F : Nat → Prop} {g st : Nat} {L : List By} (h : DLine w F g L st) (hL : L.length ≤ 100000) (a n : Int) (ha : -9223372036854775808 ≤ a ∧ a ≤ 9223372036854775807) (hn : -9223372036854775808 ≤ n ∧ n ≤ 9223372036854775807) (hno : ¬ ((st : Int) ≤ a ∧ 0 ≤ n ∧ n ≤ (st : Int) + (L.length : Int) - a)) :
    Calls Try.prog 17 #[.pointer (some ⟨g, 0, none⟩), .int .i64 a, .int .i64 n] w fun e w' => e = .returned (.tuple #[.slice none 0 0, .int .i64 1]) ∧ Below w.heap.size w w' := by
  obtain ⟨A, c, h1, h2, h3⟩ := h.ex
  have hc0 := (h1.cell 0).trans (show _ = some (.int .i64 (st : Int)) from rfl)
  have hc1 := (h1.cell 1).trans (show _ = some (.slice A L.length c) from rfl)
  have hs := h.small
  have x0 : IntKind.i64.wrap ((st : Int) + (L.length : Int)) = (st : Int) + (L.length : Int) := IntWalk.i64_in _ (by omega)
  have B0 := Lib.hid (fun n => below_drewN (Below.refl w.heap.size w) n)
  clear h h1 h2 h3
  by_cases g1 : a < (st : Int)
  · have d1 : decide (a < (st : Int)) = true := decide_eq_true g1
    clear hno
    go_enter Try.func17, Try.ntmps17
    go_wp2_with fail
    go_quiet (fail)
    go_wp2
    go_ret2
    exact ⟨rfl, B0.out _⟩
  have d1 : decide (a < (st : Int)) = false := decide_eq_false g1
  by_cases g2 : (st : Int) + (L.length : Int) < a
  · have d2 : decide ((st : Int) + (L.length : Int) < a) = true := decide_eq_true g2
    clear hno
    go_enter Try.func17, Try.ntmps17
    go_wp2_with fail
    go_quiet (fail)
    go_wp2
    go_ret2
    exact ⟨rfl, B0.out _⟩
  have d2 : decide ((st : Int) + (L.length : Int) < a) = false := decide_eq_false g2
  by_cases g3 : n < 0
  · have d3 : decide (n < 0) = true := decide_eq_true g3
    clear hno
    go_enter Try.func17, Try.ntmps17
    go_wp2_with fail
    go_quiet (fail)
    go_wp2
    go_ret2
    exact ⟨rfl, B0.out _⟩
  have d3 : decide (n < 0) = false := decide_eq_false g3
  have x1 : IntKind.i64.wrap ((st : Int) + (L.length : Int) - a) = (st : Int) + (L.length : Int) - a := IntWalk.i64_in _ (by omega)
  have d4 : decide ((st : Int) + (L.length : Int) - a < n) = true := decide_eq_true (by omega)
  clear hno
  go_enter Try.func17, Try.ntmps17
  go_wp2_with fail
  go_quiet (fail)
  go_wp2
  go_ret2
  exact ⟨rfl, B0.out _⟩

theorem rpc_infos : (Try.prog.info? 55).map (fun i => (i.zero.map (·.cells.size), i.size, i.bytes)) = some (some 3, 3, 24) := by kernel_rfl
theorem rpc_i : ∃ i0 z, Try.prog.info? 55 = some i0 ∧ i0.zero = some z ∧ i0.size = 3 ∧ i0.bytes = 24 ∧ z.cells.size = 3 := by
  obtain ⟨i, hi, hs⟩ := Option.map_eq_some_iff.1 rpc_infos
  simp only [Prod.mk.injEq] at hs
  obtain ⟨h0, h1, h2⟩ := hs
  obtain ⟨z, hz, hzs⟩ := Option.map_eq_some_iff.1 h0
  exact ⟨i, z, hi, hz, h1, h2, hzs⟩
theorem byte_info : (Try.prog.info? 66).map (·.size) = some 3 := by kernel_rfl
theorem flatP_inc (o : List Pc) (q : Pc) : flatP (o ++ [inc q]) = (flatP (o ++ [q])).set (o.length * 3 + 2) (.int .i64 (q.len + 1)) := by
  rw [flatP_append, flatP_append, List.set_append_right _ _ (by rw [flatP_length]; omega), flatP_length, show o.length * 3 + 2 - o.length * 3 = 2 by omega]
  rfl
/-- A row of pieces whose last one gets a byte more. -/
theorem row_inc {w : World} {E : TypeId} {A : Option Addr} {n c : Nat} {o : List Pc} {q : Pc} (h : RowV w E 3 A n c (flatP (o ++ [q]))) : ∃ b x, A = some ⟨b, x, none⟩ ∧ n = o.length + 1 ∧ b < w.heap.size ∧ w.cell? ⟨b, x + o.length * 3 + 2, none⟩ = some (.int .i64 q.len) ∧ w.frozen? ⟨b, x + o.length * 3 + 2, none⟩ = false ∧ RowV (w.setCell ⟨b, x + o.length * 3 + 2, none⟩ (.int .i64 (q.len + 1))) E 3 A n c (flatP (o ++ [inc q])) := by
  have hl := h.len
  rw [flatP_length, List.length_append, List.length_singleton] at hl
  have hj : o.length * 3 + 2 < (flatP (o ++ [q])).length := by rw [flatP_length, List.length_append, List.length_singleton]; omega
  obtain ⟨b, x, rfl, hb, hc⟩ := h.cell hj
  have e : (flatP (o ++ [q]))[o.length * 3 + 2] = .int .i64 q.len := by
    have := flatP_at (o ++ [q]) (i := o.length) (j := 2) (by simp) (by decide)
    rw [List.getElem?_eq_getElem hj, List.getElem_append_right (by omega)] at this
    simpa [Pc.list] using this
  rw [e, ← Nat.add_assoc] at hc
  have s := h.set hj (.int .i64 (q.len + 1))
  rw [← flatP_inc, ← Nat.add_assoc] at s
  exact ⟨b, x, rfl, by omega, hb, hc, h.thaw _, s⟩

/-- What Cut leaves. -/
def CutsTo (w : World) (L : List Pc) (e : Ending) (w' : World) : Prop := (∃ A' c', e = .returned (.tuple #[.slice A' L.length c', .int .i64 0]) ∧ Pcs w' A' L) ∧ Below w.heap.size w w'
set_option maxRecDepth 100000 in
set_option maxHeartbeats 4000000 in
theorem dcut_ok {w : World} {F : Nat → Prop} {g st : Nat} {l : List Pc} (h : DLine w F g (bb l) st) (hok : ∀ q ∈ l, okP q) (h160 : l.length ≤ 160) (a : Int) (k n : Nat) (ha : a = (st : Int) + (k : Int)) (hk : k + n ≤ total l) :
    Calls Try.prog 17 #[.pointer (some ⟨g, 0, none⟩), .int .i64 a, .int .i64 (n : Int)] w (CutsTo w (cutL l k n)) := by
  obtain ⟨A, c, h1, h2, h3⟩ := h.ex
  have hc0 := (h1.cell 0).trans (show _ = some (.int .i64 (st : Int)) from rfl)
  have hc1 := (h1.cell 1).trans (show _ = some (.slice A (bb l).length c) from rfl)
  have hs := h.small
  have tl := total_ok hok h160
  have bl := bb_length l
  have FC := Lib.hid (fun i => fold_cut l k i [])
  have CT := Lib.hid (fun i => total_cutL l k i)
  have CI := Lib.hid (fun i q (hq : q ∈ cutL l k i) => (cutL_in (fun r hr => (hok r hr).2.2.2) k i q hq).2.1)
  have CL := Lib.hid (fun i => cutL_len l k i)
  have HD := Lib.hid h1
  have RV := Lib.hid h2
  obtain ⟨LB, hLB⟩ : ∃ LB, bb l = LB := ⟨_, rfl⟩
  rw [hLB] at FC HD RV hc1 bl
  have BL := Lib.hid bl
  obtain ⟨T, hT⟩ : ∃ T, total l = T := ⟨_, rfl⟩
  rw [hT] at BL tl hk bl
  rw [bl] at hc1
  have g1 : ¬ a < (st : Int) := by omega
  have d1 : decide (a < (st : Int)) = false := decide_eq_false g1
  have x0 : IntKind.i64.wrap ((st : Int) + (T : Int)) = (st : Int) + (T : Int) := IntWalk.i64_in _ (by omega)
  have d2 : decide ((st : Int) + (T : Int) < a) = false := decide_eq_false (by omega)
  have n0 : ¬ (n : Int) < 0 := by omega
  have d3 : decide ((n : Int) < 0) = false := decide_eq_false n0
  have x1 : IntKind.i64.wrap ((st : Int) + (T : Int) - a) = (st : Int) + (T : Int) - a := IntWalk.i64_in _ (by omega)
  have d4 : decide ((st : Int) + (T : Int) - a < (n : Int)) = false := decide_eq_false (by omega)
  have x2 : IntKind.i64.wrap (a - (st : Int)) = (k : Int) := by have := IntWalk.i64_in (a - (st : Int)) (by omega); omega
  have x3 : IntKind.i64.wrap ((k : Int) + (n : Int)) = (k : Int) + (n : Int) := IntWalk.i64_in _ (by omega)
  have OUT := Lib.hid (show ∀ (A' : Option Addr) (m c' : Nat) (W : World) (o : List Pc), o = cutL l k n → m = o.length → RowV W 55 3 A' m c' (flatP o) → Below w.heap.size w W → CutsTo w (cutL l k n) (.returned (.tuple #[.slice A' m c', .int .i64 0])) W from by
    rintro A' m c' W o rfl rfl r b
    exact ⟨⟨A', c', rfl, pcs_of_G r.toG⟩, b⟩)
  obtain ⟨i0, z0', hi, hz, hsz, hby, hzs⟩ := rpc_i
  have INF := Lib.hid (And.intro hi (And.intro hz (And.intro hsz (And.intro hby hzs))))
  have B0 := Lib.hid (Below.refl w.heap.size w)
  clear h h1 h2 h3 hi hz hsz hby hzs hLB hT bl ha g1 n0
  go_enter Try.func17, Try.ntmps17
  go_wp2_with fail
  go_quiet (fail)
  have B1 := Lib.hid (below_drewN B0.out nq)
  generalize w.drewN nq = w1 at *
  have hc0 := ((HD.out.older (older_below B1.out)).cell 0).trans (show _ = some (.int .i64 (st : Int)) from rfl)
  have F0 := Lib.hid (show foldB ([], false) ((LB.drop k).take (k - k)) = ([], false) by rw [Nat.sub_self, List.take_zero]; rfl)
  go_wp2
  go_loopw [8, 9, 10] (fun out op i wr => ∃ (q m : Nat) (f : Bool) (o : List Pc) (A' : Option Addr) (c' : Nat), k ≤ q ∧ q ≤ k + n ∧ i = .int .i64 (q : Int) ∧ op = .bool f ∧ out = .slice A' m c' ∧ Hid (foldB ([], false) ((LB.drop k).take (q - k)) = (o, f)) ∧ Hid (RowV wr 55 3 A' m c' (flatP o)) ∧ Hid (∀ i, inR A' i → w.heap.size ≤ i) ∧ Hid (Below w.heap.size w wr)) (fun _ _ i _ => k + n - (intOf i).toNat)
  case atStart => exact ⟨k, 0, false, [], none, 0, Nat.le_refl _, by omega, rfl, rfl, rfl, F0, Lib.hid (RowV.nil _ _ _), Lib.hid (fun k ⟨a, e, _⟩ => by cases e), B1⟩
  case round =>
    obtain ⟨q, m, f, o, A', c', hq1, hq2, rfl, rfl, rfl, FO, RO, OW, HB⟩ := hrel
    clear F0 B1 hc0
    have HDr := Lib.hid (HD.out.older (older_below HB.out))
    have hc0 := (HDr.out.cell 0).trans (show _ = some (.int .i64 (st : Int)) from rfl)
    have OC := Lib.hid (show o = cutL l k (q - k) by have := FC.out (q - k); rw [FO.out] at this; exact this)
    by_cases hlt : q < k + n
    · have hlt' : (q : Int) < (k : Int) + (n : Int) := by omega
      have q0 : (0 : Int) ≤ (q : Int) := by omega
      have hqT : q < LB.length := by rw [BL.out]; omega
      have hqT' : (q : Int) < (T : Int) := by omega
      have xq := IntWalk.i64_in ((q : Int) + 1) (by omega)
      have hc1 := (HDr.out.cell 1).trans (show _ = some (.slice A LB.length c) from rfl)
      rw [BL.out] at hc1
      obtain ⟨b, x, rfl, hbl, y0, y1, y2⟩ := byte_at (RV.out.new HB.out) hqT
      have FS := Lib.hid (show foldB ([], false) ((LB.drop k).take (q + 1 - k)) = stepB (o, f) LB[q] from by
        have e : (LB.drop k).take (q + 1 - k) = (LB.drop k).take (q - k) ++ [LB[q]] := by
          rw [show q + 1 - k = (q - k) + 1 by omega, List.take_succ_eq_append_getElem (by rw [List.length_drop]; omega), List.getElem_drop]
          congr 3
          simp only [show k + (q - k) = q by omega]
        rw [e, foldB_append, FO.out]
        rfl)
      have NE := Lib.hid (show f = true → o ≠ [] from fun hf => by
        have := fold_ne ([], false) (by simp) ((LB.drop k).take (q - k))
        rw [FO.out] at this
        exact this hf)
      have LD := Lib.hid (show wr.rangeAt b (x + q * 3) [.int .i64 LB[q].frame, .int .i64 LB[q].off, .bool LB[q].last] from fun j v hj => by
        match j, hj with
        | 0, hj => simp at hj; rw [← hj]; exact y0
        | 1, hj => simp at hj; rw [← hj]; exact y1
        | 2, hj => simp at hj; rw [← hj]; exact y2)
      have TB := Lib.hid (show ∀ r ∈ o, 0 < r.len ∧ r.len ≤ 40960 from fun r hr => by
        have h1 := mem_total hr
        rw [OC.out] at hr
        have h2 := CI.out _ r hr
        have h3 := CT.out (q - k)
        rw [← OC.out] at h3
        omega)
      have ml : m ≤ 160 := by
        have h1 := RO.out.len
        rw [flatP_length] at h1
        have := CL.out (q - k)
        rw [← OC.out] at this
        omega
      clear y0 y1 y2 OC
      generalize LB[q] = bq at *
      obtain ⟨bf, bo, bl⟩ := bq
      dsimp only at LD
      have NB := (Below.refl wr.heap.size wr).alloc (Nat.le_refl _) (.cells #[.int .i64 bf, .int .i64 bo, .bool bl] 66)
      have BX := Lib.hid (Blk.new wr 66 #[.int .i64 bf, .int .i64 bo, .bool bl])
      have RO2 := Lib.hid (RO.out.new NB)
      have ALT := Lib.hid (show ∀ i, inR A' i → i < wr.heap.size from fun i ⟨a, ha, e⟩ => by rw [e]; exact RO.out.lt a ha)
      have HB2 := Lib.hid (HB.out.trans (NB.mono HB.out.size))
      have SZ2 := Lib.hid (show wr.heap.size < (wr.alloc (.cells #[.int .i64 bf, .int .i64 bo, .bool bl] 66)).heap.size by simp)
      clear NB RO HB
      go_upto_region 9 with (first
        | (refine wpList_load_mid rfl 66 (.tmp 75) rfl b (x + q * 3) rfl _ _ LD.out Try.underlying66 rfl byte_info ?_)
        | fail)
      generalize wr.alloc (.cells #[.int .i64 bf, .int .i64 bo, .bool bl] 66) = w2 at *
      obtain ⟨bx, hbx⟩ : ∃ bx, wr.heap.size = bx := ⟨_, rfl⟩
      rw [hbx] at BX ALT SZ2 ⊢
      have z0 := (BX.out.cell 0).trans (show _ = some (.int .i64 bf) from rfl)
      have z1 := (BX.out.cell 1).trans (show _ = some (.int .i64 bo) from rfl)
      clear hbx HDr hc0 hc1
      cases f with
      | false =>
        go_wp2_with (first | (at_builtin; refine Hid.out ?_) | fail)
        unfold Hid
        have NB := (Below.refl w2.heap.size w2).alloc (Nat.le_refl _) (.cells #[.int .i64 bf, .int .i64 bo, .int .i64 0] 55)
        refine wpList_append_V rfl (.tmp 79) (.tmp 85) 31 rfl 55 i0 z0' 3 24 Try.underlying31 INF.out.1 INF.out.2.1 INF.out.2.2.1 INF.out.2.2.2.1 INF.out.2.2.2.2 (by decide) (by decide) A' m c' _ rfl (RO2.out.new NB) (some ⟨w2.heap.size, 0, none⟩) 1 1 [.int .i64 bf, .int .i64 bo, .int .i64 0] rfl (G_one w2 55 [.int .i64 bf, .int .i64 bo, .int .i64 0] 3 rfl) (one_pc ⟨bf, bo, 0⟩) (by omega) ?_
        intro A4 c4 w3 r3 k3 n3
        have r3' : RowV w3 55 3 A4 (m + 1) c4 (flatP (o ++ [⟨bf, bo, 0⟩])) := by rw [flatP_snoc]; exact r3
        have KW : Chg w2 w3 (inR A') := (Chg.of_new NB _).trans k3
        have BX3 := BX.out.chg KW (fun hh => by have := ALT.out bx hh; omega)
        have OW4 := Lib.hid (show ∀ i, inR A4 i → w.heap.size ≤ i ∧ i ≠ bx from fun i hi => by
          rcases n3 i hi with h | h
          · have h1 := OW.out i h; have h2 := ALT.out i h; omega
          · have h1 := SZ2.out; have h2 := HB2.out.size; simp at h; omega)
        have HB4 := Lib.hid (HB2.out.trans (KW.below HB2.out.size OW.out))
        have FS2 := Lib.hid (show foldB ([], false) ((LB.drop k).take (q + 1 - k)) = (o ++ [inc ⟨bf, bo, 0⟩], !bl) by
          rw [FS.out]
          show (bump (o ++ [⟨bf, bo, 0⟩]), !bl) = _
          rw [bump_snoc])
        have V0 := Lib.hid (show (0 : Int) ≤ (⟨bf, bo, 0⟩ : Pc).len ∧ (⟨bf, bo, 0⟩ : Pc).len ≤ 40960 from ⟨by show (0 : Int) ≤ 0; omega, by show (0 : Int) ≤ 40960; omega⟩)
        have R3 := Lib.hid r3'
        have B3 := Lib.hid BX3
        clear r3 r3' k3 n3 KW BX3 NB RO2 BX z0 z1 NE FS TB OW ALT HB2 SZ2 LD
        generalize (⟨bf, bo, 0⟩ : Pc) = r at *
        obtain ⟨m1, hm1⟩ : ∃ m1, m + 1 = m1 := ⟨_, rfl⟩
        rw [hm1] at R3 ⊢
        have mb : m1 ≤ 1000 := by omega
        clear hm1
        obtain ⟨b4, x4, rfl, hm4, hb4, yc, yf, ys⟩ := row_inc R3.out
        have vb := V0.out
        obtain ⟨pp, hpp⟩ : ∃ pp, o.length = pp := ⟨_, rfl⟩
        rw [hpp] at hm4 yc yf ys
        subst hm4
        have hne := (OW4.out b4 ⟨_, rfl, rfl⟩).2
        have hge4 := (OW4.out b4 ⟨_, rfl, rfl⟩).1
        obtain ⟨v, hv⟩ : ∃ v, r.len = v := ⟨_, rfl⟩
        rw [hv] at vb yc ys
        have xm : IntKind.i64.wrap (((pp + 1 : Nat) : Int) - 1) = (pp : Int) := by have := IntWalk.i64_in (((pp + 1 : Nat) : Int) - 1) (by omega); omega
        have xm' : IntKind.i64.wrap ((pp : Int) + 1 - 1) = (pp : Int) := by have := IntWalk.i64_in ((pp : Int) + 1 - 1) (by omega); omega
        have xv := IntWalk.i64_in (v + 1) (by omega)
        have p0 : (0 : Int) ≤ (pp : Int) := by omega
        have p1 : (pp : Int) < ((pp + 1 : Nat) : Int) := by omega
        have RF := Lib.hid ys
        have BF := Lib.hid (B3.out.far (p := ⟨b4, x4 + pp * 3 + 2, none⟩) (fun e => hne e.symm) (.int .i64 (v + 1)))
        have HBF := Lib.hid (HB4.out.setCell (p := ⟨b4, x4 + pp * 3 + 2, none⟩) hge4 (.int .i64 (v + 1)))
        have OWF := Lib.hid (show ∀ i, inR (some (⟨b4, x4, none⟩ : Addr)) i → w.heap.size ≤ i from fun i hi => (OW4.out i hi).1)
        clear ys hv hpp vb V0 R3 B3 HB4 OW4 hge4 hb4
        go_upto_region 12 with fail
        generalize w3.setCell ⟨b4, x4 + pp * 3 + 2, none⟩ (.int .i64 (v + 1)) = w5 at *
        have z2 := (BF.out.cell 2).trans (show _ = some (.bool bl) from rfl)
        clear BF yc yf hne
        go_wp2
        go_roundw
        case rel => exact ⟨q + 1, pp + 1, !bl, _, _, c4, by omega, by omega, by simp, rfl, rfl, FS2, RF, OWF, HBF⟩
        case measure => simp [intOf]; omega
      | true =>
        obtain ⟨o', r, rfl⟩ : ∃ o' r, o = o' ++ [r] := ⟨o.dropLast, o.getLast (NE.out rfl), (List.dropLast_concat_getLast _).symm⟩
        have FS2 := Lib.hid (show foldB ([], false) ((LB.drop k).take (q + 1 - k)) = (o' ++ [inc r], !bl) by
          rw [FS.out]
          show (bump (o' ++ [r]), !bl) = _
          rw [bump_snoc])
        have OW4 := Lib.hid (show ∀ i, inR A' i → w.heap.size ≤ i ∧ i ≠ bx from fun i hi => by have h1 := OW.out i hi; have h2 := ALT.out i hi; omega)
        have V0 := Lib.hid (show (0 : Int) ≤ r.len ∧ r.len ≤ 40960 from by have := TB.out r (by simp); omega)
        have HB4 := HB2
        have R3 := RO2
        have B3 := BX
        have mb : m ≤ 1000 := by omega
        clear RO2 BX z0 z1 NE FS TB OW ALT HB2 SZ2 LD FO
        obtain ⟨b4, x4, rfl, hm4, hb4, yc, yf, ys⟩ := row_inc R3.out
        have vb := V0.out
        obtain ⟨pp, hpp⟩ : ∃ pp, o'.length = pp := ⟨_, rfl⟩
        rw [hpp] at hm4 yc yf ys
        subst hm4
        have hne := (OW4.out b4 ⟨_, rfl, rfl⟩).2
        have hge4 := (OW4.out b4 ⟨_, rfl, rfl⟩).1
        obtain ⟨v, hv⟩ : ∃ v, r.len = v := ⟨_, rfl⟩
        rw [hv] at vb yc ys
        have xm : IntKind.i64.wrap (((pp + 1 : Nat) : Int) - 1) = (pp : Int) := by have := IntWalk.i64_in (((pp + 1 : Nat) : Int) - 1) (by omega); omega
        have xm' : IntKind.i64.wrap ((pp : Int) + 1 - 1) = (pp : Int) := by have := IntWalk.i64_in ((pp : Int) + 1 - 1) (by omega); omega
        have xv := IntWalk.i64_in (v + 1) (by omega)
        have p0 : (0 : Int) ≤ (pp : Int) := by omega
        have p1 : (pp : Int) < ((pp + 1 : Nat) : Int) := by omega
        have RF := Lib.hid ys
        have BF := Lib.hid (B3.out.far (p := ⟨b4, x4 + pp * 3 + 2, none⟩) (fun e => hne e.symm) (.int .i64 (v + 1)))
        have HBF := Lib.hid (HB4.out.setCell (p := ⟨b4, x4 + pp * 3 + 2, none⟩) hge4 (.int .i64 (v + 1)))
        have OWF := Lib.hid (show ∀ i, inR (some (⟨b4, x4, none⟩ : Addr)) i → w.heap.size ≤ i from fun i hi => (OW4.out i hi).1)
        clear ys hv hpp vb V0 R3 B3 HB4 OW4 hge4 hb4
        go_upto_region 12 with fail
        generalize w2.setCell ⟨b4, x4 + pp * 3 + 2, none⟩ (.int .i64 (v + 1)) = w5 at *
        have z2 := (BF.out.cell 2).trans (show _ = some (.bool bl) from rfl)
        clear BF yc yf hne
        go_wp2
        go_roundw
        case rel => exact ⟨q + 1, pp + 1, !bl, _, _, c', by omega, by omega, by simp, rfl, rfl, FS2, RF, OWF, HBF⟩
        case measure => simp [intOf]; omega
    · have hge : ¬ (q : Int) < (k : Int) + (n : Int) := by omega
      obtain rfl : q = k + n := by omega
      have OC2 := Lib.hid (show o = cutL l k n by have := OC.out; rwa [show k + n - k = n by omega] at this)
      have ml := Lib.hid (show m = o.length by have h1 := RO.out.len; rw [flatP_length] at h1; omega)
      go_wp2
      go_ret2
      exact OUT.out _ _ _ _ _ OC2.out ml.out RO.out HB.out
end Go.Proofs.Ytgmejifacpefdaa.Sn
