/- A slice of calls to a table that came in; the laws' Do: one call to the table. Conditions: those that each states. -/
import Derived.Test.YtplmabnmkkkehaaFr5
import Derived.Deep.MidRow
import Derived.Deep.Slices
import Derived.ChangeSame
namespace Go.Proofs.Ytplmabnmkkkehaa
open Go.ChangeShapes Go.WideShapes Go.ChangeAt Go.RowKit Go.Deep Fr
set_option linter.unusedVariables false

structure Cmd where
  kind : Int
  env : Int
  f : Int
  off : Int
  n : Int
  s : ByteArray
instance : Inhabited Cmd := ⟨⟨0, 0, 0, 0, 0, ⟨#[]⟩⟩⟩
structure Cmd.Ok (a : Cmd) : Prop where
  off : -9223372036854775808 ≤ a.off ∧ a.off ≤ 9223372036854775807
  n : -9223372036854775808 ≤ a.n ∧ a.n ≤ 9223372036854775807
  s : a.s.size ≤ maxLen
def Cmd.list (a : Cmd) : List Value := [.int .i64 a.kind, .int .i64 a.env, .int .i64 a.f, .int .i64 a.off, .int .i64 a.n, .string a.s]
def Acts (w : World) (A : Option Addr) (n : Nat) (fn : Nat → Cmd) : Prop :=
  ∀ i, i < n → ∃ b o, A = some ⟨b, o, none⟩ ∧ b < w.heap.size ∧ w.rangeAt b (o + i * 6) (fn i).list ∧ (fn i).Ok
theorem Acts.older {w w' : World} {A : Option Addr} {n : Nat} {fn : Nat → Cmd} (h : Acts w A n fn) (k : Older w w') : Acts w' A n fn := by
  intro i hi
  obtain ⟨b, o, e, hb, h1, h2⟩ := h i hi
  refine ⟨b, o, e, Nat.lt_of_lt_of_le hb k.1, fun j v hj => ?_, h2⟩
  rw [World.cell?_of_block (w := w) (w' := w') (a := ⟨b, o + i * 6 + j, none⟩) (k.2 b hb)]
  exact h1 j v hj
def strOf (v : Value) : ByteArray := match v with | .string s => s | _ => ⟨#[]⟩

theorem open_acts {H : Type} {enc : TypeId × Value → H} {P : Program} {w : World} {base : Nat} {t e : TypeId} {f0 f1 f2 f3 f4 f5 : Field} {v : Value} {d : DataW H} {p : List MemPlace} (ht : P.underlying t = some (.slice e)) (he : P.underlying e = some (.struct #[f0, f1, f2, f3, f4, f5]))
    (ce : P.cellsOf e = 6) (o0 : f0.offset = 0) (o1 : f1.offset = 1) (o2 : f2.offset = 2) (o3 : f3.offset = 3) (o4 : f4.offset = 4) (o5 : f5.offset = 5)
    (c0 : P.cellsOf f0.type = 1) (c1 : P.cellsOf f1.type = 1) (c2 : P.cellsOf f2.type = 1) (c3 : P.cellsOf f3.type = 1) (c4 : P.cellsOf f4.type = 1) (c5 : P.cellsOf f5.type = 1)
    (u0 : P.underlying f0.type = some (.int .i64)) (u1 : P.underlying f1.type = some (.int .i64)) (u2 : P.underlying f2.type = some (.int .i64)) (u3 : P.underlying f3.type = some (.int .i64)) (u4 : P.underlying f4.type = some (.int .i64)) (u5 : P.underlying f5.type = some .string)
    (hv : Value.okWide P w .any base t v) (h : DataW.Trod enc P w 0 (fun _ => true) true t v d p) : ∃ A n c fn, v = .slice A n c ∧ Acts w A n fn := by
  have hlt : ∀ x ∈ p, x.block < w.heap.size := by obtain ⟨m, hm⟩ := h; exact DataW.trod_lt m _ _ _ hm
  obtain ⟨a, n, c, rfl⟩ := okWide_slice ht hv
  refine ⟨a, n, c, ?_⟩
  obtain ⟨fuel, hf⟩ := h
  rcases open_slice ht hf with ⟨hcs, _⟩ | ⟨x, len, cap, m, k, D, Pl, hcs, _, hl, hm, hmm, _, hx⟩
  · simp [Value.cells] at hcs
    obtain ⟨rfl, rfl, rfl⟩ := hcs
    exact ⟨fun _ => default, rfl, fun i hi => absurd hi (by omega)⟩
  · simp [Value.cells] at hcs
    obtain ⟨rfl, rfl, rfl⟩ := hcs
    simp only [if_true] at hmm
    obtain ⟨b, o, sp⟩ := x
    have each : ∀ i, i < n → ∃ q : Cmd, sp = none ∧ b < w.heap.size ∧ w.rangeAt b (o + i * 6) q.list ∧ q.Ok := by
      intro i hi
      obtain ⟨cs', h1, h2⟩ := hx i (by omega)
      rw [ce] at h1
      obtain ⟨_, hlen, hcell⟩ := World.cells?_some h1
      obtain ⟨xs, k', hk, hxy, _, hxl, hff⟩ := DataW.trod_struct he h2
      match xs, hxl, cs', hlen with
      | [y0, y1, y2, y3, y4, y5], _, [v0, v1, v2, v3, v4, v5], _ =>
        have g0 := hff 0 f0 rfl
        have g1 := hff 1 f1 rfl
        have g2 := hff 2 f2 rfl
        have g3 := hff 3 f3 rfl
        have g4 := hff 4 f4 rfl
        have g5 := hff 5 f5 rfl
        simp [o0, o1, o2, o3, o4, o5, c0, c1, c2, c3, c4, c5] at g0 g1 g2 g3 g4 g5
        obtain ⟨z0, e0, _, _⟩ := DataW.trod_int u0 g0
        obtain ⟨z1, e1, _, _⟩ := DataW.trod_int u1 g1
        obtain ⟨z2, e2, _, _⟩ := DataW.trod_int u2 g2
        obtain ⟨z3, e3, _, w3⟩ := DataW.trod_int u3 g3
        obtain ⟨z4, e4, _, w4⟩ := DataW.trod_int u4 g4
        obtain ⟨z5, e5, _, w5⟩ := DataW.trod_string u5 g5
        simp at e0 e1 e2 e3 e4 e5
        have hc : ∀ j, j < 6 → w.cell? ((⟨b, o, sp⟩ : Addr).add (i * 6 + j)) = ([v0, v1, v2, v3, v4, v5] : List Value)[j]? := by
          intro j hj
          have := hcell j (by simpa using hj)
          rw [add_add] at this
          rw [this]
        have hc0 := (hc 0 (by omega)).trans (show _ = some v0 from rfl)
        have hsp : sp = none := by
          obtain ⟨cs0, h10, _⟩ := hx 0 (by omega)
          rw [ce] at h10
          obtain ⟨_, hlen0, hcell0⟩ := World.cells?_some h10
          have := World.cell?_spot ((hcell0 0 (by omega)).trans (List.getElem?_eq_getElem (by omega)))
          simpa [Addr.add] using this
        subst hsp
        have ea : ∀ j, (⟨b, o, none⟩ : Addr).add j = ⟨b, o + j, none⟩ := fun j => by unfold Addr.add; split <;> simp_all
        refine ⟨⟨z0, z1, z2, z3, z4, z5⟩, rfl, ?_, ?_, ⟨wf_i64 w3, wf_i64 w4, ?_⟩⟩
        · rw [ea] at hc0
          unfold World.cell? at hc0
          cases hh : w.heap[b]? with
          | none => simp only [hh] at hc0; cases hc0
          | some ob => exact (Array.getElem?_eq_some_iff.1 hh).1
        · intro j v hj
          have hj6 : j < 6 := (List.getElem?_eq_some_iff.1 hj).1
          have := hc j hj6
          rw [ea, ← Nat.add_assoc] at this
          rw [this, ← hj, e0, e1, e2, e3, e4, e5]
          rfl
        · exact w5
    obtain ⟨q, hq⟩ := choose_lt each
    refine ⟨q, rfl, fun i hi => ?_⟩
    obtain ⟨rfl, h1, h2, h3⟩ := hq i hi
    exact ⟨b, o, rfl, h1, h2, h3⟩

/-- What a call answers, and what the table is behind it. -/
def doR (ps : List Pg) (a : Cmd) : List Pg × Int × List UInt8 × Int :=
  if a.kind = 0 then ((allocR ps a.env).1, (allocR ps a.env).2.1, [], (allocR ps a.env).2.2)
  else if a.kind = 1 then ((freeR ps a.env a.f).1, 0, [], (freeR ps a.env a.f).2)
  else if a.kind = 2 then ((giveR ps a.env a.f a.n).1, 0, [], (giveR ps a.env a.f a.n).2)
  else if a.kind = 3 then (ps, 0, (readR ps a.env a.f a.off a.n).1, (readR ps a.env a.f a.off a.n).2)
  else if a.kind = 4 then ((writeR ps a.env a.f a.off a.s.data.toList).1, 0, [], (writeR ps a.env a.f a.off a.s.data.toList).2)
  else if a.kind = 5 then ((holdR ps a.env a.f).1, 0, [], (holdR ps a.env a.f).2)
  else if a.kind = 6 then ((dropR ps a.f).1, 0, [], (dropR ps a.f).2)
  else (ps, 0, (fetchR ps a.f a.off a.n).1, (fetchR ps a.f a.off a.n).2)

theorem act_info : (Try.prog.info? 33).map (·.size) = some 6 := by kernel_rfl
set_option maxRecDepth 100000 in
set_option maxHeartbeats 2000000 in
theorem do_any {gs g : Nat} {ps : List Pg} {w : World} (h : Tab w gs g ps) (kind env f off n : Int) (s : ByteArray) (wo : -9223372036854775808 ≤ off ∧ off ≤ 9223372036854775807) (hs : s.size ≤ 1000) (hm : ∀ p ∈ ps, p.holds < 1000000) :
    Calls Try.prog 11 #[.pointer (some ⟨g, 0, none⟩), .agg #[.int .i64 kind, .int .i64 env, .int .i64 f, .int .i64 off, .int .i64 n, .string s]] w fun e w' =>
      e = .returned (.tuple #[.int .i64 (doR ps ⟨kind, env, f, off, n, s⟩).2.1, .string ⟨(doR ps ⟨kind, env, f, off, n, s⟩).2.2.1.toArray⟩, .int .i64 (doR ps ⟨kind, env, f, off, n, s⟩).2.2.2]) ∧ Tab w' gs g (doR ps ⟨kind, env, f, off, n, s⟩).1 ∧ Chg w w' (fun k => k = gs) := by
  have hT := h.alloc (.cells #[.int .i64 kind, .int .i64 env, .int .i64 f, .int .i64 off, .int .i64 n, .string s] 33)
  have hK := (Chg.refl w (fun k => k = gs)).alloc (.cells #[.int .i64 kind, .int .i64 env, .int .i64 f, .int .i64 off, .int .i64 n, .string s] 33)
  have T := Lib.hid hT
  have K := Lib.hid hK
  have nil := fun k (W : World) => told_str (Src.nil (W.drewN k))
  clear h hT hK
  by_cases q0 : kind = 0
  · subst q0
    have er : doR ps ⟨0, env, f, off, n, s⟩ = ((allocR ps env).1, (allocR ps env).2.1, [], (allocR ps env).2.2) := rfl
    rw [er]
    have C := Lib.hid (alloc_any T.out env)
    generalize allocR ps env = r at *
    clear er wo hm hs
    go_enter Try.func11, Try.ntmps11
    go_wp2_with fail
    refine C.out.mono ?_; rintro e w3 ⟨rfl, t3, k3⟩
    have T3 := Lib.hid t3
    have K3 := Lib.hid (K.out.trans k3)
    clear t3 k3
    go_wp2_with fail
    go_quiet (fail)
    go_wp2
    go_ret3
    exact ⟨rfl, T3.out.drewN _, K3.out.drewN _⟩
  by_cases q1 : kind = 1
  · subst q1
    have er : doR ps ⟨1, env, f, off, n, s⟩ = ((freeR ps env f).1, 0, [], (freeR ps env f).2) := rfl
    rw [er]
    have C := Lib.hid (free_any T.out env f)
    generalize freeR ps env f = r at *
    clear er wo hm hs q0
    go_enter Try.func11, Try.ntmps11
    go_wp2_with fail
    refine C.out.mono ?_; rintro e w3 ⟨rfl, t3, k3⟩
    have T3 := Lib.hid t3
    have K3 := Lib.hid (K.out.trans k3)
    clear t3 k3
    go_wp2_with fail
    go_quiet (fail)
    go_wp2
    go_ret3
    exact ⟨rfl, T3.out.drewN _, K3.out.drewN _⟩
  by_cases q2 : kind = 2
  · subst q2
    have er : doR ps ⟨2, env, f, off, n, s⟩ = ((giveR ps env f n).1, 0, [], (giveR ps env f n).2) := rfl
    rw [er]
    have C := Lib.hid (give_any T.out env f n)
    generalize giveR ps env f n = r at *
    clear er wo hm hs q0 q1
    go_enter Try.func11, Try.ntmps11
    go_wp2_with fail
    refine C.out.mono ?_; rintro e w3 ⟨rfl, t3, k3⟩
    have T3 := Lib.hid t3
    have K3 := Lib.hid (K.out.trans k3)
    clear t3 k3
    go_wp2_with fail
    go_quiet (fail)
    go_wp2
    go_ret3
    exact ⟨rfl, T3.out.drewN _, K3.out.drewN _⟩
  by_cases q3 : kind = 3
  · subst q3
    have er : doR ps ⟨3, env, f, off, n, s⟩ = (ps, 0, (readR ps env f off n).1, (readR ps env f off n).2) := rfl
    rw [er]
    have C := Lib.hid (read_any T.out env f off n wo)
    generalize readR ps env f off n = r at *
    clear er wo hm hs q0 q1 q2
    go_enter Try.func11, Try.ntmps11
    go_wp2_with fail
    refine C.out.mono ?_; rintro e w3 ⟨A', c', rfl, s3, b3⟩
    have T3 := Lib.hid (T.out.new b3)
    have K3 := Lib.hid (K.out.trans (Chg.of_new b3 (fun k => k = gs)))
    have tl := fun k => told_str (s3.drewN k)
    clear s3 b3 nil
    go_wp2_with fail
    go_quiet (fail)
    go_wp2
    go_ret3
    exact ⟨rfl, T3.out.drewN _, K3.out.drewN _⟩
  by_cases q4 : kind = 4
  · subst q4
    have er : doR ps ⟨4, env, f, off, n, s⟩ = ((writeR ps env f off s.data.toList).1, 0, [], (writeR ps env f off s.data.toList).2) := rfl
    rw [er]
    obtain ⟨A, c, w2, heq, hsrc, b2⟩ := conv_src s (by omega) (w.alloc (.cells #[.int .i64 4, .int .i64 env, .int .i64 f, .int .i64 off, .int .i64 n, .string s] 33))
    have C := Lib.hid (write_any (T.out.new b2) env f off wo A s.size c s.data.toList hsrc)
    have K2 := Lib.hid (K.out.trans (Chg.of_new b2 (fun k => k = gs)))
    generalize writeR ps env f off s.data.toList = r at *
    clear er wo hm hs hsrc b2 q0 q1 q2 q3
    go_enter Try.func11, Try.ntmps11
    go_wp2_with fail
    refine C.out.mono ?_; rintro e w3 ⟨rfl, t3, k3⟩
    have T3 := Lib.hid t3
    have K3 := Lib.hid (K2.out.trans k3)
    clear t3 k3
    go_wp2_with fail
    go_quiet (fail)
    go_wp2
    go_ret3
    exact ⟨rfl, T3.out.drewN _, K3.out.drewN _⟩
  by_cases q5 : kind = 5
  · subst q5
    have er : doR ps ⟨5, env, f, off, n, s⟩ = ((holdR ps env f).1, 0, [], (holdR ps env f).2) := rfl
    rw [er]
    have C := Lib.hid (hold_any T.out env f hm)
    generalize holdR ps env f = r at *
    clear er wo hm hs q0 q1 q2 q3 q4
    go_enter Try.func11, Try.ntmps11
    go_wp2_with fail
    refine C.out.mono ?_; rintro e w3 ⟨rfl, t3, k3⟩
    have T3 := Lib.hid t3
    have K3 := Lib.hid (K.out.trans k3)
    clear t3 k3
    go_wp2_with fail
    go_quiet (fail)
    go_wp2
    go_ret3
    exact ⟨rfl, T3.out.drewN _, K3.out.drewN _⟩
  by_cases q6 : kind = 6
  · subst q6
    have er : doR ps ⟨6, env, f, off, n, s⟩ = ((dropR ps f).1, 0, [], (dropR ps f).2) := rfl
    rw [er]
    have C := Lib.hid (drop_any T.out f)
    generalize dropR ps f = r at *
    clear er wo hm hs q0 q1 q2 q3 q4 q5
    go_enter Try.func11, Try.ntmps11
    go_wp2_with fail
    refine C.out.mono ?_; rintro e w3 ⟨rfl, t3, k3⟩
    have T3 := Lib.hid t3
    have K3 := Lib.hid (K.out.trans k3)
    clear t3 k3
    go_wp2_with fail
    go_quiet (fail)
    go_wp2
    go_ret3
    exact ⟨rfl, T3.out.drewN _, K3.out.drewN _⟩
  have er : doR ps ⟨kind, env, f, off, n, s⟩ = (ps, 0, (fetchR ps f off n).1, (fetchR ps f off n).2) := by unfold doR; simp only [q0, q1, q2, q3, q4, q5, q6, if_false]
  rw [er]
  have C := Lib.hid (fetch_any T.out f off n wo)
  generalize fetchR ps f off n = r at *
  have d0 : (kind == 0) = false := by simpa using q0
  have d1 : (kind == 1) = false := by simpa using q1
  have d2 : (kind == 2) = false := by simpa using q2
  have d3 : (kind == 3) = false := by simpa using q3
  have d4 : (kind == 4) = false := by simpa using q4
  have d5 : (kind == 5) = false := by simpa using q5
  have d6 : (kind == 6) = false := by simpa using q6
  clear q0 q1 q2 q3 q4 q5 q6
  clear er wo hm hs
  go_enter Try.func11, Try.ntmps11
  go_wp2_with fail
  refine C.out.mono ?_; rintro e w3 ⟨A', c', rfl, s3, b3⟩
  have T3 := Lib.hid (T.out.new b3)
  have K3 := Lib.hid (K.out.trans (Chg.of_new b3 (fun k => k = gs)))
  have tl := fun k => told_str (s3.drewN k)
  clear s3 b3 nil
  go_wp2_with fail
  go_quiet (fail)
  go_wp2
  go_ret3
  exact ⟨rfl, T3.out.drewN _, K3.out.drewN _⟩
end Go.Proofs.Ytplmabnmkkkehaa
