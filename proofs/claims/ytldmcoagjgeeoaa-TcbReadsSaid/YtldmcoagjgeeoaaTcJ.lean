/- Package tcb: In of a connection that is gone or that begins; Write, Read. Conditions: those that each states. -/
import Derived.Test.YtldmcoagjgeeoaaTcO
import Derived.Test.YtldmcoagjgeeoaaRa3
import Derived.OwnWalk
namespace Go.Proofs.Ytldmcoagjgeeoaa.Tc
open Go.ChangeShapes Go.WideShapes Go.ChangeAt Go.RowKit Go.Deep Rk Rv
set_option linter.unusedVariables false
set_option linter.unusedSimpArgs false

section
variable {w : World} {P : Pl} {T : TC}

theorem in_gone (h : CA w P T) (hst : T.st = 0) (cs : Array Value) : Calls Try.prog 9 #[.pointer (some ⟨P.g, 0, none⟩), .agg cs] w fun e w' => e = .returned (.slice none 0 0) ∧ Below w.heap.size w w' := by
  have b0 := Lib.hid ((Below.refl w.heap.size w).alloc (Nat.le_refl _) (.cells cs 35))
  have SA := Lib.hid (state_any (h.new b0.out))
  rw [hst] at SA
  clear h
  go_enter Try.func9, Try.ntmps9
  go_wp2_with fail
  go_step3
  go_wp2_with fail
  refine SA.out.mono ?_; rintro e w1 ⟨rfl, rfl⟩
  go_wp2
  rw [Exit.noGoto_ret]
  go_ret
  exact ⟨rfl, b0.out⟩
theorem in_nil (cs : Array Value) (w : World) : Calls Try.prog 9 #[.pointer none, .agg cs] w fun e w' => e = .returned (.slice none 0 0) ∧ Below w.heap.size w w' := by
  have b0 := Lib.hid ((Below.refl w.heap.size w).alloc (Nat.le_refl _) (.cells cs 35))
  have SA := Lib.hid (fun W => state_nil W)
  go_enter Try.func9, Try.ntmps9
  go_wp2_with fail
  go_step3
  go_wp2_with fail
  refine (SA.out _).mono ?_; rintro e w1 ⟨rfl, rfl⟩
  go_wp2
  rw [Exit.noGoto_ret]
  go_ret
  exact ⟨rfl, b0.out⟩
theorem tick_nil (w : World) : Calls Try.prog 11 #[.pointer none] w fun e w' => e = .returned (.slice none 0 0) ∧ w' = w := by
  go_enter Try.func11, Try.ntmps11
  go_wp2_with fail
  go_step3
  go_wp2_with fail
  refine (state_nil _).mono ?_; rintro e w1 ⟨rfl, rfl⟩
  go_wp2
  rw [Exit.noGoto_ret]
  go_ret
  exact ⟨rfl, rfl⟩
theorem tick_gone (h : CA w P T) (hst : T.st = 0) : Calls Try.prog 11 #[.pointer (some ⟨P.g, 0, none⟩)] w fun e w' => e = .returned (.slice none 0 0) ∧ w' = w := by
  have SA := Lib.hid (state_any h)
  rw [hst] at SA
  clear h
  go_enter Try.func11, Try.ntmps11
  go_wp2_with fail
  go_step3
  go_wp2_with fail
  refine SA.out.mono ?_; rintro e w1 ⟨rfl, rfl⟩
  go_wp2
  rw [Exit.noGoto_ret]
  go_ret
  exact ⟨rfl, rfl⟩
theorem abort_nil (w : World) : Calls Try.prog 17 #[.pointer none] w fun e w' => e = .returned (.slice none 0 0) ∧ w' = w := by
  go_enter Try.func17, Try.ntmps17
  go_wp2_with fail
  refine (state_nil _).mono ?_; rintro e w1 ⟨rfl, rfl⟩
  go_wp2
  go_ret
  exact ⟨rfl, rfl⟩
theorem write_nil (n : Int) (w : World) : Calls Try.prog 12 #[.pointer none, .int .i64 n] w fun e w' => e = .returned (.tuple #[.slice none 0 0, .int .i64 3]) ∧ w' = w := by
  go_enter Try.func12, Try.ntmps12
  go_wp2
  go_ret2
  exact ⟨rfl, rfl⟩
theorem close_nil (w : World) : Calls Try.prog 14 #[.pointer none] w fun e w' => e = .returned (.tuple #[.slice none 0 0, .int .i64 3]) ∧ w' = w := by
  go_enter Try.func14, Try.ntmps14
  go_wp2
  go_ret2
  exact ⟨rfl, rfl⟩
theorem read_nil (w : World) : Calls Try.prog 13 #[.pointer none] w fun e w' => e = .returned (.tuple #[.slice none 0 0, .slice none 0 0]) ∧ w' = w := by
  go_enter Try.func13, Try.ntmps13
  go_wp2
  go_ret2
  exact ⟨rfl, rfl⟩
theorem places_nil (w : World) : Calls Try.prog 15 #[.pointer none] w fun e w' => e = .returned (.tuple #[.int .i64 0, .int .i64 0, .int .i64 0]) ∧ w' = w := by
  go_enter Try.func15, Try.ntmps15
  go_wp2
  go_ret3
  exact ⟨rfl, rfl⟩
theorem done_nil (w : World) : Calls Try.prog 19 #[.pointer none] w fun e w' => e = .returned (.bool false) ∧ w' = w := by
  go_enter Try.func19, Try.ntmps19
  go_wp2
  go_ret
  exact ⟨rfl, rfl⟩
theorem write_gone (h : CA w P T) (hst : T.st = 0) (n : Int) : Calls Try.prog 12 #[.pointer (some ⟨P.g, 0, none⟩), .int .i64 n] w fun e w' => e = .returned (.tuple #[.slice none 0 0, .int .i64 90]) ∧ w' = w := by
  have c0 := h.c0
  rw [hst] at c0
  clear h
  go_enter Try.func12, Try.ntmps12
  go_wp2
  go_ret2
  exact ⟨rfl, rfl⟩
theorem write_bad (h : CA w P T) (ok : Ok T) (hst : T.st = 2) (n : Int) (hn : ¬ (0 ≤ n ∧ n ≤ 1048576)) : Calls Try.prog 12 #[.pointer (some ⟨P.g, 0, none⟩), .int .i64 n] w fun e w' => e = .returned (.tuple #[.slice none 0 0, .int .i64 1]) ∧ w' = w := by
  have c0 := h.c0
  have c9 := h.c9
  rw [hst] at c0
  rw [ok.shut] at c9
  clear h
  by_cases h1 : n < 0
  · go_enter Try.func12, Try.ntmps12
    go_wp2
    go_ret2
    exact ⟨rfl, rfl⟩
  · have h2 : n > 1048576 := by omega
    go_enter Try.func12, Try.ntmps12
    go_wp2
    go_ret2
    exact ⟨rfl, rfl⟩
def enR (T : TC) (n : Int) : TC := { T with en := T.en + n }
theorem en_ok {T : TC} (h : Ok T) {n : Int} (h0 : 0 ≤ n) (h1 : T.en + n ≤ 1099511627776) : Ok (enR T n) :=
  ⟨h.done, h.shut, h.fin, h.una, h.nxt, by have := h.en; show T.nxt ≤ T.en + n; omega, h1, h.win, h.mss, h.tm, h.tr, h.due, h.sm⟩
set_option maxRecDepth 100000 in
theorem write_any (h : CA w P T) (ok : Ok T) (hst : T.st = 2) (n : Int) (hn : 0 ≤ n ∧ n ≤ 1048576) (hb : T.en + n ≤ 1099511627776) : Calls Try.prog 12 #[.pointer (some ⟨P.g, 0, none⟩), .int .i64 n] w fun e w' => ∃ A' c' ll, e = .returned (.tuple #[.slice A' ll.length c', .int .i64 0]) ∧ ∃ l', CO w w' P (payT (pushT (enR T n))) A' c' ll ∧ Pushed (enR T n) l' ∧ ll = payL (pushT (enR T n)) l' := by
  have c0 := h.c0
  have c9 := h.c9
  have c5 := h.c5
  have f5 := h.fz 5
  rw [hst] at c0
  rw [ok.shut] at c9
  have ok1 := en_ok ok hn.1 hb
  have q1 : CA (w.setCell ⟨P.g, 5, none⟩ (.int .i64 (T.en + n))) P (enR T n) := h.set 5 _ rfl rfl rfl rfl rfl
  have u1 := ok.en
  have u2 := ok.nxt
  have u3 := ok.una
  have x1 := IntWalk.i64_in (T.en + n) (by omega)
  have D1 := Lib.hid ((CO.start h).step q1 (set_in _ _ _ _))
  have PU := Lib.hid (push_any D1.out ok1 hst (by simp))
  have KP := Lib.hid (push_ok ok1)
  have OK1 := Lib.hid ok1
  have h1 : ¬ n < 0 := by omega
  have h2 : ¬ n > 1048576 := by omega
  clear h q1 ok1
  generalize hX : pushT (enR T n) = X at *
  have HX := Lib.hid hX
  clear hX
  go_enter Try.func12, Try.ntmps12
  go_wp2_with fail
  refine PU.out.mono ?_; rintro e w1 ⟨A1, c1, l1, ll, rfl, HL, co1, _, pp⟩
  have e1 : ll = l1 := by rw [HL.out]; rfl
  have D2 := Lib.hid co1
  have PP := Lib.hid pp
  have PY := Lib.hid (pay_any D2.out KP.out.1.done (by have := pushed_len OK1.out pp; rw [e1]; omega))
  have E1 := Lib.hid e1
  clear co1 pp PU e1
  obtain ⟨l2, hl2⟩ : ∃ l2, payL X ll = l2 := ⟨_, rfl⟩
  have HL2 := Lib.hid (show l2 = payL X l1 from by rw [← hl2, E1.out])
  rw [hl2] at PY
  clear hl2
  go_wp2_with fail
  refine PY.out.mono ?_; rintro e w2 ⟨A2, c2, rfl, co2, _⟩
  have D3 := Lib.hid co2
  clear PY co2
  go_wp2
  go_ret2
  exact ⟨A2, c2, l2, rfl, l1, D3.out, PP.out, HL2.out⟩
end
end Go.Proofs.Ytldmcoagjgeeoaa.Tc
