/- Layer 22's laws: a connection that parts of one stream come to. Conditions: those that each states. -/
import Derived.Test.YtldmcoagjgeeoaaTcS
import Derived.Test.YtldmcoagjgeeoaaRaS
namespace Go.Proofs.Ytldmcoagjgeeoaa.Tc
open Go.ChangeShapes Go.WideShapes Go.ChangeAt Go.RowKit Go.Deep Rk Rv
set_option linter.unusedVariables false
set_option linter.unusedSimpArgs false

theorem wp_conv_d {P : Program} {o : Oper} {a : Go.Act} {w w' : World} {K : Go.Act → World → Prop} {Q : Exit → Go.Act → World → Prop} {s t : TypeId} {x : Operand} {d : Option Tmp} (hd : o.dst = d) {y v : Value} (ho : o.op = .convert s t x) (hx : a.eval x = y) (h : (convert s t y).run P w = .ok v w')
    (hk : K (a.put d v) w') : o.wp P a w K Q := by
  subst hd
  unfold Oper.wp execOp
  simp only [ho, hx, Sem.run_bind, h, Result.andThen_ok, Sem.run_pure]
  exact hk
/-- What stands between two calls: all bytes that are kept are the stream's. -/
structure Inv (l : List UInt8) (r : Int) (K : Nat) (T : TC) : Prop where
  ok : Ok T
  st : T.st = 2 ∨ T.st = 0
  own : T.own = 100
  peer : T.peer = Sq.rd (r + 1)
  una : T.una = 0
  en : T.en ≤ (K : Int) * 1048576
  s : Ra.St l T.N T.xs
/-- A connection of the law's own. -/
structure Con (w0 w : World) (P : Pl) (l : List UInt8) (r : Int) (K : Nat) (T : TC) : Prop where
  con : CA w P T
  inv : Inv l r K T
  below : Below w0.heap.size w0 w
  own : ∀ k, P.In k → w0.heap.size ≤ k
section
variable {w0 w w' : World} {P : Pl} {l : List UInt8} {r : Int} {K : Nat} {T T' : TC} {A : Option Addr} {c : Nat} {ll : List OutV}
theorem Con.co (h : Con w0 w P l r K T) (k : CO w w' P T' A c ll) {K' : Nat} (hi : Inv l r K' T') : Con w0 w' P l r K' T' := ⟨k.con, hi, h.below.trans (k.chg.below h.below.size h.own), h.own⟩
theorem Con.new (h : Con w0 w P l r K T) (k : Below w.heap.size w w') : Con w0 w' P l r K T := ⟨h.con.new k, h.inv, h.below.trans (k.mono h.below.size), h.own⟩
theorem Con.drewN (h : Con w0 w P l r K T) (n : Nat) : Con w0 (w.drewN n) P l r K T := ⟨h.con.drewN n, h.inv, below_drewN h.below n, h.own⟩
theorem Con.more (h : Con w0 w P l r K T) {K' : Nat} (hk : K ≤ K') : Con w0 w P l r K' T := ⟨h.con, ⟨h.inv.ok, h.inv.st, h.inv.own, h.inv.peer, h.inv.una, by have := h.inv.en; omega, h.inv.s⟩, h.below, h.own⟩
/-- A call that tells whatever, and leaves a connection of the same kind. -/
def Lv (w0 : World) (P : Pl) (l : List UInt8) (r : Int) (K N : Nat) (e : Ending) (w' : World) : Prop := ∃ v, e = .returned v ∧ ∃ T', Con w0 w' P l r K T' ∧ T'.N = N

theorem in_inv (h : Con w0 w P l r K T) (hl : l.length ≤ 600) (a m : Nat) (ha : a ≤ 600) (A : Option Addr) (n c : Nat) (hb : Src w A n c ((l.drop a).take m)) (hn : n ≤ 1000000) (hA : 0 < n → ∀ x, A = some x → ¬ P.In x.block) :
    Calls Try.prog 9 #[.pointer (some ⟨P.g, 0, none⟩), .agg (sv (Sq.rd (r + (1 + (a : Int)))) 100 900 A n c)] w (Lv w0 P l r K T.N) := by
  rcases h.inv.st with hs | hs
  · have hpl : Sq.off T.own 100 T.una = T.una := by rw [h.inv.own, h.inv.una]; decide
    refine (in_any h.con h.inv.ok hs _ 100 900 (by decide) A n c _ hb hn hA hpl).mono ?_
    rintro e w' ⟨A', c', l', rfl, T', co, rd, hx⟩
    refine ⟨_, rfl, T', h.co co ⟨rd.ok, .inl (rd.st.trans hs), rd.own.trans h.inv.own, rd.peer.trans h.inv.peer, rd.una.trans h.inv.una, by rw [rd.en]; exact h.inv.en, ?_⟩, rd.N⟩
    have hN := h.inv.s.take.1.1
    have ho : Sq.off T.peer (Sq.rd (r + (1 + (a : Int)))) (nextR T) = (a : Int) := by
      rw [h.inv.peer]
      unfold nextR Sq.off Sq.fr Sq.rd
      omega
    rw [rd.N]
    rcases hx with e | e
    · rw [e]; exact h.inv.s
    · rw [e, ho]; exact h.inv.s.put a m
  · refine (in_gone h.con hs _).mono ?_
    rintro e w' ⟨rfl, b⟩
    exact ⟨_, rfl, T, h.new b, rfl⟩
theorem tick_inv (h : Con w0 w P l r K T) : Calls Try.prog 11 #[.pointer (some ⟨P.g, 0, none⟩)] w (Lv w0 P l r K T.N) := by
  rcases h.inv.st with hs | hs
  · refine (tick_any h.con h.inv.ok hs).mono ?_
    rintro e w' ⟨A', c', l', rfl, T', co, tk⟩
    exact ⟨_, rfl, T', h.co co ⟨tk.ok, tk.st, tk.own.trans h.inv.own, tk.peer.trans h.inv.peer, tk.una.trans h.inv.una, by rw [tk.en]; exact h.inv.en, by rw [tk.N, tk.xs]; exact h.inv.s⟩, tk.N⟩
  · refine (tick_gone h.con hs).mono ?_
    rintro e w' ⟨rfl, rfl⟩
    exact ⟨_, rfl, T, h, rfl⟩
theorem write_inv (h : Con w0 w P l r K T) (hK : K ≤ 1000) (n : Int) : Calls Try.prog 12 #[.pointer (some ⟨P.g, 0, none⟩), .int .i64 n] w (Lv w0 P l r (K + 1) T.N) := by
  rcases h.inv.st with hs | hs
  · by_cases hn : 0 ≤ n ∧ n ≤ 1048576
    · have he := h.inv.en
      have hb : T.en + n ≤ 1099511627776 := by omega
      refine (write_any h.con h.inv.ok hs n hn hb).mono ?_
      rintro e w' ⟨A', c', l', rfl, l2, co, _, _⟩
      have k1 := en_ok h.inv.ok hn.1 hb
      have k2 := push_ok k1
      have k3 := k2.trans (pay_ok k2.1)
      exact ⟨_, rfl, _, h.co co ⟨k3.1, .inl (k3.2.st.trans hs), k3.2.own.trans h.inv.own, k3.2.peer.trans h.inv.peer, k3.2.una.trans h.inv.una, by rw [k3.2.en]; show T.en + n ≤ _; push_cast; omega, by rw [k3.2.N, k3.2.xs]; exact h.inv.s⟩, k3.2.N⟩
    · refine (write_bad h.con h.inv.ok hs n hn).mono ?_
      rintro e w' ⟨rfl, rfl⟩
      exact ⟨_, rfl, T, h.more (by omega), rfl⟩
  · refine (write_gone h.con hs n).mono ?_
    rintro e w' ⟨rfl, rfl⟩
    exact ⟨_, rfl, T, h.more (by omega), rfl⟩
theorem read_inv (h : Con w0 w P l r K T) (hl : l.length ≤ 600) : Calls Try.prog 13 #[.pointer (some ⟨P.g, 0, none⟩)] w fun e w' => ∃ gn A' c' l', e = .returned (.tuple #[.slice (some ⟨gn, 0, none⟩) (Ra.rdy T.xs) (Ra.rdy T.xs), .slice A' (l' : List OutV).length c']) ∧ Src w' (some ⟨gn, 0, none⟩) (Ra.rdy T.xs) (Ra.rdy T.xs) (Ra.tk T.xs) ∧ ∃ T', Con w0 w' P l r K T' ∧ T'.N = T.N + Ra.rdy T.xs := by
  have h1 := h.inv.s.1
  have h2 := h.con.buf.r2
  refine (read_any h.con h.inv.ok (by omega)).mono ?_
  rintro e w' ⟨gn, A', c', l', rfl, T', co, kp, hs, _⟩
  exact ⟨gn, A', c', l', rfl, hs, T', h.co co ⟨kp.1, by rw [kp.2.st]; exact h.inv.st, kp.2.own.trans h.inv.own, kp.2.peer.trans h.inv.peer, kp.2.una.trans h.inv.una, by rw [kp.2.en]; exact h.inv.en, by rw [kp.2.N, kp.2.xs]; exact h.inv.s.take.1⟩, kp.2.N⟩
/-- The beginning. -/
theorem rdy_none : ∀ R : Nat, Ra.rdy (List.replicate R none) = 0
  | 0 => rfl
  | _ + 1 => rfl
theorem acc_reads (r : Int) (R : Nat) : Beg (accR 99 r 900 200 R) :=
  ⟨⟨rfl, rfl, rfl, by show (0 : Int) ≤ 0; decide, by show (0 : Int) ≤ 0; decide, by show (0 : Int) ≤ 0; decide, by show (0 : Int) ≤ 1099511627776; decide, by show (0 : Int) ≤ 900 ∧ (900 : Int) ≤ 65535; decide, by show (1 : Int) ≤ 200 ∧ (200 : Int) ≤ 900; decide, by show (0 : Int) ≤ 4 ∧ (4 : Int) ≤ 64; decide, trivial, by show (-1 : Int) ≤ -1 ∧ (-1 : Int) ≤ 2; decide, Rt.sm_0⟩, rfl, rfl, rfl, rfl, rfl⟩
theorem start_inv (r : Int) (R : Nat) (l : List UInt8) : Inv l r 0 (openR (accR 99 r 900 200 R) 900) := by
  refine ⟨(win_ok (tr_ok (op_ok (acc_reads r R)) 0).1 (by decide)).1, .inl rfl, by show Sq.rd (99 + 1) = 100; decide, rfl, rfl, by show (0 : Int) ≤ _; omega, Ra.St.start l R⟩
theorem fit_reads (r : Int) (R : Nat) (hR : 1 ≤ R ∧ R ≤ 2048) : fitsR (accR 99 r 900 200 R) (Sq.rd (r + 1)) 0 = true := by
  have hw : winR (accR 99 r 900 200 R) = R := by
    show (R : Int) - (Ra.rdy (List.replicate R none) : Nat) = R
    rw [rdy_none]; simp
  have he : expR (accR 99 r 900 200 R) = Sq.rd (r + 1) := by
    show Sq.rd (Sq.rd (r + 1) + ((0 : Nat) + (Ra.rdy (List.replicate R none) : Nat) : Int)) = _
    rw [rdy_none]; unfold Sq.rd; omega
  unfold fitsR
  rw [hw, he, if_neg (by omega)]
  have : Sq.wi (Sq.rd (r + 1)) (Sq.rd (r + 1)) R = true := by
    unfold Sq.wi Sq.fr
    exact decide_eq_true (by omega)
  rw [this]; rfl
theorem u16_at {w : World} {A : Option Addr} {c : Nat} {l : List Nat} (h : RowG w 1 A l.length c (l.flatMap U16sC)) {i : Nat} (hi : i < l.length) : ∃ b o, A = some ⟨b, o, none⟩ ∧ w.cell? ⟨b, o + i, none⟩ = some (.int .u16 (l[i] : Int)) := by
  obtain ⟨b, o, e, hb, hc⟩ := U16s_at0 h hi
  exact ⟨b, o, e, by rw [Nat.mul_one, Nat.add_zero] at hc; exact hc⟩
end
end Go.Proofs.Ytldmcoagjgeeoaa.Tc
