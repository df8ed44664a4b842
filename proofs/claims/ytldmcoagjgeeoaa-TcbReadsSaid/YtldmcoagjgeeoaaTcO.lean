/- Package tcb: what stays small. Conditions: those that each states. -/
import Derived.Test.YtldmcoagjgeeoaaTcH
import Derived.Test.YtldmcoagjgeeoaaTcQ
namespace Go.Proofs.Ytldmcoagjgeeoaa.Tc
open Go.ChangeShapes Go.WideShapes Go.ChangeAt Go.RowKit Go.Deep Rk Rv
set_option linter.unusedVariables false
set_option linter.unusedSimpArgs false

/-- A scope in which the run jumps to its label once, and not again. -/
theorem scope_once {P : Program} {c rest : Code} {a : Act} {w : World} {Q : Exit → Act → World → Prop} (l : Nat) (hf : findLabel c l = some rest)
    (first : c.wp P (Exit.jump l (fun a' w' => rest.wp P (Exit.noGoto Q) a' w') Q) a w) : (Code.scope c).wp P Q a w := by
  refine wp_scope_jumps l (fun a' w' => rest.wp P (Exit.noGoto Q) a' w') (fun _ _ => 0) hf first fun a' w' h => ?_
  refine wp_mono h fun e a2 w2 he => ?_
  cases e with
  | goto _ => exact he.elim
  | _ => exact he

theorem due_ok {T : TC} (h : Ok T) {d : Int} (hd : -1 ≤ d ∧ d ≤ 2) : Kp T (dueR T d) := ⟨⟨h.done, h.shut, h.fin, h.una, h.nxt, h.en, h.big, h.win, h.mss, h.tm, h.tr, hd, h.sm⟩, ⟨rfl, rfl, rfl, rfl, rfl, rfl, rfl, rfl⟩⟩
theorem arm_ok {T : TC} (h : Ok T) : Kp T (armR T) := ⟨⟨h.done, h.shut, h.fin, h.una, h.nxt, h.en, h.big, h.win, h.mss, by have := h.sm.w; show 0 ≤ T.c.w ∧ T.c.w ≤ 64; omega, h.tr, h.due, h.sm⟩, ⟨rfl, rfl, rfl, rfl, rfl, rfl, rfl, rfl⟩⟩
theorem wake_ok {T : TC} (h : Ok T) : Kp T (wakeR T) := by
  unfold wakeR; split
  · exact arm_ok h
  · exact Kp.refl h
theorem pay_ok {T : TC} (h : Ok T) : Kp T (payT T) := by
  unfold payT; split
  · exact sent_ok h
  · exact Kp.refl h
theorem push_ok {T : TC} (h : Ok T) : Kp T (pushT T) := by
  have h1 := h.nxt
  have h2 := h.en
  have h3 := h.sm.w
  have h4 := h.tm
  unfold pushT
  split
  · rename_i hl
    have hle : limR T ≤ T.en := by unfold limR; omega
    have hne : ¬ limR T = T.nxt := by omega
    rw [show loopT T (limR T) = stepT T (limR T) from if_neg hne]
    refine ⟨⟨h.done, h.shut, h.fin, h.una, by show T.una ≤ limR T; omega, hle, h.big, h.win, h.mss, ?_, h.tr, by show -1 ≤ (-1 : Int) ∧ (-1 : Int) ≤ 2; decide, h.sm⟩, ⟨rfl, rfl, rfl, rfl, rfl, rfl, rfl, rfl⟩⟩
    show 0 ≤ (if T.tm = 0 then T.c.w else T.tm) ∧ (if T.tm = 0 then T.c.w else T.tm) ≤ 64
    split <;> omega
  · split
    · exact wake_ok h
    · exact Kp.refl h
theorem pushed_len {T : TC} (h : Ok T) {l : List OutV} (hp : Pushed T l) : l.length ≤ 65535 := by
  have h1 := h.nxt
  have h2 := h.win
  rcases hp with ⟨_, rfl⟩ | ⟨hl, hc⟩
  · simp
  · have := (hc.le h.mss.1).1
    have hle : limR T ≤ T.una + T.win := by unfold limR; omega
    omega
theorem CO.base {w0 w1 w2 : World} {P : Pl} {T T' : TC} {A A' : Option Addr} {c c' : Nat} {l l' : List OutV} (h : CO w0 w1 P T A c l) (k : CO w1 w2 P T' A' c' l') : CO w0 w2 P T' A' c' l' :=
  ⟨k.con, h.old, k.out, h.chg.trans k.chg, fun i hi => Nat.le_trans h.chg.size (k.fresh i hi)⟩
/-- What In leaves of all but the buffer. -/
structure Rd (T T' : TC) : Prop where
  ok : Ok T'
  st : T'.st = T.st
  own : T'.own = T.own
  peer : T'.peer = T.peer
  una : T'.una = T.una
  en : T'.en = T.en
  N : T'.N = T.N
  room : T'.room = T.room
theorem Kp.rd {T T' : TC} (h : Kp T T') : Rd T T' := ⟨h.1, h.2.st, h.2.own, h.2.peer, h.2.una, h.2.en, h.2.N, h.2.room⟩
theorem Rd.trans {T T1 T2 : TC} (h : Rd T T1) (k : Rd T1 T2) : Rd T T2 := ⟨k.ok, k.st.trans h.st, k.own.trans h.own, k.peer.trans h.peer, k.una.trans h.una, k.en.trans h.en, k.N.trans h.N, k.room.trans h.room⟩
theorem take_ok {T T' : TC} {q : Int} {b : List UInt8} (h : Ok T) (k : TakeIs T q b T') : Rd T T' ∧ (T'.xs = T.xs ∨ T'.xs = Ra.putR T.xs (Sq.off T.peer q (nextR T) - T.N) b) := by
  rcases k with ⟨_, rfl⟩ | ⟨_, d, hd, rfl⟩
  · exact ⟨⟨h, rfl, rfl, rfl, rfl, rfl, rfl, rfl⟩, .inl rfl⟩
  · exact ⟨⟨⟨h.done, h.shut, h.fin, h.una, h.nxt, h.en, h.big, h.win, h.mss, h.tm, h.tr, by show -1 ≤ d ∧ d ≤ 2; omega, h.sm⟩, rfl, rfl, rfl, rfl, rfl, rfl, rfl⟩, .inr rfl⟩
end Go.Proofs.Ytldmcoagjgeeoaa.Tc
