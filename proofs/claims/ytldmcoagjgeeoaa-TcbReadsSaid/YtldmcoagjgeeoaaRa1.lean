/- Package rasm: Ready, Held. Conditions: those that each states. -/
import Derived.Test.YtldmcoagjgeeoaaRa
import Derived.Deep.LoopGhost
import Derived.Deep.DeepCutAuto
import Derived.Deep.MidRow
namespace Go.Proofs.Ytldmcoagjgeeoaa.Ra
open Go.ChangeShapes Go.WideShapes Go.ChangeAt Go.RowKit Go.Deep
set_option linter.unusedVariables false
set_option linter.unusedSimpArgs false

set_option maxRecDepth 100000 in
theorem ready_any {w : World} {gt gm g R N : Nat} {xs : Bs} (h : Buf w gt gm g R N xs) :
    Calls Try.prog 53 #[.pointer (some ⟨g, 0, none⟩)] w fun e w' => e = .returned (.int .i64 (rdy xs : Int)) ∧ ∃ m, w' = w.drewN m := by
  have H := Lib.hid h
  have r1 := h.r1
  have r2 := h.r2
  have hN := h.small
  have hl := Lib.hid h.len
  clear h
  go_enter Try.func53, Try.ntmps53
  go_wp2
  go_loopw [3] (fun i wr => ∃ j : Nat, j ≤ R ∧ i = .int .i64 (j : Int) ∧ Hid (∀ k (hk : k < xs.length), k < j → xs[k].isSome = true) ∧ Hid (∃ m, wr = w.drewN m)) (fun i _ => R - (intOf i).toNat)
  case atStart => exact ⟨0, Nat.zero_le _, rfl, Lib.hid (fun k hk h => by omega), Lib.hid ⟨0, rfl⟩⟩
  case round =>
    obtain ⟨j, hj, rfl, YES, WR⟩ := hrel
    have HR := Lib.hid (show Buf wr gt gm g R N xs from by obtain ⟨m, rfl⟩ := WR.out; exact H.out.drewN m)
    have c0 := HR.out.c0
    have c2 := HR.out.c2
    by_cases hlt : j < R
    · have hlt' : (j : Int) < (R : Int) := by omega
      have hjx : j < xs.length := by rw [hl.out]; exact hlt
      have xj := IntWalk.i64_in ((N : Int) + (j : Int)) (by omega)
      have xk := IntWalk.i64_in ((j : Int) + 1) (by omega)
      have cm := HR.out.mark j hjx
      have hm : (N + j) % R < R := Nat.mod_lt _ r1
      have sp := fun W hW => spot_any (w := W) (gt := gt) (gm := gm) (g := g) (R := R) (N := N) (xs := xs) hW (N + j)
      rw [Int.natCast_add] at sp
      have SP := Lib.hid sp
      generalize hp : (N + j) % R = p at *
      have hpr : (p : Int) < (R : Int) := by omega
      have hp0 : (0 : Int) ≤ (p : Int) := by omega
      clear hp sp
      by_cases hx : xs[j].isSome = true
      · have YE := Lib.hid (show ∀ k (hk : k < xs.length), k < j + 1 → xs[k].isSome = true from fun k hk h => by
          by_cases e : k = j
          · subst e; exact hx
          · exact YES.out k hk (by omega))
        rw [hx] at cm
        clear hx hjx
        go_upto_region 4 with fail
        go_quiet ((go_at_call 54; exact Calls.quiet_of_same (SP.out _ ((HR.out.drewN _)))))
        go_wp2
        go_roundw
        case rel => exact ⟨j + 1, by omega, by go_num, YE, Lib.hid (by obtain ⟨m, hm⟩ := WR.out; exact ⟨_, by rw [hm, World.drewN_drewN]⟩)⟩
        case measure => simp [intOf]; omega
      · have RD := Lib.hid (show rdy xs = j from rdy_eq xs j (by rw [hl.out]; omega) YES.out (fun h => by simpa using hx))
        rw [show xs[j].isSome = false from by simpa using hx] at cm
        clear hx hjx
        go_upto_region 4 with fail
        go_quiet ((go_at_call 54; exact Calls.quiet_of_same (SP.out _ ((HR.out.drewN _)))))
        go_wp2
        go_ret
        exact ⟨by rw [RD.out]; rfl, by obtain ⟨m, hm⟩ := WR.out; exact ⟨_, by rw [hm, World.drewN_drewN]⟩⟩
    · have hlt' : ¬ (j : Int) < (R : Int) := by omega
      have RD := Lib.hid (show rdy xs = j from rdy_eq xs j (by rw [hl.out]; omega) YES.out (fun h => absurd h (by rw [hl.out]; omega)))
      go_upto_region 4 with fail
      go_quiet (fail)
      go_wp2
      go_ret
      exact ⟨by rw [RD.out]; rfl, by obtain ⟨m, hm⟩ := WR.out; exact ⟨_, by rw [hm, World.drewN_drewN]⟩⟩

/-- The places as they lie in the ring. -/
def rot (xs : Bs) (q : Nat) : Bs := xs.drop (xs.length - q) ++ xs.take (xs.length - q)
theorem rot_length (xs : Bs) (q : Nat) (hq : q ≤ xs.length) : (rot xs q).length = xs.length := by simp [rot]
theorem rot_held (xs : Bs) (q : Nat) : held (rot xs q) = held xs := by
  unfold held rot
  rw [List.countP_append, Nat.add_comm, ← List.countP_append, List.take_append_drop]
theorem rot_at {w : World} {gt gm g R N : Nat} {xs : Bs} (h : Buf w gt gm g R N xs) (i : Nat) (hi : i < (rot xs (N % R)).length) : w.cell? ⟨gm, i, none⟩ = some (.bool (rot xs (N % R))[i].isSome) := by
  have hl := h.len
  have hr := h.r1
  have hq : N % R < R := Nat.mod_lt _ hr
  have hiR : i < R := by rw [rot_length _ _ (by omega)] at hi; omega
  have hd : N = R * (N / R) + N % R := (Nat.div_add_mod N R).symm
  by_cases hlt : i < N % R
  · have hk : R - N % R + i < xs.length := by omega
    have hm := h.mark (R - N % R + i) hk
    have e : (N + (R - N % R + i)) % R = i := by
      have e1 : N + (R - N % R + i) = i + R * (N / R + 1) := by rw [Nat.mul_add]; omega
      rw [e1, Nat.add_mul_mod_self_left, Nat.mod_eq_of_lt hiR]
    rw [e] at hm
    have e2 : (rot xs (N % R))[i]? = xs[R - N % R + i]? := by
      unfold rot
      rw [List.getElem?_append_left (by simp; omega), List.getElem?_drop, hl]
    rw [List.getElem?_eq_getElem hi, List.getElem?_eq_getElem hk] at e2
    rw [hm, Option.some.inj e2]
  · have hk : i - N % R < xs.length := by omega
    have hm := h.mark (i - N % R) hk
    have e : (N + (i - N % R)) % R = i := by
      have e1 : N + (i - N % R) = i + R * (N / R) := by omega
      rw [e1, Nat.add_mul_mod_self_left, Nat.mod_eq_of_lt hiR]
    rw [e] at hm
    have e2 : (rot xs (N % R))[i]? = xs[i - N % R]? := by
      unfold rot
      rw [List.getElem?_append_right (by simp; omega), List.length_drop, hl, show R - (R - N % R) = N % R from by omega, List.getElem?_take, if_pos (by omega)]
    rw [List.getElem?_eq_getElem hi, List.getElem?_eq_getElem hk] at e2
    rw [hm, Option.some.inj e2]

set_option maxRecDepth 100000 in
theorem held_any {w : World} {gt gm g R N : Nat} {xs : Bs} (h : Buf w gt gm g R N xs) :
    Calls Try.prog 58 #[.pointer (some ⟨g, 0, none⟩)] w fun e w' => e = .returned (.int .i64 (held xs : Int)) ∧ w' = w := by
  have r1 := h.r1
  have r2 := h.r2
  have c2 := h.c2
  have hrl : (rot xs (N % R)).length = R := by rw [rot_length _ _ (by rw [h.len]; exact Nat.le_of_lt (Nat.mod_lt _ r1)), h.len]
  have hc := rot_at h
  have E := Lib.hid (rot_held xs (N % R)).symm
  generalize rot xs (N % R) = ys at *
  have hl := Lib.hid hrl
  have HC := Lib.hid hc
  clear h hc hrl
  go_enter Try.func58, Try.ntmps58
  go_wp2
  go_loop [3, 13] (fun n i => ∃ j : Nat, j ≤ R ∧ i = .int .i64 (j : Int) ∧ n = .int .i64 (held (ys.take j) : Int)) (fun _ i => R - (intOf i).toNat)
  case atStart => exact ⟨0, Nat.zero_le _, rfl, by simp [held]⟩
  case round =>
    obtain ⟨j, hj, rfl, rfl⟩ := hrel
    by_cases hlt : j < R
    · have hlt' : (j : Int) < (R : Int) := by omega
      have hjx : j < ys.length := by rw [hl.out]; exact hlt
      have xk := IntWalk.i64_in ((j : Int) + 1) (by omega)
      have j0 : (0 : Int) ≤ (j : Int) := by omega
      have cm := HC.out j hjx
      have HT := Lib.hid (heldTake ys j hjx)
      obtain ⟨n, hn⟩ : ∃ n, held (ys.take j) = n := ⟨_, rfl⟩
      have hnb : n ≤ 2048 := by have := held_le (ys.take j); rw [List.length_take] at this; omega
      have xn := IntWalk.i64_in ((n : Int) + 1) (by omega)
      rw [hn]
      by_cases hx : ys[j].isSome = true
      · have HT' := Lib.hid (show held (ys.take (j + 1)) = n + 1 from by rw [HT.out, hn, if_pos hx])
        rw [hx] at cm
        clear hx HT hjx hn
        go_wp2
        go_round
        case rel => exact ⟨j + 1, by omega, by go_num, by rw [HT'.out]; go_num⟩
        case measure => simp [intOf]; omega
      · have HT' := Lib.hid (show held (ys.take (j + 1)) = n from by rw [HT.out, hn, if_neg hx]; rfl)
        rw [show ys[j].isSome = false from by simpa using hx] at cm
        clear hx HT hjx hn
        go_wp2
        go_round
        case rel => exact ⟨j + 1, by omega, by go_num, by rw [HT'.out]⟩
        case measure => simp [intOf]; omega
    · have hlt' : ¬ (j : Int) < (R : Int) := by omega
      have E2 := Lib.hid (show held (ys.take j) = held xs from by rw [E.out, List.take_of_length_le (by rw [hl.out]; omega)])
      rw [E2.out]
      go_wp2
      go_ret
      exact ⟨rfl, rfl⟩
end Go.Proofs.Ytldmcoagjgeeoaa.Ra
