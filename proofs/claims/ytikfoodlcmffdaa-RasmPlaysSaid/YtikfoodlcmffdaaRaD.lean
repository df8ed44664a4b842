/- The document's buffer of layer 19 (a value): New, Ready, Held. Conditions: those that each states. -/
import Derived.Test.YtikfoodlcmffdaaRaS
namespace Go.Proofs.Ytikfoodlcmffdaa.Ra
open Go.ChangeShapes Go.WideShapes Go.ChangeAt Go.RowKit Go.Deep Rk
set_option linter.unusedVariables false
set_option linter.unusedSimpArgs false

def en (o : Option UInt8) : Value := .int .i64 (match o with | none => -1 | some c => (c.toNat : Int))
def ev (xs : Bs) : List Value := xs.map en
theorem ev_length (xs : Bs) : (ev xs).length = xs.length := by simp [ev]
theorem ev_one (xs : Bs) : ∀ u ∈ ev xs, u.oneCell' = true := by
  intro u hu
  unfold ev at hu
  obtain ⟨o, _, rfl⟩ := List.mem_map.1 hu
  rfl
theorem int_info : (Try.prog.info? 3).map (fun i => (i.zero, i.size, i.bytes)) = some (some (.int .i64 0), 1, 8) := by kernel_rfl
theorem db_info : (Try.prog.info? 31).map (·.size) = some 3 := by kernel_rfl
/-- The value's cells. -/
abbrev dbV (R N : Nat) (A : Option Addr) (c : Nat) : Array Value := #[.int .i64 (R : Int), .int .i64 (N : Int), .slice A R c]
theorem row_rg {w : World} {B : Nat} {A : Option Addr} {c : Nat} {xs : List Value} (h : Row w B 3 A c xs) : RowG w 1 A xs.length c xs := by
  obtain ⟨A', c', e, r, _⟩ := RowG.of_owns h.own
  cases e
  exact r
theorem rg_at {w : World} {R : Nat} {A : Option Addr} {c : Nat} {xs : Bs} (h : RowG w 1 A R c (ev xs)) {i : Nat} (hi : i < xs.length) : ∃ b o, A = some ⟨b, o, none⟩ ∧ b < w.heap.size ∧ w.cell? ⟨b, o + i, none⟩ = some (en xs[i]) := by
  obtain ⟨b, o, e, hb, hc⟩ := h.cell (j := i) (by rw [ev_length]; exact hi)
  exact ⟨b, o, e, hb, by rw [hc]; simp [ev]⟩

set_option maxRecDepth 100000 in
set_option maxHeartbeats 1000000 in
theorem refReady_any {w : World} {R N : Nat} {A : Option Addr} {c : Nat} {xs : Bs} (h : RowG w 1 A R c (ev xs)) (hx : xs.length = R) (hR : R ≤ 300) :
    Calls Try.prog 16 #[.agg (dbV R N A c)] w fun e w' => e = .returned (.int .i64 (rdy xs : Int)) ∧ Below w.heap.size w w' := by
  have B1 := Lib.hid ((Below.refl w.heap.size w).alloc (Nat.le_refl _) (.cells (dbV R N A c) 31))
  have K1 := Blk.new w 31 (dbV R N A c)
  have H := Lib.hid (h.new B1.out)
  have c2 := (K1.cell 2).trans (show _ = some (.slice A R c) from rfl)
  have hl := Lib.hid hx
  clear h hx K1
  go_enter Try.func16, Try.ntmps16
  go_upto_region 1 with fail
  generalize w.alloc (.cells (dbV R N A c) 31) = W at *
  go_wp2
  go_loop [3] (fun i => ∃ j : Nat, j ≤ R ∧ i = .int .i64 (j : Int) ∧ Hid (∀ k (hk : k < xs.length), k < j → xs[k].isSome = true)) (fun i => R - (intOf i).toNat)
  case atStart => exact ⟨0, Nat.zero_le _, rfl, Lib.hid (fun k hk h => by omega)⟩
  case round =>
    obtain ⟨j, hj, rfl, YES⟩ := hrel
    by_cases hlt : j < R
    · have hlt' : (j : Int) < (R : Int) := by omega
      have hjx : j < xs.length := by rw [hl.out]; exact hlt
      have xk := IntWalk.i64_in ((j : Int) + 1) (by omega)
      have j0 : (0 : Int) ≤ (j : Int) := by omega
      obtain ⟨b, o, hA, _, hc⟩ := rg_at H.out hjx
      cases hxj : xs[j] with
      | none =>
        have RD := Lib.hid (show rdy xs = j from rdy_eq xs j (by omega) YES.out (fun h => hxj))
        rw [hxj, show en none = .int .i64 (-1) from rfl] at hc
        clear hxj hjx
        subst hA
        go_wp2
        go_ret
        exact ⟨by rw [RD.out]; rfl, B1.out⟩
      | some cv =>
        have YE := Lib.hid (show ∀ k (hk : k < xs.length), k < j + 1 → xs[k].isSome = true from fun k hk h => by
          by_cases e : k = j
          · subst e; rw [hxj]; rfl
          · exact YES.out k hk (by omega))
        have hcv : ¬ (cv.toNat : Int) < 0 := by omega
        rw [hxj, show en (some cv) = .int .i64 (cv.toNat : Int) from rfl] at hc
        generalize (cv.toNat : Int) = cz at *
        clear hxj hjx
        subst hA
        go_wp2
        go_round
        case rel => exact ⟨j + 1, by omega, by go_num, YE⟩
        case measure => simp [intOf]; omega
    · have hlt' : ¬ (j : Int) < (R : Int) := by omega
      have RD := Lib.hid (show rdy xs = R from rdy_eq xs R (by rw [hl.out]; exact Nat.le_refl _) (fun k hk h => YES.out k hk (by omega)) (fun h => absurd h (by rw [hl.out]; omega)))
      go_wp2
      go_ret
      exact ⟨by rw [RD.out]; rfl, B1.out⟩

set_option maxRecDepth 100000 in
set_option maxHeartbeats 1000000 in
theorem refHeld_any {w : World} {R N : Nat} {A : Option Addr} {c : Nat} {xs : Bs} (h : RowG w 1 A R c (ev xs)) (hx : xs.length = R) (hR : R ≤ 300) :
    Calls Try.prog 19 #[.agg (dbV R N A c)] w fun e w' => e = .returned (.int .i64 (held xs : Int)) ∧ Below w.heap.size w w' := by
  have B1 := Lib.hid ((Below.refl w.heap.size w).alloc (Nat.le_refl _) (.cells (dbV R N A c) 31))
  have K1 := Blk.new w 31 (dbV R N A c)
  have H := Lib.hid (h.new B1.out)
  have c2 := (K1.cell 2).trans (show _ = some (.slice A R c) from rfl)
  have hl := Lib.hid hx
  clear h hx K1
  go_enter Try.func19, Try.ntmps19
  go_upto_region 1 with fail
  generalize w.alloc (.cells (dbV R N A c) 31) = W at *
  go_wp2
  go_loop [3, 4] (fun n i => ∃ j : Nat, j ≤ R ∧ i = .int .i64 (j : Int) ∧ n = .int .i64 (held (xs.take j) : Int)) (fun _ i => R - (intOf i).toNat)
  case atStart => exact ⟨0, Nat.zero_le _, rfl, by simp [held]⟩
  case round =>
    obtain ⟨j, hj, rfl, rfl⟩ := hrel
    by_cases hlt : j < R
    · have hlt' : (j : Int) < (R : Int) := by omega
      have hjx : j < xs.length := by rw [hl.out]; exact hlt
      have xk := IntWalk.i64_in ((j : Int) + 1) (by omega)
      have j0 : (0 : Int) ≤ (j : Int) := by omega
      obtain ⟨b, o, hA, _, hc⟩ := rg_at H.out hjx
      have HT := heldTake xs j hjx
      obtain ⟨n, hn⟩ : ∃ n, held (xs.take j) = n := ⟨_, rfl⟩
      have hnb : n ≤ 300 := by have := held_le (xs.take j); rw [List.length_take] at this; omega
      have xn := IntWalk.i64_in ((n : Int) + 1) (by omega)
      rw [hn] at HT ⊢
      cases hxj : xs[j] with
      | none =>
        have HT' := Lib.hid (show held (xs.take (j + 1)) = n from by rw [HT, hxj]; rfl)
        rw [hxj, show en none = .int .i64 (-1) from rfl] at hc
        clear HT hxj hjx hn
        subst hA
        go_wp2
        go_round
        case rel => exact ⟨j + 1, by omega, by go_num, by rw [HT'.out]⟩
        case measure => simp [intOf]; omega
      | some cv =>
        have HT' := Lib.hid (show held (xs.take (j + 1)) = n + 1 from by rw [HT, hxj]; rfl)
        have hcv : (0 : Int) ≤ (cv.toNat : Int) := by omega
        rw [hxj, show en (some cv) = .int .i64 (cv.toNat : Int) from rfl] at hc
        generalize (cv.toNat : Int) = cz at *
        clear HT hxj hjx hn
        subst hA
        go_wp2
        go_round
        case rel => exact ⟨j + 1, by omega, by go_num, by rw [HT'.out]; go_num⟩
        case measure => simp [intOf]; omega
    · have hlt' : ¬ (j : Int) < (R : Int) := by omega
      have E2 := Lib.hid (show held (xs.take j) = held xs from by rw [List.take_of_length_le (by rw [hl.out]; omega)])
      rw [E2.out]
      go_wp2
      go_ret
      exact ⟨rfl, B1.out⟩
end Go.Proofs.Ytikfoodlcmffdaa.Ra
