/- Package path's Of, Target, Kind; the chapter's examples. Conditions: those that each states. -/
import Derived.Test.YtjhbllbiajmkgaaDoorPa3
import Derived.ScopeJumps
namespace Go.Proofs.YtjhbllbiajmkgaaDoor.Pt
open Go.ChangeShapes Go.WideShapes Go.ChangeAt Go.RowKit Go.Deep
set_option linter.unusedVariables false
/-- A frame of 58 slots. -/
def Fr58 (u : Nat → Value) : Array Value := #[u 0, u 1, u 2, u 3, u 4, u 5, u 6, u 7, u 8, u 9, u 10, u 11, u 12, u 13, u 14, u 15, u 16, u 17, u 18, u 19, u 20, u 21, u 22, u 23, u 24, u 25, u 26, u 27, u 28, u 29, u 30, u 31, u 32, u 33, u 34, u 35, u 36, u 37, u 38, u 39, u 40, u 41, u 42, u 43, u 44, u 45, u 46, u 47, u 48, u 49, u 50, u 51, u 52, u 53, u 54, u 55, u 56, u 57]
theorem fr58 (a : Act) (hd : a.defers = []) (hz : a.tmps.size = 58) : a = { tmps := Fr58 (fun k => a.tmps.getD k undef), defers := [] } := by
  obtain ⟨⟨l⟩, d⟩ := a
  subst hd
  have hz' : l.length = 58 := hz
  have e : l = (List.range 58).map (fun k => l.getD k undef) := by
    apply List.ext_getElem
    · simp [hz']
    · intro k h1 h2
      simp [List.getD_eq_getElem?_getD, List.getElem?_eq_getElem h1]
  have e2 : (Fr58 (fun k => (List.toArray l).getD k undef)).toList = (List.range 58).map (fun k => l.getD k undef) := by
    have e3 : (fun k => (List.toArray l).getD k undef) = fun k => l.getD k undef := by funext k; rw [Array.getD_eq_getD_getElem?, List.getD_eq_getElem?_getD, List.getElem?_toArray]
    rw [e3]
    rfl
  have e4 : (⟨l⟩ : Array Value) = Fr58 (fun k => (List.toArray l).getD k undef) := by
    apply Array.ext'
    rw [e2]
    exact e
  exact congrArg (fun t => ({ tmps := t, defers := [] } : Act)) e4
/-- As Q; by a goto to a label l: J l. -/
def Jumps (J : Nat → Act → World → Prop) (Q : Exit → Act → World → Prop) : Exit → Act → World → Prop
  | .goto l, a, w => J l a w
  | e, a, w => Q e a w
theorem Jumps_ret {J : Nat → Act → World → Prop} {Q : Exit → Act → World → Prop} (a : Act) (w : World) : Jumps J Q .ret a w = Q .ret a w := rfl
/-- A scope with several labels: what holds at each jump, and a measure that every pass from a label lowers. -/
theorem scope_labels {P : Program} {a : Act} {w : World} {Q : Exit → Act → World → Prop} {c : Code} (J : Nat → Act → World → Prop) (μ : Nat → Act → World → Nat)
    (pass0 : ∀ l a w, J l a w → ∃ b, findLabel c l = some (.seq .skip b) ∧ b.wp P (Jumps (fun l' a' w' => J l' a' w' ∧ μ l' a' w' < μ l a w) Q) a w)
    (first0 : (∀ l a w, J l a w → ∃ b, findLabel c l = some (.seq .skip b) ∧ b.wp P (Jumps J Q) a w) → c.wp P (Jumps J Q) a w) : (Code.scope c).wp P Q a w := by
  have pass : ∀ l a w, J l a w → ∃ rest, findLabel c l = some rest ∧ rest.wp P (Jumps (fun l' a' w' => J l' a' w' ∧ μ l' a' w' < μ l a w) Q) a w := fun l a w h => by
    obtain ⟨b, h1, h2⟩ := pass0 l a w h
    exact ⟨_, h1, wp_seq (wp_skip h2)⟩
  have first : c.wp P (Jumps J Q) a w := first0 fun l a w h => by
    obtain ⟨b, h1, h2⟩ := pass0 l a w h
    refine ⟨b, h1, Code.wp_mono (fun e a w h => ?_) h2⟩
    cases e with
    | goto l' => exact h.1
    | _ => exact h
  intro b k cs
  have hg : ∀ l rest, findLabel c l = some rest → gotoIn l (.inScope c :: k) = some (.code rest :: .inScope c :: k) := fun l rest h => by simp [gotoIn, h]
  have key : ∀ m l a w, μ l a w = m → J l a w → ∀ rest, findLabel c l = some rest → ∃ e a' w', Q e a' w' ∧ Arrives P (lone (b.at a (.code rest :: .inScope c :: k)) cs w) b k cs e a' w' := by
    intro m
    induction m using Nat.strongRecOn with
    | _ m ih =>
      intro l a w hm hJ rest hf
      obtain ⟨rest', hf', hp⟩ := pass l a w hJ
      rw [hf] at hf'
      injection hf' with hf'
      subst hf'
      obtain ⟨e, a₁, w₁, hq, harr⟩ := hp b (.inScope c :: k) cs
      cases e with
      | goto l' =>
        obtain ⟨r2, hf2, _⟩ := pass l' a₁ w₁ hq.1
        obtain ⟨e₂, a₂, w₂, hq₂, harr₂⟩ := ih _ (by have := hq.2; omega) l' a₁ w₁ rfl hq.1 r2 hf2
        exact ⟨e₂, a₂, w₂, hq₂, .of_steps (harr _ (hg l' r2 hf2)) harr₂⟩
      | normal => exact ⟨.normal, a₁, w₁, hq, Steps.trans harr (.one step_inScope)⟩
      | exit id => exact ⟨.exit id, a₁, w₁, hq, fun k' hk => harr k' (by simp [exitTo, hk])⟩
      | ret => exact ⟨_, a₁, w₁, hq, harr⟩
      | panic ch => exact ⟨_, a₁, w₁, hq, harr⟩
      | outgrown => exact ⟨_, a₁, w₁, hq, harr⟩
  obtain ⟨e, a₁, w₁, hq, harr⟩ := first b (.inScope c :: k) cs
  cases e with
  | goto l' =>
    obtain ⟨r2, hf2, _⟩ := pass l' a₁ w₁ hq
    obtain ⟨e₂, a₂, w₂, hq₂, harr₂⟩ := key _ l' a₁ w₁ rfl hq r2 hf2
    exact ⟨e₂, a₂, w₂, hq₂, .of_steps (.head step_scope (harr _ (hg l' r2 hf2))) harr₂⟩
  | normal => exact ⟨.normal, a₁, w₁, hq, .head step_scope (Steps.trans harr (.one step_inScope))⟩
  | exit id => exact ⟨.exit id, a₁, w₁, hq, fun k' hk => .head step_scope (harr k' (by simp [exitTo, hk]))⟩
  | ret => exact ⟨_, a₁, w₁, hq, .of_steps (.one step_scope) harr⟩
  | panic ch => exact ⟨_, a₁, w₁, hq, .of_steps (.one step_scope) harr⟩
  | outgrown => exact ⟨_, a₁, w₁, hq, .of_steps (.one step_scope) harr⟩
/-! strings.Cut at a question mark, strings.CutPrefix at a stroke. -/
theorem asked_at {x y : List UInt8} (h : (63 : UInt8) ∉ x) : asked (x ++ 63 :: y) = x := by
  unfold asked
  rw [List.takeWhile_append_of_pos (fun c hc => by simp only [bne_iff_ne]; rintro rfl; exact h hc), List.takeWhile_cons_of_neg (by decide), List.append_nil]
theorem asked_none {x : List UInt8} (h : (63 : UInt8) ∉ x) : asked x = x := by
  have := List.takeWhile_append_of_pos (p := (· != 63)) (l₁ := x) (l₂ := []) (fun c hc => by simp only [bne_iff_ne]; rintro rfl; exact h hc)
  rw [List.append_nil] at this
  unfold asked
  rw [this]; simp
theorem icut_any (l : List UInt8) (hl : l.length ≤ 1000) (w : World) : Calls Tryd.prog 27 #[.string ⟨l.toArray⟩, .string ⟨#[63]⟩] w fun e w' => (∃ b v, e = .returned (.tuple #[.string ⟨(asked l).toArray⟩, b, v])) ∧ Below w.heap.size w w' := by
  have hsz : (⟨l.toArray⟩ : ByteArray).size = l.length := rfl
  have IX := Tryd.stringslite_Index_one ⟨l.toArray⟩ 63 w
  by_cases hm : (63 : UInt8) ∈ l
  · obtain ⟨x, y, rfl, hx⟩ := cut_mem hm
    have hix : Lib.indexByte (⟨(x ++ 63 :: y).toArray⟩ : ByteArray).data.toList 63 = x.length := idx_at hx
    rw [hix] at IX
    rw [asked_at hx]
    have hyl : (x ++ 63 :: y).length = x.length + 1 + y.length := by simp; omega
    have hex : (⟨(x ++ 63 :: y).toArray⟩ : ByteArray).extract 0 x.length = ⟨x.toArray⟩ := by rw [cut_str]; simp
    have HEX := Lib.hid hex
    have IH := Lib.hid IX
    clear hm hix hx hex IX
    go_enter Tryd.func27, Tryd.ntmps27
    go_wp2_with fail
    refine IH.out.mono ?_; rintro e w' ⟨rfl, rfl⟩
    go_upto_region 3 with fail
    go_region
    go_wp2
    go_ret3
    rw [← HEX.out]
    exact ⟨⟨_, _, rfl⟩, ⟨rfl, rfl, rfl, Nat.le_refl _, fun _ _ => rfl⟩⟩
  · have hix : Lib.indexByte (⟨l.toArray⟩ : ByteArray).data.toList 63 = -1 := idx_none hm
    rw [hix] at IX
    rw [asked_none hm]
    have IH := Lib.hid IX
    clear hm hix IX
    go_enter Tryd.func27, Tryd.ntmps27
    go_wp2_with fail
    refine IH.out.mono ?_; rintro e w' ⟨rfl, rfl⟩
    go_wp2
    go_ret3
    exact ⟨⟨_, _, rfl⟩, Below.refl _ _⟩
theorem cut_any (l : List UInt8) (hl : l.length ≤ 1000) (w : World) : Calls Tryd.prog 20 #[.string ⟨l.toArray⟩, .string ⟨#[63]⟩] w fun e w' => (∃ b v, e = .returned (.tuple #[.string ⟨(asked l).toArray⟩, b, v])) ∧ Below w.heap.size w w' := by
  have IH := Lib.hid (icut_any l hl w)
  go_enter Tryd.func20, Tryd.ntmps20
  go_wp2_with fail
  refine IH.out.mono ?_; rintro e w' ⟨⟨b, v, rfl⟩, h⟩
  go_wp2
  go_ret3
  exact ⟨⟨_, _, rfl⟩, h⟩
theorem prefix_yes (r : List UInt8) (w : World) : Calls Tryd.prog 21 #[.string ⟨(47 :: r).toArray⟩, .string ⟨#[47]⟩] w fun e w' => e = .returned (.tuple #[.string ⟨r.toArray⟩, .bool true]) ∧ w' = w := by
  refine (Tryd.strings_CutPrefix ⟨(47 :: r).toArray⟩ ⟨#[47]⟩ w).mono fun e w' h => ?_
  obtain ⟨rfl, rfl⟩ := h
  refine ⟨?_, rfl⟩
  have h1 : Lib.hasPrefix (47 :: r) [47] = true := by unfold Lib.hasPrefix; simp
  have h2 : Lib.trimPrefix (47 :: r) [47] = r := by unfold Lib.trimPrefix; rw [if_pos h1]; rfl
  show Ending.returned (.tuple #[.string ⟨(Lib.trimPrefix (47 :: r) [47]).toArray⟩, .bool (Lib.hasPrefix (47 :: r) [47])]) = _
  rw [h1, h2]
theorem prefix_no (l : List UInt8) (h : ∀ r, l ≠ 47 :: r) (w : World) : Calls Tryd.prog 21 #[.string ⟨l.toArray⟩, .string ⟨#[47]⟩] w fun e w' => (∃ s, e = .returned (.tuple #[.string s, .bool false])) ∧ w' = w := by
  refine (Tryd.strings_CutPrefix ⟨l.toArray⟩ ⟨#[47]⟩ w).mono fun e w' hh => ?_
  obtain ⟨rfl, rfl⟩ := hh
  have h1 : Lib.hasPrefix l [47] = false := by
    unfold Lib.hasPrefix
    cases l with
    | nil => rfl
    | cons c t =>
      have hc : c ≠ 47 := fun e => h t (by rw [e])
      have : ((47 : UInt8) == c) = false := by simpa using fun e => hc e.symm
      simp [List.isPrefixOf, this]
  refine ⟨⟨⟨(Lib.trimPrefix l [47]).toArray⟩, ?_⟩, rfl⟩
  show Ending.returned (.tuple #[.string ⟨(Lib.trimPrefix l [47]).toArray⟩, .bool (Lib.hasPrefix l [47])]) = _
  rw [h1]
end Go.Proofs.YtjhbllbiajmkgaaDoor.Pt
