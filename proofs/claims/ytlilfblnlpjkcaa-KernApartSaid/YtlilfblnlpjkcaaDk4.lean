/- Package disk: Read. Conditions: those that each states. -/
import Derived.Test.YtlilfblnlpjkcaaDk3
namespace Go.Proofs.Ytlilfblnlpjkcaa.Di
open Go.ChangeShapes Go.WideShapes Go.ChangeAt Go.RowKit Go.Deep
set_option linter.unusedVariables false

/-- What a read that goes well answers. -/
def Told (w : World) (t : List UInt8) (e : Ending) (w' : World) : Prop := ∃ A c, e = .returned (.tuple #[.slice A t.length c, .int .i64 0]) ∧ Src w' A t.length c t ∧ Below w.heap.size w w'
theorem page_under : Try.prog.underlying 125 = some (.array (Try.prog.arrayLen 125) (Try.prog.elem 125)) := by kernel_rfl
theorem page_len : Try.prog.arrayLen 125 = 256 := by kernel_rfl
theorem page_elem : Try.prog.elem 125 = 5 := by kernel_rfl
theorem size_u8 (W : World) : (sizeOf 5).run Try.prog W = .ok 1 W := by
  obtain ⟨i, hi, hs⟩ := Option.map_eq_some_iff.1 u8_size
  simp [sizeOf, typeInfo, hi, hs]
/-- 'text[:]'. -/
theorem run_cut (b o : Nat) (W : World) : (Instr.sliceAt 125 (.pointer (some ⟨b, o, none⟩)) none none none).run Try.prog W = .ok (.slice (some ⟨b, o, none⟩) 256 256) W := by
  rw [run_sliceAt_array_all W 125 ⟨b, o, none⟩ page_under, page_elem, size_u8, page_len]
  simp only [Result.andThen_ok, slicedAt]
  rw [if_neg (by decide)]
  have ea : (⟨b, o, none⟩ : Addr).add (0 * 1) = ⟨b, o, none⟩ := by unfold Addr.add; split <;> simp_all
  rw [ea]

section
variable {gb g cl ce : Nat} {Al Ae : Option Addr} {d : Dk} {w : World} {F : Nat → Prop}
theorem src_of_range {b o : Nat} {l : List UInt8} (hb : b < w.heap.size) (hl : l.length = 256) (h : w.rangeAt b o (bys l)) : Src w (some ⟨b, o, none⟩) 256 256 l :=
  ⟨⟨fun hp => ⟨b, o, rfl, hb, fun j hj => h j _ (List.getElem?_eq_getElem hj)⟩, hl, Nat.le_refl _, by omega⟩, fun e => by cases e⟩
theorem block_src (h : DskAt w gb g Al cl Ae ce d) {b : Nat} (hb : b < d.blocks.length) : Src w (some ⟨gb, b * 256, none⟩) 256 256 d.blocks[b] :=
  src_of_range h.tab.lt (h.ok.bl _ (List.getElem_mem hb)) (h.block hb)
theorem wr_parts (h : DskAt w gb g Al cl Ae ce d) {i : Nat} (hi : i < d.line.length) : ∃ l, Al = some ⟨l, 0, none⟩ ∧ l < w.heap.size ∧ w.cell? ⟨l, i * 257, none⟩ = some (.int .i64 (d.line[i].block : Int)) ∧ w.rangeAt l (i * 257 + 1) (bys d.line[i].text) ∧ Src w (some ⟨l, i * 257 + 1, none⟩) 256 256 d.line[i].text := by
  obtain ⟨l, rfl, hl, _, _, hr⟩ := h.wr hi
  have hr2 : w.rangeAt l (i * 257 + 1) (bys d.line[i].text) := by
    intro j v hj
    have := hr (j + 1) v (by rw [← hj]; rfl)
    rw [← Nat.add_assoc] at this
    rw [show i * 257 + 1 + j = i * 257 + j + 1 by omega]
    exact this
  refine ⟨l, rfl, hl, ?_, hr2, src_of_range hl (h.ok.li _ (List.getElem_mem hi)).2 hr2⟩
  have := hr 0 _ rfl
  rwa [Nat.add_zero] at this

set_option maxRecDepth 100000 in
set_option maxHeartbeats 2000000 in
theorem read_no (h : DskAt w gb g Al cl Ae ce d) (env block : Int) (he : askE d env block ≠ 0) :
    Calls Try.prog 30 #[.pointer (some ⟨g, 0, none⟩), .int .i64 env, .int .i64 block] w fun e w' => e = .returned (.tuple #[.slice none 0 0, .int .i64 (askE d env block)]) ∧ Below w.heap.size w w' := by
  have AS := Lib.hid (asked_any h env block)
  have hv : (askE d env block == 0) = false := by simpa using he
  generalize askE d env block = v at *
  clear h he
  go_enter Try.func30, Try.ntmps30
  go_wp2_with fail
  refine AS.out.mono ?_; rintro e w1 ⟨rfl, b1⟩
  have B1 := Lib.hid b1
  clear b1
  go_wp2
  go_ret2
  exact ⟨rfl, B1.out⟩
set_option maxRecDepth 100000 in
set_option maxHeartbeats 2000000 in
theorem read_yes (h : DskAt w gb g Al cl Ae ce d) (env : Int) (b : Nat) (hb : b < d.blocks.length) (he : askE d env b = 0) (t : List UInt8) (ht : t = see d b) :
    Calls Try.prog 30 #[.pointer (some ⟨g, 0, none⟩), .int .i64 env, .int .i64 (b : Int)] w (Told w t) := by
  have AS := Lib.hid (asked_any h env b)
  rw [he] at AS
  have H := Lib.hid h
  have T := Lib.hid ht
  have n2 := h.ok.n2
  have hL : d.line.length ≤ 9223372036854775807 := by have := h.line.capMax; unfold maxLen at this; omega
  have hgl := h.head.lt
  have b0 : (0 : Int) ≤ (b : Int) := by omega
  have b3 : (b : Int) < (d.blocks.length : Int) := by omega
  clear h he ht
  go_enter Try.func30, Try.ntmps30
  go_wp2_with fail
  refine AS.out.mono ?_; rintro e w1 ⟨rfl, b1⟩
  have D1 := Lib.hid (H.out.new b1)
  have B1 := Lib.hid b1
  have hw1 : w.heap.size ≤ w1.heap.size := b1.size
  obtain ⟨c0, c1, _, _, _⟩ := heads D1.out
  have xL := IntWalk.i64_in ((d.line.length : Int) - 1) (by omega)
  clear b1 AS
  go_wp2
  go_loopw [9] (fun i wr => ∃ (j : Nat), j ≤ d.line.length ∧ i = .int .i64 ((j : Int) - 1) ∧ Hid (∀ k (hk : k < d.line.length), j ≤ k → d.line[k].block ≠ b) ∧ wr = w1) (fun i _ => (intOf i + 1).toNat)
  case atStart => exact ⟨d.line.length, Nat.le_refl _, rfl, Lib.hid (fun k hk h => absurd h (by omega)), rfl⟩
  case round =>
    obtain ⟨j, hj, hi, NO, rfl⟩ := hrel
    cases j with
    | zero =>
      have hi' := hi.trans (show (Value.int .i64 (((0 : Nat) : Int) - 1)) = .int .i64 (-1) from rfl)
      clear hi
      subst hi'
      have CL := Lib.hid (clone_some _ _ _ _ wr (block_src D1.out hb) (by omega))
      have hcut := run_cut gb (b * 256)
      have HS := Lib.hid (show t = d.blocks[b] from T.out.trans (by
        unfold see
        rw [seen_none (fun q hq => by
          obtain ⟨k, hk, rfl⟩ := List.mem_iff_getElem.1 hq
          exact NO.out k hk (Nat.zero_le _))]
        simp [hb]))
      have HL := Lib.hid (D1.out.ok.bl _ (List.getElem_mem hb))
      clear NO
      generalize d.blocks[b] = tb at *
      go_wp2_with fail
      refine CL.out.mono ?_; rintro e w2 ⟨A', c', rfl, s2, b2⟩
      have S2 := Lib.hid s2
      have B2 := Lib.hid (B1.out.trans (b2.mono hw1))
      clear s2 b2
      go_wp2
      go_ret2
      refine ⟨A', c', ?_, ?_, B2.out⟩
      · rw [HS.out, HL.out]; rfl
      · rw [HS.out, HL.out]; exact S2.out
    | succ k =>
      have hi' := hi.trans (show (Value.int .i64 (((k + 1 : Nat) : Int) - 1)) = .int .i64 (k : Int) by congr 1; omega)
      clear hi
      subst hi'
      have hk : k < d.line.length := by omega
      have k0 : (k : Int) ≥ 0 := by omega
      have k0' : (0 : Int) ≤ (k : Int) := by omega
      have k1 : (k : Int) < (d.line.length : Int) := by omega
      have xk := IntWalk.i64_in ((k : Int) - 1) (by omega)
      obtain ⟨l, rfl, hl, cb, hr, hsrc⟩ := wr_parts D1.out hk
      by_cases hh : d.line[k].block = b
      · have CL := Lib.hid (clone_some _ _ _ _ wr hsrc (by omega))
        have hcut := run_cut l (k * 257 + 1)
        have HS := Lib.hid (show t = d.line[k].text from T.out.trans (by
          unfold see
          exact seen_last hk hh (fun j hj hlt => NO.out j hj (by omega)) _))
        have HL := Lib.hid (D1.out.ok.li _ (List.getElem_mem hk)).2
        rw [hh] at cb
        clear NO hr hsrc hh
        generalize d.line[k].text = tb at *
        go_wp2_with fail
        refine CL.out.mono ?_; rintro e w2 ⟨A', c', rfl, s2, b2⟩
        have S2 := Lib.hid s2
        have B2 := Lib.hid (B1.out.trans (b2.mono hw1))
        clear s2 b2
        go_wp2
        go_ret2
        refine ⟨A', c', ?_, ?_, B2.out⟩
        · rw [HS.out, HL.out]; rfl
        · rw [HS.out, HL.out]; exact S2.out
      · have NO2 : Hid (∀ k' (hk : k' < d.line.length), k ≤ k' → d.line[k'].block ≠ b) := Lib.hid (fun k' hk h => by
          by_cases e : k' = k
          · subst e; exact hh
          · exact NO.out k' hk (by omega))
        have hh' : ((d.line[k].block : Int) == (b : Int)) = false := beq_eq_false_iff_ne.2 (by omega)
        clear NO hr hsrc hh
        generalize (d.line[k].block : Int) = q at *
        go_wp2
        go_roundw
        case rel => exact ⟨k, by omega, rfl, NO2, by first | rfl | trivial⟩
        case measure => simp [intOf]
theorem see_len (h : d.Ok) {b : Nat} (hb : b < d.blocks.length) : (see d b).length = 256 := by
  have h1 := put_get d.blocks d.line b hb
  have h2 := put_mem (p := fun t => t.length = 256) h.bl (fun q hq => (h.li q hq).2)
  unfold see
  rw [← h1]
  have hb' : b < (put d.blocks d.line).length := by rw [put_len]; exact hb
  simp only [List.getD_eq_getElem?_getD, List.getElem?_eq_getElem hb', Option.getD_some]
  exact h2 _ (List.getElem_mem _)
theorem read_any (h : DA w F g d) (env block : Int) :
    Calls Try.prog 30 #[.pointer (some ⟨g, 0, none⟩), .int .i64 env, .int .i64 block] w fun e w' => ∃ A c, e = .returned (.tuple #[.slice A (readR d env block).1.length c, .int .i64 (readR d env block).2]) ∧ Src w' A (readR d env block).1.length c (readR d env block).1 ∧ Below w.heap.size w w' := by
  obtain ⟨gb, Al, cl, Ae, ce, D, hF⟩ := h
  unfold readR
  by_cases he : askE d env block = 0
  · rw [if_pos he]
    obtain ⟨_, b, rfl, hb, _⟩ := askE_zero he
    exact (read_yes D env b hb he _ rfl).mono fun e w' h => h
  · rw [if_neg he]
    refine (read_no D env block he).mono ?_
    rintro e w' ⟨rfl, b⟩
    exact ⟨none, 0, rfl, Src.nil _, b⟩
end
end Go.Proofs.Ytlilfblnlpjkcaa.Di
