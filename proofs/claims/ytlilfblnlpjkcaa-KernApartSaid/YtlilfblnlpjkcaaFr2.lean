/- Package frame: cuts of a frame's bytes, copies into them, bytes.Clone, texts as bytes and back; the frame that a call names. Conditions: those that each states. -/
import Derived.Test.YtlilfblnlpjkcaaFr1
import Derived.Lib.Bytes
import Derived.Lib.SliceRun
import Derived.Laws.IdiomStrings
import Derived.Lib.ConvBytes
namespace Go.Proofs.Ytlilfblnlpjkcaa.Fr
open Go.ChangeShapes Go.WideShapes Go.ChangeAt Go.RowKit Go.Deep
set_option linter.unusedVariables false

/-- 'copy(d, s)': the row behind it, whatever lies where, an empty source too. -/
theorem wpList_copy_row {P : Program} {w : World} {ops : Array Oper} {rest : List Oper} {o : Oper} {a : Act} {Q : Exit → Act → World → Prop} (hgd : o.guard = none) (d s : Operand) (dT sT : TypeId)
    (ho : o.op = .call { callee := .builtin .copy, args := #[d, s], argTypes := #[dT, sT] }) (elem : TypeId) (hu : P.underlying dT = some (.slice elem)) (hsz : (P.info? elem).map (·.size) = some 1)
    (dp sp : Option Addr) (dLen dCap sLen sCap : Nat) (hd : a.eval d = .slice dp dLen dCap) (hs : a.eval s = .slice sp sLen sCap)
    (g off : Nat) (cur : Array Value) (t : TypeId) (hg : Blk w g t cur) (cs : List Value) (hn : cs.length = Nat.min sLen dLen)
    (hpos : 0 < cs.length → dp = some ⟨g, off, none⟩ ∧ ∃ ad, sp = some ad ∧ ∀ j v, cs[j]? = some v → w.cell? (ad.add j) = some v)
    (hfit : off + cs.length ≤ cur.size) (h1 : ∀ v ∈ cs, v.oneCell' = true)
    (h : wpList P ops Q rest (a.put o.dst (goInt cs.length)) (w.setRow g (cur.toList.take off ++ cs ++ cur.toList.drop (off + cs.length)).toArray)) :
    wpList P ops Q (o :: rest) a w := by
  by_cases h0 : cs.length = 0
  · obtain rfl : cs = [] := List.eq_nil_of_length_eq_zero h0
    refine wpList_copy_nothing hgd d s dT sT ho elem hu hsz dp sp dLen dCap sLen sCap hd hs (by simpa using hn.symm) ?_
    have e : w.setRow g (cur.toList.take off ++ [] ++ cur.toList.drop (off + ([] : List Value).length)).toArray = w := by
      simp only [List.append_nil, List.length_nil, Nat.add_zero, List.take_append_drop, Array.toArray_toList]
      exact setRow_self w g cur t (0, 0) hg
    rw [e] at h
    exact h
  · obtain ⟨rfl, ad, rfl, hsrc⟩ := hpos (by omega)
    refine wpList_copy_own hgd d s dT sT ho elem hu hsz g off dLen dCap ad sLen sCap hd hs cur t hg cs hn hsrc hfit h1 ?_
    rw [← List.append_assoc]
    exact h

theorem u8_size : (Try.prog.info? 5).map (·.size) = some 1 := by kernel_rfl
theorem page_size : (Try.prog.info? 106).map (·.size) = some 258 := by kernel_rfl

/-- Where '&text[off]' lies. -/
def cutAt (a : Addr) (off : Nat) : Addr := if 256 = off then a else a.add (off * 1)
theorem arr_under : Try.prog.underlying 104 = some (.array (Try.prog.arrayLen 104) (Try.prog.elem 104)) := by kernel_rfl
theorem arr_len : Try.prog.arrayLen 104 = 256 := by kernel_rfl
theorem arr_elem : Try.prog.elem 104 = 5 := by kernel_rfl
theorem size_u8 (W : World) : (sizeOf 5).run Try.prog W = .ok 1 W := by
  obtain ⟨i, hi, hs⟩ := Option.map_eq_some_iff.1 u8_size
  simp [sizeOf, typeInfo, hi, hs]
theorem run_cut2 (a : Addr) (off n : Nat) (h : off + n ≤ 256) (W : World) :
    (Instr.sliceAt 104 (.pointer (some a)) (some (.int .i64 (off : Int))) (some (.int .i64 ((off : Int) + (n : Int)))) none).run Try.prog W = .ok (.slice (some (cutAt a off)) n (256 - off)) W := by
  rw [run_sliceAt_array_lh W 104 a arr_under .i64 .i64 (off : Int) ((off : Int) + (n : Int)) (by omega) (by omega) (by rw [arr_len]; omega), arr_elem, size_u8, arr_len]
  have e : ((off : Int) + (n : Int)).toNat - off = n := by omega
  simp only [Result.andThen_ok, slicedAt, cutAt, Int.toNat_natCast, e]
theorem run_cut1 (a : Addr) (off : Nat) (h : off ≤ 256) (W : World) :
    (Instr.sliceAt 104 (.pointer (some a)) (some (.int .i64 (off : Int))) none none).run Try.prog W = .ok (.slice (some (cutAt a off)) (256 - off) (256 - off)) W := by
  rw [run_sliceAt_array_l W 104 a arr_under .i64 (off : Int) (by omega) (by rw [arr_len]; omega), arr_elem, size_u8, arr_len]
  simp only [Result.andThen_ok, slicedAt, cutAt, Int.toNat_natCast]
theorem cutAt_lt {b o off : Nat} (h : off < 256) : cutAt ⟨b, o, none⟩ off = ⟨b, o + off, none⟩ := by
  unfold cutAt
  rw [if_neg (by omega), Nat.mul_one]
  unfold Addr.add; split <;> simp_all
theorem cut_src {w : World} {gs g : Nat} {ps : List Pg} (h : Tab w gs g ps) {f : Nat} (hf : f < ps.length) {off n : Nat} (hn : off + n ≤ 256) :
    Src w (some (cutAt ⟨gs, f * 258 + 2, none⟩ off)) n (256 - off) ((ps[f].text.drop off).take n) := by
  by_cases ho : off < 256
  · rw [cutAt_lt ho]
    exact h.bytes hf hn (by omega) (by omega)
  · have hn0 : n = 0 := by omega
    subst hn0
    exact ⟨⟨by simpa [bys] using lies_nil w _, by simp, by omega, by omega⟩, fun e => by cases e⟩

/-- bytes.Clone of what is not nil. -/
theorem clone_some (A : Addr) (n c : Nat) (l : List UInt8) (w : World) (hb : Src w (some A) n c l) (hn : n ≤ 1099511627776) :
    Calls Try.prog 45 #[.slice (some A) n c] w fun e w' => ∃ A' c', e = .returned (.slice A' n c') ∧ Src w' A' n c' l ∧ Below w.heap.size w w' := by
  have he : ∀ W, (binOp .eql 29 (.slice (some A) n c) (.slice none 0 0)).run Try.prog W = .ok (.bool (some A).isNone) W := fun W => Lib.run_eql_slice_nil W 29 5 (some A) n c 0 0 Try.underlying29
  have he := fun W => (he W).trans (congrArg (fun b => Result.ok (Value.bool b) W) (show (some A).isNone = false from rfl))
  have hown := World.ownsRow_lit (base := w.heap.size) (e := 5) (size := 1) w #[] 0 (Nat.le_refl _) (by decide) rfl
  have HB := Lib.hid hb
  clear hb
  go_enter Try.func45, Try.ntmps45
  go_wp2_with (at_builtin; refine Hid.out ?_)
  unfold Hid
  refine wpList_append_src rfl _ _ rfl w.heap.size _ 0 [] rfl hown (some A) n c l rfl (HB.out.alloc _) (by omega) (by simp) ?_
  intro v' w' h1 h2
  rw [Nat.zero_add] at h1
  have b2 := (Below.refl w.heap.size w).alloc (Nat.le_refl _) (.cells #[] 5) |>.trans h2
  obtain ⟨A', c', rfl, hs, hbs⟩ := src_of_own h1
  clear h1 h2 hown he
  go_wp2
  go_ret
  exact ⟨A', c', rfl, hs, b2⟩

/-- '[]byte(s)'. -/
theorem conv_src (s : ByteArray) (hs : s.size ≤ 1000000) (w : World) : ∃ A c W', (convert 9 29 (.string s)).run Try.prog w = .ok (.slice A s.size c) W' ∧ Src W' A s.size c s.data.toList ∧ Below w.heap.size w W' := by
  refine ⟨_, _, _, run_bytes_of_string w 9 29 5 s Try.underlying9 Try.underlying29 Try.underlying5, ⟨⟨fun hp => ⟨w.heap.size, 0, rfl, (Array.getElem?_eq_some_iff.1 (heap_alloc_new w.drew _)).1, fun j hj => ?_⟩, Array.length_toList, grownCap_ge w _ _ _, ?_⟩, fun e => by cases e⟩, ?_⟩
  · have hj' : j < s.data.size := by simpa [bys] using hj
    have hh : (w.drew.alloc (.cells (bytesRow s (grownCap w s.size 0 5)) 5 ((bytesRow s (grownCap w s.size 0 5)).size, (bytesRow s (grownCap w s.size 0 5)).size + 1))).heap[w.heap.size]? = some (.cells (bytesRow s (grownCap w s.size 0 5)) 5 ((bytesRow s (grownCap w s.size 0 5)).size, (bytesRow s (grownCap w s.size 0 5)).size + 1)) := heap_alloc_new w.drew _
    rw [Nat.zero_add, cell_of_row _ _ _ _ _ _ hh, bytesRow_at s _ j hj']
    simp [bys]
  · have := grownCap_le_maxLen w s.size 0 5 (by unfold maxLen; omega)
    simpa [maxLen] using this
  · exact (⟨rfl, rfl, rfl, Nat.le_refl _, fun _ _ => rfl⟩ : Below w.heap.size w w.drew).alloc (Nat.le_refl _) _

/-- 'string(b)'. -/
theorem told_str {w : World} {A : Option Addr} {n c : Nat} {l : List UInt8} (hb : Src w A n c l) : (convert 29 9 (.slice A n c)).run Try.prog w = .ok (.string ⟨l.toArray⟩) w := by
  have hl := hb.len
  cases A with
  | none =>
    have hc := hb.none_ rfl
    have hn : n = 0 := by have := hb.cap; omega
    subst hn
    rw [List.length_eq_zero_iff.1 hl]
    exact run_convert_bytes_nil w 29 5 Try.underlying29 Try.underlying5 0 c 9 Try.underlying9
  | some ad =>
    subst hl
    exact run_convert_bytes_back w 29 9 5 ad c l Try.underlying29 Try.underlying5 Try.underlying9 fun j hj => by
      rw [Bytes.at_ ad hb.toBytes j _ (bys_get hj)]

instance (env : Int) : Decidable (isE env) := inferInstanceAs (Decidable (_ ∨ _))
instance (ps : List Pg) (f : Int) : Decidable (isF ps f) := inferInstanceAs (Decidable (_ ∧ _))
instance (off n : Int) : Decidable (isIn off n) := inferInstanceAs (Decidable (_ ∧ _))
/-- The frame of that number. -/
def pg (ps : List Pg) (f : Int) : Pg := ps.getD f.toNat .blank
theorem pg_at {ps : List Pg} {k : Nat} (hk : k < ps.length) : pg ps (k : Int) = ps[k] := by simp [pg, hk]
/-- What a call that asks for an owner answers where it may not. -/
def ownErr (ps : List Pg) (env f : Int) : Int := if isE env ∧ isF ps f then (if ((pg ps f).owner : Int) = env then 0 else 20) else 1
theorem ownErr_zero {ps : List Pg} {env f : Int} (h : ownErr ps env f = 0) : ∃ k, ∃ hk : k < ps.length, f = (k : Int) ∧ isE env ∧ (ps[k].owner : Int) = env := by
  unfold ownErr at h
  by_cases h1 : isE env ∧ isF ps f
  · rw [if_pos h1] at h
    obtain ⟨a, b, c⟩ := h1
    obtain ⟨k, rfl⟩ : ∃ k : Nat, f = (k : Int) := ⟨f.toNat, by omega⟩
    have hk : k < ps.length := by omega
    rw [pg_at hk] at h
    by_cases h2 : (ps[k].owner : Int) = env
    · exact ⟨k, hk, rfl, a, h2⟩
    · rw [if_neg h2] at h; omega
  · rw [if_neg h1] at h; omega
theorem ownErr_le {ps : List Pg} {env f : Int} : ownErr ps env f = 0 ∨ ownErr ps env f = 1 ∨ ownErr ps env f = 20 := by
  unfold ownErr; split
  · split <;> simp
  · simp

section
variable {gs g : Nat} {ps : List Pg} {w : World}
set_option maxRecDepth 100000 in
theorem owned_ok (h : Tab w gs g ps) (env : Int) (k : Nat) (hk : k < ps.length) (hE : isE env) (ho : (ps[k].owner : Int) = env) :
    Calls Try.prog 52 #[.pointer (some ⟨g, 0, none⟩), .int .i64 env, .int .i64 (k : Int)] w fun e w' => e = .returned (.tuple #[.pointer (some ⟨gs, k * 258, none⟩), .int .i64 0]) ∧ w' = w := by
  have c0 := head_cell h
  have c1 := h.owner hk
  rw [ho] at c1
  have n2 := h.n2
  have HE := Lib.hid (isEnv_yes env hE w)
  have HS := Lib.hid (has_yes h k ⟨by omega, by omega⟩)
  have g1 : (0 : Int) ≤ (k : Int) := by omega
  have g2 : (k : Int) < (ps.length : Int) := by omega
  clear h ho hE
  go_enter Try.func52, Try.ntmps52
  go_wp2_with fail
  refine HE.out.mono ?_; rintro e w1 ⟨rfl, rfl⟩
  go_wp2_with fail
  refine HS.out.mono ?_; rintro e w1 ⟨rfl, rfl⟩
  go_wp2
  go_ret2
  exact ⟨rfl, rfl⟩
set_option maxRecDepth 100000 in
theorem owned_no (h : Tab w gs g ps) (env f : Int) (he : ownErr ps env f ≠ 0) :
    Calls Try.prog 52 #[.pointer (some ⟨g, 0, none⟩), .int .i64 env, .int .i64 f] w fun e w' => e = .returned (.tuple #[.pointer none, .int .i64 (ownErr ps env f)]) ∧ w' = w := by
  by_cases hE : isE env
  · have HE := Lib.hid (isEnv_yes env hE w)
    by_cases hF : isF ps f
    · obtain ⟨k, rfl⟩ : ∃ k : Nat, f = (k : Int) := ⟨f.toNat, by have := hF.1; omega⟩
      have hk : k < ps.length := by have := hF.2; omega
      have ho : ¬ (ps[k].owner : Int) = env := by
        intro e
        apply he
        unfold ownErr
        rw [if_pos ⟨hE, hF⟩, pg_at hk, if_pos e]
      have e20 : ownErr ps env k = 20 := by
        unfold ownErr
        rw [if_pos ⟨hE, hF⟩, pg_at hk, if_neg ho]
      have c0 := head_cell h
      have c1 := h.owner hk
      have n2 := h.n2
      have HS := Lib.hid (has_yes h k hF)
      have g1 : (0 : Int) ≤ (k : Int) := by omega
      have g2 : (k : Int) < (ps.length : Int) := by omega
      have ho' : ((ps[k].owner : Int) == env) = false := by simpa using ho
      rw [e20]
      generalize (ps[k].owner : Int) = v at *
      clear h hE he hF e20
      go_enter Try.func52, Try.ntmps52
      go_wp2_with fail
      refine HE.out.mono ?_; rintro e w1 ⟨rfl, rfl⟩
      go_wp2_with fail
      refine HS.out.mono ?_; rintro e w1 ⟨rfl, rfl⟩
      go_wp2
      go_ret2
      exact ⟨rfl, rfl⟩
    · have e1 : ownErr ps env f = 1 := by
        unfold ownErr
        rw [if_neg (fun x => hF x.2)]
      have HS := Lib.hid (has_no h f hF)
      rw [e1]
      clear h hE he hF e1
      go_enter Try.func52, Try.ntmps52
      go_wp2_with fail
      refine HE.out.mono ?_; rintro e w1 ⟨rfl, rfl⟩
      go_wp2_with fail
      refine HS.out.mono ?_; rintro e w1 ⟨rfl, rfl⟩
      go_wp2
      go_ret2
      exact ⟨rfl, rfl⟩
  · have HE := Lib.hid (isEnv_no env hE w)
    have e1 : ownErr ps env f = 1 := by
      unfold ownErr
      rw [if_neg (fun x => hE x.1)]
    rw [e1]
    clear h hE he e1
    go_enter Try.func52, Try.ntmps52
    go_wp2_with fail
    refine HE.out.mono ?_; rintro e w1 ⟨rfl, rfl⟩
    go_wp2
    go_ret2
    exact ⟨rfl, rfl⟩
/-- A transfer reads the frame of that number. -/
def isH (ps : List Pg) (f : Int) : Prop := isF ps f ∧ (pg ps f).holds ≠ 0
instance (ps : List Pg) (f : Int) : Decidable (isH ps f) := inferInstanceAs (Decidable (_ ∧ _))
set_option maxRecDepth 100000 in
theorem held_ok (h : Tab w gs g ps) (k : Nat) (hk : k < ps.length) (hh : ps[k].holds ≠ 0) :
    Calls Try.prog 83 #[.pointer (some ⟨g, 0, none⟩), .int .i64 (k : Int)] w fun e w' => e = .returned (.tuple #[.pointer (some ⟨gs, k * 258, none⟩), .int .i64 0]) ∧ w' = w := by
  have c0 := head_cell h
  have n2 := h.n2
  have HS := Lib.hid (holds_yes h k hk)
  have g1 : (0 : Int) ≤ (k : Int) := by omega
  have g2 : (k : Int) < (ps.length : Int) := by omega
  have hv : ((ps[k].holds : Int) == 0) = false := by simpa using hh
  generalize (ps[k].holds : Int) = v at *
  clear h hh
  go_enter Try.func83, Try.ntmps83
  go_wp2_with fail
  refine HS.out.mono ?_; rintro e w1 ⟨rfl, rfl⟩
  go_wp2
  go_ret2
  exact ⟨rfl, rfl⟩
theorem held_no (h : Tab w gs g ps) (f : Int) (hh : ¬ isH ps f) :
    Calls Try.prog 83 #[.pointer (some ⟨g, 0, none⟩), .int .i64 f] w fun e w' => e = .returned (.tuple #[.pointer none, .int .i64 1]) ∧ w' = w := by
  have HS : Hid (Calls Try.prog 17 #[.pointer (some ⟨g, 0, none⟩), .int .i64 f] w fun e w' => e = .returned (.int .i64 0) ∧ w' = w) := by
    by_cases hF : isF ps f
    · obtain ⟨k, rfl⟩ : ∃ k : Nat, f = (k : Int) := ⟨f.toNat, by have := hF.1; omega⟩
      have hk : k < ps.length := by have := hF.2; omega
      have h0 : ps[k].holds = 0 := by
        by_cases e : ps[k].holds = 0
        · exact e
        · exact absurd ⟨hF, by rw [pg_at hk]; exact e⟩ hh
      have := holds_yes h k hk
      rw [h0] at this
      exact Lib.hid this
    · exact Lib.hid (holds_no h f hF)
  clear h hh
  go_enter Try.func83, Try.ntmps83
  go_wp2_with fail
  refine HS.out.mono ?_; rintro e w1 ⟨rfl, rfl⟩
  go_wp2
  go_ret2
  exact ⟨rfl, rfl⟩
end
end Go.Proofs.Ytlilfblnlpjkcaa.Fr
