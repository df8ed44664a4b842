/- Package frame: what its small functions do. Conditions: those that each states. -/
import Derived.Test.YthnpalcjfgbjeaaGreatFrm
import Derived.RegionTactic
import Derived.BigRegion
import Derived.WalkMore
import Derived.StillTailTactics
import Derived.Deep.QuietTactic
import Derived.BigQuiet
import Derived.Deep.OwnRows
import Derived.Lib.Bytes
import Derived.Lib.SliceRun
import Derived.Laws.IdiomStrings
import Derived.Lib.ConvBytes
namespace Go.Proofs.YthnpalcjfgbjeaaGreat.Fr
open Go.ChangeShapes Go.WideShapes Go.ChangeAt Go.RowKit Go.Deep
set_option linter.unusedVariables false

abbrev Tab (w : World) (gs g : Nat) (ps : List Pg) : Prop := TabAt 131 102 w gs g ps

def isE (env : Int) : Prop := env = 1 ∨ env = 2
theorem isEnv_yes (env : Int) (h : isE env) (w : World) :
    Calls Tryz.prog 62 #[.int .i64 env] w fun e w' => e = .returned (.bool true) ∧ w' = w := by
  have g1 : env ≥ 1 := by rcases h with h | h <;> omega
  have g2 : env ≤ 2 := by rcases h with h | h <;> omega
  clear h
  go_enter Tryz.func62, Tryz.ntmps62
  go_wp2
  go_ret
  exact ⟨rfl, rfl⟩
theorem isEnv_no (env : Int) (h : ¬ isE env) (w : World) :
    Calls Tryz.prog 62 #[.int .i64 env] w fun e w' => e = .returned (.bool false) ∧ w' = w := by
  by_cases g1 : env ≥ 1
  · have g2 : ¬ env ≤ 2 := by intro g2; exact h (by unfold isE; omega)
    clear h
    go_enter Tryz.func62, Tryz.ntmps62
    go_wp2
    go_ret
    exact ⟨rfl, rfl⟩
  · clear h
    go_enter Tryz.func62, Tryz.ntmps62
    go_wp2
    go_ret
    exact ⟨rfl, rfl⟩

def isIn (off n : Int) : Prop := 0 ≤ off ∧ 0 ≤ n ∧ off + n ≤ 256
theorem within_yes (off n : Int) (h : isIn off n) (w : World) :
    Calls Tryz.prog 64 #[.int .i64 off, .int .i64 n] w fun e w' => e = .returned (.bool true) ∧ w' = w := by
  obtain ⟨h1, h2, h3⟩ := h
  have g1 : off ≥ 0 := h1
  have g2 : n ≥ 0 := h2
  have x0 : IntKind.i64.wrap (256 - off) = 256 - off := IntWalk.i64_in _ (by omega)
  have g3 : n ≤ 256 - off := by omega
  clear h1 h2 h3
  go_enter Tryz.func64, Tryz.ntmps64
  go_wp2
  go_ret
  exact ⟨rfl, rfl⟩
theorem within_no (off n : Int) (w1 : -9223372036854775808 ≤ off ∧ off ≤ 9223372036854775807) (h : ¬ isIn off n) (w : World) :
    Calls Tryz.prog 64 #[.int .i64 off, .int .i64 n] w fun e w' => e = .returned (.bool false) ∧ w' = w := by
  by_cases g1 : off ≥ 0
  · by_cases g2 : n ≥ 0
    · have x0 : IntKind.i64.wrap (256 - off) = 256 - off := IntWalk.i64_in _ (by omega)
      have g3 : ¬ n ≤ 256 - off := by intro g3; exact h ⟨g1, g2, by omega⟩
      clear h w1
      go_enter Tryz.func64, Tryz.ntmps64
      go_wp2
      go_ret
      exact ⟨rfl, rfl⟩
    · clear h w1
      go_enter Tryz.func64, Tryz.ntmps64
      go_wp2
      go_ret
      exact ⟨rfl, rfl⟩
  · clear h w1
    go_enter Tryz.func64, Tryz.ntmps64
    go_wp2
    go_ret
    exact ⟨rfl, rfl⟩

section
variable {gs g : Nat} {ps : List Pg} {w : World}
theorem head_cell (h : Tab w gs g ps) : w.cell? ⟨g, 0, none⟩ = some (.slice (some ⟨gs, 0, none⟩) ps.length ps.length) := by
  have c0 := h.head.cell 0
  simpa using c0
theorem size_any (h : Tab w gs g ps) :
    Calls Tryz.prog 84 #[.pointer (some ⟨g, 0, none⟩)] w fun e w' => e = .returned (.int .i64 (ps.length : Int)) ∧ w' = w := by
  have c0 := head_cell h
  clear h
  go_enter Tryz.func84, Tryz.ntmps84
  go_wp2
  go_ret
  exact ⟨rfl, rfl⟩

/-- The frame's number is one of the table's. -/
def isF (ps : List Pg) (f : Int) : Prop := 0 ≤ f ∧ f < (ps.length : Int)
theorem has_yes (h : Tab w gs g ps) (f : Int) (hf : isF ps f) :
    Calls Tryz.prog 63 #[.pointer (some ⟨g, 0, none⟩), .int .i64 f] w fun e w' => e = .returned (.bool true) ∧ w' = w := by
  obtain ⟨g1, g2⟩ := hf
  have g1' : f ≥ 0 := g1
  have SZ := Lib.hid (size_any h)
  clear h
  go_enter Tryz.func63, Tryz.ntmps63
  go_wp2_with fail
  refine SZ.out.mono ?_; rintro e w1 ⟨rfl, rfl⟩
  go_wp2
  go_ret
  exact ⟨rfl, rfl⟩
theorem has_no (h : Tab w gs g ps) (f : Int) (hf : ¬ isF ps f) :
    Calls Tryz.prog 63 #[.pointer (some ⟨g, 0, none⟩), .int .i64 f] w fun e w' => e = .returned (.bool false) ∧ w' = w := by
  have SZ := Lib.hid (size_any h)
  clear h
  by_cases g1 : f ≥ 0
  · have g2 : ¬ f < (ps.length : Int) := fun g2 => hf ⟨g1, g2⟩
    have G3 := Lib.hid (decide_eq_false g2)
    clear hf
    go_enter Tryz.func63, Tryz.ntmps63
    go_wp2_with fail
    refine SZ.out.mono ?_; rintro e w1 ⟨rfl, rfl⟩
    go_wp2
    go_ret
    refine ⟨?_, rfl⟩
    show Ending.returned (.bool (decide (f < (ps.length : Int)))) = _
    rw [G3.out]
  · clear hf
    go_enter Tryz.func63, Tryz.ntmps63
    go_wp2
    go_ret
    exact ⟨rfl, rfl⟩
set_option maxRecDepth 100000 in
theorem holds_yes (h : Tab w gs g ps) (f : Nat) (hf : f < ps.length) :
    Calls Tryz.prog 82 #[.pointer (some ⟨g, 0, none⟩), .int .i64 (f : Int)] w fun e w' => e = .returned (.int .i64 (ps[f].holds : Int)) ∧ w' = w := by
  have c0 := head_cell h
  have c1 := h.holds hf
  have n2 := h.n2
  have HS := Lib.hid (has_yes h f ⟨by omega, by omega⟩)
  have g1 : (0 : Int) ≤ (f : Int) := by omega
  have g2 : (f : Int) < (ps.length : Int) := by omega
  generalize (ps[f].holds : Int) = v at *
  clear h
  go_enter Tryz.func82, Tryz.ntmps82
  go_wp2_with fail
  refine HS.out.mono ?_; rintro e w1 ⟨rfl, rfl⟩
  go_wp2
  go_ret
  exact ⟨rfl, rfl⟩
theorem holds_no (h : Tab w gs g ps) (f : Int) (hf : ¬ isF ps f) :
    Calls Tryz.prog 82 #[.pointer (some ⟨g, 0, none⟩), .int .i64 f] w fun e w' => e = .returned (.int .i64 0) ∧ w' = w := by
  have HS := Lib.hid (has_no h f hf)
  clear h hf
  go_enter Tryz.func82, Tryz.ntmps82
  go_wp2_with fail
  refine HS.out.mono ?_; rintro e w1 ⟨rfl, rfl⟩
  go_wp2
  go_ret
  exact ⟨rfl, rfl⟩
end
end Go.Proofs.YthnpalcjfgbjeaaGreat.Fr

/- Package frame: cuts of a frame's bytes, copies into them, bytes.Clone, texts as bytes and back; the frame that a call names. Conditions: those that each states. -/
namespace Go.Proofs.YthnpalcjfgbjeaaGreat.Fr
open Go.ChangeShapes Go.WideShapes Go.ChangeAt Go.RowKit Go.Deep
set_option linter.unusedVariables false

/-- 'copy(d, s)': the row behind it, whatever lies where, an empty source too. -/
theorem wpList_copy_row {P : Program} {w : World} {ops : Array Oper} {rest : List Oper} {o : Oper} {a : Act} {Q : Exit → Act → World → Prop} (hgd : o.guard = none) (d s : Operand) (dT sT : TypeId)
    (ho : o.op = .call { callee := .builtin .copy, args := #[d, s], argTypes := #[dT, sT] }) (elem : TypeId) (hu : P.underlying dT = some (.slice elem)) (hsz : (P.info? elem).map (·.size) = some 1)
    (dp sp : Option Addr) (dLen dCap sLen sCap : Nat) (hd : a.eval d = .slice dp dLen dCap) (hs : a.eval s = .slice sp sLen sCap)
    (g off : Nat) (cur : Array Value) (t : TypeId) (hg : Blk w g t cur) (cs : List Value) (hn : cs.length = Nat.min sLen dLen)
    (hpos : 0 < cs.length → dp = some ⟨g, off, none⟩ ∧ ∃ ad, sp = some ad ∧ ∀ j v, cs[j]? = some v → w.cell? (ad.add j) = some v)
    (hfit : off + cs.length ≤ cur.size) (h1 : ∀ v ∈ cs, v.oneCell' = true)
    (h : wpList P ops Q rest (a.put o.dst (goInt cs.length)) (w.setRow g (cur.toList.take off ++ cs ++ cur.toList.drop (off + cs.length)).toArray)) :
    wpList P ops Q (o :: rest) a w := by
  by_cases h0 : cs.length = 0
  · obtain rfl : cs = [] := List.eq_nil_of_length_eq_zero h0
    refine wpList_copy_nothing hgd d s dT sT ho elem hu hsz dp sp dLen dCap sLen sCap hd hs (by simpa using hn.symm) ?_
    have e : w.setRow g (cur.toList.take off ++ [] ++ cur.toList.drop (off + ([] : List Value).length)).toArray = w := by
      simp only [List.append_nil, List.length_nil, Nat.add_zero, List.take_append_drop, Array.toArray_toList]
      exact setRow_self w g cur t (0, 0) hg
    rw [e] at h
    exact h
  · obtain ⟨rfl, ad, rfl, hsrc⟩ := hpos (by omega)
    refine wpList_copy_own hgd d s dT sT ho elem hu hsz g off dLen dCap ad sLen sCap hd hs cur t hg cs hn hsrc hfit h1 ?_
    rw [← List.append_assoc]
    exact h

theorem u8_size : (Tryz.prog.info? 5).map (·.size) = some 1 := by kernel_rfl
theorem page_size : (Tryz.prog.info? 131).map (·.size) = some 258 := by kernel_rfl

/-- Where '&text[off]' lies. -/
def cutAt (a : Addr) (off : Nat) : Addr := if 256 = off then a else a.add (off * 1)
theorem arr_under : Tryz.prog.underlying 129 = some (.array (Tryz.prog.arrayLen 129) (Tryz.prog.elem 129)) := by kernel_rfl
theorem arr_len : Tryz.prog.arrayLen 129 = 256 := by kernel_rfl
theorem arr_elem : Tryz.prog.elem 129 = 5 := by kernel_rfl
theorem size_u8 (W : World) : (sizeOf 5).run Tryz.prog W = .ok 1 W := by
  obtain ⟨i, hi, hs⟩ := Option.map_eq_some_iff.1 u8_size
  simp [sizeOf, typeInfo, hi, hs]
theorem run_cut2 (a : Addr) (off n : Nat) (h : off + n ≤ 256) (W : World) :
    (Instr.sliceAt 129 (.pointer (some a)) (some (.int .i64 (off : Int))) (some (.int .i64 ((off : Int) + (n : Int)))) none).run Tryz.prog W = .ok (.slice (some (cutAt a off)) n (256 - off)) W := by
  rw [run_sliceAt_array_lh W 129 a arr_under .i64 .i64 (off : Int) ((off : Int) + (n : Int)) (by omega) (by omega) (by rw [arr_len]; omega), arr_elem, size_u8, arr_len]
  have e : ((off : Int) + (n : Int)).toNat - off = n := by omega
  simp only [Result.andThen_ok, slicedAt, cutAt, Int.toNat_natCast, e]
theorem run_cut1 (a : Addr) (off : Nat) (h : off ≤ 256) (W : World) :
    (Instr.sliceAt 129 (.pointer (some a)) (some (.int .i64 (off : Int))) none none).run Tryz.prog W = .ok (.slice (some (cutAt a off)) (256 - off) (256 - off)) W := by
  rw [run_sliceAt_array_l W 129 a arr_under .i64 (off : Int) (by omega) (by rw [arr_len]; omega), arr_elem, size_u8, arr_len]
  simp only [Result.andThen_ok, slicedAt, cutAt, Int.toNat_natCast]
theorem cutAt_lt {b o off : Nat} (h : off < 256) : cutAt ⟨b, o, none⟩ off = ⟨b, o + off, none⟩ := by
  unfold cutAt
  rw [if_neg (by omega), Nat.mul_one]
  unfold Addr.add; split <;> simp_all
theorem cut_src {w : World} {gs g : Nat} {ps : List Pg} (h : Tab w gs g ps) {f : Nat} (hf : f < ps.length) {off n : Nat} (hn : off + n ≤ 256) :
    Src w (some (cutAt ⟨gs, f * 258 + 2, none⟩ off)) n (256 - off) ((ps[f].text.drop off).take n) := by
  by_cases ho : off < 256
  · rw [cutAt_lt ho]
    exact h.bytes hf hn (by omega) (by omega)
  · have hn0 : n = 0 := by omega
    subst hn0
    exact ⟨⟨by simpa [bys] using lies_nil w _, by simp, by omega, by omega⟩, fun e => by cases e⟩

/-- bytes.Clone of what is not nil. -/
theorem clone_some (A : Addr) (n c : Nat) (l : List UInt8) (w : World) (hb : Src w (some A) n c l) (hn : n ≤ 1099511627776) :
    Calls Tryz.prog 65 #[.slice (some A) n c] w fun e w' => ∃ A' c', e = .returned (.slice A' n c') ∧ Src w' A' n c' l ∧ Below w.heap.size w w' := by
  have he : ∀ W, (binOp .eql 34 (.slice (some A) n c) (.slice none 0 0)).run Tryz.prog W = .ok (.bool (some A).isNone) W := fun W => Lib.run_eql_slice_nil W 34 5 (some A) n c 0 0 Tryz.underlying34
  have he := fun W => (he W).trans (congrArg (fun b => Result.ok (Value.bool b) W) (show (some A).isNone = false from rfl))
  have hown := World.ownsRow_lit (base := w.heap.size) (e := 5) (size := 1) w #[] 0 (Nat.le_refl _) (by decide) rfl
  have HB := Lib.hid hb
  clear hb
  go_enter Tryz.func65, Tryz.ntmps65
  go_wp2_with (at_builtin; refine Hid.out ?_)
  unfold Hid
  refine wpList_append_src rfl _ _ rfl w.heap.size _ 0 [] rfl hown (some A) n c l rfl (HB.out.alloc _) (by omega) (by simp) ?_
  intro v' w' h1 h2
  rw [Nat.zero_add] at h1
  have b2 := (Below.refl w.heap.size w).alloc (Nat.le_refl _) (.cells #[] 5) |>.trans h2
  obtain ⟨A', c', rfl, hs, hbs⟩ := src_of_own h1
  clear h1 h2 hown he
  go_wp2
  go_ret
  exact ⟨A', c', rfl, hs, b2⟩

/-- '[]byte(s)'. -/
theorem conv_src (s : ByteArray) (hs : s.size ≤ 1000000) (w : World) : ∃ A c W', (convert 9 34 (.string s)).run Tryz.prog w = .ok (.slice A s.size c) W' ∧ Src W' A s.size c s.data.toList ∧ Below w.heap.size w W' := by
  refine ⟨_, _, _, run_bytes_of_string w 9 34 5 s Tryz.underlying9 Tryz.underlying34 Tryz.underlying5, ⟨⟨fun hp => ⟨w.heap.size, 0, rfl, (Array.getElem?_eq_some_iff.1 (heap_alloc_new w.drew _)).1, fun j hj => ?_⟩, Array.length_toList, grownCap_ge w _ _ _, ?_⟩, fun e => by cases e⟩, ?_⟩
  · have hj' : j < s.data.size := by simpa [bys] using hj
    have hh : (w.drew.alloc (.cells (bytesRow s (grownCap w s.size 0 5)) 5 ((bytesRow s (grownCap w s.size 0 5)).size, (bytesRow s (grownCap w s.size 0 5)).size + 1))).heap[w.heap.size]? = some (.cells (bytesRow s (grownCap w s.size 0 5)) 5 ((bytesRow s (grownCap w s.size 0 5)).size, (bytesRow s (grownCap w s.size 0 5)).size + 1)) := heap_alloc_new w.drew _
    rw [Nat.zero_add, cell_of_row _ _ _ _ _ _ hh, bytesRow_at s _ j hj']
    simp [bys]
  · have := grownCap_le_maxLen w s.size 0 5 (by unfold maxLen; omega)
    simpa [maxLen] using this
  · exact (⟨rfl, rfl, rfl, Nat.le_refl _, fun _ _ => rfl⟩ : Below w.heap.size w w.drew).alloc (Nat.le_refl _) _

/-- 'string(b)'. -/
theorem told_str {w : World} {A : Option Addr} {n c : Nat} {l : List UInt8} (hb : Src w A n c l) : (convert 34 9 (.slice A n c)).run Tryz.prog w = .ok (.string ⟨l.toArray⟩) w := by
  have hl := hb.len
  cases A with
  | none =>
    have hc := hb.none_ rfl
    have hn : n = 0 := by have := hb.cap; omega
    subst hn
    rw [List.length_eq_zero_iff.1 hl]
    exact run_convert_bytes_nil w 34 5 Tryz.underlying34 Tryz.underlying5 0 c 9 Tryz.underlying9
  | some ad =>
    subst hl
    exact run_convert_bytes_back w 34 9 5 ad c l Tryz.underlying34 Tryz.underlying5 Tryz.underlying9 fun j hj => by
      rw [Bytes.at_ ad hb.toBytes j _ (bys_get hj)]

instance (env : Int) : Decidable (isE env) := inferInstanceAs (Decidable (_ ∨ _))
instance (ps : List Pg) (f : Int) : Decidable (isF ps f) := inferInstanceAs (Decidable (_ ∧ _))
instance (off n : Int) : Decidable (isIn off n) := inferInstanceAs (Decidable (_ ∧ _))
/-- The frame of that number. -/
def pg (ps : List Pg) (f : Int) : Pg := ps.getD f.toNat .blank
theorem pg_at {ps : List Pg} {k : Nat} (hk : k < ps.length) : pg ps (k : Int) = ps[k] := by simp [pg, hk]
/-- What a call that asks for an owner answers where it may not. -/
def ownErr (ps : List Pg) (env f : Int) : Int := if isE env ∧ isF ps f then (if ((pg ps f).owner : Int) = env then 0 else 20) else 1
theorem ownErr_zero {ps : List Pg} {env f : Int} (h : ownErr ps env f = 0) : ∃ k, ∃ hk : k < ps.length, f = (k : Int) ∧ isE env ∧ (ps[k].owner : Int) = env := by
  unfold ownErr at h
  by_cases h1 : isE env ∧ isF ps f
  · rw [if_pos h1] at h
    obtain ⟨a, b, c⟩ := h1
    obtain ⟨k, rfl⟩ : ∃ k : Nat, f = (k : Int) := ⟨f.toNat, by omega⟩
    have hk : k < ps.length := by omega
    rw [pg_at hk] at h
    by_cases h2 : (ps[k].owner : Int) = env
    · exact ⟨k, hk, rfl, a, h2⟩
    · rw [if_neg h2] at h; omega
  · rw [if_neg h1] at h; omega
theorem ownErr_le {ps : List Pg} {env f : Int} : ownErr ps env f = 0 ∨ ownErr ps env f = 1 ∨ ownErr ps env f = 20 := by
  unfold ownErr; split
  · split <;> simp
  · simp

section
variable {gs g : Nat} {ps : List Pg} {w : World}
set_option maxRecDepth 100000 in
theorem owned_ok (h : Tab w gs g ps) (env : Int) (k : Nat) (hk : k < ps.length) (hE : isE env) (ho : (ps[k].owner : Int) = env) :
    Calls Tryz.prog 35 #[.pointer (some ⟨g, 0, none⟩), .int .i64 env, .int .i64 (k : Int)] w fun e w' => e = .returned (.tuple #[.pointer (some ⟨gs, k * 258, none⟩), .int .i64 0]) ∧ w' = w := by
  have c0 := head_cell h
  have c1 := h.owner hk
  rw [ho] at c1
  have n2 := h.n2
  have HE := Lib.hid (isEnv_yes env hE w)
  have HS := Lib.hid (has_yes h k ⟨by omega, by omega⟩)
  have g1 : (0 : Int) ≤ (k : Int) := by omega
  have g2 : (k : Int) < (ps.length : Int) := by omega
  clear h ho hE
  go_enter Tryz.func35, Tryz.ntmps35
  go_wp2_with fail
  refine HE.out.mono ?_; rintro e w1 ⟨rfl, rfl⟩
  go_wp2_with fail
  refine HS.out.mono ?_; rintro e w1 ⟨rfl, rfl⟩
  go_wp2
  go_ret2
  exact ⟨rfl, rfl⟩
set_option maxRecDepth 100000 in
theorem owned_no (h : Tab w gs g ps) (env f : Int) (he : ownErr ps env f ≠ 0) :
    Calls Tryz.prog 35 #[.pointer (some ⟨g, 0, none⟩), .int .i64 env, .int .i64 f] w fun e w' => e = .returned (.tuple #[.pointer none, .int .i64 (ownErr ps env f)]) ∧ w' = w := by
  by_cases hE : isE env
  · have HE := Lib.hid (isEnv_yes env hE w)
    by_cases hF : isF ps f
    · obtain ⟨k, rfl⟩ : ∃ k : Nat, f = (k : Int) := ⟨f.toNat, by have := hF.1; omega⟩
      have hk : k < ps.length := by have := hF.2; omega
      have ho : ¬ (ps[k].owner : Int) = env := by
        intro e
        apply he
        unfold ownErr
        rw [if_pos ⟨hE, hF⟩, pg_at hk, if_pos e]
      have e20 : ownErr ps env k = 20 := by
        unfold ownErr
        rw [if_pos ⟨hE, hF⟩, pg_at hk, if_neg ho]
      have c0 := head_cell h
      have c1 := h.owner hk
      have n2 := h.n2
      have HS := Lib.hid (has_yes h k hF)
      have g1 : (0 : Int) ≤ (k : Int) := by omega
      have g2 : (k : Int) < (ps.length : Int) := by omega
      have ho' : ((ps[k].owner : Int) == env) = false := by simpa using ho
      rw [e20]
      generalize (ps[k].owner : Int) = v at *
      clear h hE he hF e20
      go_enter Tryz.func35, Tryz.ntmps35
      go_wp2_with fail
      refine HE.out.mono ?_; rintro e w1 ⟨rfl, rfl⟩
      go_wp2_with fail
      refine HS.out.mono ?_; rintro e w1 ⟨rfl, rfl⟩
      go_wp2
      go_ret2
      exact ⟨rfl, rfl⟩
    · have e1 : ownErr ps env f = 1 := by
        unfold ownErr
        rw [if_neg (fun x => hF x.2)]
      have HS := Lib.hid (has_no h f hF)
      rw [e1]
      clear h hE he hF e1
      go_enter Tryz.func35, Tryz.ntmps35
      go_wp2_with fail
      refine HE.out.mono ?_; rintro e w1 ⟨rfl, rfl⟩
      go_wp2_with fail
      refine HS.out.mono ?_; rintro e w1 ⟨rfl, rfl⟩
      go_wp2
      go_ret2
      exact ⟨rfl, rfl⟩
  · have HE := Lib.hid (isEnv_no env hE w)
    have e1 : ownErr ps env f = 1 := by
      unfold ownErr
      rw [if_neg (fun x => hE x.1)]
    rw [e1]
    clear h hE he e1
    go_enter Tryz.func35, Tryz.ntmps35
    go_wp2_with fail
    refine HE.out.mono ?_; rintro e w1 ⟨rfl, rfl⟩
    go_wp2
    go_ret2
    exact ⟨rfl, rfl⟩
/-- A transfer reads the frame of that number. -/
def isH (ps : List Pg) (f : Int) : Prop := isF ps f ∧ (pg ps f).holds ≠ 0
instance (ps : List Pg) (f : Int) : Decidable (isH ps f) := inferInstanceAs (Decidable (_ ∧ _))
set_option maxRecDepth 100000 in
theorem held_ok (h : Tab w gs g ps) (k : Nat) (hk : k < ps.length) (hh : ps[k].holds ≠ 0) :
    Calls Tryz.prog 99 #[.pointer (some ⟨g, 0, none⟩), .int .i64 (k : Int)] w fun e w' => e = .returned (.tuple #[.pointer (some ⟨gs, k * 258, none⟩), .int .i64 0]) ∧ w' = w := by
  have c0 := head_cell h
  have n2 := h.n2
  have HS := Lib.hid (holds_yes h k hk)
  have g1 : (0 : Int) ≤ (k : Int) := by omega
  have g2 : (k : Int) < (ps.length : Int) := by omega
  have hv : ((ps[k].holds : Int) == 0) = false := by simpa using hh
  generalize (ps[k].holds : Int) = v at *
  clear h hh
  go_enter Tryz.func99, Tryz.ntmps99
  go_wp2_with fail
  refine HS.out.mono ?_; rintro e w1 ⟨rfl, rfl⟩
  go_wp2
  go_ret2
  exact ⟨rfl, rfl⟩
theorem held_no (h : Tab w gs g ps) (f : Int) (hh : ¬ isH ps f) :
    Calls Tryz.prog 99 #[.pointer (some ⟨g, 0, none⟩), .int .i64 f] w fun e w' => e = .returned (.tuple #[.pointer none, .int .i64 1]) ∧ w' = w := by
  have HS : Hid (Calls Tryz.prog 82 #[.pointer (some ⟨g, 0, none⟩), .int .i64 f] w fun e w' => e = .returned (.int .i64 0) ∧ w' = w) := by
    by_cases hF : isF ps f
    · obtain ⟨k, rfl⟩ : ∃ k : Nat, f = (k : Int) := ⟨f.toNat, by have := hF.1; omega⟩
      have hk : k < ps.length := by have := hF.2; omega
      have h0 : ps[k].holds = 0 := by
        by_cases e : ps[k].holds = 0
        · exact e
        · exact absurd ⟨hF, by rw [pg_at hk]; exact e⟩ hh
      have := holds_yes h k hk
      rw [h0] at this
      exact Lib.hid this
    · exact Lib.hid (holds_no h f hF)
  clear h hh
  go_enter Tryz.func99, Tryz.ntmps99
  go_wp2_with fail
  refine HS.out.mono ?_; rintro e w1 ⟨rfl, rfl⟩
  go_wp2
  go_ret2
  exact ⟨rfl, rfl⟩
end
end Go.Proofs.YthnpalcjfgbjeaaGreat.Fr

/- Package frame: what its methods do. Conditions: those that each states. -/
namespace Go.Proofs.YthnpalcjfgbjeaaGreat.Fr
open Go.ChangeShapes Go.WideShapes Go.ChangeAt Go.RowKit Go.Deep
set_option linter.unusedVariables false

theorem wpList_build_is {P : Program} {ops : Array Oper} {rest : List Oper} {o : Oper} {a : Act} {w : World} {Q : Exit → Act → World → Prop} (hg : o.guard = none) (t : TypeId) (ho : o.op = .build t #[]) (cells : Array Value)
    (hc : P.built t [] = some cells) (h : wpList P ops Q rest (a.put o.dst (.agg cells)) w) : wpList P ops Q (o :: rest) a w := by
  refine wpList_build hg t #[] ho (by simp [hc]) (by simpa [hc] using h)
theorem blank_built : Tryz.prog.built 131 [] = some Pg.blank.cells.toArray := by kernel_rfl
theorem bys_all (l : List UInt8) : ∀ v ∈ bys l, v.oneCell' = true := fun v hv => bys_one hv
theorem cells_all (p : Pg) : p.cells.toArray.all (·.oneCell') = true := by
  rw [Array.all_eq_true_iff_forall_mem]
  intro v hv
  have hv' : v ∈ p.cells := by simpa using hv
  unfold Pg.cells at hv'
  rcases List.mem_cons.1 hv' with rfl | hv'
  · rfl
  · rcases List.mem_cons.1 hv' with rfl | hv'
    · rfl
    · exact bys_one hv'

def freeR (ps : List Pg) (env f : Int) : List Pg × Int :=
  if ownErr ps env f = 0 then (if (pg ps f).holds = 0 then (ps.set f.toNat .blank, 0) else (ps, 21)) else (ps, ownErr ps env f)
def giveR (ps : List Pg) (env f to : Int) : List Pg × Int :=
  if ownErr ps env f = 0 then (if isE to then (if (pg ps f).holds = 0 then (ps.set f.toNat { pg ps f with owner := to.toNat }, 0) else (ps, 21)) else (ps, 1)) else (ps, ownErr ps env f)
def holdR (ps : List Pg) (env f : Int) : List Pg × Int :=
  if ownErr ps env f = 0 then (ps.set f.toNat { pg ps f with holds := (pg ps f).holds + 1 }, 0) else (ps, ownErr ps env f)
def dropR (ps : List Pg) (f : Int) : List Pg × Int :=
  if isH ps f then (ps.set f.toNat { pg ps f with holds := (pg ps f).holds - 1 }, 0) else (ps, 1)

section
variable {gs g : Nat} {ps : List Pg} {w : World}
set_option maxRecDepth 100000 in
theorem free_any (h : Tab w gs g ps) (env f : Int) :
    Calls Tryz.prog 45 #[.pointer (some ⟨g, 0, none⟩), .int .i64 env, .int .i64 f] w fun e w' => e = .returned (.int .i64 (freeR ps env f).2) ∧ Tab w' gs g (freeR ps env f).1 ∧ Chg w w' (fun k => k = gs) := by
  by_cases he : ownErr ps env f = 0
  · obtain ⟨k, hk, rfl, hE, ho⟩ := ownErr_zero he
    have n2 := h.n2
    have OW := Lib.hid (owned_ok h env k hk hE ho)
    have c1 := h.holds hk
    by_cases hh : ps[k].holds = 0
    · have er : freeR ps env k = (ps.set k .blank, 0) := by unfold freeR; rw [if_pos he, pg_at hk, if_pos hh, Int.toNat_natCast]
      rw [er]
      obtain ⟨cs, hb, hs, _⟩ := h.row
      have hv := h.seg hk (i := 0) Pg.blank.cells (by have := Pg.blank_ok.len; omega) .blank Pg.blank_ok (by
        have := (h.at_ hk).len
        rw [Pg.blank_ok.len, List.take_zero, List.nil_append, List.drop_eq_nil_of_le (by omega), List.append_nil]) hb
      rw [Nat.add_zero] at hv
      have HB := Lib.hid hb
      have HV := Lib.hid hv
      have hcs : Pg.blank.cells.toArray.size = 258 := by simpa using Pg.blank_ok.len
      have hlen : Pg.blank.cells.length = 258 := Pg.blank_ok.len
      have hca := cells_all Pg.blank
      have hbu := blank_built
      generalize Pg.blank.cells = Z at *
      have hk1 : ¬ (ps[k].holds : Int) > 0 := by omega
      rw [hh] at c1
      have CS := Lib.hid hcs
      have CA := Lib.hid hca
      have BU := Lib.hid hbu
      clear h hb hv hE ho he er hh hk1 hcs hca hbu
      go_enter Tryz.func45, Tryz.ntmps45
      go_wp2_with fail
      refine OW.out.mono ?_; rintro e w1 ⟨rfl, rfl⟩
      go_wp2_with (first
        | (refine wpList_build_is rfl 131 rfl Z.toArray BU.out ?_)
        | (refine wpList_store_at rfl 131 (.tmp 26) (.tmp 25) rfl gs (k * 258) Z.toArray rfl rfl 131 cs HB.out (page_size.trans (congrArg some CS.out.symm)) (by rw [CS.out]; omega) CA.out ?_))
      go_ret
      refine ⟨rfl, ?_, Chg.setRow _ _ rfl⟩
      have hv := HV.out.2
      rw [hlen] at hv
      simpa using hv
    · have er : freeR ps env k = (ps, 21) := by unfold freeR; rw [if_pos he, pg_at hk, if_neg hh]
      rw [er]
      have H := Lib.hid h
      have hk1 : (ps[k].holds : Int) > 0 := by omega
      generalize (ps[k].holds : Int) = v at *
      clear h hE ho he er hh
      go_enter Tryz.func45, Tryz.ntmps45
      go_wp2_with fail
      refine OW.out.mono ?_; rintro e w1 ⟨rfl, rfl⟩
      go_wp2
      go_ret
      exact ⟨rfl, H.out, Chg.refl _ _⟩
  · have er : freeR ps env f = (ps, ownErr ps env f) := by unfold freeR; rw [if_neg he]
    rw [er]
    have OW := Lib.hid (owned_no h env f he)
    have H := Lib.hid h
    have hv : (ownErr ps env f == 0) = false := by simpa using he
    generalize ownErr ps env f = v at *
    clear h er he
    go_enter Tryz.func45, Tryz.ntmps45
    go_wp2_with fail
    refine OW.out.mono ?_; rintro e w1 ⟨rfl, rfl⟩
    go_wp2
    go_ret
    exact ⟨rfl, H.out, Chg.refl _ _⟩

set_option maxRecDepth 100000 in
theorem give_any (h : Tab w gs g ps) (env f to : Int) :
    Calls Tryz.prog 46 #[.pointer (some ⟨g, 0, none⟩), .int .i64 env, .int .i64 f, .int .i64 to] w fun e w' => e = .returned (.int .i64 (giveR ps env f to).2) ∧ Tab w' gs g (giveR ps env f to).1 ∧ Chg w w' (fun k => k = gs) := by
  by_cases he : ownErr ps env f = 0
  · obtain ⟨k, hk, rfl, hE, ho⟩ := ownErr_zero he
    have n2 := h.n2
    have OW := Lib.hid (owned_ok h env k hk hE ho)
    have c1 := h.holds hk
    have c2 := h.owner hk
    have f0 := h.thaw (k * 258)
    have H := Lib.hid h
    by_cases hto : isE to
    · have TO := Lib.hid (isEnv_yes to hto w)
      by_cases hh : ps[k].holds = 0
      · have er : giveR ps env k to = (ps.set k { ps[k] with owner := to.toNat }, 0) := by unfold giveR; rw [if_pos he, if_pos hto, pg_at hk, if_pos hh, Int.toNat_natCast]
        rw [er]
        have oko := h.at_ hk
        have oto : to.toNat ≤ 2 := by rcases hto with e | e <;> omega
        have eto : ((to.toNat : Nat) : Int) = to := by rcases hto with e | e <;> rw [e] <;> rfl
        have hv := h.set hk (i := 0) (by omega) (.int .i64 to) { ps[k] with owner := to.toNat } ⟨oto, oko.h, oko.t⟩ (by
          unfold Pg.cells; rw [List.set_cons_zero]; simp only [eto])
        rw [Nat.add_zero] at hv
        have HV := Lib.hid hv
        rw [hh] at c1
        generalize (ps[k].owner : Int) = v at *
        clear h hv hE ho he er hh eto hto oko
        go_enter Tryz.func46, Tryz.ntmps46
        go_wp2_with fail
        refine OW.out.mono ?_; rintro e w1 ⟨rfl, rfl⟩
        go_wp2_with fail
        refine TO.out.mono ?_; rintro e w1 ⟨rfl, rfl⟩
        go_wp2
        go_ret
        exact ⟨rfl, HV.out, Chg.set _ _ _ rfl⟩
      · have er : giveR ps env k to = (ps, 21) := by unfold giveR; rw [if_pos he, if_pos hto, pg_at hk, if_neg hh]
        rw [er]
        have hk1 : (ps[k].holds : Int) > 0 := by omega
        generalize (ps[k].holds : Int) = v at *
        clear h hE ho he er hh hto c2
        go_enter Tryz.func46, Tryz.ntmps46
        go_wp2_with fail
        refine OW.out.mono ?_; rintro e w1 ⟨rfl, rfl⟩
        go_wp2_with fail
        refine TO.out.mono ?_; rintro e w1 ⟨rfl, rfl⟩
        go_wp2
        go_ret
        exact ⟨rfl, H.out, Chg.refl _ _⟩
    · have TO := Lib.hid (isEnv_no to hto w)
      have er : giveR ps env k to = (ps, 1) := by unfold giveR; rw [if_pos he, if_neg hto]
      rw [er]
      clear h hE ho he er hto c1 c2
      go_enter Tryz.func46, Tryz.ntmps46
      go_wp2_with fail
      refine OW.out.mono ?_; rintro e w1 ⟨rfl, rfl⟩
      go_wp2_with fail
      refine TO.out.mono ?_; rintro e w1 ⟨rfl, rfl⟩
      go_wp2
      go_ret
      exact ⟨rfl, H.out, Chg.refl _ _⟩
  · have er : giveR ps env f to = (ps, ownErr ps env f) := by unfold giveR; rw [if_neg he]
    rw [er]
    have OW := Lib.hid (owned_no h env f he)
    have H := Lib.hid h
    have hv : (ownErr ps env f == 0) = false := by simpa using he
    generalize ownErr ps env f = v at *
    clear h er he
    go_enter Tryz.func46, Tryz.ntmps46
    go_wp2_with fail
    refine OW.out.mono ?_; rintro e w1 ⟨rfl, rfl⟩
    go_wp2
    go_ret
    exact ⟨rfl, H.out, Chg.refl _ _⟩

set_option maxRecDepth 100000 in
theorem hold_any (h : Tab w gs g ps) (env f : Int) (hm : ∀ p ∈ ps, p.holds < 1000000) :
    Calls Tryz.prog 90 #[.pointer (some ⟨g, 0, none⟩), .int .i64 env, .int .i64 f] w fun e w' => e = .returned (.int .i64 (holdR ps env f).2) ∧ Tab w' gs g (holdR ps env f).1 ∧ Chg w w' (fun k => k = gs) := by
  by_cases he : ownErr ps env f = 0
  · obtain ⟨k, hk, rfl, hE, ho⟩ := ownErr_zero he
    have n2 := h.n2
    have OW := Lib.hid (owned_ok h env k hk hE ho)
    have c1 := h.holds hk
    have f1 := h.thaw (k * 258 + 1)
    have er : holdR ps env k = (ps.set k { ps[k] with holds := ps[k].holds + 1 }, 0) := by unfold holdR; rw [if_pos he, pg_at hk, Int.toNat_natCast]
    rw [er]
    have oko := h.at_ hk
    have hlt := hm _ (List.getElem_mem hk)
    have x0 : IntKind.i64.wrap ((ps[k].holds : Int) + 1) = (ps[k].holds : Int) + 1 := IntWalk.i64_in _ (by omega)
    have hv := h.set hk (i := 1) (by omega) (.int .i64 ((ps[k].holds : Int) + 1)) { ps[k] with holds := ps[k].holds + 1 } ⟨oko.o, hlt, oko.t⟩ (by
      unfold Pg.cells; rw [List.set_cons_succ, List.set_cons_zero]; simp)
    have HV := Lib.hid hv
    generalize (ps[k].holds : Int) = v at *
    clear h hv hE ho he er oko hlt hm
    go_enter Tryz.func90, Tryz.ntmps90
    go_wp2_with fail
    refine OW.out.mono ?_; rintro e w1 ⟨rfl, rfl⟩
    go_wp2
    go_ret
    exact ⟨rfl, HV.out, Chg.set _ _ _ rfl⟩
  · have er : holdR ps env f = (ps, ownErr ps env f) := by unfold holdR; rw [if_neg he]
    rw [er]
    have OW := Lib.hid (owned_no h env f he)
    have H := Lib.hid h
    have hv : (ownErr ps env f == 0) = false := by simpa using he
    generalize ownErr ps env f = v at *
    clear h er he hm
    go_enter Tryz.func90, Tryz.ntmps90
    go_wp2_with fail
    refine OW.out.mono ?_; rintro e w1 ⟨rfl, rfl⟩
    go_wp2
    go_ret
    exact ⟨rfl, H.out, Chg.refl _ _⟩

set_option maxRecDepth 100000 in
theorem drop_any (h : Tab w gs g ps) (f : Int) :
    Calls Tryz.prog 96 #[.pointer (some ⟨g, 0, none⟩), .int .i64 f] w fun e w' => e = .returned (.int .i64 (dropR ps f).2) ∧ Tab w' gs g (dropR ps f).1 ∧ Chg w w' (fun k => k = gs) := by
  by_cases he : isH ps f
  · obtain ⟨k, rfl⟩ : ∃ k : Nat, f = (k : Int) := ⟨f.toNat, by have := he.1.1; omega⟩
    have hk : k < ps.length := by have := he.1.2; omega
    have hh : ps[k].holds ≠ 0 := by have := he.2; rwa [pg_at hk] at this
    have n2 := h.n2
    have OW := Lib.hid (held_ok h k hk hh)
    have c1 := h.holds hk
    have f1 := h.thaw (k * 258 + 1)
    have er : dropR ps k = (ps.set k { ps[k] with holds := ps[k].holds - 1 }, 0) := by unfold dropR; rw [if_pos he, pg_at hk, Int.toNat_natCast]
    rw [er]
    have oko := h.at_ hk
    have hm := oko.h
    have x0 : IntKind.i64.wrap ((ps[k].holds : Int) - 1) = (ps[k].holds : Int) - 1 := IntWalk.i64_in _ (by omega)
    have e1 : ((ps[k].holds - 1 : Nat) : Int) = (ps[k].holds : Int) - 1 := by omega
    have hv := h.set hk (i := 1) (by omega) (.int .i64 ((ps[k].holds : Int) - 1)) { ps[k] with holds := ps[k].holds - 1 } ⟨oko.o, by show ps[k].holds - 1 ≤ 1000000; omega, oko.t⟩ (by
      unfold Pg.cells; rw [List.set_cons_succ, List.set_cons_zero]; simp only [e1])
    have HV := Lib.hid hv
    generalize (ps[k].holds : Int) = v at *
    clear h hv he er oko hm hh e1
    go_enter Tryz.func96, Tryz.ntmps96
    go_wp2_with fail
    refine OW.out.mono ?_; rintro e w1 ⟨rfl, rfl⟩
    go_wp2
    go_ret
    exact ⟨rfl, HV.out, Chg.set _ _ _ rfl⟩
  · have er : dropR ps f = (ps, 1) := by unfold dropR; rw [if_neg he]
    rw [er]
    have OW := Lib.hid (held_no h f he)
    have H := Lib.hid h
    clear h er he
    go_enter Tryz.func96, Tryz.ntmps96
    go_wp2_with fail
    refine OW.out.mono ?_; rintro e w1 ⟨rfl, rfl⟩
    go_wp2
    go_ret
    exact ⟨rfl, H.out, Chg.refl _ _⟩
end
end Go.Proofs.YthnpalcjfgbjeaaGreat.Fr

/- Package frame: New, Alloc, Write, Read, Fetch, FreeCount. Conditions: those that each states. -/
namespace Go.Proofs.YthnpalcjfgbjeaaGreat.Fr
open Go.ChangeShapes Go.WideShapes Go.ChangeAt Go.RowKit Go.Deep
set_option linter.unusedVariables false

theorem page_info : (Tryz.prog.info? 131).map (fun i => (i.zero.map (·.cells), i.size, i.bytes)) = some (some Pg.blank.cells.toArray, 258, 272) := by kernel_rfl
theorem make_pages (n : Nat) (hn : n ≤ 256) (W : World) :
    (Instr.makeSlice 100 (.int .i64 (n : Int)) (.int .i64 (n : Int))).run Tryz.prog W = .ok (.slice (some ⟨W.heap.size, 0, none⟩) n n) (W.alloc (.cells (madeCells Pg.blank.cells.toArray (n * 258)) 131)) := by
  obtain ⟨i, hi, hs⟩ := Option.map_eq_some_iff.1 page_info
  simp only [Prod.mk.injEq] at hs
  obtain ⟨h0, h1, h2⟩ := hs
  obtain ⟨z, hz, hzc⟩ := Option.map_eq_some_iff.1 h0
  have hr := run_make (P := Tryz.prog) W 100 131 i z Tryz.underlying100 hi hz .i64 .i64 (n : Int) (n : Int) (by omega) (by omega) (by rw [h2]; omega) (by omega)
  simp only [h1, hzc, Int.toNat_natCast] at hr
  exact hr
theorem made_cell (n f i : Nat) (hf : f < n) (hi : i < 258) : (madeCells Pg.blank.cells.toArray (n * 258))[f * 258 + i]? = Pg.blank.cells[i]? := by
  have hl : Pg.blank.cells.length = 258 := Pg.blank_ok.len
  generalize Pg.blank.cells = Z at *
  have hlt : f * 258 + i < n * 258 := by omega
  unfold madeCells
  rw [Array.getElem?_map, Array.getElem?_range, if_pos hlt]
  have e : (f * 258 + i) % Z.toArray.size = i := by
    rw [List.size_toArray, hl]; omega
  simp only [Option.map_some, e]
  have hi' : i < Z.toArray.size := by rw [List.size_toArray, hl]; exact hi
  rw [getElem!_pos Z.toArray i hi', List.getElem_toArray, List.getElem?_eq_getElem (by omega)]

set_option maxRecDepth 100000 in
theorem new_ok (n : Nat) (w : World) (h1 : 1 ≤ n) (h2 : n ≤ 256) :
    Calls Tryz.prog 22 #[.int .i64 (n : Int)] w fun e w' => e = .returned (.tuple #[.pointer (some ⟨w.heap.size + 1, 0, none⟩), .int .i64 0]) ∧ Tab w' w.heap.size (w.heap.size + 1) (List.replicate n .blank) ∧ Below w.heap.size w w' ∧ w'.heap.size = w.heap.size + 2 := by
  have g1 : ¬ (n : Int) < 1 := by omega
  have g2 : ¬ (n : Int) > 256 := by omega
  have fin : ∀ W1 W2 : World, W1 = w.alloc (.cells (madeCells Pg.blank.cells.toArray (n * 258)) 131) → W2 = W1.alloc (.cells #[.slice (some ⟨w.heap.size, 0, none⟩) n n] 102) → Tab W2 w.heap.size (w.heap.size + 1) (List.replicate n .blank) ∧ Below w.heap.size w W2 ∧ W2.heap.size = w.heap.size + 2 := by
    rintro W1 W2 rfl rfl
    refine ⟨⟨by omega, by simpa using h1, by simpa using h2, ?_, fun p hp => by rw [(List.mem_replicate.1 hp).2]; exact Pg.blank_ok, madeCells Pg.blank.cells.toArray (n * 258), (Blk.new w _ _).alloc _, by rw [size_madeCells, List.length_replicate], fun f hf i hi => ?_⟩, ((Below.refl _ w).alloc (Nat.le_refl _) _).alloc (by simp) _, by simp⟩
    · have := Blk.new (w.alloc (.cells (madeCells Pg.blank.cells.toArray (n * 258)) 131)) 102 #[.slice (some ⟨w.heap.size, 0, none⟩) n n]
      rw [List.length_replicate]
      simpa using this
    · rw [List.length_replicate] at hf
      rw [List.getElem_replicate]
      exact made_cell n f i hf hi
  have FIN := Lib.hid fin
  have hm := fun W => make_pages n h2 W
  clear fin
  generalize madeCells Pg.blank.cells.toArray (n * 258) = Z at *
  go_enter Tryz.func22, Tryz.ntmps22
  go_wp2
  go_ret2
  exact ⟨rfl, FIN.out _ _ rfl rfl⟩
theorem new_no (n : Int) (w : World) (h : n < 1 ∨ 256 < n) :
    Calls Tryz.prog 22 #[.int .i64 n] w fun e w' => e = .returned (.tuple #[.pointer none, .int .i64 1]) ∧ w' = w := by
  by_cases h1 : n < 1
  · clear h
    go_enter Tryz.func22, Tryz.ntmps22
    go_wp2
    go_ret2
    exact ⟨rfl, rfl⟩
  · have h2 : n > 256 := by omega
    clear h
    go_enter Tryz.func22, Tryz.ntmps22
    go_wp2
    go_ret2
    exact ⟨rfl, rfl⟩

def allocR (ps : List Pg) (env : Int) : List Pg × Int × Int :=
  if isE env then (match ps.findIdx? (fun p => p.owner == 0) with | some k => (ps.set k { pg ps k with owner := env.toNat }, (k : Int), 0) | none => (ps, 0, 10)) else (ps, 0, 1)
def freeN (ps : List Pg) : Nat := (ps.filter fun p => p.owner == 0).length
def writeR (ps : List Pg) (env f off : Int) (s : List UInt8) : List Pg × Int :=
  if ownErr ps env f = 0 then (if isIn off (s.length : Int) then (if (pg ps f).holds = 0 then (ps.set f.toNat { pg ps f with text := (pg ps f).text.take off.toNat ++ s ++ (pg ps f).text.drop (off.toNat + s.length) }, 0) else (ps, 21)) else (ps, 1)) else (ps, ownErr ps env f)
def readR (ps : List Pg) (env f off n : Int) : List UInt8 × Int :=
  if ownErr ps env f = 0 then (if isIn off n then (((pg ps f).text.drop off.toNat).take n.toNat, 0) else ([], 1)) else ([], ownErr ps env f)
def fetchR (ps : List Pg) (f off n : Int) : List UInt8 × Int :=
  if isH ps f then (if isIn off n then (((pg ps f).text.drop off.toNat).take n.toNat, 0) else ([], 1)) else ([], 1)

section
variable {gs g : Nat} {ps : List Pg} {w : World}
set_option maxRecDepth 100000 in
theorem alloc_any (h : Tab w gs g ps) (env : Int) :
    Calls Tryz.prog 44 #[.pointer (some ⟨g, 0, none⟩), .int .i64 env] w fun e w' => e = .returned (.tuple #[.int .i64 (allocR ps env).2.1, .int .i64 (allocR ps env).2.2]) ∧ Tab w' gs g (allocR ps env).1 ∧ Chg w w' (fun k => k = gs) := by
  have c0 := head_cell h
  have n2 := h.n2
  have H := Lib.hid h
  by_cases hE : isE env
  · have TO := Lib.hid (isEnv_yes env hE w)
    have HE := Lib.hid hE
    clear hE h
    go_enter Tryz.func44, Tryz.ntmps44
    go_wp2_with fail
    refine TO.out.mono ?_; rintro e w1 ⟨rfl, rfl⟩
    go_wp2
    go_loopw [17] (fun i wr => ∃ (j : Nat), j ≤ ps.length ∧ i = .int .i64 (j : Int) ∧ Hid (∀ x (hx : x < ps.length), x < j → ps[x].owner ≠ 0) ∧ wr = w1) (fun i _ => ps.length - (intOf i).toNat)
    case atStart => exact ⟨0, Nat.zero_le _, rfl, Lib.hid (fun _ _ h => absurd h (by omega)), rfl⟩
    case round =>
      obtain ⟨j, hj, rfl, HM, rfl⟩ := hrel
      by_cases hlt : j < ps.length
      · have hlt' : (j : Int) < (ps.length : Int) := by omega
        have j0 : (0 : Int) ≤ (j : Int) := by omega
        have c1 := H.out.owner hlt
        have f0 := H.out.thaw (j * 258)
        by_cases ho : ps[j].owner = 0
        · have hfi : ps.findIdx? (fun p => p.owner == 0) = some j := by
            rw [List.findIdx?_eq_some_iff_getElem]
            exact ⟨hlt, by simpa using ho, fun x hx => by have := HM.out x (by omega) hx; simpa using this⟩
          have er : allocR ps env = (ps.set j { ps[j] with owner := env.toNat }, (j : Int), 0) := by
            unfold allocR; rw [if_pos HE.out, hfi]; simp only [pg_at hlt]
          have ER := Lib.hid er
          have oko := H.out.at_ hlt
          have oto : env.toNat ≤ 2 := by rcases HE.out with e | e <;> omega
          have eto : ((env.toNat : Nat) : Int) = env := by rcases HE.out with e | e <;> rw [e] <;> rfl
          have hv := H.out.set hlt (i := 0) (by omega) (.int .i64 env) { ps[j] with owner := env.toNat } ⟨oto, oko.h, oko.t⟩ (by
            unfold Pg.cells; rw [List.set_cons_zero]; simp only [eto])
          rw [Nat.add_zero] at hv
          have HV := Lib.hid hv
          rw [ho] at c1
          clear hv er oko oto eto hfi ho
          go_wp2
          go_ret2
          rw [ER.out]
          exact ⟨rfl, HV.out, Chg.set _ _ _ rfl⟩
        · have ho' : ((ps[j].owner : Int) == 0) = false := by simpa using ho
          have HM2 : Hid (∀ x (hx : x < ps.length), x < j + 1 → ps[x].owner ≠ 0) := Lib.hid (fun x hx h => by
            by_cases e : x = j
            · subst e; exact ho
            · exact HM.out x hx (by omega))
          have x1 := IntWalk.i64_in ((j : Int) + 1) (by omega)
          generalize (ps[j].owner : Int) = v at *
          clear ho
          go_wp2
          go_roundw
          case rel => exact ⟨j + 1, by omega, by simp, HM2, by first | rfl | trivial⟩
          case measure => simp [intOf]; omega
      · have hge : ¬ (j : Int) < (ps.length : Int) := by omega
        have hfi : ps.findIdx? (fun p => p.owner == 0) = none := by
          rw [List.findIdx?_eq_none_iff]
          intro p hp
          obtain ⟨x, hx, rfl⟩ := List.mem_iff_getElem.1 hp
          have := HM.out x hx (by omega)
          simpa using this
        have er : allocR ps env = (ps, 0, 10) := by unfold allocR; rw [if_pos HE.out, hfi]
        have ER := Lib.hid er
        clear er hfi
        go_wp2
        go_ret2
        rw [ER.out]
        exact ⟨rfl, H.out, Chg.refl _ _⟩
  · have TO := Lib.hid (isEnv_no env hE w)
    have er : allocR ps env = (ps, 0, 1) := by unfold allocR; rw [if_neg hE]
    rw [er]
    clear hE h er
    go_enter Tryz.func44, Tryz.ntmps44
    go_wp2_with fail
    refine TO.out.mono ?_; rintro e w1 ⟨rfl, rfl⟩
    go_wp2
    go_ret2
    exact ⟨rfl, H.out, Chg.refl _ _⟩
end
end Go.Proofs.YthnpalcjfgbjeaaGreat.Fr

/- Package frame: Write, Read, Fetch; the chapter's example. Conditions: those that each states. -/
namespace Go.Proofs.YthnpalcjfgbjeaaGreat.Fr
open Go.ChangeShapes Go.WideShapes Go.ChangeAt Go.RowKit Go.Deep
set_option linter.unusedVariables false

section
variable {gs g : Nat} {ps : List Pg} {w : World}
set_option maxRecDepth 100000 in
theorem write_any (h : Tab w gs g ps) (env f off : Int) (wo : -9223372036854775808 ≤ off ∧ off ≤ 9223372036854775807) (A : Option Addr) (n c : Nat) (s : List UInt8) (hs : Src w A n c s) :
    Calls Tryz.prog 47 #[.pointer (some ⟨g, 0, none⟩), .int .i64 env, .int .i64 f, .int .i64 off, .slice A n c] w fun e w' => e = .returned (.int .i64 (writeR ps env f off s).2) ∧ Tab w' gs g (writeR ps env f off s).1 ∧ Chg w w' (fun k => k = gs) := by
  obtain rfl : s.length = n := hs.len
  by_cases he : ownErr ps env f = 0
  · obtain ⟨k, hk, rfl, hE, ho⟩ := ownErr_zero he
    have n2 := h.n2
    have OW := Lib.hid (owned_ok h env k hk hE ho)
    have c1 := h.holds hk
    have H := Lib.hid h
    by_cases hin : isIn off (s.length : Int)
    · have WI := Lib.hid (within_yes off s.length hin w)
      by_cases hh : ps[k].holds = 0
      · have er : writeR ps env k off s = (ps.set k { ps[k] with text := ps[k].text.take off.toNat ++ s ++ ps[k].text.drop (off.toNat + s.length) }, 0) := by
          unfold writeR; rw [if_pos he, if_pos hin, pg_at hk, if_pos hh, Int.toNat_natCast]
        rw [er]
        obtain ⟨o, rfl⟩ : ∃ o : Nat, off = (o : Int) := ⟨off.toNat, by have := hin.1; omega⟩
        have hfit : o + s.length ≤ 256 := by have := hin.2.2; omega
        rw [Int.toNat_natCast]
        have oko := h.at_ hk
        obtain ⟨cs, hb, hsz, _⟩ := h.row
        have hlen : (bys s).length = s.length := bys_length s
        have htl := oko.t
        have hv := h.seg hk (i := 2 + o) (bys s) (by omega) { ps[k] with text := ps[k].text.take o ++ s ++ ps[k].text.drop (o + s.length) } ⟨oko.o, oko.h, by simp [htl]; omega⟩ (by
          have e1 : 2 + o = o + 1 + 1 := by omega
          have e2 : 2 + o + (bys s).length = o + s.length + 1 + 1 := by omega
          rw [e2, e1]
          simp only [Pg.cells, List.take_succ_cons, List.drop_succ_cons, bys_append, bys_take, bys_drop, List.cons_append]) hb
        rw [← Nat.add_assoc] at hv
        have hcut := run_cut1 ⟨gs, k * 258 + 2, none⟩ o (by omega)
        have hmin : (bys s).length = Nat.min s.length (256 - o) := by
          rw [hlen]; exact (Nat.min_eq_left (by omega)).symm
        have hpos : 0 < (bys s).length → some (cutAt ⟨gs, k * 258 + 2, none⟩ o) = some ⟨gs, k * 258 + 2 + o, none⟩ ∧ ∃ ad, A = some ad ∧ ∀ j v, (bys s)[j]? = some v → w.cell? (ad.add j) = some v := by
          intro hp
          refine ⟨by rw [cutAt_lt (by omega)], ?_⟩
          obtain ⟨b, o', rfl, _, _⟩ := hs.lies hp
          exact ⟨_, rfl, fun j v hv => Bytes.at_ _ hs.toBytes j v hv⟩
        have HB := Lib.hid hb
        have HV := Lib.hid hv
        have HMIN := Lib.hid hmin
        have HPOS := Lib.hid hpos
        have hall := bys_all s
        have HALL := Lib.hid hall
        generalize bys s = Z at *
        rw [hh] at c1
        generalize cutAt ⟨gs, k * 258 + 2, none⟩ o = ca at *
        clear h hb hv hE ho he er hh hmin hpos hall hin hs oko htl hlen
        go_enter Tryz.func47, Tryz.ntmps47
        go_wp2_with fail
        refine OW.out.mono ?_; rintro e w1 ⟨rfl, rfl⟩
        go_wp2_with fail
        refine WI.out.mono ?_; rintro e w1 ⟨rfl, rfl⟩
        go_wp2_with (refine wpList_copy_row rfl (.tmp 37) (.tmp 38) 34 34 rfl 5 Tryz.underlying34 u8_size (some ca) A (256 - o) (256 - o) s.length c rfl rfl gs (k * 258 + 2 + o) cs 131 HB.out Z HMIN.out HPOS.out HV.out.1 HALL.out ?_)
        go_ret
        refine ⟨rfl, ?_, Chg.setRow _ _ rfl⟩
        have hv := HV.out.2
        rw [List.append_assoc] at hv
        exact hv
      · have er : writeR ps env k off s = (ps, 21) := by unfold writeR; rw [if_pos he, if_pos hin, pg_at hk, if_neg hh]
        rw [er]
        have hk1 : (ps[k].holds : Int) > 0 := by omega
        generalize (ps[k].holds : Int) = v at *
        clear h hE ho he er hh hin hs wo
        go_enter Tryz.func47, Tryz.ntmps47
        go_wp2_with fail
        refine OW.out.mono ?_; rintro e w1 ⟨rfl, rfl⟩
        go_wp2_with fail
        refine WI.out.mono ?_; rintro e w1 ⟨rfl, rfl⟩
        go_wp2
        go_ret
        exact ⟨rfl, H.out, Chg.refl _ _⟩
    · have WI := Lib.hid (within_no off s.length wo hin w)
      have er : writeR ps env k off s = (ps, 1) := by unfold writeR; rw [if_pos he, if_neg hin]
      rw [er]
      clear h hE ho he er hin hs wo c1
      go_enter Tryz.func47, Tryz.ntmps47
      go_wp2_with fail
      refine OW.out.mono ?_; rintro e w1 ⟨rfl, rfl⟩
      go_wp2_with fail
      refine WI.out.mono ?_; rintro e w1 ⟨rfl, rfl⟩
      go_wp2
      go_ret
      exact ⟨rfl, H.out, Chg.refl _ _⟩
  · have er : writeR ps env f off s = (ps, ownErr ps env f) := by unfold writeR; rw [if_neg he]
    rw [er]
    have OW := Lib.hid (owned_no h env f he)
    have H := Lib.hid h
    have hv : (ownErr ps env f == 0) = false := by simpa using he
    generalize ownErr ps env f = v at *
    clear h er he wo hs
    go_enter Tryz.func47, Tryz.ntmps47
    go_wp2_with fail
    refine OW.out.mono ?_; rintro e w1 ⟨rfl, rfl⟩
    go_wp2
    go_ret
    exact ⟨rfl, H.out, Chg.refl _ _⟩

set_option maxRecDepth 100000 in
theorem piece_yes (h : Tab w gs g ps) (k : Nat) (hk : k < ps.length) (o n : Nat) (hn : o + n ≤ 256) :
    Calls Tryz.prog 36 #[.pointer (some ⟨gs, k * 258, none⟩), .int .i64 (o : Int), .int .i64 (n : Int)] w fun e w' => ∃ A c, e = .returned (.tuple #[.slice A n c, .int .i64 0]) ∧ Src w' A n c ((ps[k].text.drop o).take n) ∧ Below w.heap.size w w' := by
  have n2 := h.n2
  have WI := Lib.hid (within_yes o n ⟨by omega, by omega, by omega⟩ w)
  have hcut := run_cut2 ⟨gs, k * 258 + 2, none⟩ o n hn
  have CL := Lib.hid (clone_some _ _ _ _ w (cut_src h hk hn) (by omega))
  have x0 := IntWalk.i64_in ((o : Int) + (n : Int)) (by omega)
  generalize cutAt ⟨gs, k * 258 + 2, none⟩ o = ca at *
  clear h
  go_enter Tryz.func36, Tryz.ntmps36
  go_wp2_with fail
  refine WI.out.mono ?_; rintro e w1 ⟨rfl, rfl⟩
  go_wp2_with fail
  refine CL.out.mono ?_; rintro e w2 ⟨A', c', rfl, S2, b2⟩
  have HS2 := Lib.hid S2
  have B2 := Lib.hid b2
  clear S2 b2
  go_wp2
  go_ret2
  exact ⟨A', c', rfl, HS2.out, B2.out⟩
theorem piece_no (p : Value) (o n : Int) (wo : -9223372036854775808 ≤ o ∧ o ≤ 9223372036854775807) (hn : ¬ isIn o n) :
    Calls Tryz.prog 36 #[p, .int .i64 o, .int .i64 n] w fun e w' => e = .returned (.tuple #[.slice none 0 0, .int .i64 1]) ∧ w' = w := by
  have WI := Lib.hid (within_no o n wo hn w)
  clear hn wo
  go_enter Tryz.func36, Tryz.ntmps36
  go_wp2_with fail
  refine WI.out.mono ?_; rintro e w1 ⟨rfl, rfl⟩
  go_wp2
  go_ret2
  exact ⟨rfl, rfl⟩

set_option maxRecDepth 100000 in
theorem read_any (h : Tab w gs g ps) (env f off n : Int) (wo : -9223372036854775808 ≤ off ∧ off ≤ 9223372036854775807) :
    Calls Tryz.prog 12 #[.pointer (some ⟨g, 0, none⟩), .int .i64 env, .int .i64 f, .int .i64 off, .int .i64 n] w fun e w' => ∃ A c, e = .returned (.tuple #[.slice A (readR ps env f off n).1.length c, .int .i64 (readR ps env f off n).2]) ∧ Src w' A (readR ps env f off n).1.length c (readR ps env f off n).1 ∧ Below w.heap.size w w' := by
  by_cases he : ownErr ps env f = 0
  · obtain ⟨k, hk, rfl, hE, ho⟩ := ownErr_zero he
    have OW := Lib.hid (owned_ok h env k hk hE ho)
    by_cases hin : isIn off n
    · have er : readR ps env k off n = ((ps[k].text.drop off.toNat).take n.toNat, 0) := by unfold readR; rw [if_pos he, if_pos hin, pg_at hk]
      rw [er]
      obtain ⟨o, rfl⟩ : ∃ o : Nat, off = (o : Int) := ⟨off.toNat, by have := hin.1; omega⟩
      obtain ⟨m, rfl⟩ : ∃ m : Nat, n = (m : Int) := ⟨n.toNat, by have := hin.2.1; omega⟩
      have hfit : o + m ≤ 256 := by have := hin.2.2; omega
      simp only [Int.toNat_natCast]
      have htl := (h.at_ hk).t
      have hl : ((ps[k].text.drop o).take m).length = m := by simp [htl]; omega
      have PC := Lib.hid (piece_yes h k hk o m hfit)
      rw [hl]
      generalize (ps[k].text.drop o).take m = l at *
      clear h hE ho he er hin htl hl wo
      go_enter Tryz.func12, Tryz.ntmps12
      go_wp2_with fail
      refine OW.out.mono ?_; rintro e w1 ⟨rfl, rfl⟩
      go_wp2_with fail
      refine PC.out.mono ?_; rintro e w2 ⟨A', c', rfl, S2, b2⟩
      have HS2 := Lib.hid S2
      have B2 := Lib.hid b2
      clear S2 b2
      go_wp2
      go_ret2
      exact ⟨A', c', rfl, HS2.out, B2.out⟩
    · have er : readR ps env k off n = ([], 1) := by unfold readR; rw [if_pos he, if_neg hin]
      rw [er]
      have PC := Lib.hid (piece_no (w := w) (.pointer (some ⟨gs, k * 258, none⟩)) off n wo hin)
      clear h hE ho he er hin wo
      go_enter Tryz.func12, Tryz.ntmps12
      go_wp2_with fail
      refine OW.out.mono ?_; rintro e w1 ⟨rfl, rfl⟩
      go_wp2_with fail
      refine PC.out.mono ?_; rintro e w2 ⟨rfl, rfl⟩
      go_wp2
      go_ret2
      exact ⟨none, 0, rfl, Src.nil _, Below.refl _ _⟩
  · have er : readR ps env f off n = ([], ownErr ps env f) := by unfold readR; rw [if_neg he]
    rw [er]
    have OW := Lib.hid (owned_no h env f he)
    have hv : (ownErr ps env f == 0) = false := by simpa using he
    generalize ownErr ps env f = v at *
    clear h er he wo
    go_enter Tryz.func12, Tryz.ntmps12
    go_wp2_with fail
    refine OW.out.mono ?_; rintro e w1 ⟨rfl, rfl⟩
    go_wp2
    go_ret2
    exact ⟨none, 0, rfl, Src.nil _, Below.refl _ _⟩

end
end Go.Proofs.YthnpalcjfgbjeaaGreat.Fr
