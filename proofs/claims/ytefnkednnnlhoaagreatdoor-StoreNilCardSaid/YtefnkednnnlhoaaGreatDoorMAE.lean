/- Package frame: cuts of a frame's bytes, copies into them, bytes.Clone, texts as bytes and back; the frame that a call names. Conditions: those that each states. -/
import Derived.Test.YtefnkednnnlhoaaGreatDoorMAD
import Derived.Lib.Bytes
import Derived.Lib.SliceRun
import Derived.Laws.IdiomStrings
import Derived.Lib.ConvBytes
import Derived.Test.YtefnkednnnlhoaaGreatDoorMAC
import Derived.Deep.RegionLaw
import Derived.Deep.Cut
import Derived.Deep.CutBlock
namespace Go.Proofs.YtefnkednnnlhoaaGreatDoor.Fr
open Go.ChangeShapes Go.WideShapes Go.ChangeAt Go.RowKit Go.Deep
set_option linter.unusedVariables false

/-- 'copy(d, s)': the row behind it, whatever lies where, an empty source too. -/
theorem wpList_copy_row {P : Program} {w : World} {ops : Array Oper} {rest : List Oper} {o : Oper} {a : Act} {Q : Exit → Act → World → Prop} (hgd : o.guard = none) (d s : Operand) (dT sT : TypeId)
    (ho : o.op = .call { callee := .builtin .copy, args := #[d, s], argTypes := #[dT, sT] }) (elem : TypeId) (hu : P.underlying dT = some (.slice elem)) (hsz : (P.info? elem).map (·.size) = some 1)
    (dp sp : Option Addr) (dLen dCap sLen sCap : Nat) (hd : a.eval d = .slice dp dLen dCap) (hs : a.eval s = .slice sp sLen sCap)
    (g off : Nat) (cur : Array Value) (t : TypeId) (hg : Blk w g t cur) (cs : List Value) (hn : cs.length = Nat.min sLen dLen)
    (hpos : 0 < cs.length → dp = some ⟨g, off, none⟩ ∧ ∃ ad, sp = some ad ∧ ∀ j v, cs[j]? = some v → w.cell? (ad.add j) = some v)
    (hfit : off + cs.length ≤ cur.size) (h1 : ∀ v ∈ cs, v.oneCell' = true)
    (h : wpList P ops Q rest (a.put o.dst (goInt cs.length)) (w.setRow g (cur.toList.take off ++ cs ++ cur.toList.drop (off + cs.length)).toArray)) :
    wpList P ops Q (o :: rest) a w := by
  by_cases h0 : cs.length = 0
  · obtain rfl : cs = [] := List.eq_nil_of_length_eq_zero h0
    refine wpList_copy_nothing hgd d s dT sT ho elem hu hsz dp sp dLen dCap sLen sCap hd hs (by simpa using hn.symm) ?_
    have e : w.setRow g (cur.toList.take off ++ [] ++ cur.toList.drop (off + ([] : List Value).length)).toArray = w := by
      simp only [List.append_nil, List.length_nil, Nat.add_zero, List.take_append_drop, Array.toArray_toList]
      exact setRow_self w g cur t (0, 0) hg
    rw [e] at h
    exact h
  · obtain ⟨rfl, ad, rfl, hsrc⟩ := hpos (by omega)
    refine wpList_copy_own hgd d s dT sT ho elem hu hsz g off dLen dCap ad sLen sCap hd hs cur t hg cs hn hsrc hfit h1 ?_
    rw [← List.append_assoc]
    exact h

theorem u8_size : (Tryz.prog.info? 5).map (·.size) = some 1 := by kernel_rfl
theorem page_size : (Tryz.prog.info? 190).map (·.size) = some 258 := by kernel_rfl

/-- Where '&text[off]' lies. -/
def cutAt (a : Addr) (off : Nat) : Addr := if 256 = off then a else a.add (off * 1)
theorem arr_under : Tryz.prog.underlying 188 = some (.array (Tryz.prog.arrayLen 188) (Tryz.prog.elem 188)) := by kernel_rfl
theorem arr_len : Tryz.prog.arrayLen 188 = 256 := by kernel_rfl
theorem arr_elem : Tryz.prog.elem 188 = 5 := by kernel_rfl
theorem size_u8 (W : World) : (sizeOf 5).run Tryz.prog W = .ok 1 W := by
  obtain ⟨i, hi, hs⟩ := Option.map_eq_some_iff.1 u8_size
  simp [sizeOf, typeInfo, hi, hs]
theorem run_cut2 (a : Addr) (off n : Nat) (h : off + n ≤ 256) (W : World) :
    (Instr.sliceAt 188 (.pointer (some a)) (some (.int .i64 (off : Int))) (some (.int .i64 ((off : Int) + (n : Int)))) none).run Tryz.prog W = .ok (.slice (some (cutAt a off)) n (256 - off)) W := by
  rw [run_sliceAt_array_lh W 188 a arr_under .i64 .i64 (off : Int) ((off : Int) + (n : Int)) (by omega) (by omega) (by rw [arr_len]; omega), arr_elem, size_u8, arr_len]
  have e : ((off : Int) + (n : Int)).toNat - off = n := by omega
  simp only [Result.andThen_ok, slicedAt, cutAt, Int.toNat_natCast, e]
theorem run_cut1 (a : Addr) (off : Nat) (h : off ≤ 256) (W : World) :
    (Instr.sliceAt 188 (.pointer (some a)) (some (.int .i64 (off : Int))) none none).run Tryz.prog W = .ok (.slice (some (cutAt a off)) (256 - off) (256 - off)) W := by
  rw [run_sliceAt_array_l W 188 a arr_under .i64 (off : Int) (by omega) (by rw [arr_len]; omega), arr_elem, size_u8, arr_len]
  simp only [Result.andThen_ok, slicedAt, cutAt, Int.toNat_natCast]
theorem cutAt_lt {b o off : Nat} (h : off < 256) : cutAt ⟨b, o, none⟩ off = ⟨b, o + off, none⟩ := by
  unfold cutAt
  rw [if_neg (by omega), Nat.mul_one]
  unfold Addr.add; split <;> simp_all
theorem cut_src {w : World} {gs g : Nat} {ps : List Pg} (h : Tab w gs g ps) {f : Nat} (hf : f < ps.length) {off n : Nat} (hn : off + n ≤ 256) :
    Src w (some (cutAt ⟨gs, f * 258 + 2, none⟩ off)) n (256 - off) ((ps[f].text.drop off).take n) := by
  by_cases ho : off < 256
  · rw [cutAt_lt ho]
    exact h.bytes hf hn (by omega) (by omega)
  · have hn0 : n = 0 := by omega
    subst hn0
    exact ⟨⟨by simpa [bys] using lies_nil w _, by simp, by omega, by omega⟩, fun e => by cases e⟩

instance (env : Int) : Decidable (isE env) := inferInstanceAs (Decidable (_ ∨ _))
instance (ps : List Pg) (f : Int) : Decidable (isF ps f) := inferInstanceAs (Decidable (_ ∧ _))
instance (off n : Int) : Decidable (isIn off n) := inferInstanceAs (Decidable (_ ∧ _))
/-- The frame of that number. -/
def pg (ps : List Pg) (f : Int) : Pg := ps.getD f.toNat .blank
theorem pg_at {ps : List Pg} {k : Nat} (hk : k < ps.length) : pg ps (k : Int) = ps[k] := by simp [pg, hk]
/-- What a call that asks for an owner answers where it may not. -/
def ownErr (ps : List Pg) (env f : Int) : Int := if isE env ∧ isF ps f then (if ((pg ps f).owner : Int) = env then 0 else 20) else 1
theorem ownErr_zero {ps : List Pg} {env f : Int} (h : ownErr ps env f = 0) : ∃ k, ∃ hk : k < ps.length, f = (k : Int) ∧ isE env ∧ (ps[k].owner : Int) = env := by
  unfold ownErr at h
  by_cases h1 : isE env ∧ isF ps f
  · rw [if_pos h1] at h
    obtain ⟨a, b, c⟩ := h1
    obtain ⟨k, rfl⟩ : ∃ k : Nat, f = (k : Int) := ⟨f.toNat, by omega⟩
    have hk : k < ps.length := by omega
    rw [pg_at hk] at h
    by_cases h2 : (ps[k].owner : Int) = env
    · exact ⟨k, hk, rfl, a, h2⟩
    · rw [if_neg h2] at h; omega
  · rw [if_neg h1] at h; omega
section
variable {gs g : Nat} {ps : List Pg} {w : World}
set_option maxRecDepth 100000 in
theorem owned_ok (h : Tab w gs g ps) (env : Int) (k : Nat) (hk : k < ps.length) (hE : isE env) (ho : (ps[k].owner : Int) = env) :
    Calls Tryz.prog 99 #[.pointer (some ⟨g, 0, none⟩), .int .i64 env, .int .i64 (k : Int)] w fun e w' => e = .returned (.tuple #[.pointer (some ⟨gs, k * 258, none⟩), .int .i64 0]) ∧ w' = w := by
  have c0 := head_cell h
  have c1 := h.owner hk
  rw [ho] at c1
  have n2 := h.n2
  have HE := Lib.hid (isEnv_yes env hE w)
  have HS := Lib.hid (has_yes h k ⟨by omega, by omega⟩)
  have g1 : (0 : Int) ≤ (k : Int) := by omega
  have g2 : (k : Int) < (ps.length : Int) := by omega
  clear h ho hE
  go_enter Tryz.func99, Tryz.ntmps99
  go_wp2_with fail
  refine HE.out.mono ?_; rintro e w1 ⟨rfl, rfl⟩
  go_wp2_with fail
  refine HS.out.mono ?_; rintro e w1 ⟨rfl, rfl⟩
  go_wp2
  go_ret2
  exact ⟨rfl, rfl⟩
set_option maxRecDepth 100000 in
theorem owned_no (h : Tab w gs g ps) (env f : Int) (he : ownErr ps env f ≠ 0) :
    Calls Tryz.prog 99 #[.pointer (some ⟨g, 0, none⟩), .int .i64 env, .int .i64 f] w fun e w' => e = .returned (.tuple #[.pointer none, .int .i64 (ownErr ps env f)]) ∧ w' = w := by
  by_cases hE : isE env
  · have HE := Lib.hid (isEnv_yes env hE w)
    by_cases hF : isF ps f
    · obtain ⟨k, rfl⟩ : ∃ k : Nat, f = (k : Int) := ⟨f.toNat, by have := hF.1; omega⟩
      have hk : k < ps.length := by have := hF.2; omega
      have ho : ¬ (ps[k].owner : Int) = env := by
        intro e
        apply he
        unfold ownErr
        rw [if_pos ⟨hE, hF⟩, pg_at hk, if_pos e]
      have e20 : ownErr ps env k = 20 := by
        unfold ownErr
        rw [if_pos ⟨hE, hF⟩, pg_at hk, if_neg ho]
      have c0 := head_cell h
      have c1 := h.owner hk
      have n2 := h.n2
      have HS := Lib.hid (has_yes h k hF)
      have g1 : (0 : Int) ≤ (k : Int) := by omega
      have g2 : (k : Int) < (ps.length : Int) := by omega
      have ho' : ((ps[k].owner : Int) == env) = false := by simpa using ho
      rw [e20]
      generalize (ps[k].owner : Int) = v at *
      clear h hE he hF e20
      go_enter Tryz.func99, Tryz.ntmps99
      go_wp2_with fail
      refine HE.out.mono ?_; rintro e w1 ⟨rfl, rfl⟩
      go_wp2_with fail
      refine HS.out.mono ?_; rintro e w1 ⟨rfl, rfl⟩
      go_wp2
      go_ret2
      exact ⟨rfl, rfl⟩
    · have e1 : ownErr ps env f = 1 := by
        unfold ownErr
        rw [if_neg (fun x => hF x.2)]
      have HS := Lib.hid (has_no h f hF)
      rw [e1]
      clear h hE he hF e1
      go_enter Tryz.func99, Tryz.ntmps99
      go_wp2_with fail
      refine HE.out.mono ?_; rintro e w1 ⟨rfl, rfl⟩
      go_wp2_with fail
      refine HS.out.mono ?_; rintro e w1 ⟨rfl, rfl⟩
      go_wp2
      go_ret2
      exact ⟨rfl, rfl⟩
  · have HE := Lib.hid (isEnv_no env hE w)
    have e1 : ownErr ps env f = 1 := by
      unfold ownErr
      rw [if_neg (fun x => hE x.1)]
    rw [e1]
    clear h hE he e1
    go_enter Tryz.func99, Tryz.ntmps99
    go_wp2_with fail
    refine HE.out.mono ?_; rintro e w1 ⟨rfl, rfl⟩
    go_wp2
    go_ret2
    exact ⟨rfl, rfl⟩
/-- A transfer reads the frame of that number. -/
def isH (ps : List Pg) (f : Int) : Prop := isF ps f ∧ (pg ps f).holds ≠ 0
instance (ps : List Pg) (f : Int) : Decidable (isH ps f) := inferInstanceAs (Decidable (_ ∧ _))
set_option maxRecDepth 100000 in
theorem held_ok (h : Tab w gs g ps) (k : Nat) (hk : k < ps.length) (hh : ps[k].holds ≠ 0) :
    Calls Tryz.prog 166 #[.pointer (some ⟨g, 0, none⟩), .int .i64 (k : Int)] w fun e w' => e = .returned (.tuple #[.pointer (some ⟨gs, k * 258, none⟩), .int .i64 0]) ∧ w' = w := by
  have c0 := head_cell h
  have n2 := h.n2
  have HS := Lib.hid (holds_yes h k hk)
  have g1 : (0 : Int) ≤ (k : Int) := by omega
  have g2 : (k : Int) < (ps.length : Int) := by omega
  have hv : ((ps[k].holds : Int) == 0) = false := by simpa using hh
  generalize (ps[k].holds : Int) = v at *
  clear h hh
  go_enter Tryz.func166, Tryz.ntmps166
  go_wp2_with fail
  refine HS.out.mono ?_; rintro e w1 ⟨rfl, rfl⟩
  go_wp2
  go_ret2
  exact ⟨rfl, rfl⟩
theorem held_no (h : Tab w gs g ps) (f : Int) (hh : ¬ isH ps f) :
    Calls Tryz.prog 166 #[.pointer (some ⟨g, 0, none⟩), .int .i64 f] w fun e w' => e = .returned (.tuple #[.pointer none, .int .i64 1]) ∧ w' = w := by
  have HS : Hid (Calls Tryz.prog 160 #[.pointer (some ⟨g, 0, none⟩), .int .i64 f] w fun e w' => e = .returned (.int .i64 0) ∧ w' = w) := by
    by_cases hF : isF ps f
    · obtain ⟨k, rfl⟩ : ∃ k : Nat, f = (k : Int) := ⟨f.toNat, by have := hF.1; omega⟩
      have hk : k < ps.length := by have := hF.2; omega
      have h0 : ps[k].holds = 0 := by
        by_cases e : ps[k].holds = 0
        · exact e
        · exact absurd ⟨hF, by rw [pg_at hk]; exact e⟩ hh
      have := holds_yes h k hk
      rw [h0] at this
      exact Lib.hid this
    · exact Lib.hid (holds_no h f hF)
  clear h hh
  go_enter Tryz.func166, Tryz.ntmps166
  go_wp2_with fail
  refine HS.out.mono ?_; rintro e w1 ⟨rfl, rfl⟩
  go_wp2
  go_ret2
  exact ⟨rfl, rfl⟩
end
end Go.Proofs.YtefnkednnnlhoaaGreatDoor.Fr

/- slices.Clone of programs and of lists of pieces, bytes.Clone; slices.IndexFunc and slices.Delete of filters. Conditions: those that each states. -/
namespace Go.Proofs.YtefnkednnnlhoaaGreatDoor.Ke
open Go.ChangeShapes Go.WideShapes Go.ChangeAt Go.RowKit Go.Deep Di
set_option linter.unusedVariables false

/-- What lies at A, n elements of it, lies in blocks that were not there in w. -/
def Fresh (w : World) (A : Option Addr) (n : Nat) : Prop := 0 < n → ∀ b o, A = some ⟨b, o, none⟩ → w.heap.size ≤ b

theorem ops_infos : (Tryz.prog.info? 203).map (fun i => (i.zero.map (·.cells.size), i.size, i.bytes)) = some (some 4, 4, 32) := by kernel_rfl
theorem ops_info : ∃ i0 z, Tryz.prog.info? 203 = some i0 ∧ i0.zero = some z ∧ i0.size = 4 ∧ i0.bytes = 32 ∧ z.cells.size = 4 := by
  obtain ⟨i, hi, hs⟩ := Option.map_eq_some_iff.1 ops_infos
  simp only [Prod.mk.injEq] at hs
  obtain ⟨h0, h1, h2⟩ := hs
  obtain ⟨z, hz, hzs⟩ := Option.map_eq_some_iff.1 h0
  exact ⟨i, z, hi, hz, h1, h2, hzs⟩

theorem clone_prg (A : Option Addr) (c : Nat) (p : List Ins) (w : World) (hp : Prg w A p) (hn : A = none → p = [] ∧ c = 0) (hmax : p.length ≤ 1000000) :
    Calls Tryz.prog 107 #[.slice A p.length c] w fun e w' => ∃ A' c', e = .returned (.slice A' p.length c') ∧ Prg w' A' p ∧ Fresh w A' p.length ∧ Below w.heap.size w w' := by
  obtain ⟨i0, z0, hi, hz, hsz, hby, hzs⟩ := ops_info
  have HP := Lib.hid hp
  have HN := Lib.hid hn
  have INF := Lib.hid (And.intro hi (And.intro hz (And.intro hsz (And.intro hby hzs))))
  cases A with
  | none =>
    obtain ⟨rfl, rfl⟩ := hn rfl
    have he : ∀ W, (binOp .eql 107 (.slice none 0 0) (.slice none 0 0)).run Tryz.prog W = .ok (.bool (none : Option Addr).isNone) W := fun W => Lib.run_eql_slice_nil W 107 203 none 0 0 0 0 Tryz.underlying107
    have he := fun W => (he W).trans (congrArg (fun b => Result.ok (Value.bool b) W) (show (none : Option Addr).isNone = true from rfl))
    clear hn hp hi hz hsz hby hzs
    have h0 : Calls Tryz.prog 107 #[.slice none 0 0] w fun e w' => e = .returned (.slice none 0 0) ∧ w' = w := by
      go_enter Tryz.func107, Tryz.ntmps107
      go_wp2
      go_ret
      exact ⟨rfl, rfl⟩
    refine h0.mono ?_
    rintro e w' ⟨rfl, rfl⟩
    exact ⟨none, 0, rfl, HP.out, fun h => absurd h (by decide), Below.refl _ _⟩
  | some ad =>
    have he : ∀ W, (binOp .eql 107 (.slice (some ad) p.length c) (.slice none 0 0)).run Tryz.prog W = .ok (.bool (some ad).isNone) W := fun W => Lib.run_eql_slice_nil W 107 203 (some ad) p.length c 0 0 Tryz.underlying107
    have he := fun W => (he W).trans (congrArg (fun b => Result.ok (Value.bool b) W) (show (some ad).isNone = false from rfl))
    have hown := World.ownsRow_lit (base := w.heap.size) (e := 203) (size := 4) w #[] 0 (Nat.le_refl _) (by decide) rfl
    clear hn hp hi hz hsz hby hzs
    go_enter Tryz.func107, Tryz.ntmps107
    go_wp2_with (at_builtin; refine Hid.out ?_)
    unfold Hid
    refine wpList_append_prg rfl _ _ 107 rfl w.heap.size 203 i0 z0 Tryz.underlying107 INF.out.1 INF.out.2.1 INF.out.2.2.1 INF.out.2.2.2.1 INF.out.2.2.2.2 _ [] rfl hown (some ad) c p rfl (HP.out.new ((Below.refl _ w).alloc (Nat.le_refl _) _)) HN.out (by simpa using hmax) (by simp) ?_
    intro v' w' h1 h2
    rw [List.nil_append] at h1
    have b2 := ((Below.refl w.heap.size w).alloc (Nat.le_refl _) (.cells #[] 203)).grown h2 (by simp) (fun k e => (hown.lt k e).1)
    obtain ⟨A', c', e1, h3⟩ := prg_of_owns h1
    have B2 := Lib.hid b2
    have H3 := Lib.hid h3
    have H4 := Lib.hid (show Fresh w A' p.length from fun h b o e => by
      rw [e1] at h1
      exact (h1.lt b (by rw [e]; rfl)).1)
    clear h1 h2 h3 b2 hown he
    subst e1
    go_wp2
    go_ret
    exact ⟨A', c', rfl, H3.out, H4.out, B2.out⟩

theorem owns_cap' {w : World} {B : Nat} {E : TypeId} {size n c : Nat} {A : Option Addr} {xs : List Value} (h : w.ownsRow B E size (.slice A n c) n xs) : n ≤ c := by
  rcases h.2 with ⟨e, e0⟩ | ⟨g, cap, cur, e, hg, hh, hc, r⟩
  · cases e; omega
  · cases e; exact hc
theorem clone_pcs (A : Option Addr) (c : Nat) (p : List Pc) (w : World) (hp : Pcs w A p) (hn : 0 < p.length) (hmax : p.length ≤ 1000000) :
    Calls Tryz.prog 114 #[.slice A p.length c] w fun e w' => ∃ A' c', e = .returned (.slice A' p.length c') ∧ Pcs w' A' p ∧ Fresh w A' p.length ∧ p.length ≤ c' ∧ Below w.heap.size w w' := by
  obtain ⟨i0, z0, hi, hz, hsz, hby, hzs⟩ := pcs_info
  obtain ⟨b0, o0, rfl, _, _⟩ := hp 0 hn
  have HP := Lib.hid hp
  have INF := Lib.hid (And.intro hi (And.intro hz (And.intro hsz (And.intro hby hzs))))
  have hc : ∀ j u, (flatP p)[j]? = some u → w.cell? ((⟨b0, o0, none⟩ : Addr).add j) = some u := by
    intro j u hu
    have hj := (List.getElem?_eq_some_iff.1 hu).1
    rw [flatP_length] at hj
    have e1 : j / 3 * 3 + j % 3 = j := by omega
    have e := flatP_at p (show j / 3 < p.length by omega) (show j % 3 < 3 by omega)
    rw [e1, hu] at e
    obtain ⟨b', o', e2, _, hr⟩ := hp (j / 3) (by omega)
    cases e2
    have := hr (j % 3) u e.symm
    have ea : (⟨b0, o0, none⟩ : Addr).add j = ⟨b0, o0 + j, none⟩ := by unfold Addr.add; split <;> simp_all
    rw [ea]
    rw [show o0 + j / 3 * 3 + j % 3 = o0 + j by omega] at this
    exact this
  have h1c : ∀ u ∈ flatP p, u.oneCell' = true := by
    intro u hu
    unfold flatP at hu
    rw [List.mem_flatten] at hu
    obtain ⟨r, hr, hu⟩ := hu
    obtain ⟨q, _, rfl⟩ := List.mem_map.1 hr
    exact one_pc q u hu
  have hold : ∀ (w2 : World), Below w.heap.size w w2 → ∀ j u, (flatP p)[j]? = some u → w2.cell? ((⟨b0, o0, none⟩ : Addr).add j) = some u := fun w2 hb j u hu => by
    have h0 := hc j u hu
    have hlt : ((⟨b0, o0, none⟩ : Addr).add j).block < w.heap.size := World.block_lt_of_cell? w _ h0
    rw [World.cell?_of_block (w := w) (hb.block _ hlt)]
    exact h0
  have HO := Lib.hid hold
  have H1 := Lib.hid h1c
  have he : ∀ W, (binOp .eql 108 (.slice (some ⟨b0, o0, none⟩) p.length c) (.slice none 0 0)).run Tryz.prog W = .ok (.bool (some (⟨b0, o0, none⟩ : Addr)).isNone) W := fun W => Lib.run_eql_slice_nil W 108 213 _ p.length c 0 0 Tryz.underlying108
  have he := fun W => (he W).trans (congrArg (fun b => Result.ok (Value.bool b) W) (show (some (⟨b0, o0, none⟩ : Addr)).isNone = false from rfl))
  have hown := World.ownsRow_lit (base := w.heap.size) (e := 213) (size := 3) w #[] 0 (Nat.le_refl _) (by decide) rfl
  clear hp hi hz hsz hby hzs hc h1c hold
  go_enter Tryz.func114, Tryz.ntmps114
  go_wp2_with (at_builtin; refine Hid.out ?_)
  unfold Hid
  refine wpList_append_lies _ rfl _ _ 108 rfl w.heap.size 213 i0 z0 3 24 Tryz.underlying108 INF.out.1 INF.out.2.1 INF.out.2.2.1 INF.out.2.2.2.1 INF.out.2.2.2.2 (by decide) _ 0 [] rfl hown ⟨b0, o0, none⟩ p.length c (flatP p) rfl (flatP_length p) (HO.out _ ((Below.refl _ w).alloc (Nat.le_refl _) _)) H1.out hn (by unfold maxLen; omega) (by omega) (by simp) (w.heap.size + 1) (by simp) ?_
  intro g cap w1 hown1 hgrow hat hlg
  rw [List.nil_append, Nat.zero_add] at hown1
  have hcap := owns_cap' hown1
  have b2 := ((Below.refl w.heap.size w).alloc (Nat.le_refl _) (.cells #[] 213)).grown hgrow (by simp) (fun k e => (hown.lt k e).1)
  obtain ⟨A', c', e1, h3⟩ := pcs_of_owns hown1
  cases e1
  have B2 := Lib.hid b2
  have H3 := Lib.hid h3
  have H4 := Lib.hid (show Fresh w (some ⟨g, 0, none⟩) p.length from fun h b o e => (hown1.lt b (by rw [e]; rfl)).1)
  have HC := Lib.hid hcap
  clear hown1 hgrow hat h3 b2 hown he hcap
  rw [Nat.zero_add]
  go_wp2
  go_ret
  exact ⟨_, _, rfl, H3.out, H4.out, HC.out, B2.out⟩

theorem clone_bytes (A : Option Addr) (n c : Nat) (l : List UInt8) (w : World) (hb : Src w A n c l) (hn : n ≤ 1099511627776) :
    Calls Tryz.prog 103 #[.slice A n c] w fun e w' => ∃ A' c', e = .returned (.slice A' n c') ∧ Src w' A' n c' l ∧ Fresh w A' n ∧ Below w.heap.size w w' := by
  cases A with
  | none =>
    have hc := hb.none_ rfl
    have hm : n = 0 := by have := hb.cap; omega
    subst hc hm
    have he : ∀ W, (binOp .eql 31 (.slice none 0 0) (.slice none 0 0)).run Tryz.prog W = .ok (.bool (none : Option Addr).isNone) W := fun W => Lib.run_eql_slice_nil W 31 5 none 0 0 0 0 Tryz.underlying31
    have he := fun W => (he W).trans (congrArg (fun b => Result.ok (Value.bool b) W) (show (none : Option Addr).isNone = true from rfl))
    have HB := Lib.hid hb
    clear hb
    have h0 : Calls Tryz.prog 103 #[.slice none 0 0] w fun e w' => e = .returned (.slice none 0 0) ∧ w' = w := by
      go_enter Tryz.func103, Tryz.ntmps103
      go_wp2
      go_ret
      exact ⟨rfl, rfl⟩
    refine h0.mono ?_
    rintro e w' ⟨rfl, rfl⟩
    exact ⟨none, 0, rfl, HB.out, fun h => absurd h (by decide), Below.refl _ _⟩
  | some ad =>
    have he : ∀ W, (binOp .eql 31 (.slice (some ad) n c) (.slice none 0 0)).run Tryz.prog W = .ok (.bool (some ad).isNone) W := fun W => Lib.run_eql_slice_nil W 31 5 (some ad) n c 0 0 Tryz.underlying31
    have he := fun W => (he W).trans (congrArg (fun b => Result.ok (Value.bool b) W) (show (some ad).isNone = false from rfl))
    have hown := World.ownsRow_lit (base := w.heap.size) (e := 5) (size := 1) w #[] 0 (Nat.le_refl _) (by decide) rfl
    have HB := Lib.hid hb
    clear hb
    go_enter Tryz.func103, Tryz.ntmps103
    go_wp2_with (at_builtin; refine Hid.out ?_)
    unfold Hid
    refine wpList_append_src rfl _ _ rfl w.heap.size _ 0 [] rfl hown (some ad) n c l rfl (HB.out.alloc _) (by omega) (by simp) ?_
    intro v' w' h1 h2
    rw [Nat.zero_add] at h1
    have b2 := (Below.refl w.heap.size w).alloc (Nat.le_refl _) (.cells #[] 5) |>.trans h2
    obtain ⟨A', c', rfl, hs, hbs⟩ := src_of_own h1
    have HS := Lib.hid hs
    have HBS := Lib.hid hbs
    have B2 := Lib.hid b2
    clear h1 h2 hown he hs hbs b2
    go_wp2
    go_ret
    exact ⟨A', c', rfl, HS.out, fun _ b o e => HBS.out b o e, B2.out⟩
end Go.Proofs.YtefnkednnnlhoaaGreatDoor.Ke
