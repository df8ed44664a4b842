/- The law's pieces as the program's; the chapter's example. Conditions: those that each states. -/
import Derived.Test.YthnpalcjfgbjeaaGreatGaC
namespace Go.Proofs.YthnpalcjfgbjeaaGreat
open Go.ChangeShapes Go.WideShapes Go.ChangeAt Go.RowKit Go.Deep
set_option linter.unusedVariables false
theorem rpc_info : (Tryz.prog.info? 45).map (·.size) = some 3 := by kernel_rfl
def MadeP (w : World) (p : List Pc) (e : Ending) (w' : World) : Prop := ∃ A c, e = .returned (.slice A p.length c) ∧ Pcs w' A p ∧ Below w.heap.size w w'
/-- The same, and it lies behind all that was there, with room for itself. -/
def MadeC (w : World) (p : List Pc) (e : Ending) (w' : World) : Prop := ∃ A c, e = .returned (.slice A p.length c) ∧ (Pcs w' A p ∧ p.length ≤ c ∧ ∀ b o, A = some ⟨b, o, none⟩ → w.heap.size ≤ b) ∧ Below w.heap.size w w'
theorem owns_cap {w : World} {B : Nat} {E : TypeId} {size n c : Nat} {A : Option Addr} {xs : List Value} (h : w.ownsRow B E size (.slice A n c) n xs) : n ≤ c ∧ ∀ b o, A = some ⟨b, o, none⟩ → B ≤ b := by
  rcases h.2 with ⟨e, e0⟩ | ⟨g, cap, cur, e, hg, hh, hc, r⟩
  · cases e
    exact ⟨by omega, fun b o h => by cases h⟩
  · cases e
    exact ⟨hc, fun b o h => by cases h; exact hg⟩
set_option maxRecDepth 100000 in
set_option maxHeartbeats 2000000 in
theorem of_cap (A : Option Addr) (c : Nat) (p : List Pc) (w : World) (hp : Pcs w A p) (hmax : p.length ≤ 1000000) :
    Calls Tryz.prog 10 #[.slice A p.length c] w (MadeC w p) := by
  have P := Lib.hid hp
  have B0 := Lib.hid (Below.refl w.heap.size w)
  have O0 := Lib.hid (show w.ownsRow w.heap.size 90 3 (.slice none 0 0) 0 (flatP (p.take 0)) from World.ownsRow_nil w w.heap.size 90 3)
  obtain ⟨i0, z0, hi, hz, hsz, hby, hzs⟩ := pcs_info
  have INF := Lib.hid (And.intro hi (And.intro hz (And.intro hsz (And.intro hby hzs))))
  clear hp hi hz hsz hby hzs
  go_enter Tryz.func10, Tryz.ntmps10
  go_wp2
  go_loopw [3, 4] (fun out i wr => ∃ (j : Nat) (A' : Option Addr) (c' : Nat), j ≤ p.length ∧ i = .int .i64 (j : Int) ∧ out = .slice A' j c' ∧ wr.ownsRow w.heap.size 90 3 (.slice A' j c') j (flatP (p.take j)) ∧ Below w.heap.size w wr) (fun _ i _ => p.length - (intOf i).toNat)
  case atStart => exact ⟨0, none, 0, Nat.zero_le _, rfl, rfl, O0.out, B0.out⟩
  case round =>
    clear B0 O0
    obtain ⟨j, A', c', hj, rfl, rfl, ho, hb⟩ := hrel
    have HO := Lib.hid ho
    have HB := Lib.hid hb
    have hgs : w.heap.size ≤ wr.heap.size := hb.size
    have P1 := Lib.hid (P.out.new hb)
    clear hb ho
    by_cases hlt : j < p.length
    · have hlt' : (j : Int) < (p.length : Int) := by omega
      have j0 : (0 : Int) ≤ (j : Int) := by omega
      have xj := IntWalk.i64_in ((j : Int) + 1) (by omega)
      obtain ⟨b, o, rfl, hbl, hr⟩ := P1.out j hlt
      have LD := Lib.hid (show wr.rangeAt b (o + j * 3) [.int .i64 p[j].frame, .int .i64 p[j].off, .int .i64 p[j].len] from hr)
      have HT := Lib.hid (show flatP (p.take (j + 1)) = flatP (p.take j) ++ [.int .i64 p[j].frame, .int .i64 p[j].off, .int .i64 p[j].len] from by
        rw [List.take_succ_eq_append_getElem hlt, flatP_snoc]; rfl)
      have H1 := Lib.hid (show ∀ u ∈ ([.int .i64 p[j].frame, .int .i64 p[j].off, .int .i64 p[j].len] : List Value), u.oneCell' = true from one_pc p[j])
      generalize flatP (p.take j) = fl at *
      generalize p[j].frame = qf at *
      generalize p[j].off = qo at *
      generalize p[j].len = qn at *
      clear hr
      go_wp2_with (first
        | (refine wpList_load_mid rfl 45 (.tmp 14) rfl b (o + j * 3) rfl _ _ LD.out Tryz.underlying45 rfl rpc_info ?_)
        | (at_builtin; refine Hid.out ?_)
        | fail)
      unfold Hid
      refine wpList_append_lies _ rfl (.tmp 11) (.tmp 16) 38 rfl w.heap.size 90 i0 z0 3 24 Tryz.underlying38 INF.out.1 INF.out.2.1 INF.out.2.2.1 INF.out.2.2.2.1 INF.out.2.2.2.2 (by decide) _ j fl rfl (HO.out.alloc _) ⟨wr.heap.size, 0, none⟩ 1 1 [.int .i64 qf, .int .i64 qo, .int .i64 qn] rfl rfl (World.news_of_block (Blk.new wr 90 _)) H1.out (by decide) (by unfold maxLen; omega) (by omega) (by simp; omega) (wr.heap.size + 1) (by simp) ?_
      intro g cap w1 hown hgrow hat hlg
      rw [← HT.out] at hown
      have HO1 := Lib.hid hown
      have hb1 := (HB.out.trans (((Below.refl wr.heap.size wr).alloc (Nat.le_refl _) (.cells #[.int .i64 qf, .int .i64 qo, .int .i64 qn] 90)).mono hgs)).grown hgrow (by simp; omega) (fun k e => (HO.out.lt k e).1)
      have HB1 := Lib.hid hb1
      clear hown hgrow hat hb1 HO HT H1
      go_wp2
      go_roundw
      case rel => exact ⟨j + 1, _, _, by omega, by simp, rfl, HO1.out, HB1.out⟩
      case measure => simp [intOf]; omega
    · have hge : ¬ (j : Int) < (p.length : Int) := by omega
      obtain rfl : j = p.length := by omega
      have ho := HO.out
      rw [List.take_length] at ho
      have hcap := Lib.hid (owns_cap ho)
      obtain ⟨A2, c2, e2, hp2⟩ := pcs_of_owns ho
      cases e2
      have HP2 := Lib.hid hp2
      clear ho hp2
      go_wp2
      go_ret
      exact ⟨_, _, rfl, ⟨HP2.out, hcap.out⟩, HB.out⟩
theorem of_any (A : Option Addr) (c : Nat) (p : List Pc) (w : World) (hp : Pcs w A p) (hmax : p.length ≤ 1000000) :
    Calls Tryz.prog 10 #[.slice A p.length c] w (MadeP w p) := (of_cap A c p w hp hmax).mono fun e w' ⟨A', c', he, h, b⟩ => ⟨A', c', he, h.1, b⟩

end Go.Proofs.YthnpalcjfgbjeaaGreat
