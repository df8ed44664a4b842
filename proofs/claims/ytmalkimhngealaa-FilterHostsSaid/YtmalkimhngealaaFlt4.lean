/- The document's steps as the program's. Conditions: those that each states. -/
import Derived.Test.YtmalkimhngealaaFlt3
import Derived.Deep.AppendLies
namespace Go.Proofs.Ytmalkimhngealaa
open Go.ChangeShapes Go.WideShapes Go.ChangeAt Go.RowKit Go.Deep
set_option linter.unusedVariables false
theorem ops_infos : (Try.prog.info? 43).map (fun i => (i.zero.map (·.cells.size), i.size, i.bytes)) = some (some 4, 4, 32) := by kernel_rfl
theorem ops_info : ∃ i0 z, Try.prog.info? 43 = some i0 ∧ i0.zero = some z ∧ i0.size = 4 ∧ i0.bytes = 32 ∧ z.cells.size = 4 := by
  obtain ⟨i, hi, hs⟩ := Option.map_eq_some_iff.1 ops_infos
  simp only [Prod.mk.injEq] at hs
  obtain ⟨h0, h1, h2⟩ := hs
  obtain ⟨z, hz, hzs⟩ := Option.map_eq_some_iff.1 h0
  exact ⟨i, z, hi, hz, h1, h2, hzs⟩
theorem rop_info : (Try.prog.info? 38).map (·.size) = some 4 := by kernel_rfl
def MadeP (w : World) (p : List Ins) (e : Ending) (w' : World) : Prop := ∃ A c, e = .returned (.slice A p.length c) ∧ Prg w' A p ∧ Below w.heap.size w w'
set_option maxRecDepth 100000 in
set_option maxHeartbeats 2000000 in
theorem of_any (A : Option Addr) (c : Nat) (p : List Ins) (w : World) (hp : Prg w A p) (hmax : p.length ≤ 1000000) :
    Calls Try.prog 13 #[.slice A p.length c] w (MadeP w p) := by
  have P := Lib.hid hp
  have B0 := Lib.hid (Below.refl w.heap.size w)
  have O0 := Lib.hid (show w.ownsRow w.heap.size 43 4 (.slice none 0 0) 0 (flat (p.take 0)) from World.ownsRow_nil w w.heap.size 43 4)
  obtain ⟨i0, z0, hi, hz, hsz, hby, hzs⟩ := ops_info
  have INF := Lib.hid (And.intro hi (And.intro hz (And.intro hsz (And.intro hby hzs))))
  clear hp hi hz hsz hby hzs
  go_enter Try.func13, Try.ntmps13
  go_wp2
  go_loopw [3, 4] (fun out i wr => ∃ (j : Nat) (A' : Option Addr) (c' : Nat), j ≤ p.length ∧ i = .int .i64 (j : Int) ∧ out = .slice A' j c' ∧ wr.ownsRow w.heap.size 43 4 (.slice A' j c') j (flat (p.take j)) ∧ Below w.heap.size w wr) (fun _ i _ => p.length - (intOf i).toNat)
  case atStart => exact ⟨0, none, 0, Nat.zero_le _, rfl, rfl, O0.out, B0.out⟩
  case round =>
    clear B0 O0
    obtain ⟨j, A', c', hj, rfl, rfl, ho, hb⟩ := hrel
    have HO := Lib.hid ho
    have HB := Lib.hid hb
    have hgs : w.heap.size ≤ wr.heap.size := hb.size
    have P1 := Lib.hid (P.out.new hb)
    clear hb ho
    by_cases hlt : j < p.length
    · have hlt' : (j : Int) < (p.length : Int) := by omega
      have j0 : (0 : Int) ≤ (j : Int) := by omega
      have xj := IntWalk.i64_in ((j : Int) + 1) (by omega)
      obtain ⟨b, o, rfl, hbl, hr⟩ := P1.out j hlt
      have LD := Lib.hid (show wr.rangeAt b (o + j * 4) [.int .i64 p[j].code, .int .u32 p[j].k, .int .i64 p[j].t, .int .i64 p[j].f] from hr)
      have HT := Lib.hid (show flat (p.take (j + 1)) = flat (p.take j) ++ [.int .i64 p[j].code, .int .u32 p[j].k, .int .i64 p[j].t, .int .i64 p[j].f] from by
        rw [List.take_succ_eq_append_getElem hlt, flat_snoc]; rfl)
      have H1 := Lib.hid (show ∀ u ∈ ([.int .i64 p[j].code, .int .u32 p[j].k, .int .i64 p[j].t, .int .i64 p[j].f] : List Value), u.oneCell' = true from one_ins p[j])
      generalize flat (p.take j) = fl at *
      generalize p[j].code = qc at *
      generalize p[j].k = qk at *
      generalize p[j].t = qt at *
      generalize p[j].f = qf at *
      clear hr
      go_wp2_with (first
        | (refine wpList_load_mid rfl 38 (.tmp 14) rfl b (o + j * 4) rfl _ _ LD.out Try.underlying38 rfl rop_info ?_)
        | (at_builtin; refine Hid.out ?_)
        | fail)
      unfold Hid
      refine wpList_append_lies _ rfl (.tmp 11) (.tmp 16) 28 rfl w.heap.size 43 i0 z0 4 32 Try.underlying28 INF.out.1 INF.out.2.1 INF.out.2.2.1 INF.out.2.2.2.1 INF.out.2.2.2.2 (by decide) _ j fl rfl (HO.out.alloc _) ⟨wr.heap.size, 0, none⟩ 1 1 [.int .i64 qc, .int .u32 qk, .int .i64 qt, .int .i64 qf] rfl rfl (World.news_of_block (Blk.new wr 43 _)) H1.out (by decide) (by unfold maxLen; omega) (by omega) (by simp; omega) (wr.heap.size + 1) (by simp) ?_
      intro g cap w1 hown hgrow hat hlg
      rw [← HT.out] at hown
      have HO1 := Lib.hid hown
      have hb1 := (HB.out.trans (((Below.refl wr.heap.size wr).alloc (Nat.le_refl _) (.cells #[.int .i64 qc, .int .u32 qk, .int .i64 qt, .int .i64 qf] 43)).mono hgs)).grown hgrow (by simp; omega) (fun k e => (HO.out.lt k e).1)
      have HB1 := Lib.hid hb1
      clear hown hgrow hat hb1 HO HT H1
      go_wp2
      go_roundw
      case rel => exact ⟨j + 1, _, _, by omega, by simp, rfl, HO1.out, HB1.out⟩
      case measure => simp [intOf]; omega
    · have hge : ¬ (j : Int) < (p.length : Int) := by omega
      obtain rfl : j = p.length := by omega
      have ho := HO.out
      rw [List.take_length] at ho
      obtain ⟨A2, c2, e2, hp2⟩ := prg_of_owns ho
      cases e2
      have HP2 := Lib.hid hp2
      clear ho hp2
      go_wp2
      go_ret
      exact ⟨_, _, rfl, HP2.out, HB.out⟩
end Go.Proofs.Ytmalkimhngealaa
