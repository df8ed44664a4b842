/- The document's layer 8: Hold. Conditions: those that each states. -/
import Derived.Test.YtplmabnmkkkehaaGr1
namespace Go.Proofs.Ytplmabnmkkkehaa
open Go.ChangeShapes Go.WideShapes Go.ChangeAt Go.RowKit Go.Deep Fr
set_option linter.unusedVariables false

theorem Pcs.chg2 {w w' : World} {A : Option Addr} {l : List Pc} {S : Nat → Prop} (h : Pcs w A l) (k : Chg w w' S) (hn : ∀ b o, A = some ⟨b, o, none⟩ → 0 < l.length → ¬ S b) : Pcs w' A l := by
  intro i hi
  obtain ⟨b, o, e, hb, h1⟩ := h i hi
  refine ⟨b, o, e, Nat.lt_of_lt_of_le hb k.size, fun j v hj => ?_⟩
  rw [World.cell?_of_block (w := w) (w' := w') (a := ⟨b, o + i * 3 + j, none⟩) (k.block b hb (hn b o e (by omega)))]
  exact h1 j v hj
section
variable {gm bo bh bb co ch cb : Nat} {ps : List Pg} {w : World}
set_option maxRecDepth 100000 in
set_option maxHeartbeats 4000000 in
theorem ghold_any (h : RefT w gm bo bh bb co ch cb ps) (env : Int) (A : Option Addr) (c : Nat) (l : List Pc) (hp : Pcs w A l) (hok : ∀ p ∈ l, p.Ok) (hA : ∀ b o, A = some ⟨b, o, none⟩ → 0 < l.length → b < gm) (hm : ∀ p ∈ ps, p.holds + 16 < 1000000) (hmax : l.length ≤ 1000000) :
    Calls Try.prog 19 #[.pointer (some ⟨gm, 0, none⟩), .int .i64 env, .slice A l.length c] w fun e w' => e = .returned (.int .i64 (holdG ps env l).2) ∧ RefT w' gm bo bh bb co ch cb (holdG ps env l).1 ∧ Chg w w' (fun k => k = bh) := by
  have T := Lib.hid h
  have P := Lib.hid hp
  have HA := Lib.hid hA
  have HM := Lib.hid hm
  have n2 := h.len
  have CK := Lib.hid (gcheck_any h env A c l hp hok hmax)
  have hgb : gm < bh := h.hh
  clear hp hok hA hm h
  by_cases hck : checkR ps env l = 0
  · obtain ⟨hf, howe⟩ := check_zero hck
    obtain ⟨_, _, _, h16, _⟩ := fits_of_zero hf
    have OWE := Lib.hid howe
    have ER := Lib.hid (show holdG ps env l = (holdN ps env l, 0) by unfold holdG; rw [if_pos hck])
    rw [hck] at CK
    clear hck hf howe
    go_enter Try.func19, Try.ntmps19
    go_wp2_with fail
    refine CK.out.mono ?_; rintro e w1 ⟨rfl, b1⟩
    have T1 := Lib.hid (show RefT w1 gm bo bh bb co ch cb (holdN ps env (l.take 0)) from T.out.new b1)
    have K1 := Lib.hid (Chg.of_new b1 (fun k => k = bh))
    clear b1 CK
    go_wp2
    go_loopw [8] (fun i wx => ∃ (j : Nat), j ≤ l.length ∧ i = .int .i64 (j : Int) ∧ Hid (RefT wx gm bo bh bb co ch cb (holdN ps env (l.take j))) ∧ Hid (Chg w wx (fun k => k = bh))) (fun i _ => l.length - (intOf i).toNat)
    case atStart => exact ⟨0, Nat.zero_le _, rfl, T1, K1⟩
    case round =>
      clear T1 K1
      obtain ⟨j, hj, rfl, T1, K1⟩ := hrel
      have P1 := Lib.hid (P.out.chg2 K1.out (fun b o e hl h => by have := HA.out b o e hl; have h' : b = bh := h; omega))
      by_cases hlt : j < l.length
      · have hlt' : (j : Int) < (l.length : Int) := by omega
        have j0 : (0 : Int) ≤ (j : Int) := by omega
        have xj := IntWalk.i64_in ((j : Int) + 1) (by omega)
        obtain ⟨b, o, rfl, hbl, c0, _, _⟩ := P1.out.cells hlt
        have hTur := holdN_turned (l.take j) (fun p hp => OWE.out p (List.mem_of_mem_take hp)) (Turned.refl ps)
        have hmx := holdN_max (m := 1000000) (l := l.take j) (fun p hp => OWE.out p (List.mem_of_mem_take hp)) (fun p hp => by have := HM.out p hp; rw [List.length_take]; omega)
        have h0 := OWE.out _ (List.getElem_mem hlt)
        obtain ⟨k, hk, ek, _, _⟩ := ownErr_zero h0
        have hk' : k < (holdN ps env (l.take j)).length := by rw [hTur.1]; exact hk
        have hs : holdN ps env (l.take (j + 1)) = (holdN ps env (l.take j)).set k { (holdN ps env (l.take j))[k] with holds := (holdN ps env (l.take j))[k].holds + 1 } := by
          rw [holdN_succ hlt]
          unfold Fr.holdR
          rw [hTur.ownErr, if_pos h0, ek]
          simp only [Int.toNat_natCast, pg_at hk']
        have cg := T1.out.heads.2.1
        have ch1 := T1.out.holdC hk'
        have fh := T1.out.holds.frozen k
        have hmk := hmx _ (List.getElem_mem hk')
        have tn := (show RefT wr.drew gm bo bh bb co ch cb (holdN ps env (l.take j)) from T1.out.drewN 1).setHolds hk' ((holdN ps env (l.take j))[k].holds + 1) (by omega)
        rw [← hs] at tn
        have TN := Lib.hid (show RefT (wr.drew.setCell ⟨bh, k, none⟩ (.int .i64 (((holdN ps env (l.take j))[k].holds : Int) + 1))) gm bo bh bb co ch cb (holdN ps env (l.take (j + 1))) from by simpa using tn)
        have KN := Lib.hid (show Chg w (wr.drew.setCell ⟨bh, k, none⟩ (.int .i64 (((holdN ps env (l.take j))[k].holds : Int) + 1))) (fun k => k = bh) from K1.out.drew.trans (Chg.set _ _ _ rfl))
        have x0 : IntKind.i64.wrap (((holdN ps env (l.take j))[k].holds : Int) + 1) = ((holdN ps env (l.take j))[k].holds : Int) + 1 := IntWalk.i64_in _ (by omega)
        have k0 : (0 : Int) ≤ (k : Int) := by omega
        have k1 : (k : Int) < ((holdN ps env (l.take j)).length : Int) := by omega
        rw [ek] at c0
        clear hTur hmx h0 ek hs hmk tn
        generalize ((holdN ps env (l.take j))[k].holds : Int) = hv at *
        clear hk'
        generalize (holdN ps env (l.take j)).length = n at *
        go_upto_region 5 with fail
        refine wp_region_still_tail 13 (by kernel_rfl) (by kernel_rfl) ?_
        change wpStill _ _ (wr).drew (fun a' => wpList _ _ _ _ a' (wr).drew) _ _
        simp only [List.take_succ_cons, List.take_zero, List.drop_succ_cons, List.drop_zero]
        repeat still_step
        refine wpStill_nil ?_
        go_wp2
        go_roundw
        case rel => exact ⟨j + 1, by omega, by simp, TN, KN⟩
        case measure => simp [intOf]; omega
      · have hge : ¬ (j : Int) < (l.length : Int) := by omega
        obtain rfl : j = l.length := by omega
        have t1 := T1.out
        rw [List.take_length] at t1
        have T2 := Lib.hid t1
        clear t1
        go_wp2
        go_ret
        rw [ER.out]
        exact ⟨rfl, T2.out, K1.out⟩
  · have ER := Lib.hid (show holdG ps env l = (ps, checkR ps env l) by unfold holdG; rw [if_neg hck])
    have hv : (checkR ps env l == 0) = false := by simpa using hck
    generalize checkR ps env l = v at *
    clear hck
    go_enter Try.func19, Try.ntmps19
    go_wp2_with fail
    refine CK.out.mono ?_; rintro e w1 ⟨rfl, b1⟩
    have T1 := Lib.hid (T.out.new b1)
    have K1 := Lib.hid (Chg.of_new b1 (fun k => k = bh))
    clear b1 CK
    go_wp2
    go_loopw [8] (fun i wx => i = .int .i64 0 ∧ wx = w1) (fun i _ => 0)
    case atStart => exact ⟨rfl, rfl⟩
    case round =>
      obtain ⟨rfl, rfl⟩ := hrel
      by_cases hl : (0 : Int) < (l.length : Int)
      · go_wp2
        go_ret
        rw [ER.out]
        exact ⟨rfl, T1.out, K1.out⟩
      · go_wp2
        go_ret
        rw [ER.out]
        exact ⟨rfl, T1.out, K1.out⟩
end
end Go.Proofs.Ytplmabnmkkkehaa
