/- The document's layer 8: Hold. Conditions: those that each states. -/
import Derived.Test.YtbkjjakkihbcdaaGreatGr1
namespace Go.Proofs.YtbkjjakkihbcdaaGreat
open Go.ChangeShapes Go.WideShapes Go.ChangeAt Go.RowKit Go.Deep Fr
set_option linter.unusedVariables false

theorem Pcs.chg2 {w w' : World} {A : Option Addr} {l : List Pc} {S : Nat → Prop} (h : Pcs w A l) (k : Chg w w' S) (hn : ∀ b o, A = some ⟨b, o, none⟩ → 0 < l.length → ¬ S b) : Pcs w' A l := by
 intro i hi
 obtain ⟨b, o, e, hb, h1⟩ := h i hi
 refine ⟨b, o, e, Nat.lt_of_lt_of_le hb k.size, fun j v hj => ?_⟩
 rw [World.cell?_of_block (w := w) (w' := w') (a := ⟨b, o + i * 3 + j, none⟩) (k.block b hb (hn b o e (by omega)))]
 exact h1 j v hj
section
variable {gm bo bh bb co ch cb : Nat} {ps : List Pg} {w : World}
set_option maxRecDepth 100000 in
set_option maxHeartbeats 4000000 in
theorem ghold_any (h : RefT w gm bo bh bb co ch cb ps) (env : Int) (A : Option Addr) (c : Nat) (l : List Pc) (hp : Pcs w A l) (hok : ∀ p ∈ l, p.Ok) (hA : ∀ b o, A = some ⟨b, o, none⟩ → 0 < l.length → b < gm) (hm : ∀ p ∈ ps, p.holds + 16 < 1000000) (hmax : l.length ≤ 1000000) :
  Calls Tryz.prog 44 #[.pointer (some ⟨gm, 0, none⟩), .int .i64 env, .slice A l.length c] w fun e w' => e = .returned (.int .i64 (holdG ps env l).2) ∧ RefT w' gm bo bh bb co ch cb (holdG ps env l).1 ∧ Chg w w' (fun k => k = bh) := by
 have T := Lib.hid h
 have P := Lib.hid hp
 have HA := Lib.hid hA
 have HM := Lib.hid hm
 have n2 := h.len
 have CK := Lib.hid (gcheck_any h env A c l hp hok hmax)
 have hgb : gm < bh := h.hh
 clear hp hok hA hm h
 by_cases hck : checkR ps env l = 0
 ·obtain ⟨hf, howe⟩ := check_zero hck
  obtain ⟨_, _, _, h16, _⟩ := fits_of_zero hf
  have OWE := Lib.hid howe
  have ER := Lib.hid (show holdG ps env l = (holdN ps env l, 0) by unfold holdG; rw [if_pos hck])
  rw [hck] at CK
  clear hck hf howe
  go_enter Tryz.func44, Tryz.ntmps44
  go_wp2_with fail
  refine CK.out.mono ?_; rintro e w1 ⟨rfl, b1⟩
  have T1 := Lib.hid (show RefT w1 gm bo bh bb co ch cb (holdN ps env (l.take 0)) from T.out.new b1)
  have K1 := Lib.hid (Chg.of_new b1 (fun k => k = bh))
  clear b1 CK
  go_wp2
  go_loopw [8] (fun i wx => ∃ (j : Nat), j ≤ l.length ∧ i = .int .i64 (j : Int) ∧ Hid (RefT wx gm bo bh bb co ch cb (holdN ps env (l.take j))) ∧ Hid (Chg w wx (fun k => k = bh))) (fun i _ => l.length - (intOf i).toNat)
  case atStart => exact ⟨0, Nat.zero_le _, rfl, T1, K1⟩
  case round =>
   clear T1 K1
   obtain ⟨j, hj, rfl, T1, K1⟩ := hrel
   have P1 := Lib.hid (P.out.chg2 K1.out (fun b o e hl h => by have := HA.out b o e hl; have h' : b = bh := h; omega))
   by_cases hlt : j < l.length
   ·have hlt' : (j : Int) < (l.length : Int) := by omega
    have j0 : (0 : Int) ≤ (j : Int) := by omega
    have xj := IntWalk.i64_in ((j : Int) + 1) (by omega)
    obtain ⟨b, o, rfl, hbl, c0, _, _⟩ := P1.out.cells hlt
    have hTur := holdN_turned (l.take j) (fun p hp => OWE.out p (List.mem_of_mem_take hp)) (Turned.refl ps)
    have hmx := holdN_max (m := 1000000) (l := l.take j) (fun p hp => OWE.out p (List.mem_of_mem_take hp)) (fun p hp => by have := HM.out p hp; rw [List.length_take]; omega)
    have h0 := OWE.out _ (List.getElem_mem hlt)
    obtain ⟨k, hk, ek, _, _⟩ := ownErr_zero h0
    have hk' : k < (holdN ps env (l.take j)).length := by rw [hTur.1]; exact hk
    have hs : holdN ps env (l.take (j + 1)) = (holdN ps env (l.take j)).set k { (holdN ps env (l.take j))[k] with holds := (holdN ps env (l.take j))[k].holds + 1 } := by
     rw [holdN_succ hlt]
     unfold Fr.holdR
     rw [hTur.ownErr, if_pos h0, ek]
     simp only [Int.toNat_natCast, pg_at hk']
    have cg := T1.out.heads.2.1
    have ch1 := T1.out.holdC hk'
    have fh := T1.out.holds.frozen k
    have hmk := hmx _ (List.getElem_mem hk')
    have tn := (show RefT wr.drew gm bo bh bb co ch cb (holdN ps env (l.take j)) from T1.out.drewN 1).setHolds hk' ((holdN ps env (l.take j))[k].holds + 1) (by omega)
    rw [← hs] at tn
    have TN := Lib.hid (show RefT (wr.drew.setCell ⟨bh, k, none⟩ (.int .i64 (((holdN ps env (l.take j))[k].holds : Int) + 1))) gm bo bh bb co ch cb (holdN ps env (l.take (j + 1))) from by simpa using tn)
    have KN := Lib.hid (show Chg w (wr.drew.setCell ⟨bh, k, none⟩ (.int .i64 (((holdN ps env (l.take j))[k].holds : Int) + 1))) (fun k => k = bh) from K1.out.drew.trans (Chg.set _ _ _ rfl))
    have x0 : IntKind.i64.wrap (((holdN ps env (l.take j))[k].holds : Int) + 1) = ((holdN ps env (l.take j))[k].holds : Int) + 1 := IntWalk.i64_in _ (by omega)
    have k0 : (0 : Int) ≤ (k : Int) := by omega
    have k1 : (k : Int) < ((holdN ps env (l.take j)).length : Int) := by omega
    rw [ek] at c0
    clear hTur hmx h0 ek hs hmk tn
    generalize ((holdN ps env (l.take j))[k].holds : Int) = hv at *
    clear hk'
    generalize (holdN ps env (l.take j)).length = n at *
    go_upto_region 5 with fail
    refine wp_region_still_tail 13 (by kernel_rfl) (by kernel_rfl) ?_
    change wpStill _ _ (wr).drew (fun a' => wpList _ _ _ _ a' (wr).drew) _ _
    simp only [List.take_succ_cons, List.take_zero, List.drop_succ_cons, List.drop_zero]
    repeat still_step
    refine wpStill_nil ?_
    go_wp2
    go_roundw
    case rel => exact ⟨j + 1, by omega, by simp, TN, KN⟩
    case measure => simp [intOf]; omega
   ·have hge : ¬ (j : Int) < (l.length : Int) := by omega
    obtain rfl : j = l.length := by omega
    have t1 := T1.out
    rw [List.take_length] at t1
    have T2 := Lib.hid t1
    clear t1
    go_wp2
    go_ret
    rw [ER.out]
    exact ⟨rfl, T2.out, K1.out⟩
 ·have ER := Lib.hid (show holdG ps env l = (ps, checkR ps env l) by unfold holdG; rw [if_neg hck])
  have hv : (checkR ps env l == 0) = false := by simpa using hck
  generalize checkR ps env l = v at *
  clear hck
  go_enter Tryz.func44, Tryz.ntmps44
  go_wp2_with fail
  refine CK.out.mono ?_; rintro e w1 ⟨rfl, b1⟩
  have T1 := Lib.hid (T.out.new b1)
  have K1 := Lib.hid (Chg.of_new b1 (fun k => k = bh))
  clear b1 CK
  go_wp2
  go_loopw [8] (fun i wx => i = .int .i64 0 ∧ wx = w1) (fun i _ => 0)
  case atStart => exact ⟨rfl, rfl⟩
  case round =>
   obtain ⟨rfl, rfl⟩ := hrel
   by_cases hl : (0 : Int) < (l.length : Int)
   ·go_wp2
    go_ret
    rw [ER.out]
    exact ⟨rfl, T1.out, K1.out⟩
   ·go_wp2
    go_ret
    rw [ER.out]
    exact ⟨rfl, T1.out, K1.out⟩
end
end Go.Proofs.YtbkjjakkihbcdaaGreat

/- The document's layer 8: Drop. Conditions: those that each states. -/
namespace Go.Proofs.YtbkjjakkihbcdaaGreat
open Go.ChangeShapes Go.WideShapes Go.ChangeAt Go.RowKit Go.Deep Fr
set_option linter.unusedVariables false

theorem cnt_all (l : List Pc) (f : Int) : cnt (l.take l.length) f = cnt l f := by rw [List.take_length]
section
variable {gm bo bh bb co ch cb : Nat} {ps : List Pg} {w : World}
set_option maxRecDepth 100000 in
set_option maxHeartbeats 4000000 in
theorem gdrop_any (h : RefT w gm bo bh bb co ch cb ps) (A : Option Addr) (c : Nat) (l : List Pc) (hp : Pcs w A l) (hok : ∀ p ∈ l, p.Ok) (hA : ∀ b o, A = some ⟨b, o, none⟩ → 0 < l.length → b < gm) (hmax : l.length ≤ 1000000) :
  Calls Tryz.prog 53 #[.pointer (some ⟨gm, 0, none⟩), .slice A l.length c] w fun e w' => e = .returned (.int .i64 (dropG ps l).2) ∧ RefT w' gm bo bh bb co ch cb (dropG ps l).1 ∧ Chg w w' (fun k => k = bh) := by
 have T := Lib.hid h
 have P := Lib.hid hp
 have HA := Lib.hid hA
 have n2 := h.len
 have cg := h.heads.1
 have cg1 := h.heads.2.1
 have HC := Lib.hid (fun (k : Nat) (hk : k < ps.length) => h.holdC hk)
 have hgb : gm < bh := h.hh
 clear hp hok hA h
 go_enter Tryz.func53, Tryz.ntmps53
 go_wp2
 go_loopw [5] (fun i wr => ∃ (j : Nat), j ≤ l.length ∧ i = .int .i64 (j : Int) ∧ Hid (∀ x (hx : x < l.length), x < j → l[x].Drops ps l) ∧ wr = w) (fun i _ => l.length - (intOf i).toNat)
 case atStart => exact ⟨0, Nat.zero_le _, rfl, Lib.hid (fun x hx h => absurd h (by omega)), rfl⟩
 case round =>
  obtain ⟨j, hj, rfl, hg, rfl⟩ := hrel
  by_cases hlt : j < l.length
  ·have hlt' : (j : Int) < (l.length : Int) := by omega
   have j0 : (0 : Int) ≤ (j : Int) := by omega
   have xj := IntWalk.i64_in ((j : Int) + 1) (by omega)
   obtain ⟨b, o, rfl, hbl, c0, _, _⟩ := P.out.cells hlt
   have BAD := Lib.hid (fun (h1 : ¬ l[j].Drops ps l) => show dropG ps l = (ps, 1) by
    unfold dropG; rw [if_neg (fun h => h1 (h _ (List.getElem_mem hlt)))])
   have GD := Lib.hid (show l[j].Drops ps l → ∀ x (hx : x < l.length), x < j + 1 → l[x].Drops ps l from fun h1 x hx h => by
    by_cases e : x = j
    ·subst e; exact h1
    ·exact hg.out x hx (by omega))
   have DD := Lib.hid (show l[j].Drops ps l ↔ isF ps l[j].frame ∧ cnt l l[j].frame ≤ (pg ps l[j].frame).holds from Iff.rfl)
   generalize l[j].Drops ps l = G at *
   generalize l[j].frame = qf at *
   clear hg
   by_cases g1 : qf < 0
   ·have NB := Lib.hid (BAD.out (fun h => by have := (DD.out.1 h).1.1; omega))
    go_wp2
    go_ret
    rw [NB.out]
    exact ⟨rfl, T.out, Chg.refl _ _⟩
   by_cases g2 : qf ≥ (ps.length : Int)
   ·have NB := Lib.hid (BAD.out (fun h => by have := (DD.out.1 h).1.2; omega))
    go_wp2
    go_ret
    rw [NB.out]
    exact ⟨rfl, T.out, Chg.refl _ _⟩
   obtain ⟨k, rfl⟩ : ∃ k : Nat, qf = (k : Int) := ⟨qf.toNat, by omega⟩
   have hk : k < ps.length := by omega
   have k0 : (0 : Int) ≤ (k : Int) := by omega
   have k1 : (k : Int) < (ps.length : Int) := by omega
   have chk := HC.out k hk
   have DD2 := Lib.hid (show G ↔ (cnt l (k : Int) : Int) ≤ (ps[k].holds : Int) from by
    rw [DD.out, pg_at hk]
    constructor
    ·rintro ⟨_, h⟩; omega
    ·intro h; exact ⟨⟨by omega, by omega⟩, by omega⟩)
   generalize (ps[k].holds : Int) = hv at *
   clear DD
   go_wp2
   go_loopw [7, 8] (fun n i wx => ∃ (q : Nat), q ≤ l.length ∧ i = .int .i64 (q : Int) ∧ n = .int .i64 (cnt (l.take q) (k : Int) : Int) ∧ wx = wr) (fun _ i _ => l.length - (intOf i).toNat)
   case atStart => exact ⟨0, Nat.zero_le _, rfl, rfl, rfl⟩
   case round =>
    obtain ⟨q, hq, rfl, rfl, hwx⟩ := hrel
    subst hwx
    by_cases hlq : q < l.length
    ·have hlq' : (q : Int) < (l.length : Int) := by omega
     have q0 : (0 : Int) ≤ (q : Int) := by omega
     have xq := IntWalk.i64_in ((q : Int) + 1) (by omega)
     obtain ⟨b2, o2, e2, _, cq, _, _⟩ := P.out.cells hlq
     cases e2
     have hcs := cnt_succ hlq (k : Int)
     have hcl := cnt_len (l.take q) (k : Int)
     rw [List.length_take] at hcl
     have xn : IntKind.i64.wrap ((cnt (l.take q) (k : Int) : Int) + 1) = (cnt (l.take q) (k : Int) : Int) + 1 := IntWalk.i64_in _ (by omega)
     by_cases hf : l[q].frame = (k : Int)
     ·rw [if_pos hf] at hcs
      rw [hf] at cq
      have CS := Lib.hid hcs
      generalize hcn : cnt (l.take q) (k : Int) = cn at *
      clear hcs hcl hf hcn
      go_wp2
      go_roundw
      case rel => exact ⟨q + 1, by omega, by simp, by rw [CS.out]; simp, by first | rfl | trivial⟩
      case measure => simp [intOf]; omega
     ·rw [if_neg hf] at hcs
      have hf1 : (l[q].frame == (k : Int)) = false := by simpa using hf
      have CS := Lib.hid hcs
      generalize l[q].frame = fq at *
      generalize hcn : cnt (l.take q) (k : Int) = cn at *
      clear hcs hcl hf hcn
      go_wp2
      go_roundw
      case rel => exact ⟨q + 1, by omega, by simp, by rw [CS.out]; simp, by first | rfl | trivial⟩
      case measure => simp [intOf]; omega
    ·have hge : ¬ (q : Int) < (l.length : Int) := by omega
     obtain rfl : q = l.length := by omega
     rw [cnt_all]
     generalize (cnt l (k : Int) : Int) = cn at *
     by_cases hh : hv < cn
     ·have NB := Lib.hid (BAD.out (fun h => by have := DD2.out.1 h; omega))
      go_wp2
      go_ret
      rw [NB.out]
      exact ⟨rfl, T.out, Chg.refl _ _⟩
     ·have G2 := Lib.hid (GD.out (DD2.out.2 (by omega)))
      go_wp2
      go_roundw
      case rel => exact ⟨j + 1, by omega, by simp, G2, by first | rfl | trivial⟩
      case measure => simp [intOf]; omega
  ·have hge : ¬ (j : Int) < (l.length : Int) := by omega
   obtain rfl : j = l.length := by omega
   have hall : ∀ p ∈ l, p.Drops ps l := fun p hp => by
    obtain ⟨x, hx, rfl⟩ := List.mem_iff_getElem.1 hp
    exact hg.out x hx hx
   have ALL := Lib.hid hall
   have ER := Lib.hid (show dropG ps l = (dropN ps l, 0) by unfold dropG; rw [if_pos hall])
   have T1 := Lib.hid (show RefT wr gm bo bh bb co ch cb (dropN ps (l.take 0)) from T.out)
   have K1 := Lib.hid (Chg.refl wr (fun k => k = bh))
   clear hg hall
   go_wp2
   go_loopw [9] (fun i wx => ∃ (j : Nat), j ≤ l.length ∧ i = .int .i64 (j : Int) ∧ Hid (RefT wx gm bo bh bb co ch cb (dropN ps (l.take j))) ∧ Hid (Chg wr wx (fun k => k = bh))) (fun i _ => l.length - (intOf i).toNat)
   case atStart => exact ⟨0, Nat.zero_le _, rfl, T1, K1⟩
   case round =>
    clear T1 K1 cg cg1 HC
    obtain ⟨j, hj, rfl, T1, K1⟩ := hrel
    have P1 := Lib.hid (P.out.chg2 K1.out (fun b o e hl h => by have := HA.out b o e hl; have h' : b = bh := h; omega))
    by_cases hlt : j < l.length
    ·have hlt' : (j : Int) < (l.length : Int) := by omega
     have j0 : (0 : Int) ≤ (j : Int) := by omega
     have xj := IntWalk.i64_in ((j : Int) + 1) (by omega)
     obtain ⟨b, o, rfl, hbl, c0, _, _⟩ := P1.out.cells hlt
     have hTur := dropN_turned (l.take j) (Turned.refl ps)
     obtain ⟨hF, hcn⟩ := ALL.out _ (List.getElem_mem hlt)
     obtain ⟨k, hk, ek⟩ := isF_nat hF
     have hk' : k < (dropN ps (l.take j)).length := by rw [hTur.1]; exact hk
     have hpos : 1 ≤ (dropN ps (l.take j))[k].holds := by
      rw [hTur.2 k hk hk']
      have e1 : (ps.getD k Pg.blank) = ps[k] := by simp [hk]
      have h1 := cnt_succ hlt (k : Int)
      rw [if_pos ek] at h1
      have h2 := cnt_le l (j + 1) (k : Int)
      rw [ek, pg_at hk] at hcn
      show 1 ≤ (ps.getD k Pg.blank).holds - cnt (l.take j) (k : Int)
      rw [e1]
      omega
     have hH : isH (dropN ps (l.take j)) (k : Int) := ⟨⟨by omega, by omega⟩, by rw [pg_at hk']; omega⟩
     have hs : dropN ps (l.take (j + 1)) = (dropN ps (l.take j)).set k { (dropN ps (l.take j))[k] with holds := (dropN ps (l.take j))[k].holds - 1 } := by
      rw [dropN_succ hlt]
      unfold dropR
      rw [ek, if_pos hH]
      simp only [Int.toNat_natCast, pg_at hk']
     have cg := T1.out.heads.2.1
     have ch1 := T1.out.holdC hk'
     have fh := T1.out.holds.frozen k
     have hmk := (T1.out.at_ hk').h
     have tn := (show RefT wr.drew gm bo bh bb co ch cb (dropN ps (l.take j)) from T1.out.drewN 1).setHolds hk' ((dropN ps (l.take j))[k].holds - 1) (by omega)
     rw [← hs, show (((dropN ps (l.take j))[k].holds - 1 : Nat) : Int) = ((dropN ps (l.take j))[k].holds : Int) - 1 by omega] at tn
     have TN := Lib.hid tn
     have KN := Lib.hid (K1.out.drew.trans (Chg.set (S := fun k => k = bh) wr.drew k (.int .i64 (((dropN ps (l.take j))[k].holds : Int) - 1)) rfl))
     have x0 : IntKind.i64.wrap (((dropN ps (l.take j))[k].holds : Int) - 1) = ((dropN ps (l.take j))[k].holds : Int) - 1 := IntWalk.i64_in _ (by omega)
     have k0 : (0 : Int) ≤ (k : Int) := by omega
     have k1 : (k : Int) < ((dropN ps (l.take j)).length : Int) := by omega
     rw [ek] at c0
     clear hTur hs hmk tn hpos hH hcn hF ek
     generalize ((dropN ps (l.take j))[k].holds : Int) = hv at *
     clear hk'
     generalize (dropN ps (l.take j)).length = n at *
     go_upto_region 18 with fail
     refine wp_region_still_tail 13 (by kernel_rfl) (by kernel_rfl) ?_
     change wpStill _ _ (wr).drew (fun a' => wpList _ _ _ _ a' (wr).drew) _ _
     simp only [List.take_succ_cons, List.take_zero, List.drop_succ_cons, List.drop_zero]
     repeat still_step
     refine wpStill_nil ?_
     go_wp2
     go_roundw
     case rel => exact ⟨j + 1, by omega, by simp, TN, KN⟩
     case measure => simp [intOf]; omega
    ·have hge : ¬ (j : Int) < (l.length : Int) := by omega
     obtain rfl : j = l.length := by omega
     have t1 := T1.out
     rw [List.take_length] at t1
     have T2 := Lib.hid t1
     clear t1
     go_wp2
     go_ret
     rw [ER.out]
     exact ⟨rfl, T2.out, K1.out⟩
end
end Go.Proofs.YtbkjjakkihbcdaaGreat
