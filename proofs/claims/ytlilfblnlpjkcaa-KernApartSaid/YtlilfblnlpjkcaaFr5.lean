/- Package frame: Write, Read, Fetch; the chapter's example. Conditions: those that each states. -/
import Derived.Test.YtlilfblnlpjkcaaFr4
namespace Go.Proofs.Ytlilfblnlpjkcaa.Fr
open Go.ChangeShapes Go.WideShapes Go.ChangeAt Go.RowKit Go.Deep
set_option linter.unusedVariables false

section
variable {gs g : Nat} {ps : List Pg} {w : World}
set_option maxRecDepth 100000 in
theorem write_any (h : Tab w gs g ps) (env f off : Int) (wo : -9223372036854775808 ≤ off ∧ off ≤ 9223372036854775807) (A : Option Addr) (n c : Nat) (s : List UInt8) (hs : Src w A n c s) :
    Calls Try.prog 29 #[.pointer (some ⟨g, 0, none⟩), .int .i64 env, .int .i64 f, .int .i64 off, .slice A n c] w fun e w' => e = .returned (.int .i64 (writeR ps env f off s).2) ∧ Tab w' gs g (writeR ps env f off s).1 ∧ Chg w w' (fun k => k = gs) := by
  obtain rfl : s.length = n := hs.len
  by_cases he : ownErr ps env f = 0
  · obtain ⟨k, hk, rfl, hE, ho⟩ := ownErr_zero he
    have n2 := h.n2
    have OW := Lib.hid (owned_ok h env k hk hE ho)
    have c1 := h.holds hk
    have H := Lib.hid h
    by_cases hin : isIn off (s.length : Int)
    · have WI := Lib.hid (within_yes off s.length hin w)
      by_cases hh : ps[k].holds = 0
      · have er : writeR ps env k off s = (ps.set k { ps[k] with text := ps[k].text.take off.toNat ++ s ++ ps[k].text.drop (off.toNat + s.length) }, 0) := by
          unfold writeR; rw [if_pos he, if_pos hin, pg_at hk, if_pos hh, Int.toNat_natCast]
        rw [er]
        obtain ⟨o, rfl⟩ : ∃ o : Nat, off = (o : Int) := ⟨off.toNat, by have := hin.1; omega⟩
        have hfit : o + s.length ≤ 256 := by have := hin.2.2; omega
        rw [Int.toNat_natCast]
        have oko := h.at_ hk
        obtain ⟨cs, hb, hsz, _⟩ := h.row
        have hlen : (bys s).length = s.length := bys_length s
        have htl := oko.t
        have hv := h.seg hk (i := 2 + o) (bys s) (by omega) { ps[k] with text := ps[k].text.take o ++ s ++ ps[k].text.drop (o + s.length) } ⟨oko.o, oko.h, by simp [htl]; omega⟩ (by
          have e1 : 2 + o = o + 1 + 1 := by omega
          have e2 : 2 + o + (bys s).length = o + s.length + 1 + 1 := by omega
          rw [e2, e1]
          simp only [Pg.cells, List.take_succ_cons, List.drop_succ_cons, bys_append, bys_take, bys_drop, List.cons_append]) hb
        rw [← Nat.add_assoc] at hv
        have hcut := run_cut1 ⟨gs, k * 258 + 2, none⟩ o (by omega)
        have hmin : (bys s).length = Nat.min s.length (256 - o) := by
          rw [hlen]; exact (Nat.min_eq_left (by omega)).symm
        have hpos : 0 < (bys s).length → some (cutAt ⟨gs, k * 258 + 2, none⟩ o) = some ⟨gs, k * 258 + 2 + o, none⟩ ∧ ∃ ad, A = some ad ∧ ∀ j v, (bys s)[j]? = some v → w.cell? (ad.add j) = some v := by
          intro hp
          refine ⟨by rw [cutAt_lt (by omega)], ?_⟩
          obtain ⟨b, o', rfl, _, _⟩ := hs.lies hp
          exact ⟨_, rfl, fun j v hv => Bytes.at_ _ hs.toBytes j v hv⟩
        have HB := Lib.hid hb
        have HV := Lib.hid hv
        have HMIN := Lib.hid hmin
        have HPOS := Lib.hid hpos
        have hall := bys_all s
        have HALL := Lib.hid hall
        generalize bys s = Z at *
        rw [hh] at c1
        generalize cutAt ⟨gs, k * 258 + 2, none⟩ o = ca at *
        clear h hb hv hE ho he er hh hmin hpos hall hin hs oko htl hlen
        go_enter Try.func29, Try.ntmps29
        go_wp2_with fail
        refine OW.out.mono ?_; rintro e w1 ⟨rfl, rfl⟩
        go_wp2_with fail
        refine WI.out.mono ?_; rintro e w1 ⟨rfl, rfl⟩
        go_wp2_with (refine wpList_copy_row rfl (.tmp 37) (.tmp 38) 29 29 rfl 5 Try.underlying29 u8_size (some ca) A (256 - o) (256 - o) s.length c rfl rfl gs (k * 258 + 2 + o) cs 106 HB.out Z HMIN.out HPOS.out HV.out.1 HALL.out ?_)
        go_ret
        refine ⟨rfl, ?_, Chg.setRow _ _ rfl⟩
        have hv := HV.out.2
        rw [List.append_assoc] at hv
        exact hv
      · have er : writeR ps env k off s = (ps, 21) := by unfold writeR; rw [if_pos he, if_pos hin, pg_at hk, if_neg hh]
        rw [er]
        have hk1 : (ps[k].holds : Int) > 0 := by omega
        generalize (ps[k].holds : Int) = v at *
        clear h hE ho he er hh hin hs wo
        go_enter Try.func29, Try.ntmps29
        go_wp2_with fail
        refine OW.out.mono ?_; rintro e w1 ⟨rfl, rfl⟩
        go_wp2_with fail
        refine WI.out.mono ?_; rintro e w1 ⟨rfl, rfl⟩
        go_wp2
        go_ret
        exact ⟨rfl, H.out, Chg.refl _ _⟩
    · have WI := Lib.hid (within_no off s.length wo hin w)
      have er : writeR ps env k off s = (ps, 1) := by unfold writeR; rw [if_pos he, if_neg hin]
      rw [er]
      clear h hE ho he er hin hs wo c1
      go_enter Try.func29, Try.ntmps29
      go_wp2_with fail
      refine OW.out.mono ?_; rintro e w1 ⟨rfl, rfl⟩
      go_wp2_with fail
      refine WI.out.mono ?_; rintro e w1 ⟨rfl, rfl⟩
      go_wp2
      go_ret
      exact ⟨rfl, H.out, Chg.refl _ _⟩
  · have er : writeR ps env f off s = (ps, ownErr ps env f) := by unfold writeR; rw [if_neg he]
    rw [er]
    have OW := Lib.hid (owned_no h env f he)
    have H := Lib.hid h
    have hv : (ownErr ps env f == 0) = false := by simpa using he
    generalize ownErr ps env f = v at *
    clear h er he wo hs
    go_enter Try.func29, Try.ntmps29
    go_wp2_with fail
    refine OW.out.mono ?_; rintro e w1 ⟨rfl, rfl⟩
    go_wp2
    go_ret
    exact ⟨rfl, H.out, Chg.refl _ _⟩

set_option maxRecDepth 100000 in
theorem piece_yes (h : Tab w gs g ps) (k : Nat) (hk : k < ps.length) (o n : Nat) (hn : o + n ≤ 256) :
    Calls Try.prog 53 #[.pointer (some ⟨gs, k * 258, none⟩), .int .i64 (o : Int), .int .i64 (n : Int)] w fun e w' => ∃ A c, e = .returned (.tuple #[.slice A n c, .int .i64 0]) ∧ Src w' A n c ((ps[k].text.drop o).take n) ∧ Below w.heap.size w w' := by
  have n2 := h.n2
  have WI := Lib.hid (within_yes o n ⟨by omega, by omega, by omega⟩ w)
  have hcut := run_cut2 ⟨gs, k * 258 + 2, none⟩ o n hn
  have CL := Lib.hid (clone_some _ _ _ _ w (cut_src h hk hn) (by omega))
  have x0 := IntWalk.i64_in ((o : Int) + (n : Int)) (by omega)
  generalize cutAt ⟨gs, k * 258 + 2, none⟩ o = ca at *
  clear h
  go_enter Try.func53, Try.ntmps53
  go_wp2_with fail
  refine WI.out.mono ?_; rintro e w1 ⟨rfl, rfl⟩
  go_wp2_with fail
  refine CL.out.mono ?_; rintro e w2 ⟨A', c', rfl, S2, b2⟩
  have HS2 := Lib.hid S2
  have B2 := Lib.hid b2
  clear S2 b2
  go_wp2
  go_ret2
  exact ⟨A', c', rfl, HS2.out, B2.out⟩
theorem piece_no (p : Value) (o n : Int) (wo : -9223372036854775808 ≤ o ∧ o ≤ 9223372036854775807) (hn : ¬ isIn o n) :
    Calls Try.prog 53 #[p, .int .i64 o, .int .i64 n] w fun e w' => e = .returned (.tuple #[.slice none 0 0, .int .i64 1]) ∧ w' = w := by
  have WI := Lib.hid (within_no o n wo hn w)
  clear hn wo
  go_enter Try.func53, Try.ntmps53
  go_wp2_with fail
  refine WI.out.mono ?_; rintro e w1 ⟨rfl, rfl⟩
  go_wp2
  go_ret2
  exact ⟨rfl, rfl⟩

set_option maxRecDepth 100000 in
theorem read_any (h : Tab w gs g ps) (env f off n : Int) (wo : -9223372036854775808 ≤ off ∧ off ≤ 9223372036854775807) :
    Calls Try.prog 28 #[.pointer (some ⟨g, 0, none⟩), .int .i64 env, .int .i64 f, .int .i64 off, .int .i64 n] w fun e w' => ∃ A c, e = .returned (.tuple #[.slice A (readR ps env f off n).1.length c, .int .i64 (readR ps env f off n).2]) ∧ Src w' A (readR ps env f off n).1.length c (readR ps env f off n).1 ∧ Below w.heap.size w w' := by
  by_cases he : ownErr ps env f = 0
  · obtain ⟨k, hk, rfl, hE, ho⟩ := ownErr_zero he
    have OW := Lib.hid (owned_ok h env k hk hE ho)
    by_cases hin : isIn off n
    · have er : readR ps env k off n = ((ps[k].text.drop off.toNat).take n.toNat, 0) := by unfold readR; rw [if_pos he, if_pos hin, pg_at hk]
      rw [er]
      obtain ⟨o, rfl⟩ : ∃ o : Nat, off = (o : Int) := ⟨off.toNat, by have := hin.1; omega⟩
      obtain ⟨m, rfl⟩ : ∃ m : Nat, n = (m : Int) := ⟨n.toNat, by have := hin.2.1; omega⟩
      have hfit : o + m ≤ 256 := by have := hin.2.2; omega
      simp only [Int.toNat_natCast]
      have htl := (h.at_ hk).t
      have hl : ((ps[k].text.drop o).take m).length = m := by simp [htl]; omega
      have PC := Lib.hid (piece_yes h k hk o m hfit)
      rw [hl]
      generalize (ps[k].text.drop o).take m = l at *
      clear h hE ho he er hin htl hl wo
      go_enter Try.func28, Try.ntmps28
      go_wp2_with fail
      refine OW.out.mono ?_; rintro e w1 ⟨rfl, rfl⟩
      go_wp2_with fail
      refine PC.out.mono ?_; rintro e w2 ⟨A', c', rfl, S2, b2⟩
      have HS2 := Lib.hid S2
      have B2 := Lib.hid b2
      clear S2 b2
      go_wp2
      go_ret2
      exact ⟨A', c', rfl, HS2.out, B2.out⟩
    · have er : readR ps env k off n = ([], 1) := by unfold readR; rw [if_pos he, if_neg hin]
      rw [er]
      have PC := Lib.hid (piece_no (w := w) (.pointer (some ⟨gs, k * 258, none⟩)) off n wo hin)
      clear h hE ho he er hin wo
      go_enter Try.func28, Try.ntmps28
      go_wp2_with fail
      refine OW.out.mono ?_; rintro e w1 ⟨rfl, rfl⟩
      go_wp2_with fail
      refine PC.out.mono ?_; rintro e w2 ⟨rfl, rfl⟩
      go_wp2
      go_ret2
      exact ⟨none, 0, rfl, Src.nil _, Below.refl _ _⟩
  · have er : readR ps env f off n = ([], ownErr ps env f) := by unfold readR; rw [if_neg he]
    rw [er]
    have OW := Lib.hid (owned_no h env f he)
    have hv : (ownErr ps env f == 0) = false := by simpa using he
    generalize ownErr ps env f = v at *
    clear h er he wo
    go_enter Try.func28, Try.ntmps28
    go_wp2_with fail
    refine OW.out.mono ?_; rintro e w1 ⟨rfl, rfl⟩
    go_wp2
    go_ret2
    exact ⟨none, 0, rfl, Src.nil _, Below.refl _ _⟩

set_option maxRecDepth 100000 in
theorem fetch_any (h : Tab w gs g ps) (f off n : Int) (wo : -9223372036854775808 ≤ off ∧ off ≤ 9223372036854775807) :
    Calls Try.prog 71 #[.pointer (some ⟨g, 0, none⟩), .int .i64 f, .int .i64 off, .int .i64 n] w fun e w' => ∃ A c, e = .returned (.tuple #[.slice A (fetchR ps f off n).1.length c, .int .i64 (fetchR ps f off n).2]) ∧ Src w' A (fetchR ps f off n).1.length c (fetchR ps f off n).1 ∧ Below w.heap.size w w' := by
  by_cases he : isH ps f
  · obtain ⟨k, rfl⟩ : ∃ k : Nat, f = (k : Int) := ⟨f.toNat, by have := he.1.1; omega⟩
    have hk : k < ps.length := by have := he.1.2; omega
    have hh : ps[k].holds ≠ 0 := by have := he.2; rwa [pg_at hk] at this
    have OW := Lib.hid (held_ok h k hk hh)
    by_cases hin : isIn off n
    · have er : fetchR ps k off n = ((ps[k].text.drop off.toNat).take n.toNat, 0) := by unfold fetchR; rw [if_pos he, if_pos hin, pg_at hk]
      rw [er]
      obtain ⟨o, rfl⟩ : ∃ o : Nat, off = (o : Int) := ⟨off.toNat, by have := hin.1; omega⟩
      obtain ⟨m, rfl⟩ : ∃ m : Nat, n = (m : Int) := ⟨n.toNat, by have := hin.2.1; omega⟩
      have hfit : o + m ≤ 256 := by have := hin.2.2; omega
      simp only [Int.toNat_natCast]
      have htl := (h.at_ hk).t
      have hl : ((ps[k].text.drop o).take m).length = m := by simp [htl]; omega
      have PC := Lib.hid (piece_yes h k hk o m hfit)
      rw [hl]
      generalize (ps[k].text.drop o).take m = l at *
      clear h hh he er hin htl hl wo
      go_enter Try.func71, Try.ntmps71
      go_wp2_with fail
      refine OW.out.mono ?_; rintro e w1 ⟨rfl, rfl⟩
      go_wp2_with fail
      refine PC.out.mono ?_; rintro e w2 ⟨A', c', rfl, S2, b2⟩
      have HS2 := Lib.hid S2
      have B2 := Lib.hid b2
      clear S2 b2
      go_wp2
      go_ret2
      exact ⟨A', c', rfl, HS2.out, B2.out⟩
    · have er : fetchR ps k off n = ([], 1) := by unfold fetchR; rw [if_pos he, if_neg hin]
      rw [er]
      have PC := Lib.hid (piece_no (w := w) (.pointer (some ⟨gs, k * 258, none⟩)) off n wo hin)
      clear h hh he er hin wo
      go_enter Try.func71, Try.ntmps71
      go_wp2_with fail
      refine OW.out.mono ?_; rintro e w1 ⟨rfl, rfl⟩
      go_wp2_with fail
      refine PC.out.mono ?_; rintro e w2 ⟨rfl, rfl⟩
      go_wp2
      go_ret2
      exact ⟨none, 0, rfl, Src.nil _, Below.refl _ _⟩
  · have er : fetchR ps f off n = ([], 1) := by unfold fetchR; rw [if_neg he]
    rw [er]
    have OW := Lib.hid (held_no h f he)
    clear h er he wo
    go_enter Try.func71, Try.ntmps71
    go_wp2_with fail
    refine OW.out.mono ?_; rintro e w1 ⟨rfl, rfl⟩
    go_wp2
    go_ret2
    exact ⟨none, 0, rfl, Src.nil _, Below.refl _ _⟩
end
end Go.Proofs.Ytlilfblnlpjkcaa.Fr
