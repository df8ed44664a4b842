/- Package frame: New, Alloc, Write, Read, Fetch, FreeCount. Conditions: those that each states. -/
import Derived.Test.YtefnkednnnlhoaaGreatDoorMAF
namespace Go.Proofs.YtefnkednnnlhoaaGreatDoor.Fr
open Go.ChangeShapes Go.WideShapes Go.ChangeAt Go.RowKit Go.Deep
set_option linter.unusedVariables false

theorem page_info : (Tryz.prog.info? 190).map (fun i => (i.zero.map (·.cells), i.size, i.bytes)) = some (some Pg.blank.cells.toArray, 258, 272) := by kernel_rfl
theorem make_pages (n : Nat) (hn : n ≤ 256) (W : World) :
    (Instr.makeSlice 129 (.int .i64 (n : Int)) (.int .i64 (n : Int))).run Tryz.prog W = .ok (.slice (some ⟨W.heap.size, 0, none⟩) n n) (W.alloc (.cells (madeCells Pg.blank.cells.toArray (n * 258)) 190)) := by
  obtain ⟨i, hi, hs⟩ := Option.map_eq_some_iff.1 page_info
  simp only [Prod.mk.injEq] at hs
  obtain ⟨h0, h1, h2⟩ := hs
  obtain ⟨z, hz, hzc⟩ := Option.map_eq_some_iff.1 h0
  have hr := run_make (P := Tryz.prog) W 129 190 i z Tryz.underlying129 hi hz .i64 .i64 (n : Int) (n : Int) (by omega) (by omega) (by rw [h2]; omega) (by omega)
  simp only [h1, hzc, Int.toNat_natCast] at hr
  exact hr
theorem made_cell (n f i : Nat) (hf : f < n) (hi : i < 258) : (madeCells Pg.blank.cells.toArray (n * 258))[f * 258 + i]? = Pg.blank.cells[i]? := by
  have hl : Pg.blank.cells.length = 258 := Pg.blank_ok.len
  generalize Pg.blank.cells = Z at *
  have hlt : f * 258 + i < n * 258 := by omega
  unfold madeCells
  rw [Array.getElem?_map, Array.getElem?_range, if_pos hlt]
  have e : (f * 258 + i) % Z.toArray.size = i := by
    rw [List.size_toArray, hl]; omega
  simp only [Option.map_some, e]
  have hi' : i < Z.toArray.size := by rw [List.size_toArray, hl]; exact hi
  rw [getElem!_pos Z.toArray i hi', List.getElem_toArray, List.getElem?_eq_getElem (by omega)]

set_option maxRecDepth 100000 in
theorem new_ok (n : Nat) (w : World) (h1 : 1 ≤ n) (h2 : n ≤ 256) :
    Calls Tryz.prog 29 #[.int .i64 (n : Int)] w fun e w' => e = .returned (.tuple #[.pointer (some ⟨w.heap.size + 1, 0, none⟩), .int .i64 0]) ∧ Tab w' w.heap.size (w.heap.size + 1) (List.replicate n .blank) ∧ Below w.heap.size w w' ∧ w'.heap.size = w.heap.size + 2 := by
  have g1 : ¬ (n : Int) < 1 := by omega
  have g2 : ¬ (n : Int) > 256 := by omega
  have fin : ∀ W1 W2 : World, W1 = w.alloc (.cells (madeCells Pg.blank.cells.toArray (n * 258)) 190) → W2 = W1.alloc (.cells #[.slice (some ⟨w.heap.size, 0, none⟩) n n] 131) → Tab W2 w.heap.size (w.heap.size + 1) (List.replicate n .blank) ∧ Below w.heap.size w W2 ∧ W2.heap.size = w.heap.size + 2 := by
    rintro W1 W2 rfl rfl
    refine ⟨⟨by omega, by simpa using h1, by simpa using h2, ?_, fun p hp => by rw [(List.mem_replicate.1 hp).2]; exact Pg.blank_ok, madeCells Pg.blank.cells.toArray (n * 258), (Blk.new w _ _).alloc _, by rw [size_madeCells, List.length_replicate], fun f hf i hi => ?_⟩, ((Below.refl _ w).alloc (Nat.le_refl _) _).alloc (by simp) _, by simp⟩
    · have := Blk.new (w.alloc (.cells (madeCells Pg.blank.cells.toArray (n * 258)) 190)) 131 #[.slice (some ⟨w.heap.size, 0, none⟩) n n]
      rw [List.length_replicate]
      simpa using this
    · rw [List.length_replicate] at hf
      rw [List.getElem_replicate]
      exact made_cell n f i hf hi
  have FIN := Lib.hid fin
  have hm := fun W => make_pages n h2 W
  clear fin
  generalize madeCells Pg.blank.cells.toArray (n * 258) = Z at *
  go_enter Tryz.func29, Tryz.ntmps29
  go_wp2
  go_ret2
  exact ⟨rfl, FIN.out _ _ rfl rfl⟩
def allocR (ps : List Pg) (env : Int) : List Pg × Int × Int :=
  if isE env then (match ps.findIdx? (fun p => p.owner == 0) with | some k => (ps.set k { pg ps k with owner := env.toNat }, (k : Int), 0) | none => (ps, 0, 10)) else (ps, 0, 1)
def writeR (ps : List Pg) (env f off : Int) (s : List UInt8) : List Pg × Int :=
  if ownErr ps env f = 0 then (if isIn off (s.length : Int) then (if (pg ps f).holds = 0 then (ps.set f.toNat { pg ps f with text := (pg ps f).text.take off.toNat ++ s ++ (pg ps f).text.drop (off.toNat + s.length) }, 0) else (ps, 21)) else (ps, 1)) else (ps, ownErr ps env f)
def readR (ps : List Pg) (env f off n : Int) : List UInt8 × Int :=
  if ownErr ps env f = 0 then (if isIn off n then (((pg ps f).text.drop off.toNat).take n.toNat, 0) else ([], 1)) else ([], ownErr ps env f)
section
variable {gs g : Nat} {ps : List Pg} {w : World}
set_option maxRecDepth 100000 in
theorem alloc_any (h : Tab w gs g ps) (env : Int) :
    Calls Tryz.prog 60 #[.pointer (some ⟨g, 0, none⟩), .int .i64 env] w fun e w' => e = .returned (.tuple #[.int .i64 (allocR ps env).2.1, .int .i64 (allocR ps env).2.2]) ∧ Tab w' gs g (allocR ps env).1 ∧ Chg w w' (fun k => k = gs) := by
  have c0 := head_cell h
  have n2 := h.n2
  have H := Lib.hid h
  by_cases hE : isE env
  · have TO := Lib.hid (isEnv_yes env hE w)
    have HE := Lib.hid hE
    clear hE h
    go_enter Tryz.func60, Tryz.ntmps60
    go_wp2_with fail
    refine TO.out.mono ?_; rintro e w1 ⟨rfl, rfl⟩
    go_wp2
    go_loopw [17] (fun i wr => ∃ (j : Nat), j ≤ ps.length ∧ i = .int .i64 (j : Int) ∧ Hid (∀ x (hx : x < ps.length), x < j → ps[x].owner ≠ 0) ∧ wr = w1) (fun i _ => ps.length - (intOf i).toNat)
    case atStart => exact ⟨0, Nat.zero_le _, rfl, Lib.hid (fun _ _ h => absurd h (by omega)), rfl⟩
    case round =>
      obtain ⟨j, hj, rfl, HM, rfl⟩ := hrel
      by_cases hlt : j < ps.length
      · have hlt' : (j : Int) < (ps.length : Int) := by omega
        have j0 : (0 : Int) ≤ (j : Int) := by omega
        have c1 := H.out.owner hlt
        have f0 := H.out.thaw (j * 258)
        by_cases ho : ps[j].owner = 0
        · have hfi : ps.findIdx? (fun p => p.owner == 0) = some j := by
            rw [List.findIdx?_eq_some_iff_getElem]
            exact ⟨hlt, by simpa using ho, fun x hx => by have := HM.out x (by omega) hx; simpa using this⟩
          have er : allocR ps env = (ps.set j { ps[j] with owner := env.toNat }, (j : Int), 0) := by
            unfold allocR; rw [if_pos HE.out, hfi]; simp only [pg_at hlt]
          have ER := Lib.hid er
          have oko := H.out.at_ hlt
          have oto : env.toNat ≤ 2 := by rcases HE.out with e | e <;> omega
          have eto : ((env.toNat : Nat) : Int) = env := by rcases HE.out with e | e <;> rw [e] <;> rfl
          have hv := H.out.set hlt (i := 0) (by omega) (.int .i64 env) { ps[j] with owner := env.toNat } ⟨oto, oko.h, oko.t⟩ (by
            unfold Pg.cells; rw [List.set_cons_zero]; simp only [eto])
          rw [Nat.add_zero] at hv
          have HV := Lib.hid hv
          rw [ho] at c1
          clear hv er oko oto eto hfi ho
          go_wp2
          go_ret2
          rw [ER.out]
          exact ⟨rfl, HV.out, Chg.set _ _ _ rfl⟩
        · have ho' : ((ps[j].owner : Int) == 0) = false := by simpa using ho
          have HM2 : Hid (∀ x (hx : x < ps.length), x < j + 1 → ps[x].owner ≠ 0) := Lib.hid (fun x hx h => by
            by_cases e : x = j
            · subst e; exact ho
            · exact HM.out x hx (by omega))
          have x1 := IntWalk.i64_in ((j : Int) + 1) (by omega)
          generalize (ps[j].owner : Int) = v at *
          clear ho
          go_wp2
          go_roundw
          case rel => exact ⟨j + 1, by omega, by simp, HM2, by first | rfl | trivial⟩
          case measure => simp [intOf]; omega
      · have hge : ¬ (j : Int) < (ps.length : Int) := by omega
        have hfi : ps.findIdx? (fun p => p.owner == 0) = none := by
          rw [List.findIdx?_eq_none_iff]
          intro p hp
          obtain ⟨x, hx, rfl⟩ := List.mem_iff_getElem.1 hp
          have := HM.out x hx (by omega)
          simpa using this
        have er : allocR ps env = (ps, 0, 10) := by unfold allocR; rw [if_pos HE.out, hfi]
        have ER := Lib.hid er
        clear er hfi
        go_wp2
        go_ret2
        rw [ER.out]
        exact ⟨rfl, H.out, Chg.refl _ _⟩
  · have TO := Lib.hid (isEnv_no env hE w)
    have er : allocR ps env = (ps, 0, 1) := by unfold allocR; rw [if_neg hE]
    rw [er]
    clear hE h er
    go_enter Tryz.func60, Tryz.ntmps60
    go_wp2_with fail
    refine TO.out.mono ?_; rintro e w1 ⟨rfl, rfl⟩
    go_wp2
    go_ret2
    exact ⟨rfl, H.out, Chg.refl _ _⟩
end
end Go.Proofs.YtefnkednnnlhoaaGreatDoor.Fr

/- Package frame: Write, Read, Fetch; the chapter's example. Conditions: those that each states. -/
namespace Go.Proofs.YtefnkednnnlhoaaGreatDoor.Fr
open Go.ChangeShapes Go.WideShapes Go.ChangeAt Go.RowKit Go.Deep
set_option linter.unusedVariables false

section
variable {gs g : Nat} {ps : List Pg} {w : World}
set_option maxRecDepth 100000 in
theorem write_any (h : Tab w gs g ps) (env f off : Int) (wo : -9223372036854775808 ≤ off ∧ off ≤ 9223372036854775807) (A : Option Addr) (n c : Nat) (s : List UInt8) (hs : Src w A n c s) :
    Calls Tryz.prog 64 #[.pointer (some ⟨g, 0, none⟩), .int .i64 env, .int .i64 f, .int .i64 off, .slice A n c] w fun e w' => e = .returned (.int .i64 (writeR ps env f off s).2) ∧ Tab w' gs g (writeR ps env f off s).1 ∧ Chg w w' (fun k => k = gs) := by
  obtain rfl : s.length = n := hs.len
  by_cases he : ownErr ps env f = 0
  · obtain ⟨k, hk, rfl, hE, ho⟩ := ownErr_zero he
    have n2 := h.n2
    have OW := Lib.hid (owned_ok h env k hk hE ho)
    have c1 := h.holds hk
    have H := Lib.hid h
    by_cases hin : isIn off (s.length : Int)
    · have WI := Lib.hid (within_yes off s.length hin w)
      by_cases hh : ps[k].holds = 0
      · have er : writeR ps env k off s = (ps.set k { ps[k] with text := ps[k].text.take off.toNat ++ s ++ ps[k].text.drop (off.toNat + s.length) }, 0) := by
          unfold writeR; rw [if_pos he, if_pos hin, pg_at hk, if_pos hh, Int.toNat_natCast]
        rw [er]
        obtain ⟨o, rfl⟩ : ∃ o : Nat, off = (o : Int) := ⟨off.toNat, by have := hin.1; omega⟩
        have hfit : o + s.length ≤ 256 := by have := hin.2.2; omega
        rw [Int.toNat_natCast]
        have oko := h.at_ hk
        obtain ⟨cs, hb, hsz, _⟩ := h.row
        have hlen : (bys s).length = s.length := bys_length s
        have htl := oko.t
        have hv := h.seg hk (i := 2 + o) (bys s) (by omega) { ps[k] with text := ps[k].text.take o ++ s ++ ps[k].text.drop (o + s.length) } ⟨oko.o, oko.h, by simp [htl]; omega⟩ (by
          have e1 : 2 + o = o + 1 + 1 := by omega
          have e2 : 2 + o + (bys s).length = o + s.length + 1 + 1 := by omega
          rw [e2, e1]
          simp only [Pg.cells, List.take_succ_cons, List.drop_succ_cons, bys_append, bys_take, bys_drop, List.cons_append]) hb
        rw [← Nat.add_assoc] at hv
        have hcut := run_cut1 ⟨gs, k * 258 + 2, none⟩ o (by omega)
        have hmin : (bys s).length = Nat.min s.length (256 - o) := by
          rw [hlen]; exact (Nat.min_eq_left (by omega)).symm
        have hpos : 0 < (bys s).length → some (cutAt ⟨gs, k * 258 + 2, none⟩ o) = some ⟨gs, k * 258 + 2 + o, none⟩ ∧ ∃ ad, A = some ad ∧ ∀ j v, (bys s)[j]? = some v → w.cell? (ad.add j) = some v := by
          intro hp
          refine ⟨by rw [cutAt_lt (by omega)], ?_⟩
          obtain ⟨b, o', rfl, _, _⟩ := hs.lies hp
          exact ⟨_, rfl, fun j v hv => Bytes.at_ _ hs.toBytes j v hv⟩
        have HB := Lib.hid hb
        have HV := Lib.hid hv
        have HMIN := Lib.hid hmin
        have HPOS := Lib.hid hpos
        have hall := bys_all s
        have HALL := Lib.hid hall
        generalize bys s = Z at *
        rw [hh] at c1
        generalize cutAt ⟨gs, k * 258 + 2, none⟩ o = ca at *
        clear h hb hv hE ho he er hh hmin hpos hall hin hs oko htl hlen
        go_enter Tryz.func64, Tryz.ntmps64
        go_wp2_with fail
        refine OW.out.mono ?_; rintro e w1 ⟨rfl, rfl⟩
        go_wp2_with fail
        refine WI.out.mono ?_; rintro e w1 ⟨rfl, rfl⟩
        go_wp2_with (refine wpList_copy_row rfl (.tmp 37) (.tmp 38) 31 31 rfl 5 Tryz.underlying31 u8_size (some ca) A (256 - o) (256 - o) s.length c rfl rfl gs (k * 258 + 2 + o) cs 190 HB.out Z HMIN.out HPOS.out HV.out.1 HALL.out ?_)
        go_ret
        refine ⟨rfl, ?_, Chg.setRow _ _ rfl⟩
        have hv := HV.out.2
        rw [List.append_assoc] at hv
        exact hv
      · have er : writeR ps env k off s = (ps, 21) := by unfold writeR; rw [if_pos he, if_pos hin, pg_at hk, if_neg hh]
        rw [er]
        have hk1 : (ps[k].holds : Int) > 0 := by omega
        generalize (ps[k].holds : Int) = v at *
        clear h hE ho he er hh hin hs wo
        go_enter Tryz.func64, Tryz.ntmps64
        go_wp2_with fail
        refine OW.out.mono ?_; rintro e w1 ⟨rfl, rfl⟩
        go_wp2_with fail
        refine WI.out.mono ?_; rintro e w1 ⟨rfl, rfl⟩
        go_wp2
        go_ret
        exact ⟨rfl, H.out, Chg.refl _ _⟩
    · have WI := Lib.hid (within_no off s.length wo hin w)
      have er : writeR ps env k off s = (ps, 1) := by unfold writeR; rw [if_pos he, if_neg hin]
      rw [er]
      clear h hE ho he er hin hs wo c1
      go_enter Tryz.func64, Tryz.ntmps64
      go_wp2_with fail
      refine OW.out.mono ?_; rintro e w1 ⟨rfl, rfl⟩
      go_wp2_with fail
      refine WI.out.mono ?_; rintro e w1 ⟨rfl, rfl⟩
      go_wp2
      go_ret
      exact ⟨rfl, H.out, Chg.refl _ _⟩
  · have er : writeR ps env f off s = (ps, ownErr ps env f) := by unfold writeR; rw [if_neg he]
    rw [er]
    have OW := Lib.hid (owned_no h env f he)
    have H := Lib.hid h
    have hv : (ownErr ps env f == 0) = false := by simpa using he
    generalize ownErr ps env f = v at *
    clear h er he wo hs
    go_enter Tryz.func64, Tryz.ntmps64
    go_wp2_with fail
    refine OW.out.mono ?_; rintro e w1 ⟨rfl, rfl⟩
    go_wp2
    go_ret
    exact ⟨rfl, H.out, Chg.refl _ _⟩

theorem piece_no (p : Value) (o n : Int) (wo : -9223372036854775808 ≤ o ∧ o ≤ 9223372036854775807) (hn : ¬ isIn o n) :
    Calls Tryz.prog 100 #[p, .int .i64 o, .int .i64 n] w fun e w' => e = .returned (.tuple #[.slice none 0 0, .int .i64 1]) ∧ w' = w := by
  have WI := Lib.hid (within_no o n wo hn w)
  clear hn wo
  go_enter Tryz.func100, Tryz.ntmps100
  go_wp2_with fail
  refine WI.out.mono ?_; rintro e w1 ⟨rfl, rfl⟩
  go_wp2
  go_ret2
  exact ⟨rfl, rfl⟩

end
end Go.Proofs.YtefnkednnnlhoaaGreatDoor.Fr
