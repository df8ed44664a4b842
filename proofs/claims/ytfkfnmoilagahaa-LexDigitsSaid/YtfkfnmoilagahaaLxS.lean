/- The document's Lower and Number of layer 23; the chapter's example. Conditions: those that each states. -/
import Derived.Test.YtfkfnmoilagahaaLxR
namespace Go.Proofs.Ytfkfnmoilagahaa.Lx
open Go.ChangeShapes Go.WideShapes Go.ChangeAt Go.RowKit Go.Deep
set_option linter.unusedVariables false
set_option linter.unusedSimpArgs false

theorem told_own {w : World} {base n : Nat} {v : Value} {l : List UInt8} (h : w.ownsRow base 5 1 v n (bys l)) : (convert 29 9 v).run Try.prog w = .ok (.string ⟨l.toArray⟩) w := by
  obtain ⟨A, c, rfl, hs, _⟩ := src_of_own h
  exact Di.told_str hs
theorem lowL_step {l : List UInt8} {j : Nat} (h : j < l.length) : lowL (l.take (j + 1)) = lowL (l.take j) ++ [lowC l[j]] := by
  rw [List.take_succ_eq_append_getElem h]
  unfold lowL
  rw [List.map_append, List.map_cons, List.map_nil]
theorem cap_iff (c : UInt8) : kB 16 c = true ↔ 65 ≤ c.toNat ∧ c.toNat ≤ 90 := by rw [kB_cap]; simp [capB]

theorem owns_alloc {w : World} {base n : Nat} {v : Value} {l : List UInt8} (h : w.ownsRow base 5 1 v n (bys l)) (o : Obj) : (w.alloc o).ownsRow base 5 1 v n (bys l) := h.alloc o
set_option maxRecDepth 100000 in
theorem rlower_any (l : List UInt8) (hl : l.length ≤ 1000000) (w : World) :
    Calls Try.prog 15 #[.string ⟨l.toArray⟩] w fun e w' => e = .returned (.string ⟨(lowL l).toArray⟩) ∧ Below w.heap.size w w' := by
  have hsz : (⟨l.toArray⟩ : ByteArray).size = l.length := rfl
  go_enter Try.func15, Try.ntmps15
  go_upto_region 3 with fail
  go_loopw [3, 4] (fun v i wr => ∃ j : Nat, j ≤ l.length ∧ i = .int .i64 (j : Int) ∧ Hid (wr.ownsRow w.heap.size 5 1 v j (bys (lowL (l.take j))) ∧ Below w.heap.size w wr)) (fun _ i _ => l.length - (intOf i).toNat)
  case atStart => exact ⟨0, Nat.zero_le _, rfl, Lib.hid ⟨World.ownsRow_nil w _ _ _, Below.refl _ _⟩⟩
  case round =>
    obtain ⟨j, hj, rfl, HP⟩ := hrel
    by_cases hlt : j < l.length
    · have hlt' : (j : Int) < (l.length : Int) := by omega
      have j0 : (0 : Int) ≤ (j : Int) := by omega
      have xj := IntWalk.i64_in ((j : Int) + 1) (by omega)
      obtain ⟨c, hc⟩ : ∃ c, c = l[j] := ⟨_, rfl⟩
      have hw : ((((⟨l.toArray⟩ : ByteArray)[j]'(by rw [hsz]; exact hlt)).toNat : Int)) = (c.toNat : Int) := by rw [hc]; rfl
      have LS := lowL_step hlt
      rw [← hc] at LS
      have CI := cap_iff c
      obtain ⟨d, hd⟩ : ∃ d, d = lowC c := ⟨_, rfl⟩
      have hdy : kB 16 c = true → (d.toNat : Int) = (c.toNat : Int) + 32 ∧ c.toNat + 32 < 256 := fun h => by rw [hd]; exact lowC_yes h
      have hdn : kB 16 c = false → (d.toNat : Int) = (c.toNat : Int) := fun h => by rw [hd, lowC_no h]
      rw [← hd] at LS
      have ST := Lib.hid (show ∀ v' w', w'.ownsRow w.heap.size 5 1 v' (j + 1) (bys (lowL (l.take j) ++ [d])) → Below w.heap.size w w' → Hid (w'.ownsRow w.heap.size 5 1 v' (j + 1) (bys (lowL (l.take (j + 1)))) ∧ Below w.heap.size w w') from fun v' w' h1 h2 => Lib.hid (by rw [LS]; exact ⟨h1, h2⟩))
      have go : ∀ x : Int, x = (d.toNat : Int) → True := fun _ _ => trivial
      obtain ⟨r, hr⟩ : ∃ r, r = lowL (l.take j) := ⟨_, rfl⟩
      rw [← hr] at ST HP
      have SO := Lib.hid (Src.one wr d)
      have DY := Lib.hid hdy
      have DN := Lib.hid hdn
      have CI := Lib.hid CI
      clear LS hc hr hd hdy hdn go
      go_upto_region 6 with fail
      clear hw
      by_cases h1 : 65 ≤ c.toNat
      · have g1 : (c.toNat : Int) ≥ 65 := by omega
        by_cases h2 : c.toNat ≤ 90
        · have g2 : (c.toNat : Int) ≤ 90 := by omega
          obtain ⟨y1, y2⟩ := DY.out (CI.out.2 ⟨h1, h2⟩)
          have xw : IntKind.u8.wrap ((c.toNat : Int) + 32) = (d.toNat : Int) := by rw [IntKind.wrap_u8', ← y1]; have := d.toNat_lt; omega
          clear y1 y2
          go_wp2_with (at_builtin; refine Hid.out ?_)
          unfold Hid
          refine wpList_append_src rfl _ _ rfl w.heap.size _ j r rfl (owns_alloc HP.out.1 _) _ 1 1 [d] rfl SO.out (by omega) (by have := HP.out.2.size; simp; omega) ?_
          intro v' w' h1' h2'
          have S := ST.out v' w' h1' ((HP.out.2.alloc HP.out.2.size _).trans h2')
          clear h1' h2'
          go_wp2
          go_roundw
          case rel => exact ⟨j + 1, by omega, by simp, S⟩
          case measure => simp [intOf]; omega
        · have g2 : ¬ (c.toNat : Int) ≤ 90 := by omega
          have y1 := DN.out (by
            cases h : kB 16 c with
            | false => rfl
            | true => exact absurd (CI.out.1 h).2 h2)
          rw [y1] at SO
          go_wp2_with (at_builtin; refine Hid.out ?_)
          unfold Hid
          refine wpList_append_src rfl _ _ rfl w.heap.size _ j r rfl (owns_alloc HP.out.1 _) _ 1 1 [d] rfl SO.out (by omega) (by have := HP.out.2.size; simp; omega) ?_
          intro v' w' h1' h2'
          have S := ST.out v' w' h1' ((HP.out.2.alloc HP.out.2.size _).trans h2')
          clear h1' h2'
          go_wp2
          go_roundw
          case rel => exact ⟨j + 1, by omega, by simp, S⟩
          case measure => simp [intOf]; omega
      · have g1 : ¬ (c.toNat : Int) ≥ 65 := by omega
        have y1 := DN.out (by
          cases h : kB 16 c with
          | false => rfl
          | true => exact absurd (CI.out.1 h).1 h1)
        rw [y1] at SO
        go_wp2_with (at_builtin; refine Hid.out ?_)
        unfold Hid
        refine wpList_append_src rfl _ _ rfl w.heap.size _ j r rfl (owns_alloc HP.out.1 _) _ 1 1 [d] rfl SO.out (by omega) (by have := HP.out.2.size; simp; omega) ?_
        intro v' w' h1' h2'
        have S := ST.out v' w' h1' ((HP.out.2.alloc HP.out.2.size _).trans h2')
        clear h1' h2'
        go_wp2
        go_roundw
        case rel => exact ⟨j + 1, by omega, by simp, S⟩
        case measure => simp [intOf]; omega
    · have je : j = l.length := by omega
      subst je
      have hge : ¬ (l.length : Int) < (l.length : Int) := by omega
      have hp := HP.out.1
      rw [List.take_length] at hp
      have ts := told_own hp
      have BB := Lib.hid HP.out.2
      clear HP hp
      go_wp2
      go_ret
      exact ⟨rfl, BB.out⟩
/-! The document's Number. -/
theorem okN_short {l : List UInt8} {most : Int} {j : Nat} (h : j ≤ l.length) (hv : most < (valN (l.take j) : Int)) : okN l most = false := by
  unfold okN
  have := valN_le l h
  rw [decide_eq_false (by omega)]
  simp
set_option maxRecDepth 100000 in
theorem rnumber_any (l : List UInt8) (most : Int) (hl : l.length ≤ 140737488351232) (hm : -9223372036854775808 ≤ most ∧ most ≤ 9223372036854775807) (w : World) :
    Calls Try.prog 7 #[.string ⟨l.toArray⟩, .int .i64 most] w fun e w' => e = .returned (numT l most) ∧ w' = w := by
  have hsz : (⟨l.toArray⟩ : ByteArray).size = l.length := rfl
  have NO := Lib.hid (fun h : okN l most = false => numT_no h)
  have YES := Lib.hid (fun h : okN l most = true => numT_yes h)
  obtain ⟨R, hR⟩ : ∃ R, R = numT l most := ⟨_, rfl⟩
  rw [← hR] at NO YES ⊢
  clear hR
  go_enter Try.func7, Try.ntmps7
  go_upto_region 3 with fail
  go_loop [6, 7] (fun n i => ∃ j v : Nat, j ≤ l.length ∧ n = .int .u64 (v : Int) ∧ i = .int .i64 (j : Int) ∧ Hid (v = valN (l.take j) ∧ v ≤ 9223372036854775807 ∧ ∀ n (h : n < j) (h' : n < l.length), kB 8 l[n] = true)) (fun _ i => l.length - (intOf i).toNat)
  case atStart => exact ⟨0, 0, Nat.zero_le _, rfl, rfl, Lib.hid ⟨rfl, by omega, fun n h => absurd h (by omega)⟩⟩
  case round =>
    obtain ⟨j, v, hj, rfl, rfl, HP⟩ := hrel
    by_cases hlt : j < l.length
    · have hlt' : (j : Int) < (l.length : Int) := by omega
      have j0 : (0 : Int) ≤ (j : Int) := by omega
      have xj := IntWalk.i64_in ((j : Int) + 1) (by omega)
      obtain ⟨c, hc⟩ : ∃ c, c = l[j] := ⟨_, rfl⟩
      have hw : ((((⟨l.toArray⟩ : ByteArray)[j]'(by rw [hsz]; exact hlt)).toNat : Int)) = (c.toNat : Int) := by rw [hc]; rfl
      have BAD := Lib.hid (fun hb : kB 8 c = false => NO.out (by
        have : l.all (kB 8) = false := by rw [List.all_eq_false]; exact ⟨l[j], List.getElem_mem hlt, by rw [← hc, hb]; simp⟩
        unfold okN; rw [this]; simp))
      have st := valN_step l hlt
      rw [← hc] at st
      have GR := Lib.hid (fun hb : most < (valN (l.take (j + 1)) : Int) => NO.out (okN_short (j := j + 1) (by omega) hb))
      rw [st, ← HP.out.1] at GR
      have OK := Lib.hid (fun (hb : kB 8 c = true) (hv : v * 10 + (c.toNat - 48) ≤ 9223372036854775807) => (show Hid (v * 10 + (c.toNat - 48) = valN (l.take (j + 1)) ∧ v * 10 + (c.toNat - 48) ≤ 9223372036854775807 ∧ ∀ n (h : n < j + 1) (h' : n < l.length), kB 8 l[n] = true) from Lib.hid ⟨by rw [st, ← HP.out.1], hv, fun n h h' => by
        by_cases e : n = j
        · subst e; rw [← hc]; exact hb
        · exact HP.out.2.2 n (by omega) h'⟩))
      have DI := Lib.hid (kB_dig c)
      have vle := HP.out.2.1
      clear st hc HP
      obtain ⟨x, hx⟩ : ∃ x : Nat, x = c.toNat := ⟨_, rfl⟩
      rw [← hx] at hw DI GR OK
      clear hx
      by_cases h1 : x < 48
      · have g1 : (x : Int) < 48 := by omega
        have EV := Lib.hid <| BAD.out (by rw [DI.out]; simp [digB]; omega)
        clear h1
        go_wp2
        go_ret2
        exact ⟨by rw [EV.out]; rfl, rfl⟩
      · have g1 : ¬ (x : Int) < 48 := by omega
        by_cases h2 : x > 57
        · have g2 : (x : Int) > 57 := by omega
          have EV := Lib.hid <| BAD.out (by rw [DI.out]; simp [digB]; omega)
          clear h1 h2
          go_wp2
          go_ret2
          exact ⟨by rw [EV.out]; rfl, rfl⟩
        · have g2 : ¬ (x : Int) > 57 := by omega
          have yes := DI.out.trans (show digB x = true from by simp [digB]; omega)
          obtain ⟨d, hd⟩ : ∃ d : Nat, d = x - 48 := ⟨_, rfl⟩
          rw [← hd] at GR OK
          have xd : IntKind.u8.wrap ((x : Int) - 48) = (d : Int) := by rw [IntKind.wrap_u8']; omega
          have xd2 : IntKind.u64.wrap (d : Int) = (d : Int) := by simp [IntKind.wrap, IntKind.bits, IntKind.signed]; omega
          have xs : IntKind.u64.wrap (9223372036854775807 - (d : Int)) = 9223372036854775807 - (d : Int) := by simp [IntKind.wrap, IntKind.bits, IntKind.signed]; omega
          have td : (9223372036854775807 - (d : Int)).tdiv 10 = (9223372036854775807 - (d : Int)) / 10 := Int.tdiv_eq_ediv_of_nonneg (by omega)
          obtain ⟨u, hu⟩ : ∃ u : Int, u = (9223372036854775807 - (d : Int)) / 10 := ⟨_, rfl⟩
          rw [← hu] at td
          have xu : IntKind.u64.wrap u = u := by simp [IntKind.wrap, IntKind.bits, IntKind.signed]; omega
          by_cases hv : (v : Int) > u
          · have EV := Lib.hid <| GR.out (by omega)
            clear h1 h2 hd hu
            go_wp2
            go_ret2
            exact ⟨by rw [EV.out]; rfl, rfl⟩
          · have S := OK.out yes (by omega)
            have x10 : IntKind.u64.wrap ((v : Int) * 10) = (v : Int) * 10 := by simp [IntKind.wrap, IntKind.bits, IntKind.signed]; omega
            have x11 : IntKind.u64.wrap ((v : Int) * 10 + (d : Int)) = (v : Int) * 10 + (d : Int) := by simp [IntKind.wrap, IntKind.bits, IntKind.signed]; omega
            clear h1 h2 hd hu yes
            go_wp2
            go_round
            case rel => exact ⟨j + 1, v * 10 + d, by omega, by simp, by simp, S⟩
            case measure => simp [intOf]; omega
    · have je : j = l.length := by omega
      subst je
      have hge : ¬ (l.length : Int) < (l.length : Int) := by omega
      have hp := HP.out
      rw [List.take_length] at hp
      have vle := hp.2.1
      have hal : l.all (kB 8) = true := by
        rw [List.all_eq_true]
        intro c hc
        obtain ⟨n, hn, rfl⟩ := List.mem_iff_getElem.1 hc
        exact hp.2.2 n hn hn
      by_cases hn : l = []
      · have q : l.isEmpty = true := by simp [hn]
        have qe : (l == ([] : List UInt8)) = true := by simp [hn]
        have EV := Lib.hid <| NO.out (by unfold okN; rw [hn]; simp)
        clear hp hal HP
        subst hn
        go_wp2
        go_ret2
        exact ⟨by rw [EV.out]; rfl, rfl⟩
      · have q : l.isEmpty = false := by cases l <;> simp_all
        have qe : (l == ([] : List UInt8)) = false := by cases l <;> simp_all
        by_cases hz : most < 0
        · have EV := Lib.hid <| NO.out (by unfold okN; rw [decide_eq_false (by omega)]; simp)
          clear hp hal HP hn
          go_wp2
          go_ret2
          exact ⟨by rw [EV.out]; rfl, rfl⟩
        · have xm : IntKind.u64.wrap most = most := by simp [IntKind.wrap, IntKind.bits, IntKind.signed]; omega
          by_cases hb : (v : Int) > most
          · have EV := Lib.hid <| NO.out (by unfold okN; rw [decide_eq_false (by have := hp.1; omega)]; simp)
            clear hp hal HP hn
            go_wp2
            go_ret2
            exact ⟨by rw [EV.out]; rfl, rfl⟩
          · have EV := Lib.hid <| YES.out (by unfold okN; rw [hal, q, decide_eq_true (by have := hp.1; omega)]; rfl)
            have VV := Lib.hid hp.1
            have xv := IntWalk.i64_in (v : Int) (by omega)
            clear hp hal HP hn
            go_wp2
            go_ret2
            exact ⟨by rw [EV.out, ← VV.out]; rfl, rfl⟩

/-! The chapter's example. -/
theorem ex1 : fieldT [72, 111, 115, 116, 58, 32, 32, 97, 32, 98, 32] = .tuple #[.string ⟨#[104, 111, 115, 116]⟩, .string ⟨#[97, 32, 98]⟩, .int .i64 0] := by
  have : fieldR [72, 111, 115, 116, 58, 32, 32, 97, 32, 98, 32] = some ([104, 111, 115, 116], [97, 32, 98]) := by decide +kernel
  unfold fieldT
  rw [this]
theorem ex2 : fieldT [120] = .tuple #[.string ⟨#[]⟩, .string ⟨#[]⟩, .int .i64 50] := by
  have : fieldR [120] = none := by decide +kernel
  unfold fieldT
  rw [this]
set_option maxRecDepth 100000 in
theorem alive_any (w : World) : Calls Try.prog 5 #[] w fun e w' => e = .returned (.bool true) ∧ Below w.heap.size w w' := by
  have F1 := fun W => field_any [72, 111, 115, 116, 58, 32, 32, 97, 32, 98, 32] (by decide) W
  have F2 := fun W => field_any [120] (by decide) W
  rw [ex1] at F1
  rw [ex2] at F2
  have F1 := Lib.hid F1
  have F2 := Lib.hid F2
  go_enter Try.func5, Try.ntmps5
  go_wp2_with fail
  refine (F1.out w).mono ?_; rintro e w1 ⟨rfl, h⟩
  have B1 := Lib.hid h
  clear h
  go_wp2_with fail
  refine (F2.out w1).mono ?_; rintro e w2 ⟨rfl, h⟩
  have B2 := Lib.hid (B1.out.trans (h.mono B1.out.size))
  clear h
  go_wp2
  go_ret
  exact ⟨rfl, B2.out⟩
end Go.Proofs.Ytfkfnmoilagahaa.Lx
