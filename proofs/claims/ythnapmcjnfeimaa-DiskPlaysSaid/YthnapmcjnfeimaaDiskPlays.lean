/- Whatever size and calls come in, 'pantlerlaw06.DiskPlays' returns true and leaves them as they were. No condition. -/
import Derived.Test.YthnapmcjnfeimaaRf8
import Derived.Test.YthnapmcjnfeimaaRf7
namespace Go.Proofs.Ythnapmcjnfeimaa.diskPlays
open Go.ChangeShapes Go.WideShapes Go.ChangeAt Go.RowKit Go.Deep Di
set_option linter.unusedVariables false


/-- What the law's loop hands on. -/
def Inv (fn : Nat → Cmd) (B g gm n : Nat) (w : World) (j : Nat) (wr : World) : Prop :=
  ∃ d : Dk, RD.Both B wr g gm d ∧ d.exts.length ≤ j ∧ d.line.length ≤ j ∧ d.blocks.length = n ∧ Below B w wr
theorem Inv.next {fn : Nat → Cmd} {B g gm n : Nat} {w wr : World} {j : Nat} {d : Dk} (c : Cmd) (h : RD.Both B wr g gm (doD d c).1) (h1 : d.exts.length ≤ j) (h2 : d.line.length ≤ j) (h3 : d.blocks.length = n) (h4 : Below B w wr) (m : Nat) : Inv fn B g gm n w (j + 1) (wr.drewN m) := by
  have z := doD_sizes d c
  exact ⟨_, h.drewN m, by omega, by omega, by rw [z.2.2]; exact h3, ⟨h4.os, h4.tape, h4.output, h4.size, h4.block⟩⟩
theorem ref_heads {B g gm : Nat} {w : World} {d : Dk} (h : RD.Both B w g gm d) : ∃ bt bo ct co Al cl, RD.RefAt w gm bt bo ct co Al cl d := by
  obtain ⟨F, R, hd, ⟨bt, bo, ct, co, Al, cl, D, hF⟩, _⟩ := h.ex
  exact ⟨bt, bo, ct, co, Al, cl, D⟩
theorem both_image {B g gm : Nat} {w : World} {d : Dk} (h : RD.Both B w g gm d) : Calls Try.prog 14 #[.pointer (some ⟨g, 0, none⟩)] w fun e w' => e = .returned (.slice (some ⟨w.heap.size, 0, none⟩) d.blocks.length d.blocks.length) ∧ Texts w' w.heap.size d.blocks d.blocks.length ∧ Below w.heap.size w w' := by
  obtain ⟨F, R, hd, _⟩ := h.ex
  exact image_any hd
set_option maxRecDepth 100000 in
set_option maxHeartbeats 4000000 in
theorem walk (w : World) (n : Int) (wn : (Lit.int .i64 n).wf = true) (Aa : Option Addr) (na ca : Nat) (fn : Nat → Cmd) (ha : Acts w Aa na fn) :
    Calls Try.prog 3 #[.int .i64 n, .slice Aa na ca] w fun e w' => e = .returned (.bool true) ∧ Below w.heap.size w w' := by
  have HA := Lib.hid ha
  clear ha wn
  by_cases hfar : isFar na fn
  · have FAR := Lib.hid (fun W A n c fn (h : Acts W A n fn) (hf : isFar n fn) => far_any W A n c fn h true (by simp [hf]))
    have HF := Lib.hid hfar
    clear hfar
    go_enter Try.func3, Try.ntmps3
    go_wp2_with fail
    refine (alive_any _).mono ?_; rintro e w0 ⟨rfl, b0⟩
    have B0 := Lib.hid b0
    have hw0 : w.heap.size ≤ w0.heap.size := b0.size
    clear b0
    go_wp2_with fail
    refine (FAR.out _ _ _ _ _ (HA.out.older (older_below B0.out)) HF.out).mono ?_; rintro e w2 ⟨rfl, rfl⟩
    go_wp2
    go_ret
    exact ⟨rfl, B0.out⟩
  · have FAR := Lib.hid (fun W A n c fn (h : Acts W A n fn) (hf : ¬ isFar n fn) => far_any W A n c fn h false (by simp [hf]))
    have HF := Lib.hid hfar
    have hna : na ≤ 100 := by
      by_cases h : na ≤ 100
      · exact h
      · exact absurd (.inl (by omega)) hfar
    have HSZ := Lib.hid (fun i (hi : i < na) => show (fn i).s.size ≤ 1000 by
      by_cases h : (fn i).s.size ≤ 1000
      · exact h
      · exact absurd (.inr ⟨i, hi, by omega⟩) hfar)
    clear hfar
    by_cases h1 : n < 1
    · have NEW := Lib.hid (fun w => new_no n w (.inl h1))
      have g1 : ¬ n > 30 := by omega
      go_enter Try.func3, Try.ntmps3
      go_wp2_with fail
      refine (alive_any _).mono ?_; rintro e w0 ⟨rfl, b0⟩
      have B0 := Lib.hid b0
      have hw0 : w.heap.size ≤ w0.heap.size := b0.size
      clear b0
      go_wp2_with fail
      refine (FAR.out _ _ _ _ _ (HA.out.older (older_below B0.out)) HF.out).mono ?_; rintro e w2 ⟨rfl, rfl⟩
      go_wp2_with fail
      refine (NEW.out _).mono ?_; rintro e w1 ⟨rfl, rfl⟩
      go_wp2
      go_ret
      exact ⟨rfl, B0.out⟩
    · by_cases h2 : n > 512
      · have NEW := Lib.hid (fun w => new_no n w (.inr h2))
        have g1 : n > 30 := by omega
        have g2 : ¬ n ≤ 512 := by omega
        go_enter Try.func3, Try.ntmps3
        go_wp2_with fail
        refine (alive_any _).mono ?_; rintro e w0 ⟨rfl, b0⟩
        have B0 := Lib.hid b0
        have hw0 : w.heap.size ≤ w0.heap.size := b0.size
        clear b0
        go_wp2_with fail
        refine (FAR.out _ _ _ _ _ (HA.out.older (older_below B0.out)) HF.out).mono ?_; rintro e w2 ⟨rfl, rfl⟩
        go_wp2_with fail
        refine (NEW.out _).mono ?_; rintro e w1 ⟨rfl, rfl⟩
        go_wp2
        go_ret
        exact ⟨rfl, B0.out⟩
      · by_cases h3 : n > 30
        · have g2 : n ≤ 512 := by omega
          go_enter Try.func3, Try.ntmps3
          go_wp2_with fail
          refine (alive_any _).mono ?_; rintro e w0 ⟨rfl, b0⟩
          have B0 := Lib.hid b0
          have hw0 : w.heap.size ≤ w0.heap.size := b0.size
          clear b0
          go_wp2_with fail
          refine (FAR.out _ _ _ _ _ (HA.out.older (older_below B0.out)) HF.out).mono ?_; rintro e w2 ⟨rfl, rfl⟩
          go_wp2
          go_ret
          exact ⟨rfl, B0.out⟩
        · obtain ⟨m, rfl⟩ : ∃ m : Nat, n = (m : Int) := ⟨n.toNat, by omega⟩
          have m1 : 1 ≤ m := by omega
          have m2 : m ≤ 512 := by omega
          have NEW := Lib.hid (fun w => own_new m m1 m2 w)
          have RNEW := Lib.hid (fun w => RD.rnew_any m m1 m2 w)
          go_enter Try.func3, Try.ntmps3
          go_wp2_with fail
          refine (alive_any _).mono ?_; rintro e w0 ⟨rfl, b0⟩
          have B0 := Lib.hid b0
          have hw0 : w.heap.size ≤ w0.heap.size := b0.size
          clear b0
          go_wp2_with fail
          refine (FAR.out _ _ _ _ _ (HA.out.older (older_below B0.out)) HF.out).mono ?_; rintro e w2 ⟨rfl, rfl⟩
          go_wp2_with fail
          refine (NEW.out _).mono ?_; rintro e w1 ⟨rfl, t1, b1, -⟩
          have T1 := Lib.hid t1
          have B1 := Lib.hid (B0.out.trans (b1.mono hw0))
          have hw1 : w2.heap.size ≤ w1.heap.size := t1.lt
          clear t1 b1
          go_wp2_with fail
          refine (RNEW.out _).mono ?_; rintro e w3 ⟨rfl, ⟨R, r3, hR⟩, b3⟩
          have INI : Hid (Inv fn w.heap.size (w2.heap.size + 1) w1.heap.size m w 0 w3) := Lib.hid (by
            obtain ⟨F, hd, hF⟩ := T1.out.ex
            have hz : (newD m).blocks.length = m := List.length_replicate
            refine ⟨newD m, ⟨⟨F, R, hd.new b3, r3, fun k hk => Nat.le_trans hw0 (hF k hk), fun k hk => ?_, fun k hk hr => ?_⟩, ?_⟩, Nat.le_refl _, Nat.le_refl _, hz, B1.out.trans (b3.mono (Nat.le_trans hw0 hw1))⟩
            · have := hR k hk; omega
            · have := hR k hr; have := hd.lt hk; omega
            · have := b3.size; omega)
          clear r3 hR b3 T1 B1 NEW RNEW FAR HF
          generalize w2.heap.size = gs at *
          generalize w1.heap.size = gm at *
          clear B0 hw1
          go_wp2
          go_loopw [8] (fun i wr => ∃ (j : Nat), j ≤ na ∧ i = .int .i64 (j : Int) ∧ Inv fn w.heap.size (gs + 1) gm m w j wr) (fun i _ => na - (intOf i).toNat)
          case atStart => exact ⟨0, Nat.zero_le _, rfl, INI.out⟩
          case round =>
            clear INI
            obtain ⟨j, hj, rfl, d, hX, he, hline, hblk, hbel⟩ := hrel
            have HX := Lib.hid hX
            have HB := Lib.hid hbel
            have HE := Lib.hid (And.intro he (And.intro hline hblk))
            have hgsz : w.heap.size ≤ wr.heap.size := hX.lt
            clear hX hbel
            by_cases hlt : j < na
            · have hlt' : (j : Int) < na := by omega
              have j0 : (0 : Int) ≤ j := by omega
              have xj := IntWalk.i64_in ((j : Int) + 1) (by omega)
              obtain ⟨bb, o, rfl, hbl, hr, ok⟩ := HA.out.older (older_below HB.out) j hlt
              have hss := HSZ.out j hlt
              have HAJ := Lib.hid (fun (W : World) (hb : Below w.heap.size w W) => (HA.out.older (older_below hb)) j hlt)
              generalize fn j = act at *
              obtain ⟨kind, env, a, b, s⟩ := act
              have hr' : wr.rangeAt bb (o + j * 5) [.int .i64 kind, .int .i64 env, .int .i64 a, .int .i64 b, .string s] := hr
              have LD := Lib.hid hr'
              have WA := Lib.hid ok.a
              have SS := Lib.hid (show s.size ≤ 1000 from hss)
              clear hr hr' ok hss
              have DO := Lib.hid (HX.out.do_ kind env a b s WA.out SS.out (by omega) (by omega))
              have RDO := Lib.hid (fun (W : World) (h : RD.Mid w.heap.size W (gs + 1) gm (doD d ⟨kind, env, a, b, s⟩).1 d) => RD.Mid.do_ kind env a b s h WA.out SS.out (by omega))
              have NX := Lib.hid (fun (W : World) (h : RD.Both w.heap.size W (gs + 1) gm (doD d ⟨kind, env, a, b, s⟩).1) (hb : Below w.heap.size w W) (q : Nat) => Inv.next (fn := fn) ⟨kind, env, a, b, s⟩ h HE.out.1 HE.out.2.1 HE.out.2.2 hb q)
              have HZ := Lib.hid (show (doD d ⟨kind, env, a, b, s⟩).1.blocks.length = m from (doD_sizes d ⟨kind, env, a, b, s⟩).2.2.trans HE.out.2.2)
              clear he hline hblk HE
              generalize doD d ⟨kind, env, a, b, s⟩ = r at *
              obtain ⟨d', t, e'⟩ := r
              have DO := Lib.hid (show Calls Try.prog 8 #[.pointer (some ⟨gs + 1, 0, none⟩), .agg #[.int .i64 kind, .int .i64 env, .int .i64 a, .int .i64 b, .string s]] wr fun e w' => e = .returned (.tuple #[.string ⟨t.toArray⟩, .int .i64 e']) ∧ RD.Mid w.heap.size w' (gs + 1) gm d' d ∧ Below w.heap.size wr w' from DO.out)
              have RDO := Lib.hid (show ∀ (W : World), RD.Mid w.heap.size W (gs + 1) gm d' d → Calls Try.prog 9 #[.pointer (some ⟨gm, 0, none⟩), .agg #[.int .i64 kind, .int .i64 env, .int .i64 a, .int .i64 b, .string s]] W fun e w' => e = .returned (.tuple #[.string ⟨t.toArray⟩, .int .i64 e']) ∧ RD.Both w.heap.size w' (gs + 1) gm d' ∧ Below w.heap.size W w' from RDO.out)
              have NX := Lib.hid (show ∀ (W : World), RD.Both w.heap.size W (gs + 1) gm d' → Below w.heap.size w W → ∀ q, Inv fn w.heap.size (gs + 1) gm m w (j + 1) (W.drewN q) from NX.out)
              have HZ := Lib.hid (show d'.blocks.length = m from HZ.out)
              generalize (⟨t.toArray⟩ : ByteArray) = T at *
              go_wp2_with (first
                | (refine wpList_load_mid rfl 34 (.tmp 54) rfl bb (o + j * 5) rfl [.int .i64 kind, .int .i64 env, .int .i64 a, .int .i64 b, .string s] _ LD.out Try.underlying34 rfl act_info ?_)
                | fail)
              refine DO.out.mono ?_; rintro e w4 ⟨rfl, t4, k4⟩
              have T4 := Lib.hid t4
              have b4 := HB.out.trans k4
              have B4 := Lib.hid b4
              have hw4 : w.heap.size ≤ w4.heap.size := t4.lt
              obtain ⟨bb', o', e', _, hr4, _⟩ := HAJ.out _ b4
              cases e'
              have LD4 := Lib.hid (show w4.rangeAt bb (o + j * 5) [.int .i64 kind, .int .i64 env, .int .i64 a, .int .i64 b, .string s] from hr4)
              clear t4 k4 b4 hr4 HX HB DO LD
              go_wp2_with (first
                | (refine wpList_load_mid rfl 34 (.tmp 63) rfl bb (o + j * 5) rfl [.int .i64 kind, .int .i64 env, .int .i64 a, .int .i64 b, .string s] _ LD4.out Try.underlying34 rfl act_info ?_)
                | fail)
              refine (RDO.out _ T4.out).mono ?_; rintro e w5 ⟨rfl, t5, k5⟩
              have T5 := Lib.hid t5
              have B5 := Lib.hid (B4.out.trans k5)
              have ON := Lib.hid (fun k => RD.both_on (t5.drewN k))
              have WT := Lib.hid (fun k => RD.both_waits (t5.drewN k))
              have SZ := Lib.hid (fun k => RD.both_size (t5.drewN k))
              have SZ := Lib.hid (fun k => by have := SZ.out k; rw [HZ.out] at this; exact this)
              obtain ⟨bt, bo, ct, co, Al, cl, D⟩ := ref_heads t5
              obtain ⟨_, _, c2, c3, _⟩ := D.heads
              have NXT := Lib.hid (NX.out _ t5 B5.out)
              generalize d'.line.length = ll at *
              generalize d'.on = onv at *
              clear t5 k5 T4 B4 LD4 D T5 B5 NX RDO HZ
              go_wp2_with fail
              have tw : (!(T.toList == T.toList)) = false := by simp
              have tb : (onv == !onv) = false := by cases onv <;> rfl
              go_quiet ((first
                | (go_at_call 10; exact Calls.quiet_of_same (ON.out _))
                | (go_at_call 11; exact Calls.quiet_of_same (WT.out _))
                | (go_at_call 12; exact Calls.quiet_of_same (SZ.out _))))
              go_wp2
              go_roundw
              case rel => exact ⟨j + 1, by omega, by simp, NXT.out _⟩
              case measure => simp [intOf]; omega
            · have hge : ¬ (j : Int) < na := by omega
              obtain ⟨bt, bo, ct, co, Al, cl, D⟩ := ref_heads HX.out
              have c0 : wr.cell? ⟨gm, 0, none⟩ = some (.slice (some ⟨bt, 0, none⟩) d.blocks.length ct) := D.heads.1
              have hgl : gm < wr.heap.size := D.head.lt
              have IM := Lib.hid (show Calls Try.prog 14 #[.pointer (some ⟨gs + 1, 0, none⟩)] wr.drew fun e w' => e = .returned (.slice (some ⟨wr.heap.size, 0, none⟩) d.blocks.length d.blocks.length) ∧ Texts w' wr.heap.size d.blocks d.blocks.length ∧ Below wr.heap.size wr w' from (both_image (HX.out.drewN 1)).mono (by
                rintro e w' ⟨h1, h2, h3⟩
                exact ⟨h1, h2, ⟨h3.os, h3.tape, h3.output, h3.size, h3.block⟩⟩))
              have SM := Lib.hid (fun (W : World) (hb : Below wr.heap.size wr W) (ht : Texts W wr.heap.size d.blocks d.blocks.length) => RD.same_any (D.new hb) d.blocks.length ht)
              clear HE HX D he hline hblk
              generalize d.blocks = bs at *
              go_wp2_with fail
              go_region_held3 (fun w' => w'.cell? ⟨gm, 0, none⟩ = some (.slice (some ⟨bt, 0, none⟩) bs.length ct)) (assumption)
                (first
                  | (go_at_call 14; refine IM.out.mono ?_; rintro e w6 ⟨rfl, t6, b6⟩; have S6 := Lib.hid (SM.out _ b6 t6); have B6 := Lib.hid (HB.out.trans (b6.mono hgsz)); have c6 : w6.cell? ⟨gm, 0, none⟩ = some (.slice (some ⟨bt, 0, none⟩) bs.length ct) := (b6.cell (p := ⟨gm, 0, none⟩) hgl).trans c0; have l6 : wr.heap.size ≤ w6.heap.size := b6.size; clear t6 b6)
                  | (go_at_call 13; refine S6.out.mono ?_; rintro e w7 ⟨rfl, b7⟩; have c7 : w7.cell? ⟨gm, 0, none⟩ = some (.slice (some ⟨bt, 0, none⟩) bs.length ct) := (b7.cell (p := ⟨gm, 0, none⟩) (Nat.lt_of_lt_of_le hgl l6)).trans c6; have B7 := Lib.hid (B6.out.trans (b7.mono (Nat.le_trans hgsz l6))); clear b7))
              all_goals
                go_wp2
                go_ret
                exact ⟨rfl, B7.out⟩

set_option maxRecDepth 100000 in
theorem lifted (os : Os) (started : os.Started) (H : Type) (enc : TypeId × Value → H) :
    ReturnsInHanded {} Try.checked os 3 .any (Rows.diskPlaysSpec.pre6 enc Try.prog Try.f3 Rows.diskPlaysRow.domain false) (Rows.diskPlaysSpec.post enc Try.prog Try.f3 false true false false) := by
  refine returnsInHanded_of_change (C := Try.checked) own started (by kernel_rfl) Try.func3
    (ChangeSpec.witness6 (enc := enc) (C := Try.checked) false ⟨#[], #[.int .i64 0, .slice none 0 0], []⟩ 8 (by kernel_rfl) (by kernel_rfl) (by kernel_rfl) (by kernel_rfl)) ?_
  intro W base args ds gs before hval0 hW hcnd _
  have hval : ∀ (j : Nat) t v, Try.f3.params[j]? = some t → args[j]? = some v → Value.okWide Try.prog W .any base t v := hval0
  have hW' := hW
  obtain ⟨p, q, hA0, hV, rfl, hfz, hnd⟩ := hW
  have hA : DataW.TrodAll enc Try.prog W 0 (fun _ => true) true Try.f3.params.toList args.toList ds p := hA0
  rw [Try.params3] at hA hval
  obtain ⟨v0, vs0, d0, ds0, p0, q0, hargs, rfl, rfl, h0, r0⟩ := trodAll_cons hA
  obtain ⟨v1, vs1, d1, ds1, p1, q1, rfl, rfl, rfl, h1, r1⟩ := trodAll_cons r0
  obtain ⟨rfl, rfl, rfl⟩ := trodAll_nil r1
  obtain rfl : args = #[v0, v1] := by cases args; simp_all
  obtain ⟨a0, rfl, _, _, w0⟩ := open_int Try.underlying3 (hval 0 3 v0 rfl rfl) h0
  obtain ⟨A1, n1, c1, f1, rfl, b1⟩ := open_acts Try.underlying22 Try.underlying34 (by kernel_rfl) rfl rfl rfl rfl rfl (by kernel_rfl) (by kernel_rfl) (by kernel_rfl) (by kernel_rfl) (by kernel_rfl) Try.underlying3 Try.underlying3 Try.underlying3 Try.underlying3 Try.underlying9 (hval 1 22 v1 rfl rfl) h1
  clear hA0 hval0
  exact law_close hW' laidOut (by kernel_rfl) rfl Try.underlying4 rfl ⟨rfl, rfl, rfl⟩ (walk W a0 w0 A1 n1 c1 f1 b1)

theorem over : Rows.diskPlaysRow.holds Try.pinned (OpenSpec.ofChange Rows.diskPlaysSpec) :=
  OpenClaim.holds_of_wide 3 Try.f3 rfl rfl rfl rfl rfl rfl rfl ⟨rfl, rfl, rfl, rfl, rfl⟩ rfl rfl rfl rfl rfl (by kernel_rfl) Try.func3 (by kernel_rfl)
    (of_decide_eq_true (by kernel_rfl)) (by unfold Func.isWrapper; first | (rw [if_pos (by decide +kernel)]; kernel_rfl) | (rw [if_neg (by decide +kernel)]; exact ⟨rfl, rfl⟩))
    (fun os started H enc _ => lifted os started H enc)

theorem proved : Rows.DiskPlaysSaid := over

end Go.Proofs.Ythnapmcjnfeimaa.diskPlays
