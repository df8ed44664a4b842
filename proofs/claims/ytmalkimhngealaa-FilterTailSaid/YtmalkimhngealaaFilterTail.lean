/- Whatever programs and packet come in, 'pantlerlaw07.FilterTail' returns true and leaves them as they were. No condition. -/
import Derived.Test.YtmalkimhngealaaFltO
namespace Go.Proofs.Ytmalkimhngealaa.filterTail
open Go.ChangeShapes Go.WideShapes Go.ChangeAt Go.RowKit Go.Deep
set_option linter.unusedVariables false


set_option maxRecDepth 100000 in
set_option maxHeartbeats 4000000 in
theorem walk (w : World) (A0 : Option Addr) (c0 : Nat) (p : List Ins) (h0 : Prg w A0 p ∧ (∀ q ∈ p, q.Ok) ∧ (A0 = none → p = [] ∧ c0 = 0)) (A1 : Option Addr) (c1 : Nat) (r : List Ins) (h1 : Prg w A1 r ∧ (∀ q ∈ r, q.Ok) ∧ (A1 = none → r = [] ∧ c1 = 0)) (s : ByteArray) (ws : s.size ≤ maxLen) :
    Calls Try.prog 5 #[.slice A0 p.length c0, .slice A1 r.length c1, .string s] w fun e w' => e = .returned (.bool true) ∧ Below w.heap.size w w' := by
  obtain ⟨hp, hok, hn⟩ := h0
  obtain ⟨hr, hokr, hnr⟩ := h1
  have HP := Lib.hid hp
  have HR1 := Lib.hid hr
  have HN := Lib.hid hn
  have HN1 := Lib.hid hnr
  clear hp hr hn hnr ws
  by_cases l1 : (p.length : Int) > 40
  · go_enter Try.func5, Try.ntmps5
    go_wp2_with fail
    refine (alive_any _).mono ?_; rintro e w0 ⟨rfl, b0⟩
    have B0 := Lib.hid b0
    clear b0
    go_wp2
    go_ret
    exact ⟨rfl, B0.out⟩
  by_cases l2 : (r.length : Int) > 20
  · go_enter Try.func5, Try.ntmps5
    go_wp2_with fail
    refine (alive_any _).mono ?_; rintro e w0 ⟨rfl, b0⟩
    have B0 := Lib.hid b0
    clear b0
    go_wp2
    go_ret
    exact ⟨rfl, B0.out⟩
  by_cases l3 : (s.size : Int) > 1024
  · go_enter Try.func5, Try.ntmps5
    go_wp2_with fail
    refine (alive_any _).mono ?_; rintro e w0 ⟨rfl, b0⟩
    have B0 := Lib.hid b0
    clear b0
    go_wp2
    go_ret
    exact ⟨rfl, B0.out⟩
  have l4 : p.length ≤ 40 := by omega
  have l5 : r.length ≤ 20 := by omega
  have l6 : s.size ≤ 1024 := by omega
  have hs1 : s.size ≤ 1000000 := by omega
  have OF0 := Lib.hid (fun W (hb : Below w.heap.size w W) => of_any A0 c0 p W (HP.out.new hb) (by omega))
  have OF1 := Lib.hid (fun W (hb : Below w.heap.size w W) => of_any A1 c1 r W (HR1.out.new hb) (by omega))
  by_cases hc : Chk p
  · by_cases hc1 : Chk r
    · have z0 : (r.length : Int) > 0 := by have := hc1.n1; omega
      have hok2 : ∀ q ∈ p ++ r, q.Ok := fun q hq => (List.mem_append.1 hq).elim (hok q) (hokr q)
      have hc2 : Chk (p ++ r) := hc.append (.inr hc1) (by omega)
      obtain ⟨i0, z_, hi, hz_, hsz, hby, hzs⟩ := rops_info
      have INF := Lib.hid (And.intro hi (And.intro hz_ (And.intro hsz (And.intro hby hzs))))
      clear hi hz_ hsz hby hzs
      go_enter Try.func5, Try.ntmps5
      go_wp2_with fail
      refine (alive_any _).mono ?_; rintro e w0 ⟨rfl, b0⟩
      have B0 := Lib.hid b0
      clear b0
      go_wp2_with fail
      refine (OF0.out _ B0.out).mono ?_; rintro e w1 ⟨Aw1, cw1, rfl, hpw1, bw1⟩
      have B1 := Lib.hid (B0.out.trans (bw1.mono B0.out.size))
      have CKw2 := Lib.hid (check_v Aw1 cw1 p w1 hpw1 (by omega) 0 (.inl ⟨hc, rfl⟩))
      clear hpw1 bw1
      go_wp2_with fail
      refine CKw2.out.mono ?_; rintro e w2 ⟨rfl, bw2⟩
      have B2 := Lib.hid (B1.out.trans (bw2.mono B1.out.size))
      clear bw2 CKw2
      go_wp2_with fail
      refine (OF1.out _ B2.out).mono ?_; rintro e w3 ⟨Aw3, cw3, rfl, hpw3, bw3⟩
      have B3 := Lib.hid (B2.out.trans (bw3.mono B2.out.size))
      have CKw4 := Lib.hid (check_v Aw3 cw3 r w3 hpw3 (by omega) 0 (.inl ⟨hc1, rfl⟩))
      clear hpw3 bw3
      go_wp2_with fail
      refine CKw4.out.mono ?_; rintro e w4 ⟨rfl, bw4⟩
      have B4 := Lib.hid (B3.out.trans (bw4.mono B3.out.size))
      clear bw4 CKw4
      go_wp2_with fail
      refine (OF0.out _ B4.out).mono ?_; rintro e w5 ⟨Aw5, cw5, rfl, hpw5, bw5⟩
      have B5 := Lib.hid (B4.out.trans (bw5.mono B4.out.size))
      obtain ⟨cc, W5, hrun5, hconv5, hbc5⟩ := conv_any s hs1 w5
      have B5' := Lib.hid (B5.out.trans (hbc5.mono B5.out.size))
      have RUN5 := Lib.hid (run_src Aw5 (some ⟨w5.heap.size, 0, none⟩) cw5 cc s.size p s.data.toList W5 (hpw5.new hbc5) hconv5.src hok hc (by omega) _ rfl)
      clear hpw5 bw5 hconv5 hbc5
      go_wp2_with fail
      refine RUN5.out.mono ?_; rintro e w6 ⟨rfl, b6⟩
      have B6 := Lib.hid (B5'.out.trans (b6.mono B5'.out.size))
      clear b6 RUN5 hrun5
      have r6 : (w6.alloc (.cells #[] 38)).ownsRow w.heap.size 38 4 (.slice (some ⟨w6.heap.size, 0, none⟩) 0 0) ([] : List Ins).length (flat []) := World.ownsRow_lit w6 #[] 0 B6.out.size (by decide) rfl
      have B6' := Lib.hid (B6.out.trans (((Below.refl w6.heap.size w6).alloc (Nat.le_refl _) (.cells #[] 38)).mono B6.out.size))
      have R6 := Lib.hid r6
      clear r6
      generalize hR : runP p s.data.toList = R at *
      have HR := Lib.hid hR
      clear hR
      go_wp2_with (at_builtin; refine Hid.out ?_)
      unfold Hid
      refine wpList_append_prg rfl (.tmp 52) (.tmp 53) 34 rfl w.heap.size 38 i0 z_ Try.underlying34 INF.out.1 INF.out.2.1 INF.out.2.2.1 INF.out.2.2.2.1 INF.out.2.2.2.2 _ [] rfl R6.out A0 c0 p rfl (HP.out.new B6'.out) HN.out (by simp; omega) B6'.out.size ?_
      intro v7 w7 ho7 hg7
      rw [List.nil_append] at ho7
      have B7 := Lib.hid (B6'.out.grown hg7 B6'.out.size (fun k e => (R6.out.lt k e).1))
      have R7 := Lib.hid ho7
      clear ho7 hg7
      go_wp2_with (at_builtin; refine Hid.out ?_)
      unfold Hid
      refine wpList_append_prg rfl (.tmp 54) (.tmp 55) 34 rfl w.heap.size 38 i0 z_ Try.underlying34 INF.out.1 INF.out.2.1 INF.out.2.2.1 INF.out.2.2.2.1 INF.out.2.2.2.2 v7 p rfl R7.out A1 c1 r rfl (HR1.out.new B7.out) HN1.out (by omega) B7.out.size ?_
      intro v8 w8 ho8 hg8
      have B8 := Lib.hid (B7.out.grown hg8 B7.out.size (fun k e => (R7.out.lt k e).1))
      obtain ⟨A8, c8, rfl, hp8⟩ := prg_of_owns ho8
      have OF8 := of_any A8 c8 (p ++ r) w8 hp8 (by simp; omega)
      rw [List.length_append] at OF8
      have OF8 := Lib.hid OF8
      clear ho8 hg8 hp8
      go_wp2_with fail
      refine OF8.out.mono ?_; rintro e w9 ⟨A9, c9, rfl, hp9, b9⟩
      have B9 := Lib.hid (B8.out.trans (b9.mono B8.out.size))
      obtain ⟨cd, W9, hrun9, hconv9, hbc9⟩ := conv_any s hs1 w9
      have B9' := Lib.hid (B9.out.trans (hbc9.mono B9.out.size))
      have RUN9 := run_src A9 (some ⟨w9.heap.size, 0, none⟩) c9 cd s.size (p ++ r) s.data.toList W9 (hp9.new hbc9) hconv9.src hok2 hc2 (by omega) R ((runP_append hc r s.data.toList).trans HR.out)
      rw [List.length_append] at RUN9
      have RUN9 := Lib.hid RUN9
      clear hp9 b9 hconv9 hbc9
      go_wp2_with fail
      refine RUN9.out.mono ?_; rintro e wz ⟨rfl, bz⟩
      have BZ := Lib.hid (B9'.out.trans (bz.mono B9'.out.size))
      clear bz RUN9 hrun9
      go_wp2
      go_ret
      exact ⟨rfl, BZ.out⟩
    · by_cases hz : r.length = 0
      · have hr0 : r = [] := List.length_eq_zero_iff.1 hz
        have z0 : ¬ (r.length : Int) > 0 := by omega
        clear hz
        have hok2 : ∀ q ∈ p ++ r, q.Ok := fun q hq => (List.mem_append.1 hq).elim (hok q) (hokr q)
        have hc2 : Chk (p ++ r) := hc.append (.inl hr0) (by omega)
        obtain ⟨i0, z_, hi, hz_, hsz, hby, hzs⟩ := rops_info
        have INF := Lib.hid (And.intro hi (And.intro hz_ (And.intro hsz (And.intro hby hzs))))
        clear hi hz_ hsz hby hzs
        clear hr0
        go_enter Try.func5, Try.ntmps5
        go_wp2_with fail
        refine (alive_any _).mono ?_; rintro e w0 ⟨rfl, b0⟩
        have B0 := Lib.hid b0
        clear b0
        go_wp2_with fail
        refine (OF0.out _ B0.out).mono ?_; rintro e w1 ⟨Aw1, cw1, rfl, hpw1, bw1⟩
        have B1 := Lib.hid (B0.out.trans (bw1.mono B0.out.size))
        have CKw2 := Lib.hid (check_v Aw1 cw1 p w1 hpw1 (by omega) 0 (.inl ⟨hc, rfl⟩))
        clear hpw1 bw1
        go_wp2_with fail
        refine CKw2.out.mono ?_; rintro e w2 ⟨rfl, bw2⟩
        have B2 := Lib.hid (B1.out.trans (bw2.mono B1.out.size))
        clear bw2 CKw2
        go_wp2_with fail
        refine (OF0.out _ B2.out).mono ?_; rintro e w5 ⟨Aw5, cw5, rfl, hpw5, bw5⟩
        have B5 := Lib.hid (B2.out.trans (bw5.mono B2.out.size))
        obtain ⟨cc, W5, hrun5, hconv5, hbc5⟩ := conv_any s hs1 w5
        have B5' := Lib.hid (B5.out.trans (hbc5.mono B5.out.size))
        have RUN5 := Lib.hid (run_src Aw5 (some ⟨w5.heap.size, 0, none⟩) cw5 cc s.size p s.data.toList W5 (hpw5.new hbc5) hconv5.src hok hc (by omega) _ rfl)
        clear hpw5 bw5 hconv5 hbc5
        go_wp2_with fail
        refine RUN5.out.mono ?_; rintro e w6 ⟨rfl, b6⟩
        have B6 := Lib.hid (B5'.out.trans (b6.mono B5'.out.size))
        clear b6 RUN5 hrun5
        have r6 : (w6.alloc (.cells #[] 38)).ownsRow w.heap.size 38 4 (.slice (some ⟨w6.heap.size, 0, none⟩) 0 0) ([] : List Ins).length (flat []) := World.ownsRow_lit w6 #[] 0 B6.out.size (by decide) rfl
        have B6' := Lib.hid (B6.out.trans (((Below.refl w6.heap.size w6).alloc (Nat.le_refl _) (.cells #[] 38)).mono B6.out.size))
        have R6 := Lib.hid r6
        clear r6
        generalize hR : runP p s.data.toList = R at *
        have HR := Lib.hid hR
        clear hR
        go_wp2_with (at_builtin; refine Hid.out ?_)
        unfold Hid
        refine wpList_append_prg rfl (.tmp 52) (.tmp 53) 34 rfl w.heap.size 38 i0 z_ Try.underlying34 INF.out.1 INF.out.2.1 INF.out.2.2.1 INF.out.2.2.2.1 INF.out.2.2.2.2 _ [] rfl R6.out A0 c0 p rfl (HP.out.new B6'.out) HN.out (by simp; omega) B6'.out.size ?_
        intro v7 w7 ho7 hg7
        rw [List.nil_append] at ho7
        have B7 := Lib.hid (B6'.out.grown hg7 B6'.out.size (fun k e => (R6.out.lt k e).1))
        have R7 := Lib.hid ho7
        clear ho7 hg7
        go_wp2_with (at_builtin; refine Hid.out ?_)
        unfold Hid
        refine wpList_append_prg rfl (.tmp 54) (.tmp 55) 34 rfl w.heap.size 38 i0 z_ Try.underlying34 INF.out.1 INF.out.2.1 INF.out.2.2.1 INF.out.2.2.2.1 INF.out.2.2.2.2 v7 p rfl R7.out A1 c1 r rfl (HR1.out.new B7.out) HN1.out (by omega) B7.out.size ?_
        intro v8 w8 ho8 hg8
        have B8 := Lib.hid (B7.out.grown hg8 B7.out.size (fun k e => (R7.out.lt k e).1))
        obtain ⟨A8, c8, rfl, hp8⟩ := prg_of_owns ho8
        have OF8 := of_any A8 c8 (p ++ r) w8 hp8 (by simp; omega)
        rw [List.length_append] at OF8
        have OF8 := Lib.hid OF8
        clear ho8 hg8 hp8
        go_wp2_with fail
        refine OF8.out.mono ?_; rintro e w9 ⟨A9, c9, rfl, hp9, b9⟩
        have B9 := Lib.hid (B8.out.trans (b9.mono B8.out.size))
        obtain ⟨cd, W9, hrun9, hconv9, hbc9⟩ := conv_any s hs1 w9
        have B9' := Lib.hid (B9.out.trans (hbc9.mono B9.out.size))
        have RUN9 := run_src A9 (some ⟨w9.heap.size, 0, none⟩) c9 cd s.size (p ++ r) s.data.toList W9 (hp9.new hbc9) hconv9.src hok2 hc2 (by omega) R ((runP_append hc r s.data.toList).trans HR.out)
        rw [List.length_append] at RUN9
        have RUN9 := Lib.hid RUN9
        clear hp9 b9 hconv9 hbc9
        go_wp2_with fail
        refine RUN9.out.mono ?_; rintro e wz ⟨rfl, bz⟩
        have BZ := Lib.hid (B9'.out.trans (bz.mono B9'.out.size))
        clear bz RUN9 hrun9
        go_wp2
        go_ret
        exact ⟨rfl, BZ.out⟩
      · have z0 : (r.length : Int) > 0 := by omega
        go_enter Try.func5, Try.ntmps5
        go_wp2_with fail
        refine (alive_any _).mono ?_; rintro e w0 ⟨rfl, b0⟩
        have B0 := Lib.hid b0
        clear b0
        go_wp2_with fail
        refine (OF0.out _ B0.out).mono ?_; rintro e w1 ⟨Aw1, cw1, rfl, hpw1, bw1⟩
        have B1 := Lib.hid (B0.out.trans (bw1.mono B0.out.size))
        have CKw2 := Lib.hid (check_v Aw1 cw1 p w1 hpw1 (by omega) 0 (.inl ⟨hc, rfl⟩))
        clear hpw1 bw1
        go_wp2_with fail
        refine CKw2.out.mono ?_; rintro e w2 ⟨rfl, bw2⟩
        have B2 := Lib.hid (B1.out.trans (bw2.mono B1.out.size))
        clear bw2 CKw2
        go_wp2_with fail
        refine (OF1.out _ B2.out).mono ?_; rintro e w3 ⟨Aw3, cw3, rfl, hpw3, bw3⟩
        have B3 := Lib.hid (B2.out.trans (bw3.mono B2.out.size))
        have CKw4 := Lib.hid (check_v Aw3 cw3 r w3 hpw3 (by omega) 40 (.inr ⟨hc1, rfl⟩))
        clear hpw3 bw3
        go_wp2_with fail
        refine CKw4.out.mono ?_; rintro e w4 ⟨rfl, bw4⟩
        have B4 := Lib.hid (B3.out.trans (bw4.mono B3.out.size))
        clear bw4 CKw4
        go_wp2
        go_ret
        exact ⟨rfl, B4.out⟩
  · go_enter Try.func5, Try.ntmps5
    go_wp2_with fail
    refine (alive_any _).mono ?_; rintro e w0 ⟨rfl, b0⟩
    have B0 := Lib.hid b0
    clear b0
    go_wp2_with fail
    refine (OF0.out _ B0.out).mono ?_; rintro e w1 ⟨Aw1, cw1, rfl, hpw1, bw1⟩
    have B1 := Lib.hid (B0.out.trans (bw1.mono B0.out.size))
    have CKw2 := Lib.hid (check_v Aw1 cw1 p w1 hpw1 (by omega) 40 (.inr ⟨hc, rfl⟩))
    clear hpw1 bw1
    go_wp2_with fail
    refine CKw2.out.mono ?_; rintro e w2 ⟨rfl, bw2⟩
    have B2 := Lib.hid (B1.out.trans (bw2.mono B1.out.size))
    clear bw2 CKw2
    go_wp2
    go_ret
    exact ⟨rfl, B2.out⟩

set_option maxRecDepth 100000 in
theorem lifted (os : Os) (started : os.Started) (H : Type) (enc : TypeId × Value → H) :
    ReturnsInHanded {} Try.checked os 5 .any (Rows.filterTailSpec.pre6 enc Try.prog Try.f5 Rows.filterTailRow.domain false) (Rows.filterTailSpec.post enc Try.prog Try.f5 false true false false) := by
  refine returnsInHanded_of_change (C := Try.checked) own started (by kernel_rfl) Try.func5
    (ChangeSpec.witness6 (enc := enc) (C := Try.checked) false ⟨#[], #[.slice none 0 0, .slice none 0 0, .string ⟨#[]⟩], []⟩ 8 (by kernel_rfl) (by kernel_rfl) (by kernel_rfl) (by kernel_rfl)) ?_
  intro W base args ds gs before hval0 hW hcnd _
  have hval : ∀ (j : Nat) t v, Try.f5.params[j]? = some t → args[j]? = some v → Value.okWide Try.prog W .any base t v := hval0
  have hW' := hW
  obtain ⟨p, q, hA0, hV, rfl, hfz, hnd⟩ := hW
  have hA : DataW.TrodAll enc Try.prog W 0 (fun _ => true) true Try.f5.params.toList args.toList ds p := hA0
  rw [Try.params5] at hA hval
  obtain ⟨v0, vs0, d0, ds0, p0, q0, hargs, rfl, rfl, h0, r0⟩ := trodAll_cons hA
  obtain ⟨v1, vs1, d1, ds1, p1, q1, rfl, rfl, rfl, h1, r1⟩ := trodAll_cons r0
  obtain ⟨v2, vs2, d2, ds2, p2, q2, rfl, rfl, rfl, h2, r2⟩ := trodAll_cons r1
  obtain ⟨rfl, rfl, rfl⟩ := trodAll_nil r2
  obtain rfl : args = #[v0, v1, v2] := by cases args; simp_all
  obtain ⟨A0, c0, f0, rfl, b0⟩ := open_prg Try.underlying34 Try.underlying38 (by kernel_rfl) rfl rfl rfl rfl (by kernel_rfl) (by kernel_rfl) (by kernel_rfl) (by kernel_rfl) Try.underlying3 Try.underlying24 Try.underlying3 Try.underlying3 (hval 0 34 v0 rfl rfl) h0
  obtain ⟨A1, c1, f1, rfl, b1⟩ := open_prg Try.underlying34 Try.underlying38 (by kernel_rfl) rfl rfl rfl rfl (by kernel_rfl) (by kernel_rfl) (by kernel_rfl) (by kernel_rfl) Try.underlying3 Try.underlying24 Try.underlying3 Try.underlying3 (hval 1 34 v1 rfl rfl) h1
  obtain ⟨a2, rfl, _, _, w2⟩ := Go.ChangeMaps.open_string Try.underlying9 (hval 2 9 v2 rfl rfl) h2
  clear hA0 hval0
  exact law_close hW' laidOut (by kernel_rfl) rfl Try.underlying4 rfl ⟨rfl, rfl, rfl⟩ (walk W A0 c0 f0 b0 A1 c1 f1 b1 a2 w2)

theorem over : Rows.filterTailRow.holds Try.pinned (OpenSpec.ofChange Rows.filterTailSpec) :=
  OpenClaim.holds_of_wide 5 Try.f5 rfl rfl rfl rfl rfl rfl rfl ⟨rfl, rfl, rfl, rfl, rfl⟩ rfl rfl rfl rfl rfl (by kernel_rfl) Try.func5 (by kernel_rfl)
    (of_decide_eq_true (by kernel_rfl)) (by unfold Func.isWrapper; first | (rw [if_pos (by decide +kernel)]; kernel_rfl) | (rw [if_neg (by decide +kernel)]; exact ⟨rfl, rfl⟩))
    (fun os started H enc _ => lifted os started H enc)

theorem proved : Rows.FilterTailSaid := over

end Go.Proofs.Ytmalkimhngealaa.filterTail
