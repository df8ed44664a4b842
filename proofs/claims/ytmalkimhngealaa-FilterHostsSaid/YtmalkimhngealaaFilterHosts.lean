/- Whatever packet and port come in, 'pantlerlaw07.FilterHosts' returns true and leaves them as they were. No condition. -/
import Derived.Test.YtmalkimhngealaaFltG
namespace Go.Proofs.Ytmalkimhngealaa.filterHosts
open Go.ChangeShapes Go.WideShapes Go.ChangeAt Go.RowKit Go.Deep
set_option linter.unusedVariables false


set_option maxRecDepth 100000 in
set_option maxHeartbeats 4000000 in
theorem walk (w : World) (s : ByteArray) (ws : s.size ≤ maxLen) (port : Int) (wp : (Lit.int .u16 port).wf = true) :
    Calls Try.prog 3 #[.string s, .int .u16 port] w fun e w' => e = .returned (.bool true) ∧ Below w.heap.size w w' := by
  obtain ⟨p0, p1⟩ : 0 ≤ port ∧ port < 65536 := by
    have : 0 ≤ port ∧ port ≤ 65535 := by simpa [Lit.wf, IntKind.min, IntKind.max, IntKind.signed, IntKind.bits] using wp
    omega
  clear ws wp
  by_cases l3 : (s.size : Int) > 1024
  · go_enter Try.func3, Try.ntmps3
    go_wp2_with fail
    refine (alive_any _).mono ?_; rintro e w0 ⟨rfl, b0⟩
    have B0 := Lib.hid b0
    clear b0
    go_wp2
    go_ret
    exact ⟨rfl, B0.out⟩
  have l6 : s.size ≤ 1024 := by omega
  have hs1 : s.size ≤ 1000000 := by omega
  have HO := Lib.hid (fun w => host_any port p0 p1 w)
  cases hhb : hostB s.data.toList port with
  | false =>
    cases hab : arpB s.data.toList with
    | false =>
      have HB := Lib.hid hhb
      have AB := Lib.hid hab
      have RH := Lib.hid (fun w => refhost_v s port p0 p1 false hhb.symm w)
      have RA := Lib.hid (fun w => refarp_v s false hab.symm w)
      clear hhb hab
      go_enter Try.func3, Try.ntmps3
      go_wp2_with fail
      refine (alive_any _).mono ?_; rintro e w0 ⟨rfl, b0⟩
      have B0 := Lib.hid b0
      clear b0
      go_wp2_with fail
      refine (HO.out _).mono ?_; rintro e w1 ⟨A1, c1, rfl, hp1, b1⟩
      have B1 := Lib.hid (B0.out.trans (b1.mono B0.out.size))
      obtain ⟨cc, W1, hrun1, hconv1, hbc1⟩ := conv_any s hs1 w1
      have B1' := Lib.hid (B1.out.trans (hbc1.mono B1.out.size))
      have RUN1 := Lib.hid (show Calls Try.prog 7 #[.slice A1 10 c1, .slice (some ⟨w1.heap.size, 0, none⟩) s.size cc] W1 fun e w' => e = .returned (.tuple #[.int .u32 0, .int .i64 0]) ∧ Below W1.heap.size W1 w' from
        run_src A1 (some ⟨w1.heap.size, 0, none⟩) c1 cc s.size (hostP port) s.data.toList W1 (hp1.new hbc1) hconv1.src (ok_host p0 p1) (chk_host port) (by omega) _ ((host_run s.data.toList port p0 p1).trans (by rw [HB.out]; rfl)))
      clear hp1 b1 hconv1 hbc1
      go_wp2_with fail
      refine RUN1.out.mono ?_; rintro e w2 ⟨rfl, b2⟩
      have B2 := Lib.hid (B1'.out.trans (b2.mono B1'.out.size))
      clear b2 RUN1 hrun1
      go_wp2_with fail
      refine (arp_any _).mono ?_; rintro e w3 ⟨A3, c3, rfl, hp3, b3⟩
      have B3 := Lib.hid (B2.out.trans (b3.mono B2.out.size))
      obtain ⟨cd, W3, hrun3, hconv3, hbc3⟩ := conv_any s hs1 w3
      have B3' := Lib.hid (B3.out.trans (hbc3.mono B3.out.size))
      have RUN3 := Lib.hid (show Calls Try.prog 7 #[.slice A3 4 c3, .slice (some ⟨w3.heap.size, 0, none⟩) s.size cd] W3 fun e w' => e = .returned (.tuple #[.int .u32 0, .int .i64 0]) ∧ Below W3.heap.size W3 w' from
        run_src A3 (some ⟨w3.heap.size, 0, none⟩) c3 cd s.size arpP s.data.toList W3 (hp3.new hbc3) hconv3.src ok_arp chk_arp (by omega) _ ((arp_run s.data.toList).trans (by rw [AB.out]; rfl)))
      clear hp3 b3 hconv3 hbc3
      go_wp2_with fail
      refine RUN3.out.mono ?_; rintro e w4 ⟨rfl, b4⟩
      have B4 := Lib.hid (B3'.out.trans (b4.mono B3'.out.size))
      clear b4 RUN3 hrun3
      go_wp2_with fail
      refine (RH.out _).mono ?_; rintro e w5 ⟨rfl, rfl⟩
      go_wp2_with fail
      refine (RA.out _).mono ?_; rintro e w6 ⟨rfl, rfl⟩
      go_wp2
      go_ret
      exact ⟨rfl, B4.out⟩
    | true =>
      have HB := Lib.hid hhb
      have AB := Lib.hid hab
      have RH := Lib.hid (fun w => refhost_v s port p0 p1 false hhb.symm w)
      have RA := Lib.hid (fun w => refarp_v s true hab.symm w)
      clear hhb hab
      go_enter Try.func3, Try.ntmps3
      go_wp2_with fail
      refine (alive_any _).mono ?_; rintro e w0 ⟨rfl, b0⟩
      have B0 := Lib.hid b0
      clear b0
      go_wp2_with fail
      refine (HO.out _).mono ?_; rintro e w1 ⟨A1, c1, rfl, hp1, b1⟩
      have B1 := Lib.hid (B0.out.trans (b1.mono B0.out.size))
      obtain ⟨cc, W1, hrun1, hconv1, hbc1⟩ := conv_any s hs1 w1
      have B1' := Lib.hid (B1.out.trans (hbc1.mono B1.out.size))
      have RUN1 := Lib.hid (show Calls Try.prog 7 #[.slice A1 10 c1, .slice (some ⟨w1.heap.size, 0, none⟩) s.size cc] W1 fun e w' => e = .returned (.tuple #[.int .u32 0, .int .i64 0]) ∧ Below W1.heap.size W1 w' from
        run_src A1 (some ⟨w1.heap.size, 0, none⟩) c1 cc s.size (hostP port) s.data.toList W1 (hp1.new hbc1) hconv1.src (ok_host p0 p1) (chk_host port) (by omega) _ ((host_run s.data.toList port p0 p1).trans (by rw [HB.out]; rfl)))
      clear hp1 b1 hconv1 hbc1
      go_wp2_with fail
      refine RUN1.out.mono ?_; rintro e w2 ⟨rfl, b2⟩
      have B2 := Lib.hid (B1'.out.trans (b2.mono B1'.out.size))
      clear b2 RUN1 hrun1
      go_wp2_with fail
      refine (arp_any _).mono ?_; rintro e w3 ⟨A3, c3, rfl, hp3, b3⟩
      have B3 := Lib.hid (B2.out.trans (b3.mono B2.out.size))
      obtain ⟨cd, W3, hrun3, hconv3, hbc3⟩ := conv_any s hs1 w3
      have B3' := Lib.hid (B3.out.trans (hbc3.mono B3.out.size))
      have RUN3 := Lib.hid (show Calls Try.prog 7 #[.slice A3 4 c3, .slice (some ⟨w3.heap.size, 0, none⟩) s.size cd] W3 fun e w' => e = .returned (.tuple #[.int .u32 1, .int .i64 0]) ∧ Below W3.heap.size W3 w' from
        run_src A3 (some ⟨w3.heap.size, 0, none⟩) c3 cd s.size arpP s.data.toList W3 (hp3.new hbc3) hconv3.src ok_arp chk_arp (by omega) _ ((arp_run s.data.toList).trans (by rw [AB.out]; rfl)))
      clear hp3 b3 hconv3 hbc3
      go_wp2_with fail
      refine RUN3.out.mono ?_; rintro e w4 ⟨rfl, b4⟩
      have B4 := Lib.hid (B3'.out.trans (b4.mono B3'.out.size))
      clear b4 RUN3 hrun3
      go_wp2_with fail
      refine (RH.out _).mono ?_; rintro e w5 ⟨rfl, rfl⟩
      go_wp2_with fail
      refine (RA.out _).mono ?_; rintro e w6 ⟨rfl, rfl⟩
      go_wp2
      go_ret
      exact ⟨rfl, B4.out⟩
  | true =>
    cases hab : arpB s.data.toList with
    | false =>
      have HB := Lib.hid hhb
      have AB := Lib.hid hab
      have RH := Lib.hid (fun w => refhost_v s port p0 p1 true hhb.symm w)
      have RA := Lib.hid (fun w => refarp_v s false hab.symm w)
      clear hhb hab
      go_enter Try.func3, Try.ntmps3
      go_wp2_with fail
      refine (alive_any _).mono ?_; rintro e w0 ⟨rfl, b0⟩
      have B0 := Lib.hid b0
      clear b0
      go_wp2_with fail
      refine (HO.out _).mono ?_; rintro e w1 ⟨A1, c1, rfl, hp1, b1⟩
      have B1 := Lib.hid (B0.out.trans (b1.mono B0.out.size))
      obtain ⟨cc, W1, hrun1, hconv1, hbc1⟩ := conv_any s hs1 w1
      have B1' := Lib.hid (B1.out.trans (hbc1.mono B1.out.size))
      have RUN1 := Lib.hid (show Calls Try.prog 7 #[.slice A1 10 c1, .slice (some ⟨w1.heap.size, 0, none⟩) s.size cc] W1 fun e w' => e = .returned (.tuple #[.int .u32 1, .int .i64 0]) ∧ Below W1.heap.size W1 w' from
        run_src A1 (some ⟨w1.heap.size, 0, none⟩) c1 cc s.size (hostP port) s.data.toList W1 (hp1.new hbc1) hconv1.src (ok_host p0 p1) (chk_host port) (by omega) _ ((host_run s.data.toList port p0 p1).trans (by rw [HB.out]; rfl)))
      clear hp1 b1 hconv1 hbc1
      go_wp2_with fail
      refine RUN1.out.mono ?_; rintro e w2 ⟨rfl, b2⟩
      have B2 := Lib.hid (B1'.out.trans (b2.mono B1'.out.size))
      clear b2 RUN1 hrun1
      go_wp2_with fail
      refine (arp_any _).mono ?_; rintro e w3 ⟨A3, c3, rfl, hp3, b3⟩
      have B3 := Lib.hid (B2.out.trans (b3.mono B2.out.size))
      obtain ⟨cd, W3, hrun3, hconv3, hbc3⟩ := conv_any s hs1 w3
      have B3' := Lib.hid (B3.out.trans (hbc3.mono B3.out.size))
      have RUN3 := Lib.hid (show Calls Try.prog 7 #[.slice A3 4 c3, .slice (some ⟨w3.heap.size, 0, none⟩) s.size cd] W3 fun e w' => e = .returned (.tuple #[.int .u32 0, .int .i64 0]) ∧ Below W3.heap.size W3 w' from
        run_src A3 (some ⟨w3.heap.size, 0, none⟩) c3 cd s.size arpP s.data.toList W3 (hp3.new hbc3) hconv3.src ok_arp chk_arp (by omega) _ ((arp_run s.data.toList).trans (by rw [AB.out]; rfl)))
      clear hp3 b3 hconv3 hbc3
      go_wp2_with fail
      refine RUN3.out.mono ?_; rintro e w4 ⟨rfl, b4⟩
      have B4 := Lib.hid (B3'.out.trans (b4.mono B3'.out.size))
      clear b4 RUN3 hrun3
      go_wp2_with fail
      refine (RH.out _).mono ?_; rintro e w5 ⟨rfl, rfl⟩
      go_wp2_with fail
      refine (RA.out _).mono ?_; rintro e w6 ⟨rfl, rfl⟩
      go_wp2
      go_ret
      exact ⟨rfl, B4.out⟩
    | true =>
      have HB := Lib.hid hhb
      have AB := Lib.hid hab
      have RH := Lib.hid (fun w => refhost_v s port p0 p1 true hhb.symm w)
      have RA := Lib.hid (fun w => refarp_v s true hab.symm w)
      clear hhb hab
      go_enter Try.func3, Try.ntmps3
      go_wp2_with fail
      refine (alive_any _).mono ?_; rintro e w0 ⟨rfl, b0⟩
      have B0 := Lib.hid b0
      clear b0
      go_wp2_with fail
      refine (HO.out _).mono ?_; rintro e w1 ⟨A1, c1, rfl, hp1, b1⟩
      have B1 := Lib.hid (B0.out.trans (b1.mono B0.out.size))
      obtain ⟨cc, W1, hrun1, hconv1, hbc1⟩ := conv_any s hs1 w1
      have B1' := Lib.hid (B1.out.trans (hbc1.mono B1.out.size))
      have RUN1 := Lib.hid (show Calls Try.prog 7 #[.slice A1 10 c1, .slice (some ⟨w1.heap.size, 0, none⟩) s.size cc] W1 fun e w' => e = .returned (.tuple #[.int .u32 1, .int .i64 0]) ∧ Below W1.heap.size W1 w' from
        run_src A1 (some ⟨w1.heap.size, 0, none⟩) c1 cc s.size (hostP port) s.data.toList W1 (hp1.new hbc1) hconv1.src (ok_host p0 p1) (chk_host port) (by omega) _ ((host_run s.data.toList port p0 p1).trans (by rw [HB.out]; rfl)))
      clear hp1 b1 hconv1 hbc1
      go_wp2_with fail
      refine RUN1.out.mono ?_; rintro e w2 ⟨rfl, b2⟩
      have B2 := Lib.hid (B1'.out.trans (b2.mono B1'.out.size))
      clear b2 RUN1 hrun1
      go_wp2_with fail
      refine (arp_any _).mono ?_; rintro e w3 ⟨A3, c3, rfl, hp3, b3⟩
      have B3 := Lib.hid (B2.out.trans (b3.mono B2.out.size))
      obtain ⟨cd, W3, hrun3, hconv3, hbc3⟩ := conv_any s hs1 w3
      have B3' := Lib.hid (B3.out.trans (hbc3.mono B3.out.size))
      have RUN3 := Lib.hid (show Calls Try.prog 7 #[.slice A3 4 c3, .slice (some ⟨w3.heap.size, 0, none⟩) s.size cd] W3 fun e w' => e = .returned (.tuple #[.int .u32 1, .int .i64 0]) ∧ Below W3.heap.size W3 w' from
        run_src A3 (some ⟨w3.heap.size, 0, none⟩) c3 cd s.size arpP s.data.toList W3 (hp3.new hbc3) hconv3.src ok_arp chk_arp (by omega) _ ((arp_run s.data.toList).trans (by rw [AB.out]; rfl)))
      clear hp3 b3 hconv3 hbc3
      go_wp2_with fail
      refine RUN3.out.mono ?_; rintro e w4 ⟨rfl, b4⟩
      have B4 := Lib.hid (B3'.out.trans (b4.mono B3'.out.size))
      clear b4 RUN3 hrun3
      go_wp2_with fail
      refine (RH.out _).mono ?_; rintro e w5 ⟨rfl, rfl⟩
      go_wp2_with fail
      refine (RA.out _).mono ?_; rintro e w6 ⟨rfl, rfl⟩
      go_wp2
      go_ret
      exact ⟨rfl, B4.out⟩

set_option maxRecDepth 100000 in
theorem lifted (os : Os) (started : os.Started) (H : Type) (enc : TypeId × Value → H) :
    ReturnsInHanded {} Try.checked os 3 .any (Rows.filterHostsSpec.pre6 enc Try.prog Try.f3 Rows.filterHostsRow.domain false) (Rows.filterHostsSpec.post enc Try.prog Try.f3 false true false false) := by
  refine returnsInHanded_of_change (C := Try.checked) own started (by kernel_rfl) Try.func3
    (ChangeSpec.witness6 (enc := enc) (C := Try.checked) false ⟨#[], #[.string ⟨#[]⟩, .int .u16 0], []⟩ 8 (by kernel_rfl) (by kernel_rfl) (by kernel_rfl) (by kernel_rfl)) ?_
  intro W base args ds gs before hval0 hW hcnd _
  have hval : ∀ (j : Nat) t v, Try.f3.params[j]? = some t → args[j]? = some v → Value.okWide Try.prog W .any base t v := hval0
  have hW' := hW
  obtain ⟨p, q, hA0, hV, rfl, hfz, hnd⟩ := hW
  have hA : DataW.TrodAll enc Try.prog W 0 (fun _ => true) true Try.f3.params.toList args.toList ds p := hA0
  rw [Try.params3] at hA hval
  obtain ⟨v0, vs0, d0, ds0, p0, q0, hargs, rfl, rfl, h0, r0⟩ := trodAll_cons hA
  obtain ⟨v1, vs1, d1, ds1, p1, q1, rfl, rfl, rfl, h1, r1⟩ := trodAll_cons r0
  obtain ⟨rfl, rfl, rfl⟩ := trodAll_nil r1
  obtain rfl : args = #[v0, v1] := by cases args; simp_all
  obtain ⟨a0, rfl, _, _, w0⟩ := Go.ChangeMaps.open_string Try.underlying9 (hval 0 9 v0 rfl rfl) h0
  obtain ⟨a1, rfl, _, _, w1⟩ := open_int Try.underlying22 (hval 1 22 v1 rfl rfl) h1
  clear hA0 hval0
  exact law_close hW' laidOut (by kernel_rfl) rfl Try.underlying4 rfl ⟨rfl, rfl, rfl⟩ (walk W a0 w0 a1 w1)

theorem over : Rows.filterHostsRow.holds Try.pinned (OpenSpec.ofChange Rows.filterHostsSpec) :=
  OpenClaim.holds_of_wide 3 Try.f3 rfl rfl rfl rfl rfl rfl rfl ⟨rfl, rfl, rfl, rfl, rfl⟩ rfl rfl rfl rfl rfl (by kernel_rfl) Try.func3 (by kernel_rfl)
    (of_decide_eq_true (by kernel_rfl)) (by unfold Func.isWrapper; first | (rw [if_pos (by decide +kernel)]; kernel_rfl) | (rw [if_neg (by decide +kernel)]; exact ⟨rfl, rfl⟩))
    (fun os started H enc _ => lifted os started H enc)

theorem proved : Rows.FilterHostsSaid := over

end Go.Proofs.Ytmalkimhngealaa.filterHosts
