/- Whatever packet, bytes behind it, place and turn come in, 'pantlerlaw15.IPBack' returns true and leaves them as they were. No condition. -/
import Derived.Test.YtpnfmohejcdgfaaIpC
import Derived.Test.YtpnfmohejcdgfaaIpE
namespace Go.Proofs.Ytpnfmohejcdgfaa.iPBack
open Go.ChangeShapes Go.WideShapes Go.ChangeAt Go.RowKit Go.Deep Rk Fl Gx Di Ip
set_option linter.unusedVariables false


set_option maxRecDepth 100000 in
set_option maxHeartbeats 8000000 in
theorem walk (w : World) (i t p s d : Nat) (l : List UInt8) (hi : i ≤ 65535) (ht : t ≤ 255) (hpp : p ≤ 255) (hs : s ≤ 4294967295) (hd : d ≤ 4294967295) (hl0 : l.length ≤ maxLen) (At : Option Addr) (n c : Nat) (lt : List UInt8) (hb : Src w At n c lt) (x : Int) (wx : (Lit.int .u8 x).wf = true) (u : Int) (wu : (Lit.int .u8 u).wf = true) :
    Calls Try.prog 6 #[.agg (dpV i t p s d l), .slice At n c, .int .u8 x, .int .u8 u] w fun e w' => e = .returned (.bool true) ∧ Below w.heap.size w w' := by
  obtain ⟨x, rfl, hx⟩ := wf_u8 wx
  obtain ⟨u, rfl, hu⟩ := wf_u8 wu
  have hp : Pk i t p s d := ⟨hi, ht, hpp, hs, hd⟩
  have hsz : (⟨l.toArray⟩ : ByteArray).size = l.length := rfl
  have htl := hb.len
  have b0 : Below w.heap.size w (w.alloc (.cells (dpV i t p s d l) 25)) := (Below.refl _ w).alloc (Nat.le_refl _) _
  have B0 := Lib.hid b0
  have P0 := Lib.hid (Blk.new w 25 (dpV i t p s d l))
  have T0 := Lib.hid (hb.alloc (.cells (dpV i t p s d l) 25))
  have AL := Lib.hid (fun W => Ip.alive_any W)
  clear b0 hb
  go_enter Try.func6, Try.ntmps6
  go_upto_region 1 with fail
  generalize w.alloc (.cells (dpV i t p s d l) 25) = W at *
  go_wp2_with fail
  refine (AL.out W).mono ?_; rintro e w1 ⟨rfl, b1⟩
  have B1 := Lib.hid (B0.out.trans (b1.mono B0.out.size))
  have P1 := Lib.hid (P0.out.older (older_below b1))
  have T1 := Lib.hid (T0.out.below b1)
  clear B0 P0 T0
  clear b1 AL
  have z0 := (P1.out.cell 0).trans (show _ = some (.int .u16 (i : Int)) from rfl)
  have z1 := (P1.out.cell 1).trans (show _ = some (.int .u8 (t : Int)) from rfl)
  have z2 := (P1.out.cell 2).trans (show _ = some (.int .u8 (p : Int)) from rfl)
  have z3 := (P1.out.cell 3).trans (show _ = some (.int .u32 (s : Int)) from rfl)
  have z4 := (P1.out.cell 4).trans (show _ = some (.int .u32 (d : Int)) from rfl)
  have z5 := (P1.out.cell 5).trans (show _ = some (.string ⟨l.toArray⟩) from rfl)
  by_cases hl : (l.length : Int) > 3000
  · go_wp2
    go_ret
    exact ⟨rfl, B1.out⟩
  by_cases hn : (n : Int) > 100
  · go_wp2
    go_ret
    exact ⟨rfl, B1.out⟩
  have HL := Lib.hid (show l.length ≤ 3000 from by omega)
  have HN := Lib.hid (show n ≤ 100 from by omega)
  have OF := Lib.hid (fun W => Ip.of_any i t p s d l W (by have := HL.out; omega))
  go_wp2_with fail
  refine (OF.out w1).mono ?_; rintro e w2 ⟨A2, c2, rfl, s2, b2⟩
  have B2 := Lib.hid (B1.out.trans (b2.mono B1.out.size))
  have P2 := Lib.hid (P1.out.older (older_below b2))
  have T2 := Lib.hid (T1.out.below b2)
  clear B1 P1 T1
  have S2 := Lib.hid s2
  clear b2 s2 OF z0 z1 z2 z3 z4 z5
  go_wp2_with fail
  refine (bytes_any' i t p s d hp A2 l.length c2 l w2 S2.out (by have := HL.out; omega)).mono ?_; rintro e w3 ⟨T, b3⟩
  have G2 := Lib.hid B2.out.size
  have P2lt := Lib.hid P2.out.lt
  have B3 := Lib.hid (B2.out.trans (b3.mono B2.out.size))
  have P3 := Lib.hid (P2.out.older (older_below b3))
  have T3 := Lib.hid (T2.out.below b3)
  clear B2 P2 T2
  clear b3 S2
  rcases T with ⟨h, rfl⟩ | ⟨h, g, cb, rfl, ob⟩
  · clear h
    go_wp2
    go_ret
    exact ⟨rfl, B3.out⟩
  have h9 := of_decide_eq_true h
  have LB : (ipHead i t p s d l.length ++ l).length = 20 + l.length := by rw [List.length_append, ipHead_length]
  rw [LB] at ob ⊢
  have OB := Lib.hid ob
  have GB := Lib.hid (show w.heap.size ≤ g from Nat.le_trans G2.out ob.base)
  have GN := Lib.hid (show ¬ w.heap.size = g from by have := ob.base; have := P2lt.out; omega)
  have BK := Lib.hid (pk_back hp l lt h9)
  have TU := Lib.hid (fun j h1 h20 y hj hy => turned hp l h9 j h1 h20 y hj hy)
  clear h ob
  go_wp2_with (at_builtin; refine Hid.out ?_)
  unfold Hid
  refine wpList_append_keep (B := w.heap.size) rfl _ _ rfl rfl OB.out GB.out B3.out.size At n c lt rfl T3.out (by have := HN.out; have := HL.out; omega) ?_
  intro A4 c4 w4 sa sb k4 b4
  rw [List.append_assoc] at sa
  have SA4 := Lib.hid sa
  have SB4 := Lib.hid sb
  have B4 := Lib.hid (B3.out.trans (b4.mono (Nat.le_refl _)))
  have P4 := Lib.hid (P3.out.chg k4 GN.out)
  clear sa sb k4 b4 OB T3 P3 B3
  obtain ⟨q1, q2, q3, q4, q5, q6, q7, q8, q9⟩ := BK.out
  go_wp2_with fail
  refine (parse_any A4 _ c4 _ w4 SA4.out (by have := HN.out; have := HL.out; omega)).mono ?_; rintro e w5 ⟨T, b5⟩
  have B5 := Lib.hid (B4.out.trans (b5.mono B4.out.size))
  have P5 := Lib.hid (P4.out.older (older_below b5))
  have SB5 := Lib.hid (SB4.out.below b5)
  clear B4 P4 SB4
  clear b5 SA4
  rcases T with ⟨hne, _⟩ | ⟨_, Ac, cc, rfl, sc⟩
  · exact absurd q1 hne
  rw [q2, q3, q4, q5, q6, q7, q8] at ⊢
  rw [q7, q8, q9] at sc
  have e20 : 20 + l.length - 20 = l.length := by omega
  rw [e20] at sc ⊢
  have SC5 := Lib.hid sc
  clear sc q1 q2 q3 q4 q5 q6 q7 q8 q9 e20 BK
  have b6 : Below w5.heap.size w5 (w5.alloc (.cells (pkV i t p s d Ac l.length cc) 32)) := (Below.refl _ w5).alloc (Nat.le_refl _) _
  have CB := Lib.hid (Blk.new w5 32 (pkV i t p s d Ac l.length cc))
  have B6 := Lib.hid (B5.out.trans (b6.mono B5.out.size))
  have P6 := Lib.hid (P5.out.older (older_below b6))
  have SB6 := Lib.hid (SB5.out.below b6)
  have SC6 := Lib.hid (SC5.out.below b6)
  clear B5 P5 SB5 SC5
  have PB := P6
  have SC := SC6
  clear b6 P6 SC6
  go_upto_region 9 with fail
  generalize w5.alloc (.cells (pkV i t p s d Ac l.length cc) 32) = W6 at *
  refine wp_region_held_drew (S := fun w' => Hid (Below W6.heap.size W6 w')) (by kernel_rfl) (Lib.hid ((Below.refl W6.heap.size W6).drew)) (fun hS => ?_)
  refine held_take (i := 0) (d := (some 45)) (v := ?_) rfl rfl (by kernel_rfl) (by kernel_rfl) (by kernel_rfl) (fun _ _ _ h => h) (by rfl) ?_ hS ?_
  rotate_left
  · intro w' hSw; (try dsimp only at hSw); go_simp <;> with_reducible rfl
  simp only [Act.put, List.setIfInBounds_toArray, List.set_cons_zero, List.set_cons_succ]
  refine held_take (i := 1) (d := (some 46)) (v := ?_) rfl rfl (by kernel_rfl) (by kernel_rfl) (by kernel_rfl) (fun _ _ _ h => h) (by rfl) ?_ hS ?_
  rotate_left
  · intro w' hSw; (try dsimp only at hSw); go_simp <;> with_reducible rfl
  simp only [Act.put, List.setIfInBounds_toArray, List.set_cons_zero, List.set_cons_succ]
  refine held_take (i := 2) (d := (some 47)) (v := ?_) rfl rfl (by kernel_rfl) (by kernel_rfl) (by kernel_rfl) (fun _ _ _ h => h) (by rfl) ?_ hS ?_
  rotate_left
  · intro w' hSw; (try dsimp only at hSw); go_simp <;> with_reducible rfl
  simp only [Act.put, List.setIfInBounds_toArray, List.set_cons_zero, List.set_cons_succ]
  refine held_take (i := 3) (d := (some 48)) (v := ?_) rfl rfl (by kernel_rfl) (by kernel_rfl) (by kernel_rfl) (fun _ _ _ h => h) (by rfl) ?_ hS ?_
  rotate_left
  · intro w' hSw; have kb := hSw.out; clear hSw; have z0 := ((CB.out.older (older_below kb)).cell 0).trans (show _ = some (.int .u16 (i : Int)) from rfl); have z1 := ((CB.out.older (older_below kb)).cell 1).trans (show _ = some (.int .u8 (t : Int)) from rfl); have z2 := ((CB.out.older (older_below kb)).cell 2).trans (show _ = some (.int .u8 (p : Int)) from rfl); have z3 := ((CB.out.older (older_below kb)).cell 3).trans (show _ = some (.int .u32 (s : Int)) from rfl); have z4 := ((CB.out.older (older_below kb)).cell 4).trans (show _ = some (.int .u32 (d : Int)) from rfl); have z5 := ((CB.out.older (older_below kb)).cell 5).trans (show _ = some (.slice Ac l.length cc) from rfl); clear kb; go_simp <;> with_reducible rfl
  simp only [Act.put, List.setIfInBounds_toArray, List.set_cons_zero, List.set_cons_succ]
  refine held_take (i := 5) (d := (some 50)) (v := ?_) rfl rfl (by kernel_rfl) (by kernel_rfl) (by kernel_rfl) (fun _ _ _ h => h) (by rfl) ?_ hS ?_
  rotate_left
  · intro w' hSw; have kb := hSw.out; clear hSw; have z0 := ((PB.out.older (older_below kb)).cell 0).trans (show _ = some (.int .u16 (i : Int)) from rfl); have z1 := ((PB.out.older (older_below kb)).cell 1).trans (show _ = some (.int .u8 (t : Int)) from rfl); have z2 := ((PB.out.older (older_below kb)).cell 2).trans (show _ = some (.int .u8 (p : Int)) from rfl); have z3 := ((PB.out.older (older_below kb)).cell 3).trans (show _ = some (.int .u32 (s : Int)) from rfl); have z4 := ((PB.out.older (older_below kb)).cell 4).trans (show _ = some (.int .u32 (d : Int)) from rfl); have z5 := ((PB.out.older (older_below kb)).cell 5).trans (show _ = some (.string ⟨l.toArray⟩) from rfl); clear kb; go_simp <;> with_reducible rfl
  simp only [Act.put, List.setIfInBounds_toArray, List.set_cons_zero, List.set_cons_succ]
  refine held_one (i := 4) (by kernel_rfl) rfl (by rfl) ?_
  go_simp
  refine (to_any i t p s d Ac l.length cc l _ (SC.out.below hS.out)).mono ?_; rintro e wt ⟨rfl, bt⟩
  have hS : Hid (Below W6.heap.size W6 wt) := Lib.hid (hS.out.trans (bt.mono hS.out.size))
  refine ⟨hS, ?_⟩
  clear bt
  (try simp only [Act.put, List.setIfInBounds_toArray, List.set_cons_zero, List.set_cons_succ])
  refine held_take (i := 6) (d := (some 51)) (v := ?_) rfl rfl (by kernel_rfl) (by kernel_rfl) (by kernel_rfl) (fun _ _ _ h => h) (by rfl) ?_ hS ?_
  rotate_left
  · intro w' hSw; (try dsimp only at hSw); go_simp <;> with_reducible rfl
  simp only [Act.put, List.setIfInBounds_toArray, List.set_cons_zero, List.set_cons_succ]
  refine held_take (i := 7) (d := (some 52)) (v := ?_) rfl rfl (by kernel_rfl) (by kernel_rfl) (by kernel_rfl) (fun _ _ _ h => h) (by rfl) ?_ hS ?_
  rotate_left
  · intro w' hSw; (try dsimp only at hSw); go_simp <;> with_reducible rfl
  simp only [Act.put, List.setIfInBounds_toArray, List.set_cons_zero, List.set_cons_succ]
  refine wpAnyH_done (by kernel_rfl) ?_ _
  have B7 := Lib.hid (B6.out.trans (hS.out.mono B6.out.size))
  have SB7 := Lib.hid (SB6.out.below hS.out)
  clear B6 SB6 CB PB SC hS
  by_cases hu0 : (u : Int) = 0
  · go_wp2
    go_ret
    exact ⟨rfl, B7.out⟩
  generalize wt = w7 at *
  have G7 := Lib.hid B7.out.size
  have B8 := Lib.hid (B7.out.alloc G7.out (.cells #[] 5))
  have SB8 := Lib.hid (SB7.out.alloc (.cells #[] 5))
  have hown := Lib.hid (World.ownsRow_lit (base := w.heap.size) (e := 5) (size := 1) w7 #[] 0 G7.out (by decide) rfl)
  clear B7 SB7
  go_wp2_with (at_builtin; refine Hid.out ?_)
  unfold Hid
  refine wpList_append_src rfl _ _ rfl w.heap.size _ 0 [] rfl hown.out _ (20 + l.length) cb (ipHead i t p s d l.length ++ l) rfl SB8.out (by have := HL.out; omega) B8.out.size ?_
  intro v9 w9 h91 h92
  rw [Nat.zero_add, List.nil_append] at h91
  obtain ⟨g9, c9, rfl, O9⟩ := OwnB.of h91 (by omega)
  have O9 := Lib.hid O9
  have B9 := Lib.hid (B8.out.trans h92)
  clear h91 h92 B8 SB8 hown
  obtain ⟨q, hq⟩ : ∃ q : Nat, x % 19 = q := ⟨_, rfl⟩
  have hq1 : (x : Int) % 19 = (q : Int) := by omega
  have hq2 : (x : Int).tmod 19 = (q : Int) := by rw [Int.tmod_eq_emod_of_nonneg (by omega), hq1]
  have hq9 : q < 19 := by omega
  have xq := IntWalk.i64_in (1 + (q : Int)) (by omega)
  have a0 : (0 : Int) ≤ 1 + (q : Int) := by omega
  have a1 : 1 + (q : Int) < ((20 + l.length : Nat) : Int) := by omega
  have a1' : 1 + (q : Int) < 20 + (l.length : Int) := by omega
  have a2 : (1 + (q : Int)).toNat = 1 + q := by omega
  obtain ⟨hj, cj⟩ := O9.out.cell (j := 1 + q) (by omega)
  have fj := O9.out.frozen (1 + q)
  have XR := xor8 (ipHead i t p s d l.length ++ l)[1 + q] u hu
  have ND := Lib.hid (show (ipHead i t p s d l.length ++ l)[1 + q] ^^^ UInt8.ofNat u ≠ (ipHead i t p s d l.length ++ l)[1 + q] from xor_ne _ u (by omega) hu)
  have PT := Lib.hid (TU.out (1 + q) (by omega) (by omega) _ hj ND.out)
  have O10 := Lib.hid (O9.out.set (j := 1 + q) ((ipHead i t p s d l.length ++ l)[1 + q] ^^^ UInt8.ofNat u))
  have B10 := Lib.hid (B9.out.setCell (p := ⟨g9, 1 + q, none⟩) (by exact O9.out.base) (.int .u8 (((ipHead i t p s d l.length ++ l)[1 + q] ^^^ UInt8.ofNat u).toNat : Int)))
  clear ND TU B9 O9 hq
  generalize (ipHead i t p s d l.length ++ l)[1 + q] ^^^ UInt8.ofNat u = y at *
  go_upto_region 15 with fail
  generalize w9.setCell ⟨g9, 1 + q, none⟩ (.int .u8 (y.toNat : Int)) = w10 at *
  clear cj fj XR
  have LB2 : ((ipHead i t p s d l.length ++ l).set (1 + q) y).length = 20 + l.length := by rw [List.length_set, LB]
  go_wp2_with fail
  refine (parse_any (some ⟨g9, 0, none⟩) (20 + l.length) c9 _ w10 O10.out.src (by have := HL.out; omega)).mono ?_; rintro e w11 ⟨T, b11⟩
  have B11 := Lib.hid (B10.out.trans (b11.mono B10.out.size))
  rcases T with ⟨_, rfl⟩ | ⟨h0, _⟩
  rotate_left
  · exact absurd h0 PT.out
  have hne := PT.out
  generalize parErr ((ipHead i t p s d l.length ++ l).set (1 + q) y) = er at *
  have hne' : (er == 0) = false := by simpa using hne
  have B12 := Lib.hid (B11.out.alloc B11.out.size (.cells pk0 32))
  clear b11 B10 B11
  go_wp2
  go_ret
  exact ⟨by first | rfl | simp [hne], B12.out⟩

set_option maxRecDepth 100000 in
theorem lifted (os : Os) (started : os.Started) (H : Type) (enc : TypeId × Value → H) :
    ReturnsInHanded {} Try.checked os 6 .any (Rows.iPBackSpec.pre6 enc Try.prog Try.f6 Rows.iPBackRow.domain false) (Rows.iPBackSpec.post enc Try.prog Try.f6 false true false false) := by
  refine returnsInHanded_of_change (C := Try.checked) own started (by kernel_rfl) Try.func6
    (ChangeSpec.witness6 (enc := enc) (C := Try.checked) false ⟨#[], #[.agg #[.int .u16 0, .int .u8 0, .int .u8 0, .int .u32 0, .int .u32 0, .string ⟨#[]⟩], .slice none 0 0, .int .u8 0, .int .u8 0], []⟩ 8 (by kernel_rfl) (by kernel_rfl) (by kernel_rfl) (by kernel_rfl)) ?_
  intro W base args ds gs before hval0 hW hcnd _
  have hval : ∀ (j : Nat) t v, Try.f6.params[j]? = some t → args[j]? = some v → Value.okWide Try.prog W .any base t v := hval0
  have hW' := hW
  obtain ⟨p, q, hA0, hV, rfl, hfz, hnd⟩ := hW
  have hA : DataW.TrodAll enc Try.prog W 0 (fun _ => true) true Try.f6.params.toList args.toList ds p := hA0
  rw [Try.params6] at hA hval
  obtain ⟨v0, vs0, d0, ds0, p0, q0, hargs, rfl, rfl, h0, r0⟩ := trodAll_cons hA
  obtain ⟨v1, vs1, d1, ds1, p1, q1, rfl, rfl, rfl, h1, r1⟩ := trodAll_cons r0
  obtain ⟨v2, vs2, d2, ds2, p2, q2, rfl, rfl, rfl, h2, r2⟩ := trodAll_cons r1
  obtain ⟨v3, vs3, d3, ds3, p3, q3, rfl, rfl, rfl, h3, r3⟩ := trodAll_cons r2
  obtain ⟨rfl, rfl, rfl⟩ := trodAll_nil r3
  obtain rfl : args = #[v0, v1, v2, v3] := by cases args; simp_all
  obtain ⟨a0_0, a0_1, a0_2, a0_3, a0_4, a0_5, rfl, w0_0, w0_1, w0_2, w0_3, w0_4, w0_5⟩ := Ip.open_pk (hval 0 25 v0 rfl rfl) h0
  obtain ⟨A1, n1, c1, l1, rfl, b1⟩ := open_src Try.underlying27 Try.underlying5 (by kernel_rfl) (hval 1 27 v1 rfl rfl) h1
  obtain ⟨a2, rfl, _, _, w2⟩ := open_int Try.underlying5 (hval 2 5 v2 rfl rfl) h2
  obtain ⟨a3, rfl, _, _, w3⟩ := open_int Try.underlying5 (hval 3 5 v3 rfl rfl) h3
  clear hA0 hval0
  exact law_close hW' laidOut (by kernel_rfl) rfl Try.underlying4 rfl ⟨rfl, rfl, rfl⟩ (walk W a0_0 a0_1 a0_2 a0_3 a0_4 a0_5 w0_0 w0_1 w0_2 w0_3 w0_4 w0_5 A1 n1 c1 l1 b1 a2 w2 a3 w3)

theorem over : Rows.iPBackRow.holds Try.pinned (OpenSpec.ofChange Rows.iPBackSpec) :=
  OpenClaim.holds_of_wide 6 Try.f6 rfl rfl rfl rfl rfl rfl rfl ⟨rfl, rfl, rfl, rfl, rfl⟩ rfl rfl rfl rfl rfl (by kernel_rfl) Try.func6 (by kernel_rfl)
    (of_decide_eq_true (by kernel_rfl)) (by unfold Func.isWrapper; first | (rw [if_pos (by decide +kernel)]; kernel_rfl) | (rw [if_neg (by decide +kernel)]; exact ⟨rfl, rfl⟩))
    (fun os started H enc _ => lifted os started H enc)

theorem proved : Rows.IPBackSaid := over

end Go.Proofs.Ytpnfmohejcdgfaa.iPBack
