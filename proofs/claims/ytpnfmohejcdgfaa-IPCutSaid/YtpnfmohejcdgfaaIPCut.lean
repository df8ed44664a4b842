/- Whatever packet and place of a cut come in, 'pantlerlaw15.IPCut' returns true and leaves them as they were. No condition. -/
import Derived.Test.YtpnfmohejcdgfaaIpC
import Derived.Test.YtpnfmohejcdgfaaIpE
namespace Go.Proofs.Ytpnfmohejcdgfaa.iPCut
open Go.ChangeShapes Go.WideShapes Go.ChangeAt Go.RowKit Go.Deep Rk Fl Gx Di Ip
set_option linter.unusedVariables false


set_option maxRecDepth 100000 in
set_option maxHeartbeats 8000000 in
theorem walk (w : World) (i t p s d : Nat) (l : List UInt8) (hi : i ≤ 65535) (ht : t ≤ 255) (hpp : p ≤ 255) (hs : s ≤ 4294967295) (hd : d ≤ 4294967295) (hl0 : l.length ≤ maxLen) (x : Int) (wx : (Lit.int .u16 x).wf = true) :
    Calls Try.prog 7 #[.agg (dpV i t p s d l), .int .u16 x] w fun e w' => e = .returned (.bool true) ∧ Below w.heap.size w w' := by
  obtain ⟨x, rfl, hx⟩ := wf_u16 wx
  have hp : Pk i t p s d := ⟨hi, ht, hpp, hs, hd⟩
  have hsz : (⟨l.toArray⟩ : ByteArray).size = l.length := rfl
  have b0 : Below w.heap.size w (w.alloc (.cells (dpV i t p s d l) 25)) := (Below.refl _ w).alloc (Nat.le_refl _) _
  have B0 := Lib.hid b0
  have P0 := Lib.hid (Blk.new w 25 (dpV i t p s d l))
  have AL := Lib.hid (fun W => Ip.alive_any W)
  clear b0
  go_enter Try.func7, Try.ntmps7
  go_upto_region 1 with fail
  generalize w.alloc (.cells (dpV i t p s d l) 25) = W at *
  go_wp2_with fail
  refine (AL.out W).mono ?_; rintro e w1 ⟨rfl, b1⟩
  have B1 := Lib.hid (B0.out.trans (b1.mono B0.out.size))
  have P1 := Lib.hid (P0.out.older (older_below b1))
  clear B0 P0
  clear b1 AL
  have z0 := (P1.out.cell 0).trans (show _ = some (.int .u16 (i : Int)) from rfl)
  have z1 := (P1.out.cell 1).trans (show _ = some (.int .u8 (t : Int)) from rfl)
  have z2 := (P1.out.cell 2).trans (show _ = some (.int .u8 (p : Int)) from rfl)
  have z3 := (P1.out.cell 3).trans (show _ = some (.int .u32 (s : Int)) from rfl)
  have z4 := (P1.out.cell 4).trans (show _ = some (.int .u32 (d : Int)) from rfl)
  have z5 := (P1.out.cell 5).trans (show _ = some (.string ⟨l.toArray⟩) from rfl)
  by_cases hl : (l.length : Int) > 990
  · go_wp2
    go_ret
    exact ⟨rfl, B1.out⟩
  have h9 : l.length ≤ 990 := by omega
  go_wp2_with fail
  refine (Ip.of_any i t p s d l w1 (by omega)).mono ?_; rintro e w2 ⟨A2, c2, rfl, s2, b2⟩
  have B2 := Lib.hid (B1.out.trans (b2.mono B1.out.size))
  have P2 := Lib.hid (P1.out.older (older_below b2))
  clear B1 P1
  have S2 := Lib.hid s2
  have G2 := Lib.hid B2.out.size
  clear b2 s2 z0 z1 z2 z3 z4 z5
  go_wp2_with fail
  refine (bytes_any' i t p s d hp A2 l.length c2 l w2 S2.out (by omega)).mono ?_; rintro e w3 ⟨T, b3⟩
  have B3 := Lib.hid (B2.out.trans (b3.mono B2.out.size))
  clear b3 S2 B2 P2
  rcases T with ⟨h, rfl⟩ | ⟨h, g, cb, rfl, ob⟩
  · exact absurd h9 (of_decide_eq_false h)
  have LB : (ipHead i t p s d l.length ++ l).length = 20 + l.length := by rw [List.length_append, ipHead_length]
  rw [LB] at ob ⊢
  have OB := Lib.hid ob
  have hcb := ob.cap
  clear h ob
  obtain ⟨q, hq⟩ : ∃ q : Nat, x % (20 + l.length) = q := ⟨_, rfl⟩
  have hq1 : (x : Int) % (20 + (l.length : Int)) = (q : Int) := by rw [← hq]; simp
  have hq2 : (x : Int).tmod (20 + (l.length : Int)) = (q : Int) := by rw [Int.tmod_eq_emod_of_nonneg (by omega), hq1]
  have hq3 : q < 20 + l.length := by rw [← hq]; exact Nat.mod_lt _ (by omega)
  have hne0 : ¬ (20 + (l.length : Int)) = 0 := by omega
  have hne0' : ((20 + (l.length : Int)) == 0) = false := by rw [beq_eq_false_iff_ne]; exact hne0
  have q0 : (0 : Int) ≤ (q : Int) := by omega
  have qc : (q : Int) ≤ (cb : Int) := by omega
  have PQ := Lib.hid (parse_any (some ⟨g, 0, none⟩) q cb _ w3 (src_front OB.out.src (by omega)) (by omega))
  have SH := Lib.hid (short (i := i) (t := t) (p := p) (s := s) (d := d) l h9 q hq3)
  clear hq
  go_wp2_with fail
  refine PQ.out.mono ?_; rintro e w4 ⟨T, b4⟩
  have OB3 := OB
  clear OB
  have B4 := Lib.hid (B3.out.trans (b4.mono B3.out.size))
  have OB4 := Lib.hid (OB3.out.below b4)
  clear B3 OB3
  clear b4 PQ
  rcases T with ⟨_, rfl⟩ | ⟨h0, _⟩
  rotate_left
  · exact absurd h0 SH.out
  have hn1 := SH.out
  generalize parErr (List.take q (ipHead i t p s d l.length ++ l)) = er1 at *
  have HN1 := Lib.hid hn1
  clear SH hn1 hq1 hq2 hq3 hne0 hne0' q0 qc
  have G4 := Lib.hid B4.out.size
  have B5 := Lib.hid (B4.out.alloc G4.out (.cells pk0 32))
  have OB5 := Lib.hid (OB4.out.alloc (.cells pk0 32))
  clear B4 OB4
  go_upto_region 9 with fail
  generalize w4.alloc (.cells pk0 32) = w5 at *
  have G5 := Lib.hid B5.out.size
  have B6 := Lib.hid (B5.out.alloc G5.out (.cells #[] 5))
  have OB6 := Lib.hid (OB5.out.alloc (.cells #[] 5))
  have hown := Lib.hid (World.ownsRow_lit (base := w.heap.size) (e := 5) (size := 1) w5 #[] 0 G5.out (by decide) rfl)
  clear B5 OB5
  go_wp2_with (at_builtin; refine Hid.out ?_)
  unfold Hid
  refine wpList_append_src rfl _ _ rfl w.heap.size _ 0 [] rfl hown.out _ (20 + l.length) cb (ipHead i t p s d l.length ++ l) rfl OB6.out.src (by omega) B6.out.size ?_
  intro v9 w6 h91 h92
  rw [Nat.zero_add, List.nil_append] at h91
  obtain ⟨g7, c7, rfl, O6⟩ := OwnB.of h91 (by omega)
  have B6 := Lib.hid (B6.out.trans h92)
  have O7 := Lib.hid (O6.set (j := 6) 32)
  obtain ⟨y6, c6⟩ : ∃ y : UInt8, w6.cell? ⟨g7, 6, none⟩ = some (.int .u8 (y.toNat : Int)) := ⟨_, (O6.cell (j := 6) (by omega)).2⟩
  have f6 := O6.frozen 6
  have B7 := Lib.hid (B6.out.setCell (p := ⟨g7, 6, none⟩) (by exact O6.base) (.int .u8 ((32 : UInt8).toNat : Int)))
  have o6 : (6 : Int) < 20 + (l.length : Int) := by omega
  clear h91 h92 OB6 hown O6 B6
  go_upto_region 11 with fail
  have ec : w6.setCell ⟨g7, 6, none⟩ (.int .u8 32) = w6.setCell ⟨g7, 6, none⟩ (.int .u8 ((32 : UInt8).toNat : Int)) := rfl
  rw [ec]
  generalize w6.setCell ⟨g7, 6, none⟩ (.int .u8 ((32 : UInt8).toNat : Int)) = w7 at *
  obtain ⟨L7, hL7⟩ : ∃ L, (ipHead i t p s d l.length ++ l).set 6 32 = L := ⟨_, rfl⟩
  have FR := Lib.hid (fun x y => fragment (i := i) (t := t) (p := p) (s := s) (d := d) l x y)
  rw [hL7] at O7 FR
  have l7 : L7.length = 20 + l.length := by rw [← hL7, List.length_set, LB]
  obtain ⟨y10, r10, c10⟩ : ∃ y : Nat, y < 256 ∧ w7.cell? ⟨g7, 10, none⟩ = some (.int .u8 (y : Int)) := ⟨_, UInt8.toNat_lt _, (O7.out.cell (j := 10) (by omega)).2⟩
  obtain ⟨y11, r11, c11⟩ : ∃ y : Nat, y < 256 ∧ w7.cell? ⟨g7, 11, none⟩ = some (.int .u8 (y : Int)) := ⟨_, UInt8.toNat_lt _, (O7.out.cell (j := 11) (by omega)).2⟩
  have LT := Lib.hid O7.out.lt
  have o10 : (10 : Int) < 20 + (l.length : Int) := by omega
  have o11 : (11 : Int) < 20 + (l.length : Int) := by omega
  have ii0 := IntWalk.i64_in (y10 : Int) (by omega)
  have ii1 := IntWalk.i64_in (y11 : Int) (by omega)
  have ii2 := IntWalk.i64_in ((y10 : Int) * 256) (by omega)
  have ii3 := IntWalk.i64_in ((y10 : Int) * 256 + (y11 : Int)) (by omega)
  clear c6 f6 hL7 ec
  refine wp_region_held_drew (S := fun w' => Hid (Below w7.heap.size w7 w')) (by kernel_rfl) (Lib.hid ((Below.refl w7.heap.size w7).drew)) (fun hS => ?_)
  refine held_take (i := 0) (d := (some 43)) (v := ?_) rfl rfl (by kernel_rfl) (by kernel_rfl) (by kernel_rfl) (fun _ _ _ h => h) (by rfl) ?_ hS ?_
  rotate_left
  · intro w' hSw; (try dsimp only at hSw); go_simp <;> with_reducible rfl
  simp only [Act.put, List.setIfInBounds_toArray, List.set_cons_zero, List.set_cons_succ]
  refine held_take (i := 1) (d := (some 44)) (v := ?_) rfl rfl (by kernel_rfl) (by kernel_rfl) (by kernel_rfl) (fun _ _ _ h => h) (by rfl) ?_ hS ?_
  rotate_left
  · intro w' hSw; (try dsimp only at hSw); go_simp <;> with_reducible rfl
  simp only [Act.put, List.setIfInBounds_toArray, List.set_cons_zero, List.set_cons_succ]
  refine held_take (i := 2) (d := (some 45)) (v := ?_) rfl rfl (by kernel_rfl) (by kernel_rfl) (by kernel_rfl) (fun _ _ _ h => h) (by rfl) ?_ hS ?_
  rotate_left
  · intro w' hSw; have cA := (World.cell?_of_block (a := ⟨g7, 10, none⟩) (hSw.out.block g7 LT.out)).trans c10; clear hSw; go_simp <;> with_reducible rfl
  simp only [Act.put, List.setIfInBounds_toArray, List.set_cons_zero, List.set_cons_succ]
  refine held_take (i := 3) (d := (some 46)) (v := ?_) rfl rfl (by kernel_rfl) (by kernel_rfl) (by kernel_rfl) (fun _ _ _ h => h) (by rfl) ?_ hS ?_
  rotate_left
  · intro w' hSw; (try dsimp only at hSw); go_simp <;> with_reducible rfl
  simp only [Act.put, List.setIfInBounds_toArray, List.set_cons_zero, List.set_cons_succ]
  refine held_take (i := 4) (d := (some 47)) (v := ?_) rfl rfl (by kernel_rfl) (by kernel_rfl) (by kernel_rfl) (fun _ _ _ h => h) (by rfl) ?_ hS ?_
  rotate_left
  · intro w' hSw; (try dsimp only at hSw); go_simp <;> with_reducible rfl
  simp only [Act.put, List.setIfInBounds_toArray, List.set_cons_zero, List.set_cons_succ]
  refine held_take (i := 5) (d := (some 48)) (v := ?_) rfl rfl (by kernel_rfl) (by kernel_rfl) (by kernel_rfl) (fun _ _ _ h => h) (by rfl) ?_ hS ?_
  rotate_left
  · intro w' hSw; (try dsimp only at hSw); go_simp <;> with_reducible rfl
  simp only [Act.put, List.setIfInBounds_toArray, List.set_cons_zero, List.set_cons_succ]
  refine held_take (i := 6) (d := (some 49)) (v := ?_) rfl rfl (by kernel_rfl) (by kernel_rfl) (by kernel_rfl) (fun _ _ _ h => h) (by rfl) ?_ hS ?_
  rotate_left
  · intro w' hSw; (try dsimp only at hSw); go_simp <;> with_reducible rfl
  simp only [Act.put, List.setIfInBounds_toArray, List.set_cons_zero, List.set_cons_succ]
  refine held_take (i := 7) (d := (some 50)) (v := ?_) rfl rfl (by kernel_rfl) (by kernel_rfl) (by kernel_rfl) (fun _ _ _ h => h) (by rfl) ?_ hS ?_
  rotate_left
  · intro w' hSw; have cA := (World.cell?_of_block (a := ⟨g7, 11, none⟩) (hSw.out.block g7 LT.out)).trans c11; clear hSw; go_simp <;> with_reducible rfl
  simp only [Act.put, List.setIfInBounds_toArray, List.set_cons_zero, List.set_cons_succ]
  refine held_take (i := 8) (d := (some 51)) (v := ?_) rfl rfl (by kernel_rfl) (by kernel_rfl) (by kernel_rfl) (fun _ _ _ h => h) (by rfl) ?_ hS ?_
  rotate_left
  · intro w' hSw; (try dsimp only at hSw); go_simp <;> with_reducible rfl
  simp only [Act.put, List.setIfInBounds_toArray, List.set_cons_zero, List.set_cons_succ]
  refine held_take (i := 9) (d := (some 52)) (v := ?_) rfl rfl (by kernel_rfl) (by kernel_rfl) (by kernel_rfl) (fun _ _ _ h => h) (by rfl) ?_ hS ?_
  rotate_left
  · intro w' hSw; (try dsimp only at hSw); go_simp <;> with_reducible rfl
  simp only [Act.put, List.setIfInBounds_toArray, List.set_cons_zero, List.set_cons_succ]
  refine held_take (i := 10) (d := (some 10)) (v := ?_) rfl rfl (by kernel_rfl) (by kernel_rfl) (by kernel_rfl) (fun _ _ _ h => h) (by rfl) ?_ hS ?_
  rotate_left
  · intro w' hSw; (try dsimp only at hSw); go_simp <;> with_reducible rfl
  simp only [Act.put, List.setIfInBounds_toArray, List.set_cons_zero, List.set_cons_succ]
  refine wpAnyH_done (by kernel_rfl) ?_ _
  have B8 := Lib.hid (B7.out.trans (hS.out.mono B7.out.size))
  have O8 := Lib.hid (O7.out.below hS.out)
  clear B7 O7 hS c10 c11 LT ii0 ii1 ii2 ii3
  generalize w7.drew = w8 at *
  obtain ⟨z, hz⟩ : ∃ z : Nat, (y10 * 256 + y11 + 8192) % 65535 = z := ⟨_, rfl⟩
  have hz1 : ((y10 : Int) * (256 : Int) + (y11 : Int) + 16384 - 8192) % 65535 = (z : Int) := by omega
  have hz2 : ((y10 : Int) * (256 : Int) + (y11 : Int) + 16384 - 8192).tmod 65535 = (z : Int) := by rw [Int.tmod_eq_emod_of_nonneg (by omega), hz1]
  have iz0 := IntWalk.i64_in ((y10 : Int) * (256 : Int) + (y11 : Int) + 16384) (by omega)
  have iz1 := IntWalk.i64_in ((y10 : Int) * (256 : Int) + (y11 : Int) + 16384 - 8192) (by omega)
  have hz9 : z < 65535 := by rw [← hz]; exact Nat.mod_lt _ (by omega)
  go_upto_region 13 with fail
  clear hz hz1 hz2 iz0 iz1 r10 r11
  obtain ⟨v10, h10⟩ : ∃ v : UInt8, v.toNat = z / 256 := ⟨UInt8.ofNat (z / 256), by rw [UInt8.toNat_ofNat']; omega⟩
  obtain ⟨v11, h11⟩ : ∃ v : UInt8, v.toNat = z % 256 := ⟨UInt8.ofNat (z % 256), by rw [UInt8.toNat_ofNat']; omega⟩
  have e10 : (z : Int) / 256 = (v10.toNat : Int) := by omega
  have e10' : (z : Int).tdiv 256 = (v10.toNat : Int) := by rw [Int.tdiv_eq_ediv_of_nonneg (by omega), e10]
  have e11 : (z : Int) % 256 = (v11.toNat : Int) := by omega
  have iv10 := IntWalk.u8_in (v10.toNat : Int) (by have := v10.toNat_lt; omega)
  obtain ⟨y10b, c10⟩ : ∃ y : UInt8, w8.cell? ⟨g7, 10, none⟩ = some (.int .u8 (y.toNat : Int)) := ⟨_, (O8.out.cell (j := 10) (by omega)).2⟩
  have f10 := O8.out.frozen 10
  have O9 := Lib.hid (O8.out.set (j := 10) v10)
  have B9 := Lib.hid (B8.out.setCell (p := ⟨g7, 10, none⟩) (by exact O8.out.base) (.int .u8 (v10.toNat : Int)))
  obtain ⟨y11b, c11⟩ : ∃ y : UInt8, (w8.setCell ⟨g7, 10, none⟩ (.int .u8 (v10.toNat : Int))).cell? ⟨g7, 11, none⟩ = some (.int .u8 (y.toNat : Int)) := ⟨_, (O9.out.cell (j := 11) (by omega)).2⟩
  have f11 := O9.out.frozen 11
  have O10 := Lib.hid (O9.out.set (j := 11) v11)
  have B10 := Lib.hid (B9.out.setCell (p := ⟨g7, 11, none⟩) (by exact O8.out.base) (.int .u8 (v11.toNat : Int)))
  have PT := Lib.hid (FR.out v10 v11)
  clear h10 h11 FR
  go_upto_region 15 with fail
  generalize (w8.setCell ⟨g7, 10, none⟩ (.int .u8 (v10.toNat : Int))).setCell ⟨g7, 11, none⟩ (.int .u8 (v11.toNat : Int)) = w10 at *
  clear c10 f10 c11 f11 e10 e10' e11 iv10 B8 B9
  go_wp2_with fail
  refine (parse_any (some ⟨g7, 0, none⟩) (20 + l.length) c7 _ w10 O10.out.src (by omega)).mono ?_; rintro e w11 ⟨T, b11⟩
  have B11 := Lib.hid (B10.out.trans (b11.mono B10.out.size))
  rcases T with ⟨_, rfl⟩ | ⟨h0, _⟩
  rotate_left
  · exact absurd h0 PT.out
  have hne := PT.out
  generalize parErr ((L7.set 10 v10).set 11 v11) = er at *
  have hne' : (er == 0) = false := by simpa using hne
  have hn1 := HN1.out
  have hn1' : (er1 == 0) = false := by simpa using hn1
  have B12 := Lib.hid (B11.out.alloc B11.out.size (.cells pk0 32))
  clear b11 B10 B11
  go_wp2
  go_ret
  exact ⟨by first | rfl | simp [hne, hn1], B12.out⟩

set_option maxRecDepth 100000 in
theorem lifted (os : Os) (started : os.Started) (H : Type) (enc : TypeId × Value → H) :
    ReturnsInHanded {} Try.checked os 7 .any (Rows.iPCutSpec.pre6 enc Try.prog Try.f7 Rows.iPCutRow.domain false) (Rows.iPCutSpec.post enc Try.prog Try.f7 false true false false) := by
  refine returnsInHanded_of_change (C := Try.checked) own started (by kernel_rfl) Try.func7
    (ChangeSpec.witness6 (enc := enc) (C := Try.checked) false ⟨#[], #[.agg #[.int .u16 0, .int .u8 0, .int .u8 0, .int .u32 0, .int .u32 0, .string ⟨#[]⟩], .int .u16 0], []⟩ 8 (by kernel_rfl) (by kernel_rfl) (by kernel_rfl) (by kernel_rfl)) ?_
  intro W base args ds gs before hval0 hW hcnd _
  have hval : ∀ (j : Nat) t v, Try.f7.params[j]? = some t → args[j]? = some v → Value.okWide Try.prog W .any base t v := hval0
  have hW' := hW
  obtain ⟨p, q, hA0, hV, rfl, hfz, hnd⟩ := hW
  have hA : DataW.TrodAll enc Try.prog W 0 (fun _ => true) true Try.f7.params.toList args.toList ds p := hA0
  rw [Try.params7] at hA hval
  obtain ⟨v0, vs0, d0, ds0, p0, q0, hargs, rfl, rfl, h0, r0⟩ := trodAll_cons hA
  obtain ⟨v1, vs1, d1, ds1, p1, q1, rfl, rfl, rfl, h1, r1⟩ := trodAll_cons r0
  obtain ⟨rfl, rfl, rfl⟩ := trodAll_nil r1
  obtain rfl : args = #[v0, v1] := by cases args; simp_all
  obtain ⟨a0_0, a0_1, a0_2, a0_3, a0_4, a0_5, rfl, w0_0, w0_1, w0_2, w0_3, w0_4, w0_5⟩ := Ip.open_pk (hval 0 25 v0 rfl rfl) h0
  obtain ⟨a1, rfl, _, _, w1⟩ := open_int Try.underlying22 (hval 1 22 v1 rfl rfl) h1
  clear hA0 hval0
  exact law_close hW' laidOut (by kernel_rfl) rfl Try.underlying4 rfl ⟨rfl, rfl, rfl⟩ (walk W a0_0 a0_1 a0_2 a0_3 a0_4 a0_5 w0_0 w0_1 w0_2 w0_3 w0_4 w0_5 a1 w1)

theorem over : Rows.iPCutRow.holds Try.pinned (OpenSpec.ofChange Rows.iPCutSpec) :=
  OpenClaim.holds_of_wide 7 Try.f7 rfl rfl rfl rfl rfl rfl rfl ⟨rfl, rfl, rfl, rfl, rfl⟩ rfl rfl rfl rfl rfl (by kernel_rfl) Try.func7 (by kernel_rfl)
    (of_decide_eq_true (by kernel_rfl)) (by unfold Func.isWrapper; first | (rw [if_pos (by decide +kernel)]; kernel_rfl) | (rw [if_neg (by decide +kernel)]; exact ⟨rfl, rfl⟩))
    (fun os started H enc _ => lifted os started H enc)

theorem proved : Rows.IPCutSaid := over

end Go.Proofs.Ytpnfmohejcdgfaa.iPCut
