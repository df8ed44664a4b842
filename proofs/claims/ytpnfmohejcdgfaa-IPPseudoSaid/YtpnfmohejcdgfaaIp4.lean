/- Package ipv4: Pseudo; the document's Head, Bytes, Pseudo of layer 15. Conditions: those that each states. -/
import Derived.Test.YtpnfmohejcdgfaaIpM
import Derived.Test.YtpnfmohejcdgfaaRp
import Derived.Test.YtpnfmohejcdgfaaGy
namespace Go.Proofs.Ytpnfmohejcdgfaa.Ip
open Go.ChangeShapes Go.WideShapes Go.ChangeAt Go.RowKit Go.Deep Rk Fl Gx Di
set_option linter.unusedVariables false
set_option linter.unusedSimpArgs false

/-- The words of what a body's sum begins with. -/
def psW (s d p k : Nat) : List Nat := [s / 65536, s % 65536, d / 65536, d % 65536, p, k % 65536]
theorem psW_small {s d p k : Nat} (hs : s ≤ 4294967295) (hd : d ≤ 4294967295) (hp : p ≤ 255) : ∀ x ∈ psW s d p k, x ≤ 65535 := by
  intro x hx
  simp only [psW, List.mem_cons, List.not_mem_nil, or_false] at hx
  rcases hx with rfl | rfl | rfl | rfl | rfl | rfl <;> omega
theorem be_w (p : Nat) (hp : p ≤ 255) : be p 2 = [0] ++ be p 1 := by
  simp only [be, List.cons_append, List.nil_append, List.cons.injEq, and_true]
  exact u8_eq (by simp only [nb_eq]; simp; omega)
theorem psW_bytes (s d p k : Nat) (hp : p ≤ 255) : wb (psW s d p k) = be s 4 ++ be d 4 ++ [0] ++ be p 1 ++ be (k % 65536) 2 := by
  rw [← be_four s, ← be_four d, List.append_assoc (be (s / 65536) 2 ++ be (s % 65536) 2 ++ _) [0] (be p 1), ← be_w p hp]
  simp only [psW, wb, List.append_assoc, List.append_nil]

set_option maxRecDepth 100000 in
theorem pseudo_any (s d p k : Nat) (hs : s ≤ 4294967295) (hd : d ≤ 4294967295) (hp : p ≤ 255) (hk : k ≤ 4294967295) (w : World) :
    Calls Try.prog 17 #[.int .u32 (s : Int), .int .u32 (d : Int), .int .u8 (p : Int), .int .i64 (k : Int)] w fun e w' => e = .returned (.complex .f64 (fl (evs (wb (psW s d p k)))) (fl (ods (wb (psW s d p k))))) ∧ Below w.heap.size w w' := by
  have C0 := Lib.hid (fun W => high_any s hs W)
  have C1 := Lib.hid (fun W => low_any s hs W)
  have C2 := Lib.hid (fun W => high_any d hd W)
  have C3 := Lib.hid (fun W => low_any d hd W)
  have C4 := Lib.hid (fun W => word_any' 0 p (by omega) hp W)
  have KB := Lib.hid (Blk.new w 22 #[.int .u16 ((s : Int) / 65536), .int .u16 ((s : Int) % 65536), .int .u16 ((d : Int) / 65536), .int .u16 ((d : Int) % 65536), .int .u16 (p : Int), .int .u16 ((k : Int) % 65536)])
  have BK := Lib.hid ((Below.refl w.heap.size w).alloc (Nat.le_refl _) (.cells #[.int .u16 ((s : Int) / 65536), .int .u16 ((s : Int) % 65536), .int .u16 ((d : Int) / 65536), .int .u16 ((d : Int) % 65536), .int .u16 (p : Int), .int .u16 ((k : Int) % 65536)] 22))
  have PS := Lib.hid (psW_small (k := k) hs hd hp)
  go_enter Try.func17, Try.ntmps17
  go_wp2_with fail
  refine (C0.out _).mono ?_; rintro e wq ⟨rfl, rfl⟩
  go_wp2_with fail
  refine (C1.out _).mono ?_; rintro e wq ⟨rfl, rfl⟩
  go_wp2_with fail
  refine (C2.out _).mono ?_; rintro e wq ⟨rfl, rfl⟩
  go_wp2_with fail
  refine (C3.out _).mono ?_; rintro e wq ⟨rfl, rfl⟩
  go_wp2_with fail
  refine (C4.out _).mono ?_; rintro e wq ⟨rfl, rfl⟩
  have PO := Lib.hid (show Calls Try.prog 25 #[.slice (some ⟨w.heap.size, 0, none⟩) 6 6] (w.alloc (.cells #[.int .u16 ((s : Int) / 65536), .int .u16 ((s : Int) % 65536), .int .u16 ((d : Int) / 65536), .int .u16 ((d : Int) % 65536), .int .u16 (p : Int), .int .u16 ((k : Int) % 65536)] 22)) (fun e w' => e = .returned (.complex .f64 (fl (evs (wb (psW s d p k)))) (fl (ods (wb (psW s d p k))))) ∧ _ = w') from by
    have eC : #[Value.int .u16 ((s : Int) / 65536), .int .u16 ((s : Int) % 65536), .int .u16 ((d : Int) / 65536), .int .u16 ((d : Int) % 65536), .int .u16 (p : Int), .int .u16 ((k : Int) % 65536)].toList = vw (psW s d p k) := by simp [vw, psW]
    have RG := rowG_blk (n := 6) (sz := 1) KB.out rfl (by decide)
    rw [eC] at RG
    exact partOf_any (some ⟨w.heap.size, 0, none⟩) 6 (psW s d p k) _ RG PS.out (by show 6 ≤ 1000; omega))
  go_wp2_with fail
  refine PO.out.mono ?_; rintro e wq ⟨rfl, rfl⟩
  go_wp2
  go_ret
  exact ⟨rfl, BK.out⟩

/-- The document's packet, as a value. -/
abbrev dpV (i t p s d : Nat) (l : List UInt8) : Array Value := #[.int .u16 (i : Int), .int .u8 (t : Int), .int .u8 (p : Int), .int .u32 (s : Int), .int .u32 (d : Int), .string ⟨l.toArray⟩]

set_option maxRecDepth 100000 in
set_option maxHeartbeats 4000000 in
theorem refHead_ok (i t p s d : Nat) (hp : Pk i t p s d) (l : List UInt8) (m : Nat) (hm : m ≤ 990) (w : World) :
    Calls Try.prog 12 #[.agg (dpV i t p s d l), .int .i64 (m : Int)] w fun e w' => e = .returned (.tuple #[.string ⟨(ipHead i t p s d m).toArray⟩, .int .i64 0]) ∧ Below w.heap.size w w' := by
  have b1 : Below w.heap.size w (w.alloc (.cells (dpV i t p s d l) 25)) := (Below.refl _ w).alloc (Nat.le_refl _) _
  have B1 := Lib.hid b1
  have KB := Lib.hid (Blk.new w 25 (dpV i t p s d l))
  have e20 : ((20 + m : Nat) : Int) = 20 + (m : Int) := by omega
  have P1 := fun W => refP_any (20 + m) 2 W (by omega) (by omega) (by omega) (by simp; omega)
  rw [e20] at P1
  have P1 := Lib.hid P1
  have P2 := Lib.hid (fun W => refP_any i 2 W (by have := hp.i; omega) (by omega) (by omega) (by have := hp.i; simp; omega))
  have P3 := Lib.hid (fun W => refP_any t 1 W (by have := hp.t; omega) (by omega) (by omega) (by have := hp.t; simp; omega))
  have P4 := Lib.hid (fun W => refP_any p 1 W (by have := hp.p; omega) (by omega) (by omega) (by have := hp.p; simp; omega))
  have P5 := Lib.hid (fun W => refP_any s 4 W (by have := hp.s; omega) (by omega) (by omega) (by have := hp.s; simp; omega))
  have P6 := Lib.hid (fun W => refP_any d 4 W (by have := hp.d; omega) (by omega) (by omega) (by have := hp.d; simp; omega))
  have P7 := Lib.hid (fun W => refP_any (hSum i t p s d m) 2 W (by have := hSum_le i t p s d m; omega) (by omega) (by omega) (by have := hSum_le i t p s d m; simp; omega))
  have hm1 : ¬ (m : Int) < 0 := by omega
  have hm2 : ¬ (m : Int) > 990 := by omega
  have u0 := IntWalk.i64_in (20 + (m : Int)) (by omega)
  have u1 := IntWalk.u64_in (20 + (m : Int)) (by omega)
  have u2 := IntWalk.u64_in (i : Int) (by have := hp.i; omega)
  have u3 := IntWalk.u64_in (t : Int) (by have := hp.t; omega)
  have u4 := IntWalk.u64_in (p : Int) (by have := hp.p; omega)
  have u5 := IntWalk.u64_in (s : Int) (by have := hp.s; omega)
  have u6 := IntWalk.u64_in (d : Int) (by have := hp.d; omega)
  have EH := Lib.hid (show ipHead i t p s d m = dHead i t p s d m (be (hSum i t p s d m) 2) from wb_hW i t p s d m _ hp)
  have EZ := Lib.hid (show wb (hW i t p s d m 0) = dHead i t p s d m [0, 0] from wb_hW i t p s d m 0 hp)
  have HP := Lib.hid hp
  clear b1 e20 hp
  go_enter Try.func12, Try.ntmps12
  go_upto_region 1 with fail
  generalize w.alloc (.cells (dpV i t p s d l) 25) = W at *
  go_upto_region 3 with fail
  refine wp_region_held_drew (S := fun w' => Hid (Below W.heap.size W w')) (by kernel_rfl) (Lib.hid ((Below.refl W.heap.size W).drew)) (fun hS => ?_)
  refine held_take (i := 0) (d := (some 15)) (v := ?_) rfl rfl (by kernel_rfl) (by kernel_rfl) (by kernel_rfl) (fun _ _ _ h => h) (by rfl) ?_ hS ?_
  rotate_left
  · intro w' hSw; (try dsimp only at hSw); go_simp <;> with_reducible rfl
  simp only [Act.put, List.setIfInBounds_toArray, List.set_cons_zero, List.set_cons_succ]
  refine held_take (i := 1) (d := (some 16)) (v := ?_) rfl rfl (by kernel_rfl) (by kernel_rfl) (by kernel_rfl) (fun _ _ _ h => h) (by rfl) ?_ hS ?_
  rotate_left
  · intro w' hSw; (try dsimp only at hSw); go_simp <;> with_reducible rfl
  simp only [Act.put, List.setIfInBounds_toArray, List.set_cons_zero, List.set_cons_succ]
  refine held_take (i := 2) (d := (some 17)) (v := ?_) rfl rfl (by kernel_rfl) (by kernel_rfl) (by kernel_rfl) (fun _ _ _ h => h) (by rfl) ?_ hS ?_
  rotate_left
  · intro w' hSw; (try dsimp only at hSw); go_simp <;> with_reducible rfl
  simp only [Act.put, List.setIfInBounds_toArray, List.set_cons_zero, List.set_cons_succ]
  refine held_take (i := 5) (d := (some 20)) (v := ?_) rfl rfl (by kernel_rfl) (by kernel_rfl) (by kernel_rfl) (fun _ _ _ h => h) (by rfl) ?_ hS ?_
  rotate_left
  · intro w' hSw; (try dsimp only at hSw); go_simp <;> with_reducible rfl
  simp only [Act.put, List.setIfInBounds_toArray, List.set_cons_zero, List.set_cons_succ]
  refine held_take (i := 6) (d := (some 21)) (v := ?_) rfl rfl (by kernel_rfl) (by kernel_rfl) (by kernel_rfl) (fun _ _ _ h => h) (by rfl) ?_ hS ?_
  rotate_left
  · intro w' hSw; have kb := hSw.out; clear hSw; have z0 := ((KB.out.older (older_below kb)).cell 0).trans (show _ = some (.int .u16 (i : Int)) from rfl); clear kb; go_simp <;> with_reducible rfl
  simp only [Act.put, List.setIfInBounds_toArray, List.set_cons_zero, List.set_cons_succ]
  refine held_take (i := 7) (d := (some 22)) (v := ?_) rfl rfl (by kernel_rfl) (by kernel_rfl) (by kernel_rfl) (fun _ _ _ h => h) (by rfl) ?_ hS ?_
  rotate_left
  · intro w' hSw; (try dsimp only at hSw); go_simp <;> with_reducible rfl
  simp only [Act.put, List.setIfInBounds_toArray, List.set_cons_zero, List.set_cons_succ]
  refine held_take (i := 11) (d := (some 26)) (v := ?_) rfl rfl (by kernel_rfl) (by kernel_rfl) (by kernel_rfl) (fun _ _ _ h => h) (by rfl) ?_ hS ?_
  rotate_left
  · intro w' hSw; (try dsimp only at hSw); go_simp <;> with_reducible rfl
  simp only [Act.put, List.setIfInBounds_toArray, List.set_cons_zero, List.set_cons_succ]
  refine held_take (i := 12) (d := (some 27)) (v := ?_) rfl rfl (by kernel_rfl) (by kernel_rfl) (by kernel_rfl) (fun _ _ _ h => h) (by rfl) ?_ hS ?_
  rotate_left
  · intro w' hSw; have kb := hSw.out; clear hSw; have z1 := ((KB.out.older (older_below kb)).cell 1).trans (show _ = some (.int .u8 (t : Int)) from rfl); clear kb; go_simp <;> with_reducible rfl
  simp only [Act.put, List.setIfInBounds_toArray, List.set_cons_zero, List.set_cons_succ]
  refine held_take (i := 13) (d := (some 28)) (v := ?_) rfl rfl (by kernel_rfl) (by kernel_rfl) (by kernel_rfl) (fun _ _ _ h => h) (by rfl) ?_ hS ?_
  rotate_left
  · intro w' hSw; (try dsimp only at hSw); go_simp <;> with_reducible rfl
  simp only [Act.put, List.setIfInBounds_toArray, List.set_cons_zero, List.set_cons_succ]
  refine held_take (i := 16) (d := (some 31)) (v := ?_) rfl rfl (by kernel_rfl) (by kernel_rfl) (by kernel_rfl) (fun _ _ _ h => h) (by rfl) ?_ hS ?_
  rotate_left
  · intro w' hSw; (try dsimp only at hSw); go_simp <;> with_reducible rfl
  simp only [Act.put, List.setIfInBounds_toArray, List.set_cons_zero, List.set_cons_succ]
  refine held_take (i := 17) (d := (some 32)) (v := ?_) rfl rfl (by kernel_rfl) (by kernel_rfl) (by kernel_rfl) (fun _ _ _ h => h) (by rfl) ?_ hS ?_
  rotate_left
  · intro w' hSw; have kb := hSw.out; clear hSw; have z2 := ((KB.out.older (older_below kb)).cell 2).trans (show _ = some (.int .u8 (p : Int)) from rfl); clear kb; go_simp <;> with_reducible rfl
  simp only [Act.put, List.setIfInBounds_toArray, List.set_cons_zero, List.set_cons_succ]
  refine held_take (i := 18) (d := (some 33)) (v := ?_) rfl rfl (by kernel_rfl) (by kernel_rfl) (by kernel_rfl) (fun _ _ _ h => h) (by rfl) ?_ hS ?_
  rotate_left
  · intro w' hSw; (try dsimp only at hSw); go_simp <;> with_reducible rfl
  simp only [Act.put, List.setIfInBounds_toArray, List.set_cons_zero, List.set_cons_succ]
  refine held_one (i := 3) (by kernel_rfl) rfl (by rfl) ?_
  go_simp
  refine (P1.out _).mono ?_; rintro e wp ⟨rfl, bp⟩
  have hS : Hid (Below W.heap.size W wp) := Lib.hid (hS.out.trans (bp.mono hS.out.size))
  refine ⟨hS, ?_⟩
  clear bp
  (try simp only [Act.put, List.setIfInBounds_toArray, List.set_cons_zero, List.set_cons_succ])
  refine held_take (i := 4) (d := (some 19)) (v := .string ⟨(([69, 0] : List UInt8) ++ be (20 + m) 2).toArray⟩) rfl rfl (by kernel_rfl) (by kernel_rfl) (by kernel_rfl) (fun _ _ _ h => h) (by rfl) (fun w' _ => exec_cat rfl rfl rfl (by simp [be_length]) w') hS ?_
  simp only [Act.put, List.setIfInBounds_toArray, List.set_cons_zero, List.set_cons_succ]
  refine held_one (i := 8) (by kernel_rfl) rfl (by rfl) ?_
  go_simp
  refine (P2.out _).mono ?_; rintro e wp ⟨rfl, bp⟩
  have hS : Hid (Below W.heap.size W wp) := Lib.hid (hS.out.trans (bp.mono hS.out.size))
  refine ⟨hS, ?_⟩
  clear bp
  (try simp only [Act.put, List.setIfInBounds_toArray, List.set_cons_zero, List.set_cons_succ])
  refine held_take (i := 9) (d := (some 24)) (v := .string ⟨((([69, 0] : List UInt8) ++ be (20 + m) 2) ++ be i 2).toArray⟩) rfl rfl (by kernel_rfl) (by kernel_rfl) (by kernel_rfl) (fun _ _ _ h => h) (by rfl) (fun w' _ => exec_cat rfl rfl rfl (by simp [be_length]) w') hS ?_
  simp only [Act.put, List.setIfInBounds_toArray, List.set_cons_zero, List.set_cons_succ]
  refine held_take (i := 10) (d := (some 25)) (v := .string ⟨(((([69, 0] : List UInt8) ++ be (20 + m) 2) ++ be i 2) ++ ([64, 0] : List UInt8)).toArray⟩) rfl rfl (by kernel_rfl) (by kernel_rfl) (by kernel_rfl) (fun _ _ _ h => h) (by rfl) (fun w' _ => exec_cat rfl rfl rfl (by simp [be_length]) w') hS ?_
  simp only [Act.put, List.setIfInBounds_toArray, List.set_cons_zero, List.set_cons_succ]
  refine held_one (i := 14) (by kernel_rfl) rfl (by rfl) ?_
  go_simp
  refine (P3.out _).mono ?_; rintro e wp ⟨rfl, bp⟩
  have hS : Hid (Below W.heap.size W wp) := Lib.hid (hS.out.trans (bp.mono hS.out.size))
  refine ⟨hS, ?_⟩
  clear bp
  (try simp only [Act.put, List.setIfInBounds_toArray, List.set_cons_zero, List.set_cons_succ])
  refine held_take (i := 15) (d := (some 30)) (v := .string ⟨((((([69, 0] : List UInt8) ++ be (20 + m) 2) ++ be i 2) ++ ([64, 0] : List UInt8)) ++ be t 1).toArray⟩) rfl rfl (by kernel_rfl) (by kernel_rfl) (by kernel_rfl) (fun _ _ _ h => h) (by rfl) (fun w' _ => exec_cat rfl rfl rfl (by simp [be_length]) w') hS ?_
  simp only [Act.put, List.setIfInBounds_toArray, List.set_cons_zero, List.set_cons_succ]
  refine held_one (i := 19) (by kernel_rfl) rfl (by rfl) ?_
  go_simp
  refine (P4.out _).mono ?_; rintro e wp ⟨rfl, bp⟩
  have hS : Hid (Below W.heap.size W wp) := Lib.hid (hS.out.trans (bp.mono hS.out.size))
  refine ⟨hS, ?_⟩
  clear bp
  (try simp only [Act.put, List.setIfInBounds_toArray, List.set_cons_zero, List.set_cons_succ])
  refine held_take (i := 20) (d := (some 35)) (v := .string ⟨(((((([69, 0] : List UInt8) ++ be (20 + m) 2) ++ be i 2) ++ ([64, 0] : List UInt8)) ++ be t 1) ++ be p 1).toArray⟩) rfl rfl (by kernel_rfl) (by kernel_rfl) (by kernel_rfl) (fun _ _ _ h => h) (by rfl) (fun w' _ => exec_cat rfl rfl rfl (by simp [be_length]) w') hS ?_
  simp only [Act.put, List.setIfInBounds_toArray, List.set_cons_zero, List.set_cons_succ]
  refine held_take (i := 21) (d := (some 6)) (v := ?_) rfl rfl (by kernel_rfl) (by kernel_rfl) (by kernel_rfl) (fun _ _ _ h => h) (by rfl) ?_ hS ?_
  rotate_left
  · intro w' hSw; (try dsimp only at hSw); go_simp <;> with_reducible rfl
  simp only [Act.put, List.setIfInBounds_toArray, List.set_cons_zero, List.set_cons_succ]
  refine wpAnyH_done (by kernel_rfl) ?_ _
  have B2 := Lib.hid (B1.out.trans (hS.out.mono B1.out.size))
  have KB := Lib.hid (KB.out.older (older_below hS.out))
  clear hS B1 P1 P2 P3 P4
  go_upto_region 4 with fail
  generalize wp = W at *
  refine wp_region_held_drew (S := fun w' => Hid (Below W.heap.size W w')) (by kernel_rfl) (Lib.hid ((Below.refl W.heap.size W).drew)) (fun hS => ?_)
  refine held_take (i := 0) (d := (some 36)) (v := ?_) rfl rfl (by kernel_rfl) (by kernel_rfl) (by kernel_rfl) (fun _ _ _ h => h) (by rfl) ?_ hS ?_
  rotate_left
  · intro w' hSw; (try dsimp only at hSw); go_simp <;> with_reducible rfl
  simp only [Act.put, List.setIfInBounds_toArray, List.set_cons_zero, List.set_cons_succ]
  refine held_take (i := 1) (d := (some 37)) (v := ?_) rfl rfl (by kernel_rfl) (by kernel_rfl) (by kernel_rfl) (fun _ _ _ h => h) (by rfl) ?_ hS ?_
  rotate_left
  · intro w' hSw; have kb := hSw.out; clear hSw; have z3 := ((KB.out.older (older_below kb)).cell 3).trans (show _ = some (.int .u32 (s : Int)) from rfl); clear kb; go_simp <;> with_reducible rfl
  simp only [Act.put, List.setIfInBounds_toArray, List.set_cons_zero, List.set_cons_succ]
  refine held_take (i := 2) (d := (some 38)) (v := ?_) rfl rfl (by kernel_rfl) (by kernel_rfl) (by kernel_rfl) (fun _ _ _ h => h) (by rfl) ?_ hS ?_
  rotate_left
  · intro w' hSw; (try dsimp only at hSw); go_simp <;> with_reducible rfl
  simp only [Act.put, List.setIfInBounds_toArray, List.set_cons_zero, List.set_cons_succ]
  refine held_take (i := 4) (d := (some 40)) (v := ?_) rfl rfl (by kernel_rfl) (by kernel_rfl) (by kernel_rfl) (fun _ _ _ h => h) (by rfl) ?_ hS ?_
  rotate_left
  · intro w' hSw; (try dsimp only at hSw); go_simp <;> with_reducible rfl
  simp only [Act.put, List.setIfInBounds_toArray, List.set_cons_zero, List.set_cons_succ]
  refine held_take (i := 5) (d := (some 41)) (v := ?_) rfl rfl (by kernel_rfl) (by kernel_rfl) (by kernel_rfl) (fun _ _ _ h => h) (by rfl) ?_ hS ?_
  rotate_left
  · intro w' hSw; have kb := hSw.out; clear hSw; have z4 := ((KB.out.older (older_below kb)).cell 4).trans (show _ = some (.int .u32 (d : Int)) from rfl); clear kb; go_simp <;> with_reducible rfl
  simp only [Act.put, List.setIfInBounds_toArray, List.set_cons_zero, List.set_cons_succ]
  refine held_take (i := 6) (d := (some 42)) (v := ?_) rfl rfl (by kernel_rfl) (by kernel_rfl) (by kernel_rfl) (fun _ _ _ h => h) (by rfl) ?_ hS ?_
  rotate_left
  · intro w' hSw; (try dsimp only at hSw); go_simp <;> with_reducible rfl
  simp only [Act.put, List.setIfInBounds_toArray, List.set_cons_zero, List.set_cons_succ]
  refine held_one (i := 3) (by kernel_rfl) rfl (by rfl) ?_
  go_simp
  refine (P5.out _).mono ?_; rintro e wp ⟨rfl, bp⟩
  have hS : Hid (Below W.heap.size W wp) := Lib.hid (hS.out.trans (bp.mono hS.out.size))
  refine ⟨hS, ?_⟩
  clear bp
  (try simp only [Act.put, List.setIfInBounds_toArray, List.set_cons_zero, List.set_cons_succ])
  refine held_one (i := 7) (by kernel_rfl) rfl (by rfl) ?_
  go_simp
  refine (P6.out _).mono ?_; rintro e wp ⟨rfl, bp⟩
  have hS : Hid (Below W.heap.size W wp) := Lib.hid (hS.out.trans (bp.mono hS.out.size))
  refine ⟨hS, ?_⟩
  clear bp
  (try simp only [Act.put, List.setIfInBounds_toArray, List.set_cons_zero, List.set_cons_succ])
  refine held_take (i := 8) (d := (some 44)) (v := .string ⟨(be s 4 ++ be d 4).toArray⟩) rfl rfl (by kernel_rfl) (by kernel_rfl) (by kernel_rfl) (fun _ _ _ h => h) (by rfl) (fun w' _ => exec_cat rfl rfl rfl (by simp [be_length]) w') hS ?_
  simp only [Act.put, List.setIfInBounds_toArray, List.set_cons_zero, List.set_cons_succ]
  refine held_take (i := 9) (d := (some 7)) (v := ?_) rfl rfl (by kernel_rfl) (by kernel_rfl) (by kernel_rfl) (fun _ _ _ h => h) (by rfl) ?_ hS ?_
  rotate_left
  · intro w' hSw; (try dsimp only at hSw); go_simp <;> with_reducible rfl
  simp only [Act.put, List.setIfInBounds_toArray, List.set_cons_zero, List.set_cons_succ]
  refine wpAnyH_done (by kernel_rfl) ?_ _
  have B3 := Lib.hid (B2.out.trans (hS.out.mono B2.out.size))
  clear hS KB B2
  clear P5 P6 u0 u1 u2 u3 u4 u5 u6 hm1 hm2
  generalize hX : 69 :: 0 :: (be (20 + m) 2 ++ (be i 2 ++ 64 :: 0 :: (be t 1 ++ be p 1))) = X at *
  generalize hY : be s 4 ++ be d 4 = Y at *
  have lX : X.length = 10 := by rw [← hX]; simp [be_length]
  have lY : Y.length = 8 := by rw [← hY]; simp [be_length]
  have eZ : X ++ 0 :: 0 :: Y = wb (hW i t p s d m 0) := by rw [EZ.out, ← hX, ← hY]; simp [dHead]
  have EK := Lib.hid (show X ++ (be (hSum i t p s d m) 2 ++ Y) = ipHead i t p s d m from by rw [EH.out, ← hX, ← hY]; simp [dHead])
  obtain ⟨Z, hZ⟩ : ∃ Z, X ++ 0 :: 0 :: Y = Z := ⟨_, rfl⟩
  have lZ : Z.length = 20 := by rw [← hZ]; simp [lX, lY]
  rw [hZ] at eZ
  have eb : (⟨X.toArray⟩ : ByteArray) ++ ⟨#[0, 0]⟩ ++ ⟨Y.toArray⟩ = ⟨Z.toArray⟩ := by rw [ByteArray.mk_append_mk, ByteArray.mk_append_mk, ← hZ]; simp
  obtain ⟨A6, c6, w6, hconv, hsr, hb, -⟩ := conv_src ⟨Z.toArray⟩ (by show Z.length ≤ 1000000; omega) wp
  have hconv : (convert 9 27 (.string ⟨Z.toArray⟩)).run Try.prog wp = .ok (.slice A6 Z.length c6) w6 := hconv
  rw [lZ] at hconv
  have hsr : Src w6 A6 Z.length c6 Z := hsr
  rw [lZ] at hsr
  have SC := Lib.hid (scratch_any A6 20 c6 Z w6 hsr.toBytes (by omega))
  have eS : (65535 - ((fo (256 * evs Z + ods Z) : Nat) : Int)) = ((hSum i t p s d m : Nat) : Int) := by
    rw [eZ]; unfold hSum tot
    have := fo_le (256 * evs (wb (hW i t p s d m 0)) + ods (wb (hW i t p s d m 0)))
    omega
  rw [eS] at SC
  have B6 := Lib.hid (B3.out.trans (hb.mono B3.out.size))
  have hk := hSum_le i t p s d m
  have u7 := IntWalk.u64_in (hSum i t p s d m : Int) (by omega)
  have la : ¬ 9223372036854775807 < X.length + 2 := by omega
  have lb : ¬ 9223372036854775807 < X.length + 2 + Y.length := by omega
  have lc : ¬ 9223372036854775807 < X.length + (be (hSum i t p s d m) 2).length := by rw [be_length]; omega
  have ld : ¬ 9223372036854775807 < X.length + (be (hSum i t p s d m) 2).length + Y.length := by rw [be_length]; omega
  clear hsr hb eZ eS hX hY EH EZ hk B3
  generalize hSum i t p s d m = k at *
  go_wp2_with fail
  refine SC.out.mono ?_; rintro e wq ⟨rfl, rfl⟩
  go_wp2_with fail
  refine (P7.out _).mono ?_; rintro e w7 ⟨rfl, b7⟩
  have B7 := Lib.hid (B6.out.trans (b7.mono B6.out.size))
  clear b7
  have es : (⟨X.toArray⟩ : ByteArray) ++ ⟨(be k 2).toArray⟩ ++ ⟨Y.toArray⟩ = ⟨(ipHead i t p s d m).toArray⟩ := by rw [ByteArray.mk_append_mk, ByteArray.mk_append_mk, ← EK.out]; simp
  go_wp2
  go_ret2
  exact ⟨rfl, B7.out⟩

set_option maxRecDepth 100000 in
theorem refHead_any (i t p s d : Nat) (hp : Pk i t p s d) (l : List UInt8) (m : Int) (w : World) :
    Calls Try.prog 12 #[.agg (dpV i t p s d l), .int .i64 m] w fun e w' => STells e (decide (0 ≤ m ∧ m ≤ 990)) (ipHead i t p s d m.toNat) 2 ∧ Below w.heap.size w w' := by
  by_cases h : 0 ≤ m ∧ m ≤ 990
  · obtain ⟨k, rfl⟩ : ∃ k : Nat, m = (k : Int) := ⟨m.toNat, by omega⟩
    rw [decide_eq_true h, Int.toNat_natCast]
    exact refHead_ok i t p s d hp l k (by omega) w
  · rw [decide_eq_false h]
    have B1 := Lib.hid ((Below.refl w.heap.size w).alloc (Nat.le_refl _) (.cells (dpV i t p s d l) 25))
    by_cases h0 : m < 0
    · clear h
      go_enter Try.func12, Try.ntmps12
      go_upto_region 1 with fail
      generalize w.alloc (.cells (dpV i t p s d l) 25) = W at *
      go_wp2
      go_ret2
      exact ⟨rfl, B1.out⟩
    · have h9 : m > 990 := by omega
      clear h
      go_enter Try.func12, Try.ntmps12
      go_upto_region 1 with fail
      generalize w.alloc (.cells (dpV i t p s d l) 25) = W at *
      go_wp2
      go_ret2
      exact ⟨rfl, B1.out⟩

set_option maxRecDepth 100000 in
theorem refBytes_any (i t p s d : Nat) (hp : Pk i t p s d) (l : List UInt8) (w : World) (hl : l.length ≤ 1000000) :
    Calls Try.prog 13 #[.agg (dpV i t p s d l)] w fun e w' => STells e (decide (l.length ≤ 990)) (ipHead i t p s d l.length ++ l) 2 ∧ Below w.heap.size w w' := by
  have b1 : Below w.heap.size w (w.alloc (.cells (dpV i t p s d l) 25)) := (Below.refl _ w).alloc (Nat.le_refl _) _
  have B1 := Lib.hid b1
  have K1 := Lib.hid (Blk.new w 25 (dpV i t p s d l))
  have HA := Lib.hid (fun W => refHead_any i t p s d hp l (l.length : Int) W)
  have hs : (⟨l.toArray⟩ : ByteArray).size = l.length := rfl
  clear b1
  go_enter Try.func13, Try.ntmps13
  go_upto_region 1 with fail
  generalize hW : w.alloc (.cells (dpV i t p s d l) 25) = W at *
  have z0 := (K1.out.cell 0).trans (show _ = some (.int .u16 (i : Int)) from rfl)
  have z1 := (K1.out.cell 1).trans (show _ = some (.int .u8 (t : Int)) from rfl)
  have z2 := (K1.out.cell 2).trans (show _ = some (.int .u8 (p : Int)) from rfl)
  have z3 := (K1.out.cell 3).trans (show _ = some (.int .u32 (s : Int)) from rfl)
  have z4 := (K1.out.cell 4).trans (show _ = some (.int .u32 (d : Int)) from rfl)
  have z5 := (K1.out.cell 5).trans (show _ = some (.string ⟨l.toArray⟩) from rfl)
  go_wp2_with fail
  refine (HA.out W).mono ?_
  rintro e w2 ⟨T, b2⟩
  have B2 := Lib.hid (B1.out.trans (b2.mono B1.out.size))
  have y5 := ((K1.out.older (older_below b2)).cell 5).trans (show _ = some (.string ⟨l.toArray⟩) from rfl)
  clear z0 z1 z2 z3 z4 z5 HA b2 K1
  unfold STells at T
  by_cases h : l.length ≤ 990
  · rw [decide_eq_true (show 0 ≤ (l.length : Int) ∧ (l.length : Int) ≤ 990 from by omega), Int.toNat_natCast] at T
    obtain rfl := T
    have E1 := Lib.hid (decide_eq_true h)
    have hd := ipHead_length i t p s d l.length
    have es : (⟨(ipHead i t p s d l.length).toArray⟩ : ByteArray) ++ ⟨l.toArray⟩ = ⟨(ipHead i t p s d l.length ++ l).toArray⟩ := by rw [ByteArray.mk_append_mk]
    have la : ¬ 9223372036854775807 < (ipHead i t p s d l.length).length + l.length := by omega
    go_wp2
    go_ret2
    refine ⟨?_, B2.out⟩
    unfold STells
    rw [E1.out]
    rfl
  · rw [decide_eq_false (show ¬ (0 ≤ (l.length : Int) ∧ (l.length : Int) ≤ 990) from by omega)] at T
    obtain rfl := T
    have E1 := Lib.hid (decide_eq_false h)
    go_wp2
    go_ret2
    refine ⟨?_, B2.out⟩
    unfold STells
    rw [E1.out]
    rfl

set_option maxRecDepth 100000 in
theorem refPseudo_any (s d p k : Nat) (hs : s ≤ 4294967295) (hd : d ≤ 4294967295) (hp : p ≤ 255) (hk : k ≤ 4294967295) (w : World) :
    Calls Try.prog 20 #[.int .u32 (s : Int), .int .u32 (d : Int), .int .u8 (p : Int), .int .i64 (k : Int)] w fun e w' => e = .returned (.string ⟨(wb (psW s d p k)).toArray⟩) ∧ Below w.heap.size w w' := by
  have P1 := Lib.hid (fun W => refP_any s 4 W (by omega) (by omega) (by omega) (by simp; omega))
  have P2 := Lib.hid (fun W => refP_any d 4 W (by omega) (by omega) (by omega) (by simp; omega))
  have P3 := Lib.hid (fun W => refP_any p 1 W (by omega) (by omega) (by omega) (by simp; omega))
  have P4 := fun W => refP_any (k % 65536) 2 W (by omega) (by omega) (by omega) (by simp; omega)
  have ek : ((k % 65536 : Nat) : Int) = (k : Int) % 65536 := by omega
  rw [ek] at P4
  have P4 := Lib.hid P4
  have u1 := IntWalk.u64_in (s : Int) (by omega)
  have u2 := IntWalk.u64_in (d : Int) (by omega)
  have u3 := IntWalk.u64_in (p : Int) (by omega)
  have u4 := IntWalk.u64_in (k : Int) (by omega)
  have EP := Lib.hid (psW_bytes s d p k hp)
  have la : ¬ 9223372036854775807 < (be s 4).length + (be d 4).length := by simp [be_length]
  have lb : ¬ 9223372036854775807 < (be s 4).length + (be d 4).length + 1 := by simp [be_length]
  have lc : ¬ 9223372036854775807 < (be s 4).length + (be d 4).length + 1 + (be p 1).length := by simp [be_length]
  have ld : ¬ 9223372036854775807 < (be s 4).length + (be d 4).length + 1 + (be p 1).length + (be (k % 65536) 2).length := by simp [be_length]
  clear ek
  go_enter Try.func20, Try.ntmps20
  go_wp2_with fail
  refine (P1.out _).mono ?_; rintro e w1 ⟨rfl, b1⟩
  have B1 := Lib.hid b1
  clear b1 P1
  go_wp2_with fail
  refine (P2.out _).mono ?_; rintro e w2 ⟨rfl, b2⟩
  have B2 := Lib.hid (B1.out.trans (b2.mono B1.out.size))
  clear b2 P2 B1
  go_wp2_with fail
  refine (P3.out _).mono ?_; rintro e w3 ⟨rfl, b3⟩
  have B3 := Lib.hid (B2.out.trans (b3.mono B2.out.size))
  clear b3 P3 B2
  go_wp2_with fail
  refine (P4.out _).mono ?_; rintro e w4 ⟨rfl, b4⟩
  have B4 := Lib.hid (B3.out.trans (b4.mono B3.out.size))
  clear b4 P4 B3
  go_wp2
  go_ret
  refine ⟨?_, B4.out⟩
  rw [EP.out]
  simp [ByteArray.mk_append_mk]
end Go.Proofs.Ytpnfmohejcdgfaa.Ip
