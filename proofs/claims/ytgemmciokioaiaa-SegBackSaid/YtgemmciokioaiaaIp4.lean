/- Package ipv4: Pseudo; the document's Head, Bytes, Pseudo of layer 15. Conditions: those that each states. -/
import Derived.Test.YtgemmciokioaiaaIpM
import Derived.Test.YtgemmciokioaiaaRp
import Derived.Test.YtgemmciokioaiaaGy
namespace Go.Proofs.Ytgemmciokioaiaa.Ip
open Go.ChangeShapes Go.WideShapes Go.ChangeAt Go.RowKit Go.Deep Rk Fl Gx Di
set_option linter.unusedVariables false
set_option linter.unusedSimpArgs false

/-- The words of what a body's sum begins with. -/
def psW (s d p k : Nat) : List Nat := [s / 65536, s % 65536, d / 65536, d % 65536, p, k % 65536]
theorem psW_small {s d p k : Nat} (hs : s ≤ 4294967295) (hd : d ≤ 4294967295) (hp : p ≤ 255) : ∀ x ∈ psW s d p k, x ≤ 65535 := by
  intro x hx
  simp only [psW, List.mem_cons, List.not_mem_nil, or_false] at hx
  rcases hx with rfl | rfl | rfl | rfl | rfl | rfl <;> omega
theorem be_w (p : Nat) (hp : p ≤ 255) : be p 2 = [0] ++ be p 1 := by
  simp only [be, List.cons_append, List.nil_append, List.cons.injEq, and_true]
  exact u8_eq (by simp only [nb_eq]; simp; omega)
theorem psW_bytes (s d p k : Nat) (hp : p ≤ 255) : wb (psW s d p k) = be s 4 ++ be d 4 ++ [0] ++ be p 1 ++ be (k % 65536) 2 := by
  rw [← be_four s, ← be_four d, List.append_assoc (be (s / 65536) 2 ++ be (s % 65536) 2 ++ _) [0] (be p 1), ← be_w p hp]
  simp only [psW, wb, List.append_assoc, List.append_nil]

set_option maxRecDepth 100000 in
theorem pseudo_any (s d p k : Nat) (hs : s ≤ 4294967295) (hd : d ≤ 4294967295) (hp : p ≤ 255) (hk : k ≤ 4294967295) (w : World) :
    Calls Try.prog 24 #[.int .u32 (s : Int), .int .u32 (d : Int), .int .u8 (p : Int), .int .i64 (k : Int)] w fun e w' => e = .returned (.complex .f64 (fl (evs (wb (psW s d p k)))) (fl (ods (wb (psW s d p k))))) ∧ Below w.heap.size w w' := by
  have C0 := Lib.hid (fun W => high_any s hs W)
  have C1 := Lib.hid (fun W => low_any s hs W)
  have C2 := Lib.hid (fun W => high_any d hd W)
  have C3 := Lib.hid (fun W => low_any d hd W)
  have C4 := Lib.hid (fun W => word_any' 0 p (by omega) hp W)
  have KB := Lib.hid (Blk.new w 22 #[.int .u16 ((s : Int) / 65536), .int .u16 ((s : Int) % 65536), .int .u16 ((d : Int) / 65536), .int .u16 ((d : Int) % 65536), .int .u16 (p : Int), .int .u16 ((k : Int) % 65536)])
  have BK := Lib.hid ((Below.refl w.heap.size w).alloc (Nat.le_refl _) (.cells #[.int .u16 ((s : Int) / 65536), .int .u16 ((s : Int) % 65536), .int .u16 ((d : Int) / 65536), .int .u16 ((d : Int) % 65536), .int .u16 (p : Int), .int .u16 ((k : Int) % 65536)] 22))
  have PS := Lib.hid (psW_small (k := k) hs hd hp)
  go_enter Try.func24, Try.ntmps24
  go_wp2_with fail
  refine (C0.out _).mono ?_; rintro e wq ⟨rfl, rfl⟩
  go_wp2_with fail
  refine (C1.out _).mono ?_; rintro e wq ⟨rfl, rfl⟩
  go_wp2_with fail
  refine (C2.out _).mono ?_; rintro e wq ⟨rfl, rfl⟩
  go_wp2_with fail
  refine (C3.out _).mono ?_; rintro e wq ⟨rfl, rfl⟩
  go_wp2_with fail
  refine (C4.out _).mono ?_; rintro e wq ⟨rfl, rfl⟩
  have PO := Lib.hid (show Calls Try.prog 37 #[.slice (some ⟨w.heap.size, 0, none⟩) 6 6] (w.alloc (.cells #[.int .u16 ((s : Int) / 65536), .int .u16 ((s : Int) % 65536), .int .u16 ((d : Int) / 65536), .int .u16 ((d : Int) % 65536), .int .u16 (p : Int), .int .u16 ((k : Int) % 65536)] 22)) (fun e w' => e = .returned (.complex .f64 (fl (evs (wb (psW s d p k)))) (fl (ods (wb (psW s d p k))))) ∧ _ = w') from by
    have eC : #[Value.int .u16 ((s : Int) / 65536), .int .u16 ((s : Int) % 65536), .int .u16 ((d : Int) / 65536), .int .u16 ((d : Int) % 65536), .int .u16 (p : Int), .int .u16 ((k : Int) % 65536)].toList = vw (psW s d p k) := by simp [vw, psW]
    have RG := rowG_blk (n := 6) (sz := 1) KB.out rfl (by decide)
    rw [eC] at RG
    exact partOf_any (some ⟨w.heap.size, 0, none⟩) 6 (psW s d p k) _ RG PS.out (by show 6 ≤ 1000; omega))
  go_wp2_with fail
  refine PO.out.mono ?_; rintro e wq ⟨rfl, rfl⟩
  go_wp2
  go_ret
  exact ⟨rfl, BK.out⟩

/-- The document's packet, as a value. -/
abbrev dpV (i t p s d : Nat) (l : List UInt8) : Array Value := #[.int .u16 (i : Int), .int .u8 (t : Int), .int .u8 (p : Int), .int .u32 (s : Int), .int .u32 (d : Int), .string ⟨l.toArray⟩]

set_option maxRecDepth 100000 in
theorem refPseudo_any (s d p k : Nat) (hs : s ≤ 4294967295) (hd : d ≤ 4294967295) (hp : p ≤ 255) (hk : k ≤ 4294967295) (w : World) :
    Calls Try.prog 21 #[.int .u32 (s : Int), .int .u32 (d : Int), .int .u8 (p : Int), .int .i64 (k : Int)] w fun e w' => e = .returned (.string ⟨(wb (psW s d p k)).toArray⟩) ∧ Below w.heap.size w w' := by
  have P1 := Lib.hid (fun W => refP_any s 4 W (by omega) (by omega) (by omega) (by simp; omega))
  have P2 := Lib.hid (fun W => refP_any d 4 W (by omega) (by omega) (by omega) (by simp; omega))
  have P3 := Lib.hid (fun W => refP_any p 1 W (by omega) (by omega) (by omega) (by simp; omega))
  have P4 := fun W => refP_any (k % 65536) 2 W (by omega) (by omega) (by omega) (by simp; omega)
  have ek : ((k % 65536 : Nat) : Int) = (k : Int) % 65536 := by omega
  rw [ek] at P4
  have P4 := Lib.hid P4
  have u1 := IntWalk.u64_in (s : Int) (by omega)
  have u2 := IntWalk.u64_in (d : Int) (by omega)
  have u3 := IntWalk.u64_in (p : Int) (by omega)
  have u4 := IntWalk.u64_in (k : Int) (by omega)
  have EP := Lib.hid (psW_bytes s d p k hp)
  have la : ¬ 9223372036854775807 < (be s 4).length + (be d 4).length := by simp [be_length]
  have lb : ¬ 9223372036854775807 < (be s 4).length + (be d 4).length + 1 := by simp [be_length]
  have lc : ¬ 9223372036854775807 < (be s 4).length + (be d 4).length + 1 + (be p 1).length := by simp [be_length]
  have ld : ¬ 9223372036854775807 < (be s 4).length + (be d 4).length + 1 + (be p 1).length + (be (k % 65536) 2).length := by simp [be_length]
  clear ek
  go_enter Try.func21, Try.ntmps21
  go_wp2_with fail
  refine (P1.out _).mono ?_; rintro e w1 ⟨rfl, b1⟩
  have B1 := Lib.hid b1
  clear b1 P1
  go_wp2_with fail
  refine (P2.out _).mono ?_; rintro e w2 ⟨rfl, b2⟩
  have B2 := Lib.hid (B1.out.trans (b2.mono B1.out.size))
  clear b2 P2 B1
  go_wp2_with fail
  refine (P3.out _).mono ?_; rintro e w3 ⟨rfl, b3⟩
  have B3 := Lib.hid (B2.out.trans (b3.mono B2.out.size))
  clear b3 P3 B2
  go_wp2_with fail
  refine (P4.out _).mono ?_; rintro e w4 ⟨rfl, b4⟩
  have B4 := Lib.hid (B3.out.trans (b4.mono B3.out.size))
  clear b4 P4 B3
  go_wp2
  go_ret
  refine ⟨?_, B4.out⟩
  rw [EP.out]
  simp [ByteArray.mk_append_mk]
end Go.Proofs.Ytgemmciokioaiaa.Ip
