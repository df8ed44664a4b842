/- The document's answers of layer 17 (seg): Check, Bytes, Room. Conditions: those that each states. -/
import Derived.Test.YtgemmciokioaiaaSg3
import Derived.Test.YtgemmciokioaiaaRp
import Derived.Test.YtgemmciokioaiaaGy
namespace Go.Proofs.Ytgemmciokioaiaa.Sg
open Go.ChangeShapes Go.WideShapes Go.ChangeAt Go.RowKit Go.Deep Rk Fl Gx Di
open Ip (wb vw vw_length vw_get wb_append wb_length be2 nb1 nb0 evs_word evs_snocw or16 tot tot_wb psW psW_small psW_bytes be_two be_four u8_eq)
set_option linter.unusedVariables false
set_option linter.unusedSimpArgs false

/-- The document's segment, as a value. -/
abbrev dsV (f t q a : Nat) (g : Int) (wi : Nat) (m : Int) (l : List UInt8) : Array Value := #[.int .u16 (f : Int), .int .u16 (t : Int), .int .u32 (q : Int), .int .u32 (a : Int), .int .i64 g, .int .u16 (wi : Int), .int .i64 m, .string ⟨l.toArray⟩]
abbrev ds0 : Array Value := #[.int .u16 0, .int .u16 0, .int .u32 0, .int .u32 0, .int .i64 0, .int .u16 0, .int .i64 0, .string ⟨#[]⟩]
theorem ds_info : (Try.prog.info? 25).map (·.size) = some 8 := by kernel_rfl
theorem exec_cat' {P : Program} {a : Act} {o : Oper} {t t' : TypeId} {x y : Operand} {l r c : List UInt8} (hc : l ++ r = c) (ho : o.op = .binOp .add t x y t') (hx : a.eval x = .string ⟨l.toArray⟩) (hy : a.eval y = .string ⟨r.toArray⟩) (h : l.length + r.length ≤ 9223372036854775807) (w : World) : (execOp a.eval o).run P w = .ok (.value (.string ⟨c.toArray⟩)) w := by
  rw [← hc]; exact exec_cat ho hx hy h w

set_option maxRecDepth 100000 in
set_option maxHeartbeats 2000000 in
theorem refCheck_any (f t q a : Nat) (g : Int) (wi : Nat) (m : Int) (l : List UInt8) (hl : l.length ≤ 1000000) (w : World) :
    Calls Try.prog 14 #[.agg (dsV f t q a g wi m l)] w fun e w' => e = .returned (.int .i64 (ckR g m l.length)) ∧ Below w.heap.size w w' := by
  have B1 := Lib.hid ((Below.refl w.heap.size w).alloc (Nat.le_refl _) (.cells (dsV f t q a g wi m l) 25))
  have K1 := Lib.hid (Blk.new w 25 (dsV f t q a g wi m l))
  have hsz : (⟨l.toArray⟩ : ByteArray).size = l.length := rfl
  by_cases h1 : g < 0
  · have E := Lib.hid (show ckR g m l.length = 1 from by unfold ckR fmB; rw [decide_eq_false (by omega)]; rfl)
    go_enter Try.func14, Try.ntmps14
    go_upto_region 1 with fail
    generalize w.alloc (.cells (dsV f t q a g wi m l) 25) = W at *
    have z4 := (K1.out.cell 4).trans (show _ = some (.int .i64 g) from rfl)
    have z6 := (K1.out.cell 6).trans (show _ = some (.int .i64 m) from rfl)
    have z7 := (K1.out.cell 7).trans (show _ = some (.string ⟨l.toArray⟩) from rfl)
    go_wp2
    go_ret
    exact ⟨by rw [E.out]; rfl, B1.out⟩
  by_cases h2 : g > 63
  · have E := Lib.hid (show ckR g m l.length = 1 from by unfold ckR fmB; rw [decide_eq_false (by omega)]; rfl)
    go_enter Try.func14, Try.ntmps14
    go_upto_region 1 with fail
    generalize w.alloc (.cells (dsV f t q a g wi m l) 25) = W at *
    have z4 := (K1.out.cell 4).trans (show _ = some (.int .i64 g) from rfl)
    have z6 := (K1.out.cell 6).trans (show _ = some (.int .i64 m) from rfl)
    have z7 := (K1.out.cell 7).trans (show _ = some (.string ⟨l.toArray⟩) from rfl)
    go_wp2
    go_ret
    exact ⟨by rw [E.out]; rfl, B1.out⟩
  by_cases h3 : m < 0
  · have E := Lib.hid (show ckR g m l.length = 1 from by unfold ckR fmB; rw [decide_eq_false (by omega)]; rfl)
    go_enter Try.func14, Try.ntmps14
    go_upto_region 1 with fail
    generalize w.alloc (.cells (dsV f t q a g wi m l) 25) = W at *
    have z4 := (K1.out.cell 4).trans (show _ = some (.int .i64 g) from rfl)
    have z6 := (K1.out.cell 6).trans (show _ = some (.int .i64 m) from rfl)
    have z7 := (K1.out.cell 7).trans (show _ = some (.string ⟨l.toArray⟩) from rfl)
    go_wp2
    go_ret
    exact ⟨by rw [E.out]; rfl, B1.out⟩
  by_cases h4 : m > 65535
  · have E := Lib.hid (show ckR g m l.length = 1 from by unfold ckR fmB; rw [decide_eq_false (by omega)]; rfl)
    go_enter Try.func14, Try.ntmps14
    go_upto_region 1 with fail
    generalize w.alloc (.cells (dsV f t q a g wi m l) 25) = W at *
    have z4 := (K1.out.cell 4).trans (show _ = some (.int .i64 g) from rfl)
    have z6 := (K1.out.cell 6).trans (show _ = some (.int .i64 m) from rfl)
    have z7 := (K1.out.cell 7).trans (show _ = some (.string ⟨l.toArray⟩) from rfl)
    go_wp2
    go_ret
    exact ⟨by rw [E.out]; rfl, B1.out⟩
  have F := Lib.hid (show fmB g m = true from decide_eq_true (by omega))
  by_cases h6 : (l.length : Int) > 900
  · have E := Lib.hid (show ckR g m l.length = 2 from by unfold ckR; rw [F.out, if_pos rfl, if_neg (by omega)])
    go_enter Try.func14, Try.ntmps14
    go_upto_region 1 with fail
    generalize w.alloc (.cells (dsV f t q a g wi m l) 25) = W at *
    have z4 := (K1.out.cell 4).trans (show _ = some (.int .i64 g) from rfl)
    have z6 := (K1.out.cell 6).trans (show _ = some (.int .i64 m) from rfl)
    have z7 := (K1.out.cell 7).trans (show _ = some (.string ⟨l.toArray⟩) from rfl)
    go_wp2
    go_ret
    exact ⟨by rw [E.out]; rfl, B1.out⟩
  have E := Lib.hid (show ckR g m l.length = 0 from by unfold ckR; rw [F.out, if_pos rfl, if_pos (by omega)])
  go_enter Try.func14, Try.ntmps14
  go_upto_region 1 with fail
  generalize w.alloc (.cells (dsV f t q a g wi m l) 25) = W at *
  have z4 := (K1.out.cell 4).trans (show _ = some (.int .i64 g) from rfl)
  have z6 := (K1.out.cell 6).trans (show _ = some (.int .i64 m) from rfl)
  have z7 := (K1.out.cell 7).trans (show _ = some (.string ⟨l.toArray⟩) from rfl)
  go_wp2
  go_ret
  exact ⟨by rw [E.out]; rfl, B1.out⟩

set_option maxRecDepth 100000 in
set_option maxHeartbeats 2000000 in
theorem refRoom_any (f t q a : Nat) (g : Int) (wi : Nat) (m : Int) (l : List UInt8) (hl : l.length ≤ 1000000) (w : World) :
    Calls Try.prog 11 #[.agg (dsV f t q a g wi m l)] w fun e w' => e = .returned (.int .i64 (roomR g l.length)) ∧ Below w.heap.size w w' := by
  have B1 := Lib.hid ((Below.refl w.heap.size w).alloc (Nat.le_refl _) (.cells (dsV f t q a g wi m l) 25))
  have K1 := Lib.hid (Blk.new w 25 (dsV f t q a g wi m l))
  have hsz : (⟨l.toArray⟩ : ByteArray).size = l.length := rfl
  have x1 := IntWalk.i64_in ((l.length : Int) + 1) (by omega)
  have x2 := IntWalk.i64_in ((l.length : Int) + 1 + 1) (by omega)
  obtain ⟨b2, hb2⟩ : ∃ b, bits .and .i64 g 2 = b := ⟨_, rfl⟩
  obtain ⟨b1, hb1⟩ : ∃ b, bits .and .i64 g 1 = b := ⟨_, rfl⟩
  have R := Lib.hid (show roomR g l.length = (l.length : Int) + (if b2 = 0 then 0 else 1) + (if b1 = 0 then 0 else 1) from by unfold roomR; rw [hb1, hb2])
  go_enter Try.func11, Try.ntmps11
  go_upto_region 1 with fail
  generalize w.alloc (.cells (dsV f t q a g wi m l) 25) = W at *
  have z4 := (K1.out.cell 4).trans (show _ = some (.int .i64 g) from rfl)
  have z6 := (K1.out.cell 6).trans (show _ = some (.int .i64 m) from rfl)
  have z7 := (K1.out.cell 7).trans (show _ = some (.string ⟨l.toArray⟩) from rfl)
  by_cases h1 : b2 = 0
  · by_cases h2 : b1 = 0
    · go_wp2
      go_ret
      exact ⟨by rw [R.out, if_pos h1, if_pos h2]; simp, B1.out⟩
    · go_wp2
      go_ret
      exact ⟨by rw [R.out, if_pos h1, if_neg h2]; simp, B1.out⟩
  · by_cases h2 : b1 = 0
    · go_wp2
      go_ret
      exact ⟨by rw [R.out, if_neg h1, if_pos h2]; simp, B1.out⟩
    · go_wp2
      go_ret
      exact ⟨by rw [R.out, if_neg h1, if_neg h2]; rfl, B1.out⟩

/-- A head's bytes as the document writes them. -/
theorem wb_sgW0 (f t q a g wi m k : Nat) (h : Sk f t q a g wi m) (hm : m = 0) (l : List UInt8) : wb (sgW f t q a g wi m k) ++ l = be f 2 ++ be t 2 ++ be q 4 ++ be a 4 ++ [80] ++ be g 1 ++ be wi 2 ++ be k 2 ++ ([0, 0] ++ [] ++ l) := by
  subst hm
  have e1 := be_two 80 g (by omega) (by have := h.g; omega)
  rw [show be 80 1 = [80] from by decide] at e1
  rw [← be_four q, ← be_four a]
  simp only [sgW, sgH, sgO, if_true, List.append_nil, wb, e1, show be 0 2 = [0, 0] from by decide, List.append_assoc]
theorem wb_sgW1 (f t q a g wi m k : Nat) (h : Sk f t q a g wi m) (hm : 0 < m) (l : List UInt8) : wb (sgW f t q a g wi m k) ++ l = be f 2 ++ be t 2 ++ be q 4 ++ be a 4 ++ [96] ++ be g 1 ++ be wi 2 ++ be k 2 ++ ([0, 0] ++ ([2, 4] ++ be m 2) ++ l) := by
  have e1 := be_two 96 g (by omega) (by have := h.g; omega)
  rw [show be 96 1 = [96] from by decide] at e1
  rw [← be_four q, ← be_four a]
  simp only [sgW, sgH, sgO, if_neg (show ¬ m = 0 from by omega), List.cons_append, List.nil_append, wb, e1, show be 0 2 = [0, 0] from by decide, show be 516 2 = [2, 4] from by decide, List.append_assoc, List.append_nil]

set_option maxRecDepth 100000 in
set_option maxHeartbeats 8000000 in
theorem refBytes_ok0 (f t q a g wi m : Nat) (h : Sk f t q a g wi m) (hm : m = 0) (l : List UInt8) (hl : l.length ≤ 900) (s d : Nat) (hs : s ≤ 4294967295) (hd : d ≤ 4294967295) (w : World) :
    Calls Try.prog 9 #[.agg (dsV f t q a (g : Int) wi (m : Int) l), .int .u32 (s : Int), .int .u32 (d : Int)] w fun e w' => e = .returned (.tuple #[.string ⟨(sgB s d f t q a g wi m l.length (fo (tot l)) ++ l).toArray⟩, .int .i64 0]) ∧ Below w.heap.size w w' := by
  have B1 := Lib.hid ((Below.refl w.heap.size w).alloc (Nat.le_refl _) (.cells (dsV f t q a (g : Int) wi (m : Int) l) 25))
  have K1 := Lib.hid (Blk.new w 25 (dsV f t q a (g : Int) wi (m : Int) l))
  have CK := Lib.hid (fun W => refCheck_any f t q a (g : Int) wi (m : Int) l (by omega) W)
  rw [show ckR (g : Int) (m : Int) (l.length : Int) = 0 from by unfold ckR fmB; rw [decide_eq_true (by have := h.g; have := h.m; omega), if_pos rfl, if_pos (by omega)]] at CK
  have P1 := Lib.hid (fun W => refP_any f 2 W (by have := h.f; omega) (by omega) (by omega) (by have := h.f; simp; omega))
  have P2 := Lib.hid (fun W => refP_any t 2 W (by have := h.t; omega) (by omega) (by omega) (by have := h.t; simp; omega))
  have P3 := Lib.hid (fun W => refP_any q 4 W (by have := h.q; omega) (by omega) (by omega) (by have := h.q; simp; omega))
  have P4 := Lib.hid (fun W => refP_any a 4 W (by have := h.a; omega) (by omega) (by omega) (by have := h.a; simp; omega))
  have P5 := Lib.hid (fun W => refP_any g 1 W (by have := h.g; omega) (by omega) (by omega) (by have := h.g; simp; omega))
  have P6 := Lib.hid (fun W => refP_any wi 2 W (by have := h.wi; omega) (by omega) (by omega) (by have := h.wi; simp; omega))
  have P7 := Lib.hid (fun W => refP_any m 2 W (by have := h.m; omega) (by omega) (by omega) (by have := h.m; simp; omega))
  have u0 := IntWalk.u64_in (f : Int) (by have := h.f; omega)
  have u1 := IntWalk.u64_in (t : Int) (by have := h.t; omega)
  have u2 := IntWalk.u64_in (q : Int) (by have := h.q; omega)
  have u3 := IntWalk.u64_in (a : Int) (by have := h.a; omega)
  have u4 := IntWalk.u64_in (g : Int) (by have := h.g; omega)
  have u5 := IntWalk.u64_in (wi : Int) (by have := h.wi; omega)
  have u6 := IntWalk.u64_in (m : Int) (by have := h.m; omega)
  have hk := sgS_le s d f t q a g wi m l.length (fo (tot l))
  have P8 := Lib.hid (fun W => refP_any (sgS s d f t q a g wi m l.length (fo (tot l))) 2 W (by omega) (by omega) (by omega) (by simp; omega))
  have u7 := IntWalk.u64_in (sgS s d f t q a g wi m l.length (fo (tot l)) : Int) (by omega)
  obtain ⟨c1, e1⟩ : ∃ c, be f 2 ++ be t 2 = c := ⟨_, rfl⟩
  obtain ⟨c2, e2⟩ : ∃ c, c1 ++ be q 4 = c := ⟨_, rfl⟩
  obtain ⟨c3, e3⟩ : ∃ c, c2 ++ be a 4 = c := ⟨_, rfl⟩
  obtain ⟨c4, e4⟩ : ∃ c, c3 ++ [80] = c := ⟨_, rfl⟩
  obtain ⟨c5, e5⟩ : ∃ c, c4 ++ be g 1 = c := ⟨_, rfl⟩
  obtain ⟨c6, e6⟩ : ∃ c, c5 ++ be wi 2 = c := ⟨_, rfl⟩
  obtain ⟨y1, f1⟩ : ∃ c, ([] : List UInt8) = c := ⟨_, rfl⟩
  obtain ⟨y2, f2⟩ : ∃ c, [0, 0] ++ y1 = c := ⟨_, rfl⟩
  obtain ⟨y3, f3⟩ : ∃ c, y2 ++ l = c := ⟨_, rfl⟩
  have EA := Lib.hid (show ∀ k, c6 ++ be k 2 ++ y3 = wb (sgW f t q a g wi m k) ++ l from fun k => by
    rw [← e6, ← e5, ← e4, ← e3, ← e2, ← e1, ← f3, ← f2, ← f1]
    exact (wb_sgW0 f t q a g wi m k h hm l).symm)
  have LN := Lib.hid (show c1.length = 4 ∧ c2.length = 8 ∧ c3.length = 12 ∧ c4.length = 13 ∧ c5.length = 14 ∧ c6.length = 16 ∧ y1.length = 0 ∧ y2.length = 2 + 0 ∧ y3.length = 2 + 0 + l.length ∧ (be f 2).length = 2 ∧ (be t 2).length = 2 ∧ (be q 4).length = 4 ∧ (be a 4).length = 4 ∧ (be g 1).length = 1 ∧ (be wi 2).length = 2 ∧ (be m 2).length = 2 from by
    rw [← f3, ← f2, ← f1, ← e6, ← e5, ← e4, ← e3, ← e2, ← e1]
    simp [be_length] <;> omega)
  have LT := Lib.hid (show sgL m = 20 + 0 from by unfold sgL; rw [if_pos hm])
  obtain ⟨ps, hps⟩ : ∃ c, wb (psW s d 6 (sgL m + l.length)) = c := ⟨_, rfl⟩
  have LP := Lib.hid (show ps.length = 12 from by rw [← hps, wb_length]; rfl)
  obtain ⟨n1, g1⟩ : ∃ c, ps ++ c6 = c := ⟨_, rfl⟩
  obtain ⟨n2, g2⟩ : ∃ c, n1 ++ [0, 0] = c := ⟨_, rfl⟩
  obtain ⟨n3, g3⟩ : ∃ c, n2 ++ y3 = c := ⟨_, rfl⟩
  have LM := Lib.hid (show n1.length = 28 ∧ n2.length = 30 ∧ n3.length = 32 + 0 + l.length from by
    have := LN.out
    have := LP.out
    rw [← g3, ← g2, ← g1]
    simp
    omega)
  have ET := Lib.hid (show (65535 - ((fo (256 * evs n3 + ods n3) : Nat) : Int)) = ((sgS s d f t q a g wi m l.length (fo (tot l)) : Nat) : Int) from by
    have e0 : n3 = ps ++ (wb (sgW f t q a g wi m 0) ++ l) := by
      rw [← EA.out 0, ← g3, ← g2, ← g1]
      simp only [List.append_assoc]
      rfl
    have ev1 : ps.length % 2 = 0 := by rw [LP.out]
    have ev2 : (wb (sgW f t q a g wi m 0)).length % 2 = 0 := by rw [wb_length]; omega
    have et : 256 * evs n3 + ods n3 = tot ps + tot (wb (sgW f t q a g wi m 0)) + tot l := by
      show tot n3 = _
      rw [e0, tot_append ev1, tot_append ev2]
      omega
    rw [et]
    unfold sgS
    rw [hps, fo_fo]
    have := fo_le (tot ps + tot (wb (sgW f t q a g wi m 0)) + tot l)
    omega)
  have PS := Lib.hid (fun W => show Calls Try.prog 21 #[.int .u32 (s : Int), .int .u32 (d : Int), .int .u8 6, .int .i64 ((c6.length : Int) + 2 + (y3.length : Int))] W (fun e w' => e = .returned (.string ⟨ps.toArray⟩) ∧ Below W.heap.size W w') from by
    have := Ip.refPseudo_any s d 6 (sgL m + l.length) hs hd (by omega) (by have := sgL_le m; omega) W
    rw [hps, show ((sgL m + l.length : Nat) : Int) = (c6.length : Int) + 2 + (y3.length : Int) from by have := LN.out; have := LT.out; omega] at this
    exact this)
  have EF := Lib.hid (show ∀ k, sgS s d f t q a g wi m l.length (fo (tot l)) = k → c6 ++ be k 2 ++ y3 = sgB s d f t q a g wi m l.length (fo (tot l)) ++ l from fun k hk => by rw [EA.out]; unfold sgB; rw [hk])
  generalize hkk : sgS s d f t q a g wi m l.length (fo (tot l)) = k at *
  have EF := Lib.hid (EF.out k rfl)
  generalize sgB s d f t q a g wi m l.length (fo (tot l)) ++ l = R at *
  have E1 := Lib.hid e1
  have E2 := Lib.hid e2
  have E3 := Lib.hid e3
  have E5 := Lib.hid e5
  have E6 := Lib.hid e6
  have F1 := Lib.hid f1
  have M3 := Lib.hid (show n3.length ≤ 1000000 from by have := LM.out; omega)
  obtain ⟨r1, hr1⟩ : ∃ c, c6 ++ be k 2 = c := ⟨_, rfl⟩
  rw [hr1] at EF
  have k96 : (⟨c3.toArray⟩ : ByteArray) ++ ⟨#[80]⟩ = ⟨c4.toArray⟩ := by rw [ByteArray.mk_append_mk, ← e4]; (try simp)
  have kz1 : True := trivial
  have kz2 : (⟨#[0, 0]⟩ : ByteArray) ++ ⟨#[]⟩ = ⟨y2.toArray⟩ := by rw [← f2, ← f1]; rfl
  have kz3 : (⟨y2.toArray⟩ : ByteArray) ++ ⟨l.toArray⟩ = ⟨y3.toArray⟩ := by rw [ByteArray.mk_append_mk, ← f3]; (try simp)
  have kn1 : (⟨ps.toArray⟩ : ByteArray) ++ ⟨c6.toArray⟩ = ⟨n1.toArray⟩ := by rw [ByteArray.mk_append_mk, ← g1]; (try simp)
  have kn2 : (⟨n1.toArray⟩ : ByteArray) ++ ⟨#[0, 0]⟩ = ⟨n2.toArray⟩ := by rw [ByteArray.mk_append_mk, ← g2]; (try simp)
  have kn3 : (⟨n2.toArray⟩ : ByteArray) ++ ⟨y3.toArray⟩ = ⟨n3.toArray⟩ := by rw [ByteArray.mk_append_mk, ← g3]; (try simp)
  have kr1 : (⟨c6.toArray⟩ : ByteArray) ++ ⟨(be k 2).toArray⟩ = ⟨r1.toArray⟩ := by rw [ByteArray.mk_append_mk, ← hr1]; (try simp)
  have kr2 : (⟨r1.toArray⟩ : ByteArray) ++ ⟨y3.toArray⟩ = ⟨R.toArray⟩ := by rw [ByteArray.mk_append_mk, ← EF.out]; (try simp)
  have q1 : ¬ 9223372036854775807 < c3.length + 1 := by have := LN.out; omega
  have q2 : ¬ 9223372036854775807 < 2 + (be m 2).length := by have := LN.out; omega
  have q3 : ¬ 9223372036854775807 < 2 + y1.length := by have := LN.out; omega
  have q4 : ¬ 9223372036854775807 < y2.length + l.length := by have := LN.out; omega
  have q5 : ¬ 9223372036854775807 < ps.length + c6.length := by have := LN.out; have := LP.out; omega
  have q6 : ¬ 9223372036854775807 < n1.length + 2 := by have := LM.out; omega
  have q7 : ¬ 9223372036854775807 < n2.length + y3.length := by have := LN.out; have := LM.out; omega
  have q8 : ¬ 9223372036854775807 < c6.length + (be k 2).length := by have := LN.out; rw [be_length]; omega
  have q9 : ¬ 9223372036854775807 < r1.length + y3.length := by have := LN.out; rw [← hr1, List.length_append, be_length]; omega
  have x1 := IntWalk.i64_in ((c6.length : Int) + 2) (by have := LN.out; omega)
  have x2 := IntWalk.i64_in ((c6.length : Int) + 2 + (y3.length : Int)) (by have := LN.out; omega)
  have hm' : ¬ (m : Int) > 0 := by omega
  clear e1 e2 e3 e4 e5 e6 f1 f2 f3 g1 g2 g3 hr1 hkk hps EA LT LM LP hm hk
  go_enter Try.func9, Try.ntmps9
  go_upto_region 1 with fail
  generalize w.alloc (.cells (dsV f t q a (g : Int) wi (m : Int) l) 25) = W0 at *
  have z0 := (K1.out.cell 0).trans (show _ = some (.int .u16 (f : Int)) from rfl)
  have z1 := (K1.out.cell 1).trans (show _ = some (.int .u16 (t : Int)) from rfl)
  have z2 := (K1.out.cell 2).trans (show _ = some (.int .u32 (q : Int)) from rfl)
  have z3 := (K1.out.cell 3).trans (show _ = some (.int .u32 (a : Int)) from rfl)
  have z4 := (K1.out.cell 4).trans (show _ = some (.int .i64 (g : Int)) from rfl)
  have z5 := (K1.out.cell 5).trans (show _ = some (.int .u16 (wi : Int)) from rfl)
  have z6 := (K1.out.cell 6).trans (show _ = some (.int .i64 (m : Int)) from rfl)
  have z7 := (K1.out.cell 7).trans (show _ = some (.string ⟨l.toArray⟩) from rfl)
  go_wp2_with fail
  refine (CK.out W0).mono ?_; rintro e W ⟨rfl, b1⟩
  have B2 := Lib.hid (B1.out.trans (b1.mono B1.out.size))
  have K2 := Lib.hid (K1.out.older (older_below b1))
  clear b1 B1 K1 CK z0 z1 z2 z3 z4 z5 z6 z7
  go_upto_region 4 with fail
  refine wp_region_held_drew (S := fun w' => Hid (Below W.heap.size W w')) (by kernel_rfl) (Lib.hid ((Below.refl W.heap.size W).drew)) (fun hS => ?_)
  refine held_take (i := 0) (d := (some 17)) (v := ?_) rfl rfl (by kernel_rfl) (by kernel_rfl) (by kernel_rfl) (fun _ _ _ h => h) (by rfl) ?_ hS ?_
  rotate_left
  · intro w' hSw; (try dsimp only at hSw); go_simp <;> with_reducible rfl
  simp only [Act.put, List.setIfInBounds_toArray, List.set_cons_zero, List.set_cons_succ]
  refine held_take (i := 1) (d := (some 18)) (v := ?_) rfl rfl (by kernel_rfl) (by kernel_rfl) (by kernel_rfl) (fun _ _ _ h => h) (by rfl) ?_ hS ?_
  rotate_left
  · intro w' hSw; have kb := hSw.out; clear hSw; have z0 := ((K2.out.older (older_below kb)).cell 0).trans (show _ = some (.int .u16 (f : Int)) from rfl); clear kb; go_simp <;> with_reducible rfl
  simp only [Act.put, List.setIfInBounds_toArray, List.set_cons_zero, List.set_cons_succ]
  refine held_take (i := 2) (d := (some 19)) (v := ?_) rfl rfl (by kernel_rfl) (by kernel_rfl) (by kernel_rfl) (fun _ _ _ h => h) (by rfl) ?_ hS ?_
  rotate_left
  · intro w' hSw; (try dsimp only at hSw); go_simp <;> with_reducible rfl
  simp only [Act.put, List.setIfInBounds_toArray, List.set_cons_zero, List.set_cons_succ]
  refine held_take (i := 4) (d := (some 21)) (v := ?_) rfl rfl (by kernel_rfl) (by kernel_rfl) (by kernel_rfl) (fun _ _ _ h => h) (by rfl) ?_ hS ?_
  rotate_left
  · intro w' hSw; (try dsimp only at hSw); go_simp <;> with_reducible rfl
  simp only [Act.put, List.setIfInBounds_toArray, List.set_cons_zero, List.set_cons_succ]
  refine held_take (i := 5) (d := (some 22)) (v := ?_) rfl rfl (by kernel_rfl) (by kernel_rfl) (by kernel_rfl) (fun _ _ _ h => h) (by rfl) ?_ hS ?_
  rotate_left
  · intro w' hSw; have kb := hSw.out; clear hSw; have z1 := ((K2.out.older (older_below kb)).cell 1).trans (show _ = some (.int .u16 (t : Int)) from rfl); clear kb; go_simp <;> with_reducible rfl
  simp only [Act.put, List.setIfInBounds_toArray, List.set_cons_zero, List.set_cons_succ]
  refine held_take (i := 6) (d := (some 23)) (v := ?_) rfl rfl (by kernel_rfl) (by kernel_rfl) (by kernel_rfl) (fun _ _ _ h => h) (by rfl) ?_ hS ?_
  rotate_left
  · intro w' hSw; (try dsimp only at hSw); go_simp <;> with_reducible rfl
  simp only [Act.put, List.setIfInBounds_toArray, List.set_cons_zero, List.set_cons_succ]
  refine held_take (i := 9) (d := (some 26)) (v := ?_) rfl rfl (by kernel_rfl) (by kernel_rfl) (by kernel_rfl) (fun _ _ _ h => h) (by rfl) ?_ hS ?_
  rotate_left
  · intro w' hSw; (try dsimp only at hSw); go_simp <;> with_reducible rfl
  simp only [Act.put, List.setIfInBounds_toArray, List.set_cons_zero, List.set_cons_succ]
  refine held_take (i := 10) (d := (some 27)) (v := ?_) rfl rfl (by kernel_rfl) (by kernel_rfl) (by kernel_rfl) (fun _ _ _ h => h) (by rfl) ?_ hS ?_
  rotate_left
  · intro w' hSw; have kb := hSw.out; clear hSw; have z2 := ((K2.out.older (older_below kb)).cell 2).trans (show _ = some (.int .u32 (q : Int)) from rfl); clear kb; go_simp <;> with_reducible rfl
  simp only [Act.put, List.setIfInBounds_toArray, List.set_cons_zero, List.set_cons_succ]
  refine held_take (i := 11) (d := (some 28)) (v := ?_) rfl rfl (by kernel_rfl) (by kernel_rfl) (by kernel_rfl) (fun _ _ _ h => h) (by rfl) ?_ hS ?_
  rotate_left
  · intro w' hSw; (try dsimp only at hSw); go_simp <;> with_reducible rfl
  simp only [Act.put, List.setIfInBounds_toArray, List.set_cons_zero, List.set_cons_succ]
  refine held_take (i := 14) (d := (some 31)) (v := ?_) rfl rfl (by kernel_rfl) (by kernel_rfl) (by kernel_rfl) (fun _ _ _ h => h) (by rfl) ?_ hS ?_
  rotate_left
  · intro w' hSw; (try dsimp only at hSw); go_simp <;> with_reducible rfl
  simp only [Act.put, List.setIfInBounds_toArray, List.set_cons_zero, List.set_cons_succ]
  refine held_take (i := 15) (d := (some 32)) (v := ?_) rfl rfl (by kernel_rfl) (by kernel_rfl) (by kernel_rfl) (fun _ _ _ h => h) (by rfl) ?_ hS ?_
  rotate_left
  · intro w' hSw; have kb := hSw.out; clear hSw; have z3 := ((K2.out.older (older_below kb)).cell 3).trans (show _ = some (.int .u32 (a : Int)) from rfl); clear kb; go_simp <;> with_reducible rfl
  simp only [Act.put, List.setIfInBounds_toArray, List.set_cons_zero, List.set_cons_succ]
  refine held_take (i := 16) (d := (some 33)) (v := ?_) rfl rfl (by kernel_rfl) (by kernel_rfl) (by kernel_rfl) (fun _ _ _ h => h) (by rfl) ?_ hS ?_
  rotate_left
  · intro w' hSw; (try dsimp only at hSw); go_simp <;> with_reducible rfl
  simp only [Act.put, List.setIfInBounds_toArray, List.set_cons_zero, List.set_cons_succ]
  refine held_one (i := 3) (by kernel_rfl) rfl (by rfl) ?_
  go_simp
  refine (P1.out _).mono ?_; rintro e wp ⟨rfl, bp⟩
  have hS : Hid (Below W.heap.size W wp) := Lib.hid (hS.out.trans (bp.mono hS.out.size))
  refine ⟨hS, ?_⟩
  clear bp
  (try simp only [Act.put, List.setIfInBounds_toArray, List.set_cons_zero, List.set_cons_succ])
  refine held_one (i := 7) (by kernel_rfl) rfl (by rfl) ?_
  go_simp
  refine (P2.out _).mono ?_; rintro e wp ⟨rfl, bp⟩
  have hS : Hid (Below W.heap.size W wp) := Lib.hid (hS.out.trans (bp.mono hS.out.size))
  refine ⟨hS, ?_⟩
  clear bp
  (try simp only [Act.put, List.setIfInBounds_toArray, List.set_cons_zero, List.set_cons_succ])
  refine held_take (i := 8) (d := (some 25)) (v := .string ⟨c1.toArray⟩) rfl rfl (by kernel_rfl) (by kernel_rfl) (by kernel_rfl) (fun _ _ _ h => h) (by rfl) (fun w' _ => exec_cat' E1.out rfl rfl rfl (by have := LN.out; omega) w') hS ?_
  simp only [Act.put, List.setIfInBounds_toArray, List.set_cons_zero, List.set_cons_succ]
  refine held_one (i := 12) (by kernel_rfl) rfl (by rfl) ?_
  go_simp
  refine (P3.out _).mono ?_; rintro e wp ⟨rfl, bp⟩
  have hS : Hid (Below W.heap.size W wp) := Lib.hid (hS.out.trans (bp.mono hS.out.size))
  refine ⟨hS, ?_⟩
  clear bp
  (try simp only [Act.put, List.setIfInBounds_toArray, List.set_cons_zero, List.set_cons_succ])
  refine held_take (i := 13) (d := (some 30)) (v := .string ⟨c2.toArray⟩) rfl rfl (by kernel_rfl) (by kernel_rfl) (by kernel_rfl) (fun _ _ _ h => h) (by rfl) (fun w' _ => exec_cat' E2.out rfl rfl rfl (by have := LN.out; omega) w') hS ?_
  simp only [Act.put, List.setIfInBounds_toArray, List.set_cons_zero, List.set_cons_succ]
  refine held_one (i := 17) (by kernel_rfl) rfl (by rfl) ?_
  go_simp
  refine (P4.out _).mono ?_; rintro e wp ⟨rfl, bp⟩
  have hS : Hid (Below W.heap.size W wp) := Lib.hid (hS.out.trans (bp.mono hS.out.size))
  refine ⟨hS, ?_⟩
  clear bp
  (try simp only [Act.put, List.setIfInBounds_toArray, List.set_cons_zero, List.set_cons_succ])
  refine held_take (i := 18) (d := (some 35)) (v := .string ⟨c3.toArray⟩) rfl rfl (by kernel_rfl) (by kernel_rfl) (by kernel_rfl) (fun _ _ _ h => h) (by rfl) (fun w' _ => exec_cat' E3.out rfl rfl rfl (by have := LN.out; omega) w') hS ?_
  simp only [Act.put, List.setIfInBounds_toArray, List.set_cons_zero, List.set_cons_succ]
  refine held_take (i := 19) (d := (some 9)) (v := ?_) rfl rfl (by kernel_rfl) (by kernel_rfl) (by kernel_rfl) (fun _ _ _ h => h) (by rfl) ?_ hS ?_
  rotate_left
  · intro w' hSw; (try dsimp only at hSw); go_simp <;> with_reducible rfl
  simp only [Act.put, List.setIfInBounds_toArray, List.set_cons_zero, List.set_cons_succ]
  refine wpAnyH_done (by kernel_rfl) ?_ _
  have B3 := Lib.hid (B2.out.trans (hS.out.mono B2.out.size))
  have K4 := Lib.hid (K2.out.older (older_below hS.out))
  clear hS K2 B2 P1 P2 P3 P4 E1 E2 E3 u0 u1 u2 u3
  have z6 := (K4.out.cell 6).trans (show _ = some (.int .i64 (m : Int)) from rfl)
  have B4 := B3
  clear B3
  go_upto_region 10 with fail
  generalize wp = W at *
  refine wp_region_held_drew (S := fun w' => Hid (Below W.heap.size W w')) (by kernel_rfl) (Lib.hid ((Below.refl W.heap.size W).drew)) (fun hS => ?_)
  refine held_take (i := 0) (d := (some 48)) (v := ?_) rfl rfl (by kernel_rfl) (by kernel_rfl) (by kernel_rfl) (fun _ _ _ h => h) (by rfl) ?_ hS ?_
  rotate_left
  · intro w' hSw; (try dsimp only at hSw); go_simp <;> with_reducible rfl
  simp only [Act.put, List.setIfInBounds_toArray, List.set_cons_zero, List.set_cons_succ]
  refine held_take (i := 1) (d := (some 49)) (v := ?_) rfl rfl (by kernel_rfl) (by kernel_rfl) (by kernel_rfl) (fun _ _ _ h => h) (by rfl) ?_ hS ?_
  rotate_left
  · intro w' hSw; (try dsimp only at hSw); go_simp <;> with_reducible rfl
  simp only [Act.put, List.setIfInBounds_toArray, List.set_cons_zero, List.set_cons_succ]
  refine held_take (i := 2) (d := (some 50)) (v := ?_) rfl rfl (by kernel_rfl) (by kernel_rfl) (by kernel_rfl) (fun _ _ _ h => h) (by rfl) ?_ hS ?_
  rotate_left
  · intro w' hSw; have kb := hSw.out; clear hSw; have z4 := ((K4.out.older (older_below kb)).cell 4).trans (show _ = some (.int .i64 (g : Int)) from rfl); clear kb; go_simp <;> with_reducible rfl
  simp only [Act.put, List.setIfInBounds_toArray, List.set_cons_zero, List.set_cons_succ]
  refine held_take (i := 3) (d := (some 51)) (v := ?_) rfl rfl (by kernel_rfl) (by kernel_rfl) (by kernel_rfl) (fun _ _ _ h => h) (by rfl) ?_ hS ?_
  rotate_left
  · intro w' hSw; (try dsimp only at hSw); go_simp <;> with_reducible rfl
  simp only [Act.put, List.setIfInBounds_toArray, List.set_cons_zero, List.set_cons_succ]
  refine held_take (i := 6) (d := (some 54)) (v := ?_) rfl rfl (by kernel_rfl) (by kernel_rfl) (by kernel_rfl) (fun _ _ _ h => h) (by rfl) ?_ hS ?_
  rotate_left
  · intro w' hSw; (try dsimp only at hSw); go_simp <;> with_reducible rfl
  simp only [Act.put, List.setIfInBounds_toArray, List.set_cons_zero, List.set_cons_succ]
  refine held_take (i := 7) (d := (some 55)) (v := ?_) rfl rfl (by kernel_rfl) (by kernel_rfl) (by kernel_rfl) (fun _ _ _ h => h) (by rfl) ?_ hS ?_
  rotate_left
  · intro w' hSw; have kb := hSw.out; clear hSw; have z5 := ((K4.out.older (older_below kb)).cell 5).trans (show _ = some (.int .u16 (wi : Int)) from rfl); clear kb; go_simp <;> with_reducible rfl
  simp only [Act.put, List.setIfInBounds_toArray, List.set_cons_zero, List.set_cons_succ]
  refine held_take (i := 8) (d := (some 56)) (v := ?_) rfl rfl (by kernel_rfl) (by kernel_rfl) (by kernel_rfl) (fun _ _ _ h => h) (by rfl) ?_ hS ?_
  rotate_left
  · intro w' hSw; (try dsimp only at hSw); go_simp <;> with_reducible rfl
  simp only [Act.put, List.setIfInBounds_toArray, List.set_cons_zero, List.set_cons_succ]
  refine held_one (i := 4) (by kernel_rfl) rfl (by rfl) ?_
  go_simp
  refine (P5.out _).mono ?_; rintro e wp ⟨rfl, bp⟩
  have hS : Hid (Below W.heap.size W wp) := Lib.hid (hS.out.trans (bp.mono hS.out.size))
  refine ⟨hS, ?_⟩
  clear bp
  (try simp only [Act.put, List.setIfInBounds_toArray, List.set_cons_zero, List.set_cons_succ])
  refine held_take (i := 5) (d := (some 53)) (v := .string ⟨c5.toArray⟩) rfl rfl (by kernel_rfl) (by kernel_rfl) (by kernel_rfl) (fun _ _ _ h => h) (by rfl) (fun w' _ => exec_cat' E5.out rfl rfl rfl (by have := LN.out; omega) w') hS ?_
  simp only [Act.put, List.setIfInBounds_toArray, List.set_cons_zero, List.set_cons_succ]
  refine held_one (i := 9) (by kernel_rfl) rfl (by rfl) ?_
  go_simp
  refine (P6.out _).mono ?_; rintro e wp ⟨rfl, bp⟩
  have hS : Hid (Below W.heap.size W wp) := Lib.hid (hS.out.trans (bp.mono hS.out.size))
  refine ⟨hS, ?_⟩
  clear bp
  (try simp only [Act.put, List.setIfInBounds_toArray, List.set_cons_zero, List.set_cons_succ])
  refine held_take (i := 10) (d := (some 58)) (v := .string ⟨c6.toArray⟩) rfl rfl (by kernel_rfl) (by kernel_rfl) (by kernel_rfl) (fun _ _ _ h => h) (by rfl) (fun w' _ => exec_cat' E6.out rfl rfl rfl (by have := LN.out; omega) w') hS ?_
  simp only [Act.put, List.setIfInBounds_toArray, List.set_cons_zero, List.set_cons_succ]
  refine held_take (i := 11) (d := (some 9)) (v := ?_) rfl rfl (by kernel_rfl) (by kernel_rfl) (by kernel_rfl) (fun _ _ _ h => h) (by rfl) ?_ hS ?_
  rotate_left
  · intro w' hSw; (try dsimp only at hSw); go_simp <;> with_reducible rfl
  simp only [Act.put, List.setIfInBounds_toArray, List.set_cons_zero, List.set_cons_succ]
  refine wpAnyH_done (by kernel_rfl) ?_ _
  have B6 := Lib.hid (B4.out.trans (hS.out.mono B4.out.size))
  have K6 := Lib.hid (K4.out.older (older_below hS.out))
  clear hS K4 B4 P5 P6 E5 E6 u4 u5 LN
  have z7 := (K6.out.cell 7).trans (show _ = some (.string ⟨l.toArray⟩) from rfl)
  go_wp2_with fail
  refine (PS.out _).mono ?_; rintro e w7 ⟨rfl, b7⟩
  have B7 := Lib.hid (B6.out.trans (b7.mono B6.out.size))
  clear b7 B6 K6 PS z7
  obtain ⟨A8, c8, w8, hconv, hsr, hb8, -⟩ := conv_src ⟨n3.toArray⟩ M3.out w7
  replace hconv : (convert 9 27 (.string ⟨n3.toArray⟩)).run Try.prog w7 = .ok (.slice A8 n3.length c8) w8 := hconv
  have SC := Lib.hid (scratch_any A8 n3.length c8 n3 w8 hsr.toBytes (by have := M3.out; omega))
  rw [ET.out] at SC
  have B8 := Lib.hid (B7.out.trans (hb8.mono B7.out.size))
  clear hsr hb8 B7 ET
  go_wp2_with fail
  refine SC.out.mono ?_; rintro e wq ⟨rfl, rfl⟩
  go_wp2_with fail
  refine (P8.out _).mono ?_; rintro e w9 ⟨rfl, b9⟩
  have B9 := Lib.hid (B8.out.trans (b9.mono B8.out.size))
  clear b9
  go_wp2
  go_ret2
  exact ⟨rfl, B9.out⟩

set_option maxRecDepth 100000 in
set_option maxHeartbeats 8000000 in
theorem refBytes_ok1 (f t q a g wi m : Nat) (h : Sk f t q a g wi m) (hm : 0 < m) (l : List UInt8) (hl : l.length ≤ 900) (s d : Nat) (hs : s ≤ 4294967295) (hd : d ≤ 4294967295) (w : World) :
    Calls Try.prog 9 #[.agg (dsV f t q a (g : Int) wi (m : Int) l), .int .u32 (s : Int), .int .u32 (d : Int)] w fun e w' => e = .returned (.tuple #[.string ⟨(sgB s d f t q a g wi m l.length (fo (tot l)) ++ l).toArray⟩, .int .i64 0]) ∧ Below w.heap.size w w' := by
  have B1 := Lib.hid ((Below.refl w.heap.size w).alloc (Nat.le_refl _) (.cells (dsV f t q a (g : Int) wi (m : Int) l) 25))
  have K1 := Lib.hid (Blk.new w 25 (dsV f t q a (g : Int) wi (m : Int) l))
  have CK := Lib.hid (fun W => refCheck_any f t q a (g : Int) wi (m : Int) l (by omega) W)
  rw [show ckR (g : Int) (m : Int) (l.length : Int) = 0 from by unfold ckR fmB; rw [decide_eq_true (by have := h.g; have := h.m; omega), if_pos rfl, if_pos (by omega)]] at CK
  have P1 := Lib.hid (fun W => refP_any f 2 W (by have := h.f; omega) (by omega) (by omega) (by have := h.f; simp; omega))
  have P2 := Lib.hid (fun W => refP_any t 2 W (by have := h.t; omega) (by omega) (by omega) (by have := h.t; simp; omega))
  have P3 := Lib.hid (fun W => refP_any q 4 W (by have := h.q; omega) (by omega) (by omega) (by have := h.q; simp; omega))
  have P4 := Lib.hid (fun W => refP_any a 4 W (by have := h.a; omega) (by omega) (by omega) (by have := h.a; simp; omega))
  have P5 := Lib.hid (fun W => refP_any g 1 W (by have := h.g; omega) (by omega) (by omega) (by have := h.g; simp; omega))
  have P6 := Lib.hid (fun W => refP_any wi 2 W (by have := h.wi; omega) (by omega) (by omega) (by have := h.wi; simp; omega))
  have P7 := Lib.hid (fun W => refP_any m 2 W (by have := h.m; omega) (by omega) (by omega) (by have := h.m; simp; omega))
  have u0 := IntWalk.u64_in (f : Int) (by have := h.f; omega)
  have u1 := IntWalk.u64_in (t : Int) (by have := h.t; omega)
  have u2 := IntWalk.u64_in (q : Int) (by have := h.q; omega)
  have u3 := IntWalk.u64_in (a : Int) (by have := h.a; omega)
  have u4 := IntWalk.u64_in (g : Int) (by have := h.g; omega)
  have u5 := IntWalk.u64_in (wi : Int) (by have := h.wi; omega)
  have u6 := IntWalk.u64_in (m : Int) (by have := h.m; omega)
  have hk := sgS_le s d f t q a g wi m l.length (fo (tot l))
  have P8 := Lib.hid (fun W => refP_any (sgS s d f t q a g wi m l.length (fo (tot l))) 2 W (by omega) (by omega) (by omega) (by simp; omega))
  have u7 := IntWalk.u64_in (sgS s d f t q a g wi m l.length (fo (tot l)) : Int) (by omega)
  obtain ⟨c1, e1⟩ : ∃ c, be f 2 ++ be t 2 = c := ⟨_, rfl⟩
  obtain ⟨c2, e2⟩ : ∃ c, c1 ++ be q 4 = c := ⟨_, rfl⟩
  obtain ⟨c3, e3⟩ : ∃ c, c2 ++ be a 4 = c := ⟨_, rfl⟩
  obtain ⟨c4, e4⟩ : ∃ c, c3 ++ [96] = c := ⟨_, rfl⟩
  obtain ⟨c5, e5⟩ : ∃ c, c4 ++ be g 1 = c := ⟨_, rfl⟩
  obtain ⟨c6, e6⟩ : ∃ c, c5 ++ be wi 2 = c := ⟨_, rfl⟩
  obtain ⟨y1, f1⟩ : ∃ c, [2, 4] ++ be m 2 = c := ⟨_, rfl⟩
  obtain ⟨y2, f2⟩ : ∃ c, [0, 0] ++ y1 = c := ⟨_, rfl⟩
  obtain ⟨y3, f3⟩ : ∃ c, y2 ++ l = c := ⟨_, rfl⟩
  have EA := Lib.hid (show ∀ k, c6 ++ be k 2 ++ y3 = wb (sgW f t q a g wi m k) ++ l from fun k => by
    rw [← e6, ← e5, ← e4, ← e3, ← e2, ← e1, ← f3, ← f2, ← f1]
    exact (wb_sgW1 f t q a g wi m k h hm l).symm)
  have LN := Lib.hid (show c1.length = 4 ∧ c2.length = 8 ∧ c3.length = 12 ∧ c4.length = 13 ∧ c5.length = 14 ∧ c6.length = 16 ∧ y1.length = 4 ∧ y2.length = 2 + 4 ∧ y3.length = 2 + 4 + l.length ∧ (be f 2).length = 2 ∧ (be t 2).length = 2 ∧ (be q 4).length = 4 ∧ (be a 4).length = 4 ∧ (be g 1).length = 1 ∧ (be wi 2).length = 2 ∧ (be m 2).length = 2 from by
    rw [← f3, ← f2, ← f1, ← e6, ← e5, ← e4, ← e3, ← e2, ← e1]
    simp [be_length] <;> omega)
  have LT := Lib.hid (show sgL m = 20 + 4 from by unfold sgL; rw [if_neg (by omega)])
  obtain ⟨ps, hps⟩ : ∃ c, wb (psW s d 6 (sgL m + l.length)) = c := ⟨_, rfl⟩
  have LP := Lib.hid (show ps.length = 12 from by rw [← hps, wb_length]; rfl)
  obtain ⟨n1, g1⟩ : ∃ c, ps ++ c6 = c := ⟨_, rfl⟩
  obtain ⟨n2, g2⟩ : ∃ c, n1 ++ [0, 0] = c := ⟨_, rfl⟩
  obtain ⟨n3, g3⟩ : ∃ c, n2 ++ y3 = c := ⟨_, rfl⟩
  have LM := Lib.hid (show n1.length = 28 ∧ n2.length = 30 ∧ n3.length = 32 + 4 + l.length from by
    have := LN.out
    have := LP.out
    rw [← g3, ← g2, ← g1]
    simp
    omega)
  have ET := Lib.hid (show (65535 - ((fo (256 * evs n3 + ods n3) : Nat) : Int)) = ((sgS s d f t q a g wi m l.length (fo (tot l)) : Nat) : Int) from by
    have e0 : n3 = ps ++ (wb (sgW f t q a g wi m 0) ++ l) := by
      rw [← EA.out 0, ← g3, ← g2, ← g1]
      simp only [List.append_assoc]
      rfl
    have ev1 : ps.length % 2 = 0 := by rw [LP.out]
    have ev2 : (wb (sgW f t q a g wi m 0)).length % 2 = 0 := by rw [wb_length]; omega
    have et : 256 * evs n3 + ods n3 = tot ps + tot (wb (sgW f t q a g wi m 0)) + tot l := by
      show tot n3 = _
      rw [e0, tot_append ev1, tot_append ev2]
      omega
    rw [et]
    unfold sgS
    rw [hps, fo_fo]
    have := fo_le (tot ps + tot (wb (sgW f t q a g wi m 0)) + tot l)
    omega)
  have PS := Lib.hid (fun W => show Calls Try.prog 21 #[.int .u32 (s : Int), .int .u32 (d : Int), .int .u8 6, .int .i64 ((c6.length : Int) + 2 + (y3.length : Int))] W (fun e w' => e = .returned (.string ⟨ps.toArray⟩) ∧ Below W.heap.size W w') from by
    have := Ip.refPseudo_any s d 6 (sgL m + l.length) hs hd (by omega) (by have := sgL_le m; omega) W
    rw [hps, show ((sgL m + l.length : Nat) : Int) = (c6.length : Int) + 2 + (y3.length : Int) from by have := LN.out; have := LT.out; omega] at this
    exact this)
  have EF := Lib.hid (show ∀ k, sgS s d f t q a g wi m l.length (fo (tot l)) = k → c6 ++ be k 2 ++ y3 = sgB s d f t q a g wi m l.length (fo (tot l)) ++ l from fun k hk => by rw [EA.out]; unfold sgB; rw [hk])
  generalize hkk : sgS s d f t q a g wi m l.length (fo (tot l)) = k at *
  have EF := Lib.hid (EF.out k rfl)
  generalize sgB s d f t q a g wi m l.length (fo (tot l)) ++ l = R at *
  have E1 := Lib.hid e1
  have E2 := Lib.hid e2
  have E3 := Lib.hid e3
  have E5 := Lib.hid e5
  have E6 := Lib.hid e6
  have F1 := Lib.hid f1
  have M3 := Lib.hid (show n3.length ≤ 1000000 from by have := LM.out; omega)
  obtain ⟨r1, hr1⟩ : ∃ c, c6 ++ be k 2 = c := ⟨_, rfl⟩
  rw [hr1] at EF
  have k96 : (⟨c3.toArray⟩ : ByteArray) ++ ⟨#[96]⟩ = ⟨c4.toArray⟩ := by rw [ByteArray.mk_append_mk, ← e4]; (try simp)
  have kz1 : (⟨#[2, 4]⟩ : ByteArray) ++ ⟨(be m 2).toArray⟩ = ⟨y1.toArray⟩ := by rw [ByteArray.mk_append_mk, ← f1]; (try simp)
  have kz2 : (⟨#[0, 0]⟩ : ByteArray) ++ ⟨y1.toArray⟩ = ⟨y2.toArray⟩ := by rw [ByteArray.mk_append_mk, ← f2]; (try simp)
  have kz3 : (⟨y2.toArray⟩ : ByteArray) ++ ⟨l.toArray⟩ = ⟨y3.toArray⟩ := by rw [ByteArray.mk_append_mk, ← f3]; (try simp)
  have kn1 : (⟨ps.toArray⟩ : ByteArray) ++ ⟨c6.toArray⟩ = ⟨n1.toArray⟩ := by rw [ByteArray.mk_append_mk, ← g1]; (try simp)
  have kn2 : (⟨n1.toArray⟩ : ByteArray) ++ ⟨#[0, 0]⟩ = ⟨n2.toArray⟩ := by rw [ByteArray.mk_append_mk, ← g2]; (try simp)
  have kn3 : (⟨n2.toArray⟩ : ByteArray) ++ ⟨y3.toArray⟩ = ⟨n3.toArray⟩ := by rw [ByteArray.mk_append_mk, ← g3]; (try simp)
  have kr1 : (⟨c6.toArray⟩ : ByteArray) ++ ⟨(be k 2).toArray⟩ = ⟨r1.toArray⟩ := by rw [ByteArray.mk_append_mk, ← hr1]; (try simp)
  have kr2 : (⟨r1.toArray⟩ : ByteArray) ++ ⟨y3.toArray⟩ = ⟨R.toArray⟩ := by rw [ByteArray.mk_append_mk, ← EF.out]; (try simp)
  have q1 : ¬ 9223372036854775807 < c3.length + 1 := by have := LN.out; omega
  have q2 : ¬ 9223372036854775807 < 2 + (be m 2).length := by have := LN.out; omega
  have q3 : ¬ 9223372036854775807 < 2 + y1.length := by have := LN.out; omega
  have q4 : ¬ 9223372036854775807 < y2.length + l.length := by have := LN.out; omega
  have q5 : ¬ 9223372036854775807 < ps.length + c6.length := by have := LN.out; have := LP.out; omega
  have q6 : ¬ 9223372036854775807 < n1.length + 2 := by have := LM.out; omega
  have q7 : ¬ 9223372036854775807 < n2.length + y3.length := by have := LN.out; have := LM.out; omega
  have q8 : ¬ 9223372036854775807 < c6.length + (be k 2).length := by have := LN.out; rw [be_length]; omega
  have q9 : ¬ 9223372036854775807 < r1.length + y3.length := by have := LN.out; rw [← hr1, List.length_append, be_length]; omega
  have x1 := IntWalk.i64_in ((c6.length : Int) + 2) (by have := LN.out; omega)
  have x2 := IntWalk.i64_in ((c6.length : Int) + 2 + (y3.length : Int)) (by have := LN.out; omega)
  have hm' : (m : Int) > 0 := by omega
  clear e1 e2 e3 e4 e5 e6 f1 f2 f3 g1 g2 g3 hr1 hkk hps EA LT LM LP hm hk
  go_enter Try.func9, Try.ntmps9
  go_upto_region 1 with fail
  generalize w.alloc (.cells (dsV f t q a (g : Int) wi (m : Int) l) 25) = W0 at *
  have z0 := (K1.out.cell 0).trans (show _ = some (.int .u16 (f : Int)) from rfl)
  have z1 := (K1.out.cell 1).trans (show _ = some (.int .u16 (t : Int)) from rfl)
  have z2 := (K1.out.cell 2).trans (show _ = some (.int .u32 (q : Int)) from rfl)
  have z3 := (K1.out.cell 3).trans (show _ = some (.int .u32 (a : Int)) from rfl)
  have z4 := (K1.out.cell 4).trans (show _ = some (.int .i64 (g : Int)) from rfl)
  have z5 := (K1.out.cell 5).trans (show _ = some (.int .u16 (wi : Int)) from rfl)
  have z6 := (K1.out.cell 6).trans (show _ = some (.int .i64 (m : Int)) from rfl)
  have z7 := (K1.out.cell 7).trans (show _ = some (.string ⟨l.toArray⟩) from rfl)
  go_wp2_with fail
  refine (CK.out W0).mono ?_; rintro e W ⟨rfl, b1⟩
  have B2 := Lib.hid (B1.out.trans (b1.mono B1.out.size))
  have K2 := Lib.hid (K1.out.older (older_below b1))
  clear b1 B1 K1 CK z0 z1 z2 z3 z4 z5 z6 z7
  go_upto_region 4 with fail
  refine wp_region_held_drew (S := fun w' => Hid (Below W.heap.size W w')) (by kernel_rfl) (Lib.hid ((Below.refl W.heap.size W).drew)) (fun hS => ?_)
  refine held_take (i := 0) (d := (some 17)) (v := ?_) rfl rfl (by kernel_rfl) (by kernel_rfl) (by kernel_rfl) (fun _ _ _ h => h) (by rfl) ?_ hS ?_
  rotate_left
  · intro w' hSw; (try dsimp only at hSw); go_simp <;> with_reducible rfl
  simp only [Act.put, List.setIfInBounds_toArray, List.set_cons_zero, List.set_cons_succ]
  refine held_take (i := 1) (d := (some 18)) (v := ?_) rfl rfl (by kernel_rfl) (by kernel_rfl) (by kernel_rfl) (fun _ _ _ h => h) (by rfl) ?_ hS ?_
  rotate_left
  · intro w' hSw; have kb := hSw.out; clear hSw; have z0 := ((K2.out.older (older_below kb)).cell 0).trans (show _ = some (.int .u16 (f : Int)) from rfl); clear kb; go_simp <;> with_reducible rfl
  simp only [Act.put, List.setIfInBounds_toArray, List.set_cons_zero, List.set_cons_succ]
  refine held_take (i := 2) (d := (some 19)) (v := ?_) rfl rfl (by kernel_rfl) (by kernel_rfl) (by kernel_rfl) (fun _ _ _ h => h) (by rfl) ?_ hS ?_
  rotate_left
  · intro w' hSw; (try dsimp only at hSw); go_simp <;> with_reducible rfl
  simp only [Act.put, List.setIfInBounds_toArray, List.set_cons_zero, List.set_cons_succ]
  refine held_take (i := 4) (d := (some 21)) (v := ?_) rfl rfl (by kernel_rfl) (by kernel_rfl) (by kernel_rfl) (fun _ _ _ h => h) (by rfl) ?_ hS ?_
  rotate_left
  · intro w' hSw; (try dsimp only at hSw); go_simp <;> with_reducible rfl
  simp only [Act.put, List.setIfInBounds_toArray, List.set_cons_zero, List.set_cons_succ]
  refine held_take (i := 5) (d := (some 22)) (v := ?_) rfl rfl (by kernel_rfl) (by kernel_rfl) (by kernel_rfl) (fun _ _ _ h => h) (by rfl) ?_ hS ?_
  rotate_left
  · intro w' hSw; have kb := hSw.out; clear hSw; have z1 := ((K2.out.older (older_below kb)).cell 1).trans (show _ = some (.int .u16 (t : Int)) from rfl); clear kb; go_simp <;> with_reducible rfl
  simp only [Act.put, List.setIfInBounds_toArray, List.set_cons_zero, List.set_cons_succ]
  refine held_take (i := 6) (d := (some 23)) (v := ?_) rfl rfl (by kernel_rfl) (by kernel_rfl) (by kernel_rfl) (fun _ _ _ h => h) (by rfl) ?_ hS ?_
  rotate_left
  · intro w' hSw; (try dsimp only at hSw); go_simp <;> with_reducible rfl
  simp only [Act.put, List.setIfInBounds_toArray, List.set_cons_zero, List.set_cons_succ]
  refine held_take (i := 9) (d := (some 26)) (v := ?_) rfl rfl (by kernel_rfl) (by kernel_rfl) (by kernel_rfl) (fun _ _ _ h => h) (by rfl) ?_ hS ?_
  rotate_left
  · intro w' hSw; (try dsimp only at hSw); go_simp <;> with_reducible rfl
  simp only [Act.put, List.setIfInBounds_toArray, List.set_cons_zero, List.set_cons_succ]
  refine held_take (i := 10) (d := (some 27)) (v := ?_) rfl rfl (by kernel_rfl) (by kernel_rfl) (by kernel_rfl) (fun _ _ _ h => h) (by rfl) ?_ hS ?_
  rotate_left
  · intro w' hSw; have kb := hSw.out; clear hSw; have z2 := ((K2.out.older (older_below kb)).cell 2).trans (show _ = some (.int .u32 (q : Int)) from rfl); clear kb; go_simp <;> with_reducible rfl
  simp only [Act.put, List.setIfInBounds_toArray, List.set_cons_zero, List.set_cons_succ]
  refine held_take (i := 11) (d := (some 28)) (v := ?_) rfl rfl (by kernel_rfl) (by kernel_rfl) (by kernel_rfl) (fun _ _ _ h => h) (by rfl) ?_ hS ?_
  rotate_left
  · intro w' hSw; (try dsimp only at hSw); go_simp <;> with_reducible rfl
  simp only [Act.put, List.setIfInBounds_toArray, List.set_cons_zero, List.set_cons_succ]
  refine held_take (i := 14) (d := (some 31)) (v := ?_) rfl rfl (by kernel_rfl) (by kernel_rfl) (by kernel_rfl) (fun _ _ _ h => h) (by rfl) ?_ hS ?_
  rotate_left
  · intro w' hSw; (try dsimp only at hSw); go_simp <;> with_reducible rfl
  simp only [Act.put, List.setIfInBounds_toArray, List.set_cons_zero, List.set_cons_succ]
  refine held_take (i := 15) (d := (some 32)) (v := ?_) rfl rfl (by kernel_rfl) (by kernel_rfl) (by kernel_rfl) (fun _ _ _ h => h) (by rfl) ?_ hS ?_
  rotate_left
  · intro w' hSw; have kb := hSw.out; clear hSw; have z3 := ((K2.out.older (older_below kb)).cell 3).trans (show _ = some (.int .u32 (a : Int)) from rfl); clear kb; go_simp <;> with_reducible rfl
  simp only [Act.put, List.setIfInBounds_toArray, List.set_cons_zero, List.set_cons_succ]
  refine held_take (i := 16) (d := (some 33)) (v := ?_) rfl rfl (by kernel_rfl) (by kernel_rfl) (by kernel_rfl) (fun _ _ _ h => h) (by rfl) ?_ hS ?_
  rotate_left
  · intro w' hSw; (try dsimp only at hSw); go_simp <;> with_reducible rfl
  simp only [Act.put, List.setIfInBounds_toArray, List.set_cons_zero, List.set_cons_succ]
  refine held_one (i := 3) (by kernel_rfl) rfl (by rfl) ?_
  go_simp
  refine (P1.out _).mono ?_; rintro e wp ⟨rfl, bp⟩
  have hS : Hid (Below W.heap.size W wp) := Lib.hid (hS.out.trans (bp.mono hS.out.size))
  refine ⟨hS, ?_⟩
  clear bp
  (try simp only [Act.put, List.setIfInBounds_toArray, List.set_cons_zero, List.set_cons_succ])
  refine held_one (i := 7) (by kernel_rfl) rfl (by rfl) ?_
  go_simp
  refine (P2.out _).mono ?_; rintro e wp ⟨rfl, bp⟩
  have hS : Hid (Below W.heap.size W wp) := Lib.hid (hS.out.trans (bp.mono hS.out.size))
  refine ⟨hS, ?_⟩
  clear bp
  (try simp only [Act.put, List.setIfInBounds_toArray, List.set_cons_zero, List.set_cons_succ])
  refine held_take (i := 8) (d := (some 25)) (v := .string ⟨c1.toArray⟩) rfl rfl (by kernel_rfl) (by kernel_rfl) (by kernel_rfl) (fun _ _ _ h => h) (by rfl) (fun w' _ => exec_cat' E1.out rfl rfl rfl (by have := LN.out; omega) w') hS ?_
  simp only [Act.put, List.setIfInBounds_toArray, List.set_cons_zero, List.set_cons_succ]
  refine held_one (i := 12) (by kernel_rfl) rfl (by rfl) ?_
  go_simp
  refine (P3.out _).mono ?_; rintro e wp ⟨rfl, bp⟩
  have hS : Hid (Below W.heap.size W wp) := Lib.hid (hS.out.trans (bp.mono hS.out.size))
  refine ⟨hS, ?_⟩
  clear bp
  (try simp only [Act.put, List.setIfInBounds_toArray, List.set_cons_zero, List.set_cons_succ])
  refine held_take (i := 13) (d := (some 30)) (v := .string ⟨c2.toArray⟩) rfl rfl (by kernel_rfl) (by kernel_rfl) (by kernel_rfl) (fun _ _ _ h => h) (by rfl) (fun w' _ => exec_cat' E2.out rfl rfl rfl (by have := LN.out; omega) w') hS ?_
  simp only [Act.put, List.setIfInBounds_toArray, List.set_cons_zero, List.set_cons_succ]
  refine held_one (i := 17) (by kernel_rfl) rfl (by rfl) ?_
  go_simp
  refine (P4.out _).mono ?_; rintro e wp ⟨rfl, bp⟩
  have hS : Hid (Below W.heap.size W wp) := Lib.hid (hS.out.trans (bp.mono hS.out.size))
  refine ⟨hS, ?_⟩
  clear bp
  (try simp only [Act.put, List.setIfInBounds_toArray, List.set_cons_zero, List.set_cons_succ])
  refine held_take (i := 18) (d := (some 35)) (v := .string ⟨c3.toArray⟩) rfl rfl (by kernel_rfl) (by kernel_rfl) (by kernel_rfl) (fun _ _ _ h => h) (by rfl) (fun w' _ => exec_cat' E3.out rfl rfl rfl (by have := LN.out; omega) w') hS ?_
  simp only [Act.put, List.setIfInBounds_toArray, List.set_cons_zero, List.set_cons_succ]
  refine held_take (i := 19) (d := (some 9)) (v := ?_) rfl rfl (by kernel_rfl) (by kernel_rfl) (by kernel_rfl) (fun _ _ _ h => h) (by rfl) ?_ hS ?_
  rotate_left
  · intro w' hSw; (try dsimp only at hSw); go_simp <;> with_reducible rfl
  simp only [Act.put, List.setIfInBounds_toArray, List.set_cons_zero, List.set_cons_succ]
  refine wpAnyH_done (by kernel_rfl) ?_ _
  have B3 := Lib.hid (B2.out.trans (hS.out.mono B2.out.size))
  have K4 := Lib.hid (K2.out.older (older_below hS.out))
  clear hS K2 B2 P1 P2 P3 P4 E1 E2 E3 u0 u1 u2 u3
  have z6 := (K4.out.cell 6).trans (show _ = some (.int .i64 (m : Int)) from rfl)
  go_wp2_with fail
  refine (P7.out _).mono ?_; rintro e wp ⟨rfl, b4⟩
  have B4 := Lib.hid (B3.out.trans (b4.mono B3.out.size))
  have K4 := Lib.hid (K4.out.older (older_below b4))
  clear b4 B3 z6 P7
  go_upto_region 10 with fail
  generalize wp = W at *
  refine wp_region_held_drew (S := fun w' => Hid (Below W.heap.size W w')) (by kernel_rfl) (Lib.hid ((Below.refl W.heap.size W).drew)) (fun hS => ?_)
  refine held_take (i := 0) (d := (some 48)) (v := ?_) rfl rfl (by kernel_rfl) (by kernel_rfl) (by kernel_rfl) (fun _ _ _ h => h) (by rfl) ?_ hS ?_
  rotate_left
  · intro w' hSw; (try dsimp only at hSw); go_simp <;> with_reducible rfl
  simp only [Act.put, List.setIfInBounds_toArray, List.set_cons_zero, List.set_cons_succ]
  refine held_take (i := 1) (d := (some 49)) (v := ?_) rfl rfl (by kernel_rfl) (by kernel_rfl) (by kernel_rfl) (fun _ _ _ h => h) (by rfl) ?_ hS ?_
  rotate_left
  · intro w' hSw; (try dsimp only at hSw); go_simp <;> with_reducible rfl
  simp only [Act.put, List.setIfInBounds_toArray, List.set_cons_zero, List.set_cons_succ]
  refine held_take (i := 2) (d := (some 50)) (v := ?_) rfl rfl (by kernel_rfl) (by kernel_rfl) (by kernel_rfl) (fun _ _ _ h => h) (by rfl) ?_ hS ?_
  rotate_left
  · intro w' hSw; have kb := hSw.out; clear hSw; have z4 := ((K4.out.older (older_below kb)).cell 4).trans (show _ = some (.int .i64 (g : Int)) from rfl); clear kb; go_simp <;> with_reducible rfl
  simp only [Act.put, List.setIfInBounds_toArray, List.set_cons_zero, List.set_cons_succ]
  refine held_take (i := 3) (d := (some 51)) (v := ?_) rfl rfl (by kernel_rfl) (by kernel_rfl) (by kernel_rfl) (fun _ _ _ h => h) (by rfl) ?_ hS ?_
  rotate_left
  · intro w' hSw; (try dsimp only at hSw); go_simp <;> with_reducible rfl
  simp only [Act.put, List.setIfInBounds_toArray, List.set_cons_zero, List.set_cons_succ]
  refine held_take (i := 6) (d := (some 54)) (v := ?_) rfl rfl (by kernel_rfl) (by kernel_rfl) (by kernel_rfl) (fun _ _ _ h => h) (by rfl) ?_ hS ?_
  rotate_left
  · intro w' hSw; (try dsimp only at hSw); go_simp <;> with_reducible rfl
  simp only [Act.put, List.setIfInBounds_toArray, List.set_cons_zero, List.set_cons_succ]
  refine held_take (i := 7) (d := (some 55)) (v := ?_) rfl rfl (by kernel_rfl) (by kernel_rfl) (by kernel_rfl) (fun _ _ _ h => h) (by rfl) ?_ hS ?_
  rotate_left
  · intro w' hSw; have kb := hSw.out; clear hSw; have z5 := ((K4.out.older (older_below kb)).cell 5).trans (show _ = some (.int .u16 (wi : Int)) from rfl); clear kb; go_simp <;> with_reducible rfl
  simp only [Act.put, List.setIfInBounds_toArray, List.set_cons_zero, List.set_cons_succ]
  refine held_take (i := 8) (d := (some 56)) (v := ?_) rfl rfl (by kernel_rfl) (by kernel_rfl) (by kernel_rfl) (fun _ _ _ h => h) (by rfl) ?_ hS ?_
  rotate_left
  · intro w' hSw; (try dsimp only at hSw); go_simp <;> with_reducible rfl
  simp only [Act.put, List.setIfInBounds_toArray, List.set_cons_zero, List.set_cons_succ]
  refine held_one (i := 4) (by kernel_rfl) rfl (by rfl) ?_
  go_simp
  refine (P5.out _).mono ?_; rintro e wp ⟨rfl, bp⟩
  have hS : Hid (Below W.heap.size W wp) := Lib.hid (hS.out.trans (bp.mono hS.out.size))
  refine ⟨hS, ?_⟩
  clear bp
  (try simp only [Act.put, List.setIfInBounds_toArray, List.set_cons_zero, List.set_cons_succ])
  refine held_take (i := 5) (d := (some 53)) (v := .string ⟨c5.toArray⟩) rfl rfl (by kernel_rfl) (by kernel_rfl) (by kernel_rfl) (fun _ _ _ h => h) (by rfl) (fun w' _ => exec_cat' E5.out rfl rfl rfl (by have := LN.out; omega) w') hS ?_
  simp only [Act.put, List.setIfInBounds_toArray, List.set_cons_zero, List.set_cons_succ]
  refine held_one (i := 9) (by kernel_rfl) rfl (by rfl) ?_
  go_simp
  refine (P6.out _).mono ?_; rintro e wp ⟨rfl, bp⟩
  have hS : Hid (Below W.heap.size W wp) := Lib.hid (hS.out.trans (bp.mono hS.out.size))
  refine ⟨hS, ?_⟩
  clear bp
  (try simp only [Act.put, List.setIfInBounds_toArray, List.set_cons_zero, List.set_cons_succ])
  refine held_take (i := 10) (d := (some 58)) (v := .string ⟨c6.toArray⟩) rfl rfl (by kernel_rfl) (by kernel_rfl) (by kernel_rfl) (fun _ _ _ h => h) (by rfl) (fun w' _ => exec_cat' E6.out rfl rfl rfl (by have := LN.out; omega) w') hS ?_
  simp only [Act.put, List.setIfInBounds_toArray, List.set_cons_zero, List.set_cons_succ]
  refine held_take (i := 11) (d := (some 9)) (v := ?_) rfl rfl (by kernel_rfl) (by kernel_rfl) (by kernel_rfl) (fun _ _ _ h => h) (by rfl) ?_ hS ?_
  rotate_left
  · intro w' hSw; (try dsimp only at hSw); go_simp <;> with_reducible rfl
  simp only [Act.put, List.setIfInBounds_toArray, List.set_cons_zero, List.set_cons_succ]
  refine wpAnyH_done (by kernel_rfl) ?_ _
  have B6 := Lib.hid (B4.out.trans (hS.out.mono B4.out.size))
  have K6 := Lib.hid (K4.out.older (older_below hS.out))
  clear hS K4 B4 P5 P6 E5 E6 u4 u5 LN
  have z7 := (K6.out.cell 7).trans (show _ = some (.string ⟨l.toArray⟩) from rfl)
  go_wp2_with fail
  refine (PS.out _).mono ?_; rintro e w7 ⟨rfl, b7⟩
  have B7 := Lib.hid (B6.out.trans (b7.mono B6.out.size))
  clear b7 B6 K6 PS z7
  obtain ⟨A8, c8, w8, hconv, hsr, hb8, -⟩ := conv_src ⟨n3.toArray⟩ M3.out w7
  replace hconv : (convert 9 27 (.string ⟨n3.toArray⟩)).run Try.prog w7 = .ok (.slice A8 n3.length c8) w8 := hconv
  have SC := Lib.hid (scratch_any A8 n3.length c8 n3 w8 hsr.toBytes (by have := M3.out; omega))
  rw [ET.out] at SC
  have B8 := Lib.hid (B7.out.trans (hb8.mono B7.out.size))
  clear hsr hb8 B7 ET
  go_wp2_with fail
  refine SC.out.mono ?_; rintro e wq ⟨rfl, rfl⟩
  go_wp2_with fail
  refine (P8.out _).mono ?_; rintro e w9 ⟨rfl, b9⟩
  have B9 := Lib.hid (B8.out.trans (b9.mono B8.out.size))
  clear b9
  go_wp2
  go_ret2
  exact ⟨rfl, B9.out⟩

set_option maxRecDepth 100000 in
set_option maxHeartbeats 2000000 in
theorem refBytes_any (f t q a : Nat) (g : Int) (wi : Nat) (m : Int) (hf : f ≤ 65535) (ht : t ≤ 65535) (hq : q ≤ 4294967295) (ha : a ≤ 4294967295) (hwi : wi ≤ 65535) (l : List UInt8) (hl : l.length ≤ 1000000) (s d : Nat) (hs : s ≤ 4294967295) (hd : d ≤ 4294967295) (w : World) :
    Calls Try.prog 9 #[.agg (dsV f t q a g wi m l), .int .u32 (s : Int), .int .u32 (d : Int)] w fun e w' => STells e (decide (ckR g m l.length = 0)) (sgB s d f t q a g.toNat wi m.toNat l.length (fo (tot l)) ++ l) (ckR g m l.length) ∧ Below w.heap.size w w' := by
  by_cases hc : ckR g m l.length = 0
  · obtain ⟨g, m, n', rfl, rfl, hn', hg, hm, h9⟩ := ck_ok hc
    rw [decide_eq_true hc, Int.toNat_natCast, Int.toNat_natCast]
    have h9 : l.length ≤ 900 := by omega
    rcases Nat.eq_zero_or_pos m with h0 | h0
    · exact refBytes_ok0 f t q a g wi m ⟨hf, ht, hq, ha, hg, hwi, hm⟩ h0 l h9 s d hs hd w
    · exact refBytes_ok1 f t q a g wi m ⟨hf, ht, hq, ha, hg, hwi, hm⟩ h0 l h9 s d hs hd w
  · rw [decide_eq_false hc]
    have B1 := Lib.hid ((Below.refl w.heap.size w).alloc (Nat.le_refl _) (.cells (dsV f t q a g wi m l) 25))
    have K1 := Lib.hid (Blk.new w 25 (dsV f t q a g wi m l))
    have CK := Lib.hid (fun W => refCheck_any f t q a g wi m l hl W)
    generalize ckR g m l.length = er at *
    have hb' : (er == 0) = false := by simpa using hc
    go_enter Try.func9, Try.ntmps9
    go_upto_region 1 with fail
    generalize w.alloc (.cells (dsV f t q a g wi m l) 25) = W at *
    have z0 := (K1.out.cell 0).trans (show _ = some (.int .u16 (f : Int)) from rfl)
    have z1 := (K1.out.cell 1).trans (show _ = some (.int .u16 (t : Int)) from rfl)
    have z2 := (K1.out.cell 2).trans (show _ = some (.int .u32 (q : Int)) from rfl)
    have z3 := (K1.out.cell 3).trans (show _ = some (.int .u32 (a : Int)) from rfl)
    have z4 := (K1.out.cell 4).trans (show _ = some (.int .i64 g) from rfl)
    have z5 := (K1.out.cell 5).trans (show _ = some (.int .u16 (wi : Int)) from rfl)
    have z6 := (K1.out.cell 6).trans (show _ = some (.int .i64 m) from rfl)
    have z7 := (K1.out.cell 7).trans (show _ = some (.string ⟨l.toArray⟩) from rfl)
    go_wp2_with fail
    refine (CK.out W).mono ?_; rintro e w1 ⟨rfl, b1⟩
    have B2 := Lib.hid (B1.out.trans (b1.mono B1.out.size))
    go_wp2
    go_ret2
    exact ⟨rfl, B2.out⟩
end Go.Proofs.Ytgemmciokioaiaa.Sg
