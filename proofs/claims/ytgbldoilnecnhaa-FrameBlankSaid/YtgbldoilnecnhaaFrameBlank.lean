/- Whatever text and place come in, 'pantlerlaw05.FrameBlank' returns true and leaves them as they were. No condition. -/
import Derived.Test.YtgbldoilnecnhaaAliveF
namespace Go.Proofs.Ytgbldoilnecnhaa.frameBlank
open Go.ChangeShapes Go.WideShapes Go.ChangeAt Go.RowKit Go.Deep Fr
set_option linter.unusedVariables false


def one (o : Nat) (t : List UInt8) : List Pg := [⟨o, 0, t⟩]
theorem e_new : (List.replicate 1 Pg.blank) = one 0 (List.replicate 256 0) := by kernel_rfl
theorem e_alloc (env : Int) (n : Nat) (hn : isE env) (en : env = (n : Int)) (t : List UInt8) : allocR (one 0 t) env = (one n t, 0, 0) := by
  subst en
  unfold allocR
  rw [if_pos hn]
  rfl
theorem e_own (env : Int) (n : Nat) (hn : isE env) (en : env = (n : Int)) (t : List UInt8) : ownErr (one n t) env 0 = 0 := by
  subst en
  unfold ownErr
  rw [if_pos ⟨hn, by decide, by simp [one]⟩]
  exact if_pos rfl
theorem e_write (t s : List UInt8) (off : Int) (h : isIn off (s.length : Int)) : ∃ t', writeR (one 1 t) 1 0 off s = (one 1 t', 0) := by
  refine ⟨t.take off.toNat ++ s ++ t.drop (off.toNat + s.length), ?_⟩
  unfold writeR
  rw [if_pos (e_own 1 1 (.inl rfl) rfl t), if_pos h]
  exact if_pos rfl
theorem e_free (t : List UInt8) : freeR (one 1 t) 1 0 = (one 0 (List.replicate 256 0), 0) := by
  unfold freeR
  rw [if_pos (e_own 1 1 (.inl rfl) rfl t)]
  exact if_pos rfl
theorem e_read (t : List UInt8) (ht : t.length = 256) : readR (one 2 t) 2 0 0 256 = (t, 0) := by
  unfold readR
  rw [if_pos (e_own 2 2 (.inr rfl) rfl t), if_pos ⟨by decide, by decide, by decide⟩]
  have e : ((pg (one 2 t) 0).text.drop (0 : Int).toNat).take (256 : Int).toNat = t := by
    show (t.drop 0).take 256 = t
    rw [List.drop_zero, List.take_of_length_le (by omega)]
  rw [e]

set_option maxRecDepth 100000 in
set_option maxHeartbeats 1000000 in
theorem walk (w : World) (s : ByteArray) (ws : s.size ≤ maxLen) (off : Int) (wf : (Lit.int .u8 off).wf = true) :
    Calls Try.prog 5 #[.string s, .int .u8 off] w fun e w' => e = .returned (.bool true) ∧ Below w.heap.size w w' := by
  obtain ⟨o, rfl, ho⟩ := wf_u8 wf
  have x0 : IntKind.i64.wrap (o : Int) = o := IntWalk.i64_in _ (by omega)
  have x1 : IntKind.i64.wrap (256 - (o : Int)) = 256 - (o : Int) := IntWalk.i64_in _ (by omega)
  clear wf ws
  by_cases hbig : (s.size : Int) > 256 - (o : Int)
  · go_enter Try.func5, Try.ntmps5
    go_wp2_with fail
    refine (alive_any _).mono ?_; rintro e w1 ⟨rfl, b1⟩
    have B1 := Lib.hid b1
    clear b1
    go_wp2
    go_ret
    exact ⟨rfl, B1.out⟩
  · have hsz : s.data.toList.length = s.size := Array.length_toList
    have hin : isIn (o : Int) (s.data.toList.length : Int) := ⟨by omega, by omega, by omega⟩
    obtain ⟨t1, ht1⟩ := e_write (List.replicate 256 0) s.data.toList (o : Int) hin
    have A1 := Lib.hid (fun (W : World) (gs g : Nat) (t : List UInt8) (h : Tab W gs g (one 0 t)) => by
      have := alloc_any h 1
      rw [e_alloc 1 1 (.inl rfl) rfl] at this; exact this)
    have A4 := Lib.hid (fun (W : World) (gs g : Nat) (t : List UInt8) (h : Tab W gs g (one 0 t)) => by
      have := alloc_any h 2
      rw [e_alloc 2 2 (.inr rfl) rfl] at this; exact this)
    have A2 := Lib.hid (fun (W : World) (gs g : Nat) (h : Tab W gs g (one 1 (List.replicate 256 0))) (A : Option Addr) (c : Nat) (hs : Src W A s.size c s.data.toList) => by
      have := write_any h 1 0 (o : Int) (by omega) A s.size c s.data.toList hs
      rw [ht1] at this; exact this)
    have A3 := Lib.hid (fun (W : World) (gs g : Nat) (h : Tab W gs g (one 1 t1)) => by
      have := free_any h 1 0
      rw [e_free] at this; exact this)
    have A5 := Lib.hid (fun (W : World) (gs g : Nat) (h : Tab W gs g (one 2 (List.replicate 256 0))) => by
      have := read_any h 2 0 0 256 (by omega)
      rw [e_read _ List.length_replicate, List.length_replicate] at this; exact this)
    have A6 := Lib.hid (fun (W : World) (gs g : Nat) (h : Tab W gs g (one 2 (List.replicate 256 0))) => by
      have := freeCount_any h
      rw [show freeN (one 2 (List.replicate 256 0)) = 0 from rfl] at this; exact this)
    have A7 := Lib.hid (fun (W : World) (gs g : Nat) (h : Tab W gs g (one 2 (List.replicate 256 0))) => by
      have := size_any h
      rw [show (one 2 (List.replicate 256 0)).length = 1 from rfl] at this; exact this)
    have NEW := Lib.hid (fun w => new_ok 1 w (by decide) (by decide))
    rw [e_new] at NEW
    have CV := Lib.hid (fun w => conv_src s (by omega) w)
    clear hsz hin ht1
    go_enter Try.func5, Try.ntmps5
    go_wp2_with fail
    refine (alive_any _).mono ?_; rintro e w0 ⟨rfl, b0⟩
    have B0 := Lib.hid b0
    have hw0 : w.heap.size ≤ w0.heap.size := b0.size
    clear b0
    go_wp2_with fail
    refine (NEW.out _).mono ?_; rintro e w1 ⟨rfl, t1, b1, z1⟩
    have T1 := Lib.hid t1
    have B1 := Lib.hid (B0.out.trans (b1.mono hw0))
    clear t1 b1
    have hw1 : w.heap.size ≤ w1.heap.size := by omega
    generalize hgs : w0.heap.size = gs at *
    clear hgs B0
    go_wp2_with fail
    refine (A1.out _ _ _ _ T1.out).mono ?_; rintro e w2 ⟨rfl, t2, k2⟩
    have T2 := Lib.hid t2
    have B2 := Lib.hid (B1.out.trans (k2.below hw1 (fun i hi => by omega)))
    have hw2 : w.heap.size ≤ w2.heap.size := Nat.le_trans hw1 k2.size
    clear t2 k2 T1 B1
    obtain ⟨A, c, w3, heq, hsrc, b3⟩ := CV.out w2
    have S3 := Lib.hid hsrc
    have T3 := Lib.hid (T2.out.new b3)
    have B3 := Lib.hid (B2.out.trans (b3.mono hw2))
    have hw3 : w.heap.size ≤ w3.heap.size := Nat.le_trans hw2 b3.size
    clear hsrc b3 T2 B2
    go_wp2_with fail
    refine (A2.out _ _ _ T3.out A c S3.out).mono ?_; rintro e w4 ⟨rfl, t4, k4⟩
    have T4 := Lib.hid t4
    have B4 := Lib.hid (B3.out.trans (k4.below hw3 (fun i hi => by omega)))
    have hw4 : w.heap.size ≤ w4.heap.size := Nat.le_trans hw3 k4.size
    clear t4 k4 T3 B3 S3 heq
    go_wp2_with fail
    refine (A3.out _ _ _ T4.out).mono ?_; rintro e w5 ⟨rfl, t5, k5⟩
    have T5 := Lib.hid t5
    have B5 := Lib.hid (B4.out.trans (k5.below hw4 (fun i hi => by omega)))
    have hw5 : w.heap.size ≤ w5.heap.size := Nat.le_trans hw4 k5.size
    clear t5 k5 T4 B4
    go_wp2_with fail
    refine (A4.out _ _ _ _ T5.out).mono ?_; rintro e w6 ⟨rfl, t6, k6⟩
    have T6 := Lib.hid t6
    have B6 := Lib.hid (B5.out.trans (k6.below hw5 (fun i hi => by omega)))
    have hw6 : w.heap.size ≤ w6.heap.size := Nat.le_trans hw5 k6.size
    clear t6 k6 T5 B5
    go_wp2_with fail
    refine (A5.out _ _ _ T6.out).mono ?_; rintro e w7 ⟨A', c', rfl, s7, b7⟩
    have S7 := Lib.hid s7
    have T7 := Lib.hid (T6.out.new b7)
    have B7 := Lib.hid (B6.out.trans (b7.mono hw6))
    clear s7 b7 T6 B6
    go_wp2
    go_loopw [13] (fun i wr => ∃ (j : Nat), j ≤ 256 ∧ i = .int .i64 (j : Int) ∧ wr = w7) (fun i _ => 256 - (intOf i).toNat)
    case atStart => exact ⟨0, Nat.zero_le _, rfl, rfl⟩
    case round =>
      obtain ⟨j, hj, rfl, rfl⟩ := hrel
      by_cases hlt : j < 256
      · have hlt' : (j : Int) < 256 := by omega
        have j0 : (0 : Int) ≤ (j : Int) := by omega
        obtain ⟨b, o', hl, rfl, _, cj⟩ := S7.out.toBytes.byte hlt
        rw [List.getElem_replicate] at cj
        have cj' : wr.cell? ⟨b, o' + j, none⟩ = some (.int .u8 0) := cj
        have x2 := IntWalk.i64_in ((j : Int) + 1) (by omega)
        clear cj hl
        go_wp2
        go_roundw
        case rel => exact ⟨j + 1, by omega, by simp, by first | rfl | trivial⟩
        case measure => simp [intOf]; omega
      · have hge : ¬ (j : Int) < 256 := by omega
        go_wp2_with fail
        refine (A6.out _ _ _ T7.out).mono ?_; rintro e w8 ⟨rfl, rfl⟩
        go_wp2_with fail
        refine (A7.out _ _ _ T7.out).mono ?_; rintro e w9 ⟨rfl, rfl⟩
        go_wp2
        go_ret
        exact ⟨rfl, B7.out⟩

set_option maxRecDepth 100000 in
theorem lifted (os : Os) (started : os.Started) (H : Type) (enc : TypeId × Value → H) :
    ReturnsInHanded {} Try.checked os 5 .any (Rows.frameBlankSpec.pre6 enc Try.prog Try.f5 Rows.frameBlankRow.domain false) (Rows.frameBlankSpec.post enc Try.prog Try.f5 false true false false) := by
  refine returnsInHanded_of_change (C := Try.checked) own started (by kernel_rfl) Try.func5
    (ChangeSpec.witness6 (enc := enc) (C := Try.checked) false ⟨#[], #[.string ⟨#[]⟩, .int .u8 0], []⟩ 8 (by kernel_rfl) (by kernel_rfl) (by kernel_rfl) (by kernel_rfl)) ?_
  intro W base args ds gs before hval0 hW hcnd _
  have hval : ∀ (j : Nat) t v, Try.f5.params[j]? = some t → args[j]? = some v → Value.okWide Try.prog W .any base t v := hval0
  have hW' := hW
  obtain ⟨p, q, hA0, hV, rfl, hfz, hnd⟩ := hW
  have hA : DataW.TrodAll enc Try.prog W 0 (fun _ => true) true Try.f5.params.toList args.toList ds p := hA0
  rw [Try.params5] at hA hval
  obtain ⟨v0, vs0, d0, ds0, p0, q0, hargs, rfl, rfl, h0, r0⟩ := trodAll_cons hA
  obtain ⟨v1, vs1, d1, ds1, p1, q1, rfl, rfl, rfl, h1, r1⟩ := trodAll_cons r0
  obtain ⟨rfl, rfl, rfl⟩ := trodAll_nil r1
  obtain rfl : args = #[v0, v1] := by cases args; simp_all
  obtain ⟨a0, rfl, _, _, w0⟩ := Go.ChangeMaps.open_string Try.underlying9 (hval 0 9 v0 rfl rfl) h0
  obtain ⟨a1, rfl, _, _, w1⟩ := open_int Try.underlying5 (hval 1 5 v1 rfl rfl) h1
  clear hA0 hval0
  exact law_close hW' laidOut (by kernel_rfl) rfl Try.underlying4 rfl ⟨rfl, rfl, rfl⟩ (walk W a0 w0 a1 w1)

theorem over : Rows.frameBlankRow.holds Try.pinned (OpenSpec.ofChange Rows.frameBlankSpec) :=
  OpenClaim.holds_of_wide 5 Try.f5 rfl rfl rfl rfl rfl rfl rfl ⟨rfl, rfl, rfl, rfl, rfl⟩ rfl rfl rfl rfl rfl (by kernel_rfl) Try.func5 (by kernel_rfl)
    (of_decide_eq_true (by kernel_rfl)) (by unfold Func.isWrapper; first | (rw [if_pos (by decide +kernel)]; kernel_rfl) | (rw [if_neg (by decide +kernel)]; exact ⟨rfl, rfl⟩))
    (fun os started H enc _ => lifted os started H enc)

theorem proved : Rows.FrameBlankSaid := over

end Go.Proofs.Ytgbldoilnecnhaa.frameBlank
