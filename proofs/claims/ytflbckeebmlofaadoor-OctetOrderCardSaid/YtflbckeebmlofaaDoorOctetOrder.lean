/- Whatever two numbers and width come in, 'pantlerlaw02.OctetOrder' returns true. No condition. -/
import Derived.Test.YtflbckeebmlofaaDoorRef02
namespace Go.Proofs.YtflbckeebmlofaaDoor.octetOrder
open Go.ChangeShapes Go.WideShapes Go.ChangeAt Go.RowKit
set_option linter.unusedVariables false


theorem less_be (a b : Nat) : ∀ k, Op.bytesLess (be a k) (be b k) = decide (a % 256 ^ k < b % 256 ^ k)
  | 0 => by simp [be, Op.bytesLess, Nat.mod_one]
  | k + 1 => by
    have ea : a % 256 ^ (k + 1) = (a / 256 ^ k % 256) * 256 ^ k + a % 256 ^ k := by rw [Nat.pow_succ, Nat.mod_mul]; rw [Nat.mul_comm, Nat.add_comm]
    have eb : b % 256 ^ (k + 1) = (b / 256 ^ k % 256) * 256 ^ k + b % 256 ^ k := by rw [Nat.pow_succ, Nat.mod_mul]; rw [Nat.mul_comm, Nat.add_comm]
    have la : a % 256 ^ k < 256 ^ k := Nat.mod_lt _ (Nat.pow_pos (by decide))
    have lb : b % 256 ^ k < 256 ^ k := Nat.mod_lt _ (Nat.pow_pos (by decide))
    have na := nb_eq a k
    have nbb := nb_eq b k
    show (nb a k < nb b k || (nb a k == nb b k && Op.bytesLess (be a k) (be b k))) = _
    rw [less_be a b k, ea, eb, ← na, ← nbb]
    generalize 256 ^ k = p at *
    generalize a % p = x at *
    generalize b % p = y at *
    generalize hu : nb a k = u at *
    generalize hv : nb b k = v at *
    clear na nbb hu hv ea eb
    rw [Bool.eq_iff_iff]
    simp only [Bool.or_eq_true, decide_eq_true_eq, Bool.and_eq_true, beq_iff_eq, UInt8.lt_iff_toNat_lt]
    constructor
    · rintro (h | ⟨rfl, h⟩)
      · have := Nat.mul_le_mul_right p (show u.toNat + 1 ≤ v.toNat from h)
        rw [Nat.add_mul, Nat.one_mul] at this
        omega
      · omega
    · intro h
      rcases Nat.lt_trichotomy u.toNat v.toNat with h1 | h1 | h1
      · exact .inl h1
      · refine .inr ⟨UInt8.toNat_inj.1 h1, ?_⟩
        rw [h1] at h
        omega
      · exfalso
        have := Nat.mul_le_mul_right p (show v.toNat + 1 ≤ u.toNat from h1)
        rw [Nat.add_mul, Nat.one_mul] at this
        omega

theorem shr_fit (z m : Nat) : ((z : Int) / 2 ^ (8 * (1 + m) - 1) / 2 = 0) ↔ z < 256 ^ (1 + m) := by
  have e1 : 2 ^ (8 * (1 + m) - 1) * 2 = 256 ^ (1 + m) := by
    rw [← Nat.pow_succ, show (8 * (1 + m) - 1).succ = 8 * (1 + m) by omega, Nat.pow_mul]
  have e2 : (z : Int) / 2 ^ (8 * (1 + m) - 1) / 2 = ((z / 2 ^ (8 * (1 + m) - 1) / 2 : Nat) : Int) := by
    rw [Int.natCast_ediv, Int.natCast_ediv, Int.natCast_pow]; rfl
  rw [e2, Nat.div_div_eq_div_mul, e1]
  have hp : 0 < 256 ^ (1 + m) := Nat.pow_pos (by decide)
  generalize 256 ^ (1 + m) = p at *
  constructor
  · intro h
    have h0 : z / p = 0 := by omega
    rcases Nat.div_eq_zero_iff.1 h0 with h | h <;> omega
  · intro h
    rw [Nat.div_eq_of_lt h]; rfl

set_option maxRecDepth 100000 in
set_option maxHeartbeats 4000000 in
theorem walk (w : World) (hv : Vars w) (a1 : Int) (w1 : (Lit.int .u64 a1).wf = true) (a2 : Int) (w2 : (Lit.int .u64 a2).wf = true) (a3 : Int) (w3 : (Lit.int .u8 a3).wf = true) :
    Calls Tryd.prog 6 #[.int .u64 a1, .int .u64 a2, .int .u8 a3] w fun e w' => e = .returned (.bool true) ∧ Below w.heap.size w w' := by
  obtain ⟨a, rfl, ha⟩ := wf_u64 w1
  obtain ⟨b, rfl, hb⟩ := wf_u64 w2
  obtain ⟨n, rfl, hn⟩ := wf_u8 w3
  clear w1 w2 w3
  have x0 : IntKind.i64.wrap (n : Int) = n := IntWalk.i64_in _ (by omega)
  have x1 : wrap64 (n : Int) = n := by unfold wrap64; omega
  have x2 : Int.tmod (n : Int) 8 = ((n % 8 : Nat) : Int) := by rw [Int.tmod_eq_emod_of_nonneg (by omega)]; omega
  have x3 : IntKind.i64.wrap (1 + ((n % 8 : Nat) : Int)) = 1 + ((n % 8 : Nat) : Int) := IntWalk.i64_in _ (by omega)
  have k1 : 1 ≤ 1 + n % 8 := by omega
  have k8 : 1 + n % 8 ≤ 8 := by omega
  generalize n % 8 = m at *
  have hcast : (1 : Int) + (m : Int) = ((1 + m : Nat) : Int) := by omega
  have pz : ∀ z : Nat, z ≤ 18446744073709551615 → ¬ z < 256 ^ (1 + m) → ∀ w, Calls Tryd.prog 8 #[.slice none 0 0, .int .u64 (z : Int), .int .i64 (1 + (m : Int))] w fun e w' => e = .returned (.tuple #[.slice none 0 0, .int .i64 1]) ∧ w' = w := by
    intro z hz hf w
    rw [hcast]; exact put_big none 0 0 z (1 + m) w hz k1 k8 hf
  have pk : ∀ z : Nat, z ≤ 18446744073709551615 → z < 256 ^ (1 + m) → ∀ w, Calls Tryd.prog 8 #[.slice none 0 0, .int .u64 (z : Int), .int .i64 (1 + (m : Int))] w fun e w' => ∃ g c', e = .returned (.tuple #[.slice (some ⟨g, 0, none⟩) (1 + m) c', .int .i64 0]) ∧ Src w' (some ⟨g, 0, none⟩) (1 + m) c' (be z (1 + m)) ∧ Below w.heap.size w w' := by
    intro z hz hf w
    rw [hcast]
    refine (put_ok none 0 0 [] z (1 + m) w (Src.nil w) (by omega) hz k1 k8 hf).mono ?_
    rintro e w' ⟨g, c', rfl, O, b⟩
    rw [Nat.zero_add] at *
    exact ⟨g, c', rfl, O.src, b⟩
  by_cases fa : a < 256 ^ (1 + m)
  · by_cases fb : b < 256 ^ (1 + m)
    · have hls := less_be a b (1 + m)
      rw [Nat.mod_eq_of_lt fa, Nat.mod_eq_of_lt fb] at hls
      have ka := Lib.hid (pk a ha fa)
      have kb := Lib.hid (pk b hb fb)
      clear fa fb pk pz hcast
      go_enter Tryd.func6, Tryd.ntmps6
      go_wp2_with fail
      refine (alive_any _ hv).mono ?_; rintro e w1 ⟨rfl, b1⟩
      have B1 := Lib.hid b1
      clear b1
      go_wp2_with fail
      refine (ka.out _).mono ?_; rintro e w2 ⟨g, c2, rfl, s2, b2⟩
      have B2 := Lib.hid (B1.out.trans (b2.mono B1.out.size))
      clear b2
      go_wp2_with fail
      refine (kb.out _).mono ?_; rintro e w3 ⟨g3, c3, rfl, s3, b3⟩
      have t1 := told_str (s2.below b3)
      have t2 := told_str s3
      have B3 := Lib.hid (B2.out.trans (b3.mono B2.out.size))
      clear b3 s2 s3 ka kb
      go_wp2
      go_ret
      exact ⟨rfl, B3.out⟩
    · have ka := Lib.hid (pk a ha fa)
      have kb := Lib.hid (pz b hb fb)
      have qa : ((a : Int) / 2 ^ (8 * (1 + m) - 1) / 2 = 0) := (shr_fit a m).2 fa
      have qb : ¬ ((b : Int) / 2 ^ (8 * (1 + m) - 1) / 2 = 0) := fun h => fb ((shr_fit b m).1 h)
      clear fa fb pk pz hcast
      go_enter Tryd.func6, Tryd.ntmps6
      go_wp2_with fail
      refine (alive_any _ hv).mono ?_; rintro e w1 ⟨rfl, b1⟩
      have B1 := Lib.hid b1
      clear b1
      go_wp2_with fail
      refine (ka.out _).mono ?_; rintro e w2 ⟨g, c2, rfl, s2, b2⟩
      have B2 := Lib.hid (B1.out.trans (b2.mono B1.out.size))
      clear b2 s2
      go_wp2_with fail
      refine (kb.out _).mono ?_; rintro e w3 ⟨rfl, rfl⟩
      have B3 := B2
      clear ka kb
      go_wp2
      go_ret
      exact ⟨by simp [qb], B3.out⟩
  · have ka := Lib.hid (pz a ha fa)
    by_cases fb : b < 256 ^ (1 + m)
    · have kb := Lib.hid (pk b hb fb)
      have qa : ¬ ((a : Int) / 2 ^ (8 * (1 + m) - 1) / 2 = 0) := fun h => fa ((shr_fit a m).1 h)
      have qb : ((b : Int) / 2 ^ (8 * (1 + m) - 1) / 2 = 0) := (shr_fit b m).2 fb
      clear fa fb pk pz hcast
      go_enter Tryd.func6, Tryd.ntmps6
      go_wp2_with fail
      refine (alive_any _ hv).mono ?_; rintro e w1 ⟨rfl, b1⟩
      have B1 := Lib.hid b1
      clear b1
      go_wp2_with fail
      refine (ka.out _).mono ?_; rintro e w2 ⟨rfl, rfl⟩
      have B2 := B1
      go_wp2_with fail
      refine (kb.out _).mono ?_; rintro e w3 ⟨g3, c3, rfl, s3, b3⟩
      have B3 := Lib.hid (B2.out.trans (b3.mono B2.out.size))
      clear b3 s3
      clear ka kb
      go_wp2
      go_ret
      exact ⟨by simp [qa], B3.out⟩
    · have kb := Lib.hid (pz b hb fb)
      have qa : ¬ ((a : Int) / 2 ^ (8 * (1 + m) - 1) / 2 = 0) := fun h => fa ((shr_fit a m).1 h)
      have qb : ¬ ((b : Int) / 2 ^ (8 * (1 + m) - 1) / 2 = 0) := fun h => fb ((shr_fit b m).1 h)
      clear fa fb pk pz hcast
      go_enter Tryd.func6, Tryd.ntmps6
      go_wp2_with fail
      refine (alive_any _ hv).mono ?_; rintro e w1 ⟨rfl, b1⟩
      have B1 := Lib.hid b1
      clear b1
      go_wp2_with fail
      refine (ka.out _).mono ?_; rintro e w2 ⟨rfl, rfl⟩
      have B2 := B1
      go_wp2_with fail
      refine (kb.out _).mono ?_; rintro e w3 ⟨rfl, rfl⟩
      have B3 := B2
      clear ka kb
      go_wp2
      go_ret
      exact ⟨by simp [qa, qb], B3.out⟩

set_option maxRecDepth 100000 in
theorem reads (os : Os) {H : Type} (enc : TypeId × Value → H) : DataW.whole enc Tryd.prog ((World.laidAll Tryd.prog os Rows.octetOrderRow.laid).forCall (fun _ _ => 0) ⟨#[], #[.int .u64 0, .int .u64 0, .int .u8 0], []⟩).memory Tryd.f6.params.toList Rows.octetOrderSpec.vars false (#[.int .u64 0, .int .u64 0, .int .u8 0] : Array Value).toList 8 = some ([.lit (.int .u64 0), .lit (.int .u64 0), .lit (.int .u8 0)], [], []) := by kernel_rfl
set_option maxRecDepth 100000 in
theorem lifted (os : Os) (started : os.Started) (H : Type) (enc : TypeId × Value → H) (F : Stop.Interp) :
    ReturnsInHanded {} Tryd.checked os 6 .any ((OpenSpec.ofChange Rows.octetOrderSpec).preRow enc Tryd.prog Tryd.f6 Rows.octetOrderRow.domain false Rows.octetOrderRow.laid) (((OpenSpec.ofChange Rows.octetOrderSpec).at F).post enc Tryd.prog Tryd.f6 false true false false) := by
  refine returnsInHanded_of_row (C := Tryd.checked) (s := OpenSpec.ofChange Rows.octetOrderSpec) own started (by kernel_rfl) Tryd.func6
    ⟨World.laidAll Tryd.prog os Rows.octetOrderRow.laid, fun _ _ => 0, ⟨#[], #[.int .u64 0, .int .u64 0, .int .u8 0], []⟩, World.laidAll_os _ _ _, World.shaped_of_ZipB (by kernel_rfl) (by kernel_rfl), rfl, (Input.okWide_of_okWideB (by kernel_rfl)).2,
      OpenSpec.preRow_of_cond 8 (reads os enc) (by kernel_rfl) (fun k hk => by cases hk) (by kernel_rfl) (by rw [MakeChecks.laidMetH_plain _ _ _ (by kernel_rfl)]; exact laidMet_laidAll _ (by kernel_rfl) (by kernel_rfl)), by simp [Assume.holds]⟩ ?_
  intro W base args ds gs before hval0 hW _ _ _ hL hsh _
  have hval : ∀ (j : Nat) t v, Tryd.f6.params[j]? = some t → args[j]? = some v → Value.okWide Tryd.prog W .any base t v := hval0
  have hvars : Vars W := Vars.of hL hsh
  have hW' := hW
  obtain ⟨p, q, hA0, hV, rfl, hfz, hnd⟩ := hW
  have hA : DataW.TrodAll enc Tryd.prog W 0 (fun _ => true) true Tryd.f6.params.toList args.toList ds p := hA0
  rw [Tryd.params6] at hA hval
  obtain ⟨v0, vs0, d0, ds0, p0, q0, hargs, rfl, rfl, h0, r0⟩ := trodAll_cons hA
  obtain ⟨v1, vs1, d1, ds1, p1, q1, rfl, rfl, rfl, h1, r1⟩ := trodAll_cons r0
  obtain ⟨v2, vs2, d2, ds2, p2, q2, rfl, rfl, rfl, h2, r2⟩ := trodAll_cons r1
  obtain ⟨rfl, rfl, rfl⟩ := trodAll_nil r2
  obtain rfl : args = #[v0, v1, v2] := by cases args; simp_all
  obtain ⟨a0, rfl, _, _, w0⟩ := open_int Tryd.underlying23 (hval 0 23 v0 rfl rfl) h0
  obtain ⟨a1, rfl, _, _, w1⟩ := open_int Tryd.underlying23 (hval 1 23 v1 rfl rfl) h1
  obtain ⟨a2, rfl, _, _, w2⟩ := open_int Tryd.underlying5 (hval 2 5 v2 rfl rfl) h2
  clear hA0 hval0
  exact law_close hW' laidOut (by kernel_rfl) rfl Tryd.underlying4 rfl ⟨rfl, rfl, rfl⟩ (walk W hvars a0 w0 a1 w1 a2 w2)

theorem over : Rows.octetOrderRow.holds Tryd.pinned (OpenSpec.ofChange Rows.octetOrderSpec) :=
  OpenClaim.holds_of_cond 6 Tryd.f6 rfl rfl rfl rfl rfl rfl rfl ⟨rfl, rfl, rfl, rfl, rfl⟩ rfl rfl rfl rfl rfl (by kernel_rfl) Tryd.func6 (by kernel_rfl)
    (of_decide_eq_true (by kernel_rfl)) (by unfold Func.isWrapper; first | (rw [if_pos (by decide +kernel)]; kernel_rfl) | (rw [if_neg (by decide +kernel)]; exact ⟨rfl, rfl⟩))
    (fun os started H enc _ F => by rw [OpenClaim.pre_eq_preRow]; exact lifted os started H enc F)

theorem plain (f : FuncId) (fn : Func) (hf : Tryd.pinned.checked.prog.funcNamed "pantler/pantlerlaw02.OctetOrder" = some f) (hfn : Tryd.pinned.checked.prog.funcs[f]? = some fn) :
    Rows.octetOrderCard.stood.looks = Tryd.pinned.checked.prog.looks [] ∧ ∀ (j : Nat) t, fn.params[j]? = some t → Tryd.pinned.checked.prog.wantsStandIn t = false := by
  obtain rfl : f = 6 := Option.some.inj ((show Tryd.prog.funcNamed "pantler/pantlerlaw02.OctetOrder" = some 6 by kernel_rfl).symm.trans hf) |>.symm
  obtain rfl : fn = Tryd.f6 := (Option.some.inj (Tryd.func6.symm.trans hfn)).symm
  refine ⟨by kernel_rfl, fun j t ht => ?_⟩
  rw [Tryd.params6] at ht
  have hm : t ∈ [23, 5] := by simpa using Array.mem_of_getElem? ht
  have hall : ([23, 5].all fun u => !Tryd.prog.wantsStandIn u) = true := by kernel_rfl
  exact (show Tryd.prog.wantsStandIn t = false by simpa using List.all_eq_true.1 hall t hm)

theorem proved : Rows.OctetOrderCardSaid :=
  Claim7.holds_tied_plain_at .later [] _ _ _ _ over (fun _ h => by cases h) (by kernel_rfl) (fun _ h => by cases h) octetOrder_row_tie rfl ⟨rfl, rfl⟩ (by kernel_rfl) rfl plain (by kernel_rfl)

end Go.Proofs.YtflbckeebmlofaaDoor.octetOrder
