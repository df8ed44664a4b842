/- Package lex in plain words; its table: newTable, mark, is, all. Conditions: those that each states. -/
import Derived.Test.YtfkfnmoilagahaaBase
import Derived.StillTailTactics
import Derived.Deep.SlicePairs
import Derived.Laws.BitsAllLaws
import Derived.Deep.DeepCutAuto
import Derived.Deep.LoopGhost
namespace Go.Proofs.Ytfkfnmoilagahaa.Lx
open Go.ChangeShapes Go.WideShapes Go.ChangeAt Go.RowKit Go.Deep
set_option linter.unusedVariables false
set_option linter.unusedSimpArgs false

/-- A table of 256 numbers as cells. -/
def tv (f : Nat → Nat) : Array Value := ((List.range 256).map fun c => Value.int .u8 (f c : Int)).toArray
theorem tv_size (f : Nat → Nat) : (tv f).size = 256 := by simp [tv]
theorem tv_get (f : Nat → Nat) {c : Nat} (h : c < 256) : (tv f)[c]? = some (.int .u8 (f c : Int)) := by simp [tv, h]
theorem tv_set (f : Nat → Nat) {c v : Nat} (h : c < 256) : (tv f).setIfInBounds c (.int .u8 (v : Int)) = tv (fun k => if k = c then v else f k) := by
  apply Array.ext'
  apply List.ext_getElem?
  intro j
  simp only [tv, Array.toList_setIfInBounds, List.getElem?_set, List.getElem?_map, List.length_map, List.length_range]
  by_cases hj : j < 256
  · rw [List.getElem?_range hj]
    by_cases e : c = j
    · subst e; simp [h]
    · rw [if_neg e]; show _ = some (Value.int .u8 ((if j = c then v else f j : Nat) : Int)); rw [if_neg (fun e' : j = c => e e'.symm)]; rfl
  · rw [List.getElem?_eq_none (by simp; omega)]
    simp; omega
theorem tv_ext {f g : Nat → Nat} (h : ∀ c, c < 256 → f c = g c) : tv f = tv g := by
  unfold tv
  congr 1
  apply List.map_congr_left
  intro c hc
  rw [h c (by simpa using hc)]
/-- What a byte is. -/
def digB (c : Nat) : Bool := decide (48 ≤ c ∧ c ≤ 57)
def capB (c : Nat) : Bool := decide (65 ≤ c ∧ c ≤ 90)
def blaB (c : Nat) : Bool := decide (c = 32 ∨ c = 9)
def valB (c : Nat) : Bool := decide (32 ≤ c ∧ c ≤ 126 ∨ 128 ≤ c ∨ c = 9)
def marksL : List Nat := [33, 35, 36, 37, 38, 39, 42, 43, 45, 46, 94, 95, 96, 124, 126]
def tokB (c : Nat) : Bool := decide (97 ≤ c ∧ c ≤ 122) || capB c || digB c || marksL.contains c
/-- A byte's kinds, as the table has them. -/
def kindN (c : Nat) : Nat := (if tokB c then 1 else 0) + (if valB c then 2 else 0) + (if blaB c then 4 else 0) + (if digB c then 8 else 0) + (if capB c then 16 else 0)
def mk (f : Nat → Nat) (a b k : Nat) : Nat → Nat := fun c => if a ≤ c ∧ c ≤ b then f c ||| k else f c
theorem mk_lt {f : Nat → Nat} (h : ∀ c, f c < 256) {a b k : Nat} (hk : k < 256) : ∀ c, mk f a b k c < 256 := by
  intro c
  unfold mk
  split
  · exact Nat.or_lt_two_pow (n := 8) (h c) hk
  · exact h c
/-- A table in memory. -/
def Tab (w : World) (g : Nat) (f : Nat → Nat) : Prop := Blk w g 44 (tv f) ∧ ∀ c, f c < 256
theorem Tab.chg {w w' : World} {g : Nat} {f : Nat → Nat} {S : Nat → Prop} (h : Tab w g f) (k : Chg w w' S) (hn : ¬ S g) : Tab w' g f := ⟨h.1.chg k hn, h.2⟩
theorem Tab.below {w w' : World} {g : Nat} {f : Nat → Nat} (h : Tab w g f) (k : Below w.heap.size w w') : Tab w' g f := ⟨(k.block g h.1.lt).trans h.1, h.2⟩
theorem Tab.set {w : World} {g c v : Nat} {f : Nat → Nat} (h : Tab w g f) (hc : c < 256) (hv : v < 256) : Tab (w.setCell ⟨g, c, none⟩ (.int .u8 (v : Int))) g (fun k => if k = c then v else f k) := by
  refine ⟨?_, fun k => ?_⟩
  · have := h.1.put c (.int .u8 (v : Int))
    rw [tv_set f hc] at this
    exact this
  · show (if k = c then v else f k) < 256
    split
    · exact hv
    · exact h.2 k

set_option maxRecDepth 100000 in
theorem mark_any (g a b k : Nat) (f : Nat → Nat) (hk : k < 256) (hab : a ≤ b) (hb : b < 256) (w : World) (h : Tab w g f) :
    Calls Try.prog 23 #[.pointer (some ⟨g, 0, none⟩), .int .i64 (a : Int), .int .i64 (b : Int), .int .u8 (k : Int)] w fun e w' => e = .returned (.tuple #[]) ∧ Tab w' g (mk f a b k) ∧ Chg w w' (fun i => i = g) := by
  have h0 := Lib.hid (show Tab w g (fun c => if a ≤ c ∧ c < a then f c ||| k else f c) from by
    have : (fun c => if a ≤ c ∧ c < a then f c ||| k else f c) = f := by funext c; rw [if_neg (by omega)]
    rw [this]; exact h)
  have HF := Lib.hid h.2
  clear h
  go_enter Try.func23, Try.ntmps23
  go_upto_region 1 with fail
  go_loopw [8] (fun i wr => ∃ j : Nat, a ≤ j ∧ j ≤ b + 1 ∧ i = .int .i64 (j : Int) ∧ Hid (Tab wr g (fun c => if a ≤ c ∧ c < j then f c ||| k else f c) ∧ Chg w wr (fun i => i = g))) (fun i _ => b + 1 - (intOf i).toNat)
  case atStart => exact ⟨a, Nat.le_refl _, by omega, rfl, Lib.hid ⟨h0.out, Chg.refl _ _⟩⟩
  case round =>
    obtain ⟨j, hja, hj, rfl, HT⟩ := hrel
    by_cases hlt : j < b + 1
    · have jl : (j : Int) ≤ (b : Int) := by omega
      have j0 : (0 : Int) ≤ (j : Int) := by omega
      have j1 : (j : Int) < 256 := by omega
      have xj := IntWalk.i64_in ((j : Int) + 1) (by omega)
      have cj := HT.out.1.1.cell j
      rw [tv_get _ (by omega), if_neg (by omega)] at cj
      have fz := HT.out.1.1.frozen j
      have ob := u8_or_nat (f j) k (HF.out j) hk
      have T2 := fun m : Nat => (HT.out.1.chg ((Chg.refl wr (fun _ => False)).drewN m) id).set (c := j) (v := f j ||| k) (by omega) (Nat.or_lt_two_pow (n := 8) (HF.out j) hk)
      have T3 := Lib.hid (show ∀ m : Nat, Tab ((wr.drewN m).setCell ⟨g, j, none⟩ (.int .u8 ((f j ||| k : Nat) : Int))) g (fun c => if a ≤ c ∧ c < j + 1 then f c ||| k else f c) ∧ Chg w ((wr.drewN m).setCell ⟨g, j, none⟩ (.int .u8 ((f j ||| k : Nat) : Int))) (fun i => i = g) from fun m => by
        refine ⟨?_, (HT.out.2.drewN m).trans (Chg.set _ _ _ rfl)⟩
        have e : (fun c => if a ≤ c ∧ c < j + 1 then f c ||| k else f c) = (fun c => if c = j then f j ||| k else if a ≤ c ∧ c < j then f c ||| k else f c) := by
          funext c
          by_cases h1 : c = j
          · subst h1; rw [if_pos (by omega), if_pos rfl]
          · by_cases h2 : a ≤ c ∧ c < j
            · rw [if_pos (by omega), if_neg h1, if_pos h2]
            · rw [if_neg (by omega), if_neg h1, if_neg h2]
        rw [e]
        exact T2 m)
      clear HT T2 h0
      go_upto_region 3 with fail
      go_region
      go_wp2
      go_roundw
      case rel => exact ⟨j + 1, by omega, by omega, by simp, Lib.hid (T3.out _)⟩
      case measure => simp [intOf]; omega
    · have je : j = b + 1 := by omega
      subst je
      have jl : ¬ ((b + 1 : Nat) : Int) ≤ (b : Int) := by omega
      have E := Lib.hid (show (fun c => if a ≤ c ∧ c < b + 1 then f c ||| k else f c) = mk f a b k from by
        funext c; unfold mk
        by_cases h : a ≤ c ∧ c ≤ b
        · rw [if_pos h, if_pos (by omega)]
        · rw [if_neg h, if_neg (by omega)])
      rw [E.out] at HT
      go_wp2
      go_end0
      exact ⟨rfl, HT.out⟩
/-- What newTable lays: the five ranges, then the marks, then the blanks. -/
def base5 : Nat → Nat := mk (mk (mk (mk (mk (fun _ => 0) 32 126 2) 128 255 2) 97 122 1) 65 90 17) 48 57 9
def fold (f : Nat → Nat) : List Nat → Nat → Nat
  | [] => f
  | c :: r => fold (fun k => if k = c then f c ||| 1 else f k) r
theorem fold_snoc (f : Nat → Nat) : ∀ (l : List Nat) (c : Nat), fold f (l ++ [c]) = fun k => if k = c then fold f l c ||| 1 else fold f l k
  | [], c => rfl
  | x :: l, c => by
    show fold (fun k => if k = x then f x ||| 1 else f k) (l ++ [c]) = _
    rw [fold_snoc _ l c]
    rfl
def last2 (f : Nat → Nat) : Nat → Nat := fun k => if k = 9 then (if 9 = 32 then f 32 ||| 4 else f 9) ||| 6 else if k = 32 then f 32 ||| 4 else f k
theorem all_tab : ∀ c, c < 256 → last2 (fold base5 marksL) c = kindN c := by
  have h : ∀ c : Fin 256, last2 (fold base5 marksL) c.1 = kindN c.1 := by decide +kernel
  exact fun c hc => h ⟨c, hc⟩
theorem kindN_lt (c : Nat) : kindN c < 256 := by
  unfold kindN
  split <;> split <;> split <;> split <;> split <;> omega
theorem base5_lt : ∀ c, base5 c < 256 := by
  unfold base5
  exact mk_lt (mk_lt (mk_lt (mk_lt (mk_lt (fun _ => Nat.zero_lt_succ 255) (by decide)) (by decide)) (by decide)) (by decide)) (by decide)
theorem fold_lt : ∀ (l : List Nat) {f : Nat → Nat}, (∀ c, f c < 256) → ∀ c, fold f l c < 256
  | [], _, h => h
  | x :: l, f, h => fold_lt l fun c => by
    show (if c = x then f x ||| 1 else f c) < 256
    split
    · exact Nat.or_lt_two_pow (n := 8) (h x) (by decide)
    · exact h c
theorem Tab.ext {w : World} {g : Nat} {f f' : Nat → Nat} (h : Tab w g f) (he : ∀ c, c < 256 → f c = f' c) (hl : ∀ c, f' c < 256) : Tab w g f' := by
  refine ⟨?_, hl⟩
  rw [← tv_ext he]
  exact h.1
theorem zero_tab (w : World) : Tab (w.alloc (.cells (tv fun _ => 0) 44)) w.heap.size (fun _ => 0) := ⟨Blk.new w _ _, fun _ => Nat.zero_lt_succ 255⟩

theorem zero_run (W : World) : (zeroValue 44).run Try.prog W = .ok (.agg (tv fun _ => 0)) W := by
  obtain ⟨i, hi, hs⟩ := Option.map_eq_some_iff.1 (show (Try.prog.info? 44).map (·.zero) = some (some (.agg (tv fun _ => 0))) by kernel_rfl)
  simp [zeroValue, typeInfo, hi, hs]
theorem fold_take (k : Nat) (h : k < marksL.length) : fold base5 (marksL.take (k + 1)) = fun c => if c = marksL[k] then fold base5 (marksL.take k) marksL[k] ||| 1 else fold base5 (marksL.take k) c := by
  rw [List.take_succ_eq_append_getElem h, fold_snoc]

set_option maxRecDepth 100000 in
theorem newTable_any (w : World) : Calls Try.prog 17 #[] w fun e w' => e = .returned (.pointer (some ⟨w.heap.size, 0, none⟩)) ∧ Tab w' w.heap.size kindN ∧ Below w.heap.size w w' := by
  have Z := Lib.hid (zero_tab w)
  have ZR := Lib.hid zero_run
  have Z2 := Lib.hid ((Below.refl w.heap.size w).alloc (Nat.le_refl _) (.cells (tv fun _ => 0) 44))
  go_enter Try.func17, Try.ntmps17
  go_wp2_with (rw [show Sem.run Try.prog (zeroValue 44) w = _ from ZR.out w])
  have C0 := Lib.hid (Chg.refl (w.alloc (.cells (tv fun _ => 0) 44)) (fun i => i = w.heap.size))
  refine (mark_any w.heap.size 32 126 2 _ (by decide) (by decide) (by decide) _ Z.out).mono ?_; rintro e w1 ⟨rfl, t1, c1⟩
  have T1 := Lib.hid t1
  have C1 := Lib.hid (C0.out.trans c1)
  clear t1 c1 Z C0
  go_wp2_with fail
  refine (mark_any w.heap.size 128 255 2 _ (by decide) (by decide) (by decide) _ T1.out).mono ?_; rintro e w2 ⟨rfl, t2, c2⟩
  have T2 := Lib.hid t2
  have C2 := Lib.hid (C1.out.trans c2)
  clear t2 c2 T1 C1
  go_wp2_with fail
  refine (mark_any w.heap.size 97 122 1 _ (by decide) (by decide) (by decide) _ T2.out).mono ?_; rintro e w3 ⟨rfl, t3, c3⟩
  have T3 := Lib.hid t3
  have C3 := Lib.hid (C2.out.trans c3)
  clear t3 c3 T2 C2
  go_wp2_with fail
  refine (mark_any w.heap.size 65 90 17 _ (by decide) (by decide) (by decide) _ T3.out).mono ?_; rintro e w4 ⟨rfl, t4, c4⟩
  have T4 := Lib.hid t4
  have C4 := Lib.hid (C3.out.trans c4)
  clear t4 c4 T3 C3
  go_wp2_with fail
  refine (mark_any w.heap.size 48 57 9 _ (by decide) (by decide) (by decide) _ T4.out).mono ?_; rintro e w5 ⟨rfl, t5, c5⟩
  have T5 := Lib.hid t5
  have C5 := Lib.hid (C4.out.trans c5)
  clear t5 c5 T4 C4
  have T5 : Hid (Tab w5 w.heap.size (fold base5 (marksL.take 0))) := T5
  go_upto_region 8 with fail
  go_loopw [8] (fun i wr => ∃ j : Nat, j ≤ 15 ∧ i = .int .i64 (j : Int) ∧ Hid (Tab wr w.heap.size (fold base5 (marksL.take j)) ∧ Chg (w.alloc (.cells (tv fun _ => 0) 44)) wr (fun i => i = w.heap.size))) (fun i _ => 15 - (intOf i).toNat)
  case atStart => exact ⟨0, by omega, rfl, Lib.hid ⟨T5.out, C5.out⟩⟩
  case round =>
    obtain ⟨j, hj, rfl, HT⟩ := hrel
    by_cases hlt : j < 15
    · have jl : (j : Int) < 15 := by omega
      have j0 : (0 : Int) ≤ (j : Int) := by omega
      have xj := IntWalk.i64_in ((j : Int) + 1) (by omega)
      obtain ⟨c, hc⟩ : ∃ c, c = marksL[j]'(by exact hlt) := ⟨_, rfl⟩
      have hc256 : c < 256 := by
        have : ∀ k : Fin 15, marksL[k.1]'(k.2) < 256 := by decide
        rw [hc]; exact this ⟨j, hlt⟩
      have hcl : (c : Int) < 256 := by omega
      have hc0 : (0 : Int) ≤ (c : Int) := by omega
      have F := fold_take j hlt
      rw [← hc] at F
      obtain ⟨f, hf⟩ : ∃ f, f = fold base5 (marksL.take j) := ⟨_, rfl⟩
      rw [← hf] at F HT
      have hfl : ∀ c, f c < 256 := HT.out.1.2
      have cj := HT.out.1.1.cell c
      rw [tv_get _ hc256] at cj
      have fz := HT.out.1.1.frozen c
      have ob : bits .or .u8 (f c : Int) 1 = ((f c ||| 1 : Nat) : Int) := u8_or_nat (f c) 1 (hfl c) (by decide)
      have T3 := Lib.hid (show Tab (wr.setCell ⟨w.heap.size, c, none⟩ (.int .u8 ((f c ||| 1 : Nat) : Int))) w.heap.size (fold base5 (marksL.take (j + 1))) ∧ Chg (w.alloc (.cells (tv fun _ => 0) 44)) (wr.setCell ⟨w.heap.size, c, none⟩ (.int .u8 ((f c ||| 1 : Nat) : Int))) (fun i => i = w.heap.size) from by
        rw [F]
        exact ⟨HT.out.1.set hc256 (Nat.or_lt_two_pow (n := 8) (hfl c) (by decide)), HT.out.2.trans (Chg.set _ _ _ rfl)⟩)
      have hM : ∀ h : j < 15, ((([33, 35, 36, 37, 38, 39, 42, 43, 45, 46, 94, 95, 96, 124, 126] : List UInt8)[j]'h).toNat : Int) = (c : Int) := by
        have : ∀ k : Fin 15, ((([33, 35, 36, 37, 38, 39, 42, 43, 45, 46, 94, 95, 96, 124, 126] : List UInt8)[k.1]'k.2).toNat : Int) = ((marksL[k.1]'(k.2) : Nat) : Int) := by decide
        intro h; rw [hc]; exact this ⟨j, hlt⟩
      obtain ⟨l, hl⟩ : ∃ l : List UInt8, l = [33, 35, 36, 37, 38, 39, 42, 43, 45, 46, 94, 95, 96, 124, 126] := ⟨_, rfl⟩
      have hlen : l.length = 15 := by rw [hl]; rfl
      have hM2 : ∀ h : j < l.length, ((l[j]'h).toNat : Int) = (c : Int) := by subst hl; exact hM
      have hsz : (⟨l.toArray⟩ : ByteArray).size = l.length := rfl
      have hM3 : ((((⟨l.toArray⟩ : ByteArray)[j]'(by rw [hsz, hlen]; exact hlt)).toNat : Int)) = (c : Int) := hM2 _
      have jl2 : (j : Int) < (l.length : Int) := by omega
      have HL := Lib.hid hl
      clear hM hM2 hl HT F hc hf hfl
      go_upto_region 10 with fail
      rw [show (⟨#[33, 35, 36, 37, 38, 39, 42, 43, 45, 46, 94, 95, 96, 124, 126]⟩ : ByteArray) = ⟨l.toArray⟩ from by rw [HL.out]]
      clear HL
      go_wp2
      go_roundw
      case rel => exact ⟨j + 1, by omega, by simp, T3⟩
      case measure => simp [intOf]; omega
    · have je : j = 15 := by omega
      subst je
      clear T5 C5
      obtain ⟨f, hf⟩ : ∃ f, f = fold base5 marksL := ⟨_, rfl⟩
      have hfl : ∀ c, f c < 256 := by rw [hf]; exact fold_lt _ base5_lt
      have HT : Hid (Tab wr w.heap.size f ∧ Chg (w.alloc (.cells (tv fun _ => 0) 44)) wr (fun i => i = w.heap.size)) := by rw [hf]; exact HT
      have c32 := HT.out.1.1.cell 32
      rw [tv_get _ (by decide)] at c32
      have f32 := HT.out.1.1.frozen 32
      have o32 : bits .or .u8 (f 32 : Int) 4 = ((f 32 ||| 4 : Nat) : Int) := u8_or_nat (f 32) 4 (hfl _) (by decide)
      have T2 := Lib.hid (HT.out.1.set (c := 32) (v := f 32 ||| 4) (by decide) (Nat.or_lt_two_pow (n := 8) (hfl _) (by decide)))
      have C2 := Lib.hid (HT.out.2.trans (Chg.set (S := fun i => i = w.heap.size) wr 32 (.int .u8 ((f 32 ||| 4 : Nat) : Int)) rfl))
      obtain ⟨f', hf'⟩ : ∃ f', f' = (fun k => if k = 32 then f 32 ||| 4 else f k) := ⟨_, rfl⟩
      obtain ⟨wx, hwx⟩ : ∃ wx, wx = wr.setCell ⟨w.heap.size, 32, none⟩ (.int .u8 ((f 32 ||| 4 : Nat) : Int)) := ⟨_, rfl⟩
      rw [← hf', ← hwx] at T2
      rw [← hwx] at C2
      have hfl' : ∀ c, f' c < 256 := T2.out.2
      have c9 := T2.out.1.cell 9
      rw [tv_get _ (by decide)] at c9
      have f9 := T2.out.1.frozen 9
      have o9 : bits .or .u8 (f' 9 : Int) 6 = ((f' 9 ||| 6 : Nat) : Int) := u8_or_nat (f' 9) 6 (hfl' _) (by decide)
      have T3 := T2.out.set (c := 9) (v := f' 9 ||| 6) (by decide) (Nat.or_lt_two_pow (n := 8) (hfl' _) (by decide))
      have T4 := Lib.hid (T3.ext (f' := kindN) (fun c hc => by
        have := all_tab c hc
        rw [← hf] at this
        rw [← this, hf']
        rfl) kindN_lt)
      have C3 := Lib.hid ((C2.out.trans (Chg.set (S := fun i => i = w.heap.size) wx 9 (.int .u8 ((f' 9 ||| 6 : Nat) : Int)) rfl)).below (B := w.heap.size) (by simp) (fun k hk => Nat.le_of_eq hk.symm))
      have C4 := Lib.hid (show Below w.heap.size w _ from Z2.out.trans C3.out)
      have HWX := Lib.hid hwx
      have O32 := Lib.hid o32
      clear HT T3 T2 C2 hfl hfl' hf' hf hwx o32 C3
      go_upto_region 12 with fail
      go_upto_region 13 with fail
      rw [O32.out, ← HWX.out]
      go_wp2
      go_ret
      exact ⟨rfl, T4.out, C4.out⟩
end Go.Proofs.Ytfkfnmoilagahaa.Lx
