/- Package lex: Lower; strings.Cut at a byte; Field. Conditions: those that each states. -/
import Derived.Test.YtfkfnmoilagahaaLx2
import Derived.Test.YtfkfnmoilagahaaConv
import Derived.Test.YtfkfnmoilagahaaCom
import Derived.Test.YtfkfnmoilagahaaShelf
namespace Go.Proofs.Ytfkfnmoilagahaa.Lx
open Go.ChangeShapes Go.WideShapes Go.ChangeAt Go.RowKit Go.Deep
set_option linter.unusedVariables false
set_option linter.unusedSimpArgs false

theorem convB_set {w : World} {g n c j : Nat} {l : List UInt8} (h : ConvB w g n c l) (hj : j < l.length) (v : UInt8) : ConvB (w.setCell ⟨g, j, none⟩ (.int .u8 (v.toNat : Int))) g n c (l.set j v) := by
  obtain ⟨⟨cur, hh, hs, r⟩, hl, hc, hm⟩ := h
  refine ⟨⟨cur.setIfInBounds j (.int .u8 (v.toNat : Int)), ?_, by simpa using hs, fun k hk => ?_⟩, by simpa using hl, hc, hm⟩
  · simp [World.setCell, Array.getElem?_modify, hh]
  · rw [List.length_set] at hk
    by_cases e : j = k
    · subst e
      have : j < cur.size := by omega
      simp [this]
    · rw [Array.getElem?_setIfInBounds_ne e, List.getElem_set_ne e]
      exact r k hk
theorem convB_chg {w w' : World} {g n c : Nat} {l : List UInt8} {S : Nat → Prop} (h : ConvB w g n c l) (k : Chg w w' S) (hn : ¬ S g) : ConvB w' g n c l := by
  obtain ⟨cur, hh, r⟩ := h.row
  exact ⟨⟨cur, (k.block g h.lt hn).trans hh, r⟩, h.len, h.cap, h.max⟩
theorem convB_frozen {w : World} {g n c j : Nat} {l : List UInt8} (h : ConvB w g n c l) (hj : j < l.length) : w.frozen? ⟨g, j, none⟩ = false := (h.spare (by have := h.len; have := h.cap; omega)).2
/-- A byte in small letters. -/
def lowC (c : UInt8) : UInt8 := if kB 16 c then c + 32 else c
def lowL (l : List UInt8) : List UInt8 := l.map lowC
def lowK (l : List UInt8) (k : Nat) : List UInt8 := lowL (l.take k) ++ l.drop k
theorem lowK_length (l : List UInt8) (k : Nat) : (lowK l k).length = l.length := by
  simp [lowK, lowL]
  omega
theorem lowK_zero (l : List UInt8) : lowK l 0 = l := by simp [lowK, lowL]
theorem lowK_all (l : List UInt8) : lowK l l.length = lowL l := by simp [lowK]
theorem lowK_get {l : List UInt8} {k : Nat} (h : k < l.length) : (lowK l k)[k]'(by rw [lowK_length]; exact h) = l[k] := by
  unfold lowK
  rw [List.getElem_append_right (by simp [lowL]; omega)]
  simp only [lowL, List.length_map, List.length_take, List.getElem_drop]
  congr 1
  omega
theorem lowK_step {l : List UInt8} {k : Nat} (h : k < l.length) : lowK l (k + 1) = (lowK l k).set k (lowC l[k]) := by
  unfold lowK
  have hk : (lowL (l.take k)).length = k := by simp [lowL]; omega
  rw [List.set_append_right _ _ (by omega), hk, Nat.sub_self]
  rw [List.drop_eq_getElem_cons h, List.set_cons_zero, List.take_succ_eq_append_getElem h]
  unfold lowL
  rw [List.map_append, List.map_cons, List.map_nil, List.append_assoc, List.singleton_append]
theorem lowC_yes {c : UInt8} (h : kB 16 c = true) : ((lowC c).toNat : Int) = (c.toNat : Int) + 32 ∧ c.toNat + 32 < 256 := by
  unfold lowC
  rw [if_pos h]
  rw [kB_cap] at h
  have : 65 ≤ c.toNat ∧ c.toNat ≤ 90 := by simpa [capB] using h
  rw [UInt8.toNat_add]
  simp
  omega
theorem lowC_no {c : UInt8} (h : kB 16 c = false) : lowC c = c := by unfold lowC; rw [h]; rfl

set_option maxRecDepth 100000 in
theorem lower_any (l : List UInt8) (hl : l.length ≤ 1000000) (w : World) :
    Calls Try.prog 14 #[.string ⟨l.toArray⟩] w fun e w' => e = .returned (.string ⟨(lowL l).toArray⟩) ∧ Below w.heap.size w w' := by
  have NT := Lib.hid (newTable_any w)
  have CV := Lib.hid (fun W => conv_any ⟨l.toArray⟩ hl W)
  have hsz : (⟨l.toArray⟩ : ByteArray).size = l.length := rfl
  go_enter Try.func14, Try.ntmps14
  go_wp2_with fail
  refine NT.out.mono ?_; rintro e w1 ⟨rfl, t1, b1⟩
  have T1 := Lib.hid t1
  have B1 := Lib.hid b1
  clear t1 b1
  go_upto_region 2 with fail
  obtain ⟨c, W, hcv, cb, bb⟩ := CV.out w1
  have hcv : (convert 9 29 (.string ⟨l.toArray⟩)).run Try.prog w1 = .ok (.slice (some ⟨w1.heap.size, 0, none⟩) l.length c) W := hcv
  have hne : ¬ w.heap.size = w1.heap.size := Nat.ne_of_lt T1.out.1.lt
  have CB := Lib.hid (show ConvB W w1.heap.size l.length c (lowK l 0) from by rw [lowK_zero]; exact cb)
  have T2 := Lib.hid (T1.out.below bb)
  have B2 := Lib.hid (show Below w.heap.size w W from B1.out.trans (bb.mono B1.out.size))
  have L1 := Lib.hid B1.out.size
  generalize w1.heap.size = g at *
  clear cb bb T1 B1 NT CV
  go_upto_region 4 with fail
  go_loopw [12] (fun i wr => ∃ j : Nat, j ≤ l.length ∧ i = .int .i64 (j : Int) ∧ Hid (ConvB wr g l.length c (lowK l j) ∧ Tab wr w.heap.size kindN ∧ Below w.heap.size w wr)) (fun i _ => l.length - (intOf i).toNat)
  case atStart => exact ⟨0, Nat.zero_le _, rfl, Lib.hid ⟨CB.out, T2.out, B2.out⟩⟩
  case round =>
    obtain ⟨j, hj, rfl, HP⟩ := hrel
    by_cases hlt : j < l.length
    · have hlt' : (j : Int) < (l.length : Int) := by omega
      have j0 : (0 : Int) ≤ (j : Int) := by omega
      have xj := IntWalk.i64_in ((j : Int) + 1) (by omega)
      have hjk : j < (lowK l j).length := by rw [lowK_length]; exact hlt
      have cj := HP.out.1.cell hjk
      rw [lowK_get hlt] at cj
      have fz := convB_frozen HP.out.1 hjk
      have IS := Lib.hid (is_any w.heap.size 16 l[j] (by decide) wr HP.out.2.1)
      have HS := Lib.hid (show ∀ v : UInt8, v = lowC l[j] → ConvB (wr.setCell ⟨g, j, none⟩ (.int .u8 (v.toNat : Int))) g l.length c (lowK l (j + 1)) ∧ Tab (wr.setCell ⟨g, j, none⟩ (.int .u8 (v.toNat : Int))) w.heap.size kindN ∧ Below w.heap.size w (wr.setCell ⟨g, j, none⟩ (.int .u8 (v.toNat : Int))) from fun v hv => by
        refine ⟨?_, HP.out.2.1.chg (Chg.set (S := fun i => i = g) wr j _ rfl) hne, HP.out.2.2.trans ((Chg.set (S := fun i => i = g) wr j _ rfl).below HP.out.2.2.size (fun k hk => by rw [hk]; exact L1.out))⟩
        rw [lowK_step hlt, ← hv]
        exact convB_set HP.out.1 hjk v)
      cases hp : kB 16 l[j] with
      | true =>
        rw [hp] at IS
        obtain ⟨y1, y2⟩ := lowC_yes hp
        obtain ⟨v, hv⟩ : ∃ v, v = lowC l[j] := ⟨_, rfl⟩
        rw [← hv] at y1
        have S2 := Lib.hid (HS.out v hv)
        have xw : IntKind.u8.wrap ((l[j].toNat : Int) + 32) = (v.toNat : Int) := by rw [IntKind.wrap_u8', ← y1]; have := v.toNat_lt; omega
        clear hp HS hv y1 HP hjk
        go_wp2_with fail
        refine IS.out.mono ?_; rintro e w2 ⟨rfl, rfl⟩
        go_wp2
        go_roundw
        case rel => exact ⟨j + 1, by omega, by simp, S2⟩
        case measure => simp [intOf]; omega
      | false =>
        rw [hp] at IS
        have HP2 := Lib.hid (show ConvB wr g l.length c (lowK l (j + 1)) ∧ Tab wr w.heap.size kindN ∧ Below w.heap.size w wr from ⟨by
          rw [lowK_step hlt, lowC_no hp]
          have e : (lowK l j).set j l[j] = lowK l j := by
            have := List.set_getElem_self hjk
            rw [lowK_get hlt] at this
            exact this
          rw [e]; exact HP.out.1, HP.out.2⟩)
        clear hp HS HP hjk
        go_wp2_with fail
        refine IS.out.mono ?_; rintro e w2 ⟨rfl, rfl⟩
        go_wp2
        go_roundw
        case rel => exact ⟨j + 1, by omega, by simp, HP2⟩
        case measure => simp [intOf]; omega
    · have je : j = l.length := by omega
      subst je
      have hge : ¬ (l.length : Int) < (l.length : Int) := by omega
      have cb := HP.out.1
      rw [lowK_all] at cb
      have ts := Di.told_str cb.src
      have BB := Lib.hid HP.out.2.2
      clear HP cb
      go_wp2
      go_ret
      exact ⟨rfl, BB.out⟩
/-! strings.Cut at one byte. -/
theorem idx_none {l : List UInt8} {c : UInt8} (h : c ∉ l) : Lib.indexByte l c = -1 := by
  induction l with
  | nil => rfl
  | cons b l ih =>
    simp only [List.mem_cons, not_or] at h
    unfold Lib.indexByte
    rw [if_neg (by simpa using fun e => h.1 e.symm), ih h.2]; rfl
theorem idx_at {l r : List UInt8} {c : UInt8} (h : c ∉ l) : Lib.indexByte (l ++ c :: r) c = l.length := by
  induction l with
  | nil => simp [Lib.indexByte]
  | cons b l ih =>
    simp only [List.mem_cons, not_or] at h
    have hb : ¬ (b == c) = true := by simpa using fun e => h.1 e.symm
    have ih := ih h.2
    show Lib.indexByte (b :: (l ++ c :: r)) c = _
    unfold Lib.indexByte
    rw [if_neg hb, ih, if_neg (by simp)]
    simp
theorem cut_mem {l : List UInt8} {c : UInt8} (h : c ∈ l) : ∃ x y, l = x ++ c :: y ∧ c ∉ x := by
  induction l with
  | nil => cases h
  | cons b t ih =>
    by_cases e : b = c
    · exact ⟨[], t, by rw [e]; rfl, by simp⟩
    · rcases List.mem_cons.1 h with h1 | h1
      · exact absurd h1.symm e
      · obtain ⟨x, y, h2, h3⟩ := ih h1
        exact ⟨b :: x, y, by rw [h2]; rfl, by simp only [List.mem_cons, not_or]; exact ⟨fun q => e q.symm, h3⟩⟩
/-- A text parted at the first byte c. -/
def cutB (c : UInt8) : List UInt8 → Option (List UInt8 × List UInt8)
  | [] => none
  | b :: t => if b = c then some ([], t) else (cutB c t).map fun p => (b :: p.1, p.2)
theorem cutB_none {c : UInt8} : ∀ {l : List UInt8}, c ∉ l → cutB c l = none
  | [], _ => rfl
  | b :: t, h => by
    simp only [List.mem_cons, not_or] at h
    unfold cutB
    rw [if_neg (fun e => h.1 e.symm), cutB_none h.2]; rfl
theorem cutB_at {c : UInt8} {y : List UInt8} : ∀ {x : List UInt8}, c ∉ x → cutB c (x ++ c :: y) = some (x, y)
  | [], _ => by show cutB c (c :: y) = _; unfold cutB; rw [if_pos rfl]
  | b :: t, h => by
    simp only [List.mem_cons, not_or] at h
    show cutB c (b :: (t ++ c :: y)) = _
    unfold cutB
    rw [if_neg (fun e => h.1 e.symm), cutB_at h.2]; rfl
/-- What Cut answers. -/
def cutT (c : UInt8) (l : List UInt8) : Value := match cutB c l with
  | some (x, y) => .tuple #[.string ⟨x.toArray⟩, .string ⟨y.toArray⟩, .bool true]
  | none => .tuple #[.string ⟨l.toArray⟩, .string ⟨#[]⟩, .bool false]

set_option maxRecDepth 100000 in
theorem icut_any (c : UInt8) (l : List UInt8) (hl : l.length ≤ 140737488351232) (w : World) : Calls Try.prog 24 #[.string ⟨l.toArray⟩, .string ⟨#[c]⟩] w fun e w' => e = .returned (cutT c l) ∧ Below w.heap.size w w' := by
  have hsz : (⟨l.toArray⟩ : ByteArray).size = l.length := rfl
  have IX := Try.stringslite_Index_one ⟨l.toArray⟩ c w
  by_cases hm : c ∈ l
  · obtain ⟨x, y, rfl, hx⟩ := cut_mem hm
    have hix : Lib.indexByte (⟨(x ++ c :: y).toArray⟩ : ByteArray).data.toList c = x.length := idx_at hx
    rw [hix] at IX
    unfold cutT
    rw [cutB_at hx]
    have hyl : (x ++ c :: y).length = x.length + 1 + y.length := by simp; omega
    have hex : (⟨(x ++ c :: y).toArray⟩ : ByteArray).extract 0 x.length = ⟨x.toArray⟩ := by rw [cut_text]; simp
    have hey : (⟨(x ++ c :: y).toArray⟩ : ByteArray).extract (x.length + 1) (x.length + 1 + y.length) = ⟨y.toArray⟩ := by
      rw [cut_text, show x.length + 1 + y.length - (x.length + 1) = y.length by omega, List.drop_append, List.drop_of_length_le (by omega), show x.length + 1 - x.length = 1 by omega]
      simp
    have xw := IntWalk.i64_in ((x.length : Int) + 1) (by omega)
    have HEX := Lib.hid hex
    have HEY := Lib.hid hey
    have IH := Lib.hid IX
    clear hm hix hx hex hey IX
    go_enter Try.func24, Try.ntmps24
    go_wp2_with fail
    refine IH.out.mono ?_; rintro e w' ⟨rfl, rfl⟩
    go_upto_region 3 with fail
    go_region
    go_wp2
    go_ret3
    exact ⟨by rw [← HEX.out, ← HEY.out]; rfl, ⟨rfl, rfl, rfl, Nat.le_refl _, fun _ _ => rfl⟩⟩
  · have hix : Lib.indexByte (⟨l.toArray⟩ : ByteArray).data.toList c = -1 := idx_none hm
    rw [hix] at IX
    unfold cutT
    rw [cutB_none hm]
    have IH := Lib.hid IX
    clear hm hix IX
    go_enter Try.func24, Try.ntmps24
    go_wp2_with fail
    refine IH.out.mono ?_; rintro e w' ⟨rfl, rfl⟩
    go_wp2
    go_ret3
    exact ⟨rfl, Below.refl _ _⟩
theorem cut_any (c : UInt8) (l : List UInt8) (hl : l.length ≤ 140737488351232) (w : World) : Calls Try.prog 22 #[.string ⟨l.toArray⟩, .string ⟨#[c]⟩] w fun e w' => e = .returned (cutT c l) ∧ Below w.heap.size w w' := by
  have IH := icut_any c l hl w
  cases hc : cutB c l with
  | none =>
    have e : cutT c l = .tuple #[.string ⟨l.toArray⟩, .string ⟨#[]⟩, .bool false] := by unfold cutT; rw [hc]
    rw [e] at IH ⊢
    have IH := Lib.hid IH
    clear hc e
    go_enter Try.func22, Try.ntmps22
    go_wp2_with fail
    refine IH.out.mono ?_; rintro e w' ⟨rfl, h⟩
    go_wp2
    go_ret3
    exact ⟨rfl, h⟩
  | some p =>
    obtain ⟨x, y⟩ := p
    have e : cutT c l = .tuple #[.string ⟨x.toArray⟩, .string ⟨y.toArray⟩, .bool true] := by unfold cutT; rw [hc]
    rw [e] at IH ⊢
    have IH := Lib.hid IH
    clear hc e
    go_enter Try.func22, Try.ntmps22
    go_wp2_with fail
    refine IH.out.mono ?_; rintro e w' ⟨rfl, h⟩
    go_wp2
    go_ret3
    exact ⟨rfl, h⟩
theorem cutB_len {c : UInt8} : ∀ {l x y : List UInt8}, cutB c l = some (x, y) → x.length + 1 + y.length = l.length
  | [], x, y, h => by cases h
  | b :: t, x, y, h => by
    unfold cutB at h
    by_cases e : b = c
    · rw [if_pos e] at h; cases h; simp; omega
    · rw [if_neg e] at h
      cases ht : cutB c t with
      | none => rw [ht] at h; cases h
      | some p =>
        obtain ⟨x', y'⟩ := p
        rw [ht] at h
        cases h
        have := cutB_len ht
        simp; omega
/-- What Field tells. -/
def fieldR (l : List UInt8) : Option (List UInt8 × List UInt8) := match cutB 58 l with
  | some (x, y) => if tokenB x && valueB y then some (lowL x, trimL y) else none
  | none => none
def fieldT (l : List UInt8) : Value := match fieldR l with
  | some (n, v) => .tuple #[.string ⟨n.toArray⟩, .string ⟨v.toArray⟩, .int .i64 0]
  | none => .tuple #[.string ⟨#[]⟩, .string ⟨#[]⟩, .int .i64 50]

set_option maxRecDepth 100000 in
theorem field_any (l : List UInt8) (hl : l.length ≤ 1000000) (w : World) : Calls Try.prog 16 #[.string ⟨l.toArray⟩] w fun e w' => e = .returned (fieldT l) ∧ Below w.heap.size w w' := by
  have CU := cut_any 58 l (by omega) w
  cases hc : cutB 58 l with
  | none =>
    have e : cutT 58 l = .tuple #[.string ⟨l.toArray⟩, .string ⟨#[]⟩, .bool false] := by unfold cutT; rw [hc]
    have e2 : fieldT l = .tuple #[.string ⟨#[]⟩, .string ⟨#[]⟩, .int .i64 50] := by unfold fieldT fieldR; rw [hc]
    rw [e] at CU
    rw [e2]
    have CU := Lib.hid CU
    clear hc e e2
    go_enter Try.func16, Try.ntmps16
    go_wp2_with fail
    refine CU.out.mono ?_; rintro e w' ⟨rfl, h⟩
    go_wp2
    go_ret3
    exact ⟨rfl, h⟩
  | some p =>
    obtain ⟨x, y⟩ := p
    have hlen := cutB_len hc
    have e : cutT 58 l = .tuple #[.string ⟨x.toArray⟩, .string ⟨y.toArray⟩, .bool true] := by unfold cutT; rw [hc]
    rw [e] at CU
    have TK := Lib.hid (fun W => token_any x (by omega) W)
    cases ht : tokenB x with
    | false =>
      have e2 : fieldT l = .tuple #[.string ⟨#[]⟩, .string ⟨#[]⟩, .int .i64 50] := by unfold fieldT fieldR; rw [hc]; simp [ht]
      rw [e2]
      rw [ht] at TK
      have CU := Lib.hid CU
      clear hc e e2 ht
      go_enter Try.func16, Try.ntmps16
      go_wp2_with fail
      refine CU.out.mono ?_; rintro e w1 ⟨rfl, h⟩
      have B1 := Lib.hid h
      clear h
      go_wp2_with fail
      refine (TK.out w1).mono ?_; rintro e w2 ⟨rfl, h⟩
      have B2 := Lib.hid (B1.out.trans (h.mono B1.out.size))
      clear h
      go_wp2
      go_ret3
      exact ⟨rfl, B2.out⟩
    | true =>
      rw [ht] at TK
      have VL := Lib.hid (fun W => value_any y (by omega) W)
      cases hv : valueB y with
      | false =>
        have e2 : fieldT l = .tuple #[.string ⟨#[]⟩, .string ⟨#[]⟩, .int .i64 50] := by unfold fieldT fieldR; rw [hc]; simp [ht, hv]
        rw [e2]
        rw [hv] at VL
        have CU := Lib.hid CU
        clear hc e e2 ht hv
        go_enter Try.func16, Try.ntmps16
        go_wp2_with fail
        refine CU.out.mono ?_; rintro e w1 ⟨rfl, h⟩
        have B1 := Lib.hid h
        clear h
        go_wp2_with fail
        refine (TK.out w1).mono ?_; rintro e w2 ⟨rfl, h⟩
        have B2 := Lib.hid (B1.out.trans (h.mono B1.out.size))
        clear h
        go_wp2_with fail
        refine (VL.out w2).mono ?_; rintro e w3 ⟨rfl, h⟩
        have B3 := Lib.hid (B2.out.trans (h.mono B2.out.size))
        clear h
        go_wp2
        go_ret3
        exact ⟨rfl, B3.out⟩
      | true =>
        have e2 : fieldT l = .tuple #[.string ⟨(lowL x).toArray⟩, .string ⟨(trimL y).toArray⟩, .int .i64 0] := by unfold fieldT fieldR; rw [hc]; simp [ht, hv]
        rw [e2]
        rw [hv] at VL
        have LO := Lib.hid (fun W => lower_any x (by omega) W)
        have TR := Lib.hid (fun W => trim_any y (by omega) W)
        obtain ⟨n, hn⟩ : ∃ n, n = lowL x := ⟨_, rfl⟩
        obtain ⟨v, hvv⟩ : ∃ v, v = trimL y := ⟨_, rfl⟩
        rw [← hn, ← hvv]
        rw [← hn] at LO
        rw [← hvv] at TR
        have CU := Lib.hid CU
        clear hc e e2 ht hv hn hvv
        go_enter Try.func16, Try.ntmps16
        go_wp2_with fail
        refine CU.out.mono ?_; rintro e w1 ⟨rfl, h⟩
        have B1 := Lib.hid h
        clear h
        go_wp2_with fail
        refine (TK.out w1).mono ?_; rintro e w2 ⟨rfl, h⟩
        have B2 := Lib.hid (B1.out.trans (h.mono B1.out.size))
        clear h
        go_wp2_with fail
        refine (VL.out w2).mono ?_; rintro e w3 ⟨rfl, h⟩
        have B3 := Lib.hid (B2.out.trans (h.mono B2.out.size))
        clear h
        go_wp2_with fail
        refine (LO.out w3).mono ?_; rintro e w4 ⟨rfl, h⟩
        have B4 := Lib.hid (B3.out.trans (h.mono B3.out.size))
        clear h
        go_wp2_with fail
        refine (TR.out w4).mono ?_; rintro e w5 ⟨rfl, h⟩
        have B5 := Lib.hid (B4.out.trans (h.mono B4.out.size))
        clear h
        go_wp2
        go_ret3
        exact ⟨rfl, B5.out⟩
end Go.Proofs.Ytfkfnmoilagahaa.Lx
