/- PoolKeeps' pool in plain words: what stays true of it. Conditions: those that each states. -/
import Derived.Test.YthnpalcjfgbjeaaPoZ
import Derived.Test.YthnpalcjfgbjeaaPqA
import Derived.Test.YthnpalcjfgbjeaaDkW
namespace Go.Proofs.Ythnpalcjfgbjeaa.Pq
open Go.ChangeShapes Go.WideShapes Go.ChangeAt Go.RowKit Go.Deep Fr Di Ke Po Fl
set_option linter.unusedVariables false

/-- A slot that may be there: its frame, and its block's bytes unless the block was written anew. -/
structure SlOk (K : Kn) (st : Int → Bool) (N i : Nat) (z : Sl) : Prop where
  fr : z.frame = i
  s0 : i = 0 → z.kind = 3 ∧ z.pins = 1
  bl : z.kind = 1 → askE K.dk 1 z.block = 0 ∧ (st z.block = false → ∀ p, K.ps[i]? = some p → p.text = see K.dk z.block.toNat)
  pi : z.pins ≤ N
structure KI (P : Po) (s : List UInt8) (st : Int → Bool) (N : Nat) : Prop where
  n3 : P.sl.length = 3
  n4 : P.K.ps.length = 4
  pg : ∀ f, f < 3 → ∃ p, P.K.ps[f]? = some p ∧ p.owner = 1 ∧ p.holds = 0 ∧ p.text.length = 256
  tx : ∃ p, P.K.ps[0]? = some p ∧ p.text.take s.length = s
  sl : ∀ i z, P.sl[i]? = some z → SlOk P.K st N i z
  fi : P.fills ≤ N
  sm : P.K.Small N
variable {P : Po} {s : List UInt8} {st : Int → Bool} {N : Nat}
theorem SlOk.more {K : Kn} {M i : Nat} {z : Sl} (h : SlOk K st N i z) (hm : N ≤ M) : SlOk K st M i z := ⟨h.fr, h.s0, h.bl, Nat.le_trans h.pi hm⟩
theorem Small.more {K : Kn} {M : Nat} (h : K.Small N) (hm : N ≤ M) : K.Small M := ⟨Nat.le_trans h.next hm, Nat.le_trans h.a1 hm, Nat.le_trans h.a2 hm, Nat.le_trans h.out hm, Nat.le_trans h.done hm, Nat.le_trans h.line hm⟩
theorem KI.more {M : Nat} (h : KI P s st N) (hm : N ≤ M) : KI P s st M := ⟨h.n3, h.n4, h.pg, h.tx, fun i z hz => (h.sl i z hz).more hm, Nat.le_trans h.fi hm, Small.more h.sm hm⟩
/-- A slot turned; all else stays. -/
theorem KI.turn (h : KI P s st N) {i : Nat} {z : Sl} (hz : SlOk P.K st N i z) (hand : Nat) : KI { P with hand := hand, sl := P.sl.set i z } s st N := by
  refine ⟨by show (P.sl.set i z).length = 3; rw [List.length_set]; exact h.n3, h.n4, h.pg, h.tx, fun j y hy => ?_, h.fi, h.sm⟩
  replace hy : (P.sl.set i z)[j]? = some y := hy
  rw [List.getElem?_set] at hy
  split at hy
  · rename_i e
    subst e
    split at hy
    · cases hy; exact hz
    · cases hy
  · exact h.sl j y hy
theorem KI.few (h : KI P s st N) (hn : N < 1000000) : ∀ z ∈ P.sl, z.pins < 1000000 := fun z hz => by
  obtain ⟨i, hi, rfl⟩ := List.mem_iff_getElem.1 hz
  have := (h.sl i _ (List.getElem?_eq_getElem hi)).pi
  omega
theorem SlOk.bare {K : Kn} {i : Nat} (hi : i ≠ 0) : SlOk K st N i (Sl.bare i) := ⟨rfl, fun h => absurd h hi, fun h => (by cases h), Nat.zero_le _⟩
theorem sweep_ki : ∀ (k : Nat) (P : Po), KI P s st N → KI (sweep k P).1 s st N ∧ ∀ i, (sweep k P).2 = some i → i ≠ 0 ∧ (sweep k P).1.sl[i]? = some (Sl.bare i)
  | 0, P, h => ⟨h, fun i hi => by cases hi⟩
  | k + 1, P, h => by
    unfold sweep
    cases hs : P.sl[P.hand]? with
    | none => exact ⟨h, fun i hi => by cases hi⟩
    | some z =>
      have hz := h.sl _ _ hs
      have hl : P.hand < P.sl.length := (List.getElem?_eq_some_iff.1 hs).1
      dsimp only
      by_cases hu : (unusedB P.K z && !z.mark) = true
      · rw [if_pos hu]
        have hne : P.hand ≠ 0 := fun e => by
          have h1 := (hz.s0 e).2
          unfold unusedB at hu
          rw [h1] at hu
          simp at hu
        rw [hz.fr]
        refine ⟨h.turn (SlOk.bare hne) _, fun i hi => ?_⟩
        cases hi
        exact ⟨hne, by show (P.sl.set P.hand _)[P.hand]? = _; rw [List.getElem?_set_self hl]⟩
      · rw [if_neg hu]
        exact sweep_ki k _ (h.turn (z := { z with mark := false }) ⟨hz.fr, hz.s0, hz.bl, hz.pi⟩ _)
theorem take_ki (h : KI P s st N) : KI (Po.takeR P).1 s st N ∧ ∀ i, (Po.takeR P).2 = some i → i ≠ 0 ∧ ∃ z, (Po.takeR P).1.sl[i]? = some z ∧ z.frame = i := by
  unfold Po.takeR
  cases hf : P.sl.findIdx? (isFree P.K) with
  | none =>
    obtain ⟨h1, h2⟩ := sweep_ki (2 * P.sl.length) P h
    exact ⟨h1, fun i hi => ⟨(h2 i hi).1, _, (h2 i hi).2, rfl⟩⟩
  | some j =>
    refine ⟨h, fun i hi => ?_⟩
    cases hi
    obtain ⟨hl, hb, _⟩ := List.findIdx?_eq_some_iff_getElem.1 hf
    have hz := h.sl _ _ (List.getElem?_eq_getElem hl)
    refine ⟨fun e => ?_, P.sl[j], List.getElem?_eq_getElem hl, hz.fr⟩
    have h1 := (hz.s0 e).1
    unfold isFree at hb
    rw [h1] at hb
    simp at hb
/-- The bytes b written to frame f. -/
theorem wrote_ki (h : KI P s st N) {f : Nat} (hf : f < 3) {b : List UInt8} (hb : b.length ≤ 256) : wroteE P.K f b = 0 ∧ ∃ p, P.K.ps[f]? = some p ∧ wroteK P.K f b = { P.K with ps := P.K.ps.set f { p with text := b ++ p.text.drop b.length } } ∧ p.owner = 1 ∧ p.holds = 0 ∧ p.text.length = 256 := by
  obtain ⟨p, hp, ho, hh, ht⟩ := h.pg f hf
  have hl := h.n4
  have e1 : Fr.pg P.K.ps (f : Int) = p := by
    rw [pg_at (k := f) (by omega)]
    rw [List.getElem?_eq_getElem (by omega)] at hp
    exact Option.some.inj hp
  have e2 : ownErr P.K.ps 1 (f : Int) = 0 := by
    unfold ownErr
    rw [if_pos ⟨.inl rfl, by unfold isF; omega⟩, e1, ho]
    rfl
  have e3 : isIn 0 (b.length : Int) := by unfold isIn; omega
  have e4 : Fr.writeR P.K.ps 1 (f : Int) 0 b = (P.K.ps.set f { p with text := b ++ p.text.drop b.length }, 0) := by
    unfold Fr.writeR
    rw [if_pos e2, if_pos e3, e1, if_pos hh]
    simp
  unfold wroteE wroteK
  rw [callR_5 _ 1 (.inl rfl), e4]
  exact ⟨rfl, p, hp, rfl, ho, hh, ht⟩

/-- A frame but the first written, its slot turned. -/
theorem KI.wrote (h : KI P s st N) {f : Nat} (hf : f < 3) (h0 : f ≠ 0) {b : List UInt8} (hb : b.length ≤ 256) {p : Pg} (ho : p.owner = 1) (hh : p.holds = 0) (ht : p.text.length = 256) {z : Sl} (zf : z.frame = f) (zp : z.pins ≤ N) (zb : z.kind = 1 → askE P.K.dk 1 z.block = 0 ∧ b = see P.K.dk z.block.toNat ∧ b.length = 256) (hand fills : Nat) (hfi : fills ≤ N) :
    KI ⟨{ P.K with ps := P.K.ps.set f { p with text := b ++ p.text.drop b.length } }, P.sl.set f z, hand, fills⟩ s st N := by
  have hl := h.n4
  have g1 : (P.K.ps.set f { p with text := b ++ p.text.drop b.length })[f]? = some { p with text := b ++ p.text.drop b.length } := List.getElem?_set_self (by omega)
  have g2 : ∀ j, j ≠ f → (P.K.ps.set f { p with text := b ++ p.text.drop b.length })[j]? = P.K.ps[j]? := fun j hj => List.getElem?_set_ne (fun e => hj e.symm)
  refine ⟨by show (P.sl.set f z).length = 3; rw [List.length_set]; exact h.n3, by show (P.K.ps.set f _).length = 4; rw [List.length_set]; exact hl, fun j hj => ?_, ?_, fun j y hy => ?_, hfi, ⟨h.sm.next, h.sm.a1, h.sm.a2, h.sm.out, h.sm.done, h.sm.line⟩⟩
  · by_cases e : j = f
    · subst e
      exact ⟨_, g1, ho, hh, by show (b ++ p.text.drop b.length).length = 256; rw [List.length_append, List.length_drop, ht]; omega⟩
    · obtain ⟨q, hq, r⟩ := h.pg j hj
      exact ⟨q, (g2 j e).trans hq, r⟩
  · obtain ⟨q, hq, r⟩ := h.tx
    exact ⟨q, (g2 0 (fun e => h0 e.symm)).trans hq, r⟩
  · replace hy : (P.sl.set f z)[j]? = some y := hy
    by_cases e : f = j
    · subst e
      rw [List.getElem?_set_self (by rw [h.n3]; exact hf)] at hy
      cases hy
      refine ⟨zf, fun e => absurd e h0, fun hk => ⟨(zb hk).1, fun _ q hq => ?_⟩, zp⟩
      have hq' := g1.symm.trans hq
      cases hq'
      obtain ⟨_, hs, h256⟩ := zb hk
      show b ++ p.text.drop b.length = _
      rw [h256, List.drop_of_length_le (by omega), List.append_nil]
      exact hs
    · rw [List.getElem?_set_ne e] at hy
      obtain ⟨a1, a2, a3, a4⟩ := h.sl j y hy
      exact ⟨a1, a2, fun hk => ⟨(a3 hk).1, fun hst q hq => (a3 hk).2 hst q ((g2 j (fun e' => e e'.symm)).symm.trans hq)⟩, a4⟩
theorem KI.lt (h : KI P s st N) {i : Nat} {z : Sl} (hz : P.sl[i]? = some z) : i < 3 := by rw [← h.n3]; exact (List.getElem?_eq_some_iff.1 hz).1
theorem askE_lt {d : Dk} {env block : Int} (h : askE d env block = 0) : 0 ≤ block ∧ block.toNat < d.blocks.length := by
  unfold askE at h
  split at h
  · omega
  · split at h
    · omega
    · omega
theorem get_ki (h : KI P s st N) (ok : P.K.Ok) (block n : Int) (x y : Nat) : KI (getR P block n x y).1 s st (N + 1) ∧
    ((getR P block n x y).2.2 = 0 → ∃ (i : Nat) (z : Sl), i ≠ 0 ∧ i < 3 ∧ (getR P block n x y).2.1 = (i : Int) ∧ (getR P block n x y).1.sl[i]? = some z ∧ z.kind = 1 ∧ z.block = block) := by
  by_cases hn : n < 0 ∨ 256 < n
  · rw [get_bad x y hn]
    exact ⟨h.more (by omega), fun e => by cases e⟩
  cases hh : having P block with
  | some i =>
    obtain ⟨hl, hb⟩ := having_lt hh
    have hs := List.getElem?_eq_getElem hl
    generalize P.sl[i] = z at *
    have hz := h.sl _ _ hs
    unfold isBlock at hb
    simp at hb
    obtain ⟨hk, hbl⟩ := hb
    have h0 : i ≠ 0 := fun e => by have := (hz.s0 e).1; omega
    rw [get_had x y hn hh hs]
    refine ⟨(h.more (Nat.le_succ N)).turn (z := { z with pins := z.pins + 1, mark := true }) ⟨hz.fr, fun e => absurd e h0, hz.bl, by have := hz.pi; show z.pins + 1 ≤ N + 1; omega⟩ P.hand, fun _ => ⟨i, _, h0, h.lt hs, by rw [hz.fr], List.getElem?_set_self hl, hk, hbl⟩⟩
  | none =>
    obtain ⟨hT, hi⟩ := take_ki h
    cases ht : (Po.takeR P).2 with
    | none =>
      rw [get_full x y hn hh ht]
      exact ⟨hT.more (by omega), fun e => by cases e⟩
    | some i =>
      obtain ⟨h0, z, hz, hzf⟩ := hi i ht
      have hK := take_K P
      have hF := take_fills P
      by_cases hr : askE P.K.dk 1 block = 0
      · have hlt := askE_lt hr
        have hsl := see_len ok.dok hlt.2
        have hi3 := hT.lt hz
        obtain ⟨w0, p, hp, hw, ho, hhd, htx⟩ := wrote_ki h (f := i) hi3 (b := see P.K.dk block.toNat) (by omega)
        have e := get_taken x y hn hh ht hz hr (by rw [hzf]; exact w0)
        rw [hzf, hw] at e
        have W := (hT.more (Nat.le_succ N)).wrote (f := i) hi3 h0 (b := see P.K.dk block.toNat) (by omega) (p := p) ho hhd htx (z := ⟨1, block, n, x, y, i, 1, true⟩) rfl (by show 1 ≤ N + 1; omega) (fun _ => ⟨by rw [hK]; exact hr, by rw [hK], hsl⟩) (Po.takeR P).1.hand (P.fills + 1) (by have := h.fi; omega)
        rw [hK] at W
        rw [e]
        exact ⟨W, fun _ => ⟨i, _, h0, hi3, rfl, List.getElem?_set_self (by rw [hT.n3]; exact hi3), rfl, rfl⟩⟩
      · rw [get_unread x y hn hh ht hr]
        exact ⟨hT.more (by omega), fun e => absurd e hr⟩
theorem head_ki (h : KI P s st N) (b : List UInt8) : KI (headR P b).1 s st (N + 1) := by
  unfold headR
  by_cases hb : 256 < b.length
  · rw [if_pos hb]
    exact h.more (by omega)
  rw [if_neg hb]
  obtain ⟨hT, hi⟩ := take_ki h
  cases ht : (Po.takeR P).2 with
  | none => exact hT.more (by omega)
  | some i =>
    obtain ⟨h0, z, hz, hzf⟩ := hi i ht
    have hi3 := hT.lt hz
    obtain ⟨w0, p, hp, hw, ho, hhd, htx⟩ := wrote_ki hT (f := i) hi3 (b := b) (by omega)
    dsimp only
    rw [fill_is hz, hzf, hw, if_pos w0]
    dsimp only
    rw [if_pos rfl]
    exact (hT.more (Nat.le_succ N)).wrote (f := i) hi3 h0 (b := b) (by omega) (p := p) ho hhd htx (z := ⟨3, 0, (b.length : Int), fl (evs b), fl (ods b), i, 1, z.mark⟩) rfl (by show 1 ≤ N + 1; omega) (fun hk => by cases hk) (Po.takeR P).1.hand (Po.takeR P).1.fills (by rw [take_fills P]; have := h.fi; omega)
theorem unpin_ki (h : KI P s st N) {f : Int} (hf : f ≠ 0) : KI (unpinR P f).1 s st N := by
  unfold unpinR
  cases hp : pinned P f with
  | none => exact h
  | some i =>
    obtain ⟨hl, hb⟩ := pinned_lt hp
    have hs := List.getElem?_eq_getElem hl
    dsimp only
    rw [hs]
    generalize P.sl[i] = z at *
    have hz := h.sl _ _ hs
    have hb := isPinned_iff.1 hb
    have h0 : i ≠ 0 := fun e => by have := hz.fr; omega
    dsimp only
    unfold Po.put
    by_cases hc : z.pins = 1 ∧ z.kind ≠ 1
    · rw [if_pos hc, hz.fr]
      exact h.turn (SlOk.bare h0) _
    · rw [if_neg hc]
      exact h.turn (z := { z with pins := z.pins - 1 }) ⟨hz.fr, fun e => absurd e h0, hz.bl, by have := hz.pi; show z.pins - 1 ≤ N; omega⟩ _
theorem forget1_ki (h : KI P s st N) (b : Int) : KI (forget1 P b) s st N := by
  unfold forget1
  cases hp : having P b with
  | none => exact h
  | some i =>
    obtain ⟨hl, hb⟩ := having_lt hp
    have hs := List.getElem?_eq_getElem hl
    dsimp only
    rw [hs]
    generalize P.sl[i] = z at *
    have hz := h.sl _ _ hs
    unfold isBlock at hb
    simp at hb
    have h0 : i ≠ 0 := fun e => by have := (hz.s0 e).1; omega
    dsimp only
    unfold Po.put
    by_cases hc : z.pins = 0
    · rw [if_pos hc, hz.fr]
      exact h.turn (SlOk.bare h0) _
    · rw [if_neg hc]
      exact h.turn (z := { z with kind := 2 }) ⟨hz.fr, fun e => absurd e h0, fun hk => (by cases hk), hz.pi⟩ _
theorem forget_ki : ∀ (l : List Int) (P : Po), KI P s st N → KI (forgetR P l) s st N
  | [], P, h => h
  | b :: l, P, h => forget_ki l _ (forget1_ki h b)
/-- More blocks count as written anew. -/
theorem KI.stale {st' : Int → Bool} (h : KI P s st N) (hs : ∀ b, st b = true → st' b = true) : KI P s st' N := by
  refine ⟨h.n3, h.n4, h.pg, h.tx, fun i z hz => ?_, h.fi, h.sm⟩
  obtain ⟨a1, a2, a3, a4⟩ := h.sl i z hz
  refine ⟨a1, a2, fun hk => ⟨(a3 hk).1, fun hf => (a3 hk).2 ?_⟩, a4⟩
  cases e : st z.block with
  | false => rfl
  | true => rw [hs _ e] at hf; cases hf
/-- A block written anew. -/
theorem write_ki (h : KI P s st N) (ok : P.K.Ok) (block : Int) (t : List UInt8) : KI { P with K := (callR P.K ⟨7, 1, block, 0, 0, t, [], []⟩).1 } s (fun b => st b || b == block) (N + 1) := by
  rw [callR_7 _ 1 (.inl rfl)]
  have hm := h.more (Nat.le_succ N)
  by_cases hr : askE P.K.dk 1 block = 0 ∧ t.length = 256
  · have ha := ok.arm
    have hw : writeR P.K.dk 1 block t = (laid P.K.dk block.toNat t, 0) := by
      unfold Go.Proofs.Ythnpalcjfgbjeaa.writeR
      rw [if_pos hr.1, if_pos hr.2, if_neg (by omega)]
    rw [hw]
    refine ⟨hm.n3, hm.n4, hm.pg, hm.tx, fun i z hz => ?_, hm.fi, ⟨hm.sm.next, hm.sm.a1, hm.sm.a2, hm.sm.out, hm.sm.done, ?_⟩⟩
    · obtain ⟨a1, a2, a3, a4⟩ := hm.sl i z hz
      refine ⟨a1, a2, fun hk => ⟨(a3 hk).1, fun hf p hp => ?_⟩, a4⟩
      simp only [Bool.or_eq_false_iff, beq_eq_false_iff_ne] at hf
      rw [(a3 hk).2 hf.1 p hp]
      have n1 := (askE_lt (a3 hk).1).1
      have n2 := (askE_lt hr.1).1
      show _ = see (laid P.K.dk block.toNat t) z.block.toNat
      rw [see_laid, if_neg (by omega)]
    · show (P.K.dk.line ++ [_]).length ≤ N + 1
      rw [List.length_append]
      have := h.sm.line
      simp; omega
  · have hw : (writeR P.K.dk 1 block t).1 = P.K.dk := by
      unfold Go.Proofs.Ythnpalcjfgbjeaa.writeR
      by_cases h1 : askE P.K.dk 1 block = 0
      · rw [if_pos h1, if_neg (fun e => hr ⟨h1, e⟩)]
      · rw [if_neg h1]
    rw [hw]
    exact hm.stale (fun b hb => by rw [hb]; rfl)
/-- What the pinned frame reads, and its pins. -/
theorem read_ki (h : KI P s st N) (hs : s.length ≤ 256) : Fr.readR P.K.ps 1 0 0 (s.length : Int) = (s, 0) := by
  obtain ⟨p, hp, ho, hh, ht⟩ := h.pg 0 (by omega)
  obtain ⟨q, hq, hx⟩ := h.tx
  have hl := h.n4
  rw [hp] at hq
  cases hq
  have e1 : Fr.pg P.K.ps 0 = p := by
    have := pg_at (ps := P.K.ps) (k := 0) (by omega)
    rw [List.getElem?_eq_getElem (by omega)] at hp
    exact this.trans (Option.some.inj hp)
  have e2 : ownErr P.K.ps 1 0 = 0 := by
    unfold ownErr
    rw [if_pos ⟨.inl rfl, by unfold isF; omega⟩, e1, ho]
    rfl
  unfold Fr.readR
  rw [if_pos e2, if_pos (show isIn 0 (s.length : Int) from by unfold isIn; omega), e1]
  simp [hx]
theorem read_at (h : KI P s st N) {i : Nat} (hi : i < 3) : ∃ p, P.K.ps[i]? = some p ∧ p.text.length = 256 ∧ Fr.readR P.K.ps 1 (i : Int) 0 256 = (p.text, 0) := by
  obtain ⟨p, hp, ho, hh, ht⟩ := h.pg i hi
  have hl := h.n4
  have e1 : Fr.pg P.K.ps (i : Int) = p := by
    rw [pg_at (k := i) (by omega)]
    rw [List.getElem?_eq_getElem (by omega)] at hp
    exact Option.some.inj hp
  have e2 : ownErr P.K.ps 1 (i : Int) = 0 := by
    unfold ownErr
    rw [if_pos ⟨.inl rfl, by unfold isF; omega⟩, e1, ho]
    rfl
  refine ⟨p, hp, ht, ?_⟩
  unfold Fr.readR
  rw [if_pos e2, if_pos (show isIn 0 256 from by unfold isIn; omega), e1]
  simp [List.take_of_length_le (Nat.le_of_eq ht)]
theorem pins_ki (h : KI P s st N) : pinsR P 0 = 1 := by
  have h3 := h.n3
  obtain ⟨a1, a2, a3, a4⟩ := h.sl 0 _ (List.getElem?_eq_getElem (by omega))
  have hp : pinned P 0 = some 0 := by
    unfold pinned
    rw [List.findIdx?_eq_some_iff_getElem]
    exact ⟨by omega, isPinned_iff.2 ⟨by omega, by have := (a2 rfl).2; omega⟩, fun j hj => absurd hj (by omega)⟩
  unfold pinsR
  rw [hp]
  dsimp only
  rw [List.getElem?_eq_getElem (by omega)]
  exact (a2 rfl).2
/-- The start: a head's bytes in the first frame. -/
theorem start_ki (hs : s.length ≤ 256) : (headR (newP 4 12 3) s).2 = (0, 0) ∧ KI (headR (newP 4 12 3) s).1 s (fun _ => false) 1 := by
  have ht := take_free (P := newP 4 12 3) (i := 0) (by decide +kernel)
  have hz : (newP 4 12 3).sl[0]? = some (Sl.bare 0) := rfl
  have hw : Fr.writeR (pagesAt 4 3) 1 0 0 s = ((pagesAt 4 3).set 0 { own1 with text := s ++ own1.text.drop s.length }, 0) := by
    unfold Fr.writeR
    rw [if_pos (show ownErr (pagesAt 4 3) 1 0 = 0 by decide +kernel), if_pos (show isIn 0 (s.length : Int) from by unfold isIn; omega), if_pos (show (Fr.pg (pagesAt 4 3) 0).holds = 0 by decide +kernel), show Fr.pg (pagesAt 4 3) 0 = own1 from rfl]
    simp
  have e1 : wroteE (newP 4 12 3).K 0 s = 0 := by
    unfold wroteE
    rw [callR_5 _ 1 (.inl rfl)]
    show (Fr.writeR (pagesAt 4 3) 1 0 0 s).2 = 0
    rw [hw]
  have e2 : wroteK (newP 4 12 3).K 0 s = { newAt 4 12 3 with ps := (pagesAt 4 3).set 0 { own1 with text := s ++ own1.text.drop s.length } } := by
    unfold wroteK
    rw [callR_5 _ 1 (.inl rfl)]
    show { newAt 4 12 3 with ps := (Fr.writeR (pagesAt 4 3) 1 0 0 s).1 } = _
    rw [hw]
  have hR : headR (newP 4 12 3) s = (⟨{ newAt 4 12 3 with ps := (pagesAt 4 3).set 0 { own1 with text := s ++ own1.text.drop s.length } }, [⟨3, 0, (s.length : Int), fl (evs s), fl (ods s), 0, 1, false⟩, Sl.bare 1, Sl.bare 2], 0, 0⟩, 0, 0) := by
    unfold headR
    rw [if_neg (by omega), ht]
    dsimp only
    rw [fill_is hz, show (Sl.bare 0).frame = 0 from rfl, e1, if_pos rfl, e2]
    rfl
  rw [hR]
  have hb : own1.text.length = 256 := by decide +kernel
  refine ⟨rfl, rfl, by show ((pagesAt 4 3).set 0 _).length = 4; rw [List.length_set]; rfl, fun f hf => ?_, ⟨_, rfl, by show (s ++ own1.text.drop s.length).take s.length = s; simp⟩, fun i z hz => ?_, by show 0 ≤ 1; omega, ⟨Nat.zero_le _, Nat.zero_le _, Nat.zero_le _, Nat.zero_le _, Nat.zero_le _, Nat.zero_le _⟩⟩
  · match f, hf with
    | 0, _ => exact ⟨_, rfl, rfl, rfl, by show (s ++ own1.text.drop s.length).length = 256; rw [List.length_append, List.length_drop, hb]; omega⟩
    | 1, _ => exact ⟨own1, rfl, rfl, rfl, hb⟩
    | 2, _ => exact ⟨own1, rfl, rfl, rfl, hb⟩
  · match i, hz with
    | 0, hz => cases hz; exact ⟨rfl, fun _ => ⟨rfl, rfl⟩, fun hk => (by cases hk), Nat.le_refl _⟩
    | 1, hz => cases hz; exact SlOk.bare (by omega)
    | 2, hz => cases hz; exact SlOk.bare (by omega)
theorem stale_next {l : List PAct} {j : Nat} (hj : j < l.length) (b : Int) : staleB (l.take (j + 1)) b = (staleB (l.take j) b || staleA b l[j]) := by
  unfold staleB
  rw [List.take_succ_eq_append_getElem hj, List.any_append]
  simp
end Go.Proofs.Ythnpalcjfgbjeaa.Pq
