/- Layer 11, in plain words: what is packed is parsed; a block in which one byte is turned is none. No condition but those that each states. -/
import Derived.Test.YtjjoohmfeglicaaDoorIn9
namespace Go.Proofs.YtjjoohmfeglicaaDoor.In
open Fl
set_option linter.unusedVariables false
set_option linter.unusedSimpArgs false

/-! Good sums. -/
theorem fo_good {m : Nat} : fo m = 65535 ↔ 0 < m ∧ m % 65535 = 0 := by
  unfold fo
  split <;> omega
theorem evs_two_end (x : List UInt8) (hx : x.length % 2 = 0) (a b : UInt8) : evs (x ++ [a, b]) = evs x + a.toNat ∧ ods (x ++ [a, b]) = ods x + b.toNat := by
  rw [(evs_append _ _).1, (evs_append _ _).2, if_pos hx, if_pos hx]
  simp [evs, ods]
theorem be_two (q : Nat) : be q 2 = [nb q 1, nb q 0] := rfl
theorem nb_two {q : Nat} (h : q ≤ 65535) : 256 * (nb q 1).toNat + (nb q 0).toNat = q := by
  rw [nb_eq, nb_eq]
  simp only [Nat.pow_one, Nat.pow_zero, Nat.div_one]
  omega
theorem good_seal {t : List UInt8} (h : t.length ≤ 254) : goodL (sealL t) = true := by
  have hp := pad_length h
  have hfo := fo_le (256 * evs (pad t) + ods (pad t))
  have hq := nb_two (q := 65535 - fo (256 * evs (pad t) + ods (pad t))) (by omega)
  obtain ⟨e1, e2⟩ := evs_two_end (pad t) (by rw [hp]) (nb (65535 - fo (256 * evs (pad t) + ods (pad t))) 1) (nb (65535 - fo (256 * evs (pad t) + ods (pad t))) 0)
  unfold goodL
  rw [show sealL t = pad t ++ [nb (65535 - fo (256 * evs (pad t) + ods (pad t))) 1, nb (65535 - fo (256 * evs (pad t) + ods (pad t))) 0] from rfl, e1, e2]
  refine decide_eq_true (fo_good.2 ?_)
  generalize hS : 256 * evs (pad t) + ods (pad t) = S at *
  generalize (nb (65535 - fo S) 1).toNat = u at *
  generalize (nb (65535 - fo S) 0).toNat = v at *
  have hf : fo S = if S = 0 then 0 else (S - 1) % 65535 + 1 := rfl
  have e3 : 256 * (evs (pad t) + u) + (ods (pad t) + v) = S + (65535 - fo S) := by omega
  rw [e3]
  split at hf <;> omega
theorem evs_set : ∀ (l : List UInt8) (i : Nat) (h : i < l.length) (y : UInt8),
    evs (l.set i y) + (if i % 2 = 0 then l[i].toNat else 0) = evs l + (if i % 2 = 0 then y.toNat else 0) ∧ ods (l.set i y) + (if i % 2 = 0 then 0 else l[i].toNat) = ods l + (if i % 2 = 0 then 0 else y.toNat)
  | a :: l, 0, _, y => by simp [evs, ods]; omega
  | a :: l, i + 1, h, y => by
    have := evs_set l i (by simpa using h) y
    simp only [List.set_cons_succ, evs, ods, List.getElem_cons_succ]
    by_cases hi : i % 2 = 0
    · have h1 : ¬ (i + 1) % 2 = 0 := by omega
      simp only [hi, h1, if_true, if_false] at this ⊢
      omega
    · have h1 : (i + 1) % 2 = 0 := by omega
      simp only [hi, h1, if_true, if_false] at this ⊢
      omega
theorem good_turned {l : List UInt8} {i : Nat} (hi : i < l.length) {y : UInt8} (hy : y ≠ l[i]) (hg : goodL l = true) : goodL (l.set i y) = false := by
  have h1 := fo_good.1 (of_decide_eq_true hg)
  unfold goodL
  refine decide_eq_false (fun h => ?_)
  have h2 := fo_good.1 h
  have hne : y.toNat ≠ l[i].toNat := fun e => hy (UInt8.toNat_inj.1 e)
  have b1 := y.toNat_lt
  have b2 := l[i].toNat_lt
  obtain ⟨e1, e2⟩ := evs_set l i hi y
  generalize l[i].toNat = x at *
  generalize y.toNat = z at *
  generalize evs (l.set i y) = E' at *
  generalize ods (l.set i y) = O' at *
  generalize evs l = E at *
  generalize ods l = O at *
  by_cases hp : i % 2 = 0
  · simp only [hp, if_true] at e1 e2
    omega
  · simp only [hp, if_false] at e1 e2
    omega

/-! Reading what was packed. -/
theorem numS_be {a k : Nat} (r : List UInt8) (h1 : 1 ≤ k) (h8 : k ≤ 8) : numS (be a k ++ r, 0) (k : Int) = (a % 256 ^ k, (r, 0)) := by
  have hl : (be a k ++ r).length = k + r.length := by rw [List.length_append, be_length]
  unfold numS
  have e : takeR (be a k ++ r) 0 (k : Int) true = ((be a k ++ r).take (k : Int).toNat, (be a k ++ r).drop (k : Int).toNat, 0) := takeR_ok (by omega) (by rw [hl]; omega)
  dsimp only
  rw [e, Int.toNat_natCast, List.take_left' (be_length a k), List.drop_left' (be_length a k)]
  dsimp only
  rw [numB_be]
theorem intS_be {a k : Nat} (r : List UInt8) (h1 : 1 ≤ k) (h8 : k ≤ 8) (ha : a < 256 ^ k) (hm : a < 9223372036854775808) : intS (be a k ++ r, 0) (k : Int) = ((a : Int), (r, 0)) := by
  unfold intS
  rw [numS_be r h1 h8, Nat.mod_eq_of_lt ha]
  dsimp only
  rw [IntWalk.i64_in _ (by omega)]
theorem bytS_app (x r : List UInt8) (k : Nat) (hk : x.length = k) : bytS (x ++ r, 0) (k : Int) = (x, (r, 0)) := by
  have hl : (x ++ r).length = k + r.length := by rw [List.length_append, hk]
  unfold bytS
  have e : takeR (x ++ r) 0 (k : Int) false = ((x ++ r).take (k : Int).toNat, (x ++ r).drop (k : Int).toNat, 0) := takeR_ok (by simp) (by rw [hl]; omega)
  dsimp only
  rw [e, Int.toNat_natCast, List.take_left' hk, List.drop_left' hk]
theorem readInts_app (ds : List Int) (hb : ds.all isBlk = true) (r : List UInt8) : ∀ j, j ≤ ds.length → readInts j (blkT ds ++ r, 0) = (ds.take j, (blkT (ds.drop j) ++ r, 0))
  | 0, _ => rfl
  | j + 1, h => by
    have ih := readInts_app ds hb r j (by omega)
    have hj : j < ds.length := by omega
    have hd : ds.drop j = ds[j] :: ds.drop (j + 1) := List.drop_eq_getElem_cons hj
    have hm := List.all_eq_true.1 hb _ (List.getElem_mem hj)
    unfold isBlk at hm
    have hm := of_decide_eq_true hm
    have e : blkT (ds.drop j) ++ r = be ds[j].toNat 2 ++ (blkT (ds.drop (j + 1)) ++ r) := by rw [hd]; unfold blkT; rw [List.flatMap_cons, List.append_assoc]
    show ((readInts j _).1 ++ [(intS (readInts j _).2 2).1], (intS (readInts j _).2 2).2) = _
    have e2 := intS_be (a := ds[j].toNat) (k := 2) (blkT (ds.drop (j + 1)) ++ r) (by decide) (by decide) (by omega) (by omega)
    rw [ih, e, show (2 : Int) = ((2 : Nat) : Int) from rfl, e2, List.take_succ_eq_append_getElem hj]
    dsimp only
    rw [Int.toNat_of_nonneg (by omega)]
theorem seal_app (t : List UInt8) : ∃ r, sealL t = t ++ r := ⟨_, by unfold sealL pad; rw [List.append_assoc]⟩
theorem rootT_length (g : Int) (ds : List Int) : (rootT g ds).length = 9 + 2 * ds.length := by
  unfold rootT; simp only [List.length_append, be_length, blkT_length, List.length_cons, List.length_nil]
theorem rootR_seal {g : Int} {ds : List Int} (h : rootMay g ds = true) : rootR (sealL (rootT g ds)) = (g, ds) := by
  obtain ⟨r, hr⟩ := seal_app (rootT g ds)
  unfold rootMay at h
  simp only [Bool.and_eq_true, decide_eq_true_eq] at h
  have hg := of_decide_eq_true (show decide (1 ≤ g ∧ g ≤ 1073741824) = true from h.1.1)
  have e : sealL (rootT g ds) = [80, 82, 79, 84] ++ (be g.toNat 4 ++ (be ds.length 1 ++ (blkT ds ++ r))) := by
    rw [hr]; unfold rootT; simp only [List.append_assoc]
  have a1 := bytS_app [80, 82, 79, 84] (be g.toNat 4 ++ (be ds.length 1 ++ (blkT ds ++ r))) 4 rfl
  have a2 := intS_be (a := g.toNat) (k := 4) (be ds.length 1 ++ (blkT ds ++ r)) (by decide) (by decide) (by omega) (by omega)
  have a3 := intS_be (a := ds.length) (k := 1) (blkT ds ++ r) (by decide) (by decide) (by have := h.1.2; omega) (by have := h.1.2; omega)
  have a4 := readInts_app ds h.2 r ds.length (Nat.le_refl _)
  unfold rootR rootN rootG
  rw [e, show (4 : Int) = ((4 : Nat) : Int) from rfl, a1, a2, show (1 : Int) = ((1 : Nat) : Int) from rfl, a3]
  dsimp only
  rw [Int.toNat_natCast, a4, List.take_length, Int.toNat_of_nonneg (by omega)]

theorem ent_text_length {e : Ent} (h : e.may = true) : e.text.length = 27 := by
  unfold Ent.may at h
  rw [Bool.and_eq_true] at h
  have := nameB_len h.1
  unfold Ent.text
  simp only [List.length_append, be_length, List.length_replicate]
  omega
theorem entS_app {e : Ent} (h : e.may = true) (r : List UInt8) : entS (e.text ++ r, 0) = (e, (r, 0)) := by
  have h0 := h
  unfold Ent.may at h
  rw [Bool.and_eq_true] at h
  have hn := nameB_len h.1
  have hi := h.2
  unfold isBlk at hi
  have hi := of_decide_eq_true hi
  have e1 : e.text ++ r = be e.name.length 1 ++ ((e.name ++ List.replicate (24 - e.name.length) 0) ++ (be e.ino.toNat 2 ++ r)) := by unfold Ent.text; simp only [List.append_assoc]
  have a1 := intS_be (a := e.name.length) (k := 1) ((e.name ++ List.replicate (24 - e.name.length) 0) ++ (be e.ino.toNat 2 ++ r)) (by decide) (by decide) (by omega) (by omega)
  have a2 := bytS_app (e.name ++ List.replicate (24 - e.name.length) 0) (be e.ino.toNat 2 ++ r) 24 (by rw [List.length_append, List.length_replicate]; omega)
  have a3 := intS_be (a := e.ino.toNat) (k := 2) r (by decide) (by decide) (by omega) (by omega)
  unfold entS
  dsimp only
  rw [e1, show (1 : Int) = ((1 : Nat) : Int) from rfl, a1, show (24 : Int) = ((24 : Nat) : Int) from rfl, a2, show (2 : Int) = ((2 : Nat) : Int) from rfl, a3]
  dsimp only
  have e3 : (min (e.name.length : Int) ((e.name ++ List.replicate (24 - e.name.length) 0).length : Int)).toNat = e.name.length := by
    rw [List.length_append]; omega
  rw [e3, List.take_left, Int.toNat_of_nonneg (by omega)]
theorem readEnts_app (es : List Ent) (hb : es.all Ent.may = true) (r : List UInt8) : ∀ j, j ≤ es.length → readEnts j (es.flatMap Ent.text ++ r, 0) = (es.take j, ((es.drop j).flatMap Ent.text ++ r, 0))
  | 0, _ => rfl
  | j + 1, h => by
    have ih := readEnts_app es hb r j (by omega)
    have hj : j < es.length := by omega
    have hd : es.drop j = es[j] :: es.drop (j + 1) := List.drop_eq_getElem_cons hj
    have hm := List.all_eq_true.1 hb _ (List.getElem_mem hj)
    have e : (es.drop j).flatMap Ent.text ++ r = es[j].text ++ ((es.drop (j + 1)).flatMap Ent.text ++ r) := by rw [hd, List.flatMap_cons, List.append_assoc]
    show ((readEnts j _).1 ++ [(entS (readEnts j _).2).1], (entS (readEnts j _).2).2) = _
    rw [ih, e, entS_app hm, List.take_succ_eq_append_getElem hj]
theorem dirT_length {es : List Ent} (h : es.all Ent.may = true) : (dirT es).length = 2 + 27 * es.length := by
  have : ∀ l : List Ent, l.all Ent.may = true → (l.flatMap Ent.text).length = 27 * l.length := by
    intro l
    induction l with
    | nil => intro _; rfl
    | cons e l ih =>
      intro hl
      rw [List.all_cons, Bool.and_eq_true] at hl
      rw [List.flatMap_cons, List.length_append, ent_text_length hl.1, ih hl.2, List.length_cons]
      omega
  unfold dirT
  simp only [List.length_append, be_length, this es h, List.length_cons, List.length_nil]
theorem dirR_seal {es : List Ent} (h : dirMay es = true) : dirR (sealL (dirT es)) = es := by
  obtain ⟨r, hr⟩ := seal_app (dirT es)
  unfold dirMay at h
  simp only [Bool.and_eq_true, decide_eq_true_eq] at h
  have e : sealL (dirT es) = [68] ++ (be es.length 1 ++ (es.flatMap Ent.text ++ r)) := by rw [hr]; unfold dirT; simp only [List.append_assoc]
  have a1 := bytS_app [68] (be es.length 1 ++ (es.flatMap Ent.text ++ r)) 1 rfl
  have a3 := intS_be (a := es.length) (k := 1) (es.flatMap Ent.text ++ r) (by decide) (by decide) (by omega) (by omega)
  have a4 := readEnts_app es h.2 r es.length (Nat.le_refl _)
  unfold dirR dirN
  rw [e, show (1 : Int) = ((1 : Nat) : Int) from rfl, a1, a3]
  dsimp only
  rw [Int.toNat_natCast, a4, List.take_length]

/-- Parts that are words, as float64. -/
def fls (ps : List (Int × Int)) : List (Nat × Nat) := ps.map fun p => (fl p.1, fl p.2)
def Word (z : Int) : Prop := 0 ≤ z ∧ z ≤ 65535
theorem toN_fl {z : Int} (h : Word z) : toN (fl z) = z.toNat := by
  obtain ⟨n, rfl⟩ : ∃ n : Nat, z = (n : Int) := ⟨z.toNat, by unfold Word at h; omega⟩
  unfold Word at h
  exact toN_rep (read_fl (by rw [Int.natAbs_natCast]; omega)).rep
theorem tripS_app {b : Int} (hb : isBlk b = true) {p : Int × Int} (h1 : Word p.1) (h2 : Word p.2) (r : List UInt8) : tripS (trip b (fl p.1, fl p.2) ++ r, 0) = ((b, (fl p.1, fl p.2)), (r, 0)) := by
  unfold isBlk at hb
  have hb := of_decide_eq_true hb
  have e : trip b (fl p.1, fl p.2) ++ r = be b.toNat 2 ++ (be p.1.toNat 2 ++ (be p.2.toNat 2 ++ r)) := by
    unfold trip; rw [toN_fl h1, toN_fl h2]; simp only [List.append_assoc]
  unfold Word at h1 h2
  have a1 := intS_be (a := b.toNat) (k := 2) (be p.1.toNat 2 ++ (be p.2.toNat 2 ++ r)) (by decide) (by decide) (by omega) (by omega)
  have a2 := intS_be (a := p.1.toNat) (k := 2) (be p.2.toNat 2 ++ r) (by decide) (by decide) (by omega) (by omega)
  have a3 := intS_be (a := p.2.toNat) (k := 2) r (by decide) (by decide) (by omega) (by omega)
  unfold tripS
  dsimp only
  rw [e, show (2 : Int) = ((2 : Nat) : Int) from rfl, a1, a2, a3]
  dsimp only
  rw [Int.toNat_of_nonneg (by omega), Int.toNat_of_nonneg h1.1, Int.toNat_of_nonneg h2.1]
theorem readTrips_app (bs : List Int) (hb : bs.all isBlk = true) (ps : List (Int × Int)) (hp : ∀ p ∈ ps, Word p.1 ∧ Word p.2) (he : ps.length = bs.length) (r : List UInt8) :
    ∀ j, j ≤ bs.length → (readTrips j (trips bs (fls ps) ++ r, 0)).1.map (·.1) = bs.take j ∧ (readTrips j (trips bs (fls ps) ++ r, 0)).1.map (·.2) = fls (ps.take j) ∧ (readTrips j (trips bs (fls ps) ++ r, 0)).2 = (trips (bs.drop j) (fls (ps.drop j)) ++ r, 0)
  | 0, _ => ⟨rfl, rfl, rfl⟩
  | j + 1, h => by
    obtain ⟨i1, i2, i3⟩ := readTrips_app bs hb ps hp he r j (by omega)
    have hj : j < bs.length := by omega
    have hj' : j < ps.length := by omega
    have hd : bs.drop j = bs[j] :: bs.drop (j + 1) := List.drop_eq_getElem_cons hj
    have hd' : ps.drop j = ps[j] :: ps.drop (j + 1) := List.drop_eq_getElem_cons hj'
    have hm := List.all_eq_true.1 hb _ (List.getElem_mem hj)
    have hw := hp _ (List.getElem_mem hj')
    have e : trips (bs.drop j) (fls (ps.drop j)) ++ r = trip bs[j] (fl ps[j].1, fl ps[j].2) ++ (trips (bs.drop (j + 1)) (fls (ps.drop (j + 1))) ++ r) := by
      rw [hd, hd']
      show (trip bs[j] (fl ps[j].1, fl ps[j].2) ++ trips (bs.drop (j + 1)) (fls (ps.drop (j + 1)))) ++ r = _
      rw [List.append_assoc]
    have hs : readTrips (j + 1) (trips bs (fls ps) ++ r, 0) = ((readTrips j (trips bs (fls ps) ++ r, 0)).1 ++ [(tripS (readTrips j (trips bs (fls ps) ++ r, 0)).2).1], (tripS (readTrips j (trips bs (fls ps) ++ r, 0)).2).2) := rfl
    rw [i3, e, tripS_app hm hw.1 hw.2] at hs
    rw [hs]
    refine ⟨?_, ?_, rfl⟩
    · rw [List.map_append, i1, List.take_succ_eq_append_getElem hj]; rfl
    · rw [List.map_append, i2, List.take_succ_eq_append_getElem hj']; unfold fls; rw [List.map_append]; rfl
theorem trips_length : ∀ (bs : List Int) (ps : List (Nat × Nat)), bs.length = ps.length → (trips bs ps).length = 6 * bs.length
  | [], [], _ => rfl
  | b :: bs, p :: ps, h => by
    have := trips_length bs ps (by simpa using h)
    show (trip b p ++ trips bs ps).length = _
    rw [List.length_append, this, List.length_cons]
    simp only [trip, List.length_append, be_length]
    omega
theorem word_of {z : Int} (hz : -9223372036854775808 ≤ z ∧ z ≤ 9223372036854775807) (h : isW (fl z) = true) : Word z := by
  rw [isW_fl (by omega)] at h
  show 0 ≤ z ∧ z ≤ 65535
  exact of_decide_eq_true h
theorem fil_may {v m q : Int} {bs : List Int} {ps : List (Nat × Nat)} (h : Fil.may ⟨v, m, q, bs, ps⟩ = true) :
    (1 ≤ v ∧ v ≤ 1073741824) ∧ (0 ≤ m ∧ m ≤ 253402300799) ∧ (0 ≤ q ∧ q ≤ 8192) ∧ (bs.length : Int) = cntB q ∧ (ps.length : Int) = cntB q ∧ bs.all isBlk = true ∧ ps.all isP = true := by
  unfold Fil.may Fil.head at h
  simp only [Bool.and_eq_true, decide_eq_true_eq] at h
  exact ⟨of_decide_eq_true (show decide (1 ≤ v ∧ v ≤ 1073741824) = true from h.1.1.1), h.1.1.2, h.1.2, h.2.1.1.1, h.2.1.1.2, h.2.1.2, h.2.2⟩
theorem filR_seal {v m q : Int} {bs : List Int} {ps : List (Int × Int)} (hin : ∀ p ∈ ps, (-9223372036854775808 ≤ p.1 ∧ p.1 ≤ 9223372036854775807) ∧ (-9223372036854775808 ≤ p.2 ∧ p.2 ≤ 9223372036854775807)) (h : Fil.may ⟨v, m, q, bs, fls ps⟩ = true) :
    filR (sealL (filT ⟨v, m, q, bs, fls ps⟩)) = ⟨v, m, q, bs, fls ps⟩ := by
  obtain ⟨r, hr⟩ := seal_app (filT ⟨v, m, q, bs, fls ps⟩)
  obtain ⟨h1, h2, h3, h4, h5, h6, h7⟩ := fil_may h
  have hlen : (fls ps).length = ps.length := by unfold fls; simp
  have hc := cntB_eq h3.1
  have hw : ∀ p ∈ ps, Word p.1 ∧ Word p.2 := by
    intro p hp
    have := List.all_eq_true.1 h7 (fl p.1, fl p.2) (List.mem_map.2 ⟨p, hp, rfl⟩)
    unfold isP at this
    rw [Bool.and_eq_true] at this
    exact ⟨word_of (hin p hp).1 this.1, word_of (hin p hp).2 this.2⟩
  have e : sealL (filT ⟨v, m, q, bs, fls ps⟩) = [70] ++ (be v.toNat 4 ++ (be m.toNat 8 ++ (be q.toNat 2 ++ (trips bs (fls ps) ++ r)))) := by rw [hr]; unfold filT; simp only [List.append_assoc]
  have a1 := bytS_app [70] (be v.toNat 4 ++ (be m.toNat 8 ++ (be q.toNat 2 ++ (trips bs (fls ps) ++ r)))) 1 rfl
  have a2 := intS_be (a := v.toNat) (k := 4) (be m.toNat 8 ++ (be q.toNat 2 ++ (trips bs (fls ps) ++ r))) (by decide) (by decide) (by omega) (by omega)
  have a3 := intS_be (a := m.toNat) (k := 8) (be q.toNat 2 ++ (trips bs (fls ps) ++ r)) (by decide) (by decide) (by omega) (by omega)
  have a4 := intS_be (a := q.toNat) (k := 2) (trips bs (fls ps) ++ r) (by decide) (by decide) (by omega) (by omega)
  have hN : (cntB q).toNat = bs.length := by omega
  obtain ⟨b1, b2, _⟩ := readTrips_app bs h6 ps hw (by omega) r bs.length (Nat.le_refl _)
  unfold filR filL filM filV
  rw [e, show (1 : Int) = ((1 : Nat) : Int) from rfl, a1, show (4 : Int) = ((4 : Nat) : Int) from rfl, a2, show (8 : Int) = ((8 : Nat) : Int) from rfl, a3, show (2 : Int) = ((2 : Nat) : Int) from rfl, a4]
  dsimp only
  rw [Int.toNat_of_nonneg (by omega), Int.toNat_of_nonneg h2.1, Int.toNat_of_nonneg h3.1, hN, b1, b2, List.take_length, List.take_of_length_le (by omega)]
theorem filT_length {v m q : Int} {bs : List Int} {ps : List (Nat × Nat)} (h : Fil.may ⟨v, m, q, bs, ps⟩ = true) : (filT ⟨v, m, q, bs, ps⟩).length ≤ 254 := by
  obtain ⟨h1, h2, h3, h4, h5, h6, h7⟩ := fil_may h
  have hc := cntB_eq h3.1
  unfold filT
  simp only [List.length_append, be_length, List.length_cons, List.length_nil]
  rw [trips_length bs ps (by omega)]
  omega

/-! What is packed is parsed. -/
theorem back_root {g : Int} {ds : List Int} (h : rootMay g ds = true) : errOf (sealL (rootT g ds)) (rootMay (rootR (sealL (rootT g ds))).1 (rootR (sealL (rootT g ds))).2) (rootT (rootR (sealL (rootT g ds))).1 (rootR (sealL (rootT g ds))).2) = 0 := by
  have hl : (rootT g ds).length ≤ 254 := by
    have h' := h
    unfold rootMay at h'
    simp only [Bool.and_eq_true, decide_eq_true_eq] at h'
    rw [rootT_length]; omega
  rw [rootR_seal h]
  exact errOf_ok (by rw [sealL_length hl]; simp) (good_seal hl) ⟨h, rfl⟩
theorem back_dir {es : List Ent} (h : dirMay es = true) : errOf (sealL (dirT es)) (dirMay (dirR (sealL (dirT es)))) (dirT (dirR (sealL (dirT es)))) = 0 := by
  have hl : (dirT es).length ≤ 254 := by
    have h' := h
    unfold dirMay at h'
    simp only [Bool.and_eq_true, decide_eq_true_eq] at h'
    rw [dirT_length h'.2]; omega
  rw [dirR_seal h]
  exact errOf_ok (by rw [sealL_length hl]; simp) (good_seal hl) ⟨h, rfl⟩
theorem back_file {v m q : Int} {bs : List Int} {ps : List (Int × Int)} (hin : ∀ p ∈ ps, (-9223372036854775808 ≤ p.1 ∧ p.1 ≤ 9223372036854775807) ∧ (-9223372036854775808 ≤ p.2 ∧ p.2 ≤ 9223372036854775807)) (h : Fil.may ⟨v, m, q, bs, fls ps⟩ = true) :
    errOf (sealL (filT ⟨v, m, q, bs, fls ps⟩)) (filR (sealL (filT ⟨v, m, q, bs, fls ps⟩))).may (filT (filR (sealL (filT ⟨v, m, q, bs, fls ps⟩)))) = 0 := by
  rw [filR_seal hin h]
  exact errOf_ok (by rw [sealL_length (filT_length h)]; simp) (good_seal (filT_length h)) ⟨h, rfl⟩
theorem turned_err {t : List UInt8} (h : t.length ≤ 254) {i : Nat} (hi : i < (sealL t).length) {y : UInt8} (hy : y ≠ (sealL t)[i]) (m : Bool) (t' : List UInt8) : errOf ((sealL t).set i y) m t' = 51 :=
  errOf_sum (by rw [List.length_set, sealL_length h]; simp) (good_turned hi hy (good_seal h))

/-- How many bytes of a file of q bytes a block has. -/
def spanR (q : Nat) (i : Nat) : Nat := min (256 * (i + 1)) q - min (256 * i) q
end Go.Proofs.YtjjoohmfeglicaaDoor.In
