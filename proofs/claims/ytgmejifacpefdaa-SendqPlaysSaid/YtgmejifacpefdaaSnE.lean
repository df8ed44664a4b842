/- The document's line: Pieces, Frames, Add. Conditions: those that each states. -/
import Derived.Test.YtgmejifacpefdaaSnD
import Derived.Test.YtgmejifacpefdaaTail
import Derived.Test.YtgmejifacpefdaaGw
namespace Go.Proofs.Ytgmejifacpefdaa.Sn
open Go.ChangeShapes Go.WideShapes Go.ChangeAt Go.RowKit Go.Deep Rk Rv Gx
set_option linter.unusedVariables false
set_option linter.unusedSimpArgs false

theorem dpieces_any {w : World} {F : Nat → Prop} {g st : Nat} {L : List By} (h : DLine w F g L st) (hL : L.length ≤ 100000) :
    Calls Try.prog 26 #[.pointer (some ⟨g, 0, none⟩)] w fun e w' => e = .returned (.int .i64 (L.countP (·.last) : Int)) ∧ w' = w := by
  obtain ⟨A, c, h1, h2, h3⟩ := h.ex
  have hc1 := (h1.cell 1).trans (show _ = some (.slice A L.length c) from rfl)
  have RV := Lib.hid h2
  clear h h1 h2 h3
  go_enter Try.func26, Try.ntmps26
  go_wp2
  go_loop [3, 4] (fun n i => ∃ j : Nat, j ≤ L.length ∧ i = .int .i64 (j : Int) ∧ n = .int .i64 ((L.take j).countP (·.last) : Int)) (fun _ i => L.length - (intOf i).toNat)
  case atStart => exact ⟨0, Nat.zero_le _, rfl, by simp⟩
  case round =>
    obtain ⟨j, hj, rfl, rfl⟩ := hrel
    by_cases hlt : j < L.length
    · have hlt' : (j : Int) < (L.length : Int) := by omega
      have j0 : (0 : Int) ≤ (j : Int) := by omega
      have xj := IntWalk.i64_in ((j : Int) + 1) (by omega)
      obtain ⟨b, o, rfl, hbl, -, -, c2⟩ := byte_at RV.out hlt
      have HT := Lib.hid (show (L.take (j + 1)).countP (·.last) = (L.take j).countP (·.last) + (if L[j].last then 1 else 0) by rw [List.take_succ_eq_append_getElem hlt, List.countP_append, List.countP_singleton])
      obtain ⟨n, hn⟩ : ∃ n, (L.take j).countP (·.last) = n := ⟨_, rfl⟩
      have hnb : n ≤ 100000 := by have := List.countP_le_length (p := fun (x : By) => x.last) (l := L.take j); rw [List.length_take] at this; omega
      have xn := IntWalk.i64_in ((n : Int) + 1) (by omega)
      rw [hn]
      rw [hn] at HT
      cases hx : L[j].last with
      | true =>
        rw [hx] at c2 HT
        have HT' := Lib.hid (show (L.take (j + 1)).countP (·.last) = n + 1 from HT.out)
        clear hx HT hn
        go_wp2
        go_round
        case rel => exact ⟨j + 1, by omega, by go_num, by rw [HT'.out]; go_num⟩
        case measure => simp [intOf]; omega
      | false =>
        rw [hx] at c2 HT
        have HT' := Lib.hid (show (L.take (j + 1)).countP (·.last) = n from HT.out)
        clear hx HT hn
        go_wp2
        go_round
        case rel => exact ⟨j + 1, by omega, by go_num, by rw [HT'.out]⟩
        case measure => simp [intOf]; omega
    · have hge : ¬ (j : Int) < (L.length : Int) := by omega
      rw [List.take_of_length_le (by omega : L.length ≤ j)]
      go_wp2
      go_ret
      exact ⟨rfl, rfl⟩

theorem int_i : ∃ i0, Try.prog.info? 3 = some i0 ∧ i0.zero = some (.int .i64 0) ∧ i0.size = 1 ∧ i0.bytes = 8 := by
  obtain ⟨i, hi, hs⟩ := Option.map_eq_some_iff.1 int_infos
  simp only [Prod.mk.injEq] at hs
  exact ⟨i, hi, hs.1, hs.2.1, hs.2.2⟩
/-- A new block of one element, as a row that is read. -/
theorem G_one (w : World) (E : TypeId) (cs : List Value) (sz : Nat) (h : cs.length = sz) : RowG (w.alloc (.cells cs.toArray E)) sz (some ⟨w.heap.size, 0, none⟩) 1 1 cs :=
  ⟨by rw [h, Nat.one_mul], Nat.le_refl _, by unfold maxLen; omega, fun e => (by cases e), fun a e _ => by
    cases e
    refine ⟨rfl, by simp, fun j hj => ?_⟩
    rw [Nat.zero_add, (Blk.new w E cs.toArray).cell, List.getElem?_toArray, List.getElem?_eq_getElem hj]⟩
set_option maxRecDepth 100000 in
set_option maxHeartbeats 2000000 in
theorem dframes_any {w : World} {F : Nat → Prop} {g st : Nat} {L : List By} (h : DLine w F g L st) (hL : L.length ≤ 100000) :
    Calls Try.prog 23 #[.pointer (some ⟨g, 0, none⟩)] w fun e w' => ∃ A' c', e = .returned (.slice A' (lastsV L).length c') ∧ RowG w' 1 A' (lastsV L).length c' (lastsV L) ∧ (∀ a, A' = some a → w.heap.size ≤ a.block) ∧ Below w.heap.size w w' := by
  obtain ⟨A, c, h1, h2, h3⟩ := h.ex
  have HD := Lib.hid h1
  have RV := Lib.hid h2
  have B0 := Lib.hid (Below.refl w.heap.size w)
  obtain ⟨i0, INF0⟩ := int_i
  have INF := Lib.hid INF0
  clear h h1 h2 h3 INF0
  go_enter Try.func23, Try.ntmps23
  go_wp2
  go_loopw [3, 4] (fun out i wr => ∃ (j m : Nat) (A' : Option Addr) (c' : Nat), j ≤ L.length ∧ i = .int .i64 (j : Int) ∧ out = .slice A' m c' ∧ Hid (m = (lastsV (L.take j)).length) ∧ Hid (RowV wr 3 1 A' m c' (lastsV (L.take j))) ∧ Hid (∀ k, inR A' k → w.heap.size ≤ k) ∧ Hid (Below w.heap.size w wr)) (fun _ i _ => L.length - (intOf i).toNat)
  case atStart => exact ⟨0, 0, none, 0, Nat.zero_le _, rfl, rfl, Lib.hid rfl, Lib.hid (RowV.nil _ _ _), Lib.hid (fun k ⟨a, e, _⟩ => by cases e), B0⟩
  case round =>
    obtain ⟨j, m, A', c', hj, rfl, rfl, HM, HO, OW, HB⟩ := hrel
    clear B0
    have hc1 := ((HD.out.older (older_below HB.out)).cell 1).trans (show _ = some (.slice A L.length c) from rfl)
    have R1 := Lib.hid (RV.out.new HB.out)
    by_cases hlt : j < L.length
    · have hlt' : (j : Int) < (L.length : Int) := by omega
      have j0 : (0 : Int) ≤ (j : Int) := by omega
      have xj := IntWalk.i64_in ((j : Int) + 1) (by omega)
      obtain ⟨b, o, rfl, hbl, cc0, -, cc2⟩ := byte_at R1.out hlt
      have HT := Lib.hid (show lastsV (L.take (j + 1)) = lastsV (L.take j) ++ (if L[j].last then [.int .i64 L[j].frame] else []) by
        rw [List.take_succ_eq_append_getElem hlt, lastsV_append]
        unfold lastsV
        cases hx : L[j].last <;> simp [List.filter_cons, hx])
      have hmb : m ≤ 100000 := by
        have := List.length_filter_le (fun (x : By) => x.last) (L.take j)
        have h2 := HM.out
        unfold lastsV at h2
        rw [List.length_map] at h2
        rw [List.length_take] at this
        omega
      generalize L[j].frame = qf at *
      cases hx : L[j].last with
      | true =>
        rw [hx] at cc2 HT
        have HT' := Lib.hid (show lastsV (L.take (j + 1)) = lastsV (L.take j) ++ [.int .i64 qf] from HT.out)
        clear hx HT
        go_wp2_with (first | (at_builtin; refine Hid.out ?_) | fail)
        unfold Hid
        have NB := (Below.refl wr.heap.size wr).alloc (Nat.le_refl _) (.cells #[.int .i64 qf] 3)
        refine wpList_append_V rfl (.tmp 22) (.tmp 31) 39 rfl 3 i0 (.int .i64 0) 1 8 Try.underlying39 INF.out.1 INF.out.2.1 INF.out.2.2.1 INF.out.2.2.2 rfl (by decide) (by decide) A' m c' _ rfl (HO.out.new NB) (some ⟨wr.heap.size, 0, none⟩) 1 1 [.int .i64 qf] rfl (G_one wr 3 [.int .i64 qf] 1 rfl) (by simp; rfl) (by omega) ?_
        intro A2 c2 w2 r2 k2 n2
        rw [← HT'.out] at r2
        have HO2 := Lib.hid r2
        have HM2 := Lib.hid (show m + 1 = (lastsV (L.take (j + 1))).length by rw [HT'.out, List.length_append, ← HM.out]; rfl)
        have OW2 := Lib.hid (show ∀ k, inR A2 k → w.heap.size ≤ k from fun k hk => by
          rcases n2 k hk with h | h
          · exact OW.out k h
          · have := HB.out.size; simp at h; omega)
        have HB2 := Lib.hid (show Below w.heap.size w w2 from (HB.out.trans (NB.mono HB.out.size)).trans (k2.below (by have := HB.out.size; simp; omega) OW.out))
        clear r2 k2 n2 NB HO HB HT' HM OW R1
        go_wp2
        go_roundw
        case rel => exact ⟨j + 1, m + 1, A2, c2, by omega, by simp, rfl, HM2, HO2, OW2, HB2⟩
        case measure => simp [intOf]; omega
      | false =>
        rw [hx] at cc2 HT
        have HT' := Lib.hid (show lastsV (L.take (j + 1)) = lastsV (L.take j) from HT.out.trans (by simp))
        have HO2 := Lib.hid (show RowV wr 3 1 A' m c' (lastsV (L.take (j + 1))) by rw [HT'.out]; exact HO.out)
        have HM2 := Lib.hid (show m = (lastsV (L.take (j + 1))).length by rw [HT'.out]; exact HM.out)
        clear hx HT HT' HO HM R1
        go_wp2
        go_roundw
        case rel => exact ⟨j + 1, m, A', c', by omega, by simp, rfl, HM2, HO2, OW, HB⟩
        case measure => simp [intOf]; omega
    · have hge : ¬ (j : Int) < (L.length : Int) := by omega
      have ho := HO.out
      have hm := HM.out
      rw [List.take_of_length_le (by omega : L.length ≤ j)] at ho hm
      subst hm
      have HG := Lib.hid ho.toG
      clear ho HO HM R1
      go_wp2
      go_ret
      exact ⟨_, _, rfl, HG.out, fun a e => OW.out _ ⟨a, e, rfl⟩, HB.out⟩

theorem byte_infos : (Try.prog.info? 66).map (fun i => (i.zero.map (·.cells.size), i.size, i.bytes)) = some (some 3, 3, 24) := by kernel_rfl
theorem byte_i : ∃ i0 z, Try.prog.info? 66 = some i0 ∧ i0.zero = some z ∧ i0.size = 3 ∧ i0.bytes = 24 ∧ z.cells.size = 3 := by
  obtain ⟨i, hi, hs⟩ := Option.map_eq_some_iff.1 byte_infos
  simp only [Prod.mk.injEq] at hs
  obtain ⟨h0, h1, h2⟩ := hs
  obtain ⟨z, hz, hzs⟩ := Option.map_eq_some_iff.1 h0
  exact ⟨i, z, hi, hz, h1, h2, hzs⟩
/-- A byte more. -/
theorem dline_put {w w2 : World} {F : Nat → Prop} {g st c c2 : Nat} {L : List By} {A A2 : Option Addr} (h : DLine w F g L st) (h1 : Blk w g 30 #[.int .i64 (st : Int), .slice A L.length c]) (h3 : ∀ k, inR A k → k ≠ g ∧ F k)
    (b : By) (r2 : RowV w2 66 3 A2 (L.length + 1) c2 (flatB L ++ b.cells)) (k2 : Chg w w2 (inR A)) (n2 : ∀ k, inR A2 k → inR A k ∨ w.heap.size ≤ k) :
    ∃ F', DLine (w2.setCell ⟨g, 1, none⟩ (.slice A2 (L.length + 1) c2)) F' g (L ++ [b]) st ∧ Stp w (w2.setCell ⟨g, 1, none⟩ (.slice A2 (L.length + 1) c2)) F F' := by
  have gw := h.lt g h.fg
  have hne : ¬ inR A g := fun hh => (h3 g hh).1 rfl
  have HD2 := h1.chg k2 hne
  have ne2 : ∀ k, inR A2 k → k ≠ g := fun k hk e => by
    subst e
    rcases n2 k hk with h | h
    · exact hne h
    · omega
  have e := r2.chg (Chg.set w2 (S := fun k => k = g) 1 (.slice A2 (L.length + 1) c2) rfl) (fun a ha hh => ne2 _ ⟨a, ha, rfl⟩ hh)
  rw [← flatB_snoc] at e
  refine ⟨fun k => k = g ∨ inR A2 k, ⟨⟨A2, c2, ?_, ?_, fun k hk => ⟨ne2 k hk, .inr hk⟩⟩, .inl rfl, fun k hk => ?_, h.small⟩, ?_, fun k hk => ?_⟩
  · have := HD2.put 1 (.slice A2 (L.length + 1) c2)
    rw [List.length_append]
    exact this
  · rw [List.length_append]
    exact e
  · have hs : (w2.setCell ⟨g, 1, none⟩ (.slice A2 (L.length + 1) c2)).heap.size = w2.heap.size := by simp [World.setCell]
    rw [hs]
    rcases hk with rfl | ⟨a, ha, rfl⟩
    · exact HD2.lt
    · exact r2.lt a ha
  · exact (k2.weak (fun i hi => (h3 i hi).2)).trans (Chg.set w2 1 _ h.fg)
  · rcases hk with rfl | hk
    · exact .inl h.fg
    · rcases n2 k hk with h | h
      · exact .inl (h3 k h).2
      · exact .inr h
theorem Stp.refl (w : World) (F : Nat → Prop) : Stp w w F F := ⟨Chg.refl _ _, fun _ h => .inl h⟩
theorem Stp.trans {w w1 w2 : World} {F F1 F2 : Nat → Prop} (h : Stp w w1 F F1) (k : Stp w1 w2 F1 F2) : Stp w w2 F F2 :=
  ⟨⟨k.chg.os.trans h.chg.os, k.chg.tape.trans h.chg.tape, k.chg.output.trans h.chg.output, Nat.le_trans h.chg.size k.chg.size, fun i hi hn => (k.chg.block i (Nat.lt_of_lt_of_le hi h.chg.size) (fun hf => by
    rcases h.new i hf with h1 | h1
    · exact hn h1
    · omega)).trans (h.chg.block i hi hn)⟩, fun i hi => by
    rcases k.new i hi with h1 | h1
    · exact h.new i h1
    · exact .inr (Nat.le_trans h.chg.size h1)⟩
theorem Stp.below {w w1 : World} (F : Nat → Prop) (h : Below w.heap.size w w1) : Stp w w1 F F := ⟨Chg.of_new h F, fun _ h => .inl h⟩
theorem add_iff (q : Pc) : okP q ↔ 0 ≤ q.frame ∧ q.frame ≤ 255 ∧ 1 ≤ q.len ∧ decide q.In = true := by unfold okP; simp
set_option maxRecDepth 100000 in
set_option maxHeartbeats 4000000 in
theorem dadd_any {w : World} {F : Nat → Prop} {g st : Nat} {l : List Pc} (h : DLine w F g (bb l) st) (hok : ∀ q ∈ l, okP q) (h160 : l.length ≤ 160) (A : Option Addr) (c : Nat) (p : List Pc) (hp : Pcs w A p) (hpk : ∀ q ∈ p, q.Ok) (hap : ∀ a, A = some a → 0 < p.length → ¬ F a.block) (hmax : p.length ≤ 100000) :
    Calls Try.prog 12 #[.pointer (some ⟨g, 0, none⟩), .slice A p.length c] w fun e w' => e = .returned (.int .i64 (addE l p)) ∧ ∃ F', DLine w' F' g (bb (addR l p)) st ∧ Stp w w' F F' := by
  have H := Lib.hid h
  have P := Lib.hid hp
  have OK := Lib.hid hpk
  have AP := Lib.hid hap
  have B0 := Lib.hid (Below.refl w.heap.size w)
  have WI := Lib.hid gwithin_any
  obtain ⟨v, hv⟩ : ∃ v, addE l p = v := ⟨_, rfl⟩
  obtain ⟨r, hr⟩ : ∃ r, addR l p = r := ⟨_, rfl⟩
  have EV := Lib.hid hv
  have ER := Lib.hid hr
  rw [hv, hr]
  have STAY := Lib.hid (fun W (k : Below w.heap.size w W) => show DLine W F g (bb l) st ∧ Stp w W F F from ⟨h.new k, Chg.of_new k _, fun _ hk => .inl hk⟩)
  have CB := Lib.hid (count_bb l (fun q hq => (hok q hq).2.2.1))
  have BL := Lib.hid (show (bb l).length ≤ 40960 by rw [bb_length]; exact total_ok hok h160)
  clear hp hpk hap h hv hr hok
  go_enter Try.func12, Try.ntmps12
  go_wp2
  go_loopw [5] (fun i wr => ∃ (j : Nat), j ≤ p.length ∧ i = .int .i64 (j : Int) ∧ Hid (∀ x (hx : x < p.length), x < j → okP p[x]) ∧ Hid (Below w.heap.size w wr)) (fun i _ => p.length - (intOf i).toNat)
  case atStart => exact ⟨0, Nat.zero_le _, rfl, Lib.hid (fun x hx h => absurd h (by omega)), B0⟩
  case round =>
    clear B0
    obtain ⟨j, hj, rfl, hg, HB⟩ := hrel
    have P1 := Lib.hid (P.out.new HB.out)
    by_cases hlt : j < p.length
    · have hlt' : (j : Int) < (p.length : Int) := by omega
      have j0 : (0 : Int) ≤ (j : Int) := by omega
      have xj := IntWalk.i64_in ((j : Int) + 1) (by omega)
      obtain ⟨b, o, rfl, hbl, c0, c1, c2⟩ := P1.out.cells hlt
      have M1 := Lib.hid (WI.out p[j] (OK.out _ (List.getElem_mem hlt)))
      have BAD := Lib.hid (fun (hx : ¬ okP p[j]) => show v = 1 ∧ r = l from by
        obtain ⟨e1, e2⟩ := add_bad (l := l) (p := p) (fun hh => hx (hh _ (List.getElem_mem hlt)))
        exact ⟨EV.out.symm.trans e1, ER.out.symm.trans e2⟩)
      have GD := Lib.hid (fun (h1 : okP p[j]) => show ∀ x (hx : x < p.length), x < j + 1 → okP p[x] from fun x hx h => by
        by_cases e : x = j
        · subst e; exact h1
        · exact hg.out x hx (by omega))
      have IFF := Lib.hid (add_iff p[j])
      have STAY2 := Lib.hid (fun (hr : r = l) W (k : Below wr.heap.size wr W) => show ∃ F', DLine W F' g (bb r) st ∧ Stp w W F F' from ⟨F, by rw [hr]; exact STAY.out W (HB.out.trans (k.mono HB.out.size))⟩)
      generalize okP p[j] = G at *
      generalize decide p[j].In = I at *
      generalize p[j].frame = qf at *
      generalize p[j].off = qo at *
      generalize p[j].len = qn at *
      clear hbl hg
      by_cases g1 : qf < 0
      · have NB := Lib.hid (BAD.out (fun h => by have := (IFF.out.1 h).1; omega))
        go_wp2
        go_ret
        exact ⟨by rw [NB.out.1]; rfl, STAY2.out NB.out.2 _ (Below.refl _ _)⟩
      by_cases g2 : qf > 255
      · have NB := Lib.hid (BAD.out (fun h => by have := (IFF.out.1 h).2.1; omega))
        go_wp2
        go_ret
        exact ⟨by rw [NB.out.1]; rfl, STAY2.out NB.out.2 _ (Below.refl _ _)⟩
      by_cases g3 : qn < 1
      · have NB := Lib.hid (BAD.out (fun h => by have := (IFF.out.1 h).2.2.1; omega))
        go_wp2
        go_ret
        exact ⟨by rw [NB.out.1]; rfl, STAY2.out NB.out.2 _ (Below.refl _ _)⟩
      go_wp2_with fail
      refine (M1.out _).mono ?_; rintro e w2 ⟨rfl, b2⟩
      have B2 := Lib.hid b2
      clear b2 M1
      cases I with
      | false =>
        have NB := Lib.hid (BAD.out (fun h => by have := (IFF.out.1 h).2.2.2; cases this))
        go_wp2
        go_ret
        exact ⟨by rw [NB.out.1]; rfl, STAY2.out NB.out.2 _ B2.out⟩
      | true =>
        have G2 := Lib.hid (GD.out (IFF.out.2 ⟨by omega, by omega, by omega, rfl⟩))
        have HB3 := Lib.hid (HB.out.trans (B2.out.mono HB.out.size))
        go_wp2
        go_roundw
        case rel => exact ⟨j + 1, by omega, by simp, G2, HB3⟩
        case measure => simp [intOf]; omega
    · have hge : ¬ (j : Int) < (p.length : Int) := by omega
      obtain rfl : j = p.length := by omega
      have ALL := Lib.hid (fun (q : Pc) (hp : q ∈ p) => show okP q by
        obtain ⟨x, hx, rfl⟩ := List.mem_iff_getElem.1 hp
        exact hg.out x hx hx)
      have DP := Lib.hid (dpieces_any (H.out.new HB.out) (by have := BL.out; omega))
      rw [CB.out] at DP
      clear hg P1
      have xs : IntKind.i64.wrap ((l.length : Int) + (p.length : Int)) = (l.length : Int) + (p.length : Int) := IntWalk.i64_in _ (by omega)
      go_wp2_with fail
      refine DP.out.mono ?_; rintro e w2 ⟨rfl, rfl⟩
      by_cases hfull : l.length + p.length ≤ 160
      · have hf : ¬ (l.length : Int) + (p.length : Int) > 160 := by omega
        obtain ⟨e1, e2⟩ := add_good (l := l) ALL.out hfull
        rw [EV.out] at e1
        rw [ER.out] at e2
        have E1 := Lib.hid e1
        have E2 := Lib.hid e2
        obtain ⟨i0, z0, hi, hz, hsz, hby, hzs⟩ := byte_i
        have INF := Lib.hid (And.intro hi (And.intro hz (And.intro hsz (And.intro hby hzs))))
        have PL := Lib.hid (show total p ≤ 40960 from total_ok ALL.out (by omega))
        clear e1 e2 hi hz hsz hby hzs DP xs STAY
        have W0 := Lib.hid (show DLine w2 F g (bb l ++ bb (p.take 0)) st ∧ Stp w w2 F F from ⟨by rw [List.take_zero]; show DLine w2 F g (bb l ++ []) st; rw [List.append_nil]; exact H.out.new HB.out, Stp.below F HB.out⟩)
        go_wp2
        go_loopw [6] (fun i wr => ∃ (j : Nat) (F1 : Nat → Prop), j ≤ p.length ∧ i = .int .i64 (j : Int) ∧ Hid (DLine wr F1 g (bb l ++ bb (p.take j)) st ∧ Stp w wr F F1)) (fun i _ => p.length - (intOf i).toNat)
        case atStart => exact ⟨0, F, Nat.zero_le _, rfl, W0⟩
        case round =>
          obtain ⟨j, F1, hj, rfl, D1⟩ := hrel
          clear W0
          by_cases hlt : j < p.length
          · have hlt' : (j : Int) < (p.length : Int) := by omega
            have j0 : (0 : Int) ≤ (j : Int) := by omega
            have xj := IntWalk.i64_in ((j : Int) + 1) (by omega)
            have qok := ALL.out _ (List.getElem_mem hlt)
            have BT := Lib.hid (show bb (p.take (j + 1)) = bb (p.take j) ++ bytesP p[j] by rw [List.take_succ_eq_append_getElem hlt, bb_append]; show _ ++ (bytesP p[j] ++ []) = _; rw [List.append_nil])
            have TT := Lib.hid (show total (p.take j) + p[j].len.toNat ≤ 40960 by have := total_take_le p (j + 1); rw [total_take_succ hlt] at this; have := PL.out; omega)
            have BYP := Lib.hid (fun k => show byP p[j] k = ⟨p[j].frame, p[j].off + k, decide (k + 1 = p[j].len.toNat)⟩ from rfl)
            have CEL := Lib.hid (fun W F' (s : Stp w W F F') => show (∃ b o, A = some ⟨b, o, none⟩ ∧ b < W.heap.size ∧ W.cell? ⟨b, o + j * 3, none⟩ = some (.int .i64 p[j].frame) ∧ W.cell? ⟨b, o + j * 3 + 1, none⟩ = some (.int .i64 p[j].off) ∧ W.cell? ⟨b, o + j * 3 + 2, none⟩ = some (.int .i64 p[j].len) ∧ ¬ F' b) from by
              obtain ⟨b, o, e, hb, q0, q1, q2⟩ := P.out.cells hlt
              have hn := AP.out _ e (by omega)
              dsimp only at hn
              have keep : ∀ x, W.cell? ⟨b, x, none⟩ = w.cell? ⟨b, x, none⟩ := fun x => World.cell?_of_block (s.chg.block b hb hn)
              refine ⟨b, o, e, Nat.lt_of_lt_of_le hb s.chg.size, (keep _).trans q0, (keep _).trans q1, (keep _).trans q2, fun hf => ?_⟩
              rcases s.new b hf with h1 | h1
              · exact hn h1
              · omega)
            obtain ⟨n, hn⟩ : ∃ n : Nat, p[j].len = (n : Int) := ⟨p[j].len.toNat, by have := qok.2.2.1; omega⟩
            have qin := qok.2.2.2
            unfold Pc.In at qin
            rw [hn] at CEL TT BYP
            rw [Int.toNat_natCast] at TT BYP
            have BLN := Lib.hid (show (bytesP p[j]).length = n by rw [bytesP_length, hn]; rfl)
            have BAT := Lib.hid (fun k (hk : k < n) => show (bytesP p[j]).take (k + 1) = (bytesP p[j]).take k ++ [byP p[j] k] from by rw [List.take_succ_eq_append_getElem (by rw [BLN.out]; exact hk), bytesP_at])
            have hn256 : n ≤ 256 := by omega
            have ho256 : 0 ≤ p[j].off ∧ p[j].off ≤ 256 := by omega
            clear qin qok hn
            generalize byP p[j] = byq at *
            generalize bytesP p[j] = bq at *
            generalize p[j].frame = qf at *
            generalize p[j].off = qo at *
            have V0 := Lib.hid (show DLine wr F1 g (bb l ++ bb (p.take j) ++ bq.take 0) st ∧ Stp w wr F F1 from ⟨by rw [List.take_zero, List.append_nil]; exact D1.out.1, D1.out.2⟩)
            obtain ⟨M, hM⟩ : ∃ M, bb l ++ bb (p.take j) = M := ⟨_, rfl⟩
            have ML := Lib.hid (show M.length + n ≤ 100000 by rw [← hM, List.length_append, bb_length (p.take j)]; have := TT.out; have := BL.out; omega)
            have EM := Lib.hid (show bb l ++ bb (p.take (j + 1)) = M ++ bq by rw [BT.out, ← List.append_assoc, hM])
            rw [hM] at V0
            clear hM BT D1 TT
            go_wp2
            go_loopw [7] (fun i wi => ∃ (k : Nat) (F2 : Nat → Prop), k ≤ n ∧ i = .int .i64 (k : Int) ∧ Hid (DLine wi F2 g (M ++ bq.take k) st ∧ Stp w wi F F2)) (fun i _ => n - (intOf i).toNat)
            case atStart => exact ⟨0, F1, Nat.zero_le _, rfl, V0⟩
            case round =>
            obtain ⟨k, F2, hk, rfl, D2⟩ := hrel
            clear V0
            obtain ⟨bp, op, rfl, hbl, cp0, cp1, cp2, hbn⟩ := CEL.out _ _ D2.out.2
            by_cases hkn : k < n
            · have hkn' : (k : Int) < (n : Int) := by omega
              have k0 : (0 : Int) ≤ (k : Int) := by omega
              have xk := IntWalk.i64_in ((k : Int) + 1) (by omega)
              have xo := IntWalk.i64_in (qo + (k : Int)) (by omega)
              have xn := IntWalk.i64_in ((n : Int) - 1) (by omega)
              obtain ⟨A2, c2, h1, h2, h3⟩ := D2.out.1.ex
              obtain ⟨N, hN⟩ : ∃ N, (M ++ bq.take k).length = N := ⟨_, rfl⟩
              have hNb : N ≤ 100000 := by rw [← hN, List.length_append, List.length_take]; have := ML.out; omega
              rw [hN] at h1 h2
              have c1 := (h1.cell 1).trans (show _ = some (.slice A2 N c2) from rfl)
              have hgs := D2.out.1.fg
              have hgl := D2.out.1.lt g hgs
              have hgn : ¬ inR A2 g := fun hh => (h3 g hh).1 rfl
              replace hbn : ¬ inR A2 bp := fun hh => hbn (h3 bp hh).2
              have HD2 := Lib.hid h1
              have RV2 := Lib.hid h2
              have I2 := Lib.hid h3
              have NN := Lib.hid hN
              obtain ⟨lst, hlst⟩ : ∃ lst, decide (k + 1 = n) = lst := ⟨_, rfl⟩
              have EL := Lib.hid (show decide ((k : Int) = (n : Int) - 1) = lst from by rw [← hlst]; exact decide_eq_decide.2 (by omega))
              have BQ := Lib.hid (show byq k = ⟨qf, qo + k, lst⟩ from by rw [BYP.out, hlst])
              have BD := Lib.hid (show ∀ W' : World, (Instr.build 66 #[(0, .int .i64 qf), (1, .int .i64 (qo + (k : Int))), (2, .bool lst)]).run Try.prog W' = .ok (.agg #[.int .i64 qf, .int .i64 (qo + (k : Int)), .bool lst]) W' from fun W' => by go_simp)
              have BS := Lib.hid (show ∀ X : World, (Instr.buildSlice 28 1 #[(0, .agg #[.int .i64 qf, .int .i64 (qo + (k : Int)), .bool lst])]).run Try.prog X = .ok (.slice (some ⟨X.heap.size, 0, none⟩) 1 1) (X.alloc (.cells #[.int .i64 qf, .int .i64 (qo + (k : Int)), .bool lst] 66)) from fun X => by go_simp)
              clear h1 h2 h3 hN hlst
              go_upto_region 14 with fail
              have hH0 : Hid (Chg wr wr.drew (inR A2)) := Lib.hid ((Chg.refl wr (inR A2)).drew)
              have hH := hH0
              refine wp_head_held (S := fun w' => Hid (Chg wr w' (inR A2))) 30 (by kernel_rfl) rfl rfl (by kernel_rfl) ?_
              simp only [List.take_succ_cons, List.take_zero, List.drop_succ_cons, List.drop_zero]
              refine held_take (i := 0) (d := (some 65)) (v := ?_) rfl rfl (by kernel_rfl) (by kernel_rfl) (by kernel_rfl) (fun _ _ _ h => h) (by rfl) ?_ hH ?_
              rotate_left
              · intro w' hSw; (try dsimp only at hSw); go_simp <;> with_reducible rfl
              simp only [Act.put, List.setIfInBounds_toArray, List.set_cons_zero, List.set_cons_succ]
              refine held_take (i := 1) (d := (some 66)) (v := ?_) rfl rfl (by kernel_rfl) (by kernel_rfl) (by kernel_rfl) (fun _ _ _ h => h) (by rfl) ?_ hH ?_
              rotate_left
              · intro w' hSw; (try dsimp only at hSw); go_simp <;> with_reducible rfl
              simp only [Act.put, List.setIfInBounds_toArray, List.set_cons_zero, List.set_cons_succ]
              refine held_take (i := 2) (d := (some 67)) (v := ?_) rfl rfl (by kernel_rfl) (by kernel_rfl) (by kernel_rfl) (fun _ _ _ h => h) (by rfl) ?_ hH ?_
              rotate_left
              · intro w' hSw; (try dsimp only at hSw); go_simp <;> with_reducible rfl
              simp only [Act.put, List.setIfInBounds_toArray, List.set_cons_zero, List.set_cons_succ]
              refine held_take (i := 3) (d := (some 68)) (v := ?_) rfl rfl (by kernel_rfl) (by kernel_rfl) (by kernel_rfl) (fun _ _ _ h => h) (by rfl) ?_ hH ?_
              rotate_left
              · intro w' hSw; (try dsimp only at hSw); go_simp <;> with_reducible rfl
              simp only [Act.put, List.setIfInBounds_toArray, List.set_cons_zero, List.set_cons_succ]
              refine held_take (i := 4) (d := (some 69)) (v := ?_) rfl rfl (by kernel_rfl) (by kernel_rfl) (by kernel_rfl) (fun _ _ _ h => h) (by rfl) ?_ hH ?_
              rotate_left
              · intro w' hSw; have z := (World.cell?_of_block (w := wr) (w' := w') (hSw.out.block _ hgl hgn)).trans c1; clear hSw; go_simp <;> with_reducible rfl
              simp only [Act.put, List.setIfInBounds_toArray, List.set_cons_zero, List.set_cons_succ]
              refine held_take (i := 5) (d := (some 70)) (v := ?_) rfl rfl (by kernel_rfl) (by kernel_rfl) (by kernel_rfl) (fun _ _ _ h => h) (by rfl) ?_ hH ?_
              rotate_left
              · intro w' hSw; (try dsimp only at hSw); go_simp <;> with_reducible rfl
              simp only [Act.put, List.setIfInBounds_toArray, List.set_cons_zero, List.set_cons_succ]
              refine held_take (i := 6) (d := (some 71)) (v := ?_) rfl rfl (by kernel_rfl) (by kernel_rfl) (by kernel_rfl) (fun _ _ _ h => h) (by rfl) ?_ hH ?_
              rotate_left
              · intro w' hSw; (try dsimp only at hSw); go_simp <;> with_reducible rfl
              simp only [Act.put, List.setIfInBounds_toArray, List.set_cons_zero, List.set_cons_succ]
              refine held_take (i := 7) (d := (some 72)) (v := ?_) rfl rfl (by kernel_rfl) (by kernel_rfl) (by kernel_rfl) (fun _ _ _ h => h) (by rfl) ?_ hH ?_
              rotate_left
              · intro w' hSw; (try dsimp only at hSw); go_simp <;> with_reducible rfl
              simp only [Act.put, List.setIfInBounds_toArray, List.set_cons_zero, List.set_cons_succ]
              refine held_take (i := 8) (d := (some 73)) (v := ?_) rfl rfl (by kernel_rfl) (by kernel_rfl) (by kernel_rfl) (fun _ _ _ h => h) (by rfl) ?_ hH ?_
              rotate_left
              · intro w' hSw; (try dsimp only at hSw); go_simp <;> with_reducible rfl
              simp only [Act.put, List.setIfInBounds_toArray, List.set_cons_zero, List.set_cons_succ]
              refine held_take (i := 9) (d := (some 74)) (v := ?_) rfl rfl (by kernel_rfl) (by kernel_rfl) (by kernel_rfl) (fun _ _ _ h => h) (by rfl) ?_ hH ?_
              rotate_left
              · intro w' hSw; have z := (World.cell?_of_block (w := wr) (w' := w') (hSw.out.block _ hbl hbn)).trans cp0; clear hSw; go_simp <;> with_reducible rfl
              simp only [Act.put, List.setIfInBounds_toArray, List.set_cons_zero, List.set_cons_succ]
              refine held_take (i := 10) (d := (some 75)) (v := ?_) rfl rfl (by kernel_rfl) (by kernel_rfl) (by kernel_rfl) (fun _ _ _ h => h) (by rfl) ?_ hH ?_
              rotate_left
              · intro w' hSw; (try dsimp only at hSw); go_simp <;> with_reducible rfl
              simp only [Act.put, List.setIfInBounds_toArray, List.set_cons_zero, List.set_cons_succ]
              refine held_take (i := 11) (d := (some 76)) (v := ?_) rfl rfl (by kernel_rfl) (by kernel_rfl) (by kernel_rfl) (fun _ _ _ h => h) (by rfl) ?_ hH ?_
              rotate_left
              · intro w' hSw; (try dsimp only at hSw); go_simp <;> with_reducible rfl
              simp only [Act.put, List.setIfInBounds_toArray, List.set_cons_zero, List.set_cons_succ]
              refine held_take (i := 12) (d := (some 77)) (v := ?_) rfl rfl (by kernel_rfl) (by kernel_rfl) (by kernel_rfl) (fun _ _ _ h => h) (by rfl) ?_ hH ?_
              rotate_left
              · intro w' hSw; (try dsimp only at hSw); go_simp <;> with_reducible rfl
              simp only [Act.put, List.setIfInBounds_toArray, List.set_cons_zero, List.set_cons_succ]
              refine held_take (i := 13) (d := (some 78)) (v := ?_) rfl rfl (by kernel_rfl) (by kernel_rfl) (by kernel_rfl) (fun _ _ _ h => h) (by rfl) ?_ hH ?_
              rotate_left
              · intro w' hSw; (try dsimp only at hSw); go_simp <;> with_reducible rfl
              simp only [Act.put, List.setIfInBounds_toArray, List.set_cons_zero, List.set_cons_succ]
              refine held_take (i := 14) (d := (some 79)) (v := ?_) rfl rfl (by kernel_rfl) (by kernel_rfl) (by kernel_rfl) (fun _ _ _ h => h) (by rfl) ?_ hH ?_
              rotate_left
              · intro w' hSw; have z := (World.cell?_of_block (w := wr) (w' := w') (hSw.out.block _ hbl hbn)).trans cp1; clear hSw; go_simp <;> with_reducible rfl
              simp only [Act.put, List.setIfInBounds_toArray, List.set_cons_zero, List.set_cons_succ]
              refine held_take (i := 15) (d := (some 80)) (v := ?_) rfl rfl (by kernel_rfl) (by kernel_rfl) (by kernel_rfl) (fun _ _ _ h => h) (by rfl) ?_ hH ?_
              rotate_left
              · intro w' hSw; (try dsimp only at hSw); go_simp <;> with_reducible rfl
              simp only [Act.put, List.setIfInBounds_toArray, List.set_cons_zero, List.set_cons_succ]
              refine held_take (i := 16) (d := (some 81)) (v := ?_) rfl rfl (by kernel_rfl) (by kernel_rfl) (by kernel_rfl) (fun _ _ _ h => h) (by rfl) ?_ hH ?_
              rotate_left
              · intro w' hSw; (try dsimp only at hSw); go_simp <;> with_reducible rfl
              simp only [Act.put, List.setIfInBounds_toArray, List.set_cons_zero, List.set_cons_succ]
              refine held_take (i := 17) (d := (some 82)) (v := ?_) rfl rfl (by kernel_rfl) (by kernel_rfl) (by kernel_rfl) (fun _ _ _ h => h) (by rfl) ?_ hH ?_
              rotate_left
              · intro w' hSw; (try dsimp only at hSw); go_simp <;> with_reducible rfl
              simp only [Act.put, List.setIfInBounds_toArray, List.set_cons_zero, List.set_cons_succ]
              refine held_take (i := 18) (d := (some 83)) (v := ?_) rfl rfl (by kernel_rfl) (by kernel_rfl) (by kernel_rfl) (fun _ _ _ h => h) (by rfl) ?_ hH ?_
              rotate_left
              · intro w' hSw; (try dsimp only at hSw); go_simp <;> with_reducible rfl
              simp only [Act.put, List.setIfInBounds_toArray, List.set_cons_zero, List.set_cons_succ]
              refine held_take (i := 19) (d := (some 84)) (v := ?_) rfl rfl (by kernel_rfl) (by kernel_rfl) (by kernel_rfl) (fun _ _ _ h => h) (by rfl) ?_ hH ?_
              rotate_left
              · intro w' hSw; (try dsimp only at hSw); go_simp <;> with_reducible rfl
              simp only [Act.put, List.setIfInBounds_toArray, List.set_cons_zero, List.set_cons_succ]
              refine held_take (i := 20) (d := (some 85)) (v := ?_) rfl rfl (by kernel_rfl) (by kernel_rfl) (by kernel_rfl) (fun _ _ _ h => h) (by rfl) ?_ hH ?_
              rotate_left
              · intro w' hSw; (try dsimp only at hSw); go_simp <;> with_reducible rfl
              simp only [Act.put, List.setIfInBounds_toArray, List.set_cons_zero, List.set_cons_succ]
              refine held_take (i := 21) (d := (some 86)) (v := ?_) rfl rfl (by kernel_rfl) (by kernel_rfl) (by kernel_rfl) (fun _ _ _ h => h) (by rfl) ?_ hH ?_
              rotate_left
              · intro w' hSw; (try dsimp only at hSw); go_simp <;> with_reducible rfl
              simp only [Act.put, List.setIfInBounds_toArray, List.set_cons_zero, List.set_cons_succ]
              refine held_take (i := 22) (d := (some 87)) (v := ?_) rfl rfl (by kernel_rfl) (by kernel_rfl) (by kernel_rfl) (fun _ _ _ h => h) (by rfl) ?_ hH ?_
              rotate_left
              · intro w' hSw; have z := (World.cell?_of_block (w := wr) (w' := w') (hSw.out.block _ hbl hbn)).trans cp2; clear hSw; go_simp <;> with_reducible rfl
              simp only [Act.put, List.setIfInBounds_toArray, List.set_cons_zero, List.set_cons_succ]
              refine held_take (i := 23) (d := (some 88)) (v := ?_) rfl rfl (by kernel_rfl) (by kernel_rfl) (by kernel_rfl) (fun _ _ _ h => h) (by rfl) ?_ hH ?_
              rotate_left
              · intro w' hSw; (try dsimp only at hSw); go_simp <;> with_reducible rfl
              simp only [Act.put, List.setIfInBounds_toArray, List.set_cons_zero, List.set_cons_succ]
              refine held_take (i := 24) (d := (some 89)) (v := .bool lst) rfl rfl (by kernel_rfl) (by kernel_rfl) (by kernel_rfl) (fun _ _ _ h => h) (by rfl) (by intro w' hSw; clear hSw; go_simp; exact EL.out) hH ?_
              simp only [Act.put, List.setIfInBounds_toArray, List.set_cons_zero, List.set_cons_succ]
              refine held_take (i := 25) (d := (some 90)) (v := .agg #[.int .i64 qf, .int .i64 (qo + (k : Int)), .bool lst]) rfl rfl (by kernel_rfl) (by kernel_rfl) (by kernel_rfl) (fun _ _ _ h => h) (by rfl) (fun w' _ => exec_build' (ps := #[(0, .int .i64 qf), (1, .int .i64 (qo + (k : Int))), (2, .bool lst)]) rfl (by go_simp) BD.out w') hH ?_
              simp only [Act.put, List.setIfInBounds_toArray, List.set_cons_zero, List.set_cons_succ]
              refine held_one (i := 26) (by kernel_rfl) rfl (by rfl) ?_
              have hS2 : Hid (Chg wr (wr.drew.alloc (.cells #[.int .i64 qf, .int .i64 (qo + (k : Int)), .bool lst] 66)) (inR A2)) := Lib.hid (hH0.out.alloc _)
              refine wp_slice_d (d := some 91) (ps := #[(0, .agg #[.int .i64 qf, .int .i64 (qo + (k : Int)), .bool lst])]) rfl rfl (by go_simp) (BS.out _) ?_
              refine ⟨hS2, ?_⟩
              replace hH := hS2
              clear hS2
              (try simp only [Act.put, List.setIfInBounds_toArray, List.set_cons_zero, List.set_cons_succ])
              refine held_one (i := 27) (by kernel_rfl) rfl (by rfl) ?_
              refine wp_append_V (d := some 92) rfl (.tmp 69) (.tmp 91) 28 rfl 66 i0 z0 3 24 Try.underlying28 INF.out.1 INF.out.2.1 INF.out.2.2.1 INF.out.2.2.2.1 INF.out.2.2.2.2 (by decide) (by decide) A2 N c2 _ rfl (RV2.out.drew.new ((Below.refl wr.drew.heap.size wr.drew).alloc (Nat.le_refl _) _)) (some ⟨wr.drew.heap.size, 0, none⟩) 1 1 [.int .i64 qf, .int .i64 (qo + (k : Int)), .bool lst] rfl (G_one wr.drew 66 [.int .i64 qf, .int .i64 (qo + (k : Int)), .bool lst] 3 rfl) (by simp [Value.oneCell']) (by omega) ?_
              intro A3 c3 w3 r3 k3 n3
              have hS3 : Hid (Chg wr w3 (inR A2)) := Lib.hid (hH.out.trans k3)
              have R3 := Lib.hid r3
              have K3 := hS3
              have N3 := Lib.hid (show ∀ i, inR A3 i → inR A2 i ∨ wr.heap.size ≤ i from fun i hi => (n3 i hi).imp id (fun h => by simp at h; omega))
              have HD3 := Lib.hid (HD2.out.chg K3.out (fun hh => (I2.out g hh).1 rfl))
              have c13 := (HD3.out.cell 1).trans (show _ = some (.slice A2 N c2) from rfl)
              have f13 := HD3.out.frozen 1
              clear r3 k3 n3
              refine ⟨hS3, ?_⟩
              replace hH := hS3
              clear hS3
              (try simp only [Act.put, List.setIfInBounds_toArray, List.set_cons_zero, List.set_cons_succ])
              refine held_take (i := 28) (d := (some 93)) (v := ?_) rfl rfl (by kernel_rfl) (by kernel_rfl) (by kernel_rfl) (fun _ _ _ h => h) (by rfl) ?_ hH ?_
              rotate_left
              · intro w' hSw; (try dsimp only at hSw); go_simp <;> with_reducible rfl
              simp only [Act.put, List.setIfInBounds_toArray, List.set_cons_zero, List.set_cons_succ]
              refine held_take (i := 29) (d := (some 94)) (v := ?_) rfl rfl (by kernel_rfl) (by kernel_rfl) (by kernel_rfl) (fun _ _ _ h => h) (by rfl) ?_ hH ?_
              rotate_left
              · intro w' hSw; (try dsimp only at hSw); go_simp <;> with_reducible rfl
              simp only [Act.put, List.setIfInBounds_toArray, List.set_cons_zero, List.set_cons_succ]
              refine wpAnyH_done (by kernel_rfl) ?_ _
              show wpList _ _ _ _ _ _
              have FIN := Lib.hid (show ∃ F', DLine (w3.setCell ⟨g, 1, none⟩ (.slice A3 (N + 1) c3)) F' g (M ++ bq.take (k + 1)) st ∧ Stp w (w3.setCell ⟨g, 1, none⟩ (.slice A3 (N + 1) c3)) F F' from by
                have q := dline_put (L := M ++ bq.take k) (A := A2) (c := c2) (A2 := A3) (c2 := c3) D2.out.1 (by rw [NN.out]; exact HD2.out) I2.out ⟨qf, qo + k, lst⟩ (by rw [NN.out]; exact R3.out) K3.out N3.out
                rw [NN.out] at q
                obtain ⟨F', d, s⟩ := q
                exact ⟨F', by rw [BAT.out k hkn, BQ.out, ← List.append_assoc]; exact d, D2.out.2.trans s⟩)
              clear D2 HD2 RV2 I2 NN HD3 R3 K3 N3 hH
              go_wp2
              go_roundw
              case rel =>
                obtain ⟨F', d⟩ := FIN.out
                exact ⟨k + 1, F', by omega, by simp, Lib.hid d⟩
              case measure => simp [intOf]; omega
            · have hgk : ¬ (k : Int) < (n : Int) := by omega
              obtain rfl : k = n := by omega
              have E3 := Lib.hid (show DLine wr F2 g (bb l ++ bb (p.take (j + 1))) st ∧ Stp w wr F F2 from by rw [EM.out]; have := D2.out; rw [List.take_of_length_le (by rw [BLN.out]; omega)] at this; exact this)
              clear D2
              go_wp2
              go_roundw
              case rel => exact ⟨j + 1, F2, by omega, by simp, E3⟩
              case measure => simp [intOf]; omega
          · have hge2 : ¬ (j : Int) < (p.length : Int) := by omega
            have E3 := Lib.hid (show ∃ F', DLine wr F' g (bb r) st ∧ Stp w wr F F' from ⟨F1, by rw [E2.out, bb_append]; have := D1.out; rw [List.take_of_length_le (by omega)] at this; exact this⟩)
            clear D1
            go_wp2
            go_ret
            exact ⟨by rw [E1.out]; rfl, E3.out⟩
      · have hf : (l.length : Int) + (p.length : Int) > 160 := by omega
        obtain ⟨e1, e2⟩ := add_full (l := l) ALL.out hfull
        have FIN := STAY.out _ HB.out
        rw [EV.out] at e1
        rw [ER.out] at e2
        rw [← e2] at FIN
        have FF := Lib.hid FIN
        have E1 := Lib.hid e1
        clear FIN e1 e2
        go_wp2
        go_ret
        exact ⟨by rw [E1.out]; rfl, F, FF.out⟩
end Go.Proofs.Ytgmejifacpefdaa.Sn
