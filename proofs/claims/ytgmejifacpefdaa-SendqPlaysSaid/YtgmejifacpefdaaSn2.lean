/- Package sendq: Add. Conditions: those that each states. -/
import Derived.Test.YtgmejifacpefdaaSn1
namespace Go.Proofs.Ytgmejifacpefdaa.Sn
open Go.ChangeShapes Go.WideShapes Go.ChangeAt Go.RowKit Go.Deep Rk Rv
set_option linter.unusedVariables false
set_option linter.unusedSimpArgs false

def mayAdd (l p : List Pc) : Prop := (∀ q ∈ p, okP q) ∧ l.length + p.length ≤ 160
instance (l p : List Pc) : Decidable (mayAdd l p) := inferInstanceAs (Decidable (_ ∧ _))
def addE (l p : List Pc) : Int := if ∀ q ∈ p, okP q then (if l.length + p.length ≤ 160 then 0 else 10) else 1
def addR (l p : List Pc) : List Pc := if mayAdd l p then l ++ p else l
theorem add_good {l p : List Pc} (h : ∀ q ∈ p, okP q) (h2 : l.length + p.length ≤ 160) : addE l p = 0 ∧ addR l p = l ++ p := by
  unfold addE addR
  rw [if_pos h, if_pos h2, if_pos (show mayAdd l p from ⟨h, h2⟩)]
  exact ⟨rfl, rfl⟩
theorem add_full {l p : List Pc} (h : ∀ q ∈ p, okP q) (h2 : ¬ l.length + p.length ≤ 160) : addE l p = 10 ∧ addR l p = l := by
  unfold addE addR
  rw [if_pos h, if_neg h2, if_neg (show ¬ mayAdd l p from fun x => h2 x.2)]
  exact ⟨rfl, rfl⟩
theorem add_bad {l p : List Pc} (h : ¬ ∀ q ∈ p, okP q) : addE l p = 1 ∧ addR l p = l := by
  unfold addE addR
  rw [if_neg h, if_neg (show ¬ mayAdd l p from fun x => h x.1)]
  exact ⟨rfl, rfl⟩
theorem flatP_cat (l p : List Pc) : flatP l ++ flatP p = flatP (l ++ p) := (flatP_append l p).symm

set_option maxRecDepth 100000 in
set_option maxHeartbeats 2000000 in
theorem add_any {w : World} {F : Nat → Prop} {g st : Nat} {l : List Pc} (h : LineAt w F g l st) (A : Option Addr) (c : Nat) (p : List Pc) (hp : RowG w 3 A p.length c (flatP p)) (hok : ∀ q ∈ p, q.Ok) (hmax : p.length ≤ 100000) :
    Calls Try.prog 10 #[.pointer (some ⟨g, 0, none⟩), .slice A p.length c] w fun e w' => e = .returned (.int .i64 (addE l p)) ∧ ∃ F', LineAt w' F' g (addR l p) st ∧ Stp w w' F F' := by
  have H := Lib.hid h
  have PG := Lib.hid hp
  have P := Lib.hid (pcs_of_G hp)
  have OK := Lib.hid hok
  have B0 := Lib.hid (Below.refl w.heap.size w)
  have MS := Lib.hid may_any
  obtain ⟨v, hv⟩ : ∃ v, addE l p = v := ⟨_, rfl⟩
  obtain ⟨r, hr⟩ : ∃ r, addR l p = r := ⟨_, rfl⟩
  have EV := Lib.hid hv
  have ER := Lib.hid hr
  rw [hv, hr]
  have STAY := Lib.hid (fun W (k : Below w.heap.size w W) => show LineAt W F g l st ∧ Stp w W F F from ⟨h.new k, Chg.of_new k _, fun _ hk => .inl hk⟩)
  have n160 := h.n160
  clear hp hok h hv hr
  go_enter Try.func10, Try.ntmps10
  go_wp2
  go_loopw [11] (fun i wr => ∃ (j : Nat), j ≤ p.length ∧ i = .int .i64 (j : Int) ∧ Hid (∀ x (hx : x < p.length), x < j → okP p[x]) ∧ Hid (Below w.heap.size w wr)) (fun i _ => p.length - (intOf i).toNat)
  case atStart => exact ⟨0, Nat.zero_le _, rfl, Lib.hid (fun x hx h => absurd h (by omega)), B0⟩
  case round =>
    clear B0
    obtain ⟨j, hj, rfl, hg, HB⟩ := hrel
    have hgs : w.heap.size ≤ wr.heap.size := HB.out.size
    have P1 := Lib.hid (P.out.new HB.out)
    by_cases hlt : j < p.length
    · have hlt' : (j : Int) < (p.length : Int) := by omega
      have j0 : (0 : Int) ≤ (j : Int) := by omega
      have xj := IntWalk.i64_in ((j : Int) + 1) (by omega)
      obtain ⟨b, o, rfl, hbl, hr⟩ := P1.out j hlt
      have LD := Lib.hid (show wr.rangeAt b (o + j * 3) [.int .i64 p[j].frame, .int .i64 p[j].off, .int .i64 p[j].len] from hr)
      have M1 := Lib.hid (MS.out p[j] (OK.out _ (List.getElem_mem hlt)))
      have BAD := Lib.hid (fun (hx : ¬ okP p[j]) => add_bad (l := l) (p := p) (fun hh => hx (hh _ (List.getElem_mem hlt))))
      have GD := Lib.hid (fun (h1 : okP p[j]) => show ∀ x (hx : x < p.length), x < j + 1 → okP p[x] from fun x hx h => by
        by_cases e : x = j
        · subst e; exact h1
        · exact hg.out x hx (by omega))
      obtain ⟨I, hI⟩ : ∃ I, decide (okP p[j]) = I := ⟨_, rfl⟩
      rw [hI] at M1
      have HI := Lib.hid hI
      have HB2 := Lib.hid (fun cs w2 (h : Below (wr.heap.size + 1) (wr.alloc (.cells cs 59)) w2) => (show Below w.heap.size w w2 from HB.out.trans ((((Below.refl wr.heap.size wr).alloc (Nat.le_refl _) (.cells cs 59)).trans (h.mono (by simp))).mono hgs)))
      have GOOD := Lib.hid (fun (e : I = true) => GD.out (of_decide_eq_true (HI.out.trans e)))
      have WRONG := Lib.hid (fun (e : I = false) => BAD.out (of_decide_eq_false (HI.out.trans e)))
      clear GD BAD HI hI
      generalize p[j].frame = qf at *
      generalize p[j].off = qo at *
      generalize p[j].len = qn at *
      clear hr hbl hg
      go_wp2_with (first
        | (refine wpList_load_mid rfl 59 (.tmp 13) rfl b (o + j * 3) rfl _ _ LD.out Try.underlying59 rfl piece_info ?_)
        | fail)
      refine (M1.out _).mono ?_; rintro e w2 ⟨rfl, b2⟩
      have HB3 := Lib.hid (HB2.out _ _ (b2.mono (Nat.le_of_eq (by simp))))
      clear b2 HB2 M1
      cases I with
      | false =>
        obtain ⟨e1, e2⟩ := WRONG.out rfl
        have FIN := STAY.out _ HB3.out
        rw [EV.out] at e1
        rw [ER.out] at e2
        rw [← e2] at FIN
        have FF := Lib.hid FIN
        have E1 := Lib.hid e1
        clear FIN e1 e2
        go_wp2
        go_ret
        exact ⟨by rw [E1.out]; rfl, F, FF.out⟩
      | true =>
        have G2 := Lib.hid (GOOD.out rfl)
        go_wp2
        go_roundw
        case rel => exact ⟨j + 1, by omega, by simp, G2, HB3⟩
        case measure => simp [intOf]; omega
    · have hge : ¬ (j : Int) < (p.length : Int) := by omega
      obtain rfl : j = p.length := by omega
      have ALL := Lib.hid (fun (q : Pc) (hp : q ∈ p) => show okP q by
        obtain ⟨x, hx, rfl⟩ := List.mem_iff_getElem.1 hp
        exact hg.out x hx hx)
      have L1 := Lib.hid (H.out.new HB.out)
      obtain ⟨A0, c0, h1, h2, h3⟩ := L1.out.ex
      have hc0 := (h1.cell 0).trans (show _ = some (.slice A0 l.length c0) from rfl)
      have fz := h1.frozen 0
      have HD := Lib.hid h1
      have RV := Lib.hid h2
      have IR := Lib.hid h3
      clear hg h1 h2 h3
      have x0 : IntKind.i64.wrap (160 - (l.length : Int)) = 160 - (l.length : Int) := IntWalk.i64_in _ (by omega)
      by_cases hfull : l.length + p.length ≤ 160
      · have hf : ¬ (p.length : Int) > 160 - (l.length : Int) := by omega
        obtain ⟨e1, e2⟩ := add_good (l := l) ALL.out hfull
        rw [EV.out] at e1
        rw [ER.out] at e2
        have E1 := Lib.hid e1
        have E2 := Lib.hid e2
        obtain ⟨i0, z0, hi, hz, hsz, hby, hzs⟩ := pcs_info
        have INF := Lib.hid (And.intro hi (And.intro hz (And.intro hsz (And.intro hby hzs))))
        have PG1 := Lib.hid (PG.out.new HB.out)
        clear e1 e2 hi hz hsz hby hzs
        go_wp2_with (first | (at_builtin; refine Hid.out ?_) | fail)
        unfold Hid
        refine wpList_append_V rfl (.tmp 32) (.tmp 33) 36 rfl 59 i0 z0 3 24 Try.underlying36 INF.out.1 INF.out.2.1 INF.out.2.2.1 INF.out.2.2.2.1 INF.out.2.2.2.2 (by decide) (by decide) A0 l.length c0 _ rfl RV.out A p.length c _ rfl PG1.out (flatP_one p) (by omega) ?_
        intro A2 c2 w2 r2 k2 n2
        have hne : ¬ inR A0 g := fun hh => (IR.out g hh).1 rfl
        have HD2 := Lib.hid (HD.out.chg k2 hne)
        have fz2 := HD2.out.frozen 0
        have hc2 := (HD2.out.cell 0).trans (show _ = some (.slice A0 l.length c0) from rfl)
        have gl := HD.out.lt
        have ST2 := Lib.hid (show ∀ W, W = w2.setCell ⟨g, 0, none⟩ (.slice A2 (l.length + p.length) c2) → ∃ F', LineAt W F' g (l ++ p) st ∧ Stp w W F F' from by
          rintro W rfl
          have Fg := H.out.fg
          have gw := H.out.lt g Fg
          have sub : ∀ k, inR A0 k → F k := fun k hk => (IR.out k hk).2
          have ne2 : ∀ k, inR A2 k → k ≠ g := fun k hk e => by
            subst e
            rcases n2 k hk with h | h
            · exact (IR.out k h).1 rfl
            · omega
          refine ⟨fun k => k = g ∨ inR A2 k, ⟨⟨A2, c2, ?_, ?_, fun k hk => ⟨ne2 k hk, .inr hk⟩⟩, .inl rfl, fun k hk => ?_, fun q hq => ?_, by simpa using hfull, H.out.small⟩, ?_, fun k hk => ?_⟩
          · have := HD2.out.put 0 (.slice A2 (l.length + p.length) c2)
            rw [List.length_append]
            exact this
          · have e := r2.chg (Chg.set w2 (S := fun k => k = g) 0 (.slice A2 (l.length + p.length) c2) rfl) (fun a ha hh => ne2 _ ⟨a, ha, rfl⟩ hh)
            rw [flatP_cat] at e
            rw [List.length_append]
            exact e
          · have hs : (w2.setCell ⟨g, 0, none⟩ (.slice A2 (l.length + p.length) c2)).heap.size = w2.heap.size := by simp [World.setCell]
            rw [hs]
            rcases hk with rfl | ⟨a, ha, rfl⟩
            · exact HD2.out.lt
            · exact r2.lt a ha
          · rcases List.mem_append.1 hq with hq | hq
            · exact H.out.ok q hq
            · exact ALL.out q hq
          · have t1 : Chg w wr F := Chg.of_new HB.out _
            exact (t1.trans (k2.weak sub)).trans (Chg.set w2 0 _ Fg)
          · rcases hk with rfl | hk
            · exact .inl Fg
            · rcases n2 k hk with h | h
              · exact .inl (sub k h)
              · exact .inr (by omega))
        clear r2 k2 n2 HD HD2 RV IR INF PG1 hne
        go_wp2
        go_ret
        refine ⟨by rw [E1.out]; rfl, ?_⟩
        rw [E2.out]
        exact ST2.out _ rfl
      · have hf : (p.length : Int) > 160 - (l.length : Int) := by omega
        obtain ⟨e1, e2⟩ := add_full (l := l) ALL.out hfull
        have FIN := STAY.out _ HB.out
        rw [EV.out] at e1
        rw [ER.out] at e2
        rw [← e2] at FIN
        have FF := Lib.hid FIN
        have E1 := Lib.hid e1
        clear FIN e1 e2 HD RV IR
        go_wp2
        go_ret
        exact ⟨by rw [E1.out]; rfl, F, FF.out⟩
end Go.Proofs.Ytgmejifacpefdaa.Sn
