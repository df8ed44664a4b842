/- A line of the call's own; the law's pieces as the program's; the chapter's example. Conditions: those that each states. -/
import Derived.Test.YtgmejifacpefdaaSn3
namespace Go.Proofs.Ytgmejifacpefdaa.Sn
open Go.ChangeShapes Go.WideShapes Go.ChangeAt Go.RowKit Go.Deep Rk Rv
set_option linter.unusedVariables false
set_option linter.unusedSimpArgs false

theorem rpc_info : (Try.prog.info? 55).map (·.size) = some 3 := by kernel_rfl
set_option maxRecDepth 100000 in
set_option maxHeartbeats 2000000 in
/-- The law's pieces as the program's, as a row. -/
theorem of_row (A : Option Addr) (c : Nat) (p : List Pc) (w : World) (hp : Pcs w A p) (hmax : p.length ≤ 1000000) :
    Calls Try.prog 11 #[.slice A p.length c] w fun e w' => ∃ A' c', e = .returned (.slice A' p.length c') ∧ RowG w' 3 A' p.length c' (flatP p) ∧ (∀ a, A' = some a → w.heap.size ≤ a.block) ∧ Below w.heap.size w w' := by
  have P := Lib.hid hp
  have B0 := Lib.hid (Below.refl w.heap.size w)
  have O0 := Lib.hid (show w.ownsRow w.heap.size 59 3 (.slice none 0 0) 0 (flatP (p.take 0)) from World.ownsRow_nil w w.heap.size 59 3)
  obtain ⟨i0, z0, hi, hz, hsz, hby, hzs⟩ := pcs_info
  have INF := Lib.hid (And.intro hi (And.intro hz (And.intro hsz (And.intro hby hzs))))
  clear hp hi hz hsz hby hzs
  go_enter Try.func11, Try.ntmps11
  go_wp2
  go_loopw [3, 4] (fun out i wr => ∃ (j : Nat) (A' : Option Addr) (c' : Nat), j ≤ p.length ∧ i = .int .i64 (j : Int) ∧ out = .slice A' j c' ∧ wr.ownsRow w.heap.size 59 3 (.slice A' j c') j (flatP (p.take j)) ∧ Below w.heap.size w wr) (fun _ i _ => p.length - (intOf i).toNat)
  case atStart => exact ⟨0, none, 0, Nat.zero_le _, rfl, rfl, O0.out, B0.out⟩
  case round =>
    clear B0 O0
    obtain ⟨j, A', c', hj, rfl, rfl, ho, hb⟩ := hrel
    have HO := Lib.hid ho
    have HB := Lib.hid hb
    have hgs : w.heap.size ≤ wr.heap.size := hb.size
    have P1 := Lib.hid (P.out.new hb)
    clear hb ho
    by_cases hlt : j < p.length
    · have hlt' : (j : Int) < (p.length : Int) := by omega
      have j0 : (0 : Int) ≤ (j : Int) := by omega
      have xj := IntWalk.i64_in ((j : Int) + 1) (by omega)
      obtain ⟨b, o, rfl, hbl, hr⟩ := P1.out j hlt
      have LD := Lib.hid (show wr.rangeAt b (o + j * 3) [.int .i64 p[j].frame, .int .i64 p[j].off, .int .i64 p[j].len] from hr)
      have HT := Lib.hid (show flatP (p.take (j + 1)) = flatP (p.take j) ++ [.int .i64 p[j].frame, .int .i64 p[j].off, .int .i64 p[j].len] from by
        rw [List.take_succ_eq_append_getElem hlt, flatP_snoc]; rfl)
      have H1 := Lib.hid (show ∀ u ∈ ([.int .i64 p[j].frame, .int .i64 p[j].off, .int .i64 p[j].len] : List Value), u.oneCell' = true from one_pc p[j])
      generalize flatP (p.take j) = fl at *
      generalize p[j].frame = qf at *
      generalize p[j].off = qo at *
      generalize p[j].len = qn at *
      clear hr
      go_wp2_with (first
        | (refine wpList_load_mid rfl 55 (.tmp 14) rfl b (o + j * 3) rfl _ _ LD.out Try.underlying55 rfl rpc_info ?_)
        | (at_builtin; refine Hid.out ?_)
        | fail)
      unfold Hid
      refine wpList_append_lies _ rfl (.tmp 11) (.tmp 16) 36 rfl w.heap.size 59 i0 z0 3 24 Try.underlying36 INF.out.1 INF.out.2.1 INF.out.2.2.1 INF.out.2.2.2.1 INF.out.2.2.2.2 (by decide) _ j fl rfl (HO.out.alloc _) ⟨wr.heap.size, 0, none⟩ 1 1 [.int .i64 qf, .int .i64 qo, .int .i64 qn] rfl rfl (World.news_of_block (Blk.new wr 59 _)) H1.out (by decide) (by unfold maxLen; omega) (by omega) (by simp; omega) (wr.heap.size + 1) (by simp) ?_
      intro g cap w1 hown hgrow hat hlg
      rw [← HT.out] at hown
      have HO1 := Lib.hid hown
      have hb1 := (HB.out.trans (((Below.refl wr.heap.size wr).alloc (Nat.le_refl _) (.cells #[.int .i64 qf, .int .i64 qo, .int .i64 qn] 59)).mono hgs)).grown hgrow (by simp; omega) (fun k e => (HO.out.lt k e).1)
      have HB1 := Lib.hid hb1
      clear hown hgrow hat hb1 HO HT H1
      go_wp2
      go_roundw
      case rel => exact ⟨j + 1, _, _, by omega, by simp, rfl, HO1.out, HB1.out⟩
      case measure => simp [intOf]; omega
    · have hge : ¬ (j : Int) < (p.length : Int) := by omega
      obtain rfl : j = p.length := by omega
      have ho := HO.out
      rw [List.take_length] at ho
      obtain ⟨A2, c2, e2, hp2, hn2⟩ := RowG.of_owns ho
      cases e2
      have HP2 := Lib.hid hp2
      have HN2 := Lib.hid hn2
      clear ho hp2 hn2
      go_wp2
      go_ret
      exact ⟨_, _, rfl, HP2.out, fun a e => (HN2.out a e).1, HB.out⟩

/-- A line of the call's own. -/
structure LB (w0 w : World) (F : Nat → Prop) (g : Nat) (l : List Pc) (st : Nat) : Prop where
  line : LineAt w F g l st
  below : Below w0.heap.size w0 w
  own : ∀ k, F k → w0.heap.size ≤ k
section
variable {w0 w w' : World} {F F' : Nat → Prop} {g st st' : Nat} {l l' : List Pc}
theorem LB.step (h : LB w0 w F g l st) (h2 : LineAt w' F' g l' st') (s : Stp w w' F F') : LB w0 w' F' g l' st' :=
  ⟨h2, h.below.trans (s.chg.below h.below.size h.own), fun k hk => by
    rcases s.new k hk with h1 | h1
    · exact h.own k h1
    · have := h.below.size; omega⟩
theorem LB.new (h : LB w0 w F g l st) (k : Below w.heap.size w w') : LB w0 w' F g l st := ⟨h.line.new k, h.below.trans (k.mono h.below.size), h.own⟩
theorem LB.drewN (h : LB w0 w F g l st) (m : Nat) : LB w0 (w.drewN m) F g l st := ⟨h.line.drewN m, below_drewN h.below m, h.own⟩
theorem new_lb (hb : Below w0.heap.size w0 w) : Calls Try.prog 9 #[] w fun e w' => e = .returned (.pointer (some ⟨w.heap.size, 0, none⟩)) ∧ LB w0 w' (fun k => k = w.heap.size) w.heap.size [] 0 ∧ Below w.heap.size w w' := by
  refine (new_any w).mono ?_
  rintro e w' ⟨rfl, h, b⟩
  exact ⟨rfl, ⟨h, hb.trans (b.mono hb.size), fun k hk => by rw [hk]; exact hb.size⟩, b⟩
theorem LB.end_ (h : LB w0 w F g l st) : Calls Try.prog 21 #[.pointer (some ⟨g, 0, none⟩)] w fun e w' => e = .returned (.int .i64 ((st + total l : Nat) : Int)) ∧ Below w.heap.size w w' ∧ LB w0 w' F g l st := by
  refine (end_any h.line).mono ?_
  rintro e w' ⟨rfl, b⟩
  exact ⟨rfl, b, h.new b⟩
theorem LB.frames_ (h : LB w0 w F g l st) : Calls Try.prog 22 #[.pointer (some ⟨g, 0, none⟩)] w fun e w' => ∃ A' c', e = .returned (.slice A' l.length c') ∧ RowG w' 1 A' l.length c' (frsV l) ∧ (∀ a, A' = some a → w.heap.size ≤ a.block) ∧ Below w.heap.size w w' ∧ LB w0 w' F g l st := by
  refine (frames_any h.line).mono ?_
  rintro e w' ⟨A', c', rfl, h1, h2, b⟩
  exact ⟨A', c', rfl, h1, h2, b, h.new b⟩
theorem LB.add_ (h : LB w0 w F g l st) (A : Option Addr) (c : Nat) (p : List Pc) (hp : RowG w 3 A p.length c (flatP p)) (hok : ∀ q ∈ p, q.Ok) (hmax : p.length ≤ 100000) :
    Calls Try.prog 10 #[.pointer (some ⟨g, 0, none⟩), .slice A p.length c] w fun e w' => e = .returned (.int .i64 (addE l p)) ∧ ∃ F', LB w0 w' F' g (addR l p) st ∧ Stp w w' F F' := by
  refine (add_any h.line A c p hp hok hmax).mono ?_
  rintro e w' ⟨rfl, F', h1, h2⟩
  exact ⟨rfl, F', h.step h1 h2, h2⟩
theorem Stp.same (k : Chg w w' F) : Stp w w' F F := ⟨k, fun _ hk => .inl hk⟩
theorem LB.ack_ (h : LB w0 w F g l st) (a : Int) (k : Nat) (ha : a = (st : Int) + (k : Int)) (hk : k ≤ total l) (hs : st + k ≤ 1000000000) :
    Calls Try.prog 13 #[.pointer (some ⟨g, 0, none⟩), .int .i64 a] w fun e w' => ∃ A' c', e = .returned (.tuple #[.slice A' (gone l k) c', .int .i64 0]) ∧ RowG w' 1 A' (gone l k) c' (frsV (l.take (gone l k))) ∧ (∀ a, A' = some a → w.heap.size ≤ a.block) ∧ LB w0 w' F g (ackR l k) (st + k) ∧ Chg w w' F := by
  refine (ack_ok h.line a k ha hk hs).mono ?_
  rintro e w' ⟨A', c', rfl, h1, h2, h3, h4⟩
  exact ⟨A', c', rfl, h1, h2, h.step h3 (Stp.same h4), h4⟩
end

set_option maxRecDepth 100000 in
set_option maxHeartbeats 1000000 in
theorem alive_any (w : World) : Calls Try.prog 7 #[] w fun e w' => e = .returned (.bool true) ∧ Below w.heap.size w w' := by
  have NW := Lib.hid (new_lb (Below.refl w.heap.size w))
  go_enter Try.func7, Try.ntmps7
  go_wp2_with fail
  refine NW.out.mono ?_; rintro e w1 ⟨rfl, h1, z⟩
  have H1 := Lib.hid h1
  have OF := Lib.hid (of_row (some ⟨w1.heap.size, 0, none⟩) 1 [⟨3, 0, 10⟩] (w1.alloc (.cells #[.int .i64 3, .int .i64 0, .int .i64 10] 55)) (pcs_block (Blk.new w1 _ _)) (by decide))
  have HA := Lib.hid (h1.new ((Below.refl w1.heap.size w1).alloc (Nat.le_refl _) (.cells #[.int .i64 3, .int .i64 0, .int .i64 10] 55)))
  clear h1 z NW H1
  go_wp2_with fail
  refine OF.out.mono ?_; rintro e w2 ⟨A2, c2, rfl, r2, n2, b2⟩
  have R2 := Lib.hid r2
  have H2 := Lib.hid (HA.out.new b2)
  clear r2 n2 b2 OF HA
  go_wp2_with fail
  refine (H2.out.add_ A2 c2 [⟨3, 0, 10⟩] R2.out (by intro q hq; rw [List.mem_singleton.1 hq]; exact ⟨by decide, by decide, by decide⟩) (by decide)).mono ?_; rintro e w3 ⟨rfl, F3, h3, s3⟩
  have e3 : addE [] [(⟨3, 0, 10⟩ : Pc)] = 0 := by decide
  have e3' : addR [] [(⟨3, 0, 10⟩ : Pc)] = [⟨3, 0, 10⟩] := rfl
  rw [e3'] at h3
  rw [e3]
  have H3 := Lib.hid h3
  clear h3 s3 e3 e3' H2 R2
  go_wp2_with fail
  refine (H3.out.ack_ 4 4 (by decide) (by decide) (by decide)).mono ?_; rintro e w4 ⟨A4, c4, rfl, r4, n4, h4, k4⟩
  have e4 : gone [(⟨3, 0, 10⟩ : Pc)] 4 = 0 := by decide
  have e4' : ackR [(⟨3, 0, 10⟩ : Pc)] 4 = [⟨3, 4, 6⟩] := rfl
  rw [e4'] at h4
  rw [e4]
  have H4 := Lib.hid h4
  clear h4 k4 r4 n4 e4 e4' H3
  go_wp2_with fail
  refine (H4.out.ack_ 10 6 (by decide) (by decide) (by decide)).mono ?_; rintro e w5 ⟨A5, c5, rfl, r5, n5, h5, k5⟩
  have e5 : gone [(⟨3, 4, 6⟩ : Pc)] 6 = 1 := by decide
  have e5' : ackR [(⟨3, 4, 6⟩ : Pc)] 6 = [] := rfl
  rw [e5'] at h5
  rw [e5] at r5 ⊢
  have H5 := Lib.hid h5
  obtain ⟨b5, o5, rfl, hb5, c50⟩ := r5.cell (j := 0) (by decide)
  have c5' : w5.cell? ⟨b5, o5, none⟩ = some (.int .i64 3) := c50
  clear h5 k5 r5 n5 e5 e5' H4 c50
  go_wp2_with fail
  refine H5.out.end_.mono ?_; rintro e w6 ⟨rfl, b6, h6⟩
  have H6 := Lib.hid h6
  clear b6 h6 H5
  go_wp2
  go_ret
  exact ⟨rfl, H6.out.below⟩
end Go.Proofs.Ytgmejifacpefdaa.Sn
