/- Package store: readTree and Mount of a root without Dirs. Conditions: those that each states. -/
import Derived.Test.YtefnkednnnlhoaaGreatDoorMAZ
import Derived.Test.YtefnkednnnlhoaaGreatDoorMAY
namespace Go.Proofs.YtefnkednnnlhoaaGreatDoor.Sr
open Go.ChangeShapes Go.WideShapes Go.ChangeAt Go.RowKit Go.Deep Fr Di Ke Rk
set_option linter.unusedVariables false
set_option linter.unusedSimpArgs false

theorem wpList_alloc_z {P : Program} {ops : Array Oper} {rest : List Oper} {o : Oper} {a : Act} {w : World} {Q : Exit → Act → World → Prop} (hgd : o.guard = none) (t : TypeId) (ho : o.op = .alloc t) (cells : Array Value) (hi : (P.info? t).map (fun i => (i.zero.map (·.cells))) = some (some cells))
    (h : ∀ w', Blk w' w.heap.size t cells → Below w.heap.size w w' → wpList P ops Q rest (a.put o.dst (.pointer (some ⟨w.heap.size, 0, none⟩))) w') : wpList P ops Q (o :: rest) a w := by
  obtain ⟨i, hi', hz'⟩ := Option.map_eq_some_iff.1 hi
  obtain ⟨z, hz, hc⟩ := Option.map_eq_some_iff.1 hz'
  refine wpList_plain hgd fun K hK => ?_
  have hrun : (Instr.alloc t true (.tuple #[])).run P w = .ok (.pointer (some ⟨w.heap.size, 0, none⟩)) (w.alloc (.cells z.cells t)) := by
    simp [Instr.alloc, zeroValue, typeInfo, hi', hz, newVar, newRow]
  unfold Oper.wp execOp
  simp only [ho, Sem.run_bind, hrun, Result.andThen_ok, Sem.run_pure]
  exact hK _ _ (h _ (by rw [← hc]; exact Blk.new w t _) ((Below.refl _ w).alloc (Nat.le_refl _) _))

theorem tree_info : (Tryz.prog.info? 52).map (·.size) = some 3 := by kernel_rfl
set_option maxRecDepth 100000 in
theorem used_zero : (Tryz.prog.info? 121).map (fun i => (i.zero.map (·.cells))) = some (some (ub (List.replicate 512 false))) := by kernel_rfl
abbrev trV (gn : Int) (D : Option Addr) (nd cd : Nat) (A : Option Addr) (n c : Nat) : Array Value := #[.int .i64 gn, .slice D nd cd, .slice A n c]

set_option maxRecDepth 100000 in
set_option maxHeartbeats 2000000 in
theorem readTree_bare (g : Nat) (gn : Int) (D : Option Addr) (cd : Nat) (w : World) :
    Calls Tryz.prog 25 #[.pointer (some ⟨g, 0, none⟩), .agg #[.int .i64 gn, .slice D 0 cd]] w fun e w' => e = .returned (.tuple #[.agg (trV gn D 0 cd none 0 0), .int .i64 0]) ∧ Below w.heap.size w w' := by
  have b1 := (Below.refl w.heap.size w).alloc (Nat.le_refl _) (.cells #[.pointer (some ⟨g, 0, none⟩)] 43)
  have b2 := b1.alloc b1.size (.cells #[.int .i64 gn, .slice D 0 cd] 49)
  have b3 := b2.alloc b2.size (.cells #[.int .i64 0, .slice none 0 0, .slice none 0 0] 52)
  have B3 := Lib.hid b3
  have K1 := Lib.hid (show Blk (((w.alloc (.cells #[.pointer (some ⟨g, 0, none⟩)] 43)).alloc (.cells #[.int .i64 gn, .slice D 0 cd] 49)).alloc (.cells #[.int .i64 0, .slice none 0 0, .slice none 0 0] 52)) (w.heap.size + 1) 49 #[.int .i64 gn, .slice D 0 cd] from by
    have := (Blk.new (w.alloc (.cells #[.pointer (some ⟨g, 0, none⟩)] 43)) 49 #[.int .i64 gn, .slice D 0 cd]).alloc (.cells #[.int .i64 0, .slice none 0 0, .slice none 0 0] 52)
    simpa using this)
  have K2 := Lib.hid (show Blk (((w.alloc (.cells #[.pointer (some ⟨g, 0, none⟩)] 43)).alloc (.cells #[.int .i64 gn, .slice D 0 cd] 49)).alloc (.cells #[.int .i64 0, .slice none 0 0, .slice none 0 0] 52)) (w.heap.size + 1 + 1) 52 #[.int .i64 0, .slice none 0 0, .slice none 0 0] from by
    have := Blk.new ((w.alloc (.cells #[.pointer (some ⟨g, 0, none⟩)] 43)).alloc (.cells #[.int .i64 gn, .slice D 0 cd] 49)) 52 #[.int .i64 0, .slice none 0 0, .slice none 0 0]
    simpa using this)
  clear b1 b2 b3
  go_enter Tryz.func25, Tryz.ntmps25
  go_wp2
  go_step3
  generalize ((w.alloc (.cells #[.pointer (some ⟨g, 0, none⟩)] 43)).alloc (.cells #[.int .i64 gn, .slice D 0 cd] 49)).alloc (.cells #[.int .i64 0, .slice none 0 0, .slice none 0 0] 52) = W at *
  obtain ⟨q, hq⟩ : ∃ q, w.heap.size = q := ⟨_, rfl⟩
  rw [hq] at K1 K2 ⊢
  have Q := Lib.hid hq
  clear hq
  have y0 := (K1.out.cell 0).trans (show _ = some (.int .i64 gn) from rfl)
  have y1 := (K1.out.cell 1).trans (show _ = some (.slice D 0 cd) from rfl)
  have b4 := (Below.refl W.heap.size W).alloc (Nat.le_refl _) (.cells (trV gn D 0 cd none 0 0) 52)
  have B4 := Lib.hid (B3.out.trans (b4.mono B3.out.size))
  have K14 := Lib.hid (K1.out.older (older_below b4))
  have K24 := Lib.hid (K2.out.older (older_below b4))
  have K34 := Lib.hid (Blk.new W 52 (trV gn D 0 cd none 0 0))
  clear b4
  go_upto_region 2 with fail
  generalize W.alloc (.cells (trV gn D 0 cd none 0 0) 52) = W4 at *
  generalize W.heap.size = g6 at *
  clear y0 y1 K1 K2 B3
  go_wp2_with (first
    | (refine wpList_alloc_z rfl 121 rfl (ub (List.replicate 512 false)) used_zero ?_; refine Hid.out ?_)
    | fail)
  unfold Hid
  intro w5 _ b5
  have B5 := Lib.hid (B4.out.trans (b5.mono B4.out.size))
  have K15 := K14.out.older (older_below b5)
  have K25 := Lib.hid (K24.out.older (older_below b5))
  have K35 := Lib.hid (K34.out.older (older_below b5))
  have y1 := (K15.cell 1).trans (show _ = some (.slice D 0 cd) from rfl)
  clear b5 K14 K24 K34 B4 K15
  have nz : ¬ (0 : Int) < 0 := by omega
  have DN := Lib.hid Q.out
  go_wp2
  go_loopw [23] (fun i wr => i = .int .i64 0 ∧ wr = w5) (fun _ _ => 0)
  case atStart => exact ⟨rfl, rfl⟩
  case round =>
    obtain ⟨rfl, rfl⟩ := hrel
    go_wp2_with (first
      | (refine wpList_load_row rfl 52 (.tmp 6) rfl g6 rfl 52 _ (0, 0) _ K35.out Tryz.underlying52 rfl tree_info ?_)
      | (refine wpList_store_row rfl 52 (.tmp 4) (.tmp 75) rfl (q + 1 + 1) (trV gn D 0 cd none 0 0) rfl rfl 52 _ K25.out tree_info rfl (by simp [Value.oneCell']) ?_)
      | fail)
    rw [Exit.noGoto_ret]
    refine bodyPost_ret (v := .tuple #[.agg (trV gn D 0 cd none 0 0), .int .i64 0]) ?_ rfl ?_
    · exact results_cell_tmp Tryz.results25 _ _ (q + 1 + 1) 52 _ (0, 0) _ rfl (K25.out.row _) Tryz.underlying52 rfl tree_info
    exact ⟨rfl, below_setRow B5.out (by have := Q.out; omega) _⟩

set_option maxRecDepth 100000 in
set_option maxHeartbeats 2000000 in
theorem mount_bare {B : Nat} {w : World} {lab : Nat → Nat} {g : Nat} {K : Kn} (h : KB B w lab g K) (hB : B ≤ w.heap.size) (m : Nat) (sm : K.Small m) (hm : m < 1000000) (bk : Bare K) (gn : Int) (hN : newN K 2 = (gn, [], true)) :
    Calls Tryz.prog 8 #[.pointer (some ⟨g, 0, none⟩)] w fun e w' => ∃ gs D cd lab', e = .returned (.tuple #[.pointer (some ⟨gs, 0, none⟩), .int .i64 0]) ∧ STo B (fun _ => False) w w' lab lab' g K ∧ StAt w' lab' gs g gn D [] cd none 0 [] false ∧ w.heap.size ≤ gs := by
  have DK := Lib.hid (disk_any h)
  have NR := Lib.hid (newestRoot_any h hB m sm hm bk)
  rw [hN] at NR
  have HB := Lib.hid hB
  clear h hB sm hm bk hN
  go_enter Tryz.func8, Tryz.ntmps8
  go_wp2_with fail
  refine DK.out.mono ?_; rintro e w3 ⟨gd, rfl, hw, hon, _⟩
  have ON := Lib.hid (hon w (Below.refl _ _))
  rw [← hw]
  clear hw hon w3 DK
  go_wp2_with fail
  refine ON.out.mono ?_; rintro e w3 ⟨rfl, hw⟩
  rw [hw]
  clear hw w3 ON
  go_wp2_with fail
  refine NR.out.mono ?_; rintro e w1 ⟨D, cd, lab1, rfl, T1, RD⟩
  have b2 := (Below.refl w1.heap.size w1).alloc (Nat.le_refl _) (.cells #[.int .i64 gn, .slice D 0 cd] 49)
  have T2 := Lib.hid (T1.new HB.out b2)
  have K2 := Lib.hid (Blk.new w1 49 #[.int .i64 gn, .slice D 0 cd])
  have R2 := Lib.hid (show RowG _ 1 D 0 cd (In.vi []) from RD.new b2)
  clear b2 T1 RD NR
  go_upto_region 6 with fail
  generalize w1.alloc (.cells #[.int .i64 gn, .slice D 0 cd] 49) = w2 at *
  generalize w1.heap.size = gr at *
  go_wp2_with (first
    | (refine wpList_load_row rfl 49 (.tmp 4) rfl gr rfl 49 _ (0, 0) _ K2.out Tryz.underlying49 rfl In.root_info ?_)
    | fail)
  refine (readTree_bare g gn D cd w2).mono ?_; rintro e w3 ⟨rfl, b3⟩
  have T3 := Lib.hid (T2.out.new HB.out b3)
  have R3 := Lib.hid (R2.out.new b3)
  have b4 := (Below.refl w3.heap.size w3).alloc (Nat.le_refl _) (.cells (trV gn D 0 cd none 0 0) 52)
  have K4 := Lib.hid (Blk.new w3 52 (trV gn D 0 cd none 0 0))
  have T4 := Lib.hid (T3.out.new HB.out b4)
  have R4 := Lib.hid (R3.out.new b4)
  clear b3 b4 T2 R2 K2 T3 R3
  go_upto_region 9 with fail
  generalize w3.alloc (.cells (trV gn D 0 cd none 0 0) 52) = w4 at *
  generalize w3.heap.size = g6 at *
  have b5 := (Below.refl w4.heap.size w4).alloc (Nat.le_refl _) (.cells #[.int .i64 gn, .slice D 0 cd, .slice none 0 0, .pointer (some ⟨g, 0, none⟩), .bool false] 54)
  have K5 := Lib.hid (Blk.new w4 54 #[.int .i64 gn, .slice D 0 cd, .slice none 0 0, .pointer (some ⟨g, 0, none⟩), .bool false])
  have T5 := Lib.hid (T4.out.new HB.out b5)
  have R5 := Lib.hid (R4.out.new b5)
  have L5 := Lib.hid (T4.out.kb.lab0 (Nat.le_refl w4.heap.size))
  have S5 := Lib.hid (show w.heap.size ≤ w4.heap.size from T4.out.size)
  clear b5 T4 R4
  go_wp2_with (first
    | (refine wpList_load_row rfl 52 (.tmp 6) rfl g6 rfl 52 _ (0, 0) _ K4.out Tryz.underlying52 rfl tree_info ?_)
    | fail)
  go_ret2
  exact ⟨w4.heap.size, D, cd, lab1, rfl, T5.out, ⟨K5.out, L5.out, R5.out, fun h0 => absurd h0 (by decide), ⟨RowG.nil _ 7, fun h0 => absurd h0 (by decide), fun x hx => (by cases hx), fun x hx => (by cases hx)⟩, by decide⟩, S5.out⟩
end Go.Proofs.YtefnkednnnlhoaaGreatDoor.Sr

/- Package store: which blocks a tree uses; pieces. Conditions: those that each states. -/
namespace Go.Proofs.YtefnkednnnlhoaaGreatDoor.Sr
open Go.ChangeShapes Go.WideShapes Go.ChangeAt Go.RowKit Go.Deep Fr Di Ke Rk
set_option linter.unusedVariables false
set_option linter.unusedSimpArgs false

def mk (us : List Bool) (ds : List Int) : List Bool := ds.foldl (fun us d => us.set d.toNat true) us
theorem mk_length (ds : List Int) : ∀ us : List Bool, (mk us ds).length = us.length := by
  unfold mk
  induction ds with
  | nil => intro us; rfl
  | cons d ds ih => intro us; rw [List.foldl_cons, ih, List.length_set]
theorem mk_succ (us : List Bool) (ds : List Int) (j : Nat) (h : j < ds.length) : mk us (ds.take (j + 1)) = (mk us (ds.take j)).set ds[j].toNat true := by
  unfold mk
  rw [List.take_succ_eq_append_getElem h, List.foldl_append]
  rfl
def usedF (us : List Bool) (x : Lf) : List Bool := mk (mk us [x.ino]) x.f.blocks
def usedR (ds : List Int) (l : List Lf) : List Bool := l.foldl usedF (mk (List.replicate 512 false) ds)
theorem usedF_length (us : List Bool) (x : Lf) : (usedF us x).length = us.length := by unfold usedF; rw [mk_length, mk_length]
theorem usedL (l : List Lf) : ∀ us : List Bool, (l.foldl usedF us).length = us.length := by
  induction l with
  | nil => intro us; rfl
  | cons x l ih => intro us; rw [List.foldl_cons, ih, usedF_length]
theorem bt_info : (Tryz.prog.info? 121).map (·.size) = some 512 := by kernel_rfl
theorem ub_size (us : List Bool) : (ub us).size = us.length := by simp [ub]

set_option maxRecDepth 100000 in
set_option maxHeartbeats 1000000 in
theorem mark_any {w : World} (u : Nat) (us : List Bool) (hu : us.length = 512) (U : Blk w u 121 (ub us)) (A : Option Addr) (c : Nat) (ds : List Int) (hr : RowG w 1 A ds.length c (In.vi ds)) (hd : ∀ d ∈ ds, 0 ≤ d ∧ d < 512) (hm : ds.length ≤ 1000000) (hn : 0 < ds.length → ∀ a, A = some a → a.block ≠ u) :
    Calls Tryz.prog 118 #[.slice A ds.length c, .pointer (some ⟨u, 0, none⟩)] w fun e w' => e = .returned (.tuple #[]) ∧ Chg w w' (fun k => k = u) ∧ Blk w' u 121 (ub (mk us ds)) := by
  have HR := Lib.hid hr
  have HU := Lib.hid U
  have HD := Lib.hid hd
  have HN := Lib.hid hn
  obtain ⟨n, hnl⟩ : ∃ n, ds.length = n := ⟨_, rfl⟩
  rw [hnl] at HR hm HN ⊢
  have LN := Lib.hid hnl
  have C0 := Lib.hid (Chg.refl w (fun k => k = u))
  have L5 := Lib.hid hu
  clear hr U hd hn hnl hu
  go_enter Tryz.func118, Tryz.ntmps118
  go_wp2
  go_loopw [7] (fun i wr => ∃ j : Nat, j ≤ n ∧ i = .int .i64 (j : Int) ∧ Hid (Blk wr u 121 (ub (mk us (ds.take j)))) ∧ Hid (Chg w wr (fun k => k = u))) (fun i _ => n - (intOf i).toNat)
  case atStart => exact ⟨0, Nat.zero_le _, rfl, HU, C0⟩
  case round =>
    obtain ⟨j, hj, rfl, UR, CR⟩ := hrel
    clear HU C0
    by_cases hlt : j < n
    · have hlt' : (j : Int) < (n : Int) := by omega
      have j0 : (0 : Int) ≤ (j : Int) := by omega
      have xj := IntWalk.i64_in ((j : Int) + 1) (by omega)
      have hjl : j < ds.length := by rw [LN.out]; exact hlt
      obtain ⟨b, o, hA, hb, hc0⟩ := HR.out.cell (j := j) (by simpa [In.vi] using hjl)
      have hbu : ¬ b = u := fun e => HN.out (by omega) _ hA e
      have hc : wr.cell? ⟨b, o + j, none⟩ = some (.int .i64 ds[j]) := by
        rw [World.cell?_of_block (w := w) (w' := wr) (a := ⟨b, o + j, none⟩) (CR.out.block b hb hbu), hc0]; simp [In.vi]
      obtain ⟨d0, d5⟩ := HD.out ds[j] (List.getElem_mem hjl)
      obtain ⟨d, hdd⟩ : ∃ d : Nat, ds[j] = (d : Int) := ⟨ds[j].toNat, by omega⟩
      have MS := Lib.hid (show mk us (ds.take (j + 1)) = (mk us (ds.take j)).set d true from by rw [mk_succ _ _ _ hjl, hdd]; rfl)
      have ML := Lib.hid (show (mk us (ds.take j)).length = 512 from by rw [mk_length, L5.out])
      replace hc : wr.cell? ⟨b, o + j, none⟩ = some (.int .i64 (d : Int)) := by rw [hc, hdd]
      have d0' : (0 : Int) ≤ (d : Int) := by omega
      have d5' : (d : Int) < 512 := by omega
      have hdl : d < (mk us (ds.take j)).length := by rw [ML.out]; omega
      obtain ⟨old, cu⟩ : ∃ old, wr.cell? ⟨u, d, none⟩ = some old := ⟨_, (UR.out.cell d).trans (ub_get hdl)⟩
      have fu := UR.out.frozen d
      have U2 := Lib.hid (show Blk (wr.setCell ⟨u, d, none⟩ (.bool true)) u 121 (ub ((mk us (ds.take j)).set d true)) from by rw [← ub_put]; exact UR.out.put d _)
      have C2 := Lib.hid (CR.out.trans (Chg.set wr (g := u) (S := fun k => k = u) d (.bool true) rfl))
      clear hc0 d0 d5 hdd hdl hjl
      generalize mk us (ds.take j) = vs at *
      subst hA
      go_wp2
      go_roundw
      case rel => exact ⟨j + 1, by omega, by go_num, by rw [MS.out]; exact U2, C2⟩
      case measure => simp [intOf]; omega
    · have hlt' : ¬ (j : Int) < (n : Int) := by omega
      rw [show ds.take j = ds from List.take_of_length_le (by rw [LN.out]; omega)] at UR
      go_wp2
      go_end0
      exact ⟨rfl, CR.out, UR.out⟩

theorem pieces_any (n m : Nat) (hn : n ≤ 1000000) (h1 : 1 ≤ m) (h2 : m ≤ 1000) (w : World) :
    Calls Tryz.prog 41 #[.int .i64 (n : Int), .int .i64 (m : Int)] w fun e w' => e = .returned (.int .i64 (((n + m - 1) / m : Nat) : Int)) ∧ w' = w := by
  have x1 := IntWalk.i64_in ((n : Int) + (m : Int)) (by omega)
  obtain ⟨q, hq⟩ : ∃ q : Nat, q = n + m - 1 := ⟨_, rfl⟩
  have x2 : IntKind.i64.wrap ((n : Int) + (m : Int) - 1) = (q : Int) := by rw [IntWalk.i64_in _ (by omega)]; omega
  have x3 : Int.tdiv (q : Int) (m : Int) = ((q / m : Nat) : Int) := by rw [Int.tdiv_eq_ediv_of_nonneg (by omega)]; omega
  rw [← hq]
  obtain ⟨r, hr⟩ : ∃ r, q / m = r := ⟨_, rfl⟩
  have hrb : r ≤ q := by rw [← hr]; exact Nat.div_le_self _ _
  rw [hr] at x3 ⊢
  have x4 := IntWalk.i64_in (r : Int) (by omega)
  have m0 : (m : Int) ≠ 0 := by omega
  clear hq hr hrb
  go_enter Tryz.func41, Tryz.ntmps41
  go_wp2
  go_ret
  exact ⟨rfl, rfl⟩
end Go.Proofs.YtefnkednnnlhoaaGreatDoor.Sr
