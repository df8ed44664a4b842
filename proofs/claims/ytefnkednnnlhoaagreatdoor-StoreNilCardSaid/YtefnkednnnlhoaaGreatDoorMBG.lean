/- Package store: Publish, where the file comes behind all others. Conditions: those that each states. -/
import Derived.Test.YtefnkednnnlhoaaGreatDoorSrQ
import Derived.Test.YtefnkednnnlhoaaGreatDoorSrL
import Derived.Test.YtefnkednnnlhoaaGreatDoorMAZ
import Derived.Test.YtefnkednnnlhoaaGreatDoorMAY
import Derived.Test.YtefnkednnnlhoaaGreatDoorMBC
import Derived.Test.YtefnkednnnlhoaaGreatDoorMBA
import Derived.Test.YtefnkednnnlhoaaGreatDoorMAU
import Derived.Test.YtefnkednnnlhoaaGreatDoorMAP
import Derived.Test.YtefnkednnnlhoaaGreatDoorCards
import Derived.Test.YtefnkednnnlhoaaGreatDoorTie
import Derived.Lay
import Derived.LaidMore
import Derived.MakeChecks
import Derived.JoinedCond
import Derived.Deep.DeepHandedRow
import Derived.Stop.LaidErr
namespace Go.Proofs.YtefnkednnnlhoaaGreatDoor.Sr
open Go.ChangeShapes Go.WideShapes Go.ChangeAt Go.RowKit Go.Deep Go.Shelf Fr Di Ke Rk Fl
set_option linter.unusedVariables false
set_option linter.unusedSimpArgs false
attribute [local go_sem] Oper.semAt_some
/-- The kernel behind a commit. -/
def cmK (K : Kn) (ts : List Int) (xs : Nat → List UInt8) (n G : Nat) (ds : List Int) : Kn := (syK (wrK (syK (wrN K (fun i => ts.getD i 0) xs n)).1 ((G % 2 : Nat) : Int) (In.sealL (In.rootT G ds))).1).1
set_option maxRecDepth 100000 in
set_option maxHeartbeats 4000000 in
theorem publish_end {B : Nat} {w : World} {lab : Nat → Nat} {gs g cd c : Nat} {G : Nat} {D A : Option Addr} {ds : List Int} {l : List Lf} {K : Kn} (h : StAt w lab gs g (G : Int) D ds cd A c l false) (hk : KB B w lab g K) (hB : B ≤ w.heap.size) (m : Nat) (sm : K.Small m) (bk : Bare K) (hdl : ds.length ≤ 1000) (hd : ∀ d ∈ ds, 0 ≤ d ∧ d < 512) (hx : ∀ x ∈ l, (0 ≤ x.ino ∧ x.ino < 512) ∧ (∀ d ∈ x.f.blocks, 0 ≤ d ∧ d < 512) ∧ x.f.blocks.length ≤ 1000)
    (hg : G < 1073741824) (hroom : l.length < 24) (hz : A = none ∨ 0 < l.length) (nm : List UInt8) (hat : atR l nm = l.length) (Ab : Option Addr) (nb cb : Nat) (mt : Int) (hmay : mayR nm nb mt = 0) (hnb : nb ≤ 8192) (np : Nat) (hnp : np = (nb + 255) / 256) (nd : Nat) (hnd : nd = (l.length + 8) / 8) (ts : List Int) (hts : ts = freeR K (usedR ds l) (np + 1 + nd)) (htl : ts.length = np + 1 + nd)
    (bs : List UInt8) (hsb : Src w Ab nb cb bs) (hsl : ∀ b o, Ab = some ⟨b, o, none⟩ → b < w.heap.size ∧ lab b = 0) (v : Int) (hv : ts[np]? = some v) (fF : In.Fil) (hfF : fF = ⟨1, mt, (nb : Int), ts.take np, prN bs np⟩) (hmf : fF.may = true) (es : List In.Ent) (hes : es = ents l ++ [⟨nm, v⟩]) (hdm : ∀ k, k * 8 < l.length + 1 → In.dirMay ((es.drop (k * 8)).take 8) = true)
    (xs : Nat → List UInt8) (hxs : xs = planX np nb bs fF es) (ds' : List Int) (hds : ds' = (ts.drop (np + 1)).take nd) (hm : m + (np + 1 + nd) + 3 < 1000000) (hr : In.rootMay ((G + 1 : Nat) : Int) ds' = true)
    (ok : ∀ i, i < np + 1 + nd → (wrK (wrN K (fun i => ts.getD i 0) xs i) (ts.getD i 0) (xs i)).2 = 0)
    (k1 : (syK (wrN K (fun i => ts.getD i 0) xs (np + 1 + nd))).2 = 0) (k2 : (wrK (syK (wrN K (fun i => ts.getD i 0) xs (np + 1 + nd))).1 (((G + 1) % 2 : Nat) : Int) (In.sealL (In.rootT ((G + 1 : Nat) : Int) ds'))).2 = 0)
    (k3 : (syK (wrK (syK (wrN K (fun i => ts.getD i 0) xs (np + 1 + nd))).1 (((G + 1) % 2 : Nat) : Int) (In.sealL (In.rootT ((G + 1 : Nat) : Int) ds'))).1).2 = 0)
    (hgs : B ≤ gs) (hap : ∀ x ∈ l, ∀ ad, (x.A = some ad ∨ x.A' = some ad) → ad.block ≠ gs) :
    Calls Tryz.prog 7 #[.pointer (some ⟨gs, 0, none⟩), .string ⟨nm.toArray⟩, .slice Ab nb cb, .int .i64 mt] w fun e w' => ∃ (T D' A' : Option Addr) (ct cd' c' : Nat) (lab' : Nat → Nat) (x : Lf),
      e = .returned (.tuple #[.slice T ts.length ct, .int .i64 0]) ∧ (x.name = nm ∧ x.ino = v ∧ x.f = fF) ∧ STo B (fun k => k = gs) w w' lab lab' g (cmK K ts xs (np + 1 + nd) (G + 1) ds') ∧ StAt w' lab' gs g ((G + 1 : Nat) : Int) D' ds' cd' A' c' (l ++ [x]) false := by
  have MP := Lib.hid (mayPublish_any nm Ab nb cb mt w)
  rw [hmay] at MP
  go_enter Tryz.func7, Tryz.ntmps7
  go_wp2_with fail
  refine MP.out.mono ?_; rintro e w1 ⟨rfl, b1⟩
  have H1 := Lib.hid (h.new b1)
  have HK1 := Lib.hid (hk.new b1)
  have hB1 := Nat.le_trans hB b1.size
  have DK := Lib.hid (disk_any HK1.out)
  have PL := plan_end H1.out HK1.out hB1 m sm (by omega) bk hdl hd hx ⟨by omega, by omega⟩ hroom hz nm hat Ab nb cb mt hnb np hnp nd hnd ts hts htl bs (hsb.below b1) (fun b o e => ⟨Nat.lt_of_lt_of_le (hsl b o e).1 b1.size, (hsl b o e).2⟩) v hv fF hfF hmf es hes hdm
  rw [← hxs] at PL
  have PL := Lib.hid PL
  have z3 := (H1.out.head.cell 3).trans (show _ = some (.pointer (some ⟨g, 0, none⟩)) from rfl)
  have z4 := (H1.out.head.cell 4).trans (show _ = some (.bool false) from rfl)
  have B1 := Lib.hid b1
  clear MP b1
  go_wp2_with fail
  refine DK.out.mono ?_; rintro e w3 ⟨gk, rfl, hw, hon, _⟩
  have ON := Lib.hid (hon w1 (Below.refl _ _))
  rw [← hw]
  clear hw hon w3 DK
  go_wp2_with fail
  refine ON.out.mono ?_; rintro e w3 ⟨rfl, hw⟩
  rw [hw]
  clear hw w3 ON
  go_wp2_with fail
  refine PL.out.mono ?_; rintro e w2 ⟨D', A', T, X, cd', c', ct, cx, pA, pc, lab2, x, rfl, hxn, T2, ⟨rd2, od2⟩, ⟨rt2, ot2⟩, tx2, fa2, new2⟩
  have hdn : ds'.length = nd := by rw [hds, List.length_take, List.length_drop]; omega
  rw [← hds] at rd2
  have hgl : gs < w1.heap.size := H1.out.head.lt
  have hh2 := T2.blk H1.out.head h.lg id
  have lg2 : lab2 gs = 0 := T2.zero gs hgl h.lg
  have hB2 := Nat.le_trans hB1 T2.size
  have b3 := (Below.refl w2.heap.size w2).alloc (Nat.le_refl _) (.cells #[.int .i64 ((G : Int) + 1), .slice D' nd cd', .slice A' (l.length + 1) c', .slice T ts.length ct, .slice X (np + 1 + nd) cx] 69)
  have F3 := STo.fresh T2.kb hB2 (fun _ => False) b3
  have KD := Lib.hid (Blk.new w2 69 #[.int .i64 ((G : Int) + 1), .slice D' nd cd', .slice A' (l.length + 1) c', .slice T ts.length ct, .slice X (np + 1 + nd) cx])
  have LD2 := Lib.hid (show lab2 w2.heap.size = 0 from T2.kb.lab0 (Nat.le_refl _))
  have hh3 := F3.blk hh2 lg2 id
  have rd3 := F3.row rd2 od2 (fun _ _ => id)
  have rt3 := F3.row rt2 ot2 (fun _ _ => id)
  have tx3 := tx2.sto F3
  have fa3 := fa2.new b3
  have CM := commit_ok F3.kb (Nat.le_trans hB2 F3.size) m sm bk _ _ _ _ hh3 lg2 hgs (G + 1) D' A' T X cd' (l.length + 1) c' ct cx (np + 1 + nd) ds' ts pA pc xs (by rw [hdn]; exact rd3.1) (by rw [hdn]; exact rd3.2) rt3.1 rt3.2 tx3 (by omega) (by omega) hm hr ok k1 k2 k3
  rw [show Value.int .i64 ((G + 1 : Nat) : Int) = Value.int .i64 ((G : Int) + 1) from by rw [Int.natCast_add]; rfl, hdn] at CM
  have CM := Lib.hid CM
  have F3H := Lib.hid F3
  have T2H := Lib.hid T2
  have RD3 := Lib.hid rd3
  have FA3 := Lib.hid fa3
  have LG2 := Lib.hid lg2
  have XN := Lib.hid hxn
  have HDS := Lib.hid hds
  clear rd2 od2 rt2 ot2 tx2 fa2 hh2 hh3 rd3 rt3 tx3 fa3 F3 T2 z3 z4 PL b3 hdn lg2 hxn hnp hnd hts htl hv hfF hmf hes hdm hxs hds hr ok k1 k2 k3 hmay hat hx hd hg hsl hsb hnb hm hz
  go_wp2_with (first
    | (refine wpList_load_row rfl 69 (.tmp 11) rfl w2.heap.size rfl 69 _ (0, 0) _ KD.out Tryz.underlying69 rfl dr_info ?_)
    | fail)
  refine CM.out.mono ?_; rintro e w4 ⟨rfl, lab3, T4, hb4⟩
  have KD4 := T4.blk KD.out LD2.out (fun s => by have s' : w2.heap.size = gs := s; have := T2H.out.size; omega)
  have d3 := (KD4.cell 3).trans (show _ = some (.slice T ts.length ct) from rfl)
  have T4H := Lib.hid T4
  have HB4 := Lib.hid hb4
  clear T4 hb4 CM KD4
  go_wp2
  go_ret2
  have hxn := XN.out
  have T4 := T4H.out
  have TT : STo B (fun k => k = gs) w w4 lab lab3 g (cmK K ts xs (np + 1 + nd) (G + 1) ds') := ((STo.fresh hk hB (fun k => k = gs) B1.out).trans (T2H.out.weakS.trans (F3H.out.weakS))).trans T4
  have far : ∀ ad : Addr, w1.heap.size ≤ ad.block → ¬ ad.block = gs := fun ad h0 => by omega
  have fa := FA3.out
  have hgs3 := T4.zero gs (Nat.lt_of_lt_of_le hgl (Nat.le_trans T2H.out.size F3H.out.size)) LG2.out
  have rd4 := T4.row RD3.out.1 RD3.out.2 (fun ad e => far ad (new2 ad (.inl e)))
  have rf4 := T4.row fa.row fa.own (fun ad e => far ad (new2 ad (.inr (.inl e))))
  have hdn : ds'.length = nd := by have := RD3.out.1.len; rw [Nat.mul_one] at this; simpa [In.vi] using this
  refine ⟨T, D', A', ct, cd', c', lab3, x, rfl, hxn, TT, ⟨?_, hgs3, by rw [hdn]; exact rd4.1, by rw [hdn]; exact rd4.2, ⟨rf4.1, rf4.2, fun y hy => ?_, fun y hy => ?_⟩, by simp; omega⟩⟩
  · rw [hdn, show (l ++ [x]).length = l.length + 1 from by simp, Int.natCast_add]
    exact HB4.out
  · refine T4.row (fa.bl y hy).1 (fa.bl y hy).2 (fun ad e => ?_)
    rcases List.mem_append.1 hy with h5 | h5
    · exact hap y h5 ad (.inl e)
    · rw [List.mem_singleton.1 h5] at e
      exact far ad (new2 ad (.inr (.inr (.inl e))))
  · refine T4.row (fa.pt y hy).1 (fa.pt y hy).2 (fun ad e => ?_)
    rcases List.mem_append.1 hy with h5 | h5
    · exact hap y h5 ad (.inr e)
    · rw [List.mem_singleton.1 h5] at e
      exact far ad (new2 ad (.inr (.inr (.inr e))))
end Go.Proofs.YtefnkednnnlhoaaGreatDoor.Sr

/- Package store: the chapter's example. No condition. -/
namespace Go.Proofs.YtefnkednnnlhoaaGreatDoor.Sr
open Go.ChangeShapes Go.WideShapes Go.ChangeAt Go.RowKit Go.Deep Go.Shelf Fr Di Ke Rk Fl
set_option linter.unusedVariables false
set_option linter.unusedSimpArgs false
def aK0 : Kn := newK 4 32
def aK1 : Kn := (fmtK aK0).1
set_option maxRecDepth 1000000
theorem a_fmt : (fmtK aK0).2 = 0 := by decide +kernel
theorem a_new : newN aK1 2 = (1, [], true) := by decide +kernel
theorem a_free : freeR aK1 (usedR [] []) 3 = [2, 3, 4] := by decide +kernel
def aF : In.Fil := ⟨1, 5, ((1 : Nat) : Int), [2], prN [120] 1⟩
theorem a_may : aF.may = true := by decide +kernel
def aE : List In.Ent := ents [] ++ [⟨[97], 3⟩]
def aX : Nat → List UInt8 := planX 1 1 [120] aF aE
theorem a_dir : In.dirMay (aE.take 8) = true := by decide +kernel
theorem a_root : In.rootMay ((1 + 1 : Nat) : Int) [4] = true := by decide +kernel
theorem a_ok : ∀ i : Fin 3, (wrK (wrN aK1 (fun i => [2, 3, 4].getD i 0) aX i.1) ([2, 3, 4].getD i.1 0) (aX i.1)).2 = 0 := by decide +kernel
theorem a_k1 : (syK (wrN aK1 (fun i => [2, 3, 4].getD i 0) aX 3)).2 = 0 := by decide +kernel
theorem a_k2 : (wrK (syK (wrN aK1 (fun i => [2, 3, 4].getD i 0) aX 3)).1 (((1 + 1) % 2 : Nat) : Int) (In.sealL (In.rootT ((1 + 1 : Nat) : Int) [4]))).2 = 0 := by decide +kernel
theorem a_k3 : (syK (wrK (syK (wrN aK1 (fun i => [2, 3, 4].getD i 0) aX 3)).1 (((1 + 1) % 2 : Nat) : Int) (In.sealL (In.rootT ((1 + 1 : Nat) : Int) [4]))).1).2 = 0 := by decide +kernel
def aK2 : Kn := cmK aK1 [2, 3, 4] aX 3 (1 + 1) [4]
theorem a_rd : (rdK aK2 2).2 = 0 := by decide +kernel
theorem a_acc : accR aK2 aF 1 = [120] := by decide +kernel
theorem a_small1 : aK1.Small 3 := ⟨by decide +kernel, by decide +kernel, by decide +kernel, by decide +kernel, by decide +kernel, by decide +kernel⟩
theorem a_small2 : aK2.Small 12 := ⟨by decide +kernel, by decide +kernel, by decide +kernel, by decide +kernel, by decide +kernel, by decide +kernel⟩
theorem a_bare1 : Bare aK1 := ⟨rfl, rfl, rfl, rfl⟩
theorem a_bare2 : Bare aK2 := ⟨rfl, rfl, rfl, rfl⟩
theorem a_mayR : mayR [97] 1 5 = 0 := by decide +kernel
theorem a_name : Pt.nameB [97] = true := by decide +kernel
theorem a_at (x : Lf) (h : x.name = [97]) : atR [x] [97] = 0 ∧ isR [x] [97] 0 = true := by
  have hc : cmpB x.name [97] = 0 := by rw [h]; decide +kernel
  constructor
  · show bsN [x] [97] 1 0 1 = 0
    rw [bsN_step [x] [97] (i := 0) (j := 1) (h := 0) (by decide) (by decide) (by simp)]
    show (if cmpB x.name [97] < 0 then _ else _) = 0
    rw [hc]; rfl
  · show decide (cmpB x.name [97] = 0) = true
    rw [hc]; rfl
end Go.Proofs.YtefnkednnnlhoaaGreatDoor.Sr

/- Package store: the chapter's example, walked. No condition. -/
namespace Go.Proofs.YtefnkednnnlhoaaGreatDoor.Sr
open Go.ChangeShapes Go.WideShapes Go.ChangeAt Go.RowKit Go.Deep Go.Shelf Fr Di Ke Rk Fl
set_option linter.unusedVariables false
set_option linter.unusedSimpArgs false
attribute [local go_sem] Oper.semAt_some
theorem StAt.sto {B : Nat} {w w' : World} {lab lab' : Nat → Nat} {gs g cd c : Nat} {gn : Int} {D A : Option Addr} {ds : List Int} {l : List Lf} {dead : Bool} {K : Kn} (h : StAt w lab gs g gn D ds cd A c l dead) (t : STo B (fun _ => False) w w' lab lab' g K) : StAt w' lab' gs g gn D ds cd A c l dead :=
  ⟨t.blk h.head h.lg id, t.zero gs h.head.lt h.lg, (t.row h.dirs h.down (fun _ _ => id)).1, (t.row h.dirs h.down (fun _ _ => id)).2,
    ⟨(t.row h.files.row h.files.own (fun _ _ => id)).1, (t.row h.files.row h.files.own (fun _ _ => id)).2, fun x hx => t.row (h.files.bl x hx).1 (h.files.bl x hx).2 (fun _ _ => id), fun x hx => t.row (h.files.pt x hx).1 (h.files.pt x hx).2 (fun _ _ => id)⟩, h.few⟩
theorem src_x (W : World) : Src (W.alloc (.cells #[.int .u8 120] 5 (1, 2))) (some ⟨W.heap.size, 0, none⟩) 1 1 [120] := by
  refine ⟨⟨fun _ => ⟨W.heap.size, 0, rfl, by simp, fun j hj => ?_⟩, rfl, Nat.le_refl _, by decide⟩, fun e => by cases e⟩
  have hj' : j = 0 := by simp [bys] at hj; omega
  subst hj'
  exact cell_of_row _ W.heap.size 0 #[.int .u8 120] 5 (1, 2) (heap_alloc_new W _)
set_option maxRecDepth 100000 in
set_option maxHeartbeats 4000000 in
theorem alive_any (w : World) : Calls Tryz.prog 4 #[] w fun e w' => e = .returned (.bool true) ∧ Below w.heap.size w w' := by
  have NK := Lib.hid (new_kb 4 32 w (by decide) (by decide) (by decide) (by decide))
  go_enter Tryz.func4, Tryz.ntmps4
  go_wp2_with fail
  refine NK.out.mono ?_; rintro e w1 ⟨g, lab1, rfl, kb1, b1⟩
  have FM := format_any kb1 b1.size 0 (newK_small 4 32) (by decide)
  rw [show (fmtK (newK 4 32)).2 = 0 from a_fmt] at FM
  have FM := Lib.hid FM
  have B1 := Lib.hid b1
  have LB := Lib.hid b1.size
  clear kb1 b1 NK
  go_wp2_with fail
  refine FM.out.mono ?_; rintro e w2 ⟨rfl, lab2, k2⟩
  have T2 := Lib.hid (k2.sto (fun _ => False))
  have MO := Lib.hid (mount_bare (K := aK1) T2.out.kb (Nat.le_trans LB.out T2.out.size) 3 a_small1 (by decide) a_bare1 1 a_new)
  clear k2 FM
  go_wp2_with fail
  refine MO.out.mono ?_; rintro e w3 ⟨gs, D, cd, lab3, rfl, t3, s3, hgs⟩
  have T3 := Lib.hid t3
  have S3 := Lib.hid s3
  have hB3 : w.heap.size ≤ w3.heap.size := Nat.le_trans LB.out (Nat.le_trans T2.out.size t3.size)
  have hgs2 : w.heap.size ≤ gs := Nat.le_trans LB.out (Nat.le_trans T2.out.size hgs)
  have CV := In.conv_fresh #[.int .u8 120] 1 1 w3
  have b4 := (Below.refl w3.heap.size w3).alloc (Nat.le_refl _) (.cells #[.int .u8 120] 5 (1, 2))
  have SX := src_x w3
  have l0 := t3.kb.lab0 (Nat.le_refl w3.heap.size)
  have k4 := t3.kb.new b4
  have P := publish_end (G := 1) (s3.new b4) k4 (Nat.le_trans hB3 b4.size) 3 a_small1 a_bare1 (by decide) (fun d hd => by cases hd) (fun x hx => by cases hx) (by decide) (by decide) (.inl rfl) [97] rfl (some ⟨w3.heap.size, 0, none⟩) 1 1 5 a_mayR (by decide) 1 rfl 1 rfl [2, 3, 4] a_free.symm rfl [120] SX (fun b o e => by cases e; exact ⟨by simp, l0⟩) 3 rfl aF rfl a_may aE rfl (fun k hk => by
    have hk0 : k = 0 := by simp at hk; omega
    subst hk0; exact a_dir) aX rfl [4] rfl (by decide) a_root (fun i hi => a_ok ⟨i, hi⟩) a_k1 a_k2 a_k3 hgs2 (fun x hx => by cases hx)
  have P := Lib.hid P
  have B4 := Lib.hid b4
  have hB4 := Nat.le_trans hB3 b4.size
  clear t3 s3 MO hgs b4 SX l0 k4
  go_wp2_with fail
  refine P.out.mono ?_; rintro e w5 ⟨T, D', A', ct, cd', c', lab5, x, rfl, hxn, t5, s5⟩
  have T5 := Lib.hid (show STo w.heap.size (fun k => k = gs) _ w5 lab3 lab5 g aK2 from t5)
  have s5 : StAt w5 lab5 gs g 2 D' [4] cd' A' c' [x] false := s5
  have BY := bytes_ok s5 T5.out.kb (Nat.le_trans hB4 T5.out.size) 12 a_small2 (by decide) a_bare2 [97] a_name 0 (a_at x hxn.1).1 (by simp) (a_at x hxn.1).2 (by show x.f.may = true; rw [hxn.2.2]; exact a_may) (fun j hj => by
    have hj' : j < x.f.blocks.length := hj
    rw [hxn.2.2] at hj'
    have hj0 : j = 0 := by have : j < 1 := hj'; omega
    subst hj0
    show (rdK aK2 (bkI x.f 0)).2 = 0
    rw [hxn.2.2]; exact a_rd)
  rw [show (accR aK2 ([x][0]).f ([x][0]).f.blocks.length) = [120] from by
    show accR aK2 x.f x.f.blocks.length = [120]
    rw [hxn.2.2]; exact a_acc] at BY
  have BY := Lib.hid BY
  have S5 := Lib.hid s5
  clear s5 t5 P CV hxn
  go_wp2_with fail
  refine BY.out.mono ?_; rintro e w6 ⟨A6, c6, lab6, rfl, t6, s6⟩
  have S6 := Lib.hid (S5.out.sto t6)
  have ts6 : (convert 31 9 (.slice A6 1 c6)).run Tryz.prog w6 = .ok (.string ⟨#[120]⟩) w6 := Di.told_str s6
  have GN := Lib.hid (gen_any S6.out)
  have NM := Lib.hid (names_any S6.out)
  have T6 := Lib.hid t6
  clear t6 s6 BY S5
  rw [show ([120] : List UInt8).length = 1 from rfl]
  go_wp2_with fail
  refine GN.out.mono ?_; rintro e w7 ⟨rfl, hw⟩
  rw [hw]
  clear hw w7 GN
  go_wp2_with fail
  refine NM.out.mono ?_; rintro e w7 ⟨A7, c7, rfl, r7, b7⟩
  have BF := Lib.hid (show Below w.heap.size w w7 from ((B1.out.trans (T2.out.below.trans T3.out.below)).trans (B4.out.mono hB3)).trans ((T5.out.below.trans T6.out.below).trans (b7.mono (Nat.le_trans hB4 (Nat.le_trans T5.out.size T6.out.size)))))
  clear r7 b7 NM
  go_wp2
  go_ret
  exact ⟨rfl, BF.out⟩
end Go.Proofs.YtefnkednnnlhoaaGreatDoor.Sr

/- What the rows of inode's laws lay: nothing of it is read. No condition. -/
namespace Go.Proofs.YtefnkednnnlhoaaGreatDoor
/-- What the library's calls read. -/
def Vars (w : World) : Prop := w = w
theorem Vars.of {W : World} {p : Prop} (_ : p) : Vars W := rfl
end Go.Proofs.YtefnkednnnlhoaaGreatDoor
