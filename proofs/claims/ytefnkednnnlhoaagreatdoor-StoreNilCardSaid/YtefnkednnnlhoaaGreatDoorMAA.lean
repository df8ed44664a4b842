/- General words of these proofs: a slice that reads as a list of bytes, and how a law's last step is closed where the call changes nothing that was there. Conditions: those that each states. -/
import Derived.Test.YtefnkednnnlhoaaGreatDoorRows
import Derived.WalkKit
import Derived.ProofKit
import Derived.OpenShut
import Derived.Below
import Derived.Carry
import Derived.ChangeOld
import Derived.Laws.OwnMore
import Derived.Deep.AppendLies
import Derived.Deep.Draws
import Derived.Laws.Rows
import Derived.Lib.Hide
import Derived.Lib.SmallJoins
import Derived.Laws.Cover2
import Derived.Handy
import Derived.Maps.AppendAt
import Derived.Laws.AppendOwnNone
import Derived.OwnWalk
import Derived.Lib.AppendStr
import Derived.RegionTactic
namespace Go.Proofs.YtefnkednnnlhoaaGreatDoor
open Go.ChangeShapes Go.WideShapes Go.ChangeAt Go.RowKit Go.Deep

/-- The cells that a slice value leads to hold xs: where there are any, they stand one behind the other in a block that is there. -/
def Lies (w : World) (A : Option Addr) (xs : List Value) : Prop :=
  0 < xs.length → ∃ b o, A = some ⟨b, o, none⟩ ∧ b < w.heap.size ∧ ∀ j (h : j < xs.length), w.cell? ⟨b, o + j, none⟩ = some xs[j]

/-- Every block that was there holds what it held. -/
def Older (w w' : World) : Prop := w.heap.size ≤ w'.heap.size ∧ ∀ i, i < w.heap.size → w'.heap[i]? = w.heap[i]?
theorem older_below {w w' : World} (h : Below w.heap.size w w') : Older w w' := ⟨h.size, h.block⟩
theorem older_alloc (w : World) (ob : Obj) : Older w (w.alloc ob) := older_below ((Below.refl _ w).alloc (Nat.le_refl _) ob)

section
variable {w w' : World} {A : Option Addr} {xs : List Value}
theorem lies_nil (w : World) (A : Option Addr) : Lies w A [] := fun h => absurd h (by simp)
theorem Lies.older (h : Lies w A xs) (k : Older w w') : Lies w' A xs := by
  intro hp
  obtain ⟨b, o, e, hb, hc⟩ := h hp
  refine ⟨b, o, e, Nat.lt_of_lt_of_le hb k.1, fun j hj => ?_⟩
  rw [World.cell?_of_block (w := w) (w' := w') (a := ⟨b, o + j, none⟩) (k.2 b hb)]
  exact hc j hj
theorem Lies.front (h : Lies w A xs) (k : Nat) : Lies w A (xs.take k) := by
  intro hp
  rw [List.length_take] at hp
  obtain ⟨b, o, e, hb, hc⟩ := h (by omega)
  refine ⟨b, o, e, hb, fun j hj => ?_⟩
  rw [List.length_take] at hj
  rw [List.getElem_take]
  exact hc j (by omega)
theorem Lies.back (h : Lies w A xs) (k c : Nat) (hc : xs.length ≤ c) : Lies w (if c = k then A else A.map (·.add k)) (xs.drop k) := by
  intro hp
  rw [List.length_drop] at hp
  obtain ⟨b, o, rfl, hb, hcell⟩ := h (by omega)
  rw [if_neg (by omega)]
  refine ⟨b, o + k, by simp [Addr.add], hb, fun j hj => ?_⟩
  rw [List.length_drop] at hj
  rw [List.getElem_drop, Nat.add_assoc]
  exact hcell (k + j) (by omega)
end

/-- Block number g is a block of cells of type t: just cs; none of them is frozen. -/
def Blk (w : World) (g : Nat) (t : TypeId) (cs : Array Value) : Prop := w.heap[g]? = some (.cells cs t (0, 0))
section
variable {w w' : World} {g : Nat} {t : TypeId} {cs : Array Value}
theorem Blk.lt (h : Blk w g t cs) : g < w.heap.size := (Array.getElem?_eq_some_iff.1 h).1
theorem Blk.cell (h : Blk w g t cs) (i : Nat) : w.cell? ⟨g, i, none⟩ = cs[i]? := cell_of_row w g i cs t (0, 0) h
theorem Blk.frozen (h : Blk w g t cs) (i : Nat) : w.frozen? ⟨g, i, none⟩ = false := by
  have h' : w.heap[g]? = some (.cells cs t (0, 0)) := h
  simp [World.frozen?, h']
theorem Blk.new (w : World) (t : TypeId) (cs : Array Value) : Blk (w.alloc (.cells cs t)) w.heap.size t cs := heap_alloc_new w _
theorem Blk.older (h : Blk w g t cs) (k : Older w w') : Blk w' g t cs := (k.2 g h.lt).trans h
theorem Blk.alloc (h : Blk w g t cs) (ob : Obj) : Blk (w.alloc ob) g t cs := h.older (older_alloc w ob)
theorem Blk.below {B : Nat} (h : Blk w g t cs) (hb : Below B w w') (hg : g < B) : Blk w' g t cs := by
  have := hb.block g hg
  exact this.trans h
theorem Blk.drewN (h : Blk w g t cs) (k : Nat) : Blk (w.drewN k) g t cs := h
theorem Blk.put (h : Blk w g t cs) (i : Nat) (u : Value) : Blk (w.setCell ⟨g, i, none⟩ u) g t (cs.setIfInBounds i u) := by
  have h' : w.heap[g]? = some (.cells cs t (0, 0)) := h
  show (w.setCell ⟨g, i, none⟩ u).heap[g]? = _
  simp [World.setCell, Array.getElem?_modify, h']
theorem Blk.far (h : Blk w g t cs) {p : Addr} (hp : g ≠ p.block) (u : Value) : Blk (w.setCell p u) g t cs := by
  have := Below.heap_setCell w p u g hp
  exact this.trans h
theorem Blk.apart {g' : Nat} {t' : TypeId} {cs' : Array Value} (h : Blk w g t cs) (h' : Blk w g' t' cs') (hne : t ≠ t') : g ≠ g' := by
  intro e
  subst e
  have e1 : some (Obj.cells cs t (0, 0)) = some (.cells cs' t' (0, 0)) := h.symm.trans h'
  injection e1 with e2
  injection e2 with _ e3
  exact hne e3
end

/-- Bytes as cells. -/
def bys (l : List UInt8) : List Value := l.map fun c => .int .u8 (c.toNat : Int)
theorem bys_get {l : List UInt8} {k : Nat} (h : k < l.length) : (bys l)[k]? = some (.int .u8 ((l[k]).toNat : Int)) := by
  simp [bys, List.getElem?_eq_getElem h]
theorem bys_length (l : List UInt8) : (bys l).length = l.length := by simp [bys]
theorem bys_take (l : List UInt8) (k : Nat) : (bys l).take k = bys (l.take k) := by simp [bys]
theorem bys_drop (l : List UInt8) (k : Nat) : (bys l).drop k = bys (l.drop k) := by simp [bys]
theorem bys_append (l r : List UInt8) : bys (l ++ r) = bys l ++ bys r := by simp [bys]

/-- The slice value's bytes are l. -/
structure Bytes (w : World) (A : Option Addr) (n c : Nat) (l : List UInt8) : Prop where
  lies : Lies w A (bys l)
  len : l.length = n
  cap : n ≤ c
  max : c ≤ 9223372036854775807
section
variable {w w' : World} {A : Option Addr} {n c : Nat} {l : List UInt8}
theorem Bytes.byte {k : Nat} (h : Bytes w A n c l) (hk : k < n) :
    ∃ b o, ∃ hl : k < l.length, A = some ⟨b, o, none⟩ ∧ b < w.heap.size ∧ w.cell? ⟨b, o + k, none⟩ = some (.int .u8 ((l[k]).toNat : Int)) := by
  have hl := h.len
  obtain ⟨b, o, e, hb, hc⟩ := h.lies (by rw [bys_length]; omega)
  refine ⟨b, o, by omega, e, hb, ?_⟩
  rw [hc k (by rw [bys_length]; omega)]
  simp [bys]
theorem Bytes.older (h : Bytes w A n c l) (k : Older w w') : Bytes w' A n c l := ⟨h.lies.older k, h.len, h.cap, h.max⟩
theorem Bytes.drewN (h : Bytes w A n c l) (k : Nat) : Bytes (w.drewN k) A n c l := h.older ⟨Nat.le_refl _, fun _ _ => rfl⟩
theorem Bytes.take (h : Bytes w A n c l) {k : Nat} (hk : k ≤ n) : Bytes w A k c (l.take k) := by
  have := h.lies.front k
  rw [bys_take] at this
  exact ⟨this, by rw [List.length_take, h.len]; omega, by have := h.cap; omega, h.max⟩
theorem Bytes.cut (h : Bytes w A n c l) {k : Nat} (hk : k ≤ n) : Bytes w (if c = k then A else A.map (·.add k)) (n - k) (c - k) (l.drop k) := by
  have := h.lies.back k c (by rw [bys_length, h.len]; exact h.cap)
  rw [bys_drop] at this
  exact ⟨this, by rw [List.length_drop, h.len], by have := h.cap; omega, by have := h.max; omega⟩
/-- The bytes as append asks for them. -/
theorem Bytes.news {b o : Nat} (h : Bytes w (some ⟨b, o, none⟩) n c l) : (bys l).length = n * 1 ∧ (∀ j u, (bys l)[j]? = some u → w.cell? ((⟨b, o, none⟩ : Addr).add j) = some u) ∧ ∀ u ∈ bys l, u.oneCell' = true := by
  refine ⟨by rw [bys_length, h.len, Nat.mul_one], fun j u hu => ?_, fun u hu => ?_⟩
  · obtain ⟨hj, e⟩ := List.getElem?_eq_some_iff.1 hu
    obtain ⟨b', o', e', _, hc⟩ := h.lies (by omega)
    injection e' with e'
    injection e' with e1 e2 _
    subst e1 e2
    have ea : (⟨b, o, none⟩ : Addr).add j = ⟨b, o + j, none⟩ := by unfold Addr.add; split <;> simp_all
    rw [ea, hc j hj, e]
  · unfold bys at hu
    obtain ⟨c, _, rfl⟩ := List.mem_map.1 hu
    rfl
end
theorem below_drewN {B : Nat} {a w : World} (h : Below B a w) (k : Nat) : Below B a (w.drewN k) := ⟨h.os, h.tape, h.output, h.size, h.block⟩

section
variable {H : Type} {enc : TypeId × Value → H} {P : Program} {w : World}
/-- All arguments read behind a call as they did, where nothing that was there has turned. -/
theorem trodAll_below (hl : laidOutB P = true) {W W' : World} (hb : Below W.heap.size W W') :
    ∀ {ts : List TypeId} {vs : List Value} {ds : List (DataW H)} {ps : List MemPlace}, ts.all (fun t => P.readableRec t && decide (t < P.types.size)) = true →
      DataW.TrodAll enc P W 0 (fun _ => true) true ts vs ds ps → DataW.TrodAll enc P W' 0 (fun b => decide (b < W.heap.size)) true ts vs ds ps
  | [], [], [], _, _, h => h
  | t :: ts, v :: vs, d :: ds, ps, hr, h => by
    obtain ⟨p, q, h0, h1, e⟩ := h
    simp only [List.all_cons, Bool.and_eq_true] at hr
    have hlt : ∀ x ∈ p, x.block < W.heap.size := by
      have h0' := h0
      obtain ⟨m, hm⟩ := h0'; exact DataW.trod_lt m _ _ _ hm
    exact ⟨p, q, Below.trod hl hr.1.1 (of_decide_eq_true hr.1.2) h0 hb hlt, trodAll_below hl hb hr.2 h1, e⟩
  | [], _ :: _, _, _, _, h => h.elim
  | [], [], _ :: _, _, _, h => h.elim
  | _ :: _, [], _, _, _, h => h.elim
  | _ :: _, _ :: _, [], _, _, h => h.elim

/-- A LAW's LAST STEP: the call answers true and turns nothing that was there. -/
theorem law_close {f : Func} {s : ChangeSpec} {k : FuncId} {W : World} {args : Array Value} {ds gs : List (DataW H)} {before : List MemPlace} {tb : TypeId}
    (hW : DataW.Whole enc P f.params.toList s.vars false W args.toList ds gs before)
    (hl : laidOutB P = true) (hr : f.params.toList.all (fun t => P.readableRec t && decide (t < P.types.size)) = true)
    (hrt : f.resultTypes = #[tb]) (hb : P.underlying tb = some .bool) (hv : s.vars = [])
    (hfn : (s.fn H (ds ++ [])).results = [.lit (.bool true)] ∧ (s.fn H (ds ++ [])).args = ds ∧ (s.fn H (ds ++ [])).vars = [])
    (h : Calls P k args W fun e W' => e = .returned (.bool true) ∧ Below W.heap.size W W') :
    Calls P k args W fun e W' => ∃ v, e = .returned v ∧ s.post enc P f false true false false W args v W' := by
  refine h.mono fun e W' ⟨he, bel⟩ => ⟨_, he, ?_⟩
  have hW' := hW
  obtain ⟨p, q, hA, hV, _, _, _⟩ := hW'
  rw [hv] at hV
  obtain ⟨rfl, rfl⟩ := trodVars_none hV
  refine ⟨ds, [], before, [], p, [], hW, ?_, ?_, ?_, bel.frame _, fun h => by cases h⟩
  · rw [hfn.1, hrt]
    exact trodAll_mk1 (shut_bool hb _)
  · rw [hfn.2.1]
    exact trodAll_below hl bel hr hA
  · rw [hfn.2.2, hv]; rfl
end
theorem own : ownKnob Tryz.prog.godebug = none := by kernel_rfl
theorem laidOut : laidOutB Tryz.prog = true := by kernel_rfl
end Go.Proofs.YtefnkednnnlhoaaGreatDoor

/- General words: what stands while a call writes to its own blocks alone; a row of values of the call's own and append of one value more; a ring in memory. Conditions: those that each states. -/
namespace Go.Proofs.YtefnkednnnlhoaaGreatDoor
open Go.ChangeShapes Go.WideShapes Go.ChangeAt Go.RowKit Go.Deep

/-- Of the blocks that were there only those of S may have turned. -/
structure Chg (w w' : World) (S : Nat → Prop) : Prop where
  os : w'.os = w.os
  tape : w'.tape = w.tape
  output : w'.output = w.output
  size : w.heap.size ≤ w'.heap.size
  block : ∀ k, k < w.heap.size → ¬ S k → w'.heap[k]? = w.heap[k]?
section
variable {w w' w2 : World} {S S' : Nat → Prop}
theorem Chg.refl (w : World) (S : Nat → Prop) : Chg w w S := ⟨rfl, rfl, rfl, Nat.le_refl _, fun _ _ _ => rfl⟩
theorem Chg.trans (h : Chg w w' S) (k : Chg w' w2 S) : Chg w w2 S :=
  ⟨k.os.trans h.os, k.tape.trans h.tape, k.output.trans h.output, Nat.le_trans h.size k.size, fun i hi hn => (k.block i (Nat.lt_of_lt_of_le hi h.size) hn).trans (h.block i hi hn)⟩
theorem Chg.weak (h : Chg w w' S) (k : ∀ i, S i → S' i) : Chg w w' S' := ⟨h.os, h.tape, h.output, h.size, fun i hi hn => h.block i hi fun hs => hn (k i hs)⟩
theorem Chg.drewN (h : Chg w w' S) (n : Nat) : Chg w (w'.drewN n) S := ⟨h.os, h.tape, h.output, h.size, h.block⟩
theorem Chg.drew (h : Chg w w' S) : Chg w w'.drew S := ⟨h.os, h.tape, h.output, h.size, h.block⟩
theorem Chg.of_drewN {n : Nat} (h : Chg (w.drewN n) w' S) : Chg w w' S := ⟨h.os, h.tape, h.output, h.size, h.block⟩
theorem Chg.set (w : World) {g : Nat} (i : Nat) (u : Value) (hg : S g) : Chg w (w.setCell ⟨g, i, none⟩ u) S :=
  ⟨rfl, rfl, rfl, by simp [World.setCell], fun k _ hn => Below.heap_setCell w ⟨g, i, none⟩ u k (fun e => hn (by have e' : k = g := e; rw [e']; exact hg))⟩
theorem Chg.below {B : Nat} (h : Chg w w' S) (hB : B ≤ w.heap.size) (hs : ∀ k, S k → B ≤ k) : Below B w w' :=
  ⟨h.os, h.tape, h.output, h.size, fun i hi => h.block i (Nat.lt_of_lt_of_le hi hB) fun s => absurd (hs i s) (by omega)⟩
theorem Chg.of_below {B : Nat} (h : Below B w w') : Chg w w' (fun k => B ≤ k) := ⟨h.os, h.tape, h.output, h.size, fun i _ hn => h.block i (by have hn' : ¬ B ≤ i := hn; omega)⟩
theorem Chg.of_new (h : Below w.heap.size w w') (S : Nat → Prop) : Chg w w' S := ⟨h.os, h.tape, h.output, h.size, fun i hi _ => h.block i hi⟩
theorem Chg.alloc (h : Chg w w' S) (ob : Obj) : Chg w (w'.alloc ob) S := h.trans (Chg.of_new ((Below.refl _ w').alloc (Nat.le_refl _) ob) S)
theorem Blk.chg {g : Nat} {t : TypeId} {cs : Array Value} (h : Blk w g t cs) (k : Chg w w' S) (hn : ¬ S g) : Blk w' g t cs := (k.block g h.lt hn).trans h
end

/-- A row of the call's own: its values are xs; it lies at A, in a block from B on. -/
structure Row (w : World) (B : Nat) (E : TypeId) (A : Option Addr) (c : Nat) (xs : List Value) : Prop where
  own : w.ownsRow B E 1 (.slice A xs.length c) xs.length xs
section
variable {w w' : World} {B : Nat} {E : TypeId} {A : Option Addr} {c : Nat} {xs : List Value} {S : Nat → Prop}
theorem Row.nil (w : World) (B : Nat) (E : TypeId) : Row w B E none 0 [] := ⟨World.ownsRow_nil w B E 1⟩
theorem Row.lt (h : Row w B E A c xs) : ∀ b, (Value.slice A xs.length c).ownBlock = some b → B ≤ b ∧ b < w.heap.size := by
  intro b hb
  rcases h.own.2 with ⟨e, _⟩ | ⟨g, cap, cur, e, hg, hh, _⟩
  · rw [e] at hb; cases hb
  · rw [e] at hb
    have e1 : g = b := by simpa [Value.ownBlock] using hb
    subst e1
    exact ⟨hg, (Array.getElem?_eq_some_iff.1 hh).1⟩
theorem Row.same (h : Row w B E A c xs) (k : ∀ b, (Value.slice A xs.length c).ownBlock = some b → w'.heap[b]? = w.heap[b]?) : Row w' B E A c xs := by
  refine ⟨⟨h.own.1, ?_⟩⟩
  rcases h.own.2 with hl | ⟨g, cap, cur, e, hg, hh, r⟩
  · exact .inl hl
  · refine .inr ⟨g, cap, cur, e, hg, ?_, r⟩
    rw [k g (by rw [e]; rfl)]
    exact hh
theorem Row.new (h : Row w B E A c xs) (k : Below w.heap.size w w') : Row w' B E A c xs := h.same fun b hb => k.block b (h.lt b hb).2
end

/-- append(v, src...): v a row of the call's own, the source a row that lies somewhere. -/
theorem wpList_append_row {P : Program} {ops : Array Oper} {rest : List Oper} {o : Oper} {a : Act} {Q : Exit → Act → World → Prop} {w : World} {T E : TypeId} (hgd : o.guard = none) (s x : Operand)
    (ho : o.op = .call { callee := .builtin .append, args := #[s, x], argTypes := #[T, T] }) (hT : P.underlying T = some (.slice E)) (z : Value) (bytes : Nat) (hz1 : z.cells.size = 1) (hby : bytes ≤ 16)
    (hi : (P.info? E).map (fun i => (i.zero, i.size, i.bytes)) = some (some z, 1, bytes))
    {B : Nat} {A : Option Addr} {c : Nat} {xs : List Value} (hs : a.eval s = .slice A xs.length c) (hown : Row w B E A c xs) (hbase : B ≤ w.heap.size)
    (ad : Addr) (m c' : Nat) (news : List Value) (hx : a.eval x = .slice (some ad) m c') (hl : news.length = m) (hnews : ∀ j u, news[j]? = some u → w.cell? (ad.add j) = some u) (h1 : ∀ u ∈ news, u.oneCell' = true) (hmax : xs.length + m ≤ 1000000)
    (h : ∀ A' c2 w', Row w' B E A' c2 (xs ++ news) → Chg w w' (fun k => (Value.slice A xs.length c).ownBlock = some k) → ((Value.slice A' (xs ++ news).length c2).ownBlock = (Value.slice A xs.length c).ownBlock ∨ (Value.slice A' (xs ++ news).length c2).ownBlock = some w.heap.size) →
      wpList P ops Q rest (a.put o.dst (.slice A' (xs ++ news).length c2)) w') : wpList P ops Q (o :: rest) a w := by
  obtain ⟨i0, hi0, hs0⟩ := Option.map_eq_some_iff.1 hi
  simp only [Prod.mk.injEq] at hs0
  obtain ⟨h0, h2, h3⟩ := hs0
  refine wpList_append_own_at w hgd s x T ho B E i0 z 1 bytes hT hi0 h0 h2 h3 hz1 (by decide) (.slice A xs.length c) xs.length xs hs hown.own ad m c' news hx (by omega) hnews h1 (by unfold maxLen; omega) ?_ hbase ?_
  · have := Nat.mul_le_mul_left (xs.length + m) hby
    omega
  · intro v' w' ho' hg hnil hat
    have hlen : xs.length + m = (xs ++ news).length := by simp [hl]
    rw [hlen] at ho'
    have hv : ∃ A' c2, v' = .slice A' (xs ++ news).length c2 := by
      rcases ho'.2 with ⟨rfl, e⟩ | ⟨g, cap, cur, rfl, _⟩
      · exact ⟨none, 0, by rw [e]⟩
      · exact ⟨_, _, rfl⟩
    obtain ⟨A', c2, rfl⟩ := hv
    exact h A' c2 w' ⟨ho'⟩ ⟨hg.os, hg.tape, hg.output, hg.size, fun k hk hn => hg.block k hk fun e => hn e.symm⟩ hat

/-- append(v, x): what the walk laid for x is a block of its own, the last one. -/
theorem wpList_append_one {P : Program} {ops : Array Oper} {rest : List Oper} {o : Oper} {a : Act} {Q : Exit → Act → World → Prop} {w : World} {T E : TypeId} (hgd : o.guard = none) (s x : Operand)
    (ho : o.op = .call { callee := .builtin .append, args := #[s, x], argTypes := #[T, T] }) (hT : P.underlying T = some (.slice E)) (z : Value) (bytes : Nat) (hz1 : z.cells.size = 1) (hby : bytes ≤ 16)
    (hi : (P.info? E).map (fun i => (i.zero, i.size, i.bytes)) = some (some z, 1, bytes))
    {B : Nat} {A : Option Addr} {c : Nat} {xs : List Value} (hs : a.eval s = .slice A xs.length c) (hown : Row w B E A c xs) (hbase : B ≤ w.heap.size)
    (u : Value) (hu : u.oneCell' = true) (hx : a.eval x = .slice (some ⟨w.heap.size, 0, none⟩) 1 1) (hmax : xs.length + 1 ≤ 1000000)
    (h : ∀ A' c2 w', Row w' B E A' c2 (xs ++ [u]) → Chg w w' (fun k => (Value.slice A xs.length c).ownBlock = some k) → ((Value.slice A' (xs ++ [u]).length c2).ownBlock = (Value.slice A xs.length c).ownBlock ∨ (Value.slice A' (xs ++ [u]).length c2).ownBlock = some (w.heap.size + 1)) →
      wpList P ops Q rest (a.put o.dst (.slice A' (xs ++ [u]).length c2)) w') : wpList P ops Q (o :: rest) a (w.alloc (.cells #[u] E)) := by
  refine wpList_append_row hgd s x ho hT z bytes hz1 hby hi hs (hown.new ((Below.refl _ w).alloc (Nat.le_refl _) _)) (by simp; omega) ⟨w.heap.size, 0, none⟩ 1 1 [u] hx rfl (cell_one_new _ _ _) (by simpa using hu) hmax ?_
  intro A' c2 w' r k hat
  refine h A' c2 w' r ?_ (by simpa using hat)
  exact (Chg.of_new ((Below.refl _ w).alloc (Nat.le_refl _) (.cells #[u] E)) _).trans k

/-- A ring in memory: its things are xs, the first one's ticket is first. -/
structure RingAt (E T : TypeId) (w : World) (gs g room first : Nat) (xs : List Value) : Prop where
  lt : gs < g
  r1 : 1 ≤ room
  r2 : room ≤ 32
  len : xs.length ≤ room
  small : first + xs.length ≤ 1000000
  head : Blk w g T #[.slice (some ⟨gs, 0, none⟩) room room, .int .i64 (first : Int), .int .i64 ((first : Int) + (xs.length : Int))]
  row : ∃ cs : Array Value, Blk w gs E cs ∧ cs.size = room ∧ ∀ j (h : j < xs.length), cs[(first + j) % room]? = some xs[j]
section
variable {E T : TypeId} {w w' : World} {gs g room first : Nat} {xs : List Value} {S : Nat → Prop}
theorem RingAt.chg (h : RingAt E T w gs g room first xs) (k : Chg w w' S) (h1 : ¬ S gs) (h2 : ¬ S g) : RingAt E T w' gs g room first xs := by
  obtain ⟨cs, hb, hs, hc⟩ := h.row
  exact ⟨h.lt, h.r1, h.r2, h.len, h.small, h.head.chg k h2, cs, hb.chg k h1, hs, hc⟩
theorem RingAt.new (h : RingAt E T w gs g room first xs) (k : Below w.heap.size w w') : RingAt E T w' gs g room first xs := h.chg (Chg.of_new k fun _ => False) id id
theorem RingAt.drewN (h : RingAt E T w gs g room first xs) (n : Nat) : RingAt E T (w.drewN n) gs g room first xs := ⟨h.lt, h.r1, h.r2, h.len, h.small, h.head, h.row⟩

theorem mod_ne (a b m : Nat) (h1 : a < b) (h2 : b < a + m) : a % m ≠ b % m := by
  intro e
  have h3 : (b - a) % m = 0 := Nat.sub_mod_eq_zero_of_mod_eq e.symm
  rw [Nat.mod_eq_of_lt (by omega)] at h3
  omega

/-- The first one is taken. -/
theorem RingAt.take {u : Value} (h : RingAt E T w gs g room first (u :: xs)) (z : Value) (n : Nat) :
    RingAt E T (((w.drewN n).setCell ⟨gs, first % room, none⟩ z).setCell ⟨g, 1, none⟩ (.int .i64 ((first : Int) + 1))) gs g room (first + 1) xs := by
  obtain ⟨cs, hb, hcs, hc⟩ := h.row
  have hgg : gs ≠ g := Nat.ne_of_lt h.lt
  have hl := h.len
  have hsm := h.small
  rw [List.length_cons] at hl hsm
  refine ⟨h.lt, h.r1, h.r2, by omega, by omega, ?_, cs.setIfInBounds (first % room) z, ?_, by simpa using hcs, ?_⟩
  · have := ((h.head.drewN n).far (p := ⟨gs, first % room, none⟩) (fun e => hgg (by have e' : g = gs := e; omega)) z).put 1 (.int .i64 ((first : Int) + 1))
    have e1 : (first : Int) + ((u :: xs).length : Int) = ((first + 1 : Nat) : Int) + (xs.length : Int) := by rw [List.length_cons]; omega
    rw [e1] at this
    simpa using this
  · exact ((hb.drewN n).put _ z).far (p := ⟨g, 1, none⟩) hgg _
  · intro j hj
    have hd := mod_ne first (first + (j + 1)) room (by omega) (by omega)
    have hcj := hc (j + 1) (by rw [List.length_cons]; omega)
    rw [show first + 1 + j = first + (j + 1) by omega, Array.getElem?_setIfInBounds, if_neg hd, hcj]
    rfl
/-- The cell of one that is there. -/
theorem RingAt.cell (h : RingAt E T w gs g room first xs) {j : Nat} (hj : j < xs.length) : w.cell? ⟨gs, (first + j) % room, none⟩ = some xs[j] := by
  obtain ⟨cs, hb, _, hc⟩ := h.row
  rw [hb.cell, hc j hj]
theorem RingAt.place (h : RingAt E T w gs g room first xs) (t : Nat) : ∃ u, w.cell? ⟨gs, t % room, none⟩ = some u := by
  obtain ⟨cs, hb, hcs, _⟩ := h.row
  have hm : t % room < cs.size := by rw [hcs]; exact Nat.mod_lt _ h.r1
  exact ⟨cs[t % room], by rw [hb.cell, Array.getElem?_eq_getElem hm]⟩
theorem RingAt.thaw (h : RingAt E T w gs g room first xs) (i : Nat) : w.frozen? ⟨gs, i, none⟩ = false := by
  obtain ⟨cs, hb, _⟩ := h.row
  exact hb.frozen i
end
end Go.Proofs.YtefnkednnnlhoaaGreatDoor

/- General words: append onto a row of the call's own, whatever the source. Conditions: those that each states. -/
namespace Go.Proofs.YtefnkednnnlhoaaGreatDoor
open Go.ChangeShapes Go.WideShapes Go.ChangeAt Go.RowKit Go.Deep

/-- 'b[k:]' of bytes, under one name. -/
theorem run_cut_bytes (A : Option Addr) (n c k : Nat) (hk : k ≤ n) (W : World) :
    (Instr.slice 31 (.slice A n c) (some (.int .i64 (k : Int))) none none).run Tryz.prog W = .ok (.slice (if c = k then A else A.map (·.add k)) (n - k) (c - k)) W := by
  have ht : Tryz.prog.underlying 31 = some (.slice (Tryz.prog.elem 31)) := by kernel_rfl
  have he : (Tryz.prog.info? (Tryz.prog.elem 31)).map (·.size) = some 1 := by kernel_rfl
  obtain ⟨i, hi, hs⟩ := Option.map_eq_some_iff.1 he
  rw [run_slice_l W 31 A n c ht .i64 k (by omega) (by omega)]
  simp [sliced, sizeOf, typeInfo, hi, hs]

theorem grown_of_below {a w : World} (h : Below a.heap.size a w) (row : Option Nat) : a.grownBy w row :=
  { os := h.os, tape := h.tape, output := h.output, size := h.size, block := fun i hi _ => h.block i hi }

/-- A row of bytes of the call's own: block g, from base on. -/
structure OwnB (w : World) (base g n c : Nat) (l : List UInt8) : Prop where
  own : w.ownsRow base 5 1 (.slice (some ⟨g, 0, none⟩) n c) n (bys l)
  base : base ≤ g
  lt : g < w.heap.size
  cap : n ≤ c
  max : c ≤ 9223372036854775807
theorem OwnB.of {w : World} {base n : Nat} {v : Value} {l : List UInt8} (h : w.ownsRow base 5 1 v n (bys l)) (hn : 0 < n) : ∃ g c, v = .slice (some ⟨g, 0, none⟩) n c ∧ OwnB w base g n c l := by
  rcases h.2 with ⟨rfl, hx⟩ | ⟨g, cap, cur, rfl, hb, hh, hc, hm, hs, ht⟩
  · exfalso
    have := h.1
    rw [hx] at this
    simp at this
    omega
  · refine ⟨g, cap, rfl, h, hb, ?_, hc, hm⟩
    rcases Nat.lt_or_ge g w.heap.size with hlt | hge
    · exact hlt
    · rw [Array.getElem?_eq_none hge] at hh; cases hh
theorem OwnB.bytes {w : World} {base g n c : Nat} {l : List UInt8} (h : OwnB w base g n c l) : Bytes w (some ⟨g, 0, none⟩) n c l := by
  have hl := h.own.1
  rw [bys_length, Nat.mul_one] at hl
  refine ⟨fun hp => ⟨g, 0, rfl, h.lt, fun j hj => ?_⟩, hl, h.cap, h.max⟩
  have hj' := hj
  rw [bys_length] at hj'
  rw [Nat.zero_add, h.own.cellAt j (by omega)]
  exact List.getElem?_eq_getElem hj
theorem OwnB.below {w w' : World} {base g n c : Nat} {l : List UInt8} (h : OwnB w base g n c l) (hb : Below w.heap.size w w') : OwnB w' base g n c l :=
  ⟨h.own.kept (grown_of_below hb none) (.inr (by simp [Value.ownBlock])), h.base, Nat.lt_of_lt_of_le h.lt hb.size, h.cap, h.max⟩
theorem OwnB.alloc {w : World} {base g n c : Nat} {l : List UInt8} (h : OwnB w base g n c l) (o : Obj) : OwnB (w.alloc o) base g n c l := ⟨h.own.alloc o, h.base, by have := h.lt; simp; omega, h.cap, h.max⟩
theorem OwnB.far {w : World} {base g n c : Nat} {l : List UInt8} (h : OwnB w base g n c l) {p : Addr} (hp : g ≠ p.block) (u : Value) : OwnB (w.setCell p u) base g n c l := by
  have hb : w.grownBy (w.setCell p u) (some p.block) := ⟨rfl, rfl, rfl, by simp [World.setCell], fun i _ hne => Below.heap_setCell w p u i (fun e => hne (by rw [e]))⟩
  exact ⟨h.own.kept hb (.inr (by simpa [Value.ownBlock] using hp)), h.base, by have := h.lt; simpa [World.setCell] using this, h.cap, h.max⟩
/-- The slice value's bytes are l, and nil is of no capacity: what comes in, and what this program makes. -/
structure Src (w : World) (A : Option Addr) (n c : Nat) (l : List UInt8) : Prop extends Bytes w A n c l where
  none_ : A = none → c = 0
theorem Src.older {w w' : World} {A : Option Addr} {n c : Nat} {l : List UInt8} (h : Src w A n c l) (k : Older w w') : Src w' A n c l := ⟨h.toBytes.older k, h.none_⟩
theorem Src.below {w w' : World} {A : Option Addr} {n c : Nat} {l : List UInt8} (h : Src w A n c l) (hb : Below w.heap.size w w') : Src w' A n c l := h.older (older_below hb)
theorem Src.alloc {w : World} {A : Option Addr} {n c : Nat} {l : List UInt8} (h : Src w A n c l) (o : Obj) : Src (w.alloc o) A n c l := h.older (older_alloc w o)
theorem Src.drewN {w : World} {A : Option Addr} {n c : Nat} {l : List UInt8} (h : Src w A n c l) (k : Nat) : Src (w.drewN k) A n c l := ⟨h.toBytes.drewN k, h.none_⟩
theorem OwnB.src {w : World} {base g n c : Nat} {l : List UInt8} (h : OwnB w base g n c l) : Src w (some ⟨g, 0, none⟩) n c l := ⟨h.bytes, fun e => by cases e⟩
theorem Src.nil (w : World) : Src w none 0 0 [] := ⟨⟨lies_nil _ _, rfl, Nat.le_refl _, by omega⟩, fun _ => rfl⟩
theorem Src.one (w : World) (c : UInt8) : Src (w.alloc (.cells #[.int .u8 (c.toNat : Int)] 5)) (some ⟨w.heap.size, 0, none⟩) 1 1 [c] := by
  refine ⟨⟨fun _ => ⟨w.heap.size, 0, rfl, by simp, fun j hj => ?_⟩, rfl, Nat.le_refl _, by omega⟩, fun e => by cases e⟩
  have hj' : j = 0 := by simp [bys] at hj; omega
  subst hj'
  rw [(Blk.new w 5 #[.int .u8 (c.toNat : Int)]).cell (0 + 0)]
  rfl
theorem u8_info : ∃ i0, Tryz.prog.info? 5 = some i0 ∧ i0.zero = some (.int .u8 0) ∧ i0.size = 1 ∧ i0.bytes = 1 := by
  obtain ⟨i, hi, hs⟩ := Option.map_eq_some_iff.1 (show (Tryz.prog.info? 5).map (fun i => (i.zero, i.size, i.bytes)) = some (some (.int .u8 0), 1, 1) by kernel_rfl)
  simp at hs
  exact ⟨i, hi, hs.1, hs.2.1, hs.2.2⟩

theorem bys_one {l : List UInt8} {u : Value} (hu : u ∈ bys l) : u.oneCell' = true := by
  unfold bys at hu
  obtain ⟨c', _, rfl⟩ := List.mem_map.1 hu
  rfl
theorem Bytes.at_ {w : World} (ad : Addr) {n c : Nat} {l : List UInt8} (hb : Bytes w (some ad) n c l) (j : Nat) (u : Value) (hu : (bys l)[j]? = some u) : w.cell? (ad.add j) = some u := by
  have hj := (List.getElem?_eq_some_iff.1 hu).1
  obtain ⟨b, o', e, _, _⟩ := hb.lies (by omega)
  cases e
  exact hb.news.2.1 j u hu

theorem src_of_own {w : World} {base n : Nat} {v : Value} {l : List UInt8} (h : w.ownsRow base 5 1 v n (bys l)) : ∃ A c, v = .slice A n c ∧ Src w A n c l ∧ ∀ b o, A = some ⟨b, o, none⟩ → base ≤ b := by
  have hl : l.length = n := by have := h.1; rw [bys_length, Nat.mul_one] at this; exact this
  rcases h.2 with ⟨rfl, hx⟩ | ⟨g, cap, cur, rfl, hb, hh, hc, hm, _, _⟩
  · rw [hx] at hl
    refine ⟨none, 0, by rw [hx], ?_, fun _ _ e => by (cases e)⟩
    rw [hx, List.length_eq_zero_iff.1 hl]
    exact Src.nil w
  · by_cases hn : 0 < n
    · obtain ⟨g', c', e, O⟩ := OwnB.of h hn
      cases e
      exact ⟨_, _, rfl, O.src, fun b o e => by cases e; exact O.base⟩
    · have h0 : n = 0 := by omega
      subst h0
      rw [List.length_eq_zero_iff.1 hl]
      exact ⟨_, _, rfl, ⟨⟨lies_nil _ _, rfl, hc, hm⟩, fun e => by cases e⟩, fun b o e => by cases e; exact hb⟩

/-- make([]byte, 0, n). -/
theorem make_bytes (n : Nat) (hn : n ≤ 1099511627776) (W : World) :
    (Instr.makeSlice 31 (.int .i64 0) (.int .i64 (n : Int))).run Tryz.prog W = .ok (.slice (some ⟨W.heap.size, 0, none⟩) 0 n) (W.alloc (.cells (madeCells #[.int .u8 0] n) 5)) := by
  obtain ⟨i0, hi, hz0, hz1, hz2⟩ := u8_info
  have hr := run_make (P := Tryz.prog) W 31 5 i0 (.int .u8 0) Tryz.underlying31 hi hz0 .i64 .i64 0 n (by omega) (by omega) (by rw [hz2]; omega) (by omega)
  simp only [hz1, Nat.mul_one] at hr
  exact hr

/-- append(v, src...): v a row of bytes of the call's own, the source whatever slice of bytes. -/
theorem wpList_append_src {ops : Array Oper} {rest : List Oper} {o : Oper} {a : Act} {Q : Exit → Act → World → Prop} {w : World} (hgd : o.guard = none) (s x : Operand)
    (ho : o.op = .call { callee := .builtin .append, args := #[s, x], argTypes := #[31, 31] })
    (base : Nat) (v : Value) (n : Nat) (r : List UInt8) (hs : a.eval s = v) (hown : w.ownsRow base 5 1 v n (bys r))
    (A : Option Addr) (m c : Nat) (l : List UInt8) (hx : a.eval x = .slice A m c) (hb : Src w A m c l) (hmax : n + m ≤ 1099511627776) (hbase : base ≤ w.heap.size)
    (h : ∀ v' w', w'.ownsRow base 5 1 v' (n + m) (bys (r ++ l)) → Below base w w' → wpList Tryz.prog ops Q rest (a.put o.dst v') w') : wpList Tryz.prog ops Q (o :: rest) a w := by
  obtain ⟨i0, hi, hz0, hz1, hz2⟩ := u8_info
  cases A with
  | none =>
    have hc := hb.none_ rfl
    have hm : m = 0 := by have := hb.cap; omega
    have hl : l = [] := List.length_eq_zero_iff.1 (by have := hb.len; omega)
    subst hc hm hl
    refine wpList_append_own_none hgd s x 31 ho base 5 i0 1 Tryz.underlying31 hi v n (bys r) hs hown hx ?_
    have := h v w (by simpa using hown) (Below.refl _ _)
    exact this
  | some ad =>
    refine wpList_append_own w hgd s x 31 ho base 5 i0 (.int .u8 0) 1 1 Tryz.underlying31 hi hz0 hz1 hz2 rfl (by decide) v n (bys r) hs hown ad m c (bys l) hx (by rw [bys_length, hb.len]; omega) ?_ ?_ (by unfold maxLen; omega) (by omega) hbase ?_
    · exact fun j u hu => Bytes.at_ ad hb.toBytes j u hu
    · exact fun u hu => bys_one hu
    · intro v' w' h1 h2 h3
      rw [← bys_append] at h1
      exact h v' w' h1 (Below.grown (Below.refl _ _) h2 hbase fun q hq => (hown.lt q hq).1)
end Go.Proofs.YtefnkednnnlhoaaGreatDoor
