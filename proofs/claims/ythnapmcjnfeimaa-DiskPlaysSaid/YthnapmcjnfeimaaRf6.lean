/- The document's disk: a Write that goes wrong. Conditions: those that each states. -/
import Derived.Test.YthnapmcjnfeimaaRf5
namespace Go.Proofs.Ythnapmcjnfeimaa.RD
open Go.ChangeShapes Go.WideShapes Go.ChangeAt Go.RowKit Go.Deep Di
set_option linter.unusedVariables false
section
variable {w w' w1 w2 : World} {gm bt bo ct co cl cl' co' ct' : Nat} {Al Al' : Option Addr} {d d' : Dk} {S R : Nat → Prop}
set_option maxRecDepth 100000 in
set_option maxHeartbeats 2000000 in
theorem rdo2_ask (h : RefAt w gm bt bo ct co Al cl d) (env a b : Int) (s : ByteArray) (he : askE d env a ≠ 0) :
    Calls Try.prog 9 #[.pointer (some ⟨gm, 0, none⟩), .agg #[.int .i64 2, .int .i64 env, .int .i64 a, .int .i64 b, .string s]] w (RPost w gm bt bo Al d [] (askE d env a)) := by
  have hv : (askE d env a == 0) = false := by simpa using he
  obtain ⟨v, ev⟩ : ∃ v, v = askE d env a := ⟨_, rfl⟩
  rw [← ev] at hv ⊢
  have hB := (Below.refl w.heap.size w).alloc (Nat.le_refl _) (.cells #[.int .i64 2, .int .i64 env, .int .i64 a, .int .i64 b, .string s] 34)
  have hq := Blk.new w 34 #[.int .i64 2, .int .i64 env, .int .i64 a, .int .i64 b, .string s]
  have H := Lib.hid (h.new hB)
  have HB := Lib.hid hB
  have HQ := Lib.hid hq
  have hgl := h.head.lt
  clear hB hq
  go_enter Try.func9, Try.ntmps9
  go_upto_region 1 with fail
  generalize (w.alloc (.cells #[.int .i64 2, .int .i64 env, .int .i64 a, .int .i64 b, .string s] 34)) = w1 at *
  obtain ⟨a0, a1, a2, a3, a4⟩ := act_cells HQ.out
  obtain ⟨c0, c1, c2, c3, c4⟩ := H.out.heads
  have f2 := H.out.head.frozen 2
  have f3 := H.out.head.frozen 3
  have f4 := H.out.head.frozen 4
  have ok := H.out.ok
  clear h HQ
  have MAY := Lib.hid (rmay_any H.out env a)
  rw [← ev] at MAY
  have FIN := Lib.hid (post_same H.out HB.out)
  clear he ev
  go_wp2_with fail
  refine MAY.out.mono ?_; rintro e w2 ⟨rfl, rfl⟩
  go_wp2
  go_ret2
  exact ⟨rfl, FIN.out⟩

set_option maxRecDepth 100000 in
set_option maxHeartbeats 2000000 in
theorem rdo2_len (h : RefAt w gm bt bo ct co Al cl d) (env a b : Int) (s : ByteArray) (he : askE d env a = 0) (hs : s.size ≠ 256) (hs2 : s.size ≤ 1000) :
    Calls Try.prog 9 #[.pointer (some ⟨gm, 0, none⟩), .agg #[.int .i64 2, .int .i64 env, .int .i64 a, .int .i64 b, .string s]] w (RPost w gm bt bo Al d [] 1) := by
  have hB := (Below.refl w.heap.size w).alloc (Nat.le_refl _) (.cells #[.int .i64 2, .int .i64 env, .int .i64 a, .int .i64 b, .string s] 34)
  have hq := Blk.new w 34 #[.int .i64 2, .int .i64 env, .int .i64 a, .int .i64 b, .string s]
  have H := Lib.hid (h.new hB)
  have HB := Lib.hid hB
  have HQ := Lib.hid hq
  have hgl := h.head.lt
  clear hB hq
  go_enter Try.func9, Try.ntmps9
  go_upto_region 1 with fail
  generalize (w.alloc (.cells #[.int .i64 2, .int .i64 env, .int .i64 a, .int .i64 b, .string s] 34)) = w1 at *
  obtain ⟨a0, a1, a2, a3, a4⟩ := act_cells HQ.out
  obtain ⟨c0, c1, c2, c3, c4⟩ := H.out.heads
  have f2 := H.out.head.frozen 2
  have f3 := H.out.head.frozen 3
  have f4 := H.out.head.frozen 4
  have ok := H.out.ok
  clear h HQ
  have MAY := Lib.hid (rmay_any H.out env a)
  rw [he] at MAY
  have FIN := Lib.hid (post_same H.out HB.out)
  have q1 : ¬ s.size = 256 := hs
  have q2 : ((s.size : Int) == 256) = false := by simp; omega
  clear he hs
  go_wp2_with fail
  refine MAY.out.mono ?_; rintro e w2 ⟨rfl, rfl⟩
  go_wp2
  go_ret2
  exact ⟨rfl, FIN.out⟩

set_option maxRecDepth 100000 in
set_option maxHeartbeats 2000000 in
theorem rdo2_cut (h : RefAt w gm bt bo ct co Al cl d) (env a b : Int) (s : ByteArray) (he : askE d env a = 0) (hs : s.size = 256) (h0 : d.armed = 0) :
    Calls Try.prog 9 #[.pointer (some ⟨gm, 0, none⟩), .agg #[.int .i64 2, .int .i64 env, .int .i64 a, .int .i64 b, .string s]] w (RPost w gm bt bo Al (cutR d) [] 30) := by
  have hB := (Below.refl w.heap.size w).alloc (Nat.le_refl _) (.cells #[.int .i64 2, .int .i64 env, .int .i64 a, .int .i64 b, .string s] 34)
  have hq := Blk.new w 34 #[.int .i64 2, .int .i64 env, .int .i64 a, .int .i64 b, .string s]
  have H := Lib.hid (h.new hB)
  have HB := Lib.hid hB
  have HQ := Lib.hid hq
  have hgl := h.head.lt
  clear hB hq
  go_enter Try.func9, Try.ntmps9
  go_upto_region 1 with fail
  generalize (w.alloc (.cells #[.int .i64 2, .int .i64 env, .int .i64 a, .int .i64 b, .string s] 34)) = w1 at *
  obtain ⟨a0, a1, a2, a3, a4⟩ := act_cells HQ.out
  obtain ⟨c0, c1, c2, c3, c4⟩ := H.out.heads
  have f2 := H.out.head.frozen 2
  have f3 := H.out.head.frozen 3
  have f4 := H.out.head.frozen 4
  have ok := H.out.ok
  clear h HQ
  have MAY := Lib.hid (rmay_any H.out env a)
  rw [he] at MAY
  rw [h0] at c4
  have ST := Lib.hid H.out.cut
  have FIN := Lib.hid (post_of ST.out.1 HB.out ST.out.2 (fun i hi => .inl hi))
  clear he ST h0
  go_wp2_with fail
  refine MAY.out.mono ?_; rintro e w2 ⟨rfl, rfl⟩
  go_wp2
  go_ret2
  exact ⟨rfl, FIN.out⟩

end
end Go.Proofs.Ythnapmcjnfeimaa.RD
