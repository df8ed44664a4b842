/- Package gather: Check and Fetch. Conditions: those that each states. -/
import Derived.Test.YtlilfblnlpjkcaaGaT
namespace Go.Proofs.Ytlilfblnlpjkcaa
open Go.ChangeShapes Go.WideShapes Go.ChangeAt Go.RowKit Go.Deep Fr
set_option linter.unusedVariables false

def checkR (ps : List Pg) (env : Int) (l : List Pc) : Int :=
  if fitsR ps.length env l = 0 then (if ∀ p ∈ l, ((pg ps p.frame).owner : Int) = env then 0 else 20) else fitsR ps.length env l
theorem fits_of_zero {n : Nat} {env : Int} {l : List Pc} (h : fitsR n env l = 0) : (env = 1 ∨ env = 2) ∧ l ≠ [] ∧ (∀ p ∈ l, p.Fits n) ∧ l.length ≤ 16 ∧ sizeR l ≤ 1024 := by
  unfold fitsR at h
  split at h
  · rename_i h1
    split at h
    · cases h
    · exact ⟨h1.1, h1.2.1, h1.2.2, by omega, by omega⟩
  · cases h
theorem fitsR_cases (n : Nat) (env : Int) (l : List Pc) : fitsR n env l = 0 ∨ fitsR n env l = 1 ∨ fitsR n env l = 2 := by
  unfold fitsR
  split
  · split
    · exact .inr (.inr rfl)
    · exact .inl rfl
  · exact .inr (.inl rfl)
/-- The bytes of a frame. -/
def txt (ps : List Pg) (f : Int) : List UInt8 := (pg ps f).text
instance (ps : List Pg) (f : Int) : Decidable (isF ps f) := inferInstanceAs (Decidable (_ ∧ _))
def Pc.Gets (ps : List Pg) (p : Pc) : Prop := isH ps p.frame ∧ isIn p.off p.len
instance (ps : List Pg) (p : Pc) : Decidable (p.Gets ps) := inferInstanceAs (Decidable (_ ∧ _))
def fetchG (ps : List Pg) (l : List Pc) : List UInt8 × Int := if ∀ p ∈ l, p.Gets ps then (gatherB (txt ps) l, 0) else ([], 1)
theorem owns_new {w w' : World} {base : Nat} {e : TypeId} {size n : Nat} {v : Value} {xs : List Value} (h : w.ownsRow base e size v n xs) (k : Below w.heap.size w w') : w'.ownsRow base e size v n xs := by
  refine ⟨h.1, ?_⟩
  rcases h.2 with hl | ⟨g, cap, cur, e, hg, hh, r⟩
  · exact .inl hl
  · exact .inr ⟨g, cap, cur, e, hg, by rw [k.block g (Array.getElem?_eq_some_iff.1 hh).1]; exact hh, r⟩
section
variable {gs g : Nat} {ps : List Pg} {w : World}
set_option maxRecDepth 100000 in
set_option maxHeartbeats 2000000 in
theorem fetch_list (h : Tab w gs g ps) (A : Option Addr) (c : Nat) (l : List Pc) (hp : Pcs w A l) (hok : ∀ p ∈ l, p.Ok) (hmax : l.length ≤ 1000000) :
    Calls Try.prog 39 #[.pointer (some ⟨g, 0, none⟩), .slice A l.length c] w fun e w' => ∃ A' c', e = .returned (.tuple #[.slice A' (fetchG ps l).1.length c', .int .i64 (fetchG ps l).2]) ∧ Src w' A' (fetchG ps l).1.length c' (fetchG ps l).1 ∧ Below w.heap.size w w' := by
  have T := Lib.hid h
  have P := Lib.hid hp
  have OK := Lib.hid hok
  have B0 := Lib.hid (Below.refl w.heap.size w)
  have O0 := Lib.hid (show w.ownsRow w.heap.size 5 1 (.slice none 0 0) (gatherB (txt ps) (l.take 0)).length (bys (gatherB (txt ps) (l.take 0))) from World.ownsRow_nil w w.heap.size 5 1)
  clear hp hok h
  go_enter Try.func39, Try.ntmps39
  go_wp2
  go_loopw [6, 15] (fun out i wr => ∃ (j m c' : Nat) (A' : Option Addr), j ≤ l.length ∧ i = .int .i64 (j : Int) ∧ out = .slice A' m c' ∧ Hid (m = (gatherB (txt ps) (l.take j)).length ∧ m ≤ j * 256) ∧ Hid (wr.ownsRow w.heap.size 5 1 (.slice A' m c') m (bys (gatherB (txt ps) (l.take j)))) ∧ Hid (∀ x (hx : x < l.length), x < j → l[x].Gets ps) ∧ Hid (Below w.heap.size w wr)) (fun _ i _ => l.length - (intOf i).toNat)
  case atStart => exact ⟨0, 0, 0, none, Nat.zero_le _, rfl, rfl, Lib.hid ⟨rfl, Nat.zero_le _⟩, O0, Lib.hid (fun x hx h => absurd h (by omega)), B0⟩
  case round =>
    clear B0 O0
    obtain ⟨j, m, c', A', hj, rfl, rfl, HM, HO, hg, HB⟩ := hrel
    have hgs : w.heap.size ≤ wr.heap.size := HB.out.size
    have P1 := Lib.hid (P.out.new HB.out)
    by_cases hlt : j < l.length
    · have hlt' : (j : Int) < (l.length : Int) := by omega
      have j0 : (0 : Int) ≤ (j : Int) := by omega
      have xj := IntWalk.i64_in ((j : Int) + 1) (by omega)
      obtain ⟨b, o, rfl, hbl, hr⟩ := P1.out j hlt
      have LD := Lib.hid (show wr.rangeAt b (o + j * 3) [.int .i64 l[j].frame, .int .i64 l[j].off, .int .i64 l[j].len] from hr)
      have hb1 := (Below.refl wr.heap.size wr).alloc (Nat.le_refl _) (.cells #[.int .i64 l[j].frame, .int .i64 l[j].off, .int .i64 l[j].len] 55)
      have HB2 := Lib.hid (HB.out.trans (hb1.mono hgs))
      have FE := Lib.hid (Fr.fetch_any ((T.out.new HB.out).new hb1) l[j].frame l[j].off l[j].len (OK.out _ (List.getElem_mem hlt)).off)
      have HO2 := Lib.hid (HO.out.alloc (.cells #[.int .i64 l[j].frame, .int .i64 l[j].off, .int .i64 l[j].len] 55))
      by_cases hG : l[j].Gets ps
      · have GD := Lib.hid (show ∀ x (hx : x < l.length), x < j + 1 → l[x].Gets ps from fun x hx h => by
          by_cases e : x = j
          · subst e; exact hG
          · exact hg.out x hx (by omega))
        have ef : fetchR ps l[j].frame l[j].off l[j].len = (((txt ps l[j].frame).drop l[j].off.toNat).take l[j].len.toNat, 0) := by
          unfold fetchR txt; rw [if_pos hG.1, if_pos hG.2]
        rw [ef] at FE
        have HT := Lib.hid (show gatherB (txt ps) (l.take (j + 1)) = gatherB (txt ps) (l.take j) ++ ((txt ps l[j].frame).drop l[j].off.toNat).take l[j].len.toNat by
          rw [List.take_succ_eq_append_getElem hlt, gatherB_append, gatherB_cons]
          simp [gatherB])
        have HL : (((txt ps l[j].frame).drop l[j].off.toNat).take l[j].len.toNat).length ≤ 256 := by
          have := hG.2; unfold isIn at this; rw [List.length_take]; omega
        have hm256 := HM.out.2
        generalize ((txt ps l[j].frame).drop l[j].off.toNat).take l[j].len.toNat = t at *
        generalize l[j].frame = qf at *
        generalize l[j].off = qo at *
        generalize l[j].len = qn at *
        clear hr hG hg ef HO
        go_wp2_with (first
          | (refine wpList_load_mid rfl 55 (.tmp 17) rfl b (o + j * 3) rfl _ _ LD.out Try.underlying55 rfl piece_info ?_)
          | fail)
        refine FE.out.mono ?_; rintro e w2 ⟨A2, c2, rfl, s2, b2⟩
        have S2 := Lib.hid s2
        have HO3 := Lib.hid (owns_new HO2.out b2)
        have HB3 := Lib.hid (HB2.out.trans (b2.mono HB2.out.size))
        clear s2 b2 HO2
        go_wp2_with (first | (at_builtin; refine Hid.out ?_) | fail)
        unfold Hid
        refine wpList_append_src rfl (.tmp 33) (.tmp 34) rfl w.heap.size (.slice A' m c') m (gatherB (txt ps) (l.take j)) rfl HO3.out A2 t.length c2 t rfl S2.out (by omega) HB3.out.size ?_
        intro v' w3 h1 h2
        obtain ⟨A3, c3, rfl, _, _⟩ := src_of_own h1
        rw [← HT.out] at h1
        have HO4 := Lib.hid h1
        have HB4 := Lib.hid (HB3.out.trans h2)
        have HM2 : Hid (m + t.length = (gatherB (txt ps) (l.take (j + 1))).length ∧ m + t.length ≤ (j + 1) * 256) := Lib.hid ⟨by rw [HT.out, List.length_append, ← HM.out.1], by omega⟩
        clear h1 h2 HT HO3 HB3
        go_wp2
        go_roundw
        case rel => exact ⟨j + 1, _, _, _, by omega, by simp, rfl, HM2, HO4, GD, HB4⟩
        case measure => simp [intOf]; omega
      · have er : fetchG ps l = ([], 1) := by
          unfold fetchG; rw [if_neg (fun h => hG (h _ (List.getElem_mem hlt)))]
        have ef : fetchR ps l[j].frame l[j].off l[j].len = ([], 1) := by
          unfold fetchR
          split
          · rename_i h1
            rw [if_neg (fun h2 => hG ⟨h1, h2⟩)]
          · rfl
        rw [ef] at FE
        have ER := Lib.hid er
        generalize l[j].frame = qf at *
        generalize l[j].off = qo at *
        generalize l[j].len = qn at *
        clear hr hG hg ef er HO HO2
        go_wp2_with (first
          | (refine wpList_load_mid rfl 55 (.tmp 17) rfl b (o + j * 3) rfl _ _ LD.out Try.underlying55 rfl piece_info ?_)
          | fail)
        refine FE.out.mono ?_; rintro e w2 ⟨A2, c2, rfl, s2, b2⟩
        have HB3 := Lib.hid (HB2.out.trans (b2.mono HB2.out.size))
        clear s2 b2
        go_wp2
        go_ret2
        rw [ER.out]
        exact ⟨none, 0, rfl, Src.nil _, HB3.out⟩
    · have hge : ¬ (j : Int) < (l.length : Int) := by omega
      obtain rfl : j = l.length := by omega
      have er : fetchG ps l = (gatherB (txt ps) l, 0) := by
        unfold fetchG; rw [if_pos]
        intro p hp
        obtain ⟨x, hx, rfl⟩ := List.mem_iff_getElem.1 hp
        exact hg.out x hx hx
      have hm := HM.out.1
      have ho := HO.out
      rw [List.take_length] at hm ho
      obtain ⟨A2, c2, e2, hs2, _⟩ := src_of_own ho
      cases e2
      have HS := Lib.hid hs2
      have ER := Lib.hid er
      have HM3 := Lib.hid hm
      generalize gatherB (txt ps) l = G at *
      clear hg ho hs2 er hm
      go_wp2
      go_ret2
      have e3 := HM3.out
      rw [ER.out]
      refine ⟨A', c', ?_, ?_, HB.out⟩
      · rw [← e3]; rfl
      · rw [← e3]; exact HS.out
end
end Go.Proofs.Ytlilfblnlpjkcaa
