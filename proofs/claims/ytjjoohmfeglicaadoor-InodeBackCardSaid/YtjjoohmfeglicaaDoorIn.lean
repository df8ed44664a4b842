/- How the store lays its files (layer 11), in plain words: what may be, texts, sealed blocks, and how a block is read. No condition. -/
import Derived.Test.YtjjoohmfeglicaaDoorPth
import Derived.Test.YtjjoohmfeglicaaDoorPart
import Derived.Test.YtjjoohmfeglicaaDoorTk
import Derived.Test.YtjjoohmfeglicaaDoorFl2
import Derived.Test.YtjjoohmfeglicaaDoorRk0
namespace Go.Proofs.YtjjoohmfeglicaaDoor.In
open Go.ChangeShapes Go.WideShapes Go.ChangeAt Go.RowKit Go.Deep Fl Rk
set_option linter.unusedVariables false

def isBlk (b : Int) : Bool := decide (2 ≤ b ∧ b < 512)
def mayCnt (n : Int) : Bool := decide (1 ≤ n ∧ n ≤ 1073741824)
/-- The 254 bytes of a text. -/
def pad (t : List UInt8) : List UInt8 := t ++ List.replicate (254 - t.length) 0
def sealL (t : List UInt8) : List UInt8 := pad t ++ be (65535 - fo (256 * evs (pad t) + ods (pad t))) 2
theorem pad_length {t : List UInt8} (h : t.length ≤ 254) : (pad t).length = 254 := by simp [pad]; omega
theorem sealL_length {t : List UInt8} (h : t.length ≤ 254) : (sealL t).length = 256 := by simp [sealL, pad_length h, be_length]

/-- What a root's text is made of. -/
def blkT (ds : List Int) : List UInt8 := ds.flatMap fun d => be d.toNat 2
def rootMay (g : Int) (ds : List Int) : Bool := mayCnt g && decide (ds.length ≤ 4) && ds.all isBlk
def rootT (g : Int) (ds : List Int) : List UInt8 := [80, 82, 79, 84] ++ be g.toNat 4 ++ be ds.length 1 ++ blkT ds
/-- An entry: a name, and a block. -/
structure Ent where
  name : List UInt8
  ino : Int
def Ent.may (e : Ent) : Bool := Pt.nameB e.name && isBlk e.ino
def dirMay (l : List Ent) : Bool := decide (1 ≤ l.length ∧ l.length ≤ 8) && l.all Ent.may
def Ent.text (e : Ent) : List UInt8 := be e.name.length 1 ++ e.name ++ List.replicate (24 - e.name.length) 0 ++ be e.ino.toNat 2
def dirT (l : List Ent) : List UInt8 := [68] ++ be l.length 1 ++ l.flatMap Ent.text
/-- A file: its parts as float64 words. -/
structure Fil where
  ver : Int
  mtime : Int
  len : Int
  blocks : List Int
  parts : List (Nat × Nat)
def isP (p : Nat × Nat) : Bool := isW p.1 && isW p.2
def cntB (n : Int) : Int := (n + 255).tdiv 256
def Fil.head (f : Fil) : Bool := mayCnt f.ver && decide (0 ≤ f.mtime ∧ f.mtime ≤ 253402300799) && decide (0 ≤ f.len ∧ f.len ≤ 8192)
def Fil.may (f : Fil) : Bool := f.head && (decide ((f.blocks.length : Int) = cntB f.len) && decide ((f.parts.length : Int) = cntB f.len) && f.blocks.all isBlk && f.parts.all isP)
/-- The whole number that a float64 word stands for, of those from 0 on. -/
def toN (x : Nat) : Nat := (((Ieee.double.read x).toInt .zero).getD 0).toNat
def trip (b : Int) (p : Nat × Nat) : List UInt8 := be b.toNat 2 ++ (be (toN p.1) 2 ++ be (toN p.2) 2)
def trips : List Int → List (Nat × Nat) → List UInt8
  | b :: bs, p :: ps => trip b p ++ trips bs ps
  | _, _ => []
def filT (f : Fil) : List UInt8 := [70] ++ be f.ver.toNat 4 ++ be f.mtime.toNat 8 ++ be f.len.toNat 2 ++ trips f.blocks f.parts

/-- A reader: the bytes that are left, and its error. -/
abbrev Rd := List UInt8 × Int
def numS (s : Rd) (k : Int) : Nat × Rd := (numB (takeR s.1 s.2 k true).1, (takeR s.1 s.2 k true).2)
def bytS (s : Rd) (k : Int) : List UInt8 × Rd := ((takeR s.1 s.2 k false).1, (takeR s.1 s.2 k false).2)
def intS (s : Rd) (k : Int) : Int × Rd := (IntKind.i64.wrap (numS s k).1, (numS s k).2)
def readInts : Nat → Rd → List Int × Rd
  | 0, s => ([], s)
  | j + 1, s => ((readInts j s).1 ++ [(intS (readInts j s).2 2).1], (intS (readInts j s).2 2).2)
/-- What is read for a root: Gen, and the state behind the number of directories. -/
def rootG (l : List UInt8) : Int × Rd := intS (bytS (l, 0) 4).2 4
def rootN (l : List UInt8) : Int × Rd := intS (rootG l).2 1
def rootR (l : List UInt8) : Int × List Int := ((rootG l).1, (readInts (rootN l).1.toNat (rootN l).2).1)
def entS (s : Rd) : Ent × Rd :=
  let n := intS s 1
  let b := bytS n.2 24
  let i := intS b.2 2
  (⟨b.1.take (min n.1 b.1.length).toNat, i.1⟩, i.2)
def readEnts : Nat → Rd → List Ent × Rd
  | 0, s => ([], s)
  | j + 1, s => ((readEnts j s).1 ++ [(entS (readEnts j s).2).1], (entS (readEnts j s).2).2)
def dirN (l : List UInt8) : Int × Rd := intS (bytS (l, 0) 1).2 1
def dirR (l : List UInt8) : List Ent := (readEnts (dirN l).1.toNat (dirN l).2).1
def tripS (s : Rd) : (Int × (Nat × Nat)) × Rd :=
  let b := intS s 2
  let e := intS b.2 2
  let o := intS e.2 2
  ((b.1, (fl e.1, fl o.1)), o.2)
def readTrips : Nat → Rd → List (Int × (Nat × Nat)) × Rd
  | 0, s => ([], s)
  | j + 1, s => ((readTrips j s).1 ++ [(tripS (readTrips j s).2).1], (tripS (readTrips j s).2).2)
def filV (l : List UInt8) : Int × Rd := intS (bytS (l, 0) 1).2 4
def filM (l : List UInt8) : Int × Rd := intS (filV l).2 8
def filL (l : List UInt8) : Int × Rd := intS (filM l).2 2
def filR (l : List UInt8) : Fil :=
  let r := (readTrips (cntB (filL l).1).toNat (filL l).2).1
  ⟨(filV l).1, (filM l).1, (filL l).1, r.map (·.1), r.map (·.2)⟩

/-- The error of a block that would be read as a thing whose block is b. -/
def goodL (l : List UInt8) : Bool := decide (fo (256 * evs l + ods l) = 65535)
def errOf (l : List UInt8) (may : Bool) (t : List UInt8) : Int :=
  if l.length ≠ 256 then 50 else if goodL l = false then 51 else if may = true ∧ sealL t = l then 0 else 50

/-- Values in memory. -/
def vi (l : List Int) : List Value := l.map fun d => .int .i64 d
def vp (l : List (Nat × Nat)) : List Value := l.map fun p => .complex .f64 p.1 p.2
def ve (l : List Ent) : List Value := l.flatMap fun e => [.string ⟨e.name.toArray⟩, .int .i64 e.ino]
theorem ve_length (l : List Ent) : (ve l).length = l.length * 2 := by
  induction l with
  | nil => rfl
  | cons e l ih => simp only [ve, List.flatMap_cons, List.length_append, List.length_cons, List.length_nil] at ih ⊢; omega
theorem ve_get : ∀ (l : List Ent) (j : Nat) (h : j < l.length), (ve l)[j * 2]? = some (.string ⟨l[j].name.toArray⟩) ∧ (ve l)[j * 2 + 1]? = some (.int .i64 l[j].ino)
  | e :: l, 0, _ => ⟨rfl, rfl⟩
  | e :: l, j + 1, h => by
    have := ve_get l j (by simpa using h)
    have e0 : ve (e :: l) = [.string ⟨e.name.toArray⟩, .int .i64 e.ino] ++ ve l := rfl
    rw [e0, show (j + 1) * 2 = 2 + j * 2 from by omega]
    refine ⟨?_, ?_⟩
    · rw [List.getElem?_append_right (by simp)]
      simpa using this.1
    · rw [List.getElem?_append_right (by simp; omega), show 2 + j * 2 + 1 - [Value.string ⟨e.name.toArray⟩, Value.int .i64 e.ino].length = j * 2 + 1 from by simp; omega]
      simpa using this.2

theorem numB_be (n : Nat) : ∀ k, numB (be n k) = n % 256 ^ k
  | 0 => by simp [numB, be, Nat.mod_one]
  | k + 1 => by
    have h : ∀ (l : List UInt8) (z : Nat), l.foldl (fun a c => a * 256 + c.toNat) z = z * 256 ^ l.length + numB l := by
      intro l
      induction l with
      | nil => intro z; simp [numB]
      | cons c l ih =>
        intro z
        have e1 := ih (z * 256 + c.toNat)
        have e2 := ih (0 * 256 + c.toNat)
        simp only [List.foldl_cons, numB, List.length_cons] at *
        rw [e1, e2, Nat.pow_succ]
        simp only [Nat.add_mul, Nat.zero_mul, Nat.zero_add, Nat.mul_assoc, Nat.mul_comm (256 ^ l.length) 256]
        omega
    have e := h (be n k) (0 * 256 + (nb n k).toNat)
    rw [be_length, numB_be n k] at e
    show List.foldl _ _ (be n k) = _
    rw [e, nb_eq, Nat.zero_mul, Nat.zero_add, Nat.pow_succ, Nat.mod_mul]
    rw [Nat.mul_comm, Nat.add_comm]
end Go.Proofs.YtjjoohmfeglicaaDoor.In
