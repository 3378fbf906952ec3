/- Chapter 11 in plain words: what begins at a byte. No Go in sight. -/
import Derived.Test.YtdoojooepkdlhaaDoorT5
namespace Go.Proofs.YtdoojooepkdlhaaDoor.W
def blankB (c : UInt8) : Bool := c == 32 || c == 9 || c == 10
def lineB (c : UInt8) : Bool := c != 10
def nameB (c : UInt8) : Bool := decide (97 ≤ c.toNat ∧ c.toNat ≤ 122) || digB c || c == 95
def hexPB (c : UInt8) : Bool := c == 46 || hexB c
/-- how many bytes in front -/
def runN (p : UInt8 → Bool) (l : List UInt8) : Nat := (l.takeWhile p).length
/-- a token, its place aside -/
structure Tk where
  kind : Int
  text : ByteArray
  int : Int
  bits : Int
structure Pc where
  t : Tk
  size : Nat
  code : Int
def bytesOf (l : List UInt8) : ByteArray := ⟨l.toArray⟩
def noTk : Tk := ⟨0, ⟨#[]⟩, 0, 0⟩
def noPc : Pc := ⟨noTk, 0, 0⟩
def badPc (n : Nat) (c : Int) : Pc := ⟨noTk, n, c⟩
def okPc (t : Tk) (n : Nat) : Pc := ⟨t, n, 0⟩
def gapN (r : List UInt8) : Nat := if r.head? = some 35 then runN lineB r else runN blankB r
def gapP (r : List UInt8) : Pc := ⟨noTk, gapN r, 0⟩
def words : List (List UInt8) := [[102, 110], [108, 101, 116], [105, 102], [101, 108, 115, 101], [119, 104, 105, 108, 101], [102, 111, 114], [105, 110], [98, 114, 101, 97, 107], [99, 111, 110, 116, 105, 110, 117, 101], [114, 101, 116, 117, 114, 110], [111, 117, 116], [97, 110, 100], [111, 114], [110, 111, 116], [116, 114, 117, 101], [102, 97, 108, 115, 101], [110, 105, 108]]
def namedT (l : List UInt8) : Tk := if l = infT then ⟨5, ⟨#[]⟩, 0, 9218868437227405312⟩ else if l = nanT then ⟨5, ⟨#[]⟩, 0, 9221120237041090560⟩ else if l ∈ words then ⟨2, bytesOf l, 0, 0⟩ else ⟨1, bytesOf l, 0, 0⟩
def headB (p : UInt8 → Bool) (r : List UInt8) : Bool := match r with | [] => false | c :: _ => p c
def nameP (r : List UInt8) : Pc := if runN nameB r = 0 ∨ headB digB r = true then noPc else if 31 < runN nameB r then badPc (runN nameB r) 63 else okPc (namedT (r.take (runN nameB r))) (runN nameB r)
def powN (r : List UInt8) : Nat := match r with
  | 112 :: 43 :: d => 2 + runN digB d
  | 112 :: 45 :: d => 2 + runN digB d
  | 112 :: d => 1 + runN digB d
  | _ => 0
def dblN (r : List UInt8) : Nat := 2 + runN hexPB (r.drop 2) + powN (r.drop (2 + runN hexPB (r.drop 2)))
def hexT : List UInt8 := [48, 120]
def doubleP (r : List UInt8) : Pc := if r.take 2 = hexT then (if (readF (r.take (dblN r))).2 = 0 then okPc ⟨5, ⟨#[]⟩, 0, (readF (r.take (dblN r))).1⟩ (dblN r) else badPc (dblN r) 62) else noPc
def wholeP (r : List UInt8) : Pc := if runN digB r = 0 then noPc else if (readI (r.take (runN digB r))).2 = 0 then okPc ⟨4, ⟨#[]⟩, (readI (r.take (runN digB r))).1, 0⟩ (runN digB r) else badPc (runN digB r) 62
/-- the next byte of a string, and with how many it is spelt: 0, if it is none -/
def speltP (r : List UInt8) : Nat × Nat := match r with
  | [] => (0, 0)
  | c :: q => if c.toNat < 32 ∨ 126 < c.toNat then (0, 0) else if c = 92 then (match q with
    | 92 :: _ => (92, 2)
    | 34 :: _ => (34, 2)
    | 110 :: _ => (10, 2)
    | 120 :: h :: l :: _ => if hexB h = true ∧ hexB l = true then ((16 * hexV h + hexV l).toNat, 4) else (0, 0)
    | _ => (0, 0)) else (c.toNat, 1)
/-- a string's bytes from the n-th byte on, as far as f bytes go -/
def quoteGo : Nat → List UInt8 → Nat → List UInt8 → Pc
  | 0, _, n, _ => badPc n 61
  | f + 1, r, n, acc => match r with
    | [] => badPc n 61
    | c :: _ => if c = 34 then okPc ⟨6, bytesOf acc, 0, 0⟩ (n + 1) else
      if (speltP r).2 = 0 then badPc n 61 else quoteGo f (r.drop (speltP r).2) (n + (speltP r).2) (acc ++ [(speltP r).1.toUInt8])
def quotedP (r : List UInt8) : Pc := if r.head? = some 34 then quoteGo r.length (r.drop 1) 1 [] else noPc
def marks : List (List UInt8) := [[61, 61], [33, 61], [60, 61], [62, 61], [60, 60], [62, 62], [47, 47], [46, 46], [43], [45], [42], [47], [37], [38], [124], [94], [126], [60], [62], [61], [40], [41], [123], [125], [91], [93], [44], [59], [58]]
def markP (r : List UInt8) : Pc := match marks.find? (fun m => r.take m.length == m) with
  | some m => okPc ⟨3, bytesOf m, 0, 0⟩ m.length
  | none => noPc
def orPc (a b : Pc) : Pc := if a.size = 0 then b else a
/-- what begins here: the first of the six that is anything -/
def pieceP (r : List UInt8) : Pc := orPc (gapP r) (orPc (nameP r) (orPc (doubleP r) (orPc (wholeP r) (orPc (quotedP r) (markP r)))))
/-! ### facts -/
theorem runN_le (p : UInt8 → Bool) (l : List UInt8) : runN p l ≤ l.length := (List.takeWhile_prefix p).length_le
theorem take_runN (p : UInt8 → Bool) (l : List UInt8) : l.take (runN p l) = l.takeWhile p := by
  induction l with
  | nil => rfl
  | cons c l ih =>
    unfold runN at ih ⊢
    rw [List.takeWhile_cons]
    cases h : p c
    · rfl
    · simp [ih]
theorem runN_cons_t {p : UInt8 → Bool} {c : UInt8} {l : List UInt8} (h : p c = true) : runN p (c :: l) = runN p l + 1 := by unfold runN; rw [List.takeWhile_cons, h]; rfl
theorem runN_cons_f {p : UInt8 → Bool} {c : UInt8} {l : List UInt8} (h : p c = false) : runN p (c :: l) = 0 := by unfold runN; rw [List.takeWhile_cons, h]; rfl
/-- as far as all are, and the next one is none -/
theorem runN_at (p : UInt8 → Bool) (l : List UInt8) (k : Nat) (ha : (l.take k).all p = true) (hk : k ≤ l.length) (hn : ∀ c, l[k]? = some c → p c = false) : runN p l = k := by
  induction l generalizing k with
  | nil => simp at hk; subst hk; rfl
  | cons c l ih =>
    cases k with
    | zero => exact runN_cons_f (hn c rfl)
    | succ k =>
      rw [List.take_succ_cons, List.all_cons, Bool.and_eq_true] at ha
      rw [runN_cons_t ha.1, ih k ha.2 (by simpa using hk) (fun d hd => hn d (by simpa using hd))]
theorem gap_head (r : List UInt8) (h : r.head? = some 35) : 0 < runN lineB r := by
  cases r with
  | nil => cases h
  | cons c r =>
    injection h with h
    subst h
    rw [runN_cons_t (by decide)]
    omega
end Go.Proofs.YtdoojooepkdlhaaDoor.W
