import Derived.Test.YtndkfjoaiinjoaaGreatBase10
import Derived.Test.YtndkfjoaiinjoaaGreatBase7
/- Package store: New and Save over what all Ids hold. -/
namespace Go.Proofs.YtndkfjoaiinjoaaGreat.W
open Go.ChangeShapes Go.WideShapes Go.RowKit Go.Shelf
set_option linter.unusedVariables false
theorem seg_saved_in (row : List Nat) (p l o v w : Nat) (h : o + w ≤ l) (hr : p + l ≤ row.length) : seg (saved row (p + o) v w) p l = saved (seg row p l) o v w := by
  apply List.ext_getElem?
  intro i
  have hl := seg_len row p l hr
  by_cases hi : i < l
  · rw [seg_get _ _ _ _ hi, saved_get _ _ _ _ _ (by omega), saved_get _ _ _ _ _ (by omega), seg_get _ _ _ _ hi]
    by_cases c : o ≤ i ∧ i < o + w
    · rw [if_pos (by omega), if_pos c, show p + i - (p + o) = i - o by omega]
    · rw [if_neg (by omega), if_neg c]
  · rw [List.getElem?_eq_none (by simp [seg]; omega), List.getElem?_eq_none (by rw [saved_len]; omega)]
theorem seg_saved_out (row : List Nat) (q v w a n : Nat) (hr : q + w ≤ row.length) (ho : a + n ≤ q ∨ q + w ≤ a) : seg (saved row q v w) a n = seg row a n :=
  seg_ext (fun i hi => by rw [saved_get _ _ _ _ _ hr, if_neg (by omega)])
theorem saved_byte (row : List Nat) (p v k : Nat) (h : ∀ x ∈ row, x < 256) : ∀ x ∈ saved row p v k, x < 256 := by
  induction k with
  | zero => exact h
  | succ k ih =>
    intro x hx
    rcases List.mem_or_eq_of_mem_set hx with g | g
    · exact ih x g
    · rw [g]; exact Nat.mod_lt _ (by omega)
section
variable {W : World} {sb : Nat} {S : Nat → Prop} {A : List (Option (List Nat))} {U N : Nat}
theorem save_st (h : St W S sb A U N) (id : Nat) (x : List Nat) (hx : A[id]? = some (some x)) (o wd v : Nat) (hv : v < 18446744073709551616) (hw : wd = 1 ∨ wd = 2 ∨ wd = 4 ∨ wd = 8) (ha : o % wd = 0) (ho : o + wd ≤ x.length) : Calls Tryz.prog 105 #[.pointer (some ⟨sb, 0, none⟩), .int .i64 id, .int .i64 o, .int .i64 wd, .int .u64 v] W fun e w' => e = .returned (.int .i64 0) ∧ Upd S W w' ∧ St w' S sb (A.set id (some (saved x o v wd))) U N := by
  obtain ⟨s, E, vr, vb, vf, hL, hO, f⟩ := h
  have hidA := (List.getElem?_eq_some_iff.1 hx).1
  have hAx : A[id] = some x := (List.getElem?_eq_some_iff.1 hx).2
  have hheld : held s id = some x := by rw [f.all.2, hx]; rfl
  obtain ⟨b, hb, hlv, hxs⟩ := held_some hheld
  obtain ⟨p, l, hp, hl, hin⟩ := fine_in f.good hb hlv
  have hxl : x = seg s.row p l := by rw [hxs, hp, hl, Int.toNat_natCast, Int.toNat_natCast]
  have hxl2 : x.length = l := by rw [hxl]; exact seg_len _ _ _ hin
  have hsA := sumA_set A id (some (saved x o v wd)) hidA
  rw [hAx] at hsA
  have e1 : lenA (some (saved x o v wd)) = lenA (some x) := by show up8N _ = up8N _; rw [saved_len]
  rw [e1] at hsA
  have hsum : sumA (A.set id (some (saved x o v wd))) = sumA A := by omega
  refine (save_ok hL f.fit id wd v hv b (ext_of hb hlv) hw o p hp (by omega) (by omega) (by omega) hO).mono ?_
  rintro e w' ⟨rfl, hL', hU'⟩
  refine ⟨rfl, hU', _, E, vr, vb, vf, hL', hO, ?_, ⟨?_, ?_⟩, by rw [hsum]; exact f.sum, f.lens, ?_, by rw [hsum]; exact f.top, by rw [List.length_set]; exact f.num, f.u9, f.n9⟩
  · have g := f.good
    exact ⟨g.nodup, by show Lies E (saved _ _ _ _).length; rw [saved_len]; exact g.lies, g.get, saved_byte _ _ _ _ g.byte, g.hand, g.zero, g.heap, g.nodupF, g.free, g.used, by show (saved _ _ _ _).length % 8 = 0; rw [saved_len]; exact g.row8⟩
  · rw [List.length_set]; exact f.all.1
  · intro i
    by_cases c : i = id
    · rw [c, List.getElem?_set_self hidA]
      unfold held
      show (match s.blks[id]? with | some b => if b.live = true then some (seg (saved s.row (p + o) v wd) b.pos.toNat b.len.toNat) else none | none => none) = some (saved x o v wd)
      rw [hb]
      simp only [hlv, if_true, hp, hl, Int.toNat_natCast]
      rw [seg_saved_in _ _ _ _ _ _ (by omega) hin, ← hxl]
    · rw [List.getElem?_set_ne (by omega), ← f.all.2 i]
      refine held_get i rfl ?_
      intro b' hb' hlv'
      rw [get_blks] at hb'
      show seg (saved s.row (p + o) v wd) _ _ = _
      rcases fine_at f.good hb' hlv' with ⟨k', hk', hki', rfl⟩ | ⟨_, rfl⟩
      · rcases fine_at f.good hb hlv with ⟨k, hk, hki, rfl⟩ | ⟨_, rfl⟩
        · have hp' : (rg E (k + 1)).p = p := Int.ofNat_inj.1 hp
          have hl' : (rg E (k + 1)).l = l := Int.ofNat_inj.1 hl
          have hne : k ≠ k' := by rintro rfl; omega
          show seg _ (rg E (k' + 1)).p (rg E (k' + 1)).l = seg _ (rg E (k' + 1)).p (rg E (k' + 1)).l
          refine seg_saved_out _ _ _ _ _ _ (by omega) ?_
          have u1 := up8N_ge (rg E (k + 1)).l
          have u2 := up8N_ge (rg E (k' + 1)).l
          rcases Nat.lt_or_gt_of_ne hne with c | c
          · have := rg_lt f.good.lies (i := k + 1) (j := k' + 1) (by omega) hk'
            unfold Ex.stop at this
            right; omega
          · have := rg_lt f.good.lies (i := k' + 1) (j := k + 1) (by omega) hk
            unfold Ex.stop at this
            left; omega
        · have : l = 0 := Int.ofNat_inj.1 hl.symm
          omega
      · rfl
  · show (saved _ _ _ _).length ≤ _
    rw [saved_len]; exact f.row
theorem new_st (W : World) (U N : Nat) (hU : U ≤ 100000000000) (hN : N ≤ 100000000) : Calls Tryz.prog 21 #[] W fun e w' => e = .returned (.pointer (some ⟨W.heap.size, 0, none⟩)) ∧ St w' (fun k => k = W.heap.size) W.heap.size [] U N ∧ Below W.heap.size W w' ∧ w'.heap.size = W.heap.size + 1 := by
  refine (new_c W).mono ?_
  rintro e w' ⟨rfl, hL, hB, hz⟩
  refine ⟨rfl, ⟨emptySto, [], _, _, _, hL, ?_, ?_⟩, hB, hz⟩
  · exact ⟨rfl, by simp [Value.ownBlock], by simp [Value.ownBlock], by simp [Value.ownBlock]⟩
  · refine ⟨⟨?_, ?_, ?_, ?_, ?_, ?_, ?_, ?_, ?_, rfl, rfl⟩, ⟨rfl, fun i => by simp [held, emptySto]⟩, rfl, ?_, ?_, Nat.zero_le _, Nat.zero_le _, hU, hN⟩
    · simp [ring]
    · refine ⟨?_, ?_, ?_⟩
      · intro i e f' he hf
        simp [ring] at hf
      · intro e he; cases he
      · intro e he
        simp [ring] at he
        rw [he]; exact Nat.le_refl _
    · intro i e he
      cases i with
      | zero => simp [ring] at he; subst he; rfl
      | succ i => simp [ring] at he
    · intro x hx; cases hx
    · exact ⟨front, List.mem_cons_self .., rfl⟩
    · intro id b hb; simp [emptySto] at hb
    · intro k h0 hk; exact absurd hk (by simp [emptySto])
    · exact List.nodup_nil
    · intro x; simp [emptySto]
    · intro e he; cases he
    · show 0 ≤ _; omega
end
end Go.Proofs.YtndkfjoaiinjoaaGreat.W
/- Package store: Len, Load, Save and their errors, Span behind Pack, over what all Ids hold. -/
namespace Go.Proofs.YtndkfjoaiinjoaaGreat.W
open Go.ChangeShapes Go.WideShapes Go.RowKit Go.Shelf
set_option linter.unusedVariables false
section
variable {W : World} {sb : Nat} {S : Nat → Prop} {A : List (Option (List Nat))} {U N : Nat}
theorem len_st (h : St W S sb A U N) (id : Nat) (x : List Nat) (hx : A[id]? = some (some x)) : Calls Tryz.prog 94 #[.pointer (some ⟨sb, 0, none⟩), .int .i64 id] W fun e w' => e = .returned (.tuple #[.int .i64 x.length, .int .i64 0]) ∧ w' = W := by
  obtain ⟨s, E, vr, vb, vf, hL, hO, f⟩ := h
  have hheld : held s id = some x := by rw [f.all.2, hx]; rfl
  obtain ⟨b, hb, hlv, hxs⟩ := held_some hheld
  obtain ⟨p, l, hp, hl, hin⟩ := fine_in f.good hb hlv
  have hxl : x.length = l := by rw [hxs, hp, hl, Int.toNat_natCast, Int.toNat_natCast]; exact seg_len _ _ _ hin
  have := len_some hL f.fit.len id b (ext_of hb hlv)
  rw [hl] at this
  rw [hxl]
  exact this
/-- packed: the row has no byte too many -/
def StT (W : World) (S : Nat → Prop) (sb : Nat) (A : List (Option (List Nat))) (U N : Nat) : Prop := ∃ s E vr vb vf, Lay W sb vr vb vf s ∧ Own S sb vr vb vf ∧ Fine s E A U N ∧ s.row.length = sumA A
theorem StT.st (h : StT W S sb A U N) : St W S sb A U N := by
  obtain ⟨s, E, vr, vb, vf, hL, hO, f, _⟩ := h
  exact ⟨s, E, vr, vb, vf, hL, hO, f⟩
end
end Go.Proofs.YtndkfjoaiinjoaaGreat.W
/- The heap of chapter 6 in plain words: cells by handle, their bytes, what they need, what is reached. -/
namespace Go.Proofs.YtndkfjoaiinjoaaGreat.W
set_option linter.unusedVariables false
/-- a cell -/
inductive Hc where
  | num (i : Int)
  | text (b : List Nat)
  | buf (k : Int) (b : List Nat)
  | view (k : Int) (base : Nat) (p n : Nat)
  | row (ws : List Nat)
/-- a word's bytes, the lowest first -/
def le8 (x : Nat) : List Nat := (List.range 8).map (fun i => x / 256 ^ i % 256)
def Hc.bytes : Hc → List Nat
  | .num i => le8 (i % 18446744073709551616).toNat
  | .text b => b
  | .buf _ b => b
  | .view _ _ _ _ => []
  | .row ws => ws.flatMap le8
/-- what stands in the table of cells -/
structure Cl where
  kind : Int
  view : Bool
  base : Nat
  frm : Int
  len : Int
def Cl.cells (c : Cl) : List Value := [.int .i64 c.kind, .bool c.view, .int .u64 c.base, .int .i64 c.frm, .int .i64 c.len]
def Hc.cl : Hc → Cl
  | .num _ => ⟨2, false, 0, 0, 0⟩
  | .text _ => ⟨4, false, 0, 0, 0⟩
  | .buf k _ => ⟨k, false, 0, 0, 0⟩
  | .view k b p n => ⟨k, true, b, p, n⟩
  | .row _ => ⟨9, false, 0, 0, 0⟩
def clO : Option Hc → Cl
  | none => ⟨0, false, 0, 0, 0⟩
  | some c => c.cl
/-- bytes of an element -/
def elB (k : Int) : Nat := if k = 5 then 8 else if k = 6 then 4 else if k = 7 then 2 else if k = 8 then 1 else 0
/-- shapes -/
def shp (k : Int) (v : Bool) : Int := if elB k > 0 then (if v = true then 4 else 3) else if v = true then 0 else if k = 2 then 1 else if k = 4 then 2 else if k = 9 then 5 else 0
def Hc.ok : Hc → Prop
  | .num i => -9223372036854775808 ≤ i ∧ i < 9223372036854775808
  | .text b => (∀ x ∈ b, x < 256) ∧ b.length ≤ 8388608
  | .buf k b => elB k > 0 ∧ (∀ x ∈ b, x < 256) ∧ b.length ≤ 8388608
  | .view k base p n => elB k > 0 ∧ base < 18446744073709551616 ∧ p ≤ 8388608 ∧ n ≤ 8388608
  | .row ws => (∀ x ∈ ws, x < 18446744073709551616) ∧ ws.length ≤ 1048576
def Hc.need (c : Hc) : Nat := 1 + (c.bytes.length + 7) / 8
def needO : Option Hc → Nat
  | none => 0
  | some c => c.need
/-- what all need -/
def sumH (H : List (Option Hc)) : Nat := (H.map needO).foldr (· + ·) 0
/-- what the extents hold -/
def hA (H : List (Option Hc)) : List (Option (List Nat)) := H.map (Option.map Hc.bytes)
/-- which cell a word is of -/
def hit (H : List (Option Hc)) (w : Nat) : Option Nat := if cls w = 6 ∧ ((H[w % 281474976710656]?).getD none).isSome = true then some (w % 281474976710656) else none
def Hc.succ : Hc → List Nat
  | .row ws => ws
  | .view _ b _ _ => [b]
  | _ => []
/-- what is reached -/
inductive Rch (H : List (Option Hc)) (ws : List Nat) : Nat → Prop
  | root (w i : Nat) : w ∈ ws → hit H w = some i → Rch H ws i
  | step (j i w : Nat) (c : Hc) : Rch H ws j → H[j]? = some (some c) → w ∈ c.succ → hit H w = some i → Rch H ws i
theorem hA_len (H : List (Option Hc)) : (hA H).length = H.length := by simp [hA]
theorem hA_get (H : List (Option Hc)) (i : Nat) : (hA H)[i]? = (H[i]?).map (Option.map Hc.bytes) := by simp [hA]
theorem hA_some {H : List (Option Hc)} {i : Nat} {c : Hc} (h : H[i]? = some (some c)) : (hA H)[i]? = some (some c.bytes) := by rw [hA_get, h]; rfl
theorem hA_set (H : List (Option Hc)) (i : Nat) (c : Option Hc) : (hA H).set i (c.map Hc.bytes) = hA (H.set i c) := by
  unfold hA; rw [List.map_set]
theorem hA_snoc (H : List (Option Hc)) (c : Option Hc) : hA (H ++ [c]) = hA H ++ [c.map Hc.bytes] := by simp [hA]
theorem le8_len (x : Nat) : (le8 x).length = 8 := by simp [le8]
theorem row_len (ws : List Nat) : (ws.flatMap le8).length = 8 * ws.length := by
  induction ws with
  | nil => rfl
  | cons w ws ih => rw [List.flatMap_cons, List.length_append, ih, le8_len, List.length_cons]; omega
theorem leN_le8 (x : Nat) (h : x < 18446744073709551616) : leN (le8 x) = x := by
  have e : le8 x = [x % 256, x / 256 % 256, x / 65536 % 256, x / 16777216 % 256, x / 4294967296 % 256, x / 1099511627776 % 256, x / 281474976710656 % 256, x / 72057594037927936 % 256] := by
    unfold le8; simp [List.range_succ]
  rw [e]
  simp only [leN]
  omega
theorem row_seg (ws : List Nat) (i w : Nat) (h : ws[i]? = some w) : seg (ws.flatMap le8) (8 * i) 8 = le8 w := by
  induction ws generalizing i with
  | nil => simp at h
  | cons a ws ih =>
    cases i with
    | zero =>
      simp at h; subst h
      unfold seg
      rw [List.flatMap_cons, Nat.mul_zero, List.drop_zero, List.take_append_of_le_length (by rw [le8_len]; omega), List.take_of_length_le (by rw [le8_len]; omega)]
    | succ i =>
      simp at h
      have := ih i h
      unfold seg at *
      rw [List.flatMap_cons, List.drop_append, le8_len, List.drop_of_length_le (by rw [le8_len]; omega), List.nil_append]
      have e : 8 * (i + 1) - 8 = 8 * i := by omega
      rw [e]; exact this
theorem row_load (ws : List Nat) (i w : Nat) (h : ws[i]? = some w) (hw : w < 18446744073709551616) : leN (seg (ws.flatMap le8) (8 * i) 8) = w := by
  rw [row_seg ws i w h, leN_le8 w hw]
theorem elB_cases (k : Int) : (elB k = 8 ∧ k = 5) ∨ (elB k = 4 ∧ k = 6) ∨ (elB k = 2 ∧ k = 7) ∨ (elB k = 1 ∧ k = 8) ∨ (elB k = 0 ∧ k ≠ 5 ∧ k ≠ 6 ∧ k ≠ 7 ∧ k ≠ 8) := by
  unfold elB
  by_cases h5 : k = 5
  · subst h5; exact .inl ⟨rfl, rfl⟩
  by_cases h6 : k = 6
  · subst h6; exact .inr (.inl ⟨rfl, rfl⟩)
  by_cases h7 : k = 7
  · subst h7; exact .inr (.inr (.inl ⟨rfl, rfl⟩))
  by_cases h8 : k = 8
  · subst h8; exact .inr (.inr (.inr (.inl ⟨rfl, rfl⟩)))
  exact .inr (.inr (.inr (.inr ⟨by simp [h5, h6, h7, h8], h5, h6, h7, h8⟩)))
theorem Hc.kind_ne {c : Hc} (h : c.ok) : c.cl.kind ≠ 0 := by
  cases c with
  | num i => exact (by decide : (2 : Int) ≠ 0)
  | text b => exact (by decide : (4 : Int) ≠ 0)
  | buf k b => intro e; have := h.1; have e' : k = 0 := e; rw [e'] at this; simp [elB] at this
  | view k b p n => intro e; have := h.1; have e' : k = 0 := e; rw [e'] at this; simp [elB] at this
  | row ws => exact (by decide : (9 : Int) ≠ 0)
def Hc.sh : Hc → Int
  | .num _ => 1
  | .text _ => 2
  | .buf _ _ => 3
  | .view _ _ _ _ => 4
  | .row _ => 5
theorem shp_eq {c : Hc} (h : c.ok) : shp c.cl.kind c.cl.view = c.sh := by
  cases c with
  | num i => show shp 2 false = 1; decide
  | text b => show shp 4 false = 2; decide
  | buf k b =>
    have := h.1
    show shp k false = 3
    unfold shp
    rw [if_pos this, if_neg (by decide)]
  | view k b p n =>
    have := h.1
    show shp k true = 4
    unfold shp
    rw [if_pos this, if_pos rfl]
  | row ws => show shp 9 false = 5; decide
theorem Hc.bytes_len {c : Hc} (h : c.ok) : c.bytes.length ≤ 8388608 := by
  cases c with
  | num i => show (le8 _).length ≤ _; rw [le8_len]; omega
  | text b => exact h.2
  | buf k b => exact h.2.2
  | view k b p n => exact Nat.zero_le _
  | row ws => show (ws.flatMap le8).length ≤ _; rw [row_len]; have := h.2; omega
theorem sumH_cons (x : Option Hc) (H : List (Option Hc)) : sumH (x :: H) = needO x + sumH H := rfl
theorem sumH_snoc (H : List (Option Hc)) (x : Option Hc) : sumH (H ++ [x]) = sumH H + needO x := by
  induction H with
  | nil => simp [sumH]
  | cons a H ih => rw [List.cons_append, sumH_cons, sumH_cons, ih]; omega
theorem sumH_set (H : List (Option Hc)) (i : Nat) (x : Option Hc) (h : i < H.length) : sumH (H.set i x) + needO H[i] = sumH H + needO x := by
  induction H generalizing i with
  | nil => exact absurd h (by simp)
  | cons a H ih =>
    cases i with
    | zero => simp only [List.set_cons_zero, sumH_cons, List.getElem_cons_zero]; omega
    | succ i =>
      have := ih i (by simpa using h)
      simp only [List.set_cons_succ, sumH_cons, List.getElem_cons_succ]; omega
theorem need_up8 (c : Hc) : up8N c.bytes.length + 8 = 8 * c.need := by unfold up8N Hc.need; omega
theorem sumA_sumH (H : List (Option Hc)) : sumA (hA H) ≤ 8 * sumH H := by
  induction H with
  | nil => exact Nat.le_refl _
  | cons a H ih =>
    show lenA (a.map Hc.bytes) + sumA (hA H) ≤ 8 * (needO a + sumH H)
    cases a with
    | none => show 0 + _ ≤ 8 * (0 + _); omega
    | some c =>
      show up8N c.bytes.length + _ ≤ 8 * (c.need + _)
      have := need_up8 c
      omega
end Go.Proofs.YtndkfjoaiinjoaaGreat.W
/- StoreFills: what its store holds, in plain words. -/
namespace Go.Proofs.YtndkfjoaiinjoaaGreat.W
set_option linter.unusedVariables false
end Go.Proofs.YtndkfjoaiinjoaaGreat.W
/- Package store: extents that are taken one behind the other, from an empty store on. -/
namespace Go.Proofs.YtndkfjoaiinjoaaGreat.W
open Go.ChangeShapes Go.WideShapes Go.RowKit Go.Shelf
set_option linter.unusedVariables false

end Go.Proofs.YtndkfjoaiinjoaaGreat.W
/- Package store: the statements' awake. -/
namespace Go.Proofs.YtndkfjoaiinjoaaGreat.W
open Go.ChangeShapes Go.WideShapes Go.RowKit Go.Shelf
set_option linter.unusedVariables false
theorem Lay.below {W W' : World} {sb : Nat} {vr vb vf : Value} {s : Sto} (h : Lay W sb vr vb vf s) (hB : Below W.heap.size W W') : Lay W' sb vr vb vf s := by
  obtain ⟨l0, l1, l2, l3⟩ := lay_lt h
  exact h.kept (hB.block _ l0) (fun k e => hB.block _ (l1 k e)) (fun k e => hB.block _ (l2 k e)) (fun k e => hB.block _ (l3 k e))
end Go.Proofs.YtndkfjoaiinjoaaGreat.W
