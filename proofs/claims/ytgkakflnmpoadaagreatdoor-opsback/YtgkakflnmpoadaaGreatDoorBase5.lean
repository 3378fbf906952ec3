import Derived.Test.YtgkakflnmpoadaaGreatDoorBase4
import Derived.Test.YtgkakflnmpoadaaGreatDoorBase3
import Derived.Test.YtgkakflnmpoadaaGreatDoorBase0
import Derived.Deep.RegionWith
import Derived.Test.YtgkakflnmpoadaaGreatDoorBase1
import Derived.Deep.RegionHeld3
/- Package store: New and Save over what all Ids hold. -/
namespace Go.Proofs.YtgkakflnmpoadaaGreatDoor.W
open Go.ChangeShapes Go.WideShapes Go.RowKit Go.Shelf
set_option linter.unusedVariables false
theorem seg_saved_in (row : List Nat) (p l o v w : Nat) (h : o + w ≤ l) (hr : p + l ≤ row.length) : seg (saved row (p + o) v w) p l = saved (seg row p l) o v w := by
  apply List.ext_getElem?
  intro i
  have hl := seg_len row p l hr
  by_cases hi : i < l
  · rw [seg_get _ _ _ _ hi, saved_get _ _ _ _ _ (by omega), saved_get _ _ _ _ _ (by omega), seg_get _ _ _ _ hi]
    by_cases c : o ≤ i ∧ i < o + w
    · rw [if_pos (by omega), if_pos c, show p + i - (p + o) = i - o by omega]
    · rw [if_neg (by omega), if_neg c]
  · rw [List.getElem?_eq_none (by simp [seg]; omega), List.getElem?_eq_none (by rw [saved_len]; omega)]
theorem seg_saved_out (row : List Nat) (q v w a n : Nat) (hr : q + w ≤ row.length) (ho : a + n ≤ q ∨ q + w ≤ a) : seg (saved row q v w) a n = seg row a n :=
  seg_ext (fun i hi => by rw [saved_get _ _ _ _ _ hr, if_neg (by omega)])
theorem saved_byte (row : List Nat) (p v k : Nat) (h : ∀ x ∈ row, x < 256) : ∀ x ∈ saved row p v k, x < 256 := by
  induction k with
  | zero => exact h
  | succ k ih =>
    intro x hx
    rcases List.mem_or_eq_of_mem_set hx with g | g
    · exact ih x g
    · rw [g]; exact Nat.mod_lt _ (by omega)
section
variable {W : World} {sb : Nat} {S : Nat → Prop} {A : List (Option (List Nat))} {U N : Nat}
theorem save_st (h : St W S sb A U N) (id : Nat) (x : List Nat) (hx : A[id]? = some (some x)) (o wd v : Nat) (hv : v < 18446744073709551616) (hw : wd = 1 ∨ wd = 2 ∨ wd = 4 ∨ wd = 8) (ha : o % wd = 0) (ho : o + wd ≤ x.length) : Calls Tryz.prog 216 #[.pointer (some ⟨sb, 0, none⟩), .int .i64 id, .int .i64 o, .int .i64 wd, .int .u64 v] W fun e w' => e = .returned (.int .i64 0) ∧ Upd S W w' ∧ St w' S sb (A.set id (some (saved x o v wd))) U N := by
  obtain ⟨s, E, vr, vb, vf, hL, hO, f⟩ := h
  have hidA := (List.getElem?_eq_some_iff.1 hx).1
  have hAx : A[id] = some x := (List.getElem?_eq_some_iff.1 hx).2
  have hheld : held s id = some x := by rw [f.all.2, hx]; rfl
  obtain ⟨b, hb, hlv, hxs⟩ := held_some hheld
  obtain ⟨p, l, hp, hl, hin⟩ := fine_in f.good hb hlv
  have hxl : x = seg s.row p l := by rw [hxs, hp, hl, Int.toNat_natCast, Int.toNat_natCast]
  have hxl2 : x.length = l := by rw [hxl]; exact seg_len _ _ _ hin
  have hsA := sumA_set A id (some (saved x o v wd)) hidA
  rw [hAx] at hsA
  have e1 : lenA (some (saved x o v wd)) = lenA (some x) := by show up8N _ = up8N _; rw [saved_len]
  rw [e1] at hsA
  have hsum : sumA (A.set id (some (saved x o v wd))) = sumA A := by omega
  refine (save_ok hL f.fit id wd v hv b (ext_of hb hlv) hw o p hp (by omega) (by omega) (by omega) hO).mono ?_
  rintro e w' ⟨rfl, hL', hU'⟩
  refine ⟨rfl, hU', _, E, vr, vb, vf, hL', hO, ?_, ⟨?_, ?_⟩, by rw [hsum]; exact f.sum, f.lens, ?_, by rw [hsum]; exact f.top, by rw [List.length_set]; exact f.num, f.u9, f.n9⟩
  · have g := f.good
    exact ⟨g.nodup, by show Lies E (saved _ _ _ _).length; rw [saved_len]; exact g.lies, g.get, saved_byte _ _ _ _ g.byte, g.hand, g.zero, g.heap, g.nodupF, g.free, g.used, by show (saved _ _ _ _).length % 8 = 0; rw [saved_len]; exact g.row8⟩
  · rw [List.length_set]; exact f.all.1
  · intro i
    by_cases c : i = id
    · rw [c, List.getElem?_set_self hidA]
      unfold held
      show (match s.blks[id]? with | some b => if b.live = true then some (seg (saved s.row (p + o) v wd) b.pos.toNat b.len.toNat) else none | none => none) = some (saved x o v wd)
      rw [hb]
      simp only [hlv, if_true, hp, hl, Int.toNat_natCast]
      rw [seg_saved_in _ _ _ _ _ _ (by omega) hin, ← hxl]
    · rw [List.getElem?_set_ne (by omega), ← f.all.2 i]
      refine held_get i rfl ?_
      intro b' hb' hlv'
      rw [get_blks] at hb'
      show seg (saved s.row (p + o) v wd) _ _ = _
      rcases fine_at f.good hb' hlv' with ⟨k', hk', hki', rfl⟩ | ⟨_, rfl⟩
      · rcases fine_at f.good hb hlv with ⟨k, hk, hki, rfl⟩ | ⟨_, rfl⟩
        · have hp' : (rg E (k + 1)).p = p := Int.ofNat_inj.1 hp
          have hl' : (rg E (k + 1)).l = l := Int.ofNat_inj.1 hl
          have hne : k ≠ k' := by rintro rfl; omega
          show seg _ (rg E (k' + 1)).p (rg E (k' + 1)).l = seg _ (rg E (k' + 1)).p (rg E (k' + 1)).l
          refine seg_saved_out _ _ _ _ _ _ (by omega) ?_
          have u1 := up8N_ge (rg E (k + 1)).l
          have u2 := up8N_ge (rg E (k' + 1)).l
          rcases Nat.lt_or_gt_of_ne hne with c | c
          · have := rg_lt f.good.lies (i := k + 1) (j := k' + 1) (by omega) hk'
            unfold Ex.stop at this
            right; omega
          · have := rg_lt f.good.lies (i := k' + 1) (j := k + 1) (by omega) hk
            unfold Ex.stop at this
            left; omega
        · have : l = 0 := Int.ofNat_inj.1 hl.symm
          omega
      · rfl
  · show (saved _ _ _ _).length ≤ _
    rw [saved_len]; exact f.row
theorem new_st (W : World) (U N : Nat) (hU : U ≤ 100000000000) (hN : N ≤ 100000000) : Calls Tryz.prog 10 #[] W fun e w' => e = .returned (.pointer (some ⟨W.heap.size, 0, none⟩)) ∧ St w' (fun k => k = W.heap.size) W.heap.size [] U N ∧ Below W.heap.size W w' ∧ w'.heap.size = W.heap.size + 1 := by
  refine (new_c W).mono ?_
  rintro e w' ⟨rfl, hL, hB, hz⟩
  refine ⟨rfl, ⟨emptySto, [], _, _, _, hL, ?_, ?_⟩, hB, hz⟩
  · exact ⟨rfl, by simp [Value.ownBlock], by simp [Value.ownBlock], by simp [Value.ownBlock]⟩
  · refine ⟨⟨?_, ?_, ?_, ?_, ?_, ?_, ?_, ?_, ?_, rfl, rfl⟩, ⟨rfl, fun i => by simp [held, emptySto]⟩, rfl, ?_, ?_, Nat.zero_le _, Nat.zero_le _, hU, hN⟩
    · simp [ring]
    · refine ⟨?_, ?_, ?_⟩
      · intro i e f' he hf
        simp [ring] at hf
      · intro e he; cases he
      · intro e he
        simp [ring] at he
        rw [he]; exact Nat.le_refl _
    · intro i e he
      cases i with
      | zero => simp [ring] at he; subst he; rfl
      | succ i => simp [ring] at he
    · intro x hx; cases hx
    · exact ⟨front, List.mem_cons_self .., rfl⟩
    · intro id b hb; simp [emptySto] at hb
    · intro k h0 hk; exact absurd hk (by simp [emptySto])
    · exact List.nodup_nil
    · intro x; simp [emptySto]
    · intro e he; cases he
    · show 0 ≤ _; omega
end
end Go.Proofs.YtgkakflnmpoadaaGreatDoor.W
/- Package store: Len, Load, Save and their errors, Span behind Pack, over what all Ids hold. -/
namespace Go.Proofs.YtgkakflnmpoadaaGreatDoor.W
open Go.ChangeShapes Go.WideShapes Go.RowKit Go.Shelf
set_option linter.unusedVariables false
section
variable {W : World} {sb : Nat} {S : Nat → Prop} {A : List (Option (List Nat))} {U N : Nat}
theorem len_st (h : St W S sb A U N) (id : Nat) (x : List Nat) (hx : A[id]? = some (some x)) : Calls Tryz.prog 171 #[.pointer (some ⟨sb, 0, none⟩), .int .i64 id] W fun e w' => e = .returned (.tuple #[.int .i64 x.length, .int .i64 0]) ∧ w' = W := by
  obtain ⟨s, E, vr, vb, vf, hL, hO, f⟩ := h
  have hheld : held s id = some x := by rw [f.all.2, hx]; rfl
  obtain ⟨b, hb, hlv, hxs⟩ := held_some hheld
  obtain ⟨p, l, hp, hl, hin⟩ := fine_in f.good hb hlv
  have hxl : x.length = l := by rw [hxs, hp, hl, Int.toNat_natCast, Int.toNat_natCast]; exact seg_len _ _ _ hin
  have := len_some hL f.fit.len id b (ext_of hb hlv)
  rw [hl] at this
  rw [hxl]
  exact this
/-- packed: the row has no byte too many -/
def StT (W : World) (S : Nat → Prop) (sb : Nat) (A : List (Option (List Nat))) (U N : Nat) : Prop := ∃ s E vr vb vf, Lay W sb vr vb vf s ∧ Own S sb vr vb vf ∧ Fine s E A U N ∧ s.row.length = sumA A
theorem StT.st (h : StT W S sb A U N) : St W S sb A U N := by
  obtain ⟨s, E, vr, vb, vf, hL, hO, f, _⟩ := h
  exact ⟨s, E, vr, vb, vf, hL, hO, f⟩
end
end Go.Proofs.YtgkakflnmpoadaaGreatDoor.W
/- The heap of chapter 6 in plain words: cells by handle, their bytes, what they need, what is reached. -/
namespace Go.Proofs.YtgkakflnmpoadaaGreatDoor.W
set_option linter.unusedVariables false
/-- a cell -/
inductive Hc where
  | num (i : Int)
  | text (b : List Nat)
  | buf (k : Int) (b : List Nat)
  | view (k : Int) (base : Nat) (p n : Nat)
  | row (ws : List Nat)
/-- a word's bytes, the lowest first -/
def le8 (x : Nat) : List Nat := (List.range 8).map (fun i => x / 256 ^ i % 256)
def Hc.bytes : Hc → List Nat
  | .num i => le8 (i % 18446744073709551616).toNat
  | .text b => b
  | .buf _ b => b
  | .view _ _ _ _ => []
  | .row ws => ws.flatMap le8
/-- what stands in the table of cells -/
structure Cl where
  kind : Int
  view : Bool
  base : Nat
  frm : Int
  len : Int
def Cl.cells (c : Cl) : List Value := [.int .i64 c.kind, .bool c.view, .int .u64 c.base, .int .i64 c.frm, .int .i64 c.len]
def Hc.cl : Hc → Cl
  | .num _ => ⟨2, false, 0, 0, 0⟩
  | .text _ => ⟨4, false, 0, 0, 0⟩
  | .buf k _ => ⟨k, false, 0, 0, 0⟩
  | .view k b p n => ⟨k, true, b, p, n⟩
  | .row _ => ⟨9, false, 0, 0, 0⟩
def clO : Option Hc → Cl
  | none => ⟨0, false, 0, 0, 0⟩
  | some c => c.cl
/-- bytes of an element -/
def elB (k : Int) : Nat := if k = 5 then 8 else if k = 6 then 4 else if k = 7 then 2 else if k = 8 then 1 else 0
/-- shapes -/
def shp (k : Int) (v : Bool) : Int := if elB k > 0 then (if v = true then 4 else 3) else if v = true then 0 else if k = 2 then 1 else if k = 4 then 2 else if k = 9 then 5 else 0
def Hc.ok : Hc → Prop
  | .num i => -9223372036854775808 ≤ i ∧ i < 9223372036854775808
  | .text b => (∀ x ∈ b, x < 256) ∧ b.length ≤ 8388608
  | .buf k b => elB k > 0 ∧ (∀ x ∈ b, x < 256) ∧ b.length ≤ 8388608
  | .view k base p n => elB k > 0 ∧ base < 18446744073709551616 ∧ p ≤ 8388608 ∧ n ≤ 8388608
  | .row ws => (∀ x ∈ ws, x < 18446744073709551616) ∧ ws.length ≤ 1048576
def Hc.need (c : Hc) : Nat := 1 + (c.bytes.length + 7) / 8
def needO : Option Hc → Nat
  | none => 0
  | some c => c.need
/-- what all need -/
def sumH (H : List (Option Hc)) : Nat := (H.map needO).foldr (· + ·) 0
/-- what the extents hold -/
def hA (H : List (Option Hc)) : List (Option (List Nat)) := H.map (Option.map Hc.bytes)
/-- which cell a word is of -/
def hit (H : List (Option Hc)) (w : Nat) : Option Nat := if cls w = 6 ∧ ((H[w % 281474976710656]?).getD none).isSome = true then some (w % 281474976710656) else none
def Hc.succ : Hc → List Nat
  | .row ws => ws
  | .view _ b _ _ => [b]
  | _ => []
/-- what is reached -/
inductive Rch (H : List (Option Hc)) (ws : List Nat) : Nat → Prop
  | root (w i : Nat) : w ∈ ws → hit H w = some i → Rch H ws i
  | step (j i w : Nat) (c : Hc) : Rch H ws j → H[j]? = some (some c) → w ∈ c.succ → hit H w = some i → Rch H ws i
theorem hA_len (H : List (Option Hc)) : (hA H).length = H.length := by simp [hA]
theorem hA_get (H : List (Option Hc)) (i : Nat) : (hA H)[i]? = (H[i]?).map (Option.map Hc.bytes) := by simp [hA]
theorem hA_some {H : List (Option Hc)} {i : Nat} {c : Hc} (h : H[i]? = some (some c)) : (hA H)[i]? = some (some c.bytes) := by rw [hA_get, h]; rfl
theorem hA_set (H : List (Option Hc)) (i : Nat) (c : Option Hc) : (hA H).set i (c.map Hc.bytes) = hA (H.set i c) := by
  unfold hA; rw [List.map_set]
theorem hA_snoc (H : List (Option Hc)) (c : Option Hc) : hA (H ++ [c]) = hA H ++ [c.map Hc.bytes] := by simp [hA]
theorem le8_len (x : Nat) : (le8 x).length = 8 := by simp [le8]
theorem row_len (ws : List Nat) : (ws.flatMap le8).length = 8 * ws.length := by
  induction ws with
  | nil => rfl
  | cons w ws ih => rw [List.flatMap_cons, List.length_append, ih, le8_len, List.length_cons]; omega
theorem leN_le8 (x : Nat) (h : x < 18446744073709551616) : leN (le8 x) = x := by
  have e : le8 x = [x % 256, x / 256 % 256, x / 65536 % 256, x / 16777216 % 256, x / 4294967296 % 256, x / 1099511627776 % 256, x / 281474976710656 % 256, x / 72057594037927936 % 256] := by
    unfold le8; simp [List.range_succ]
  rw [e]
  simp only [leN]
  omega
theorem row_seg (ws : List Nat) (i w : Nat) (h : ws[i]? = some w) : seg (ws.flatMap le8) (8 * i) 8 = le8 w := by
  induction ws generalizing i with
  | nil => simp at h
  | cons a ws ih =>
    cases i with
    | zero =>
      simp at h; subst h
      unfold seg
      rw [List.flatMap_cons, Nat.mul_zero, List.drop_zero, List.take_append_of_le_length (by rw [le8_len]; omega), List.take_of_length_le (by rw [le8_len]; omega)]
    | succ i =>
      simp at h
      have := ih i h
      unfold seg at *
      rw [List.flatMap_cons, List.drop_append, le8_len, List.drop_of_length_le (by rw [le8_len]; omega), List.nil_append]
      have e : 8 * (i + 1) - 8 = 8 * i := by omega
      rw [e]; exact this
theorem row_load (ws : List Nat) (i w : Nat) (h : ws[i]? = some w) (hw : w < 18446744073709551616) : leN (seg (ws.flatMap le8) (8 * i) 8) = w := by
  rw [row_seg ws i w h, leN_le8 w hw]
theorem elB_cases (k : Int) : (elB k = 8 ∧ k = 5) ∨ (elB k = 4 ∧ k = 6) ∨ (elB k = 2 ∧ k = 7) ∨ (elB k = 1 ∧ k = 8) ∨ (elB k = 0 ∧ k ≠ 5 ∧ k ≠ 6 ∧ k ≠ 7 ∧ k ≠ 8) := by
  unfold elB
  by_cases h5 : k = 5
  · subst h5; exact .inl ⟨rfl, rfl⟩
  by_cases h6 : k = 6
  · subst h6; exact .inr (.inl ⟨rfl, rfl⟩)
  by_cases h7 : k = 7
  · subst h7; exact .inr (.inr (.inl ⟨rfl, rfl⟩))
  by_cases h8 : k = 8
  · subst h8; exact .inr (.inr (.inr (.inl ⟨rfl, rfl⟩)))
  exact .inr (.inr (.inr (.inr ⟨by simp [h5, h6, h7, h8], h5, h6, h7, h8⟩)))
theorem Hc.kind_ne {c : Hc} (h : c.ok) : c.cl.kind ≠ 0 := by
  cases c with
  | num i => exact (by decide : (2 : Int) ≠ 0)
  | text b => exact (by decide : (4 : Int) ≠ 0)
  | buf k b => intro e; have := h.1; have e' : k = 0 := e; rw [e'] at this; simp [elB] at this
  | view k b p n => intro e; have := h.1; have e' : k = 0 := e; rw [e'] at this; simp [elB] at this
  | row ws => exact (by decide : (9 : Int) ≠ 0)
def Hc.sh : Hc → Int
  | .num _ => 1
  | .text _ => 2
  | .buf _ _ => 3
  | .view _ _ _ _ => 4
  | .row _ => 5
theorem shp_eq {c : Hc} (h : c.ok) : shp c.cl.kind c.cl.view = c.sh := by
  cases c with
  | num i => show shp 2 false = 1; decide
  | text b => show shp 4 false = 2; decide
  | buf k b =>
    have := h.1
    show shp k false = 3
    unfold shp
    rw [if_pos this, if_neg (by decide)]
  | view k b p n =>
    have := h.1
    show shp k true = 4
    unfold shp
    rw [if_pos this, if_pos rfl]
  | row ws => show shp 9 false = 5; decide
theorem Hc.bytes_len {c : Hc} (h : c.ok) : c.bytes.length ≤ 8388608 := by
  cases c with
  | num i => show (le8 _).length ≤ _; rw [le8_len]; omega
  | text b => exact h.2
  | buf k b => exact h.2.2
  | view k b p n => exact Nat.zero_le _
  | row ws => show (ws.flatMap le8).length ≤ _; rw [row_len]; have := h.2; omega
theorem sumH_cons (x : Option Hc) (H : List (Option Hc)) : sumH (x :: H) = needO x + sumH H := rfl
theorem sumH_snoc (H : List (Option Hc)) (x : Option Hc) : sumH (H ++ [x]) = sumH H + needO x := by
  induction H with
  | nil => simp [sumH]
  | cons a H ih => rw [List.cons_append, sumH_cons, sumH_cons, ih]; omega
theorem sumH_set (H : List (Option Hc)) (i : Nat) (x : Option Hc) (h : i < H.length) : sumH (H.set i x) + needO H[i] = sumH H + needO x := by
  induction H generalizing i with
  | nil => exact absurd h (by simp)
  | cons a H ih =>
    cases i with
    | zero => simp only [List.set_cons_zero, sumH_cons, List.getElem_cons_zero]; omega
    | succ i =>
      have := ih i (by simpa using h)
      simp only [List.set_cons_succ, sumH_cons, List.getElem_cons_succ]; omega
theorem need_up8 (c : Hc) : up8N c.bytes.length + 8 = 8 * c.need := by unfold up8N Hc.need; omega
theorem sumA_sumH (H : List (Option Hc)) : sumA (hA H) ≤ 8 * sumH H := by
  induction H with
  | nil => exact Nat.le_refl _
  | cons a H ih =>
    show lenA (a.map Hc.bytes) + sumA (hA H) ≤ 8 * (needO a + sumH H)
    cases a with
    | none => show 0 + _ ≤ 8 * (0 + _); omega
    | some c =>
      show up8N c.bytes.length + _ ≤ 8 * (c.need + _)
      have := need_up8 c
      omega
end Go.Proofs.YtgkakflnmpoadaaGreatDoor.W
/- StoreFills: what its store holds, in plain words. -/
namespace Go.Proofs.YtgkakflnmpoadaaGreatDoor.W
set_option linter.unusedVariables false
end Go.Proofs.YtgkakflnmpoadaaGreatDoor.W
/- Package store: extents that are taken one behind the other, from an empty store on. -/
namespace Go.Proofs.YtgkakflnmpoadaaGreatDoor.W
open Go.ChangeShapes Go.WideShapes Go.RowKit Go.Shelf
set_option linter.unusedVariables false

end Go.Proofs.YtgkakflnmpoadaaGreatDoor.W
/- Package store: the statements' awake. -/
namespace Go.Proofs.YtgkakflnmpoadaaGreatDoor.W
open Go.ChangeShapes Go.WideShapes Go.RowKit Go.Shelf
set_option linter.unusedVariables false
theorem Lay.below {W W' : World} {sb : Nat} {vr vb vf : Value} {s : Sto} (h : Lay W sb vr vb vf s) (hB : Below W.heap.size W W') : Lay W' sb vr vb vf s := by
  obtain ⟨l0, l1, l2, l3⟩ := lay_lt h
  exact h.kept (hB.block _ l0) (fun k e => hB.block _ (l1 k e)) (fun k e => hB.block _ (l2 k e)) (fun k e => hB.block _ (l3 k e))
end Go.Proofs.YtgkakflnmpoadaaGreatDoor.W
/- StoreFills: rows that came in, rows of one's own beside a store. -/
namespace Go.Proofs.YtgkakflnmpoadaaGreatDoor.W
open Go.ChangeShapes Go.WideShapes Go.RowKit Go.Shelf
set_option linter.unusedVariables false
section
variable {W W' : World} {sb : Nat} {S : Nat → Prop} {A : List (Option (List Nat))} {U N : Nat}
/-- blocks of the store being as they were, it lies as it lay -/
theorem St.on (h : St W S sb A U N) (hk : ∀ k, S k → W'.heap[k]? = W.heap[k]?) : St W' S sb A U N := by
  obtain ⟨s, E, vr, vb, vf, hL, hO, f⟩ := h
  exact ⟨s, E, vr, vb, vf, hL.kept (hk _ hO.sb) (fun k e => hk k (hO.row k e)) (fun k e => hk k (hO.blk k e)) (fun k e => hk k (hO.free k e)), hO, f⟩
theorem St.mono {T : Nat → Prop} (h : St W S sb A U N) (hk : ∀ k, S k → T k) : St W T sb A U N := by
  obtain ⟨s, E, vr, vb, vf, hL, hO, f⟩ := h
  exact ⟨s, E, vr, vb, vf, hL, hO.mono hk, f⟩
theorem St.below (h : St W S sb A U N) (hb : Below W.heap.size W W') (hS : ∀ k, S k → k < W.heap.size) : St W' S sb A U N := h.on (fun k hk => hb.block k (hS k hk))
theorem owns_on {b : Nat} {e : TypeId} {size : Nat} {v : Value} {n : Nat} {xs : List Value} (ho : W.ownsRow b e size v n xs) (hk : ∀ k, v.ownBlock = some k → W'.heap[k]? = W.heap[k]?) : W'.ownsRow b e size v n xs := by
  refine ⟨ho.1, ?_⟩
  rcases ho.2 with hn | ⟨g, cap, cur, rfl, hb, hgg, rest⟩
  · exact .inl hn
  · exact .inr ⟨g, cap, cur, rfl, hb, (hk g rfl).trans hgg, rest⟩
/-- a store, and a row of one's own beside it; all behind B -/
structure Both (B : Nat) (W : World) (sb : Nat) (A : List (Option (List Nat))) (v : Value) (n : Nat) (xs : List Value) : Prop where
  ex : ∃ S, St W S sb A 20000 61 ∧ (∀ k, S k → B ≤ k ∧ k < W.heap.size) ∧ (∀ k, v.ownBlock = some k → ¬ S k)
  own : W.ownsRow B 3 1 v n xs
variable {B : Nat} {v : Value} {n : Nat} {xs : List Value}
theorem Both.below (h : Both B W sb A v n xs) (hb : Below W.heap.size W W') : Both B W' sb A v n xs := by
  obtain ⟨S, h1, h2, h3⟩ := h.ex
  have hs := hb.size
  refine ⟨⟨S, h1.below hb (fun k hk => (h2 k hk).2), fun k hk => ⟨(h2 k hk).1, by have := (h2 k hk).2; omega⟩, h3⟩, owns_on h.own (fun k hk => hb.block k ?_)⟩
  exact (h.own.lt k hk).2
theorem Both.upd {A' : List (Option (List Nat))} {S : Nat → Prop} (h2 : ∀ k, S k → B ≤ k ∧ k < W.heap.size) (h3 : ∀ k, v.ownBlock = some k → ¬ S k) (ho : W.ownsRow B 3 1 v n xs) (hB : B ≤ W.heap.size) (hU : Upd S W W') (h1 : St W' (Nx S W W') sb A' 20000 61) : Both B W' sb A' v n xs ∧ Below B W W' := by
  have hs := hU.size
  refine ⟨⟨⟨Nx S W W', h1, ?_, ?_⟩, owns_on ho (fun k hk => hU.block k (ho.lt k hk).2 (h3 k hk))⟩, hU.below hB (fun k hk => (h2 k hk).1)⟩
  · rintro k (hk | hk)
    · exact ⟨(h2 k hk).1, by have := (h2 k hk).2; omega⟩
    · exact ⟨by omega, hk.2⟩
  · rintro k hk (hk2 | hk2)
    · exact h3 k hk hk2
    · have := (ho.lt k hk).2; omega
end
section
variable {W : World} {sb : Nat} {A : List (Option (List Nat))} {B : Nat} {v : Value} {n : Nat} {xs : List Value}
end
end Go.Proofs.YtgkakflnmpoadaaGreatDoor.W
/- Contracts of the class functions of package word and of its reference: each returns the class 'cls' of every pattern. -/
namespace Go.Proofs.YtgkakflnmpoadaaGreatDoor.W
open Go.ChangeShapes Go.WideShapes Go.RowKit

theorem cls_dbl (n : Int) (h : nanB n = false) : cls n = 1 := by simp [cls, h]
theorem cls_canon : cls 9221120237041090560 = 1 := by decide
theorem cls_low (n : Int) (h : nanB n = true) (hc : ¬ n = 9221120237041090560) (hl : n < 18444492273895866368) : cls n = 7 := by simp [cls, h, hc, hl]
theorem nan_hi (n : Int) (h1 : n < 18446744073709551616) (h : 18444492273895866368 ≤ n) : nanB n = true := by
  unfold nanB; rw [decide_eq_true_eq]; omega
theorem cls_t0 (n : Int) (h1 : n < 18446744073709551616) (h : 18444492273895866368 ≤ n) (ht : n / 281474976710656 % 8 = 0) : cls n = plainCls (n % 281474976710656) := by
  have hn := nan_hi n h1 h
  unfold cls plainCls
  rw [hn]
  simp only [Bool.true_eq_false, false_or]
  repeat' split
  all_goals first | rfl | (exfalso; omega)
theorem cls_t1 (n : Int) (h1 : n < 18446744073709551616) (h : 18444492273895866368 ≤ n) (ht : n / 281474976710656 % 8 = 1) : cls n = 2 := by
  have hn := nan_hi n h1 h
  unfold cls
  rw [hn]
  simp only [Bool.true_eq_false, false_or]
  repeat' split
  all_goals first | rfl | (exfalso; omega)
theorem cls_t2 (n : Int) (h1 : n < 18446744073709551616) (h : 18444492273895866368 ≤ n) (ht : n / 281474976710656 % 8 = 2) : cls n = textCls (n % 281474976710656) := by
  have hn := nan_hi n h1 h
  unfold cls textCls
  rw [hn]
  simp only [Bool.true_eq_false, false_or]
  rw [if_neg (by omega), if_neg (by omega), if_neg (by omega), if_neg (by omega), if_neg (by omega), if_neg (by omega), if_pos (by omega)]
theorem cls_t3 (n : Int) (h1 : n < 18446744073709551616) (h : 18444492273895866368 ≤ n) (ht : n / 281474976710656 % 8 = 3) : cls n = 6 := by
  have hn := nan_hi n h1 h
  unfold cls
  rw [hn]
  simp only [Bool.true_eq_false, false_or]
  repeat' split
  all_goals first | rfl | (exfalso; omega)
theorem cls_t4 (n : Int) (h1 : n < 18446744073709551616) (h : 18444492273895866368 ≤ n) (ht : 4 ≤ n / 281474976710656 % 8) : cls n = 7 := by
  have hn := nan_hi n h1 h
  unfold cls
  rw [hn]
  simp only [Bool.true_eq_false, false_or]
  repeat' split
  all_goals first | rfl | (exfalso; omega)

theorem txtOk_big (l : Int) (h : 5 < l / 1099511627776) : textCls l = 7 := by
  unfold textCls txtOk
  rw [if_neg]
  simp only [decide_eq_true_eq]
  omega
theorem txtOk_room (l k : Int) (hk : k ≤ 5) (hl : l / 1099511627776 = k) :
    textCls l = if (l % 1099511627776 / 2 ^ (8 * k).toNat != 0) = true then 7 else 5 := by
  unfold textCls txtOk
  rw [hl]
  have hm : 0 ≤ l % 1099511627776 := by omega
  generalize l % 1099511627776 = r at *
  have hp : (0 : Int) < 2 ^ (8 * k).toNat := Int.pow_pos (by decide)
  by_cases c : r < 2 ^ (8 * k).toNat
  · rw [Int.ediv_eq_zero_of_lt hm c]
    simp [hk, c]
  · have : r / 2 ^ (8 * k).toNat ≠ 0 := by
      intro e
      have := Int.lt_ediv_add_one_mul_self r hp
      rw [e] at this
      omega
    simp [c, this]

set_option maxHeartbeats 400000 in
theorem classOfText_c (l : Int) (h0 : 0 ≤ l) (h1 : l < 281474976710656) (w : World) :
    Calls Tryz.prog 77 #[.int .u64 l] w fun e w' => e = .returned (.int .i64 (textCls l)) ∧ w' = w := by
  by_cases c : 5 < l / 1099511627776
  · have H := hid (txtOk_big l c)
    go_enter Tryz.func77, Tryz.ntmps77
    go_wp2_with (go_at_call 79; refine (split_c _ (by omega) (by omega) _).mono ?_; rintro e w' ⟨rfl, rfl⟩)
    go_ret
    exact ⟨ret_int H.out.symm, rfl⟩
  · obtain ⟨k, hk⟩ : ∃ k, l / 1099511627776 = k := ⟨_, rfl⟩
    have k0 : 0 ≤ k := by omega
    have k5 : k ≤ 5 := by omega
    have H := hid (txtOk_room l k k5 hk)
    have hm : 0 ≤ l % 1099511627776 := by omega
    go_enter Tryz.func77, Tryz.ntmps77
    go_wp2_with (go_at_call 79; refine (split_c _ (by omega) (by omega) _).mono ?_; rintro e w' ⟨rfl, rfl⟩)
    all_goals go_ret
    · rename_i hx
      exact ⟨ret_int (by rw [H.out, if_pos (by rcases hx with h | h; omega; exact h)]), rfl⟩
    · rename_i hx
      exact ⟨ret_int (by rw [H.out, if_neg (by rw [hx.2]; decide)]), rfl⟩

set_option maxHeartbeats 400000 in
theorem class_c (n : Int) (h0 : 0 ≤ n) (h1 : n < 18446744073709551616) (w : World) :
    Calls Tryz.prog 41 #[.int .u64 n] w fun e w' => e = .returned (.int .i64 (cls n)) ∧ w' = w := by
  by_cases c0 : nanB n = false
  · have H := hid (cls_dbl n c0)
    go_enter Tryz.func41, Tryz.ntmps41
    go_wp2_with (go_at_call 52; refine (isNaN_c _ (by omega) (by omega) _).mono ?_; rintro e w' ⟨rfl, rfl⟩)
    go_ret
    exact ⟨ret_int H.out.symm, rfl⟩
  have c0' : nanB n = true := by simpa using c0
  clear c0
  by_cases c1 : n = 9221120237041090560
  · have H := hid cls_canon
    subst c1
    go_enter Tryz.func41, Tryz.ntmps41
    go_wp2_with (go_at_call 52; refine (isNaN_c _ (by omega) (by omega) _).mono ?_; rintro e w' ⟨rfl, rfl⟩)
    go_ret
    exact ⟨ret_int H.out.symm, rfl⟩
  have d1 : (n == 9221120237041090560) = false := by simpa using c1
  by_cases c2 : n < 18444492273895866368
  · have H := hid (cls_low n c0' c1 c2)
    have d2 : decide (18444492273895866368 ≤ n) = false := by simp; omega
    clear c1
    go_enter Tryz.func41, Tryz.ntmps41
    go_wp2_with (first | (go_at_call 52; refine (isNaN_c _ (by omega) (by omega) _).mono ?_; rintro e w' ⟨rfl, rfl⟩) | (go_at_call 73; refine (isTagged_c _ (by omega) (by omega) _).mono ?_; rintro e w' ⟨rfl, rfl⟩))
    go_ret
    exact ⟨ret_int H.out.symm, rfl⟩
  have c2' : 18444492273895866368 ≤ n := by omega
  have d2 : decide (18444492273895866368 ≤ n) = true := by simp; omega
  clear c1 c2
  obtain ⟨t, ht⟩ : ∃ t, n / 281474976710656 % 8 = t := ⟨_, rfl⟩
  have t0 : 0 ≤ t := by omega
  have t8 : t < 8 := by omega
  have hload : 0 ≤ n % 281474976710656 := by omega
  have hload' : n % 281474976710656 < 281474976710656 := by omega
  by_cases e0 : t = 0
  · subst e0
    have H := hid (cls_t0 n h1 c2' ht)
    go_enter Tryz.func41, Tryz.ntmps41
    go_wp2_with (first | (go_at_call 52; refine (isNaN_c _ (by omega) (by omega) _).mono ?_; rintro e w' ⟨rfl, rfl⟩) | (go_at_call 73; refine (isTagged_c _ (by omega) (by omega) _).mono ?_; rintro e w' ⟨rfl, rfl⟩) | (go_at_call 74; refine (tagOf_c _ (by omega) (by omega) _).mono ?_; rintro e w' ⟨rfl, rfl⟩) | (go_at_call 76; refine (loadOf_c _ (by omega) (by omega) _).mono ?_; rintro e w' ⟨rfl, rfl⟩) | (go_at_call 75; refine (plain_c _ _).mono ?_; rintro e w' ⟨rfl, rfl⟩))
    go_ret
    exact ⟨ret_int H.out.symm, rfl⟩
  by_cases e1 : t = 1
  · subst e1
    have H := hid (cls_t1 n h1 c2' ht)
    go_enter Tryz.func41, Tryz.ntmps41
    go_wp2_with (first | (go_at_call 52; refine (isNaN_c _ (by omega) (by omega) _).mono ?_; rintro e w' ⟨rfl, rfl⟩) | (go_at_call 73; refine (isTagged_c _ (by omega) (by omega) _).mono ?_; rintro e w' ⟨rfl, rfl⟩) | (go_at_call 74; refine (tagOf_c _ (by omega) (by omega) _).mono ?_; rintro e w' ⟨rfl, rfl⟩))
    go_ret
    exact ⟨ret_int H.out.symm, rfl⟩
  by_cases e2 : t = 2
  · subst e2
    have H := hid (cls_t2 n h1 c2' ht)
    go_enter Tryz.func41, Tryz.ntmps41
    go_wp2_with (first | (go_at_call 52; refine (isNaN_c _ (by omega) (by omega) _).mono ?_; rintro e w' ⟨rfl, rfl⟩) | (go_at_call 73; refine (isTagged_c _ (by omega) (by omega) _).mono ?_; rintro e w' ⟨rfl, rfl⟩) | (go_at_call 74; refine (tagOf_c _ (by omega) (by omega) _).mono ?_; rintro e w' ⟨rfl, rfl⟩) | (go_at_call 76; refine (loadOf_c _ (by omega) (by omega) _).mono ?_; rintro e w' ⟨rfl, rfl⟩) | (go_at_call 77; refine (classOfText_c _ (by omega) (by omega) _).mono ?_; rintro e w' ⟨rfl, rfl⟩))
    go_ret
    exact ⟨ret_int H.out.symm, rfl⟩
  by_cases e3 : t = 3
  · subst e3
    have H := hid (cls_t3 n h1 c2' ht)
    go_enter Tryz.func41, Tryz.ntmps41
    go_wp2_with (first | (go_at_call 52; refine (isNaN_c _ (by omega) (by omega) _).mono ?_; rintro e w' ⟨rfl, rfl⟩) | (go_at_call 73; refine (isTagged_c _ (by omega) (by omega) _).mono ?_; rintro e w' ⟨rfl, rfl⟩) | (go_at_call 74; refine (tagOf_c _ (by omega) (by omega) _).mono ?_; rintro e w' ⟨rfl, rfl⟩))
    go_ret
    exact ⟨ret_int H.out.symm, rfl⟩
  · have H := hid (cls_t4 n h1 c2' (by omega))
    have f0 : (t == 0) = false := by simpa using e0
    have f1 : (t == 1) = false := by simpa using e1
    have f2 : (t == 2) = false := by simpa using e2
    have f3 : (t == 3) = false := by simpa using e3
    clear e0 e1 e2 e3
    go_enter Tryz.func41, Tryz.ntmps41
    go_wp2_with (first | (go_at_call 52; refine (isNaN_c _ (by omega) (by omega) _).mono ?_; rintro e w' ⟨rfl, rfl⟩) | (go_at_call 73; refine (isTagged_c _ (by omega) (by omega) _).mono ?_; rintro e w' ⟨rfl, rfl⟩) | (go_at_call 74; refine (tagOf_c _ (by omega) (by omega) _).mono ?_; rintro e w' ⟨rfl, rfl⟩))
    go_ret
    exact ⟨ret_int H.out.symm, rfl⟩
end Go.Proofs.YtgkakflnmpoadaaGreatDoor.W
/- Contracts of the faces of package word (all but strings): what each returns, at every argument of its kind, with the world as it was. -/
namespace Go.Proofs.YtgkakflnmpoadaaGreatDoor.W
open Go.ChangeShapes Go.WideShapes Go.RowKit

set_option maxHeartbeats 400000 in
theorem fromFloat_c (n : Int) (h0 : 0 ≤ n) (h1 : n < 18446744073709551616) (w : World) :
    Calls Tryz.prog 22 #[.int .u64 n] w fun e w' => e = .returned (.int .u64 (fltW n)) ∧ w' = w := by
  cases c : nanB n
  · have H := hid (show fltW n = n by simp [fltW, c])
    go_enter Tryz.func22, Tryz.ntmps22
    go_wp2_with (go_at_call 52; refine (isNaN_c _ (by omega) (by omega) _).mono ?_; rintro e w' ⟨rfl, rfl⟩)
    go_ret
    exact ⟨ret_int H.out.symm, rfl⟩
  · have H := hid (show fltW n = 9221120237041090560 by simp [fltW, c])
    go_enter Tryz.func22, Tryz.ntmps22
    go_wp2_with (go_at_call 52; refine (isNaN_c _ (by omega) (by omega) _).mono ?_; rintro e w' ⟨rfl, rfl⟩)
    go_ret
    exact ⟨ret_int H.out.symm, rfl⟩
set_option maxHeartbeats 400000 in
theorem fromHandle_c (h : Int) (h0 : 0 ≤ h) (w : World) :
    Calls Tryz.prog 167 #[.int .u64 h] w fun e w' => e = .returned (.tuple #[.int .u64 (hdlW h), .bool (decide (h < 281474976710656))]) ∧ w' = w := by
  by_cases c : h < 281474976710656
  · have H := hid (show hdlW h = 18445336698825998336 + h by simp [hdlW, c])
    go_enter Tryz.func167, Tryz.ntmps167
    go_wp2_with (go_at_call 49; refine (join_c _ _ (by omega) (by omega) (by omega) (by omega) _).mono ?_; rintro e w' ⟨rfl, rfl⟩)
    go_ret2
    exact ⟨ret_ib H.out.symm (by simp [c]), rfl⟩
  · have H := hid (show hdlW h = 0 by simp [hdlW, c])
    go_enter Tryz.func167, Tryz.ntmps167
    go_wp2
    go_ret2
    exact ⟨ret_ib H.out.symm (by simp; omega), rfl⟩
set_option maxHeartbeats 400000 in
theorem toHandle_c (n : Int) (h0 : 0 ≤ n) (h1 : n < 18446744073709551616) (w : World) :
    Calls Tryz.prog 170 #[.int .u64 n] w fun e w' => e = .returned (.tuple #[.int .u64 (toHdl n), .bool (cls n == 6)]) ∧ w' = w := by
  by_cases c : cls n = 6
  · have H := hid (show toHdl n = n % 281474976710656 by simp [toHdl, c])
    go_enter Tryz.func170, Tryz.ntmps170
    go_wp2_with (first | (go_at_call 41; refine (class_c _ (by omega) (by omega) _).mono ?_; rintro e w' ⟨rfl, rfl⟩) | (go_at_call 76; refine (loadOf_c _ (by omega) (by omega) _).mono ?_; rintro e w' ⟨rfl, rfl⟩))
    go_ret2
    exact ⟨ret_ib H.out.symm (by simp [c]), rfl⟩
  · have H := hid (show toHdl n = 0 by simp [toHdl, c])
    have d : (cls n == 6) = false := by simpa using c
    have d' : (cls n != 6) = true := by simpa using c
    go_enter Tryz.func170, Tryz.ntmps170
    go_wp2_with (first | (go_at_call 41; refine (class_c _ (by omega) (by omega) _).mono ?_; rintro e w' ⟨rfl, rfl⟩) | (go_at_call 76; refine (loadOf_c _ (by omega) (by omega) _).mono ?_; rintro e w' ⟨rfl, rfl⟩))
    go_ret2
    exact ⟨ret_ib H.out.symm d.symm, rfl⟩
theorem sx_eq (n : Int) : wrap64 (IntKind.u64.wrap (n * 65536)) / 65536 = if n % 281474976710656 < 140737488355328 then n % 281474976710656 else n % 281474976710656 - 281474976710656 := by
  rw [IntKind.wrap_u64]
  unfold wrap64
  split <;> omega
set_option maxHeartbeats 400000 in
theorem toInt_c (n : Int) (h0 : 0 ≤ n) (h1 : n < 18446744073709551616) (w : World) :
    Calls Tryz.prog 43 #[.int .u64 n] w fun e w' => e = .returned (.tuple #[.int .i64 (toInt n), .bool (cls n == 2)]) ∧ w' = w := by
  by_cases c : cls n = 2
  · have H := hid (show toInt n = (if n % 281474976710656 < 140737488355328 then n % 281474976710656 else n % 281474976710656 - 281474976710656) by simp [toInt, c])
    go_enter Tryz.func43, Tryz.ntmps43
    go_wp2_with (first | (go_at_call 41; refine (class_c _ (by omega) (by omega) _).mono ?_; rintro e w' ⟨rfl, rfl⟩) | (go_at_call 76; refine (loadOf_c _ (by omega) (by omega) _).mono ?_; rintro e w' ⟨rfl, rfl⟩))
    go_ret2
    refine ⟨ret_ib ?_ (by simp [c]), rfl⟩
    rw [H.out]
    exact sx_eq n
  · have H := hid (show toInt n = 0 by simp [toInt, c])
    have d : (cls n == 2) = false := by simpa using c
    have d' : (cls n != 2) = true := by simpa using c
    go_enter Tryz.func43, Tryz.ntmps43
    go_wp2_with (first | (go_at_call 41; refine (class_c _ (by omega) (by omega) _).mono ?_; rintro e w' ⟨rfl, rfl⟩) | (go_at_call 76; refine (loadOf_c _ (by omega) (by omega) _).mono ?_; rintro e w' ⟨rfl, rfl⟩))
    go_ret2
    exact ⟨ret_ib H.out.symm d.symm, rfl⟩
set_option maxHeartbeats 400000 in
theorem fromInt_c (i : Int) (h0 : -9223372036854775808 ≤ i) (h1 : i ≤ 9223372036854775807) (w : World) :
    Calls Tryz.prog 50 #[.int .i64 i] w fun e w' => e = .returned (.tuple #[.int .u64 (intW i), .bool (smallB i)]) ∧ w' = w := by
  by_cases c : -140737488355328 ≤ i ∧ i ≤ 140737488355327
  · have H := hid (show smallB i = true by simp [smallB, c])
    have H' := hid (show intW i = 18444773748872577024 + i % 281474976710656 by simp [intW, smallB, c])
    obtain ⟨c1, c2⟩ := c
    go_enter Tryz.func50, Tryz.ntmps50
    go_wp2_with (first | (go_at_call 49; refine (join_c _ _ (by omega) (by omega) (by omega) (by omega) _).mono ?_; rintro e w' ⟨rfl, rfl⟩) | (go_at_call 76; refine (loadOf_c _ (by rw [IntKind.wrap_u64]; omega) (by rw [IntKind.wrap_u64]; omega) _).mono ?_; rintro e w' ⟨rfl, rfl⟩))
    go_ret2
    exact ⟨ret_ib (by rw [H'.out, IntKind.wrap_u64]; omega) H.out.symm, rfl⟩
  · have H := hid (show smallB i = false by simp [smallB]; omega)
    have H' := hid (show intW i = 0 by have := H.out; simp [intW, this])
    by_cases c1 : i < -140737488355328
    · clear c
      go_enter Tryz.func50, Tryz.ntmps50
      go_wp2
      go_ret2
      exact ⟨ret_ib H'.out.symm H.out.symm, rfl⟩
    · have c2 : 140737488355327 < i := by omega
      clear c
      go_enter Tryz.func50, Tryz.ntmps50
      go_wp2
      go_ret2
      exact ⟨ret_ib H'.out.symm H.out.symm, rfl⟩
end Go.Proofs.YtgkakflnmpoadaaGreatDoor.W
/- Package heap: how a heap lies; find, bytes, shapes, units. -/
namespace Go.Proofs.YtgkakflnmpoadaaGreatDoor.W
open Go.ChangeShapes Go.WideShapes Go.RowKit Go.Shelf
set_option linter.unusedVariables false
def flatC (H : List (Option Hc)) : List Value := H.flatMap (fun c => (clO c).cells)
theorem Cl.cells_len (c : Cl) : c.cells.length = 5 := rfl
theorem flatC_len (H : List (Option Hc)) : (flatC H).length = H.length * 5 := by
  induction H with
  | nil => rfl
  | cons b r ih => simp only [flatC, List.flatMap_cons, List.length_append, Cl.cells_len, List.length_cons] at ih ⊢; omega
theorem flatC_get (H : List (Option Hc)) (i j : Nat) (c : Option Hc) (h : H[i]? = some c) (hj : j < 5) : (flatC H)[i * 5 + j]? = (clO c).cells[j]? := by
  induction H generalizing i with
  | nil => simp at h
  | cons b r ih =>
    cases i with
    | zero =>
      simp at h; subst h
      unfold flatC
      rw [List.flatMap_cons, List.getElem?_append_left (by rw [Cl.cells_len]; omega)]
      simp
    | succ i =>
      simp at h
      have := ih i h
      unfold flatC at *
      rw [List.flatMap_cons, List.getElem?_append_right (by rw [Cl.cells_len]; omega), Cl.cells_len]
      have e : (i + 1) * 5 + j - 5 = i * 5 + j := by omega
      rw [e]; exact this
/-- a heap lies in W: its block hb, its store at sb in the blocks T, its cells vc; u units, h of them held -/
structure HLay (W : World) (hb sb : Nat) (vc : Value) (T : Nat → Prop) (H : List (Option Hc)) (u h : Nat) : Prop where
  obj : W.heap[hb]? = some (.cells [.pointer (some ⟨sb, 0, none⟩), vc, .int .i64 u, .int .i64 h].toArray 44 (0, 0))
  own : W.ownsRow 0 146 5 vc H.length (flatC H)
  st : St W T sb (hA H) 8388608 1048577
  tlt : ∀ k, T k → k < W.heap.size
  thb : ¬ T hb
  tvc : ∀ k, vc.ownBlock = some k → ¬ T k
  ok : ∀ (i : Nat) (c : Hc), H[i]? = some (some c) → c.ok
  len : H.length ≤ 1048576
  u1 : u ≤ 1048576
  h1 : h ≤ 1048576
section
variable {W W' : World} {hb sb : Nat} {vc : Value} {T : Nat → Prop} {H : List (Option Hc)} {u h : Nat}
theorem HLay.hlt (g : HLay W hb sb vc T H u h) : hb < W.heap.size := (Array.getElem?_eq_some_iff.1 g.obj).1
theorem HLay.clt (g : HLay W hb sb vc T H u h) : ∀ k, vc.ownBlock = some k → k < W.heap.size := fun k e => (g.own.lt k e).2
theorem HLay.kept (g : HLay W hb sb vc T H u h) (hs : W.heap.size ≤ W'.heap.size) (h0 : W'.heap[hb]? = W.heap[hb]?) (h1 : ∀ k, vc.ownBlock = some k → W'.heap[k]? = W.heap[k]?) (h2 : ∀ k, T k → W'.heap[k]? = W.heap[k]?) : HLay W' hb sb vc T H u h :=
  ⟨h0.trans g.obj, owns_on g.own h1, g.st.on h2, fun k e => Nat.lt_of_lt_of_le (g.tlt k e) hs, g.thb, g.tvc, g.ok, g.len, g.u1, g.h1⟩
theorem HLay.below (g : HLay W hb sb vc T H u h) (hb' : Below W.heap.size W W') : HLay W' hb sb vc T H u h :=
  g.kept hb'.size (hb'.block _ g.hlt) (fun k e => hb'.block k (g.clt k e)) (fun k e => hb'.block k (g.tlt k e))
theorem HLay.same (g : HLay W hb sb vc T H u h) (e : W'.heap = W.heap) : HLay W' hb sb vc T H u h :=
  g.kept (by rw [e]; exact Nat.le_refl _) (by rw [e]) (fun k _ => by rw [e]) (fun k _ => by rw [e])
/-- what is changed beside it -/
theorem HLay.upd {S : Nat → Prop} (g : HLay W hb sb vc T H u h) (hu : Upd S W W') (h0 : ¬ S hb) (h1 : ∀ k, vc.ownBlock = some k → ¬ S k) (h2 : ∀ k, T k → ¬ S k) : HLay W' hb sb vc T H u h :=
  g.kept hu.size (hu.block _ g.hlt h0) (fun k e => hu.block k (g.clt k e) (h1 k e)) (fun k e => hu.block k (g.tlt k e) (h2 k e))
theorem HLay.cell (g : HLay W hb sb vc T H u h) (j : Nat) : W.cell? ⟨hb, j, none⟩ = [Value.pointer (some ⟨sb, 0, none⟩), vc, .int .i64 u, .int .i64 h][j]? := by
  rw [cell_of_row W hb j _ _ (0, 0) g.obj]; simp
theorem HLay.thaw (g : HLay W hb sb vc T H u h) (j : Nat) : W.frozen? ⟨hb, j, none⟩ = false := by
  simp [World.frozen?, g.obj]
theorem HLay.sl (g : HLay W hb sb vc T H u h) : ∃ o cap, vc = .slice o H.length cap := by
  rcases g.own.2 with ⟨rfl, e⟩ | ⟨g', cap, cur, rfl, _⟩
  · exact ⟨_, _, by rw [e]⟩
  · exact ⟨_, _, rfl⟩
/-- where a cell's row lies -/
theorem HLay.at (g : HLay W hb sb vc T H u h) {i : Nat} (hi : i < H.length) : ∃ b cap, vc = .slice (some ⟨b, 0, none⟩) H.length cap ∧ (∀ j c, H[i]? = some c → j < 5 → W.cell? ⟨b, i * 5 + j, none⟩ = (clO c).cells[j]?) ∧ ∀ j, W.frozen? ⟨b, j, none⟩ = false := by
  obtain ⟨b, cap, rfl, hc⟩ := own_slice g.own (by omega)
  refine ⟨b, cap, rfl, fun j c hc hj => ?_, fun j => g.own.frozenAt j⟩
  rw [g.own.cellAt _ (by omega), flatC_get _ _ _ _ hc hj]
end
end Go.Proofs.YtgkakflnmpoadaaGreatDoor.W
/- Package heap: elementBytes, shape, unitsOf, find, bytes, wordOf, isValue. -/
namespace Go.Proofs.YtgkakflnmpoadaaGreatDoor.W
open Go.ChangeShapes Go.WideShapes Go.RowKit Go.Shelf
set_option linter.unusedVariables false
theorem elementBytes_c (k : Int) (W : World) : Calls Tryz.prog 158 #[.int .i64 k] W fun e w' => e = .returned (.int .i64 (elB k : Nat)) ∧ w' = W := by
  rcases elB_cases k with ⟨h, rfl⟩ | ⟨h, rfl⟩ | ⟨h, rfl⟩ | ⟨h, rfl⟩ | ⟨h, h5, h6, h7, h8⟩
  all_goals
    rw [h]
    clear h
    go_enter Tryz.func158, Tryz.ntmps158
    go_wp2
    go_ret
    exact ⟨rfl, rfl⟩
theorem shape_c (k : Int) (v : Bool) (W : World) : Calls Tryz.prog 157 #[.int .i64 k, .bool v] W fun e w' => e = .returned (.int .i64 (shp k v)) ∧ w' = W := by
  have ce := elementBytes_c k W
  have hn : (0 : Int) ≤ (elB k : Nat) := by omega
  by_cases c : elB k > 0
  · have c' : ((elB k : Nat) : Int) > 0 := by omega
    generalize hE : ((elB k : Nat) : Int) = E at *
    have hs : Hid (shp k v = if v = true then 4 else 3) := by show shp k v = _; unfold shp; rw [if_pos c]
    clear c hE
    cases v
    · go_enter Tryz.func157, Tryz.ntmps157
      go_wp2_with (go_at_call 158; (with_reducible refine ce.mono ?_); rintro e w' ⟨rfl, rfl⟩)
      go_ret
      exact ⟨by rw [hs.out]; rfl, rfl⟩
    · go_enter Tryz.func157, Tryz.ntmps157
      go_wp2_with (go_at_call 158; (with_reducible refine ce.mono ?_); rintro e w' ⟨rfl, rfl⟩)
      go_ret
      exact ⟨by rw [hs.out]; rfl, rfl⟩
  · have hz : ((elB k : Nat) : Int) = 0 := by omega
    rw [hz] at ce
    have hs : Hid (shp k v = if v = true then 0 else if k = 2 then 1 else if k = 4 then 2 else if k = 9 then 5 else 0) := by show shp k v = _; unfold shp; rw [if_neg c]
    clear c hz hn
    cases v
    · by_cases e2 : k = 2
      · have hs' := hs.out; rw [if_neg (by decide), if_pos e2] at hs'
        have H := hid hs'
        clear hs hs'
        subst e2
        rw [H.out]
        clear H
        go_enter Tryz.func157, Tryz.ntmps157
        go_wp2_with (go_at_call 158; (with_reducible refine ce.mono ?_); rintro e w' ⟨rfl, rfl⟩)
        go_ret
        exact ⟨rfl, rfl⟩
      by_cases e4 : k = 4
      · have hs' := hs.out; rw [if_neg (by decide), if_neg e2, if_pos e4] at hs'
        have H := hid hs'
        clear hs hs'
        subst e4
        rw [H.out]
        clear H
        go_enter Tryz.func157, Tryz.ntmps157
        go_wp2_with (go_at_call 158; (with_reducible refine ce.mono ?_); rintro e w' ⟨rfl, rfl⟩)
        go_ret
        exact ⟨rfl, rfl⟩
      by_cases e9 : k = 9
      · have hs' := hs.out; rw [if_neg (by decide), if_neg e2, if_neg e4, if_pos e9] at hs'
        have H := hid hs'
        clear hs hs'
        subst e9
        rw [H.out]
        clear H
        go_enter Tryz.func157, Tryz.ntmps157
        go_wp2_with (go_at_call 158; (with_reducible refine ce.mono ?_); rintro e w' ⟨rfl, rfl⟩)
        go_ret
        exact ⟨rfl, rfl⟩
      · have hs' := hs.out; rw [if_neg (by decide), if_neg e2, if_neg e4, if_neg e9] at hs'
        have H := hid hs'
        clear hs hs'
        rw [H.out]
        clear H
        go_enter Tryz.func157, Tryz.ntmps157
        go_wp2_with (go_at_call 158; (with_reducible refine ce.mono ?_); rintro e w' ⟨rfl, rfl⟩)
        go_ret
        exact ⟨rfl, rfl⟩
    · have hs' := hs.out; rw [if_pos rfl] at hs'
      have H := hid hs'
      clear hs hs'
      rw [H.out]
      clear H
      go_enter Tryz.func157, Tryz.ntmps157
      go_wp2_with (go_at_call 158; (with_reducible refine ce.mono ?_); rintro e w' ⟨rfl, rfl⟩)
      go_ret
      exact ⟨rfl, rfl⟩
theorem unitsOf_c (n : Nat) (hn : n ≤ 100000000) (W : World) : Calls Tryz.prog 161 #[.int .i64 n] W fun e w' => e = .returned (.int .i64 (1 + (n + 7) / 8 : Nat)) ∧ w' = W := by
  have h1 : IntKind.i64.wrap (((n : Int) + 8) - 1) = (n : Int) + 7 := by rw [IntKind.wrap_i64]; omega
  have h2 : IntKind.i64.wrap ((n : Int) + 8) = (n : Int) + 8 := by rw [IntKind.wrap_i64]; omega
  have h3 : Int.tdiv ((n : Int) + 7) 8 = ((n + 7) / 8 : Nat) := by rw [Int.tdiv_eq_ediv_of_nonneg (by omega)]; omega
  have h4 : IntKind.i64.wrap ((1 : Int) + ((n + 7) / 8 : Nat)) = (1 + (n + 7) / 8 : Nat) := by rw [IntKind.wrap_i64]; omega
  go_enter Tryz.func161, Tryz.ntmps161
  go_wp2
  go_ret
  exact ⟨rfl, rfl⟩
theorem wordOf_c (i : Nat) (hi : i < 281474976710656) (W : World) : Calls Tryz.prog 98 #[.int .i64 i] W fun e w' => e = .returned (.int .u64 (18445336698825998336 + i : Nat)) ∧ w' = W := by
  have cf := fromHandle_c i (by omega) W
  have e1 : hdlW i = (18445336698825998336 + i : Nat) := by simp [hdlW]; omega
  rw [e1] at cf
  have hw : IntKind.u64.wrap (i : Int) = i := by rw [IntKind.wrap_u64]; omega
  clear e1
  go_enter Tryz.func98, Tryz.ntmps98
  go_wp2_with (go_at_call 167; (with_reducible refine cf.mono ?_); rintro e w' ⟨rfl, rfl⟩)
  go_ret
  exact ⟨rfl, rfl⟩
section
variable {W : World} {hb sb : Nat} {vc : Value} {T : Nat → Prop} {H : List (Option Hc)} {u h : Nat}
theorem bytes_c (g : HLay W hb sb vc T H u h) (i : Nat) (c : Hc) (hc : H[i]? = some (some c)) : Calls Tryz.prog 102 #[.pointer (some ⟨hb, 0, none⟩), .int .i64 i] W fun e w' => e = .returned (.int .i64 c.bytes.length) ∧ w' = W := by
  have cl := len_st g.st i c.bytes (hA_some hc)
  have c0 := g.cell 0
  simp at c0
  go_enter Tryz.func102, Tryz.ntmps102
  go_wp2_with (go_at_call 171; (with_reducible refine cl.mono ?_); rintro e w' ⟨rfl, rfl⟩)
  go_ret
  exact ⟨rfl, rfl⟩
theorem find_c (g : HLay W hb sb vc T H u h) (w : Nat) (hw : w < 18446744073709551616) : Calls Tryz.prog 100 #[.pointer (some ⟨hb, 0, none⟩), .int .u64 w] W fun e w' => e = .returned (.tuple #[.int .i64 ((hit H w).getD 0 : Nat), .bool (hit H w).isSome]) ∧ w' = W := by
  have ct := toHandle_c w (by omega) (by omega) W
  have hlen := g.len
  have c1 := g.cell 1
  simp at c1
  obtain ⟨o, cap, hvc⟩ := g.sl
  by_cases k : cls (w : Int) = 6
  · have e1 : toHdl w = (w % 281474976710656 : Nat) := by simp [toHdl, k]
    have e2 : (cls (w : Int) == 6) = true := by simp [k]
    rw [e1, e2] at ct
    have HK := hid k
    clear e1 e2 k
    have hm : w % 281474976710656 < 281474976710656 := Nat.mod_lt _ (by decide)
    have hhit : hit H w = if ((H[w % 281474976710656]?).getD none).isSome = true then some (w % 281474976710656) else none := by
      unfold hit; simp [HK.out]
    generalize w % 281474976710656 = i at *
    by_cases hi : i < H.length
    · obtain ⟨b, cap', hvc', hcell, hth⟩ := g.at hi
      have hce := hcell 0 H[i] (by simp [hi]) (by omega)
      have i0 : (0 : Int) ≤ i := by omega
      have i1 : (i : Int) < H.length := by omega
      have iw : IntKind.u64.wrap (H.length : Int) = H.length := by rw [IntKind.wrap_u64]; omega
      have iw2 : IntKind.i64.wrap (i : Int) = i := by rw [IntKind.wrap_i64]; omega
      subst hvc'
      clear hvc
      cases hx : H[i] with
      | none =>
        rw [hx] at hce
        simp [clO, Cl.cells] at hce
        have e3 : hit H w = none := by rw [hhit]; simp [hi, hx]
        rw [e3]
        clear hcell hhit hx g e3
        go_enter Tryz.func100, Tryz.ntmps100
        go_wp2_with (go_at_call 170; (with_reducible refine ct.mono ?_); rintro e w' ⟨rfl, rfl⟩)
        go_ret2
        exact ⟨rfl, rfl⟩
      | some c =>
        rw [hx] at hce
        simp [clO, Cl.cells] at hce
        have hk0 := Hc.kind_ne (g.ok i c (by simp [hi, hx]))
        have e3 : hit H w = some i := by rw [hhit]; simp [hi, hx]
        have d1 : decide (H.length ≤ i) = false := by simp; omega
        have d2 : (c.cl.kind == 0) = false := by simpa using hk0
        rw [e3]
        clear hcell hhit hx g e3
        go_enter Tryz.func100, Tryz.ntmps100
        go_wp2_with (go_at_call 170; (with_reducible refine ct.mono ?_); rintro e w' ⟨rfl, rfl⟩)
        go_ret2
        exact ⟨rfl, rfl⟩
    · have e3 : hit H w = none := by rw [hhit]; simp [hi]
      have i1 : (H.length : Int) ≤ i := by omega
      have iw : IntKind.u64.wrap (H.length : Int) = H.length := by rw [IntKind.wrap_u64]; omega
      rw [e3]
      subst hvc
      clear hhit g e3
      go_enter Tryz.func100, Tryz.ntmps100
      go_wp2_with (go_at_call 170; (with_reducible refine ct.mono ?_); rintro e w' ⟨rfl, rfl⟩)
      go_ret2
      exact ⟨rfl, rfl⟩
  · have e2 : (cls (w : Int) == 6) = false := by simp [k]
    have e3 : hit H w = none := by unfold hit; simp [k]
    rw [e2] at ct
    rw [e3]
    subst hvc
    clear g e3
    go_enter Tryz.func100, Tryz.ntmps100
    go_wp2_with (go_at_call 170; (with_reducible refine ct.mono ?_); rintro e w' ⟨rfl, rfl⟩)
    go_ret2
    exact ⟨rfl, rfl⟩
end
end Go.Proofs.YtgkakflnmpoadaaGreatDoor.W
/- A range over an iterator, whatever iterator: what it tells, and the loop over it. -/
namespace Go.Proofs.YtgkakflnmpoadaaGreatDoor.W
open Go.ChangeShapes Go.WideShapes Go.RowKit Go.Shelf
set_option linter.unusedVariables false
theorem below_cell {W W' : World} {p : Addr} {v : Value} (hb : Below W.heap.size W W') (h : W.cell? p = some v) : W'.cell? p = some v := by
  rcases Nat.lt_or_ge p.block W.heap.size with c | c
  · rw [hb.cell c]; exact h
  · exfalso
    have e : W.heap[p.block]? = none := Array.getElem?_eq_none c
    simp [World.cell?, e] at h
/-- the function gf, with lb captured, yields vals, as long as it is asked, where G holds; beyond that it only lays blocks -/
def Iter (gf : Nat) (lb : Array Value) (vals : List (Array Value)) (G : Nat → World → Prop) : Prop :=
  ∀ (n l : Nat) (J : Nat → World → Prop) (X : World → Prop), 1 ≤ n → (∀ i W, J i W → G i W) → (∀ i W W', J i W → Below W.heap.size W W' → J i W') →
    (∀ i (hi : i < vals.length) W, J i W → YieldAt Fence.wide (n - 1) Tryz.prog l vals[i] W fun e W' => (e = .returned (.bool true) ∧ J (i + 1) W') ∨ (e = .returned (.bool false) ∧ X W')) →
    ∀ W, J 0 W → CallsIn Fence.wide n Tryz.prog gf (#[.func (.yield l) #[] #[]] ++ lb) W fun e W' => (∃ v, e = .returned v) ∧ (J vals.length W' ∨ X W')
/-- how the body of a round is left -/
def rndWay (L D : Nat) (W : World) (In : World → Prop) (Ix : Code → World → Prop) : Exit → Act → World → Prop
  | .normal, _, W' => (W'.heap[L]? = W.heap[L]? ∧ W'.heap[D]? = W.heap[D]?) ∧ In W'
  | .ret, _, W' => (W'.heap[L]? = W.heap[L]? ∧ W'.heap[D]? = W.heap[D]?) ∧ Ix .ret W'
  | .exit id, _, W' => (W'.heap[L]? = W.heap[L]? ∧ W'.heap[D]? = W.heap[D]?) ∧ Ix (.exit id) W'
  | _, _, _ => False
theorem iter_law {gf : Nat} {lb : Array Value} {vals : List (Array Value)} {G : Nat → World → Prop} (hit : Iter gf lb vals G) (eg : ∀ args w, (callFunc gf args).run Tryz.prog w = .ok (.enter gf args) w)
    {g : Operand} {ps : Array Tmp} {assign body : Code} {Q : Exit → Act → World → Prop} {a : Act} {W0 : World} (hg : a.eval g = .func (.func gf) #[] lb)
    (I : Nat → World → Prop) (Ix : Code → World → Prop) (hL : ∀ i W, I i W → G i W)
    (hI : ∀ i W W', I i W → Upd (fun k => k = W0.heap.size + 1) W W' → I i W')
    (hIx : ∀ c W W', Ix c W → Upd (fun k => k = W0.heap.size + 1) W W' → Ix c W') (h0 : I 0 W0)
    (A : Nat → Act) (hsz : ∀ i (hi : i < vals.length), vals[i].size = ps.size)
    (hassign : ∀ (L i : Nat) (hi : i < vals.length) (W : World) (K : Act → World → Prop), K (A i) W → assign.wpIn (Fence.wide.inRound L) 7 Tryz.prog (Exit.then K (fun _ _ _ => False)) { tmps := (ps.zip vals[i]).foldl (fun t (p, v) => t.setIfInBounds p v) a.tmps, defers := [] } W)
    (hbody : ∀ (L : Nat) i (hi : i < vals.length) W, L = W0.heap.size + 1 → I i W → W0.heap.size + 2 ≤ W.heap.size → (∃ r, W.heap[L]? = some (.loop r)) → body.wpIn (Fence.wide.inRound L) 7 Tryz.prog (rndWay L W0.heap.size W (I (i + 1)) Ix) (A i) W)
    (hdone : ∀ W, I vals.length W → W.heap[W0.heap.size]? = some (.deferred (some [])) → Q .normal { a with defers := { target := .collected W0.heap.size, args := #[] } :: a.defers } W)
    (hstop : ∀ c W, Ix c W → W.heap[W0.heap.size]? = some (.deferred (some [])) → c.wp Tryz.prog Q { a with defers := { target := .collected W0.heap.size, args := #[] } :: a.defers } W) :
    (Code.rangeFunc g ps assign body).wp Tryz.prog Q a W0 := by
  have hUL : ∀ (W : World) (o : Obj), Upd (fun k => k = W0.heap.size + 1) W (W.putObj (W0.heap.size + 1) o) := fun W o => upd_put (S := fun k => k = W0.heap.size + 1) (L := W0.heap.size + 1) rfl o
  refine (wpIn_wide (n := 9)).1 (rf_law hg eg (fun W => I vals.length W) Ix ?_ ?_ ?_)
  · intro r W1 hr1 hr2 hr3 hr4 hr5 hr6 hW1 hL1
    have hI1 : I 0 W1 := by
      refine hI 0 W0 W1 h0 ?_
      rw [hW1]; exact ((Upd.refl _ W0).alloc _).alloc _
    have hsz1 : W0.heap.size + 2 ≤ W1.heap.size := by rw [hW1]; simp
    have key := hit 8 (W0.heap.size + 1)
      (fun i W => I i W ∧ LoopAt W (W0.heap.size + 1) W0.heap.size r ∧ W0.heap.size + 2 ≤ W.heap.size)
      (fun W => ∃ c, Ix c W ∧ LoopAt W (W0.heap.size + 1) W0.heap.size { r with state := .done, pending := some c })
      (by omega) (fun i W h => hL i W h.1) ?_ ?_ W1 ⟨hI1, hL1, hsz1⟩
    · refine key.mono ?_
      rintro e W3 ⟨hv, ⟨h1, h2, _⟩ | ⟨c, h1, h2⟩⟩
      · exact ⟨hv, .inl ⟨h1, r, h2, by rw [hr1]; simp, hr2⟩⟩
      · exact ⟨hv, .inr ⟨c, h1, _, h2, by simp, rfl⟩⟩
    · rintro i W W' ⟨h1, h2, h3⟩ hb
      exact ⟨hI i W W' h1 (Upd.of_below hb), h2.kept (hb.block _ (by omega)) (hb.block _ (by omega)), by have := hb.size; omega⟩
    · rintro i hi W ⟨hi1, hl1, hs1⟩
      have hargs : vals[i].size = r.params.size := by rw [hr4]; exact hsz i hi
      refine YieldAt.mono (yield_law (Rn := fun W' => I (i + 1) W' ∧ LoopAt W' (W0.heap.size + 1) W0.heap.size r ∧ W0.heap.size + 2 ≤ W'.heap.size) (Rx := fun c W' => Ix c W' ∧ LoopAt W' (W0.heap.size + 1) W0.heap.size { r with state := .done, pending := some c }) hl1 hr1 hargs (A i) ?_ ?_) ?_
      · intro K hK
        rw [hr5, hr4, hr3]
        exact hassign _ i hi W K hK
      · intro W2 hW2 hl2
        have hI2 : I i W2 := by rw [hW2]; exact hI i W _ hi1 (hUL W _)
        have hs2 : W0.heap.size + 2 ≤ W2.heap.size := by rw [hW2]; simpa using hs1
        have hbd := hbody _ i hi W2 rfl hI2 hs2 ⟨_, hl2.lp⟩
        rw [← hr6] at hbd
        refine wpIn_mono hbd ?_
        intro e a3 W3 hp
        have put : ∀ q : Loop, (W3.heap[W0.heap.size + 1]? = W2.heap[W0.heap.size + 1]? ∧ W3.heap[W0.heap.size]? = W2.heap[W0.heap.size]?) → LoopAt W3 (W0.heap.size + 1) W0.heap.size { r with state := .busy } ∧ LoopAt (W3.putObj (W0.heap.size + 1) (.loop q)) (W0.heap.size + 1) W0.heap.size q ∧ W0.heap.size + 2 ≤ (W3.putObj (W0.heap.size + 1) (.loop q)).heap.size := by
          rintro q ⟨e1, e2⟩
          have hl3 := hl2.kept e1 e2
          refine ⟨hl3, hl3.put q, ?_⟩
          have := (Array.getElem?_eq_some_iff.1 hl3.lp).1
          simp; omega
        cases e with
        | normal =>
          obtain ⟨hk, hin⟩ := hp
          obtain ⟨p1, p2, p4⟩ := put { r with state := .ready, pending := none } hk
          have er : ({ r with state := .ready, pending := none } : Loop) = r := by cases r; simp_all
          refine ⟨p1, hI _ W3 _ hin (hUL W3 _), ?_, p4⟩
          rw [er] at p2 ⊢
          exact p2
        | ret =>
          obtain ⟨hk, hin⟩ := hp
          obtain ⟨p1, p2, p4⟩ := put { r with state := .done, pending := some .ret } hk
          exact ⟨p1, hIx _ W3 _ hin (hUL W3 _), p2⟩
        | exit id =>
          obtain ⟨hk, hin⟩ := hp
          obtain ⟨p1, p2, p4⟩ := put { r with state := .done, pending := some (.exit id) } hk
          exact ⟨p1, hIx _ W3 _ hin (hUL W3 _), p2⟩
        | goto t => exact hp.elim
        | panic ch => exact hp.elim
        | outgrown => exact hp.elim
      · rintro e W' (⟨rfl, h1⟩ | ⟨rfl, c, h1⟩)
        · exact .inl ⟨rfl, h1⟩
        · exact .inr ⟨rfl, c, h1⟩
  · intro W3 q hd hl
    exact hdone _ (hI _ W3 _ hd (hUL W3 _)) hl.defs
  · intro W3 q c hs hl
    exact wpIn_wide.2 (hstop c _ (hIx _ W3 _ hs (hUL W3 _)) hl.defs)
end Go.Proofs.YtgkakflnmpoadaaGreatDoor.W
/- Package heap: the words of a row, one behind the other: the iterator, and a range over it. -/
namespace Go.Proofs.YtgkakflnmpoadaaGreatDoor.W
open Go.ChangeShapes Go.WideShapes Go.RowKit Go.Shelf
set_option linter.unusedVariables false
theorem words_c (W : World) (hb id : Nat) : Calls Tryz.prog 166 #[.pointer (some ⟨hb, 0, none⟩), .int .i64 id] W fun e w' => e = .returned (.func (.func 213) #[] #[.pointer (some ⟨W.heap.size, 0, none⟩), .pointer (some ⟨W.heap.size + 1, 0, none⟩)]) ∧ w' = (W.alloc (.cells #[.pointer (some ⟨hb, 0, none⟩)] 25)).alloc (.cells #[.int .i64 id] 3) := by
  go_enter Tryz.func166, Tryz.ntmps166
  go_wp2
  go_ret
  exact ⟨rfl, rfl⟩
section
variable {hb sb : Nat} {vc : Value} {T : Nat → Prop} {H : List (Option Hc)} {u h : Nat}
set_option maxHeartbeats 1000000 in
theorem words_iter (Bh Bi id : Nat) (ws : List Nat) (hrow : H[id]? = some (some (.row ws))) :
    Iter 213 #[.pointer (some ⟨Bh, 0, none⟩), .pointer (some ⟨Bi, 0, none⟩)] (ws.map (fun w => #[.int .u64 (w : Nat)])) (fun _ W => HLay W hb sb vc T H u h ∧ W.cell? ⟨Bh, 0, none⟩ = some (.pointer (some ⟨hb, 0, none⟩)) ∧ W.cell? ⟨Bi, 0, none⟩ = some (.int .i64 id)) := by
  intro n l J X hn hL hB hY W h0
  rw [List.length_map]
  have hY : ∀ i (hi : i < ws.length) W, J i W → YieldAt Fence.wide (n - 1) Tryz.prog l #[.int .u64 (ws[i] : Nat)] W fun e W' => (e = .returned (.bool true) ∧ J (i + 1) W') ∨ (e = .returned (.bool false) ∧ X W') := by
    intro i hi W hJ
    have := hY i (by rw [List.length_map]; exact hi) W hJ
    rw [List.getElem_map] at this
    exact this
  show CallsIn Fence.wide n Tryz.prog 213 #[.func (.yield l) #[] #[], .pointer (some ⟨Bh, 0, none⟩), .pointer (some ⟨Bi, 0, none⟩)] W fun e W' => (∃ v, e = .returned v) ∧ (J ws.length W' ∨ X W')
  obtain ⟨g0, a1, a2⟩ := hL 0 W h0
  have hok := g0.ok id _ hrow
  have hwl : ws.length ≤ 1048576 := hok.2
  have cb := bytes_c g0 id _ hrow
  have eb : (Hc.row ws).bytes.length = 8 * ws.length := row_len ws
  obtain ⟨N, hN⟩ : ∃ N, N = 8 * ws.length := ⟨_, rfl⟩
  have HN := hid hN
  rw [← hN] at eb
  rw [eb] at cb
  clear hN
  refine callsIn_of_wp Tryz.func213 rfl trivial ?_ rfl
  simp only [Tryz.ntmps213, List.size_toArray, List.length_cons, List.length_nil, Nat.reduceAdd, Nat.reduceSub, Array.replicate_succ, Array.replicate_zero, List.push_toArray, List.append_toArray, List.nil_append, List.cons_append]
  gi_wp2_with ((refine ⟨trivial, ?_⟩); gi_at_call 102; (refine (callsIn_wide.2 cb).mono ?_); rintro e w' ⟨rfl, hw⟩; (have hw' := hw.symm); subst hw'; clear hw)
  gi_loopw [5] (fun off wr => ∃ i o : Nat, i ≤ ws.length ∧ o = 8 * i ∧ off = .int .i64 o ∧ J i wr) (fun off _ => N - (intOf off).toNat)
  case atStart => exact ⟨0, 0, Nat.zero_le _, rfl, rfl, h0⟩
  case round =>
    obtain ⟨i, o, hi, ho, rfl, hJi⟩ := hrel
    have HO := hid ho
    clear cb a1 a2 g0
    have hNs : N ≤ 8388608 := by have := HN.out; omega
    by_cases hlt : i < ws.length
    · obtain ⟨g1, b1, b2⟩ := hL i wr hJi
      have c0 := g1.cell 0
      simp at c0
      have cl := load_st (g1.same (W' := wr.drew) rfl).st id _ (hA_some hrow) o 8 (.inr (.inr (.inr rfl))) (by omega) (by have := HN.out; rw [eb]; omega)
      have ew : leN (seg (Hc.row ws).bytes o 8) = ws[i] := by rw [ho]; exact row_load ws i ws[i] (by simp) (hok.1 _ (List.getElem_mem hlt))
      rw [ew] at cl
      have o1 : (o : Int) < N := by have := HN.out; omega
      have o2 : IntKind.i64.wrap ((o : Int) + 8) = (o : Int) + 8 := by rw [IntKind.wrap_i64]; omega
      have hw8 : ((8 : Nat) : Int) = 8 := rfl
      rw [hw8] at cl
      have HJ : Hid (∀ w2, Below wr.heap.size wr w2 → J i w2) := fun w2 h => hB i wr w2 hJi h
      clear ew hJi g1 ho
      gi_wp2
      refine wpIn_wide.2 ?_
      go_region_held3 (fun w' => w'.cell? ⟨Bh, 0, none⟩ = some (.pointer (some ⟨hb, 0, none⟩)) ∧ w'.cell? ⟨Bi, 0, none⟩ = some (.int .i64 id) ∧ w'.cell? ⟨hb, 0, none⟩ = some (.pointer (some ⟨sb, 0, none⟩))) (first | exact ⟨b1, b2, c0⟩ | exact k2) (first | (go_at_call 187; (with_reducible refine cl.mono ?_); rintro e w2 ⟨rfl, hBl⟩; (have k2 := (show _ ∧ _ ∧ _ from ⟨below_cell hBl (show wr.drew.cell? _ = _ from b1), below_cell hBl (show wr.drew.cell? _ = _ from b2), below_cell hBl (show wr.drew.cell? _ = _ from c0)⟩)); clear b1 b2 c0 cl))
      obtain ⟨fn, tmps, assign, body, hy, hR⟩ := hY i hlt w2 (HJ.out w2 ⟨hBl.os, hBl.tape, hBl.output, hBl.size, hBl.block⟩)
      gi_wp2
      refine hR.mono ?_
      rintro e W3 (⟨rfl, hK3⟩ | ⟨rfl, hX3⟩)
      · clear hY hL hB hy hR
        gi_wp2
        go_roundw
        case rel => exact ⟨i + 1, o + 8, hlt, by have := HO.out; omega, by go_num, hK3⟩
        case measure => show N - (o + 8 : Int).toNat < N - (o : Int).toNat; omega
      · clear hY hL hB hy hR
        gi_wp2
        refine bodyPost_ret (results_none rfl _ _ _) rfl ?_
        exact ⟨⟨_, rfl⟩, .inr hX3⟩
    · have he : i = ws.length := by omega
      have o1 : ¬ (o : Int) < N := by have := HN.out; omega
      rw [he] at hJi
      clear hY hL hB
      gi_wp2
      go_end0
      exact ⟨⟨_, rfl⟩, .inl hJi⟩
theorem eg_words : ∀ args w, (callFunc 213 args).run Tryz.prog w = .ok (.enter 213 args) w := enters_of Tryz.func213 (by kernel_rfl) rfl
/-- the frame in which a round's body begins -/
def wAct (pt q : Nat) (a : Act) (w : Nat) : Act := { tmps := (a.tmps.setIfInBounds pt (.int .u64 (w : Int))).setIfInBounds q (.int .u64 (w : Int)), defers := [] }
theorem words_law {g : Operand} {pt : Nat} {assign body : Code} {Q : Exit → Act → World → Prop} {a : Act} {W0 : World} {Bh Bi id : Nat} (ws : List Nat) (hrow : H[id]? = some (some (.row ws))) (hg : a.eval g = .func (.func 213) #[] #[.pointer (some ⟨Bh, 0, none⟩), .pointer (some ⟨Bi, 0, none⟩)])
    (I : Nat → World → Prop) (Ix : Code → World → Prop) (hL : ∀ i W, I i W → HLay W hb sb vc T H u h ∧ W.cell? ⟨Bh, 0, none⟩ = some (.pointer (some ⟨hb, 0, none⟩)) ∧ W.cell? ⟨Bi, 0, none⟩ = some (.int .i64 id))
    (hI : ∀ i W W', I i W → Upd (fun k => k = W0.heap.size + 1) W W' → I i W')
    (hIx : ∀ c W W', Ix c W → Upd (fun k => k = W0.heap.size + 1) W W' → Ix c W') (h0 : I 0 W0) (q : Nat)
    (hassign : ∀ (L x : Nat) (W : World) (K : Act → World → Prop), K (wAct pt q a x) W → assign.wpIn (Fence.wide.inRound L) 7 Tryz.prog (Exit.then K (fun _ _ _ => False)) { tmps := a.tmps.setIfInBounds pt (.int .u64 (x : Int)), defers := [] } W)
    (hbody : ∀ (L : Nat) i (hi : i < ws.length) W, L = W0.heap.size + 1 → I i W → W0.heap.size + 2 ≤ W.heap.size → (∃ r, W.heap[L]? = some (.loop r)) → body.wpIn (Fence.wide.inRound L) 7 Tryz.prog (rndWay L W0.heap.size W (I (i + 1)) Ix) (wAct pt q a ws[i]) W)
    (hdone : ∀ W, I ws.length W → W.heap[W0.heap.size]? = some (.deferred (some [])) → Q .normal { a with defers := { target := .collected W0.heap.size, args := #[] } :: a.defers } W)
    (hstop : ∀ c W, Ix c W → W.heap[W0.heap.size]? = some (.deferred (some [])) → c.wp Tryz.prog Q { a with defers := { target := .collected W0.heap.size, args := #[] } :: a.defers } W) :
    (Code.rangeFunc g #[pt] assign body).wp Tryz.prog Q a W0 := by
  have hlen : (ws.map (fun w => (#[.int .u64 (w : Nat)] : Array Value))).length = ws.length := List.length_map ..
  refine iter_law (words_iter (hb := hb) (sb := sb) (vc := vc) (T := T) (u := u) (h := h) Bh Bi id ws hrow) eg_words hg I Ix hL hI hIx h0 (fun i => wAct pt q a (ws.getD i 0)) ?_ ?_ ?_ ?_ hstop
  · intro i hi; rw [List.getElem_map]; rfl
  · intro L i hi W K hK
    rw [List.getElem_map, zip_one]
    have hi' : i < ws.length := by rw [← hlen]; exact hi
    have e : ws.getD i 0 = ws[i] := by simp [hi']
    simp only [e] at hK
    exact hassign L ws[i] W K hK
  · intro L i hi W hLe hIi hs hr
    have hi' : i < ws.length := by rw [← hlen]; exact hi
    have e : ws.getD i 0 = ws[i] := by simp [hi']
    simp only [e]
    exact hbody L i hi' W hLe hIi hs hr
  · intro W hW hD
    rw [hlen] at hW
    exact hdone W hW hD
end
end Go.Proofs.YtgkakflnmpoadaaGreatDoor.W
/- Package heap: the pieces of n bytes: the iterator. -/
namespace Go.Proofs.YtgkakflnmpoadaaGreatDoor.W
open Go.ChangeShapes Go.WideShapes Go.RowKit Go.Shelf
set_option linter.unusedVariables false
/-- where the piece k of n bytes begins -/
def pieceO (n k : Nat) : Nat := if k ≤ n / 8 then 8 * k else 8 * (n / 8) + (k - n / 8)
/-- how many bytes it has -/
def pieceW (n k : Nat) : Nat := if k < n / 8 then 8 else 1
/-- how many pieces there are -/
def pieceN (n : Nat) : Nat := n / 8 + n % 8
theorem piece_next (n k : Nat) : pieceO n (k + 1) = pieceO n k + pieceW n k := by
  unfold pieceO pieceW
  by_cases h : k < n / 8
  · rw [if_pos (by omega), if_pos (by omega), if_pos h]; omega
  · by_cases h2 : k ≤ n / 8
    · rw [if_neg (by omega), if_pos h2, if_neg h]; omega
    · rw [if_neg (by omega), if_neg h2, if_neg h]; omega
theorem piece_end (n : Nat) : pieceO n (pieceN n) = n := by
  unfold pieceO pieceN
  by_cases h : n % 8 = 0
  · rw [if_pos (by omega)]; omega
  · rw [if_neg (by omega)]; omega
theorem piece_lt (n k : Nat) (h : k < pieceN n) : pieceO n k + pieceW n k ≤ n ∧ pieceO n k % pieceW n k = 0 := by
  unfold pieceO pieceW pieceN at *
  by_cases h1 : k < n / 8
  · rw [if_pos (by omega), if_pos h1]; omega
  · by_cases h2 : k ≤ n / 8
    · rw [if_pos h2, if_neg h1]; omega
    · rw [if_neg h2, if_neg h1]; omega
theorem piece_zero (n : Nat) : pieceO n 0 = 0 := by unfold pieceO; rw [if_pos (by omega)]
/-- the pieces, as they are told -/
def piecesV (n : Nat) : List (Array Value) := (List.range (pieceN n)).map (fun k => #[.int .i64 (pieceO n k : Nat), .int .i64 (pieceW n k : Nat)])
theorem pieces_c (W : World) (n : Nat) : Calls Tryz.prog 245 #[.int .i64 n] W fun e w' => e = .returned (.func (.func 277) #[] #[.pointer (some ⟨W.heap.size, 0, none⟩)]) ∧ w' = W.alloc (.cells #[.int .i64 n] 3) := by
  go_enter Tryz.func245, Tryz.ntmps245
  go_wp2
  go_ret
  exact ⟨rfl, rfl⟩
theorem pieces_iter (Bn nn : Nat) (hnn : nn ≤ 8388608) : Iter 277 #[.pointer (some ⟨Bn, 0, none⟩)] (piecesV nn) (fun _ W => W.cell? ⟨Bn, 0, none⟩ = some (.int .i64 nn)) := by
  intro n l J X hn hL hB hY W h0
  have hlen : (piecesV nn).length = pieceN nn := by unfold piecesV; rw [List.length_map, List.length_range]
  rw [hlen]
  have hY : ∀ i (hi : i < pieceN nn) W, J i W → YieldAt Fence.wide (n - 1) Tryz.prog l #[.int .i64 (pieceO nn i : Nat), .int .i64 (pieceW nn i : Nat)] W fun e W' => (e = .returned (.bool true) ∧ J (i + 1) W') ∨ (e = .returned (.bool false) ∧ X W') := by
    intro i hi W hJ
    have := hY i (by rw [hlen]; exact hi) W hJ
    unfold piecesV at this
    rw [List.getElem_map, List.getElem_range] at this
    exact this
  show CallsIn Fence.wide n Tryz.prog 277 #[.func (.yield l) #[] #[], .pointer (some ⟨Bn, 0, none⟩)] W fun e W' => (∃ v, e = .returned v) ∧ (J (pieceN nn) W' ∨ X W')
  refine callsIn_of_wp Tryz.func277 rfl trivial ?_ rfl
  simp only [Tryz.ntmps277, List.size_toArray, List.length_cons, List.length_nil, Nat.reduceAdd, Nat.reduceSub, Array.replicate_succ, Array.replicate_zero, List.push_toArray, List.append_toArray, List.nil_append, List.cons_append]
  gi_wp2
  gi_loopw [3, 4] (fun wd off wr => ∃ i o v : Nat, i ≤ pieceN nn ∧ o = pieceO nn i ∧ v = (if i ≤ nn / 8 then 8 else 1) ∧ off = .int .i64 o ∧ wd = .int .i64 v ∧ J i wr) (fun _ off _ => nn - (intOf off).toNat)
  case atStart => exact ⟨0, 0, 8, Nat.zero_le _, (piece_zero nn).symm, by rw [if_pos (Nat.zero_le _)], rfl, rfl, h0⟩
  case round =>
    obtain ⟨i, o, v, hi, ho, hv, rfl, rfl, hJi⟩ := hrel
    have cn := hL i wr hJi
    have HO := hid ho
    have HV := hid hv
    by_cases hlt : i < pieceN nn
    · have hp := piece_lt nn i hlt
      have hnx := piece_next nn i
      have hw1 : pieceW nn i = 8 ∨ pieceW nn i = 1 := by unfold pieceW; split <;> simp
      have o1 : (o : Int) < nn := by omega
      have v8 : v = 8 ∨ v = 1 := by rw [hv]; split <;> simp
      have a1 : IntKind.i64.wrap ((o : Int) + (v : Int)) = (o : Int) + (v : Int) := by rw [IntKind.wrap_i64]; omega
      have hvn : (if i + 1 ≤ nn / 8 then 8 else 1) = pieceW nn i := by
        unfold pieceW
        by_cases c : i < nn / 8
        · rw [if_pos (by omega), if_pos c]
        · rw [if_neg (by omega), if_neg c]
      have HVN := hid hvn
      have HP := hid hp
      obtain ⟨fn, tmps, assign, body, hy, hR⟩ := hY i hlt wr hJi
      rw [← ho] at hy
      have HX := hid hnx
      clear hY hL hB hJi hp hnx hvn ho hv
      by_cases hbig : o + v > nn
      · have hw : pieceW nn i = 1 := by
          have h1 := HO.out
          have h2 := HV.out
          have h3 := HP.out
          rcases hw1 with e | e
          · rw [← h1, e] at h3
            rcases v8 with e2 | e2 <;> omega
          · exact e
        have g1 : (o : Int) + (v : Int) > nn := by omega
        have a2 : IntKind.i64.wrap ((o : Int) + 1) = (o : Int) + 1 := by rw [IntKind.wrap_i64]; omega
        rw [hw, show ((1 : Nat) : Int) = 1 from rfl] at hy
        gi_wp2
        refine hR.mono ?_
        rintro e W3 (⟨rfl, hK3⟩ | ⟨rfl, hX3⟩)
        · clear hy hR
          gi_wp2
          go_roundw
          case rel => exact ⟨i + 1, o + 1, 1, hlt, by have := HX.out; rw [hw] at this; have := HO.out; omega, by have := HVN.out; omega, by go_num, rfl, hK3⟩
          case measure => show nn - (o + 1 : Int).toNat < nn - (o : Int).toNat; omega
        · clear hy hR
          gi_wp2
          refine bodyPost_ret (results_none rfl _ _ _) rfl ?_
          exact ⟨⟨_, rfl⟩, .inr hX3⟩
      · have hw : pieceW nn i = v := by
          have h1 := HO.out
          have h2 := HV.out
          have h3 := HP.out
          unfold pieceO at h1
          unfold pieceW
          by_cases c : i < nn / 8
          · rw [if_pos c]; rw [if_pos (by omega)] at h2; omega
          · rw [if_neg c]
            by_cases d : i ≤ nn / 8
            · rw [if_pos d] at h1 h2; omega
            · rw [if_neg d] at h2; omega
        have g1 : ¬ (o : Int) + (v : Int) > nn := by omega
        rw [hw] at hy
        gi_wp2
        refine hR.mono ?_
        rintro e W3 (⟨rfl, hK3⟩ | ⟨rfl, hX3⟩)
        · clear hy hR
          gi_wp2
          go_roundw
          case rel => exact ⟨i + 1, o + v, v, hlt, by have := HX.out; rw [hw] at this; have := HO.out; omega, by have := HVN.out; omega, by go_num, rfl, hK3⟩
          case measure => show nn - (o + v : Int).toNat < nn - (o : Int).toNat; omega
        · clear hy hR
          gi_wp2
          refine bodyPost_ret (results_none rfl _ _ _) rfl ?_
          exact ⟨⟨_, rfl⟩, .inr hX3⟩
    · have he : i = pieceN nn := by omega
      have o1 : ¬ (o : Int) < nn := by have := piece_end nn; rw [he] at ho; omega
      rw [he] at hJi
      clear hY hL hB ho hv
      gi_wp2
      go_end0
      exact ⟨⟨_, rfl⟩, .inl hJi⟩
end Go.Proofs.YtgkakflnmpoadaaGreatDoor.W
/- A range over an iterator that passes some by. -/
namespace Go.Proofs.YtgkakflnmpoadaaGreatDoor.W
open Go.ChangeShapes Go.WideShapes Go.RowKit Go.Shelf
set_option linter.unusedVariables false
/-- the function gf, with lb captured, tells val k for each k below n that is of P, as long as it is asked, where G holds -/
def IterP (gf : Nat) (lb : Array Value) (n : Nat) (P : Nat → Bool) (val : Nat → Array Value) (G : Nat → World → Prop) : Prop :=
  ∀ (m l : Nat) (J : Nat → World → Prop) (X : World → Prop), 1 ≤ m → (∀ i W, J i W → G i W) → (∀ i W W', J i W → Below W.heap.size W W' → J i W') → (∀ i W, i < n → P i = false → J i W → J (i + 1) W) →
    (∀ i (hi : i < n) W, P i = true → J i W → YieldAt Fence.wide (m - 1) Tryz.prog l (val i) W fun e W' => (e = .returned (.bool true) ∧ J (i + 1) W') ∨ (e = .returned (.bool false) ∧ X W')) →
    ∀ W, J 0 W → CallsIn Fence.wide m Tryz.prog gf (#[.func (.yield l) #[] #[]] ++ lb) W fun e W' => (∃ v, e = .returned v) ∧ (J n W' ∨ X W')
theorem iterP_law {gf : Nat} {lb : Array Value} {n : Nat} {P : Nat → Bool} {val : Nat → Array Value} {G : Nat → World → Prop} (hit : IterP gf lb n P val G) (eg : ∀ args w, (callFunc gf args).run Tryz.prog w = .ok (.enter gf args) w)
    {g : Operand} {ps : Array Tmp} {assign body : Code} {Q : Exit → Act → World → Prop} {a : Act} {W0 : World} (hg : a.eval g = .func (.func gf) #[] lb)
    (I : Nat → World → Prop) (Ix : Code → World → Prop) (hL : ∀ i W, I i W → G i W)
    (hI : ∀ i W W', I i W → Upd (fun k => k = W0.heap.size + 1) W W' → I i W')
    (hIx : ∀ c W W', Ix c W → Upd (fun k => k = W0.heap.size + 1) W W' → Ix c W') (h0 : I 0 W0)
    (hskip : ∀ i W, i < n → P i = false → I i W → I (i + 1) W) (A : Nat → Act) (hsz : ∀ i, (val i).size = ps.size)
    (hassign : ∀ (L i : Nat) (W : World) (K : Act → World → Prop), K (A i) W → assign.wpIn (Fence.wide.inRound L) 7 Tryz.prog (Exit.then K (fun _ _ _ => False)) { tmps := (ps.zip (val i)).foldl (fun t (p, v) => t.setIfInBounds p v) a.tmps, defers := [] } W)
    (hbody : ∀ (L : Nat) i (hi : i < n) W, P i = true → L = W0.heap.size + 1 → I i W → W0.heap.size + 2 ≤ W.heap.size → (∃ r, W.heap[L]? = some (.loop r)) → body.wpIn (Fence.wide.inRound L) 7 Tryz.prog (rndWay L W0.heap.size W (I (i + 1)) Ix) (A i) W)
    (hdone : ∀ W, I n W → W.heap[W0.heap.size]? = some (.deferred (some [])) → Q .normal { a with defers := { target := .collected W0.heap.size, args := #[] } :: a.defers } W)
    (hstop : ∀ c W, Ix c W → W.heap[W0.heap.size]? = some (.deferred (some [])) → c.wp Tryz.prog Q { a with defers := { target := .collected W0.heap.size, args := #[] } :: a.defers } W) :
    (Code.rangeFunc g ps assign body).wp Tryz.prog Q a W0 := by
  have hUL : ∀ (W : World) (o : Obj), Upd (fun k => k = W0.heap.size + 1) W (W.putObj (W0.heap.size + 1) o) := fun W o => upd_put (S := fun k => k = W0.heap.size + 1) (L := W0.heap.size + 1) rfl o
  refine (wpIn_wide (n := 9)).1 (rf_law hg eg (fun W => I n W) Ix ?_ ?_ ?_)
  · intro r W1 hr1 hr2 hr3 hr4 hr5 hr6 hW1 hL1
    have hI1 : I 0 W1 := by
      refine hI 0 W0 W1 h0 ?_
      rw [hW1]; exact ((Upd.refl _ W0).alloc _).alloc _
    have hsz1 : W0.heap.size + 2 ≤ W1.heap.size := by rw [hW1]; simp
    have key := hit 8 (W0.heap.size + 1)
      (fun i W => I i W ∧ LoopAt W (W0.heap.size + 1) W0.heap.size r ∧ W0.heap.size + 2 ≤ W.heap.size)
      (fun W => ∃ c, Ix c W ∧ LoopAt W (W0.heap.size + 1) W0.heap.size { r with state := .done, pending := some c })
      (by omega) (fun i W h => hL i W h.1) ?_ (fun i W hi hp h => ⟨hskip i W hi hp h.1, h.2⟩) ?_ W1 ⟨hI1, hL1, hsz1⟩
    · refine key.mono ?_
      rintro e W3 ⟨hv, ⟨h1, h2, _⟩ | ⟨c, h1, h2⟩⟩
      · exact ⟨hv, .inl ⟨h1, r, h2, by rw [hr1]; simp, hr2⟩⟩
      · exact ⟨hv, .inr ⟨c, h1, _, h2, by simp, rfl⟩⟩
    · rintro i W W' ⟨h1, h2, h3⟩ hb
      exact ⟨hI i W W' h1 (Upd.of_below hb), h2.kept (hb.block _ (by omega)) (hb.block _ (by omega)), by have := hb.size; omega⟩
    · rintro i hi W hP ⟨hi1, hl1, hs1⟩
      have hargs : (val i).size = r.params.size := by rw [hr4]; exact hsz i
      refine YieldAt.mono (yield_law (Rn := fun W' => I (i + 1) W' ∧ LoopAt W' (W0.heap.size + 1) W0.heap.size r ∧ W0.heap.size + 2 ≤ W'.heap.size) (Rx := fun c W' => Ix c W' ∧ LoopAt W' (W0.heap.size + 1) W0.heap.size { r with state := .done, pending := some c }) hl1 hr1 hargs (A i) ?_ ?_) ?_
      · intro K hK
        rw [hr5, hr4, hr3]
        exact hassign _ i W K hK
      · intro W2 hW2 hl2
        have hI2 : I i W2 := by rw [hW2]; exact hI i W _ hi1 (hUL W _)
        have hs2 : W0.heap.size + 2 ≤ W2.heap.size := by rw [hW2]; simpa using hs1
        have hbd := hbody _ i hi W2 hP rfl hI2 hs2 ⟨_, hl2.lp⟩
        rw [← hr6] at hbd
        refine wpIn_mono hbd ?_
        intro e a3 W3 hp
        have put : ∀ q : Loop, (W3.heap[W0.heap.size + 1]? = W2.heap[W0.heap.size + 1]? ∧ W3.heap[W0.heap.size]? = W2.heap[W0.heap.size]?) → LoopAt W3 (W0.heap.size + 1) W0.heap.size { r with state := .busy } ∧ LoopAt (W3.putObj (W0.heap.size + 1) (.loop q)) (W0.heap.size + 1) W0.heap.size q ∧ W0.heap.size + 2 ≤ (W3.putObj (W0.heap.size + 1) (.loop q)).heap.size := by
          rintro q ⟨e1, e2⟩
          have hl3 := hl2.kept e1 e2
          refine ⟨hl3, hl3.put q, ?_⟩
          have := (Array.getElem?_eq_some_iff.1 hl3.lp).1
          simp; omega
        cases e with
        | normal =>
          obtain ⟨hk, hin⟩ := hp
          obtain ⟨p1, p2, p4⟩ := put { r with state := .ready, pending := none } hk
          have er : ({ r with state := .ready, pending := none } : Loop) = r := by cases r; simp_all
          refine ⟨p1, hI _ W3 _ hin (hUL W3 _), ?_, p4⟩
          rw [er] at p2 ⊢
          exact p2
        | ret =>
          obtain ⟨hk, hin⟩ := hp
          obtain ⟨p1, p2, p4⟩ := put { r with state := .done, pending := some .ret } hk
          exact ⟨p1, hIx _ W3 _ hin (hUL W3 _), p2⟩
        | exit id =>
          obtain ⟨hk, hin⟩ := hp
          obtain ⟨p1, p2, p4⟩ := put { r with state := .done, pending := some (.exit id) } hk
          exact ⟨p1, hIx _ W3 _ hin (hUL W3 _), p2⟩
        | goto t => exact hp.elim
        | panic ch => exact hp.elim
        | outgrown => exact hp.elim
      · rintro e W' (⟨rfl, h1⟩ | ⟨rfl, c, h1⟩)
        · exact .inl ⟨rfl, h1⟩
        · exact .inr ⟨rfl, c, h1⟩
  · intro W3 q hd hl
    exact hdone _ (hI _ W3 _ hd (hUL W3 _)) hl.defs
  · intro W3 q c hs hl
    exact wpIn_wide.2 (hstop c _ (hIx _ W3 _ hs (hUL W3 _)) hl.defs)
end Go.Proofs.YtgkakflnmpoadaaGreatDoor.W
/- Package heap: live; a cell that is let go. -/
namespace Go.Proofs.YtgkakflnmpoadaaGreatDoor.W
open Go.ChangeShapes Go.WideShapes Go.RowKit Go.Shelf
set_option linter.unusedVariables false
theorem live_c (W : World) (hb : Nat) : Calls Tryz.prog 163 #[.pointer (some ⟨hb, 0, none⟩)] W fun e w' => e = .returned (.func (.func 207) #[] #[.pointer (some ⟨W.heap.size, 0, none⟩)]) ∧ w' = W.alloc (.cells #[.pointer (some ⟨hb, 0, none⟩)] 25) := by
  go_enter Tryz.func163, Tryz.ntmps163
  go_wp2
  go_ret
  exact ⟨rfl, rfl⟩
theorem eg_live : ∀ args w, (callFunc 207 args).run Tryz.prog w = .ok (.enter 207 args) w := enters_of Tryz.func207 (by kernel_rfl) rfl
set_option maxHeartbeats 1000000 in
theorem live_iter (Bh hb n : Nat) (P : Nat → Bool) :
    IterP 207 #[.pointer (some ⟨Bh, 0, none⟩)] n P (fun k => #[.int .i64 (k : Nat)]) (fun i W => W.cell? ⟨Bh, 0, none⟩ = some (.pointer (some ⟨hb, 0, none⟩)) ∧ ∃ sb vc T H u h, HLay W hb sb vc T H u h ∧ H.length = n ∧ ∀ k, i ≤ k → k < n → ((H[k]?).getD none).isSome = P k) := by
  intro m l J X hm hL hB hS hY W h0
  show CallsIn Fence.wide m Tryz.prog 207 #[.func (.yield l) #[] #[], .pointer (some ⟨Bh, 0, none⟩)] W _
  have hn : n ≤ 1048576 := by
    obtain ⟨_, sb, vc, T, H, u, h, g, e, _⟩ := hL 0 W h0
    have := g.len
    omega
  refine callsIn_of_wp Tryz.func207 rfl trivial ?_ rfl
  simp only [Tryz.ntmps207, List.size_toArray, List.length_cons, List.length_nil, Nat.reduceAdd, Nat.reduceSub, Array.replicate_succ, Array.replicate_zero, List.push_toArray, List.append_toArray, List.nil_append, List.cons_append]
  gi_wp2
  gi_loopw [3] (fun ii wr => ∃ k : Nat, k ≤ n ∧ ii = .int .i64 k ∧ J k wr) (fun ii _ => n - (intOf ii).toNat)
  case atStart => exact ⟨0, Nat.zero_le _, rfl, h0⟩
  case round =>
    obtain ⟨k, hk, rfl, hJ⟩ := hrel
    obtain ⟨cB, sb, vc, T, H, u, h, g, hlen, hP⟩ := hL k wr hJ
    have c1 := g.cell 1
    simp only [List.getElem?_cons_succ, List.getElem?_cons_zero] at c1
    have k0 : (0 : Int) ≤ k := by omega
    have w1 : IntKind.i64.wrap ((k : Int) + 1) = (k : Int) + 1 := by rw [IntKind.wrap_i64]; omega
    by_cases hlt : k < n
    · have k1 : (k : Int) < H.length := by omega
      obtain ⟨b, cap, hvc, hcell, _⟩ := g.at (i := k) (by omega)
      have hget : H[k]? = some H[k] := List.getElem?_eq_getElem (by omega)
      have hc := hcell 0 H[k] hget (by omega)
      have hPk := hP k (Nat.le_refl _) hlt
      rw [hget] at hPk
      simp only [Option.getD_some] at hPk
      rw [hvc] at c1
      cases hx : H[k] with
      | none =>
        rw [hx] at hc hPk
        simp only [clO, Cl.cells, List.getElem?_cons_zero, Nat.add_zero] at hc
        have hJ2 := hid (hS k wr hlt (by rw [← hPk]; rfl) hJ)
        clear hY hL hB hS hP hcell hPk hx hget g hJ
        gi_wp2
        refine ⟨(fun f hf => by cases hf), ?_⟩
        gi_wp2
        go_roundw
        case rel => exact ⟨k + 1, by omega, by go_num, hJ2.out⟩
        case measure => show n - (k + 1 : Int).toNat < n - (k : Int).toNat; omega
      | some c =>
        rw [hx] at hc hPk
        simp only [clO, Cl.cells, List.getElem?_cons_zero, Nat.add_zero] at hc
        have hk0 := Hc.kind_ne (g.ok k c (by rw [hget, hx]))
        obtain ⟨fn, tmps, assign, body, hy, hR⟩ := hY k hlt wr (by rw [← hPk]; rfl) hJ
        have d2 : (c.cl.kind == 0) = false := by simpa using hk0
        clear hL hB hS hP hcell hPk hx hget g hJ hY
        gi_wp2
        refine hR.mono ?_
        rintro e W3 (⟨rfl, hK3⟩ | ⟨rfl, hX3⟩)
        · clear hy hR
          gi_wp2
          go_roundw
          case rel => exact ⟨k + 1, by omega, by go_num, hK3⟩
          case measure => show n - (k + 1 : Int).toNat < n - (k : Int).toNat; omega
        · clear hy hR
          gi_wp2
          refine bodyPost_ret (results_none rfl _ _ _) rfl ?_
          exact ⟨⟨_, rfl⟩, .inr hX3⟩
    · have he : k = n := by omega
      subst he
      have k1 : ¬ (k : Int) < H.length := by omega
      obtain ⟨o, cap, hvc⟩ := g.sl
      rw [hvc] at c1
      have HJ := hid hJ
      clear hY hL hB hS hP g hJ
      gi_wp2
      go_end0
      exact ⟨⟨_, rfl⟩, .inl HJ.out⟩
/-- five cells of the table are written -/
theorem flatC_cons (a : Option Hc) (H : List (Option Hc)) : flatC (a :: H) = (clO a).cells ++ flatC H := by simp [flatC]
theorem flatC_five (H : List (Option Hc)) (k : Nat) (c' : Option Hc) (hk : k < H.length) : (((((flatC H).set (k * 5) (.int .i64 (clO c').kind)).set (k * 5 + 1) (.bool (clO c').view)).set (k * 5 + 2) (.int .u64 (clO c').base)).set (k * 5 + 3) (.int .i64 (clO c').frm)).set (k * 5 + 4) (.int .i64 (clO c').len) = flatC (H.set k c') := by
  induction H generalizing k with
  | nil => simp at hk
  | cons a H ih =>
    cases k with
    | zero =>
      rw [List.set_cons_zero, flatC_cons, flatC_cons]
      simp [Cl.cells]
    | succ k =>
      have h5 : ∀ (l : List Value) (j : Nat) (v : Value), ((clO a).cells ++ l).set ((k + 1) * 5 + j) v = (clO a).cells ++ l.set (k * 5 + j) v := by
        intro l j v
        rw [List.set_append_right _ _ (by rw [Cl.cells_len]; omega), Cl.cells_len]
        congr 2
        omega
      have h50 : ∀ (l : List Value) (v : Value), ((clO a).cells ++ l).set ((k + 1) * 5) v = (clO a).cells ++ l.set (k * 5) v := fun l v => h5 l 0 v
      rw [List.set_cons_succ, flatC_cons, flatC_cons, h50, h5, h5, h5, h5, ih k (by simpa using hk)]
section
variable {W W' : World} {hb sb : Nat} {vc : Value} {T : Nat → Prop} {H : List (Option Hc)} {u h : Nat}
theorem HLay.gave (g : HLay W hb sb vc T H u h) (k : Nat) (hk : k < H.length) (hU : Upd T W W') (hS : St W' (Nx T W W') sb ((hA H).set k none) 8388608 1048577) {b cap : Nat} (hvc : vc = .slice (some ⟨b, 0, none⟩) H.length cap) :
    HLay (((((W'.setCell ⟨b, k * 5, none⟩ (.int .i64 0)).setCell ⟨b, k * 5 + 1, none⟩ (.bool false)).setCell ⟨b, k * 5 + 2, none⟩ (.int .u64 0)).setCell ⟨b, k * 5 + 3, none⟩ (.int .i64 0)).setCell ⟨b, k * 5 + 4, none⟩ (.int .i64 0)) hb sb vc (Nx T W W') (H.set k none) u h ∧
    Upd (fun x => T x ∨ x = b) W (((((W'.setCell ⟨b, k * 5, none⟩ (.int .i64 0)).setCell ⟨b, k * 5 + 1, none⟩ (.bool false)).setCell ⟨b, k * 5 + 2, none⟩ (.int .u64 0)).setCell ⟨b, k * 5 + 3, none⟩ (.int .i64 0)).setCell ⟨b, k * 5 + 4, none⟩ (.int .i64 0)) := by
  subst hvc
  have hbT := g.tvc b rfl
  have hbl := g.clt b rfl
  have hbh : b ≠ hb := by
    rintro rfl
    exact own_ne g.own g.obj (by decide) rfl
  have o0 : W'.ownsRow 0 146 5 (.slice (some ⟨b, 0, none⟩) H.length cap) H.length (flatC H) := owns_on g.own (fun k e => by cases e; exact hU.block b hbl hbT)
  have o1 := (o0.stored (k * 5) (.int .i64 0)).1
  have o2 := (o1.stored (k * 5 + 1) (.bool false)).1
  have o3 := (o2.stored (k * 5 + 2) (.int .u64 0)).1
  have o4 := (o3.stored (k * 5 + 3) (.int .i64 0)).1
  have o5 := (o4.stored (k * 5 + 4) (.int .i64 0)).1
  have e5 := flatC_five H k none hk
  simp only [clO] at e5
  rw [show ((0 : Nat) : Int) = 0 from rfl] at e5
  rw [e5] at o5
  have hx : ∀ x : Nat, x ≠ b → (((((W'.setCell ⟨b, k * 5, none⟩ (.int .i64 0)).setCell ⟨b, k * 5 + 1, none⟩ (.bool false)).setCell ⟨b, k * 5 + 2, none⟩ (.int .u64 0)).setCell ⟨b, k * 5 + 3, none⟩ (.int .i64 0)).setCell ⟨b, k * 5 + 4, none⟩ (.int .i64 0)).heap[x]? = W'.heap[x]? := by
    intro x hne
    rw [Below.heap_setCell _ _ _ _ hne, Below.heap_setCell _ _ _ _ hne, Below.heap_setCell _ _ _ _ hne, Below.heap_setCell _ _ _ _ hne, Below.heap_setCell _ _ _ _ hne]
  have hz : (((((W'.setCell ⟨b, k * 5, none⟩ (.int .i64 0)).setCell ⟨b, k * 5 + 1, none⟩ (.bool false)).setCell ⟨b, k * 5 + 2, none⟩ (.int .u64 0)).setCell ⟨b, k * 5 + 3, none⟩ (.int .i64 0)).setCell ⟨b, k * 5 + 4, none⟩ (.int .i64 0)).heap.size = W'.heap.size := by simp [World.setCell]
  have hNb : ¬ Nx T W W' b := by
    rintro (e | e)
    · exact hbT e
    · omega
  refine ⟨⟨?_, ?_, ?_, ?_, ?_, ?_, ?_, ?_, g.u1, g.h1⟩, ?_⟩
  · rw [hx hb (Ne.symm hbh), hU.block hb g.hlt g.thb]
    exact g.obj
  · rw [List.length_set]; exact o5
  · rw [← hA_set]
    exact hS.on (fun x e => hx x (by rintro rfl; exact hNb e))
  · rintro x (e | e)
    · rw [hz]; exact Nat.lt_of_lt_of_le (g.tlt x e) hU.size
    · rw [hz]; exact e.2
  · rintro (e | e)
    · exact g.thb e
    · have := g.hlt; omega
  · intro x e
    cases e
    exact hNb
  · intro i c e
    by_cases hik : i = k
    · subst hik
      rw [List.getElem?_set_self hk] at e
      cases e
    · rw [List.getElem?_set_ne (Ne.symm hik)] at e
      exact g.ok i c e
  · rw [List.length_set]; exact g.len
  · have hU' : Upd (fun x => T x ∨ x = b) W W' := hU.mono (fun x e => .inl e)
    exact ((((hU'.setCell (p := ⟨b, k * 5, none⟩) (.inl (.inr rfl)) _).setCell (p := ⟨b, k * 5 + 1, none⟩) (.inl (.inr rfl)) _).setCell (p := ⟨b, k * 5 + 2, none⟩) (.inl (.inr rfl)) _).setCell (p := ⟨b, k * 5 + 3, none⟩) (.inl (.inr rfl)) _).setCell (p := ⟨b, k * 5 + 4, none⟩) (.inl (.inr rfl)) _
end
end Go.Proofs.YtgkakflnmpoadaaGreatDoor.W
/- A row of one's own beside a store grows by append, and is written. -/
namespace Go.Proofs.YtgkakflnmpoadaaGreatDoor.W
open Go.ChangeShapes Go.WideShapes Go.RowKit Go.Shelf
set_option linter.unusedVariables false
section
variable {W : World} {sb : Nat} {A : List (Option (List Nat))} {B : Nat} {v : Value} {n : Nat} {xs : List Value}
theorem owns_base {b b' : Nat} {e : TypeId} {size : Nat} (h : W.ownsRow b e size v n xs) (hb : ∀ g, v.ownBlock = some g → b' ≤ g) : W.ownsRow b' e size v n xs := by
  refine ⟨h.1, ?_⟩
  rcases h.2 with hn | ⟨g, cap, cur, rfl, _, rest⟩
  · exact .inl hn
  · exact .inr ⟨g, cap, cur, rfl, hb g rfl, rest⟩
theorem under34 : Tryz.prog.underlying 66 = some (.slice 3) := by kernel_rfl
end
end Go.Proofs.YtgkakflnmpoadaaGreatDoor.W
