import Derived.Test.YtaebnnkhjlidiabBase10
import Derived.Test.YtaebnnkhjlidiabBase7
/- Package store: New and Save over what all Ids hold. -/
namespace Go.Proofs.Ytaebnnkhjlidiab.W
open Go.ChangeShapes Go.WideShapes Go.RowKit Go.Shelf
set_option linter.unusedVariables false
theorem seg_saved_in (row : List Nat) (p l o v w : Nat) (h : o + w ≤ l) (hr : p + l ≤ row.length) : seg (saved row (p + o) v w) p l = saved (seg row p l) o v w := by
  apply List.ext_getElem?
  intro i
  have hl := seg_len row p l hr
  by_cases hi : i < l
  · rw [seg_get _ _ _ _ hi, saved_get _ _ _ _ _ (by omega), saved_get _ _ _ _ _ (by omega), seg_get _ _ _ _ hi]
    by_cases c : o ≤ i ∧ i < o + w
    · rw [if_pos (by omega), if_pos c, show p + i - (p + o) = i - o by omega]
    · rw [if_neg (by omega), if_neg c]
  · rw [List.getElem?_eq_none (by simp [seg]; omega), List.getElem?_eq_none (by rw [saved_len]; omega)]
theorem seg_saved_out (row : List Nat) (q v w a n : Nat) (hr : q + w ≤ row.length) (ho : a + n ≤ q ∨ q + w ≤ a) : seg (saved row q v w) a n = seg row a n :=
  seg_ext (fun i hi => by rw [saved_get _ _ _ _ _ hr, if_neg (by omega)])
theorem saved_byte (row : List Nat) (p v k : Nat) (h : ∀ x ∈ row, x < 256) : ∀ x ∈ saved row p v k, x < 256 := by
  induction k with
  | zero => exact h
  | succ k ih =>
    intro x hx
    rcases List.mem_or_eq_of_mem_set hx with g | g
    · exact ih x g
    · rw [g]; exact Nat.mod_lt _ (by omega)
section
variable {W : World} {sb : Nat} {S : Nat → Prop} {A : List (Option (List Nat))} {U N : Nat}
theorem save_st (h : St W S sb A U N) (id : Nat) (x : List Nat) (hx : A[id]? = some (some x)) (o wd v : Nat) (hv : v < 18446744073709551616) (hw : wd = 1 ∨ wd = 2 ∨ wd = 4 ∨ wd = 8) (ha : o % wd = 0) (ho : o + wd ≤ x.length) : Calls Try.prog 84 #[.pointer (some ⟨sb, 0, none⟩), .int .i64 id, .int .i64 o, .int .i64 wd, .int .u64 v] W fun e w' => e = .returned (.int .i64 0) ∧ Upd S W w' ∧ St w' S sb (A.set id (some (saved x o v wd))) U N := by
  obtain ⟨s, E, vr, vb, vf, hL, hO, f⟩ := h
  have hidA := (List.getElem?_eq_some_iff.1 hx).1
  have hAx : A[id] = some x := (List.getElem?_eq_some_iff.1 hx).2
  have hheld : held s id = some x := by rw [f.all.2, hx]; rfl
  obtain ⟨b, hb, hlv, hxs⟩ := held_some hheld
  obtain ⟨p, l, hp, hl, hin⟩ := fine_in f.good hb hlv
  have hxl : x = seg s.row p l := by rw [hxs, hp, hl, Int.toNat_natCast, Int.toNat_natCast]
  have hxl2 : x.length = l := by rw [hxl]; exact seg_len _ _ _ hin
  have hsA := sumA_set A id (some (saved x o v wd)) hidA
  rw [hAx] at hsA
  have e1 : lenA (some (saved x o v wd)) = lenA (some x) := by show up8N _ = up8N _; rw [saved_len]
  rw [e1] at hsA
  have hsum : sumA (A.set id (some (saved x o v wd))) = sumA A := by omega
  refine (save_ok hL f.fit id wd v hv b (ext_of hb hlv) hw o p hp (by omega) (by omega) (by omega) hO).mono ?_
  rintro e w' ⟨rfl, hL', hU'⟩
  refine ⟨rfl, hU', _, E, vr, vb, vf, hL', hO, ?_, ⟨?_, ?_⟩, by rw [hsum]; exact f.sum, f.lens, ?_, by rw [hsum]; exact f.top, by rw [List.length_set]; exact f.num, f.u9, f.n9⟩
  · have g := f.good
    exact ⟨g.nodup, by show Lies E (saved _ _ _ _).length; rw [saved_len]; exact g.lies, g.get, saved_byte _ _ _ _ g.byte, g.hand, g.zero, g.heap, g.nodupF, g.free, g.used, by show (saved _ _ _ _).length % 8 = 0; rw [saved_len]; exact g.row8⟩
  · rw [List.length_set]; exact f.all.1
  · intro i
    by_cases c : i = id
    · rw [c, List.getElem?_set_self hidA]
      unfold held
      show (match s.blks[id]? with | some b => if b.live = true then some (seg (saved s.row (p + o) v wd) b.pos.toNat b.len.toNat) else none | none => none) = some (saved x o v wd)
      rw [hb]
      simp only [hlv, if_true, hp, hl, Int.toNat_natCast]
      rw [seg_saved_in _ _ _ _ _ _ (by omega) hin, ← hxl]
    · rw [List.getElem?_set_ne (by omega), ← f.all.2 i]
      refine held_get i rfl ?_
      intro b' hb' hlv'
      rw [get_blks] at hb'
      show seg (saved s.row (p + o) v wd) _ _ = _
      rcases fine_at f.good hb' hlv' with ⟨k', hk', hki', rfl⟩ | ⟨_, rfl⟩
      · rcases fine_at f.good hb hlv with ⟨k, hk, hki, rfl⟩ | ⟨_, rfl⟩
        · have hp' : (rg E (k + 1)).p = p := Int.ofNat_inj.1 hp
          have hl' : (rg E (k + 1)).l = l := Int.ofNat_inj.1 hl
          have hne : k ≠ k' := by rintro rfl; omega
          show seg _ (rg E (k' + 1)).p (rg E (k' + 1)).l = seg _ (rg E (k' + 1)).p (rg E (k' + 1)).l
          refine seg_saved_out _ _ _ _ _ _ (by omega) ?_
          have u1 := up8N_ge (rg E (k + 1)).l
          have u2 := up8N_ge (rg E (k' + 1)).l
          rcases Nat.lt_or_gt_of_ne hne with c | c
          · have := rg_lt f.good.lies (i := k + 1) (j := k' + 1) (by omega) hk'
            unfold Ex.stop at this
            right; omega
          · have := rg_lt f.good.lies (i := k' + 1) (j := k + 1) (by omega) hk
            unfold Ex.stop at this
            left; omega
        · have : l = 0 := Int.ofNat_inj.1 hl.symm
          omega
      · rfl
  · show (saved _ _ _ _).length ≤ _
    rw [saved_len]; exact f.row
theorem new_st (W : World) (U N : Nat) (hU : U ≤ 100000000000) (hN : N ≤ 100000000) : Calls Try.prog 19 #[] W fun e w' => e = .returned (.pointer (some ⟨W.heap.size, 0, none⟩)) ∧ St w' (fun k => k = W.heap.size) W.heap.size [] U N ∧ Below W.heap.size W w' ∧ w'.heap.size = W.heap.size + 1 := by
  refine (new_c W).mono ?_
  rintro e w' ⟨rfl, hL, hB, hz⟩
  refine ⟨rfl, ⟨emptySto, [], _, _, _, hL, ?_, ?_⟩, hB, hz⟩
  · exact ⟨rfl, by simp [Value.ownBlock], by simp [Value.ownBlock], by simp [Value.ownBlock]⟩
  · refine ⟨⟨?_, ?_, ?_, ?_, ?_, ?_, ?_, ?_, ?_, rfl, rfl⟩, ⟨rfl, fun i => by simp [held, emptySto]⟩, rfl, ?_, ?_, Nat.zero_le _, Nat.zero_le _, hU, hN⟩
    · simp [ring]
    · refine ⟨?_, ?_, ?_⟩
      · intro i e f' he hf
        simp [ring] at hf
      · intro e he; cases he
      · intro e he
        simp [ring] at he
        rw [he]; exact Nat.le_refl _
    · intro i e he
      cases i with
      | zero => simp [ring] at he; subst he; rfl
      | succ i => simp [ring] at he
    · intro x hx; cases hx
    · exact ⟨front, List.mem_cons_self .., rfl⟩
    · intro id b hb; simp [emptySto] at hb
    · intro k h0 hk; exact absurd hk (by simp [emptySto])
    · exact List.nodup_nil
    · intro x; simp [emptySto]
    · intro e he; cases he
    · show 0 ≤ _; omega
end
end Go.Proofs.Ytaebnnkhjlidiab.W
/- Package store: Len, Load, Save and their errors, Span behind Pack, over what all Ids hold. -/
namespace Go.Proofs.Ytaebnnkhjlidiab.W
open Go.ChangeShapes Go.WideShapes Go.RowKit Go.Shelf
set_option linter.unusedVariables false
section
variable {W : World} {sb : Nat} {S : Nat → Prop} {A : List (Option (List Nat))} {U N : Nat}
theorem len_st (h : St W S sb A U N) (id : Nat) (x : List Nat) (hx : A[id]? = some (some x)) : Calls Try.prog 73 #[.pointer (some ⟨sb, 0, none⟩), .int .i64 id] W fun e w' => e = .returned (.tuple #[.int .i64 x.length, .int .i64 0]) ∧ w' = W := by
  obtain ⟨s, E, vr, vb, vf, hL, hO, f⟩ := h
  have hheld : held s id = some x := by rw [f.all.2, hx]; rfl
  obtain ⟨b, hb, hlv, hxs⟩ := held_some hheld
  obtain ⟨p, l, hp, hl, hin⟩ := fine_in f.good hb hlv
  have hxl : x.length = l := by rw [hxs, hp, hl, Int.toNat_natCast, Int.toNat_natCast]; exact seg_len _ _ _ hin
  have := len_some hL f.fit.len id b (ext_of hb hlv)
  rw [hl] at this
  rw [hxl]
  exact this
/-- the error of reaching so many bytes of an Id -/
def errA (A : List (Option (List Nat))) (id off wd : Int) : Int := if id < 0 then 30 else match (A[id.toNat]?).getD none with | none => 30 | some x => reachE x.length off wd
theorem part_st (h : St W S sb A U N) (id off wd : Int) (he : errA A id off wd ≠ 0) : Calls Try.prog 91 #[.pointer (some ⟨sb, 0, none⟩), .int .i64 id, .int .i64 off, .int .i64 wd] W fun e w' => e = .returned (.tuple #[.slice none 0 0, .int .i64 (errA A id off wd)]) ∧ Below W.heap.size W w' := by
  obtain ⟨s, E, vr, vb, vf, hL, hO, f⟩ := h
  have same : ∀ {v : Int}, (Calls Try.prog 91 #[.pointer (some ⟨sb, 0, none⟩), .int .i64 id, .int .i64 off, .int .i64 wd] W fun e w' => e = .returned (.tuple #[.slice none 0 0, .int .i64 v]) ∧ w' = W) → Calls Try.prog 91 #[.pointer (some ⟨sb, 0, none⟩), .int .i64 id, .int .i64 off, .int .i64 wd] W fun e w' => e = .returned (.tuple #[.slice none 0 0, .int .i64 v]) ∧ Below W.heap.size W w' := by
    intro v c
    refine c.mono ?_
    rintro e w' ⟨rfl, rfl⟩
    exact ⟨rfl, Below.refl _ _⟩
  have hnone : s.ext id = none → errA A id off wd = 30 → Calls Try.prog 91 #[.pointer (some ⟨sb, 0, none⟩), .int .i64 id, .int .i64 off, .int .i64 wd] W fun e w' => e = .returned (.tuple #[.slice none 0 0, .int .i64 (errA A id off wd)]) ∧ Below W.heap.size W w' := by
    intro h1 h2
    rw [h2]
    exact same (part_none hL f.fit.len id off wd h1)
  by_cases c : id < 0
  · exact hnone (ext_no (.inl c)) (by unfold errA; rw [if_pos c])
  · obtain ⟨k, rfl⟩ : ∃ k : Nat, id = k := ⟨id.toNat, by omega⟩
    cases ha : (A[k]?).getD none with
    | none => exact hnone (ext_no (.inr (by rw [f.all.2]; exact ha))) (by unfold errA; rw [if_neg c, Int.toNat_natCast, ha])
    | some x =>
      have hheld : held s k = some x := by rw [f.all.2, ha]
      obtain ⟨b, hb, hlv, hxs⟩ := held_some hheld
      obtain ⟨p, l, hp, hl, hin⟩ := fine_in f.good hb hlv
      have hxl : x.length = l := by rw [hxs, hp, hl, Int.toNat_natCast, Int.toNat_natCast]; exact seg_len _ _ _ hin
      have e0 : errA A k off wd = reachE l off wd := by unfold errA; rw [if_neg c, Int.toNat_natCast, ha]; simp only []; rw [hxl]
      rw [e0] at he ⊢
      have hx := ext_of hb hlv
      unfold reachE at he ⊢
      by_cases c1 : wd = 1 ∨ wd = 2 ∨ wd = 4 ∨ wd = 8
      · rw [if_neg (not_not_intro c1)] at he ⊢
        by_cases c2 : off % wd ≠ 0
        · rw [if_pos c2]
          exact same (part_align hL f.fit.len k off wd b hx c1 c2)
        · rw [if_neg c2] at he ⊢
          by_cases c3 : off < 0 ∨ off > (l : Int) - wd
          · rw [if_pos c3]
            exact part_index hL f.fit k off wd b hx c1 (Decidable.not_not.1 c2) (by rw [hl]; exact c3)
          · rw [if_neg c3] at he
            exact absurd rfl he
      · rw [if_pos c1]
        exact same (part_kind hL f.fit.len k off wd b hx c1)
theorem load_st_err (h : St W S sb A U N) (id off wd : Int) (he : errA A id off wd ≠ 0) : Calls Try.prog 81 #[.pointer (some ⟨sb, 0, none⟩), .int .i64 id, .int .i64 off, .int .i64 wd] W fun e w' => e = .returned (.tuple #[.int .u64 0, .int .i64 (errA A id off wd)]) ∧ Below W.heap.size W w' :=
  load_err _ (by simpa using he) _ _ _ _ _ (part_st h id off wd he)
theorem save_st_err (h : St W S sb A U N) (id off wd : Int) (v : Value) (he : errA A id off wd ≠ 0) : Calls Try.prog 84 #[.pointer (some ⟨sb, 0, none⟩), .int .i64 id, .int .i64 off, .int .i64 wd, v] W fun e w' => e = .returned (.int .i64 (errA A id off wd)) ∧ Below W.heap.size W w' :=
  save_err _ _ _ _ _ v (part_st h id off wd he)
theorem errA_ok (id off wd : Int) (h : errA A id off wd = 0) : ∃ (k o d : Nat) (x : List Nat), id = k ∧ off = o ∧ wd = d ∧ A[k]? = some (some x) ∧ (d = 1 ∨ d = 2 ∨ d = 4 ∨ d = 8) ∧ o % d = 0 ∧ o + d ≤ x.length := by
  unfold errA at h
  by_cases c : id < 0
  · rw [if_pos c] at h; cases h
  · rw [if_neg c] at h
    cases ha : (A[id.toNat]?).getD none with
    | none => rw [ha] at h; cases h
    | some x =>
      rw [ha] at h
      simp only [] at h
      unfold reachE at h
      by_cases c1 : wd = 1 ∨ wd = 2 ∨ wd = 4 ∨ wd = 8
      · rw [if_neg (not_not_intro c1)] at h
        by_cases c2 : off % wd ≠ 0
        · rw [if_pos c2] at h; cases h
        · rw [if_neg c2] at h
          by_cases c3 : off < 0 ∨ off > (x.length : Int) - wd
          · rw [if_pos c3] at h; cases h
          · have c2' := Decidable.not_not.1 c2
            refine ⟨id.toNat, off.toNat, wd.toNat, x, by omega, by omega, by omega, ?_, by omega, ?_, by omega⟩
            · cases e : A[id.toNat]? with
              | none => rw [e] at ha; cases ha
              | some y => rw [e] at ha; rw [← ha]; rfl
            · rcases c1 with rfl | rfl | rfl | rfl
              · show off.toNat % 1 = 0; omega
              · show off.toNat % 2 = 0; omega
              · show off.toNat % 4 = 0; omega
              · show off.toNat % 8 = 0; omega
      · rw [if_pos c1] at h; cases h
/-- packed: the row has no byte too many -/
def StT (W : World) (S : Nat → Prop) (sb : Nat) (A : List (Option (List Nat))) (U N : Nat) : Prop := ∃ s E vr vb vf, Lay W sb vr vb vf s ∧ Own S sb vr vb vf ∧ Fine s E A U N ∧ s.row.length = sumA A
theorem StT.st (h : StT W S sb A U N) : St W S sb A U N := by
  obtain ⟨s, E, vr, vb, vf, hL, hO, f, _⟩ := h
  exact ⟨s, E, vr, vb, vf, hL, hO, f⟩
theorem pack_stT (h : St W S sb A U N) : Calls Try.prog 100 #[.pointer (some ⟨sb, 0, none⟩)] W fun e w' => e = .returned (.tuple #[]) ∧ Upd S W w' ∧ StT w' S sb A U N := by
  obtain ⟨s, E, vr, vb, vf, hL, hO, f⟩ := h
  refine (pack_c hL f.fit (ring_pk f.good.rng) hO).mono ?_
  rintro e w' ⟨rfl, hU, vr', hL', hO'⟩
  have hrow : (pkd s E).row.length = sumA A := by rw [pkd_row f.good.rng, enE_sum, f.sum]
  refine ⟨rfl, hU, _, packE E, vr', vb, vf, hL', hO', ⟨good_packed f.good, ⟨?_, ?_⟩, ?_, ?_, ?_, f.top, f.num, f.u9, f.n9⟩, hrow⟩
  · exact (packN_blks _).trans f.all.1
  · intro i; rw [pack_held f.good i]; exact f.all.2 i
  · rw [packE_sum]; exact f.sum
  · intro e he
    obtain ⟨x, hx, hl⟩ := packE_lens e he
    rw [← hl]; exact f.lens x hx
  · rw [hrow]
    have := f.top
    omega
end
end Go.Proofs.Ytaebnnkhjlidiab.W
/- The heap of chapter 6 in plain words: cells by handle, their bytes, what they need, what is reached. -/
namespace Go.Proofs.Ytaebnnkhjlidiab.W
set_option linter.unusedVariables false
/-- a cell -/
inductive Hc where
  | num (i : Int)
  | text (b : List Nat)
  | buf (k : Int) (b : List Nat)
  | view (k : Int) (base : Nat) (p n : Nat)
  | row (ws : List Nat)
/-- a word's bytes, the lowest first -/
def le8 (x : Nat) : List Nat := (List.range 8).map (fun i => x / 256 ^ i % 256)
def Hc.bytes : Hc → List Nat
  | .num i => le8 (i % 18446744073709551616).toNat
  | .text b => b
  | .buf _ b => b
  | .view _ _ _ _ => []
  | .row ws => ws.flatMap le8
/-- what stands in the table of cells -/
structure Cl where
  kind : Int
  view : Bool
  base : Nat
  frm : Int
  len : Int
def Cl.cells (c : Cl) : List Value := [.int .i64 c.kind, .bool c.view, .int .u64 c.base, .int .i64 c.frm, .int .i64 c.len]
def Hc.cl : Hc → Cl
  | .num _ => ⟨2, false, 0, 0, 0⟩
  | .text _ => ⟨4, false, 0, 0, 0⟩
  | .buf k _ => ⟨k, false, 0, 0, 0⟩
  | .view k b p n => ⟨k, true, b, p, n⟩
  | .row _ => ⟨9, false, 0, 0, 0⟩
def clO : Option Hc → Cl
  | none => ⟨0, false, 0, 0, 0⟩
  | some c => c.cl
/-- bytes of an element -/
def elB (k : Int) : Nat := if k = 5 then 8 else if k = 6 then 4 else if k = 7 then 2 else if k = 8 then 1 else 0
/-- shapes -/
def shp (k : Int) (v : Bool) : Int := if elB k > 0 then (if v = true then 4 else 3) else if v = true then 0 else if k = 2 then 1 else if k = 4 then 2 else if k = 9 then 5 else 0
def Hc.ok : Hc → Prop
  | .num i => -9223372036854775808 ≤ i ∧ i < 9223372036854775808
  | .text b => (∀ x ∈ b, x < 256) ∧ b.length ≤ 8388608
  | .buf k b => elB k > 0 ∧ (∀ x ∈ b, x < 256) ∧ b.length ≤ 8388608
  | .view k base p n => elB k > 0 ∧ base < 18446744073709551616 ∧ p ≤ 8388608 ∧ n ≤ 8388608
  | .row ws => (∀ x ∈ ws, x < 18446744073709551616) ∧ ws.length ≤ 1048576
def Hc.need (c : Hc) : Nat := 1 + (c.bytes.length + 7) / 8
def needO : Option Hc → Nat
  | none => 0
  | some c => c.need
/-- what all need -/
def sumH (H : List (Option Hc)) : Nat := (H.map needO).foldr (· + ·) 0
/-- what the extents hold -/
def hA (H : List (Option Hc)) : List (Option (List Nat)) := H.map (Option.map Hc.bytes)
/-- which cell a word is of -/
def hit (H : List (Option Hc)) (w : Nat) : Option Nat := if cls w = 6 ∧ ((H[w % 281474976710656]?).getD none).isSome = true then some (w % 281474976710656) else none
def Hc.succ : Hc → List Nat
  | .row ws => ws
  | .view _ b _ _ => [b]
  | _ => []
/-- what is reached -/
inductive Rch (H : List (Option Hc)) (ws : List Nat) : Nat → Prop
  | root (w i : Nat) : w ∈ ws → hit H w = some i → Rch H ws i
  | step (j i w : Nat) (c : Hc) : Rch H ws j → H[j]? = some (some c) → w ∈ c.succ → hit H w = some i → Rch H ws i
theorem hA_len (H : List (Option Hc)) : (hA H).length = H.length := by simp [hA]
theorem hA_get (H : List (Option Hc)) (i : Nat) : (hA H)[i]? = (H[i]?).map (Option.map Hc.bytes) := by simp [hA]
theorem hA_some {H : List (Option Hc)} {i : Nat} {c : Hc} (h : H[i]? = some (some c)) : (hA H)[i]? = some (some c.bytes) := by rw [hA_get, h]; rfl
theorem hA_none {H : List (Option Hc)} {i : Nat} (h : (H[i]?).getD none = none) : ((hA H)[i]?).getD none = none := by
  rw [hA_get]
  cases e : H[i]? with
  | none => rfl
  | some x => rw [e] at h; simp at h; subst h; rfl
theorem hA_set (H : List (Option Hc)) (i : Nat) (c : Option Hc) : (hA H).set i (c.map Hc.bytes) = hA (H.set i c) := by
  unfold hA; rw [List.map_set]
theorem hA_snoc (H : List (Option Hc)) (c : Option Hc) : hA (H ++ [c]) = hA H ++ [c.map Hc.bytes] := by simp [hA]
theorem le8_len (x : Nat) : (le8 x).length = 8 := by simp [le8]
theorem le8_lt (x : Nat) : ∀ y ∈ le8 x, y < 256 := by
  intro y hy
  unfold le8 at hy
  obtain ⟨i, _, rfl⟩ := List.mem_map.1 hy
  exact Nat.mod_lt _ (by decide)
theorem row_len (ws : List Nat) : (ws.flatMap le8).length = 8 * ws.length := by
  induction ws with
  | nil => rfl
  | cons w ws ih => rw [List.flatMap_cons, List.length_append, ih, le8_len, List.length_cons]; omega
theorem leN_le8 (x : Nat) (h : x < 18446744073709551616) : leN (le8 x) = x := by
  have e : le8 x = [x % 256, x / 256 % 256, x / 65536 % 256, x / 16777216 % 256, x / 4294967296 % 256, x / 1099511627776 % 256, x / 281474976710656 % 256, x / 72057594037927936 % 256] := by
    unfold le8; simp [List.range_succ]
  rw [e]
  simp only [leN]
  omega
theorem row_seg (ws : List Nat) (i w : Nat) (h : ws[i]? = some w) : seg (ws.flatMap le8) (8 * i) 8 = le8 w := by
  induction ws generalizing i with
  | nil => simp at h
  | cons a ws ih =>
    cases i with
    | zero =>
      simp at h; subst h
      unfold seg
      rw [List.flatMap_cons, Nat.mul_zero, List.drop_zero, List.take_append_of_le_length (by rw [le8_len]; omega), List.take_of_length_le (by rw [le8_len]; omega)]
    | succ i =>
      simp at h
      have := ih i h
      unfold seg at *
      rw [List.flatMap_cons, List.drop_append, le8_len, List.drop_of_length_le (by rw [le8_len]; omega), List.nil_append]
      have e : 8 * (i + 1) - 8 = 8 * i := by omega
      rw [e]; exact this
theorem row_load (ws : List Nat) (i w : Nat) (h : ws[i]? = some w) (hw : w < 18446744073709551616) : leN (seg (ws.flatMap le8) (8 * i) 8) = w := by
  rw [row_seg ws i w h, leN_le8 w hw]
theorem elB_cases (k : Int) : (elB k = 8 ∧ k = 5) ∨ (elB k = 4 ∧ k = 6) ∨ (elB k = 2 ∧ k = 7) ∨ (elB k = 1 ∧ k = 8) ∨ (elB k = 0 ∧ k ≠ 5 ∧ k ≠ 6 ∧ k ≠ 7 ∧ k ≠ 8) := by
  unfold elB
  by_cases h5 : k = 5
  · subst h5; exact .inl ⟨rfl, rfl⟩
  by_cases h6 : k = 6
  · subst h6; exact .inr (.inl ⟨rfl, rfl⟩)
  by_cases h7 : k = 7
  · subst h7; exact .inr (.inr (.inl ⟨rfl, rfl⟩))
  by_cases h8 : k = 8
  · subst h8; exact .inr (.inr (.inr (.inl ⟨rfl, rfl⟩)))
  exact .inr (.inr (.inr (.inr ⟨by simp [h5, h6, h7, h8], h5, h6, h7, h8⟩)))
theorem Hc.kind_ne {c : Hc} (h : c.ok) : c.cl.kind ≠ 0 := by
  cases c with
  | num i => exact (by decide : (2 : Int) ≠ 0)
  | text b => exact (by decide : (4 : Int) ≠ 0)
  | buf k b => intro e; have := h.1; have e' : k = 0 := e; rw [e'] at this; simp [elB] at this
  | view k b p n => intro e; have := h.1; have e' : k = 0 := e; rw [e'] at this; simp [elB] at this
  | row ws => exact (by decide : (9 : Int) ≠ 0)
def Hc.sh : Hc → Int
  | .num _ => 1
  | .text _ => 2
  | .buf _ _ => 3
  | .view _ _ _ _ => 4
  | .row _ => 5
theorem shp_eq {c : Hc} (h : c.ok) : shp c.cl.kind c.cl.view = c.sh := by
  cases c with
  | num i => show shp 2 false = 1; decide
  | text b => show shp 4 false = 2; decide
  | buf k b =>
    have := h.1
    show shp k false = 3
    unfold shp
    rw [if_pos this, if_neg (by decide)]
  | view k b p n =>
    have := h.1
    show shp k true = 4
    unfold shp
    rw [if_pos this, if_pos rfl]
  | row ws => show shp 9 false = 5; decide
theorem Hc.bytes_lt {c : Hc} (h : c.ok) : ∀ x ∈ c.bytes, x < 256 := by
  cases c with
  | num i => exact le8_lt _
  | text b => exact h.1
  | buf k b => exact h.2.1
  | view k b p n => intro x hx; cases hx
  | row ws =>
    intro x hx
    obtain ⟨w, _, hx⟩ := List.mem_flatMap.1 hx
    exact le8_lt _ _ hx
theorem Hc.bytes_len {c : Hc} (h : c.ok) : c.bytes.length ≤ 8388608 := by
  cases c with
  | num i => show (le8 _).length ≤ _; rw [le8_len]; omega
  | text b => exact h.2
  | buf k b => exact h.2.2
  | view k b p n => exact Nat.zero_le _
  | row ws => show (ws.flatMap le8).length ≤ _; rw [row_len]; have := h.2; omega
theorem sumH_cons (x : Option Hc) (H : List (Option Hc)) : sumH (x :: H) = needO x + sumH H := rfl
theorem sumH_snoc (H : List (Option Hc)) (x : Option Hc) : sumH (H ++ [x]) = sumH H + needO x := by
  induction H with
  | nil => simp [sumH]
  | cons a H ih => rw [List.cons_append, sumH_cons, sumH_cons, ih]; omega
theorem sumH_set (H : List (Option Hc)) (i : Nat) (x : Option Hc) (h : i < H.length) : sumH (H.set i x) + needO H[i] = sumH H + needO x := by
  induction H generalizing i with
  | nil => exact absurd h (by simp)
  | cons a H ih =>
    cases i with
    | zero => simp only [List.set_cons_zero, sumH_cons, List.getElem_cons_zero]; omega
    | succ i =>
      have := ih i (by simpa using h)
      simp only [List.set_cons_succ, sumH_cons, List.getElem_cons_succ]; omega
theorem need_up8 (c : Hc) : up8N c.bytes.length + 8 = 8 * c.need := by unfold up8N Hc.need; omega
theorem sumA_sumH (H : List (Option Hc)) : sumA (hA H) ≤ 8 * sumH H := by
  induction H with
  | nil => exact Nat.le_refl _
  | cons a H ih =>
    show lenA (a.map Hc.bytes) + sumA (hA H) ≤ 8 * (needO a + sumH H)
    cases a with
    | none => show 0 + _ ≤ 8 * (0 + _); omega
    | some c =>
      show up8N c.bytes.length + _ ≤ 8 * (c.need + _)
      have := need_up8 c
      omega
end Go.Proofs.Ytaebnnkhjlidiab.W
/- StoreFills: what its store holds, in plain words. -/
namespace Go.Proofs.Ytaebnnkhjlidiab.W
set_option linter.unusedVariables false
/-- an extent, filled with one byte up to k -/
def part1 (z k c : Nat) : List Nat := List.replicate k c ++ List.replicate (z - k) 0
theorem part1_len (z k c : Nat) (h : k ≤ z) : (part1 z k c).length = z := by simp [part1]; omega
theorem part1_get (z k c i : Nat) (h : k ≤ z) (hi : i < z) : (part1 z k c)[i]? = some (if i < k then c else 0) := by
  unfold part1
  rw [List.getElem?_append, List.length_replicate]
  by_cases e : i < k
  · rw [if_pos e, if_pos e, List.getElem?_replicate, if_pos e]
  · rw [if_neg e, if_neg e, List.getElem?_replicate, if_pos (by omega)]
theorem part1_zero (z c : Nat) : part1 z 0 c = List.replicate z 0 := by simp [part1]
theorem part1_all (z c : Nat) : part1 z z c = List.replicate z c := by simp [part1]
theorem seg1 (x : List Nat) (k y : Nat) (h : x[k]? = some y) : seg x k 1 = [y] := by
  apply List.ext_getElem?
  intro i
  cases i with
  | zero => rw [seg_get _ _ _ _ (by omega)]; simpa using h
  | succ i => rw [List.getElem?_eq_none (by simp [seg]; omega)]; rfl
theorem leN1 (y : Nat) : leN [y] = y := by simp [leN]
theorem part1_load (z k c i : Nat) (h : k ≤ z) (hi : i < z) : leN (seg (part1 z k c) i 1) = if i < k then c else 0 := by
  rw [seg1 _ _ _ (part1_get z k c i h hi), leN1]
theorem part1_save (z k c : Nat) (h : k < z) (hc : c < 256) : saved (part1 z k c) k c 1 = part1 z (k + 1) c := by
  apply List.ext_getElem?
  intro i
  have hl := part1_len z k c (by omega)
  have hl' := part1_len z (k + 1) c (by omega)
  rw [saved_get _ _ _ _ _ (by omega)]
  by_cases hi : i < z
  · rw [part1_get _ _ _ _ (by omega) hi, part1_get _ _ _ _ (by omega) hi]
    by_cases e : i = k
    · subst e
      rw [if_pos (by omega), if_pos (by omega)]
      simp; omega
    · rw [if_neg (by omega)]
      by_cases e2 : i < k
      · rw [if_pos e2, if_pos (by omega)]
      · rw [if_neg e2, if_neg (by omega)]
  · rw [if_neg (by omega), List.getElem?_eq_none (by omega), List.getElem?_eq_none (by omega)]
theorem rep_load (z c i : Nat) (hi : i < z) : leN (seg (List.replicate z c) i 1) = c := by
  rw [← part1_all, part1_load z z c i (Nat.le_refl _) hi, if_pos hi]
/-- the first i extents, filled, those of G given back -/
def fillA (z : Nat → Nat) (G : Nat → Bool) (i : Nat) : List (Option (List Nat)) := (List.range i).map (fun j => if G j = true then none else some (List.replicate (z j) (j + 1)))
theorem fillA_len (z : Nat → Nat) (G : Nat → Bool) (i : Nat) : (fillA z G i).length = i := by simp [fillA]
theorem fillA_get (z : Nat → Nat) (G : Nat → Bool) (i j : Nat) (h : j < i) : (fillA z G i)[j]? = some (if G j = true then none else some (List.replicate (z j) (j + 1))) := by
  unfold fillA; rw [List.getElem?_map, List.getElem?_range h]; rfl
theorem fillA_succ (z : Nat → Nat) (i : Nat) : fillA z (fun _ => false) (i + 1) = fillA z (fun _ => false) i ++ [some (List.replicate (z i) (i + 1))] := by
  unfold fillA; rw [List.range_succ, List.map_append]; rfl
theorem fillA_least (z : Nat → Nat) (i : Nat) : leastA (fillA z (fun _ => false) i) = i := by
  have : leastA (fillA z (fun _ => false) i) = (fillA z (fun _ => false) i).length := by
    unfold leastA
    rw [List.findIdx_eq_length]
    intro x hx
    unfold fillA at hx
    obtain ⟨j, _, rfl⟩ := List.mem_map.1 hx
    rfl
  rw [this, fillA_len]
theorem fillA_put (z : Nat → Nat) (i : Nat) (x : List Nat) : putA (fillA z (fun _ => false) i) i (some x) = fillA z (fun _ => false) i ++ [some x] := by
  unfold putA; rw [fillA_len, if_neg (by omega)]
theorem snoc_set (A : List (Option (List Nat))) (i : Nat) (x y : List Nat) (h : A.length = i) : (A ++ [some x]).set i (some y) = A ++ [some y] := by
  subst h; simp
theorem snoc_get (A : List (Option (List Nat))) (i : Nat) (x : List Nat) (h : A.length = i) : (A ++ [some x])[i]? = some (some x) := by
  subst h; simp
theorem fillA_give (z : Nat → Nat) (G : Nat → Bool) (i id : Nat) : (fillA z G i).set id none = fillA z (fun j => if j = id then true else G j) i := by
  apply List.ext_getElem?
  intro j
  by_cases hj : j < i
  · rw [fillA_get _ _ _ _ hj]
    by_cases e : j = id
    · subst e; rw [List.getElem?_set_self (by rw [fillA_len]; exact hj)]; simp
    · rw [List.getElem?_set_ne (by omega), fillA_get _ _ _ _ hj]; simp [e]
  · rw [List.getElem?_eq_none (by rw [List.length_set, fillA_len]; omega), List.getElem?_eq_none (by rw [fillA_len]; omega)]
/-- what is taken, of the first i -/
def usedF (z : Nat → Nat) (G : Nat → Bool) : Nat → Nat
  | 0 => 0
  | i + 1 => usedF z G i + if G i = true then 0 else up8N (z i)
theorem fillA_snoc (z : Nat → Nat) (G : Nat → Bool) (i : Nat) : fillA z G (i + 1) = fillA z G i ++ [if G i = true then none else some (List.replicate (z i) (i + 1))] := by
  unfold fillA; rw [List.range_succ, List.map_append]; rfl
theorem fillA_sum (z : Nat → Nat) (G : Nat → Bool) (i : Nat) : sumA (fillA z G i) = usedF z G i := by
  induction i with
  | zero => rfl
  | succ i ih =>
    rw [fillA_snoc, sumA_snoc, ih]
    show _ = usedF z G i + _
    by_cases e : G i = true
    · simp [e, lenA]
    · simp [e, lenA]
theorem usedF_le (z : Nat → Nat) (G : Nat → Bool) (i : Nat) (h : ∀ j, j < i → z j ≤ 300) : usedF z G i ≤ 304 * i := by
  induction i with
  | zero => exact Nat.le_refl _
  | succ i ih =>
    have h1 := ih (fun j hj => h j (by omega))
    have h2 := h i (by omega)
    show usedF z G i + _ ≤ _
    by_cases e : G i = true
    · rw [if_pos e]; omega
    · rw [if_neg e]; unfold up8N; omega
end Go.Proofs.Ytaebnnkhjlidiab.W
/- Package store: extents that are taken one behind the other, from an empty store on. -/
namespace Go.Proofs.Ytaebnnkhjlidiab.W
open Go.ChangeShapes Go.WideShapes Go.RowKit Go.Shelf
set_option linter.unusedVariables false

theorem layRow_end (row : List Nat) (u : Nat) : layRow row row.length u = row ++ List.replicate u 0 := by
  have hl : longer row (row.length + u) = row ++ List.replicate u 0 := by rw [longer, show row.length + u - row.length = u by omega]
  apply List.ext_getElem?
  intro j
  rw [layRow, hl, setL_get _ _ _ _ (by simp)]
  by_cases h : row.length ≤ j ∧ j < row.length + u
  · rw [if_pos (by simpa using h), List.getElem?_append_right h.1]
  · rw [if_neg (by simpa using h)]
theorem seekPost_first {W : World} {sb : Nat} {vr vb vf : Value} {s : Sto} (h : Lay W sb vr vb vf s) (f : Fit s) (hd p n : Nat) (hh : s.hand = hd) (size : Int) (b bn : Blk) (hb : s.get hd = some b) (hm : b.next = 0) (hst : b.stop = p) (hn : s.get n = some bn) (hne : hd ≠ n) (hn0 : n ≠ 0) (hroom : size ≤ 2 * s.used + 64 - p) {S : Nat → Prop} (hO : Own S sb vr vb vf) :
    Calls Try.prog 93 #[.pointer (some ⟨sb, 0, none⟩), .int .i64 size] W (SeekPost S W sb vb vf n bn (fun s' bk nx q => s' = s ∧ bk = hd ∧ nx = 0 ∧ q = p)) := by
  refine (seek_first h f hd hh size b s.head hb 0 hm rfl (by rw [roomOf, if_pos rfl, hst]; exact hroom) hO.sb).mono ?_
  rintro e w' ⟨rfl, hU, hL⟩
  exact ⟨s, vr, hd, 0, p, b, s.head, rfl, hU, hL, hO.mono (fun _ g => .inl g), f, hn, hb, hm, rfl, hne, fun e => hn0 e.symm, hst, rfl, rfl, rfl, rfl⟩
/-- a new Id, at the table's end -/
def Sto.fresh (s : Sto) (n : Int) : Sto := ({ s with blks := s.blks ++ [noBlk] } : Sto).took s.blks.length n
theorem take_simple {W : World} {sb : Nat} {vr vb vf : Value} {s : Sto} (h : Lay W sb vr vb vf s) (hf : s.free = []) (hlen : s.blks.length ≤ 1000000) (hus0 : 0 ≤ s.used) (hus1 : s.used ≤ 10000000000) (n : Int) (u : Nat) (hn0 : 0 < n) (hn1 : n ≤ 8388608) (hu : up8 n = u) (hd p : Nat) (b : Blk) (f : Fit (s.fresh n)) (hh : s.hand = hd) (hb : (s.fresh n).get hd = some b) (hm : b.next = 0) (hst : b.stop = p) (hne : hd ≤ s.blks.length) (hroom : (u : Int) ≤ 2 * (s.fresh n).used + 64 - p) {S : Nat → Prop} (hO : Own S sb vr vb vf) :
    Calls Try.prog 56 #[.pointer (some ⟨sb, 0, none⟩), .int .i64 n] W fun e w' => e = .returned (.tuple #[.int .i64 s.blks.length, .int .i64 0]) ∧ Upd S W w' ∧ ∃ vr4 vb4 vf4, Lay w' sb vr4 vb4 vf4 ((s.fresh n).laid (s.blks.length + 1) hd 0 p u) ∧ Own (Nx S W w') sb vr4 vb4 vf4 := by
  have gt : (s.fresh n).get (s.blks.length + 1) = some ⟨true, 0, n, 0, 0⟩ := by
    unfold Sto.get Sto.fresh Sto.took
    rw [if_neg (by omega)]
    simp
  refine (take_c (S := S) n u hn0 hn1 hu s.blks.length { s with blks := s.blks ++ [noBlk] } (by simp) (by simp; omega) hus0 (by dsimp only; omega) (fun s' bk nx q => s' = s.fresh n ∧ bk = hd ∧ nx = 0 ∧ q = p) ?_ ?_).mono ?_
  · refine (leastId_new h hf (by omega) hO).mono ?_
    rintro e w' ⟨rfl, hU, vb', hL, hO'⟩
    exact ⟨rfl, hU, vr, vb', vf, hL, hO'⟩
  · intro W3 S3 vr3 vb3 vf3 hL3 hO3
    exact seekPost_first hL3 f hd p (s.blks.length + 1) hh u b _ hb hm hst gt (by omega) (by omega) hroom hO3
  · rintro e w' ⟨rfl, hU, s4, bk, nx, q, ⟨rfl, rfl, rfl, rfl⟩, vr4, vb4, vf4, hL, hO'⟩
    exact ⟨rfl, hU, vr4, vb4, vf4, hL, hO'⟩
/-- a store with one extent of N bytes -/
def oneSto (N : Nat) : Sto := ⟨List.replicate N 0, ⟨false, 0, 0, 1, 1⟩, [⟨true, 0, N, 0, 0⟩], [], N, 1, false⟩
/-- a store with one extent of N bytes, and one of 8 -/
def twoSto (N : Nat) : Sto := ⟨List.replicate (N + 8) 0, ⟨false, 0, 0, 2, 1⟩, [⟨true, 0, N, 0, 2⟩, ⟨true, N, 8, 1, 0⟩], [], N + 8, 2, false⟩
/-- what a store of one extent of n bytes, whose row has u, is -/
def firstSto (n : Int) (u : Nat) : Sto := ⟨List.replicate u 0, ⟨false, 0, 0, 1, 1⟩, [⟨true, 0, n, 0, 0⟩], [], u, 1, false⟩
theorem get_two {s : Sto} {n : Nat} {b c d : Blk} (hs : s.blks = [c, d]) (h : s.get n = some b) : b = s.head ∨ b = c ∨ b = d := by
  unfold Sto.get at h
  split at h
  · left; cases h; rfl
  · rw [hs] at h
    right
    match n, h with
    | 1, h => left; simpa using h.symm
    | 2, h => right; simpa using h.symm
    | n + 3, h => simp at h
theorem get_one {s : Sto} {n : Nat} {b c : Blk} (hs : s.blks = [c]) (h : s.get n = some b) : b = s.head ∨ b = c := by
  unfold Sto.get at h
  split at h
  · left; cases h; rfl
  · rw [hs] at h
    right
    match n, h with
    | 1, h => simpa using h.symm
    | n + 2, h => simp at h
theorem first_take {W : World} {sb : Nat} {vr vb vf : Value} (h : Lay W sb vr vb vf emptySto) (n : Int) (u : Nat) (hn0 : 0 < n) (hn1 : n ≤ 8388608) (hu : up8 n = u) {S : Nat → Prop} (hO : Own S sb vr vb vf) :
    Calls Try.prog 56 #[.pointer (some ⟨sb, 0, none⟩), .int .i64 n] W fun e w' => e = .returned (.tuple #[.int .i64 0, .int .i64 0]) ∧ Upd S W w' ∧ ∃ vr4 vb4 vf4, Lay w' sb vr4 vb4 vf4 (firstSto n u) ∧ Own (Nx S W w') sb vr4 vb4 vf4 := by
  have hub : (u : Int) ≤ 8388616 := by unfold up8 at hu; omega
  have f : Fit (emptySto.fresh n) := by
    refine ⟨by simp [Sto.fresh, Sto.took, emptySto], by simp [Sto.fresh, Sto.took, emptySto], by simp [Sto.fresh, Sto.took, emptySto], ?_, ?_, ?_⟩
    · show 0 ≤ 0 + up8 n; omega
    · show 0 + up8 n ≤ _; omega
    · intro k b hb
      rcases get_one (c := ⟨true, 0, n, 0, 0⟩) rfl hb with rfl | rfl
      · exact ⟨Int.le_refl _, show (0 : Int) ≤ 1000000000000 by decide, Int.le_refl _, show (0 : Int) ≤ 100000000 by decide⟩
      · exact ⟨Int.le_refl _, show (0 : Int) ≤ 1000000000000 by decide, Int.le_of_lt hn0, show n ≤ 100000000 by omega⟩
  refine (take_simple h rfl (by decide) (by decide) (by decide) n u hn0 hn1 hu 0 0 noBlk f rfl rfl rfl rfl (by decide) (by show (u : Int) ≤ 2 * (0 + up8 n) + 64 - 0; omega) hO).mono ?_
  rintro e w' ⟨rfl, hU, vr4, vb4, vf4, hL, hO'⟩
  refine ⟨rfl, hU, vr4, vb4, vf4, ?_, hO'⟩
  have e1 : (emptySto.fresh n).laid (emptySto.blks.length + 1) 0 0 0 u = firstSto n u := by
    have er : layRow [] 0 u = List.replicate u 0 := by have := layRow_end [] u; simpa using this
    have eu : (0 : Int) + up8 n = u := by omega
    show (⟨layRow [] 0 u, ⟨false, 0, 0, 1, 1⟩, [⟨true, 0, n, 0, 0⟩], [], 0 + up8 n, 1, false⟩ : Sto) = _
    rw [er, eu]; rfl
  rw [← e1]; exact hL
theorem fit_first (n : Int) (u : Nat) (hn0 : 0 < n) (hn1 : n ≤ 8388608) (hu : up8 n = u) : Fit (firstSto n u) := by
  have hub : (u : Int) ≤ 8388616 := by unfold up8 at hu; omega
  refine ⟨show 1 ≤ 1000000000 by decide, by simp [firstSto]; omega, fun x hx => by rw [List.eq_of_mem_replicate hx]; decide, show (0 : Int) ≤ u by omega, show (u : Int) ≤ 1000000000000 by omega, ?_⟩
  intro k b hb
  rcases get_one (c := ⟨true, 0, n, 0, 0⟩) rfl hb with rfl | rfl
  · exact ⟨Int.le_refl _, show (0 : Int) ≤ 1000000000000 by decide, Int.le_refl _, show (0 : Int) ≤ 100000000 by decide⟩
  · exact ⟨Int.le_refl _, show (0 : Int) ≤ 1000000000000 by decide, Int.le_of_lt hn0, show n ≤ 100000000 by omega⟩
theorem second_take {W : World} {sb : Nat} {vr vb vf : Value} (N : Nat) (hN0 : 0 < N) (hN1 : N ≤ 1000000) (hN8 : up8 N = N) (h : Lay W sb vr vb vf (firstSto N N)) {S : Nat → Prop} (hO : Own S sb vr vb vf) :
    Calls Try.prog 56 #[.pointer (some ⟨sb, 0, none⟩), .int .i64 8] W fun e w' => e = .returned (.tuple #[.int .i64 1, .int .i64 0]) ∧ Upd S W w' ∧ ∃ vr4 vb4 vf4, Lay w' sb vr4 vb4 vf4 (twoSto N) ∧ Own (Nx S W w') sb vr4 vb4 vf4 := by
  have f : Fit ((firstSto N N).fresh 8) := by
    refine ⟨show 2 ≤ 1000000000 by decide, by simp [Sto.fresh, Sto.took, firstSto]; omega, fun x hx => by rw [List.eq_of_mem_replicate hx]; decide, show (0 : Int) ≤ N + up8 8 by unfold up8; omega, show (N : Int) + up8 8 ≤ _ by unfold up8; omega, ?_⟩
    intro k b hb
    rcases get_two (c := ⟨true, 0, N, 0, 0⟩) (d := ⟨true, 0, 8, 0, 0⟩) rfl hb with rfl | rfl | rfl
    · exact ⟨Int.le_refl _, show (0 : Int) ≤ 1000000000000 by decide, Int.le_refl _, show (0 : Int) ≤ 100000000 by decide⟩
    · exact ⟨Int.le_refl _, show (0 : Int) ≤ 1000000000000 by decide, show (0 : Int) ≤ N by omega, show (N : Int) ≤ 100000000 by omega⟩
    · exact ⟨Int.le_refl _, show (0 : Int) ≤ 1000000000000 by decide, show (0 : Int) ≤ 8 by decide, show (8 : Int) ≤ 100000000 by decide⟩
  refine (take_simple h rfl (show 1 ≤ 1000000 by decide) (show (0 : Int) ≤ N by omega) (show (N : Int) ≤ 10000000000 by omega) 8 8 (by decide) (by decide) rfl 1 N ⟨true, 0, N, 0, 0⟩ f rfl rfl rfl (by show 0 + up8 N = _; rw [hN8]; omega) (show 1 ≤ 1 by decide) (by show ((8 : Nat) : Int) ≤ 2 * (N + up8 8) + 64 - N; unfold up8; omega) hO).mono ?_
  rintro e w' ⟨rfl, hU, vr4, vb4, vf4, hL, hO'⟩
  refine ⟨rfl, hU, vr4, vb4, vf4, ?_, hO'⟩
  have e1 : ((firstSto N N).fresh 8).laid ((firstSto N N).blks.length + 1) 1 0 N 8 = twoSto N := by
    have er : layRow (List.replicate N 0) N 8 = List.replicate (N + 8) 0 := by
      have := layRow_end (List.replicate N 0) 8
      rw [List.length_replicate, List.replicate_append_replicate] at this
      exact this
    show (⟨layRow (List.replicate N 0) N 8, ⟨false, 0, 0, 2, 1⟩, [⟨true, 0, N, 0, 2⟩, ⟨true, N, 8, 1, 0⟩], [], N + up8 8, 2, false⟩ : Sto) = _
    rw [er]; rfl
  rw [← e1]; exact hL
theorem fit_two (N : Nat) (hN1 : N ≤ 1000000) (row : List Nat) (hr : row.length = N + 8) (hb : ∀ x ∈ row, x < 256) : Fit { twoSto N with row := row } := by
  refine ⟨show 2 ≤ 1000000000 by decide, show row.length ≤ _ by omega, hb, show (0 : Int) ≤ N + 8 by omega, show (N : Int) + 8 ≤ _ by omega, ?_⟩
  intro k b hb
  rcases get_two (c := ⟨true, 0, N, 0, 2⟩) (d := ⟨true, N, 8, 1, 0⟩) rfl hb with rfl | rfl | rfl
  · exact ⟨Int.le_refl _, show (0 : Int) ≤ 1000000000000 by decide, Int.le_refl _, show (0 : Int) ≤ 100000000 by decide⟩
  · exact ⟨Int.le_refl _, show (0 : Int) ≤ 1000000000000 by decide, show (0 : Int) ≤ N by omega, show (N : Int) ≤ 100000000 by omega⟩
  · exact ⟨show (0 : Int) ≤ N by omega, show (N : Int) ≤ 1000000000000 by omega, show (0 : Int) ≤ 8 by decide, show (8 : Int) ≤ 100000000 by decide⟩
end Go.Proofs.Ytaebnnkhjlidiab.W
/- Package store: the statements' awake. -/
namespace Go.Proofs.Ytaebnnkhjlidiab.W
open Go.ChangeShapes Go.WideShapes Go.RowKit Go.Shelf
set_option linter.unusedVariables false
theorem Lay.below {W W' : World} {sb : Nat} {vr vb vf : Value} {s : Sto} (h : Lay W sb vr vb vf s) (hB : Below W.heap.size W W') : Lay W' sb vr vb vf s := by
  obtain ⟨l0, l1, l2, l3⟩ := lay_lt h
  exact h.kept (hB.block _ l0) (fun k e => hB.block _ (l1 k e)) (fun k e => hB.block _ (l2 k e)) (fun k e => hB.block _ (l3 k e))
end Go.Proofs.Ytaebnnkhjlidiab.W
