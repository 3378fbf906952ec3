import Derived.Test.YtmeoonnofiicpaaBase3
import Derived.Test.YtmeoonnofiicpaaBase2
import Derived.Test.YtmeoonnofiicpaaBase1
import Derived.OrdersHeld
/- Package store: New and Save over what all Ids hold. -/
namespace Go.Proofs.Ytmeoonnofiicpaa.W
open Go.ChangeShapes Go.WideShapes Go.RowKit Go.Shelf
set_option linter.unusedVariables false
theorem seg_saved_in (row : List Nat) (p l o v w : Nat) (h : o + w ≤ l) (hr : p + l ≤ row.length) : seg (saved row (p + o) v w) p l = saved (seg row p l) o v w := by
  apply List.ext_getElem?
  intro i
  have hl := seg_len row p l hr
  by_cases hi : i < l
  · rw [seg_get _ _ _ _ hi, saved_get _ _ _ _ _ (by omega), saved_get _ _ _ _ _ (by omega), seg_get _ _ _ _ hi]
    by_cases c : o ≤ i ∧ i < o + w
    · rw [if_pos (by omega), if_pos c, show p + i - (p + o) = i - o by omega]
    · rw [if_neg (by omega), if_neg c]
  · rw [List.getElem?_eq_none (by simp [seg]; omega), List.getElem?_eq_none (by rw [saved_len]; omega)]
theorem seg_saved_out (row : List Nat) (q v w a n : Nat) (hr : q + w ≤ row.length) (ho : a + n ≤ q ∨ q + w ≤ a) : seg (saved row q v w) a n = seg row a n :=
  seg_ext (fun i hi => by rw [saved_get _ _ _ _ _ hr, if_neg (by omega)])
theorem saved_byte (row : List Nat) (p v k : Nat) (h : ∀ x ∈ row, x < 256) : ∀ x ∈ saved row p v k, x < 256 := by
  induction k with
  | zero => exact h
  | succ k ih =>
    intro x hx
    rcases List.mem_or_eq_of_mem_set hx with g | g
    · exact ih x g
    · rw [g]; exact Nat.mod_lt _ (by omega)
section
variable {W : World} {sb : Nat} {S : Nat → Prop} {A : List (Option (List Nat))} {U N : Nat}
theorem save_st (h : St W S sb A U N) (id : Nat) (x : List Nat) (hx : A[id]? = some (some x)) (o wd v : Nat) (hv : v < 18446744073709551616) (hw : wd = 1 ∨ wd = 2 ∨ wd = 4 ∨ wd = 8) (ha : o % wd = 0) (ho : o + wd ≤ x.length) : Calls Try.prog 19 #[.pointer (some ⟨sb, 0, none⟩), .int .i64 id, .int .i64 o, .int .i64 wd, .int .u64 v] W fun e w' => e = .returned (.int .i64 0) ∧ Upd S W w' ∧ St w' S sb (A.set id (some (saved x o v wd))) U N := by
  obtain ⟨s, E, vr, vb, vf, hL, hO, f⟩ := h
  have hidA := (List.getElem?_eq_some_iff.1 hx).1
  have hAx : A[id] = some x := (List.getElem?_eq_some_iff.1 hx).2
  have hheld : held s id = some x := by rw [f.all.2, hx]; rfl
  obtain ⟨b, hb, hlv, hxs⟩ := held_some hheld
  obtain ⟨p, l, hp, hl, hin⟩ := fine_in f.good hb hlv
  have hxl : x = seg s.row p l := by rw [hxs, hp, hl, Int.toNat_natCast, Int.toNat_natCast]
  have hxl2 : x.length = l := by rw [hxl]; exact seg_len _ _ _ hin
  have hsA := sumA_set A id (some (saved x o v wd)) hidA
  rw [hAx] at hsA
  have e1 : lenA (some (saved x o v wd)) = lenA (some x) := by show up8N _ = up8N _; rw [saved_len]
  rw [e1] at hsA
  have hsum : sumA (A.set id (some (saved x o v wd))) = sumA A := by omega
  refine (save_ok hL f.fit id wd v hv b (ext_of hb hlv) hw o p hp (by omega) (by omega) (by omega) hO).mono ?_
  rintro e w' ⟨rfl, hL', hU'⟩
  refine ⟨rfl, hU', _, E, vr, vb, vf, hL', hO, ?_, ⟨?_, ?_⟩, by rw [hsum]; exact f.sum, f.lens, ?_, by rw [hsum]; exact f.top, by rw [List.length_set]; exact f.num, f.u9, f.n9⟩
  · have g := f.good
    exact ⟨g.nodup, by show Lies E (saved _ _ _ _).length; rw [saved_len]; exact g.lies, g.get, saved_byte _ _ _ _ g.byte, g.hand, g.zero, g.heap, g.nodupF, g.free, g.used, by show (saved _ _ _ _).length % 8 = 0; rw [saved_len]; exact g.row8⟩
  · rw [List.length_set]; exact f.all.1
  · intro i
    by_cases c : i = id
    · rw [c, List.getElem?_set_self hidA]
      unfold held
      show (match s.blks[id]? with | some b => if b.live = true then some (seg (saved s.row (p + o) v wd) b.pos.toNat b.len.toNat) else none | none => none) = some (saved x o v wd)
      rw [hb]
      simp only [hlv, if_true, hp, hl, Int.toNat_natCast]
      rw [seg_saved_in _ _ _ _ _ _ (by omega) hin, ← hxl]
    · rw [List.getElem?_set_ne (by omega), ← f.all.2 i]
      refine held_get i rfl ?_
      intro b' hb' hlv'
      rw [get_blks] at hb'
      show seg (saved s.row (p + o) v wd) _ _ = _
      rcases fine_at f.good hb' hlv' with ⟨k', hk', hki', rfl⟩ | ⟨_, rfl⟩
      · rcases fine_at f.good hb hlv with ⟨k, hk, hki, rfl⟩ | ⟨_, rfl⟩
        · have hp' : (rg E (k + 1)).p = p := Int.ofNat_inj.1 hp
          have hl' : (rg E (k + 1)).l = l := Int.ofNat_inj.1 hl
          have hne : k ≠ k' := by rintro rfl; omega
          show seg _ (rg E (k' + 1)).p (rg E (k' + 1)).l = seg _ (rg E (k' + 1)).p (rg E (k' + 1)).l
          refine seg_saved_out _ _ _ _ _ _ (by omega) ?_
          have u1 := up8N_ge (rg E (k + 1)).l
          have u2 := up8N_ge (rg E (k' + 1)).l
          rcases Nat.lt_or_gt_of_ne hne with c | c
          · have := rg_lt f.good.lies (i := k + 1) (j := k' + 1) (by omega) hk'
            unfold Ex.stop at this
            right; omega
          · have := rg_lt f.good.lies (i := k' + 1) (j := k + 1) (by omega) hk
            unfold Ex.stop at this
            left; omega
        · have : l = 0 := Int.ofNat_inj.1 hl.symm
          omega
      · rfl
  · show (saved _ _ _ _).length ≤ _
    rw [saved_len]; exact f.row
theorem new_st (W : World) (U N : Nat) (hU : U ≤ 100000000000) (hN : N ≤ 100000000) : Calls Try.prog 6 #[] W fun e w' => e = .returned (.pointer (some ⟨W.heap.size, 0, none⟩)) ∧ St w' (fun k => k = W.heap.size) W.heap.size [] U N ∧ Below W.heap.size W w' ∧ w'.heap.size = W.heap.size + 1 := by
  refine (new_c W).mono ?_
  rintro e w' ⟨rfl, hL, hB, hz⟩
  refine ⟨rfl, ⟨emptySto, [], _, _, _, hL, ?_, ?_⟩, hB, hz⟩
  · exact ⟨rfl, by simp [Value.ownBlock], by simp [Value.ownBlock], by simp [Value.ownBlock]⟩
  · refine ⟨⟨?_, ?_, ?_, ?_, ?_, ?_, ?_, ?_, ?_, rfl, rfl⟩, ⟨rfl, fun i => by simp [held, emptySto]⟩, rfl, ?_, ?_, Nat.zero_le _, Nat.zero_le _, hU, hN⟩
    · simp [ring]
    · refine ⟨?_, ?_, ?_⟩
      · intro i e f' he hf
        simp [ring] at hf
      · intro e he; cases he
      · intro e he
        simp [ring] at he
        rw [he]; exact Nat.le_refl _
    · intro i e he
      cases i with
      | zero => simp [ring] at he; subst he; rfl
      | succ i => simp [ring] at he
    · intro x hx; cases hx
    · exact ⟨front, List.mem_cons_self .., rfl⟩
    · intro id b hb; simp [emptySto] at hb
    · intro k h0 hk; exact absurd hk (by simp [emptySto])
    · exact List.nodup_nil
    · intro x; simp [emptySto]
    · intro e he; cases he
    · show 0 ≤ _; omega
end
end Go.Proofs.Ytmeoonnofiicpaa.W
/- StoreFills: what its store holds, in plain words. -/
namespace Go.Proofs.Ytmeoonnofiicpaa.W
set_option linter.unusedVariables false
/-- an extent, filled with one byte up to k -/
def part1 (z k c : Nat) : List Nat := List.replicate k c ++ List.replicate (z - k) 0
theorem part1_len (z k c : Nat) (h : k ≤ z) : (part1 z k c).length = z := by simp [part1]; omega
theorem part1_get (z k c i : Nat) (h : k ≤ z) (hi : i < z) : (part1 z k c)[i]? = some (if i < k then c else 0) := by
  unfold part1
  rw [List.getElem?_append, List.length_replicate]
  by_cases e : i < k
  · rw [if_pos e, if_pos e, List.getElem?_replicate, if_pos e]
  · rw [if_neg e, if_neg e, List.getElem?_replicate, if_pos (by omega)]
theorem part1_zero (z c : Nat) : part1 z 0 c = List.replicate z 0 := by simp [part1]
theorem part1_all (z c : Nat) : part1 z z c = List.replicate z c := by simp [part1]
theorem seg1 (x : List Nat) (k y : Nat) (h : x[k]? = some y) : seg x k 1 = [y] := by
  apply List.ext_getElem?
  intro i
  cases i with
  | zero => rw [seg_get _ _ _ _ (by omega)]; simpa using h
  | succ i => rw [List.getElem?_eq_none (by simp [seg]; omega)]; rfl
theorem leN1 (y : Nat) : leN [y] = y := by simp [leN]
theorem part1_load (z k c i : Nat) (h : k ≤ z) (hi : i < z) : leN (seg (part1 z k c) i 1) = if i < k then c else 0 := by
  rw [seg1 _ _ _ (part1_get z k c i h hi), leN1]
theorem part1_save (z k c : Nat) (h : k < z) (hc : c < 256) : saved (part1 z k c) k c 1 = part1 z (k + 1) c := by
  apply List.ext_getElem?
  intro i
  have hl := part1_len z k c (by omega)
  have hl' := part1_len z (k + 1) c (by omega)
  rw [saved_get _ _ _ _ _ (by omega)]
  by_cases hi : i < z
  · rw [part1_get _ _ _ _ (by omega) hi, part1_get _ _ _ _ (by omega) hi]
    by_cases e : i = k
    · subst e
      rw [if_pos (by omega), if_pos (by omega)]
      simp; omega
    · rw [if_neg (by omega)]
      by_cases e2 : i < k
      · rw [if_pos e2, if_pos (by omega)]
      · rw [if_neg e2, if_neg (by omega)]
  · rw [if_neg (by omega), List.getElem?_eq_none (by omega), List.getElem?_eq_none (by omega)]
theorem rep_load (z c i : Nat) (hi : i < z) : leN (seg (List.replicate z c) i 1) = c := by
  rw [← part1_all, part1_load z z c i (Nat.le_refl _) hi, if_pos hi]
/-- the first i extents, filled, those of G given back -/
def fillA (z : Nat → Nat) (G : Nat → Bool) (i : Nat) : List (Option (List Nat)) := (List.range i).map (fun j => if G j = true then none else some (List.replicate (z j) (j + 1)))
theorem fillA_len (z : Nat → Nat) (G : Nat → Bool) (i : Nat) : (fillA z G i).length = i := by simp [fillA]
theorem fillA_get (z : Nat → Nat) (G : Nat → Bool) (i j : Nat) (h : j < i) : (fillA z G i)[j]? = some (if G j = true then none else some (List.replicate (z j) (j + 1))) := by
  unfold fillA; rw [List.getElem?_map, List.getElem?_range h]; rfl
theorem fillA_succ (z : Nat → Nat) (i : Nat) : fillA z (fun _ => false) (i + 1) = fillA z (fun _ => false) i ++ [some (List.replicate (z i) (i + 1))] := by
  unfold fillA; rw [List.range_succ, List.map_append]; rfl
theorem fillA_least (z : Nat → Nat) (i : Nat) : leastA (fillA z (fun _ => false) i) = i := by
  have : leastA (fillA z (fun _ => false) i) = (fillA z (fun _ => false) i).length := by
    unfold leastA
    rw [List.findIdx_eq_length]
    intro x hx
    unfold fillA at hx
    obtain ⟨j, _, rfl⟩ := List.mem_map.1 hx
    rfl
  rw [this, fillA_len]
theorem fillA_put (z : Nat → Nat) (i : Nat) (x : List Nat) : putA (fillA z (fun _ => false) i) i (some x) = fillA z (fun _ => false) i ++ [some x] := by
  unfold putA; rw [fillA_len, if_neg (by omega)]
theorem snoc_set (A : List (Option (List Nat))) (i : Nat) (x y : List Nat) (h : A.length = i) : (A ++ [some x]).set i (some y) = A ++ [some y] := by
  subst h; simp
theorem snoc_get (A : List (Option (List Nat))) (i : Nat) (x : List Nat) (h : A.length = i) : (A ++ [some x])[i]? = some (some x) := by
  subst h; simp
theorem fillA_give (z : Nat → Nat) (G : Nat → Bool) (i id : Nat) : (fillA z G i).set id none = fillA z (fun j => if j = id then true else G j) i := by
  apply List.ext_getElem?
  intro j
  by_cases hj : j < i
  · rw [fillA_get _ _ _ _ hj]
    by_cases e : j = id
    · subst e; rw [List.getElem?_set_self (by rw [fillA_len]; exact hj)]; simp
    · rw [List.getElem?_set_ne (by omega), fillA_get _ _ _ _ hj]; simp [e]
  · rw [List.getElem?_eq_none (by rw [List.length_set, fillA_len]; omega), List.getElem?_eq_none (by rw [fillA_len]; omega)]
/-- what is taken, of the first i -/
def usedF (z : Nat → Nat) (G : Nat → Bool) : Nat → Nat
  | 0 => 0
  | i + 1 => usedF z G i + if G i = true then 0 else up8N (z i)
theorem fillA_snoc (z : Nat → Nat) (G : Nat → Bool) (i : Nat) : fillA z G (i + 1) = fillA z G i ++ [if G i = true then none else some (List.replicate (z i) (i + 1))] := by
  unfold fillA; rw [List.range_succ, List.map_append]; rfl
theorem fillA_sum (z : Nat → Nat) (G : Nat → Bool) (i : Nat) : sumA (fillA z G i) = usedF z G i := by
  induction i with
  | zero => rfl
  | succ i ih =>
    rw [fillA_snoc, sumA_snoc, ih]
    show _ = usedF z G i + _
    by_cases e : G i = true
    · simp [e, lenA]
    · simp [e, lenA]
theorem usedF_le (z : Nat → Nat) (G : Nat → Bool) (i : Nat) (h : ∀ j, j < i → z j ≤ 300) : usedF z G i ≤ 304 * i := by
  induction i with
  | zero => exact Nat.le_refl _
  | succ i ih =>
    have h1 := ih (fun j hj => h j (by omega))
    have h2 := h i (by omega)
    show usedF z G i + _ ≤ _
    by_cases e : G i = true
    · rw [if_pos e]; omega
    · rw [if_neg e]; unfold up8N; omega
end Go.Proofs.Ytmeoonnofiicpaa.W
/- Package store: Len, Load, Save and their errors, Span behind Pack, over what all Ids hold. -/
namespace Go.Proofs.Ytmeoonnofiicpaa.W
open Go.ChangeShapes Go.WideShapes Go.RowKit Go.Shelf
set_option linter.unusedVariables false
section
variable {W : World} {sb : Nat} {S : Nat → Prop} {A : List (Option (List Nat))} {U N : Nat}
theorem len_st (h : St W S sb A U N) (id : Nat) (x : List Nat) (hx : A[id]? = some (some x)) : Calls Try.prog 15 #[.pointer (some ⟨sb, 0, none⟩), .int .i64 id] W fun e w' => e = .returned (.tuple #[.int .i64 x.length, .int .i64 0]) ∧ w' = W := by
  obtain ⟨s, E, vr, vb, vf, hL, hO, f⟩ := h
  have hheld : held s id = some x := by rw [f.all.2, hx]; rfl
  obtain ⟨b, hb, hlv, hxs⟩ := held_some hheld
  obtain ⟨p, l, hp, hl, hin⟩ := fine_in f.good hb hlv
  have hxl : x.length = l := by rw [hxs, hp, hl, Int.toNat_natCast, Int.toNat_natCast]; exact seg_len _ _ _ hin
  have := len_some hL f.fit.len id b (ext_of hb hlv)
  rw [hl] at this
  rw [hxl]
  exact this
/-- the error of reaching so many bytes of an Id -/
def errA (A : List (Option (List Nat))) (id off wd : Int) : Int := if id < 0 then 30 else match (A[id.toNat]?).getD none with | none => 30 | some x => reachE x.length off wd
theorem part_st (h : St W S sb A U N) (id off wd : Int) (he : errA A id off wd ≠ 0) : Calls Try.prog 35 #[.pointer (some ⟨sb, 0, none⟩), .int .i64 id, .int .i64 off, .int .i64 wd] W fun e w' => e = .returned (.tuple #[.slice none 0 0, .int .i64 (errA A id off wd)]) ∧ Below W.heap.size W w' := by
  obtain ⟨s, E, vr, vb, vf, hL, hO, f⟩ := h
  have same : ∀ {v : Int}, (Calls Try.prog 35 #[.pointer (some ⟨sb, 0, none⟩), .int .i64 id, .int .i64 off, .int .i64 wd] W fun e w' => e = .returned (.tuple #[.slice none 0 0, .int .i64 v]) ∧ w' = W) → Calls Try.prog 35 #[.pointer (some ⟨sb, 0, none⟩), .int .i64 id, .int .i64 off, .int .i64 wd] W fun e w' => e = .returned (.tuple #[.slice none 0 0, .int .i64 v]) ∧ Below W.heap.size W w' := by
    intro v c
    refine c.mono ?_
    rintro e w' ⟨rfl, rfl⟩
    exact ⟨rfl, Below.refl _ _⟩
  have hnone : s.ext id = none → errA A id off wd = 30 → Calls Try.prog 35 #[.pointer (some ⟨sb, 0, none⟩), .int .i64 id, .int .i64 off, .int .i64 wd] W fun e w' => e = .returned (.tuple #[.slice none 0 0, .int .i64 (errA A id off wd)]) ∧ Below W.heap.size W w' := by
    intro h1 h2
    rw [h2]
    exact same (part_none hL f.fit.len id off wd h1)
  by_cases c : id < 0
  · exact hnone (ext_no (.inl c)) (by unfold errA; rw [if_pos c])
  · obtain ⟨k, rfl⟩ : ∃ k : Nat, id = k := ⟨id.toNat, by omega⟩
    cases ha : (A[k]?).getD none with
    | none => exact hnone (ext_no (.inr (by rw [f.all.2]; exact ha))) (by unfold errA; rw [if_neg c, Int.toNat_natCast, ha])
    | some x =>
      have hheld : held s k = some x := by rw [f.all.2, ha]
      obtain ⟨b, hb, hlv, hxs⟩ := held_some hheld
      obtain ⟨p, l, hp, hl, hin⟩ := fine_in f.good hb hlv
      have hxl : x.length = l := by rw [hxs, hp, hl, Int.toNat_natCast, Int.toNat_natCast]; exact seg_len _ _ _ hin
      have e0 : errA A k off wd = reachE l off wd := by unfold errA; rw [if_neg c, Int.toNat_natCast, ha]; simp only []; rw [hxl]
      rw [e0] at he ⊢
      have hx := ext_of hb hlv
      unfold reachE at he ⊢
      by_cases c1 : wd = 1 ∨ wd = 2 ∨ wd = 4 ∨ wd = 8
      · rw [if_neg (not_not_intro c1)] at he ⊢
        by_cases c2 : off % wd ≠ 0
        · rw [if_pos c2]
          exact same (part_align hL f.fit.len k off wd b hx c1 c2)
        · rw [if_neg c2] at he ⊢
          by_cases c3 : off < 0 ∨ off > (l : Int) - wd
          · rw [if_pos c3]
            exact part_index hL f.fit k off wd b hx c1 (Decidable.not_not.1 c2) (by rw [hl]; exact c3)
          · rw [if_neg c3] at he
            exact absurd rfl he
      · rw [if_pos c1]
        exact same (part_kind hL f.fit.len k off wd b hx c1)
theorem load_st_err (h : St W S sb A U N) (id off wd : Int) (he : errA A id off wd ≠ 0) : Calls Try.prog 17 #[.pointer (some ⟨sb, 0, none⟩), .int .i64 id, .int .i64 off, .int .i64 wd] W fun e w' => e = .returned (.tuple #[.int .u64 0, .int .i64 (errA A id off wd)]) ∧ Below W.heap.size W w' :=
  load_err _ (by simpa using he) _ _ _ _ _ (part_st h id off wd he)
theorem save_st_err (h : St W S sb A U N) (id off wd : Int) (v : Value) (he : errA A id off wd ≠ 0) : Calls Try.prog 19 #[.pointer (some ⟨sb, 0, none⟩), .int .i64 id, .int .i64 off, .int .i64 wd, v] W fun e w' => e = .returned (.int .i64 (errA A id off wd)) ∧ Below W.heap.size W w' :=
  save_err _ _ _ _ _ v (part_st h id off wd he)
theorem errA_ok (id off wd : Int) (h : errA A id off wd = 0) : ∃ (k o d : Nat) (x : List Nat), id = k ∧ off = o ∧ wd = d ∧ A[k]? = some (some x) ∧ (d = 1 ∨ d = 2 ∨ d = 4 ∨ d = 8) ∧ o % d = 0 ∧ o + d ≤ x.length := by
  unfold errA at h
  by_cases c : id < 0
  · rw [if_pos c] at h; cases h
  · rw [if_neg c] at h
    cases ha : (A[id.toNat]?).getD none with
    | none => rw [ha] at h; cases h
    | some x =>
      rw [ha] at h
      simp only [] at h
      unfold reachE at h
      by_cases c1 : wd = 1 ∨ wd = 2 ∨ wd = 4 ∨ wd = 8
      · rw [if_neg (not_not_intro c1)] at h
        by_cases c2 : off % wd ≠ 0
        · rw [if_pos c2] at h; cases h
        · rw [if_neg c2] at h
          by_cases c3 : off < 0 ∨ off > (x.length : Int) - wd
          · rw [if_pos c3] at h; cases h
          · have c2' := Decidable.not_not.1 c2
            refine ⟨id.toNat, off.toNat, wd.toNat, x, by omega, by omega, by omega, ?_, by omega, ?_, by omega⟩
            · cases e : A[id.toNat]? with
              | none => rw [e] at ha; cases ha
              | some y => rw [e] at ha; rw [← ha]; rfl
            · rcases c1 with rfl | rfl | rfl | rfl
              · show off.toNat % 1 = 0; omega
              · show off.toNat % 2 = 0; omega
              · show off.toNat % 4 = 0; omega
              · show off.toNat % 8 = 0; omega
      · rw [if_pos c1] at h; cases h
/-- packed: the row has no byte too many -/
def StT (W : World) (S : Nat → Prop) (sb : Nat) (A : List (Option (List Nat))) (U N : Nat) : Prop := ∃ s E vr vb vf, Lay W sb vr vb vf s ∧ Own S sb vr vb vf ∧ Fine s E A U N ∧ s.row.length = sumA A
theorem StT.st (h : StT W S sb A U N) : St W S sb A U N := by
  obtain ⟨s, E, vr, vb, vf, hL, hO, f, _⟩ := h
  exact ⟨s, E, vr, vb, vf, hL, hO, f⟩
theorem pack_stT (h : St W S sb A U N) : Calls Try.prog 21 #[.pointer (some ⟨sb, 0, none⟩)] W fun e w' => e = .returned (.tuple #[]) ∧ Upd S W w' ∧ StT w' S sb A U N := by
  obtain ⟨s, E, vr, vb, vf, hL, hO, f⟩ := h
  refine (pack_c hL f.fit (ring_pk f.good.rng) hO).mono ?_
  rintro e w' ⟨rfl, hU, vr', hL', hO'⟩
  have hrow : (pkd s E).row.length = sumA A := by rw [pkd_row f.good.rng, enE_sum, f.sum]
  refine ⟨rfl, hU, _, packE E, vr', vb, vf, hL', hO', ⟨good_packed f.good, ⟨?_, ?_⟩, ?_, ?_, ?_, f.top, f.num, f.u9, f.n9⟩, hrow⟩
  · exact (packN_blks _).trans f.all.1
  · intro i; rw [pack_held f.good i]; exact f.all.2 i
  · rw [packE_sum]; exact f.sum
  · intro e he
    obtain ⟨x, hx, hl⟩ := packE_lens e he
    rw [← hl]; exact f.lens x hx
  · rw [hrow]
    have := f.top
    omega
theorem span_stT (h : StT W S sb A U N) : Calls Try.prog 22 #[.pointer (some ⟨sb, 0, none⟩)] W fun e w' => e = .returned (.int .i64 (sumA A : Nat)) ∧ w' = W := by
  obtain ⟨s, E, vr, vb, vf, hL, hO, f, hr⟩ := h
  rw [← hr]
  exact span_c hL
end
end Go.Proofs.Ytmeoonnofiicpaa.W
/- Package store: extents that are taken one behind the other, from an empty store on. -/
namespace Go.Proofs.Ytmeoonnofiicpaa.W
open Go.ChangeShapes Go.WideShapes Go.RowKit Go.Shelf
set_option linter.unusedVariables false

theorem layRow_end (row : List Nat) (u : Nat) : layRow row row.length u = row ++ List.replicate u 0 := by
  have hl : longer row (row.length + u) = row ++ List.replicate u 0 := by rw [longer, show row.length + u - row.length = u by omega]
  apply List.ext_getElem?
  intro j
  rw [layRow, hl, setL_get _ _ _ _ (by simp)]
  by_cases h : row.length ≤ j ∧ j < row.length + u
  · rw [if_pos (by simpa using h), List.getElem?_append_right h.1]
  · rw [if_neg (by simpa using h)]
theorem seekPost_first {W : World} {sb : Nat} {vr vb vf : Value} {s : Sto} (h : Lay W sb vr vb vf s) (f : Fit s) (hd p n : Nat) (hh : s.hand = hd) (size : Int) (b bn : Blk) (hb : s.get hd = some b) (hm : b.next = 0) (hst : b.stop = p) (hn : s.get n = some bn) (hne : hd ≠ n) (hn0 : n ≠ 0) (hroom : size ≤ 2 * s.used + 64 - p) {S : Nat → Prop} (hO : Own S sb vr vb vf) :
    Calls Try.prog 43 #[.pointer (some ⟨sb, 0, none⟩), .int .i64 size] W (SeekPost S W sb vb vf n bn (fun s' bk nx q => s' = s ∧ bk = hd ∧ nx = 0 ∧ q = p)) := by
  refine (seek_first h f hd hh size b s.head hb 0 hm rfl (by rw [roomOf, if_pos rfl, hst]; exact hroom) hO.sb).mono ?_
  rintro e w' ⟨rfl, hU, hL⟩
  exact ⟨s, vr, hd, 0, p, b, s.head, rfl, hU, hL, hO.mono (fun _ g => .inl g), f, hn, hb, hm, rfl, hne, fun e => hn0 e.symm, hst, rfl, rfl, rfl, rfl⟩
/-- a new Id, at the table's end -/
def Sto.fresh (s : Sto) (n : Int) : Sto := ({ s with blks := s.blks ++ [noBlk] } : Sto).took s.blks.length n
theorem take_simple {W : World} {sb : Nat} {vr vb vf : Value} {s : Sto} (h : Lay W sb vr vb vf s) (hf : s.free = []) (hlen : s.blks.length ≤ 1000000) (hus0 : 0 ≤ s.used) (hus1 : s.used ≤ 10000000000) (n : Int) (u : Nat) (hn0 : 0 < n) (hn1 : n ≤ 8388608) (hu : up8 n = u) (hd p : Nat) (b : Blk) (f : Fit (s.fresh n)) (hh : s.hand = hd) (hb : (s.fresh n).get hd = some b) (hm : b.next = 0) (hst : b.stop = p) (hne : hd ≤ s.blks.length) (hroom : (u : Int) ≤ 2 * (s.fresh n).used + 64 - p) {S : Nat → Prop} (hO : Own S sb vr vb vf) :
    Calls Try.prog 11 #[.pointer (some ⟨sb, 0, none⟩), .int .i64 n] W fun e w' => e = .returned (.tuple #[.int .i64 s.blks.length, .int .i64 0]) ∧ Upd S W w' ∧ ∃ vr4 vb4 vf4, Lay w' sb vr4 vb4 vf4 ((s.fresh n).laid (s.blks.length + 1) hd 0 p u) ∧ Own (Nx S W w') sb vr4 vb4 vf4 := by
  have gt : (s.fresh n).get (s.blks.length + 1) = some ⟨true, 0, n, 0, 0⟩ := by
    unfold Sto.get Sto.fresh Sto.took
    rw [if_neg (by omega)]
    simp
  refine (take_c (S := S) n u hn0 hn1 hu s.blks.length { s with blks := s.blks ++ [noBlk] } (by simp) (by simp; omega) hus0 (by dsimp only; omega) (fun s' bk nx q => s' = s.fresh n ∧ bk = hd ∧ nx = 0 ∧ q = p) ?_ ?_).mono ?_
  · refine (leastId_new h hf (by omega) hO).mono ?_
    rintro e w' ⟨rfl, hU, vb', hL, hO'⟩
    exact ⟨rfl, hU, vr, vb', vf, hL, hO'⟩
  · intro W3 S3 vr3 vb3 vf3 hL3 hO3
    exact seekPost_first hL3 f hd p (s.blks.length + 1) hh u b _ hb hm hst gt (by omega) (by omega) hroom hO3
  · rintro e w' ⟨rfl, hU, s4, bk, nx, q, ⟨rfl, rfl, rfl, rfl⟩, vr4, vb4, vf4, hL, hO'⟩
    exact ⟨rfl, hU, vr4, vb4, vf4, hL, hO'⟩
/-- a store with one extent of N bytes -/
def oneSto (N : Nat) : Sto := ⟨List.replicate N 0, ⟨false, 0, 0, 1, 1⟩, [⟨true, 0, N, 0, 0⟩], [], N, 1, false⟩
/-- a store with one extent of N bytes, and one of 8 -/
def twoSto (N : Nat) : Sto := ⟨List.replicate (N + 8) 0, ⟨false, 0, 0, 2, 1⟩, [⟨true, 0, N, 0, 2⟩, ⟨true, N, 8, 1, 0⟩], [], N + 8, 2, false⟩
/-- what a store of one extent of n bytes, whose row has u, is -/
def firstSto (n : Int) (u : Nat) : Sto := ⟨List.replicate u 0, ⟨false, 0, 0, 1, 1⟩, [⟨true, 0, n, 0, 0⟩], [], u, 1, false⟩
theorem get_two {s : Sto} {n : Nat} {b c d : Blk} (hs : s.blks = [c, d]) (h : s.get n = some b) : b = s.head ∨ b = c ∨ b = d := by
  unfold Sto.get at h
  split at h
  · left; cases h; rfl
  · rw [hs] at h
    right
    match n, h with
    | 1, h => left; simpa using h.symm
    | 2, h => right; simpa using h.symm
    | n + 3, h => simp at h
theorem get_one {s : Sto} {n : Nat} {b c : Blk} (hs : s.blks = [c]) (h : s.get n = some b) : b = s.head ∨ b = c := by
  unfold Sto.get at h
  split at h
  · left; cases h; rfl
  · rw [hs] at h
    right
    match n, h with
    | 1, h => simpa using h.symm
    | n + 2, h => simp at h
theorem first_take {W : World} {sb : Nat} {vr vb vf : Value} (h : Lay W sb vr vb vf emptySto) (n : Int) (u : Nat) (hn0 : 0 < n) (hn1 : n ≤ 8388608) (hu : up8 n = u) {S : Nat → Prop} (hO : Own S sb vr vb vf) :
    Calls Try.prog 11 #[.pointer (some ⟨sb, 0, none⟩), .int .i64 n] W fun e w' => e = .returned (.tuple #[.int .i64 0, .int .i64 0]) ∧ Upd S W w' ∧ ∃ vr4 vb4 vf4, Lay w' sb vr4 vb4 vf4 (firstSto n u) ∧ Own (Nx S W w') sb vr4 vb4 vf4 := by
  have hub : (u : Int) ≤ 8388616 := by unfold up8 at hu; omega
  have f : Fit (emptySto.fresh n) := by
    refine ⟨by simp [Sto.fresh, Sto.took, emptySto], by simp [Sto.fresh, Sto.took, emptySto], by simp [Sto.fresh, Sto.took, emptySto], ?_, ?_, ?_⟩
    · show 0 ≤ 0 + up8 n; omega
    · show 0 + up8 n ≤ _; omega
    · intro k b hb
      rcases get_one (c := ⟨true, 0, n, 0, 0⟩) rfl hb with rfl | rfl
      · exact ⟨Int.le_refl _, show (0 : Int) ≤ 1000000000000 by decide, Int.le_refl _, show (0 : Int) ≤ 100000000 by decide⟩
      · exact ⟨Int.le_refl _, show (0 : Int) ≤ 1000000000000 by decide, Int.le_of_lt hn0, show n ≤ 100000000 by omega⟩
  refine (take_simple h rfl (by decide) (by decide) (by decide) n u hn0 hn1 hu 0 0 noBlk f rfl rfl rfl rfl (by decide) (by show (u : Int) ≤ 2 * (0 + up8 n) + 64 - 0; omega) hO).mono ?_
  rintro e w' ⟨rfl, hU, vr4, vb4, vf4, hL, hO'⟩
  refine ⟨rfl, hU, vr4, vb4, vf4, ?_, hO'⟩
  have e1 : (emptySto.fresh n).laid (emptySto.blks.length + 1) 0 0 0 u = firstSto n u := by
    have er : layRow [] 0 u = List.replicate u 0 := by have := layRow_end [] u; simpa using this
    have eu : (0 : Int) + up8 n = u := by omega
    show (⟨layRow [] 0 u, ⟨false, 0, 0, 1, 1⟩, [⟨true, 0, n, 0, 0⟩], [], 0 + up8 n, 1, false⟩ : Sto) = _
    rw [er, eu]; rfl
  rw [← e1]; exact hL
theorem fit_first (n : Int) (u : Nat) (hn0 : 0 < n) (hn1 : n ≤ 8388608) (hu : up8 n = u) : Fit (firstSto n u) := by
  have hub : (u : Int) ≤ 8388616 := by unfold up8 at hu; omega
  refine ⟨show 1 ≤ 1000000000 by decide, by simp [firstSto]; omega, fun x hx => by rw [List.eq_of_mem_replicate hx]; decide, show (0 : Int) ≤ u by omega, show (u : Int) ≤ 1000000000000 by omega, ?_⟩
  intro k b hb
  rcases get_one (c := ⟨true, 0, n, 0, 0⟩) rfl hb with rfl | rfl
  · exact ⟨Int.le_refl _, show (0 : Int) ≤ 1000000000000 by decide, Int.le_refl _, show (0 : Int) ≤ 100000000 by decide⟩
  · exact ⟨Int.le_refl _, show (0 : Int) ≤ 1000000000000 by decide, Int.le_of_lt hn0, show n ≤ 100000000 by omega⟩
theorem second_take {W : World} {sb : Nat} {vr vb vf : Value} (N : Nat) (hN0 : 0 < N) (hN1 : N ≤ 1000000) (hN8 : up8 N = N) (h : Lay W sb vr vb vf (firstSto N N)) {S : Nat → Prop} (hO : Own S sb vr vb vf) :
    Calls Try.prog 11 #[.pointer (some ⟨sb, 0, none⟩), .int .i64 8] W fun e w' => e = .returned (.tuple #[.int .i64 1, .int .i64 0]) ∧ Upd S W w' ∧ ∃ vr4 vb4 vf4, Lay w' sb vr4 vb4 vf4 (twoSto N) ∧ Own (Nx S W w') sb vr4 vb4 vf4 := by
  have f : Fit ((firstSto N N).fresh 8) := by
    refine ⟨show 2 ≤ 1000000000 by decide, by simp [Sto.fresh, Sto.took, firstSto]; omega, fun x hx => by rw [List.eq_of_mem_replicate hx]; decide, show (0 : Int) ≤ N + up8 8 by unfold up8; omega, show (N : Int) + up8 8 ≤ _ by unfold up8; omega, ?_⟩
    intro k b hb
    rcases get_two (c := ⟨true, 0, N, 0, 0⟩) (d := ⟨true, 0, 8, 0, 0⟩) rfl hb with rfl | rfl | rfl
    · exact ⟨Int.le_refl _, show (0 : Int) ≤ 1000000000000 by decide, Int.le_refl _, show (0 : Int) ≤ 100000000 by decide⟩
    · exact ⟨Int.le_refl _, show (0 : Int) ≤ 1000000000000 by decide, show (0 : Int) ≤ N by omega, show (N : Int) ≤ 100000000 by omega⟩
    · exact ⟨Int.le_refl _, show (0 : Int) ≤ 1000000000000 by decide, show (0 : Int) ≤ 8 by decide, show (8 : Int) ≤ 100000000 by decide⟩
  refine (take_simple h rfl (show 1 ≤ 1000000 by decide) (show (0 : Int) ≤ N by omega) (show (N : Int) ≤ 10000000000 by omega) 8 8 (by decide) (by decide) rfl 1 N ⟨true, 0, N, 0, 0⟩ f rfl rfl rfl (by show 0 + up8 N = _; rw [hN8]; omega) (show 1 ≤ 1 by decide) (by show ((8 : Nat) : Int) ≤ 2 * (N + up8 8) + 64 - N; unfold up8; omega) hO).mono ?_
  rintro e w' ⟨rfl, hU, vr4, vb4, vf4, hL, hO'⟩
  refine ⟨rfl, hU, vr4, vb4, vf4, ?_, hO'⟩
  have e1 : ((firstSto N N).fresh 8).laid ((firstSto N N).blks.length + 1) 1 0 N 8 = twoSto N := by
    have er : layRow (List.replicate N 0) N 8 = List.replicate (N + 8) 0 := by
      have := layRow_end (List.replicate N 0) 8
      rw [List.length_replicate, List.replicate_append_replicate] at this
      exact this
    show (⟨layRow (List.replicate N 0) N 8, ⟨false, 0, 0, 2, 1⟩, [⟨true, 0, N, 0, 2⟩, ⟨true, N, 8, 1, 0⟩], [], N + up8 8, 2, false⟩ : Sto) = _
    rw [er]; rfl
  rw [← e1]; exact hL
theorem fit_two (N : Nat) (hN1 : N ≤ 1000000) (row : List Nat) (hr : row.length = N + 8) (hb : ∀ x ∈ row, x < 256) : Fit { twoSto N with row := row } := by
  refine ⟨show 2 ≤ 1000000000 by decide, show row.length ≤ _ by omega, hb, show (0 : Int) ≤ N + 8 by omega, show (N : Int) + 8 ≤ _ by omega, ?_⟩
  intro k b hb
  rcases get_two (c := ⟨true, 0, N, 0, 2⟩) (d := ⟨true, N, 8, 1, 0⟩) rfl hb with rfl | rfl | rfl
  · exact ⟨Int.le_refl _, show (0 : Int) ≤ 1000000000000 by decide, Int.le_refl _, show (0 : Int) ≤ 100000000 by decide⟩
  · exact ⟨Int.le_refl _, show (0 : Int) ≤ 1000000000000 by decide, show (0 : Int) ≤ N by omega, show (N : Int) ≤ 100000000 by omega⟩
  · exact ⟨show (0 : Int) ≤ N by omega, show (N : Int) ≤ 1000000000000 by omega, show (0 : Int) ≤ 8 by decide, show (8 : Int) ≤ 100000000 by decide⟩
end Go.Proofs.Ytmeoonnofiicpaa.W
/- Package store: the statements' awake. -/
namespace Go.Proofs.Ytmeoonnofiicpaa.W
open Go.ChangeShapes Go.WideShapes Go.RowKit Go.Shelf
set_option linter.unusedVariables false
theorem Lay.below {W W' : World} {sb : Nat} {vr vb vf : Value} {s : Sto} (h : Lay W sb vr vb vf s) (hB : Below W.heap.size W W') : Lay W' sb vr vb vf s := by
  obtain ⟨l0, l1, l2, l3⟩ := lay_lt h
  exact h.kept (hB.block _ l0) (fun k e => hB.block _ (l1 k e)) (fun k e => hB.block _ (l2 k e)) (fun k e => hB.block _ (l3 k e))
set_option maxHeartbeats 1000000 in
theorem awake_c (W : World) : Calls Try.prog 10 #[] W fun e w' => e = .returned (.bool true) ∧ Below W.heap.size W w' := by
  have cw := new_c W
  have hx : ({ firstSto 3 8 with row := saved (List.replicate 8 0) (0 + 0) 258 2 } : Sto).ext 0 = some ⟨true, 0, 3, 0, 0⟩ := rfl
  have hl : leN (seg (saved (List.replicate 8 0) (0 + 0) 258 2) (0 + 1) 1) = 1 := by decide
  go_enter Try.func10, Try.ntmps10
  go_upto_region 2 with (go_at_call 6; (with_reducible refine cw.mono ?_); rintro e W1 ⟨rfl, hL1, hB1, z1⟩; clear cw)
  have hO1 : Own (fun k => W.heap.size ≤ k) W.heap.size (.slice none 0 0) (.slice none 0 0) (.slice none 0 0) := ⟨Nat.le_refl _, fun k e => by simp [Value.ownBlock] at e, fun k e => by simp [Value.ownBlock] at e, fun k e => by simp [Value.ownBlock] at e⟩
  have hU1 : Upd (fun k => W.heap.size ≤ k) W W1 := Upd.of_below hB1
  have ct := first_take hL1 3 8 (by decide) (by decide) rfl hO1
  go_upto_region 5 with (go_at_call 11; (with_reducible refine ct.mono ?_); rintro e W2 ⟨rfl, hU2, vr2, vb2, vf2, hL2, hO2⟩; clear ct)
  replace hU2 := hU1.trans' hU2
  have hO2' : Own (fun k => W.heap.size ≤ k) W.heap.size vr2 vb2 vf2 := hO2.mono (fun k g => g.elim id (fun g => by have := hB1.size; omega))
  have cs : Calls Try.prog 19 #[.pointer (some ⟨W.heap.size, 0, none⟩), .int .i64 0, .int .i64 0, .int .i64 2, .int .u64 258] W2 _ := save_ok hL2 (fit_first 3 8 (by decide) (by decide) rfl) 0 2 258 (by decide) ⟨true, 0, 3, 0, 0⟩ rfl (by decide) 0 0 rfl (by decide) (by decide) (by decide) hO2'
  clear hL1 hO1 hU1
  go_upto_region 6 with (go_at_call 19; (with_reducible refine cs.mono ?_); rintro e W3 ⟨rfl, hL3, hU3⟩; clear cs)
  replace hU3 := hU2.trans' hU3
  have f3 : Fit { firstSto 3 8 with row := saved (firstSto 3 8).row (0 + 0) 258 2 } := by
    have f := fit_first 3 8 (by decide) (by decide) rfl
    exact ⟨f.len, by decide, by decide, f.used0, f.used1, f.blk⟩
  have cl : Calls Try.prog 17 #[.pointer (some ⟨W.heap.size, 0, none⟩), .int .i64 0, .int .i64 1, .int .i64 1] W3 _ := load_ok hL3 f3 0 1 ⟨true, 0, 3, 0, 0⟩ rfl (by decide) 1 0 rfl (by decide) (by decide) (by decide)
  rw [show leN (seg ({ firstSto 3 8 with row := saved (firstSto 3 8).row (0 + 0) 258 2 } : Sto).row (0 + 1) 1) = 1 from hl] at cl
  clear hL2 hO2 hU2
  have HL := (show Hid _ from hL3)
  clear hL3
  go_upto_region 7 with (go_at_call 17; (with_reducible refine cl.mono ?_); rintro e W4 ⟨rfl, hB4⟩; clear cl)
  have cu := used_c (HL.out.below hB4)
  have HU := (show Hid _ from (hU3.trans' (Upd.of_below hB4)).below (n := W.heap.size) (Nat.le_refl _) (fun k g => g))
  have eu : ({ firstSto 3 8 with row := saved (firstSto 3 8).row (0 + 0) 258 2 } : Sto).used = 8 := rfl
  rw [eu] at cu
  clear hU3 hB4 HL
  go_wp2_with (go_at_call 23; (with_reducible refine cu.mono ?_); rintro e w' ⟨rfl, hw⟩; (have hw' := hw.symm); subst hw'; clear hw)
  go_ret
  exact ⟨rfl, HU⟩
end Go.Proofs.Ytmeoonnofiicpaa.W
/- StoreFills: rows that came in, rows of one's own beside a store. -/
namespace Go.Proofs.Ytmeoonnofiicpaa.W
open Go.ChangeShapes Go.WideShapes Go.RowKit Go.Shelf
set_option linter.unusedVariables false
/-- a slice of integers that came in -/
def IsRow (k : IntKind) (w : World) (a : Option Addr) (len cap : Nat) (zs : List Int) : Prop :=
  (a = none ∧ len = 0 ∧ cap = 0 ∧ zs = []) ∨
  ∃ x, a = some x ∧ len ≤ cap ∧ cap ≤ maxLen ∧ zs.length = cap ∧ (∀ i, i < zs.length → w.cell? (x.add i) = some (.int k (zs.getD i 0))) ∧ ∀ n ∈ zs, (Lit.int k n).wf = true
section
variable {W W' : World} {sb : Nat} {S : Nat → Prop} {A : List (Option (List Nat))} {U N : Nat}
/-- blocks of the store being as they were, it lies as it lay -/
theorem St.on (h : St W S sb A U N) (hk : ∀ k, S k → W'.heap[k]? = W.heap[k]?) : St W' S sb A U N := by
  obtain ⟨s, E, vr, vb, vf, hL, hO, f⟩ := h
  exact ⟨s, E, vr, vb, vf, hL.kept (hk _ hO.sb) (fun k e => hk k (hO.row k e)) (fun k e => hk k (hO.blk k e)) (fun k e => hk k (hO.free k e)), hO, f⟩
theorem St.mono {T : Nat → Prop} (h : St W S sb A U N) (hk : ∀ k, S k → T k) : St W T sb A U N := by
  obtain ⟨s, E, vr, vb, vf, hL, hO, f⟩ := h
  exact ⟨s, E, vr, vb, vf, hL, hO.mono hk, f⟩
theorem St.below (h : St W S sb A U N) (hb : Below W.heap.size W W') (hS : ∀ k, S k → k < W.heap.size) : St W' S sb A U N := h.on (fun k hk => hb.block k (hS k hk))
theorem owns_on {b : Nat} {e : TypeId} {size : Nat} {v : Value} {n : Nat} {xs : List Value} (ho : W.ownsRow b e size v n xs) (hk : ∀ k, v.ownBlock = some k → W'.heap[k]? = W.heap[k]?) : W'.ownsRow b e size v n xs := by
  refine ⟨ho.1, ?_⟩
  rcases ho.2 with hn | ⟨g, cap, cur, rfl, hb, hgg, rest⟩
  · exact .inl hn
  · exact .inr ⟨g, cap, cur, rfl, hb, (hk g rfl).trans hgg, rest⟩
/-- a store, and a row of one's own beside it; all behind B -/
structure Both (B : Nat) (W : World) (sb : Nat) (A : List (Option (List Nat))) (v : Value) (n : Nat) (xs : List Value) : Prop where
  ex : ∃ S, St W S sb A 20000 61 ∧ (∀ k, S k → B ≤ k ∧ k < W.heap.size) ∧ (∀ k, v.ownBlock = some k → ¬ S k)
  own : W.ownsRow B 3 1 v n xs
variable {B : Nat} {v : Value} {n : Nat} {xs : List Value}
theorem Both.below (h : Both B W sb A v n xs) (hb : Below W.heap.size W W') : Both B W' sb A v n xs := by
  obtain ⟨S, h1, h2, h3⟩ := h.ex
  have hs := hb.size
  refine ⟨⟨S, h1.below hb (fun k hk => (h2 k hk).2), fun k hk => ⟨(h2 k hk).1, by have := (h2 k hk).2; omega⟩, h3⟩, owns_on h.own (fun k hk => hb.block k ?_)⟩
  exact (h.own.lt k hk).2
theorem Both.upd {A' : List (Option (List Nat))} {S : Nat → Prop} (h2 : ∀ k, S k → B ≤ k ∧ k < W.heap.size) (h3 : ∀ k, v.ownBlock = some k → ¬ S k) (ho : W.ownsRow B 3 1 v n xs) (hB : B ≤ W.heap.size) (hU : Upd S W W') (h1 : St W' (Nx S W W') sb A' 20000 61) : Both B W' sb A' v n xs ∧ Below B W W' := by
  have hs := hU.size
  refine ⟨⟨⟨Nx S W W', h1, ?_, ?_⟩, owns_on ho (fun k hk => hU.block k (ho.lt k hk).2 (h3 k hk))⟩, hU.below hB (fun k hk => (h2 k hk).1)⟩
  · rintro k (hk | hk)
    · exact ⟨(h2 k hk).1, by have := (h2 k hk).2; omega⟩
    · exact ⟨by omega, hk.2⟩
  · rintro k hk (hk2 | hk2)
    · exact h3 k hk hk2
    · have := (ho.lt k hk).2; omega
end
section
variable {W : World} {sb : Nat} {A : List (Option (List Nat))} {B : Nat} {v : Value} {n : Nat} {xs : List Value}
theorem both_take (h : Both B W sb A v n xs) (hB : B ≤ W.heap.size) (z : Nat) (hn : z ≤ 8388608) (hU : sumA A + up8N z ≤ 20000) (hN : A.length < 61) :
    Calls Try.prog 11 #[.pointer (some ⟨sb, 0, none⟩), .int .i64 z] W fun e w' => e = .returned (.tuple #[.int .i64 (leastA A : Nat), .int .i64 0]) ∧ Both B w' sb (putA A (leastA A) (some (List.replicate z 0))) v n xs ∧ Below B W w' := by
  obtain ⟨S, h1, h2, h3⟩ := h.ex
  refine (take_st h1 z hn hU hN).mono ?_
  rintro e w' ⟨rfl, hU', hS⟩
  exact ⟨rfl, Both.upd h2 h3 h.own hB hU' hS⟩
theorem both_give (h : Both B W sb A v n xs) (hB : B ≤ W.heap.size) (id : Nat) (x : List Nat) (hx : A[id]? = some (some x)) :
    Calls Try.prog 13 #[.pointer (some ⟨sb, 0, none⟩), .int .i64 id] W fun e w' => e = .returned (.int .i64 0) ∧ Both B w' sb (A.set id none) v n xs ∧ Below B W w' := by
  obtain ⟨S, h1, h2, h3⟩ := h.ex
  refine (give_st h1 id x hx).mono ?_
  rintro e w' ⟨rfl, hU', hS⟩
  exact ⟨rfl, Both.upd h2 h3 h.own hB hU' hS⟩
theorem both_save (h : Both B W sb A v n xs) (hB : B ≤ W.heap.size) (id : Nat) (x : List Nat) (hx : A[id]? = some (some x)) (o c : Nat) (hc : c < 18446744073709551616) (ho : o + 1 ≤ x.length) :
    Calls Try.prog 19 #[.pointer (some ⟨sb, 0, none⟩), .int .i64 id, .int .i64 o, .int .i64 1, .int .u64 c] W fun e w' => e = .returned (.int .i64 0) ∧ Both B w' sb (A.set id (some (saved x o c 1))) v n xs ∧ Below B W w' := by
  obtain ⟨S, h1, h2, h3⟩ := h.ex
  refine (save_st h1 id x hx o 1 c hc (.inl rfl) (Nat.mod_one _) ho).mono ?_
  rintro e w' ⟨rfl, hU', hS⟩
  exact ⟨rfl, Both.upd h2 h3 h.own hB hU' (hS.mono (fun k hk => .inl hk))⟩
theorem both_pack (h : Both B W sb A v n xs) (hB : B ≤ W.heap.size) :
    Calls Try.prog 21 #[.pointer (some ⟨sb, 0, none⟩)] W fun e w' => e = .returned (.tuple #[]) ∧ Both B w' sb A v n xs ∧ Below B W w' := by
  obtain ⟨S, h1, h2, h3⟩ := h.ex
  refine (pack_st h1).mono ?_
  rintro e w' ⟨rfl, hU', hS⟩
  exact ⟨rfl, Both.upd h2 h3 h.own hB hU' (hS.mono (fun k hk => .inl hk))⟩
theorem both_load (h : Both B W sb A v n xs) (id : Nat) (x : List Nat) (hx : A[id]? = some (some x)) (o : Nat) (ho : o + 1 ≤ x.length) :
    Calls Try.prog 17 #[.pointer (some ⟨sb, 0, none⟩), .int .i64 id, .int .i64 o, .int .i64 1] W fun e w' => e = .returned (.tuple #[.int .u64 (leN (seg x o 1)), .int .i64 0]) ∧ Both B w' sb A v n xs ∧ Below W.heap.size W w' := by
  obtain ⟨S, h1, h2, h3⟩ := h.ex
  refine (load_st h1 id x hx o 1 (.inl rfl) (Nat.mod_one _) ho).mono ?_
  rintro e w' ⟨rfl, hb⟩
  exact ⟨rfl, h.below hb, hb⟩
end
end Go.Proofs.Ytmeoonnofiicpaa.W
/- A row of one's own beside a store grows by append, and is written. -/
namespace Go.Proofs.Ytmeoonnofiicpaa.W
open Go.ChangeShapes Go.WideShapes Go.RowKit Go.Shelf
set_option linter.unusedVariables false
section
variable {W : World} {sb : Nat} {A : List (Option (List Nat))} {B : Nat} {v : Value} {n : Nat} {xs : List Value}
theorem owns_base {b b' : Nat} {e : TypeId} {size : Nat} (h : W.ownsRow b e size v n xs) (hb : ∀ g, v.ownBlock = some g → b' ≤ g) : W.ownsRow b' e size v n xs := by
  refine ⟨h.1, ?_⟩
  rcases h.2 with hn | ⟨g, cap, cur, rfl, _, rest⟩
  · exact .inl hn
  · exact .inr ⟨g, cap, cur, rfl, hb g rfl, rest⟩
theorem under34 : Try.prog.underlying 34 = some (.slice 3) := by kernel_rfl
theorem both_append (h : Both B W sb A v n xs) (hB : B ≤ W.heap.size) (ty : TypeId) (a : Addr) (c : Nat) (x : Int) (hx : W.cell? (a.add 0) = some (.int .i64 x)) (hn : n ≤ 1000) :
    ∃ v' w', (Builtin.append_ #[34, 34] ty #[v, .slice (some a) 1 c]).run Try.prog W = .ok v' w' ∧ Both B w' sb A v' (n + 1) (xs ++ [.int .i64 x]) ∧ Below B W w' := by
  obtain ⟨i0, hi, hz0, hz1, hz2⟩ := info_parts info3
  obtain ⟨S, h1, h2, h3⟩ := h.ex
  have hbase : ∀ g, v.ownBlock = some g → B ≤ g := fun g hg => (h.own.lt g hg).1
  obtain ⟨v', w', hr, ho, hg, hat⟩ := append_at W 34 ty 3 i0 (.int .i64 0) 1 8 under34 hi hz0 hz1 hz2 rfl (by decide) v n xs (owns_base h.own (fun _ _ => Nat.zero_le _)) a 1 c [.int .i64 x] rfl (by
    intro j u hj
    match j, hj with
    | 0, hj => simp at hj; subst hj; exact hx) (by intro u hu; simp at hu; subst hu; rfl) (by decide) (by decide) (by omega)
  have hs := hg.size
  have hU : Upd (fun k => v.ownBlock = some k) W w' := (Upd.refl _ W).grown hg (fun k e => .inl e)
  refine ⟨v', w', hr, ⟨⟨S, ?_, fun k hk => ⟨(h2 k hk).1, by have := (h2 k hk).2; omega⟩, ?_⟩, owns_base ho ?_⟩, hU.below hB hbase⟩
  · exact h1.on (fun k hk => hU.block k (h2 k hk).2 (fun e => h3 k e hk))
  · intro k hk hS
    rcases hat k hk with e | e
    · exact h3 k e hS
    · have := (h2 k hS).2; omega
  · intro g hg'
    rcases hat g hg' with e | e
    · exact hbase g e
    · omega
end
end Go.Proofs.Ytmeoonnofiicpaa.W
/- A region of a round that holds a yield of a loop around: as in no round. -/
namespace Go.Proofs.Ytmeoonnofiicpaa.W
open Go.ChangeShapes Go.WideShapes Go.RowKit Go.Shelf
set_option linter.unusedVariables false
theorem opIn_round {P : Program} {L n : Nat} {ops : Array Oper} {i : Nat} {a : Act} {w : World} {K K' : Act → World → Prop} {Q : Exit → Act → World → Prop} (hd : ∀ (i : Nat) (o : Oper), ops[i]? = some o → ∀ c, o.op ≠ .defer c) (hK : ∀ a w, K a w → K' a w) (h : wpOpIn Fence.wide n P ops Q i K a w) : wpOpIn (Fence.wide.inRound L) n P ops Q i K' a w := by
  have h := wpOpIn_mono hK h
  clear hK
  unfold wpOpIn at *
  cases ho : ops[i]? with
  | none => rw [ho] at h; exact h
  | some o =>
    rw [ho] at h
    simp only at h ⊢
    split
    · rename_i hw
      rw [if_pos hw] at h
      unfold Oper.wpIn at *
      refine ⟨fun _ _ => trivial, ?_⟩
      have h := h.2
      rw [Oper.semAt_eq _ _ _ (hd i o ho)] at h ⊢
      generalize (execOp a.eval o).run P w = r at *
      cases r with
      | ok x w' =>
        cases x with
        | value v => exact h
        | skip => exact h
        | defer d => exact h
        | enter f args => exact ⟨fun e => by simp [Fence.wide, Fence.inRound] at e, h.2⟩
        | row row args => exact ⟨fun e => by simp [Fence.wide, Fence.inRound] at e, h.2⟩
        | round l f tmps assign body => exact ⟨fun e => by simp [Fence.wide, Fence.inRound] at e, h.2⟩
        | _ => exact h.elim
      | halt x w' => cases x <;> first | exact h | exact h.elim
    · rename_i hw
      rw [if_neg hw] at h
      exact ⟨fun _ _ => trivial, h.2⟩
theorem anyIn_round {P : Program} {L n : Nat} {ops : Array Oper} {md : Region.Mode} {Q : Exit → Act → World → Prop} (hd : ∀ (i : Nat) (o : Oper), ops[i]? = some o → ∀ c, o.op ≠ .defer c) :
    ∀ (fuel : Nat) (listed : Array Bool) (a : Act) (w : World), wpAnyIn Fence.wide n P md ops Q fuel listed a w → wpAnyIn (Fence.wide.inRound L) n P md ops Q fuel listed a w
  | 0, _, _, _, h => h
  | fuel + 1, _, _, _, h => ⟨h.1, fun i hi => opIn_round hd (fun a' w' h' => anyIn_round hd fuel _ a' w' h') (h.2 i hi)⟩
/-- a region that draws its order, in a round -/
theorem round_any {P : Program} {L n id : Nat} {ops : Array Oper} {Q : Exit → Act → World → Prop} {a : Act} {w : World} (hm : P.follows .mixedOrders = true) (hd : noDefer ops = true) (h : wpAnyIn Fence.wide n P .any ops Q ops.size (Array.replicate ops.size false) a w.drew) : (Code.region id ops true).wpIn (Fence.wide.inRound L) n P Q a w :=
  wpIn_region_any hm (anyIn_round (noDefer_spec hd) _ _ _ _ h)
theorem round_depth {m m' : Nat} {P : Program} {l : Nat} {f : FuncId} {tmps : Array Value} {assign body : Code} {w : World} {R : Ending → World → Prop}
    (h : RoundIn Fence.wide m P l f tmps assign body w R) : RoundIn Fence.wide m' P l f tmps assign body w R := ⟨h.1, fun c cs _ => h.2 c cs (fun d hd => by cases hd)⟩
end Go.Proofs.Ytmeoonnofiicpaa.W
/- A region that draws its order and holds a yield: what only reads is taken first. -/
namespace Go.Proofs.Ytmeoonnofiicpaa.W
open Go.ChangeShapes Go.WideShapes Go.RowKit Go.Shelf
set_option linter.unusedVariables false
section
variable {n : Nat} {P : Program} {ops : Array Oper} {Q : Exit → Act → World → Prop} {md : Region.Mode} {S : World → Prop}
/-- every order, at the wide fence; S holds behind each operation -/
def anyS (n : Nat) (P : Program) (md : Region.Mode) (ops : Array Oper) (Q : Exit → Act → World → Prop) (S : World → Prop) : Nat → Array Bool → Act → World → Prop
  | 0, l, a, w => Region.ready md ops l = [] ∧ Q .normal a w
  | k + 1, l, a, w => (Region.ready md ops l = [] → Q .normal a w) ∧ ∀ i ∈ Region.ready md ops l, wpOpIn Fence.wide n P ops Q i (fun a' w' => S w' ∧ anyS n P md ops Q S k (l.setIfInBounds i true) a' w') a w
theorem anyS_in : ∀ (k : Nat) (l : Array Bool) (a : Act) (w : World), anyS n P md ops Q S k l a w → wpAnyIn Fence.wide n P md ops Q k l a w
  | 0, _, _, _, h => h
  | k + 1, _, _, _, h => ⟨h.1, fun i hi => wpOpIn_mono (fun a' w' h' => anyS_in k _ a' w' h'.2) (h.2 i hi)⟩
/-- what is left of an operation's question at the wide fence, at a result r -/
theorem semWide (o : Oper) (a : Act) : o.semAt Fence.wide.round a.eval = execOp a.eval o := rfl
theorem opIn_swap {j : Nat} {oi oj : Oper} {v : Value} (hj : ops[j]? = some oj) (hap : oi.apart ops oj = true) (hsi : ∀ cs b, oi.op ≠ .select cs b) (hsj : ∀ cs b, oj.op ≠ .select cs b)
    (hQ : ∀ c a w, Q (.panic c) (a.put oi.dst v) w → Q (.panic c) a w) {K : Act → World → Prop} {a : Act} {w : World} (hy : YieldsIf P ops S oi v a) (h : wpOpIn Fence.wide n P ops Q j K (a.put oi.dst v) w) :
    wpOpIn Fence.wide n P ops Q j (fun a' w' => YieldsIf P ops S oi v a' ∧ K (a'.put oi.dst v) w') a w := by
  obtain ⟨p1, p2, p3⟩ := Oper.apart_spec hap
  have stay : ∀ (b : Act) u, YieldsIf P ops S oi v b → YieldsIf P ops S oi v (b.put oj.dst u) := fun b u hb => hb.of_same (execOp_put oi hsi b oj.dst u p3) (wanted_put oi b oj.dst u p3)
  have both : ∀ u w', K ((a.put oi.dst v).put oj.dst u) w' → YieldsIf P ops S oi v (a.put oj.dst u) ∧ K ((a.put oj.dst u).put oi.dst v) w' := fun u w' hk => ⟨stay a u hy, by rw [← Act.put_comm a v u p2]; exact hk⟩
  unfold wpOpIn at *
  rw [hj] at h ⊢
  simp only at h ⊢
  rw [wanted_put oj a oi.dst v p1] at h
  by_cases hw : Region.wanted oj (yielded ops a.tmps) = true
  · rw [if_pos hw] at h ⊢
    unfold Oper.wpIn at *
    refine ⟨fun _ _ => trivial, ?_⟩
    have h := h.2
    rw [semWide, execOp_put oj hsj a oi.dst v p1] at h
    rw [semWide]
    generalize (execOp a.eval oj).run P w = r at *
    cases r with
    | halt x w' => cases x <;> first | exact hQ _ _ _ h | exact h
    | ok x w' =>
      cases x with
      | value u => exact both u w' h
      | skip => exact both _ w' h
      | defer d =>
        refine ⟨stay _ _ (hy.of_same rfl rfl), ?_⟩
        rw [← Act.put_comm _ v undef p2, ← Act.put_defers]
        exact h
      | enter f args =>
        refine ⟨h.1, CallsIn.mono h.2 (fun e w2 he => ?_)⟩
        cases e with
        | returned u => exact both u w2 he
        | panicked c => exact hQ _ _ _ he
        | outgrown => exact he
      | row row args => exact ⟨h.1, RowsIn.mono h.2 (fun u w2 he => both u w2 he)⟩
      | round l f tmps assign body =>
        refine ⟨h.1, RoundIn.mono h.2 (fun e w2 he => ?_)⟩
        cases e with
        | returned u => exact both u w2 he
        | panicked c => exact hQ _ _ _ he
        | outgrown => exact he
      | _ => exact h
  · rw [if_neg hw] at h ⊢
    exact ⟨fun _ _ => trivial, both _ _ h.2⟩
theorem anyS_now {i : Nat} {oi : Oper} {v : Value} {a : Act} {w : World} (hi : ops[i]? = some oi) (hy : YieldsIf P ops S oi v a) (hS : S w) {K : Act → World → Prop} (h : K (a.put oi.dst v) w) : wpOpIn Fence.wide n P ops Q i K a w := by
  unfold wpOpIn
  rw [hi]
  rcases hy with ⟨hw, hv⟩ | ⟨hw, rfl⟩
  · simp only [hw, if_true, Oper.wpIn, semWide, hv w hS]
    exact ⟨fun _ _ => trivial, h⟩
  · simp only [hw, Bool.false_eq_true, if_false]
    exact ⟨fun _ _ => trivial, h⟩
theorem anyS_first {i : Nat} {oi : Oper} {v : Value} (hi : ops[i]? = some oi) (hsel : ∀ (j : Nat) (o : Oper) cs b, ops[j]? = some o → o.op ≠ .select cs b) (hQ : ∀ c a w, Q (.panic c) (a.put oi.dst v) w → Q (.panic c) a w) (k : Nat) :
    ∀ (l : Array Bool) (a : Act) (w : World), (∀ j oj, ops[j]? = some oj → j ≠ i → l.getD j true = false → (∀ e ∈ oj.after, Region.binds md e = true → e.on ≠ i) → oi.apart ops oj = true) → i ∈ Region.ready md ops l → YieldsIf P ops S oi v a → S w → anyS n P md ops Q S k (l.setIfInBounds i true) (a.put oi.dst v) w → anyS n P md ops Q S (k + 1) l a w := by
  induction k with
  | zero =>
    intro l a w _ hr hy hS H
    refine ⟨fun h => absurd hr (by rw [h]; simp), fun j hj => ?_⟩
    by_cases e : j = i
    · subst e; exact anyS_now hi hy hS ⟨hS, H⟩
    · exact absurd (ready_mono hj e) (by rw [H.1]; simp)
  | succ k ih =>
    intro l a w hfree hr hy hS H
    refine ⟨fun h => absurd hr (by rw [h]; simp), fun j hj => ?_⟩
    by_cases e : j = i
    · subst e; exact anyS_now hi hy hS ⟨hS, H⟩
    · obtain ⟨hjun, oj, hoj, hall⟩ := mem_ready.1 hj
      have hno : ∀ e ∈ oj.after, Region.binds md e = true → e.on ≠ i := by
        intro x hx hb hxi
        have y1 := hall x hx hb
        have y0 := (mem_ready.1 hr).1
        rw [hxi] at y1
        rcases Nat.lt_or_ge i l.size with z | z
        · simp [z] at y0 y1; rw [y0] at y1; cases y1
        · simp [Array.getElem?_eq_none z] at y1
      refine wpOpIn_mono ?_ (opIn_swap hoj (hfree j oj hoj e hjun hno) (fun cs b => hsel i oi cs b hi) (fun cs b => hsel j oj cs b hoj) hQ hy (H.2 j (ready_mono hj e)))
      rintro a' w' ⟨y1, y2, y3⟩
      refine ⟨y2, ih (l.setIfInBounds j true) a' w' ?_ (ready_mono hr (Ne.symm e)) y1 y2 ?_⟩
      · intro t ot ht hti hun hno'
        refine hfree t ot ht hti ?_ hno'
        by_cases z : j = t
        · subst z; exact hjun
        · rw [getD_set_ne true z] at hun; exact hun
      · rw [Array.setIfInBounds_comm _ _ e]; exact y3
theorem anyS_take {i : Nat} {oi : Oper} {v : Value} {k : Nat} {l : Array Bool} {a : Act} {w : World} (hi : ops[i]? = some oi) (hs : Region.noSelect ops = true) (hf : Region.free md ops l i = true) (hr : (Region.ready md ops l).contains i = true)
    (hQ : ∀ c a w, Q (.panic c) (a.put oi.dst v) w → Q (.panic c) a w) (hy : YieldsIf P ops S oi v a) (hS : S w) (h : anyS n P md ops Q S k (l.setIfInBounds i true) (a.put oi.dst v) w) : anyS n P md ops Q S (k + 1) l a w :=
  anyS_first hi (Region.noSelect_spec hs) hQ k l a w (Region.free_spec hi hf) (by simpa using hr) hy hS h
theorem anyS_one {i : Nat} {o : Oper} {k : Nat} {l : Array Bool} {a : Act} {w : World} (hr : Region.ready md ops l = [i]) (ho : ops[i]? = some o) (hw : Region.wanted o (yielded ops a.tmps) = true) (h : ∀ K : Act → World → Prop, (∀ a' w', S w' ∧ anyS n P md ops Q S k (l.setIfInBounds i true) a' w' → K a' w') → o.wpIn Fence.wide n P a w K Q) : anyS n P md ops Q S (k + 1) l a w := by
  refine ⟨fun h0 => absurd (hr.symm.trans h0) (by simp), fun j hj => ?_⟩
  rw [hr] at hj
  simp at hj
  subst hj
  unfold wpOpIn
  rw [ho]
  simp only [hw, if_true]
  exact h _ (fun a' w' h' => h')
theorem anyS_done {l : Array Bool} {a : Act} {w : World} (hr : Region.ready md ops l = []) (h : Q .normal a w) : ∀ k, anyS n P md ops Q S k l a w
  | 0 => ⟨hr, h⟩
  | _ + 1 => ⟨fun _ => h, by rw [hr]; simp⟩
theorem round_anyS {L id : Nat} {a : Act} {w : World} (hm : P.follows .mixedOrders = true) (hd : noDefer ops = true) (h : anyS n P .any ops Q S ops.size (Array.replicate ops.size false) a w.drew) : (Code.region id ops true).wpIn (Fence.wide.inRound L) n P Q a w :=
  round_any hm hd (anyS_in _ _ _ _ h)
end
end Go.Proofs.Ytmeoonnofiicpaa.W
/- Package store: a range over the blocks of the ring, where the caller lays blocks that it changes; rows of extents. -/
namespace Go.Proofs.Ytmeoonnofiicpaa.W
open Go.ChangeShapes Go.WideShapes Go.RowKit Go.Shelf
set_option linter.unusedVariables false
theorem ring_lawB {g : Operand} {pt : Nat} {assign body : Code} {Q : Exit → Act → World → Prop} {a : Act} {W0 : World} {Bn Bs sb : Nat} (hg : a.eval g = .func (.func 46) #[] #[.pointer (some ⟨Bn, 0, none⟩), .pointer (some ⟨Bs, 0, none⟩)])
    (xs : List Nat) (hne : 0 < xs.length) (hd : xs.Nodup) (hz : ∀ i (hi : i + 1 < xs.length), xs[i + 1] ≠ 0) (hBn : Boxed W0 Bn 3 (.int .i64 (xs[0] : Nat)))
    (I : Nat → World → Prop) (Ix : Code → World → Prop)
    (hI : ∀ i W W', I i W → Upd (fun k => k = Bn ∨ k = W0.heap.size + 1) W W' → I i W')
    (hIx : ∀ c W W', Ix c W → Upd (fun k => k = Bn ∨ k = W0.heap.size + 1) W W' → Ix c W') (h0 : I 0 W0)
    (hread : ∀ i (hi : i < xs.length) W, I (i + 1) W → W.cell? ⟨Bs, 0, none⟩ = some (.pointer (some ⟨sb, 0, none⟩)) ∧ ∃ B O, Calls Try.prog 38 #[.pointer (some ⟨sb, 0, none⟩), .int .i64 (xs[i] : Nat)] W (fun e w' => e = .returned (.pointer (some ⟨B, O, none⟩)) ∧ w' = W) ∧ W.cell? ⟨B, O + 4, none⟩ = some (.int .i64 (xs[i + 1]?.getD 0 : Nat)))
    (q : Nat)
    (hassign : ∀ (L x : Nat) (W : World) (K : Act → World → Prop), K (ringAct pt a q x) W → assign.wpIn (Fence.wide.inRound L) 7 Try.prog (Exit.then K (fun _ _ _ => False)) { tmps := a.tmps.setIfInBounds pt (.int .i64 (x : Int)), defers := [] } W)
    (hbody : ∀ (L : Nat) i (hi : i < xs.length) W, L = W0.heap.size + 1 → I i W → W0.heap.size + 2 ≤ W.heap.size → (∃ r, W.heap[L]? = some (.loop r)) → Boxed W Bn 3 (.int .i64 (xs[i] : Nat)) → body.wpIn (Fence.wide.inRound L) 7 Try.prog (ringWay L W0.heap.size Bn W (I (i + 1)) Ix) (ringAct pt a q xs[i]) W)
    (hdone : ∀ W, I xs.length W → W.heap[W0.heap.size]? = some (.deferred (some [])) → W0.heap.size + 2 ≤ W.heap.size → Q .normal { a with defers := { target := .collected W0.heap.size, args := #[] } :: a.defers } W)
    (hstop : ∀ c W, Ix c W → W.heap[W0.heap.size]? = some (.deferred (some [])) → c.wp Try.prog Q { a with defers := { target := .collected W0.heap.size, args := #[] } :: a.defers } W) :
    (Code.rangeFunc g #[pt] assign body).wp Try.prog Q a W0 := by
  have hUL : ∀ (W : World) (o : Obj), Upd (fun k => k = Bn ∨ k = W0.heap.size + 1) W (W.putObj (W0.heap.size + 1) o) := fun W o => upd_put (.inr rfl) o
  have hBlt := hBn.lt
  refine (wpIn_wide (n := 9)).1 (rf_law hg eg49 (fun W => I xs.length W) Ix ?_ ?_ ?_)
  · intro r W1 hr1 hr2 hr3 hr4 hr5 hr6 hW1 hL1
    have hI1 : I 0 W1 := by
      refine hI 0 W0 W1 h0 ?_
      rw [hW1]; exact ((Upd.refl _ W0).alloc _).alloc _
    have hB1 : Boxed W1 Bn 3 (.int .i64 (xs[0] : Nat)) := by rw [hW1]; exact (hBn.alloc _).alloc _
    have hsz : W0.heap.size + 2 ≤ W1.heap.size := by rw [hW1]; simp
    have key := from1_in 8 (W0.heap.size + 1) Bn Bs sb (by omega) xs hne hd
      (fun i W => I i W ∧ LoopAt W (W0.heap.size + 1) W0.heap.size r ∧ W0.heap.size + 2 ≤ W.heap.size ∧ ∃ hi : i < xs.length, Boxed W Bn 3 (.int .i64 (xs[i] : Nat)))
      (fun i W => I (i + 1) W ∧ LoopAt W (W0.heap.size + 1) W0.heap.size r ∧ W0.heap.size + 2 ≤ W.heap.size ∧ ∃ hi : i < xs.length, Boxed W Bn 3 (.int .i64 (xs[i] : Nat)))
      (fun W => I xs.length W ∧ LoopAt W (W0.heap.size + 1) W0.heap.size r)
      (fun W => ∃ c, Ix c W ∧ LoopAt W (W0.heap.size + 1) W0.heap.size { r with state := .done, pending := some c })
      ?_ ?_ ?_ ?_ ?_ W1 ⟨hI1, hL1, hsz, hne, hB1⟩
    · refine key.mono ?_
      rintro e W3 ⟨hv, ⟨h1, h2⟩ | ⟨c, h1, h2⟩⟩
      · exact ⟨hv, .inl ⟨h1, r, h2, by rw [hr1]; simp, hr2⟩⟩
      · exact ⟨hv, .inr ⟨c, h1, _, h2, by simp, rfl⟩⟩
    · intro i hi W ⟨hi1, hl1, hs1, _, hb1⟩
      have hargs : (#[Value.int .i64 ((xs[i] : Nat) : Int)] : Array Value).size = r.params.size := by rw [hr4]; rfl
      refine YieldAt.mono (yield_law (Rn := fun W' => I (i + 1) W' ∧ LoopAt W' (W0.heap.size + 1) W0.heap.size r ∧ W0.heap.size + 2 ≤ W'.heap.size ∧ ∃ hi : i < xs.length, Boxed W' Bn 3 (.int .i64 (xs[i] : Nat))) (Rx := fun c W' => Ix c W' ∧ LoopAt W' (W0.heap.size + 1) W0.heap.size { r with state := .done, pending := some c }) hl1 hr1 hargs (ringAct pt a q xs[i]) ?_ ?_) ?_
      · intro K hK
        rw [hr5, hr4, hr3]
        rw [zip_one]
        exact hassign _ _ W K hK
      · intro W2 hW2 hl2
        have hI2 : I i W2 := by rw [hW2]; exact hI i W _ hi1 (hUL W _)
        have hb2 : Boxed W2 Bn 3 (.int .i64 (xs[i] : Nat)) := by
          rw [hW2]
          unfold Boxed
          rw [World.putObj_heap_other (by omega)]
          exact hb1
        have hs2 : W0.heap.size + 2 ≤ W2.heap.size := by rw [hW2]; simpa using hs1
        have hbd := hbody _ i hi W2 rfl hI2 hs2 ⟨_, hl2.lp⟩ hb2
        rw [← hr6] at hbd
        refine wpIn_mono hbd ?_
        intro e a3 W3 hp
        have put : ∀ q : Loop, (W3.heap[W0.heap.size + 1]? = W2.heap[W0.heap.size + 1]? ∧ W3.heap[W0.heap.size]? = W2.heap[W0.heap.size]? ∧ W3.heap[Bn]? = W2.heap[Bn]?) → LoopAt W3 (W0.heap.size + 1) W0.heap.size { r with state := .busy } ∧ LoopAt (W3.putObj (W0.heap.size + 1) (.loop q)) (W0.heap.size + 1) W0.heap.size q ∧ Boxed (W3.putObj (W0.heap.size + 1) (.loop q)) Bn 3 (.int .i64 (xs[i] : Nat)) ∧ W0.heap.size + 2 ≤ (W3.putObj (W0.heap.size + 1) (.loop q)).heap.size := by
          rintro q ⟨e1, e2, e3⟩
          have hl3 := hl2.kept e1 e2
          refine ⟨hl3, hl3.put q, ?_, ?_⟩
          · unfold Boxed
            rw [World.putObj_heap_other (by omega), e3]
            exact hb2
          · have := (Array.getElem?_eq_some_iff.1 hl3.lp).1
            simp; omega
        cases e with
        | normal =>
          obtain ⟨hk, hin⟩ := hp
          obtain ⟨p1, p2, p3, p4⟩ := put { r with state := .ready, pending := none } hk
          have er : ({ r with state := .ready, pending := none } : Loop) = r := by cases r; simp_all
          refine ⟨p1, hI _ W3 _ hin (hUL W3 _), ?_, p4, hi, p3⟩
          rw [er] at p2 ⊢
          exact p2
        | ret =>
          obtain ⟨hk, hin⟩ := hp
          obtain ⟨p1, p2, p3, p4⟩ := put { r with state := .done, pending := some .ret } hk
          exact ⟨p1, hIx _ W3 _ hin (hUL W3 _), p2⟩
        | exit id =>
          obtain ⟨hk, hin⟩ := hp
          obtain ⟨p1, p2, p3, p4⟩ := put { r with state := .done, pending := some (.exit id) } hk
          exact ⟨p1, hIx _ W3 _ hin (hUL W3 _), p2⟩
        | goto t => exact hp.elim
        | panic ch => exact hp.elim
        | outgrown => exact hp.elim
      · rintro e W' (⟨rfl, h1⟩ | ⟨rfl, c, h1⟩)
        · exact .inl ⟨rfl, h1⟩
        · exact .inr ⟨rfl, c, h1⟩
    · rintro i hi W ⟨_, _, _, _, hb⟩
      exact hb.cell
    · rintro i hi W ⟨h1, _, _, _, hb⟩
      obtain ⟨r1, r2⟩ := hread i hi W h1
      exact ⟨hb.cell, hb.frozen, r1, r2⟩
    · rintro i hi W ⟨h1, hl, hs, hi', hb⟩
      have hu : Upd (fun k => k = Bn ∨ k = W0.heap.size + 1) W (W.setCell ⟨Bn, 0, none⟩ (.int .i64 (xs[i + 1] : Nat))) := (Upd.refl _ W).setCell (.inl (.inl rfl)) _
      refine ⟨hz i hi, hI _ W _ h1 hu, hl.kept (Below.heap_setCell _ _ _ _ (by show _ ≠ Bn; omega)) (Below.heap_setCell _ _ _ _ (by show _ ≠ Bn; omega)), by simpa [World.setCell] using hs, hi, hb.set _⟩
    · rintro i W hi ⟨h1, hl, hs, hi', hb⟩
      have hu : Upd (fun k => k = Bn ∨ k = W0.heap.size + 1) W (W.setCell ⟨Bn, 0, none⟩ (.int .i64 0)) := (Upd.refl _ W).setCell (.inl (.inl rfl)) _
      rw [← hi]
      exact ⟨hI _ W _ h1 hu, hl.kept (Below.heap_setCell _ _ _ _ (by show _ ≠ Bn; omega)) (Below.heap_setCell _ _ _ _ (by show _ ≠ Bn; omega))⟩
  · intro W3 q hd hl
    exact hdone _ (hI _ W3 _ hd (hUL W3 _)) hl.defs (Array.getElem?_eq_some_iff.1 hl.lp).1
  · intro W3 q c hs hl
    exact wpIn_wide.2 (hstop c _ (hIx _ W3 _ hs (hUL W3 _)) hl.defs)

/-- something behind a row of one's own -/
theorem own_behind (B0 : Nat) (W : World) (t e : TypeId) (z : Value) (sz bs : Nat) (hu : Try.prog.underlying t = some (.slice e)) (hI : (Try.prog.info? e).map (fun i => (i.zero, i.size, i.bytes)) = some (some z, sz, bs)) (hz : z.cells.size = sz) (hs : 0 < sz) (hbs : bs ≤ 64) (v : Value) (n : Nat) (xs : List Value) (ho : W.ownsRow B0 e sz v n xs) (h0 : B0 ≤ W.heap.size) (cs : List Value) (hc : cs.length = sz) (h1 : ∀ x ∈ cs, x.oneCell' = true) (hn : n ≤ 200000000) (ty : TypeId) :
    ∃ v' w', (Builtin.append_ #[t, t] ty #[v, .slice (some ⟨W.heap.size, 0, none⟩) 1 1]).run Try.prog (W.alloc (.cells cs.toArray e)) = .ok v' w' ∧ w'.ownsRow B0 e sz v' (n + 1) (xs ++ cs) ∧ Upd (fun k => v.ownBlock = some k) W w' ∧ ∀ k, v'.ownBlock = some k → v.ownBlock = some k ∨ (W.heap.size ≤ k ∧ k < w'.heap.size) := by
  obtain ⟨i0, hi, hz0, hz1, hz2⟩ := info_parts hI
  have hB1 : Below W.heap.size W (W.alloc (.cells cs.toArray e)) := (Below.refl _ W).alloc (Nat.le_refl _) _
  have z1 : (W.alloc (.cells cs.toArray e)).heap.size = W.heap.size + 1 := World.size_alloc ..
  have e0 := World.cell?_alloc_new W cs.toArray e
  have ho1 := ho.alloc (.cells cs.toArray e)
  obtain ⟨v', w', hrun, ho', hg, hk⟩ := append_at (P := Try.prog) (W.alloc (.cells cs.toArray e)) t ty e i0 z sz bs hu hi hz0 hz1 hz2 hz hs v n xs (owns_base ho1 (fun _ _ => Nat.zero_le _)) ⟨W.heap.size, 0, none⟩ 1 1 cs (by omega) (by
    intro j y hj
    have e1 : ((⟨W.heap.size, 0, none⟩ : Addr).add j) = ⟨W.heap.size, j, none⟩ := by unfold Addr.add; split <;> simp_all
    rw [e1, e0 j]
    simpa using hj) h1 (by omega) hbs (by omega)
  have hlo : ∀ k, v.ownBlock = some k → B0 ≤ k ∧ k < W.heap.size := fun k e => ho.lt k e
  have hU1 : Upd (fun k => v.ownBlock = some k) (W.alloc (.cells cs.toArray e)) w' := (Upd.refl _ _).grown hg (fun k e => .inl e)
  have hU : Upd (fun k => v.ownBlock = some k) W w' := (Upd.of_below hB1).trans' hU1
  refine ⟨v', w', hrun, owns_base ho' (fun g e => ?_), hU, fun k e => ?_⟩
  · rcases hk g e with e | e
    · exact (hlo g e).1
    · omega
  · rcases hk k e with e | e
    · exact .inl e
    · exact .inr ⟨by omega, e.2⟩
/-- an extent as it is told -/
structure Tr where
  i : Nat
  p : Nat
  l : Nat
def Tr.cells (t : Tr) : List Value := [.int .i64 (t.i : Nat), .int .i64 (t.p : Nat), .int .i64 (t.l : Nat)]
def flatT (l : List Tr) : List Value := l.flatMap Tr.cells
theorem flatT_len (l : List Tr) : (flatT l).length = l.length * 3 := by
  induction l with
  | nil => rfl
  | cons b r ih => simp only [flatT, List.flatMap_cons, List.length_append, List.length_cons] at ih ⊢; simp only [Tr.cells, List.length_cons, List.length_nil]; omega
theorem flatT_cons (b : Tr) (r : List Tr) : flatT (b :: r) = b.cells ++ flatT r := by simp [flatT]
theorem flatT_snoc (a : List Tr) (b : Tr) : flatT (a ++ [b]) = flatT a ++ b.cells := by simp [flatT]
theorem flatT_get (l : List Tr) (i j : Nat) (b : Tr) (h : l[i]? = some b) (hj : j < 3) : (flatT l)[i * 3 + j]? = b.cells[j]? := by
  induction l generalizing i with
  | nil => simp at h
  | cons c r ih =>
    rw [flatT_cons]
    cases i with
    | zero =>
      simp at h
      subst h
      rw [List.getElem?_append_left (by simp [Tr.cells]; omega)]
      simp
    | succ k =>
      simp at h
      rw [List.getElem?_append_right (by simp [Tr.cells]; omega), ← ih k h]
      congr 1; simp [Tr.cells]; omega
theorem infoX : (Try.prog.info? 60).map (fun i => (i.zero, i.size, i.bytes)) = some (some (.agg #[.int .i64 0, .int .i64 0, .int .i64 0]), 3, 24) := by kernel_rfl
theorem underX : Try.prog.underlying 80 = some (.slice 60) := by kernel_rfl
/-- the extents with bytes, as they are told -/
def trE (E : List Ex) : List Tr := E.map (fun e => ⟨e.n - 1, e.p, e.l⟩)
/-- does an Id have an extent of no bytes? -/
def isZ (s : Sto) (id : Nat) : Bool := match s.blks[id]? with | some b => b.live && b.len == 0 | none => false
def zs (s : Sto) (j : Nat) : List Tr := ((List.range j).filter (isZ s)).map (fun id => ⟨id, s.row.length, 0⟩)
theorem zs_succ (s : Sto) (j : Nat) : zs s (j + 1) = zs s j ++ (if isZ s j then [⟨j, s.row.length, 0⟩] else []) := by
  unfold zs
  rw [List.range_succ, List.filter_append, List.map_append]
  cases h : isZ s j <;> simp [h]
/-- all extents, as they are told -/
def extL (s : Sto) (E : List Ex) : List Tr := trE E ++ zs s s.blks.length
end Go.Proofs.Ytmeoonnofiicpaa.W
/- A region that draws its order and ends with a store: what only reads is taken first. -/
namespace Go.Proofs.Ytmeoonnofiicpaa.W
open Go.ChangeShapes Go.WideShapes Go.RowKit Go.Shelf
set_option linter.unusedVariables false
section
variable {n : Nat} {P : Program} {ops : Array Oper} {Q : Exit → Act → World → Prop} {md : Region.Mode} {S : World → Prop} {z : Nat}
/-- every order, at the wide fence; S holds behind each operation but z -/
def anyL (n : Nat) (P : Program) (md : Region.Mode) (ops : Array Oper) (Q : Exit → Act → World → Prop) (S : World → Prop) (z : Nat) : Nat → Array Bool → Act → World → Prop
  | 0, l, a, w => Region.ready md ops l = [] ∧ Q .normal a w
  | k + 1, l, a, w => (Region.ready md ops l = [] → Q .normal a w) ∧ ∀ i ∈ Region.ready md ops l, wpOpIn Fence.wide n P ops Q i (fun a' w' => (i = z ∨ S w') ∧ anyL n P md ops Q S z k (l.setIfInBounds i true) a' w') a w
theorem anyL_in : ∀ (k : Nat) (l : Array Bool) (a : Act) (w : World), anyL n P md ops Q S z k l a w → wpAnyIn Fence.wide n P md ops Q k l a w
  | 0, _, _, _, h => h
  | k + 1, _, _, _, h => ⟨h.1, fun i hi => wpOpIn_mono (fun a' w' h' => anyL_in k _ a' w' h'.2) (h.2 i hi)⟩
/-- does z wait for i? -/
def waitsFor (md : Region.Mode) (ops : Array Oper) (z i : Nat) : Bool := match ops[z]? with | some o => o.after.any (fun e => Region.binds md e && e.on == i) | none => true
theorem waits_no {i : Nat} {l : Array Bool} (h : waitsFor md ops z i = true) (hz : z ∈ Region.ready md ops l) (hi : i ∈ Region.ready md ops l) : False := by
  obtain ⟨_, o, ho, hall⟩ := mem_ready.1 hz
  unfold waitsFor at h
  rw [ho] at h
  simp only at h
  rw [Array.any_eq_true'] at h
  obtain ⟨x, hx, hb⟩ := h
  rw [Bool.and_eq_true] at hb
  have y1 := hall x hx hb.1
  have y0 := (mem_ready.1 hi).1
  have e : x.on = i := by simpa using hb.2
  rw [e] at y1
  rcases Nat.lt_or_ge i l.size with q | q
  · simp [q] at y0 y1; rw [y0] at y1; cases y1
  · simp [Array.getElem?_eq_none q] at y1
theorem anyL_first {i : Nat} {oi : Oper} {v : Value} (hi : ops[i]? = some oi) (hsel : ∀ (j : Nat) (o : Oper) cs b, ops[j]? = some o → o.op ≠ .select cs b) (hQ : ∀ c a w, Q (.panic c) (a.put oi.dst v) w → Q (.panic c) a w) (hwz : waitsFor md ops z i = true) (k : Nat) :
    ∀ (l : Array Bool) (a : Act) (w : World), (∀ j oj, ops[j]? = some oj → j ≠ i → l.getD j true = false → (∀ e ∈ oj.after, Region.binds md e = true → e.on ≠ i) → oi.apart ops oj = true) → i ∈ Region.ready md ops l → YieldsIf P ops S oi v a → S w → anyL n P md ops Q S z k (l.setIfInBounds i true) (a.put oi.dst v) w → anyL n P md ops Q S z (k + 1) l a w := by
  induction k with
  | zero =>
    intro l a w _ hr hy hS H
    refine ⟨fun h => absurd hr (by rw [h]; simp), fun j hj => ?_⟩
    by_cases e : j = i
    · subst e; exact anyS_now hi hy hS ⟨.inr hS, H⟩
    · exact absurd (ready_mono hj e) (by rw [H.1]; simp)
  | succ k ih =>
    intro l a w hfree hr hy hS H
    refine ⟨fun h => absurd hr (by rw [h]; simp), fun j hj => ?_⟩
    by_cases e : j = i
    · subst e; exact anyS_now hi hy hS ⟨.inr hS, H⟩
    · have hjz : j ≠ z := fun e2 => waits_no hwz (e2 ▸ hj) hr
      obtain ⟨hjun, oj, hoj, hall⟩ := mem_ready.1 hj
      have hno : ∀ e ∈ oj.after, Region.binds md e = true → e.on ≠ i := by
        intro x hx hb hxi
        have y1 := hall x hx hb
        have y0 := (mem_ready.1 hr).1
        rw [hxi] at y1
        rcases Nat.lt_or_ge i l.size with q | q
        · simp [q] at y0 y1; rw [y0] at y1; cases y1
        · simp [Array.getElem?_eq_none q] at y1
      refine wpOpIn_mono ?_ (opIn_swap hoj (hfree j oj hoj e hjun hno) (fun cs b => hsel i oi cs b hi) (fun cs b => hsel j oj cs b hoj) hQ hy (H.2 j (ready_mono hj e)))
      rintro a' w' ⟨y1, y2, y3⟩
      have y2' : S w' := y2.resolve_left hjz
      refine ⟨.inr y2', ih (l.setIfInBounds j true) a' w' ?_ (ready_mono hr (Ne.symm e)) y1 y2' ?_⟩
      · intro t ot ht hti hun hno'
        refine hfree t ot ht hti ?_ hno'
        by_cases q : j = t
        · subst q; exact hjun
        · rw [getD_set_ne true q] at hun; exact hun
      · rw [Array.setIfInBounds_comm _ _ e]; exact y3
theorem anyL_take {i : Nat} {oi : Oper} {v : Value} {k : Nat} {l : Array Bool} {a : Act} {w : World} (hi : ops[i]? = some oi) (hs : Region.noSelect ops = true) (hf : Region.free md ops l i = true) (hr : (Region.ready md ops l).contains i = true) (hwz : waitsFor md ops z i = true)
    (hQ : ∀ c a w, Q (.panic c) (a.put oi.dst v) w → Q (.panic c) a w) (hy : YieldsIf P ops S oi v a) (hS : S w) (h : anyL n P md ops Q S z k (l.setIfInBounds i true) (a.put oi.dst v) w) : anyL n P md ops Q S z (k + 1) l a w :=
  anyL_first hi (Region.noSelect_spec hs) hQ hwz k l a w (Region.free_spec hi hf) (by simpa using hr) hy hS h
theorem anyL_one {i : Nat} {o : Oper} {k : Nat} {l : Array Bool} {a : Act} {w : World} (hr : Region.ready md ops l = [i]) (ho : ops[i]? = some o) (hw : Region.wanted o (yielded ops a.tmps) = true) (h : ∀ K : Act → World → Prop, (∀ a' w', (i = z ∨ S w') → anyL n P md ops Q S z k (l.setIfInBounds i true) a' w' → K a' w') → o.wpIn Fence.wide n P a w K Q) : anyL n P md ops Q S z (k + 1) l a w := by
  refine ⟨fun h0 => absurd (hr.symm.trans h0) (by simp), fun j hj => ?_⟩
  rw [hr] at hj
  simp at hj
  subst hj
  unfold wpOpIn
  rw [ho]
  simp only [hw, if_true]
  exact h _ (fun a' w' h1 h2 => ⟨h1, h2⟩)
theorem anyL_done {l : Array Bool} {a : Act} {w : World} (hr : Region.ready md ops l = []) (h : Q .normal a w) : ∀ k, anyL n P md ops Q S z k l a w
  | 0 => ⟨hr, h⟩
  | _ + 1 => ⟨fun _ => h, by rw [hr]; simp⟩
theorem round_anyL {L id : Nat} {a : Act} {w : World} (hm : P.follows .mixedOrders = true) (hd : noDefer ops = true) (h : anyL n P .any ops Q S z ops.size (Array.replicate ops.size false) a w.drew) : (Code.region id ops true).wpIn (Fence.wide.inRound L) n P Q a w :=
  round_any hm hd (anyL_in _ _ _ _ h)
theorem plain_anyL {id : Nat} {a : Act} {w : World} (hm : P.follows .mixedOrders = true) (h : anyL 9 P .any ops Q S z ops.size (Array.replicate ops.size false) a w.drew) : (Code.region id ops true).wp P Q a w :=
  (wpIn_wide (n := 9)).1 (wpIn_region_any hm (anyL_in _ _ _ _ h))
/-- an append whose run is known, in such a region -/
theorem opIn_plain {o : Oper} {a : Act} {w : World} {K : Act → World → Prop} (hd : ∀ c, o.op ≠ .defer c) (h : o.wp P a w K Q) : o.wpIn Fence.wide n P a w K Q := by
  refine ⟨fun _ _ => trivial, ?_⟩
  rw [semWide]
  unfold Oper.wp at h
  generalize (execOp a.eval o).run P w = r at *
  cases r with
  | ok x w' =>
    cases x with
    | value v => exact h
    | skip => exact h
    | defer d => exact h
    | enter f args => exact ⟨fun e => by simp [Fence.wide] at e, callsIn_wide.2 h⟩
    | row row args =>
      refine ⟨fun e => by simp [Fence.wide] at e, ?_⟩
      intro c cs _
      obtain ⟨v, w'', hr, hs⟩ := h c cs
      exact ⟨v, w'', hr, stepsIn_wide.2 hs⟩
    | round l f tmps assign body => exact h.elim
    | _ => exact h.elim
  | halt x w' => cases x <;> first | exact h | exact h.elim
end
end Go.Proofs.Ytmeoonnofiicpaa.W
