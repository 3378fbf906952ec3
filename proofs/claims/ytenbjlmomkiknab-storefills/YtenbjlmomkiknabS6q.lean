/- Package store: Give, Len, Used, Load, Save over what all Ids hold. -/
import Derived.Test.YtenbjlmomkiknabS6p
import Derived.Test.YtenbjlmomkiknabS5e
import Derived.Test.YtenbjlmomkiknabS5m
namespace Go.Proofs.Ytenbjlmomkiknab.W
open Go.ChangeShapes Go.WideShapes Go.RowKit Go.Shelf
set_option linter.unusedVariables false
section
variable {s : Sto} {E : List Ex} {A : List (Option (List Nat))} {U N : Nat}
/-- what an Id holds, and its block -/
theorem held_some {id : Nat} {x : List Nat} (h : held s id = some x) : ∃ b, s.blks[id]? = some b ∧ b.live = true ∧ x = seg s.row b.pos.toNat b.len.toNat := by
  unfold held at h
  cases e : s.blks[id]? with
  | none => rw [e] at h; cases h
  | some b =>
    rw [e] at h
    simp only [] at h
    by_cases c : b.live = true
    · rw [if_pos c] at h; cases h; exact ⟨b, rfl, c, rfl⟩
    · rw [if_neg c] at h; cases h
theorem ext_of {id : Nat} {b : Blk} (h : s.blks[id]? = some b) (hl : b.live = true) : s.ext (id : Int) = some b := by
  unfold Sto.ext
  rw [if_neg (by omega), Int.toNat_natCast, h]
  simp [hl]
theorem ext_no {id : Int} (h : id < 0 ∨ held s id.toNat = none) : s.ext id = none := by
  unfold Sto.ext
  by_cases c : id < 0
  · rw [if_pos c]
  · rw [if_neg c]
    have h1 : held s id.toNat = none := h.resolve_left c
    unfold held at h1
    cases e : s.blks[id.toNat]? with
    | none => rfl
    | some b =>
      rw [e] at h1
      simp only [] at h1 ⊢
      by_cases d : b.live = true
      · rw [if_pos d] at h1; cases h1
      · rw [if_neg d]
/-- where an Id's bytes lie: in the ring, or it has none -/
theorem fine_at (g : Good s E) {id : Nat} {b : Blk} (hb : s.blks[id]? = some b) (hl : b.live = true) : (∃ k, k + 1 < (ring E).length ∧ id + 1 = (rg E (k + 1)).n ∧ b = blkOf E (k + 1) (rg E (k + 1))) ∨ (id + 1 ∉ numE E ∧ b = ⟨true, 0, 0, 0, 0⟩) := by
  by_cases c : id + 1 ∈ numE E
  · obtain ⟨k, hk, hki⟩ := mem_rg c (by omega)
    refine .inl ⟨k, hk, hki, ?_⟩
    have := g.get (k + 1) _ (rg_get hk)
    rw [← hki, get_blks, hb] at this
    exact Option.some.inj this
  · refine .inr ⟨c, ?_⟩
    rcases g.zero id b hb c with rfl | rfl
    · cases hl
    · rfl
/-- its place and its bytes, in the row -/
theorem fine_in (g : Good s E) {id : Nat} {b : Blk} (hb : s.blks[id]? = some b) (hl : b.live = true) : ∃ p l : Nat, b.pos = p ∧ b.len = l ∧ p + l ≤ s.row.length := by
  rcases fine_at g hb hl with ⟨k, hk, _, rfl⟩ | ⟨_, rfl⟩
  · have h1 := g.lies.2.2 _ (rg_mem hk)
    have h2 := up8N_ge (rg E (k + 1)).l
    unfold Ex.stop at h1
    exact ⟨_, _, rfl, rfl, by omega⟩
  · exact ⟨0, 0, rfl, rfl, by omega⟩
end
section
variable {W : World} {sb : Nat} {S : Nat → Prop} {A : List (Option (List Nat))} {U N : Nat}
theorem give_st (h : St W S sb A U N) (id : Nat) (x : List Nat) (hx : A[id]? = some (some x)) : Calls Try.prog 26 #[.pointer (some ⟨sb, 0, none⟩), .int .i64 id] W fun e w' => e = .returned (.int .i64 0) ∧ Upd S W w' ∧ St w' (Nx S W w') sb (A.set id none) U N := by
  obtain ⟨s, E, vr, vb, vf, hL, hO, f⟩ := h
  have h2 := f.top; have h3 := f.num; have h4 := f.u9; have h5 := f.n9; have h6 := f.used; have h7 := f.all.1; have h8 := f.row
  have hidA := (List.getElem?_eq_some_iff.1 hx).1
  have hAx : A[id] = some x := (List.getElem?_eq_some_iff.1 hx).2
  have hheld : held s id = some x := by rw [f.all.2, hx]; rfl
  obtain ⟨b, hb, hlv, hxs⟩ := held_some hheld
  obtain ⟨p, l, hp, hl, hin⟩ := fine_in f.good hb hlv
  have hxl : x.length = l := by rw [hxs, hp, hl, Int.toNat_natCast, Int.toNat_natCast]; exact seg_len _ _ _ hin
  have hu : up8 b.len = (up8N l : Nat) := by rw [hl]; exact up8N_eq l
  have hsA := sumA_set A id none hidA
  rw [hAx] at hsA
  change _ + up8N x.length = _ + 0 at hsA
  rw [hxl] at hsA
  have hfl : s.free.length ≤ s.blks.length := by
    have hs : s.free ⊆ (List.range s.blks.length).map (fun i : Nat => (i : Int)) := by
      intro x hx
      obtain ⟨i, e, hb⟩ := (f.good.free x).1 hx
      exact List.mem_map.2 ⟨i, List.mem_range.2 (List.getElem?_eq_some_iff.1 hb).1, e.symm⟩
    have := f.good.nodupF.length_le_of_subset hs
    simpa using this
  have hl8 : l ≤ 8388608 := by
    rcases fine_at f.good hb hlv with ⟨k, hk, _, e⟩ | ⟨_, e⟩
    · have h1 : b.len = ((rg E (k + 1)).l : Nat) := by rw [e]; rfl
      have := f.lens _ (rg_memE hk)
      omega
    · have : b.len = 0 := by rw [e]
      omega
  have fin : ∀ (t : Sto) (E' : List Ex) (w' : World) (free' : List Int) (vf' : Value), Ring t E' → (∀ m, m ∈ numE E' ↔ m ∈ numE E ∧ m ≠ id + 1) → t.blks.length = s.blks.length → Like s t → (∀ m, m ∉ numE E → t.get m = s.get m) → sumE E' + up8N l = sumE E → (∀ e ∈ E', e ∈ E) → free'.Perm (s.free ++ [(id : Int)]) → IsHeap free' free'.length → Lay w' sb vr vb vf' (({ t with blks := t.blks.set id noBlk, used := s.used - (up8N l : Nat) } : Sto).fr free') → Own (Nx S W w') sb vr vb vf' → St w' (Nx S W w') sb (A.set id none) U N := by
    intro t E' w' free' vf' R hm hlen hlike hget hsum hsub hpm hhp hL' hO'
    obtain ⟨g', hd'⟩ := gone_good f.good R hm (by omega) ⟨b, hb, hlv⟩ hlen hlike hget hpm hhp hsum
    refine ⟨_, E', vr, vb, vf', hL', hO', g', ⟨?_, ?_⟩, ?_, ?_, ?_, by omega, by rw [List.length_set]; exact h3, h4, h5⟩
    · show (t.blks.set id noBlk).length = _
      rw [List.length_set, List.length_set, hlen, h7]
    · intro i
      rw [hd' i]
      by_cases c : i = id
      · rw [if_pos c, c, List.getElem?_set_self hidA]; rfl
      · rw [if_neg c, List.getElem?_set_ne (by omega)]; exact f.all.2 i
    · have := f.sum; omega
    · intro e he; exact f.lens e (hsub e he)
    · show t.row.length ≤ _
      rw [hlike.1]; exact h8
  rcases fine_at f.good hb hlv with ⟨k, hk, hki, hbk⟩ | ⟨hno, hb0⟩
  · have hkE : k < E.length := by rw [ring_len] at hk; omega
    have hkl : k < (ring E).length := by omega
    have hnk : nm E (k + 1) = id + 1 := by rw [nm_rg hk]; exact hki.symm
    have hll : (rg E (k + 1)).l = l := by
      have h1 : b.len = ((rg E (k + 1)).l : Nat) := by rw [hbk]; rfl
      omega
    have hlpos : 0 < l := by rw [← hll]; exact (f.good.lies.2.1 _ (rg_memE hk)).2.1
    obtain ⟨bb, gb⟩ : ∃ bb, s.get (nm E k) = some bb := ⟨_, by rw [nm_rg hkl]; exact f.good.get k _ (rg_get hkl)⟩
    obtain ⟨bx, gx⟩ : ∃ bx, s.get (nm E (k + 2)) = some bx := by
      by_cases c : k + 2 < (ring E).length
      · exact ⟨_, by rw [nm_rg c]; exact f.good.get (k + 2) _ (rg_get c)⟩
      · rw [nm_out (by omega)]; exact ⟨s.head, rfl⟩
    have hbb : b.back = (nm E k : Nat) := by rw [hbk, blkOf_nm, if_neg (by omega)]; rfl
    have hbn : b.next = (nm E (k + 2) : Nat) := by rw [hbk, blkOf_nm]
    have cu := unlink_c hL (by omega) (id + 1) (nm E k) (nm E (k + 2)) b bb bx (by rw [get_blks]; exact hb) hbb hbn gb gx hO
    have RU := ring_unlinked f.good.rng hkE
    rw [hnk] at RU
    refine (give_c hL (by omega) id (up8N l) b (ext_of hb hlv) (by omega) (by omega) hu (by omega) (by omega) (by omega) f.good.heap (s.unlinked (id + 1) (nm E k) (nm E (k + 2))) (unlinked_len _ _ _) (unlinked_free _ _ _) (unlinked_used _ _ _) hO (by omega) (fun _ => cu)).mono ?_
    rintro e w' ⟨rfl, hU', free', vf', hpm, hhp, hL', hO'⟩
    refine ⟨rfl, hU', fin _ _ w' free' vf' RU ?_ (unlinked_len _ _ _) (unlinked_like gb gx) ?_ ?_ ?_ hpm hhp hL' hO'⟩
    · intro m
      rw [del_mem hkE f.good.nodup, hnk]
    · intro m hm
      have h0 : 0 ∈ numE E := List.mem_cons_self ..
      have m1 : nm E k ∈ numE E := by rw [nm_rg hkl]; exact numE_mem hkl
      have m2 : nm E (k + 2) ∈ numE E := by
        by_cases c : k + 2 < (ring E).length
        · rw [nm_rg c]; exact numE_mem c
        · rw [nm_out (by omega)]; exact h0
      rw [unlinked_get gb gx, if_neg (by rintro rfl; exact hm m2), if_neg (by rintro rfl; exact hm m1)]
    · rw [← hll]; exact sumE_del hkE
    · intro e he; exact List.mem_of_mem_eraseIdx he
  · have hl0 : l = 0 := by
      have : b.len = 0 := by rw [hb0]
      omega
    refine (give_c hL (by omega) id (up8N l) b (ext_of hb hlv) (by omega) (by omega) hu (by omega) (by omega) (by omega) f.good.heap s rfl rfl rfl hO (fun _ => rfl) (fun hh => absurd hh (by omega))).mono ?_
    rintro e w' ⟨rfl, hU', free', vf', hpm, hhp, hL', hO'⟩
    refine ⟨rfl, hU', fin _ E w' free' vf' f.good.rng ?_ rfl ⟨rfl, fun m b h => ⟨b, h, rfl, rfl, rfl⟩⟩ (fun _ _ => rfl) ?_ (fun _ h => h) hpm hhp hL' hO'⟩
    · intro m
      exact ⟨fun h => ⟨h, by rintro rfl; exact hno h⟩, fun h => h.1⟩
    · rw [hl0]; rfl
theorem give_st_err (h : St W S sb A U N) (id : Int) (hx : id < 0 ∨ (A[id.toNat]?).getD none = none) : Calls Try.prog 26 #[.pointer (some ⟨sb, 0, none⟩), .int .i64 id] W fun e w' => e = .returned (.int .i64 30) ∧ w' = W := by
  obtain ⟨s, E, vr, vb, vf, hL, hO, f⟩ := h
  exact give_none hL f.fit.len id (ext_no (hx.imp_right (fun h => by rw [f.all.2]; exact h)))
theorem len_st_err (h : St W S sb A U N) (id : Int) (hx : id < 0 ∨ (A[id.toNat]?).getD none = none) : Calls Try.prog 28 #[.pointer (some ⟨sb, 0, none⟩), .int .i64 id] W fun e w' => e = .returned (.tuple #[.int .i64 0, .int .i64 30]) ∧ w' = W := by
  obtain ⟨s, E, vr, vb, vf, hL, hO, f⟩ := h
  exact len_none hL f.fit.len id (ext_no (hx.imp_right (fun h => by rw [f.all.2]; exact h)))
theorem used_st (h : St W S sb A U N) : Calls Try.prog 29 #[.pointer (some ⟨sb, 0, none⟩)] W fun e w' => e = .returned (.int .i64 (sumA A : Nat)) ∧ w' = W := by
  obtain ⟨s, E, vr, vb, vf, hL, hO, f⟩ := h
  rw [← f.used]
  exact used_c hL
theorem seg_seg (row : List Nat) (p l o w : Nat) (h : o + w ≤ l) : seg (seg row p l) o w = seg row (p + o) w :=
  seg_ext (fun i hi => by rw [seg_get _ _ _ _ (by omega), Nat.add_assoc])
theorem load_st (h : St W S sb A U N) (id : Nat) (x : List Nat) (hx : A[id]? = some (some x)) (o wd : Nat) (hw : wd = 1 ∨ wd = 2 ∨ wd = 4 ∨ wd = 8) (ha : o % wd = 0) (ho : o + wd ≤ x.length) : Calls Try.prog 24 #[.pointer (some ⟨sb, 0, none⟩), .int .i64 id, .int .i64 o, .int .i64 wd] W fun e w' => e = .returned (.tuple #[.int .u64 (leN (seg x o wd)), .int .i64 0]) ∧ Below W.heap.size W w' := by
  obtain ⟨s, E, vr, vb, vf, hL, hO, f⟩ := h
  have hheld : held s id = some x := by rw [f.all.2, hx]; rfl
  obtain ⟨b, hb, hlv, hxs⟩ := held_some hheld
  obtain ⟨p, l, hp, hl, hin⟩ := fine_in f.good hb hlv
  have hxl : x = seg s.row p l := by rw [hxs, hp, hl, Int.toNat_natCast, Int.toNat_natCast]
  have hxl2 : x.length = l := by rw [hxl]; exact seg_len _ _ _ hin
  have := load_ok hL f.fit id wd b (ext_of hb hlv) hw o p hp (by omega) (by omega) (by omega)
  rw [hxl, seg_seg _ _ _ _ _ (by omega)]
  exact this
end
end Go.Proofs.Ytenbjlmomkiknab.W
