/- Rows of bytes that are lengthened and cleared. -/
import Derived.Test.YtenbjlmomkiknabS5j
import Derived.Lib.AppendZerosOnto
import Derived.Lib.SliceRun
namespace Go.Proofs.Ytenbjlmomkiknab.W
open Go.ChangeShapes Go.WideShapes Go.RowKit Go.Shelf
set_option linter.unusedVariables false

/-- vs laid over a row from o on -/
def setL : List Nat → Nat → List Nat → List Nat
  | row, _, [] => row
  | row, o, v :: r => setL (row.set o v) (o + 1) r
theorem setL_len (row : List Nat) (o : Nat) (vs : List Nat) : (setL row o vs).length = row.length := by
  induction vs generalizing row o with
  | nil => rfl
  | cons v r ih => simp [setL, ih]
theorem setL_get (row : List Nat) (o : Nat) (vs : List Nat) (j : Nat) (h : o + vs.length ≤ row.length) : (setL row o vs)[j]? = if o ≤ j ∧ j < o + vs.length then vs[j - o]? else row[j]? := by
  induction vs generalizing row o with
  | nil => rw [if_neg (by simp)]; rfl
  | cons v r ih =>
    simp only [List.length_cons] at h
    rw [setL, ih _ _ (by simp; omega), List.getElem?_set]
    by_cases e : o = j
    · subst e
      rw [if_neg (by omega), if_pos rfl, if_pos (by omega), if_pos (by simp)]
      simp
    · by_cases g : o + 1 ≤ j ∧ j < o + 1 + r.length
      · rw [if_pos g, if_pos (by simp; omega)]
        obtain ⟨k, hk⟩ : ∃ k, j - o = k + 1 := ⟨j - o - 1, by omega⟩
        rw [hk, List.getElem?_cons_succ]
        congr 1; omega
      · rw [if_neg g, if_neg (by omega), if_neg (by simp; omega)]
section
variable {W : World} {sb : Nat} {vr vb vf : Value} {s : Sto}
theorem Lay.rstores (h : Lay W sb vr vb vf s) {g cap : Nat} (hr : vr = .slice (some ⟨g, 0, none⟩) s.row.length cap) (o : Nat) (vs : List Nat) : Lay (W.setCells g o (vs.map byteV)) sb vr vb vf { s with row := setL s.row o vs } := by
  induction vs generalizing W s o with
  | nil => exact h
  | cons v r ih =>
    have := ih (s := { s with row := s.row.set o v }) (h.rstore hr o v) (by simpa using hr) (o + 1)
    exact this
theorem Upd.setCells {S : Nat → Prop} {a b : World} (h : Upd S a b) {g : Nat} (hp : S g) (o : Nat) (vs : List Value) : Upd S a (b.setCells g o vs) := by
  induction vs generalizing b o with
  | nil => exact h
  | cons v r ih => exact ih (h.setCell (p := ⟨g, o, none⟩) (.inl hp) v) (o + 1)
theorem Upd.setCells' {S : Nat → Prop} {a b : World} (h : Upd S a b) {g : Nat} (hp : Nx S a b g) (o : Nat) (vs : List Value) : Upd S a (b.setCells g o vs) := by
  induction vs generalizing b o with
  | nil => exact h
  | cons v r ih => exact ih (h.setCell (p := ⟨g, o, none⟩) hp v) (hp.on (by simp [World.setCell])) (o + 1)
theorem setCells_size (W : World) (g o : Nat) (vs : List Value) : (W.setCells g o vs).heap.size = W.heap.size := by
  induction vs generalizing W o with
  | nil => rfl
  | cons v r ih => rw [World.setCells, ih]; simp [World.setCell]
theorem setCells_far (W : World) (g o : Nat) (vs : List Value) (k : Nat) (hk : k ≠ g) : (W.setCells g o vs).heap[k]? = W.heap[k]? := by
  induction vs generalizing W o with
  | nil => rfl
  | cons v r ih => rw [World.setCells, ih, Below.heap_setCell _ _ _ _ hk]
end
theorem zeroCells_one (z : Value) (n : Nat) (hz : z.cells = #[z]) : Builtin.zeroCells z.cells n = (List.replicate n z).toArray := by
  rw [hz]
  apply Array.ext
  · simp [Builtin.zeroCells]
  · intro i h1 h2
    simp [Builtin.zeroCells, Nat.mod_one]
/-- 'append(row, make([]byte, m)...)' -/
theorem append_zeros {P : Program} (w : World) (t tn ty e : TypeId) (i : TypeInfo) (z : Value) (kq kn : IntKind) (ht : P.underlying t = some (.slice e)) (htn : P.underlying tn = some (.int kn)) (hi : P.info? e = some i) (hz : i.zero = some z) (hs : i.size = 1) (hby : i.bytes = 1) (hzc : z.cells = #[z]) (h1 : z.oneCell' = true)
    (v : Value) (n : Nat) (xs : List Value) (hown : w.ownsRow 0 e 1 v n xs) (m : Nat) (hm : 0 < m) (hnm : n + m ≤ 10000000000000) :
    ∃ v' w', (Builtin.append_ #[t, tn] ty #[v, .int kq m]).run P w = .ok v' w' ∧ w'.ownsRow 0 e 1 v' (n + m) (xs ++ List.replicate m z) ∧ w.grownBy w' v.ownBlock ∧ (∀ k, v'.ownBlock = some k → v.ownBlock = some k ∨ (w.heap.size ≤ k ∧ k < w'.heap.size)) := by
  have hcapm : ∀ w need old, need ≤ 10000000000000 → grownCap w need old e ≤ maxLen := fun w need old h => grownCap_le_maxLen w need old e (by unfold maxLen; omega)
  obtain ⟨hlen, hrow⟩ := hown
  rcases hrow with ⟨rfl, rfl⟩ | ⟨g, cap, cur, rfl, _, hg, hc, hcm, hcs, htake⟩
  · have hx : xs = [] := by simpa using hlen
    subst hx
    have hrun := Lib.run_append_nil_zeros (P := P) w t tn ty e i z kq kn ht htn hi hz m hm (by omega) (by omega) (by rw [hby]; omega)
    refine ⟨_, _, hrun, ⟨by simp, .inr ⟨w.heap.size, _, _, by rw [Nat.zero_add], Nat.zero_le _, heap_alloc_new w.drew _, by rw [Nat.zero_add]; exact grownCap_ge _ _ _ _, hcapm _ _ _ (by omega), ?_, ?_⟩⟩, ⟨rfl, rfl, rfl, ?_, fun k hk _ => ?_⟩, ?_⟩
    · rw [zeroCells_one _ _ hzc, zeroCells_one _ _ hzc]
      have := grownCap_ge w m 0 e
      simp; omega
    · rw [zeroCells_one _ _ hzc, zeroCells_one _ _ hzc]
      simp [Nat.min_eq_left]
    · show w.heap.size ≤ (w.drew.alloc _).heap.size; simp
    · exact Below.heap_alloc w.drew _ k hk
    · intro k hk
      simp [Value.ownBlock] at hk
      subst hk
      exact .inr ⟨Nat.le_refl _, by show w.heap.size < (w.drew.alloc _).heap.size; simp⟩
  · by_cases hroom : n + m ≤ cap
    · have hst := run_storeCells_at P g (n * i.size) e (List.replicate m z) 0 cur w hg (by rw [hs]; simp; omega) (by intro u hu; rw [List.eq_of_mem_replicate hu]; exact h1)
      simp only [Nat.add_zero] at hst
      have hw : IntKind.i64.wrap (m : Int) = m := by rw [IntKind.wrap_i64]; omega
      have h48i : ¬ (281474976710656 < (m : Int) * (i.bytes : Int)) := by rw [hby]; omega
      have hneg : ¬ ((m : Int) < 0) := by omega
      have hns : ¬ (m * i.size = 0) := by rw [hs]; omega
      have hzz := zeroCells_one z m hzc
      refine ⟨.slice (some ⟨g, 0, none⟩) (n + m) cap, w.setRow g (cur.toList.take (n * i.size) ++ List.replicate m z ++ cur.toList.drop (n * i.size + (List.replicate m z).length)).toArray, ?_, ⟨?_, .inr ⟨g, cap, (cur.toList.take (n * i.size) ++ List.replicate m z ++ cur.toList.drop (n * i.size + (List.replicate m z).length)).toArray, rfl, Nat.zero_le _, ?_, hroom, hcm, ?_, ?_⟩⟩, ⟨rfl, rfl, rfl, ?_, fun k hk hne => ?_⟩, fun k hk => .inl hk⟩
      · simp [Builtin.append_, run_underlying ht, run_underlying htn, sizeOf, typeInfo, zeroValue, hi, hz, asInt, asIntOf, hw, hneg, hns, h48i, hroom, Addr.add_lit, hzz, hst]
      · simp [hlen]
      · simp [World.setRow, Array.getElem?_modify, hg]
      · simp [hs, hcs]; omega
      · rw [hs]
        simp only [Nat.mul_one] at htake ⊢
        rw [List.toList_toArray, htake]
        exact List.take_left' (by simp [hlen])
      · simp [World.setRow]
      · simp only [World.setRow, Array.getElem?_modify]
        rw [if_neg (by simpa [Value.ownBlock] using (fun e => hne (by rw [e]; rfl)))]
    · have hfc : (Builtin.firstCells i.size n (.slice (some ⟨g, 0, none⟩) n cap)).run P w.drew = .ok xs.toArray w.drew := by
        rw [hs]
        refine run_firstCells_some (P := P) w.drew 1 n ⟨g, 0, none⟩ n cap xs (by simpa using hlen) ?_
        exact World.ownsRow.cells (w := w.drew) (base := 0) (e := e) (size := 1) (n := n) (v := .slice (some ⟨g, 0, none⟩) n cap) ⟨hlen, .inr ⟨g, cap, cur, rfl, Nat.zero_le _, hg, hc, hcm, hcs, htake⟩⟩ rfl
      have hrun := Lib.run_append_grow_zeros (P := P) w t tn ty e i z kq kn ht htn hi hz (some ⟨g, 0, none⟩) n cap xs hfc m hm (by omega) (by omega) (by omega) (by rw [hby]; omega) (by rw [hby]; have := nextslicecap_le (need := n + m) (old := cap) (by omega); omega)
      have hge := grownCap_ge w (n + m) cap e
      refine ⟨_, _, hrun, ⟨by simp [hlen], .inr ⟨w.heap.size, _, _, rfl, Nat.zero_le _, heap_alloc_new w.drew _, hge, hcapm _ _ _ (by omega), ?_, ?_⟩⟩, ⟨rfl, rfl, rfl, ?_, fun k hk _ => ?_⟩, ?_⟩
      · rw [zeroCells_one _ _ hzc, zeroCells_one _ _ hzc]
        simp [hlen]; omega
      · rw [zeroCells_one _ _ hzc, zeroCells_one _ _ hzc]
        simp only [Nat.mul_one, Array.toList_append]
        exact List.take_left' (by simp [hlen])
      · show w.heap.size ≤ (w.drew.alloc _).heap.size; simp
      · exact Below.heap_alloc w.drew _ k hk
      · intro k hk
        simp [Value.ownBlock] at hk
        subst hk
        exact .inr ⟨Nat.le_refl _, by show w.heap.size < (w.drew.alloc _).heap.size; simp⟩
/-- 'append(v, x...)', and where what it answers lies -/
theorem append_at {P : Program} (w : World) (t ty e : TypeId) (i : TypeInfo) (z : Value) (size bytes : Nat) (ht : P.underlying t = some (.slice e)) (hi : P.info? e = some i) (hz : i.zero = some z) (hsize : i.size = size) (hby : i.bytes = bytes) (hzs : z.cells.size = size) (hsz : 0 < size)
    (v : Value) (n : Nat) (xs : List Value) (hown : w.ownsRow 0 e size v n xs) (a : Addr) (m c : Nat) (news : List Value) (hl : news.length = m * size) (hnews : ∀ j u, news[j]? = some u → w.cell? (a.add j) = some u) (h1 : ∀ u ∈ news, u.oneCell' = true)
    (hm : 0 < m) (hb40 : bytes ≤ 64) (hnm : n + m ≤ 1000000000000) :
    ∃ v' w', (Builtin.append_ #[t, t] ty #[v, .slice (some a) m c]).run P w = .ok v' w' ∧ w'.ownsRow 0 e size v' (n + m) (xs ++ news) ∧ w.grownBy w' v.ownBlock ∧ (∀ k, v'.ownBlock = some k → v.ownBlock = some k ∨ (w.heap.size ≤ k ∧ k < w'.heap.size)) := by
  have hbig : (n + m) * bytes ≤ 140737488355328 := by
    have := Nat.mul_le_mul hnm hb40
    omega
  obtain ⟨v', w', hrun, ho, hg, _⟩ := run_append_own w 0 t ty e i z size bytes ht hi hz hsize hby hzs hsz v n xs hown a m c news hl hnews h1 (by unfold maxLen; omega) hbig (Nat.zero_le _)
  refine ⟨v', w', hrun, ho, hg, fun k hk => ?_⟩
  have hklt := (ho.lt k hk).2
  have hown' := hown
  obtain ⟨hlen, hrow⟩ := hown
  rcases hrow with ⟨rfl, rfl⟩ | ⟨g, cap, cur, rfl, _, hgg, hc, hcm, hcs, htake⟩
  · have hx : xs = [] := by simpa using hlen
    subst hx
    obtain ⟨v2, w2, hrun2, ho2, _, _⟩ := run_append_own w w.heap.size t ty e i z size bytes ht hi hz hsize hby hzs hsz (.slice none 0 0) 0 [] (World.ownsRow_nil _ _ _ _) a m c news hl hnews h1 (by unfold maxLen; omega) hbig (Nat.le_refl _)
    rw [hrun] at hrun2
    cases hrun2
    exact .inr ⟨(ho2.lt k hk).1, hklt⟩
  · by_cases hroom : n + m ≤ cap
    · have hr := run_append_room (P := P) w t ty e i ht hi g n cap cur hgg a m c news (by rw [hsize]; exact hl) hnews h1 hroom (by
        rw [hsize, hl, hcs, ← Nat.add_mul]; exact Nat.mul_le_mul_right _ hroom)
      rw [hrun] at hr
      cases hr
      exact .inl hk
    · have hfc : (Builtin.firstCells i.size n (.slice (some ⟨g, 0, none⟩) n cap)).run P w.drew = .ok xs.toArray w.drew := by
        rw [hsize]
        exact run_firstCells_some (P := P) w.drew size n ⟨g, 0, none⟩ n cap xs hlen (World.ownsRow.cells (w := w.drew) (base := 0) (e := e) (size := size) (n := n) (v := .slice (some ⟨g, 0, none⟩) n cap) hown' rfl)
      have hr := run_append_grow_src (P := P) w t t ty e i z ht hi hz (some ⟨g, 0, none⟩) n cap xs hfc (.slice (some a) m c) m news (Src.ofSlice w ht a m c news (by rw [hsize]; exact hl) hnews h1) (by omega) (by omega) (by rw [hby]; exact growslice_fits (by omega) hbig)
      rw [hrun] at hr
      cases hr
      simp [Value.ownBlock] at hk
      subst hk
      exact .inr ⟨Nat.le_refl _, hklt⟩
theorem own_ne {W : World} {e : TypeId} {size : Nat} {v : Value} {n : Nat} {xs : List Value} (h : W.ownsRow 0 e size v n xs) {b : Nat} {c : Array Value} {t : TypeId} (hb : W.heap[b]? = some (.cells c t (0, 0))) (hne : e ≠ t) : some b ≠ v.ownBlock := by
  rcases h.2 with ⟨rfl, _⟩ | ⟨g, cap, cur, rfl, _, hg, _⟩
  · simp [Value.ownBlock]
  · simp only [Value.ownBlock]
    intro e1
    cases e1
    rw [hb] at hg
    simp at hg
    exact hne hg.2.symm
theorem own_apart {W : World} {e e' : TypeId} {size size' : Nat} {v v' : Value} {n n' : Nat} {xs xs' : List Value} (h : W.ownsRow 0 e size v n xs) (h' : W.ownsRow 0 e' size' v' n' xs') (hne : e ≠ e') : v.ownBlock = none ∨ v.ownBlock ≠ v'.ownBlock := by
  rcases h.2 with ⟨rfl, _⟩ | ⟨g, cap, cur, rfl, _, hg, _⟩
  · exact .inl rfl
  · right
    simp only [Value.ownBlock]
    exact own_ne h' hg (fun e => hne e.symm)
section
variable {W W4 : World} {sb : Nat} {vr vb vf v2 : Value} {s : Sto}
/-- the row has been appended to -/
theorem Lay.regrow_row (h : Lay W sb vr vb vf s) (hg : W.grownBy W4 vr.ownBlock) {row' : List Nat} (ho : W4.ownsRow 0 5 1 v2 row'.length (row'.map byteV)) : Lay (W4.setCell ⟨sb, 0, none⟩ v2) sb v2 vb vf { s with row := row' } := by
  have h4 : W4.heap[sb]? = some (.cells (s.obj vr vb vf).toArray 93 (0, 0)) := (hg.block sb (Array.getElem?_eq_some_iff.1 h.obj).1 (own_ne h.row h.obj (by decide))).trans h.obj
  exact ⟨heap_set h4 0 v2, own_other ho h4 (by decide) _ _, own_other (h.blk.kept hg (own_apart h.blk h.row (by decide))) h4 (by decide) _ _, own_other (h.free.kept hg (own_apart h.free h.row (by decide))) h4 (by decide) _ _⟩
/-- the table has been appended to -/
theorem Lay.regrow_blk (h : Lay W sb vr vb vf s) (hg : W.grownBy W4 vb.ownBlock) {blks' : List Blk} (ho : W4.ownsRow 0 89 5 v2 blks'.length (flat blks')) : Lay (W4.setCell ⟨sb, 6, none⟩ v2) sb vr v2 vf { s with blks := blks' } := by
  have h4 : W4.heap[sb]? = some (.cells (s.obj vr vb vf).toArray 93 (0, 0)) := (hg.block sb (Array.getElem?_eq_some_iff.1 h.obj).1 (own_ne h.blk h.obj (by decide))).trans h.obj
  exact ⟨heap_set h4 6 v2, own_other (h.row.kept hg (own_apart h.row h.blk (by decide))) h4 (by decide) _ _, own_other ho h4 (by decide) _ _, own_other (h.free.kept hg (own_apart h.free h.blk (by decide))) h4 (by decide) _ _⟩
/-- the heap of Ids has been appended to -/
theorem Lay.regrow_free (h : Lay W sb vr vb vf s) (hg : W.grownBy W4 vf.ownBlock) {free' : List Int} (ho : W4.ownsRow 0 3 1 v2 free'.length (free'.map (.int .i64))) : Lay (W4.setCell ⟨sb, 7, none⟩ v2) sb vr vb v2 { s with free := free' } := by
  have h4 : W4.heap[sb]? = some (.cells (s.obj vr vb vf).toArray 93 (0, 0)) := (hg.block sb (Array.getElem?_eq_some_iff.1 h.obj).1 (own_ne h.free h.obj (by decide))).trans h.obj
  exact ⟨heap_set h4 7 v2, own_other (h.row.kept hg (own_apart h.row h.free (by decide))) h4 (by decide) _ _, own_other (h.blk.kept hg (own_apart h.blk h.free (by decide))) h4 (by decide) _ _, own_other ho h4 (by decide) _ _⟩
end
end Go.Proofs.Ytenbjlmomkiknab.W
