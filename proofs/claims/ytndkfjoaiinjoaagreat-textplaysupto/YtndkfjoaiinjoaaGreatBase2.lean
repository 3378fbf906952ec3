import Derived.Test.YtndkfjoaiinjoaaGreatBase1
import Derived.Lib.AppendZerosOnto
import Derived.Lib.SliceRun
import Derived.Test.YtndkfjoaiinjoaaGreatBase0
/- Rows of bytes that are lengthened and cleared. -/
namespace Go.Proofs.YtndkfjoaiinjoaaGreat.W
open Go.ChangeShapes Go.WideShapes Go.RowKit Go.Shelf
set_option linter.unusedVariables false

/-- vs laid over a row from o on -/
def setL : List Nat → Nat → List Nat → List Nat
  | row, _, [] => row
  | row, o, v :: r => setL (row.set o v) (o + 1) r
theorem setL_len (row : List Nat) (o : Nat) (vs : List Nat) : (setL row o vs).length = row.length := by
  induction vs generalizing row o with
  | nil => rfl
  | cons v r ih => simp [setL, ih]
theorem setL_get (row : List Nat) (o : Nat) (vs : List Nat) (j : Nat) (h : o + vs.length ≤ row.length) : (setL row o vs)[j]? = if o ≤ j ∧ j < o + vs.length then vs[j - o]? else row[j]? := by
  induction vs generalizing row o with
  | nil => rw [if_neg (by simp)]; rfl
  | cons v r ih =>
    simp only [List.length_cons] at h
    rw [setL, ih _ _ (by simp; omega), List.getElem?_set]
    by_cases e : o = j
    · subst e
      rw [if_neg (by omega), if_pos rfl, if_pos (by omega), if_pos (by simp)]
      simp
    · by_cases g : o + 1 ≤ j ∧ j < o + 1 + r.length
      · rw [if_pos g, if_pos (by simp; omega)]
        obtain ⟨k, hk⟩ : ∃ k, j - o = k + 1 := ⟨j - o - 1, by omega⟩
        rw [hk, List.getElem?_cons_succ]
        congr 1; omega
      · rw [if_neg g, if_neg (by omega), if_neg (by simp; omega)]
section
variable {W : World} {sb : Nat} {vr vb vf : Value} {s : Sto}
theorem Lay.rstores (h : Lay W sb vr vb vf s) {g cap : Nat} (hr : vr = .slice (some ⟨g, 0, none⟩) s.row.length cap) (o : Nat) (vs : List Nat) : Lay (W.setCells g o (vs.map byteV)) sb vr vb vf { s with row := setL s.row o vs } := by
  induction vs generalizing W s o with
  | nil => exact h
  | cons v r ih =>
    have := ih (s := { s with row := s.row.set o v }) (h.rstore hr o v) (by simpa using hr) (o + 1)
    exact this
theorem Upd.setCells {S : Nat → Prop} {a b : World} (h : Upd S a b) {g : Nat} (hp : S g) (o : Nat) (vs : List Value) : Upd S a (b.setCells g o vs) := by
  induction vs generalizing b o with
  | nil => exact h
  | cons v r ih => exact ih (h.setCell (p := ⟨g, o, none⟩) (.inl hp) v) (o + 1)
theorem Upd.setCells' {S : Nat → Prop} {a b : World} (h : Upd S a b) {g : Nat} (hp : Nx S a b g) (o : Nat) (vs : List Value) : Upd S a (b.setCells g o vs) := by
  induction vs generalizing b o with
  | nil => exact h
  | cons v r ih => exact ih (h.setCell (p := ⟨g, o, none⟩) hp v) (hp.on (by simp [World.setCell])) (o + 1)
theorem setCells_size (W : World) (g o : Nat) (vs : List Value) : (W.setCells g o vs).heap.size = W.heap.size := by
  induction vs generalizing W o with
  | nil => rfl
  | cons v r ih => rw [World.setCells, ih]; simp [World.setCell]
theorem setCells_far (W : World) (g o : Nat) (vs : List Value) (k : Nat) (hk : k ≠ g) : (W.setCells g o vs).heap[k]? = W.heap[k]? := by
  induction vs generalizing W o with
  | nil => rfl
  | cons v r ih => rw [World.setCells, ih, Below.heap_setCell _ _ _ _ hk]
end
theorem zeroCells_one (z : Value) (n : Nat) (hz : z.cells = #[z]) : Builtin.zeroCells z.cells n = (List.replicate n z).toArray := by
  rw [hz]
  apply Array.ext
  · simp [Builtin.zeroCells]
  · intro i h1 h2
    simp [Builtin.zeroCells, Nat.mod_one]
/-- 'append(row, make([]byte, m)...)' -/
theorem append_zeros {P : Program} (w : World) (t tn ty e : TypeId) (i : TypeInfo) (z : Value) (kq kn : IntKind) (ht : P.underlying t = some (.slice e)) (htn : P.underlying tn = some (.int kn)) (hi : P.info? e = some i) (hz : i.zero = some z) (hs : i.size = 1) (hby : i.bytes = 1) (hzc : z.cells = #[z]) (h1 : z.oneCell' = true)
    (v : Value) (n : Nat) (xs : List Value) (hown : w.ownsRow 0 e 1 v n xs) (m : Nat) (hm : 0 < m) (hnm : n + m ≤ 10000000000000) :
    ∃ v' w', (Builtin.append_ #[t, tn] ty #[v, .int kq m]).run P w = .ok v' w' ∧ w'.ownsRow 0 e 1 v' (n + m) (xs ++ List.replicate m z) ∧ w.grownBy w' v.ownBlock ∧ (∀ k, v'.ownBlock = some k → v.ownBlock = some k ∨ (w.heap.size ≤ k ∧ k < w'.heap.size)) := by
  have hcapm : ∀ w need old, need ≤ 10000000000000 → grownCap w need old e ≤ maxLen := fun w need old h => grownCap_le_maxLen w need old e (by unfold maxLen; omega)
  obtain ⟨hlen, hrow⟩ := hown
  rcases hrow with ⟨rfl, rfl⟩ | ⟨g, cap, cur, rfl, _, hg, hc, hcm, hcs, htake⟩
  · have hx : xs = [] := by simpa using hlen
    subst hx
    have hrun := Lib.run_append_nil_zeros (P := P) w t tn ty e i z kq kn ht htn hi hz m hm (by omega) (by omega) (by rw [hby]; omega)
    refine ⟨_, _, hrun, ⟨by simp, .inr ⟨w.heap.size, _, _, by rw [Nat.zero_add], Nat.zero_le _, heap_alloc_new w.drew _, by rw [Nat.zero_add]; exact grownCap_ge _ _ _ _, hcapm _ _ _ (by omega), ?_, ?_⟩⟩, ⟨rfl, rfl, rfl, ?_, fun k hk _ => ?_⟩, ?_⟩
    · rw [zeroCells_one _ _ hzc, zeroCells_one _ _ hzc]
      have := grownCap_ge w m 0 e
      simp; omega
    · rw [zeroCells_one _ _ hzc, zeroCells_one _ _ hzc]
      simp [Nat.min_eq_left]
    · show w.heap.size ≤ (w.drew.alloc _).heap.size; simp
    · exact Below.heap_alloc w.drew _ k hk
    · intro k hk
      simp [Value.ownBlock] at hk
      subst hk
      exact .inr ⟨Nat.le_refl _, by show w.heap.size < (w.drew.alloc _).heap.size; simp⟩
  · by_cases hroom : n + m ≤ cap
    · have hst := run_storeCells_at P g (n * i.size) e (List.replicate m z) 0 cur w hg (by rw [hs]; simp; omega) (by intro u hu; rw [List.eq_of_mem_replicate hu]; exact h1)
      simp only [Nat.add_zero] at hst
      have hw : IntKind.i64.wrap (m : Int) = m := by rw [IntKind.wrap_i64]; omega
      have h48i : ¬ (281474976710656 < (m : Int) * (i.bytes : Int)) := by rw [hby]; omega
      have hneg : ¬ ((m : Int) < 0) := by omega
      have hns : ¬ (m * i.size = 0) := by rw [hs]; omega
      have hzz := zeroCells_one z m hzc
      refine ⟨.slice (some ⟨g, 0, none⟩) (n + m) cap, w.setRow g (cur.toList.take (n * i.size) ++ List.replicate m z ++ cur.toList.drop (n * i.size + (List.replicate m z).length)).toArray, ?_, ⟨?_, .inr ⟨g, cap, (cur.toList.take (n * i.size) ++ List.replicate m z ++ cur.toList.drop (n * i.size + (List.replicate m z).length)).toArray, rfl, Nat.zero_le _, ?_, hroom, hcm, ?_, ?_⟩⟩, ⟨rfl, rfl, rfl, ?_, fun k hk hne => ?_⟩, fun k hk => .inl hk⟩
      · simp [Builtin.append_, run_underlying ht, run_underlying htn, sizeOf, typeInfo, zeroValue, hi, hz, asInt, asIntOf, hw, hneg, hns, h48i, hroom, Addr.add_lit, hzz, hst]
      · simp [hlen]
      · simp [World.setRow, Array.getElem?_modify, hg]
      · simp [hs, hcs]; omega
      · rw [hs]
        simp only [Nat.mul_one] at htake ⊢
        rw [List.toList_toArray, htake]
        exact List.take_left' (by simp [hlen])
      · simp [World.setRow]
      · simp only [World.setRow, Array.getElem?_modify]
        rw [if_neg (by simpa [Value.ownBlock] using (fun e => hne (by rw [e]; rfl)))]
    · have hfc : (Builtin.firstCells i.size n (.slice (some ⟨g, 0, none⟩) n cap)).run P w.drew = .ok xs.toArray w.drew := by
        rw [hs]
        refine run_firstCells_some (P := P) w.drew 1 n ⟨g, 0, none⟩ n cap xs (by simpa using hlen) ?_
        exact World.ownsRow.cells (w := w.drew) (base := 0) (e := e) (size := 1) (n := n) (v := .slice (some ⟨g, 0, none⟩) n cap) ⟨hlen, .inr ⟨g, cap, cur, rfl, Nat.zero_le _, hg, hc, hcm, hcs, htake⟩⟩ rfl
      have hrun := Lib.run_append_grow_zeros (P := P) w t tn ty e i z kq kn ht htn hi hz (some ⟨g, 0, none⟩) n cap xs hfc m hm (by omega) (by omega) (by omega) (by rw [hby]; omega) (by rw [hby]; have := nextslicecap_le (need := n + m) (old := cap) (by omega); omega)
      have hge := grownCap_ge w (n + m) cap e
      refine ⟨_, _, hrun, ⟨by simp [hlen], .inr ⟨w.heap.size, _, _, rfl, Nat.zero_le _, heap_alloc_new w.drew _, hge, hcapm _ _ _ (by omega), ?_, ?_⟩⟩, ⟨rfl, rfl, rfl, ?_, fun k hk _ => ?_⟩, ?_⟩
      · rw [zeroCells_one _ _ hzc, zeroCells_one _ _ hzc]
        simp [hlen]; omega
      · rw [zeroCells_one _ _ hzc, zeroCells_one _ _ hzc]
        simp only [Nat.mul_one, Array.toList_append]
        exact List.take_left' (by simp [hlen])
      · show w.heap.size ≤ (w.drew.alloc _).heap.size; simp
      · exact Below.heap_alloc w.drew _ k hk
      · intro k hk
        simp [Value.ownBlock] at hk
        subst hk
        exact .inr ⟨Nat.le_refl _, by show w.heap.size < (w.drew.alloc _).heap.size; simp⟩
/-- 'append(v, x...)', and where what it answers lies -/
theorem append_at {P : Program} (w : World) (t ty e : TypeId) (i : TypeInfo) (z : Value) (size bytes : Nat) (ht : P.underlying t = some (.slice e)) (hi : P.info? e = some i) (hz : i.zero = some z) (hsize : i.size = size) (hby : i.bytes = bytes) (hzs : z.cells.size = size) (hsz : 0 < size)
    (v : Value) (n : Nat) (xs : List Value) (hown : w.ownsRow 0 e size v n xs) (a : Addr) (m c : Nat) (news : List Value) (hl : news.length = m * size) (hnews : ∀ j u, news[j]? = some u → w.cell? (a.add j) = some u) (h1 : ∀ u ∈ news, u.oneCell' = true)
    (hm : 0 < m) (hb40 : bytes ≤ 64) (hnm : n + m ≤ 1000000000000) :
    ∃ v' w', (Builtin.append_ #[t, t] ty #[v, .slice (some a) m c]).run P w = .ok v' w' ∧ w'.ownsRow 0 e size v' (n + m) (xs ++ news) ∧ w.grownBy w' v.ownBlock ∧ (∀ k, v'.ownBlock = some k → v.ownBlock = some k ∨ (w.heap.size ≤ k ∧ k < w'.heap.size)) := by
  have hbig : (n + m) * bytes ≤ 140737488355328 := by
    have := Nat.mul_le_mul hnm hb40
    omega
  obtain ⟨v', w', hrun, ho, hg, _⟩ := run_append_own w 0 t ty e i z size bytes ht hi hz hsize hby hzs hsz v n xs hown a m c news hl hnews h1 (by unfold maxLen; omega) hbig (Nat.zero_le _)
  refine ⟨v', w', hrun, ho, hg, fun k hk => ?_⟩
  have hklt := (ho.lt k hk).2
  have hown' := hown
  obtain ⟨hlen, hrow⟩ := hown
  rcases hrow with ⟨rfl, rfl⟩ | ⟨g, cap, cur, rfl, _, hgg, hc, hcm, hcs, htake⟩
  · have hx : xs = [] := by simpa using hlen
    subst hx
    obtain ⟨v2, w2, hrun2, ho2, _, _⟩ := run_append_own w w.heap.size t ty e i z size bytes ht hi hz hsize hby hzs hsz (.slice none 0 0) 0 [] (World.ownsRow_nil _ _ _ _) a m c news hl hnews h1 (by unfold maxLen; omega) hbig (Nat.le_refl _)
    rw [hrun] at hrun2
    cases hrun2
    exact .inr ⟨(ho2.lt k hk).1, hklt⟩
  · by_cases hroom : n + m ≤ cap
    · have hr := run_append_room (P := P) w t ty e i ht hi g n cap cur hgg a m c news (by rw [hsize]; exact hl) hnews h1 hroom (by
        rw [hsize, hl, hcs, ← Nat.add_mul]; exact Nat.mul_le_mul_right _ hroom)
      rw [hrun] at hr
      cases hr
      exact .inl hk
    · have hfc : (Builtin.firstCells i.size n (.slice (some ⟨g, 0, none⟩) n cap)).run P w.drew = .ok xs.toArray w.drew := by
        rw [hsize]
        exact run_firstCells_some (P := P) w.drew size n ⟨g, 0, none⟩ n cap xs hlen (World.ownsRow.cells (w := w.drew) (base := 0) (e := e) (size := size) (n := n) (v := .slice (some ⟨g, 0, none⟩) n cap) hown' rfl)
      have hr := run_append_grow_src (P := P) w t t ty e i z ht hi hz (some ⟨g, 0, none⟩) n cap xs hfc (.slice (some a) m c) m news (Src.ofSlice w ht a m c news (by rw [hsize]; exact hl) hnews h1) (by omega) (by omega) (by rw [hby]; exact growslice_fits (by omega) hbig)
      rw [hrun] at hr
      cases hr
      simp [Value.ownBlock] at hk
      subst hk
      exact .inr ⟨Nat.le_refl _, hklt⟩
theorem own_ne {W : World} {e : TypeId} {size : Nat} {v : Value} {n : Nat} {xs : List Value} (h : W.ownsRow 0 e size v n xs) {b : Nat} {c : Array Value} {t : TypeId} (hb : W.heap[b]? = some (.cells c t (0, 0))) (hne : e ≠ t) : some b ≠ v.ownBlock := by
  rcases h.2 with ⟨rfl, _⟩ | ⟨g, cap, cur, rfl, _, hg, _⟩
  · simp [Value.ownBlock]
  · simp only [Value.ownBlock]
    intro e1
    cases e1
    rw [hb] at hg
    simp at hg
    exact hne hg.2.symm
theorem own_apart {W : World} {e e' : TypeId} {size size' : Nat} {v v' : Value} {n n' : Nat} {xs xs' : List Value} (h : W.ownsRow 0 e size v n xs) (h' : W.ownsRow 0 e' size' v' n' xs') (hne : e ≠ e') : v.ownBlock = none ∨ v.ownBlock ≠ v'.ownBlock := by
  rcases h.2 with ⟨rfl, _⟩ | ⟨g, cap, cur, rfl, _, hg, _⟩
  · exact .inl rfl
  · right
    simp only [Value.ownBlock]
    exact own_ne h' hg (fun e => hne e.symm)
section
variable {W W4 : World} {sb : Nat} {vr vb vf v2 : Value} {s : Sto}
/-- the row has been appended to -/
theorem Lay.regrow_row (h : Lay W sb vr vb vf s) (hg : W.grownBy W4 vr.ownBlock) {row' : List Nat} (ho : W4.ownsRow 0 5 1 v2 row'.length (row'.map byteV)) : Lay (W4.setCell ⟨sb, 0, none⟩ v2) sb v2 vb vf { s with row := row' } := by
  have h4 : W4.heap[sb]? = some (.cells (s.obj vr vb vf).toArray 112 (0, 0)) := (hg.block sb (Array.getElem?_eq_some_iff.1 h.obj).1 (own_ne h.row h.obj (by decide))).trans h.obj
  exact ⟨heap_set h4 0 v2, own_other ho h4 (by decide) _ _, own_other (h.blk.kept hg (own_apart h.blk h.row (by decide))) h4 (by decide) _ _, own_other (h.free.kept hg (own_apart h.free h.row (by decide))) h4 (by decide) _ _⟩
/-- the table has been appended to -/
theorem Lay.regrow_blk (h : Lay W sb vr vb vf s) (hg : W.grownBy W4 vb.ownBlock) {blks' : List Blk} (ho : W4.ownsRow 0 108 5 v2 blks'.length (flat blks')) : Lay (W4.setCell ⟨sb, 6, none⟩ v2) sb vr v2 vf { s with blks := blks' } := by
  have h4 : W4.heap[sb]? = some (.cells (s.obj vr vb vf).toArray 112 (0, 0)) := (hg.block sb (Array.getElem?_eq_some_iff.1 h.obj).1 (own_ne h.blk h.obj (by decide))).trans h.obj
  exact ⟨heap_set h4 6 v2, own_other (h.row.kept hg (own_apart h.row h.blk (by decide))) h4 (by decide) _ _, own_other ho h4 (by decide) _ _, own_other (h.free.kept hg (own_apart h.free h.blk (by decide))) h4 (by decide) _ _⟩
/-- the heap of Ids has been appended to -/
theorem Lay.regrow_free (h : Lay W sb vr vb vf s) (hg : W.grownBy W4 vf.ownBlock) {free' : List Int} (ho : W4.ownsRow 0 3 1 v2 free'.length (free'.map (.int .i64))) : Lay (W4.setCell ⟨sb, 7, none⟩ v2) sb vr vb v2 { s with free := free' } := by
  have h4 : W4.heap[sb]? = some (.cells (s.obj vr vb vf).toArray 112 (0, 0)) := (hg.block sb (Array.getElem?_eq_some_iff.1 h.obj).1 (own_ne h.free h.obj (by decide))).trans h.obj
  exact ⟨heap_set h4 7 v2, own_other (h.row.kept hg (own_apart h.row h.free (by decide))) h4 (by decide) _ _, own_other (h.blk.kept hg (own_apart h.blk h.free (by decide))) h4 (by decide) _ _, own_other ho h4 (by decide) _ _⟩
end
end Go.Proofs.YtndkfjoaiinjoaaGreat.W
/- Package store: has, part. -/
namespace Go.Proofs.YtndkfjoaiinjoaaGreat.W
open Go.ChangeShapes Go.WideShapes Go.RowKit
set_option linter.unusedVariables false

/-- the extent of an Id -/
def Sto.ext (s : Sto) (id : Int) : Option Blk := if id < 0 then none else match s.blks[id.toNat]? with | some b => if b.live = true then some b else none | none => none
theorem ext_some {s : Sto} {id : Int} {b : Blk} (h : s.ext id = some b) : ∃ k : Nat, id = k ∧ s.blks[k]? = some b ∧ b.live = true := by
  unfold Sto.ext at h
  split at h
  · cases h
  · split at h
    · split at h
      · cases h
        exact ⟨id.toNat, by omega, by assumption, by assumption⟩
      · cases h
    · cases h
section
variable {W : World} {sb : Nat} {vr vb vf : Value} {s : Sto}
theorem has_c (h : Lay W sb vr vb vf s) (hlen : s.blks.length ≤ 1000000000) (id : Int) :
    Calls Tryz.prog 96 #[.pointer (some ⟨sb, 0, none⟩), .int .i64 id] W fun e w' => e = .returned (.bool (s.ext id).isSome) ∧ w' = W := by
  by_cases h0 : id < 0
  · have e : Hid ((s.ext id).isSome = false) := by unfold Sto.ext; rw [if_pos h0]; exact hid rfl
    go_enter Tryz.func96, Tryz.ntmps96
    go_wp2
    go_ret
    exact ⟨by rw [e.out]; rfl, rfl⟩
  · obtain ⟨k, rfl⟩ := Int.eq_ofNat_of_zero_le (by omega : 0 ≤ id)
    by_cases h1 : k < s.blks.length
    · obtain ⟨b, hb⟩ : ∃ b, s.blks[k]? = some b := ⟨_, List.getElem?_eq_getElem h1⟩
      have e : Hid ((s.ext k).isSome = b.live) := by
        unfold Sto.ext
        rw [if_neg h0]
        simp only [Int.toNat_natCast, hb]
        cases b.live <;> exact hid rfl
      have hg : s.get (k + 1) = some b := by unfold Sto.get; rw [if_neg (by omega)]; exact hb
      obtain ⟨g, cap, rfl, _⟩ := own_slice h.blk (Nat.lt_of_le_of_lt (Nat.zero_le _) h1)
      obtain ⟨b0, _, _, _, _⟩ := bcells h hg (.inr ⟨by omega, rfl, rfl⟩)
      simp only [Nat.add_sub_cancel] at b0
      have c6 := h.cell 6
      simp [Sto.obj] at c6
      have h0' : (0 : Int) ≤ k := by omega
      have h1' : (k : Int) < s.blks.length := by omega
      clear hb hg
      go_enter Tryz.func96, Tryz.ntmps96
      go_wp2
      go_ret
      exact ⟨by rw [e.out]; rfl, rfl⟩
    · have e : Hid ((s.ext k).isSome = false) := by
        unfold Sto.ext
        rw [if_neg h0]
        simp only [Int.toNat_natCast, List.getElem?_eq_none (by omega : s.blks.length ≤ k)]
        exact hid rfl
      have c6 := h.cell 6
      have h1' : ¬ (k : Int) < s.blks.length := by omega
      have hb : ∃ o cap, vb = .slice o s.blks.length cap := by
        rcases h.blk.2 with ⟨rfl, e⟩ | ⟨g, cap, cur, rfl, _⟩
        · exact ⟨_, _, by rw [e]⟩
        · exact ⟨_, _, rfl⟩
      obtain ⟨o, cap, rfl⟩ := hb
      simp [Sto.obj] at c6
      go_enter Tryz.func96, Tryz.ntmps96
      go_wp2
      go_ret
      exact ⟨by rw [e.out]; rfl, rfl⟩
theorem tmod_eq (off w : Int) (h : off % w = 0) : (off.tmod w != 0) = false := by
  simp
  exact Int.tmod_eq_zero_of_dvd (Int.dvd_of_emod_eq_zero h)
theorem ret_part {a : Option Addr} {n m c : Nat} {v : Value} (h : n = m) : Ending.returned (.tuple #[.slice a n c, v]) = .returned (.tuple #[.slice a m c, v]) := by rw [h]
theorem part_ok (h : Lay W sb vr vb vf s) (f : Fit s) (id width : Int) (b : Blk) (hx : s.ext id = some b) (hw : width = 1 ∨ width = 2 ∨ width = 4 ∨ width = 8) (o p : Nat) (hp : b.pos = p) (ha : (o : Int) % width = 0) (ho : o + width ≤ b.len) (g cap : Nat) (hr : vr = .slice (some ⟨g, 0, none⟩) s.row.length cap) (hcap : s.row.length ≤ cap) (hin : b.pos + b.len ≤ s.row.length) :
    Calls Tryz.prog 113 #[.pointer (some ⟨sb, 0, none⟩), .int .i64 id, .int .i64 o, .int .i64 width] W fun e w' => e = .returned (.tuple #[.slice (some ⟨g, p + o, none⟩) width.toNat (cap - (p + o)), .int .i64 0]) ∧ Below W.heap.size W w' := by
  subst hr
  have ch := has_c h f.len id
  simp only [hx, Option.isSome_some] at ch
  have ht := tmod_eq o width ha
  obtain ⟨k, rfl, hb, hl⟩ := ext_some hx
  have h1 := (List.getElem?_eq_some_iff.1 hb).1
  have hg : s.get (k + 1) = some b := by unfold Sto.get; rw [if_neg (by omega)]; exact hb
  obtain ⟨f1, f2, f3, f4⟩ := f.blk _ b hg
  obtain ⟨g2, cap2, rfl, _⟩ := own_slice h.blk (Nat.lt_of_le_of_lt (Nat.zero_le _) h1)
  obtain ⟨b0, b1, b2, b3, b4⟩ := bcells h hg (.inr ⟨by omega, rfl, rfl⟩)
  simp only [Nat.add_sub_cancel] at b0 b1 b2 b3 b4
  have c6 := h.cell 6
  have c0 := h.cell 0
  simp [Sto.obj] at c6 c0
  have h0' : (0 : Int) ≤ k := by omega
  have h1' : (k : Int) < s.blks.length := by omega
  have fr := f.row
  rw [hp] at b1 f1 f2 hin
  have lt : sb < W.heap.size := (Array.getElem?_eq_some_iff.1 h.obj).1
  have ca : ∀ o, (W.alloc o).cell? ⟨sb, 0, none⟩ = some (.slice (some ⟨g, 0, none⟩) s.row.length cap) := fun o => (World.cell?_of_block (Below.heap_alloc W o sb lt)).trans c0
  have hlo : (0 : Int) ≤ p + o := by omega
  have hhi : (p : Int) + o + width ≤ cap := by omega
  clear hg hb hx
  rcases hw with rfl | rfl | rfl | rfl <;> (
    go_enter Tryz.func113, Tryz.ntmps113
    go_wp2_with (go_at_call 96; (with_reducible refine ch.mono ?_); rintro e w' ⟨rfl, hw⟩; (have hw' := hw.symm); subst hw'; clear hw)
    go_ret2
    refine ⟨?_, (Below.refl _ _).alloc (Nat.le_refl _) _⟩
    first | exact ret_part (show p + o + 1 - (p + o) = Int.toNat 1 by omega) | exact ret_part (show p + o + 2 - (p + o) = Int.toNat 2 by omega) | exact ret_part (show p + o + 4 - (p + o) = Int.toNat 4 by omega) | exact ret_part (show p + o + 8 - (p + o) = Int.toNat 8 by omega))
end
end Go.Proofs.YtndkfjoaiinjoaaGreat.W
/- Package store: Load, Save. -/
namespace Go.Proofs.YtndkfjoaiinjoaaGreat.W
open Go.ChangeShapes Go.WideShapes Go.RowKit
set_option linter.unusedVariables false

/-- the number of a row of bytes, the lowest first -/
def leN : List Nat → Nat
  | [] => 0
  | b :: r => b + 256 * leN r
theorem leN_snoc (l : List Nat) (b : Nat) : leN (l ++ [b]) = leN l + b * 256 ^ l.length := by
  induction l with
  | nil => simp [leN]
  | cons c r ih =>
    simp only [List.cons_append, leN, ih, List.length_cons, Nat.pow_succ]
    have e : b * (256 ^ r.length * 256) = 256 * (b * 256 ^ r.length) := by rw [← Nat.mul_assoc, Nat.mul_comm]
    rw [e, Nat.mul_add]; omega
theorem leN_lt (l : List Nat) (h : ∀ n ∈ l, n < 256) : leN l < 256 ^ l.length := by
  induction l with
  | nil => simp [leN]
  | cons c r ih =>
    have h1 := h c (by simp)
    have h2 := ih (fun n hn => h n (by simp [hn]))
    simp only [leN, List.length_cons, Nat.pow_succ]
    omega
theorem pow8' (k : Nat) : 2 ^ (8 * k) = 256 ^ k := by rw [Nat.pow_mul]
theorem pow_le8 (k : Nat) (h : k ≤ 8) : 256 ^ k ≤ 18446744073709551616 := by
  have := Nat.pow_le_pow_right (n := 256) (by decide) h
  have e : 256 ^ 8 = 18446744073709551616 := by decide
  omega
theorem or_byte8 (k b e : Nat) (hk : k < 8) (he : e < 256 ^ k) (hb : b < 256) :
    bits .or .u64 (e : Int) (IntKind.u64.wrap (IntKind.u64.wrap (b : Int) * 2 ^ (8 * k))) = ((e + b * 256 ^ k : Nat) : Int) := by
  have e1 : IntKind.u64.wrap (b : Int) = b := by rw [IntKind.wrap_u64]; omega
  have hp := pow_le8 (k + 1) (by omega)
  rw [Nat.pow_succ] at hp
  have hbk : b * 256 ^ k ≤ 255 * 256 ^ k := Nat.mul_le_mul_right _ (by omega)
  have e2 : (b : Int) * 2 ^ (8 * k) = ((b * 256 ^ k : Nat) : Int) := by rw [← pow8']; simp
  have e3 : IntKind.u64.wrap ((b * 256 ^ k : Nat) : Int) = ((b * 256 ^ k : Nat) : Int) := by rw [IntKind.wrap_u64]; exact Int.emod_eq_of_lt (Int.natCast_nonneg _) (by omega)
  rw [e1, e2, e3, u64_or_nat _ _ (by omega) (by omega)]
  have j2 : e ||| b * 256 ^ k = b * 256 ^ k + e := by
    rw [Nat.or_comm, ← pow8']
    exact nat_join (8 * k) _ _ (Nat.mul_mod_left _ _) (by rw [pow8']; exact he)
  rw [j2]
  omega
section
variable {W : World} {sb : Nat} {vr vb vf : Value} {s : Sto}
/-- the bytes of an extent from one on -/
def seg (row : List Nat) (at' n : Nat) : List Nat := (row.drop at').take n
theorem seg_len (row : List Nat) (a n : Nat) (h : a + n ≤ row.length) : (seg row a n).length = n := by simp [seg]; omega
theorem seg_get (row : List Nat) (a n k : Nat) (hk : k < n) : (seg row a n)[k]? = row[a + k]? := by simp [seg, hk]
theorem rcell (h : Lay W sb vr vb vf s) {g cap : Nat} (hr : vr = .slice (some ⟨g, 0, none⟩) s.row.length cap) (j : Nat) (hj : j < s.row.length) : W.cell? ⟨g, j, none⟩ = some (.int .u8 (s.row[j] : Nat)) := by
  subst hr
  rw [h.row.cellAt j (by omega)]
  simp [byteV, hj]
set_option maxHeartbeats 1000000 in
theorem load_core (g p n : Nat) (seg : List Nat) (hn : seg.length = n) (h8 : n ≤ 8) (hb : ∀ x ∈ seg, x < 256) (a0 a1 a2 a3 : Value) (c : Nat)
    (hc : ∀ W' : World, Below W.heap.size W W' → ∀ k (hk : k < seg.length), W'.cell? ⟨g, p + k, none⟩ = some (.int .u8 (seg[k] : Nat)))
    (cp : Calls Tryz.prog 113 #[a0, a1, a2, a3] W fun e w' => e = .returned (.tuple #[.slice (some ⟨g, p, none⟩) n c, .int .i64 0]) ∧ Below W.heap.size W w') :
    Calls Tryz.prog 102 #[a0, a1, a2, a3] W fun e w' => e = .returned (.tuple #[.int .u64 (leN seg), .int .i64 0]) ∧ Below W.heap.size W w' := by
  go_enter Tryz.func102, Tryz.ntmps102
  go_wp2_with (go_at_call 113; (with_reducible refine cp.mono ?_); rintro e w' ⟨rfl, hB⟩)
  have hc' := hc w' hB
  clear hc cp
  go_loop [12, 28] (fun x i => ∃ k : Nat, k ≤ n ∧ i = .int .i64 k ∧ x = .int .u64 (leN (seg.take k))) (fun _ i => n - (intOf i).toNat)
  case atStart => exact ⟨0, Nat.zero_le _, rfl, by simp [leN]⟩
  case round =>
    obtain ⟨k, hk, rfl, rfl⟩ := hrel
    by_cases hlt : k < n
    · have hs : k < seg.length := by omega
      have hx := hc' k hs
      have st : Hid (bits .or .u64 (leN (seg.take k) : Int) (IntKind.u64.wrap (IntKind.u64.wrap ((seg[k] : Nat) : Int) * 2 ^ (8 * k))) = (leN (seg.take (k + 1)) : Int)) := by
        have l1 : (seg.take k).length = k := by simp; omega
        rw [List.take_succ_eq_append_getElem hs, leN_snoc, l1]
        refine hid (or_byte8 k _ _ (by omega) ?_ (hb _ (List.getElem_mem _)))
        have := leN_lt (seg.take k) (fun x hx => hb x (List.mem_of_mem_take hx))
        rwa [l1] at this
      clear hc'
      generalize seg[k] = y at *
      go_wp2
      go_round
      case rel => exact ⟨k + 1, hlt, by go_num, by rw [← st.out]⟩
      case measure => simp [intOf]; omega
    · have he : seg.take k = seg := List.take_of_length_le (by omega)
      rw [he]
      clear hc' he
      go_wp2
      go_ret2
      exact ⟨rfl, hB⟩
theorem load_ok (h : Lay W sb vr vb vf s) (f : Fit s) (id : Int) (wd : Nat) (b : Blk) (hx : s.ext id = some b) (hw : wd = 1 ∨ wd = 2 ∨ wd = 4 ∨ wd = 8) (o p : Nat) (hp : b.pos = p) (ha : (o : Int) % wd = 0) (ho : o + (wd : Int) ≤ b.len) (hin : b.pos + b.len ≤ s.row.length) :
    Calls Tryz.prog 102 #[.pointer (some ⟨sb, 0, none⟩), .int .i64 id, .int .i64 o, .int .i64 wd] W fun e w' => e = .returned (.tuple #[.int .u64 (leN (seg s.row (p + o) wd)), .int .i64 0]) ∧ Below W.heap.size W w' := by
  obtain ⟨g, cap, hr, hcap⟩ := own_slice h.row (by omega)
  have cp := part_ok h f id wd b hx (by omega) o p hp ha ho g cap hr hcap hin
  simp only [Int.toNat_natCast] at cp
  have hl := seg_len s.row (p + o) wd (by omega)
  refine load_core g (p + o) wd _ hl (by omega) (fun x hx => f.byte x (List.mem_of_mem_drop (List.mem_of_mem_take hx))) _ _ _ _ _ ?_ cp
  intro W' hB k hk
  have hr' := rcell h hr (p + o + k) (by omega)
  have lt : g < W.heap.size := by
    have := (h.row.lt g (by rw [hr]; rfl)).2
    exact this
  rw [hB.cell (by exact lt), hr']
  congr 2
  simp [seg]
/-- a row with the lowest k bytes of a number written from one on -/
def saved (row : List Nat) (p x : Nat) : Nat → List Nat
  | 0 => row
  | k + 1 => (saved row p x k).set (p + k) (x / 256 ^ k % 256)
theorem saved_len (row : List Nat) (p x k : Nat) : (saved row p x k).length = row.length := by
  induction k with
  | zero => rfl
  | succ k ih => simp [saved, ih]
theorem saved_get (row : List Nat) (p x k j : Nat) (h : p + k ≤ row.length) : (saved row p x k)[j]? = if p ≤ j ∧ j < p + k then some (x / 256 ^ (j - p) % 256) else row[j]? := by
  induction k with
  | zero => rw [if_neg (by omega)]; rfl
  | succ k ih =>
    simp only [saved, List.getElem?_set, saved_len]
    by_cases e : p + k = j
    · subst e
      rw [if_pos rfl, if_pos (by omega), if_pos (by omega)]
      congr 2; congr 2; omega
    · rw [if_neg e, ih (by omega)]
      by_cases g : p ≤ j ∧ j < p + k
      · rw [if_pos g, if_pos (by omega)]
      · rw [if_neg g, if_neg (by omega)]
theorem byte_of (x k : Nat) : (x : Int) / 2 ^ (8 * k) % 256 = ((x / 256 ^ k % 256 : Nat) : Int) := by
  rw [← pow8']
  simp
set_option maxHeartbeats 1000000 in
theorem save_core (g p n x : Nat) (hx : x < 18446744073709551616) (cap : Nat) (hr : vr = .slice (some ⟨g, 0, none⟩) s.row.length cap) (hin : p + n ≤ s.row.length) (h8 : n ≤ 8) (hlen : s.row.length ≤ 1000000000000) (a0 a1 a2 a3 : Value) (c : Nat) (h : Lay W sb vr vb vf s)
    (cp : Calls Tryz.prog 113 #[a0, a1, a2, a3] W fun e w' => e = .returned (.tuple #[.slice (some ⟨g, p, none⟩) n c, .int .i64 0]) ∧ Below W.heap.size W w') :
    Calls Tryz.prog 105 #[a0, a1, a2, a3, .int .u64 x] W fun e w' => e = .returned (.int .i64 0) ∧ Lay w' sb vr vb vf { s with row := saved s.row p x n } ∧ Upd (fun k => k = g) W w' := by
  go_enter Tryz.func105, Tryz.ntmps105
  go_wp2_with (go_at_call 113; (with_reducible refine cp.mono ?_); rintro e w' ⟨rfl, hB⟩)
  have hU : Upd (fun k => k = g) W w' := Upd.of_below hB
  have hL : Lay w' sb vr vb vf s := by
    have lt : ∀ {e : TypeId} {size : Nat} {v : Value} {n : Nat} {xs : List Value}, W.ownsRow 0 e size v n xs → ∀ k, v.ownBlock = some k → k < W.heap.size := fun h k e => (h.lt k e).2
    exact h.kept (hB.block _ (Array.getElem?_eq_some_iff.1 h.obj).1) (fun k e => hB.block _ (lt h.row k e)) (fun k e => hB.block _ (lt h.blk k e)) (fun k e => hB.block _ (lt h.free k e))
  clear hB cp h
  go_loopw [24] (fun i wr => ∃ k : Nat, k ≤ n ∧ i = .int .i64 k ∧ Lay wr sb vr vb vf { s with row := saved s.row p x k } ∧ Upd (fun k => k = g) W wr) (fun i _ => n - (intOf i).toNat)
  case atStart => exact ⟨0, Nat.zero_le _, rfl, hL, hU⟩
  case round =>
    obtain ⟨k, hk, rfl, hLr, hUr⟩ := hrel
    by_cases hlt : k < n
    · have hj : p + k < (saved s.row p x k).length := by rw [saved_len]; omega
      have hx1 := rcell hLr (g := g) (cap := cap) (by rw [hr]; simp [saved_len]) (p + k) hj
      have hx2 : wr.frozen? ⟨g, p + k, none⟩ = false := by
        have := hLr.row
        rw [hr] at this
        simp only [saved_len] at this
        exact this.frozenAt _
      have hst := hLr.rstore (g := g) (cap := cap) (by rw [hr]; simp [saved_len]) (p + k) (x / 256 ^ k % 256)
      have hsu := hUr.setCell (p := ⟨g, p + k, none⟩) (.inl rfl) (byteV (x / 256 ^ k % 256))
      have hby := hid (byte_of x k)
      generalize (saved s.row p x k)[p + k] = y at *
      clear hLr hUr hU hL
      go_wp2
      go_roundw
      case rel => exact ⟨k + 1, hlt, by go_num, by rw [hby.out]; exact hst, by rw [hby.out]; exact hsu⟩
      case measure => simp [intOf]; omega
    · have e : k = n := by omega
      rw [e] at hLr
      have HL := hid hLr
      have HU := hid hUr
      clear hLr hUr e hL hU
      go_wp2
      go_ret
      exact ⟨rfl, HL, HU⟩
theorem save_ok (h : Lay W sb vr vb vf s) (f : Fit s) (id : Int) (wd x : Nat) (hx64 : x < 18446744073709551616) (b : Blk) (hx : s.ext id = some b) (hw : wd = 1 ∨ wd = 2 ∨ wd = 4 ∨ wd = 8) (o p : Nat) (hp : b.pos = p) (ha : (o : Int) % wd = 0) (ho : o + (wd : Int) ≤ b.len) (hin : b.pos + b.len ≤ s.row.length) {S : Nat → Prop} (hS : Own S sb vr vb vf) :
    Calls Tryz.prog 105 #[.pointer (some ⟨sb, 0, none⟩), .int .i64 id, .int .i64 o, .int .i64 wd, .int .u64 x] W fun e w' => e = .returned (.int .i64 0) ∧ Lay w' sb vr vb vf { s with row := saved s.row (p + o) x wd } ∧ Upd S W w' := by
  obtain ⟨g, cap, hr, hcap⟩ := own_slice h.row (by omega)
  have cp := part_ok h f id wd b hx (by omega) o p hp ha ho g cap hr hcap hin
  simp only [Int.toNat_natCast] at cp
  refine (save_core g (p + o) wd x hx64 cap hr (by omega) (by omega) f.row _ _ _ _ _ h cp).mono ?_
  rintro e w' ⟨rfl, h1, h2⟩
  exact ⟨rfl, h1, h2.mono (by rintro k rfl; exact hS.row _ (by rw [hr]; rfl))⟩
end
end Go.Proofs.YtndkfjoaiinjoaaGreat.W
