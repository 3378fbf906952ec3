import Derived.Test.YtgkakflnmpoadaaGreatDoorBase1
import Derived.Lib.AppendZerosOnto
import Derived.Lib.SliceRun
import Derived.Deep.RegionHeld3
import Derived.Deep.Quiet
/- Rows of bytes that are lengthened and cleared. -/
namespace Go.Proofs.YtgkakflnmpoadaaGreatDoor.W
open Go.ChangeShapes Go.WideShapes Go.RowKit Go.Shelf
set_option linter.unusedVariables false

/-- vs laid over a row from o on -/
def setL : List Nat → Nat → List Nat → List Nat
  | row, _, [] => row
  | row, o, v :: r => setL (row.set o v) (o + 1) r
theorem setL_len (row : List Nat) (o : Nat) (vs : List Nat) : (setL row o vs).length = row.length := by
  induction vs generalizing row o with
  | nil => rfl
  | cons v r ih => simp [setL, ih]
theorem setL_get (row : List Nat) (o : Nat) (vs : List Nat) (j : Nat) (h : o + vs.length ≤ row.length) : (setL row o vs)[j]? = if o ≤ j ∧ j < o + vs.length then vs[j - o]? else row[j]? := by
  induction vs generalizing row o with
  | nil => rw [if_neg (by simp)]; rfl
  | cons v r ih =>
    simp only [List.length_cons] at h
    rw [setL, ih _ _ (by simp; omega), List.getElem?_set]
    by_cases e : o = j
    · subst e
      rw [if_neg (by omega), if_pos rfl, if_pos (by omega), if_pos (by simp)]
      simp
    · by_cases g : o + 1 ≤ j ∧ j < o + 1 + r.length
      · rw [if_pos g, if_pos (by simp; omega)]
        obtain ⟨k, hk⟩ : ∃ k, j - o = k + 1 := ⟨j - o - 1, by omega⟩
        rw [hk, List.getElem?_cons_succ]
        congr 1; omega
      · rw [if_neg g, if_neg (by omega), if_neg (by simp; omega)]
section
variable {W : World} {sb : Nat} {vr vb vf : Value} {s : Sto}
theorem Lay.rstores (h : Lay W sb vr vb vf s) {g cap : Nat} (hr : vr = .slice (some ⟨g, 0, none⟩) s.row.length cap) (o : Nat) (vs : List Nat) : Lay (W.setCells g o (vs.map byteV)) sb vr vb vf { s with row := setL s.row o vs } := by
  induction vs generalizing W s o with
  | nil => exact h
  | cons v r ih =>
    have := ih (s := { s with row := s.row.set o v }) (h.rstore hr o v) (by simpa using hr) (o + 1)
    exact this
theorem Upd.setCells {S : Nat → Prop} {a b : World} (h : Upd S a b) {g : Nat} (hp : S g) (o : Nat) (vs : List Value) : Upd S a (b.setCells g o vs) := by
  induction vs generalizing b o with
  | nil => exact h
  | cons v r ih => exact ih (h.setCell (p := ⟨g, o, none⟩) (.inl hp) v) (o + 1)
theorem Upd.setCells' {S : Nat → Prop} {a b : World} (h : Upd S a b) {g : Nat} (hp : Nx S a b g) (o : Nat) (vs : List Value) : Upd S a (b.setCells g o vs) := by
  induction vs generalizing b o with
  | nil => exact h
  | cons v r ih => exact ih (h.setCell (p := ⟨g, o, none⟩) hp v) (hp.on (by simp [World.setCell])) (o + 1)
theorem setCells_size (W : World) (g o : Nat) (vs : List Value) : (W.setCells g o vs).heap.size = W.heap.size := by
  induction vs generalizing W o with
  | nil => rfl
  | cons v r ih => rw [World.setCells, ih]; simp [World.setCell]
theorem setCells_far (W : World) (g o : Nat) (vs : List Value) (k : Nat) (hk : k ≠ g) : (W.setCells g o vs).heap[k]? = W.heap[k]? := by
  induction vs generalizing W o with
  | nil => rfl
  | cons v r ih => rw [World.setCells, ih, Below.heap_setCell _ _ _ _ hk]
end
theorem zeroCells_one (z : Value) (n : Nat) (hz : z.cells = #[z]) : Builtin.zeroCells z.cells n = (List.replicate n z).toArray := by
  rw [hz]
  apply Array.ext
  · simp [Builtin.zeroCells]
  · intro i h1 h2
    simp [Builtin.zeroCells, Nat.mod_one]
/-- 'append(row, make([]byte, m)...)' -/
theorem append_zeros {P : Program} (w : World) (t tn ty e : TypeId) (i : TypeInfo) (z : Value) (kq kn : IntKind) (ht : P.underlying t = some (.slice e)) (htn : P.underlying tn = some (.int kn)) (hi : P.info? e = some i) (hz : i.zero = some z) (hs : i.size = 1) (hby : i.bytes = 1) (hzc : z.cells = #[z]) (h1 : z.oneCell' = true)
    (v : Value) (n : Nat) (xs : List Value) (hown : w.ownsRow 0 e 1 v n xs) (m : Nat) (hm : 0 < m) (hnm : n + m ≤ 10000000000000) :
    ∃ v' w', (Builtin.append_ #[t, tn] ty #[v, .int kq m]).run P w = .ok v' w' ∧ w'.ownsRow 0 e 1 v' (n + m) (xs ++ List.replicate m z) ∧ w.grownBy w' v.ownBlock ∧ (∀ k, v'.ownBlock = some k → v.ownBlock = some k ∨ (w.heap.size ≤ k ∧ k < w'.heap.size)) := by
  have hcapm : ∀ w need old, need ≤ 10000000000000 → grownCap w need old e ≤ maxLen := fun w need old h => grownCap_le_maxLen w need old e (by unfold maxLen; omega)
  obtain ⟨hlen, hrow⟩ := hown
  rcases hrow with ⟨rfl, rfl⟩ | ⟨g, cap, cur, rfl, _, hg, hc, hcm, hcs, htake⟩
  · have hx : xs = [] := by simpa using hlen
    subst hx
    have hrun := Lib.run_append_nil_zeros (P := P) w t tn ty e i z kq kn ht htn hi hz m hm (by omega) (by omega) (by rw [hby]; omega)
    refine ⟨_, _, hrun, ⟨by simp, .inr ⟨w.heap.size, _, _, by rw [Nat.zero_add], Nat.zero_le _, heap_alloc_new w.drew _, by rw [Nat.zero_add]; exact grownCap_ge _ _ _ _, hcapm _ _ _ (by omega), ?_, ?_⟩⟩, ⟨rfl, rfl, rfl, ?_, fun k hk _ => ?_⟩, ?_⟩
    · rw [zeroCells_one _ _ hzc, zeroCells_one _ _ hzc]
      have := grownCap_ge w m 0 e
      simp; omega
    · rw [zeroCells_one _ _ hzc, zeroCells_one _ _ hzc]
      simp [Nat.min_eq_left]
    · show w.heap.size ≤ (w.drew.alloc _).heap.size; simp
    · exact Below.heap_alloc w.drew _ k hk
    · intro k hk
      simp [Value.ownBlock] at hk
      subst hk
      exact .inr ⟨Nat.le_refl _, by show w.heap.size < (w.drew.alloc _).heap.size; simp⟩
  · by_cases hroom : n + m ≤ cap
    · have hst := run_storeCells_at P g (n * i.size) e (List.replicate m z) 0 cur w hg (by rw [hs]; simp; omega) (by intro u hu; rw [List.eq_of_mem_replicate hu]; exact h1)
      simp only [Nat.add_zero] at hst
      have hw : IntKind.i64.wrap (m : Int) = m := by rw [IntKind.wrap_i64]; omega
      have h48i : ¬ (281474976710656 < (m : Int) * (i.bytes : Int)) := by rw [hby]; omega
      have hneg : ¬ ((m : Int) < 0) := by omega
      have hns : ¬ (m * i.size = 0) := by rw [hs]; omega
      have hzz := zeroCells_one z m hzc
      refine ⟨.slice (some ⟨g, 0, none⟩) (n + m) cap, w.setRow g (cur.toList.take (n * i.size) ++ List.replicate m z ++ cur.toList.drop (n * i.size + (List.replicate m z).length)).toArray, ?_, ⟨?_, .inr ⟨g, cap, (cur.toList.take (n * i.size) ++ List.replicate m z ++ cur.toList.drop (n * i.size + (List.replicate m z).length)).toArray, rfl, Nat.zero_le _, ?_, hroom, hcm, ?_, ?_⟩⟩, ⟨rfl, rfl, rfl, ?_, fun k hk hne => ?_⟩, fun k hk => .inl hk⟩
      · simp [Builtin.append_, run_underlying ht, run_underlying htn, sizeOf, typeInfo, zeroValue, hi, hz, asInt, asIntOf, hw, hneg, hns, h48i, hroom, Addr.add_lit, hzz, hst]
      · simp [hlen]
      · simp [World.setRow, Array.getElem?_modify, hg]
      · simp [hs, hcs]; omega
      · rw [hs]
        simp only [Nat.mul_one] at htake ⊢
        rw [List.toList_toArray, htake]
        exact List.take_left' (by simp [hlen])
      · simp [World.setRow]
      · simp only [World.setRow, Array.getElem?_modify]
        rw [if_neg (by simpa [Value.ownBlock] using (fun e => hne (by rw [e]; rfl)))]
    · have hfc : (Builtin.firstCells i.size n (.slice (some ⟨g, 0, none⟩) n cap)).run P w.drew = .ok xs.toArray w.drew := by
        rw [hs]
        refine run_firstCells_some (P := P) w.drew 1 n ⟨g, 0, none⟩ n cap xs (by simpa using hlen) ?_
        exact World.ownsRow.cells (w := w.drew) (base := 0) (e := e) (size := 1) (n := n) (v := .slice (some ⟨g, 0, none⟩) n cap) ⟨hlen, .inr ⟨g, cap, cur, rfl, Nat.zero_le _, hg, hc, hcm, hcs, htake⟩⟩ rfl
      have hrun := Lib.run_append_grow_zeros (P := P) w t tn ty e i z kq kn ht htn hi hz (some ⟨g, 0, none⟩) n cap xs hfc m hm (by omega) (by omega) (by omega) (by rw [hby]; omega) (by rw [hby]; have := nextslicecap_le (need := n + m) (old := cap) (by omega); omega)
      have hge := grownCap_ge w (n + m) cap e
      refine ⟨_, _, hrun, ⟨by simp [hlen], .inr ⟨w.heap.size, _, _, rfl, Nat.zero_le _, heap_alloc_new w.drew _, hge, hcapm _ _ _ (by omega), ?_, ?_⟩⟩, ⟨rfl, rfl, rfl, ?_, fun k hk _ => ?_⟩, ?_⟩
      · rw [zeroCells_one _ _ hzc, zeroCells_one _ _ hzc]
        simp [hlen]; omega
      · rw [zeroCells_one _ _ hzc, zeroCells_one _ _ hzc]
        simp only [Nat.mul_one, Array.toList_append]
        exact List.take_left' (by simp [hlen])
      · show w.heap.size ≤ (w.drew.alloc _).heap.size; simp
      · exact Below.heap_alloc w.drew _ k hk
      · intro k hk
        simp [Value.ownBlock] at hk
        subst hk
        exact .inr ⟨Nat.le_refl _, by show w.heap.size < (w.drew.alloc _).heap.size; simp⟩
/-- 'append(v, x...)', and where what it answers lies -/
theorem append_at {P : Program} (w : World) (t ty e : TypeId) (i : TypeInfo) (z : Value) (size bytes : Nat) (ht : P.underlying t = some (.slice e)) (hi : P.info? e = some i) (hz : i.zero = some z) (hsize : i.size = size) (hby : i.bytes = bytes) (hzs : z.cells.size = size) (hsz : 0 < size)
    (v : Value) (n : Nat) (xs : List Value) (hown : w.ownsRow 0 e size v n xs) (a : Addr) (m c : Nat) (news : List Value) (hl : news.length = m * size) (hnews : ∀ j u, news[j]? = some u → w.cell? (a.add j) = some u) (h1 : ∀ u ∈ news, u.oneCell' = true)
    (hm : 0 < m) (hb40 : bytes ≤ 64) (hnm : n + m ≤ 1000000000000) :
    ∃ v' w', (Builtin.append_ #[t, t] ty #[v, .slice (some a) m c]).run P w = .ok v' w' ∧ w'.ownsRow 0 e size v' (n + m) (xs ++ news) ∧ w.grownBy w' v.ownBlock ∧ (∀ k, v'.ownBlock = some k → v.ownBlock = some k ∨ (w.heap.size ≤ k ∧ k < w'.heap.size)) := by
  have hbig : (n + m) * bytes ≤ 140737488355328 := by
    have := Nat.mul_le_mul hnm hb40
    omega
  obtain ⟨v', w', hrun, ho, hg, _⟩ := run_append_own w 0 t ty e i z size bytes ht hi hz hsize hby hzs hsz v n xs hown a m c news hl hnews h1 (by unfold maxLen; omega) hbig (Nat.zero_le _)
  refine ⟨v', w', hrun, ho, hg, fun k hk => ?_⟩
  have hklt := (ho.lt k hk).2
  have hown' := hown
  obtain ⟨hlen, hrow⟩ := hown
  rcases hrow with ⟨rfl, rfl⟩ | ⟨g, cap, cur, rfl, _, hgg, hc, hcm, hcs, htake⟩
  · have hx : xs = [] := by simpa using hlen
    subst hx
    obtain ⟨v2, w2, hrun2, ho2, _, _⟩ := run_append_own w w.heap.size t ty e i z size bytes ht hi hz hsize hby hzs hsz (.slice none 0 0) 0 [] (World.ownsRow_nil _ _ _ _) a m c news hl hnews h1 (by unfold maxLen; omega) hbig (Nat.le_refl _)
    rw [hrun] at hrun2
    cases hrun2
    exact .inr ⟨(ho2.lt k hk).1, hklt⟩
  · by_cases hroom : n + m ≤ cap
    · have hr := run_append_room (P := P) w t ty e i ht hi g n cap cur hgg a m c news (by rw [hsize]; exact hl) hnews h1 hroom (by
        rw [hsize, hl, hcs, ← Nat.add_mul]; exact Nat.mul_le_mul_right _ hroom)
      rw [hrun] at hr
      cases hr
      exact .inl hk
    · have hfc : (Builtin.firstCells i.size n (.slice (some ⟨g, 0, none⟩) n cap)).run P w.drew = .ok xs.toArray w.drew := by
        rw [hsize]
        exact run_firstCells_some (P := P) w.drew size n ⟨g, 0, none⟩ n cap xs hlen (World.ownsRow.cells (w := w.drew) (base := 0) (e := e) (size := size) (n := n) (v := .slice (some ⟨g, 0, none⟩) n cap) hown' rfl)
      have hr := run_append_grow_src (P := P) w t t ty e i z ht hi hz (some ⟨g, 0, none⟩) n cap xs hfc (.slice (some a) m c) m news (Src.ofSlice w ht a m c news (by rw [hsize]; exact hl) hnews h1) (by omega) (by omega) (by rw [hby]; exact growslice_fits (by omega) hbig)
      rw [hrun] at hr
      cases hr
      simp [Value.ownBlock] at hk
      subst hk
      exact .inr ⟨Nat.le_refl _, hklt⟩
theorem own_ne {W : World} {e : TypeId} {size : Nat} {v : Value} {n : Nat} {xs : List Value} (h : W.ownsRow 0 e size v n xs) {b : Nat} {c : Array Value} {t : TypeId} (hb : W.heap[b]? = some (.cells c t (0, 0))) (hne : e ≠ t) : some b ≠ v.ownBlock := by
  rcases h.2 with ⟨rfl, _⟩ | ⟨g, cap, cur, rfl, _, hg, _⟩
  · simp [Value.ownBlock]
  · simp only [Value.ownBlock]
    intro e1
    cases e1
    rw [hb] at hg
    simp at hg
    exact hne hg.2.symm
theorem own_apart {W : World} {e e' : TypeId} {size size' : Nat} {v v' : Value} {n n' : Nat} {xs xs' : List Value} (h : W.ownsRow 0 e size v n xs) (h' : W.ownsRow 0 e' size' v' n' xs') (hne : e ≠ e') : v.ownBlock = none ∨ v.ownBlock ≠ v'.ownBlock := by
  rcases h.2 with ⟨rfl, _⟩ | ⟨g, cap, cur, rfl, _, hg, _⟩
  · exact .inl rfl
  · right
    simp only [Value.ownBlock]
    exact own_ne h' hg (fun e => hne e.symm)
section
variable {W W4 : World} {sb : Nat} {vr vb vf v2 : Value} {s : Sto}
/-- the row has been appended to -/
theorem Lay.regrow_row (h : Lay W sb vr vb vf s) (hg : W.grownBy W4 vr.ownBlock) {row' : List Nat} (ho : W4.ownsRow 0 5 1 v2 row'.length (row'.map byteV)) : Lay (W4.setCell ⟨sb, 0, none⟩ v2) sb v2 vb vf { s with row := row' } := by
  have h4 : W4.heap[sb]? = some (.cells (s.obj vr vb vf).toArray 69 (0, 0)) := (hg.block sb (Array.getElem?_eq_some_iff.1 h.obj).1 (own_ne h.row h.obj (by decide))).trans h.obj
  exact ⟨heap_set h4 0 v2, own_other ho h4 (by decide) _ _, own_other (h.blk.kept hg (own_apart h.blk h.row (by decide))) h4 (by decide) _ _, own_other (h.free.kept hg (own_apart h.free h.row (by decide))) h4 (by decide) _ _⟩
/-- the table has been appended to -/
theorem Lay.regrow_blk (h : Lay W sb vr vb vf s) (hg : W.grownBy W4 vb.ownBlock) {blks' : List Blk} (ho : W4.ownsRow 0 64 5 v2 blks'.length (flat blks')) : Lay (W4.setCell ⟨sb, 6, none⟩ v2) sb vr v2 vf { s with blks := blks' } := by
  have h4 : W4.heap[sb]? = some (.cells (s.obj vr vb vf).toArray 69 (0, 0)) := (hg.block sb (Array.getElem?_eq_some_iff.1 h.obj).1 (own_ne h.blk h.obj (by decide))).trans h.obj
  exact ⟨heap_set h4 6 v2, own_other (h.row.kept hg (own_apart h.row h.blk (by decide))) h4 (by decide) _ _, own_other ho h4 (by decide) _ _, own_other (h.free.kept hg (own_apart h.free h.blk (by decide))) h4 (by decide) _ _⟩
/-- the heap of Ids has been appended to -/
theorem Lay.regrow_free (h : Lay W sb vr vb vf s) (hg : W.grownBy W4 vf.ownBlock) {free' : List Int} (ho : W4.ownsRow 0 3 1 v2 free'.length (free'.map (.int .i64))) : Lay (W4.setCell ⟨sb, 7, none⟩ v2) sb vr vb v2 { s with free := free' } := by
  have h4 : W4.heap[sb]? = some (.cells (s.obj vr vb vf).toArray 69 (0, 0)) := (hg.block sb (Array.getElem?_eq_some_iff.1 h.obj).1 (own_ne h.free h.obj (by decide))).trans h.obj
  exact ⟨heap_set h4 7 v2, own_other (h.row.kept hg (own_apart h.row h.free (by decide))) h4 (by decide) _ _, own_other (h.blk.kept hg (own_apart h.blk h.free (by decide))) h4 (by decide) _ _, own_other ho h4 (by decide) _ _⟩
end
end Go.Proofs.YtgkakflnmpoadaaGreatDoor.W
/- Package store: has, part. -/
namespace Go.Proofs.YtgkakflnmpoadaaGreatDoor.W
open Go.ChangeShapes Go.WideShapes Go.RowKit
set_option linter.unusedVariables false

/-- the extent of an Id -/
def Sto.ext (s : Sto) (id : Int) : Option Blk := if id < 0 then none else match s.blks[id.toNat]? with | some b => if b.live = true then some b else none | none => none
theorem ext_some {s : Sto} {id : Int} {b : Blk} (h : s.ext id = some b) : ∃ k : Nat, id = k ∧ s.blks[k]? = some b ∧ b.live = true := by
  unfold Sto.ext at h
  split at h
  · cases h
  · split at h
    · split at h
      · cases h
        exact ⟨id.toNat, by omega, by assumption, by assumption⟩
      · cases h
    · cases h
section
variable {W : World} {sb : Nat} {vr vb vf : Value} {s : Sto}
theorem has_c (h : Lay W sb vr vb vf s) (hlen : s.blks.length ≤ 1000000000) (id : Int) :
    Calls Tryz.prog 208 #[.pointer (some ⟨sb, 0, none⟩), .int .i64 id] W fun e w' => e = .returned (.bool (s.ext id).isSome) ∧ w' = W := by
  by_cases h0 : id < 0
  · have e : Hid ((s.ext id).isSome = false) := by unfold Sto.ext; rw [if_pos h0]; exact hid rfl
    go_enter Tryz.func208, Tryz.ntmps208
    go_wp2
    go_ret
    exact ⟨by rw [e.out]; rfl, rfl⟩
  · obtain ⟨k, rfl⟩ := Int.eq_ofNat_of_zero_le (by omega : 0 ≤ id)
    by_cases h1 : k < s.blks.length
    · obtain ⟨b, hb⟩ : ∃ b, s.blks[k]? = some b := ⟨_, List.getElem?_eq_getElem h1⟩
      have e : Hid ((s.ext k).isSome = b.live) := by
        unfold Sto.ext
        rw [if_neg h0]
        simp only [Int.toNat_natCast, hb]
        cases b.live <;> exact hid rfl
      have hg : s.get (k + 1) = some b := by unfold Sto.get; rw [if_neg (by omega)]; exact hb
      obtain ⟨g, cap, rfl, _⟩ := own_slice h.blk (Nat.lt_of_le_of_lt (Nat.zero_le _) h1)
      obtain ⟨b0, _, _, _, _⟩ := bcells h hg (.inr ⟨by omega, rfl, rfl⟩)
      simp only [Nat.add_sub_cancel] at b0
      have c6 := h.cell 6
      simp [Sto.obj] at c6
      have h0' : (0 : Int) ≤ k := by omega
      have h1' : (k : Int) < s.blks.length := by omega
      clear hb hg
      go_enter Tryz.func208, Tryz.ntmps208
      go_wp2
      go_ret
      exact ⟨by rw [e.out]; rfl, rfl⟩
    · have e : Hid ((s.ext k).isSome = false) := by
        unfold Sto.ext
        rw [if_neg h0]
        simp only [Int.toNat_natCast, List.getElem?_eq_none (by omega : s.blks.length ≤ k)]
        exact hid rfl
      have c6 := h.cell 6
      have h1' : ¬ (k : Int) < s.blks.length := by omega
      have hb : ∃ o cap, vb = .slice o s.blks.length cap := by
        rcases h.blk.2 with ⟨rfl, e⟩ | ⟨g, cap, cur, rfl, _⟩
        · exact ⟨_, _, by rw [e]⟩
        · exact ⟨_, _, rfl⟩
      obtain ⟨o, cap, rfl⟩ := hb
      simp [Sto.obj] at c6
      go_enter Tryz.func208, Tryz.ntmps208
      go_wp2
      go_ret
      exact ⟨by rw [e.out]; rfl, rfl⟩
theorem tmod_eq (off w : Int) (h : off % w = 0) : (off.tmod w != 0) = false := by
  simp
  exact Int.tmod_eq_zero_of_dvd (Int.dvd_of_emod_eq_zero h)
theorem ret_part {a : Option Addr} {n m c : Nat} {v : Value} (h : n = m) : Ending.returned (.tuple #[.slice a n c, v]) = .returned (.tuple #[.slice a m c, v]) := by rw [h]
theorem part_ok (h : Lay W sb vr vb vf s) (f : Fit s) (id width : Int) (b : Blk) (hx : s.ext id = some b) (hw : width = 1 ∨ width = 2 ∨ width = 4 ∨ width = 8) (o p : Nat) (hp : b.pos = p) (ha : (o : Int) % width = 0) (ho : o + width ≤ b.len) (g cap : Nat) (hr : vr = .slice (some ⟨g, 0, none⟩) s.row.length cap) (hcap : s.row.length ≤ cap) (hin : b.pos + b.len ≤ s.row.length) :
    Calls Tryz.prog 244 #[.pointer (some ⟨sb, 0, none⟩), .int .i64 id, .int .i64 o, .int .i64 width] W fun e w' => e = .returned (.tuple #[.slice (some ⟨g, p + o, none⟩) width.toNat (cap - (p + o)), .int .i64 0]) ∧ Below W.heap.size W w' := by
  subst hr
  have ch := has_c h f.len id
  simp only [hx, Option.isSome_some] at ch
  have ht := tmod_eq o width ha
  obtain ⟨k, rfl, hb, hl⟩ := ext_some hx
  have h1 := (List.getElem?_eq_some_iff.1 hb).1
  have hg : s.get (k + 1) = some b := by unfold Sto.get; rw [if_neg (by omega)]; exact hb
  obtain ⟨f1, f2, f3, f4⟩ := f.blk _ b hg
  obtain ⟨g2, cap2, rfl, _⟩ := own_slice h.blk (Nat.lt_of_le_of_lt (Nat.zero_le _) h1)
  obtain ⟨b0, b1, b2, b3, b4⟩ := bcells h hg (.inr ⟨by omega, rfl, rfl⟩)
  simp only [Nat.add_sub_cancel] at b0 b1 b2 b3 b4
  have c6 := h.cell 6
  have c0 := h.cell 0
  simp [Sto.obj] at c6 c0
  have h0' : (0 : Int) ≤ k := by omega
  have h1' : (k : Int) < s.blks.length := by omega
  have fr := f.row
  rw [hp] at b1 f1 f2 hin
  have lt : sb < W.heap.size := (Array.getElem?_eq_some_iff.1 h.obj).1
  have ca : ∀ o, (W.alloc o).cell? ⟨sb, 0, none⟩ = some (.slice (some ⟨g, 0, none⟩) s.row.length cap) := fun o => (World.cell?_of_block (Below.heap_alloc W o sb lt)).trans c0
  have hlo : (0 : Int) ≤ p + o := by omega
  have hhi : (p : Int) + o + width ≤ cap := by omega
  clear hg hb hx
  rcases hw with rfl | rfl | rfl | rfl <;> (
    go_enter Tryz.func244, Tryz.ntmps244
    go_wp2_with (go_at_call 208; (with_reducible refine ch.mono ?_); rintro e w' ⟨rfl, hw⟩; (have hw' := hw.symm); subst hw'; clear hw)
    go_ret2
    refine ⟨?_, (Below.refl _ _).alloc (Nat.le_refl _) _⟩
    first | exact ret_part (show p + o + 1 - (p + o) = Int.toNat 1 by omega) | exact ret_part (show p + o + 2 - (p + o) = Int.toNat 2 by omega) | exact ret_part (show p + o + 4 - (p + o) = Int.toNat 4 by omega) | exact ret_part (show p + o + 8 - (p + o) = Int.toNat 8 by omega))
end
end Go.Proofs.YtgkakflnmpoadaaGreatDoor.W
/- Package store: Load, Save. -/
namespace Go.Proofs.YtgkakflnmpoadaaGreatDoor.W
open Go.ChangeShapes Go.WideShapes Go.RowKit
set_option linter.unusedVariables false

/-- the number of a row of bytes, the lowest first -/
def leN : List Nat → Nat
  | [] => 0
  | b :: r => b + 256 * leN r
theorem leN_snoc (l : List Nat) (b : Nat) : leN (l ++ [b]) = leN l + b * 256 ^ l.length := by
  induction l with
  | nil => simp [leN]
  | cons c r ih =>
    simp only [List.cons_append, leN, ih, List.length_cons, Nat.pow_succ]
    have e : b * (256 ^ r.length * 256) = 256 * (b * 256 ^ r.length) := by rw [← Nat.mul_assoc, Nat.mul_comm]
    rw [e, Nat.mul_add]; omega
theorem leN_lt (l : List Nat) (h : ∀ n ∈ l, n < 256) : leN l < 256 ^ l.length := by
  induction l with
  | nil => simp [leN]
  | cons c r ih =>
    have h1 := h c (by simp)
    have h2 := ih (fun n hn => h n (by simp [hn]))
    simp only [leN, List.length_cons, Nat.pow_succ]
    omega
theorem pow8' (k : Nat) : 2 ^ (8 * k) = 256 ^ k := by rw [Nat.pow_mul]
theorem pow_le8 (k : Nat) (h : k ≤ 8) : 256 ^ k ≤ 18446744073709551616 := by
  have := Nat.pow_le_pow_right (n := 256) (by decide) h
  have e : 256 ^ 8 = 18446744073709551616 := by decide
  omega
theorem or_byte8 (k b e : Nat) (hk : k < 8) (he : e < 256 ^ k) (hb : b < 256) :
    bits .or .u64 (e : Int) (IntKind.u64.wrap (IntKind.u64.wrap (b : Int) * 2 ^ (8 * k))) = ((e + b * 256 ^ k : Nat) : Int) := by
  have e1 : IntKind.u64.wrap (b : Int) = b := by rw [IntKind.wrap_u64]; omega
  have hp := pow_le8 (k + 1) (by omega)
  rw [Nat.pow_succ] at hp
  have hbk : b * 256 ^ k ≤ 255 * 256 ^ k := Nat.mul_le_mul_right _ (by omega)
  have e2 : (b : Int) * 2 ^ (8 * k) = ((b * 256 ^ k : Nat) : Int) := by rw [← pow8']; simp
  have e3 : IntKind.u64.wrap ((b * 256 ^ k : Nat) : Int) = ((b * 256 ^ k : Nat) : Int) := by rw [IntKind.wrap_u64]; exact Int.emod_eq_of_lt (Int.natCast_nonneg _) (by omega)
  rw [e1, e2, e3, u64_or_nat _ _ (by omega) (by omega)]
  have j2 : e ||| b * 256 ^ k = b * 256 ^ k + e := by
    rw [Nat.or_comm, ← pow8']
    exact nat_join (8 * k) _ _ (Nat.mul_mod_left _ _) (by rw [pow8']; exact he)
  rw [j2]
  omega
section
variable {W : World} {sb : Nat} {vr vb vf : Value} {s : Sto}
/-- the bytes of an extent from one on -/
def seg (row : List Nat) (at' n : Nat) : List Nat := (row.drop at').take n
theorem seg_len (row : List Nat) (a n : Nat) (h : a + n ≤ row.length) : (seg row a n).length = n := by simp [seg]; omega
theorem seg_get (row : List Nat) (a n k : Nat) (hk : k < n) : (seg row a n)[k]? = row[a + k]? := by simp [seg, hk]
theorem rcell (h : Lay W sb vr vb vf s) {g cap : Nat} (hr : vr = .slice (some ⟨g, 0, none⟩) s.row.length cap) (j : Nat) (hj : j < s.row.length) : W.cell? ⟨g, j, none⟩ = some (.int .u8 (s.row[j] : Nat)) := by
  subst hr
  rw [h.row.cellAt j (by omega)]
  simp [byteV, hj]
set_option maxHeartbeats 1000000 in
theorem load_core (g p n : Nat) (seg : List Nat) (hn : seg.length = n) (h8 : n ≤ 8) (hb : ∀ x ∈ seg, x < 256) (a0 a1 a2 a3 : Value) (c : Nat)
    (hc : ∀ W' : World, Below W.heap.size W W' → ∀ k (hk : k < seg.length), W'.cell? ⟨g, p + k, none⟩ = some (.int .u8 (seg[k] : Nat)))
    (cp : Calls Tryz.prog 244 #[a0, a1, a2, a3] W fun e w' => e = .returned (.tuple #[.slice (some ⟨g, p, none⟩) n c, .int .i64 0]) ∧ Below W.heap.size W w') :
    Calls Tryz.prog 187 #[a0, a1, a2, a3] W fun e w' => e = .returned (.tuple #[.int .u64 (leN seg), .int .i64 0]) ∧ Below W.heap.size W w' := by
  go_enter Tryz.func187, Tryz.ntmps187
  go_wp2_with (go_at_call 244; (with_reducible refine cp.mono ?_); rintro e w' ⟨rfl, hB⟩)
  have hc' := hc w' hB
  clear hc cp
  go_loop [12, 28] (fun x i => ∃ k : Nat, k ≤ n ∧ i = .int .i64 k ∧ x = .int .u64 (leN (seg.take k))) (fun _ i => n - (intOf i).toNat)
  case atStart => exact ⟨0, Nat.zero_le _, rfl, by simp [leN]⟩
  case round =>
    obtain ⟨k, hk, rfl, rfl⟩ := hrel
    by_cases hlt : k < n
    · have hs : k < seg.length := by omega
      have hx := hc' k hs
      have st : Hid (bits .or .u64 (leN (seg.take k) : Int) (IntKind.u64.wrap (IntKind.u64.wrap ((seg[k] : Nat) : Int) * 2 ^ (8 * k))) = (leN (seg.take (k + 1)) : Int)) := by
        have l1 : (seg.take k).length = k := by simp; omega
        rw [List.take_succ_eq_append_getElem hs, leN_snoc, l1]
        refine hid (or_byte8 k _ _ (by omega) ?_ (hb _ (List.getElem_mem _)))
        have := leN_lt (seg.take k) (fun x hx => hb x (List.mem_of_mem_take hx))
        rwa [l1] at this
      clear hc'
      generalize seg[k] = y at *
      go_wp2
      go_round
      case rel => exact ⟨k + 1, hlt, by go_num, by rw [← st.out]⟩
      case measure => simp [intOf]; omega
    · have he : seg.take k = seg := List.take_of_length_le (by omega)
      rw [he]
      clear hc' he
      go_wp2
      go_ret2
      exact ⟨rfl, hB⟩
theorem load_ok (h : Lay W sb vr vb vf s) (f : Fit s) (id : Int) (wd : Nat) (b : Blk) (hx : s.ext id = some b) (hw : wd = 1 ∨ wd = 2 ∨ wd = 4 ∨ wd = 8) (o p : Nat) (hp : b.pos = p) (ha : (o : Int) % wd = 0) (ho : o + (wd : Int) ≤ b.len) (hin : b.pos + b.len ≤ s.row.length) :
    Calls Tryz.prog 187 #[.pointer (some ⟨sb, 0, none⟩), .int .i64 id, .int .i64 o, .int .i64 wd] W fun e w' => e = .returned (.tuple #[.int .u64 (leN (seg s.row (p + o) wd)), .int .i64 0]) ∧ Below W.heap.size W w' := by
  obtain ⟨g, cap, hr, hcap⟩ := own_slice h.row (by omega)
  have cp := part_ok h f id wd b hx (by omega) o p hp ha ho g cap hr hcap hin
  simp only [Int.toNat_natCast] at cp
  have hl := seg_len s.row (p + o) wd (by omega)
  refine load_core g (p + o) wd _ hl (by omega) (fun x hx => f.byte x (List.mem_of_mem_drop (List.mem_of_mem_take hx))) _ _ _ _ _ ?_ cp
  intro W' hB k hk
  have hr' := rcell h hr (p + o + k) (by omega)
  have lt : g < W.heap.size := by
    have := (h.row.lt g (by rw [hr]; rfl)).2
    exact this
  rw [hB.cell (by exact lt), hr']
  congr 2
  simp [seg]
/-- a row with the lowest k bytes of a number written from one on -/
def saved (row : List Nat) (p x : Nat) : Nat → List Nat
  | 0 => row
  | k + 1 => (saved row p x k).set (p + k) (x / 256 ^ k % 256)
theorem saved_len (row : List Nat) (p x k : Nat) : (saved row p x k).length = row.length := by
  induction k with
  | zero => rfl
  | succ k ih => simp [saved, ih]
theorem saved_get (row : List Nat) (p x k j : Nat) (h : p + k ≤ row.length) : (saved row p x k)[j]? = if p ≤ j ∧ j < p + k then some (x / 256 ^ (j - p) % 256) else row[j]? := by
  induction k with
  | zero => rw [if_neg (by omega)]; rfl
  | succ k ih =>
    simp only [saved, List.getElem?_set, saved_len]
    by_cases e : p + k = j
    · subst e
      rw [if_pos rfl, if_pos (by omega), if_pos (by omega)]
      congr 2; congr 2; omega
    · rw [if_neg e, ih (by omega)]
      by_cases g : p ≤ j ∧ j < p + k
      · rw [if_pos g, if_pos (by omega)]
      · rw [if_neg g, if_neg (by omega)]
theorem byte_of (x k : Nat) : (x : Int) / 2 ^ (8 * k) % 256 = ((x / 256 ^ k % 256 : Nat) : Int) := by
  rw [← pow8']
  simp
set_option maxHeartbeats 1000000 in
theorem save_core (g p n x : Nat) (hx : x < 18446744073709551616) (cap : Nat) (hr : vr = .slice (some ⟨g, 0, none⟩) s.row.length cap) (hin : p + n ≤ s.row.length) (h8 : n ≤ 8) (hlen : s.row.length ≤ 1000000000000) (a0 a1 a2 a3 : Value) (c : Nat) (h : Lay W sb vr vb vf s)
    (cp : Calls Tryz.prog 244 #[a0, a1, a2, a3] W fun e w' => e = .returned (.tuple #[.slice (some ⟨g, p, none⟩) n c, .int .i64 0]) ∧ Below W.heap.size W w') :
    Calls Tryz.prog 216 #[a0, a1, a2, a3, .int .u64 x] W fun e w' => e = .returned (.int .i64 0) ∧ Lay w' sb vr vb vf { s with row := saved s.row p x n } ∧ Upd (fun k => k = g) W w' := by
  go_enter Tryz.func216, Tryz.ntmps216
  go_wp2_with (go_at_call 244; (with_reducible refine cp.mono ?_); rintro e w' ⟨rfl, hB⟩)
  have hU : Upd (fun k => k = g) W w' := Upd.of_below hB
  have hL : Lay w' sb vr vb vf s := by
    have lt : ∀ {e : TypeId} {size : Nat} {v : Value} {n : Nat} {xs : List Value}, W.ownsRow 0 e size v n xs → ∀ k, v.ownBlock = some k → k < W.heap.size := fun h k e => (h.lt k e).2
    exact h.kept (hB.block _ (Array.getElem?_eq_some_iff.1 h.obj).1) (fun k e => hB.block _ (lt h.row k e)) (fun k e => hB.block _ (lt h.blk k e)) (fun k e => hB.block _ (lt h.free k e))
  clear hB cp h
  go_loopw [24] (fun i wr => ∃ k : Nat, k ≤ n ∧ i = .int .i64 k ∧ Lay wr sb vr vb vf { s with row := saved s.row p x k } ∧ Upd (fun k => k = g) W wr) (fun i _ => n - (intOf i).toNat)
  case atStart => exact ⟨0, Nat.zero_le _, rfl, hL, hU⟩
  case round =>
    obtain ⟨k, hk, rfl, hLr, hUr⟩ := hrel
    by_cases hlt : k < n
    · have hj : p + k < (saved s.row p x k).length := by rw [saved_len]; omega
      have hx1 := rcell hLr (g := g) (cap := cap) (by rw [hr]; simp [saved_len]) (p + k) hj
      have hx2 : wr.frozen? ⟨g, p + k, none⟩ = false := by
        have := hLr.row
        rw [hr] at this
        simp only [saved_len] at this
        exact this.frozenAt _
      have hst := hLr.rstore (g := g) (cap := cap) (by rw [hr]; simp [saved_len]) (p + k) (x / 256 ^ k % 256)
      have hsu := hUr.setCell (p := ⟨g, p + k, none⟩) (.inl rfl) (byteV (x / 256 ^ k % 256))
      have hby := hid (byte_of x k)
      generalize (saved s.row p x k)[p + k] = y at *
      clear hLr hUr hU hL
      go_wp2
      go_roundw
      case rel => exact ⟨k + 1, hlt, by go_num, by rw [hby.out]; exact hst, by rw [hby.out]; exact hsu⟩
      case measure => simp [intOf]; omega
    · have e : k = n := by omega
      rw [e] at hLr
      have HL := hid hLr
      have HU := hid hUr
      clear hLr hUr e hL hU
      go_wp2
      go_ret
      exact ⟨rfl, HL, HU⟩
theorem save_ok (h : Lay W sb vr vb vf s) (f : Fit s) (id : Int) (wd x : Nat) (hx64 : x < 18446744073709551616) (b : Blk) (hx : s.ext id = some b) (hw : wd = 1 ∨ wd = 2 ∨ wd = 4 ∨ wd = 8) (o p : Nat) (hp : b.pos = p) (ha : (o : Int) % wd = 0) (ho : o + (wd : Int) ≤ b.len) (hin : b.pos + b.len ≤ s.row.length) {S : Nat → Prop} (hS : Own S sb vr vb vf) :
    Calls Tryz.prog 216 #[.pointer (some ⟨sb, 0, none⟩), .int .i64 id, .int .i64 o, .int .i64 wd, .int .u64 x] W fun e w' => e = .returned (.int .i64 0) ∧ Lay w' sb vr vb vf { s with row := saved s.row (p + o) x wd } ∧ Upd S W w' := by
  obtain ⟨g, cap, hr, hcap⟩ := own_slice h.row (by omega)
  have cp := part_ok h f id wd b hx (by omega) o p hp ha ho g cap hr hcap hin
  simp only [Int.toNat_natCast] at cp
  refine (save_core g (p + o) wd x hx64 cap hr (by omega) (by omega) f.row _ _ _ _ _ h cp).mono ?_
  rintro e w' ⟨rfl, h1, h2⟩
  exact ⟨rfl, h1, h2.mono (by rintro k rfl; exact hS.row _ (by rw [hr]; rfl))⟩
end
end Go.Proofs.YtgkakflnmpoadaaGreatDoor.W
/- Package store: lay. -/
namespace Go.Proofs.YtgkakflnmpoadaaGreatDoor.W
open Go.ChangeShapes Go.WideShapes Go.RowKit Go.Shelf
set_option linter.unusedVariables false

/-- the row with a place for a new block, cleared -/
def longer (row : List Nat) (e : Nat) : List Nat := row ++ List.replicate (e - row.length) 0
def layRow (row : List Nat) (p u : Nat) : List Nat := setL (longer row (p + u)) p (List.replicate u 0)
/-- a new block has its place, behind bk -/
def Sto.laid (s : Sto) (n bk nx p u : Nat) : Sto := { ({ s.set n { s.getD n with pos := (p : Int) } with row := layRow s.row p u } : Sto).linked n bk nx with hand := n }
/-- what seek leaves -/
def SeekPost (S : Nat → Prop) (W : World) (sb : Nat) (vb vf : Value) (n : Nat) (bn : Blk) (G : Sto → Nat → Nat → Nat → Prop) (e : Ending) (w' : World) : Prop :=
  ∃ (s1 : Sto) (vr1 : Value) (bk nx p : Nat) (bb bx : Blk), e = .returned (.int .i64 bk) ∧ Upd S W w' ∧ Lay w' sb vr1 vb vf s1 ∧ Own (Nx S W w') sb vr1 vb vf ∧ Fit s1 ∧ s1.get n = some bn ∧ s1.get bk = some bb ∧ bb.next = nx ∧ s1.get nx = some bx ∧ bk ≠ n ∧ nx ≠ n ∧ bb.stop = p ∧ G s1 bk nx p
theorem info5 : (Tryz.prog.info? 5).map (fun i => (i.zero, i.size, i.bytes)) = some (some (.int .u8 0), 1, 1) := by kernel_rfl
theorem under57 : Tryz.prog.underlying 62 = some (.slice 5) := by kernel_rfl
theorem under3 : Tryz.prog.underlying 3 = some (.int .i64) := by kernel_rfl
theorem zero5 (w : World) : (zeroValue 5).run Tryz.prog w = .ok (.int .u8 0) w := by
  obtain ⟨i0, hi, hz0, hz1, hz2⟩ := info_parts info5
  simp [zeroValue, typeInfo, hi, hz0]
section
variable {W : World} {sb : Nat} {vr vb vf : Value} {s : Sto}
set_option maxRecDepth 20000 in
set_option maxHeartbeats 2000000 in
theorem lay_c (h : Lay W sb vr vb vf s) (hlen : s.blks.length ≤ 1000000000) (n u : Nat) (bn : Blk) (hn : s.get n = some bn) (hl0 : 0 < bn.len) (hl1 : bn.len ≤ 100000000) (hu : up8 bn.len = u) {S : Nat → Prop} (G : Sto → Nat → Nat → Nat → Prop)
    (cs : Calls Tryz.prog 260 #[.pointer (some ⟨sb, 0, none⟩), .int .i64 (u : Int)] W (SeekPost S W sb vb vf n bn G)) :
    Calls Tryz.prog 215 #[.pointer (some ⟨sb, 0, none⟩), .int .i64 n] W fun e w' => e = .returned (.tuple #[]) ∧ Upd S W w' ∧ ∃ s1 bk nx p, G s1 bk nx p ∧ ∃ vr2, Lay w' sb vr2 vb vf (s1.laid n bk nx p u) ∧ Own (Nx S W w') sb vr2 vb vf := by
  obtain ⟨Bn, On, pn⟩ := h.pt hn
  obtain ⟨_, _, c2, _, _⟩ := bcells h hn pn
  have cb := block_c W sb vr vb vf s h n bn hn hlen Bn On pn
  have cu := roundUp_c bn.len W (by omega) (by omega)
  rw [hu] at cu
  have hu8 : 8 ≤ u ∧ u ≤ 100000008 := by
    unfold up8 at hu
    omega
  obtain ⟨hu0, hu1⟩ := hu8
  go_enter Tryz.func215, Tryz.ntmps215
  go_upto_region 2 with (first | (go_at_call 257; (with_reducible refine cb.mono ?_); rintro e w' ⟨rfl, hw⟩; (have hw' := hw.symm); subst hw'; clear hw) | (go_at_call 211; (with_reducible refine cu.mono ?_); rintro e w' ⟨rfl, hw⟩; (have hw' := hw.symm); subst hw'; clear hw) | (go_at_call 260; (with_reducible refine cs.mono ?_); rintro e W1 ⟨s1, vr1, bk, nx, p, bb, bx, rfl, hU1, hL1, hO1, f1, hn1, hb1, hnx, hx1, ne1, ne2, hp, hG⟩; clear cb c2 cu cs))
  -- region 2: b.at = s.block(back).end()
  obtain ⟨Bb, Ob, pb⟩ := hL1.pt hb1
  obtain ⟨_, e1, e2, _, _⟩ := bcells hL1 hb1 pb
  obtain ⟨q1, q2, q3, q4⟩ := f1.blk bk bb hb1
  obtain ⟨st0, st1⟩ := stop_le f1 hb1
  have cb := block_c W1 sb vr1 vb vf s1 hL1 bk bb hb1 f1.len Bb Ob pb
  have ce := end_c W1 Bb Ob bb.pos bb.len e1 e2 q3 q4 q1 (by omega)
  have hpb : (p : Int) ≤ 1000200000000 := by omega
  rw [show bb.pos + up8 bb.len = (p : Int) from hp] at ce
  obtain ⟨_, d1, _, _, _⟩ := bcells hL1 hn1 pn
  have t1 := hL1.bthaw hn1 pn 1
  go_upto_region 3 with (first | (go_at_call 257; (with_reducible refine cb.mono ?_); rintro e w' ⟨rfl, hw⟩; (have hw' := hw.symm); subst hw'; clear hw) | (go_at_call 261; (with_reducible refine ce.mono ?_); rintro e w' ⟨rfl, m1, hw⟩; (have hw' := hw.symm); subst hw'; clear hw))
  have hL2 := (hL1.drewN m1).bstore (c := { bn with pos := (p : Int) }) hn1 pn 1 (by omega) (.int .i64 p) rfl
  have hU2 := (hU1.drewN m1).setCell (p := ⟨Bn, On + 1, none⟩) (hO1.pt pn) (.int .i64 p)
  have z2 : ((W1.drewN m1).setCell ⟨Bn, On + 1, none⟩ (.int .i64 p)).heap.size = W1.heap.size := by simp [World.setCell]
  clear cb ce d1 t1 e1 e2
  generalize World.setCell (World.drewN W1 m1) _ _ = W2 at *
  have hn2 : (s1.set n { bn with pos := (p : Int) }).get n = some { bn with pos := (p : Int) } := get_set_same hn1 _
  have hb2 : (s1.set n { bn with pos := (p : Int) }).get bk = some bb := by rw [get_set_ne _ ne1]; exact hb1
  have hx2 : (s1.set n { bn with pos := (p : Int) }).get nx = some bx := by rw [get_set_ne _ ne2]; exact hx1
  have hrow2 : (s1.set n { bn with pos := (p : Int) }).row = s1.row := set_row _ _ _
  have hlen2 : (s1.set n { bn with pos := (p : Int) }).blks.length ≤ 1000000000 := by rw [set_len]; exact f1.len
  have hlaid : ({ s1.set n { bn with pos := (p : Int) } with row := layRow s1.row p u } : Sto).linked n bk nx = ({ s1.set n { s1.getD n with pos := (p : Int) } with row := layRow s1.row p u } : Sto).linked n bk nx := by rw [getD_of hn1]
  have frow := f1.row
  have hO1' := hO1
  clear hL1 hU1 hO1 hb1 hx1 hn1 pb
  generalize s1.set n { bn with pos := (p : Int) } = s2 at *
  -- region 3: more := b.end() - len(s.row)
  obtain ⟨_, d1, d2, _, _⟩ := bcells hL2 hn2 pn
  have c0 := hL2.cell 0
  simp [Sto.obj] at c0
  have hvr : ∃ o cap, vr1 = .slice o s1.row.length cap := by
    rcases hL2.row.2 with ⟨e, e'⟩ | ⟨g, cap, cur, e, _⟩
    · exact ⟨none, 0, by rw [e, ← hrow2, e']⟩
    · exact ⟨_, _, by rw [← hrow2]; exact e⟩
  obtain ⟨ao, cap, hvr⟩ := hvr
  rw [hvr] at c0
  have ce := fun q => end_c (W2.drewN q) Bn On p bn.len d1 d2 (by omega) hl1 (by omega) (by omega)
  rw [hu] at ce
  go_quiet ((go_at_call 261; exact Calls.quiet_of (ce _)))
  replace hL2 := hL2.drewN nq
  replace hU2 := hU2.drewN nq
  replace z2 : (W2.drewN nq).heap.size = W1.heap.size := z2
  clear ce d1 d2 c0
  generalize World.drewN W2 nq = W3 at *
  have hO3 : Own (Nx S W W3) sb vr1 vb vf := hO1'.mono (fun k hk => hk.imp id (fun g => ⟨g.1, by omega⟩))
  by_cases hmore : s1.row.length < p + u
  · have hm1 : 0 < (p : Int) + u - s1.row.length := by omega
    have c0 := hL2.cell 0
    simp [Sto.obj] at c0
    rw [hvr] at c0
    have th0 := hL2.thaw 0
    obtain ⟨i0, hi, hz0, hz1, hz2⟩ := info_parts info5
    obtain ⟨m, hm⟩ : ∃ m : Nat, m = p + u - s1.row.length := ⟨_, rfl⟩
    have hmi : (p : Int) + u - s1.row.length = (m : Int) := by omega
    obtain ⟨vr2, W4, hrun, hown4, hgr4, hnew4⟩ := append_zeros (P := Tryz.prog) W3 62 3 62 5 i0 (.int .u8 0) .i64 .i64 under57 under3 hi hz0 hz1 hz2 rfl rfl vr1 s2.row.length _ hL2.row m (by omega) (by rw [hrow2]; omega)
    rw [hrow2] at hown4
    obtain ⟨g4, cap4, rfl, hcap4⟩ := own_slice hown4 (by omega)
    have hrow' : (longer s1.row (p + u)).length = s1.row.length + m := by simp only [longer, List.length_append, List.length_replicate]; omega
    have hL5 : Lay (W4.setCell ⟨sb, 0, none⟩ (.slice (some ⟨g4, 0, none⟩) (s1.row.length + m) cap4)) sb (.slice (some ⟨g4, 0, none⟩) (s1.row.length + m) cap4) vb vf { s2 with row := longer s1.row (p + u) } := by
      refine hL2.regrow_row hgr4 ?_
      rw [hrow']
      have e : (longer s1.row (p + u)).map byteV = s1.row.map byteV ++ List.replicate m (.int .u8 0) := by
        rw [longer, List.map_append, List.map_replicate, ← hm]; rfl
      rw [e]; exact hown4
    have hU4 := hU2.grown hgr4 (fun k e => hO3.row k e)
    have hU5 := hU4.setCell (p := ⟨sb, 0, none⟩) (hO3.sb.on hgr4.size) (.slice (some ⟨g4, 0, none⟩) (s1.row.length + m) cap4)
    rw [hvr] at hrun
    rw [hmi] at hm1 ⊢
    have hm0 : (0 : Int) < m := hm1
    have Hm := hid hm
    have Hmi := hid hmi
    have Hmore := hid hmore
    clear hm hmi hmore hm1
    have hob4 : W4.heap[sb]? = W3.heap[sb]? := hgr4.block sb (lay_lt hL2).1 (own_ne hL2.row hL2.obj (by decide))
    have th4 : W4.frozen? ⟨sb, 0, none⟩ = false := by rw [World.frozen?_of_block hob4]; exact th0
    have c4 : W4.cell? ⟨sb, 0, none⟩ = some (.slice ao s1.row.length cap) := by rw [World.cell?_of_block hob4]; exact c0
    go_upto_region 6 with (at_builtin; refine Lib.wpList_append_run _ rfl _ _ _ _ rfl _ _ rfl rfl _ _ hrun ?_)
    have hO5 : Own (Nx S W (W4.setCell ⟨sb, 0, none⟩ (.slice (some ⟨g4, 0, none⟩) (s1.row.length + m) cap4))) sb (.slice (some ⟨g4, 0, none⟩) (s1.row.length + m) cap4) vb vf := by
      have hs5 : W3.heap.size ≤ (W4.setCell ⟨sb, 0, none⟩ (.slice (some ⟨g4, 0, none⟩) (s1.row.length + m) cap4)).heap.size := by simpa [World.setCell] using hgr4.size
      have o5 := hO3.on hs5
      refine ⟨o5.sb, fun k e => ?_, o5.blk, o5.free⟩
      rcases hnew4 k e with g | ⟨g1, g2⟩
      · exact o5.row k g
      · exact .inr ⟨by have := hU2.size; omega, by simpa [World.setCell] using g2⟩
    clear hrun hown4 hgr4 hnew4 hL2 hU2 hO3 hU4 hob4 th4 c4 c0 th0 hi hz0 hz1 hz2
    have hlen5 : ({ s2 with row := longer s1.row (p + u) } : Sto).row.length = s1.row.length + m := hrow'
    have hle : p + u ≤ s1.row.length + m := by have := Hm.out; omega
    generalize World.setCell W4 _ _ = W5 at *
    generalize s1.row.length + m = len5 at *
    clear hlen5
    generalize hs5 : ({ s2 with row := longer s1.row (p + u) } : Sto) = s5 at hL5
    have hn5 : s5.get n = some { bn with pos := (p : Int) } := by rw [← hs5]; exact hn2
    have hb5 : s5.get bk = some bb := by rw [← hs5]; exact hb2
    have hx5 : s5.get nx = some bx := by rw [← hs5]; exact hx2
    have hl5 : s5.blks.length ≤ 1000000000 := by rw [← hs5]; exact hlen2
    have hr5 : s5.row.length = len5 := by rw [← hs5]; exact hrow'
    have hfin : Hid ({ ({ s5 with row := setL s5.row p (List.replicate u 0) } : Sto).linked n bk nx with hand := (n : Int) } = s1.laid n bk nx p u) := by
      rw [← hs5]; exact hid (by unfold Sto.laid; rw [← hlaid]; rfl)
    clear hn2 hb2 hx2 hlen2 hlaid hrow' hs5
    have c0 := hL5.cell 0
    simp [Sto.obj] at c0
    obtain ⟨_, d1, d2, _, _⟩ := bcells hL5 hn5 pn
    have gne : sb ≠ g4 := by
      have := own_ne hL5.row hL5.obj (by decide)
      simpa [Value.ownBlock] using this
    have bne : Bn ≠ g4 := by
      rcases pn with ⟨_, rfl, _⟩ | ⟨_, e, _⟩
      · exact gne
      · have := own_apart hL5.blk hL5.row (by decide)
        rw [e] at this
        simpa [Value.ownBlock] using this
    have ce := end_c W5.drew Bn On p bn.len d1 d2 (by omega) hl1 (by omega) (by omega)
    rw [hu] at ce
    have hcl : ∀ q ty, (Builtin.clear_ #[62] ty #[.slice (some ⟨g4, p, none⟩) u (cap4 - p)]).run Tryz.prog (W5.drewN q) = .ok (.tuple #[]) ((W5.drewN q).setCells g4 p (List.replicate u (.int .u8 0))) := fun q ty => Lib.run_clear_slice _ _ _ ty _ under57 zero5 rfl rfl g4 p u _ (by omega) (fun j hj => by
        have e := rcell hL5 (g := g4) (cap := cap4) (by rw [hr5]) (p + j) (by omega)
        have e' : (W5.drewN q).cell? ⟨g4, p + j, none⟩ = W5.cell? ⟨g4, p + j, none⟩ := rfl
        rw [e', e]; rfl) (fun j hj => by
        have e := hL5.row
        rw [hr5] at e
        have e' : (W5.drewN q).frozen? ⟨g4, p + j, none⟩ = W5.frozen? ⟨g4, p + j, none⟩ := rfl
        rw [e']; exact e.frozenAt _)
    have k0 : ∀ q, ((W5.drewN q).setCells g4 p (List.replicate u (.int .u8 0))).cell? ⟨sb, 0, none⟩ = some (.slice (some ⟨g4, 0, none⟩) len5 cap4) := fun q => (World.cell?_of_block (w := W5) (setCells_far (W5.drewN q) g4 p _ sb gne)).trans c0
    have k1 : ∀ q, ((W5.drewN q).setCells g4 p (List.replicate u (.int .u8 0))).cell? ⟨Bn, On + 1, none⟩ = some (.int .i64 p) := fun q => (World.cell?_of_block (w := W5) (setCells_far (W5.drewN q) g4 p _ Bn bne)).trans d1
    have k2 : ∀ q, ((W5.drewN q).setCells g4 p (List.replicate u (.int .u8 0))).cell? ⟨Bn, On + 2, none⟩ = some (.int .i64 bn.len) := fun q => (World.cell?_of_block (w := W5) (setCells_far (W5.drewN q) g4 p _ Bn bne)).trans d2
    have hcap' : (p : Int) + u ≤ cap4 := by omega
    have hsub : ((p : Int) + u).toNat - p = u := by omega
    have hp0 : (0 : Int) ≤ p := by omega
    have hpu : (p : Int) ≤ p + u := by omega
    have hnm : ¬ cap4 = p := by omega
    go_region_held3 (fun w' => w'.cell? ⟨sb, 0, none⟩ = some (.slice (some ⟨g4, 0, none⟩) len5 cap4) ∧ w'.cell? ⟨Bn, On + 1, none⟩ = some (.int .i64 p) ∧ w'.cell? ⟨Bn, On + 2, none⟩ = some (.int .i64 bn.len)) (first | exact ⟨c0, d1, d2⟩ | exact ⟨k0 _, k1 _, k2 _⟩) (first | (go_at_call 261; (with_reducible refine ce.mono ?_); rintro e w' ⟨rfl, m6, hw⟩; (have hw' := hw.symm); subst hw'; clear hw))
    have hL6 := (hL5.drewN (1 + m6)).rstores (g := g4) (cap := cap4) (by rw [hr5]) p (List.replicate u 0)
    rw [List.map_replicate, show byteV 0 = .int .u8 0 from rfl] at hL6
    have hU6 := (hU5.drewN (1 + m6)).setCells' (g := g4) (hO5.row g4 rfl) p (List.replicate u (.int .u8 0))
    have z6 := setCells_size (W5.drewN (1 + m6)) g4 p (List.replicate u (.int .u8 0))
    have hO6 : Own (Nx S W ((W5.drewN (1 + m6)).setCells g4 p (List.replicate u (.int .u8 0)))) sb (.slice (some ⟨g4, 0, none⟩) len5 cap4) vb vf := hO5.on (Nat.le_of_eq z6.symm)
    clear hL5 hU5 hO5 k0 k1 k2 c0 d1 d2 ce hcl z6
    generalize World.setCells (World.drewN W5 (1 + m6)) _ _ _ = W6 at *
    have cl := link_c hL6 (by exact hl5) n bk nx { bn with pos := (p : Int) } bb bx (by exact hn5) (by exact hb5) hnx (by exact hx5) ne1 ne2 hO6
    have HL : ∀ W7, Lay W7 sb (.slice (some ⟨g4, 0, none⟩) len5 cap4) vb vf (({ s5 with row := setL s5.row p (List.replicate u 0) } : Sto).linked n bk nx) → Upd (Nx S W W6) W6 W7 → W7.frozen? ⟨sb, 9, none⟩ = false ∧ (∃ v9, W7.cell? ⟨sb, 9, none⟩ = some v9) ∧ Hid (Lay (W7.setCell ⟨sb, 9, none⟩ (.int .i64 n)) sb (.slice (some ⟨g4, 0, none⟩) len5 cap4) vb vf (s1.laid n bk nx p u) ∧ Upd S W (W7.setCell ⟨sb, 9, none⟩ (.int .i64 n)) ∧ Own (Nx S W (W7.setCell ⟨sb, 9, none⟩ (.int .i64 n))) sb (.slice (some ⟨g4, 0, none⟩) len5 cap4) vb vf) := by
      intro W7 hL7 hU7
      refine ⟨hL7.thaw 9, ⟨_, hL7.cell 9⟩, ?_⟩
      have hU8 := hU6.trans hU7
      refine ⟨?_, hU8.setCell (p := ⟨sb, 9, none⟩) (hO6.sb.on hU7.size) _, hO6.on (by simpa [World.setCell] using hU7.size)⟩
      rw [← hfin.out]
      exact hL7.store 9 _ rfl rfl rfl rfl
    have HG := hid hG
    clear hL6 hU6 hO6 hfin hn5 hb5 hx5 hG
    go_wp2_with (go_at_call 262; (with_reducible refine cl.mono ?_); rintro e W7 ⟨rfl, hL7, hU7⟩; obtain ⟨th9, ⟨v9, c9⟩, HF⟩ := HL W7 hL7 hU7; clear HL hL7 hU7 cl)
    go_end0
    exact ⟨rfl, HF.out.2.1, s1, bk, nx, p, HG, _, HF.out.1, HF.out.2.2⟩
  · have hm1 : ¬ 0 < (p : Int) + u - s1.row.length := by omega
    obtain ⟨g4, cap4, hv4, hcap4⟩ := own_slice hL2.row (by rw [hrow2]; omega)
    rw [hrow2] at hv4 hcap4
    have hle : p + u ≤ s1.row.length := by omega
    have hlg : longer s1.row (p + u) = s1.row := by rw [longer, Nat.sub_eq_zero_of_le hle]; simp
    have hrow' : (longer s1.row (p + u)).length = s1.row.length := by rw [hlg]
    have hL5 : Lay W3 sb vr1 vb vf { s2 with row := longer s1.row (p + u) } := by rw [hlg, ← hrow2]; exact hL2
    have hU5 := hU2
    have hO5 := hO3
    rw [hvr] at hv4
    simp at hv4
    obtain ⟨rfl, rfl⟩ := hv4
    rw [hvr] at hL5 hO5
    clear hL2 hU2 hO3 hmore
    go_upto_region 6 with fail
    generalize hs5 : ({ s2 with row := longer s1.row (p + u) } : Sto) = s5 at hL5
    generalize W3 = W5 at *
    generalize s1.row.length = len5 at *
    have hn5 : s5.get n = some { bn with pos := (p : Int) } := by rw [← hs5]; exact hn2
    have hb5 : s5.get bk = some bb := by rw [← hs5]; exact hb2
    have hx5 : s5.get nx = some bx := by rw [← hs5]; exact hx2
    have hl5 : s5.blks.length ≤ 1000000000 := by rw [← hs5]; exact hlen2
    have hr5 : s5.row.length = len5 := by rw [← hs5]; exact hrow'
    have hfin : Hid ({ ({ s5 with row := setL s5.row p (List.replicate u 0) } : Sto).linked n bk nx with hand := (n : Int) } = s1.laid n bk nx p u) := by
      rw [← hs5]; exact hid (by unfold Sto.laid; rw [← hlaid]; rfl)
    clear hn2 hb2 hx2 hlen2 hlaid hrow' hs5
    have c0 := hL5.cell 0
    simp [Sto.obj] at c0
    obtain ⟨_, d1, d2, _, _⟩ := bcells hL5 hn5 pn
    have gne : sb ≠ g4 := by
      have := own_ne hL5.row hL5.obj (by decide)
      simpa [Value.ownBlock] using this
    have bne : Bn ≠ g4 := by
      rcases pn with ⟨_, rfl, _⟩ | ⟨_, e, _⟩
      · exact gne
      · have := own_apart hL5.blk hL5.row (by decide)
        rw [e] at this
        simpa [Value.ownBlock] using this
    have ce := end_c W5.drew Bn On p bn.len d1 d2 (by omega) hl1 (by omega) (by omega)
    rw [hu] at ce
    have hcl : ∀ q ty, (Builtin.clear_ #[62] ty #[.slice (some ⟨g4, p, none⟩) u (cap - p)]).run Tryz.prog (W5.drewN q) = .ok (.tuple #[]) ((W5.drewN q).setCells g4 p (List.replicate u (.int .u8 0))) := fun q ty => Lib.run_clear_slice _ _ _ ty _ under57 zero5 rfl rfl g4 p u _ (by omega) (fun j hj => by
        have e := rcell hL5 (g := g4) (cap := cap) (by rw [hr5]) (p + j) (by omega)
        have e' : (W5.drewN q).cell? ⟨g4, p + j, none⟩ = W5.cell? ⟨g4, p + j, none⟩ := rfl
        rw [e', e]; rfl) (fun j hj => by
        have e := hL5.row
        rw [hr5] at e
        have e' : (W5.drewN q).frozen? ⟨g4, p + j, none⟩ = W5.frozen? ⟨g4, p + j, none⟩ := rfl
        rw [e']; exact e.frozenAt _)
    have k0 : ∀ q, ((W5.drewN q).setCells g4 p (List.replicate u (.int .u8 0))).cell? ⟨sb, 0, none⟩ = some (.slice (some ⟨g4, 0, none⟩) len5 cap) := fun q => (World.cell?_of_block (w := W5) (setCells_far (W5.drewN q) g4 p _ sb gne)).trans c0
    have k1 : ∀ q, ((W5.drewN q).setCells g4 p (List.replicate u (.int .u8 0))).cell? ⟨Bn, On + 1, none⟩ = some (.int .i64 p) := fun q => (World.cell?_of_block (w := W5) (setCells_far (W5.drewN q) g4 p _ Bn bne)).trans d1
    have k2 : ∀ q, ((W5.drewN q).setCells g4 p (List.replicate u (.int .u8 0))).cell? ⟨Bn, On + 2, none⟩ = some (.int .i64 bn.len) := fun q => (World.cell?_of_block (w := W5) (setCells_far (W5.drewN q) g4 p _ Bn bne)).trans d2
    have hcap' : (p : Int) + u ≤ cap := by omega
    have hsub : ((p : Int) + u).toNat - p = u := by omega
    have hp0 : (0 : Int) ≤ p := by omega
    have hpu : (p : Int) ≤ p + u := by omega
    have hnm : ¬ cap = p := by omega
    go_region_held3 (fun w' => w'.cell? ⟨sb, 0, none⟩ = some (.slice (some ⟨g4, 0, none⟩) len5 cap) ∧ w'.cell? ⟨Bn, On + 1, none⟩ = some (.int .i64 p) ∧ w'.cell? ⟨Bn, On + 2, none⟩ = some (.int .i64 bn.len)) (first | exact ⟨c0, d1, d2⟩ | exact ⟨k0 _, k1 _, k2 _⟩) (first | (go_at_call 261; (with_reducible refine ce.mono ?_); rintro e w' ⟨rfl, m6, hw⟩; (have hw' := hw.symm); subst hw'; clear hw))
    have hL6 := (hL5.drewN (1 + m6)).rstores (g := g4) (cap := cap) (by rw [hr5]) p (List.replicate u 0)
    rw [List.map_replicate, show byteV 0 = .int .u8 0 from rfl] at hL6
    have hU6 := (hU5.drewN (1 + m6)).setCells' (g := g4) (hO5.row g4 rfl) p (List.replicate u (.int .u8 0))
    have z6 := setCells_size (W5.drewN (1 + m6)) g4 p (List.replicate u (.int .u8 0))
    have hO6 : Own (Nx S W ((W5.drewN (1 + m6)).setCells g4 p (List.replicate u (.int .u8 0)))) sb (.slice (some ⟨g4, 0, none⟩) len5 cap) vb vf := hO5.on (Nat.le_of_eq z6.symm)
    clear hL5 hU5 hO5 k0 k1 k2 c0 d1 d2 ce hcl z6
    generalize World.setCells (World.drewN W5 (1 + m6)) _ _ _ = W6 at *
    have cl := link_c hL6 (by exact hl5) n bk nx { bn with pos := (p : Int) } bb bx (by exact hn5) (by exact hb5) hnx (by exact hx5) ne1 ne2 hO6
    have HL : ∀ W7, Lay W7 sb (.slice (some ⟨g4, 0, none⟩) len5 cap) vb vf (({ s5 with row := setL s5.row p (List.replicate u 0) } : Sto).linked n bk nx) → Upd (Nx S W W6) W6 W7 → W7.frozen? ⟨sb, 9, none⟩ = false ∧ (∃ v9, W7.cell? ⟨sb, 9, none⟩ = some v9) ∧ Hid (Lay (W7.setCell ⟨sb, 9, none⟩ (.int .i64 n)) sb (.slice (some ⟨g4, 0, none⟩) len5 cap) vb vf (s1.laid n bk nx p u) ∧ Upd S W (W7.setCell ⟨sb, 9, none⟩ (.int .i64 n)) ∧ Own (Nx S W (W7.setCell ⟨sb, 9, none⟩ (.int .i64 n))) sb (.slice (some ⟨g4, 0, none⟩) len5 cap) vb vf) := by
      intro W7 hL7 hU7
      refine ⟨hL7.thaw 9, ⟨_, hL7.cell 9⟩, ?_⟩
      have hU8 := hU6.trans hU7
      refine ⟨?_, hU8.setCell (p := ⟨sb, 9, none⟩) (hO6.sb.on hU7.size) _, hO6.on (by simpa [World.setCell] using hU7.size)⟩
      rw [← hfin.out]
      exact hL7.store 9 _ rfl rfl rfl rfl
    have HG := hid hG
    clear hL6 hU6 hO6 hfin hn5 hb5 hx5 hG
    go_wp2_with (go_at_call 262; (with_reducible refine cl.mono ?_); rintro e W7 ⟨rfl, hL7, hU7⟩; obtain ⟨th9, ⟨v9, c9⟩, HF⟩ := HL W7 hL7 hU7; clear HL hL7 hU7 cl)
    go_end0
    exact ⟨rfl, HF.out.2.1, s1, bk, nx, p, HG, _, HF.out.1, HF.out.2.2⟩
end
end Go.Proofs.YtgkakflnmpoadaaGreatDoor.W
/- Package store: what Pack does, in plain words. -/
namespace Go.Proofs.YtgkakflnmpoadaaGreatDoor.W
open Go.ChangeShapes Go.WideShapes Go.RowKit Go.Shelf
set_option linter.unusedVariables false

/-- blocks of the ring in their order, the front first, and where each lies and will lie -/
structure Pk (s : Sto) (c : List Nat) (bl : Nat → Blk) (p l u en : Nat → Nat) : Prop where
  ne : 0 < c.length
  zero : c[0]? = some 0
  nodup : c.Nodup
  get : ∀ i n, c[i]? = some n → s.get n = some (bl i)
  next : ∀ i, i < c.length → (bl i).next = (c[i + 1]?.getD 0 : Nat)
  pos : ∀ i, i < c.length → (bl i).pos = p i
  len : ∀ i, i < c.length → (bl i).len = l i
  up : ∀ i, i < c.length → up8 (l i) = u i
  en0 : en 0 = 0
  en1 : ∀ i, i < c.length → en (i + 1) = en i + u i
  le : ∀ i, i < c.length → en i ≤ p i
  stop : ∀ i, i < c.length → p i + u i ≤ s.row.length
  first : p 0 = 0 ∧ l 0 = 0
  rest : ∀ i, 0 < i → i < c.length → 0 < l i
theorem Pk.lu {s : Sto} {c : List Nat} {bl : Nat → Blk} {p l u en : Nat → Nat} (k : Pk s c bl p l u en) {i : Nat} (hi : i < c.length) : l i ≤ u i ∧ u i ≤ l i + 7 := by
  have := k.up i hi
  unfold up8 at this
  omega
theorem Pk.end_le {s : Sto} {c : List Nat} {bl : Nat → Blk} {p l u en : Nat → Nat} (k : Pk s c bl p l u en) : en c.length ≤ s.row.length := by
  have h0 := k.ne
  obtain ⟨m, hm⟩ : ∃ m, c.length = m + 1 := ⟨c.length - 1, by omega⟩
  rw [hm, k.en1 m (by omega)]
  have h1 := k.le m (by omega)
  have h2 := k.stop m (by omega)
  omega
def packN (s : Sto) (c : List Nat) (bl : Nat → Blk) (p l en : Nat → Nat) : Nat → Sto
  | 0 => s
  | i + 1 => { (packN s c bl p l en i).set (c.getD i 0) { bl i with pos := en i } with row := setL (packN s c bl p l en i).row (en i) (seg (packN s c bl p l en i).row (p i) (l i)), hand := (c.getD i 0 : Nat) }
section
variable {s : Sto} {c : List Nat} {bl : Nat → Blk} {p l u en : Nat → Nat}
theorem packN_row (i : Nat) : (packN s c bl p l en i).row.length = s.row.length := by
  induction i with
  | zero => rfl
  | succ i ih => simp [packN, setL_len, ih]
theorem packN_blks (i : Nat) : (packN s c bl p l en i).blks.length = s.blks.length := by
  induction i with
  | zero => rfl
  | succ i ih => simp [packN, set_len, ih]
theorem packN_rest (i : Nat) : (packN s c bl p l en i).free = s.free ∧ (packN s c bl p l en i).used = s.used ∧ (packN s c bl p l en i).sought = s.sought := by
  induction i with
  | zero => exact ⟨rfl, rfl, rfl⟩
  | succ i ih => simp [packN, set_free, set_used, set_sought, ih]
theorem getD_get {i n : Nat} (h : c[i]? = some n) : c.getD i 0 = n := by simp [List.getD, h]
theorem packN_later (hd : c.Nodup) (i j n : Nat) (h : i ≤ j) (hn : c[j]? = some n) : (packN s c bl p l en i).get n = s.get n := by
  induction i with
  | zero => rfl
  | succ i ih =>
    have hj := (List.getElem?_eq_some_iff.1 hn).1
    have e : c[i]? = some c[i] := List.getElem?_eq_getElem (by omega)
    have hne : n ≠ c.getD i 0 := by
      rw [getD_get e]
      obtain ⟨_, e2⟩ := List.getElem?_eq_some_iff.1 hn
      rw [← e2]
      exact (List.pairwise_iff_getElem.1 hd i j (by omega) hj (by omega)).symm
    show (({ (packN s c bl p l en i).set (c.getD i 0) { bl i with pos := en i } with row := _, hand := _ } : Sto)).get n = _
    have : (({ (packN s c bl p l en i).set (c.getD i 0) { bl i with pos := en i } with row := setL (packN s c bl p l en i).row (en i) (seg (packN s c bl p l en i).row (p i) (l i)), hand := (c.getD i 0 : Nat) } : Sto)).get n = ((packN s c bl p l en i).set (c.getD i 0) { bl i with pos := en i }).get n := rfl
    rw [this, get_set_ne _ hne]
    exact ih (by omega)
theorem packN_earlier (k : Pk s c bl p l u en) (i j n : Nat) (h : j < i) (hi : i ≤ c.length) (hn : c[j]? = some n) : (packN s c bl p l en i).get n = some { bl j with pos := en j } := by
  induction i with
  | zero => omega
  | succ i ih =>
    have hj := (List.getElem?_eq_some_iff.1 hn).1
    have e : c[i]? = some c[i] := List.getElem?_eq_getElem (by omega)
    have this : (packN s c bl p l en (i + 1)).get n = ((packN s c bl p l en i).set (c.getD i 0) { bl i with pos := en i }).get n := rfl
    rw [this]
    by_cases hji : j = i
    · subst hji
      rw [getD_get hn]
      refine get_set_same (b := bl j) ?_ _
      rw [packN_later k.nodup j j n (Nat.le_refl _) hn]
      exact k.get j n hn
    · have hne : n ≠ c.getD i 0 := by
        rw [getD_get e]
        obtain ⟨_, e2⟩ := List.getElem?_eq_some_iff.1 hn
        rw [← e2]
        exact List.pairwise_iff_getElem.1 k.nodup j i hj (by omega) (by omega)
      rw [get_set_ne _ hne]
      exact ih (by omega) (by omega)
end
theorem own_take {W : World} {e : TypeId} {v : Value} {n m : Nat} {xs : List Value} {o : Option Addr} {cap : Nat} (h : W.ownsRow 0 e 1 v n xs) (hv : v = .slice o n cap) (hm : m ≤ n) : W.ownsRow 0 e 1 (.slice o m cap) m (xs.take m) := by
  subst hv
  obtain ⟨h1, h2⟩ := h
  refine ⟨by simp at h1 ⊢; omega, ?_⟩
  rcases h2 with ⟨e, rfl⟩ | ⟨g, cap', cur, e, hb, hg, hc, hcm, hs, ht⟩
  · cases e
    exact .inl ⟨by rw [show m = 0 by omega], by omega⟩
  · cases e
    refine .inr ⟨g, cap, cur, rfl, hb, hg, by omega, hcm, hs, ?_⟩
    rw [← ht, List.take_take]
    congr 1; omega
end Go.Proofs.YtgkakflnmpoadaaGreatDoor.W
/- A region that draws its order, in a round of a range over a function: as anywhere. -/
namespace Go.Proofs.YtgkakflnmpoadaaGreatDoor.W
open Go.ChangeShapes Go.WideShapes Go.RowKit Go.Shelf
set_option linter.unusedVariables false

theorem opIn_of_wp {P : Program} {L n : Nat} {o : Oper} {a : Act} {w : World} {K K' : Act → World → Prop} {Q : Exit → Act → World → Prop} (hd : ∀ c, o.op ≠ .defer c) (hK : ∀ a w, K a w → K' a w) (h : o.wp P a w K Q) : o.wpIn (Fence.wide.inRound L) n P a w K' Q := by
  refine ⟨fun _ _ => trivial, ?_⟩
  rw [Oper.semAt_eq _ _ _ hd]
  unfold Oper.wp at h
  generalize (execOp a.eval o).run P w = r at *
  cases r with
  | ok x w' =>
    cases x with
    | value v => exact hK _ _ h
    | skip => exact hK _ _ h
    | defer d => exact hK _ _ h
    | enter f args =>
      refine ⟨fun e => by simp [Fence.wide, Fence.inRound] at e, ?_⟩
      refine CallsIn.inRound L (callsIn_wide.2 (Calls.mono h ?_))
      intro e w'' he
      cases e with
      | returned v => exact hK _ _ he
      | panicked ch => exact he
      | outgrown => exact he
    | row row args =>
      refine ⟨fun e => by simp [Fence.wide, Fence.inRound] at e, ?_⟩
      intro c cs _
      obtain ⟨v, w'', hr, hs⟩ := h c cs
      exact ⟨v, w'', hK _ _ hr, stepsIn_wide.2 hs⟩
    | round l f tmps assign body => exact h.elim
    | _ => exact h.elim
  | halt x w' => cases x <;> first | exact h | exact h.elim
theorem opsIn_of_wp {P : Program} {L n : Nat} {ops : Array Oper} {i : Nat} {a : Act} {w : World} {K K' : Act → World → Prop} {Q : Exit → Act → World → Prop} (hd : ∀ (i : Nat) (o : Oper), ops[i]? = some o → ∀ c, o.op ≠ .defer c) (hno : ¬ LetsOut Q) (hK : ∀ a w, K a w → K' a w) (h : wpOp P ops Q i K a w) : wpOpIn (Fence.wide.inRound L) n P ops Q i K' a w := by
  unfold wpOp at h
  unfold wpOpIn
  cases ho : ops[i]? with
  | none => rw [ho] at h; exact hK _ _ h
  | some o =>
    rw [ho] at h
    simp only at h ⊢
    split
    · rename_i hw
      rw [if_pos hw] at h
      rcases h with h | h
      · exact opIn_of_wp (hd i o ho) hK h
      · exact absurd h.2 hno
    · rename_i hw
      rw [if_neg hw] at h
      exact ⟨fun _ _ => trivial, hK _ _ h⟩
theorem anyIn_of_held {P : Program} {L n : Nat} {ops : Array Oper} {md : Region.Mode} {S : World → Prop} {Q : Exit → Act → World → Prop} (hd : ∀ (i : Nat) (o : Oper), ops[i]? = some o → ∀ c, o.op ≠ .defer c) (hno : ¬ LetsOut Q) :
    ∀ (fuel : Nat) (listed : Array Bool) (a : Act) (w : World), wpAnyH P md ops Q S fuel listed a w → wpAnyIn (Fence.wide.inRound L) n P md ops Q fuel listed a w
  | 0, _, _, _, h => h
  | fuel + 1, listed, a, w, h => ⟨h.1, fun i hi => opsIn_of_wp hd hno (fun a' w' h' => anyIn_of_held hd hno fuel _ a' w' h'.2) (h.2 i hi)⟩
theorem anyIn_of_any {P : Program} {L n : Nat} {ops : Array Oper} {md : Region.Mode} {Q : Exit → Act → World → Prop} (hd : ∀ (i : Nat) (o : Oper), ops[i]? = some o → ∀ c, o.op ≠ .defer c) (hno : ¬ LetsOut Q) :
    ∀ (fuel : Nat) (listed : Array Bool) (a : Act) (w : World), wpAny P md ops Q fuel listed a w → wpAnyIn (Fence.wide.inRound L) n P md ops Q fuel listed a w
  | 0, _, _, _, h => h
  | fuel + 1, listed, a, w, h => ⟨h.1, fun i hi => opsIn_of_wp hd hno (fun a' w' h' => anyIn_of_any hd hno fuel _ a' w' h') (h.2 i hi)⟩
/-- is no operation of a region a defer statement? -/
def noDefer (ops : Array Oper) : Bool := ops.all (fun o => match o.op with | .defer _ => false | _ => true)
theorem noDefer_spec {ops : Array Oper} (h : noDefer ops = true) : ∀ (i : Nat) (o : Oper), ops[i]? = some o → ∀ c, o.op ≠ .defer c := by
  intro i o ho c hc
  obtain ⟨hi, e⟩ := Array.getElem?_eq_some_iff.1 ho
  have := (Array.all_eq_true.1 h) i hi
  rw [e, hc] at this
  cases this
/-- the beginning, where one condition on the world holds along the region -/
theorem round_held {P : Program} {L n id : Nat} {ops : Array Oper} {S : World → Prop} {Q : Exit → Act → World → Prop} {a : Act} {w : World} (hm : P.follows .mixedOrders = true) (hd : noDefer ops = true) (hno : ¬ LetsOut Q) (h : wpAnyH P .any ops Q S ops.size (Array.replicate ops.size false) a w.drew) : (Code.region id ops true).wpIn (Fence.wide.inRound L) n P Q a w :=
  wpIn_region_any hm (anyIn_of_held (noDefer_spec hd) hno _ _ _ _ h)
/-- a region that only reads -/
theorem round_quiet {P : Program} {L n id : Nat} {l : List Oper} {Q : Exit → Act → World → Prop} {a : Act} {w : World} (hm : P.follows .mixedOrders = true) (hd : noDefer l.toArray = true) (hno : ¬ LetsOut Q) (hB : Region.lexB .any l.toArray = true)
    (h : wpQuiet P l.toArray (fun w' => ∃ n, w' = w.drewN n) (fun a' => ∀ w', (∃ n, w' = w.drewN n) → Q .normal a' w') l a) : (Code.region id l.toArray true).wpIn (Fence.wide.inRound L) n P Q a w := by
  simp only [Region.lexB, Bool.and_eq_true] at hB
  refine wpIn_region_any hm (anyIn_of_any (noDefer_spec hd) hno _ _ _ _ (wpAny_of_quiet (C := fun w' => ∃ n, w' = w.drewN n) (Q := fun a' => ∀ w', (∃ n, w' = w.drewN n) → Q .normal a' w') (fun _ w' hw' h => h w' hw') _ _ _ _ ⟨1, rfl⟩ ?_))
  have := wpAnyQ_lex (C := fun w' => ∃ n, w' = w.drewN n) (md := .any) hB.1 l 0 (Array.replicate l.toArray.size false) a (by simp) (by simpa using hB.2) h
  simpa using this
end Go.Proofs.YtgkakflnmpoadaaGreatDoor.W
/- Package store: Pack. -/
namespace Go.Proofs.YtgkakflnmpoadaaGreatDoor.W
open Go.ChangeShapes Go.WideShapes Go.RowKit Go.Shelf
set_option linter.unusedVariables false
attribute [local go_sem] Oper.semAt_some

theorem set_rowed (t : Sto) (r : List Nat) (n : Nat) (b : Blk) : ({ t with row := r } : Sto).set n b = { t.set n b with row := r } := by
  unfold Sto.set
  split <;> rfl
theorem packN_succ {s : Sto} {c : List Nat} {bl : Nat → Blk} {p l en : Nat → Nat} {i n : Nat} (h : c[i]? = some n) : packN s c bl p l en (i + 1) = { ({ packN s c bl p l en i with row := setL (packN s c bl p l en i).row (en i) (seg (packN s c bl p l en i).row (p i) (l i)) } : Sto).set n { bl i with pos := (en i : Nat) } with hand := (n : Int) } := by
  rw [set_rowed, packN, getD_get h]
theorem pack_def {W : World} {D sb o o' : Nat} {v v' : Value} (hD : W.heap[D]? = some (.deferred (some []))) (hne : D ≠ sb) : ((W.setCell ⟨sb, o, none⟩ v).drew.setCell ⟨sb, o', none⟩ v').heap[D]? = some (.deferred (some [])) := by
  rw [Below.heap_setCell _ _ _ _ hne]
  show (W.setCell ⟨sb, o, none⟩ v).heap[D]? = _
  rw [Below.heap_setCell _ _ _ _ hne]
  exact hD
theorem box_of {Wa Wb : World} {B t : Nat} {v : Value} (h : Wb.heap[B]? = Wa.heap[B]?) (g : Boxed Wa B t v) : Boxed Wb B t v := h.trans g
theorem box_set {W : World} {B C o t : Nat} {v u : Value} (h : Boxed W B t v) (hne : B ≠ C) : Boxed (W.setCell ⟨C, o, none⟩ u) B t v := by
  unfold Boxed at *
  rw [Below.heap_setCell _ _ _ _ hne]
  exact h
/-- the two last stores of a round of Pack -/
theorem pack_fin {W W6 W' : World} {sb : Nat} {vr vb vf : Value} {S : Nat → Prop} {t6 : Sto} {e0 : Value} (e n L D : Nat) {t0 : Sto} (h : Lay W sb vr vb vf t0) (hL : Lay W6 sb vr vb vf t6) (hU : Upd S W W6) (hO : S sb) (b1 : Boxed W6 W.heap.size 40 (.pointer (some ⟨sb, 0, none⟩))) (b2 : Boxed W6 (W.heap.size + 1) 3 e0) (b3 : Boxed W6 (W.heap.size + 2) 40 (.pointer (some ⟨sb, 0, none⟩)))
    (hL' : W6.heap[L]? = W'.heap[L]?) (hD' : W6.heap[D]? = W'.heap[D]?) (hN' : W6.heap[W.heap.size + 2 + 1]? = W'.heap[W.heap.size + 2 + 1]?) (nL : W.heap.size + 2 < L) (nD : W.heap.size + 2 < D) (m : Nat) :
    (W6.drewN m).cell? ⟨W.heap.size + 1, 0, none⟩ = some e0 ∧ (W6.drewN m).frozen? ⟨W.heap.size + 1, 0, none⟩ = false ∧ ((W6.drewN m).setCell ⟨W.heap.size + 1, 0, none⟩ (.int .i64 e)).cell? ⟨W.heap.size, 0, none⟩ = some (.pointer (some ⟨sb, 0, none⟩)) ∧ ((W6.drewN m).setCell ⟨W.heap.size + 1, 0, none⟩ (.int .i64 e)).cell? ⟨sb, 9, none⟩ = some (.int .i64 t6.hand) ∧ ((W6.drewN m).setCell ⟨W.heap.size + 1, 0, none⟩ (.int .i64 e)).frozen? ⟨sb, 9, none⟩ = false ∧
    Hid (∀ Wf, Wf = (((W6.drewN m).setCell ⟨W.heap.size + 1, 0, none⟩ (.int .i64 e)).setCell ⟨sb, 9, none⟩ (.int .i64 n)) → (Wf.heap[L]? = W'.heap[L]? ∧ Wf.heap[D]? = W'.heap[D]? ∧ Wf.heap[W.heap.size + 2 + 1]? = W'.heap[W.heap.size + 2 + 1]?) ∧ Upd S W Wf ∧ Lay Wf sb vr vb vf { t6 with hand := n } ∧ Boxed Wf W.heap.size 40 (.pointer (some ⟨sb, 0, none⟩)) ∧ Boxed Wf (W.heap.size + 1) 3 (.int .i64 e) ∧ Boxed Wf (W.heap.size + 2) 40 (.pointer (some ⟨sb, 0, none⟩))) := by
  obtain ⟨l0, l1, l2, l3⟩ := lay_lt h
  have hL7 : Lay ((W6.drewN m).setCell ⟨W.heap.size + 1, 0, none⟩ (.int .i64 e)) sb vr vb vf t6 := by
    refine (hL.drewN m).kept ?_ ?_ ?_ ?_
    · exact Below.heap_setCell _ _ _ _ (by show sb ≠ W.heap.size + 1; omega)
    · intro k e; exact Below.heap_setCell _ _ _ _ (by show k ≠ W.heap.size + 1; have := l1 k e; omega)
    · intro k e; exact Below.heap_setCell _ _ _ _ (by show k ≠ W.heap.size + 1; have := l2 k e; omega)
    · intro k e; exact Below.heap_setCell _ _ _ _ (by show k ≠ W.heap.size + 1; have := l3 k e; omega)
  have b1' : Boxed (W6.drewN m) W.heap.size 40 (.pointer (some ⟨sb, 0, none⟩)) := b1
  have b2' : Boxed (W6.drewN m) (W.heap.size + 1) 3 e0 := b2
  have b3' : Boxed (W6.drewN m) (W.heap.size + 2) 40 (.pointer (some ⟨sb, 0, none⟩)) := b3
  have c1 := box_set (C := W.heap.size + 1) (o := 0) (u := .int .i64 (e : Int)) b1' (by omega)
  have c3 := box_set (C := W.heap.size + 1) (o := 0) (u := .int .i64 (e : Int)) b3' (by omega)
  have c2 := b2'.set (.int .i64 (e : Int))
  have lt2 := b2'.lt
  refine ⟨b2'.cell, b2'.frozen, c1.cell, hL7.cell 9, hL7.thaw 9, ?_⟩
  rintro Wf rfl
  have hx : ∀ x : Nat, x ≠ sb → x ≠ W.heap.size + 1 → (((W6.drewN m).setCell ⟨W.heap.size + 1, 0, none⟩ (.int .i64 e)).setCell ⟨sb, 9, none⟩ (.int .i64 n)).heap[x]? = W6.heap[x]? := fun x h1 h2 => by
    rw [Below.heap_setCell _ _ _ _ h1, Below.heap_setCell _ _ _ _ h2]; rfl
  refine ⟨⟨(hx L (by omega) (by omega)).trans hL', (hx D (by omega) (by omega)).trans hD', (hx _ (by omega) (by omega)).trans hN'⟩, ?_, hL7.store 9 _ rfl rfl rfl rfl, box_set c1 (by omega), box_set c2 (by omega), box_set c3 (by omega)⟩
  refine ((hU.drewN m).setCell (p := ⟨W.heap.size + 1, 0, none⟩) (.inr ⟨by show W.heap.size ≤ W.heap.size + 1; omega, lt2⟩) _).setCell (p := ⟨sb, 9, none⟩) (.inl hO) _
def packedSto (s : Sto) (c : List Nat) (bl : Nat → Blk) (p l en : Nat → Nat) : Sto := { packN s c bl p l en c.length with row := (packN s c bl p l en c.length).row.take (en c.length), sought := false }
set_option maxHeartbeats 4000000 in
theorem pack_c {W : World} {sb : Nat} {vr vb vf : Value} {s : Sto} {c : List Nat} {bl : Nat → Blk} {p l u en : Nat → Nat} (h : Lay W sb vr vb vf s) (f : Fit s) (k : Pk s c bl p l u en) {S : Nat → Prop} (hO : Own S sb vr vb vf) :
    Calls Tryz.prog 292 #[.pointer (some ⟨sb, 0, none⟩)] W fun e w' => e = .returned (.tuple #[]) ∧ Upd S W w' ∧ ∃ vr', Lay w' sb vr' vb vf (packedSto s c bl p l en) ∧ Own S sb vr' vb vf := by
  obtain ⟨lsb, lr, lb, lf⟩ := lay_lt h
  refine (callsIn_wide (n := 9)).1 ?_
  refine callsIn_of_wp_marks Tryz.func292 rfl trivial ?_ rfl
  refine wpIn_wide.2 ?_
  simp only [Tryz.ntmps292, List.size_toArray, List.length_cons, List.length_nil, Nat.reduceAdd, Nat.reduceSub, Array.replicate_succ, Array.replicate_zero, List.push_toArray, List.append_toArray, List.nil_append, List.cons_append]
  go_upto_region 2 with fail
  have hU1 := ((Upd.refl S W).alloc (.cells #[.pointer (some ⟨sb, 0, none⟩)] 40)).alloc (.cells #[.int .i64 0] 3)
  have hL1 := (h.alloc (.cells #[.pointer (some ⟨sb, 0, none⟩)] 40)).alloc (.cells #[.int .i64 0] 3)
  have hB1 : Boxed ((W.alloc (.cells #[.pointer (some ⟨sb, 0, none⟩)] 40)).alloc (.cells #[.int .i64 0] 3)) W.heap.size 40 (.pointer (some ⟨sb, 0, none⟩)) := (Boxed.new W _ _).alloc _
  have hB2 : Boxed ((W.alloc (.cells #[.pointer (some ⟨sb, 0, none⟩)] 40)).alloc (.cells #[.int .i64 0] 3)) (W.heap.size + 1) 3 (.int .i64 0) := by
    have := Boxed.new (W.alloc (.cells #[.pointer (some ⟨sb, 0, none⟩)] 40)) 3 (.int .i64 0)
    rwa [World.size_alloc] at this
  have hz : ((W.alloc (.cells #[.pointer (some ⟨sb, 0, none⟩)] 40)).alloc (.cells #[.int .i64 0] 3)).heap.size = W.heap.size + 2 := by simp
  generalize World.alloc (World.alloc W _) _ = W1 at *
  have cs := hB1.cell
  go_wp2_with (go_at_call 290; (refine (from_c _ sb 0).mono ?_); rintro e w' ⟨rfl, hw⟩; (have hw' := hw.symm); subst hw'; clear hw)
  have hU2 := (hU1.alloc (.cells #[.pointer (some ⟨sb, 0, none⟩)] 40)).alloc (.cells #[.int .i64 0] 3)
  have hL2 := (hL1.alloc (.cells #[.pointer (some ⟨sb, 0, none⟩)] 40)).alloc (.cells #[.int .i64 0] 3)
  have hB4 : Boxed ((W1.alloc (.cells #[.pointer (some ⟨sb, 0, none⟩)] 40)).alloc (.cells #[.int .i64 0] 3)) (W.heap.size + 2 + 1) 3 (.int .i64 0) := by
    have := Boxed.new (W1.alloc (.cells #[.pointer (some ⟨sb, 0, none⟩)] 40)) 3 (.int .i64 0)
    rw [World.size_alloc, hz] at this
    exact this
  have hB3 : Boxed ((W1.alloc (.cells #[.pointer (some ⟨sb, 0, none⟩)] 40)).alloc (.cells #[.int .i64 0] 3)) (W.heap.size + 2) 40 (.pointer (some ⟨sb, 0, none⟩)) := by
    have := (Boxed.new W1 40 (.pointer (some ⟨sb, 0, none⟩))).alloc (.cells #[.int .i64 0] 3)
    rw [hz] at this
    exact this
  have hB1' := (hB1.alloc (.cells #[.pointer (some ⟨sb, 0, none⟩)] 40)).alloc (.cells #[.int .i64 0] 3)
  have hB2' := (hB2.alloc (.cells #[.pointer (some ⟨sb, 0, none⟩)] 40)).alloc (.cells #[.int .i64 0] 3)
  have hz2 : ((W1.alloc (.cells #[.pointer (some ⟨sb, 0, none⟩)] 40)).alloc (.cells #[.int .i64 0] 3)).heap.size = W.heap.size + 4 := by simp [hz]
  clear hU1 hL1 hB1 hB2 cs
  generalize World.alloc (World.alloc W1 _) _ = W2 at *
  clear hz
  have e0 : c[0]'k.ne = 0 := by have := k.zero; rw [List.getElem?_eq_getElem k.ne] at this; exact Option.some.inj this
  refine ring_law (Bn := W.heap.size + 2 + 1) (Bs := W.heap.size + 2) (sb := sb) rfl c k.ne k.nodup ?hz (by rw [e0]; exact hB4)
    (fun i W' => Upd S W W' ∧ Lay W' sb vr vb vf (packN s c bl p l en i) ∧ Boxed W' W.heap.size 40 (.pointer (some ⟨sb, 0, none⟩)) ∧ Boxed W' (W.heap.size + 1) 3 (.int .i64 (en i : Nat)) ∧ Boxed W' (W.heap.size + 2) 40 (.pointer (some ⟨sb, 0, none⟩)))
    (fun _ _ => False)
    ?hI ?hIx ⟨hU2, hL2, hB1', by rw [k.en0]; exact hB2', hB3⟩ ?hread 3 ?assign ?body ?done ?stop
  case hz =>
    intro i hi e
    have := List.pairwise_iff_getElem.1 k.nodup 0 (i + 1) k.ne hi (by omega)
    rw [e0, e] at this
    exact this rfl
  case hI =>
    rintro i Wa Wb ⟨g1, g2, g3, g4, g5⟩ hu
    have hk := lay_far h g2 g1.size hu (by omega)
    exact ⟨upd_far g1 hu (by omega) (by omega), hk, box_far g3 hu (by omega) (by omega), box_far g4 hu (by omega) (by omega), box_far g5 hu (by omega) (by omega)⟩
  case hIx => rintro c Wa Wb hF; exact hF.elim
  case hread =>
    rintro i hi Wa ⟨g1, g2, g3, g4, g5⟩
    have hn : c[i]? = some c[i] := List.getElem?_eq_getElem hi
    have hg : (packN s c bl p l en (i + 1)).get c[i] = some { bl i with pos := (en i : Nat) } := packN_earlier k (i + 1) i _ (by omega) (by omega) hn
    obtain ⟨B, O, pt⟩ := g2.pt hg
    obtain ⟨_, _, _, _, d4⟩ := bcells g2 hg pt
    refine ⟨g5.cell, B, O, block_c Wa sb vr vb vf _ g2 _ _ hg (by rw [packN_blks]; exact f.len) B O pt, ?_⟩
    rw [d4, show ({ bl i with pos := (en i : Nat) } : Blk).next = (bl i).next from rfl, k.next i hi]
  case assign =>
    intro L x W' K hK
    gi_wp2
    exact hK
  case body =>
    rintro L i hi W' hLe ⟨g1, g2, g3, g4, g5⟩ hs ⟨r, hr⟩ b4
    simp only [ringAct, List.setIfInBounds_toArray, List.set_cons_succ, List.set_cons_zero]
    have hn : c[i]? = some c[i] := List.getElem?_eq_getElem hi
    have hg : (packN s c bl p l en i).get c[i] = some (bl i) := by rw [packN_later k.nodup i i _ (Nat.le_refl _) hn]; exact k.get i _ hn
    obtain ⟨B, O, pt⟩ := g2.pt hg
    have cb := block_c W' sb vr vb vf _ g2 _ _ hg (by rw [packN_blks]; exact f.len) B O pt
    obtain ⟨_, d1, d2, _, _⟩ := bcells g2 hg pt
    rw [k.pos i hi] at d1
    rw [k.len i hi] at d2
    have cs := g3.cell
    have ce := g4.cell
    have c0 := g2.cell 0
    simp [Sto.obj] at c0
    have le1 := k.le i hi
    have le2 := k.stop i hi
    have lu := k.lu hi
    have fr := f.row
    have hrl : (packN s c bl p l en i).row.length = s.row.length := packN_row i
    gi_wp2_with ((refine ⟨trivial, ?_⟩); gi_at_call 257; (refine (CallsIn.inRound L (callsIn_wide.2 cb)).mono ?_); rintro e w' ⟨rfl, hw⟩; (have hw' := hw.symm); subst hw'; clear hw)
    by_cases hA : ∃ g cap, vr = .slice (some ⟨g, 0, none⟩) s.row.length cap ∧ s.row.length ≤ cap ∧ en i < cap ∧ p i < cap
    · obtain ⟨g, cap, hvr, hcap, hc1, hc2⟩ := hA
      rw [hvr] at c0
      refine round_held (S := fun w' => w'.cell? ⟨W.heap.size, 0, none⟩ = some (.pointer (some ⟨sb, 0, none⟩)) ∧ w'.cell? ⟨W.heap.size + 1, 0, none⟩ = some (.int .i64 (en i : Nat)) ∧ w'.cell? ⟨sb, 0, none⟩ = some (.slice (some ⟨g, 0, none⟩) s.row.length cap) ∧ w'.cell? ⟨B, O + 1, none⟩ = some (.int .i64 (p i : Nat)) ∧ w'.cell? ⟨B, O + 2, none⟩ = some (.int .i64 (l i : Nat))) (by kernel_rfl) (by kernel_rfl) (by rintro ⟨a, w, hF⟩; exact hF) ?_
      have nw : IntKind.i64.wrap ((p i : Int) + l i) = (p i : Int) + l i := by rw [IntKind.wrap_i64]; omega
      have n1 : (0 : Int) ≤ en i := by omega
      have n2 : (en i : Int) ≤ s.row.length := by omega
      have n3 : ¬ cap = en i := by omega
      have n4 : (0 : Int) ≤ p i := by omega
      have n5 : (p i : Int) + l i ≤ cap := by omega
      have n6 : ¬ cap = p i := by omega
      have n7 : (0 : Int) ≤ (p i : Int) + l i := by omega
      have n8 : (p i : Int) ≤ (p i : Int) + l i := by omega
      have n9 : ((p i : Int) + l i).toNat - p i = l i := by omega
      have hS : W'.drew.cell? ⟨W.heap.size, 0, none⟩ = some (.pointer (some ⟨sb, 0, none⟩)) ∧ W'.drew.cell? ⟨W.heap.size + 1, 0, none⟩ = some (.int .i64 (en i : Nat)) ∧ W'.drew.cell? ⟨sb, 0, none⟩ = some (.slice (some ⟨g, 0, none⟩) s.row.length cap) ∧ W'.drew.cell? ⟨B, O + 1, none⟩ = some (.int .i64 (p i : Nat)) ∧ W'.drew.cell? ⟨B, O + 2, none⟩ = some (.int .i64 (l i : Nat)) := ⟨cs, ce, c0, d1, d2⟩
      (refine wpAnyH_take (i := 0) (v := ?_) rfl (by kernel_rfl) (by kernel_rfl) (by kernel_rfl) (fun _ _ _ h => h) (Or.inl ⟨by rfl, ?_⟩) hS ?_); rotate_left; focus (intro w' hSw; obtain ⟨q1, q2, q3, q4, q5⟩ := hSw; go_simp; (try with_reducible rfl)); (try simp only [Act.put, List.setIfInBounds_toArray, List.set_cons_zero, List.set_cons_succ])
      (refine wpAnyH_take (i := 1) (v := ?_) rfl (by kernel_rfl) (by kernel_rfl) (by kernel_rfl) (fun _ _ _ h => h) (Or.inl ⟨by rfl, ?_⟩) hS ?_); rotate_left; focus (intro w' hSw; obtain ⟨q1, q2, q3, q4, q5⟩ := hSw; go_simp; (try with_reducible rfl)); (try simp only [Act.put, List.setIfInBounds_toArray, List.set_cons_zero, List.set_cons_succ])
      (refine wpAnyH_take (i := 2) (v := ?_) rfl (by kernel_rfl) (by kernel_rfl) (by kernel_rfl) (fun _ _ _ h => h) (Or.inl ⟨by rfl, ?_⟩) hS ?_); rotate_left; focus (intro w' hSw; obtain ⟨q1, q2, q3, q4, q5⟩ := hSw; go_simp; (try with_reducible rfl)); (try simp only [Act.put, List.setIfInBounds_toArray, List.set_cons_zero, List.set_cons_succ])
      (refine wpAnyH_take (i := 3) (v := ?_) rfl (by kernel_rfl) (by kernel_rfl) (by kernel_rfl) (fun _ _ _ h => h) (Or.inl ⟨by rfl, ?_⟩) hS ?_); rotate_left; focus (intro w' hSw; obtain ⟨q1, q2, q3, q4, q5⟩ := hSw; go_simp; (try with_reducible rfl)); (try simp only [Act.put, List.setIfInBounds_toArray, List.set_cons_zero, List.set_cons_succ])
      (refine wpAnyH_take (i := 4) (v := ?_) rfl (by kernel_rfl) (by kernel_rfl) (by kernel_rfl) (fun _ _ _ h => h) (Or.inl ⟨by rfl, ?_⟩) hS ?_); rotate_left; focus (intro w' hSw; obtain ⟨q1, q2, q3, q4, q5⟩ := hSw; go_simp; (try with_reducible rfl)); (try simp only [Act.put, List.setIfInBounds_toArray, List.set_cons_zero, List.set_cons_succ])
      (refine wpAnyH_take (i := 5) (v := ?_) rfl (by kernel_rfl) (by kernel_rfl) (by kernel_rfl) (fun _ _ _ h => h) (Or.inl ⟨by rfl, ?_⟩) hS ?_); rotate_left; focus (intro w' hSw; obtain ⟨q1, q2, q3, q4, q5⟩ := hSw; go_simp; (try with_reducible rfl)); (try simp only [Act.put, List.setIfInBounds_toArray, List.set_cons_zero, List.set_cons_succ])
      (refine wpAnyH_take (i := 6) (v := ?_) rfl (by kernel_rfl) (by kernel_rfl) (by kernel_rfl) (fun _ _ _ h => h) (Or.inl ⟨by rfl, ?_⟩) hS ?_); rotate_left; focus (intro w' hSw; obtain ⟨q1, q2, q3, q4, q5⟩ := hSw; go_simp; (try with_reducible rfl)); (try simp only [Act.put, List.setIfInBounds_toArray, List.set_cons_zero, List.set_cons_succ])
      (refine wpAnyH_take (i := 7) (v := ?_) rfl (by kernel_rfl) (by kernel_rfl) (by kernel_rfl) (fun _ _ _ h => h) (Or.inl ⟨by rfl, ?_⟩) hS ?_); rotate_left; focus (intro w' hSw; obtain ⟨q1, q2, q3, q4, q5⟩ := hSw; go_simp; (try with_reducible rfl)); (try simp only [Act.put, List.setIfInBounds_toArray, List.set_cons_zero, List.set_cons_succ])
      (refine wpAnyH_take (i := 8) (v := ?_) rfl (by kernel_rfl) (by kernel_rfl) (by kernel_rfl) (fun _ _ _ h => h) (Or.inl ⟨by rfl, ?_⟩) hS ?_); rotate_left; focus (intro w' hSw; obtain ⟨q1, q2, q3, q4, q5⟩ := hSw; go_simp; (try with_reducible rfl)); (try simp only [Act.put, List.setIfInBounds_toArray, List.set_cons_zero, List.set_cons_succ])
      (refine wpAnyH_take (i := 9) (v := ?_) rfl (by kernel_rfl) (by kernel_rfl) (by kernel_rfl) (fun _ _ _ h => h) (Or.inl ⟨by rfl, ?_⟩) hS ?_); rotate_left; focus (intro w' hSw; obtain ⟨q1, q2, q3, q4, q5⟩ := hSw; go_simp; (try with_reducible rfl)); (try simp only [Act.put, List.setIfInBounds_toArray, List.set_cons_zero, List.set_cons_succ])
      (refine wpAnyH_take (i := 10) (v := ?_) rfl (by kernel_rfl) (by kernel_rfl) (by kernel_rfl) (fun _ _ _ h => h) (Or.inl ⟨by rfl, ?_⟩) hS ?_); rotate_left; focus (intro w' hSw; obtain ⟨q1, q2, q3, q4, q5⟩ := hSw; go_simp; (try with_reducible rfl)); (try simp only [Act.put, List.setIfInBounds_toArray, List.set_cons_zero, List.set_cons_succ])
      (refine wpAnyH_take (i := 11) (v := ?_) rfl (by kernel_rfl) (by kernel_rfl) (by kernel_rfl) (fun _ _ _ h => h) (Or.inl ⟨by rfl, ?_⟩) hS ?_); rotate_left; focus (intro w' hSw; obtain ⟨q1, q2, q3, q4, q5⟩ := hSw; go_simp; (try with_reducible rfl)); (try simp only [Act.put, List.setIfInBounds_toArray, List.set_cons_zero, List.set_cons_succ])
      (refine wpAnyH_take (i := 12) (v := ?_) rfl (by kernel_rfl) (by kernel_rfl) (by kernel_rfl) (fun _ _ _ h => h) (Or.inl ⟨by rfl, ?_⟩) hS ?_); rotate_left; focus (intro w' hSw; obtain ⟨q1, q2, q3, q4, q5⟩ := hSw; go_simp; (try with_reducible rfl)); (try simp only [Act.put, List.setIfInBounds_toArray, List.set_cons_zero, List.set_cons_succ])
      (refine wpAnyH_take (i := 13) (v := ?_) rfl (by kernel_rfl) (by kernel_rfl) (by kernel_rfl) (fun _ _ _ h => h) (Or.inl ⟨by rfl, ?_⟩) hS ?_); rotate_left; focus (intro w' hSw; obtain ⟨q1, q2, q3, q4, q5⟩ := hSw; go_simp; (try with_reducible rfl)); (try simp only [Act.put, List.setIfInBounds_toArray, List.set_cons_zero, List.set_cons_succ])
      (refine wpAnyH_take (i := 14) (v := ?_) rfl (by kernel_rfl) (by kernel_rfl) (by kernel_rfl) (fun _ _ _ h => h) (Or.inl ⟨by rfl, ?_⟩) hS ?_); rotate_left; focus (intro w' hSw; obtain ⟨q1, q2, q3, q4, q5⟩ := hSw; go_simp; (try with_reducible rfl)); (try simp only [Act.put, List.setIfInBounds_toArray, List.set_cons_zero, List.set_cons_succ])
      (refine wpAnyH_take (i := 15) (v := ?_) rfl (by kernel_rfl) (by kernel_rfl) (by kernel_rfl) (fun _ _ _ h => h) (Or.inl ⟨by rfl, ?_⟩) hS ?_); rotate_left; focus (intro w' hSw; obtain ⟨q1, q2, q3, q4, q5⟩ := hSw; go_simp; (try with_reducible rfl)); (try simp only [Act.put, List.setIfInBounds_toArray, List.set_cons_zero, List.set_cons_succ])
      (refine wpAnyH_take (i := 16) (v := ?_) rfl (by kernel_rfl) (by kernel_rfl) (by kernel_rfl) (fun _ _ _ h => h) (Or.inl ⟨by rfl, ?_⟩) hS ?_); rotate_left; focus (intro w' hSw; obtain ⟨q1, q2, q3, q4, q5⟩ := hSw; go_simp; (try with_reducible rfl)); (try simp only [Act.put, List.setIfInBounds_toArray, List.set_cons_zero, List.set_cons_succ])
      (refine wpAnyH_take (i := 17) (v := ?_) rfl (by kernel_rfl) (by kernel_rfl) (by kernel_rfl) (fun _ _ _ h => h) (Or.inl ⟨by rfl, ?_⟩) hS ?_); rotate_left; focus (intro w' hSw; obtain ⟨q1, q2, q3, q4, q5⟩ := hSw; go_simp; (try with_reducible rfl)); (try simp only [Act.put, List.setIfInBounds_toArray, List.set_cons_zero, List.set_cons_succ])
      (refine wpAnyH_take (i := 18) (v := ?_) rfl (by kernel_rfl) (by kernel_rfl) (by kernel_rfl) (fun _ _ _ h => h) (Or.inl ⟨by rfl, ?_⟩) hS ?_); rotate_left; focus (intro w' hSw; obtain ⟨q1, q2, q3, q4, q5⟩ := hSw; go_simp; (try with_reducible rfl)); (try simp only [Act.put, List.setIfInBounds_toArray, List.set_cons_zero, List.set_cons_succ])
      (refine wpAnyH_take (i := 19) (v := ?_) rfl (by kernel_rfl) (by kernel_rfl) (by kernel_rfl) (fun _ _ _ h => h) (Or.inl ⟨by rfl, ?_⟩) hS ?_); rotate_left; focus (intro w' hSw; obtain ⟨q1, q2, q3, q4, q5⟩ := hSw; go_simp; (try with_reducible rfl)); (try simp only [Act.put, List.setIfInBounds_toArray, List.set_cons_zero, List.set_cons_succ])
      (refine wpAnyH_take (i := 20) (v := ?_) rfl (by kernel_rfl) (by kernel_rfl) (by kernel_rfl) (fun _ _ _ h => h) (Or.inl ⟨by rfl, ?_⟩) hS ?_); rotate_left; focus (intro w' hSw; obtain ⟨q1, q2, q3, q4, q5⟩ := hSw; go_simp; (try with_reducible rfl)); (try simp only [Act.put, List.setIfInBounds_toArray, List.set_cons_zero, List.set_cons_succ])
      (refine wpAnyH_take (i := 21) (v := ?_) rfl (by kernel_rfl) (by kernel_rfl) (by kernel_rfl) (fun _ _ _ h => h) (Or.inl ⟨by rfl, ?_⟩) hS ?_); rotate_left; focus (intro w' hSw; obtain ⟨q1, q2, q3, q4, q5⟩ := hSw; go_simp; (try with_reducible rfl)); (try simp only [Act.put, List.setIfInBounds_toArray, List.set_cons_zero, List.set_cons_succ])
      (refine wpAnyH_take (i := 22) (v := ?_) rfl (by kernel_rfl) (by kernel_rfl) (by kernel_rfl) (fun _ _ _ h => h) (Or.inl ⟨by rfl, ?_⟩) hS ?_); rotate_left; focus (intro w' hSw; obtain ⟨q1, q2, q3, q4, q5⟩ := hSw; go_simp; (try with_reducible rfl)); (try simp only [Act.put, List.setIfInBounds_toArray, List.set_cons_zero, List.set_cons_succ])
      (refine wpAnyH_take (i := 23) (v := ?_) rfl (by kernel_rfl) (by kernel_rfl) (by kernel_rfl) (fun _ _ _ h => h) (Or.inl ⟨by rfl, ?_⟩) hS ?_); rotate_left; focus (intro w' hSw; obtain ⟨q1, q2, q3, q4, q5⟩ := hSw; go_simp; (try with_reducible rfl)); (try simp only [Act.put, List.setIfInBounds_toArray, List.set_cons_zero, List.set_cons_succ])
      have hcl : (((seg (packN s c bl p l en i).row (p i) (l i)).map byteV)).length = l i := by rw [List.length_map, seg_len _ _ _ (by rw [hrl]; omega)]
      have hcopy : ∀ ty, (Builtin.copy_ #[62, 62] ty #[.slice (some ⟨g, en i, none⟩) (s.row.length - en i) (cap - en i), .slice (some ⟨g, p i, none⟩) (l i) (cap - p i)]).run Tryz.prog W'.drew = .ok (goInt (l i)) (W'.drew.setCells g (en i) ((seg (packN s c bl p l en i).row (p i) (l i)).map byteV)) := fun ty => by
        have e := run_copy_cells (P := Tryz.prog) W'.drew 62 62 ty 5 g (en i) (s.row.length - en i) (cap - en i) ⟨g, p i, none⟩ (l i) (cap - p i) ((seg (packN s c bl p l en i).row (p i) (l i)).map byteV) under57 (by kernel_rfl) (by rw [hcl]; exact (Nat.min_eq_left (by omega)).symm) ?_ ?_ ?_ ?_
        · rw [hcl] at e; exact e
        · intro j v hv
          have hj : j < l i := by rw [← hcl]; exact (List.getElem?_eq_some_iff.1 hv).1
          have ea : (⟨g, p i, none⟩ : Addr).add j = ⟨g, p i + j, none⟩ := by unfold Addr.add; split <;> simp_all
          have er := rcell g2 (g := g) (cap := cap) (by rw [hrl]; exact hvr) (p i + j) (by rw [hrl]; omega)
          rw [ea]
          show W'.cell? _ = _
          rw [er, ← hv, List.getElem?_map, seg_get _ _ _ _ hj, List.getElem?_eq_getElem (by rw [hrl]; omega)]
          rfl
        · intro j hj
          rw [hcl] at hj
          have er := rcell g2 (g := g) (cap := cap) (by rw [hrl]; exact hvr) (en i + j) (by rw [hrl]; omega)
          show (W'.cell? _).isSome = true
          rw [er]; rfl
        · intro j hj
          have er := g2.row
          rw [hrl, hvr] at er
          exact er.frozenAt _
        · intro v hv
          obtain ⟨y, _, rfl⟩ := List.mem_map.1 hv
          rfl
      have gne : sb ≠ g := by
        have := own_ne g2.row g2.obj (by decide)
        rw [hvr] at this
        simpa [Value.ownBlock] using this
      have bne : B ≠ g := by
        rcases pt with ⟨_, rfl, _⟩ | ⟨_, e, _⟩
        · exact gne
        · have := own_apart g2.blk g2.row (by decide)
          rw [e, hvr] at this
          simpa [Value.ownBlock] using this
      have glt : g < W.heap.size := lr g (by rw [hvr]; rfl)
      have far : ∀ x : Nat, x ≠ g → (W'.drew.setCells g (en i) ((seg (packN s c bl p l en i).row (p i) (l i)).map byteV)).heap[x]? = W'.heap[x]? := fun x hx => setCells_far W'.drew g (en i) _ x hx
      refine wpAnyH_ready (rs := [24]) (by kernel_rfl) (by simp) ?_
      refine AllReadyH.cons rfl (fun K hK => ?_) AllReadyH.nil
      go_simp
      refine hK.out _ _ ⟨?_, ?_, ?_, ?_, ?_⟩ (fun hS2 => ?_)
      · exact (World.cell?_of_block (w := W') (far _ (by show W.heap.size ≠ g; omega))).trans cs
      · exact (World.cell?_of_block (w := W') (far _ (by show W.heap.size + 1 ≠ g; omega))).trans ce
      · exact (World.cell?_of_block (w := W') (far _ gne)).trans c0
      · exact (World.cell?_of_block (w := W') (far _ bne)).trans d1
      · exact (World.cell?_of_block (w := W') (far _ bne)).trans d2
      clear hK K
      refine wpAnyH_done (by kernel_rfl) ?_ _
      have hL5 := (g2.drew).rstores (g := g) (cap := cap) (by rw [hrl]; exact hvr) (en i) (seg (packN s c bl p l en i).row (p i) (l i))
      have hU5 := (g1.drew).setCells (g := g) (hO.row g (by rw [hvr]; rfl)) (en i) ((seg (packN s c bl p l en i).row (p i) (l i)).map byteV)
      have hg5 : ({ packN s c bl p l en i with row := setL (packN s c bl p l en i).row (en i) (seg (packN s c bl p l en i).row (p i) (l i)) } : Sto).get c[i] = some (bl i) := hg
      have fB1 := box_of (far W.heap.size (by omega)) g3
      have fB2 := box_of (far (W.heap.size + 1) (by omega)) g4
      have fB3 := box_of (far (W.heap.size + 2) (by omega)) g5
      have fL := far L (by omega)
      have fD := far W2.heap.size (by omega)
      have fN := far (W.heap.size + 2 + 1) (by omega)
      have z5 := setCells_size W'.drew g (en i) ((seg (packN s c bl p l en i).row (p i) (l i)).map byteV)
      have zz : W'.drew.heap.size = W'.heap.size := rfl
      rw [zz] at z5
      clear far hcopy hS hcl cs ce c0 hS2 d1 d2
      generalize World.setCells (World.drew W') _ _ _ = W5 at *
      obtain ⟨_, d1, d2, _, _⟩ := bcells hL5 hg5 pt
      have t1 := hL5.bthaw hg5 pt 1
      rw [k.len i hi] at d2
      have ce := fB2.cell
      have hBe : B ≠ W.heap.size + 1 ∧ B ≠ W.heap.size ∧ B ≠ W.heap.size + 2 ∧ B < W.heap.size := by
        rcases pt with ⟨_, rfl, _⟩ | ⟨_, e, _⟩
        · omega
        · have := lb B e; omega
      have hL6 := hL5.bstore (c := { bl i with pos := (en i : Nat) }) hg5 pt 1 (by omega) (.int .i64 (en i : Nat)) rfl
      have hU6 := hU5.setCell (p := ⟨B, O + 1, none⟩) (.inl (hO.pt pt)) (.int .i64 (en i : Nat))
      have e1 : (W5.setCell ⟨B, O + 1, none⟩ (.int .i64 (en i : Nat))).cell? ⟨B, O + 1, none⟩ = some (.int .i64 (en i : Nat)) := World.cell?_setCell_same' _ _ _ (by rw [d1]; rfl)
      have e2 : (W5.setCell ⟨B, O + 1, none⟩ (.int .i64 (en i : Nat))).cell? ⟨B, O + 2, none⟩ = some (.int .i64 (l i : Nat)) := by
        have hg6 := get_set_same hg5 ({ bl i with pos := (en i : Nat) } : Blk)
        obtain ⟨_, _, x2, _, _⟩ := bcells hL6 hg6 pt
        rw [x2]; exact congrArg (fun z => some (Value.int .i64 z)) (k.len i hi)
      have fb := f.blk _ _ (k.get i _ hn)
      rw [k.pos i hi, k.len i hi] at fb
      have cend := end_c (W5.setCell ⟨B, O + 1, none⟩ (.int .i64 (en i : Nat))) B O (en i) (l i) e1 e2 (by omega) (by omega) (by omega) (by omega)
      have hen : (en i : Int) + up8 (l i) = (en (i + 1) : Nat) := by rw [k.up i hi, k.en1 i hi]; omega
      rw [hen] at cend
      have hf6 : ∀ x : Nat, x ≠ B → (W5.setCell ⟨B, O + 1, none⟩ (.int .i64 (en i : Nat))).heap[x]? = W5.heap[x]? := fun x hx => Below.heap_setCell _ _ _ _ hx
      have F := fun m => pack_fin (W' := W') (en (i + 1)) c[i] L W2.heap.size h hL6 hU6 hO.sb (box_set fB1 (by omega)) (box_set fB2 (by omega)) (box_set fB3 (by omega)) ((hf6 L (by omega)).trans fL) ((hf6 _ (by omega)).trans fD) ((hf6 _ (by omega)).trans fN) (by omega) (by omega) m
      gi_wp2_with ((refine ⟨trivial, ?_⟩); gi_at_call 261; (refine (CallsIn.inRound L (callsIn_wide.2 cend)).mono ?_); rintro e W7 ⟨rfl, m7, hw⟩; (have q := F m7); (rw [← hw] at q); (obtain ⟨q1, q2, q3, q4, q5, q6⟩ := q); clear hw F)
      obtain ⟨r1, r2, r3, r4, r5, r6⟩ := q6.out _ rfl
      exact ⟨r1, r2, by rw [packN_succ hn]; exact r3, r4, r5, r6⟩
    · obtain ⟨hi0, ao, hvr, hr0⟩ : i = 0 ∧ ∃ ao, vr = .slice ao 0 0 ∧ s.row.length = 0 := by
        have key : ∀ g cap, vr = .slice (some ⟨g, 0, none⟩) s.row.length cap → s.row.length ≤ cap → i = 0 ∧ cap = 0 := by
          intro g cap e1 e2
          by_cases h0 : i = 0
          · refine ⟨h0, ?_⟩
            false_or_by_contra
            rename_i hc0
            exact hA ⟨g, cap, e1, e2, by rw [h0, k.en0]; omega, by rw [h0, k.first.1]; omega⟩
          · have hl0 := k.rest i (by omega) hi
            exact absurd ⟨g, cap, e1, e2, by omega, by omega⟩ hA
        rcases g2.row.2 with ⟨e, e'⟩ | ⟨g, cap, cur, e, _, _, hc, _⟩
        · rw [hrl] at e'
          refine ⟨?_, none, e, e'⟩
          false_or_by_contra
          rename_i h0
          have hl0 := k.rest i (by omega) hi
          omega
        · rw [hrl] at e hc
          obtain ⟨h0, hc0⟩ := key g cap e hc
          exact ⟨h0, some ⟨g, 0, none⟩, by rw [e, hc0, show s.row.length = 0 by omega], by omega⟩
      have nw0 : IntKind.i64.wrap 0 = 0 := by decide
      have hen0 : en i = 0 := by rw [hi0]; exact k.en0
      have hp0 : p i = 0 := by rw [hi0]; exact k.first.1
      have hl0 : l i = 0 := by rw [hi0]; exact k.first.2
      clear hi0
      have hcopy : ∀ ty, (Builtin.copy_ #[62, 62] ty #[.slice ao 0 0, .slice ao 0 0]).run Tryz.prog W'.drew = .ok (goInt 0) W'.drew := fun ty => run_copy_none (P := Tryz.prog) W'.drew 62 62 ty 5 ao ao 0 0 0 0 under57 (by kernel_rfl) rfl
      have hL5 : Lay W'.drew sb vr vb vf { packN s c bl p l en i with row := setL (packN s c bl p l en i).row (en i) (seg (packN s c bl p l en i).row (p i) (l i)) } := by
        rw [hl0, show seg (packN s c bl p l en i).row (p i) 0 = [] by simp [seg]]
        exact g2.drew
      rw [hvr] at c0
      rw [hen0] at ce
      rw [hp0] at d1
      rw [hl0] at d2
      refine round_held (S := fun w' => w'.cell? ⟨W.heap.size, 0, none⟩ = some (.pointer (some ⟨sb, 0, none⟩)) ∧ w'.cell? ⟨W.heap.size + 1, 0, none⟩ = some (.int .i64 ((0 : Nat) : Int)) ∧ w'.cell? ⟨sb, 0, none⟩ = some (.slice ao 0 0) ∧ w'.cell? ⟨B, O + 1, none⟩ = some (.int .i64 ((0 : Nat) : Int)) ∧ w'.cell? ⟨B, O + 2, none⟩ = some (.int .i64 ((0 : Nat) : Int))) (by kernel_rfl) (by kernel_rfl) (by rintro ⟨a, w, hF⟩; exact hF) ?_
      have hS : W'.drew.cell? ⟨W.heap.size, 0, none⟩ = some (.pointer (some ⟨sb, 0, none⟩)) ∧ W'.drew.cell? ⟨W.heap.size + 1, 0, none⟩ = some (.int .i64 ((0 : Nat) : Int)) ∧ W'.drew.cell? ⟨sb, 0, none⟩ = some (.slice ao 0 0) ∧ W'.drew.cell? ⟨B, O + 1, none⟩ = some (.int .i64 ((0 : Nat) : Int)) ∧ W'.drew.cell? ⟨B, O + 2, none⟩ = some (.int .i64 ((0 : Nat) : Int)) := ⟨cs, ce, c0, d1, d2⟩
      (refine wpAnyH_take (i := 0) (v := ?_) rfl (by kernel_rfl) (by kernel_rfl) (by kernel_rfl) (fun _ _ _ h => h) (Or.inl ⟨by rfl, ?_⟩) hS ?_); rotate_left; focus (intro w' hSw; obtain ⟨q1, q2, q3, q4, q5⟩ := hSw; go_simp; (try with_reducible rfl)); (try simp only [Act.put, List.setIfInBounds_toArray, List.set_cons_zero, List.set_cons_succ])
      (refine wpAnyH_take (i := 1) (v := ?_) rfl (by kernel_rfl) (by kernel_rfl) (by kernel_rfl) (fun _ _ _ h => h) (Or.inl ⟨by rfl, ?_⟩) hS ?_); rotate_left; focus (intro w' hSw; obtain ⟨q1, q2, q3, q4, q5⟩ := hSw; go_simp; (try with_reducible rfl)); (try simp only [Act.put, List.setIfInBounds_toArray, List.set_cons_zero, List.set_cons_succ])
      (refine wpAnyH_take (i := 2) (v := ?_) rfl (by kernel_rfl) (by kernel_rfl) (by kernel_rfl) (fun _ _ _ h => h) (Or.inl ⟨by rfl, ?_⟩) hS ?_); rotate_left; focus (intro w' hSw; obtain ⟨q1, q2, q3, q4, q5⟩ := hSw; go_simp; (try with_reducible rfl)); (try simp only [Act.put, List.setIfInBounds_toArray, List.set_cons_zero, List.set_cons_succ])
      (refine wpAnyH_take (i := 3) (v := ?_) rfl (by kernel_rfl) (by kernel_rfl) (by kernel_rfl) (fun _ _ _ h => h) (Or.inl ⟨by rfl, ?_⟩) hS ?_); rotate_left; focus (intro w' hSw; obtain ⟨q1, q2, q3, q4, q5⟩ := hSw; go_simp; (try with_reducible rfl)); (try simp only [Act.put, List.setIfInBounds_toArray, List.set_cons_zero, List.set_cons_succ])
      (refine wpAnyH_take (i := 4) (v := ?_) rfl (by kernel_rfl) (by kernel_rfl) (by kernel_rfl) (fun _ _ _ h => h) (Or.inl ⟨by rfl, ?_⟩) hS ?_); rotate_left; focus (intro w' hSw; obtain ⟨q1, q2, q3, q4, q5⟩ := hSw; go_simp; (try with_reducible rfl)); (try simp only [Act.put, List.setIfInBounds_toArray, List.set_cons_zero, List.set_cons_succ])
      (refine wpAnyH_take (i := 5) (v := ?_) rfl (by kernel_rfl) (by kernel_rfl) (by kernel_rfl) (fun _ _ _ h => h) (Or.inl ⟨by rfl, ?_⟩) hS ?_); rotate_left; focus (intro w' hSw; obtain ⟨q1, q2, q3, q4, q5⟩ := hSw; go_simp; (try with_reducible rfl)); (try simp only [Act.put, List.setIfInBounds_toArray, List.set_cons_zero, List.set_cons_succ])
      (refine wpAnyH_take (i := 6) (v := ?_) rfl (by kernel_rfl) (by kernel_rfl) (by kernel_rfl) (fun _ _ _ h => h) (Or.inl ⟨by rfl, ?_⟩) hS ?_); rotate_left; focus (intro w' hSw; obtain ⟨q1, q2, q3, q4, q5⟩ := hSw; go_simp; (try with_reducible rfl)); (try simp only [Act.put, List.setIfInBounds_toArray, List.set_cons_zero, List.set_cons_succ])
      (refine wpAnyH_take (i := 7) (v := ?_) rfl (by kernel_rfl) (by kernel_rfl) (by kernel_rfl) (fun _ _ _ h => h) (Or.inl ⟨by rfl, ?_⟩) hS ?_); rotate_left; focus (intro w' hSw; obtain ⟨q1, q2, q3, q4, q5⟩ := hSw; go_simp; (try with_reducible rfl)); (try simp only [Act.put, List.setIfInBounds_toArray, List.set_cons_zero, List.set_cons_succ])
      (refine wpAnyH_take (i := 8) (v := ?_) rfl (by kernel_rfl) (by kernel_rfl) (by kernel_rfl) (fun _ _ _ h => h) (Or.inl ⟨by rfl, ?_⟩) hS ?_); rotate_left; focus (intro w' hSw; obtain ⟨q1, q2, q3, q4, q5⟩ := hSw; go_simp; (try with_reducible rfl)); (try simp only [Act.put, List.setIfInBounds_toArray, List.set_cons_zero, List.set_cons_succ])
      (refine wpAnyH_take (i := 9) (v := ?_) rfl (by kernel_rfl) (by kernel_rfl) (by kernel_rfl) (fun _ _ _ h => h) (Or.inl ⟨by rfl, ?_⟩) hS ?_); rotate_left; focus (intro w' hSw; obtain ⟨q1, q2, q3, q4, q5⟩ := hSw; go_simp; (try with_reducible rfl)); (try simp only [Act.put, List.setIfInBounds_toArray, List.set_cons_zero, List.set_cons_succ])
      (refine wpAnyH_take (i := 10) (v := ?_) rfl (by kernel_rfl) (by kernel_rfl) (by kernel_rfl) (fun _ _ _ h => h) (Or.inl ⟨by rfl, ?_⟩) hS ?_); rotate_left; focus (intro w' hSw; obtain ⟨q1, q2, q3, q4, q5⟩ := hSw; go_simp; (try with_reducible rfl)); (try simp only [Act.put, List.setIfInBounds_toArray, List.set_cons_zero, List.set_cons_succ])
      (refine wpAnyH_take (i := 11) (v := ?_) rfl (by kernel_rfl) (by kernel_rfl) (by kernel_rfl) (fun _ _ _ h => h) (Or.inl ⟨by rfl, ?_⟩) hS ?_); rotate_left; focus (intro w' hSw; obtain ⟨q1, q2, q3, q4, q5⟩ := hSw; go_simp; (try with_reducible rfl)); (try simp only [Act.put, List.setIfInBounds_toArray, List.set_cons_zero, List.set_cons_succ])
      (refine wpAnyH_take (i := 12) (v := ?_) rfl (by kernel_rfl) (by kernel_rfl) (by kernel_rfl) (fun _ _ _ h => h) (Or.inl ⟨by rfl, ?_⟩) hS ?_); rotate_left; focus (intro w' hSw; obtain ⟨q1, q2, q3, q4, q5⟩ := hSw; go_simp; (try with_reducible rfl)); (try simp only [Act.put, List.setIfInBounds_toArray, List.set_cons_zero, List.set_cons_succ])
      (refine wpAnyH_take (i := 13) (v := ?_) rfl (by kernel_rfl) (by kernel_rfl) (by kernel_rfl) (fun _ _ _ h => h) (Or.inl ⟨by rfl, ?_⟩) hS ?_); rotate_left; focus (intro w' hSw; obtain ⟨q1, q2, q3, q4, q5⟩ := hSw; go_simp; (try with_reducible rfl)); (try simp only [Act.put, List.setIfInBounds_toArray, List.set_cons_zero, List.set_cons_succ])
      (refine wpAnyH_take (i := 14) (v := ?_) rfl (by kernel_rfl) (by kernel_rfl) (by kernel_rfl) (fun _ _ _ h => h) (Or.inl ⟨by rfl, ?_⟩) hS ?_); rotate_left; focus (intro w' hSw; obtain ⟨q1, q2, q3, q4, q5⟩ := hSw; go_simp; (try with_reducible rfl)); (try simp only [Act.put, List.setIfInBounds_toArray, List.set_cons_zero, List.set_cons_succ])
      (refine wpAnyH_take (i := 15) (v := ?_) rfl (by kernel_rfl) (by kernel_rfl) (by kernel_rfl) (fun _ _ _ h => h) (Or.inl ⟨by rfl, ?_⟩) hS ?_); rotate_left; focus (intro w' hSw; obtain ⟨q1, q2, q3, q4, q5⟩ := hSw; go_simp; (try with_reducible rfl)); (try simp only [Act.put, List.setIfInBounds_toArray, List.set_cons_zero, List.set_cons_succ])
      (refine wpAnyH_take (i := 16) (v := ?_) rfl (by kernel_rfl) (by kernel_rfl) (by kernel_rfl) (fun _ _ _ h => h) (Or.inl ⟨by rfl, ?_⟩) hS ?_); rotate_left; focus (intro w' hSw; obtain ⟨q1, q2, q3, q4, q5⟩ := hSw; go_simp; (try with_reducible rfl)); (try simp only [Act.put, List.setIfInBounds_toArray, List.set_cons_zero, List.set_cons_succ])
      (refine wpAnyH_take (i := 17) (v := ?_) rfl (by kernel_rfl) (by kernel_rfl) (by kernel_rfl) (fun _ _ _ h => h) (Or.inl ⟨by rfl, ?_⟩) hS ?_); rotate_left; focus (intro w' hSw; obtain ⟨q1, q2, q3, q4, q5⟩ := hSw; go_simp; (try with_reducible rfl)); (try simp only [Act.put, List.setIfInBounds_toArray, List.set_cons_zero, List.set_cons_succ])
      (refine wpAnyH_take (i := 18) (v := ?_) rfl (by kernel_rfl) (by kernel_rfl) (by kernel_rfl) (fun _ _ _ h => h) (Or.inl ⟨by rfl, ?_⟩) hS ?_); rotate_left; focus (intro w' hSw; obtain ⟨q1, q2, q3, q4, q5⟩ := hSw; go_simp; (try with_reducible rfl)); (try simp only [Act.put, List.setIfInBounds_toArray, List.set_cons_zero, List.set_cons_succ])
      (refine wpAnyH_take (i := 19) (v := ?_) rfl (by kernel_rfl) (by kernel_rfl) (by kernel_rfl) (fun _ _ _ h => h) (Or.inl ⟨by rfl, ?_⟩) hS ?_); rotate_left; focus (intro w' hSw; obtain ⟨q1, q2, q3, q4, q5⟩ := hSw; go_simp; (try with_reducible rfl)); (try simp only [Act.put, List.setIfInBounds_toArray, List.set_cons_zero, List.set_cons_succ])
      (refine wpAnyH_take (i := 20) (v := ?_) rfl (by kernel_rfl) (by kernel_rfl) (by kernel_rfl) (fun _ _ _ h => h) (Or.inl ⟨by rfl, ?_⟩) hS ?_); rotate_left; focus (intro w' hSw; obtain ⟨q1, q2, q3, q4, q5⟩ := hSw; go_simp; (try with_reducible rfl)); (try simp only [Act.put, List.setIfInBounds_toArray, List.set_cons_zero, List.set_cons_succ])
      (refine wpAnyH_take (i := 21) (v := ?_) rfl (by kernel_rfl) (by kernel_rfl) (by kernel_rfl) (fun _ _ _ h => h) (Or.inl ⟨by rfl, ?_⟩) hS ?_); rotate_left; focus (intro w' hSw; obtain ⟨q1, q2, q3, q4, q5⟩ := hSw; go_simp; (try with_reducible rfl)); (try simp only [Act.put, List.setIfInBounds_toArray, List.set_cons_zero, List.set_cons_succ])
      (refine wpAnyH_take (i := 22) (v := ?_) rfl (by kernel_rfl) (by kernel_rfl) (by kernel_rfl) (fun _ _ _ h => h) (Or.inl ⟨by rfl, ?_⟩) hS ?_); rotate_left; focus (intro w' hSw; obtain ⟨q1, q2, q3, q4, q5⟩ := hSw; go_simp; (try with_reducible rfl)); (try simp only [Act.put, List.setIfInBounds_toArray, List.set_cons_zero, List.set_cons_succ])
      (refine wpAnyH_take (i := 23) (v := ?_) rfl (by kernel_rfl) (by kernel_rfl) (by kernel_rfl) (fun _ _ _ h => h) (Or.inl ⟨by rfl, ?_⟩) hS ?_); rotate_left; focus (intro w' hSw; obtain ⟨q1, q2, q3, q4, q5⟩ := hSw; go_simp; (try with_reducible rfl)); (try simp only [Act.put, List.setIfInBounds_toArray, List.set_cons_zero, List.set_cons_succ])
      refine wpAnyH_ready (rs := [24]) (by kernel_rfl) (by simp) ?_
      refine AllReadyH.cons rfl (fun K hK => ?_) AllReadyH.nil
      go_simp
      refine hK.out _ _ hS (fun hS2 => ?_)
      clear hK K
      refine wpAnyH_done (by kernel_rfl) ?_ _
      have hU5 := g1.drew
      have hg5 : ({ packN s c bl p l en i with row := setL (packN s c bl p l en i).row (en i) (seg (packN s c bl p l en i).row (p i) (l i)) } : Sto).get c[i] = some (bl i) := hg
      have fB1 : Boxed W'.drew W.heap.size 40 (.pointer (some ⟨sb, 0, none⟩)) := g3
      have fB2 : Boxed W'.drew (W.heap.size + 1) 3 (.int .i64 (en i : Nat)) := g4
      have fB3 : Boxed W'.drew (W.heap.size + 2) 40 (.pointer (some ⟨sb, 0, none⟩)) := g5
      have fL : W'.drew.heap[L]? = W'.heap[L]? := rfl
      have fD : W'.drew.heap[W2.heap.size]? = W'.heap[W2.heap.size]? := rfl
      have fN : W'.drew.heap[W.heap.size + 2 + 1]? = W'.heap[W.heap.size + 2 + 1]? := rfl
      have zz : W'.drew.heap.size = W'.heap.size := rfl
      clear hcopy hS cs ce c0 hS2 d1 d2 hen0 hp0 hl0 hr0 hvr
      have fbl := f.blk
      generalize World.drew W' = W5 at *
      obtain ⟨_, d1, d2, _, _⟩ := bcells hL5 hg5 pt
      have t1 := hL5.bthaw hg5 pt 1
      rw [k.len i hi] at d2
      have ce := fB2.cell
      have hBe : B ≠ W.heap.size + 1 ∧ B ≠ W.heap.size ∧ B ≠ W.heap.size + 2 ∧ B < W.heap.size := by
        rcases pt with ⟨_, rfl, _⟩ | ⟨_, e, _⟩
        · omega
        · have := lb B e; omega
      have hL6 := hL5.bstore (c := { bl i with pos := (en i : Nat) }) hg5 pt 1 (by omega) (.int .i64 (en i : Nat)) rfl
      have hU6 := hU5.setCell (p := ⟨B, O + 1, none⟩) (.inl (hO.pt pt)) (.int .i64 (en i : Nat))
      have e1 : (W5.setCell ⟨B, O + 1, none⟩ (.int .i64 (en i : Nat))).cell? ⟨B, O + 1, none⟩ = some (.int .i64 (en i : Nat)) := World.cell?_setCell_same' _ _ _ (by rw [d1]; rfl)
      have e2 : (W5.setCell ⟨B, O + 1, none⟩ (.int .i64 (en i : Nat))).cell? ⟨B, O + 2, none⟩ = some (.int .i64 (l i : Nat)) := by
        have hg6 := get_set_same hg5 ({ bl i with pos := (en i : Nat) } : Blk)
        obtain ⟨_, _, x2, _, _⟩ := bcells hL6 hg6 pt
        rw [x2]; exact congrArg (fun z => some (Value.int .i64 z)) (k.len i hi)
      have fb := fbl _ _ (k.get i _ hn)
      rw [k.pos i hi, k.len i hi] at fb
      have cend := end_c (W5.setCell ⟨B, O + 1, none⟩ (.int .i64 (en i : Nat))) B O (en i) (l i) e1 e2 (by omega) (by omega) (by omega) (by omega)
      have hen : (en i : Int) + up8 (l i) = (en (i + 1) : Nat) := by rw [k.up i hi, k.en1 i hi]; omega
      rw [hen] at cend
      have hf6 : ∀ x : Nat, x ≠ B → (W5.setCell ⟨B, O + 1, none⟩ (.int .i64 (en i : Nat))).heap[x]? = W5.heap[x]? := fun x hx => Below.heap_setCell _ _ _ _ hx
      have F := fun m => pack_fin (W' := W') (en (i + 1)) c[i] L W2.heap.size h hL6 hU6 hO.sb (box_set fB1 (by omega)) (box_set fB2 (by omega)) (box_set fB3 (by omega)) ((hf6 L (by omega)).trans fL) ((hf6 _ (by omega)).trans fD) ((hf6 _ (by omega)).trans fN) (by omega) (by omega) m
      gi_wp2_with ((refine ⟨trivial, ?_⟩); gi_at_call 261; (refine (CallsIn.inRound L (callsIn_wide.2 cend)).mono ?_); rintro e W7 ⟨rfl, m7, hw⟩; (have q := F m7); (rw [← hw] at q); (obtain ⟨q1, q2, q3, q4, q5, q6⟩ := q); clear hw F)
      obtain ⟨r1, r2, r3, r4, r5, r6⟩ := q6.out _ rfl
      exact ⟨r1, r2, by rw [packN_succ hn]; exact r3, r4, r5, r6⟩
  case done =>
    rintro W' ⟨g1, g2, g3, g4, g5⟩ hD
    dsimp only
    have hrl : (packN s c bl p l en c.length).row.length = s.row.length := packN_row c.length
    have hel := k.end_le
    have fr := f.row
    have cs := g3.cell
    have ce := g4.cell
    have c0 := g2.cell 0
    have th0 := g2.thaw 0
    have ltD := (Array.getElem?_eq_some_iff.1 hD).1
    obtain ⟨ao, cap, hvr, hao⟩ : ∃ ao cap, vr = .slice ao s.row.length cap ∧ ((ao = none ∧ s.row.length = 0 ∧ cap = 0) ∨ (∃ g, ao = some ⟨g, 0, none⟩ ∧ s.row.length ≤ cap)) := by
      rcases g2.row.2 with ⟨e, e'⟩ | ⟨g, cap, cur, e, _, _, hc, _⟩
      · rw [hrl] at e'
        exact ⟨none, 0, by rw [e, e'], .inl ⟨rfl, e', rfl⟩⟩
      · rw [hrl] at e hc
        exact ⟨_, cap, e, .inr ⟨g, rfl, hc⟩⟩
    simp [Sto.obj, hvr] at c0
    obtain ⟨E, hE⟩ : ∃ E, E = en c.length := ⟨_, rfl⟩
    rw [← hE] at ce hel
    have hcut : (if cap = 0 then ao else Option.map (fun x => x.add 0) ao) = ao := by
      rcases hao with ⟨rfl, _, rfl⟩ | ⟨g, rfl, _⟩
      · rfl
      · split
        · rfl
        · simp [Addr.add]
    have hcap : (E : Int) ≤ cap := by
      rcases hao with ⟨_, h1, rfl⟩ | ⟨g, _, h1⟩ <;> omega
    have hE0 : (0 : Int) ≤ E := by omega
    have hown := own_take g2.row (o := ao) (cap := cap) (by rw [hrl]; exact hvr) (m := E) (by rw [hrl]; exact hel)
    have hLf : ∀ Wx, Lay Wx sb vr vb vf (packN s c bl p l en c.length) → Lay ((Wx.setCell ⟨sb, 0, none⟩ (.slice ao E cap)).setCell ⟨sb, 10, none⟩ (.bool false)) sb (.slice ao E cap) vb vf (packedSto s c bl p l en) := by
      intro Wx hx
      have hown := own_take hx.row (o := ao) (cap := cap) (by rw [hrl]; exact hvr) (m := E) (by rw [hrl]; exact hel)
      rw [← List.map_take] at hown
      have hlen : ((packN s c bl p l en c.length).row.take E).length = E := by rw [List.length_take, hrl]; omega
      have h1 : Lay (Wx.setCell ⟨sb, 0, none⟩ (.slice ao E cap)) sb (.slice ao E cap) vb vf { packN s c bl p l en c.length with row := (packN s c bl p l en c.length).row.take E } := by
        refine hx.regrow_row (v2 := .slice ao E cap) ⟨rfl, rfl, rfl, Nat.le_refl _, fun _ _ _ => rfl⟩ ?_
        rw [hlen]; exact hown
      have h2 := h1.store (s' := packedSto s c bl p l en) 10 (.bool false) (by simp [Sto.obj, packedSto]) (by rw [packedSto, ← hE]) rfl rfl
      exact h2
    have HO : Own S sb (.slice ao E cap) vb vf := ⟨hO.sb, fun k e => hO.row k (by rw [hvr]; cases ao <;> exact e), hO.blk, hO.free⟩
    have HLf := (show Hid _ from hLf)
    have HO' := (show Hid _ from HO)
    have k10 : ∀ v, (W'.setCell ⟨sb, 0, none⟩ v).drew.frozen? ⟨sb, 10, none⟩ = false := fun v => by
      show (W'.setCell ⟨sb, 0, none⟩ v).frozen? ⟨sb, 10, none⟩ = false
      rw [World.frozen?_setCell]; exact g2.thaw 10
    have c10 : ∀ v, (W'.setCell ⟨sb, 0, none⟩ v).drew.cell? ⟨sb, 10, none⟩ = some (.bool (packN s c bl p l en c.length).sought) := fun v => by
      show (W'.setCell ⟨sb, 0, none⟩ v).cell? ⟨sb, 10, none⟩ = _
      rw [World.cell?_setCell_other _ _ _ _ (by simp)]; exact g2.cell 10
    have cs' : ∀ v, (W'.setCell ⟨sb, 0, none⟩ v).drew.cell? ⟨W.heap.size, 0, none⟩ = some (.pointer (some ⟨sb, 0, none⟩)) := fun v => by
      show (W'.setCell ⟨sb, 0, none⟩ v).cell? ⟨W.heap.size, 0, none⟩ = _
      rw [World.cell?_setCell_far _ _ _ _ (by show sb ≠ W.heap.size; omega)]; exact cs
    clear hLf HO hE hown
    go_wp2
    refine wp_region_noPanic ?_
    go_region
    refine NoPanic.normal ?_
    go_wp2
    refine ⟨by simp, .inl ⟨_, _, rfl, run_takeDeferred (pack_def hD (by omega)), ?_⟩⟩
    refine ⟨_, results_none rfl _ _ _, rfl, ?_, _, ?_, HO'⟩
    · exact ((((g1.setCell (p := ⟨sb, 0, none⟩) (.inl hO.sb) _).drew).setCell (p := ⟨sb, 10, none⟩) (.inl hO.sb) _)).putObj (.inr ⟨by omega, by simpa [World.setCell, World.drew] using ltD⟩) _
    · have hl := HLf.out W' g2
      have hne : ∀ x : Nat, x < W.heap.size → (((W'.setCell ⟨sb, 0, none⟩ (.slice ao E cap)).drew.setCell ⟨sb, 10, none⟩ (.bool false)).putObj W2.heap.size (.deferred none)).heap[x]? = ((W'.setCell ⟨sb, 0, none⟩ (.slice ao E cap)).setCell ⟨sb, 10, none⟩ (.bool false)).heap[x]? := fun x hx => by
        rw [World.putObj_heap_other (by omega)]; rfl
      refine hl.kept (hne _ lsb) (fun k e => hne _ (lr k (by rw [hvr]; cases ao <;> exact e))) (fun k e => hne _ (lb k e)) (fun k e => hne _ (lf k e))
  case stop => rintro c W' hF; exact hF.elim
end Go.Proofs.YtgkakflnmpoadaaGreatDoor.W
