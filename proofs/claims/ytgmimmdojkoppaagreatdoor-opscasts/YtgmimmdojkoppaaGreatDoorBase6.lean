import Derived.Test.YtgmimmdojkoppaaGreatDoorBase5
import Derived.Deep.RegionLaw
/- Package store: the heap of free Ids: its methods. -/
namespace Go.Proofs.YtgmimmdojkoppaaGreatDoor.W
open Go.ChangeShapes Go.WideShapes Go.RowKit Go.Shelf
set_option linter.unusedVariables false
section
variable {W : World} {sb : Nat} {vr vb vf : Value} {s : Sto}
theorem meth_push (sb : Nat) (w : World) : (method 414 224 (.pointer (some ⟨sb, 7, none⟩)) "Push").run Tryz.prog w = .ok (334, .pointer (some ⟨sb, 7, none⟩)) w := by kernel_rfl
theorem meth_pop (sb : Nat) (w : World) : (method 414 224 (.pointer (some ⟨sb, 7, none⟩)) "Pop").run Tryz.prog w = .ok (333, .pointer (some ⟨sb, 7, none⟩)) w := by kernel_rfl
theorem meth_len (sb : Nat) (w : World) (o : Option Addr) (n c : Nat) (hc : w.cell? ⟨sb, 7, none⟩ = some (.slice o n c)) : (method 414 224 (.pointer (some ⟨sb, 7, none⟩)) "Len").run Tryz.prog w = .ok (330, .slice o n c) w := by
  have e : (method 414 224 (.pointer (some ⟨sb, 7, none⟩)) "Len").run Tryz.prog w = ((do let v ← loadVar 71 ⟨sb, 7, none⟩; pure (330, v) : Sem (FuncId × Value))).run Tryz.prog w := by kernel_rfl
  rw [e]
  simp [go_sem, loadVar, hc]
theorem meth_less (sb : Nat) (w : World) (o : Option Addr) (n c : Nat) (hc : w.cell? ⟨sb, 7, none⟩ = some (.slice o n c)) : (method 414 224 (.pointer (some ⟨sb, 7, none⟩)) "Less").run Tryz.prog w = .ok (331, .slice o n c) w := by
  have e : (method 414 224 (.pointer (some ⟨sb, 7, none⟩)) "Less").run Tryz.prog w = ((do let v ← loadVar 71 ⟨sb, 7, none⟩; pure (331, v) : Sem (FuncId × Value))).run Tryz.prog w := by kernel_rfl
  rw [e]
  simp [go_sem, loadVar, hc]
theorem meth_swap (sb : Nat) (w : World) (o : Option Addr) (n c : Nat) (hc : w.cell? ⟨sb, 7, none⟩ = some (.slice o n c)) : (method 414 224 (.pointer (some ⟨sb, 7, none⟩)) "Swap").run Tryz.prog w = .ok (332, .slice o n c) w := by
  have e : (method 414 224 (.pointer (some ⟨sb, 7, none⟩)) "Swap").run Tryz.prog w = ((do let v ← loadVar 71 ⟨sb, 7, none⟩; pure (332, v) : Sem (FuncId × Value))).run Tryz.prog w := by kernel_rfl
  rw [e]
  simp [go_sem, loadVar, hc]
theorem fcell (h : Lay W sb vr vb vf s) {g cap : Nat} (hf : vf = .slice (some ⟨g, 0, none⟩) s.free.length cap) (j : Nat) (hj : j < s.free.length) : W.cell? ⟨g, j, none⟩ = some (.int .i64 s.free[j]) := by
  subst hf
  rw [h.free.cellAt j (by omega)]
  simp [hj]
theorem less_c (h : Lay W sb vr vb vf s) {g cap : Nat} (hf : vf = .slice (some ⟨g, 0, none⟩) s.free.length cap) (hlen : s.free.length ≤ 1000000000) (i j : Nat) (hi : i < s.free.length) (hj : j < s.free.length) :
    Calls Tryz.prog 331 #[.slice (some ⟨g, 0, none⟩) s.free.length cap, .int .i64 i, .int .i64 j] W fun e w' => e = .returned (.bool (decide (s.free[i] < s.free[j]))) ∧ ∃ m, w' = W.drewN m := by
  have ci := fcell h hf i hi
  have cj := fcell h hf j hj
  have i0 : (0 : Int) ≤ i := by omega
  have i1 : (i : Int) < s.free.length := by omega
  have j0 : (0 : Int) ≤ j := by omega
  have j1 : (j : Int) < s.free.length := by omega
  generalize s.free[i] = x at *
  generalize s.free[j] = y at *
  go_enter Tryz.func331, Tryz.ntmps331
  go_wp2
  go_quiet (fail)
  go_wp2
  go_ret
  exact ⟨rfl, _, rfl⟩
/-- two elements change places -/
def swp (l : List Int) (i j : Nat) : List Int := (l.set i (l.getD j 0)).set j (l.getD i 0)
theorem swp_len (l : List Int) (i j : Nat) : (swp l i j).length = l.length := by simp [swp]
theorem Lay.fstore (h : Lay W sb vr vb vf s) {g cap : Nat} (hr : vf = .slice (some ⟨g, 0, none⟩) s.free.length cap) (j : Nat) (n : Int) : Lay (W.setCell ⟨g, j, none⟩ (.int .i64 n)) sb vr vb vf { s with free := s.free.set j n } := by
  subst hr
  have hst := (h.free.stored j (.int .i64 n)).1
  obtain ⟨_, hq⟩ := h.free
  rcases hq with ⟨hq, _⟩ | ⟨g', cap', cur, hq, _, hgg, _⟩
  · cases hq
  · simp at hq
    obtain ⟨rfl, rfl⟩ := hq
    refine ⟨?_, own_other h.row hgg (by decide) _ _, own_other h.blk hgg (by decide) _ _, ?_⟩
    · rw [Below.heap_setCell _ _ _ _ (by rintro rfl; have := h.obj; rw [hgg] at this; simp at this)]
      exact h.obj
    · show World.ownsRow _ 0 3 1 (.slice (some ⟨g, 0, none⟩) s.free.length cap) (s.free.set j n).length ((s.free.set j n).map (.int .i64))
      rw [List.length_set, List.map_set]
      exact hst
theorem swap_c (h : Lay W sb vr vb vf s) {g cap : Nat} (hf : vf = .slice (some ⟨g, 0, none⟩) s.free.length cap) (hlen : s.free.length ≤ 1000000000) (i j : Nat) (hi : i < s.free.length) (hj : j < s.free.length) :
    Calls Tryz.prog 332 #[.slice (some ⟨g, 0, none⟩) s.free.length cap, .int .i64 i, .int .i64 j] W fun e w' => e = .returned (.tuple #[]) ∧ Lay w' sb vr vb vf { s with free := swp s.free i j } ∧ Upd (fun k => k = g) W w' := by
  have ci := fcell h hf i hi
  have cj := fcell h hf j hj
  have fr := h.free
  rw [hf] at fr
  have ti := fr.frozenAt i
  have tj := fr.frozenAt j
  have i0 : (0 : Int) ≤ i := by omega
  have i1 : (i : Int) < s.free.length := by omega
  have j0 : (0 : Int) ≤ j := by omega
  have j1 : (j : Int) < s.free.length := by omega
  have hx : s.free.getD i 0 = s.free[i] := by simp [hi]
  have hy : s.free.getD j 0 = s.free[j] := by simp [hj]
  have hL1 := h.fstore hf i (s.free.getD j 0)
  have hL2 := hL1.fstore (g := g) (cap := cap) (by rw [hf]; simp) j (s.free.getD i 0)
  have hU2 := ((Upd.refl (fun k => k = g) W).setCell (p := ⟨g, i, none⟩) (.inl rfl) (.int .i64 (s.free.getD j 0))).setCell (p := ⟨g, j, none⟩) (.inl rfl) (.int .i64 (s.free.getD i 0))
  obtain ⟨v2, hv2⟩ : ∃ v2, (W.setCell ⟨g, i, none⟩ (.int .i64 (s.free.getD j 0))).cell? ⟨g, j, none⟩ = some v2 := by
    have e := fcell hL1 (g := g) (cap := cap) (by rw [hf]; simp) j (by simpa using hj)
    exact ⟨_, e⟩
  rw [hx, hy] at hL2 hU2
  rw [hy] at hv2
  have HL := (show Hid _ from hL2)
  have HU := (show Hid _ from hU2)
  clear hL1 hL2 hU2
  generalize s.free[i] = x at *
  generalize s.free[j] = y at *
  go_enter Tryz.func332, Tryz.ntmps332
  go_wp2
  go_region
  go_wp2
  go_end0
  refine ⟨rfl, ?_, HU.out.drew⟩
  have e : swp s.free i j = (s.free.set i y).set j x := by rw [swp, hx, hy]
  rw [e]
  exact HL.out.drew
theorem info3 : (Tryz.prog.info? 3).map (fun i => (i.zero, i.size, i.bytes)) = some (some (.int .i64 0), 1, 8) := by kernel_rfl
theorem under61 : Tryz.prog.underlying 71 = some (.slice 3) := by kernel_rfl
theorem step_append_run {P : Program} {ops : Array Oper} {o : Oper} {a : Act} {w : World} {K : Act → World → Prop} {Q : Exit → Act → World → Prop} {E : Prop} (hg : o.guard = none) (s x : Operand) (t tn : TypeId)
    (ho : o.op = .call { callee := .builtin .append, args := #[s, x], argTypes := #[t, tn] }) (vs vx : Value) (hs : a.eval s = vs) (hx : a.eval x = vx) (v' : Value) (w' : World) (hr : (Builtin.append_ #[t, tn] o.type #[vs, vx]).run P w = .ok v' w') (hK : K (a.put o.dst v') w') :
    if Region.wanted o (yielded ops a.tmps) = true then Oper.wp P o a w K Q else E := by
  have hw : Region.wanted o (yielded ops a.tmps) = true := by simp [Region.wanted, hg]
  rw [if_pos hw]
  exact Lib.wp_append_run w s x t tn ho vs vx hs hx v' w' hr hK
theorem assert_int (x : Int) (w : World) : (Instr.typeAssert (.iface 3 (.int .i64 x)) 20 3 false).run Tryz.prog w = .ok (.int .i64 x) w := by kernel_rfl
theorem push_m (h : Lay W sb vr vb vf s) (hlen : s.free.length ≤ 1000000000) (x : Int) {S : Nat → Prop} (hO : Own S sb vr vb vf) :
    Calls Tryz.prog 334 #[.pointer (some ⟨sb, 7, none⟩), .iface 3 (.int .i64 x)] W fun e w' => e = .returned (.tuple #[]) ∧ Upd S W w' ∧ ∃ vf', Lay w' sb vr vb vf' { s with free := s.free ++ [x] } ∧ Own (Nx S W w') sb vr vb vf' := by
  obtain ⟨i0, hi, hz0, hz1, hz2⟩ := info_parts info3
  have hLa := (h.alloc (.cells #[.int .i64 x] 3)).drew
  have hnews : ∀ j u, [Value.int .i64 x][j]? = some u → ((W.alloc (.cells #[.int .i64 x] 3)).drew).cell? ((⟨W.heap.size, 0, none⟩ : Addr).add j) = some u := by
    intro j u hj
    have e : (⟨W.heap.size, 0, none⟩ : Addr).add j = ⟨W.heap.size, j, none⟩ := by unfold Addr.add; split <;> simp_all
    rw [e]
    have := World.cell?_alloc_new W #[Value.int .i64 x] 3 j
    show (W.alloc (.cells #[.int .i64 x] 3)).cell? ⟨W.heap.size, j, none⟩ = _
    rw [this]
    simpa using hj
  obtain ⟨vf', W4, hrun, hown, hgr, hnew⟩ := append_at (P := Tryz.prog) ((W.alloc (.cells #[.int .i64 x] 3)).drew) 71 71 3 i0 _ 1 8 under61 hi hz0 hz1 hz2 rfl (by decide) vf s.free.length (s.free.map (.int .i64)) hLa.free ⟨W.heap.size, 0, none⟩ 1 1 [.int .i64 x] rfl hnews (by intro u hu; simp at hu; subst hu; rfl) (by decide) (by decide) (by omega)
  obtain ⟨g4, cap4, rfl, hcap4⟩ := own_slice hown (by omega)
  have hL5 : Lay (W4.setCell ⟨sb, 7, none⟩ (.slice (some ⟨g4, 0, none⟩) (s.free.length + 1) cap4)) sb vr vb (.slice (some ⟨g4, 0, none⟩) (s.free.length + 1) cap4) { s with free := s.free ++ [x] } := by
    refine hLa.regrow_free hgr ?_
    rw [List.length_append, List.map_append]
    exact hown
  have hUa := ((Upd.refl S W).alloc (.cells #[.int .i64 x] 3)).drew
  have hU4 := hUa.grown hgr (fun k e => .inl (hO.free k e))
  have hU5 := hU4.setCell (p := ⟨sb, 7, none⟩) (.inl hO.sb) (.slice (some ⟨g4, 0, none⟩) (s.free.length + 1) cap4)
  have za : ((W.alloc (.cells #[.int .i64 x] 3)).drew).heap.size = W.heap.size + 1 := by
    show (W.alloc (.cells #[.int .i64 x] 3)).heap.size = _
    rw [World.size_alloc]
  have hO5 : Own (Nx S W (W4.setCell ⟨sb, 7, none⟩ (.slice (some ⟨g4, 0, none⟩) (s.free.length + 1) cap4))) sb vr vb (.slice (some ⟨g4, 0, none⟩) (s.free.length + 1) cap4) := by
    refine ⟨.inl hO.sb, fun k e => .inl (hO.row k e), fun k e => .inl (hO.blk k e), fun k e => ?_⟩
    rcases hnew k e with g | ⟨g1, g2⟩
    · exact .inl (hO.free k g)
    · exact .inr ⟨by omega, by simpa [World.setCell] using g2⟩
  have hob4 : W4.heap[sb]? = ((W.alloc (.cells #[.int .i64 x] 3)).drew).heap[sb]? := hgr.block sb (lay_lt hLa).1 (own_ne hLa.free hLa.obj (by decide))
  have th4 : W4.frozen? ⟨sb, 7, none⟩ = false := by rw [World.frozen?_of_block hob4]; exact hLa.thaw 7
  have c4 : W4.cell? ⟨sb, 7, none⟩ = some vf := by rw [World.cell?_of_block hob4, hLa.cell 7]; rfl
  have c7 := h.cell 7
  simp [Sto.obj] at c7
  have c7a := (h.alloc (.cells #[.int .i64 x] 3)).cell 7
  simp [Sto.obj] at c7a
  obtain ⟨o, cap, hvf⟩ := slice_of h.free
  rw [hvf] at hrun c4 c7 c7a
  have HL := (show Hid _ from hL5)
  have HU := (show Hid _ from hU5)
  have HO := (show Hid _ from hO5)
  clear hL5 hU5 hO5 hU4 hUa hgr hnew hown hob4 hLa
  have hta := assert_int x
  go_enter Tryz.func334, Tryz.ntmps334
  go_wp2
  go_region_law (refine step_append_run rfl (.tmp 7) (.tmp 10) 71 71 rfl _ _ (by simp [Act.eval]) (by simp [Act.eval]) _ _ hrun ?_)
  all_goals (
    go_end0
    exact ⟨rfl, HU, _, HL, HO⟩)
theorem free_take {n : Nat} {free : List Int} (h : free.length = n + 1) : free.dropLast.length = n ∧ (free.map (Value.int .i64)).take n = free.dropLast.map (.int .i64) := by
  refine ⟨by simp [h], ?_⟩
  rw [← List.map_take, List.dropLast_eq_take, h]
  rfl
theorem pop_m (h : Lay W sb vr vb vf s) (n : Nat) (hn : s.free.length = n + 1) (hlen : s.free.length ≤ 1000000000) {S : Nat → Prop} (hO : Own S sb vr vb vf) :
    Calls Tryz.prog 333 #[.pointer (some ⟨sb, 7, none⟩)] W fun e w' => e = .returned (.iface 3 (.int .i64 (s.free.getD n 0))) ∧ Upd S W w' ∧ ∃ vf', Lay w' sb vr vb vf' { s with free := s.free.dropLast } ∧ Own S sb vr vb vf' := by
  obtain ⟨g, cap, hf, hcap⟩ := own_slice h.free (by omega)
  have cn := fcell h hf n (by omega)
  have hx : s.free.getD n 0 = s.free[n] := by simp [hn]
  rw [hx]
  have c7 := h.cell 7
  have th := h.thaw 7
  simp [Sto.obj, hf] at c7
  have ho : W.ownsRow 0 3 1 (.slice (some ⟨g, 0, none⟩) n cap) n ((s.free.map (.int .i64)).take n) := own_take h.free hf (by omega)
  obtain ⟨e1, e2⟩ := free_take hn
  rw [e2] at ho
  have hL2 : Lay (W.setCell ⟨sb, 7, none⟩ (.slice (some ⟨g, 0, none⟩) n cap)) sb vr vb (.slice (some ⟨g, 0, none⟩) n cap) { s with free := s.free.dropLast } := by
    refine h.regrow_free (v2 := .slice (some ⟨g, 0, none⟩) n cap) ⟨rfl, rfl, rfl, Nat.le_refl _, fun _ _ _ => rfl⟩ ?_
    rw [e1]; exact ho
  have hU2 := (Upd.refl S W).setCell (p := ⟨sb, 7, none⟩) (.inl hO.sb) (.slice (some ⟨g, 0, none⟩) n cap)
  have hO2 : Own S sb vr vb (.slice (some ⟨g, 0, none⟩) n cap) := ⟨hO.sb, hO.row, hO.blk, fun k e => hO.free k (by rw [hf]; exact e)⟩
  have HL := (show Hid _ from hL2)
  have HU := (show Hid _ from hU2)
  have HO := (show Hid _ from hO2)
  have n0 : (0 : Int) ≤ n := by omega
  have n1 : (n : Int) < s.free.length := by omega
  have n2 : (n : Int) ≤ cap := by omega
  have n3 : ((s.free.length : Nat) : Int) = n + 1 := by omega
  have n4 : ¬ cap = 0 := by omega
  rw [hn] at c7
  clear hL2 hU2 hO2 ho hx
  generalize s.free[n] = x at *
  go_enter Tryz.func333, Tryz.ntmps333
  go_wp2
  go_ret
  exact ⟨rfl, HU, _, HL, HO⟩
end
end Go.Proofs.YtgmimmdojkoppaaGreatDoor.W
/- Rows that are heaps: the least is first. -/
namespace Go.Proofs.YtgmimmdojkoppaaGreatDoor.W
def hp (l : List Int) (i : Nat) : Int := l.getD i 0
def IsHeap (l : List Int) (n : Nat) : Prop := ∀ k, 0 < k → k < n → hp l ((k - 1) / 2) ≤ hp l k
theorem hp_swp (l : List Int) (i j k : Nat) (hi : i < l.length) (hj : j < l.length) : hp (swp l i j) k = if k = j then hp l i else if k = i then hp l j else hp l k := by
  unfold hp swp
  simp only [List.getD, List.getElem?_set, List.length_set]
  by_cases h1 : k = j
  · subst h1; simp [hj]
  · have h1' : ¬ j = k := fun e => h1 e.symm
    by_cases h2 : k = i
    · subst h2; simp [h1, h1', hi]
    · have h2' : ¬ i = k := fun e => h2 e.symm
      simp [h1, h1', h2, h2']
theorem swp_perm (l : List Int) (i j : Nat) (hi : i < l.length) (hj : j < l.length) : (swp l i j).Perm l := by
  have := List.set_set_perm hi hj
  unfold swp
  simpa [List.getD, hi, hj] using this
structure UpInv (l : List Int) (n j : Nat) : Prop where
  lt : j < n
  rest : ∀ k, 0 < k → k < n → k ≠ j → hp l ((k - 1) / 2) ≤ hp l k
  kids : 0 < j → ∀ k, 0 < k → k < n → (k - 1) / 2 = j → hp l ((j - 1) / 2) ≤ hp l k
theorem UpInv.exit {l : List Int} {n j : Nat} (h : UpInv l n j) (he : j = 0 ∨ ¬ hp l j < hp l ((j - 1) / 2)) : IsHeap l n := by
  intro k h0 hk
  by_cases e : k = j
  · subst e
    rcases he with rfl | he
    · omega
    · omega
  · exact h.rest k h0 hk e
theorem UpInv.step {l : List Int} {n j : Nat} (h : UpInv l n j) (hl : n ≤ l.length) (hj : 0 < j) (hs : hp l j < hp l ((j - 1) / 2)) : UpInv (swp l ((j - 1) / 2) j) n ((j - 1) / 2) := by
  have hlt := h.lt
  have g := fun k => hp_swp l ((j - 1) / 2) j k (by omega) (by omega)
  refine ⟨by omega, ?_, ?_⟩
  · intro k h0 hk hne
    rw [g, g]
    by_cases e : k = j
    · subst e
      rw [if_neg (by omega), if_pos rfl, if_pos rfl]; omega
    · rw [if_neg e, if_neg hne]
      by_cases e2 : (k - 1) / 2 = j
      · rw [if_pos e2]; exact h.kids hj k h0 hk e2
      · rw [if_neg e2]
        by_cases e3 : (k - 1) / 2 = (j - 1) / 2
        · rw [if_pos e3]
          have := h.rest k h0 hk e
          rw [e3] at this; omega
        · rw [if_neg e3]; exact h.rest k h0 hk e
  · intro hi k h0 hk e
    rw [g, g, if_neg (by omega), if_neg (by omega)]
    have hp1 := h.rest ((j - 1) / 2) hi (by omega) (by omega)
    by_cases e2 : k = j
    · rw [if_pos e2]; exact hp1
    · rw [if_neg e2, if_neg (by omega)]
      have := h.rest k h0 hk e2
      rw [e] at this; omega
structure DownInv (l : List Int) (n i : Nat) : Prop where
  rest : ∀ k, 0 < k → k < n → (k - 1) / 2 ≠ i → hp l ((k - 1) / 2) ≤ hp l k
  kids : 0 < i → ∀ k, 0 < k → k < n → (k - 1) / 2 = i → hp l ((i - 1) / 2) ≤ hp l k
theorem DownInv.exit {l : List Int} {n i j : Nat} (h : DownInv l n i) (he : n ≤ 2 * i + 1 ∨ ((2 * i + 1 < n → hp l j ≤ hp l (2 * i + 1)) ∧ (2 * i + 2 < n → hp l j ≤ hp l (2 * i + 2)) ∧ ¬ hp l j < hp l i)) : IsHeap l n := by
  intro k h0 hk
  by_cases e : (k - 1) / 2 = i
  · rcases he with he | ⟨h1, h2, h3⟩
    · omega
    · rw [e]
      rcases (show k = 2 * i + 1 ∨ k = 2 * i + 2 by omega) with rfl | rfl
      · have := h1 hk; omega
      · have := h2 hk; omega
  · exact h.rest k h0 hk e
theorem DownInv.step {l : List Int} {n i j : Nat} (h : DownInv l n i) (hl : n ≤ l.length) (hj : j = 2 * i + 1 ∨ j = 2 * i + 2) (hjn : j < n) (h1 : 2 * i + 1 < n → hp l j ≤ hp l (2 * i + 1)) (h2 : 2 * i + 2 < n → hp l j ≤ hp l (2 * i + 2)) (hs : hp l j < hp l i) : DownInv (swp l i j) n j := by
  have g := fun k => hp_swp l i j k (by omega) (by omega)
  have hpj : (j - 1) / 2 = i := by omega
  refine ⟨?_, ?_⟩
  · intro k h0 hk hne
    rw [g, g, if_neg hne]
    by_cases e : (k - 1) / 2 = i
    · rw [if_pos e]
      by_cases e2 : k = j
      · rw [if_pos e2]; omega
      · rw [if_neg e2, if_neg (by omega)]
        rcases (show k = 2 * i + 1 ∨ k = 2 * i + 2 by omega) with rfl | rfl
        · exact h1 hk
        · exact h2 hk
    · rw [if_neg e, if_neg (by omega)]
      by_cases e3 : k = i
      · rw [if_pos e3]
        subst e3
        exact h.kids h0 j (by omega) hjn hpj
      · rw [if_neg e3]; exact h.rest k h0 hk e
  · intro hj0 k h0 hk e
    rw [g, g, hpj, if_neg (by omega), if_pos rfl, if_neg (by omega), if_neg (by omega)]
    have := h.rest k h0 hk (by omega)
    rw [e] at this; exact this
theorem heap_least {l : List Int} {n : Nat} (h : IsHeap l n) (k : Nat) (hk : k < n) : hp l 0 ≤ hp l k := by
  induction k using Nat.strongRecOn with
  | ind k ih =>
    by_cases e : k = 0
    · rw [e]; exact Int.le_refl _
    · have h1 := h k (by omega) hk
      have h2 := ih ((k - 1) / 2) (by omega) (by omega)
      omega
theorem down_start {l : List Int} {n : Nat} (h : IsHeap l (n + 1)) (hl : l.length = n + 1) : DownInv (swp l 0 n) n 0 := by
  have g := fun k => hp_swp l 0 n k (by omega) (by omega)
  refine ⟨?_, fun h0 => absurd h0 (by omega)⟩
  intro k h0 hk hne
  rw [g, g, if_neg (by omega), if_neg (by omega), if_neg (by omega), if_neg (by omega)]
  exact h k h0 (by omega)
theorem up_start {l : List Int} (h : IsHeap l l.length) (x : Int) : UpInv (l ++ [x]) (l.length + 1) l.length := by
  have e : ∀ k, k < l.length → hp (l ++ [x]) k = hp l k := fun k hk => by unfold hp; simp [List.getD, List.getElem?_append_left hk]
  refine ⟨by omega, ?_, ?_⟩
  · intro k h0 hk hne
    rw [e _ (by omega), e _ (by omega)]
    exact h k h0 (by omega)
  · intro h0 k h1 hk he
    omega
end Go.Proofs.YtgmimmdojkoppaaGreatDoor.W
/- container/heap over the free Ids: up, down, Push, Pop. -/
namespace Go.Proofs.YtgmimmdojkoppaaGreatDoor.W
open Go.ChangeShapes Go.WideShapes Go.RowKit Go.Shelf
set_option linter.unusedVariables false
/-- the store with other free Ids -/
def Sto.fr (s : Sto) (l : List Int) : Sto := { s with free := l }
section
variable {W : World} {sb : Nat} {vr vb vf : Value} {s : Sto}
theorem less_h (h : Lay W sb vr vb vf s) {g cap n : Nat} (hf : vf = .slice (some ⟨g, 0, none⟩) n cap) (hn : s.free.length = n) (hlen : n ≤ 1000000000) (i j : Nat) (hi : i < n) (hj : j < n) :
    Calls Tryz.prog 331 #[.slice (some ⟨g, 0, none⟩) n cap, .int .i64 i, .int .i64 j] W fun e w' => e = .returned (.bool (decide (hp s.free i < hp s.free j))) ∧ ∃ m, w' = W.drewN m := by
  subst hn
  have := less_c h hf hlen i j hi hj
  have e1 : hp s.free i = s.free[i] := by simp [hp, hi]
  have e2 : hp s.free j = s.free[j] := by simp [hp, hj]
  rw [e1, e2]; exact this
theorem swap_h (h : Lay W sb vr vb vf s) {g cap n : Nat} (hf : vf = .slice (some ⟨g, 0, none⟩) n cap) (hn : s.free.length = n) (hlen : n ≤ 1000000000) (i j : Nat) (hi : i < n) (hj : j < n) :
    Calls Tryz.prog 332 #[.slice (some ⟨g, 0, none⟩) n cap, .int .i64 i, .int .i64 j] W fun e w' => e = .returned (.tuple #[]) ∧ Lay w' sb vr vb vf (s.fr (swp s.free i j)) ∧ Upd (fun k => k = g) W w' := by
  subst hn
  exact swap_c h hf hlen i j hi hj
set_option maxHeartbeats 2000000 in
theorem up_c (h : Lay W sb vr vb vf s) {g cap : Nat} (hf : vf = .slice (some ⟨g, 0, none⟩) s.free.length cap) (hlen : s.free.length ≤ 1000000000) (j0 : Nat) (hinv : UpInv s.free s.free.length j0) :
    Calls Tryz.prog 264 #[.iface 224 (.pointer (some ⟨sb, 7, none⟩)), .int .i64 j0] W fun e w' => e = .returned (.tuple #[]) ∧ Upd (fun k => k = g) W w' ∧ ∃ free', free'.Perm s.free ∧ IsHeap free' s.free.length ∧ Lay w' sb vr vb vf (s.fr free') := by
  have HF := (show Hid _ from hf)
  clear hf
  go_enter Tryz.func264, Tryz.ntmps264
  go_wp2
  go_loopw [1] (fun jv wr => ∃ (j : Nat) (free' : List Int), jv = .int .i64 j ∧ free'.length = s.free.length ∧ free'.Perm s.free ∧ UpInv free' s.free.length j ∧ Lay wr sb vr vb vf (s.fr free') ∧ Upd (fun k => k = g) W wr) (fun jv _ => (intOf jv).toNat)
  case atStart => exact ⟨j0, s.free, rfl, rfl, List.Perm.refl _, hinv, h, Upd.refl _ _⟩
  case round =>
    obtain ⟨j, free', rfl, hl, hp1, hi, hL, hU⟩ := hrel
    have hjl := hi.lt
    have c7 := hL.cell 7
    simp [Sto.obj, Sto.fr, HF.out] at c7
    have HP := (show Hid _ from hp1)
    have HI := (show Hid _ from hi)
    have HL := (show Hid _ from hL)
    have HU := (show Hid _ from hU)
    by_cases hj0 : j = 0
    · subst hj0
      clear hL hU hp1 hi
      go_wp2
      go_end0
      exact ⟨rfl, HU, free', HP, HI.out.exit (.inl rfl), HL⟩
    · obtain ⟨q, hq⟩ : ∃ q, q = (j - 1) / 2 := ⟨_, rfl⟩
      have hjp : (1 : Int) ≤ j := by omega
      have e1 : ((j : Int) - 1).tdiv 2 = (q : Nat) := by
        rw [Int.tdiv_eq_ediv_of_nonneg (by omega)]; omega
      have hqi : q < j := by omega
      have m1 := fun k => meth_less sb (wr.drewN k) (some ⟨g, 0, none⟩) s.free.length cap c7
      have m2 := fun k => meth_swap sb (wr.drewN k) (some ⟨g, 0, none⟩) s.free.length cap c7
      have m10 := m1 0
      rw [World.drewN_zero] at m10
      have cl : Calls Tryz.prog 331 #[.slice (some ⟨g, 0, none⟩) s.free.length cap, .int .i64 j, .int .i64 q] wr fun e w' => e = .returned (.bool (decide (hp free' j < hp free' q))) ∧ ∃ m, w' = wr.drewN m := less_h hL HF.out hl (by omega) j q (by omega) (by omega)
      have csw : ∀ k, Calls Tryz.prog 332 #[.slice (some ⟨g, 0, none⟩) s.free.length cap, .int .i64 q, .int .i64 j] (wr.drewN k) fun e w' => e = .returned (.tuple #[]) ∧ Lay w' sb vr vb vf (s.fr (swp free' q j)) ∧ Upd (fun k => k = g) (wr.drewN k) w' := fun k => swap_h (hL.drewN k) HF.out hl (by omega) q j (by omega) (by omega)
      have hqe : (((q : Nat) : Int) == (j : Int)) = false := by simp; omega
      have hin : (j : Int) ≤ 1000000000 := by omega
      have HQ := (show Hid _ from hq)
      clear hL hU hp1 hi c7 hq
      by_cases hless : hp free' j < hp free' q
      · rw [decide_eq_true hless] at cl
        have HS : Hid (UpInv (swp free' q j) s.free.length q) := by
          have := HI.out.step (by omega) (by omega) (by rw [← HQ.out]; exact hless)
          rw [← HQ.out] at this
          exact this
        go_wp2_with (first | (go_at_call 331; (with_reducible refine cl.mono ?_); rintro e w' ⟨rfl, k1, hw⟩; (have hw' := hw.symm); subst hw'; clear hw) | (go_at_call 332; (with_reducible refine (csw _).mono ?_); rintro e W5 ⟨rfl, hL5, hU5⟩))
        go_roundw
        case rel => exact ⟨q, swp free' q j, rfl, by rw [swp_len]; exact hl, (swp_perm _ _ _ (by omega) (by omega)).trans HP.out, HS.out, hL5, (HU.out.drewN _).trans' hU5⟩
        case measure => simp [intOf]; omega
      · rw [decide_eq_false hless] at cl
        go_wp2_with (first | (go_at_call 331; (with_reducible refine cl.mono ?_); rintro e w' ⟨rfl, k1, hw⟩; (have hw' := hw.symm); subst hw'; clear hw))
        go_end0
        exact ⟨rfl, HU.out.drewN _, free', HP, HI.out.exit (.inr (by rw [← HQ.out]; omega)), HL.out.drewN _⟩
set_option maxHeartbeats 4000000 in
theorem down_c (h : Lay W sb vr vb vf s) {g cap : Nat} (hf : vf = .slice (some ⟨g, 0, none⟩) s.free.length cap) (hlen : s.free.length ≤ 1000000000) (n : Nat) (hn : n ≤ s.free.length) (hinv : DownInv s.free n 0) :
    Calls Tryz.prog 293 #[.iface 224 (.pointer (some ⟨sb, 7, none⟩)), .int .i64 0, .int .i64 n] W fun e w' => (∃ v, e = .returned v) ∧ Upd (fun k => k = g) W w' ∧ ∃ free', free'.Perm s.free ∧ IsHeap free' n ∧ (∀ k, n ≤ k → hp free' k = hp s.free k) ∧ Lay w' sb vr vb vf (s.fr free') := by
  have HF := (show Hid _ from hf)
  clear hf
  go_enter Tryz.func293, Tryz.ntmps293
  go_wp2
  go_loopw [7] (fun iv wr => ∃ (i : Nat) (free' : List Int), iv = .int .i64 i ∧ free'.length = s.free.length ∧ free'.Perm s.free ∧ DownInv free' n i ∧ (i ≤ n) ∧ (∀ k, n ≤ k → hp free' k = hp s.free k) ∧ Lay wr sb vr vb vf (s.fr free') ∧ Upd (fun k => k = g) W wr) (fun iv _ => n - (intOf iv).toNat)
  case atStart => exact ⟨0, s.free, rfl, rfl, List.Perm.refl _, hinv, Nat.zero_le _, fun _ _ => rfl, h, Upd.refl _ _⟩
  case round =>
    obtain ⟨i, free', rfl, hl, hp1, hi, hin, hkk, hL, hU⟩ := hrel
    have c7 := hL.cell 7
    simp [Sto.obj, Sto.fr, HF.out] at c7
    have HP := (show Hid _ from hp1)
    have HI := (show Hid _ from hi)
    have HL := (show Hid _ from hL)
    have HU := (show Hid _ from hU)
    have HK := (show Hid _ from hkk)
    have i0 : (0 : Int) ≤ i := by omega
    have i1 : (i : Int) ≤ 1000000000 := by omega
    have n1 : (n : Int) ≤ 1000000000 := by omega
    have m1 := fun k => meth_less sb (wr.drewN k) (some ⟨g, 0, none⟩) s.free.length cap c7
    have m2 := fun k => meth_swap sb (wr.drewN k) (some ⟨g, 0, none⟩) s.free.length cap c7
    have m10 := m1 0
    rw [World.drewN_zero] at m10
    obtain ⟨c1, hc1⟩ : ∃ c1, c1 = 2 * i + 1 := ⟨_, rfl⟩
    have e1 : (2 * (i : Int) + 1) = (c1 : Nat) := by omega
    by_cases hA : n ≤ c1
    · have hA' : (n : Int) ≤ c1 := by omega
      have HE : Hid (IsHeap free' n) := HI.out.exit (j := 0) (.inl (by omega))
      clear hL hU hp1 hi hkk hc1
      go_wp2
      go_ret
      exact ⟨⟨_, rfl⟩, HU, free', HP, HE.out, HK.out, HL⟩
    · have hA' : ¬ (n : Int) ≤ c1 := by omega
      have c0 : ¬ (c1 : Int) < 0 := by omega
      by_cases hB : n ≤ c1 + 1
      · have hB' : ¬ ((c1 : Int) + 1 < n) := by omega
        have cji : ∀ k, Calls Tryz.prog 331 #[.slice (some ⟨g, 0, none⟩) s.free.length cap, .int .i64 (c1 : Nat), .int .i64 i] (wr.drewN k) fun e w' => e = .returned (.bool (decide (hp free' c1 < hp free' i))) ∧ ∃ m, w' = (wr.drewN k).drewN m := fun k => less_h (hL.drewN k) HF.out hl (by omega) c1 i (by omega) (by omega)
        have cji0 := cji 0
        rw [World.drewN_zero] at cji0
        have csw : ∀ k, Calls Tryz.prog 332 #[.slice (some ⟨g, 0, none⟩) s.free.length cap, .int .i64 i, .int .i64 (c1 : Nat)] (wr.drewN k) fun e w' => e = .returned (.tuple #[]) ∧ Lay w' sb vr vb vf (s.fr (swp free' i c1)) ∧ Upd (fun k => k = g) (wr.drewN k) w' := fun k => swap_h (hL.drewN k) HF.out hl (by omega) i c1 (by omega) (by omega)
        clear hL hU hp1 hi hkk c7
        by_cases hless : hp free' c1 < hp free' i
        · rw [decide_eq_true hless] at cji0
          have HS : Hid (DownInv (swp free' i c1) n c1) := HI.out.step (by omega) (.inl hc1) (by omega) (fun _ => by rw [hc1]; exact Int.le_refl _) (fun _ => by omega) hless
          have HQ : Hid (∀ k, n ≤ k → hp (swp free' i c1) k = hp s.free k) := fun k hk => by
            rw [hp_swp _ _ _ _ (by omega) (by omega), if_neg (by omega), if_neg (by omega)]; exact HK.out k hk
          have hci : i < c1 := by omega
          have hcn : c1 < n := by omega
          clear hc1
          go_wp2_with (first | (go_at_call 331; (with_reducible refine cji0.mono ?_); rintro e w' ⟨rfl, k2, hw⟩; (have hw' := hw.symm); subst hw'; clear hw) | (go_at_call 332; (with_reducible refine (csw _).mono ?_); rintro e W5 ⟨rfl, hL5, hU5⟩))
          go_roundw
          case rel => exact ⟨c1, swp free' i c1, by go_num, by rw [swp_len]; exact hl, (swp_perm _ _ _ (by omega) (by omega)).trans HP.out, HS.out, by omega, HQ.out, hL5, (HU.out.drewN _).trans' hU5⟩
          case measure => simp [intOf]; omega
        · rw [decide_eq_false hless] at cji0
          have HE : Hid (IsHeap free' n) := HI.out.exit (j := c1) (.inr ⟨fun _ => by rw [hc1]; exact Int.le_refl _, fun _ => by omega, hless⟩)
          clear hc1
          go_wp2_with (first | (go_at_call 331; (with_reducible refine cji0.mono ?_); rintro e w' ⟨rfl, k2, hw⟩; (have hw' := hw.symm); subst hw'; clear hw))
          go_ret
          exact ⟨⟨_, rfl⟩, (HU.out.drewN _), free', HP, HE.out, HK.out, HL.out.drewN _⟩
      · have hB' : ((c1 : Int) + 1 < n) := by omega
        obtain ⟨c2, hc2⟩ : ∃ c2, c2 = c1 + 1 := ⟨_, rfl⟩
        have e2 : ((c1 : Int) + 1) = (c2 : Nat) := by omega
        rw [e2] at hB'
        have c21 : Calls Tryz.prog 331 #[.slice (some ⟨g, 0, none⟩) s.free.length cap, .int .i64 c2, .int .i64 c1] wr fun e w' => e = .returned (.bool (decide (hp free' c2 < hp free' c1))) ∧ ∃ m, w' = wr.drewN m := less_h hL HF.out hl (by omega) c2 c1 (by omega) (by omega)
        by_cases h21 : hp free' c2 < hp free' c1
        · rw [decide_eq_true h21] at c21
          have cji : ∀ k, Calls Tryz.prog 331 #[.slice (some ⟨g, 0, none⟩) s.free.length cap, .int .i64 (c2 : Nat), .int .i64 i] (wr.drewN k) fun e w' => e = .returned (.bool (decide (hp free' c2 < hp free' i))) ∧ ∃ m, w' = (wr.drewN k).drewN m := fun k => less_h (hL.drewN k) HF.out hl (by omega) c2 i (by omega) (by omega)
          have csw : ∀ k, Calls Tryz.prog 332 #[.slice (some ⟨g, 0, none⟩) s.free.length cap, .int .i64 i, .int .i64 (c2 : Nat)] (wr.drewN k) fun e w' => e = .returned (.tuple #[]) ∧ Lay w' sb vr vb vf (s.fr (swp free' i c2)) ∧ Upd (fun k => k = g) (wr.drewN k) w' := fun k => swap_h (hL.drewN k) HF.out hl (by omega) i c2 (by omega) (by omega)
          clear hL hU hp1 hi hkk c7
          by_cases hless : hp free' c2 < hp free' i
          · simp only [decide_eq_true hless] at cji
            have HS : Hid (DownInv (swp free' i c2) n c2) := HI.out.step (by omega) (.inr (by omega)) (by omega) (fun _ => by rw [← hc1]; omega) (fun _ => by rw [show 2 * i + 2 = c2 by omega]; exact Int.le_refl _) hless
            have HQ : Hid (∀ k, n ≤ k → hp (swp free' i c2) k = hp s.free k) := fun k hk => by
              rw [hp_swp _ _ _ _ (by omega) (by omega), if_neg (by omega), if_neg (by omega)]; exact HK.out k hk
            have hci : i < c2 := by omega
            have hcn : c2 < n := by omega
            clear hc1 hc2
            go_wp2_with (first | (go_at_call 331; (with_reducible refine c21.mono ?_); rintro e w' ⟨rfl, k1, hw⟩; (have hw' := hw.symm); subst hw'; clear hw c21) | (go_at_call 331; (with_reducible refine (cji _).mono ?_); rintro e w' ⟨rfl, k2, hw⟩; (have hw' := hw.symm); subst hw'; clear hw) | (go_at_call 332; (with_reducible refine (csw _).mono ?_); rintro e W5 ⟨rfl, hL5, hU5⟩))
            go_roundw
            case rel => exact ⟨c2, swp free' i c2, by go_num, by rw [swp_len]; exact hl, (swp_perm _ _ _ (by omega) (by omega)).trans HP.out, HS.out, by omega, HQ.out, hL5, (HU.out.drewN _).trans' hU5⟩
            case measure => simp [intOf]; omega
          · simp only [decide_eq_false hless] at cji
            have HE : Hid (IsHeap free' n) := HI.out.exit (j := c2) (.inr ⟨fun _ => by rw [← hc1]; omega, fun _ => by rw [show 2 * i + 2 = c2 by omega]; exact Int.le_refl _, hless⟩)
            clear hc1 hc2
            go_wp2_with (first | (go_at_call 331; (with_reducible refine c21.mono ?_); rintro e w' ⟨rfl, k1, hw⟩; (have hw' := hw.symm); subst hw'; clear hw c21) | (go_at_call 331; (with_reducible refine (cji _).mono ?_); rintro e w' ⟨rfl, k2, hw⟩; (have hw' := hw.symm); subst hw'; clear hw))
            go_ret
            exact ⟨⟨_, rfl⟩, (HU.out.drewN _), free', HP, HE.out, HK.out, HL.out.drewN _⟩
        · rw [decide_eq_false h21] at c21
          have cji : ∀ k, Calls Tryz.prog 331 #[.slice (some ⟨g, 0, none⟩) s.free.length cap, .int .i64 (c1 : Nat), .int .i64 i] (wr.drewN k) fun e w' => e = .returned (.bool (decide (hp free' c1 < hp free' i))) ∧ ∃ m, w' = (wr.drewN k).drewN m := fun k => less_h (hL.drewN k) HF.out hl (by omega) c1 i (by omega) (by omega)
          have csw : ∀ k, Calls Tryz.prog 332 #[.slice (some ⟨g, 0, none⟩) s.free.length cap, .int .i64 i, .int .i64 (c1 : Nat)] (wr.drewN k) fun e w' => e = .returned (.tuple #[]) ∧ Lay w' sb vr vb vf (s.fr (swp free' i c1)) ∧ Upd (fun k => k = g) (wr.drewN k) w' := fun k => swap_h (hL.drewN k) HF.out hl (by omega) i c1 (by omega) (by omega)
          clear hL hU hp1 hi hkk c7
          by_cases hless : hp free' c1 < hp free' i
          · simp only [decide_eq_true hless] at cji
            have HS : Hid (DownInv (swp free' i c1) n c1) := HI.out.step (by omega) (.inl hc1) (by omega) (fun _ => by rw [hc1]; exact Int.le_refl _) (fun _ => by rw [show 2 * i + 2 = c2 by omega]; omega) hless
            have HQ : Hid (∀ k, n ≤ k → hp (swp free' i c1) k = hp s.free k) := fun k hk => by
              rw [hp_swp _ _ _ _ (by omega) (by omega), if_neg (by omega), if_neg (by omega)]; exact HK.out k hk
            have hci : i < c1 := by omega
            have hcn : c1 < n := by omega
            clear hc1 hc2
            go_wp2_with (first | (go_at_call 331; (with_reducible refine c21.mono ?_); rintro e w' ⟨rfl, k1, hw⟩; (have hw' := hw.symm); subst hw'; clear hw c21) | (go_at_call 331; (with_reducible refine (cji _).mono ?_); rintro e w' ⟨rfl, k2, hw⟩; (have hw' := hw.symm); subst hw'; clear hw) | (go_at_call 332; (with_reducible refine (csw _).mono ?_); rintro e W5 ⟨rfl, hL5, hU5⟩))
            go_roundw
            case rel => exact ⟨c1, swp free' i c1, by go_num, by rw [swp_len]; exact hl, (swp_perm _ _ _ (by omega) (by omega)).trans HP.out, HS.out, by omega, HQ.out, hL5, (HU.out.drewN _).trans' hU5⟩
            case measure => simp [intOf]; omega
          · simp only [decide_eq_false hless] at cji
            have HE : Hid (IsHeap free' n) := HI.out.exit (j := c1) (.inr ⟨fun _ => by rw [hc1]; exact Int.le_refl _, fun _ => by rw [show 2 * i + 2 = c2 by omega]; omega, hless⟩)
            clear hc1 hc2
            go_wp2_with (first | (go_at_call 331; (with_reducible refine c21.mono ?_); rintro e w' ⟨rfl, k1, hw⟩; (have hw' := hw.symm); subst hw'; clear hw c21) | (go_at_call 331; (with_reducible refine (cji _).mono ?_); rintro e w' ⟨rfl, k2, hw⟩; (have hw' := hw.symm); subst hw'; clear hw))
            go_ret
            exact ⟨⟨_, rfl⟩, (HU.out.drewN _), free', HP, HE.out, HK.out, HL.out.drewN _⟩
end
end Go.Proofs.YtgmimmdojkoppaaGreatDoor.W
/- container/heap over the free Ids: Push, Pop; leastId. -/
namespace Go.Proofs.YtgmimmdojkoppaaGreatDoor.W
open Go.ChangeShapes Go.WideShapes Go.RowKit Go.Shelf
set_option linter.unusedVariables false
section
variable {W : World} {sb : Nat} {vr vb vf : Value} {s : Sto}
theorem lenIds_c (o : Option Addr) (n c : Nat) (w : World) : Calls Tryz.prog 330 #[.slice o n c] w fun e w' => e = .returned (.int .i64 n) ∧ w' = w := by
  go_enter Tryz.func330, Tryz.ntmps330
  go_wp2
  go_ret
  exact ⟨rfl, rfl⟩
theorem heapPush_c (h : Lay W sb vr vb vf s) (hlen : s.free.length ≤ 100000000) (hh : IsHeap s.free s.free.length) (x : Int) {S : Nat → Prop} (hO : Own S sb vr vb vf) :
    Calls Tryz.prog 219 #[.iface 224 (.pointer (some ⟨sb, 7, none⟩)), .iface 3 (.int .i64 x)] W fun e w' => e = .returned (.tuple #[]) ∧ Upd S W w' ∧ ∃ free' vf', free'.Perm (s.free ++ [x]) ∧ IsHeap free' free'.length ∧ Lay w' sb vr vb vf' (s.fr free') ∧ Own (Nx S W w') sb vr vb vf' := by
  have m0 := meth_push sb W
  have c0 := push_m h (by omega) x hO
  go_enter Tryz.func219, Tryz.ntmps219
  go_upto_region 1 with (go_at_call 334; (with_reducible refine c0.mono ?_); rintro e W1 ⟨rfl, hU1, vf1, hL1, hO1⟩; clear c0 m0)
  have hl1 : (s.fr (s.free ++ [x])).free.length = s.free.length + 1 := by simp [Sto.fr]
  obtain ⟨g, cap, hvf, hcap⟩ := own_slice hL1.free (by simp)
  have hvf' : vf1 = .slice (some ⟨g, 0, none⟩) (s.fr (s.free ++ [x])).free.length cap := hvf
  have c7 := hL1.cell 7
  rw [hvf'] at c7
  have m1 := meth_len sb W1 (some ⟨g, 0, none⟩) (s.fr (s.free ++ [x])).free.length cap c7
  have hL1' : Lay W1 sb vr vb vf1 (s.fr (s.free ++ [x])) := hL1
  have cu := up_c hL1' hvf' (by rw [hl1]; omega) s.free.length (by rw [hl1]; exact up_start hh x)
  have cl := fun w => lenIds_c (some ⟨g, 0, none⟩) (s.fr (s.free ++ [x])).free.length cap w
  have HG : Hid (S g ∨ (W.heap.size ≤ g ∧ g < W1.heap.size)) := hO1.free g (by rw [hvf]; rfl)
  have HU := (show Hid _ from hU1)
  have HO := (show Hid _ from hO1)
  rw [hl1] at m1 cl
  have lb : ((s.free.length : Nat) : Int) ≤ 100000000 := by omega
  clear hL1 hL1' hU1 hO1 c7 hvf hvf' hcap
  go_wp2_with (first | (go_at_call 330; (with_reducible refine (cl _).mono ?_); rintro e w' ⟨rfl, hw⟩; (have hw' := hw.symm); subst hw'; clear hw) | (go_at_call 264; (with_reducible refine cu.mono ?_); rintro e W2 ⟨rfl, hU2, free', hp', hh', hL2⟩; clear cu))
  go_end0
  have hpl : free'.length = s.free.length + 1 := by rw [hp'.length_eq]; exact hl1
  rw [hl1] at hh'
  refine ⟨rfl, HU.out.trans (hU2.mono (by rintro k rfl; exact HG.out)), free', vf1, hp', by rw [hpl]; exact hh', hL2, HO.out.on hU2.size⟩
theorem pop_perm {l l' : List Int} {n : Nat} (hl : l'.length = n + 1) (hp' : l'.Perm l) : (hp l' n :: l'.dropLast).Perm l := by
  have e : l' = l'.dropLast ++ [hp l' n] := by
    have e1 : l'.drop n = [hp l' n] := by
      rw [List.drop_eq_getElem_cons (by omega), List.drop_of_length_le (by omega)]
      simp [hp, hl]
    have e2 : l'.dropLast = l'.take n := by rw [List.dropLast_eq_take, hl]; rfl
    rw [e2, ← e1, List.take_append_drop]
  have h1 : (hp l' n :: l'.dropLast).Perm (l'.dropLast ++ [hp l' n]) := (List.perm_append_singleton _ _).symm
  rw [← e] at h1
  exact h1.trans hp'
theorem dropLast_hp {l : List Int} {n k : Nat} (hl : l.length = n + 1) (hk : k < n) : hp l.dropLast k = hp l k := by
  unfold hp
  simp only [List.getD]
  rw [List.getElem?_dropLast, if_pos (by omega)]
theorem heapPop_c (h : Lay W sb vr vb vf s) (n : Nat) (hn : s.free.length = n + 1) (hlen : s.free.length ≤ 100000000) (hh : IsHeap s.free s.free.length) {S : Nat → Prop} (hO : Own S sb vr vb vf) :
    Calls Tryz.prog 265 #[.iface 224 (.pointer (some ⟨sb, 7, none⟩))] W fun e w' => e = .returned (.iface 3 (.int .i64 (hp s.free 0))) ∧ Upd S W w' ∧ ∃ free' vf', (hp s.free 0 :: free').Perm s.free ∧ IsHeap free' free'.length ∧ Lay w' sb vr vb vf' (s.fr free') ∧ Own S sb vr vb vf' := by
  obtain ⟨x0, hx0⟩ : ∃ x0, x0 = hp s.free 0 := ⟨_, rfl⟩
  rw [← hx0]
  have HX := (show Hid _ from hx0)
  clear hx0
  obtain ⟨g, cap, hf, hcap⟩ := own_slice h.free (by omega)
  have hSg : S g := hO.free g (by rw [hf]; rfl)
  have c7 := h.cell 7
  rw [hf] at c7
  have m1 := meth_len sb W (some ⟨g, 0, none⟩) s.free.length cap c7
  have m2 := meth_swap sb W (some ⟨g, 0, none⟩) s.free.length cap c7
  have cl := fun w => lenIds_c (some ⟨g, 0, none⟩) s.free.length cap w
  have csw : Calls Tryz.prog 332 #[.slice (some ⟨g, 0, none⟩) (n + 1) cap, .int .i64 0, .int .i64 n] W fun e w' => e = .returned (.tuple #[]) ∧ Lay w' sb vr vb vf (s.fr (swp s.free 0 n)) ∧ Upd (fun k => k = g) W w' := swap_h h (by rw [hf, hn]) hn (by omega) 0 n (by omega) (by omega)
  have HF := (show Hid _ from hf)
  have hlb : (n : Int) ≤ 100000000 := by omega
  rw [hn] at m1 m2 cl
  clear hf c7
  go_enter Tryz.func265, Tryz.ntmps265
  go_upto_region 3 with (first | (go_at_call 330; (with_reducible refine (cl _).mono ?_); rintro e w' ⟨rfl, hw⟩; (have hw' := hw.symm); subst hw'; clear hw) | (go_at_call 332; (with_reducible refine csw.mono ?_); rintro e W1 ⟨rfl, hL1, hU1⟩; clear csw))
  have hL1' : Lay W1 sb vr vb vf (s.fr (swp s.free 0 n)) := hL1
  have hl1 : (s.fr (swp s.free 0 n)).free.length = n + 1 := by show (swp s.free 0 n).length = _; rw [swp_len, hn]
  have hf1 : vf = .slice (some ⟨g, 0, none⟩) (s.fr (swp s.free 0 n)).free.length cap := by rw [HF.out, hl1, hn]
  have cd := down_c hL1' hf1 (by omega) n (by omega) (down_start (by rw [← hn]; exact hh) hn)
  have HU1 := (show Hid _ from hU1.mono (T := S) (by rintro k rfl; exact hSg))
  clear hL1 hL1' hU1 hf1 m1 m2 cl
  go_upto_region 4 with (go_at_call 293; (with_reducible refine cd.mono ?_); rintro e W2 ⟨⟨v2, rfl⟩, hU2, free', hp', hh', hk', hL2⟩; clear cd)
  have hpl : free'.length = n + 1 := by rw [hp'.length_eq]; exact hl1
  have hp2 : free'.Perm s.free := hp'.trans (swp_perm s.free 0 n (by omega) (by omega))
  have hx : hp free' n = hp s.free 0 := by
    rw [hk' n (Nat.le_refl _)]
    show hp (swp s.free 0 n) n = _
    rw [hp_swp _ _ _ _ (by omega) (by omega), if_pos rfl]
  have hL2' : Lay W2 sb vr vb vf (s.fr free') := hL2
  have cp := pop_m hL2' n hpl (by show free'.length ≤ _; omega) hO
  rw [show (s.fr free').free.getD n 0 = x0 from hx.trans HX.out.symm] at cp
  have m3 := meth_pop sb W2
  have HU2 := (show Hid _ from HU1.out.trans' (hU2.mono (T := S) (by rintro k rfl; exact hSg)))
  have HPm : Hid ((x0 :: free'.dropLast).Perm s.free) := by
    have := pop_perm hpl hp2
    rw [hx, ← HX.out] at this
    exact this
  have HH : Hid (IsHeap free'.dropLast free'.dropLast.length) := by
    intro k h0 hk
    have hdl : free'.dropLast.length = n := by simp [hpl]
    rw [hdl] at hk
    rw [dropLast_hp hpl (by omega), dropLast_hp hpl hk]
    exact hh' k h0 hk
  clear hL2 hL2' hU2 hp' hh' hk' hp2 hx
  go_wp2_with (go_at_call 333; (with_reducible refine cp.mono ?_); rintro e W3 ⟨rfl, hU3, vf3, hL3, hO3⟩; clear cp)
  go_ret
  exact ⟨rfl, HU2.out.trans' hU3, free'.dropLast, vf3, HPm.out, HH.out, hL3, hO3⟩
theorem leastId_pop (h : Lay W sb vr vb vf s) (n : Nat) (hn : s.free.length = n + 1) (hlen : s.free.length ≤ 100000000) (hh : IsHeap s.free s.free.length) {S : Nat → Prop} (hO : Own S sb vr vb vf) :
    Calls Tryz.prog 221 #[.pointer (some ⟨sb, 0, none⟩)] W fun e w' => e = .returned (.int .i64 (hp s.free 0)) ∧ Upd S W w' ∧ ∃ free' vf', (hp s.free 0 :: free').Perm s.free ∧ IsHeap free' free'.length ∧ Lay w' sb vr vb vf' (s.fr free') ∧ Own S sb vr vb vf' := by
  obtain ⟨o, cap, hvf⟩ := slice_of h.free
  have c7 := h.cell 7
  simp [Sto.obj, hvf, hn] at c7
  have cp := heapPop_c h n hn hlen hh hO
  clear hvf
  generalize hp s.free 0 = x0 at *
  have hta := assert_int x0
  go_enter Tryz.func221, Tryz.ntmps221
  go_wp2_with (go_at_call 265; (with_reducible refine cp.mono ?_); rintro e W3 ⟨rfl, hU3, free', vf3, hp3, hh3, hL3, hO3⟩; clear cp)
  go_ret
  exact ⟨rfl, hU3, free', vf3, hp3, hh3, hL3, hO3⟩
end
end Go.Proofs.YtgmimmdojkoppaaGreatDoor.W
