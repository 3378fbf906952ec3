/- Package store: the heap of free Ids: its methods. -/
import Derived.Test.YtenbjlmomkiknabS5v
import Derived.Test.YtenbjlmomkiknabS5m
import Derived.Deep.RegionLaw
namespace Go.Proofs.Ytenbjlmomkiknab.W
open Go.ChangeShapes Go.WideShapes Go.RowKit Go.Shelf
set_option linter.unusedVariables false
section
variable {W : World} {sb : Nat} {vr vb vf : Value} {s : Sto}
theorem meth_push (sb : Nat) (w : World) : (method 262 103 (.pointer (some ⟨sb, 7, none⟩)) "Push").run Try.prog w = .ok (123, .pointer (some ⟨sb, 7, none⟩)) w := by kernel_rfl
theorem meth_pop (sb : Nat) (w : World) : (method 262 103 (.pointer (some ⟨sb, 7, none⟩)) "Pop").run Try.prog w = .ok (122, .pointer (some ⟨sb, 7, none⟩)) w := by kernel_rfl
theorem meth_len (sb : Nat) (w : World) (o : Option Addr) (n c : Nat) (hc : w.cell? ⟨sb, 7, none⟩ = some (.slice o n c)) : (method 262 103 (.pointer (some ⟨sb, 7, none⟩)) "Len").run Try.prog w = .ok (119, .slice o n c) w := by
  have e : (method 262 103 (.pointer (some ⟨sb, 7, none⟩)) "Len").run Try.prog w = ((do let v ← loadVar 91 ⟨sb, 7, none⟩; pure (119, v) : Sem (FuncId × Value))).run Try.prog w := by kernel_rfl
  rw [e]
  simp [go_sem, loadVar, hc]
theorem meth_less (sb : Nat) (w : World) (o : Option Addr) (n c : Nat) (hc : w.cell? ⟨sb, 7, none⟩ = some (.slice o n c)) : (method 262 103 (.pointer (some ⟨sb, 7, none⟩)) "Less").run Try.prog w = .ok (120, .slice o n c) w := by
  have e : (method 262 103 (.pointer (some ⟨sb, 7, none⟩)) "Less").run Try.prog w = ((do let v ← loadVar 91 ⟨sb, 7, none⟩; pure (120, v) : Sem (FuncId × Value))).run Try.prog w := by kernel_rfl
  rw [e]
  simp [go_sem, loadVar, hc]
theorem meth_swap (sb : Nat) (w : World) (o : Option Addr) (n c : Nat) (hc : w.cell? ⟨sb, 7, none⟩ = some (.slice o n c)) : (method 262 103 (.pointer (some ⟨sb, 7, none⟩)) "Swap").run Try.prog w = .ok (121, .slice o n c) w := by
  have e : (method 262 103 (.pointer (some ⟨sb, 7, none⟩)) "Swap").run Try.prog w = ((do let v ← loadVar 91 ⟨sb, 7, none⟩; pure (121, v) : Sem (FuncId × Value))).run Try.prog w := by kernel_rfl
  rw [e]
  simp [go_sem, loadVar, hc]
theorem fcell (h : Lay W sb vr vb vf s) {g cap : Nat} (hf : vf = .slice (some ⟨g, 0, none⟩) s.free.length cap) (j : Nat) (hj : j < s.free.length) : W.cell? ⟨g, j, none⟩ = some (.int .i64 s.free[j]) := by
  subst hf
  rw [h.free.cellAt j (by omega)]
  simp [hj]
theorem less_c (h : Lay W sb vr vb vf s) {g cap : Nat} (hf : vf = .slice (some ⟨g, 0, none⟩) s.free.length cap) (hlen : s.free.length ≤ 1000000000) (i j : Nat) (hi : i < s.free.length) (hj : j < s.free.length) :
    Calls Try.prog 120 #[.slice (some ⟨g, 0, none⟩) s.free.length cap, .int .i64 i, .int .i64 j] W fun e w' => e = .returned (.bool (decide (s.free[i] < s.free[j]))) ∧ ∃ m, w' = W.drewN m := by
  have ci := fcell h hf i hi
  have cj := fcell h hf j hj
  have i0 : (0 : Int) ≤ i := by omega
  have i1 : (i : Int) < s.free.length := by omega
  have j0 : (0 : Int) ≤ j := by omega
  have j1 : (j : Int) < s.free.length := by omega
  generalize s.free[i] = x at *
  generalize s.free[j] = y at *
  go_enter Try.func120, Try.ntmps120
  go_wp2
  go_quiet (fail)
  go_wp2
  go_ret
  exact ⟨rfl, _, rfl⟩
/-- two elements change places -/
def swp (l : List Int) (i j : Nat) : List Int := (l.set i (l.getD j 0)).set j (l.getD i 0)
theorem swp_len (l : List Int) (i j : Nat) : (swp l i j).length = l.length := by simp [swp]
theorem Lay.fstore (h : Lay W sb vr vb vf s) {g cap : Nat} (hr : vf = .slice (some ⟨g, 0, none⟩) s.free.length cap) (j : Nat) (n : Int) : Lay (W.setCell ⟨g, j, none⟩ (.int .i64 n)) sb vr vb vf { s with free := s.free.set j n } := by
  subst hr
  have hst := (h.free.stored j (.int .i64 n)).1
  obtain ⟨_, hq⟩ := h.free
  rcases hq with ⟨hq, _⟩ | ⟨g', cap', cur, hq, _, hgg, _⟩
  · cases hq
  · simp at hq
    obtain ⟨rfl, rfl⟩ := hq
    refine ⟨?_, own_other h.row hgg (by decide) _ _, own_other h.blk hgg (by decide) _ _, ?_⟩
    · rw [Below.heap_setCell _ _ _ _ (by rintro rfl; have := h.obj; rw [hgg] at this; simp at this)]
      exact h.obj
    · show World.ownsRow _ 0 3 1 (.slice (some ⟨g, 0, none⟩) s.free.length cap) (s.free.set j n).length ((s.free.set j n).map (.int .i64))
      rw [List.length_set, List.map_set]
      exact hst
theorem swap_c (h : Lay W sb vr vb vf s) {g cap : Nat} (hf : vf = .slice (some ⟨g, 0, none⟩) s.free.length cap) (hlen : s.free.length ≤ 1000000000) (i j : Nat) (hi : i < s.free.length) (hj : j < s.free.length) :
    Calls Try.prog 121 #[.slice (some ⟨g, 0, none⟩) s.free.length cap, .int .i64 i, .int .i64 j] W fun e w' => e = .returned (.tuple #[]) ∧ Lay w' sb vr vb vf { s with free := swp s.free i j } ∧ Upd (fun k => k = g) W w' := by
  have ci := fcell h hf i hi
  have cj := fcell h hf j hj
  have fr := h.free
  rw [hf] at fr
  have ti := fr.frozenAt i
  have tj := fr.frozenAt j
  have i0 : (0 : Int) ≤ i := by omega
  have i1 : (i : Int) < s.free.length := by omega
  have j0 : (0 : Int) ≤ j := by omega
  have j1 : (j : Int) < s.free.length := by omega
  have hx : s.free.getD i 0 = s.free[i] := by simp [hi]
  have hy : s.free.getD j 0 = s.free[j] := by simp [hj]
  have hL1 := h.fstore hf i (s.free.getD j 0)
  have hL2 := hL1.fstore (g := g) (cap := cap) (by rw [hf]; simp) j (s.free.getD i 0)
  have hU2 := ((Upd.refl (fun k => k = g) W).setCell (p := ⟨g, i, none⟩) (.inl rfl) (.int .i64 (s.free.getD j 0))).setCell (p := ⟨g, j, none⟩) (.inl rfl) (.int .i64 (s.free.getD i 0))
  obtain ⟨v2, hv2⟩ : ∃ v2, (W.setCell ⟨g, i, none⟩ (.int .i64 (s.free.getD j 0))).cell? ⟨g, j, none⟩ = some v2 := by
    have e := fcell hL1 (g := g) (cap := cap) (by rw [hf]; simp) j (by simpa using hj)
    exact ⟨_, e⟩
  rw [hx, hy] at hL2 hU2
  rw [hy] at hv2
  have HL := (show Hid _ from hL2)
  have HU := (show Hid _ from hU2)
  clear hL1 hL2 hU2
  generalize s.free[i] = x at *
  generalize s.free[j] = y at *
  go_enter Try.func121, Try.ntmps121
  go_wp2
  go_region
  go_wp2
  go_end0
  refine ⟨rfl, ?_, HU.out.drew⟩
  have e : swp s.free i j = (s.free.set i y).set j x := by rw [swp, hx, hy]
  rw [e]
  exact HL.out.drew
theorem info3 : (Try.prog.info? 3).map (fun i => (i.zero, i.size, i.bytes)) = some (some (.int .i64 0), 1, 8) := by kernel_rfl
theorem under61 : Try.prog.underlying 91 = some (.slice 3) := by kernel_rfl
theorem step_append_run {P : Program} {ops : Array Oper} {o : Oper} {a : Act} {w : World} {K : Act → World → Prop} {Q : Exit → Act → World → Prop} {E : Prop} (hg : o.guard = none) (s x : Operand) (t tn : TypeId)
    (ho : o.op = .call { callee := .builtin .append, args := #[s, x], argTypes := #[t, tn] }) (vs vx : Value) (hs : a.eval s = vs) (hx : a.eval x = vx) (v' : Value) (w' : World) (hr : (Builtin.append_ #[t, tn] o.type #[vs, vx]).run P w = .ok v' w') (hK : K (a.put o.dst v') w') :
    if Region.wanted o (yielded ops a.tmps) = true then Oper.wp P o a w K Q else E := by
  have hw : Region.wanted o (yielded ops a.tmps) = true := by simp [Region.wanted, hg]
  rw [if_pos hw]
  exact Lib.wp_append_run w s x t tn ho vs vx hs hx v' w' hr hK
theorem assert_int (x : Int) (w : World) : (Instr.typeAssert (.iface 3 (.int .i64 x)) 20 3 false).run Try.prog w = .ok (.int .i64 x) w := by kernel_rfl
theorem push_m (h : Lay W sb vr vb vf s) (hlen : s.free.length ≤ 1000000000) (x : Int) {S : Nat → Prop} (hO : Own S sb vr vb vf) :
    Calls Try.prog 123 #[.pointer (some ⟨sb, 7, none⟩), .iface 3 (.int .i64 x)] W fun e w' => e = .returned (.tuple #[]) ∧ Upd S W w' ∧ ∃ vf', Lay w' sb vr vb vf' { s with free := s.free ++ [x] } ∧ Own (Nx S W w') sb vr vb vf' := by
  obtain ⟨i0, hi, hz0, hz1, hz2⟩ := info_parts info3
  have hLa := (h.alloc (.cells #[.int .i64 x] 3)).drew
  have hnews : ∀ j u, [Value.int .i64 x][j]? = some u → ((W.alloc (.cells #[.int .i64 x] 3)).drew).cell? ((⟨W.heap.size, 0, none⟩ : Addr).add j) = some u := by
    intro j u hj
    have e : (⟨W.heap.size, 0, none⟩ : Addr).add j = ⟨W.heap.size, j, none⟩ := by unfold Addr.add; split <;> simp_all
    rw [e]
    have := World.cell?_alloc_new W #[Value.int .i64 x] 3 j
    show (W.alloc (.cells #[.int .i64 x] 3)).cell? ⟨W.heap.size, j, none⟩ = _
    rw [this]
    simpa using hj
  obtain ⟨vf', W4, hrun, hown, hgr, hnew⟩ := append_at (P := Try.prog) ((W.alloc (.cells #[.int .i64 x] 3)).drew) 91 91 3 i0 _ 1 8 under61 hi hz0 hz1 hz2 rfl (by decide) vf s.free.length (s.free.map (.int .i64)) hLa.free ⟨W.heap.size, 0, none⟩ 1 1 [.int .i64 x] rfl hnews (by intro u hu; simp at hu; subst hu; rfl) (by decide) (by decide) (by omega)
  obtain ⟨g4, cap4, rfl, hcap4⟩ := own_slice hown (by omega)
  have hL5 : Lay (W4.setCell ⟨sb, 7, none⟩ (.slice (some ⟨g4, 0, none⟩) (s.free.length + 1) cap4)) sb vr vb (.slice (some ⟨g4, 0, none⟩) (s.free.length + 1) cap4) { s with free := s.free ++ [x] } := by
    refine hLa.regrow_free hgr ?_
    rw [List.length_append, List.map_append]
    exact hown
  have hUa := ((Upd.refl S W).alloc (.cells #[.int .i64 x] 3)).drew
  have hU4 := hUa.grown hgr (fun k e => .inl (hO.free k e))
  have hU5 := hU4.setCell (p := ⟨sb, 7, none⟩) (.inl hO.sb) (.slice (some ⟨g4, 0, none⟩) (s.free.length + 1) cap4)
  have za : ((W.alloc (.cells #[.int .i64 x] 3)).drew).heap.size = W.heap.size + 1 := by
    show (W.alloc (.cells #[.int .i64 x] 3)).heap.size = _
    rw [World.size_alloc]
  have hO5 : Own (Nx S W (W4.setCell ⟨sb, 7, none⟩ (.slice (some ⟨g4, 0, none⟩) (s.free.length + 1) cap4))) sb vr vb (.slice (some ⟨g4, 0, none⟩) (s.free.length + 1) cap4) := by
    refine ⟨.inl hO.sb, fun k e => .inl (hO.row k e), fun k e => .inl (hO.blk k e), fun k e => ?_⟩
    rcases hnew k e with g | ⟨g1, g2⟩
    · exact .inl (hO.free k g)
    · exact .inr ⟨by omega, by simpa [World.setCell] using g2⟩
  have hob4 : W4.heap[sb]? = ((W.alloc (.cells #[.int .i64 x] 3)).drew).heap[sb]? := hgr.block sb (lay_lt hLa).1 (own_ne hLa.free hLa.obj (by decide))
  have th4 : W4.frozen? ⟨sb, 7, none⟩ = false := by rw [World.frozen?_of_block hob4]; exact hLa.thaw 7
  have c4 : W4.cell? ⟨sb, 7, none⟩ = some vf := by rw [World.cell?_of_block hob4, hLa.cell 7]; rfl
  have c7 := h.cell 7
  simp [Sto.obj] at c7
  have c7a := (h.alloc (.cells #[.int .i64 x] 3)).cell 7
  simp [Sto.obj] at c7a
  obtain ⟨o, cap, hvf⟩ := slice_of h.free
  rw [hvf] at hrun c4 c7 c7a
  have HL := (show Hid _ from hL5)
  have HU := (show Hid _ from hU5)
  have HO := (show Hid _ from hO5)
  clear hL5 hU5 hO5 hU4 hUa hgr hnew hown hob4 hLa
  have hta := assert_int x
  go_enter Try.func123, Try.ntmps123
  go_wp2
  go_region_law (refine step_append_run rfl (.tmp 7) (.tmp 10) 91 91 rfl _ _ (by simp [Act.eval]) (by simp [Act.eval]) _ _ hrun ?_)
  all_goals (
    go_end0
    exact ⟨rfl, HU, _, HL, HO⟩)
theorem free_take {n : Nat} {free : List Int} (h : free.length = n + 1) : free.dropLast.length = n ∧ (free.map (Value.int .i64)).take n = free.dropLast.map (.int .i64) := by
  refine ⟨by simp [h], ?_⟩
  rw [← List.map_take, List.dropLast_eq_take, h]
  rfl
theorem pop_m (h : Lay W sb vr vb vf s) (n : Nat) (hn : s.free.length = n + 1) (hlen : s.free.length ≤ 1000000000) {S : Nat → Prop} (hO : Own S sb vr vb vf) :
    Calls Try.prog 122 #[.pointer (some ⟨sb, 7, none⟩)] W fun e w' => e = .returned (.iface 3 (.int .i64 (s.free.getD n 0))) ∧ Upd S W w' ∧ ∃ vf', Lay w' sb vr vb vf' { s with free := s.free.dropLast } ∧ Own S sb vr vb vf' := by
  obtain ⟨g, cap, hf, hcap⟩ := own_slice h.free (by omega)
  have cn := fcell h hf n (by omega)
  have hx : s.free.getD n 0 = s.free[n] := by simp [hn]
  rw [hx]
  have c7 := h.cell 7
  have th := h.thaw 7
  simp [Sto.obj, hf] at c7
  have ho : W.ownsRow 0 3 1 (.slice (some ⟨g, 0, none⟩) n cap) n ((s.free.map (.int .i64)).take n) := own_take h.free hf (by omega)
  obtain ⟨e1, e2⟩ := free_take hn
  rw [e2] at ho
  have hL2 : Lay (W.setCell ⟨sb, 7, none⟩ (.slice (some ⟨g, 0, none⟩) n cap)) sb vr vb (.slice (some ⟨g, 0, none⟩) n cap) { s with free := s.free.dropLast } := by
    refine h.regrow_free (v2 := .slice (some ⟨g, 0, none⟩) n cap) ⟨rfl, rfl, rfl, Nat.le_refl _, fun _ _ _ => rfl⟩ ?_
    rw [e1]; exact ho
  have hU2 := (Upd.refl S W).setCell (p := ⟨sb, 7, none⟩) (.inl hO.sb) (.slice (some ⟨g, 0, none⟩) n cap)
  have hO2 : Own S sb vr vb (.slice (some ⟨g, 0, none⟩) n cap) := ⟨hO.sb, hO.row, hO.blk, fun k e => hO.free k (by rw [hf]; exact e)⟩
  have HL := (show Hid _ from hL2)
  have HU := (show Hid _ from hU2)
  have HO := (show Hid _ from hO2)
  have n0 : (0 : Int) ≤ n := by omega
  have n1 : (n : Int) < s.free.length := by omega
  have n2 : (n : Int) ≤ cap := by omega
  have n3 : ((s.free.length : Nat) : Int) = n + 1 := by omega
  have n4 : ¬ cap = 0 := by omega
  rw [hn] at c7
  clear hL2 hU2 hO2 ho hx
  generalize s.free[n] = x at *
  go_enter Try.func122, Try.ntmps122
  go_wp2
  go_ret
  exact ⟨rfl, HU, _, HL, HO⟩
end
end Go.Proofs.Ytenbjlmomkiknab.W
