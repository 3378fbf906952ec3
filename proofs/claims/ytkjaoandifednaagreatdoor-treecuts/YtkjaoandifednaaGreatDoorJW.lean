import Derived.Test.YtkjaoandifednaaGreatDoorJU
import Derived.Test.YtkjaoandifednaaGreatDoorJV
import Derived.Test.YtkjaoandifednaaGreatDoorJG
import Derived.Test.YtkjaoandifednaaGreatDoorJR
/- Package tree: all parts of the parser, as far as whatever fuel goes. -/
namespace Go.Proofs.YtkjaoandifednaaGreatDoor.W.Tr
open Go.ChangeShapes Go.WideShapes Go.RowKit Go.Shelf
set_option linter.unusedVariables false
theorem con_zero (g : Nat) (nt : Nt) : Con g nt 0 := fun W cb Ys v s r h hp => (P_zero hp).elim
theorem con1_zero (g : Nat) (a : Value) (nt : Nt) : Con1 g a nt 0 := fun W cb Ys v s r h hp => (P_zero hp).elim
theorem conL_zero (g : Nat) (a : Value) (nt : Nt) : ConL g a nt 0 := fun W cb Ys v s r h hp => (P_zero hp).elim
theorem conA_zero (g : Nat) : ConA g 0 := fun W0 W cb Ys v s b nd ks r hl h hp => (P_zero hp).elim
/-- all of them -/
structure Pars (n : Nat) : Prop where
  ex : Con 126 .ex n
  cj : Con 140 .cj n
  ng : Con 148 .ng n
  cm : Con 153 .cm n
  bn : ∀ k : Nat, k ≤ 7 → Con1 155 (.int .i64 (k : Int)) (.bn k) n
  un : Con 156 .un n
  po : Con 157 .po n
  pr : Con 158 .pr n
  nm : Con 159 .nm n
  wd : Con 160 .wd n
  le : ConL 50 (.func (.func 126) #[] #[]) (.ls false) n
  lp : ConL 50 (.func (.func 51) #[] #[]) (.ls true) n
  pm : Con 51 .pm n
  gl : Con 28 .gl n
  fu : Con 29 .fu n
  bl : Con 52 .bl n
  st : Con 73 .st n
  lt : Con 100 .lt n
  iF : Con 101 .iF n
  wh : Con 102 .wh n
  fr : Con 103 .fr n
  lb : Con 108 .lb n
  jm : ∀ k : Int, Con1 104 (.int .i64 k) (.jm k) n
  rt : Con 105 .rt n
  ou : Con 106 .ou n
  pl : Con 109 .pl n
  asg : ConA 127 n
theorem pars : ∀ n, Pars n := by
  intro n
  induction n using Nat.strongRecOn with
  | _ n ih =>
    match n, ih with
    | 0, _ => exact ⟨con_zero _ _, con_zero _ _, con_zero _ _, con_zero _ _, fun _ _ => con1_zero _ _ _, con_zero _ _, con_zero _ _, con_zero _ _, con_zero _ _, con_zero _ _, conL_zero _ _ _, conL_zero _ _ _, con_zero _ _, con_zero _ _, con_zero _ _, con_zero _ _, con_zero _ _, con_zero _ _, con_zero _ _, con_zero _ _, con_zero _ _, con_zero _ _, fun _ => con1_zero _ _ _, con_zero _ _, con_zero _ _, con_zero _ _, conA_zero _⟩
    | n + 1, ih =>
      have p : ∀ m, m ≤ n → Pars m := fun m hm => ih m (by omega)
      have q := p n (Nat.le_refl _)
      exact {
        ex := expression_c n (fun m hm => (p m hm).cj)
        cj := conjunction_c n (fun m hm => (p m hm).ng)
        ng := negation_c n q.ng q.cm
        cm := comparison_c n (q.bn 1 (by omega))
        bn := fun k hk => binary_c n k hk q.un (fun hk m hm => by have := (p m hm).bn (k + 1) (by omega); simpa using this)
        un := unary_c n q.un q.po
        po := postfix_c n q.pr (fun m hm => (p m hm).ex)
        pr := primary_c n q.nm q.wd q.ex
        nm := named_c n q.le
        wd := word_c n
        le := listedE_c n (fun m hm => (p m hm).ex)
        lp := listedP_c n (fun m hm => (p m hm).pm)
        pm := parameter_c n
        gl := global_c n
        fu := function_c n q.lp q.bl
        bl := block_c n (fun m hm => (p m hm).st)
        st := statement_c n q.lt q.iF q.wh q.fr (q.jm 13) (q.jm 14) q.rt q.ou q.lb q.pl
        lt := letS_c n q.ex
        iF := ifS_c n q.ex q.bl q.iF
        wh := whileS_c n q.ex q.bl
        fr := forS_c n q.ex q.bl
        lb := labelled_c n q.fr q.wh
        jm := fun k => jumpS_c n k
        rt := returnS_c n q.ex
        ou := outS_c n q.ex
        pl := plainS_c n q.ex q.asg
        asg := assigned_c n q.ex }
theorem program_all (n : Nat) : Con 18 (.pg .nil) n := program_c n (fun m _ => (pars m).gl) (fun m _ => (pars m).fu)
end Go.Proofs.YtkjaoandifednaaGreatDoor.W.Tr
/- Package tree: newCursor. -/
namespace Go.Proofs.YtkjaoandifednaaGreatDoor.W.Tr
open Go.ChangeShapes Go.WideShapes Go.RowKit Go.Shelf
set_option linter.unusedVariables false
set_option linter.unusedSimpArgs false
/-- along newCursor: i tokens are there -/
structure CuI (w : World) (s : ByteArray) (Ys : List Yd) (i : Nat) (D : Nat → Prop) (W : World) : Prop where
  bel : Below w.heap.size w W
  sz : w.heap.size + 3 ≤ W.heap.size
  cv : W.heap[w.heap.size + 1]? = some (.cells #[ptr w.heap.size] 45 (0, 0))
  src : W.heap[w.heap.size + 2]? = some (.cells #[.string s] 9 (0, 0))
  ok : ∀ y ∈ Ys.take i, y.c = 0
  row : ∃ v, W.heap[w.heap.size]? = some (.cells #[v, .int .i64 0, .int .i64 0, .int .i64 0, .int .i64 0, .int .i64 0, .int .i64 0] 49 (0, 0)) ∧ W.ownsRow w.heap.size 64 5 v i (rowsY (Ys.take i)) ∧ (∀ k, v.ownBlock = some k → w.heap.size + 5 ≤ k) ∧ ∀ k, D k ↔ k = w.heap.size ∨ v.ownBlock = some k
/-- how it ends early -/
structure CuX (w : World) (Ys : List Yd) (c : Code) (W : World) : Prop where
  code : c = .exit 0
  bel : Below w.heap.size w W
  sz : w.heap.size + 3 ≤ W.heap.size
  cv : W.heap[w.heap.size + 1]? = some (.cells #[ptr w.heap.size] 45 (0, 0))
  bad : ∃ i v y, Ys[i]? = some y ∧ ¬ y.c = 0 ∧ (∀ z ∈ Ys.take i, z.c = 0) ∧ W.heap[w.heap.size]? = some (.cells #[v, .int .i64 y.c, .int .i64 y.f, .int .i64 0, .int .i64 0, .int .i64 0, .int .i64 0] 49 (0, 0)) ∧ W.ownsRow w.heap.size 64 5 v i (rowsY (Ys.take i)) ∧ (∀ k, v.ownBlock = some k → w.heap.size + 5 ≤ k)
section
variable {w W W' : World} {s : ByteArray} {Ys : List Yd} {i : Nat} {D : Nat → Prop}
theorem CuI.upd (q : CuI w s Ys i D W) (hu : It.Upd (fun k => k = w.heap.size + 4) W W') : CuI w s Ys i D W' := by
  obtain ⟨v, h1, h2, h3, h4⟩ := q.row
  have z := q.sz
  have kp : ∀ k o, k < w.heap.size + 3 → W.heap[k]? = some o → W'.heap[k]? = some o := fun k o hk e => (hu.block k (by omega) (by omega)).trans e
  refine ⟨⟨hu.os.trans q.bel.os, hu.tape.trans q.bel.tape, hu.output.trans q.bel.output, Nat.le_trans q.bel.size hu.size, fun k hk => (hu.block k (by omega) (by omega)).trans (q.bel.block k hk)⟩, Nat.le_trans z hu.size, kp _ _ (by omega) q.cv, kp _ _ (by omega) q.src, q.ok, v, kp _ _ (by omega) h1, owns_onX h2 (fun k e => hu.block k (h2.lt k e).2 (by have := h3 k e; omega)), h3, h4⟩
theorem CuX.upd {c : Code} (q : CuX w Ys c W) (hu : It.Upd (fun k => k = w.heap.size + 4) W W') : CuX w Ys c W' := by
  have z := q.sz
  have kp : ∀ k o, k < w.heap.size + 3 → W.heap[k]? = some o → W'.heap[k]? = some o := fun k o hk e => (hu.block k (by omega) (by omega)).trans e
  obtain ⟨i, v, y, h1, h2, h3, h4, h5, h6⟩ := q.bad
  exact ⟨q.code, ⟨hu.os.trans q.bel.os, hu.tape.trans q.bel.tape, hu.output.trans q.bel.output, Nat.le_trans q.bel.size hu.size, fun k hk => (hu.block k (by omega) (by omega)).trans (q.bel.block k hk)⟩, Nat.le_trans z hu.size, kp _ _ (by omega) q.cv, i, v, y, h1, h2, h3, kp _ _ (by omega) h4, owns_onX h5 (fun k e => hu.block k (h5.lt k e).2 (by have := h6 k e; omega)), h6⟩
theorem CuI.upd2 (q : CuI w s Ys i D W) (hu : It.Upd (fun k => k = w.heap.size + 3) W W') : CuI w s Ys i D W' := by
  obtain ⟨v, h1, h2, h3, h4⟩ := q.row
  have z := q.sz
  have kp : ∀ k o, k < w.heap.size + 3 → W.heap[k]? = some o → W'.heap[k]? = some o := fun k o hk e => (hu.block k (by omega) (by omega)).trans e
  refine ⟨⟨hu.os.trans q.bel.os, hu.tape.trans q.bel.tape, hu.output.trans q.bel.output, Nat.le_trans q.bel.size hu.size, fun k hk => (hu.block k (by omega) (by omega)).trans (q.bel.block k hk)⟩, Nat.le_trans z hu.size, kp _ _ (by omega) q.cv, kp _ _ (by omega) q.src, q.ok, v, kp _ _ (by omega) h1, owns_onX h2 (fun k e => hu.block k (h2.lt k e).2 (by have := h3 k e; omega)), h3, h4⟩
theorem CuX.upd2 {c : Code} (q : CuX w Ys c W) (hu : It.Upd (fun k => k = w.heap.size + 3) W W') : CuX w Ys c W' := by
  have z := q.sz
  have kp : ∀ k o, k < w.heap.size + 3 → W.heap[k]? = some o → W'.heap[k]? = some o := fun k o hk e => (hu.block k (by omega) (by omega)).trans e
  obtain ⟨i, v, y, h1, h2, h3, h4, h5, h6⟩ := q.bad
  exact ⟨q.code, ⟨hu.os.trans q.bel.os, hu.tape.trans q.bel.tape, hu.output.trans q.bel.output, Nat.le_trans q.bel.size hu.size, fun k hk => (hu.block k (by omega) (by omega)).trans (q.bel.block k hk)⟩, Nat.le_trans z hu.size, kp _ _ (by omega) q.cv, i, v, y, h1, h2, h3, kp _ _ (by omega) h4, owns_onX h5 (fun k e => hu.block k (h5.lt k e).2 (by have := h6 k e; omega)), h6⟩
end
def cuA (a : Act) (y : Yd) (W : World) : Act := { tmps := (((a.tmps.setIfInBounds 10 (tv y.t y.a)).setIfInBounds 11 (.agg #[.int .i64 y.c, .int .i64 y.f])).setIfInBounds 4 (.pointer (some ⟨W.heap.size, 0, none⟩))).setIfInBounds 5 (.pointer (some ⟨W.heap.size + 1, 0, none⟩)), defers := [] }
/-- the world as a round begins -/
structure CuB (w : World) (s : ByteArray) (Ys : List Yd) (i : Nat) (D : Nat → Prop) (y : Yd) (W Wb : World) : Prop where
  q : CuI w s Ys i D Wb
  tok : Wb.heap[W.heap.size]? = some (.cells (cellsA y) 64 (0, 0))
  flt : Wb.heap[W.heap.size + 1]? = some (.cells #[.int .i64 y.c, .int .i64 y.f] 25 (0, 0))
  big : w.heap.size + 5 ≤ W.heap.size
theorem cuB_of {w W : World} {s : ByteArray} {Ys : List Yd} {i : Nat} {D : Nat → Prop} {y : Yd} (q : CuI w s Ys i D W) (h6 : w.heap.size + 5 ≤ W.heap.size) (o : Obj) : CuB w s Ys i D y W ((allN y W).putObj (w.heap.size + 4) o) := by
  have hB : Below W.heap.size W (allN y W) := ((Below.refl _ W).alloc (Nat.le_refl _) _).alloc (by simp) _
  have q1 : CuI w s Ys i D (allN y W) := q.upd (It.Upd.of_below hB)
  refine ⟨q1.upd (It.upd_put (S := fun k => k = w.heap.size + 4) rfl o), ?_, ?_, h6⟩
  · rw [World.putObj_heap_other (by omega)]
    exact (Below.heap_alloc _ _ _ (by simp)).trans (World.alloc_heap_new W _)
  · rw [World.putObj_heap_other (by omega)]
    have := World.alloc_heap_new (W.alloc (.cells (cellsA y) 64)) (.cells #[.int .i64 y.c, .int .i64 y.f] 25)
    rwa [World.size_alloc] at this
theorem cu_start (w : World) (s : ByteArray) (Ys : List Yd) : CuI w s Ys 0 (fun k => k = w.heap.size) (((w.alloc (.cells #[.slice none 0 0, .int .i64 0, .int .i64 0, .int .i64 0, .int .i64 0, .int .i64 0, .int .i64 0] 49)).alloc (.cells #[ptr w.heap.size] 45)).alloc (.cells #[.string s] 9)) := by
  have n1 := World.alloc_heap_new w (.cells #[.slice none 0 0, .int .i64 0, .int .i64 0, .int .i64 0, .int .i64 0, .int .i64 0, .int .i64 0] 49)
  have n2 := World.alloc_heap_new (w.alloc (.cells #[.slice none 0 0, .int .i64 0, .int .i64 0, .int .i64 0, .int .i64 0, .int .i64 0, .int .i64 0] 49)) (.cells #[ptr w.heap.size] 45)
  have n3 := World.alloc_heap_new ((w.alloc (.cells #[.slice none 0 0, .int .i64 0, .int .i64 0, .int .i64 0, .int .i64 0, .int .i64 0, .int .i64 0] 49)).alloc (.cells #[ptr w.heap.size] 45)) (.cells #[.string s] 9)
  simp only [World.size_alloc] at n2 n3
  refine ⟨(((Below.refl _ w).alloc (Nat.le_refl _) _).alloc (by simp) _).alloc (by simp only [World.size_alloc]; omega) _, by simp, ?_, n3, by simp, .slice none 0 0, ?_, World.ownsRow_nil _ _ _ _, by simp [Value.ownBlock], by simp [Value.ownBlock]⟩
  · exact (Below.heap_alloc _ _ _ (by simp)).trans n2
  · exact (Below.heap_alloc _ _ _ (by simp only [World.size_alloc]; omega)).trans ((Below.heap_alloc _ _ _ (by simp)).trans n1)
end Go.Proofs.YtkjaoandifednaaGreatDoor.W.Tr
