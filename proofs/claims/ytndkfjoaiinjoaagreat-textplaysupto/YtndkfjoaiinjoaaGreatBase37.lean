import Derived.Test.YtndkfjoaiinjoaaGreatBase36
import Derived.Test.YtndkfjoaiinjoaaGreatBase31
/- TextPlays: tells. -/
namespace Go.Proofs.YtndkfjoaiinjoaaGreat.W
open Go.ChangeShapes Go.WideShapes Go.RowKit Go.Shelf
set_option linter.unusedVariables false
set_option linter.unusedSimpArgs false
section
variable {W W' : World} {pb hb rb : Nat} {lv wv vv : Value} {room : Nat} {L : List Rc} {ws : List Nat} {vs : List Tv} {S : Nat → Prop} {H : List (Option Hc)} {u : Nat}
/-- what tells reads of the pool -/
structure Tr8 (W : World) (pb hb gw gv n m cw cv : Nat) (w : Nat) (v : Tv) : Prop where
  p0 : W.cell? ⟨pb, 0, none⟩ = some (.pointer (some ⟨hb, 0, none⟩))
  p2 : W.cell? ⟨pb, 2, none⟩ = some (.slice (some ⟨gw, 0, none⟩) m cw)
  p3 : W.cell? ⟨pb, 3, none⟩ = some (.slice (some ⟨gv, 0, none⟩) m cv)
  w0 : W.cell? ⟨gw, n, none⟩ = some (.int .u64 (w : Nat))
  v0 : W.cell? ⟨gv, n * 5, none⟩ = some (.int .i64 (kdW v.whole))
  v1 : W.cell? ⟨gv, n * 5 + 1, none⟩ = some (.int .i64 v.i)
  v2 : W.cell? ⟨gv, n * 5 + 2, none⟩ = some (.int .u64 0)
  v3 : W.cell? ⟨gv, n * 5 + 3, none⟩ = some (.string v.t)
  v4 : W.cell? ⟨gv, n * 5 + 4, none⟩ = some (.int .i64 v.cell)
theorem Tr8.below {pb hb gw gv n m cw cv w : Nat} {v : Tv} (h : Tr8 W pb hb gw gv n m cw cv w v) (hB : Below W.heap.size W W') : Tr8 W' pb hb gw gv n m cw cv w v :=
  ⟨below_cell hB h.p0, below_cell hB h.p2, below_cell hB h.p3, below_cell hB h.w0, below_cell hB h.v0, below_cell hB h.v1, below_cell hB h.v2, below_cell hB h.v3, below_cell hB h.v4⟩
theorem Tpl.tr (h : Tpl W pb hb rb lv wv vv room L ws vs) {n : Nat} {v : Tv} {w : Nat} (hv : vs[n]? = some v) (hw : ws[n]? = some w) : ∃ gw gv cw cv, Tr8 W pb hb gw gv n vs.length cw cv w v := by
  have hn := (List.getElem?_eq_some_iff.1 hv).1
  obtain ⟨gv, cv, rfl, _⟩ := own_slice h.vrow (by omega)
  obtain ⟨gw, cw, rfl, _⟩ := own_slice h.wrow (by rw [h.len]; omega)
  have hl := h.len
  have hc : ∀ j, j < 5 → W.cell? ⟨gv, n * 5 + j, none⟩ = v.cells[j]? := fun j hj => by
    rw [(own_cell9 h.vrow (n * 5 + j) (by omega)).1, flatT_get vs n j v hv hj]
  refine ⟨gw, gv, cw, cv, cell_of_row _ _ 0 _ _ _ h.blk, ?_, cell_of_row _ _ 3 _ _ _ h.blk, ?_, hc 0 (by omega), hc 1 (by omega), hc 2 (by omega), hc 3 (by omega), hc 4 (by omega)⟩
  · have := cell_of_row _ _ 2 _ _ _ h.blk
    rw [hl] at this
    exact this
  · rw [(own_cell9 h.wrow n (by omega)).1, List.getElem?_map, hw]
    rfl
set_option maxRecDepth 100000 in
set_option maxHeartbeats 2000000 in
theorem tells_c (h : Tpl W pb hb rb lv wv vv room L ws vs) (q : HSt W S hb H u) (n : Nat) (v : Tv) (w : Nat) (hv : vs[n]? = some v) (hw : ws[n]? = some w) (hiv : IsV H w v.whole v.i v.t) :
    Calls Tryz.prog 20 #[.pointer (some ⟨pb, 0, none⟩), .int .i64 n] W fun e w' => e = .returned (.bool true) ∧ Below W.heap.size W w' := by
  obtain ⟨gw, gv, cw, cv, tr⟩ := h.tr hv hw
  have hn := (List.getElem?_eq_some_iff.1 hv).1
  obtain ⟨m, hm⟩ : ∃ m, vs.length = m := ⟨_, rfl⟩
  rw [hm] at tr hn
  have cof := fun (W0 : World) (hB : Below W.heap.size W W0) => fun (p : TBW W0) => TBW.calls (p := p) (of_g ((q.below hB).below p.h) w v.whole v.i v.t hiv)
  have cln := fun (W0 : World) (hB : Below W.heap.size W W0) => fun (p : TBW W0) => TBW.calls (p := p) (len_g ((q.below hB).below p.h) w v.whole v.i v.t hiv)
  have c8 := len8_c v.whole v.i v.cell v.t (fun e => by
    rcases hiv with ⟨_, _, h3⟩ | ⟨h1, _⟩
    · rw [h3]; rfl
    · rw [e] at h1; cases h1)
  have o1 : (0 : Int) ≤ n := Int.natCast_nonneg _
  have o2 : (n : Int) < m := by omega
  have TR := hid tr
  obtain ⟨p0, p2, p3, w0, v0, v1, v2, v3, v4⟩ := tr
  clear h hv hw hiv q hn hm
  generalize v.whole = wh at *
  generalize v.i = vi at *
  generalize v.t = vt at *
  generalize v.cell = vc at *
  generalize kdW wh = kd at *
  generalize erW wh = er at *
  go_enter Tryz.func20, Tryz.ntmps20
  go_upto_region 1 with fail
  have inst : Nonempty (TBW W) := ⟨⟨_, Below.refl _ _⟩⟩
  have e0 := TBW.cell p0
  have e2 := TBW.cell p2
  have f0 := TBW.cell w0
  have cof1 := cof W (Below.refl _ _)
  refine tbw_region (by kernel_rfl) (by kernel_rfl) ?_
  repeat (go_big_quiet_step ((go_at_call 11; exact cof1 _)))
  refine wpQuiet_nil ?_
  intro _ hw'
  obtain ⟨pw, hw''⟩ := hw'
  subst hw''
  have hB3 := pw.h
  generalize pw.w' = w3 at *
  clear e0 e2 f0 cof cof1 inst pw
  go_upto_region 2 with fail
  have inst : Nonempty (TBW w3) := ⟨⟨_, Below.refl _ _⟩⟩
  have e0 := TBW.cell (below_cell hB3 p0)
  have e2 := TBW.cell (below_cell hB3 p2)
  have f0 := TBW.cell (below_cell hB3 w0)
  have cln1 := cln w3 hB3
  refine tbw_region (by kernel_rfl) (by kernel_rfl) ?_
  repeat (go_big_quiet_step ((go_at_call 14; exact cln1 _)))
  refine wpQuiet_nil ?_
  intro _ hw'
  obtain ⟨pw, hw''⟩ := hw'
  subst hw''
  have hB4 := hB3.trans (pw.h.mono hB3.size)
  generalize pw.w' = w4 at *
  clear e0 e2 f0 cln cln1 inst pw
  have r3 := below_cell hB4 p3
  have s0 := below_cell hB4 v0
  have s1 := below_cell hB4 v1
  have s2 := below_cell hB4 v2
  have s3 := below_cell hB4 v3
  have s4 := below_cell hB4 v4
  have K4 := hid (show ∀ w5, Below w4.heap.size w4 w5 → w5.cell? ⟨pb, 3, none⟩ = some (.slice (some ⟨gv, 0, none⟩) m cv) ∧ w5.cell? ⟨gv, n * 5 + 3, none⟩ = some (.string vt) ∧ Below W.heap.size W w5 from fun w5 hB => ⟨below_cell hB r3, below_cell hB s3, hB4.trans (hB.mono hB4.size)⟩)
  clear p0 p2 p3 w0 v0 v1 v2 v3 v4 hB3 hB4 TR
  go_upto_region 4 with (go_at_call 48; (with_reducible refine (c8 _).mono ?_); rintro e w5 ⟨rfl, hB5⟩; (have k5 := K4.out w5 hB5); clear c8 K4 hB5 r3 s0 s1 s2 s3 s4)
  obtain ⟨r3, s3, hB5⟩ := k5
  have t1 : decide (vt = vt) = true := decide_eq_true rfl
  go_wp2
  go_ret
  exact ⟨by simp, hB5⟩
end
end Go.Proofs.YtndkfjoaiinjoaaGreat.W
/- A region that draws its order and ends with several stores: what only reads is taken first. -/
namespace Go.Proofs.YtndkfjoaiinjoaaGreat.W
open Go.ChangeShapes Go.WideShapes Go.RowKit Go.Shelf
set_option linter.unusedVariables false
section
variable {n : Nat} {P : Program} {ops : Array Oper} {Q : Exit → Act → World → Prop} {md : Region.Mode} {S T : World → Prop} {z : List Nat}
/-- every order, at the wide fence; S holds behind each operation but z -/
def anyM (n : Nat) (P : Program) (md : Region.Mode) (ops : Array Oper) (Q : Exit → Act → World → Prop) (S T : World → Prop) (z : List Nat) : Nat → Array Bool → Act → World → Prop
  | 0, l, a, w => Region.ready md ops l = [] ∧ Q .normal a w
  | k + 1, l, a, w => (Region.ready md ops l = [] → Q .normal a w) ∧ ∀ i ∈ Region.ready md ops l, wpOpIn Fence.wide n P ops Q i (fun a' w' => ((z.contains i = true ∨ (S w → S w')) ∧ (T w → T w')) ∧ anyM n P md ops Q S T z k (l.setIfInBounds i true) a' w') a w
theorem anyM_in : ∀ (k : Nat) (l : Array Bool) (a : Act) (w : World), anyM n P md ops Q S T z k l a w → wpAnyIn Fence.wide n P md ops Q k l a w
  | 0, _, _, _, h => h
  | k + 1, _, _, _, h => ⟨h.1, fun i hi => wpOpIn_mono (fun a' w' h' => anyM_in k _ a' w' h'.2) (h.2 i hi)⟩
theorem anyM_first {i : Nat} {oi : Oper} {v : Value} (hi : ops[i]? = some oi) (hsel : ∀ (j : Nat) (o : Oper) cs b, ops[j]? = some o → o.op ≠ .select cs b) (hQ : ∀ c a w, Q (.panic c) (a.put oi.dst v) w → Q (.panic c) a w) (hwz : z.all (fun y => waitsFor md ops y i) = true) (k : Nat) :
    ∀ (l : Array Bool) (a : Act) (w : World), (∀ j oj, ops[j]? = some oj → j ≠ i → l.getD j true = false → (∀ e ∈ oj.after, Region.binds md e = true → e.on ≠ i) → oi.apart ops oj = true) → i ∈ Region.ready md ops l → YieldsIf P ops S oi v a → S w → anyM n P md ops Q S T z k (l.setIfInBounds i true) (a.put oi.dst v) w → anyM n P md ops Q S T z (k + 1) l a w := by
  induction k with
  | zero =>
    intro l a w _ hr hy hS H
    refine ⟨fun h => absurd hr (by rw [h]; simp), fun j hj => ?_⟩
    by_cases e : j = i
    · subst e; exact anyS_now hi hy hS ⟨⟨.inr (fun _ => hS), id⟩, H⟩
    · exact absurd (ready_mono hj e) (by rw [H.1]; simp)
  | succ k ih =>
    intro l a w hfree hr hy hS H
    refine ⟨fun h => absurd hr (by rw [h]; simp), fun j hj => ?_⟩
    by_cases e : j = i
    · subst e; exact anyS_now hi hy hS ⟨⟨.inr (fun _ => hS), id⟩, H⟩
    · have hjz : ¬ z.contains j = true := fun e2 => waits_no (List.all_eq_true.1 hwz j (by simpa using e2)) hj hr
      obtain ⟨hjun, oj, hoj, hall⟩ := mem_ready.1 hj
      have hno : ∀ e ∈ oj.after, Region.binds md e = true → e.on ≠ i := by
        intro x hx hb hxi
        have y1 := hall x hx hb
        have y0 := (mem_ready.1 hr).1
        rw [hxi] at y1
        rcases Nat.lt_or_ge i l.size with q | q
        · simp [q] at y0 y1; rw [y0] at y1; cases y1
        · simp [Array.getElem?_eq_none q] at y1
      refine wpOpIn_mono ?_ (opIn_swap hoj (hfree j oj hoj e hjun hno) (fun cs b => hsel i oi cs b hi) (fun cs b => hsel j oj cs b hoj) hQ hy (H.2 j (ready_mono hj e)))
      rintro a' w' ⟨y1, y2, y3⟩
      have y2' : S w' := (y2.1.resolve_left hjz) hS
      refine ⟨⟨.inr (fun _ => y2'), y2.2⟩, ih (l.setIfInBounds j true) a' w' ?_ (ready_mono hr (Ne.symm e)) y1 y2' ?_⟩
      · intro t ot ht hti hun hno'
        refine hfree t ot ht hti ?_ hno'
        by_cases q : j = t
        · subst q; exact hjun
        · rw [getD_set_ne true q] at hun; exact hun
      · rw [Array.setIfInBounds_comm _ _ e]; exact y3
theorem anyM_take {i : Nat} {oi : Oper} {v : Value} {k : Nat} {l : Array Bool} {a : Act} {w : World} (hi : ops[i]? = some oi) (hs : Region.noSelect ops = true) (hf : Region.free md ops l i = true) (hr : (Region.ready md ops l).contains i = true) (hwz : z.all (fun y => waitsFor md ops y i) = true)
    (hQ : ∀ c a w, Q (.panic c) (a.put oi.dst v) w → Q (.panic c) a w) (hy : YieldsIf P ops S oi v a) (hS : S w) (h : anyM n P md ops Q S T z k (l.setIfInBounds i true) (a.put oi.dst v) w) : anyM n P md ops Q S T z (k + 1) l a w :=
  anyM_first hi (Region.noSelect_spec hs) hQ hwz k l a w (Region.free_spec hi hf) (by simpa using hr) hy hS h
theorem anyM_first0 {i : Nat} {oi : Oper} {v : Value} (hi : ops[i]? = some oi) (hsel : ∀ (j : Nat) (o : Oper) cs b, ops[j]? = some o → o.op ≠ .select cs b) (hQ : ∀ c a w, Q (.panic c) (a.put oi.dst v) w → Q (.panic c) a w) (k : Nat) :
    ∀ (l : Array Bool) (a : Act) (w : World), (∀ j oj, ops[j]? = some oj → j ≠ i → l.getD j true = false → (∀ e ∈ oj.after, Region.binds md e = true → e.on ≠ i) → oi.apart ops oj = true) → i ∈ Region.ready md ops l → YieldsIf P ops (fun _ => True) oi v a → anyM n P md ops Q S T z k (l.setIfInBounds i true) (a.put oi.dst v) w → anyM n P md ops Q S T z (k + 1) l a w := by
  induction k with
  | zero =>
    intro l a w _ hr hy H
    refine ⟨fun h => absurd hr (by rw [h]; simp), fun j hj => ?_⟩
    by_cases e : j = i
    · subst e; exact anyS_now (S := fun _ => True) hi hy trivial ⟨⟨.inr id, id⟩, H⟩
    · exact absurd (ready_mono hj e) (by rw [H.1]; simp)
  | succ k ih =>
    intro l a w hfree hr hy H
    refine ⟨fun h => absurd hr (by rw [h]; simp), fun j hj => ?_⟩
    by_cases e : j = i
    · subst e; exact anyS_now (S := fun _ => True) hi hy trivial ⟨⟨.inr id, id⟩, H⟩
    · obtain ⟨hjun, oj, hoj, hall⟩ := mem_ready.1 hj
      have hno : ∀ e ∈ oj.after, Region.binds md e = true → e.on ≠ i := by
        intro x hx hb hxi
        have y1 := hall x hx hb
        have y0 := (mem_ready.1 hr).1
        rw [hxi] at y1
        rcases Nat.lt_or_ge i l.size with q | q
        · simp [q] at y0 y1; rw [y0] at y1; cases y1
        · simp [Array.getElem?_eq_none q] at y1
      refine wpOpIn_mono ?_ (opIn_swap hoj (hfree j oj hoj e hjun hno) (fun cs b => hsel i oi cs b hi) (fun cs b => hsel j oj cs b hoj) hQ hy (H.2 j (ready_mono hj e)))
      rintro a' w' ⟨y1, y2, y3⟩
      refine ⟨y2, ih (l.setIfInBounds j true) a' w' ?_ (ready_mono hr (Ne.symm e)) y1 ?_⟩
      · intro t ot ht hti hun hno'
        refine hfree t ot ht hti ?_ hno'
        by_cases q : j = t
        · subst q; exact hjun
        · rw [getD_set_ne true q] at hun; exact hun
      · rw [Array.setIfInBounds_comm _ _ e]; exact y3
theorem anyM_take0 {i : Nat} {oi : Oper} {v : Value} {k : Nat} {l : Array Bool} {a : Act} {w : World} (hi : ops[i]? = some oi) (hs : Region.noSelect ops = true) (hf : Region.free md ops l i = true) (hr : (Region.ready md ops l).contains i = true)
    (hQ : ∀ c a w, Q (.panic c) (a.put oi.dst v) w → Q (.panic c) a w) (hy : YieldsIf P ops (fun _ => True) oi v a) (h : anyM n P md ops Q S T z k (l.setIfInBounds i true) (a.put oi.dst v) w) : anyM n P md ops Q S T z (k + 1) l a w :=
  anyM_first0 hi (Region.noSelect_spec hs) hQ k l a w (Region.free_spec hi hf) (by simpa using hr) hy h
theorem anyM_first1 {i : Nat} {oi : Oper} {v : Value} (hi : ops[i]? = some oi) (hsel : ∀ (j : Nat) (o : Oper) cs b, ops[j]? = some o → o.op ≠ .select cs b) (hQ : ∀ c a w, Q (.panic c) (a.put oi.dst v) w → Q (.panic c) a w) (k : Nat) :
    ∀ (l : Array Bool) (a : Act) (w : World), (∀ j oj, ops[j]? = some oj → j ≠ i → l.getD j true = false → (∀ e ∈ oj.after, Region.binds md e = true → e.on ≠ i) → oi.apart ops oj = true) → i ∈ Region.ready md ops l → YieldsIf P ops T oi v a → T w → anyM n P md ops Q S T z k (l.setIfInBounds i true) (a.put oi.dst v) w → anyM n P md ops Q S T z (k + 1) l a w := by
  induction k with
  | zero =>
    intro l a w _ hr hy hT H
    refine ⟨fun h => absurd hr (by rw [h]; simp), fun j hj => ?_⟩
    by_cases e : j = i
    · subst e; exact anyS_now (S := T) hi hy hT ⟨⟨.inr id, id⟩, H⟩
    · exact absurd (ready_mono hj e) (by rw [H.1]; simp)
  | succ k ih =>
    intro l a w hfree hr hy hT H
    refine ⟨fun h => absurd hr (by rw [h]; simp), fun j hj => ?_⟩
    by_cases e : j = i
    · subst e; exact anyS_now (S := T) hi hy hT ⟨⟨.inr id, id⟩, H⟩
    · obtain ⟨hjun, oj, hoj, hall⟩ := mem_ready.1 hj
      have hno : ∀ e ∈ oj.after, Region.binds md e = true → e.on ≠ i := by
        intro x hx hb hxi
        have y1 := hall x hx hb
        have y0 := (mem_ready.1 hr).1
        rw [hxi] at y1
        rcases Nat.lt_or_ge i l.size with q | q
        · simp [q] at y0 y1; rw [y0] at y1; cases y1
        · simp [Array.getElem?_eq_none q] at y1
      refine wpOpIn_mono ?_ (opIn_swap hoj (hfree j oj hoj e hjun hno) (fun cs b => hsel i oi cs b hi) (fun cs b => hsel j oj cs b hoj) hQ hy (H.2 j (ready_mono hj e)))
      rintro a' w' ⟨y1, y2, y3⟩
      refine ⟨y2, ih (l.setIfInBounds j true) a' w' ?_ (ready_mono hr (Ne.symm e)) y1 (y2.2 hT) ?_⟩
      · intro t ot ht hti hun hno'
        refine hfree t ot ht hti ?_ hno'
        by_cases q : j = t
        · subst q; exact hjun
        · rw [getD_set_ne true q] at hun; exact hun
      · rw [Array.setIfInBounds_comm _ _ e]; exact y3
theorem anyM_take1 {i : Nat} {oi : Oper} {v : Value} {k : Nat} {l : Array Bool} {a : Act} {w : World} (hi : ops[i]? = some oi) (hs : Region.noSelect ops = true) (hf : Region.free md ops l i = true) (hr : (Region.ready md ops l).contains i = true)
    (hQ : ∀ c a w, Q (.panic c) (a.put oi.dst v) w → Q (.panic c) a w) (hy : YieldsIf P ops T oi v a) (hT : T w) (h : anyM n P md ops Q S T z k (l.setIfInBounds i true) (a.put oi.dst v) w) : anyM n P md ops Q S T z (k + 1) l a w :=
  anyM_first1 hi (Region.noSelect_spec hs) hQ k l a w (Region.free_spec hi hf) (by simpa using hr) hy hT h
theorem anyM_one {i : Nat} {o : Oper} {k : Nat} {l : Array Bool} {a : Act} {w : World} (hr : Region.ready md ops l = [i]) (ho : ops[i]? = some o) (hw : Region.wanted o (yielded ops a.tmps) = true) (h : ∀ K : Act → World → Prop, (∀ a' w', ((z.contains i = true ∨ (S w → S w')) ∧ (T w → T w')) → anyM n P md ops Q S T z k (l.setIfInBounds i true) a' w' → K a' w') → o.wpIn Fence.wide n P a w K Q) : anyM n P md ops Q S T z (k + 1) l a w := by
  refine ⟨fun h0 => absurd (hr.symm.trans h0) (by simp), fun j hj => ?_⟩
  rw [hr] at hj
  simp at hj
  subst hj
  unfold wpOpIn
  rw [ho]
  simp only [hw, if_true]
  exact h _ (fun a' w' h1 h2 => ⟨h1, h2⟩)
theorem anyM_done {l : Array Bool} {a : Act} {w : World} (hr : Region.ready md ops l = []) (h : Q .normal a w) : ∀ k, anyM n P md ops Q S T z k l a w
  | 0 => ⟨hr, h⟩
  | _ + 1 => ⟨fun _ => h, by rw [hr]; simp⟩
theorem plain_anyM {id : Nat} {a : Act} {w : World} (hm : P.follows .mixedOrders = true) (h : anyM 9 P .any ops Q S T z ops.size (Array.replicate ops.size false) a w.drew) : (Code.region id ops true).wp P Q a w :=
  (wpIn_wide (n := 9)).1 (wpIn_region_any hm (anyM_in _ _ _ _ h))
/-- two operations are ready -/
theorem anyM_two {i j : Nat} {oi oj : Oper} {k : Nat} {l : Array Bool} {a : Act} {w : World} (hr : Region.ready md ops l = [i, j]) (ho : ops[i]? = some oi) (hw : Region.wanted oi (yielded ops a.tmps) = true) (ho' : ops[j]? = some oj) (hw' : Region.wanted oj (yielded ops a.tmps) = true)
    (h : ∀ K : Act → World → Prop, (∀ a' w', ((z.contains i = true ∨ (S w → S w')) ∧ (T w → T w')) → anyM n P md ops Q S T z k (l.setIfInBounds i true) a' w' → K a' w') → oi.wpIn Fence.wide n P a w K Q)
    (h' : ∀ K : Act → World → Prop, (∀ a' w', ((z.contains j = true ∨ (S w → S w')) ∧ (T w → T w')) → anyM n P md ops Q S T z k (l.setIfInBounds j true) a' w' → K a' w') → oj.wpIn Fence.wide n P a w K Q) : anyM n P md ops Q S T z (k + 1) l a w := by
  refine ⟨fun h0 => absurd (hr.symm.trans h0) (by simp), fun t ht => ?_⟩
  rw [hr] at ht
  simp at ht
  rcases ht with rfl | rfl
  · unfold wpOpIn
    rw [ho]
    simp only [hw, if_true]
    exact h _ (fun a' w' h1 h2 => ⟨h1, h2⟩)
  · unfold wpOpIn
    rw [ho']
    simp only [hw', if_true]
    exact h' _ (fun a' w' h1 h2 => ⟨h1, h2⟩)
/-- several ways lead to one place -/
theorem anyM_cut {k : Nat} {l : Array Bool} {a : Act} {w : World} (R : Act → Act → World → Prop) (k' : Nat) (l' : Array Bool) (hT : ∀ a' w', R a a' w' → anyM n P md ops Q S T z k' l' a' w')
    (h : (∀ a' w', R a a' w' → anyM n P md ops Q S T z k' l' a' w') → anyM n P md ops Q S T z k l a w) : anyM n P md ops Q S T z k l a w := h hT
theorem anyM_same {k : Nat} {l l' : Array Bool} {a a' : Act} {w : World} (e : l = l') (e' : a = a') (h : anyM n P md ops Q S T z k l' a' w) : anyM n P md ops Q S T z k l a w := by
  subst e
  subst e'
  exact h
end
end Go.Proofs.YtndkfjoaiinjoaaGreat.W
