import Derived.Test.YtdafcfmbnlgbfaaBase4
import Derived.Test.YtdafcfmbnlgbfaaHkCJ
/- Package store: a range over the blocks of the ring, where the caller lays blocks that it changes; rows of extents. -/
namespace Go.Proofs.Ytdafcfmbnlgbfaa.W
open Go.ChangeShapes Go.WideShapes Go.RowKit Go.Shelf
set_option linter.unusedVariables false
theorem ring_lawB {g : Operand} {pt : Nat} {assign body : Code} {Q : Exit → Act → World → Prop} {a : Act} {W0 : World} {Bn Bs sb : Nat} (hg : a.eval g = .func (.func 32) #[] #[.pointer (some ⟨Bn, 0, none⟩), .pointer (some ⟨Bs, 0, none⟩)])
    (xs : List Nat) (hne : 0 < xs.length) (hd : xs.Nodup) (hz : ∀ i (hi : i + 1 < xs.length), xs[i + 1] ≠ 0) (hBn : Boxed W0 Bn 3 (.int .i64 (xs[0] : Nat)))
    (I : Nat → World → Prop) (Ix : Code → World → Prop)
    (hI : ∀ i W W', I i W → Upd (fun k => k = Bn ∨ k = W0.heap.size + 1) W W' → I i W')
    (hIx : ∀ c W W', Ix c W → Upd (fun k => k = Bn ∨ k = W0.heap.size + 1) W W' → Ix c W') (h0 : I 0 W0)
    (hread : ∀ i (hi : i < xs.length) W, I (i + 1) W → W.cell? ⟨Bs, 0, none⟩ = some (.pointer (some ⟨sb, 0, none⟩)) ∧ ∃ B O, Calls Try.prog 24 #[.pointer (some ⟨sb, 0, none⟩), .int .i64 (xs[i] : Nat)] W (fun e w' => e = .returned (.pointer (some ⟨B, O, none⟩)) ∧ w' = W) ∧ W.cell? ⟨B, O + 4, none⟩ = some (.int .i64 (xs[i + 1]?.getD 0 : Nat)))
    (q : Nat)
    (hassign : ∀ (L x : Nat) (W : World) (K : Act → World → Prop), K (ringAct pt a q x) W → assign.wpIn (Fence.wide.inRound L) 7 Try.prog (Exit.then K (fun _ _ _ => False)) { tmps := a.tmps.setIfInBounds pt (.int .i64 (x : Int)), defers := [] } W)
    (hbody : ∀ (L : Nat) i (hi : i < xs.length) W, L = W0.heap.size + 1 → I i W → W0.heap.size + 2 ≤ W.heap.size → (∃ r, W.heap[L]? = some (.loop r)) → Boxed W Bn 3 (.int .i64 (xs[i] : Nat)) → body.wpIn (Fence.wide.inRound L) 7 Try.prog (ringWay L W0.heap.size Bn W (I (i + 1)) Ix) (ringAct pt a q xs[i]) W)
    (hdone : ∀ W, I xs.length W → W.heap[W0.heap.size]? = some (.deferred (some [])) → W0.heap.size + 2 ≤ W.heap.size → Q .normal { a with defers := { target := .collected W0.heap.size, args := #[] } :: a.defers } W)
    (hstop : ∀ c W, Ix c W → W.heap[W0.heap.size]? = some (.deferred (some [])) → c.wp Try.prog Q { a with defers := { target := .collected W0.heap.size, args := #[] } :: a.defers } W) :
    (Code.rangeFunc g #[pt] assign body).wp Try.prog Q a W0 := by
  have hUL : ∀ (W : World) (o : Obj), Upd (fun k => k = Bn ∨ k = W0.heap.size + 1) W (W.putObj (W0.heap.size + 1) o) := fun W o => upd_put (.inr rfl) o
  have hBlt := hBn.lt
  refine (wpIn_wide (n := 9)).1 (rf_law hg eg49 (fun W => I xs.length W) Ix ?_ ?_ ?_)
  · intro r W1 hr1 hr2 hr3 hr4 hr5 hr6 hW1 hL1
    have hI1 : I 0 W1 := by
      refine hI 0 W0 W1 h0 ?_
      rw [hW1]; exact ((Upd.refl _ W0).alloc _).alloc _
    have hB1 : Boxed W1 Bn 3 (.int .i64 (xs[0] : Nat)) := by rw [hW1]; exact (hBn.alloc _).alloc _
    have hsz : W0.heap.size + 2 ≤ W1.heap.size := by rw [hW1]; simp
    have key := from1_in 8 (W0.heap.size + 1) Bn Bs sb (by omega) xs hne hd
      (fun i W => I i W ∧ LoopAt W (W0.heap.size + 1) W0.heap.size r ∧ W0.heap.size + 2 ≤ W.heap.size ∧ ∃ hi : i < xs.length, Boxed W Bn 3 (.int .i64 (xs[i] : Nat)))
      (fun i W => I (i + 1) W ∧ LoopAt W (W0.heap.size + 1) W0.heap.size r ∧ W0.heap.size + 2 ≤ W.heap.size ∧ ∃ hi : i < xs.length, Boxed W Bn 3 (.int .i64 (xs[i] : Nat)))
      (fun W => I xs.length W ∧ LoopAt W (W0.heap.size + 1) W0.heap.size r)
      (fun W => ∃ c, Ix c W ∧ LoopAt W (W0.heap.size + 1) W0.heap.size { r with state := .done, pending := some c })
      ?_ ?_ ?_ ?_ ?_ W1 ⟨hI1, hL1, hsz, hne, hB1⟩
    · refine key.mono ?_
      rintro e W3 ⟨hv, ⟨h1, h2⟩ | ⟨c, h1, h2⟩⟩
      · exact ⟨hv, .inl ⟨h1, r, h2, by rw [hr1]; simp, hr2⟩⟩
      · exact ⟨hv, .inr ⟨c, h1, _, h2, by simp, rfl⟩⟩
    · intro i hi W ⟨hi1, hl1, hs1, _, hb1⟩
      have hargs : (#[Value.int .i64 ((xs[i] : Nat) : Int)] : Array Value).size = r.params.size := by rw [hr4]; rfl
      refine YieldAt.mono (yield_law (Rn := fun W' => I (i + 1) W' ∧ LoopAt W' (W0.heap.size + 1) W0.heap.size r ∧ W0.heap.size + 2 ≤ W'.heap.size ∧ ∃ hi : i < xs.length, Boxed W' Bn 3 (.int .i64 (xs[i] : Nat))) (Rx := fun c W' => Ix c W' ∧ LoopAt W' (W0.heap.size + 1) W0.heap.size { r with state := .done, pending := some c }) hl1 hr1 hargs (ringAct pt a q xs[i]) ?_ ?_) ?_
      · intro K hK
        rw [hr5, hr4, hr3]
        rw [zip_one]
        exact hassign _ _ W K hK
      · intro W2 hW2 hl2
        have hI2 : I i W2 := by rw [hW2]; exact hI i W _ hi1 (hUL W _)
        have hb2 : Boxed W2 Bn 3 (.int .i64 (xs[i] : Nat)) := by
          rw [hW2]
          unfold Boxed
          rw [World.putObj_heap_other (by omega)]
          exact hb1
        have hs2 : W0.heap.size + 2 ≤ W2.heap.size := by rw [hW2]; simpa using hs1
        have hbd := hbody _ i hi W2 rfl hI2 hs2 ⟨_, hl2.lp⟩ hb2
        rw [← hr6] at hbd
        refine wpIn_mono hbd ?_
        intro e a3 W3 hp
        have put : ∀ q : Loop, (W3.heap[W0.heap.size + 1]? = W2.heap[W0.heap.size + 1]? ∧ W3.heap[W0.heap.size]? = W2.heap[W0.heap.size]? ∧ W3.heap[Bn]? = W2.heap[Bn]?) → LoopAt W3 (W0.heap.size + 1) W0.heap.size { r with state := .busy } ∧ LoopAt (W3.putObj (W0.heap.size + 1) (.loop q)) (W0.heap.size + 1) W0.heap.size q ∧ Boxed (W3.putObj (W0.heap.size + 1) (.loop q)) Bn 3 (.int .i64 (xs[i] : Nat)) ∧ W0.heap.size + 2 ≤ (W3.putObj (W0.heap.size + 1) (.loop q)).heap.size := by
          rintro q ⟨e1, e2, e3⟩
          have hl3 := hl2.kept e1 e2
          refine ⟨hl3, hl3.put q, ?_, ?_⟩
          · unfold Boxed
            rw [World.putObj_heap_other (by omega), e3]
            exact hb2
          · have := (Array.getElem?_eq_some_iff.1 hl3.lp).1
            simp; omega
        cases e with
        | normal =>
          obtain ⟨hk, hin⟩ := hp
          obtain ⟨p1, p2, p3, p4⟩ := put { r with state := .ready, pending := none } hk
          have er : ({ r with state := .ready, pending := none } : Loop) = r := by cases r; simp_all
          refine ⟨p1, hI _ W3 _ hin (hUL W3 _), ?_, p4, hi, p3⟩
          rw [er] at p2 ⊢
          exact p2
        | ret =>
          obtain ⟨hk, hin⟩ := hp
          obtain ⟨p1, p2, p3, p4⟩ := put { r with state := .done, pending := some .ret } hk
          exact ⟨p1, hIx _ W3 _ hin (hUL W3 _), p2⟩
        | exit id =>
          obtain ⟨hk, hin⟩ := hp
          obtain ⟨p1, p2, p3, p4⟩ := put { r with state := .done, pending := some (.exit id) } hk
          exact ⟨p1, hIx _ W3 _ hin (hUL W3 _), p2⟩
        | goto t => exact hp.elim
        | panic ch => exact hp.elim
        | outgrown => exact hp.elim
      · rintro e W' (⟨rfl, h1⟩ | ⟨rfl, c, h1⟩)
        · exact .inl ⟨rfl, h1⟩
        · exact .inr ⟨rfl, c, h1⟩
    · rintro i hi W ⟨_, _, _, _, hb⟩
      exact hb.cell
    · rintro i hi W ⟨h1, _, _, _, hb⟩
      obtain ⟨r1, r2⟩ := hread i hi W h1
      exact ⟨hb.cell, hb.frozen, r1, r2⟩
    · rintro i hi W ⟨h1, hl, hs, hi', hb⟩
      have hu : Upd (fun k => k = Bn ∨ k = W0.heap.size + 1) W (W.setCell ⟨Bn, 0, none⟩ (.int .i64 (xs[i + 1] : Nat))) := (Upd.refl _ W).setCell (.inl (.inl rfl)) _
      refine ⟨hz i hi, hI _ W _ h1 hu, hl.kept (Below.heap_setCell _ _ _ _ (by show _ ≠ Bn; omega)) (Below.heap_setCell _ _ _ _ (by show _ ≠ Bn; omega)), by simpa [World.setCell] using hs, hi, hb.set _⟩
    · rintro i W hi ⟨h1, hl, hs, hi', hb⟩
      have hu : Upd (fun k => k = Bn ∨ k = W0.heap.size + 1) W (W.setCell ⟨Bn, 0, none⟩ (.int .i64 0)) := (Upd.refl _ W).setCell (.inl (.inl rfl)) _
      rw [← hi]
      exact ⟨hI _ W _ h1 hu, hl.kept (Below.heap_setCell _ _ _ _ (by show _ ≠ Bn; omega)) (Below.heap_setCell _ _ _ _ (by show _ ≠ Bn; omega))⟩
  · intro W3 q hd hl
    exact hdone _ (hI _ W3 _ hd (hUL W3 _)) hl.defs (Array.getElem?_eq_some_iff.1 hl.lp).1
  · intro W3 q c hs hl
    exact wpIn_wide.2 (hstop c _ (hIx _ W3 _ hs (hUL W3 _)) hl.defs)

/-- something behind a row of one's own -/
theorem own_behind (B0 : Nat) (W : World) (t e : TypeId) (z : Value) (sz bs : Nat) (hu : Try.prog.underlying t = some (.slice e)) (hI : (Try.prog.info? e).map (fun i => (i.zero, i.size, i.bytes)) = some (some z, sz, bs)) (hz : z.cells.size = sz) (hs : 0 < sz) (hbs : bs ≤ 64) (v : Value) (n : Nat) (xs : List Value) (ho : W.ownsRow B0 e sz v n xs) (h0 : B0 ≤ W.heap.size) (cs : List Value) (hc : cs.length = sz) (h1 : ∀ x ∈ cs, x.oneCell' = true) (hn : n ≤ 200000000) (ty : TypeId) :
    ∃ v' w', (Builtin.append_ #[t, t] ty #[v, .slice (some ⟨W.heap.size, 0, none⟩) 1 1]).run Try.prog (W.alloc (.cells cs.toArray e)) = .ok v' w' ∧ w'.ownsRow B0 e sz v' (n + 1) (xs ++ cs) ∧ Upd (fun k => v.ownBlock = some k) W w' ∧ ∀ k, v'.ownBlock = some k → v.ownBlock = some k ∨ (W.heap.size ≤ k ∧ k < w'.heap.size) := by
  obtain ⟨i0, hi, hz0, hz1, hz2⟩ := info_parts hI
  have hB1 : Below W.heap.size W (W.alloc (.cells cs.toArray e)) := (Below.refl _ W).alloc (Nat.le_refl _) _
  have z1 : (W.alloc (.cells cs.toArray e)).heap.size = W.heap.size + 1 := World.size_alloc ..
  have e0 := World.cell?_alloc_new W cs.toArray e
  have ho1 := ho.alloc (.cells cs.toArray e)
  obtain ⟨v', w', hrun, ho', hg, hk⟩ := append_at (P := Try.prog) (W.alloc (.cells cs.toArray e)) t ty e i0 z sz bs hu hi hz0 hz1 hz2 hz hs v n xs (owns_base ho1 (fun _ _ => Nat.zero_le _)) ⟨W.heap.size, 0, none⟩ 1 1 cs (by omega) (by
    intro j y hj
    have e1 : ((⟨W.heap.size, 0, none⟩ : Addr).add j) = ⟨W.heap.size, j, none⟩ := by unfold Addr.add; split <;> simp_all
    rw [e1, e0 j]
    simpa using hj) h1 (by omega) hbs (by omega)
  have hlo : ∀ k, v.ownBlock = some k → B0 ≤ k ∧ k < W.heap.size := fun k e => ho.lt k e
  have hU1 : Upd (fun k => v.ownBlock = some k) (W.alloc (.cells cs.toArray e)) w' := (Upd.refl _ _).grown hg (fun k e => .inl e)
  have hU : Upd (fun k => v.ownBlock = some k) W w' := (Upd.of_below hB1).trans' hU1
  refine ⟨v', w', hrun, owns_base ho' (fun g e => ?_), hU, fun k e => ?_⟩
  · rcases hk g e with e | e
    · exact (hlo g e).1
    · omega
  · rcases hk k e with e | e
    · exact .inl e
    · exact .inr ⟨by omega, e.2⟩
/-- an extent as it is told -/
structure Tr where
  i : Nat
  p : Nat
  l : Nat
def Tr.cells (t : Tr) : List Value := [.int .i64 (t.i : Nat), .int .i64 (t.p : Nat), .int .i64 (t.l : Nat)]
def flatT (l : List Tr) : List Value := l.flatMap Tr.cells
theorem flatT_len (l : List Tr) : (flatT l).length = l.length * 3 := by
  induction l with
  | nil => rfl
  | cons b r ih => simp only [flatT, List.flatMap_cons, List.length_append, List.length_cons] at ih ⊢; simp only [Tr.cells, List.length_cons, List.length_nil]; omega
theorem flatT_cons (b : Tr) (r : List Tr) : flatT (b :: r) = b.cells ++ flatT r := by simp [flatT]
theorem flatT_snoc (a : List Tr) (b : Tr) : flatT (a ++ [b]) = flatT a ++ b.cells := by simp [flatT]
theorem flatT_get (l : List Tr) (i j : Nat) (b : Tr) (h : l[i]? = some b) (hj : j < 3) : (flatT l)[i * 3 + j]? = b.cells[j]? := by
  induction l generalizing i with
  | nil => simp at h
  | cons c r ih =>
    rw [flatT_cons]
    cases i with
    | zero =>
      simp at h
      subst h
      rw [List.getElem?_append_left (by simp [Tr.cells]; omega)]
      simp
    | succ k =>
      simp at h
      rw [List.getElem?_append_right (by simp [Tr.cells]; omega), ← ih k h]
      congr 1; simp [Tr.cells]; omega
theorem infoX : (Try.prog.info? 64).map (fun i => (i.zero, i.size, i.bytes)) = some (some (.agg #[.int .i64 0, .int .i64 0, .int .i64 0]), 3, 24) := by kernel_rfl
theorem underX : Try.prog.underlying 61 = some (.slice 64) := by kernel_rfl
/-- the extents with bytes, as they are told -/
def trE (E : List Ex) : List Tr := E.map (fun e => ⟨e.n - 1, e.p, e.l⟩)
/-- does an Id have an extent of no bytes? -/
def isZ (s : Sto) (id : Nat) : Bool := match s.blks[id]? with | some b => b.live && b.len == 0 | none => false
def zs (s : Sto) (j : Nat) : List Tr := ((List.range j).filter (isZ s)).map (fun id => ⟨id, s.row.length, 0⟩)
theorem zs_succ (s : Sto) (j : Nat) : zs s (j + 1) = zs s j ++ (if isZ s j then [⟨j, s.row.length, 0⟩] else []) := by
  unfold zs
  rw [List.range_succ, List.filter_append, List.map_append]
  cases h : isZ s j <;> simp [h]
/-- all extents, as they are told -/
def extL (s : Sto) (E : List Ex) : List Tr := trE E ++ zs s s.blks.length
end Go.Proofs.Ytdafcfmbnlgbfaa.W
