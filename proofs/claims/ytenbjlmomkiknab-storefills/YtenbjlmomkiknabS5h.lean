/- Package store: a range over the blocks of the ring. -/
import Derived.Test.YtenbjlmomkiknabS5g
namespace Go.Proofs.Ytenbjlmomkiknab.W
open Go.ChangeShapes Go.WideShapes Go.RowKit Go.Shelf
set_option linter.unusedVariables false

/-- how the body of a round over the ring is left -/
def ringWay (L D Bn : Nat) (W : World) (In : World → Prop) (Ix : Code → World → Prop) : Exit → Act → World → Prop
  | .normal, _, W' => (W'.heap[L]? = W.heap[L]? ∧ W'.heap[D]? = W.heap[D]? ∧ W'.heap[Bn]? = W.heap[Bn]?) ∧ In W'
  | .ret, _, W' => (W'.heap[L]? = W.heap[L]? ∧ W'.heap[D]? = W.heap[D]? ∧ W'.heap[Bn]? = W.heap[Bn]?) ∧ Ix .ret W'
  | .exit id, _, W' => (W'.heap[L]? = W.heap[L]? ∧ W'.heap[D]? = W.heap[D]? ∧ W'.heap[Bn]? = W.heap[Bn]?) ∧ Ix (.exit id) W'
  | _, _, _ => False
/-- the frame in which a round's body begins: x in the loop's variable -/
def ringAct (pt : Nat) (a : Act) (q x : Nat) : Act := { tmps := (a.tmps.setIfInBounds pt (.int .i64 (x : Int))).setIfInBounds q (.int .i64 (x : Int)), defers := [] }
theorem zip_one (t : Array Value) (pt : Nat) (v : Value) : Array.foldl (fun (t : Array Value) (x : Tmp × Value) => match x with | (p, v) => t.setIfInBounds p v) t (#[pt].zip #[v]) = t.setIfInBounds pt v := by simp
theorem upd_put {W : World} {S : Nat → Prop} {L : Nat} (hL : S L) (o : Obj) : Upd S W (W.putObj L o) := (Upd.refl S W).putObj (.inl hL) o
theorem eg49 : ∀ args w, (callFunc 85 args).run Try.prog w = .ok (.enter 85 args) w := enters_of Try.func85 (by kernel_rfl) rfl
theorem ring_law {g : Operand} {pt : Nat} {assign body : Code} {Q : Exit → Act → World → Prop} {a : Act} {W0 : World} {Bn Bs sb : Nat} (hg : a.eval g = .func (.func 85) #[] #[.pointer (some ⟨Bn, 0, none⟩), .pointer (some ⟨Bs, 0, none⟩)])
    (xs : List Nat) (hne : 0 < xs.length) (hd : xs.Nodup) (hz : ∀ i (hi : i + 1 < xs.length), xs[i + 1] ≠ 0) (hBn : Boxed W0 Bn 3 (.int .i64 (xs[0] : Nat)))
    (I : Nat → World → Prop) (Ix : Code → World → Prop)
    (hI : ∀ i W W', I i W → Upd (fun k => k = Bn ∨ W0.heap.size ≤ k) W W' → I i W')
    (hIx : ∀ c W W', Ix c W → Upd (fun k => k = Bn ∨ W0.heap.size ≤ k) W W' → Ix c W') (h0 : I 0 W0)
    (hread : ∀ i (hi : i < xs.length) W, I (i + 1) W → W.cell? ⟨Bs, 0, none⟩ = some (.pointer (some ⟨sb, 0, none⟩)) ∧ ∃ B O, Calls Try.prog 59 #[.pointer (some ⟨sb, 0, none⟩), .int .i64 (xs[i] : Nat)] W (fun e w' => e = .returned (.pointer (some ⟨B, O, none⟩)) ∧ w' = W) ∧ W.cell? ⟨B, O + 4, none⟩ = some (.int .i64 (xs[i + 1]?.getD 0 : Nat)))
    (q : Nat)
    (hassign : ∀ (L x : Nat) (W : World) (K : Act → World → Prop), K (ringAct pt a q x) W → assign.wpIn (Fence.wide.inRound L) 7 Try.prog (Exit.then K (fun _ _ _ => False)) { tmps := a.tmps.setIfInBounds pt (.int .i64 (x : Int)), defers := [] } W)
    (hbody : ∀ (L : Nat) i (hi : i < xs.length) W, L = W0.heap.size + 1 → I i W → W0.heap.size + 2 ≤ W.heap.size → (∃ r, W.heap[L]? = some (.loop r)) → Boxed W Bn 3 (.int .i64 (xs[i] : Nat)) → body.wpIn (Fence.wide.inRound L) 7 Try.prog (ringWay L W0.heap.size Bn W (I (i + 1)) Ix) (ringAct pt a q xs[i]) W)
    (hdone : ∀ W, I xs.length W → W.heap[W0.heap.size]? = some (.deferred (some [])) → Q .normal { a with defers := { target := .collected W0.heap.size, args := #[] } :: a.defers } W)
    (hstop : ∀ c W, Ix c W → W.heap[W0.heap.size]? = some (.deferred (some [])) → c.wp Try.prog Q { a with defers := { target := .collected W0.heap.size, args := #[] } :: a.defers } W) :
    (Code.rangeFunc g #[pt] assign body).wp Try.prog Q a W0 := by
  have hUL : ∀ (W : World) (o : Obj), Upd (fun k => k = Bn ∨ W0.heap.size ≤ k) W (W.putObj (W0.heap.size + 1) o) := fun W o => upd_put (.inr (by omega)) o
  have hBlt := hBn.lt
  refine (wpIn_wide (n := 9)).1 (rf_law hg eg49 (fun W => I xs.length W) Ix ?_ ?_ ?_)
  · intro r W1 hr1 hr2 hr3 hr4 hr5 hr6 hW1 hL1
    have hI1 : I 0 W1 := by
      refine hI 0 W0 W1 h0 ?_
      rw [hW1]; exact ((Upd.refl _ W0).alloc _).alloc _
    have hB1 : Boxed W1 Bn 3 (.int .i64 (xs[0] : Nat)) := by rw [hW1]; exact (hBn.alloc _).alloc _
    have hsz : W0.heap.size + 2 ≤ W1.heap.size := by rw [hW1]; simp
    have key := from1_in 8 (W0.heap.size + 1) Bn Bs sb (by omega) xs hne hd
      (fun i W => I i W ∧ LoopAt W (W0.heap.size + 1) W0.heap.size r ∧ W0.heap.size + 2 ≤ W.heap.size ∧ ∃ hi : i < xs.length, Boxed W Bn 3 (.int .i64 (xs[i] : Nat)))
      (fun i W => I (i + 1) W ∧ LoopAt W (W0.heap.size + 1) W0.heap.size r ∧ W0.heap.size + 2 ≤ W.heap.size ∧ ∃ hi : i < xs.length, Boxed W Bn 3 (.int .i64 (xs[i] : Nat)))
      (fun W => I xs.length W ∧ LoopAt W (W0.heap.size + 1) W0.heap.size r)
      (fun W => ∃ c, Ix c W ∧ LoopAt W (W0.heap.size + 1) W0.heap.size { r with state := .done, pending := some c })
      ?_ ?_ ?_ ?_ ?_ W1 ⟨hI1, hL1, hsz, hne, hB1⟩
    · refine key.mono ?_
      rintro e W3 ⟨hv, ⟨h1, h2⟩ | ⟨c, h1, h2⟩⟩
      · exact ⟨hv, .inl ⟨h1, r, h2, by rw [hr1]; simp, hr2⟩⟩
      · exact ⟨hv, .inr ⟨c, h1, _, h2, by simp, rfl⟩⟩
    · intro i hi W ⟨hi1, hl1, hs1, _, hb1⟩
      have hargs : (#[Value.int .i64 ((xs[i] : Nat) : Int)] : Array Value).size = r.params.size := by rw [hr4]; rfl
      refine YieldAt.mono (yield_law (Rn := fun W' => I (i + 1) W' ∧ LoopAt W' (W0.heap.size + 1) W0.heap.size r ∧ W0.heap.size + 2 ≤ W'.heap.size ∧ ∃ hi : i < xs.length, Boxed W' Bn 3 (.int .i64 (xs[i] : Nat))) (Rx := fun c W' => Ix c W' ∧ LoopAt W' (W0.heap.size + 1) W0.heap.size { r with state := .done, pending := some c }) hl1 hr1 hargs (ringAct pt a q xs[i]) ?_ ?_) ?_
      · intro K hK
        rw [hr5, hr4, hr3]
        rw [zip_one]
        exact hassign _ _ W K hK
      · intro W2 hW2 hl2
        have hI2 : I i W2 := by rw [hW2]; exact hI i W _ hi1 (hUL W _)
        have hb2 : Boxed W2 Bn 3 (.int .i64 (xs[i] : Nat)) := by
          rw [hW2]
          unfold Boxed
          rw [World.putObj_heap_other (by omega)]
          exact hb1
        have hs2 : W0.heap.size + 2 ≤ W2.heap.size := by rw [hW2]; simpa using hs1
        have hbd := hbody _ i hi W2 rfl hI2 hs2 ⟨_, hl2.lp⟩ hb2
        rw [← hr6] at hbd
        refine wpIn_mono hbd ?_
        intro e a3 W3 hp
        have put : ∀ q : Loop, (W3.heap[W0.heap.size + 1]? = W2.heap[W0.heap.size + 1]? ∧ W3.heap[W0.heap.size]? = W2.heap[W0.heap.size]? ∧ W3.heap[Bn]? = W2.heap[Bn]?) → LoopAt W3 (W0.heap.size + 1) W0.heap.size { r with state := .busy } ∧ LoopAt (W3.putObj (W0.heap.size + 1) (.loop q)) (W0.heap.size + 1) W0.heap.size q ∧ Boxed (W3.putObj (W0.heap.size + 1) (.loop q)) Bn 3 (.int .i64 (xs[i] : Nat)) ∧ W0.heap.size + 2 ≤ (W3.putObj (W0.heap.size + 1) (.loop q)).heap.size := by
          rintro q ⟨e1, e2, e3⟩
          have hl3 := hl2.kept e1 e2
          refine ⟨hl3, hl3.put q, ?_, ?_⟩
          · unfold Boxed
            rw [World.putObj_heap_other (by omega), e3]
            exact hb2
          · have := (Array.getElem?_eq_some_iff.1 hl3.lp).1
            simp; omega
        cases e with
        | normal =>
          obtain ⟨hk, hin⟩ := hp
          obtain ⟨p1, p2, p3, p4⟩ := put { r with state := .ready, pending := none } hk
          have er : ({ r with state := .ready, pending := none } : Loop) = r := by cases r; simp_all
          refine ⟨p1, hI _ W3 _ hin (hUL W3 _), ?_, p4, hi, p3⟩
          rw [er] at p2 ⊢
          exact p2
        | ret =>
          obtain ⟨hk, hin⟩ := hp
          obtain ⟨p1, p2, p3, p4⟩ := put { r with state := .done, pending := some .ret } hk
          exact ⟨p1, hIx _ W3 _ hin (hUL W3 _), p2⟩
        | exit id =>
          obtain ⟨hk, hin⟩ := hp
          obtain ⟨p1, p2, p3, p4⟩ := put { r with state := .done, pending := some (.exit id) } hk
          exact ⟨p1, hIx _ W3 _ hin (hUL W3 _), p2⟩
        | goto t => exact hp.elim
        | panic ch => exact hp.elim
        | outgrown => exact hp.elim
      · rintro e W' (⟨rfl, h1⟩ | ⟨rfl, c, h1⟩)
        · exact .inl ⟨rfl, h1⟩
        · exact .inr ⟨rfl, c, h1⟩
    · rintro i hi W ⟨_, _, _, _, hb⟩
      exact hb.cell
    · rintro i hi W ⟨h1, _, _, _, hb⟩
      obtain ⟨r1, r2⟩ := hread i hi W h1
      exact ⟨hb.cell, hb.frozen, r1, r2⟩
    · rintro i hi W ⟨h1, hl, hs, hi', hb⟩
      have hu : Upd (fun k => k = Bn ∨ W0.heap.size ≤ k) W (W.setCell ⟨Bn, 0, none⟩ (.int .i64 (xs[i + 1] : Nat))) := (Upd.refl _ W).setCell (.inl (.inl rfl)) _
      refine ⟨hz i hi, hI _ W _ h1 hu, hl.kept (Below.heap_setCell _ _ _ _ (by show _ ≠ Bn; omega)) (Below.heap_setCell _ _ _ _ (by show _ ≠ Bn; omega)), by simpa [World.setCell] using hs, hi, hb.set _⟩
    · rintro i W hi ⟨h1, hl, hs, hi', hb⟩
      have hu : Upd (fun k => k = Bn ∨ W0.heap.size ≤ k) W (W.setCell ⟨Bn, 0, none⟩ (.int .i64 0)) := (Upd.refl _ W).setCell (.inl (.inl rfl)) _
      rw [← hi]
      exact ⟨hI _ W _ h1 hu, hl.kept (Below.heap_setCell _ _ _ _ (by show _ ≠ Bn; omega)) (Below.heap_setCell _ _ _ _ (by show _ ≠ Bn; omega))⟩
  · intro W3 q hd hl
    exact hdone _ (hI _ W3 _ hd (hUL W3 _)) hl.defs
  · intro W3 q c hs hl
    exact wpIn_wide.2 (hstop c _ (hIx _ W3 _ hs (hUL W3 _)) hl.defs)
end Go.Proofs.Ytenbjlmomkiknab.W
