import Derived.Test.YtndkfjoaiinjoaaGreatBase0
import Derived.Deep.RegionWith
import Derived.Deep.RegionHeld3
import Derived.Deep.Cut
import Derived.Deep.DeepCutAuto
/- Package store: the blocks of the ring, one behind the other: the iterator. -/
namespace Go.Proofs.YtndkfjoaiinjoaaGreat.W
open Go.ChangeShapes Go.WideShapes Go.RowKit Go.Shelf
set_option linter.unusedVariables false

theorem from_c (W : World) (sb : Nat) (n : Int) : Calls Tryz.prog 122 #[.pointer (some ⟨sb, 0, none⟩), .int .i64 n] W fun e w' => e = .returned (.func (.func 126) #[] #[.pointer (some ⟨W.heap.size + 1, 0, none⟩), .pointer (some ⟨W.heap.size, 0, none⟩)]) ∧ w' = (W.alloc (.cells #[.pointer (some ⟨sb, 0, none⟩)] 66)).alloc (.cells #[.int .i64 n] 3) := by
  go_enter Tryz.func122, Tryz.ntmps122
  go_wp2
  go_ret
  exact ⟨rfl, rfl⟩
/-- how far the iterator is -/
def idxAt (xs : List Nat) (Bn : Nat) (W : World) : Nat := xs.findIdx (fun x : Nat => decide ((W.cell? ⟨Bn, 0, none⟩).map intOf = some (x : Int)))
theorem idxAt_eq (xs : List Nat) (Bn : Nat) (W : World) (i : Nat) (hi : i < xs.length) (hd : xs.Nodup) (hc : W.cell? ⟨Bn, 0, none⟩ = some (.int .i64 (xs[i] : Nat))) : idxAt xs Bn W = i := by
  unfold idxAt
  rw [List.findIdx_eq hi]
  refine ⟨by simp [hc, intOf], fun j hj => ?_⟩
  simp only [hc, Option.map_some, intOf, decide_eq_false_iff_not, Option.some.injEq]
  intro e
  have e' : xs[i] = xs[j] := by omega
  exact List.pairwise_iff_getElem.1 hd j i (by omega) hi hj e'.symm
set_option maxHeartbeats 1000000 in
theorem from1_in (n l Bn Bs sb : Nat) (hn : 1 ≤ n) (xs : List Nat) (hne : 0 < xs.length) (hd : xs.Nodup) (J K : Nat → World → Prop) (E X : World → Prop)
    (hY : ∀ i (hi : i < xs.length) W, J i W → YieldAt Fence.wide (n - 1) Tryz.prog l #[.int .i64 (xs[i] : Nat)] W fun e W' => (e = .returned (.bool true) ∧ K i W') ∨ (e = .returned (.bool false) ∧ X W'))
    (hJ : ∀ i (hi : i < xs.length) W, J i W → W.cell? ⟨Bn, 0, none⟩ = some (.int .i64 (xs[i] : Nat)))
    (hK : ∀ i (hi : i < xs.length) W, K i W → W.cell? ⟨Bn, 0, none⟩ = some (.int .i64 (xs[i] : Nat)) ∧ W.frozen? ⟨Bn, 0, none⟩ = false ∧ W.cell? ⟨Bs, 0, none⟩ = some (.pointer (some ⟨sb, 0, none⟩)) ∧ ∃ B O, Calls Tryz.prog 111 #[.pointer (some ⟨sb, 0, none⟩), .int .i64 (xs[i] : Nat)] W (fun e w' => e = .returned (.pointer (some ⟨B, O, none⟩)) ∧ w' = W) ∧ W.cell? ⟨B, O + 4, none⟩ = some (.int .i64 (xs[i + 1]?.getD 0 : Nat)))
    (hS : ∀ i (hi : i + 1 < xs.length) W, K i W → xs[i + 1] ≠ 0 ∧ J (i + 1) (W.setCell ⟨Bn, 0, none⟩ (.int .i64 (xs[i + 1] : Nat))))
    (hE : ∀ i W, i + 1 = xs.length → K i W → E (W.setCell ⟨Bn, 0, none⟩ (.int .i64 0)))
    (W : World) (h0 : J 0 W) :
    CallsIn Fence.wide n Tryz.prog 126 #[.func (.yield l) #[] #[], .pointer (some ⟨Bn, 0, none⟩), .pointer (some ⟨Bs, 0, none⟩)] W fun e W' => (∃ v, e = .returned v) ∧ (E W' ∨ X W') := by
  refine callsIn_of_wp Tryz.func126 rfl trivial ?_ rfl
  simp only [Tryz.ntmps126, List.size_toArray, List.length_cons, List.length_nil, Nat.reduceAdd, Nat.reduceSub, Array.replicate_succ, Array.replicate_zero, List.push_toArray, List.append_toArray, List.nil_append, List.cons_append]
  gi_wp2
  gi_loopw [5] (fun _ wr => ∃ i, i < xs.length ∧ J i wr) (fun _ wr => xs.length - idxAt xs Bn wr)
  case atStart => exact ⟨0, hne, h0⟩
  case round =>
    obtain ⟨i, hi, hJi⟩ := hrel
    have c1 := hJ i hi wr hJi
    obtain ⟨fn, tmps, assign, body, hy, hR⟩ := hY i hi wr hJi
    gi_wp2
    refine hR.mono ?_
    rintro e W3 (⟨rfl, hK3⟩ | ⟨rfl, hX3⟩)
    · obtain ⟨k1, k2, k3, B, O, cb, k4⟩ := hK i hi W3 hK3
      by_cases hlast : i + 1 < xs.length
      · obtain ⟨hz, hJ4⟩ := hS i hlast W3 hK3
        have ex : xs[i + 1]?.getD 0 = xs[i + 1] := by simp [hlast]
        rw [ex] at k4
        have hz' : (((xs[i + 1] : Nat) : Int) == 0) = false := by simp; omega
        have k5 : (W3.setCell ⟨Bn, 0, none⟩ (.int .i64 (xs[i + 1] : Nat))).cell? ⟨Bn, 0, none⟩ = some (.int .i64 (xs[i + 1] : Nat)) := World.cell?_setCell_same' _ _ _ (by rw [k1]; rfl)
        have hm : Hid (idxAt xs Bn (W3.setCell ⟨Bn, 0, none⟩ (.int .i64 (xs[i + 1] : Nat))) = i + 1) := idxAt_eq xs Bn _ (i + 1) hlast hd k5
        have hm0 : Hid (idxAt xs Bn wr = i) := idxAt_eq xs Bn _ i hi hd c1
        have HJ := hid hJ4
        clear hJ4 hY hJ hK hS hE hJi hy
        gi_wp2_with ((refine ⟨trivial, ?_⟩); gi_at_call 111; (refine (callsIn_wide.2 cb).mono ?_); rintro e w' ⟨rfl, hw⟩; (have hw' := hw.symm); subst hw'; clear hw)
        go_roundw
        case rel => exact ⟨i + 1, hlast, HJ⟩
        case measure => rw [hm.out, hm0.out]; omega
      · have ex : xs[i + 1]?.getD 0 = 0 := by simp [List.getElem?_eq_none (by omega : xs.length ≤ i + 1)]
        rw [ex] at k4
        have hE4 := hid (hE i W3 (by omega) hK3)
        have k5 : (W3.setCell ⟨Bn, 0, none⟩ (.int .i64 0)).cell? ⟨Bn, 0, none⟩ = some (.int .i64 0) := World.cell?_setCell_same' _ _ _ (by rw [k1]; rfl)
        clear hY hJ hK hS hE hJi hy
        gi_wp2_with ((refine ⟨trivial, ?_⟩); gi_at_call 111; (refine (callsIn_wide.2 cb).mono ?_); rintro e w' ⟨rfl, hw⟩; (have hw' := hw.symm); subst hw'; clear hw)
        refine bodyPost_ret (results_none rfl _ _ _) rfl ?_
        exact ⟨⟨_, rfl⟩, .inl hE4.out⟩
    · clear hY hJ hK hS hE hJi hy
      gi_wp2
      go_end0
      exact ⟨⟨_, rfl⟩, .inr hX3⟩
end Go.Proofs.YtndkfjoaiinjoaaGreat.W
/- Package store: a range over the blocks of the ring. -/
namespace Go.Proofs.YtndkfjoaiinjoaaGreat.W
open Go.ChangeShapes Go.WideShapes Go.RowKit Go.Shelf
set_option linter.unusedVariables false

/-- how the body of a round over the ring is left -/
def ringWay (L D Bn : Nat) (W : World) (In : World → Prop) (Ix : Code → World → Prop) : Exit → Act → World → Prop
  | .normal, _, W' => (W'.heap[L]? = W.heap[L]? ∧ W'.heap[D]? = W.heap[D]? ∧ W'.heap[Bn]? = W.heap[Bn]?) ∧ In W'
  | .ret, _, W' => (W'.heap[L]? = W.heap[L]? ∧ W'.heap[D]? = W.heap[D]? ∧ W'.heap[Bn]? = W.heap[Bn]?) ∧ Ix .ret W'
  | .exit id, _, W' => (W'.heap[L]? = W.heap[L]? ∧ W'.heap[D]? = W.heap[D]? ∧ W'.heap[Bn]? = W.heap[Bn]?) ∧ Ix (.exit id) W'
  | _, _, _ => False
/-- the frame in which a round's body begins: x in the loop's variable -/
def ringAct (pt : Nat) (a : Act) (q x : Nat) : Act := { tmps := (a.tmps.setIfInBounds pt (.int .i64 (x : Int))).setIfInBounds q (.int .i64 (x : Int)), defers := [] }
theorem zip_one (t : Array Value) (pt : Nat) (v : Value) : Array.foldl (fun (t : Array Value) (x : Tmp × Value) => match x with | (p, v) => t.setIfInBounds p v) t (#[pt].zip #[v]) = t.setIfInBounds pt v := by simp
theorem upd_put {W : World} {S : Nat → Prop} {L : Nat} (hL : S L) (o : Obj) : Upd S W (W.putObj L o) := (Upd.refl S W).putObj (.inl hL) o
theorem eg49 : ∀ args w, (callFunc 126 args).run Tryz.prog w = .ok (.enter 126 args) w := enters_of Tryz.func126 (by kernel_rfl) rfl
theorem ring_law {g : Operand} {pt : Nat} {assign body : Code} {Q : Exit → Act → World → Prop} {a : Act} {W0 : World} {Bn Bs sb : Nat} (hg : a.eval g = .func (.func 126) #[] #[.pointer (some ⟨Bn, 0, none⟩), .pointer (some ⟨Bs, 0, none⟩)])
    (xs : List Nat) (hne : 0 < xs.length) (hd : xs.Nodup) (hz : ∀ i (hi : i + 1 < xs.length), xs[i + 1] ≠ 0) (hBn : Boxed W0 Bn 3 (.int .i64 (xs[0] : Nat)))
    (I : Nat → World → Prop) (Ix : Code → World → Prop)
    (hI : ∀ i W W', I i W → Upd (fun k => k = Bn ∨ W0.heap.size ≤ k) W W' → I i W')
    (hIx : ∀ c W W', Ix c W → Upd (fun k => k = Bn ∨ W0.heap.size ≤ k) W W' → Ix c W') (h0 : I 0 W0)
    (hread : ∀ i (hi : i < xs.length) W, I (i + 1) W → W.cell? ⟨Bs, 0, none⟩ = some (.pointer (some ⟨sb, 0, none⟩)) ∧ ∃ B O, Calls Tryz.prog 111 #[.pointer (some ⟨sb, 0, none⟩), .int .i64 (xs[i] : Nat)] W (fun e w' => e = .returned (.pointer (some ⟨B, O, none⟩)) ∧ w' = W) ∧ W.cell? ⟨B, O + 4, none⟩ = some (.int .i64 (xs[i + 1]?.getD 0 : Nat)))
    (q : Nat)
    (hassign : ∀ (L x : Nat) (W : World) (K : Act → World → Prop), K (ringAct pt a q x) W → assign.wpIn (Fence.wide.inRound L) 7 Tryz.prog (Exit.then K (fun _ _ _ => False)) { tmps := a.tmps.setIfInBounds pt (.int .i64 (x : Int)), defers := [] } W)
    (hbody : ∀ (L : Nat) i (hi : i < xs.length) W, L = W0.heap.size + 1 → I i W → W0.heap.size + 2 ≤ W.heap.size → (∃ r, W.heap[L]? = some (.loop r)) → Boxed W Bn 3 (.int .i64 (xs[i] : Nat)) → body.wpIn (Fence.wide.inRound L) 7 Tryz.prog (ringWay L W0.heap.size Bn W (I (i + 1)) Ix) (ringAct pt a q xs[i]) W)
    (hdone : ∀ W, I xs.length W → W.heap[W0.heap.size]? = some (.deferred (some [])) → Q .normal { a with defers := { target := .collected W0.heap.size, args := #[] } :: a.defers } W)
    (hstop : ∀ c W, Ix c W → W.heap[W0.heap.size]? = some (.deferred (some [])) → c.wp Tryz.prog Q { a with defers := { target := .collected W0.heap.size, args := #[] } :: a.defers } W) :
    (Code.rangeFunc g #[pt] assign body).wp Tryz.prog Q a W0 := by
  have hUL : ∀ (W : World) (o : Obj), Upd (fun k => k = Bn ∨ W0.heap.size ≤ k) W (W.putObj (W0.heap.size + 1) o) := fun W o => upd_put (.inr (by omega)) o
  have hBlt := hBn.lt
  refine (wpIn_wide (n := 9)).1 (rf_law hg eg49 (fun W => I xs.length W) Ix ?_ ?_ ?_)
  · intro r W1 hr1 hr2 hr3 hr4 hr5 hr6 hW1 hL1
    have hI1 : I 0 W1 := by
      refine hI 0 W0 W1 h0 ?_
      rw [hW1]; exact ((Upd.refl _ W0).alloc _).alloc _
    have hB1 : Boxed W1 Bn 3 (.int .i64 (xs[0] : Nat)) := by rw [hW1]; exact (hBn.alloc _).alloc _
    have hsz : W0.heap.size + 2 ≤ W1.heap.size := by rw [hW1]; simp
    have key := from1_in 8 (W0.heap.size + 1) Bn Bs sb (by omega) xs hne hd
      (fun i W => I i W ∧ LoopAt W (W0.heap.size + 1) W0.heap.size r ∧ W0.heap.size + 2 ≤ W.heap.size ∧ ∃ hi : i < xs.length, Boxed W Bn 3 (.int .i64 (xs[i] : Nat)))
      (fun i W => I (i + 1) W ∧ LoopAt W (W0.heap.size + 1) W0.heap.size r ∧ W0.heap.size + 2 ≤ W.heap.size ∧ ∃ hi : i < xs.length, Boxed W Bn 3 (.int .i64 (xs[i] : Nat)))
      (fun W => I xs.length W ∧ LoopAt W (W0.heap.size + 1) W0.heap.size r)
      (fun W => ∃ c, Ix c W ∧ LoopAt W (W0.heap.size + 1) W0.heap.size { r with state := .done, pending := some c })
      ?_ ?_ ?_ ?_ ?_ W1 ⟨hI1, hL1, hsz, hne, hB1⟩
    · refine key.mono ?_
      rintro e W3 ⟨hv, ⟨h1, h2⟩ | ⟨c, h1, h2⟩⟩
      · exact ⟨hv, .inl ⟨h1, r, h2, by rw [hr1]; simp, hr2⟩⟩
      · exact ⟨hv, .inr ⟨c, h1, _, h2, by simp, rfl⟩⟩
    · intro i hi W ⟨hi1, hl1, hs1, _, hb1⟩
      have hargs : (#[Value.int .i64 ((xs[i] : Nat) : Int)] : Array Value).size = r.params.size := by rw [hr4]; rfl
      refine YieldAt.mono (yield_law (Rn := fun W' => I (i + 1) W' ∧ LoopAt W' (W0.heap.size + 1) W0.heap.size r ∧ W0.heap.size + 2 ≤ W'.heap.size ∧ ∃ hi : i < xs.length, Boxed W' Bn 3 (.int .i64 (xs[i] : Nat))) (Rx := fun c W' => Ix c W' ∧ LoopAt W' (W0.heap.size + 1) W0.heap.size { r with state := .done, pending := some c }) hl1 hr1 hargs (ringAct pt a q xs[i]) ?_ ?_) ?_
      · intro K hK
        rw [hr5, hr4, hr3]
        rw [zip_one]
        exact hassign _ _ W K hK
      · intro W2 hW2 hl2
        have hI2 : I i W2 := by rw [hW2]; exact hI i W _ hi1 (hUL W _)
        have hb2 : Boxed W2 Bn 3 (.int .i64 (xs[i] : Nat)) := by
          rw [hW2]
          unfold Boxed
          rw [World.putObj_heap_other (by omega)]
          exact hb1
        have hs2 : W0.heap.size + 2 ≤ W2.heap.size := by rw [hW2]; simpa using hs1
        have hbd := hbody _ i hi W2 rfl hI2 hs2 ⟨_, hl2.lp⟩ hb2
        rw [← hr6] at hbd
        refine wpIn_mono hbd ?_
        intro e a3 W3 hp
        have put : ∀ q : Loop, (W3.heap[W0.heap.size + 1]? = W2.heap[W0.heap.size + 1]? ∧ W3.heap[W0.heap.size]? = W2.heap[W0.heap.size]? ∧ W3.heap[Bn]? = W2.heap[Bn]?) → LoopAt W3 (W0.heap.size + 1) W0.heap.size { r with state := .busy } ∧ LoopAt (W3.putObj (W0.heap.size + 1) (.loop q)) (W0.heap.size + 1) W0.heap.size q ∧ Boxed (W3.putObj (W0.heap.size + 1) (.loop q)) Bn 3 (.int .i64 (xs[i] : Nat)) ∧ W0.heap.size + 2 ≤ (W3.putObj (W0.heap.size + 1) (.loop q)).heap.size := by
          rintro q ⟨e1, e2, e3⟩
          have hl3 := hl2.kept e1 e2
          refine ⟨hl3, hl3.put q, ?_, ?_⟩
          · unfold Boxed
            rw [World.putObj_heap_other (by omega), e3]
            exact hb2
          · have := (Array.getElem?_eq_some_iff.1 hl3.lp).1
            simp; omega
        cases e with
        | normal =>
          obtain ⟨hk, hin⟩ := hp
          obtain ⟨p1, p2, p3, p4⟩ := put { r with state := .ready, pending := none } hk
          have er : ({ r with state := .ready, pending := none } : Loop) = r := by cases r; simp_all
          refine ⟨p1, hI _ W3 _ hin (hUL W3 _), ?_, p4, hi, p3⟩
          rw [er] at p2 ⊢
          exact p2
        | ret =>
          obtain ⟨hk, hin⟩ := hp
          obtain ⟨p1, p2, p3, p4⟩ := put { r with state := .done, pending := some .ret } hk
          exact ⟨p1, hIx _ W3 _ hin (hUL W3 _), p2⟩
        | exit id =>
          obtain ⟨hk, hin⟩ := hp
          obtain ⟨p1, p2, p3, p4⟩ := put { r with state := .done, pending := some (.exit id) } hk
          exact ⟨p1, hIx _ W3 _ hin (hUL W3 _), p2⟩
        | goto t => exact hp.elim
        | panic ch => exact hp.elim
        | outgrown => exact hp.elim
      · rintro e W' (⟨rfl, h1⟩ | ⟨rfl, c, h1⟩)
        · exact .inl ⟨rfl, h1⟩
        · exact .inr ⟨rfl, c, h1⟩
    · rintro i hi W ⟨_, _, _, _, hb⟩
      exact hb.cell
    · rintro i hi W ⟨h1, _, _, _, hb⟩
      obtain ⟨r1, r2⟩ := hread i hi W h1
      exact ⟨hb.cell, hb.frozen, r1, r2⟩
    · rintro i hi W ⟨h1, hl, hs, hi', hb⟩
      have hu : Upd (fun k => k = Bn ∨ W0.heap.size ≤ k) W (W.setCell ⟨Bn, 0, none⟩ (.int .i64 (xs[i + 1] : Nat))) := (Upd.refl _ W).setCell (.inl (.inl rfl)) _
      refine ⟨hz i hi, hI _ W _ h1 hu, hl.kept (Below.heap_setCell _ _ _ _ (by show _ ≠ Bn; omega)) (Below.heap_setCell _ _ _ _ (by show _ ≠ Bn; omega)), by simpa [World.setCell] using hs, hi, hb.set _⟩
    · rintro i W hi ⟨h1, hl, hs, hi', hb⟩
      have hu : Upd (fun k => k = Bn ∨ W0.heap.size ≤ k) W (W.setCell ⟨Bn, 0, none⟩ (.int .i64 0)) := (Upd.refl _ W).setCell (.inl (.inl rfl)) _
      rw [← hi]
      exact ⟨hI _ W _ h1 hu, hl.kept (Below.heap_setCell _ _ _ _ (by show _ ≠ Bn; omega)) (Below.heap_setCell _ _ _ _ (by show _ ≠ Bn; omega))⟩
  · intro W3 q hd hl
    exact hdone _ (hI _ W3 _ hd (hUL W3 _)) hl.defs
  · intro W3 q c hs hl
    exact wpIn_wide.2 (hstop c _ (hIx _ W3 _ hs (hUL W3 _)) hl.defs)
end Go.Proofs.YtndkfjoaiinjoaaGreat.W
/- Package store: seek. -/
namespace Go.Proofs.YtndkfjoaiinjoaaGreat.W
open Go.ChangeShapes Go.WideShapes Go.RowKit Go.Shelf
set_option linter.unusedVariables false
attribute [local go_sem] Oper.semAt_some

theorem Lay.drew {W : World} {sb : Nat} {vr vb vf : Value} {s : Sto} (h : Lay W sb vr vb vf s) : Lay W.drew sb vr vb vf s := ⟨h.obj, h.row, h.blk, h.free⟩
theorem Lay.alloc {W : World} {sb : Nat} {vr vb vf : Value} {s : Sto} (h : Lay W sb vr vb vf s) (o : Obj) : Lay (W.alloc o) sb vr vb vf s := by
  have lt : ∀ {e : TypeId} {size : Nat} {v : Value} {n : Nat} {xs : List Value}, W.ownsRow 0 e size v n xs → ∀ k, v.ownBlock = some k → k < W.heap.size := fun h k e => (h.lt k e).2
  exact h.kept (Below.heap_alloc _ _ _ (Array.getElem?_eq_some_iff.1 h.obj).1) (fun k e => Below.heap_alloc _ _ _ (lt h.row k e)) (fun k e => Below.heap_alloc _ _ _ (lt h.blk k e)) (fun k e => Below.heap_alloc _ _ _ (lt h.free k e))
theorem lay_lt {W : World} {sb : Nat} {vr vb vf : Value} {s : Sto} (h : Lay W sb vr vb vf s) : sb < W.heap.size ∧ (∀ k, vr.ownBlock = some k → k < W.heap.size) ∧ (∀ k, vb.ownBlock = some k → k < W.heap.size) ∧ (∀ k, vf.ownBlock = some k → k < W.heap.size) :=
  ⟨(Array.getElem?_eq_some_iff.1 h.obj).1, fun k e => (h.row.lt k e).2, fun k e => (h.blk.lt k e).2, fun k e => (h.free.lt k e).2⟩
/-- what changes only behind the blocks of the beginning keeps the store -/
theorem lay_far {W Wa Wb : World} {sb : Nat} {vr vb vf : Value} {s s' : Sto} (h : Lay W sb vr vb vf s) (g : Lay Wa sb vr vb vf s') (hs : W.heap.size ≤ Wa.heap.size) {Bn n : Nat} (hu : Upd (fun k => k = Bn ∨ n ≤ k) Wa Wb) (hb : W.heap.size ≤ Bn ∧ W.heap.size ≤ n) : Lay Wb sb vr vb vf s' := by
  obtain ⟨l0, l1, l2, l3⟩ := lay_lt h
  have key : ∀ k, k < W.heap.size → Wb.heap[k]? = Wa.heap[k]? := fun k hk => hu.block k (by omega) (by rintro (rfl | g) <;> omega)
  exact g.kept (key _ l0) (fun k e => key _ (l1 k e)) (fun k e => key _ (l2 k e)) (fun k e => key _ (l3 k e))
theorem upd_far {W Wa Wb : World} {S : Nat → Prop} (g : Upd S W Wa) {Bn n : Nat} (hu : Upd (fun k => k = Bn ∨ n ≤ k) Wa Wb) (h1 : W.heap.size ≤ Bn) (h2 : W.heap.size ≤ n) : Upd S W Wb :=
  ⟨hu.os.trans g.os, hu.tape.trans g.tape, hu.output.trans g.output, Nat.le_trans g.size hu.size, fun k hk hn => (hu.block k (Nat.lt_of_lt_of_le hk g.size) (by rintro (rfl | g) <;> omega)).trans (g.block k hk hn)⟩
theorem box_far {Wa Wb : World} {B t : Nat} {v : Value} (g : Boxed Wa B t v) {Bn n : Nat} (hu : Upd (fun k => k = Bn ∨ n ≤ k) Wa Wb) (h1 : B ≠ Bn) (h2 : B < n) : Boxed Wb B t v := by
  unfold Boxed
  rw [hu.block B g.lt (by rintro (rfl | g) <;> omega)]
  exact g
theorem boxed_set {W : World} {B t : Nat} {v : Value} (h : Boxed W B t v) {sb : Nat} (hne : B ≠ sb) (q : Nat) (u : Value) : Boxed ((W.drewN q).setCell ⟨sb, 9, none⟩ u) B t v := by
  unfold Boxed at *
  rw [Below.heap_setCell _ _ _ _ hne]
  exact h
end Go.Proofs.YtndkfjoaiinjoaaGreat.W
/- Package store: link, unlink. -/
namespace Go.Proofs.YtndkfjoaiinjoaaGreat.W
open Go.ChangeShapes Go.WideShapes Go.RowKit Go.Shelf
set_option linter.unusedVariables false

theorem get_set_same {s : Sto} {n : Nat} {b : Blk} (h : s.get n = some b) (c : Blk) : (s.set n c).get n = some c := by
  unfold Sto.get Sto.set at *
  split
  · simp
  · rw [if_neg (by assumption)] at h
    have := (List.getElem?_eq_some_iff.1 h).1
    simp [this]
theorem get_set_ne {s : Sto} {n m : Nat} (c : Blk) (h : m ≠ n) : (s.set n c).get m = s.get m := by
  unfold Sto.get Sto.set
  by_cases hn : n = 0
  · rw [if_pos hn, if_neg (by omega), if_neg (by omega)]
  · rw [if_neg hn]
    by_cases hm : m = 0
    · rw [if_pos hm, if_pos hm]
    · rw [if_neg hm, if_neg hm]
      simp only []
      rw [List.getElem?_set_ne (by omega)]
theorem set_row (s : Sto) (n : Nat) (c : Blk) : (s.set n c).row = s.row := by unfold Sto.set; split <;> rfl
theorem set_len (s : Sto) (n : Nat) (c : Blk) : (s.set n c).blks.length = s.blks.length := by unfold Sto.set; split <;> simp
theorem set_free (s : Sto) (n : Nat) (c : Blk) : (s.set n c).free = s.free := by unfold Sto.set; split <;> rfl
theorem set_used (s : Sto) (n : Nat) (c : Blk) : (s.set n c).used = s.used := by unfold Sto.set; split <;> rfl
theorem set_hand (s : Sto) (n : Nat) (c : Blk) : (s.set n c).hand = s.hand := by unfold Sto.set; split <;> rfl
theorem set_sought (s : Sto) (n : Nat) (c : Blk) : (s.set n c).sought = s.sought := by unfold Sto.set; split <;> rfl
theorem set_set (s : Sto) (n : Nat) (b c : Blk) : (s.set n b).set n c = s.set n c := by
  unfold Sto.set
  split <;> simp
def Sto.getD (s : Sto) (n : Nat) : Blk := (s.get n).getD ⟨false, 0, 0, 0, 0⟩
theorem getD_of {s : Sto} {n : Nat} {b : Blk} (h : s.get n = some b) : s.getD n = b := by simp [Sto.getD, h]
def Sto.linked1 (s : Sto) (n bk nx : Nat) : Sto := s.set n { s.getD n with back := bk, next := nx }
def Sto.linked2 (s : Sto) (n bk nx : Nat) : Sto := (s.linked1 n bk nx).set bk { (s.linked1 n bk nx).getD bk with next := n }
/-- a block put into the ring -/
def Sto.linked (s : Sto) (n bk nx : Nat) : Sto := (s.linked2 n bk nx).set nx { (s.linked2 n bk nx).getD nx with back := n }
section
variable {W : World} {sb : Nat} {vr vb vf : Value} {s : Sto}
theorem link_c (h : Lay W sb vr vb vf s) (hlen : s.blks.length ≤ 1000000000) (n bk nx : Nat) (bn bb bx : Blk) (hn : s.get n = some bn) (hb : s.get bk = some bb) (hnx : bb.next = nx) (hx : s.get nx = some bx) (hne1 : bk ≠ n) (hne2 : nx ≠ n) {S : Nat → Prop} (hO : Own S sb vr vb vf) :
    Calls Tryz.prog 117 #[.pointer (some ⟨sb, 0, none⟩), .int .i64 n, .int .i64 bk] W fun e w' => e = .returned (.tuple #[]) ∧ Lay w' sb vr vb vf (s.linked n bk nx) ∧ Upd S W w' := by
  obtain ⟨Bn, On, pn⟩ := h.pt hn
  obtain ⟨Bb, Ob, pb⟩ := h.pt hb
  obtain ⟨Bx, Ox, px⟩ := h.pt hx
  have hU := Upd.refl S W
  have g1 : (s.linked1 n bk nx).get bk = some bb := by unfold Sto.linked1; rw [get_set_ne _ hne1, hb]
  have g2 : ∃ b2, (s.linked2 n bk nx).get nx = some b2 := by
    unfold Sto.linked2
    by_cases e : nx = bk
    · subst e; exact ⟨_, get_set_same g1 _⟩
    · rw [get_set_ne _ e]; unfold Sto.linked1; rw [get_set_ne _ hne2]; exact ⟨_, hx⟩
  obtain ⟨b2, g2⟩ := g2
  have l1 : (s.linked1 n bk nx).blks.length ≤ 1000000000 := by unfold Sto.linked1; rw [set_len]; exact hlen
  have l2 : (s.linked2 n bk nx).blks.length ≤ 1000000000 := by unfold Sto.linked2; rw [set_len]; exact l1
  go_enter Tryz.func117, Tryz.ntmps117
  obtain ⟨_, _, _, _, c4⟩ := bcells h hb pb
  rw [hnx] at c4
  have cb := block_c W sb vr vb vf s h bk bb hb hlen Bb Ob pb
  go_upto_region 1 with (go_at_call 111; (with_reducible refine cb.mono ?_); rintro e w' ⟨rfl, hw⟩; (have hw' := hw.symm); subst hw'; clear hw)
  clear cb c4
  have cb := block_c W sb vr vb vf s h n bn hn hlen Bn On pn
  obtain ⟨_, _, _, d3, d4⟩ := bcells h hn pn
  have t3 := h.bthaw hn pn 3
  have t4 := h.bthaw hn pn 4
  go_upto_region 2 with (go_at_call 111; (with_reducible refine cb.mono ?_); rintro e w' ⟨rfl, hw⟩; (have hw' := hw.symm); subst hw'; clear hw)
  have h1 := (h.bstore (c := { bn with back := bk }) hn pn 3 (by omega) (.int .i64 bk) rfl)
  have h2 := (h1.bstore (c := { bn with back := bk, next := nx }) (get_set_same hn _) pn 4 (by omega) (.int .i64 nx) rfl)
  have e1 : (s.set n { bn with back := bk }).set n { bn with back := bk, next := nx } = s.linked1 n bk nx := by rw [set_set]; unfold Sto.linked1; rw [getD_of hn]
  have hL1 : Lay ((W.setCell ⟨Bn, On + 3, none⟩ (.int .i64 bk)).setCell ⟨Bn, On + 4, none⟩ (.int .i64 nx)) sb vr vb vf (s.linked1 n bk nx) := by rw [← e1]; exact h2
  have hU1 := (hU.setCell (p := ⟨Bn, On + 3, none⟩) (.inl (hO.pt pn)) (.int .i64 bk)).setCell (p := ⟨Bn, On + 4, none⟩) (.inl (hO.pt pn)) (.int .i64 nx)
  clear h1 h2 e1 cb d3 d4 t3 t4
  generalize World.setCell (World.setCell W _ _) _ _ = W1 at *
  have cb := block_c W1 sb vr vb vf _ hL1 bk bb g1 l1 Bb Ob pb
  obtain ⟨_, _, _, _, d4⟩ := bcells hL1 g1 pb
  have t4 := hL1.bthaw g1 pb 4
  go_upto_region 3 with (go_at_call 111; (with_reducible refine cb.mono ?_); rintro e w' ⟨rfl, hw⟩; (have hw' := hw.symm); subst hw'; clear hw)
  have hL2 : Lay (W1.setCell ⟨Bb, Ob + 4, none⟩ (.int .i64 n)) sb vr vb vf (s.linked2 n bk nx) := hL1.bstore g1 pb 4 (by omega) (.int .i64 n) (by rw [getD_of g1]; rfl)
  have hU2 := hU1.setCell (p := ⟨Bb, Ob + 4, none⟩) (.inl (hO.pt pb)) (.int .i64 n)
  clear cb d4 t4 hL1 hU1
  generalize World.setCell W1 _ _ = W2 at *
  have cb := block_c W2 sb vr vb vf _ hL2 nx b2 g2 l2 Bx Ox px
  obtain ⟨_, _, _, d3, _⟩ := bcells hL2 g2 px
  have t3 := hL2.bthaw g2 px 3
  have hL3 : Lay (W2.setCell ⟨Bx, Ox + 3, none⟩ (.int .i64 n)) sb vr vb vf (s.linked n bk nx) := hL2.bstore g2 px 3 (by omega) (.int .i64 n) (by rw [getD_of g2]; rfl)
  have hU3 := hid (hU2.setCell (p := ⟨Bx, Ox + 3, none⟩) (.inl (hO.pt px)) (.int .i64 n))
  have HL := hid hL3
  clear hL3
  go_wp2_with (go_at_call 111; (with_reducible refine cb.mono ?_); rintro e w' ⟨rfl, hw⟩; (have hw' := hw.symm); subst hw'; clear hw)
  go_end0
  exact ⟨rfl, HL, hU3⟩
end
end Go.Proofs.YtndkfjoaiinjoaaGreat.W
