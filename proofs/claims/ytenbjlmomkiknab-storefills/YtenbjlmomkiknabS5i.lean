/- Package store: seek. -/
import Derived.Test.YtenbjlmomkiknabS5h
import Derived.Deep.RegionWith
import Derived.Deep.RegionHeld3
namespace Go.Proofs.Ytenbjlmomkiknab.W
open Go.ChangeShapes Go.WideShapes Go.RowKit Go.Shelf
set_option linter.unusedVariables false
attribute [local go_sem] Oper.semAt_some

/-- the blocks of xs lie one behind the other in the ring, the last one last -/
def Chain (s : Sto) (xs : List Nat) : Prop := ∀ i (hi : i < xs.length), ∃ b, s.get xs[i] = some b ∧ b.next = (xs[i + 1]?.getD 0 : Nat)
theorem Lay.drew {W : World} {sb : Nat} {vr vb vf : Value} {s : Sto} (h : Lay W sb vr vb vf s) : Lay W.drew sb vr vb vf s := ⟨h.obj, h.row, h.blk, h.free⟩
theorem Lay.alloc {W : World} {sb : Nat} {vr vb vf : Value} {s : Sto} (h : Lay W sb vr vb vf s) (o : Obj) : Lay (W.alloc o) sb vr vb vf s := by
  have lt : ∀ {e : TypeId} {size : Nat} {v : Value} {n : Nat} {xs : List Value}, W.ownsRow 0 e size v n xs → ∀ k, v.ownBlock = some k → k < W.heap.size := fun h k e => (h.lt k e).2
  exact h.kept (Below.heap_alloc _ _ _ (Array.getElem?_eq_some_iff.1 h.obj).1) (fun k e => Below.heap_alloc _ _ _ (lt h.row k e)) (fun k e => Below.heap_alloc _ _ _ (lt h.blk k e)) (fun k e => Below.heap_alloc _ _ _ (lt h.free k e))
theorem lay_lt {W : World} {sb : Nat} {vr vb vf : Value} {s : Sto} (h : Lay W sb vr vb vf s) : sb < W.heap.size ∧ (∀ k, vr.ownBlock = some k → k < W.heap.size) ∧ (∀ k, vb.ownBlock = some k → k < W.heap.size) ∧ (∀ k, vf.ownBlock = some k → k < W.heap.size) :=
  ⟨(Array.getElem?_eq_some_iff.1 h.obj).1, fun k e => (h.row.lt k e).2, fun k e => (h.blk.lt k e).2, fun k e => (h.free.lt k e).2⟩
/-- what changes only behind the blocks of the beginning keeps the store -/
theorem lay_far {W Wa Wb : World} {sb : Nat} {vr vb vf : Value} {s s' : Sto} (h : Lay W sb vr vb vf s) (g : Lay Wa sb vr vb vf s') (hs : W.heap.size ≤ Wa.heap.size) {Bn n : Nat} (hu : Upd (fun k => k = Bn ∨ n ≤ k) Wa Wb) (hb : W.heap.size ≤ Bn ∧ W.heap.size ≤ n) : Lay Wb sb vr vb vf s' := by
  obtain ⟨l0, l1, l2, l3⟩ := lay_lt h
  have key : ∀ k, k < W.heap.size → Wb.heap[k]? = Wa.heap[k]? := fun k hk => hu.block k (by omega) (by rintro (rfl | g) <;> omega)
  exact g.kept (key _ l0) (fun k e => key _ (l1 k e)) (fun k e => key _ (l2 k e)) (fun k e => key _ (l3 k e))
theorem upd_far {W Wa Wb : World} {S : Nat → Prop} (g : Upd S W Wa) {Bn n : Nat} (hu : Upd (fun k => k = Bn ∨ n ≤ k) Wa Wb) (h1 : W.heap.size ≤ Bn) (h2 : W.heap.size ≤ n) : Upd S W Wb :=
  ⟨hu.os.trans g.os, hu.tape.trans g.tape, hu.output.trans g.output, Nat.le_trans g.size hu.size, fun k hk hn => (hu.block k (Nat.lt_of_lt_of_le hk g.size) (by rintro (rfl | g) <;> omega)).trans (g.block k hk hn)⟩
theorem box_far {Wa Wb : World} {B t : Nat} {v : Value} (g : Boxed Wa B t v) {Bn n : Nat} (hu : Upd (fun k => k = Bn ∨ n ≤ k) Wa Wb) (h1 : B ≠ Bn) (h2 : B < n) : Boxed Wb B t v := by
  unfold Boxed
  rw [hu.block B g.lt (by rintro (rfl | g) <;> omega)]
  exact g
theorem boxed_set {W : World} {B t : Nat} {v : Value} (h : Boxed W B t v) {sb : Nat} (hne : B ≠ sb) (q : Nat) (u : Value) : Boxed ((W.drewN q).setCell ⟨sb, 9, none⟩ u) B t v := by
  unfold Boxed at *
  rw [Below.heap_setCell _ _ _ _ hne]
  exact h
set_option maxHeartbeats 1000000 in
theorem seek_first {W : World} {sb : Nat} {vr vb vf : Value} {s : Sto} (h : Lay W sb vr vb vf s) (f : Fit s) (hd : Nat) (hh : s.hand = hd) (size : Int) (b c : Blk) (hb : s.get hd = some b) (m : Nat) (hm : b.next = m) (hc : s.get m = some c) (hroom : size ≤ roomOf s b m c) {S : Nat → Prop} (hO : S sb) :
    Calls Try.prog 82 #[.pointer (some ⟨sb, 0, none⟩), .int .i64 size] W fun e w' => e = .returned (.int .i64 hd) ∧ Upd S W w' ∧ Lay w' sb vr vb vf s := by
  refine (callsIn_wide (n := 9)).1 ?_
  refine callsIn_of_wp_marks Try.func82 rfl trivial ?_ rfl
  refine wpIn_wide.2 ?_
  simp only [Try.ntmps82, List.size_toArray, List.length_cons, List.length_nil, Nat.reduceAdd, Nat.reduceSub, Array.replicate_succ, Array.replicate_zero, List.push_toArray, List.append_toArray, List.nil_append, List.cons_append]
  go_wp2
  go_step3
  go_wp2
  go_step3
  go_wp2
  have hU1 := ((Upd.refl S W).alloc (.cells #[.pointer (some ⟨sb, 0, none⟩)] 47)).alloc (.cells #[.int .i64 size] 3)
  have hL1 := (h.alloc (.cells #[.pointer (some ⟨sb, 0, none⟩)] 47)).alloc (.cells #[.int .i64 size] 3)
  have hB1 : Boxed ((W.alloc (.cells #[.pointer (some ⟨sb, 0, none⟩)] 47)).alloc (.cells #[.int .i64 size] 3)) W.heap.size 47 (.pointer (some ⟨sb, 0, none⟩)) := (Boxed.new W _ _).alloc _
  have hB2 : Boxed ((W.alloc (.cells #[.pointer (some ⟨sb, 0, none⟩)] 47)).alloc (.cells #[.int .i64 size] 3)) (W.heap.size + 1) 3 (.int .i64 size) := by
    have := Boxed.new (W.alloc (.cells #[.pointer (some ⟨sb, 0, none⟩)] 47)) 3 (.int .i64 size)
    rwa [World.size_alloc] at this
  have hz : ((W.alloc (.cells #[.pointer (some ⟨sb, 0, none⟩)] 47)).alloc (.cells #[.int .i64 size] 3)).heap.size = W.heap.size + 2 := by simp
  generalize World.alloc (World.alloc W _) _ = W1 at *
  have c9 := hL1.cell 9
  simp [Sto.obj, hh] at c9
  have cs := hB1.cell
  refine wp_loop_rounds 1 ?_
  rw [rounds_succ]
  go_wp2
  go_region_held3 (fun w' => w'.cell? ⟨sb, 9, none⟩ = some (.int .i64 hd) ∧ w'.cell? ⟨W.heap.size, 0, none⟩ = some (.pointer (some ⟨sb, 0, none⟩))) (first | exact ⟨c9, cs⟩ | go_keep) (first | (go_at_call 58; (refine (from_c _ sb hd).mono ?_); rintro e w' ⟨rfl, hw⟩; (have hw' := hw.symm); subst hw'; clear hw))
  go_wp2
  have hU2 := ((hU1.alloc (.cells #[.pointer (some ⟨sb, 0, none⟩)] 47)).alloc (.cells #[.int .i64 hd] 3)).drew
  have hL2 := ((hL1.alloc (.cells #[.pointer (some ⟨sb, 0, none⟩)] 47)).alloc (.cells #[.int .i64 hd] 3)).drew
  have hB4 : Boxed ((W1.alloc (.cells #[.pointer (some ⟨sb, 0, none⟩)] 47)).alloc (.cells #[.int .i64 hd] 3)).drew (W.heap.size + 2 + 1) 3 (.int .i64 hd) := by
    have := Boxed.new (W1.alloc (.cells #[.pointer (some ⟨sb, 0, none⟩)] 47)) 3 (.int .i64 hd)
    rw [World.size_alloc, hz] at this
    exact this
  have hB3 : Boxed ((W1.alloc (.cells #[.pointer (some ⟨sb, 0, none⟩)] 47)).alloc (.cells #[.int .i64 hd] 3)).drew (W.heap.size + 2) 47 (.pointer (some ⟨sb, 0, none⟩)) := by
    have := (Boxed.new W1 47 (.pointer (some ⟨sb, 0, none⟩))).alloc (.cells #[.int .i64 hd] 3)
    rw [hz] at this
    exact this
  have hB1' : Boxed ((W1.alloc (.cells #[.pointer (some ⟨sb, 0, none⟩)] 47)).alloc (.cells #[.int .i64 hd] 3)).drew W.heap.size 47 (.pointer (some ⟨sb, 0, none⟩)) := (hB1.alloc _).alloc _
  have hB2' : Boxed ((W1.alloc (.cells #[.pointer (some ⟨sb, 0, none⟩)] 47)).alloc (.cells #[.int .i64 hd] 3)).drew (W.heap.size + 1) 3 (.int .i64 size) := (hB2.alloc _).alloc _
  have hz2 : ((W1.alloc (.cells #[.pointer (some ⟨sb, 0, none⟩)] 47)).alloc (.cells #[.int .i64 hd] 3)).drew.heap.size = W.heap.size + 4 := by
    show ((W1.alloc (.cells #[.pointer (some ⟨sb, 0, none⟩)] 47)).alloc (.cells #[.int .i64 hd] 3)).heap.size = _
    simp [hz]
  clear hU1 hL1 hB1 hB2 c9 cs
  generalize World.drew (World.alloc (World.alloc W1 _) _) = W2 at *
  clear hz
  have lsb := (lay_lt h).1
  have hsame : ∀ (Wx : World) (q : Nat), Lay Wx sb vr vb vf s → Lay ((Wx.drewN q).setCell ⟨sb, 9, none⟩ (.int .i64 hd)) sb vr vb vf s := fun Wx q g => (g.drewN q).store 9 _ (by simp [Sto.obj, hh]) rfl rfl rfl
  refine ring_law (Bn := W.heap.size + 2 + 1) (Bs := W.heap.size + 2) (sb := sb) rfl [hd] (by simp) (by simp) (by simp) hB4
    (fun i W' => i = 0 ∧ Upd S W W' ∧ Lay W' sb vr vb vf s ∧ Boxed W' W.heap.size 47 (.pointer (some ⟨sb, 0, none⟩)) ∧ Boxed W' (W.heap.size + 1) 3 (.int .i64 size))
    (fun c W' => c = .exit 0 ∧ Upd S W W' ∧ Lay W' sb vr vb vf s ∧ Boxed W' W.heap.size 47 (.pointer (some ⟨sb, 0, none⟩)))
    ?hI ?hIx ⟨rfl, hU2, hL2, hB1', hB2'⟩ ?hread 5 ?assign ?body ?done ?stop
  case hI =>
    rintro i Wa Wb ⟨rfl, g1, g2, g3, g4⟩ hu
    have hk := lay_far h g2 g1.size hu (by omega)
    exact ⟨rfl, upd_far g1 hu (by omega) (by omega), hk, box_far g3 hu (by omega) (by omega), box_far g4 hu (by omega) (by omega)⟩
  case hIx =>
    rintro c Wa Wb ⟨rfl, g1, g2, g3⟩ hu
    have hk := lay_far h g2 g1.size hu (by omega)
    exact ⟨rfl, upd_far g1 hu (by omega) (by omega), hk, box_far g3 hu (by omega) (by omega)⟩
  case hread =>
    rintro i hi Wa ⟨h0, _⟩
    omega
  case assign =>
    intro L x W' K hK
    gi_wp2
    exact hK
  case body =>
    rintro L i hi W' hLe ⟨rfl, hU, hL, b1, b2⟩ hs ⟨r, hr⟩ b4
    simp only [ringAct, List.setIfInBounds_toArray, List.set_cons_succ, List.set_cons_zero]
    gi_wp2
    have cs := b1.cell
    have cz := b2.cell
    have cr := fun q => room_c (hL.drewN q) f hd m b c hb hm hc
    simp only [List.getElem_cons_zero]
    have hmix : Try.prog.follows .mixedOrders = true := by kernel_rfl
    have th := hL.thaw 9
    have c9 := hL.cell 9
    simp [Sto.obj, hh] at c9
    clear b4 hh
    gi_region_with_o ((refine ⟨trivial, ?_⟩); gi_at_call 98; (refine (CallsIn.inRound L (callsIn_wide.2 (cr 1))).mono ?_); rintro e w' ⟨rfl, q, hw⟩; (have hw' := hw.symm); subst hw'; clear hw)
    all_goals gi_wp2
    all_goals exact ⟨⟨Below.heap_setCell _ _ _ _ (by show L ≠ sb; omega), Below.heap_setCell _ _ _ _ (by show W2.heap.size ≠ sb; omega), Below.heap_setCell _ _ _ _ (by show W.heap.size + 2 + 1 ≠ sb; omega)⟩, rfl, (hU.drewN _).setCell (.inl hO) _, hsame W' _ hL, boxed_set b1 (by omega) _ _⟩
  case done =>
    rintro W' ⟨h0, _⟩
    exact absurd h0 (by simp)
  case stop =>
    rintro c W' ⟨rfl, hU, hL, b1⟩ hD
    have cs := b1.cell
    have c9 := hL.cell 9
    simp [Sto.obj, hh] at c9
    go_wp2
    rw [Exit.noGoto_ret]
    refine ⟨by simp, .inl ⟨_, _, rfl, run_takeDeferred hD, ?_⟩⟩
    have ltD := (Array.getElem?_eq_some_iff.1 hD).1
    refine ⟨_, results_tmp rfl _ _ _, rfl, hU.putObj (.inr ⟨by omega, by omega⟩) _, ?_⟩
    obtain ⟨l0, l1, l2, l3⟩ := lay_lt h
    exact hL.kept (World.putObj_heap_other (by omega)) (fun k e => World.putObj_heap_other (by have := l1 k e; omega)) (fun k e => World.putObj_heap_other (by have := l2 k e; omega)) (fun k e => World.putObj_heap_other (by have := l3 k e; omega))
end Go.Proofs.Ytenbjlmomkiknab.W
