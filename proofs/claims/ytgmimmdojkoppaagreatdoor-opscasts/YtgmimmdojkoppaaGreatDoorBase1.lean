import Derived.Test.YtgmimmdojkoppaaGreatDoorBase0
import Derived.Deep.RegionWith
import Derived.Deep.RegionHeld3
import Derived.Deep.Cut
import Derived.Deep.DeepCutAuto
import Derived.Lib.AppendZerosOnto
import Derived.Lib.SliceRun
/- Package store: a range over the blocks of the ring. -/
namespace Go.Proofs.YtgmimmdojkoppaaGreatDoor.W
open Go.ChangeShapes Go.WideShapes Go.RowKit Go.Shelf
set_option linter.unusedVariables false

/-- how the body of a round over the ring is left -/
def ringWay (L D Bn : Nat) (W : World) (In : World → Prop) (Ix : Code → World → Prop) : Exit → Act → World → Prop
  | .normal, _, W' => (W'.heap[L]? = W.heap[L]? ∧ W'.heap[D]? = W.heap[D]? ∧ W'.heap[Bn]? = W.heap[Bn]?) ∧ In W'
  | .ret, _, W' => (W'.heap[L]? = W.heap[L]? ∧ W'.heap[D]? = W.heap[D]? ∧ W'.heap[Bn]? = W.heap[Bn]?) ∧ Ix .ret W'
  | .exit id, _, W' => (W'.heap[L]? = W.heap[L]? ∧ W'.heap[D]? = W.heap[D]? ∧ W'.heap[Bn]? = W.heap[Bn]?) ∧ Ix (.exit id) W'
  | _, _, _ => False
/-- the frame in which a round's body begins: x in the loop's variable -/
def ringAct (pt : Nat) (a : Act) (q x : Nat) : Act := { tmps := (a.tmps.setIfInBounds pt (.int .i64 (x : Int))).setIfInBounds q (.int .i64 (x : Int)), defers := [] }
theorem zip_one (t : Array Value) (pt : Nat) (v : Value) : Array.foldl (fun (t : Array Value) (x : Tmp × Value) => match x with | (p, v) => t.setIfInBounds p v) t (#[pt].zip #[v]) = t.setIfInBounds pt v := by simp
theorem upd_put {W : World} {S : Nat → Prop} {L : Nat} (hL : S L) (o : Obj) : Upd S W (W.putObj L o) := (Upd.refl S W).putObj (.inl hL) o
theorem eg49 : ∀ args w, (callFunc 307 args).run Tryz.prog w = .ok (.enter 307 args) w := enters_of Tryz.func307 (by kernel_rfl) rfl
theorem ring_law {g : Operand} {pt : Nat} {assign body : Code} {Q : Exit → Act → World → Prop} {a : Act} {W0 : World} {Bn Bs sb : Nat} (hg : a.eval g = .func (.func 307) #[] #[.pointer (some ⟨Bn, 0, none⟩), .pointer (some ⟨Bs, 0, none⟩)])
    (xs : List Nat) (hne : 0 < xs.length) (hd : xs.Nodup) (hz : ∀ i (hi : i + 1 < xs.length), xs[i + 1] ≠ 0) (hBn : Boxed W0 Bn 3 (.int .i64 (xs[0] : Nat)))
    (I : Nat → World → Prop) (Ix : Code → World → Prop)
    (hI : ∀ i W W', I i W → Upd (fun k => k = Bn ∨ W0.heap.size ≤ k) W W' → I i W')
    (hIx : ∀ c W W', Ix c W → Upd (fun k => k = Bn ∨ W0.heap.size ≤ k) W W' → Ix c W') (h0 : I 0 W0)
    (hread : ∀ i (hi : i < xs.length) W, I (i + 1) W → W.cell? ⟨Bs, 0, none⟩ = some (.pointer (some ⟨sb, 0, none⟩)) ∧ ∃ B O, Calls Tryz.prog 263 #[.pointer (some ⟨sb, 0, none⟩), .int .i64 (xs[i] : Nat)] W (fun e w' => e = .returned (.pointer (some ⟨B, O, none⟩)) ∧ w' = W) ∧ W.cell? ⟨B, O + 4, none⟩ = some (.int .i64 (xs[i + 1]?.getD 0 : Nat)))
    (q : Nat)
    (hassign : ∀ (L x : Nat) (W : World) (K : Act → World → Prop), K (ringAct pt a q x) W → assign.wpIn (Fence.wide.inRound L) 7 Tryz.prog (Exit.then K (fun _ _ _ => False)) { tmps := a.tmps.setIfInBounds pt (.int .i64 (x : Int)), defers := [] } W)
    (hbody : ∀ (L : Nat) i (hi : i < xs.length) W, L = W0.heap.size + 1 → I i W → W0.heap.size + 2 ≤ W.heap.size → (∃ r, W.heap[L]? = some (.loop r)) → Boxed W Bn 3 (.int .i64 (xs[i] : Nat)) → body.wpIn (Fence.wide.inRound L) 7 Tryz.prog (ringWay L W0.heap.size Bn W (I (i + 1)) Ix) (ringAct pt a q xs[i]) W)
    (hdone : ∀ W, I xs.length W → W.heap[W0.heap.size]? = some (.deferred (some [])) → Q .normal { a with defers := { target := .collected W0.heap.size, args := #[] } :: a.defers } W)
    (hstop : ∀ c W, Ix c W → W.heap[W0.heap.size]? = some (.deferred (some [])) → c.wp Tryz.prog Q { a with defers := { target := .collected W0.heap.size, args := #[] } :: a.defers } W) :
    (Code.rangeFunc g #[pt] assign body).wp Tryz.prog Q a W0 := by
  have hUL : ∀ (W : World) (o : Obj), Upd (fun k => k = Bn ∨ W0.heap.size ≤ k) W (W.putObj (W0.heap.size + 1) o) := fun W o => upd_put (.inr (by omega)) o
  have hBlt := hBn.lt
  refine (wpIn_wide (n := 9)).1 (rf_law hg eg49 (fun W => I xs.length W) Ix ?_ ?_ ?_)
  · intro r W1 hr1 hr2 hr3 hr4 hr5 hr6 hW1 hL1
    have hI1 : I 0 W1 := by
      refine hI 0 W0 W1 h0 ?_
      rw [hW1]; exact ((Upd.refl _ W0).alloc _).alloc _
    have hB1 : Boxed W1 Bn 3 (.int .i64 (xs[0] : Nat)) := by rw [hW1]; exact (hBn.alloc _).alloc _
    have hsz : W0.heap.size + 2 ≤ W1.heap.size := by rw [hW1]; simp
    have key := from1_in 8 (W0.heap.size + 1) Bn Bs sb (by omega) xs hne hd
      (fun i W => I i W ∧ LoopAt W (W0.heap.size + 1) W0.heap.size r ∧ W0.heap.size + 2 ≤ W.heap.size ∧ ∃ hi : i < xs.length, Boxed W Bn 3 (.int .i64 (xs[i] : Nat)))
      (fun i W => I (i + 1) W ∧ LoopAt W (W0.heap.size + 1) W0.heap.size r ∧ W0.heap.size + 2 ≤ W.heap.size ∧ ∃ hi : i < xs.length, Boxed W Bn 3 (.int .i64 (xs[i] : Nat)))
      (fun W => I xs.length W ∧ LoopAt W (W0.heap.size + 1) W0.heap.size r)
      (fun W => ∃ c, Ix c W ∧ LoopAt W (W0.heap.size + 1) W0.heap.size { r with state := .done, pending := some c })
      ?_ ?_ ?_ ?_ ?_ W1 ⟨hI1, hL1, hsz, hne, hB1⟩
    · refine key.mono ?_
      rintro e W3 ⟨hv, ⟨h1, h2⟩ | ⟨c, h1, h2⟩⟩
      · exact ⟨hv, .inl ⟨h1, r, h2, by rw [hr1]; simp, hr2⟩⟩
      · exact ⟨hv, .inr ⟨c, h1, _, h2, by simp, rfl⟩⟩
    · intro i hi W ⟨hi1, hl1, hs1, _, hb1⟩
      have hargs : (#[Value.int .i64 ((xs[i] : Nat) : Int)] : Array Value).size = r.params.size := by rw [hr4]; rfl
      refine YieldAt.mono (yield_law (Rn := fun W' => I (i + 1) W' ∧ LoopAt W' (W0.heap.size + 1) W0.heap.size r ∧ W0.heap.size + 2 ≤ W'.heap.size ∧ ∃ hi : i < xs.length, Boxed W' Bn 3 (.int .i64 (xs[i] : Nat))) (Rx := fun c W' => Ix c W' ∧ LoopAt W' (W0.heap.size + 1) W0.heap.size { r with state := .done, pending := some c }) hl1 hr1 hargs (ringAct pt a q xs[i]) ?_ ?_) ?_
      · intro K hK
        rw [hr5, hr4, hr3]
        rw [zip_one]
        exact hassign _ _ W K hK
      · intro W2 hW2 hl2
        have hI2 : I i W2 := by rw [hW2]; exact hI i W _ hi1 (hUL W _)
        have hb2 : Boxed W2 Bn 3 (.int .i64 (xs[i] : Nat)) := by
          rw [hW2]
          unfold Boxed
          rw [World.putObj_heap_other (by omega)]
          exact hb1
        have hs2 : W0.heap.size + 2 ≤ W2.heap.size := by rw [hW2]; simpa using hs1
        have hbd := hbody _ i hi W2 rfl hI2 hs2 ⟨_, hl2.lp⟩ hb2
        rw [← hr6] at hbd
        refine wpIn_mono hbd ?_
        intro e a3 W3 hp
        have put : ∀ q : Loop, (W3.heap[W0.heap.size + 1]? = W2.heap[W0.heap.size + 1]? ∧ W3.heap[W0.heap.size]? = W2.heap[W0.heap.size]? ∧ W3.heap[Bn]? = W2.heap[Bn]?) → LoopAt W3 (W0.heap.size + 1) W0.heap.size { r with state := .busy } ∧ LoopAt (W3.putObj (W0.heap.size + 1) (.loop q)) (W0.heap.size + 1) W0.heap.size q ∧ Boxed (W3.putObj (W0.heap.size + 1) (.loop q)) Bn 3 (.int .i64 (xs[i] : Nat)) ∧ W0.heap.size + 2 ≤ (W3.putObj (W0.heap.size + 1) (.loop q)).heap.size := by
          rintro q ⟨e1, e2, e3⟩
          have hl3 := hl2.kept e1 e2
          refine ⟨hl3, hl3.put q, ?_, ?_⟩
          · unfold Boxed
            rw [World.putObj_heap_other (by omega), e3]
            exact hb2
          · have := (Array.getElem?_eq_some_iff.1 hl3.lp).1
            simp; omega
        cases e with
        | normal =>
          obtain ⟨hk, hin⟩ := hp
          obtain ⟨p1, p2, p3, p4⟩ := put { r with state := .ready, pending := none } hk
          have er : ({ r with state := .ready, pending := none } : Loop) = r := by cases r; simp_all
          refine ⟨p1, hI _ W3 _ hin (hUL W3 _), ?_, p4, hi, p3⟩
          rw [er] at p2 ⊢
          exact p2
        | ret =>
          obtain ⟨hk, hin⟩ := hp
          obtain ⟨p1, p2, p3, p4⟩ := put { r with state := .done, pending := some .ret } hk
          exact ⟨p1, hIx _ W3 _ hin (hUL W3 _), p2⟩
        | exit id =>
          obtain ⟨hk, hin⟩ := hp
          obtain ⟨p1, p2, p3, p4⟩ := put { r with state := .done, pending := some (.exit id) } hk
          exact ⟨p1, hIx _ W3 _ hin (hUL W3 _), p2⟩
        | goto t => exact hp.elim
        | panic ch => exact hp.elim
        | outgrown => exact hp.elim
      · rintro e W' (⟨rfl, h1⟩ | ⟨rfl, c, h1⟩)
        · exact .inl ⟨rfl, h1⟩
        · exact .inr ⟨rfl, c, h1⟩
    · rintro i hi W ⟨_, _, _, _, hb⟩
      exact hb.cell
    · rintro i hi W ⟨h1, _, _, _, hb⟩
      obtain ⟨r1, r2⟩ := hread i hi W h1
      exact ⟨hb.cell, hb.frozen, r1, r2⟩
    · rintro i hi W ⟨h1, hl, hs, hi', hb⟩
      have hu : Upd (fun k => k = Bn ∨ W0.heap.size ≤ k) W (W.setCell ⟨Bn, 0, none⟩ (.int .i64 (xs[i + 1] : Nat))) := (Upd.refl _ W).setCell (.inl (.inl rfl)) _
      refine ⟨hz i hi, hI _ W _ h1 hu, hl.kept (Below.heap_setCell _ _ _ _ (by show _ ≠ Bn; omega)) (Below.heap_setCell _ _ _ _ (by show _ ≠ Bn; omega)), by simpa [World.setCell] using hs, hi, hb.set _⟩
    · rintro i W hi ⟨h1, hl, hs, hi', hb⟩
      have hu : Upd (fun k => k = Bn ∨ W0.heap.size ≤ k) W (W.setCell ⟨Bn, 0, none⟩ (.int .i64 0)) := (Upd.refl _ W).setCell (.inl (.inl rfl)) _
      rw [← hi]
      exact ⟨hI _ W _ h1 hu, hl.kept (Below.heap_setCell _ _ _ _ (by show _ ≠ Bn; omega)) (Below.heap_setCell _ _ _ _ (by show _ ≠ Bn; omega))⟩
  · intro W3 q hd hl
    exact hdone _ (hI _ W3 _ hd (hUL W3 _)) hl.defs
  · intro W3 q c hs hl
    exact wpIn_wide.2 (hstop c _ (hIx _ W3 _ hs (hUL W3 _)) hl.defs)
end Go.Proofs.YtgmimmdojkoppaaGreatDoor.W
/- Package store: seek. -/
namespace Go.Proofs.YtgmimmdojkoppaaGreatDoor.W
open Go.ChangeShapes Go.WideShapes Go.RowKit Go.Shelf
set_option linter.unusedVariables false
attribute [local go_sem] Oper.semAt_some

theorem Lay.drew {W : World} {sb : Nat} {vr vb vf : Value} {s : Sto} (h : Lay W sb vr vb vf s) : Lay W.drew sb vr vb vf s := ⟨h.obj, h.row, h.blk, h.free⟩
theorem Lay.alloc {W : World} {sb : Nat} {vr vb vf : Value} {s : Sto} (h : Lay W sb vr vb vf s) (o : Obj) : Lay (W.alloc o) sb vr vb vf s := by
  have lt : ∀ {e : TypeId} {size : Nat} {v : Value} {n : Nat} {xs : List Value}, W.ownsRow 0 e size v n xs → ∀ k, v.ownBlock = some k → k < W.heap.size := fun h k e => (h.lt k e).2
  exact h.kept (Below.heap_alloc _ _ _ (Array.getElem?_eq_some_iff.1 h.obj).1) (fun k e => Below.heap_alloc _ _ _ (lt h.row k e)) (fun k e => Below.heap_alloc _ _ _ (lt h.blk k e)) (fun k e => Below.heap_alloc _ _ _ (lt h.free k e))
theorem lay_lt {W : World} {sb : Nat} {vr vb vf : Value} {s : Sto} (h : Lay W sb vr vb vf s) : sb < W.heap.size ∧ (∀ k, vr.ownBlock = some k → k < W.heap.size) ∧ (∀ k, vb.ownBlock = some k → k < W.heap.size) ∧ (∀ k, vf.ownBlock = some k → k < W.heap.size) :=
  ⟨(Array.getElem?_eq_some_iff.1 h.obj).1, fun k e => (h.row.lt k e).2, fun k e => (h.blk.lt k e).2, fun k e => (h.free.lt k e).2⟩
/-- what changes only behind the blocks of the beginning keeps the store -/
theorem lay_far {W Wa Wb : World} {sb : Nat} {vr vb vf : Value} {s s' : Sto} (h : Lay W sb vr vb vf s) (g : Lay Wa sb vr vb vf s') (hs : W.heap.size ≤ Wa.heap.size) {Bn n : Nat} (hu : Upd (fun k => k = Bn ∨ n ≤ k) Wa Wb) (hb : W.heap.size ≤ Bn ∧ W.heap.size ≤ n) : Lay Wb sb vr vb vf s' := by
  obtain ⟨l0, l1, l2, l3⟩ := lay_lt h
  have key : ∀ k, k < W.heap.size → Wb.heap[k]? = Wa.heap[k]? := fun k hk => hu.block k (by omega) (by rintro (rfl | g) <;> omega)
  exact g.kept (key _ l0) (fun k e => key _ (l1 k e)) (fun k e => key _ (l2 k e)) (fun k e => key _ (l3 k e))
theorem upd_far {W Wa Wb : World} {S : Nat → Prop} (g : Upd S W Wa) {Bn n : Nat} (hu : Upd (fun k => k = Bn ∨ n ≤ k) Wa Wb) (h1 : W.heap.size ≤ Bn) (h2 : W.heap.size ≤ n) : Upd S W Wb :=
  ⟨hu.os.trans g.os, hu.tape.trans g.tape, hu.output.trans g.output, Nat.le_trans g.size hu.size, fun k hk hn => (hu.block k (Nat.lt_of_lt_of_le hk g.size) (by rintro (rfl | g) <;> omega)).trans (g.block k hk hn)⟩
theorem box_far {Wa Wb : World} {B t : Nat} {v : Value} (g : Boxed Wa B t v) {Bn n : Nat} (hu : Upd (fun k => k = Bn ∨ n ≤ k) Wa Wb) (h1 : B ≠ Bn) (h2 : B < n) : Boxed Wb B t v := by
  unfold Boxed
  rw [hu.block B g.lt (by rintro (rfl | g) <;> omega)]
  exact g
theorem boxed_set {W : World} {B t : Nat} {v : Value} (h : Boxed W B t v) {sb : Nat} (hne : B ≠ sb) (q : Nat) (u : Value) : Boxed ((W.drewN q).setCell ⟨sb, 9, none⟩ u) B t v := by
  unfold Boxed at *
  rw [Below.heap_setCell _ _ _ _ hne]
  exact h
end Go.Proofs.YtgmimmdojkoppaaGreatDoor.W
/- Package store: link, unlink. -/
namespace Go.Proofs.YtgmimmdojkoppaaGreatDoor.W
open Go.ChangeShapes Go.WideShapes Go.RowKit Go.Shelf
set_option linter.unusedVariables false

theorem get_set_same {s : Sto} {n : Nat} {b : Blk} (h : s.get n = some b) (c : Blk) : (s.set n c).get n = some c := by
  unfold Sto.get Sto.set at *
  split
  · simp
  · rw [if_neg (by assumption)] at h
    have := (List.getElem?_eq_some_iff.1 h).1
    simp [this]
theorem get_set_ne {s : Sto} {n m : Nat} (c : Blk) (h : m ≠ n) : (s.set n c).get m = s.get m := by
  unfold Sto.get Sto.set
  by_cases hn : n = 0
  · rw [if_pos hn, if_neg (by omega), if_neg (by omega)]
  · rw [if_neg hn]
    by_cases hm : m = 0
    · rw [if_pos hm, if_pos hm]
    · rw [if_neg hm, if_neg hm]
      simp only []
      rw [List.getElem?_set_ne (by omega)]
theorem set_row (s : Sto) (n : Nat) (c : Blk) : (s.set n c).row = s.row := by unfold Sto.set; split <;> rfl
theorem set_len (s : Sto) (n : Nat) (c : Blk) : (s.set n c).blks.length = s.blks.length := by unfold Sto.set; split <;> simp
theorem set_free (s : Sto) (n : Nat) (c : Blk) : (s.set n c).free = s.free := by unfold Sto.set; split <;> rfl
theorem set_used (s : Sto) (n : Nat) (c : Blk) : (s.set n c).used = s.used := by unfold Sto.set; split <;> rfl
theorem set_hand (s : Sto) (n : Nat) (c : Blk) : (s.set n c).hand = s.hand := by unfold Sto.set; split <;> rfl
theorem set_sought (s : Sto) (n : Nat) (c : Blk) : (s.set n c).sought = s.sought := by unfold Sto.set; split <;> rfl
theorem set_set (s : Sto) (n : Nat) (b c : Blk) : (s.set n b).set n c = s.set n c := by
  unfold Sto.set
  split <;> simp
def Sto.getD (s : Sto) (n : Nat) : Blk := (s.get n).getD ⟨false, 0, 0, 0, 0⟩
theorem getD_of {s : Sto} {n : Nat} {b : Blk} (h : s.get n = some b) : s.getD n = b := by simp [Sto.getD, h]
def Sto.linked1 (s : Sto) (n bk nx : Nat) : Sto := s.set n { s.getD n with back := bk, next := nx }
def Sto.linked2 (s : Sto) (n bk nx : Nat) : Sto := (s.linked1 n bk nx).set bk { (s.linked1 n bk nx).getD bk with next := n }
/-- a block put into the ring -/
def Sto.linked (s : Sto) (n bk nx : Nat) : Sto := (s.linked2 n bk nx).set nx { (s.linked2 n bk nx).getD nx with back := n }
section
variable {W : World} {sb : Nat} {vr vb vf : Value} {s : Sto}
theorem link_c (h : Lay W sb vr vb vf s) (hlen : s.blks.length ≤ 1000000000) (n bk nx : Nat) (bn bb bx : Blk) (hn : s.get n = some bn) (hb : s.get bk = some bb) (hnx : bb.next = nx) (hx : s.get nx = some bx) (hne1 : bk ≠ n) (hne2 : nx ≠ n) {S : Nat → Prop} (hO : Own S sb vr vb vf) :
    Calls Tryz.prog 268 #[.pointer (some ⟨sb, 0, none⟩), .int .i64 n, .int .i64 bk] W fun e w' => e = .returned (.tuple #[]) ∧ Lay w' sb vr vb vf (s.linked n bk nx) ∧ Upd S W w' := by
  obtain ⟨Bn, On, pn⟩ := h.pt hn
  obtain ⟨Bb, Ob, pb⟩ := h.pt hb
  obtain ⟨Bx, Ox, px⟩ := h.pt hx
  have hU := Upd.refl S W
  have g1 : (s.linked1 n bk nx).get bk = some bb := by unfold Sto.linked1; rw [get_set_ne _ hne1, hb]
  have g2 : ∃ b2, (s.linked2 n bk nx).get nx = some b2 := by
    unfold Sto.linked2
    by_cases e : nx = bk
    · subst e; exact ⟨_, get_set_same g1 _⟩
    · rw [get_set_ne _ e]; unfold Sto.linked1; rw [get_set_ne _ hne2]; exact ⟨_, hx⟩
  obtain ⟨b2, g2⟩ := g2
  have l1 : (s.linked1 n bk nx).blks.length ≤ 1000000000 := by unfold Sto.linked1; rw [set_len]; exact hlen
  have l2 : (s.linked2 n bk nx).blks.length ≤ 1000000000 := by unfold Sto.linked2; rw [set_len]; exact l1
  go_enter Tryz.func268, Tryz.ntmps268
  obtain ⟨_, _, _, _, c4⟩ := bcells h hb pb
  rw [hnx] at c4
  have cb := block_c W sb vr vb vf s h bk bb hb hlen Bb Ob pb
  go_upto_region 1 with (go_at_call 263; (with_reducible refine cb.mono ?_); rintro e w' ⟨rfl, hw⟩; (have hw' := hw.symm); subst hw'; clear hw)
  clear cb c4
  have cb := block_c W sb vr vb vf s h n bn hn hlen Bn On pn
  obtain ⟨_, _, _, d3, d4⟩ := bcells h hn pn
  have t3 := h.bthaw hn pn 3
  have t4 := h.bthaw hn pn 4
  go_upto_region 2 with (go_at_call 263; (with_reducible refine cb.mono ?_); rintro e w' ⟨rfl, hw⟩; (have hw' := hw.symm); subst hw'; clear hw)
  have h1 := (h.bstore (c := { bn with back := bk }) hn pn 3 (by omega) (.int .i64 bk) rfl)
  have h2 := (h1.bstore (c := { bn with back := bk, next := nx }) (get_set_same hn _) pn 4 (by omega) (.int .i64 nx) rfl)
  have e1 : (s.set n { bn with back := bk }).set n { bn with back := bk, next := nx } = s.linked1 n bk nx := by rw [set_set]; unfold Sto.linked1; rw [getD_of hn]
  have hL1 : Lay ((W.setCell ⟨Bn, On + 3, none⟩ (.int .i64 bk)).setCell ⟨Bn, On + 4, none⟩ (.int .i64 nx)) sb vr vb vf (s.linked1 n bk nx) := by rw [← e1]; exact h2
  have hU1 := (hU.setCell (p := ⟨Bn, On + 3, none⟩) (.inl (hO.pt pn)) (.int .i64 bk)).setCell (p := ⟨Bn, On + 4, none⟩) (.inl (hO.pt pn)) (.int .i64 nx)
  clear h1 h2 e1 cb d3 d4 t3 t4
  generalize World.setCell (World.setCell W _ _) _ _ = W1 at *
  have cb := block_c W1 sb vr vb vf _ hL1 bk bb g1 l1 Bb Ob pb
  obtain ⟨_, _, _, _, d4⟩ := bcells hL1 g1 pb
  have t4 := hL1.bthaw g1 pb 4
  go_upto_region 3 with (go_at_call 263; (with_reducible refine cb.mono ?_); rintro e w' ⟨rfl, hw⟩; (have hw' := hw.symm); subst hw'; clear hw)
  have hL2 : Lay (W1.setCell ⟨Bb, Ob + 4, none⟩ (.int .i64 n)) sb vr vb vf (s.linked2 n bk nx) := hL1.bstore g1 pb 4 (by omega) (.int .i64 n) (by rw [getD_of g1]; rfl)
  have hU2 := hU1.setCell (p := ⟨Bb, Ob + 4, none⟩) (.inl (hO.pt pb)) (.int .i64 n)
  clear cb d4 t4 hL1 hU1
  generalize World.setCell W1 _ _ = W2 at *
  have cb := block_c W2 sb vr vb vf _ hL2 nx b2 g2 l2 Bx Ox px
  obtain ⟨_, _, _, d3, _⟩ := bcells hL2 g2 px
  have t3 := hL2.bthaw g2 px 3
  have hL3 : Lay (W2.setCell ⟨Bx, Ox + 3, none⟩ (.int .i64 n)) sb vr vb vf (s.linked n bk nx) := hL2.bstore g2 px 3 (by omega) (.int .i64 n) (by rw [getD_of g2]; rfl)
  have hU3 := hid (hU2.setCell (p := ⟨Bx, Ox + 3, none⟩) (.inl (hO.pt px)) (.int .i64 n))
  have HL := hid hL3
  clear hL3
  go_wp2_with (go_at_call 263; (with_reducible refine cb.mono ?_); rintro e w' ⟨rfl, hw⟩; (have hw' := hw.symm); subst hw'; clear hw)
  go_end0
  exact ⟨rfl, HL, hU3⟩
end
end Go.Proofs.YtgmimmdojkoppaaGreatDoor.W
/- Rows of bytes that are lengthened and cleared. -/
namespace Go.Proofs.YtgmimmdojkoppaaGreatDoor.W
open Go.ChangeShapes Go.WideShapes Go.RowKit Go.Shelf
set_option linter.unusedVariables false

/-- vs laid over a row from o on -/
def setL : List Nat → Nat → List Nat → List Nat
  | row, _, [] => row
  | row, o, v :: r => setL (row.set o v) (o + 1) r
theorem setL_len (row : List Nat) (o : Nat) (vs : List Nat) : (setL row o vs).length = row.length := by
  induction vs generalizing row o with
  | nil => rfl
  | cons v r ih => simp [setL, ih]
theorem setL_get (row : List Nat) (o : Nat) (vs : List Nat) (j : Nat) (h : o + vs.length ≤ row.length) : (setL row o vs)[j]? = if o ≤ j ∧ j < o + vs.length then vs[j - o]? else row[j]? := by
  induction vs generalizing row o with
  | nil => rw [if_neg (by simp)]; rfl
  | cons v r ih =>
    simp only [List.length_cons] at h
    rw [setL, ih _ _ (by simp; omega), List.getElem?_set]
    by_cases e : o = j
    · subst e
      rw [if_neg (by omega), if_pos rfl, if_pos (by omega), if_pos (by simp)]
      simp
    · by_cases g : o + 1 ≤ j ∧ j < o + 1 + r.length
      · rw [if_pos g, if_pos (by simp; omega)]
        obtain ⟨k, hk⟩ : ∃ k, j - o = k + 1 := ⟨j - o - 1, by omega⟩
        rw [hk, List.getElem?_cons_succ]
        congr 1; omega
      · rw [if_neg g, if_neg (by omega), if_neg (by simp; omega)]
section
variable {W : World} {sb : Nat} {vr vb vf : Value} {s : Sto}
theorem Lay.rstores (h : Lay W sb vr vb vf s) {g cap : Nat} (hr : vr = .slice (some ⟨g, 0, none⟩) s.row.length cap) (o : Nat) (vs : List Nat) : Lay (W.setCells g o (vs.map byteV)) sb vr vb vf { s with row := setL s.row o vs } := by
  induction vs generalizing W s o with
  | nil => exact h
  | cons v r ih =>
    have := ih (s := { s with row := s.row.set o v }) (h.rstore hr o v) (by simpa using hr) (o + 1)
    exact this
theorem Upd.setCells {S : Nat → Prop} {a b : World} (h : Upd S a b) {g : Nat} (hp : S g) (o : Nat) (vs : List Value) : Upd S a (b.setCells g o vs) := by
  induction vs generalizing b o with
  | nil => exact h
  | cons v r ih => exact ih (h.setCell (p := ⟨g, o, none⟩) (.inl hp) v) (o + 1)
theorem Upd.setCells' {S : Nat → Prop} {a b : World} (h : Upd S a b) {g : Nat} (hp : Nx S a b g) (o : Nat) (vs : List Value) : Upd S a (b.setCells g o vs) := by
  induction vs generalizing b o with
  | nil => exact h
  | cons v r ih => exact ih (h.setCell (p := ⟨g, o, none⟩) hp v) (hp.on (by simp [World.setCell])) (o + 1)
theorem setCells_size (W : World) (g o : Nat) (vs : List Value) : (W.setCells g o vs).heap.size = W.heap.size := by
  induction vs generalizing W o with
  | nil => rfl
  | cons v r ih => rw [World.setCells, ih]; simp [World.setCell]
theorem setCells_far (W : World) (g o : Nat) (vs : List Value) (k : Nat) (hk : k ≠ g) : (W.setCells g o vs).heap[k]? = W.heap[k]? := by
  induction vs generalizing W o with
  | nil => rfl
  | cons v r ih => rw [World.setCells, ih, Below.heap_setCell _ _ _ _ hk]
end
theorem zeroCells_one (z : Value) (n : Nat) (hz : z.cells = #[z]) : Builtin.zeroCells z.cells n = (List.replicate n z).toArray := by
  rw [hz]
  apply Array.ext
  · simp [Builtin.zeroCells]
  · intro i h1 h2
    simp [Builtin.zeroCells, Nat.mod_one]
/-- 'append(row, make([]byte, m)...)' -/
theorem append_zeros {P : Program} (w : World) (t tn ty e : TypeId) (i : TypeInfo) (z : Value) (kq kn : IntKind) (ht : P.underlying t = some (.slice e)) (htn : P.underlying tn = some (.int kn)) (hi : P.info? e = some i) (hz : i.zero = some z) (hs : i.size = 1) (hby : i.bytes = 1) (hzc : z.cells = #[z]) (h1 : z.oneCell' = true)
    (v : Value) (n : Nat) (xs : List Value) (hown : w.ownsRow 0 e 1 v n xs) (m : Nat) (hm : 0 < m) (hnm : n + m ≤ 10000000000000) :
    ∃ v' w', (Builtin.append_ #[t, tn] ty #[v, .int kq m]).run P w = .ok v' w' ∧ w'.ownsRow 0 e 1 v' (n + m) (xs ++ List.replicate m z) ∧ w.grownBy w' v.ownBlock ∧ (∀ k, v'.ownBlock = some k → v.ownBlock = some k ∨ (w.heap.size ≤ k ∧ k < w'.heap.size)) := by
  have hcapm : ∀ w need old, need ≤ 10000000000000 → grownCap w need old e ≤ maxLen := fun w need old h => grownCap_le_maxLen w need old e (by unfold maxLen; omega)
  obtain ⟨hlen, hrow⟩ := hown
  rcases hrow with ⟨rfl, rfl⟩ | ⟨g, cap, cur, rfl, _, hg, hc, hcm, hcs, htake⟩
  · have hx : xs = [] := by simpa using hlen
    subst hx
    have hrun := Lib.run_append_nil_zeros (P := P) w t tn ty e i z kq kn ht htn hi hz m hm (by omega) (by omega) (by rw [hby]; omega)
    refine ⟨_, _, hrun, ⟨by simp, .inr ⟨w.heap.size, _, _, by rw [Nat.zero_add], Nat.zero_le _, heap_alloc_new w.drew _, by rw [Nat.zero_add]; exact grownCap_ge _ _ _ _, hcapm _ _ _ (by omega), ?_, ?_⟩⟩, ⟨rfl, rfl, rfl, ?_, fun k hk _ => ?_⟩, ?_⟩
    · rw [zeroCells_one _ _ hzc, zeroCells_one _ _ hzc]
      have := grownCap_ge w m 0 e
      simp; omega
    · rw [zeroCells_one _ _ hzc, zeroCells_one _ _ hzc]
      simp [Nat.min_eq_left]
    · show w.heap.size ≤ (w.drew.alloc _).heap.size; simp
    · exact Below.heap_alloc w.drew _ k hk
    · intro k hk
      simp [Value.ownBlock] at hk
      subst hk
      exact .inr ⟨Nat.le_refl _, by show w.heap.size < (w.drew.alloc _).heap.size; simp⟩
  · by_cases hroom : n + m ≤ cap
    · have hst := run_storeCells_at P g (n * i.size) e (List.replicate m z) 0 cur w hg (by rw [hs]; simp; omega) (by intro u hu; rw [List.eq_of_mem_replicate hu]; exact h1)
      simp only [Nat.add_zero] at hst
      have hw : IntKind.i64.wrap (m : Int) = m := by rw [IntKind.wrap_i64]; omega
      have h48i : ¬ (281474976710656 < (m : Int) * (i.bytes : Int)) := by rw [hby]; omega
      have hneg : ¬ ((m : Int) < 0) := by omega
      have hns : ¬ (m * i.size = 0) := by rw [hs]; omega
      have hzz := zeroCells_one z m hzc
      refine ⟨.slice (some ⟨g, 0, none⟩) (n + m) cap, w.setRow g (cur.toList.take (n * i.size) ++ List.replicate m z ++ cur.toList.drop (n * i.size + (List.replicate m z).length)).toArray, ?_, ⟨?_, .inr ⟨g, cap, (cur.toList.take (n * i.size) ++ List.replicate m z ++ cur.toList.drop (n * i.size + (List.replicate m z).length)).toArray, rfl, Nat.zero_le _, ?_, hroom, hcm, ?_, ?_⟩⟩, ⟨rfl, rfl, rfl, ?_, fun k hk hne => ?_⟩, fun k hk => .inl hk⟩
      · simp [Builtin.append_, run_underlying ht, run_underlying htn, sizeOf, typeInfo, zeroValue, hi, hz, asInt, asIntOf, hw, hneg, hns, h48i, hroom, Addr.add_lit, hzz, hst]
      · simp [hlen]
      · simp [World.setRow, Array.getElem?_modify, hg]
      · simp [hs, hcs]; omega
      · rw [hs]
        simp only [Nat.mul_one] at htake ⊢
        rw [List.toList_toArray, htake]
        exact List.take_left' (by simp [hlen])
      · simp [World.setRow]
      · simp only [World.setRow, Array.getElem?_modify]
        rw [if_neg (by simpa [Value.ownBlock] using (fun e => hne (by rw [e]; rfl)))]
    · have hfc : (Builtin.firstCells i.size n (.slice (some ⟨g, 0, none⟩) n cap)).run P w.drew = .ok xs.toArray w.drew := by
        rw [hs]
        refine run_firstCells_some (P := P) w.drew 1 n ⟨g, 0, none⟩ n cap xs (by simpa using hlen) ?_
        exact World.ownsRow.cells (w := w.drew) (base := 0) (e := e) (size := 1) (n := n) (v := .slice (some ⟨g, 0, none⟩) n cap) ⟨hlen, .inr ⟨g, cap, cur, rfl, Nat.zero_le _, hg, hc, hcm, hcs, htake⟩⟩ rfl
      have hrun := Lib.run_append_grow_zeros (P := P) w t tn ty e i z kq kn ht htn hi hz (some ⟨g, 0, none⟩) n cap xs hfc m hm (by omega) (by omega) (by omega) (by rw [hby]; omega) (by rw [hby]; have := nextslicecap_le (need := n + m) (old := cap) (by omega); omega)
      have hge := grownCap_ge w (n + m) cap e
      refine ⟨_, _, hrun, ⟨by simp [hlen], .inr ⟨w.heap.size, _, _, rfl, Nat.zero_le _, heap_alloc_new w.drew _, hge, hcapm _ _ _ (by omega), ?_, ?_⟩⟩, ⟨rfl, rfl, rfl, ?_, fun k hk _ => ?_⟩, ?_⟩
      · rw [zeroCells_one _ _ hzc, zeroCells_one _ _ hzc]
        simp [hlen]; omega
      · rw [zeroCells_one _ _ hzc, zeroCells_one _ _ hzc]
        simp only [Nat.mul_one, Array.toList_append]
        exact List.take_left' (by simp [hlen])
      · show w.heap.size ≤ (w.drew.alloc _).heap.size; simp
      · exact Below.heap_alloc w.drew _ k hk
      · intro k hk
        simp [Value.ownBlock] at hk
        subst hk
        exact .inr ⟨Nat.le_refl _, by show w.heap.size < (w.drew.alloc _).heap.size; simp⟩
/-- 'append(v, x...)', and where what it answers lies -/
theorem append_at {P : Program} (w : World) (t ty e : TypeId) (i : TypeInfo) (z : Value) (size bytes : Nat) (ht : P.underlying t = some (.slice e)) (hi : P.info? e = some i) (hz : i.zero = some z) (hsize : i.size = size) (hby : i.bytes = bytes) (hzs : z.cells.size = size) (hsz : 0 < size)
    (v : Value) (n : Nat) (xs : List Value) (hown : w.ownsRow 0 e size v n xs) (a : Addr) (m c : Nat) (news : List Value) (hl : news.length = m * size) (hnews : ∀ j u, news[j]? = some u → w.cell? (a.add j) = some u) (h1 : ∀ u ∈ news, u.oneCell' = true)
    (hm : 0 < m) (hb40 : bytes ≤ 64) (hnm : n + m ≤ 1000000000000) :
    ∃ v' w', (Builtin.append_ #[t, t] ty #[v, .slice (some a) m c]).run P w = .ok v' w' ∧ w'.ownsRow 0 e size v' (n + m) (xs ++ news) ∧ w.grownBy w' v.ownBlock ∧ (∀ k, v'.ownBlock = some k → v.ownBlock = some k ∨ (w.heap.size ≤ k ∧ k < w'.heap.size)) := by
  have hbig : (n + m) * bytes ≤ 140737488355328 := by
    have := Nat.mul_le_mul hnm hb40
    omega
  obtain ⟨v', w', hrun, ho, hg, _⟩ := run_append_own w 0 t ty e i z size bytes ht hi hz hsize hby hzs hsz v n xs hown a m c news hl hnews h1 (by unfold maxLen; omega) hbig (Nat.zero_le _)
  refine ⟨v', w', hrun, ho, hg, fun k hk => ?_⟩
  have hklt := (ho.lt k hk).2
  have hown' := hown
  obtain ⟨hlen, hrow⟩ := hown
  rcases hrow with ⟨rfl, rfl⟩ | ⟨g, cap, cur, rfl, _, hgg, hc, hcm, hcs, htake⟩
  · have hx : xs = [] := by simpa using hlen
    subst hx
    obtain ⟨v2, w2, hrun2, ho2, _, _⟩ := run_append_own w w.heap.size t ty e i z size bytes ht hi hz hsize hby hzs hsz (.slice none 0 0) 0 [] (World.ownsRow_nil _ _ _ _) a m c news hl hnews h1 (by unfold maxLen; omega) hbig (Nat.le_refl _)
    rw [hrun] at hrun2
    cases hrun2
    exact .inr ⟨(ho2.lt k hk).1, hklt⟩
  · by_cases hroom : n + m ≤ cap
    · have hr := run_append_room (P := P) w t ty e i ht hi g n cap cur hgg a m c news (by rw [hsize]; exact hl) hnews h1 hroom (by
        rw [hsize, hl, hcs, ← Nat.add_mul]; exact Nat.mul_le_mul_right _ hroom)
      rw [hrun] at hr
      cases hr
      exact .inl hk
    · have hfc : (Builtin.firstCells i.size n (.slice (some ⟨g, 0, none⟩) n cap)).run P w.drew = .ok xs.toArray w.drew := by
        rw [hsize]
        exact run_firstCells_some (P := P) w.drew size n ⟨g, 0, none⟩ n cap xs hlen (World.ownsRow.cells (w := w.drew) (base := 0) (e := e) (size := size) (n := n) (v := .slice (some ⟨g, 0, none⟩) n cap) hown' rfl)
      have hr := run_append_grow_src (P := P) w t t ty e i z ht hi hz (some ⟨g, 0, none⟩) n cap xs hfc (.slice (some a) m c) m news (Src.ofSlice w ht a m c news (by rw [hsize]; exact hl) hnews h1) (by omega) (by omega) (by rw [hby]; exact growslice_fits (by omega) hbig)
      rw [hrun] at hr
      cases hr
      simp [Value.ownBlock] at hk
      subst hk
      exact .inr ⟨Nat.le_refl _, hklt⟩
theorem own_ne {W : World} {e : TypeId} {size : Nat} {v : Value} {n : Nat} {xs : List Value} (h : W.ownsRow 0 e size v n xs) {b : Nat} {c : Array Value} {t : TypeId} (hb : W.heap[b]? = some (.cells c t (0, 0))) (hne : e ≠ t) : some b ≠ v.ownBlock := by
  rcases h.2 with ⟨rfl, _⟩ | ⟨g, cap, cur, rfl, _, hg, _⟩
  · simp [Value.ownBlock]
  · simp only [Value.ownBlock]
    intro e1
    cases e1
    rw [hb] at hg
    simp at hg
    exact hne hg.2.symm
theorem own_apart {W : World} {e e' : TypeId} {size size' : Nat} {v v' : Value} {n n' : Nat} {xs xs' : List Value} (h : W.ownsRow 0 e size v n xs) (h' : W.ownsRow 0 e' size' v' n' xs') (hne : e ≠ e') : v.ownBlock = none ∨ v.ownBlock ≠ v'.ownBlock := by
  rcases h.2 with ⟨rfl, _⟩ | ⟨g, cap, cur, rfl, _, hg, _⟩
  · exact .inl rfl
  · right
    simp only [Value.ownBlock]
    exact own_ne h' hg (fun e => hne e.symm)
section
variable {W W4 : World} {sb : Nat} {vr vb vf v2 : Value} {s : Sto}
/-- the row has been appended to -/
theorem Lay.regrow_row (h : Lay W sb vr vb vf s) (hg : W.grownBy W4 vr.ownBlock) {row' : List Nat} (ho : W4.ownsRow 0 5 1 v2 row'.length (row'.map byteV)) : Lay (W4.setCell ⟨sb, 0, none⟩ v2) sb v2 vb vf { s with row := row' } := by
  have h4 : W4.heap[sb]? = some (.cells (s.obj vr vb vf).toArray 73 (0, 0)) := (hg.block sb (Array.getElem?_eq_some_iff.1 h.obj).1 (own_ne h.row h.obj (by decide))).trans h.obj
  exact ⟨heap_set h4 0 v2, own_other ho h4 (by decide) _ _, own_other (h.blk.kept hg (own_apart h.blk h.row (by decide))) h4 (by decide) _ _, own_other (h.free.kept hg (own_apart h.free h.row (by decide))) h4 (by decide) _ _⟩
/-- the table has been appended to -/
theorem Lay.regrow_blk (h : Lay W sb vr vb vf s) (hg : W.grownBy W4 vb.ownBlock) {blks' : List Blk} (ho : W4.ownsRow 0 68 5 v2 blks'.length (flat blks')) : Lay (W4.setCell ⟨sb, 6, none⟩ v2) sb vr v2 vf { s with blks := blks' } := by
  have h4 : W4.heap[sb]? = some (.cells (s.obj vr vb vf).toArray 73 (0, 0)) := (hg.block sb (Array.getElem?_eq_some_iff.1 h.obj).1 (own_ne h.blk h.obj (by decide))).trans h.obj
  exact ⟨heap_set h4 6 v2, own_other (h.row.kept hg (own_apart h.row h.blk (by decide))) h4 (by decide) _ _, own_other ho h4 (by decide) _ _, own_other (h.free.kept hg (own_apart h.free h.blk (by decide))) h4 (by decide) _ _⟩
/-- the heap of Ids has been appended to -/
theorem Lay.regrow_free (h : Lay W sb vr vb vf s) (hg : W.grownBy W4 vf.ownBlock) {free' : List Int} (ho : W4.ownsRow 0 3 1 v2 free'.length (free'.map (.int .i64))) : Lay (W4.setCell ⟨sb, 7, none⟩ v2) sb vr vb v2 { s with free := free' } := by
  have h4 : W4.heap[sb]? = some (.cells (s.obj vr vb vf).toArray 73 (0, 0)) := (hg.block sb (Array.getElem?_eq_some_iff.1 h.obj).1 (own_ne h.free h.obj (by decide))).trans h.obj
  exact ⟨heap_set h4 7 v2, own_other (h.row.kept hg (own_apart h.row h.free (by decide))) h4 (by decide) _ _, own_other (h.blk.kept hg (own_apart h.blk h.free (by decide))) h4 (by decide) _ _, own_other ho h4 (by decide) _ _⟩
end
end Go.Proofs.YtgmimmdojkoppaaGreatDoor.W
