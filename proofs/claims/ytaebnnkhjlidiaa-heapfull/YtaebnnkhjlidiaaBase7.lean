import Derived.Test.YtaebnnkhjlidiaaBase5
import Derived.Test.YtaebnnkhjlidiaaBase6
import Derived.Scope
import Derived.Lib.ConvBytes
import Derived.Laws.Strings
import Derived.Test.YtaebnnkhjlidiaaBase4
import Derived.Test.YtaebnnkhjlidiaaBase0
import Derived.Laws.ResultCell
/- Package heap: keep. -/
namespace Go.Proofs.Ytaebnnkhjlidiaa.W
open Go.ChangeShapes Go.WideShapes Go.RowKit Go.Shelf
set_option linter.unusedVariables false
/-- the cells, those below k that are not of R let go -/
def stepH (H : List (Option Hc)) (R : List Bool) : Nat → List (Option Hc)
  | 0 => H
  | k + 1 => if R.getD k false = true then stepH H R k else (stepH H R k).set k none
theorem stepH_len (H : List (Option Hc)) (R : List Bool) (k : Nat) : (stepH H R k).length = H.length := by
  induction k with
  | zero => rfl
  | succ k ih => unfold stepH; split <;> simp [ih]
theorem stepH_above (H : List (Option Hc)) (R : List Bool) (k i : Nat) (h : k ≤ i) : (stepH H R k)[i]? = H[i]? := by
  induction k with
  | zero => rfl
  | succ k ih =>
    unfold stepH
    split
    · exact ih (by omega)
    · rw [List.getElem?_set_ne (by omega)]; exact ih (by omega)
theorem stepH_dead (H : List (Option Hc)) (R : List Bool) (k : Nat) (h : H[k]? = some none) : stepH H R (k + 1) = stepH H R k := by
  show (if R.getD k false = true then stepH H R k else (stepH H R k).set k none) = _
  split
  · rfl
  · have e := stepH_above H R k k (Nat.le_refl _)
    rw [h] at e
    apply List.ext_getElem?
    intro i
    by_cases hi : i = k
    · subst hi
      rw [List.getElem?_set_self (List.getElem?_eq_some_iff.1 e).1, e]
    · rw [List.getElem?_set_ne (Ne.symm hi)]
theorem live_law {g : Operand} {pt : Nat} {assign body : Code} {Q : Exit → Act → World → Prop} {a : Act} {W0 : World} {Bh hb n : Nat} {P : Nat → Bool} (hg : a.eval g = .func (.func 55) #[] #[.pointer (some ⟨Bh, 0, none⟩)])
    (I : Nat → World → Prop) (Ix : Code → World → Prop) (hL : ∀ i W, I i W → W.cell? ⟨Bh, 0, none⟩ = some (.pointer (some ⟨hb, 0, none⟩)) ∧ ∃ sb vc T H u h, HLay W hb sb vc T H u h ∧ H.length = n ∧ ∀ k, i ≤ k → k < n → ((H[k]?).getD none).isSome = P k)
    (hI : ∀ i W W', I i W → Upd (fun k => k = W0.heap.size + 1) W W' → I i W')
    (hIx : ∀ c W W', Ix c W → Upd (fun k => k = W0.heap.size + 1) W W' → Ix c W') (h0 : I 0 W0) (hskip : ∀ i W, i < n → P i = false → I i W → I (i + 1) W) (q : Nat)
    (hassign : ∀ (L x : Nat) (W : World) (K : Act → World → Prop), K (ringAct pt a q x) W → assign.wpIn (Fence.wide.inRound L) 7 Try.prog (Exit.then K (fun _ _ _ => False)) { tmps := a.tmps.setIfInBounds pt (.int .i64 (x : Int)), defers := [] } W)
    (hbody : ∀ (L : Nat) i (hi : i < n) W, P i = true → L = W0.heap.size + 1 → I i W → W0.heap.size + 2 ≤ W.heap.size → (∃ r, W.heap[L]? = some (.loop r)) → body.wpIn (Fence.wide.inRound L) 7 Try.prog (rndWay L W0.heap.size W (I (i + 1)) Ix) (ringAct pt a q i) W)
    (hdone : ∀ W, I n W → W.heap[W0.heap.size]? = some (.deferred (some [])) → Q .normal { a with defers := { target := .collected W0.heap.size, args := #[] } :: a.defers } W)
    (hstop : ∀ c W, Ix c W → W.heap[W0.heap.size]? = some (.deferred (some [])) → c.wp Try.prog Q { a with defers := { target := .collected W0.heap.size, args := #[] } :: a.defers } W) :
    (Code.rangeFunc g #[pt] assign body).wp Try.prog Q a W0 :=
  iterP_law (live_iter Bh hb n P) eg_live hg I Ix hL hI hIx h0 hskip (fun i => ringAct pt a q i) (fun i => rfl) (fun L i W K hK => by rw [zip_one]; exact hassign L i W K hK) hbody hdone hstop
section
variable {W W' : World} {hb sb : Nat} {vc : Value} {T : Nat → Prop} {H : List (Option Hc)} {u h : Nat}
theorem HLay.held (g : HLay W hb sb vc T H u h) (m : Nat) (hm : m ≤ 1048576) : HLay (W.setCell ⟨hb, 3, none⟩ (.int .i64 m)) hb sb vc T H u m ∧ Upd (fun x => x = hb) W (W.setCell ⟨hb, 3, none⟩ (.int .i64 m)) := by
  have hU : Upd (fun x => x = hb) W (W.setCell ⟨hb, 3, none⟩ (.int .i64 m)) := (Upd.refl (fun x => x = hb) W).setCell (p := ⟨hb, 3, none⟩) (.inl rfl) _
  refine ⟨⟨?_, ?_, ?_, ?_, g.thb, g.tvc, g.ok, g.len, g.u1, hm⟩, hU⟩
  · have := heap_set (b := hb) g.obj 3 (.int .i64 (m : Nat))
    exact this
  · refine owns_on g.own (fun k e => hU.block k (g.clt k e) ?_)
    rintro rfl
    exact own_ne g.own g.obj (by decide) e.symm
  · refine g.st.on (fun k e => hU.block k (g.tlt k e) ?_)
    rintro rfl
    exact g.thb e
  · intro k e
    have := hU.size
    have := g.tlt k e
    omega
set_option maxRecDepth 20000 in
set_option maxHeartbeats 1000000 in
theorem keep_c (g : HLay W hb sb vc T H u h) (vr : Value) (R : List Bool) (hRl : R.length = H.length) (B0 : Nat) (ho : W.ownsRow B0 4 1 vr R.length (R.map .bool)) (l : Low B0 hb vc T) (hB0 : B0 ≤ W.heap.size) (need : Nat) (hn : need ≤ 1048576) :
    Calls Try.prog 24 #[.pointer (some ⟨hb, 0, none⟩), vr, .int .i64 need] W fun e w' => e = .returned (.tuple #[]) ∧ Upd (fun x => T x ∨ x = hb ∨ vc.ownBlock = some x) W w' ∧ ∃ T', HLay w' hb sb vc T' (stepH H R H.length) u need ∧ ∀ k, T' k → T k ∨ W.heap.size ≤ k := by
  have hlt := g.hlt
  obtain ⟨ov, capv, hvr⟩ := slice_of (owns_base ho (b' := 0) (fun _ _ => Nat.zero_le _))
  subst hvr
  have cv := live_c
  refine (callsIn_wide (n := 9)).1 ?_
  refine callsIn_of_wp_marks Try.func24 rfl trivial ?_ rfl
  refine wpIn_wide.2 ?_
  simp only [Try.ntmps24, List.size_toArray, List.length_cons, List.length_nil, Nat.reduceAdd, Nat.reduceSub, Array.replicate_succ, Array.replicate_zero, List.push_toArray, List.append_toArray, List.nil_append, List.cons_append]
  go_wp2
  refine wp_scope_straight ?_
  go_wp2_with (first | (refine wp_label ?_) | (go_at_call 34; (with_reducible refine (cv _ _).mono ?_); rintro e w8 ⟨rfl, hw8⟩; (have hw' := hw8.symm); subst hw'; clear hw8))
  have b1 : Boxed (((W.alloc (.cells #[.pointer (some ⟨hb, 0, none⟩)] 31)).alloc (.cells #[.slice ov H.length capv] 60)).alloc (.cells #[.pointer (some ⟨hb, 0, none⟩)] 31)) W.heap.size 31 (.pointer (some ⟨hb, 0, none⟩)) := ((Boxed.new W _ _).alloc _).alloc _
  have b2 : Boxed (((W.alloc (.cells #[.pointer (some ⟨hb, 0, none⟩)] 31)).alloc (.cells #[.slice ov H.length capv] 60)).alloc (.cells #[.pointer (some ⟨hb, 0, none⟩)] 31)) (W.heap.size + 1) 60 (.slice ov H.length capv) := by
    have := (Boxed.new (W.alloc (.cells #[.pointer (some ⟨hb, 0, none⟩)] 31)) 60 (.slice ov H.length capv)).alloc (.cells #[.pointer (some ⟨hb, 0, none⟩)] 31)
    rwa [World.size_alloc] at this
  have b3 : Boxed (((W.alloc (.cells #[.pointer (some ⟨hb, 0, none⟩)] 31)).alloc (.cells #[.slice ov H.length capv] 60)).alloc (.cells #[.pointer (some ⟨hb, 0, none⟩)] 31)) (W.heap.size + 1 + 1) 31 (.pointer (some ⟨hb, 0, none⟩)) := by
    have := Boxed.new ((W.alloc (.cells #[.pointer (some ⟨hb, 0, none⟩)] 31)).alloc (.cells #[.slice ov H.length capv] 60)) 31 (.pointer (some ⟨hb, 0, none⟩))
    rwa [World.size_alloc, World.size_alloc] at this
  have hB3 : Below W.heap.size W (((W.alloc (.cells #[.pointer (some ⟨hb, 0, none⟩)] 31)).alloc (.cells #[.slice ov H.length capv] 60)).alloc (.cells #[.pointer (some ⟨hb, 0, none⟩)] 31)) := (((Below.refl _ W).alloc (Nat.le_refl _) _).alloc (by simp) _).alloc (by simp; omega) _
  have hz3 : (((W.alloc (.cells #[.pointer (some ⟨hb, 0, none⟩)] 31)).alloc (.cells #[.slice ov H.length capv] 60)).alloc (.cells #[.pointer (some ⟨hb, 0, none⟩)] 31)).heap.size = W.heap.size + 3 := by simp
  generalize World.alloc (World.alloc (World.alloc W _) _) _ = W3 at *
  have g3 := g.below hB3
  have ho3 : W3.ownsRow B0 4 1 (.slice ov R.length capv) R.length (R.map .bool) := owns_on ho (fun k e => hB3.block k (ho.lt k e).2)
  rw [hRl] at ho3
  have hvlt : ∀ k, (Value.slice ov H.length capv).ownBlock = some k → B0 ≤ k ∧ k < W.heap.size := fun k e => ho.lt k (by rw [hRl]; exact e)
  have hcv := l.vc
  have hst := l.st
  have hhb := l.hb
  refine live_law (hb := hb) (n := H.length) (P := fun k => ((H[k]?).getD none).isSome) rfl
    (fun i W' => ∃ T', HLay W' hb sb vc T' (stepH H R i) u h ∧ (∀ x, T' x → T x ∨ W.heap.size + 5 ≤ x) ∧ Boxed W' W.heap.size 31 (.pointer (some ⟨hb, 0, none⟩)) ∧ Boxed W' (W.heap.size + 1) 60 (.slice ov H.length capv) ∧ Boxed W' (W.heap.size + 1 + 1) 31 (.pointer (some ⟨hb, 0, none⟩)) ∧ W'.ownsRow B0 4 1 (.slice ov H.length capv) H.length (R.map .bool) ∧ Upd (fun x => T x ∨ x = hb ∨ vc.ownBlock = some x) W W')
    (fun _ _ => False) ?hL ?hI ?hIx ⟨T, g3, fun x e => .inl e, b1, b2, b3, ho3, Upd.of_below hB3⟩ ?skip 6 ?assign ?body ?done ?stop
  case hL =>
    rintro i W' ⟨T', g1, _, _, _, g5, _, _⟩
    exact ⟨g5.cell, sb, vc, T', _, u, h, g1, stepH_len _ _ _, fun k hk _ => by rw [stepH_above _ _ _ _ hk]⟩
  case hI =>
    rintro i Wa Wb ⟨T', g1, g2, g3, g4, g5, g6, g7⟩ hu
    refine ⟨T', g1.upd hu (by omega) (fun k e => by have := hcv k e; omega) (fun k e => by rcases g2 k e with e | e; · have := hst k e; omega
                                                                                           · omega), g2, box_of (hu.block _ g3.lt (by omega)) g3, box_of (hu.block _ g4.lt (by omega)) g4, box_of (hu.block _ g5.lt (by omega)) g5, owns_on g6 (fun k e => hu.block k (g6.lt k e).2 (by have := hvlt k e; omega)), ⟨hu.os.trans g7.os, hu.tape.trans g7.tape, hu.output.trans g7.output, Nat.le_trans g7.size hu.size, fun k hk hn => (hu.block k (Nat.lt_of_lt_of_le hk g7.size) (by omega)).trans (g7.block k hk hn)⟩⟩
  case hIx => intro c Wa Wb hF; exact hF.elim
  case skip =>
    rintro i Wa hi hP ⟨T', g1, g2⟩
    have hd : H[i]? = some none := by
      rw [List.getElem?_eq_getElem hi] at hP ⊢
      simp only [Option.getD_some] at hP
      cases e : H[i] with
      | none => rfl
      | some c => rw [e] at hP; cases hP
    rw [← stepH_dead H R i hd] at g1
    exact ⟨T', g1, g2⟩
  case assign =>
    intro L x W' K hK
    gi_wp2_with (simp only [Oper.semAt]; go_simp)
    exact hK
  case body =>
    rintro L i hi W' hP hLe ⟨T', g1, g2, g3, g4, g5, g6, g7⟩ hs ⟨r, hr⟩
    simp only [ringAct, List.setIfInBounds_toArray, List.set_cons_succ, List.set_cons_zero]
    obtain ⟨gR, capR, hv, _⟩ := own_slice (owns_base g6 (b' := 0) (fun _ _ => Nat.zero_le _)) (by omega)
    cases hv
    have hcR := g6.cellAt i (by omega)
    have hRi : R[i]? = some R[i] := List.getElem?_eq_getElem (by omega)
    rw [List.getElem?_map, hRi, Option.map_some] at hcR
    have cr := g4.cell
    have ch := g3.cell
    have i0 : (0 : Int) ≤ i := by omega
    have i1 : (i : Int) < H.length := by omega
    have hgd : R.getD i false = R[i] := by rw [List.getD_eq_getElem?_getD, hRi]; rfl
    cases hb1 : R[i] with
    | true =>
      have hst1 : stepH H R (i + 1) = stepH H R i := by
        show (if R.getD i false = true then stepH H R i else (stepH H R i).set i none) = _
        rw [hgd, hb1, if_pos rfl]
      rw [hb1] at hcR
      have fin : Hid (∃ T', HLay W' hb sb vc T' (stepH H R (i + 1)) u h ∧ (∀ x, T' x → T x ∨ W.heap.size + 5 ≤ x) ∧ Boxed W' W.heap.size 31 (.pointer (some ⟨hb, 0, none⟩)) ∧ Boxed W' (W.heap.size + 1) 60 (.slice (some ⟨gR, 0, none⟩) H.length capv) ∧ Boxed W' (W.heap.size + 1 + 1) 31 (.pointer (some ⟨hb, 0, none⟩)) ∧ W'.ownsRow B0 4 1 (.slice (some ⟨gR, 0, none⟩) H.length capv) H.length (R.map .bool) ∧ Upd (fun x => T x ∨ x = hb ∨ vc.ownBlock = some x) W W') := ⟨T', by rw [hst1]; exact g1, g2, g3, g4, g5, g6, g7⟩
      clear g1 g2 g3 g4 g5 g6 g7 hr hst1 b1 b2 b3 ho3 hvlt
      gi_wp2_with (simp only [Oper.semAt]; go_simp)
      exact ⟨⟨rfl, rfl⟩, fin.out⟩
    | false =>
      have hst1 : stepH H R (i + 1) = (stepH H R i).set i none := by
        show (if R.getD i false = true then stepH H R i else (stepH H R i).set i none) = _
        rw [hgd, hb1, if_neg (by decide)]
      rw [hb1] at hcR
      obtain ⟨c, hc⟩ : ∃ c, H[i]? = some (some c) := by
        rw [List.getElem?_eq_getElem hi] at hP ⊢
        simp only [Option.getD_some] at hP
        cases e : H[i] with
        | none => rw [e] at hP; cases hP
        | some c => exact ⟨c, rfl⟩
      have hci : (stepH H R i)[i]? = some (some c) := by rw [stepH_above _ _ _ _ (Nat.le_refl _)]; exact hc
      have cg := give_st g1.st i c.bytes (hA_some hci)
      have c0 := g1.cell 0
      simp only [List.getElem?_cons_zero] at c0
      have hil : i < (stepH H R i).length := by rw [stepH_len]; exact hi
      obtain ⟨b, cap, hvc, hcell, hth⟩ := g1.at hil
      rw [stepH_len] at hvc
      have c1 := g1.cell 1
      simp only [List.getElem?_cons_succ, List.getElem?_cons_zero] at c1
      rw [hvc] at c1
      have hbo : vc.ownBlock = some b := by rw [hvc]; rfl
      have hbT := g1.tvc b hbo
      have hbl := hcv b hbo
      have nT : ∀ x, W.heap.size ≤ x → x < W.heap.size + 5 → ¬ T' x := by
        intro x h1 h2 e
        rcases g2 x e with e | e
        · have := hst x e; omega
        · omega
      have nR : ¬ T' gR := by
        intro e
        have h1 := hvlt gR rfl
        rcases g2 gR e with e | e
        · have := hst gR e; omega
        · omega
      have F : ∀ w2, Upd T' W' w2 → St w2 (Nx T' W' w2) sb ((hA (stepH H R i)).set i none) 8388608 1048577 → w2.cell? ⟨W.heap.size, 0, none⟩ = some (.pointer (some ⟨hb, 0, none⟩)) ∧ w2.cell? ⟨hb, 1, none⟩ = some (.slice (some ⟨b, 0, none⟩) H.length cap) ∧ (∃ v0 v1 v2 v3 v4, w2.cell? ⟨b, i * 5, none⟩ = some v0 ∧ w2.cell? ⟨b, i * 5 + 1, none⟩ = some v1 ∧ w2.cell? ⟨b, i * 5 + 2, none⟩ = some v2 ∧ w2.cell? ⟨b, i * 5 + 3, none⟩ = some v3 ∧ w2.cell? ⟨b, i * 5 + 4, none⟩ = some v4) ∧ (w2.frozen? ⟨b, i * 5, none⟩ = false ∧ w2.frozen? ⟨b, i * 5 + 1, none⟩ = false ∧ w2.frozen? ⟨b, i * 5 + 2, none⟩ = false ∧ w2.frozen? ⟨b, i * 5 + 3, none⟩ = false ∧ w2.frozen? ⟨b, i * 5 + 4, none⟩ = false) ∧
          Hid (((((((w2.setCell ⟨b, i * 5, none⟩ (.int .i64 0)).setCell ⟨b, i * 5 + 1, none⟩ (.bool false)).setCell ⟨b, i * 5 + 2, none⟩ (.int .u64 0)).setCell ⟨b, i * 5 + 3, none⟩ (.int .i64 0)).setCell ⟨b, i * 5 + 4, none⟩ (.int .i64 0)).heap[L]? = W'.heap[L]? ∧ (((((w2.setCell ⟨b, i * 5, none⟩ (.int .i64 0)).setCell ⟨b, i * 5 + 1, none⟩ (.bool false)).setCell ⟨b, i * 5 + 2, none⟩ (.int .u64 0)).setCell ⟨b, i * 5 + 3, none⟩ (.int .i64 0)).setCell ⟨b, i * 5 + 4, none⟩ (.int .i64 0)).heap[W3.heap.size]? = W'.heap[W3.heap.size]?) ∧ ∃ T', HLay (((((w2.setCell ⟨b, i * 5, none⟩ (.int .i64 0)).setCell ⟨b, i * 5 + 1, none⟩ (.bool false)).setCell ⟨b, i * 5 + 2, none⟩ (.int .u64 0)).setCell ⟨b, i * 5 + 3, none⟩ (.int .i64 0)).setCell ⟨b, i * 5 + 4, none⟩ (.int .i64 0)) hb sb vc T' (stepH H R (i + 1)) u h ∧ (∀ x, T' x → T x ∨ W.heap.size + 5 ≤ x) ∧ Boxed (((((w2.setCell ⟨b, i * 5, none⟩ (.int .i64 0)).setCell ⟨b, i * 5 + 1, none⟩ (.bool false)).setCell ⟨b, i * 5 + 2, none⟩ (.int .u64 0)).setCell ⟨b, i * 5 + 3, none⟩ (.int .i64 0)).setCell ⟨b, i * 5 + 4, none⟩ (.int .i64 0)) W.heap.size 31 (.pointer (some ⟨hb, 0, none⟩)) ∧ Boxed (((((w2.setCell ⟨b, i * 5, none⟩ (.int .i64 0)).setCell ⟨b, i * 5 + 1, none⟩ (.bool false)).setCell ⟨b, i * 5 + 2, none⟩ (.int .u64 0)).setCell ⟨b, i * 5 + 3, none⟩ (.int .i64 0)).setCell ⟨b, i * 5 + 4, none⟩ (.int .i64 0)) (W.heap.size + 1) 60 (.slice (some ⟨gR, 0, none⟩) H.length capv) ∧ Boxed (((((w2.setCell ⟨b, i * 5, none⟩ (.int .i64 0)).setCell ⟨b, i * 5 + 1, none⟩ (.bool false)).setCell ⟨b, i * 5 + 2, none⟩ (.int .u64 0)).setCell ⟨b, i * 5 + 3, none⟩ (.int .i64 0)).setCell ⟨b, i * 5 + 4, none⟩ (.int .i64 0)) (W.heap.size + 1 + 1) 31 (.pointer (some ⟨hb, 0, none⟩)) ∧ (((((w2.setCell ⟨b, i * 5, none⟩ (.int .i64 0)).setCell ⟨b, i * 5 + 1, none⟩ (.bool false)).setCell ⟨b, i * 5 + 2, none⟩ (.int .u64 0)).setCell ⟨b, i * 5 + 3, none⟩ (.int .i64 0)).setCell ⟨b, i * 5 + 4, none⟩ (.int .i64 0)).ownsRow B0 4 1 (.slice (some ⟨gR, 0, none⟩) H.length capv) H.length (R.map .bool) ∧ Upd (fun x => T x ∨ x = hb ∨ vc.ownBlock = some x) W (((((w2.setCell ⟨b, i * 5, none⟩ (.int .i64 0)).setCell ⟨b, i * 5 + 1, none⟩ (.bool false)).setCell ⟨b, i * 5 + 2, none⟩ (.int .u64 0)).setCell ⟨b, i * 5 + 3, none⟩ (.int .i64 0)).setCell ⟨b, i * 5 + 4, none⟩ (.int .i64 0))) := by
        intro w2 hU2 hS2
        have e0 : w2.heap[W.heap.size]? = W'.heap[W.heap.size]? := hU2.block _ g3.lt (nT _ (by omega) (by omega))
        have e1 : w2.heap[hb]? = W'.heap[hb]? := hU2.block _ g1.hlt g1.thb
        have e2 : w2.heap[b]? = W'.heap[b]? := hU2.block _ (g1.clt b hbo) hbT
        have cc : ∀ j, j < 5 → w2.cell? ⟨b, i * 5 + j, none⟩ = (clO (some c)).cells[j]? := fun j hj => by rw [World.cell?_of_block e2]; exact hcell j _ hci hj
        have ff : ∀ j, w2.frozen? ⟨b, j, none⟩ = false := fun j => by rw [World.frozen?_of_block e2]; exact hth j
        refine ⟨by rw [World.cell?_of_block e0]; exact ch, by rw [World.cell?_of_block e1]; exact c1, ⟨_, _, _, _, _, cc 0 (by omega), cc 1 (by omega), cc 2 (by omega), cc 3 (by omega), cc 4 (by omega)⟩, ⟨ff _, ff _, ff _, ff _, ff _⟩, ?_⟩
        obtain ⟨q1, q2⟩ := g1.gave i hil hU2 hS2 (b := b) (cap := cap) (by rw [stepH_len]; exact hvc)
        have hk : ∀ x, W.heap.size ≤ x → x < W.heap.size + 5 → x < W'.heap.size → (((((w2.setCell ⟨b, i * 5, none⟩ (.int .i64 0)).setCell ⟨b, i * 5 + 1, none⟩ (.bool false)).setCell ⟨b, i * 5 + 2, none⟩ (.int .u64 0)).setCell ⟨b, i * 5 + 3, none⟩ (.int .i64 0)).setCell ⟨b, i * 5 + 4, none⟩ (.int .i64 0)).heap[x]? = W'.heap[x]? := by
          intro x h1 h2 h3
          refine q2.block x h3 ?_
          rintro (e | e)
          · exact nT x h1 h2 e
          · omega
        show _ ∧ _
        refine ⟨⟨hk L (by omega) (by omega) (by omega), hk _ (by omega) (by omega) (by omega)⟩, Nx T' W' w2, by rw [hst1]; exact q1, ?_, box_of (hk _ (by omega) (by omega) g3.lt) g3, box_of (hk _ (by omega) (by omega) g4.lt) g4, box_of (hk _ (by omega) (by omega) g5.lt) g5, owns_on g6 (fun k e => q2.block k (g6.lt k e).2 ?_), ?_⟩
        · rintro x (e | e)
          · exact g2 x e
          · right; omega
        · cases e
          rintro (e | e)
          · exact nR e
          · have h1 := (hvlt gR rfl).1
            have h2 : gR = b := e
            omega
        · refine g7.trans (q2.mono ?_)
          rintro x (e | rfl)
          · rcases g2 x e with e | e
            · exact .inl (.inl e)
            · have := g1.tlt x (by assumption)
              exact .inr ⟨by omega, this⟩
          · exact .inl (.inr (.inr hbo))
      clear g1 g2 g3 g4 g5 g6 g7 hr hst1 b1 b2 b3 ho3 hvlt hcell hth nT nR hci hc
      gi_wp2_with (first | (simp only [Oper.semAt]; go_simp) | ((refine ⟨trivial, ?_⟩); gi_at_call 42; (refine (CallsIn.inRound L (callsIn_wide.2 cg)).mono ?_); rintro e w2 ⟨rfl, hU2, hS2⟩; (obtain ⟨f1, f2, ⟨v0, v1, v2, v3, v4, f30, f31, f32, f33, f34⟩, ⟨f40, f41, f42, f43, f44⟩, f5⟩ := F w2 hU2 hS2); clear F cg hU2 hS2))
      exact f5.out
  case done =>
    rintro W' ⟨T', g1, g2, g3, g4, g5, g6, g7⟩ hD
    have ch := g3.cell
    have c3 := g1.cell 3
    simp only [List.getElem?_cons_succ, List.getElem?_cons_zero] at c3
    have th := g1.thaw 3
    obtain ⟨q1, q2⟩ := g1.held need hn
    have hsz : W.heap.size ≤ W'.heap.size := g7.size
    have hD2 : (W'.setCell ⟨hb, 3, none⟩ (.int .i64 need)).heap[W3.heap.size]? = some (.deferred (some [])) := by rw [Below.heap_setCell _ _ _ _ (by show W3.heap.size ≠ hb; omega)]; exact hD
    have Q1 := hid q1
    have U7 := hid (g7.trans' (q2.mono (fun x e => .inr (.inl e))))
    have G2 := hid g2
    clear q1 q2 g1 g2 g3 g4 g5 g6 g7
    go_wp2
    refine ⟨by simp, .inl ⟨_, _, rfl, run_takeDeferred hD2, ?_⟩⟩
    refine ⟨_, results_none rfl _ _ _, rfl, U7.out.putObj (.inr ⟨by omega, (Array.getElem?_eq_some_iff.1 hD2).1⟩) _, T', ?_, ?_⟩
    · refine Q1.out.upd (upd_put (S := fun k => k = W3.heap.size) rfl _) (by omega) (fun k e => by have := hcv k e; omega) ?_
      intro k e
      rcases G2.out k e with e | e
      · have := hst k e; omega
      · omega
    · intro k e
      rcases G2.out k e with e | e
      · exact .inl e
      · right; omega
  case stop => intro c W' hF; exact hF.elim
end
end Go.Proofs.Ytaebnnkhjlidiaa.W
/- Package heap: Collect. -/
namespace Go.Proofs.Ytaebnnkhjlidiaa.W
open Go.ChangeShapes Go.WideShapes Go.RowKit Go.Shelf
set_option linter.unusedVariables false
/-- the cells of R -/
def zipK : List (Option Hc) → List Bool → List (Option Hc)
  | c :: H, b :: R => (if b = true then c else none) :: zipK H R
  | _, _ => []
theorem zipK_sum (H : List (Option Hc)) (R : List Bool) : sumH (zipK H R) = needR H R := by
  induction H generalizing R with
  | nil => cases R <;> rfl
  | cons c H ih =>
    cases R with
    | nil => rfl
    | cons b R =>
      simp only [zipK, needR, sumH_cons, ih]
      cases b
      · simp [needO]
      · simp
theorem zipK_get (H : List (Option Hc)) (R : List Bool) (hl : R.length = H.length) (i : Nat) (hi : i < H.length) : (zipK H R)[i]? = if R.getD i false = true then H[i]? else some none := by
  induction H generalizing R i with
  | nil => simp at hi
  | cons c H ih =>
    cases R with
    | nil => simp at hl
    | cons b R =>
      cases i with
      | zero => cases b <;> simp [zipK]
      | succ i =>
        have := ih R (by simpa using hl) i (by simpa using hi)
        simpa [zipK] using this
theorem zipK_len (H : List (Option Hc)) (R : List Bool) (hl : R.length = H.length) : (zipK H R).length = H.length := by
  induction H generalizing R with
  | nil => cases R <;> rfl
  | cons c H ih =>
    cases R with
    | nil => simp at hl
    | cons b R => simp [zipK, ih R (by simpa using hl)]
theorem stepH_below (H : List (Option Hc)) (R : List Bool) (k i : Nat) (h : i < k) (hi : i < H.length) : (stepH H R k)[i]? = if R.getD i false = true then H[i]? else some none := by
  induction k with
  | zero => omega
  | succ k ih =>
    show (if R.getD k false = true then stepH H R k else (stepH H R k).set k none)[i]? = _
    by_cases e : i = k
    · subst e
      by_cases hr : R.getD i false = true
      · rw [if_pos hr, if_pos hr]; exact stepH_above H R i i (Nat.le_refl _)
      · rw [if_neg hr, if_neg hr, List.getElem?_set_self (by rw [stepH_len]; exact hi)]
    · have := ih (by omega)
      split
      · exact this
      · rw [List.getElem?_set_ne (by omega)]; exact this
theorem stepH_zip (H : List (Option Hc)) (R : List Bool) (hl : R.length = H.length) : stepH H R H.length = zipK H R := by
  apply List.ext_getElem?
  intro i
  by_cases hi : i < H.length
  · rw [stepH_below H R _ i hi hi, zipK_get H R hl i hi]
  · rw [List.getElem?_eq_none (by rw [stepH_len]; omega), List.getElem?_eq_none (by rw [zipK_len H R hl]; omega)]
section
variable {W : World} {S : Nat → Prop} {hb : Nat} {H : List (Option Hc)} {u : Nat}
theorem hcollect_c (g : HSt W S hb H u) (hS : ∀ k, S k → k < W.heap.size) (v : Value) (ws : List Nat) (hv : WordsAt W v ws) :
    Calls Try.prog 16 #[.pointer (some ⟨hb, 0, none⟩), v] W fun e w' => e = .returned (.tuple #[]) ∧ Upd S W w' ∧ HSt w' (Nx S W w') hb (zipK H (rchB H ws)) u := by
  obtain ⟨sb, vc, T, g1, s1, s2, s3, s4⟩ := g
  have hu := g1.u1
  obtain ⟨o, cap, hvv, h1, h2, h3⟩ := hv
  subst hvv
  have hBa : Below W.heap.size W (W.alloc (.cells #[.slice o ws.length cap] 23)) := (Below.refl _ W).alloc (Nat.le_refl _) _
  have hla : ListsAt (W.alloc (.cells #[.slice o ws.length cap] 23)) (.slice (some ⟨W.heap.size, 0, none⟩) 1 1) [ws] := by
    refine ⟨_, _, rfl, by simp, fun i hi => ?_⟩
    simp at hi
    subst hi
    refine ⟨_, .slice o ws.length cap, rfl, by simp [Addr.add], ?_⟩
    exact words_below ⟨o, cap, rfl, h1, h2, h3⟩ hBa
  have cr := reach_b (g1.below hBa) _ _ hla (by omega)
  simp only [List.flatten_cons, List.flatten_nil, List.append_nil] at cr
  have hle : reachN H ws ≤ 1048576 := by have := needR_le H (rchB H ws); unfold reachN; omega
  have HB := hid hBa
  have hfin : ∀ w2 vr, Below (W.alloc (.cells #[.slice o ws.length cap] 23)).heap.size (W.alloc (.cells #[.slice o ws.length cap] 23)) w2 → w2.ownsRow (W.alloc (.cells #[.slice o ws.length cap] 23)).heap.size 4 1 vr H.length ((rchB H ws).map .bool) → Calls Try.prog 24 #[.pointer (some ⟨hb, 0, none⟩), vr, .int .i64 (reachN H ws : Nat)] w2 fun e w' => e = .returned (.tuple #[]) ∧ Upd S W w' ∧ HSt w' (Nx S W w') hb (zipK H (rchB H ws)) u := by
    intro w2 vr hB2 ho
    have hB : Below W.heap.size W w2 := HB.out.trans (hB2.mono HB.out.size)
    have hsz := hB.size
    have hsa : (W.alloc (.cells #[.slice o ws.length cap] 23)).heap.size = W.heap.size + 1 := World.size_alloc ..
    have g2 := g1.below hB
    have hs2 := hB2.size
    refine (keep_c g2 vr (rchB H ws) (rchB_len H ws) (W.heap.size + 1) (by rw [rchB_len, ← hsa]; exact ho) ⟨by have := g1.hlt; omega, fun k e => by have := g1.clt k e; omega, fun k e => by have := g1.tlt k e; omega⟩ (by omega) (reachN H ws) hle).mono ?_
    rintro e w' ⟨rfl, hU, T', gl, hT'⟩
    have hUS : Upd S W w' := (Upd.of_below hB).trans' (hU.mono (fun x hx => by
      rcases hx with e | rfl | e
      · exact s3 x e
      · exact s1
      · exact s2 x e))
    rw [stepH_zip H _ (rchB_len H ws)] at gl
    refine ⟨rfl, hUS, sb, vc, T', ?_, .inl s1, fun k e => .inl (s2 k e), ?_, ?_⟩
    · have e : sumH (zipK H (rchB H ws)) = reachN H ws := zipK_sum H _
      rw [e]; exact gl
    · intro k e
      rcases hT' k e with e2 | e2
      · exact .inl (s3 k e2)
      · exact .inr ⟨by omega, gl.tlt k e⟩
    · rw [zipK_sum]
      have := needR_le H (rchB H ws)
      omega
  clear hla hBa h3 HB g1
  go_enter Try.func16, Try.ntmps16
  go_wp2_with (first | (go_at_call 25; (with_reducible refine cr.mono ?_); rintro e w2 ⟨vr, rfl, hB2, ho⟩; clear cr) | (go_at_call 24; (with_reducible refine (hfin _ _ hB2 ho).mono ?_); rintro e w3 ⟨rfl, hU3, hH3⟩; clear hfin))
  go_end0
  exact ⟨rfl, hU3, hH3⟩
end
end Go.Proofs.Ytaebnnkhjlidiaa.W
/- Package heap: Put: what it leads to, in pieces. -/
namespace Go.Proofs.Ytaebnnkhjlidiaa.W
open Go.ChangeShapes Go.WideShapes Go.RowKit Go.Shelf
set_option linter.unusedVariables false
/-- the words of a row that is put -/
def Hc.ws : Hc → List Nat
  | .row ws => ws
  | _ => []
/-- what is reached from a cell that is put -/
def Hc.seeds (c : Hc) : List Nat := c.ws ++ [c.cl.base]
/-- the cells that are left when room is made for c -/
noncomputable def roomH (H : List (Option Hc)) (u : Nat) (c : Hc) (rs : List Nat) : List (Option Hc) := if sumH H + c.need ≤ u then H else zipK H (rchB H (rs ++ c.seeds))
section
variable {W W' : World} {hb sb : Nat} {vc : Value} {T S : Nat → Prop} {H : List (Option Hc)} {u h : Nat}
theorem SaveOk.next {c : Hc} {v : Value} (h1 : SaveOk W hb sb S c v u h) (hU : Upd S W W') : SaveOk W' hb sb (Nx S W W') c v u h := by
  intro w T' vc' H' id hl hi hT hU2
  have hz := hU.size
  refine h1 w T' vc' H' id hl hi (fun k e => ?_) (hU.trans hU2)
  rcases hT k e with (e | e) | e
  · exact .inl e
  · exact .inr e.1
  · right; omega
theorem put_tail {w : World} (g : HLay w hb sb vc T H u (sumH H)) (hU : Upd S W w) (hS1 : Nx S W w hb) (hS2 : ∀ k, vc.ownBlock = some k → Nx S W w k) (hS3 : ∀ k, T k → Nx S W w k) (c : Hc) (hok : c.ok) (i : Int) (t : ByteArray) (ob ow : Option Addr) (bl bc wl wc : Nat) (hwl : wl ≤ 1048576) (hsz : sizeV c.cl.kind c.cl.view t.size bl wl = c.bytes.length) (hfit : sumH H + c.need ≤ u) (hsv : ∀ sb h, SaveOk W hb sb S c (.agg #[.int .i64 c.cl.kind, .bool c.cl.view, .int .i64 i, .string t, .slice ob bl bc, .slice ow wl wc, .int .u64 c.cl.base, .int .i64 c.cl.frm, .int .i64 c.cl.len]) u h) :
    w.cell? ⟨hb, 3, none⟩ = some (.int .i64 (sumH H : Nat)) ∧ w.cell? ⟨hb, 2, none⟩ = some (.int .i64 u) ∧ w.frozen? ⟨hb, 3, none⟩ = false ∧ lid H < 281474976710656 ∧
    Calls Try.prog 27 #[.pointer (some ⟨hb, 0, none⟩), .agg #[.int .i64 c.cl.kind, .bool c.cl.view, .int .i64 i, .string t, .slice ob bl bc, .slice ow wl wc, .int .u64 c.cl.base, .int .i64 c.cl.frm, .int .i64 c.cl.len]] (w.setCell ⟨hb, 3, none⟩ (.int .i64 ((sumH H : Int) + (c.need : Int)))) fun e w' => e = .returned (.int .i64 (lid H : Nat)) ∧ Hid (Upd S W w' ∧ HSt w' (Nx S W w') hb (putH H (lid H) (some c)) u) := by
  have hu := g.u1
  obtain ⟨q1, q2⟩ := g.held (sumH H + c.need) (by omega)
  have h5 := lid_le H
  have h6 := g.len
  refine ⟨g.cell 3, g.cell 2, g.thaw 3, by omega, ?_⟩
  have e1 : (((sumH H + c.need : Nat) : Int)) = (sumH H : Int) + (c.need : Int) := by omega
  rw [e1] at q1 q2
  generalize w.setCell ⟨hb, 3, none⟩ (.int .i64 ((sumH H : Int) + (c.need : Int))) = w7 at *
  have hU7 : Upd S W w7 := hU.trans (q2.mono (fun x e => by rw [e]; exact hS1))
  have hz7 := q2.size
  have nx : ∀ k, Nx S W w k → Nx S W w7 k := by
    rintro k (e | e)
    · exact .inl e
    · exact .inr ⟨e.1, by omega⟩
  refine (add_c q1 (Nx S W w7) ?_ c hok i t ob ow bl bc wl wc hwl hsz (by omega) ((hsv sb _).next hU7)).mono ?_
  · rintro k (e | e | e)
    · exact nx k (hS3 k e)
    · rw [e]; exact nx _ hS1
    · exact nx k (hS2 k e)
  · rintro e w' ⟨rfl, hU', vc', T', hL', hT', hv'⟩
    have hz' := hU'.size
    have hzW := hU7.size
    have nx' : ∀ k, k < w'.heap.size → (Nx S W w k ∨ w7.heap.size ≤ k) → Nx S W w' k := by
      rintro k hk ((e | e) | e)
      · exact .inl e
      · exact .inr ⟨e.1, hk⟩
      · exact .inr ⟨by omega, hk⟩
    refine ⟨rfl, ?_⟩
    show _ ∧ _
    refine ⟨hU7.trans hU', sb, vc', T', ?_, nx' hb hL'.hlt (.inl hS1), fun k e => nx' k (hL'.clt k e) ((hv' k e).imp (hS2 k) id), fun k e => nx' k (hL'.tlt k e) ((hT' k e).imp (hS3 k) id), ?_⟩
    · rw [putH_sum]; exact hL'
    · rw [putH_sum]; exact hfit
theorem put_sweep {w : World} (g : HLay w hb sb vc T H u (sumH H)) (hfit : sumH H ≤ u) (hU : Upd S W w) (hS1 : Nx S W w hb) (hS2 : ∀ k, vc.ownBlock = some k → Nx S W w k) (hS3 : ∀ k, T k → Nx S W w k) (vr vw : Value) (rs ws : List Nat) (base : Nat) (hr : WordsAt w vr rs) (hw : WordsAt w vw ws) (hbase : base < 18446744073709551616) :
    (Calls Try.prog 25 #[.pointer (some ⟨hb, 0, none⟩), .slice (some ⟨w.heap.size + 1, 0, none⟩) 3 3] ((w.alloc (.cells #[.int .u64 base] 24)).alloc (.cells #[vr, vw, .slice (some ⟨w.heap.size, 0, none⟩) 1 1] 23)) fun e w2 => ∃ vb, e = .returned (.tuple #[vb, .int .i64 (reachN H (rs ++ (ws ++ [base])) : Nat)]) ∧ ((∀ k < w.heap.size, w2.heap[k]? = w.heap[k]?) ∧ Calls Try.prog 24 #[.pointer (some ⟨hb, 0, none⟩), vb, .int .i64 (reachN H (rs ++ (ws ++ [base])) : Nat)] w2 fun e w' => e = .returned (.tuple #[]) ∧ (Hid (∃ T', HLay w' hb sb vc T' (zipK H (rchB H (rs ++ (ws ++ [base])))) u (sumH (zipK H (rchB H (rs ++ (ws ++ [base]))))) ∧ Upd S W w' ∧ Nx S W w' hb ∧ (∀ k, vc.ownBlock = some k → Nx S W w' k) ∧ (∀ k, T' k → Nx S W w' k) ∧ sumH (zipK H (rchB H (rs ++ (ws ++ [base])))) ≤ u) ∧ ∀ k < w.heap.size, ¬ (T k ∨ k = hb ∨ vc.ownBlock = some k) → w'.heap[k]? = w.heap[k]?))) := by
  have hu := g.u1
  have hB1 : Below w.heap.size w (w.alloc (.cells #[.int .u64 base] 24)) := (Below.refl _ w).alloc (Nat.le_refl _) _
  have hs1 : (w.alloc (.cells #[.int .u64 base] 24)).heap.size = w.heap.size + 1 := World.size_alloc ..
  have hB2 : Below (w.heap.size + 1) (w.alloc (.cells #[.int .u64 base] 24)) ((w.alloc (.cells #[.int .u64 base] 24)).alloc (.cells #[vr, vw, .slice (some ⟨w.heap.size, 0, none⟩) 1 1] 23)) := by rw [← hs1]; exact (Below.refl _ _).alloc (Nat.le_refl _) _
  have hBl : Below w.heap.size w ((w.alloc (.cells #[.int .u64 base] 24)).alloc (.cells #[vr, vw, .slice (some ⟨w.heap.size, 0, none⟩) 1 1] 23)) := hB1.trans (hB2.mono (by omega))
  have hsl : (((w.alloc (.cells #[.int .u64 base] 24)).alloc (.cells #[vr, vw, .slice (some ⟨w.heap.size, 0, none⟩) 1 1] 23))).heap.size = w.heap.size + 2 := by rw [World.size_alloc, hs1]
  have hbw : WordsAt ((w.alloc (.cells #[.int .u64 base] 24)).alloc (.cells #[vr, vw, .slice (some ⟨w.heap.size, 0, none⟩) 1 1] 23)) (.slice (some ⟨w.heap.size, 0, none⟩) 1 1) [base] := by
    refine ⟨_, _, rfl, by simp, by simpa using hbase, fun i hi => ?_⟩
    simp at hi
    subst hi
    refine ⟨_, rfl, ?_⟩
    have e1 : ((⟨w.heap.size, 0, none⟩ : Addr).add 0) = ⟨w.heap.size, 0, none⟩ := by simp [Addr.add]
    rw [e1]
    refine below_cell (W := w.alloc (.cells #[.int .u64 base] 24)) (by rw [hs1]; exact hB2) ?_
    rw [World.cell?_alloc_new]; rfl
  have hla : ListsAt ((w.alloc (.cells #[.int .u64 base] 24)).alloc (.cells #[vr, vw, .slice (some ⟨w.heap.size, 0, none⟩) 1 1] 23)) (.slice (some ⟨w.heap.size + 1, 0, none⟩) 3 3) [rs, ws, [base]] := by
    refine ⟨_, _, rfl, by simp, fun i hi => ?_⟩
    have hn : ∀ j, (((w.alloc (.cells #[.int .u64 base] 24)).alloc (.cells #[vr, vw, .slice (some ⟨w.heap.size, 0, none⟩) 1 1] 23))).cell? ⟨w.heap.size + 1, j, none⟩ = #[vr, vw, .slice (some ⟨w.heap.size, 0, none⟩) 1 1][j]? := by
      intro j
      have := World.cell?_alloc_new (w.alloc (.cells #[.int .u64 base] 24)) #[vr, vw, .slice (some ⟨w.heap.size, 0, none⟩) 1 1] 23 j
      rw [hs1] at this
      exact this
    have ha : ∀ j, ((⟨w.heap.size + 1, 0, none⟩ : Addr).add j) = ⟨w.heap.size + 1, j, none⟩ := by intro j; unfold Addr.add; split <;> simp_all
    simp at hi
    rcases (by omega : i = 0 ∨ i = 1 ∨ i = 2) with rfl | rfl | rfl
    · exact ⟨_, vr, rfl, by rw [ha, hn]; rfl, words_below hr hBl⟩
    · exact ⟨_, vw, rfl, by rw [ha, hn]; rfl, words_below hw hBl⟩
    · exact ⟨_, _, rfl, by rw [ha, hn]; rfl, hbw⟩
  have cr := reach_b (g.below hBl) _ _ hla (by omega)
  simp only [List.flatten_cons, List.flatten_nil, List.append_nil] at cr
  have hle : reachN H (rs ++ (ws ++ [base])) ≤ 1048576 := by have := needR_le H (rchB H (rs ++ (ws ++ [base]))); unfold reachN; omega
  refine cr.mono ?_
  rintro e w2 ⟨vb, rfl, hBr, ho⟩
  have hB : Below w.heap.size w w2 := hBl.trans (hBr.mono hBl.size)
  have hsz := hBr.size
  refine ⟨vb, rfl, fun k hk => hB.block k hk, ?_⟩
  have g2 := g.below hB
  refine (keep_c g2 vb (rchB H (rs ++ (ws ++ [base]))) (rchB_len H _) (w.heap.size + 2) (by rw [rchB_len, ← hsl]; exact ho) ⟨by have := g.hlt; omega, fun k e => by have := g.clt k e; omega, fun k e => by have := g.tlt k e; omega⟩ (by omega) _ hle).mono ?_
  rintro e w' ⟨rfl, hU', T', gl, hT'⟩
  have hz := hB.size
  have hz' := hU'.size
  have hzW := hU.size
  have hUw : Upd (fun x => T x ∨ x = hb ∨ vc.ownBlock = some x) w w' := (Upd.of_below hB).trans' hU'
  have hin : ∀ x, T x ∨ x = hb ∨ vc.ownBlock = some x → Nx S W w x := by
    rintro x (e | e | e)
    · exact hS3 x e
    · rw [e]; exact hS1
    · exact hS2 x e
  have nx' : ∀ k, k < w'.heap.size → Nx S W w k → Nx S W w' k := by
    rintro k hk (e | e)
    · exact .inl e
    · exact .inr ⟨e.1, hk⟩
  rw [stepH_zip H _ (rchB_len H _)] at gl
  refine ⟨rfl, ?_, fun k hk hn => hUw.block k hk hn⟩
  show ∃ T', _
  refine ⟨T', ?_, hU.trans (hUw.mono hin), nx' hb gl.hlt hS1, fun k e => nx' k (gl.clt k e) (hS2 k e), fun k e => ?_, ?_⟩
  · have e : sumH (zipK H (rchB H (rs ++ (ws ++ [base])))) = reachN H (rs ++ (ws ++ [base])) := zipK_sum H _
    rw [e]; exact gl
  · rcases hT' k e with e2 | e2
    · exact nx' k (gl.tlt k e) (hS3 k e2)
    · exact .inr ⟨by omega, gl.tlt k e⟩
  · rw [zipK_sum]
    have := needR_le H (rchB H (rs ++ (ws ++ [base])))
    omega
end
end Go.Proofs.Ytaebnnkhjlidiaa.W
/- Package heap: Put. -/
namespace Go.Proofs.Ytaebnnkhjlidiaa.W
open Go.ChangeShapes Go.WideShapes Go.RowKit Go.Shelf
set_option linter.unusedVariables false
section
variable {W W' : World} {hb sb : Nat} {vc : Value} {T S : Nat → Prop} {H : List (Option Hc)} {u h : Nat}
/-- what Put answers and leaves -/
def PutPost (W : World) (S : Nat → Prop) (hb : Nat) (H1 : List (Option Hc)) (u : Nat) (c : Hc) (e : Ending) (w' : World) : Prop := Upd S W w' ∧ ((sumH H1 + c.need ≤ u ∧ e = .returned (.tuple #[.int .u64 (18445336698825998336 + lid H1 : Nat), .int .i64 0]) ∧ HSt w' (Nx S W w') hb (putH H1 (lid H1) (some c)) u) ∨ (u < sumH H1 + c.need ∧ e = .returned (.tuple #[.int .u64 0, .int .i64 40]) ∧ HSt w' (Nx S W w') hb H1 u))
set_option maxHeartbeats 2000000 in
theorem hput_c (g : HSt W S hb H u) (hS : ∀ k, S k → k < W.heap.size) (c : Hc) (hok : c.ok) (i : Int) (t : ByteArray) (ob ow : Option Addr) (bl bc wl wc : Nat) (htl : t.size ≤ 8388608) (hbl : bl ≤ 8388608) (hwl : wl ≤ 1048576) (hsz : sizeV c.cl.kind c.cl.view t.size bl wl = c.bytes.length) (hws : WordsAt W (.slice ow wl wc) c.ws) (hbase : c.cl.base < 18446744073709551616)
    (hright : ∀ w, Below W.heap.size W w → Calls Try.prog 22 #[.agg #[.int .i64 c.cl.kind, .bool c.cl.view, .int .i64 i, .string t, .slice ob bl bc, .slice ow wl wc, .int .u64 c.cl.base, .int .i64 c.cl.frm, .int .i64 c.cl.len], (.func (.func 23) #[.pointer (some ⟨hb, 0, none⟩)] #[])] w fun e w' => e = .returned (.bool true) ∧ Below w.heap.size w w')
    (hsv : ∀ sb h, SaveOk W hb sb S c (.agg #[.int .i64 c.cl.kind, .bool c.cl.view, .int .i64 i, .string t, .slice ob bl bc, .slice ow wl wc, .int .u64 c.cl.base, .int .i64 c.cl.frm, .int .i64 c.cl.len]) u h) (vr : Value) (rs : List Nat) (hr : WordsAt W vr rs) :
    Calls Try.prog 12 #[.pointer (some ⟨hb, 0, none⟩), .agg #[.int .i64 c.cl.kind, .bool c.cl.view, .int .i64 i, .string t, .slice ob bl bc, .slice ow wl wc, .int .u64 c.cl.base, .int .i64 c.cl.frm, .int .i64 c.cl.len], vr] W (PutPost W S hb (roomH H u c rs) u c) := by
  obtain ⟨orr, capr, hvr, _⟩ := id hr
  subst hvr
  obtain ⟨sb, vc, T, g1, s1, s2, s3, s4⟩ := g
  have hu := g1.u1
  have hBa : Below W.heap.size W (W.alloc (.cells #[.int .i64 c.cl.kind, .bool c.cl.view, .int .i64 i, .string t, .slice ob bl bc, .slice ow wl wc, .int .u64 c.cl.base, .int .i64 c.cl.frm, .int .i64 c.cl.len] 26)) := (Below.refl _ W).alloc (Nat.le_refl _) _
  have n9 := World.cell?_alloc_new W #[.int .i64 c.cl.kind, .bool c.cl.view, .int .i64 i, .string t, .slice ob bl bc, .slice ow wl wc, .int .u64 c.cl.base, .int .i64 c.cl.frm, .int .i64 c.cl.len] 26
  have hsa : ((W.alloc (.cells #[.int .i64 c.cl.kind, .bool c.cl.view, .int .i64 i, .string t, .slice ob bl bc, .slice ow wl wc, .int .u64 c.cl.base, .int .i64 c.cl.frm, .int .i64 c.cl.len] 26))).heap.size = W.heap.size + 1 := World.size_alloc ..
  have cn := need_c c.cl.kind c.cl.view i t ob ow bl bc wl wc c.cl.base c.cl.frm c.cl.len (by omega) (by omega) (by omega)
  rw [hsz] at cn
  have en : (1 + (c.bytes.length + 7) / 8 : Nat) = c.need := rfl
  rw [en] at cn
  unfold cellV at cn
  have cr := hright (W.alloc (.cells #[.int .i64 c.cl.kind, .bool c.cl.view, .int .i64 i, .string t, .slice ob bl bc, .slice ow wl wc, .int .u64 c.cl.base, .int .i64 c.cl.frm, .int .i64 c.cl.len] 26)) hBa
  have k2 : Hid (∀ w2, Below ((W.alloc (.cells #[.int .i64 c.cl.kind, .bool c.cl.view, .int .i64 i, .string t, .slice ob bl bc, .slice ow wl wc, .int .u64 c.cl.base, .int .i64 c.cl.frm, .int .i64 c.cl.len] 26))).heap.size (W.alloc (.cells #[.int .i64 c.cl.kind, .bool c.cl.view, .int .i64 i, .string t, .slice ob bl bc, .slice ow wl wc, .int .u64 c.cl.base, .int .i64 c.cl.frm, .int .i64 c.cl.len] 26)) w2 → (∀ j, w2.cell? ⟨W.heap.size, j, none⟩ = #[.int .i64 c.cl.kind, .bool c.cl.view, .int .i64 i, .string t, .slice ob bl bc, .slice ow wl wc, .int .u64 c.cl.base, .int .i64 c.cl.frm, .int .i64 c.cl.len][j]?)) := by
    show ∀ w2, _
    intro w2 hB2 j
    rw [World.cell?_of_block (hB2.block W.heap.size (by omega))]
    exact n9 j
  go_enter Try.func12, Try.ntmps12
  go_upto_region 4 with (first | (go_at_call 22; (with_reducible refine cr.mono ?_); rintro e w2 ⟨rfl, hB2⟩; (have n92 := k2.out w2 hB2)) | (go_at_call 9; (with_reducible refine (cn _).mono ?_); rintro e w3 ⟨rfl, hB3⟩; clear cn))
  have hBa3 : Below ((W.alloc (.cells #[.int .i64 c.cl.kind, .bool c.cl.view, .int .i64 i, .string t, .slice ob bl bc, .slice ow wl wc, .int .u64 c.cl.base, .int .i64 c.cl.frm, .int .i64 c.cl.len] 26))).heap.size (W.alloc (.cells #[.int .i64 c.cl.kind, .bool c.cl.view, .int .i64 i, .string t, .slice ob bl bc, .slice ow wl wc, .int .u64 c.cl.base, .int .i64 c.cl.frm, .int .i64 c.cl.len] 26)) w3 := hB2.trans (hB3.mono hB2.size)
  have n93 := k2.out w3 hBa3
  have hBW : Below W.heap.size W w3 := hBa.trans (hBa3.mono hBa.size)
  have hz3 := hBa3.size
  have g3 := g1.below hBW
  have c3 := g3.cell 3
  have c2 := g3.cell 2
  simp only [List.getElem?_cons_succ, List.getElem?_cons_zero] at c3 c2
  have hU3 : Upd S W w3.drew := (Upd.of_below hBW).drew
  have nx3 : ∀ k, S k → Nx S W w3.drew k := fun k e => .inl e
  have wadd : IntKind.i64.wrap ((sumH H : Int) + (c.need : Int)) = (sumH H : Int) + (c.need : Int) := by
    have h1 : c.need ≤ 1048577 := by
      have := Hc.bytes_len hok
      unfold Hc.need; omega
    rw [IntKind.wrap_i64]; omega
  clear k2 cr n92 hB2 hB3 n9
  by_cases hfit : sumH H + c.need ≤ u
  · have hf1 : ¬ ((sumH H : Int) + (c.need : Int)) > (u : Int) := by omega
    have hro : roomH H u c rs = H := by unfold roomH; rw [if_pos hfit]
    have g5 : HLay w3.drew.drew hb sb vc T H u (sumH H) := g3.same rfl
    have hU5 : Upd S W w3.drew.drew := hU3.drew
    obtain ⟨d3, d2, d4, hl, ca⟩ := put_tail g5 hU5 (.inl s1) (fun k e => .inl (s2 k e)) (fun k e => .inl (s3 k e)) c hok i t ob ow bl bc wl wc hwl hsz hfit hsv
    have n95 : ∀ j, w3.drew.drew.cell? ⟨W.heap.size, j, none⟩ = #[.int .i64 c.cl.kind, .bool c.cl.view, .int .i64 i, .string t, .slice ob bl bc, .slice ow wl wc, .int .u64 c.cl.base, .int .i64 c.cl.frm, .int .i64 c.cl.len][j]? := n93
    have cw := wordOf_c (lid H) hl
    have hne : Hid (W.heap.size ≠ hb) := (show _ ≠ _ by have := g1.hlt; omega)
    clear g5 g3 g1 hsv hright hU5 hU3 hBW hBa3 hBa
    go_region
    go_upto_region 6 with fail
    go_region
    go_upto_region 8 with fail
    generalize w3.drew.drew = w5 at *
    have n96 : ∀ j, (w5.setCell ⟨hb, 3, none⟩ (.int .i64 ((sumH H : Int) + (c.need : Int)))).cell? ⟨W.heap.size, j, none⟩ = #[.int .i64 c.cl.kind, .bool c.cl.view, .int .i64 i, .string t, .slice ob bl bc, .slice ow wl wc, .int .u64 c.cl.base, .int .i64 c.cl.frm, .int .i64 c.cl.len][j]? := by
      intro j
      rw [World.cell?_of_block (Below.heap_setCell _ _ _ _ hne.out)]
      exact n95 j
    go_wp2_with (first | (go_at_call 27; (with_reducible refine ca.mono ?_); rintro e w6 ⟨rfl, hf⟩; clear ca) | (go_at_call 26; (with_reducible refine (cw _).mono ?_); rintro e w' ⟨rfl, hw⟩; (have hw' := hw.symm); subst hw'; clear hw))
    go_ret2
    show PutPost W S hb (roomH H u c rs) u c _ _
    rw [hro]
    exact ⟨hf.out.1, .inl ⟨hfit, rfl, hf.out.2⟩⟩
  · have hf1 : ((sumH H : Int) + (c.need : Int)) > (u : Int) := by omega
    have hro : roomH H u c rs = zipK H (rchB H (rs ++ (c.ws ++ [c.cl.base]))) := by unfold roomH Hc.seeds; rw [if_neg hfit]
    have g4 : HLay w3.drew hb sb vc T H u (sumH H) := g3.same rfl
    have csw := put_sweep g4 s4 hU3 (.inl s1) (fun k e => .inl (s2 k e)) (fun k e => .inl (s3 k e)) _ (.slice ow wl wc) rs c.ws c.cl.base (words_below (W' := w3.drew) hr ⟨hBW.os, hBW.tape, hBW.output, hBW.size, hBW.block⟩) (words_below (W' := w3.drew) hws ⟨hBW.os, hBW.tape, hBW.output, hBW.size, hBW.block⟩) hbase
    have n94 : ∀ j, w3.drew.cell? ⟨W.heap.size, j, none⟩ = #[.int .i64 c.cl.kind, .bool c.cl.view, .int .i64 i, .string t, .slice ob bl bc, .slice ow wl wc, .int .u64 c.cl.base, .int .i64 c.cl.frm, .int .i64 c.cl.len][j]? := n93
    generalize zipK H (rchB H (rs ++ (c.ws ++ [c.cl.base]))) = H1 at *
    generalize reachN H (rs ++ (c.ws ++ [c.cl.base])) = rN at *
    have hne : Hid (W.heap.size ≠ hb) := (show _ ≠ _ by have := g1.hlt; omega)
    have kk : Hid (∀ w' : World, (∀ k < w3.drew.heap.size, ¬ (T k ∨ k = hb ∨ vc.ownBlock = some k) → w'.heap[k]? = w3.drew.heap[k]?) → ∀ j : Nat, w'.cell? ⟨W.heap.size, j, none⟩ = #[.int .i64 c.cl.kind, .bool c.cl.view, .int .i64 i, .string t, .slice ob bl bc, .slice ow wl wc, .int .u64 c.cl.base, .int .i64 c.cl.frm, .int .i64 c.cl.len][j]?) := by
      show ∀ w' : World, _
      intro w' hk j
      have e4 := hk W.heap.size (by show _ < w3.heap.size; omega) (by
        rintro (e | e | e)
        · have := g1.tlt _ e; omega
        · exact hne.out e
        · have := g1.clt _ e; omega)
      rw [World.cell?_of_block e4]
      exact n94 j
    clear g3 g1 hright hU3 hBW hBa3 hBa
    go_region
    go_upto_region 5 with fail
    generalize w3.drew = w4 at *
    go_upto_region 6 with (first | (go_at_call 25; (with_reducible refine csw.mono ?_); rintro e w5 ⟨vb, rfl, hk5, ck⟩; clear csw) | (go_at_call 24; (with_reducible refine ck.mono ?_); rintro e w6 ⟨rfl, hk6, hb6⟩; clear ck))
    have n96 := kk.out w6 hb6
    obtain ⟨T', g6, hU6, t1, t2, t3, t4⟩ := hk6.out
    clear n94 kk hk5 hb6 c3 c2
    have c3 := g6.cell 3
    have c2 := g6.cell 2
    simp only [List.getElem?_cons_succ, List.getElem?_cons_zero] at c3 c2
    have wadd1 : IntKind.i64.wrap ((sumH H1 : Int) + (c.need : Int)) = (sumH H1 : Int) + (c.need : Int) := by
      have h1 : c.need ≤ 1048577 := by
        have := Hc.bytes_len hok
        unfold Hc.need; omega
      rw [IntKind.wrap_i64]; omega
    by_cases hfit1 : sumH H1 + c.need ≤ u
    · have hf2 : ¬ ((sumH H1 : Int) + (c.need : Int)) > (u : Int) := by omega
      have g7 : HLay w6.drew hb sb vc T' H1 u (sumH H1) := g6.same rfl
      obtain ⟨d3, d2, d4, hl, ca⟩ := put_tail g7 hU6.drew t1 t2 t3 c hok i t ob ow bl bc wl wc hwl hsz hfit1 hsv
      have n97 : ∀ j, w6.drew.cell? ⟨W.heap.size, j, none⟩ = #[.int .i64 c.cl.kind, .bool c.cl.view, .int .i64 i, .string t, .slice ob bl bc, .slice ow wl wc, .int .u64 c.cl.base, .int .i64 c.cl.frm, .int .i64 c.cl.len][j]? := n96
      have cw := wordOf_c (lid H1) hl
      clear g7 g6 hsv hU6 hf1 hfit
      go_region
      go_upto_region 8 with fail
      generalize w6.drew = w7 at *
      have n98 : ∀ j, (w7.setCell ⟨hb, 3, none⟩ (.int .i64 ((sumH H1 : Int) + (c.need : Int)))).cell? ⟨W.heap.size, j, none⟩ = #[.int .i64 c.cl.kind, .bool c.cl.view, .int .i64 i, .string t, .slice ob bl bc, .slice ow wl wc, .int .u64 c.cl.base, .int .i64 c.cl.frm, .int .i64 c.cl.len][j]? := by
        intro j
        rw [World.cell?_of_block (Below.heap_setCell _ _ _ _ hne.out)]
        exact n97 j
      go_wp2_with (first | (go_at_call 27; (with_reducible refine ca.mono ?_); rintro e w8 ⟨rfl, hf⟩; clear ca) | (go_at_call 26; (with_reducible refine (cw _).mono ?_); rintro e w' ⟨rfl, hw⟩; (have hw' := hw.symm); subst hw'; clear hw))
      go_ret2
      show PutPost W S hb (roomH H u c rs) u c _ _
      rw [hro]
      exact ⟨hf.out.1, .inl ⟨hfit1, rfl, hf.out.2⟩⟩
    · have hf2 : ((sumH H1 : Int) + (c.need : Int)) > (u : Int) := by omega
      have fin : Hid (Upd S W w6.drew ∧ HSt w6.drew (Nx S W w6.drew) hb H1 u) := ⟨hU6.drew, sb, vc, T', g6.same rfl, t1, t2, t3, t4⟩
      clear g6 hsv hU6 hf1 hfit
      go_region
      go_wp2
      go_ret2
      show PutPost W S hb (roomH H u c rs) u c _ _
      rw [hro]
      exact ⟨fin.out.1, .inr ⟨by omega, rfl, fin.out.2⟩⟩
end
end Go.Proofs.Ytaebnnkhjlidiaa.W
/- Package heap: Put, of a number and of a row. -/
namespace Go.Proofs.Ytaebnnkhjlidiaa.W
open Go.ChangeShapes Go.WideShapes Go.RowKit Go.Shelf
set_option linter.unusedVariables false
section
variable {W W' : World} {hb sb : Nat} {vc : Value} {T S : Nat → Prop} {H : List (Option Hc)} {u h : Nat}
theorem words_nil (W : World) (o : Option Addr) (cap : Nat) : WordsAt W (.slice o 0 cap) [] := ⟨o, cap, rfl, by simp, by simp, fun i hi => by simp at hi⟩
theorem HSt.lay (g : HSt W S hb H u) : ∃ sb vc T, HLay W hb sb vc T H u (sumH H) := by
  obtain ⟨sb, vc, T, g1, _⟩ := g
  exact ⟨sb, vc, T, g1⟩
theorem put_num (g : HSt W S hb H u) (hS : ∀ k, S k → k < W.heap.size) (i : Int) (h0 : -9223372036854775808 ≤ i) (h1 : i < 9223372036854775808) (ob ow : Option Addr) (bc wc : Nat) (vr : Value) (rs : List Nat) (hr : WordsAt W vr rs) :
    Calls Try.prog 12 #[.pointer (some ⟨hb, 0, none⟩), .agg #[.int .i64 2, .bool false, .int .i64 i, .string ByteArray.empty, .slice ob 0 bc, .slice ow 0 wc, .int .u64 0, .int .i64 0, .int .i64 0], vr] W (PutPost W S hb (roomH H u (.num i) rs) u (.num i)) := by
  obtain ⟨sb, vc, T, g1⟩ := g.lay
  refine hput_c g hS (.num i) ⟨h0, h1⟩ i ByteArray.empty ob ow 0 bc 0 wc (by decide) (by decide) (by decide) ?_ (words_nil W ow wc) (show 0 < _ by decide) ?_ ?_ vr rs hr
  · show sizeV 2 false 0 0 0 = (le8 _).length
    rw [le8_len]; decide
  · intro w hB
    exact right_num (g1.below hB) i ob ow bc wc
  · intro sb h W' T' vc' H' id hl hi hT hU
    exact save_num hl id i 0 hi h0 h1 ob ow bc wc
theorem put_row (g : HSt W S hb H u) (hS : ∀ k, S k → k < W.heap.size) (ws : List Nat) (hl : ws.length ≤ 1048576) (hv64 : ∀ w ∈ ws, w < 18446744073709551616) (hval : ∀ w ∈ ws, isVal H w = true) (ob ow : Option Addr) (bc wc : Nat) (hv : WordsAt W (.slice ow ws.length wc) ws) (ho : OutOf (fun k => S k ∨ W.heap.size ≤ k) (.slice ow ws.length wc)) (vr : Value) (rs : List Nat) (hr : WordsAt W vr rs) :
    Calls Try.prog 12 #[.pointer (some ⟨hb, 0, none⟩), .agg #[.int .i64 9, .bool false, .int .i64 0, .string ByteArray.empty, .slice ob 0 bc, .slice ow ws.length wc, .int .u64 0, .int .i64 0, .int .i64 0], vr] W (PutPost W S hb (roomH H u (.row ws) rs) u (.row ws)) := by
  obtain ⟨sb, vc, T, g1⟩ := g.lay
  refine hput_c g hS (.row ws) ⟨hv64, hl⟩ 0 ByteArray.empty ob ow 0 bc ws.length wc (by decide) (by decide) hl ?_ hv (show 0 < _ by decide) ?_ ?_ vr rs hr
  · show sizeV 9 false 0 0 ws.length = (ws.flatMap le8).length
    rw [row_len, Nat.mul_comm]; rfl
  · intro w hB
    exact right_row (g1.below hB) ob ow bc wc ws (words_below hv hB) hl hval
  · intro sb h W' T' vc' H' id hl' hi hT hU
    exact save_row hl' id ws hi ⟨hv64, hl⟩ ob ow bc wc (words_upd hv hU (ho.mono (fun k e => .inl e))) (ho.mono hT)
theorem PutPost.fits {c : Hc} {rs : List Nat} {e : Ending} {w' : World} (h : PutPost W S hb (roomH H u c rs) u c e w') (hf : sumH H + c.need ≤ u) : e = .returned (.tuple #[.int .u64 (18445336698825998336 + lid H : Nat), .int .i64 0]) ∧ Upd S W w' ∧ HSt w' (Nx S W w') hb (putH H (lid H) (some c)) u := by
  have hr : roomH H u c rs = H := by unfold roomH; rw [if_pos hf]
  rw [hr] at h
  obtain ⟨h1, ⟨_, h2, h3⟩ | ⟨h2, _⟩⟩ := h
  · exact ⟨h2, h1, h3⟩
  · omega
theorem PutPost.not {c : Hc} {H1 : List (Option Hc)} {e : Ending} {w' : World} (h : PutPost W S hb H1 u c e w') (hf : u < sumH H1 + c.need) : e = .returned (.tuple #[.int .u64 0, .int .i64 40]) ∧ Upd S W w' ∧ HSt w' (Nx S W w') hb H1 u := by
  obtain ⟨h1, ⟨h2, _⟩ | ⟨_, h2, h3⟩⟩ := h
  · omega
  · exact ⟨h2, h1, h3⟩
/-- words laid in a new block -/
theorem words_new (W : World) (ws : List Nat) (vs : List Value) (h64 : ∀ w ∈ ws, w < 18446744073709551616) (hl : ws.length ≤ 1000000000000) (hv : vs = ws.map (fun w => Value.int .u64 (w : Nat))) (t : TypeId) : WordsAt (W.alloc (.cells vs.toArray t)) (.slice (some ⟨W.heap.size, 0, none⟩) ws.length ws.length) ws := by
  refine ⟨_, _, rfl, hl, h64, fun i hi => ⟨_, rfl, ?_⟩⟩
  have e1 : ((⟨W.heap.size, 0, none⟩ : Addr).add i) = ⟨W.heap.size, i, none⟩ := by unfold Addr.add; split <;> simp_all
  rw [e1, World.cell?_alloc_new, hv]
  simp [hi]
end
end Go.Proofs.Ytaebnnkhjlidiaa.W
/- Package heap: save and Put, of a string. -/
namespace Go.Proofs.Ytaebnnkhjlidiaa.W
open Go.ChangeShapes Go.WideShapes Go.RowKit Go.Shelf
set_option linter.unusedVariables false
section
variable {W W' : World} {hb sb : Nat} {vc : Value} {T : Nat → Prop} {H : List (Option Hc)} {u h : Nat}
theorem mkc_text (n : Nat) (h : n ≤ 8388608) : Mkc Hc.text n := ⟨fun b => rfl, fun b b' => rfl, fun b hb hl => ⟨hb, by omega⟩⟩
theorem save_text (g : HLay W hb sb vc T H u h) (id : Nat) (t : ByteArray) (hc : H[id]? = some (some (.text (List.replicate t.size 0)))) (hl : t.size ≤ 8388608) (ob ow : Option Addr) (bc wc : Nat) :
    Calls Try.prog 47 #[.pointer (some ⟨hb, 0, none⟩), .int .i64 id, .agg #[.int .i64 4, .bool false, .int .i64 0, .string t, .slice ob 0 bc, .slice ow 0 wc, .int .u64 0, .int .i64 0, .int .i64 0]] W fun e w' => e = .returned (.tuple #[]) ∧ Upd T W w' ∧ HLay w' hb sb vc T (H.set id (some (.text (t.data.toList.map UInt8.toNat)))) u h := by
  have hBa : Below W.heap.size W (W.alloc (.cells #[.int .i64 4, .bool false, .int .i64 0, .string t, .slice ob 0 bc, .slice ow 0 wc, .int .u64 0, .int .i64 0, .int .i64 0] 26)) := (Below.refl _ W).alloc (Nat.le_refl _) _
  have ga := g.below hBa
  have cs : ∀ w, Calls Try.prog 36 #[.int .i64 4, .bool false] w fun e w' => e = .returned (.int .i64 2) ∧ w' = w := fun w => shape_c 4 false w
  go_enter Try.func47, Try.ntmps47
  go_upto_region 5 with (go_at_call 36; (with_reducible refine (cs _).mono ?_); rintro e w' ⟨rfl, hw⟩; (have hw' := hw.symm); subst hw'; clear hw)
  have c3 := World.cell?_alloc_new W #[.int .i64 4, .bool false, .int .i64 0, .string t, .slice ob 0 bc, .slice ow 0 wc, .int .u64 0, .int .i64 0, .int .i64 0] 26 3
  simp only [List.getElem?_toArray, List.getElem?_cons_succ, List.getElem?_cons_zero] at c3
  have hsa : (W.alloc (.cells #[.int .i64 4, .bool false, .int .i64 0, .string t, .slice ob 0 bc, .slice ow 0 wc, .int .u64 0, .int .i64 0, .int .i64 0] 26)).heap.size = W.heap.size + 1 := World.size_alloc ..
  generalize W.alloc (.cells #[.int .i64 4, .bool false, .int .i64 0, .string t, .slice ob 0 bc, .slice ow 0 wc, .int .u64 0, .int .i64 0, .int .i64 0] 26) = Wa at *
  have hcv : (convert 9 22 (.string t)).run Try.prog Wa = .ok (.slice (some ⟨Wa.heap.size, 0, none⟩) t.size (grownCap Wa t.size 0 5)) (Lib.bytesWorld Wa 5 t) := Lib.run_convert_string_bytes Wa _ _ _ t Try.underlying9 Try.underlying22 Try.underlying5
  have hBb : Below Wa.heap.size Wa (Lib.bytesWorld Wa 5 t) := ⟨rfl, rfl, rfl, by rw [Lib.bytesWorld_size]; omega, fun k hk => Lib.bytesWorld_at_old Wa _ t k hk⟩
  have hsb := Lib.bytesWorld_size Wa 5 t
  have hbl : (t.data.toList.map UInt8.toNat).length = t.size := by rw [List.length_map]; rfl
  have hrow : ByteRow (Lib.bytesWorld Wa 5 t) (some ⟨Wa.heap.size, 0, none⟩) (t.data.toList.map UInt8.toNat) := by
    refine .inr ⟨_, _, rfl, fun i hi => ?_⟩
    rw [Nat.zero_add, Lib.bytesWorld_cell Wa _ t i (by omega)]
    have hi2 : i < t.data.size := by simpa using hi
    rw [List.getElem_map]
    simp
    rw [Array.getElem?_eq_getElem hi2]
    rfl
  have hcp : t.size ≤ grownCap Wa t.size 0 5 := grownCap_ge Wa t.size 0 _
  have cb := saveBytes_c (ga.below hBb) Hc.text (t.data.toList.map UInt8.toNat) (by rw [hbl]; exact mkc_text _ hl) (fun x hx => by obtain ⟨y, _, rfl⟩ := List.mem_map.1 hx; exact y.toNat_lt) (by omega) id (by rw [hbl]; exact hc) (some ⟨Wa.heap.size, 0, none⟩) (grownCap Wa t.size 0 5) (by omega) hrow (fun x e => by cases e; exact ⟨fun e2 => by have h9 := g.tlt Wa.heap.size e2; omega, by show Wa.heap.size < _; omega⟩)
  rw [hbl] at cb
  have fin : Hid (∀ w2, Upd T (Lib.bytesWorld Wa 5 t) w2 → Upd T W w2) := by
    show ∀ w2, _
    intro w2 hU
    exact ((Upd.of_below hBa).trans' (Upd.of_below hBb)).trans' hU
  generalize grownCap Wa t.size 0 5 = cp at *
  generalize Lib.bytesWorld Wa 5 t = Wb at *
  clear hrow hBb hsb ga g hBa hsa
  go_wp2_with (go_at_call 66; (with_reducible refine cb.mono ?_); rintro e w2 ⟨rfl, hU2, hL2⟩; clear cb)
  go_end0
  exact ⟨rfl, fin.out _ hU2, hL2⟩
/-- the bytes of a string -/
def strB (t : ByteArray) : List Nat := t.data.toList.map UInt8.toNat
theorem strB_len (t : ByteArray) : (strB t).length = t.size := by unfold strB; rw [List.length_map]; rfl
theorem strB_ok (t : ByteArray) (h : t.size ≤ 8388608) : (Hc.text (strB t)).ok := ⟨fun x hx => by obtain ⟨y, _, rfl⟩ := List.mem_map.1 hx; exact y.toNat_lt, by rw [strB_len]; exact h⟩
theorem text_need (t : ByteArray) : (Hc.text (strB t)).need = 1 + (t.size + 7) / 8 := by
  unfold Hc.need
  rw [show (Hc.text (strB t)).bytes.length = t.size from strB_len t]
theorem put_text {S : Nat → Prop} (g : HSt W S hb H u) (hS : ∀ k, S k → k < W.heap.size) (t : ByteArray) (hl : t.size ≤ 8388608) (ob ow : Option Addr) (bc wc : Nat) (vr : Value) (rs : List Nat) (hr : WordsAt W vr rs) :
    Calls Try.prog 12 #[.pointer (some ⟨hb, 0, none⟩), .agg #[.int .i64 4, .bool false, .int .i64 0, .string t, .slice ob 0 bc, .slice ow 0 wc, .int .u64 0, .int .i64 0, .int .i64 0], vr] W (PutPost W S hb (roomH H u (.text (strB t)) rs) u (.text (strB t))) := by
  refine hput_c g hS (.text (strB t)) (strB_ok t hl) 0 t ob ow 0 bc 0 wc hl (by decide) (by decide) ?_ (words_nil W ow wc) (show 0 < _ by decide) ?_ ?_ vr rs hr
  · show sizeV 4 false t.size 0 0 = (strB t).length
    rw [strB_len]; rfl
  · intro w hB
    exact right_text t ob ow bc wc hl hb w
  · intro sb h W' T' vc' H' id hl' hi hT hU
    have e : (Hc.text (strB t)).zero = .text (List.replicate t.size 0) := by show Hc.text (List.replicate (strB t).length 0) = _; rw [strB_len]
    rw [e] at hi
    exact save_text hl' id t hi hl ob ow bc wc
end
end Go.Proofs.Ytaebnnkhjlidiaa.W
/- casketlaw7's plain; plain values. -/
namespace Go.Proofs.Ytaebnnkhjlidiaa.W
open Go.ChangeShapes Go.WideShapes Go.RowKit Go.Shelf
set_option linter.unusedVariables false
/-- a right value that is no thing -/
def PV (kd i bi re : Int) (t : ByteArray) : Prop := (kd = 0 ∧ i = 0 ∧ bi = 0 ∧ t = ⟨#[]⟩ ∧ re = 0) ∨ (kd = 1 ∧ (i = 0 ∨ i = 1) ∧ bi = 0 ∧ t = ⟨#[]⟩ ∧ re = 0) ∨ (kd = 2 ∧ bi = 0 ∧ t = ⟨#[]⟩ ∧ re = 0) ∨ (kd = 3 ∧ i = 0 ∧ t = ⟨#[]⟩ ∧ re = 0) ∨ (kd = 4 ∧ i = 0 ∧ bi = 0 ∧ re = 0)
theorem toList_nil (t : ByteArray) : t.toList = [] ↔ t = ⟨#[]⟩ := by
  rw [Go.ByteArray.toList_eq]
  constructor
  · intro h
    obtain ⟨d⟩ := t
    simp at h
    rw [h]
  · rintro rfl; rfl
end Go.Proofs.Ytaebnnkhjlidiaa.W
/- Contracts of package word's FromText and of the statements' awake. -/
namespace Go.Proofs.Ytaebnnkhjlidiaa.W
open Go.ChangeShapes Go.WideShapes Go.RowKit

theorem take_snoc (s : ByteArray) (k : Nat) (h : k < s.size) : s.data.toList.take (k + 1) = s.data.toList.take k ++ [s[k]] := by
  rw [List.take_succ_eq_append_getElem (by simpa using h)]; rfl
theorem pow8 (k : Nat) : 2 ^ (8 * k) = 256 ^ k := by rw [Nat.pow_mul]
theorem pow_lt5 (k : Nat) (h : k ≤ 5) : 256 ^ k ≤ 1099511627776 := by
  have := Nat.pow_le_pow_right (n := 256) (by decide) h
  have e : 256 ^ 5 = 1099511627776 := by decide
  omega
theorem or_byte (z k b e : Nat) (hz : z ≤ 5) (hk : k < 5) (he : e < 256 ^ k) (hb : b < 256) :
    bits .or .u64 ((z : Int) * 1099511627776 + (e : Int)) (IntKind.u64.wrap (IntKind.u64.wrap (b : Int) * 2 ^ (8 * k))) = (z : Int) * 1099511627776 + ((e + b * 256 ^ k : Nat) : Int) := by
  have e1 : IntKind.u64.wrap (b : Int) = b := by rw [IntKind.wrap_u64]; omega
  have hp := pow_lt5 (k + 1) (by omega)
  rw [Nat.pow_succ] at hp
  have hbk : b * 256 ^ k ≤ 255 * 256 ^ k := Nat.mul_le_mul_right _ (by omega)
  have e2 : (b : Int) * 2 ^ (8 * k) = ((b * 256 ^ k : Nat) : Int) := by rw [← pow8]; simp
  have e3 : IntKind.u64.wrap ((b * 256 ^ k : Nat) : Int) = ((b * 256 ^ k : Nat) : Int) := by rw [IntKind.wrap_u64]; exact Int.emod_eq_of_lt (Int.natCast_nonneg _) (by omega)
  have e4 : (z : Int) * 1099511627776 + (e : Int) = ((z * 1099511627776 + e : Nat) : Int) := by omega
  rw [e1, e2, e3, e4, u64_or_nat _ _ (by omega) (by omega)]
  have j1 : z * 1099511627776 + e = z * 1099511627776 ||| e := (nat_join 40 _ _ (by omega) (by omega)).symm
  have j2 : e ||| b * 256 ^ k = b * 256 ^ k + e := by
    rw [Nat.or_comm, ← pow8]
    exact nat_join (8 * k) _ _ (Nat.mul_mod_left _ _) (by rw [pow8]; exact he)
  rw [j1, Nat.or_assoc, j2, nat_join 40 _ _ (by omega) (by omega)]
  omega
theorem enc_step (s : ByteArray) (k : Nat) (hs : s.size ≤ 5) (h : k < s.size) :
    bits .or .u64 ((s.size : Int) * 1099511627776 + (encN (s.data.toList.take k) : Int)) (IntKind.u64.wrap (IntKind.u64.wrap (s[k].toNat : Int) * 2 ^ (8 * k))) = (s.size : Int) * 1099511627776 + (encN (s.data.toList.take (k + 1)) : Int) := by
  have hl : (s.data.toList.take k).length = k := by
    have : k < s.data.toList.length := by simpa using h
    rw [List.length_take]; omega
  have he := encN_lt (s.data.toList.take k)
  rw [take_snoc s k h, encN_snoc]
  rw [hl] at he ⊢
  exact or_byte s.size k s[k].toNat _ hs (by omega) he s[k].toNat_lt
theorem enc_all (s : ByteArray) (k : Nat) (h : ¬ k < s.size) : s.data.toList.take k = s.data.toList := List.take_of_length_le (by simp; omega)
theorem enc_lt (s : ByteArray) (hs : s.size ≤ 5) : (s.size : Int) * 1099511627776 + (encN s.data.toList : Int) < 281474976710656 := by
  have he := encN_lt s.data.toList
  have hl : s.data.toList.length = s.size := by simp
  rw [hl] at he
  have := pow_lt5 s.size hs
  omega
theorem txtW_ab : txtW ⟨#[97, 98]⟩ = 18445057422872568417 := by decide
end Go.Proofs.Ytaebnnkhjlidiaa.W
/- What each class says of a pattern, as numbers. -/
namespace Go.Proofs.Ytaebnnkhjlidiaa.W

/-- what each class says of a pattern, as numbers -/
theorem cls_is1 (n : Int) (h : cls n = 1) : n % 9223372036854775808 ≤ 9218868437227405312 ∨ n = 9221120237041090560 := by
  unfold cls at h
  split at h
  · rename_i c
    rcases c with c | c
    · left; unfold nanB at c; simp at c; exact c
    · right; exact c
  · exfalso; revert h; repeat' (first | split | simp)
theorem cls_is3 (n : Int) (h : cls n = 3) : n = 18444492273895866368 := by
  unfold cls at h
  (repeat' split at h) <;> first | assumption | (exfalso; revert h; decide)
theorem cls_is4 (n : Int) (h : cls n = 4) : n = 18444492273895866369 ∨ n = 18444492273895866370 := by
  unfold cls at h
  (repeat' split at h) <;> first | assumption | (exfalso; revert h; decide)
theorem cls_is2 (n : Int) (h : cls n = 2) : 18444773748872577024 ≤ n ∧ n < 18445055223849287680 := by
  unfold cls at h
  (repeat' split at h) <;> first | (exfalso; revert h; decide) | omega
theorem cls_is5 (n : Int) (h : cls n = 5) : 18445055223849287680 ≤ n ∧ n < 18445336698825998336 ∧ txtOk (n % 281474976710656) = true := by
  unfold cls at h
  (repeat' split at h) <;> first | (exfalso; revert h; decide) | exact ⟨by omega, by omega, by assumption⟩
theorem cls_is6 (n : Int) (h : cls n = 6) : 18445336698825998336 ≤ n ∧ n < 18445618173802708992 := by
  unfold cls at h
  (repeat' split at h) <;> first | (exfalso; revert h; decide) | omega
theorem cls_is7 (n : Int) (h : cls n = 7) : 9218868437227405312 < n % 9223372036854775808 := by
  unfold cls at h
  split at h
  · exfalso; revert h; decide
  · rename_i c
    have : ¬ nanB n = false := fun x => c (.inl x)
    simp [nanB] at this
    exact this

end Go.Proofs.Ytaebnnkhjlidiaa.W
/- Plain facts on what is put into a word and comes out of it: no Go in sight. -/
namespace Go.Proofs.Ytaebnnkhjlidiaa.W

theorem cls_mk2 (n : Int) (a : 18444773748872577024 ≤ n) (b : n < 18445055223849287680) : cls n = 2 := cls_t1 n (by omega) (by omega) (by omega)
theorem cls_mk6 (n : Int) (a : 18445336698825998336 ≤ n) (b : n < 18445618173802708992) : cls n = 6 := cls_t3 n (by omega) (by omega) (by omega)
theorem intW_bd (i : Int) (h : smallB i = true) : 18444773748872577024 ≤ intW i ∧ intW i < 18445055223849287680 := by
  simp only [intW, h, if_true]; omega
theorem intW_cls (i : Int) (h : smallB i = true) : cls (intW i) = 2 := by
  have := intW_bd i h
  exact cls_mk2 _ this.1 this.2
theorem toInt_intW (i : Int) (h : smallB i = true) : toInt (intW i) = i := by
  have hc := intW_cls i h
  simp only [toInt, hc, if_true]
  have hs := h
  simp only [smallB, decide_eq_true_eq] at hs
  simp only [intW, h, if_true]
  split <;> omega
theorem hdlW_cls (h : Int) (h0 : 0 ≤ h) (h1 : h < 281474976710656) : cls (hdlW h) = 6 := by
  simp only [hdlW, if_pos h1]
  exact cls_mk6 _ (by omega) (by omega)
theorem toHdl_hdlW (h : Int) (h0 : 0 ≤ h) (h1 : h < 281474976710656) : toHdl (hdlW h) = h := by
  unfold toHdl
  rw [if_pos (hdlW_cls h h0 h1)]
  simp only [hdlW, if_pos h1]
  omega
theorem fltW_bd (n : Int) (h0 : 0 ≤ n) (h1 : n < 18446744073709551616) : 0 ≤ fltW n ∧ fltW n < 18446744073709551616 := by
  unfold fltW; split <;> omega
theorem fltW_cls (n : Int) : cls (fltW n) = 1 := by
  unfold fltW
  split
  · exact cls_canon
  · rename_i h
    exact cls_dbl n (by simpa using h)
theorem fltW_fltW (n : Int) : fltW (fltW n) = fltW n := by
  cases h : nanB n
  · have e : fltW n = n := by simp [fltW, h]
    rw [e, e]
  · have e : fltW n = 9221120237041090560 := by simp [fltW, h]
    rw [e]; decide
theorem back1 (n : Int) (h : cls n = 1) : fltW n = n := by
  rcases cls_is1 n h with c | c
  · have : nanB n = false := by simp [nanB]; omega
    simp [fltW, this]
  · subst c; decide
theorem back2 (n : Int) (h : cls n = 2) : intW (toInt n) = n ∧ smallB (toInt n) = true ∧ -140737488355328 ≤ toInt n ∧ toInt n ≤ 140737488355327 := by
  have hb := cls_is2 n h
  have hs : -140737488355328 ≤ toInt n ∧ toInt n ≤ 140737488355327 := by
    simp only [toInt, h, if_true]; split <;> omega
  have hs' : smallB (toInt n) = true := by simp only [smallB, decide_eq_true_eq]; exact hs
  refine ⟨?_, hs', hs.1, hs.2⟩
  simp only [intW, hs', if_true]
  simp only [toInt, h, if_true]
  split <;> omega
theorem back4 (n : Int) (h : cls n = 4) : boolW (toBool n) = n := by
  rcases cls_is4 n h with c | c <;> subst c <;> decide
theorem back6 (n : Int) (h : cls n = 6) : hdlW (toHdl n) = n ∧ 0 ≤ toHdl n ∧ toHdl n < 281474976710656 := by
  have hb := cls_is6 n h
  have hs : 0 ≤ toHdl n ∧ toHdl n < 281474976710656 := by simp only [toHdl, h, if_true]; omega
  refine ⟨?_, hs⟩
  simp only [hdlW, if_pos hs.2]
  simp only [toHdl, h, if_true]
  omega
theorem back7 (n : Int) (h : cls n = 7) : fltW n = 9221120237041090560 := by
  have := cls_is7 n h
  have hn : nanB n = true := by simp [nanB]; omega
  simp [fltW, hn]
theorem txtW_rest (s : ByteArray) (h : s.size ≤ 5) : txtW s % 281474976710656 / 1099511627776 = s.size ∧ txtW s % 1099511627776 = encN s.data.toList := by
  have he := encN_lt s.data.toList
  have hl : s.data.toList.length = s.size := by simp
  rw [hl] at he
  have := pow_lt5 s.size h
  simp only [txtW, if_pos h]
  omega
theorem txtW_cls (s : ByteArray) (h : s.size ≤ 5) : cls (txtW s) = 5 := by
  have he := encN_lt s.data.toList
  have hl : s.data.toList.length = s.size := by simp
  rw [hl] at he
  have hp := pow_lt5 s.size h
  obtain ⟨r1, r2⟩ := txtW_rest s h
  have hb : 18445055223849287680 ≤ txtW s ∧ txtW s < 18445336698825998336 := by
    have := enc_lt s h
    simp only [txtW, if_pos h]; omega
  rw [cls_t2 (txtW s) (by omega) (by omega) (by omega)]
  unfold textCls
  rw [if_pos]
  simp only [txtOk, decide_eq_true_eq]
  have e : txtW s % 281474976710656 % 1099511627776 = txtW s % 1099511627776 := by omega
  rw [r1, e, r2]
  refine ⟨by omega, ?_⟩
  have e8 : (8 * (s.size : Int)).toNat = 8 * s.size := by omega
  rw [e8]
  have e2 : (2 : Int) ^ (8 * s.size) = ((256 ^ s.size : Nat) : Int) := by rw [← pow8]; simp
  rw [e2]
  omega
theorem toTxt_txtW (s : ByteArray) (h : s.size ≤ 5) : toTxt (txtW s) = s := by
  obtain ⟨r1, r2⟩ := txtW_rest s h
  simp only [toTxt, txtW_cls s h, if_true]
  rw [r1, r2, Int.toNat_natCast, Int.toNat_natCast]
  have hl : s.data.toList.length = s.size := by simp
  rw [← hl, decN_encN]
theorem back5 (n : Int) (h : cls n = 5) : txtW (toTxt n) = n ∧ (toTxt n).size ≤ 5 := by
  obtain ⟨h1, h2, h3⟩ := cls_is5 n h
  simp only [txtOk, decide_eq_true_eq] at h3
  obtain ⟨k5, hr⟩ := h3
  obtain ⟨k, hk⟩ : ∃ k : Nat, n % 281474976710656 / 1099511627776 = k := Int.eq_ofNat_of_zero_le (by omega)
  obtain ⟨r, hr'⟩ : ∃ r : Nat, n % 1099511627776 = r := Int.eq_ofNat_of_zero_le (by omega)
  have e : n % 281474976710656 % 1099511627776 = r := by omega
  rw [hk, e] at hr
  rw [hk] at k5
  have e8 : (8 * (k : Int)).toNat = 8 * k := by omega
  have e2 : (2 : Int) ^ (8 * k) = ((256 ^ k : Nat) : Int) := by rw [← pow8]; simp
  rw [e8, e2] at hr
  have ht : toTxt n = ⟨(decN k r).toArray⟩ := by simp only [toTxt, h, if_true, hk, hr', Int.toNat_natCast]
  have hsz : (toTxt n).size = k := by rw [ht]; simp [ByteArray.size, decN_length]
  refine ⟨?_, by omega⟩
  have hd : encN (toTxt n).data.toList = r := by
    rw [ht]
    simp only
    exact encN_decN k r (by omega)
  simp only [txtW, hsz, hd]
  rw [if_pos (by omega)]
  omega
end Go.Proofs.Ytaebnnkhjlidiaa.W
/- Chains of rows, in plain words. -/
namespace Go.Proofs.Ytaebnnkhjlidiaa.W
open Go.ChangeShapes Go.WideShapes Go.RowKit Go.Shelf
set_option linter.unusedVariables false
/-- the word of handle i -/
def hw (i : Nat) : Nat := 18445336698825998336 + i
theorem cls_hw (i : Nat) (h : i < 281474976710656) : cls ((hw i : Nat) : Int) = 6 := by
  unfold hw
  exact cls_t3 _ (by omega) (by omega) (by omega)
theorem hw_mod (i : Nat) (h : i < 281474976710656) : hw i % 281474976710656 = i := by unfold hw; omega
theorem hw_lt (i : Nat) (h : i < 281474976710656) : hw i < 18446744073709551616 := by unfold hw; omega
theorem hit_hw {H : List (Option Hc)} {i : Nat} {c : Hc} (hi : i < 281474976710656) (h : H[i]? = some (some c)) : hit H (hw i) = some i := by
  unfold hit
  rw [hw_mod i hi, h]
  rw [if_pos ⟨cls_hw i hi, rfl⟩]
theorem hit_low {H : List (Option Hc)} {w : Nat} (h : cls (w : Int) ≠ 6) : hit H w = none := by
  unfold hit
  rw [if_neg (fun e => h e.1)]
theorem hit_zero (H : List (Option Hc)) : hit H 0 = none := hit_low (by decide)
theorem isVal_hw {H : List (Option Hc)} {i : Nat} {c : Hc} (hi : i < 281474976710656) (h : H[i]? = some (some c)) : isVal H (hw i) = true := by
  unfold isVal
  rw [cls_hw i hi, if_neg (by decide), if_pos rfl, hit_hw hi h]; rfl
theorem isVal_zero (H : List (Option Hc)) : isVal H 0 = true := by
  have e : cls ((0 : Nat) : Int) = 1 := by decide
  unfold isVal
  rw [e, if_neg (by decide), if_neg (by decide)]
/-- where all are reached -/
theorem zip_all {H : List (Option Hc)} {ws : List Nat} (h : ∀ i c, H[i]? = some (some c) → Rch H ws i) : zipK H (rchB H ws) = H := by
  apply List.ext_getElem?
  intro i
  by_cases hi : i < H.length
  · rw [zipK_get H _ (rchB_len H ws) i hi]
    have e : H[i]? = some H[i] := List.getElem?_eq_getElem hi
    cases hx : H[i] with
    | none =>
      rw [e, hx]
      split <;> rfl
    | some c =>
      rw [hx] at e
      have hr := (rchB_get H ws i).2 (h i c e)
      have : (rchB H ws).getD i false = true := by rw [List.getD_eq_getElem?_getD, hr]; rfl
      rw [if_pos this, e]
  · rw [List.getElem?_eq_none (by rw [zipK_len _ _ (rchB_len H ws)]; omega), List.getElem?_eq_none (by omega)]
/-- where none is -/
theorem zip_none {H : List (Option Hc)} {ws : List Nat} (h : ∀ w ∈ ws, hit H w = none) : zipK H (rchB H ws) = List.replicate H.length none := by
  have hno : ∀ i, ¬ Rch H ws i := by
    intro i hr
    induction hr with
    | root w i hw hh => rw [h w hw] at hh; cases hh
    | step j i w c _ _ _ _ ih => exact ih
  apply List.ext_getElem?
  intro i
  by_cases hi : i < H.length
  · rw [zipK_get H _ (rchB_len H ws) i hi, List.getElem?_replicate, if_pos hi]
    have : ¬ (rchB H ws).getD i false = true := by
      intro e
      rw [List.getD_eq_getElem?_getD] at e
      have h2 : (rchB H ws)[i]? = some true := by
        cases hx : (rchB H ws)[i]? with
        | none => rw [hx] at e; cases e
        | some b => rw [hx] at e; simp at e; rw [e]
      exact hno i ((rchB_get H ws i).1 h2)
    rw [if_neg this]
  · rw [List.getElem?_eq_none (by rw [zipK_len _ _ (rchB_len H ws)]; omega), List.getElem?_eq_none (by simp; omega)]
theorem sum_none (n : Nat) : sumH (List.replicate n none) = 0 := by
  induction n with
  | zero => rfl
  | succ n ih => rw [List.replicate_succ, sumH_cons, ih]; rfl
theorem row_need (ws : List Nat) : (Hc.row ws).need = 1 + ws.length := by
  unfold Hc.need
  rw [show (Hc.row ws).bytes.length = 8 * ws.length from row_len ws]
  omega
/-- the end of a chain of n rows -/
def endW : Nat → Nat
  | 0 => 0
  | n + 1 => hw n
/-- a chain of n rows -/
def chain : Nat → List (Option Hc)
  | 0 => []
  | n + 1 => chain n ++ [some (.row [endW n])]
theorem chain_len (n : Nat) : (chain n).length = n := by
  induction n with
  | zero => rfl
  | succ n ih => show (chain n ++ _).length = _; rw [List.length_append, ih]; rfl
theorem chain_get (n i : Nat) (h : i < n) : (chain n)[i]? = some (some (.row [endW i])) := by
  induction n with
  | zero => omega
  | succ n ih =>
    show (chain n ++ _)[i]? = _
    by_cases c : i < n
    · rw [List.getElem?_append_left (by rw [chain_len]; exact c), ih c]
    · have e : i = n := by omega
      subst e
      rw [List.getElem?_append_right (by rw [chain_len]; omega), chain_len]
      simp
theorem chain_sum (n : Nat) : sumH (chain n) = 2 * n := by
  induction n with
  | zero => rfl
  | succ n ih =>
    show sumH (chain n ++ _) = _
    rw [sumH_snoc, ih]
    show 2 * n + (Hc.row [endW n]).need = _
    rw [row_need]; simp; omega
theorem lid_full {H : List (Option Hc)} (h : ∀ i, i < H.length → ∃ c, H[i]? = some (some c)) : lid H = H.length := by
  have h1 := lid_le H
  by_cases c : lid H < H.length
  · obtain ⟨x, hx⟩ := h _ c
    rw [lid_free c] at hx
    cases hx
  · omega
theorem chain_lid (n : Nat) : lid (chain n) = n := by
  rw [lid_full (fun i hi => ⟨_, chain_get n i (by rw [chain_len] at hi; exact hi)⟩), chain_len]
theorem chain_put (n : Nat) : putH (chain n) (lid (chain n)) (some (.row [endW n])) = chain (n + 1) := by
  rw [chain_lid]
  unfold putH
  rw [if_neg (by rw [chain_len]; omega)]
  rfl
theorem endW_lt (n : Nat) (h : n ≤ 100000) : endW n < 18446744073709551616 := by
  cases n with
  | zero => show 0 < _; omega
  | succ n => exact hw_lt n (by omega)
theorem chain_val (n : Nat) (h : n ≤ 100000) : isVal (chain n) (endW n) = true := by
  cases n with
  | zero => exact isVal_zero _
  | succ n => exact isVal_hw (by omega) (chain_get (n + 1) n (by omega))
theorem chain_rch (n : Nat) (h : n ≤ 100000) (rs : List Nat) : ∀ j, j < n → Rch (chain n) ([endW n] ++ rs) (n - 1 - j) := by
  intro j
  induction j with
  | zero =>
    intro hj
    cases n with
    | zero => omega
    | succ n => exact .root (hw n) n (by simp [endW]) (hit_hw (by omega) (chain_get (n + 1) n (by omega)))
  | succ j ih =>
    intro hj
    have h1 := ih (by omega)
    obtain ⟨k, hk⟩ : ∃ k, n - 1 - j = k + 1 := ⟨n - 1 - j - 1, by omega⟩
    rw [hk] at h1
    have e : n - 1 - (j + 1) = k := by omega
    rw [e]
    exact .step (k + 1) k (hw k) (.row [endW (k + 1)]) h1 (chain_get n (k + 1) (by omega)) (by simp [Hc.succ, endW]) (hit_hw (by omega) (chain_get n k (by omega)))
theorem chain_zip (n : Nat) (h : n ≤ 100000) (rs : List Nat) : zipK (chain n) (rchB (chain n) ([endW n] ++ rs)) = chain n := by
  refine zip_all (fun i c hc => ?_)
  have hi : i < n := by have := (List.getElem?_eq_some_iff.1 hc).1; rw [chain_len] at this; exact this
  have := chain_rch n h rs (n - 1 - i) (by omega)
  rwa [show n - 1 - (n - 1 - i) = i by omega] at this
theorem chain_reach (n : Nat) (h : n ≤ 100000) : reachN (chain n) [endW n] = 2 * n := by
  have := chain_zip n h []
  rw [List.append_nil] at this
  unfold reachN
  rw [← zipK_sum, this, chain_sum]
end Go.Proofs.Ytaebnnkhjlidiaa.W
/- A heap that a statement made itself: what Put and Reach do to it. -/
namespace Go.Proofs.Ytaebnnkhjlidiaa.W
open Go.ChangeShapes Go.WideShapes Go.RowKit Go.Shelf
set_option linter.unusedVariables false
/-- a heap that was made behind W0 -/
def Hs (W0 W : World) (hb : Nat) (H : List (Option Hc)) (u : Nat) : Prop := Below W0.heap.size W0 W ∧ HSt W (fun k => W0.heap.size ≤ k ∧ k < W.heap.size) hb H u
section
variable {W0 W W1 W' : World} {hb : Nat} {H : List (Option Hc)} {u : Nat}
theorem Hs.bel (q : Hs W0 W hb H u) : Below W0.heap.size W0 W := q.1
theorem Hs.below (q : Hs W0 W hb H u) (hB : Below W.heap.size W W') : Hs W0 W' hb H u := by
  have h1 := q.1.size
  have h2 := hB.size
  exact ⟨q.1.trans (hB.mono h1), (q.2.below hB).mono (fun k e => ⟨e.1, by omega⟩)⟩
theorem hs_new (hB : Below W0.heap.size W0 W) (u : Nat) (hu : u ≤ 1048576) : Calls Try.prog 11 #[.int .i64 u] W fun e w' => ∃ hb, e = .returned (.tuple #[.pointer (some ⟨hb, 0, none⟩), .int .i64 0]) ∧ Hs W0 w' hb [] u := by
  refine (hnew_c u hu W).mono ?_
  rintro e w' ⟨hb, rfl, hB', g⟩
  have h1 := hB.size
  exact ⟨hb, rfl, hB.trans (hB'.mono h1), g.mono (fun k e => ⟨by omega, e.2⟩)⟩
theorem Hs.upd {H' : List (Option Hc)} (q : Hs W0 W hb H u) (hB : Below W.heap.size W W1) (hU : Upd (fun k => W0.heap.size ≤ k ∧ k < W.heap.size) W1 W') (g : HSt W' (Nx (fun k => W0.heap.size ≤ k ∧ k < W.heap.size) W1 W') hb H' u) : Hs W0 W' hb H' u := by
  have h1 := q.1.size
  have h2 := hB.size
  have h3 := hU.size
  have b1 : Below W0.heap.size W1 W' := hU.below (by omega) (fun k e => e.1)
  refine ⟨(q.1.trans (hB.mono h1)).trans b1, g.mono ?_⟩
  rintro k (e | e)
  · exact ⟨e.1, by omega⟩
  · exact ⟨by omega, e.2⟩
/-- what Put answers and leaves -/
def HsPost (W0 : World) (hb : Nat) (H1 : List (Option Hc)) (u : Nat) (c : Hc) (e : Ending) (w' : World) : Prop := (sumH H1 + c.need ≤ u ∧ e = .returned (.tuple #[.int .u64 (hw (lid H1) : Nat), .int .i64 0]) ∧ Hs W0 w' hb (putH H1 (lid H1) (some c)) u) ∨ (u < sumH H1 + c.need ∧ e = .returned (.tuple #[.int .u64 0, .int .i64 40]) ∧ Hs W0 w' hb H1 u)
theorem HsPost.fits {c : Hc} {rs : List Nat} {e : Ending} (h : HsPost W0 hb (roomH H u c rs) u c e W') (hf : sumH H + c.need ≤ u) : e = .returned (.tuple #[.int .u64 (hw (lid H) : Nat), .int .i64 0]) ∧ Hs W0 W' hb (putH H (lid H) (some c)) u := by
  have hr : roomH H u c rs = H := by unfold roomH; rw [if_pos hf]
  rw [hr] at h
  rcases h with ⟨_, h2, h3⟩ | ⟨h2, _⟩
  · exact ⟨h2, h3⟩
  · omega
theorem HsPost.not {c : Hc} {H1 : List (Option Hc)} {e : Ending} (h : HsPost W0 hb H1 u c e W') (hf : u < sumH H1 + c.need) : e = .returned (.tuple #[.int .u64 0, .int .i64 40]) ∧ Hs W0 W' hb H1 u := by
  rcases h with ⟨h2, _⟩ | ⟨_, h2, h3⟩
  · omega
  · exact ⟨h2, h3⟩
theorem HsPost.yes {c : Hc} {H1 : List (Option Hc)} {e : Ending} (h : HsPost W0 hb H1 u c e W') (hf : sumH H1 + c.need ≤ u) : e = .returned (.tuple #[.int .u64 (hw (lid H1) : Nat), .int .i64 0]) ∧ Hs W0 W' hb (putH H1 (lid H1) (some c)) u := by
  rcases h with ⟨_, h2, h3⟩ | ⟨h2, _⟩
  · exact ⟨h2, h3⟩
  · omega
theorem Hs.post {c : Hc} {H1 : List (Option Hc)} {e : Ending} (q : Hs W0 W hb H u) (hB : Below W.heap.size W W1) (h : PutPost W1 (fun k => W0.heap.size ≤ k ∧ k < W.heap.size) hb H1 u c e W') : HsPost W0 hb H1 u c e W' := by
  obtain ⟨hU, ⟨a, b, c⟩ | ⟨a, b, c⟩⟩ := h
  · exact .inl ⟨a, b, q.upd hB hU c⟩
  · exact .inr ⟨a, b, q.upd hB hU c⟩
theorem hs_row (q : Hs W0 W hb H u) (hB : Below W.heap.size W W1) (ws : List Nat) (hl : ws.length ≤ 1048576) (hv64 : ∀ w ∈ ws, w < 18446744073709551616) (hval : ∀ w ∈ ws, isVal H w = true) (ow : Option Addr) (wc : Nat) (hv : WordsAt W1 (.slice ow ws.length wc) ws) (ho : ∀ x, ow = some x → W.heap.size ≤ x.block ∧ x.block < W1.heap.size) (vr : Value) (rs : List Nat) (hr : WordsAt W1 vr rs) :
    Calls Try.prog 12 #[.pointer (some ⟨hb, 0, none⟩), .agg #[.int .i64 9, .bool false, .int .i64 0, .string ⟨#[]⟩, .slice none 0 0, .slice ow ws.length wc, .int .u64 0, .int .i64 0, .int .i64 0], vr] W1 (HsPost W0 hb (roomH H u (.row ws) rs) u (.row ws)) := by
  have h2 := hB.size
  refine (put_row (q.2.below hB) (fun k e => by omega) ws hl hv64 hval none ow 0 wc hv ?_ vr rs hr).mono (fun e w' h => q.post hB h)
  intro o n cap e k
  cases e
  have := ho o rfl
  rcases k with k | k <;> omega
theorem hs_num (q : Hs W0 W hb H u) (hB : Below W.heap.size W W1) (i : Int) (h0 : -9223372036854775808 ≤ i) (h1 : i < 9223372036854775808) (vr : Value) (rs : List Nat) (hr : WordsAt W1 vr rs) :
    Calls Try.prog 12 #[.pointer (some ⟨hb, 0, none⟩), .agg #[.int .i64 2, .bool false, .int .i64 i, .string ⟨#[]⟩, .slice none 0 0, .slice none 0 0, .int .u64 0, .int .i64 0, .int .i64 0], vr] W1 (HsPost W0 hb (roomH H u (.num i) rs) u (.num i)) := by
  have h2 := hB.size
  exact (put_num (q.2.below hB) (fun k e => by omega) i h0 h1 none none 0 0 vr rs hr).mono (fun e w' h => q.post hB h)
theorem hs_reach (q : Hs W0 W hb H u) (hB : Below W.heap.size W W1) (vr : Value) (rs : List Nat) (hr : WordsAt W1 vr rs) :
    Calls Try.prog 13 #[.pointer (some ⟨hb, 0, none⟩), vr] W1 fun e w' => e = .returned (.int .i64 (reachN H rs : Nat)) ∧ Hs W0 w' hb H u := by
  obtain ⟨sb, vc, T, l, _, _, _, hs⟩ := q.2.below hB
  have hu := l.u1
  refine (hreach_c l (by omega) vr rs hr).mono ?_
  rintro e w' ⟨rfl, hB'⟩
  exact ⟨rfl, (q.below hB).below hB'⟩
end
theorem infoU : (Try.prog.info? 24).map (fun i => (i.zero, i.size, i.bytes)) = some (some (.int .u64 0), 1, 8) := by kernel_rfl
theorem underU : Try.prog.underlying 23 = some (.slice 24) := by kernel_rfl
theorem make_words (w : World) (n : Nat) (hn : n ≤ 1048576) : ∃ w', (Instr.makeSlice 23 (.int .i64 (n : Int)) (.int .i64 (n : Int))).run Try.prog w = .ok (.slice (some ⟨w.heap.size, 0, none⟩) n n) w' ∧ WordsAt w' (.slice (some ⟨w.heap.size, 0, none⟩) n n) (List.replicate n 0) ∧ Below w.heap.size w w' ∧ w.heap.size < w'.heap.size := by
  obtain ⟨i0, hi, hz0, hz1, hz2⟩ := info_parts infoU
  obtain ⟨w', h1, h2, h3⟩ := run_makeSlice_full (P := Try.prog) w w.heap.size 23 24 i0 (.int .u64 0) 1 underU hi hz0 hz1 .i64 .i64 n (by omega) (by rw [hz2]; omega) (by simp [maxLen]; omega) (Nat.le_refl _)
  have e : (madeCells (Value.int .u64 0).cells (n * 1)).toList = List.replicate n (.int .u64 0) := by
    rw [Nat.mul_one]; exact made_one _ n
  rw [e] at h2
  have hU : Upd (fun _ => False) w w' := (Upd.refl (fun _ => False) w).grown h3 (fun k e => by cases e)
  have hlt := (h2.lt _ rfl).2
  refine ⟨w', h1, ⟨_, _, by rw [List.length_replicate], by rw [List.length_replicate]; omega, ?_, ?_⟩, hU.below (Nat.le_refl _) (fun k e => e.elim), hlt⟩
  · intro x hx
    rw [(List.mem_replicate.1 hx).2]; omega
  · intro i hi
    rw [List.length_replicate] at hi
    refine ⟨_, rfl, ?_⟩
    have e1 : ((⟨w.heap.size, 0, none⟩ : Addr).add i) = ⟨w.heap.size, i, none⟩ := by unfold Addr.add; split <;> simp_all
    rw [e1, h2.cellAt i (by omega), List.getElem?_replicate, if_pos hi]
    simp
end Go.Proofs.Ytaebnnkhjlidiaa.W
/- Package value: Box, of plain values. -/
namespace Go.Proofs.Ytaebnnkhjlidiaa.W
open Go.ChangeShapes Go.WideShapes Go.RowKit Go.Shelf
set_option linter.unusedVariables false
section
variable {W0 W W1 : World} {hb : Nat} {H : List (Option Hc)} {u : Nat}
theorem hs_text (q : Hs W0 W hb H u) (hB : Below W.heap.size W W1) (t : ByteArray) (hl : t.size ≤ 8388608) (vr : Value) (rs : List Nat) (hr : WordsAt W1 vr rs) :
    Calls Try.prog 12 #[.pointer (some ⟨hb, 0, none⟩), .agg #[.int .i64 4, .bool false, .int .i64 0, .string t, .slice none 0 0, .slice none 0 0, .int .u64 0, .int .i64 0, .int .i64 0], vr] W1 (HsPost W0 hb (roomH H u (.text (strB t)) rs) u (.text (strB t))) := by
  have h2 := hB.size
  exact (put_text (q.2.below hB) (fun k e => by omega) t hl none none 0 0 vr rs hr).mono (fun e w' h => q.post hB h)
end
end Go.Proofs.Ytaebnnkhjlidiaa.W
/- Package heap: load and Get, of a number. -/
namespace Go.Proofs.Ytaebnnkhjlidiaa.W
open Go.ChangeShapes Go.WideShapes Go.RowKit Go.Shelf
set_option linter.unusedVariables false
section
variable {W W' : World} {hb sb : Nat} {vc : Value} {T : Nat → Prop} {H : List (Option Hc)} {u h : Nat}
theorem cellT : (Try.prog.underlying 26).map (fun d => match d with | .struct _ | .array _ _ => true | _ => false) = some true := by kernel_rfl
theorem cellSz : (Try.prog.info? 26).map (·.size) = some 9 := by kernel_rfl
/-- a cell is answered out of its box -/
theorem cell_ret {fn : Func} {p : Tmp} (h : fn.results = #[.cell p 26]) (tmps : Array Value) (w : World) (gb : Nat) (v0 v1 v2 v3 v4 v5 v6 v7 v8 : Value) (fr : Nat × Nat) (hp : tmps.getD p undef = .pointer (some ⟨gb, 0, none⟩)) (hg : w.heap[gb]? = some (.cells #[v0, v1, v2, v3, v4, v5, v6, v7, v8] 26 fr)) : (results fn tmps).run Try.prog w = .ok (.agg #[v0, v1, v2, v3, v4, v5, v6, v7, v8]) w := by
  have ht := cellT
  cases hu : Try.prog.underlying 26 with
  | none => rw [hu] at ht; cases ht
  | some d =>
    rw [hu] at ht
    simp only [Option.map_some, Option.some.injEq] at ht
    refine results_cell_row h tmps w gb _ _ fr d hp hg hu ?_ (by rw [cellSz]; rfl)
    cases d <;> first | rfl | exact ht
/-- nine cells are written -/
theorem nine_set {w : World} {gb : Nat} {z0 z1 z2 z3 z4 z5 z6 z7 z8 : Value} {t : TypeId} (hg : w.heap[gb]? = some (.cells #[z0, z1, z2, z3, z4, z5, z6, z7, z8] t (0, 0))) (v0 v1 v2 v3 v4 v5 v6 v7 v8 : Value) : (((((((((w.setCell ⟨gb, 0, none⟩ v0).setCell ⟨gb, 1, none⟩ v1).setCell ⟨gb, 2, none⟩ v2).setCell ⟨gb, 3, none⟩ v3).setCell ⟨gb, 4, none⟩ v4).setCell ⟨gb, 5, none⟩ v5).setCell ⟨gb, 6, none⟩ v6).setCell ⟨gb, 7, none⟩ v7).setCell ⟨gb, 8, none⟩ v8).heap[gb]? = some (.cells #[v0, v1, v2, v3, v4, v5, v6, v7, v8] t (0, 0)) := by
  have h0 : w.heap[gb]? = some (.cells [z0, z1, z2, z3, z4, z5, z6, z7, z8].toArray t (0, 0)) := hg
  have h1 := heap_set h0 0 v0
  have h2 := heap_set h1 1 v1
  have h3 := heap_set h2 2 v2
  have h4 := heap_set h3 3 v3
  have h5 := heap_set h4 4 v4
  have h6 := heap_set h5 5 v5
  have h7 := heap_set h6 6 v6
  have h8 := heap_set h7 7 v7
  have h9 := heap_set h8 8 v8
  exact h9
theorem nine_below {w a : World} {gb B : Nat} (h : Below B a w) (hB : B ≤ gb) (v0 v1 v2 v3 v4 v5 v6 v7 v8 : Value) : Below B a (((((((((w.setCell ⟨gb, 0, none⟩ v0).setCell ⟨gb, 1, none⟩ v1).setCell ⟨gb, 2, none⟩ v2).setCell ⟨gb, 3, none⟩ v3).setCell ⟨gb, 4, none⟩ v4).setCell ⟨gb, 5, none⟩ v5).setCell ⟨gb, 6, none⟩ v6).setCell ⟨gb, 7, none⟩ v7).setCell ⟨gb, 8, none⟩ v8) :=
  ((((((((h.setCell (p := ⟨gb, 0, none⟩) hB v0).setCell (p := ⟨gb, 1, none⟩) hB v1).setCell (p := ⟨gb, 2, none⟩) hB v2).setCell (p := ⟨gb, 3, none⟩) hB v3).setCell (p := ⟨gb, 4, none⟩) hB v4).setCell (p := ⟨gb, 5, none⟩) hB v5).setCell (p := ⟨gb, 6, none⟩) hB v6).setCell (p := ⟨gb, 7, none⟩) hB v7).setCell (p := ⟨gb, 8, none⟩) hB v8
set_option maxHeartbeats 1000000 in
/-- what a cell was put as, but for its bytes -/
theorem bare_c (k : Int) (v : Bool) (ba p n : Int) (W : World) : Calls Try.prog 49 #[.agg #[.int .i64 k, .bool v, .int .u64 ba, .int .i64 p, .int .i64 n]] W fun e w' => e = .returned (.agg #[.int .i64 k, .bool v, .int .i64 0, .string ⟨#[]⟩, .slice none 0 0, .slice none 0 0, .int .u64 ba, .int .i64 p, .int .i64 n]) ∧ Below W.heap.size W w' := by
  have hz : (W.alloc (.cells #[.int .i64 k, .bool v, .int .u64 ba, .int .i64 p, .int .i64 n] 76)).heap.size = W.heap.size + 1 := World.size_alloc _ _
  have hB : Below W.heap.size W ((W.alloc (.cells #[.int .i64 k, .bool v, .int .u64 ba, .int .i64 p, .int .i64 n] 76)).alloc (.cells #[.int .i64 0, .bool false, .int .i64 0, .string ⟨#[]⟩, .slice none 0 0, .slice none 0 0, .int .u64 0, .int .i64 0, .int .i64 0] 26)) := ((Below.refl _ W).alloc (Nat.le_refl _) _).alloc (by rw [hz]; omega) _
  have f1 : ((W.alloc (.cells #[.int .i64 k, .bool v, .int .u64 ba, .int .i64 p, .int .i64 n] 76)).alloc (.cells #[.int .i64 0, .bool false, .int .i64 0, .string ⟨#[]⟩, .slice none 0 0, .slice none 0 0, .int .u64 0, .int .i64 0, .int .i64 0] 26)).heap[W.heap.size]? = some (.cells #[.int .i64 k, .bool v, .int .u64 ba, .int .i64 p, .int .i64 n] 76 (0, 0)) := (Below.heap_alloc _ _ _ (by rw [hz]; omega)).trans (World.alloc_heap_new W _)
  have f2 := World.alloc_heap_new (W.alloc (.cells #[.int .i64 k, .bool v, .int .u64 ba, .int .i64 p, .int .i64 n] 76)) (.cells #[.int .i64 0, .bool false, .int .i64 0, .string ⟨#[]⟩, .slice none 0 0, .slice none 0 0, .int .u64 0, .int .i64 0, .int .i64 0] 26)
  rw [hz] at f2
  go_enter Try.func49, Try.ntmps49
  go_upto_region 1 with fail
  (try simp only [hz])
  generalize World.alloc (World.alloc W _) _ = W2 at *
  have e1 := fun j => cell_of_row W2 W.heap.size j _ _ _ f1
  have e2 := fun j => cell_of_row W2 (W.heap.size + 1) j _ _ _ f2
  have z2 : ∀ j, W2.frozen? ⟨W.heap.size + 1, j, none⟩ = false := fun j => by simp [World.frozen?, f2]
  have F2 := hid f2
  have HB := hid hB
  clear f1 f2 hB hz
  go_wp2
  refine bodyPost_ret (cell_ret rfl _ _ (W.heap.size + 1) _ _ _ _ _ _ _ _ _ (0, 0) rfl (nine_set F2.out _ _ _ _ _ _ _ _ _)) rfl ?_
  exact ⟨rfl, nine_below HB.out (by omega) _ _ _ _ _ _ _ _ _⟩
theorem load_num (g : HLay W hb sb vc T H u h) (id : Nat) (i : Int) (hc : H[id]? = some (some (.num i))) :
    Calls Try.prog 29 #[.pointer (some ⟨hb, 0, none⟩), .int .i64 id] W fun e w' => e = .returned (.agg #[.int .i64 2, .bool false, .int .i64 i, .string ByteArray.empty, .slice none 0 0, .slice none 0 0, .int .u64 0, .int .i64 0, .int .i64 0]) ∧ Below W.heap.size W w' := by
  have hidl : id < H.length := (List.getElem?_eq_some_iff.1 hc).1
  obtain ⟨b, cap, hvc, hcell, _⟩ := g.at hidl
  have c1 := g.cell 1
  simp only [List.getElem?_cons_succ, List.getElem?_cons_zero] at c1
  rw [hvc] at c1
  have k0 := hcell 0 _ hc (by omega)
  have k1 := hcell 1 _ hc (by omega)
  have k2 := hcell 2 _ hc (by omega)
  have k3 := hcell 3 _ hc (by omega)
  have k4 := hcell 4 _ hc (by omega)
  simp only [clO, Hc.cl, Cl.cells, List.getElem?_cons_succ, List.getElem?_cons_zero, Nat.add_zero] at k0 k1 k2 k3 k4
  have j0 : (0 : Int) ≤ id := by omega
  have j1 : (id : Int) < H.length := by omega
  have cs : ∀ w, Calls Try.prog 36 #[.int .i64 2, .bool false] w fun e w' => e = .returned (.int .i64 1) ∧ w' = w := fun w => shape_c 2 false w
  clear hcell
  have hB1 : Below W.heap.size W (W.alloc (.cells #[.int .i64 0, .bool false, .int .i64 0, .string ⟨#[]⟩, .slice none 0 0, .slice none 0 0, .int .u64 0, .int .i64 0, .int .i64 0] 26)) := (Below.refl _ W).alloc (Nat.le_refl _) _
  have hs1 : (W.alloc (.cells #[.int .i64 0, .bool false, .int .i64 0, .string ⟨#[]⟩, .slice none 0 0, .slice none 0 0, .int .u64 0, .int .i64 0, .int .i64 0] 26)).heap.size = W.heap.size + 1 := World.size_alloc ..
  have e1 := World.cell?_alloc_new W #[.int .i64 0, .bool false, .int .i64 0, .string ⟨#[]⟩, .slice none 0 0, .slice none 0 0, .int .u64 0, .int .i64 0, .int .i64 0] 26
  have f1 := World.alloc_heap_new W (.cells #[.int .i64 0, .bool false, .int .i64 0, .string ⟨#[]⟩, .slice none 0 0, .slice none 0 0, .int .u64 0, .int .i64 0, .int .i64 0] 26)
  go_enter Try.func29, Try.ntmps29
  go_upto_region 1 with fail
  have c1' := below_cell hB1 c1
  have k0' := below_cell hB1 k0
  have k1' := below_cell hB1 k1
  have k2' := below_cell hB1 k2
  have k3' := below_cell hB1 k3
  have k4' := below_cell hB1 k4
  generalize hW1 : W.alloc (.cells #[.int .i64 0, .bool false, .int .i64 0, .string ⟨#[]⟩, .slice none 0 0, .slice none 0 0, .int .u64 0, .int .i64 0, .int .i64 0] 26) = W1 at *
  clear c1 k0 k1 k2 k3 k4 hW1
  go_upto_region 2 with fail
  have hBc : Below W1.heap.size W1 (W1.alloc (.cells #[.int .i64 2, .bool false, .int .u64 0, .int .i64 0, .int .i64 0] 76)) := (Below.refl _ W1).alloc (Nat.le_refl _) _
  have fC := World.alloc_heap_new W1 (.cells #[.int .i64 2, .bool false, .int .u64 0, .int .i64 0, .int .i64 0] 76)
  rw [hs1] at fC
  have hsc : (W1.alloc (.cells #[.int .i64 2, .bool false, .int .u64 0, .int .i64 0, .int .i64 0] 76)).heap.size = W.heap.size + 2 := by rw [World.size_alloc, hs1]
  generalize World.alloc W1 _ = Wc at *
  have eC := fun j => cell_of_row Wc (W.heap.size + 1) j _ _ _ fC
  go_upto_region 3 with (go_at_call 49; (with_reducible refine (bare_c 2 false 0 0 0 _).mono ?_); rintro e wb ⟨rfl, hBb⟩)
  have hbz := hBb.size
  have fO := World.alloc_heap_new wb (.cells #[.int .i64 2, .bool false, .int .i64 0, .string ⟨#[]⟩, .slice none 0 0, .slice none 0 0, .int .u64 0, .int .i64 0, .int .i64 0] 26)
  have hBd : Below wb.heap.size wb (wb.alloc (.cells #[.int .i64 2, .bool false, .int .i64 0, .string ⟨#[]⟩, .slice none 0 0, .slice none 0 0, .int .u64 0, .int .i64 0, .int .i64 0] 26)) := (Below.refl _ wb).alloc (Nat.le_refl _) _
  have hB3 : Below W1.heap.size W1 (wb.alloc (.cells #[.int .i64 2, .bool false, .int .i64 0, .string ⟨#[]⟩, .slice none 0 0, .slice none 0 0, .int .u64 0, .int .i64 0, .int .i64 0] 26)) := (hBc.trans (hBb.mono (by omega))).trans (hBd.mono (by omega))
  have fC3 := (hBd.block (W.heap.size + 1) (by omega)).trans ((hBb.block (W.heap.size + 1) (by omega)).trans fC)
  obtain ⟨nb, hnb⟩ : ∃ nb, wb.heap.size = nb := ⟨_, rfl⟩
  rw [hnb] at fO
  rw [hnb]
  have hO2 : W.heap.size + 2 ≤ nb := by omega
  clear hnb hBd hBb hBc fC eC hsc hbz
  generalize World.alloc wb _ = W3 at *
  have eO := fun j => cell_of_row W3 nb j _ _ _ fO
  have eC3 := fun j => cell_of_row W3 (W.heap.size + 1) j _ _ _ fC3
  have hs3 := (Array.getElem?_eq_some_iff.1 fO).1
  clear fC3
  have eR3 : ∀ j, W3.cell? ⟨W.heap.size, j, none⟩ = #[.int .i64 0, .bool false, .int .i64 0, .string ⟨#[]⟩, .slice none 0 0, .slice none 0 0, .int .u64 0, .int .i64 0, .int .i64 0][j]? := by
    intro j
    rw [World.cell?_of_block (hB3.block W.heap.size (by omega))]
    exact e1 j
  have hBW : Below W.heap.size W W3 := hB1.trans (hB3.mono hB1.size)
  have g3 := g.below hBW
  have fR : W3.heap[W.heap.size]? = some (.cells #[.int .i64 0, .bool false, .int .i64 0, .string ⟨#[]⟩, .slice none 0 0, .slice none 0 0, .int .u64 0, .int .i64 0, .int .i64 0] 26) := (hB3.block W.heap.size (by omega)).trans f1
  have c0 := g3.cell 0
  simp only [List.getElem?_cons_zero] at c0
  have ho := g.ok id _ hc
  have cl := load_st g3.st id _ (hA_some hc) 0 8 (.inr (.inr (.inr rfl))) (by omega) (by show 0 + 8 ≤ (le8 _).length; rw [le8_len]; omega)
  have el : leN (seg (Hc.num i).bytes 0 8) = (i % 18446744073709551616).toNat := by
    have h1 : seg (Hc.num i).bytes 0 8 = le8 (i % 18446744073709551616).toNat := by
      show ((le8 _).drop 0).take 8 = _
      rw [List.drop_zero, List.take_of_length_le (by rw [le8_len]; omega)]
    rw [h1, leN_le8 _ (by omega)]
  rw [el, show ((0 : Nat) : Int) = 0 from rfl, show ((8 : Nat) : Int) = 8 from rfl] at cl
  have ei : IntKind.i64.wrap (((i % 18446744073709551616).toNat : Nat) : Int) = i := by
    have h1 := ho.1
    have h2 := ho.2
    rw [IntKind.wrap_i64]; omega
  generalize (i % 18446744073709551616).toNat = X at cl ei
  have kp : Hid (∀ w4, Below W3.heap.size W3 w4 → w4.heap[W.heap.size]? = some (.cells #[.int .i64 0, .bool false, .int .i64 0, .string ⟨#[]⟩, .slice none 0 0, .slice none 0 0, .int .u64 0, .int .i64 0, .int .i64 0] 26) ∧ w4.heap[nb]? = some (.cells #[.int .i64 2, .bool false, .int .i64 0, .string ⟨#[]⟩, .slice none 0 0, .slice none 0 0, .int .u64 0, .int .i64 0, .int .i64 0] 26)) := by
    show ∀ w4, _
    intro w4 hB4
    exact ⟨(hB4.block _ (by omega)).trans fR, (hB4.block _ (by omega)).trans fO⟩
  clear eR3 fR fO g3 e1 c1' k0' k1' k2' k3' k4' f1
  go_upto_region 6 with (first | (go_at_call 36; (with_reducible refine (cs _).mono ?_); rintro e w' ⟨rfl, hw⟩; (have hw' := hw.symm); subst hw'; clear hw) | (go_at_call 50; (with_reducible refine cl.mono ?_); rintro e w4 ⟨rfl, hB4⟩; clear cl))
  obtain ⟨fR, fO⟩ := kp.out w4 hB4
  have eR := fun j => cell_of_row w4 W.heap.size j _ _ _ fR
  have eO := fun j => cell_of_row w4 (nb) j _ _ _ fO
  have zR : ∀ j, w4.frozen? ⟨W.heap.size, j, none⟩ = false := fun j => by simp [World.frozen?, fR]
  have zO : ∀ j, w4.frozen? ⟨nb, j, none⟩ = false := fun j => by simp [World.frozen?, fO]
  have hBf : Below W.heap.size W w4 := hBW.trans (hB4.mono hBW.size)
  have hO1 : W.heap.size ≤ nb := by omega
  have FR := hid fR
  clear kp fR fO g ho hc hBW hB4
  go_wp2
  refine bodyPost_ret (cell_ret rfl _ _ W.heap.size _ _ _ _ _ _ _ _ _ (0, 0) rfl (nine_set ((Below.heap_setCell _ _ _ _ (by show W.heap.size ≠ nb; omega)).trans FR.out) _ _ _ _ _ _ _ _ _)) rfl ?_
  exact ⟨rfl, nine_below (hBf.setCell (p := ⟨nb, 2, none⟩) hO1 _) (Nat.le_refl _) _ _ _ _ _ _ _ _ _⟩
end
end Go.Proofs.Ytaebnnkhjlidiaa.W
/- Package heap: Get. -/
namespace Go.Proofs.Ytaebnnkhjlidiaa.W
open Go.ChangeShapes Go.WideShapes Go.RowKit Go.Shelf
set_option linter.unusedVariables false
section
variable {W W' : World} {hb sb : Nat} {vc : Value} {T : Nat → Prop} {H : List (Option Hc)} {u h : Nat}
theorem cell_ret2 {fn : Func} {p q : Tmp} (h : fn.results = #[.cell p 26, .tmp q]) (tmps : Array Value) (w : World) (gb : Nat) (v0 v1 v2 v3 v4 v5 v6 v7 v8 : Value) (fr : Nat × Nat) (hp : tmps.getD p undef = .pointer (some ⟨gb, 0, none⟩)) (hg : w.heap[gb]? = some (.cells #[v0, v1, v2, v3, v4, v5, v6, v7, v8] 26 fr)) : (results fn tmps).run Try.prog w = .ok (.tuple #[.agg #[v0, v1, v2, v3, v4, v5, v6, v7, v8], tmps.getD q undef]) w := by
  have ht := cellT
  rw [results_cell_tmp h, hp]
  cases hu : Try.prog.underlying 26 with
  | none => rw [hu] at ht; cases ht
  | some d =>
    rw [hu] at ht
    simp only [Option.map_some, Option.some.injEq] at ht
    have hl := run_loadVar_row (P := Try.prog) w gb 26 26 #[v0, v1, v2, v3, v4, v5, v6, v7, v8] fr d hg hu (by cases d <;> first | rfl | exact ht) (by rw [cellSz]; rfl)
    simp [asAddr, hl]
theorem get_c (g : HLay W hb sb vc T H u h) (w : Nat) (hw : w < 18446744073709551616) (id : Nat) (hi : hit H w = some id) (kd : Int) (vw : Bool) (i : Int) (t : ByteArray) (ob ow : Option Addr) (bl bc wl wc : Nat) (ba fr ln : Int) (hld : ∀ w1, Below W.heap.size W w1 → Calls Try.prog 29 #[.pointer (some ⟨hb, 0, none⟩), .int .i64 id] w1 fun e w' => e = .returned (.agg #[.int .i64 kd, .bool vw, .int .i64 i, .string t, .slice ob bl bc, .slice ow wl wc, .int .u64 ba, .int .i64 fr, .int .i64 ln]) ∧ Below w1.heap.size w1 w') :
    Calls Try.prog 14 #[.pointer (some ⟨hb, 0, none⟩), .int .u64 w] W fun e w' => e = .returned (.tuple #[.agg #[.int .i64 kd, .bool vw, .int .i64 i, .string t, .slice ob bl bc, .slice ow wl wc, .int .u64 ba, .int .i64 fr, .int .i64 ln], .int .i64 0]) ∧ Below W.heap.size W w' := by
  have hB1 : Below W.heap.size W (W.alloc (.cells #[.int .i64 0, .bool false, .int .i64 0, .string ⟨#[]⟩, .slice none 0 0, .slice none 0 0, .int .u64 0, .int .i64 0, .int .i64 0] 26)) := (Below.refl _ W).alloc (Nat.le_refl _) _
  have hs1 : (W.alloc (.cells #[.int .i64 0, .bool false, .int .i64 0, .string ⟨#[]⟩, .slice none 0 0, .slice none 0 0, .int .u64 0, .int .i64 0, .int .i64 0] 26)).heap.size = W.heap.size + 1 := World.size_alloc ..
  have f1 := World.alloc_heap_new W (.cells #[.int .i64 0, .bool false, .int .i64 0, .string ⟨#[]⟩, .slice none 0 0, .slice none 0 0, .int .u64 0, .int .i64 0, .int .i64 0] 26)
  have cf := find_c (g.below hB1) w hw
  rw [hi] at cf
  simp only [Option.getD_some, Option.isSome_some] at cf
  have cl := hld _ hB1
  have kp : Hid (∀ w4, Below (W.alloc (.cells #[.int .i64 0, .bool false, .int .i64 0, .string ⟨#[]⟩, .slice none 0 0, .slice none 0 0, .int .u64 0, .int .i64 0, .int .i64 0] 26)).heap.size (W.alloc (.cells #[.int .i64 0, .bool false, .int .i64 0, .string ⟨#[]⟩, .slice none 0 0, .slice none 0 0, .int .u64 0, .int .i64 0, .int .i64 0] 26)) w4 → w4.heap[W.heap.size]? = some (.cells #[.int .i64 0, .bool false, .int .i64 0, .string ⟨#[]⟩, .slice none 0 0, .slice none 0 0, .int .u64 0, .int .i64 0, .int .i64 0] 26) ∧ Below W.heap.size W w4) := by
    show ∀ w4, _
    intro w4 hB4
    exact ⟨(hB4.block _ (by omega)).trans f1, hB1.trans (hB4.mono hB1.size)⟩
  clear hld
  go_enter Try.func14, Try.ntmps14
  go_upto_region 1 with fail
  generalize W.alloc (.cells #[.int .i64 0, .bool false, .int .i64 0, .string ⟨#[]⟩, .slice none 0 0, .slice none 0 0, .int .u64 0, .int .i64 0, .int .i64 0] 26) = W1 at *
  go_wp2_with (first | (go_at_call 28; (with_reducible refine cf.mono ?_); rintro e w' ⟨rfl, hw⟩; (have hw' := hw.symm); subst hw'; clear hw cf) | (go_at_call 29; (with_reducible refine cl.mono ?_); rintro e w4 ⟨rfl, hB4⟩; clear cl; (obtain ⟨fR, hBf⟩ := kp.out w4 hB4); (have eR := fun j => cell_of_row w4 W.heap.size j _ _ _ fR); (have zR := (fun j => by simp [World.frozen?, fR] : ∀ j, w4.frozen? ⟨W.heap.size, j, none⟩ = false)); (have FR := hid fR); clear fR))
  refine bodyPost_ret (cell_ret2 rfl _ _ W.heap.size _ _ _ _ _ _ _ _ _ (0, 0) rfl (nine_set FR.out _ _ _ _ _ _ _ _ _)) rfl ?_
  exact ⟨rfl, nine_below hBf (Nat.le_refl _) _ _ _ _ _ _ _ _ _⟩
theorem get_num (g : HLay W hb sb vc T H u h) (w : Nat) (hw : w < 18446744073709551616) (id : Nat) (hi : hit H w = some id) (i : Int) (hc : H[id]? = some (some (.num i))) :
    Calls Try.prog 14 #[.pointer (some ⟨hb, 0, none⟩), .int .u64 w] W fun e w' => e = .returned (.tuple #[.agg #[.int .i64 2, .bool false, .int .i64 i, .string ByteArray.empty, .slice none 0 0, .slice none 0 0, .int .u64 0, .int .i64 0, .int .i64 0], .int .i64 0]) ∧ Below W.heap.size W w' :=
  get_c g w hw id hi 2 false i ByteArray.empty none none 0 0 0 0 0 0 0 (fun w1 hB => load_num (g.below hB) id i hc)
end
end Go.Proofs.Ytaebnnkhjlidiaa.W
/- Package value: Box, Unbox. -/
namespace Go.Proofs.Ytaebnnkhjlidiaa.W
open Go.ChangeShapes Go.WideShapes Go.RowKit Go.Shelf
set_option linter.unusedVariables false
end Go.Proofs.Ytaebnnkhjlidiaa.W
/- Package value: Unbox, of a number in a cell. -/
namespace Go.Proofs.Ytaebnnkhjlidiaa.W
open Go.ChangeShapes Go.WideShapes Go.RowKit Go.Shelf
set_option linter.unusedVariables false
section
variable {W W' : World} {hb sb : Nat} {vc : Value} {T : Nat → Prop} {H : List (Option Hc)} {u h : Nat}
theorem five_set {w : World} {gb : Nat} {z0 z1 z2 z3 z4 : Value} {t : TypeId} (hg : w.heap[gb]? = some (.cells #[z0, z1, z2, z3, z4] t (0, 0))) (v0 v1 v2 v3 v4 : Value) : (((((w.setCell ⟨gb, 0, none⟩ v0).setCell ⟨gb, 1, none⟩ v1).setCell ⟨gb, 2, none⟩ v2).setCell ⟨gb, 3, none⟩ v3).setCell ⟨gb, 4, none⟩ v4).heap[gb]? = some (.cells #[v0, v1, v2, v3, v4] t (0, 0)) := by
  have h0 : w.heap[gb]? = some (.cells [z0, z1, z2, z3, z4].toArray t (0, 0)) := hg
  have h1 := heap_set h0 0 v0
  have h2 := heap_set h1 1 v1
  have h3 := heap_set h2 2 v2
  have h4 := heap_set h3 3 v3
  exact heap_set h4 4 v4
theorem five_below {w a : World} {gb B : Nat} (h : Below B a w) (hB : B ≤ gb) (v0 v1 v2 v3 v4 : Value) : Below B a (((((w.setCell ⟨gb, 0, none⟩ v0).setCell ⟨gb, 1, none⟩ v1).setCell ⟨gb, 2, none⟩ v2).setCell ⟨gb, 3, none⟩ v3).setCell ⟨gb, 4, none⟩ v4) :=
  ((((h.setCell (p := ⟨gb, 0, none⟩) hB v0).setCell (p := ⟨gb, 1, none⟩) hB v1).setCell (p := ⟨gb, 2, none⟩) hB v2).setCell (p := ⟨gb, 3, none⟩) hB v3).setCell (p := ⟨gb, 4, none⟩) hB v4
end
end Go.Proofs.Ytaebnnkhjlidiaa.W
