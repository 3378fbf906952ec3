import Derived.Test.YtgmimmdojkoppaaGreatDoorBase13
import Derived.Test.YtgmimmdojkoppaaGreatDoorBase18
import Derived.Scope
import Derived.Test.YtgmimmdojkoppaaGreatDoorBase17
/- Package heap: keep. -/
namespace Go.Proofs.YtgmimmdojkoppaaGreatDoor.W
open Go.ChangeShapes Go.WideShapes Go.RowKit Go.Shelf
set_option linter.unusedVariables false
/-- the cells, those below k that are not of R let go -/
def stepH (H : List (Option Hc)) (R : List Bool) : Nat → List (Option Hc)
  | 0 => H
  | k + 1 => if R.getD k false = true then stepH H R k else (stepH H R k).set k none
theorem stepH_len (H : List (Option Hc)) (R : List Bool) (k : Nat) : (stepH H R k).length = H.length := by
  induction k with
  | zero => rfl
  | succ k ih => unfold stepH; split <;> simp [ih]
theorem stepH_above (H : List (Option Hc)) (R : List Bool) (k i : Nat) (h : k ≤ i) : (stepH H R k)[i]? = H[i]? := by
  induction k with
  | zero => rfl
  | succ k ih =>
    unfold stepH
    split
    · exact ih (by omega)
    · rw [List.getElem?_set_ne (by omega)]; exact ih (by omega)
theorem stepH_dead (H : List (Option Hc)) (R : List Bool) (k : Nat) (h : H[k]? = some none) : stepH H R (k + 1) = stepH H R k := by
  show (if R.getD k false = true then stepH H R k else (stepH H R k).set k none) = _
  split
  · rfl
  · have e := stepH_above H R k k (Nat.le_refl _)
    rw [h] at e
    apply List.ext_getElem?
    intro i
    by_cases hi : i = k
    · subst hi
      rw [List.getElem?_set_self (List.getElem?_eq_some_iff.1 e).1, e]
    · rw [List.getElem?_set_ne (Ne.symm hi)]
theorem live_law {g : Operand} {pt : Nat} {assign body : Code} {Q : Exit → Act → World → Prop} {a : Act} {W0 : World} {Bh hb n : Nat} {P : Nat → Bool} (hg : a.eval g = .func (.func 214) #[] #[.pointer (some ⟨Bh, 0, none⟩)])
    (I : Nat → World → Prop) (Ix : Code → World → Prop) (hL : ∀ i W, I i W → W.cell? ⟨Bh, 0, none⟩ = some (.pointer (some ⟨hb, 0, none⟩)) ∧ ∃ sb vc T H u h, HLay W hb sb vc T H u h ∧ H.length = n ∧ ∀ k, i ≤ k → k < n → ((H[k]?).getD none).isSome = P k)
    (hI : ∀ i W W', I i W → Upd (fun k => k = W0.heap.size + 1) W W' → I i W')
    (hIx : ∀ c W W', Ix c W → Upd (fun k => k = W0.heap.size + 1) W W' → Ix c W') (h0 : I 0 W0) (hskip : ∀ i W, i < n → P i = false → I i W → I (i + 1) W) (q : Nat)
    (hassign : ∀ (L x : Nat) (W : World) (K : Act → World → Prop), K (ringAct pt a q x) W → assign.wpIn (Fence.wide.inRound L) 7 Tryz.prog (Exit.then K (fun _ _ _ => False)) { tmps := a.tmps.setIfInBounds pt (.int .i64 (x : Int)), defers := [] } W)
    (hbody : ∀ (L : Nat) i (hi : i < n) W, P i = true → L = W0.heap.size + 1 → I i W → W0.heap.size + 2 ≤ W.heap.size → (∃ r, W.heap[L]? = some (.loop r)) → body.wpIn (Fence.wide.inRound L) 7 Tryz.prog (rndWay L W0.heap.size W (I (i + 1)) Ix) (ringAct pt a q i) W)
    (hdone : ∀ W, I n W → W.heap[W0.heap.size]? = some (.deferred (some [])) → Q .normal { a with defers := { target := .collected W0.heap.size, args := #[] } :: a.defers } W)
    (hstop : ∀ c W, Ix c W → W.heap[W0.heap.size]? = some (.deferred (some [])) → c.wp Tryz.prog Q { a with defers := { target := .collected W0.heap.size, args := #[] } :: a.defers } W) :
    (Code.rangeFunc g #[pt] assign body).wp Tryz.prog Q a W0 :=
  iterP_law (live_iter Bh hb n P) eg_live hg I Ix hL hI hIx h0 hskip (fun i => ringAct pt a q i) (fun i => rfl) (fun L i W K hK => by rw [zip_one]; exact hassign L i W K hK) hbody hdone hstop
section
variable {W W' : World} {hb sb : Nat} {vc : Value} {T : Nat → Prop} {H : List (Option Hc)} {u h : Nat}
theorem HLay.held (g : HLay W hb sb vc T H u h) (m : Nat) (hm : m ≤ 1048576) : HLay (W.setCell ⟨hb, 3, none⟩ (.int .i64 m)) hb sb vc T H u m ∧ Upd (fun x => x = hb) W (W.setCell ⟨hb, 3, none⟩ (.int .i64 m)) := by
  have hU : Upd (fun x => x = hb) W (W.setCell ⟨hb, 3, none⟩ (.int .i64 m)) := (Upd.refl (fun x => x = hb) W).setCell (p := ⟨hb, 3, none⟩) (.inl rfl) _
  refine ⟨⟨?_, ?_, ?_, ?_, g.thb, g.tvc, g.ok, g.len, g.u1, hm⟩, hU⟩
  · have := heap_set (b := hb) g.obj 3 (.int .i64 (m : Nat))
    exact this
  · refine owns_on g.own (fun k e => hU.block k (g.clt k e) ?_)
    rintro rfl
    exact own_ne g.own g.obj (by decide) e.symm
  · refine g.st.on (fun k e => hU.block k (g.tlt k e) ?_)
    rintro rfl
    exact g.thb e
  · intro k e
    have := hU.size
    have := g.tlt k e
    omega
set_option maxRecDepth 20000 in
set_option maxHeartbeats 1000000 in
theorem keep_c (g : HLay W hb sb vc T H u h) (vr : Value) (R : List Bool) (hRl : R.length = H.length) (B0 : Nat) (ho : W.ownsRow B0 4 1 vr R.length (R.map .bool)) (l : Low B0 hb vc T) (hB0 : B0 ≤ W.heap.size) (need : Nat) (hn : need ≤ 1048576) :
    Calls Tryz.prog 130 #[.pointer (some ⟨hb, 0, none⟩), vr, .int .i64 need] W fun e w' => e = .returned (.tuple #[]) ∧ Upd (fun x => T x ∨ x = hb ∨ vc.ownBlock = some x) W w' ∧ ∃ T', HLay w' hb sb vc T' (stepH H R H.length) u need ∧ ∀ k, T' k → T k ∨ W.heap.size ≤ k := by
  have hlt := g.hlt
  obtain ⟨ov, capv, hvr⟩ := slice_of (owns_base ho (b' := 0) (fun _ _ => Nat.zero_le _))
  subst hvr
  have cv := live_c
  refine (callsIn_wide (n := 9)).1 ?_
  refine callsIn_of_wp_marks Tryz.func130 rfl trivial ?_ rfl
  refine wpIn_wide.2 ?_
  simp only [Tryz.ntmps130, List.size_toArray, List.length_cons, List.length_nil, Nat.reduceAdd, Nat.reduceSub, Array.replicate_succ, Array.replicate_zero, List.push_toArray, List.append_toArray, List.nil_append, List.cons_append]
  go_wp2
  refine wp_scope_straight ?_
  go_wp2_with (first | (refine wp_label ?_) | (go_at_call 176; (with_reducible refine (cv _ _).mono ?_); rintro e w8 ⟨rfl, hw8⟩; (have hw' := hw8.symm); subst hw'; clear hw8))
  have b1 : Boxed (((W.alloc (.cells #[.pointer (some ⟨hb, 0, none⟩)] 23)).alloc (.cells #[.slice ov H.length capv] 153)).alloc (.cells #[.pointer (some ⟨hb, 0, none⟩)] 23)) W.heap.size 23 (.pointer (some ⟨hb, 0, none⟩)) := ((Boxed.new W _ _).alloc _).alloc _
  have b2 : Boxed (((W.alloc (.cells #[.pointer (some ⟨hb, 0, none⟩)] 23)).alloc (.cells #[.slice ov H.length capv] 153)).alloc (.cells #[.pointer (some ⟨hb, 0, none⟩)] 23)) (W.heap.size + 1) 153 (.slice ov H.length capv) := by
    have := (Boxed.new (W.alloc (.cells #[.pointer (some ⟨hb, 0, none⟩)] 23)) 153 (.slice ov H.length capv)).alloc (.cells #[.pointer (some ⟨hb, 0, none⟩)] 23)
    rwa [World.size_alloc] at this
  have b3 : Boxed (((W.alloc (.cells #[.pointer (some ⟨hb, 0, none⟩)] 23)).alloc (.cells #[.slice ov H.length capv] 153)).alloc (.cells #[.pointer (some ⟨hb, 0, none⟩)] 23)) (W.heap.size + 1 + 1) 23 (.pointer (some ⟨hb, 0, none⟩)) := by
    have := Boxed.new ((W.alloc (.cells #[.pointer (some ⟨hb, 0, none⟩)] 23)).alloc (.cells #[.slice ov H.length capv] 153)) 23 (.pointer (some ⟨hb, 0, none⟩))
    rwa [World.size_alloc, World.size_alloc] at this
  have hB3 : Below W.heap.size W (((W.alloc (.cells #[.pointer (some ⟨hb, 0, none⟩)] 23)).alloc (.cells #[.slice ov H.length capv] 153)).alloc (.cells #[.pointer (some ⟨hb, 0, none⟩)] 23)) := (((Below.refl _ W).alloc (Nat.le_refl _) _).alloc (by simp) _).alloc (by simp; omega) _
  have hz3 : (((W.alloc (.cells #[.pointer (some ⟨hb, 0, none⟩)] 23)).alloc (.cells #[.slice ov H.length capv] 153)).alloc (.cells #[.pointer (some ⟨hb, 0, none⟩)] 23)).heap.size = W.heap.size + 3 := by simp
  generalize World.alloc (World.alloc (World.alloc W _) _) _ = W3 at *
  have g3 := g.below hB3
  have ho3 : W3.ownsRow B0 4 1 (.slice ov R.length capv) R.length (R.map .bool) := owns_on ho (fun k e => hB3.block k (ho.lt k e).2)
  rw [hRl] at ho3
  have hvlt : ∀ k, (Value.slice ov H.length capv).ownBlock = some k → B0 ≤ k ∧ k < W.heap.size := fun k e => ho.lt k (by rw [hRl]; exact e)
  have hcv := l.vc
  have hst := l.st
  have hhb := l.hb
  refine live_law (hb := hb) (n := H.length) (P := fun k => ((H[k]?).getD none).isSome) rfl
    (fun i W' => ∃ T', HLay W' hb sb vc T' (stepH H R i) u h ∧ (∀ x, T' x → T x ∨ W.heap.size + 5 ≤ x) ∧ Boxed W' W.heap.size 23 (.pointer (some ⟨hb, 0, none⟩)) ∧ Boxed W' (W.heap.size + 1) 153 (.slice ov H.length capv) ∧ Boxed W' (W.heap.size + 1 + 1) 23 (.pointer (some ⟨hb, 0, none⟩)) ∧ W'.ownsRow B0 4 1 (.slice ov H.length capv) H.length (R.map .bool) ∧ Upd (fun x => T x ∨ x = hb ∨ vc.ownBlock = some x) W W')
    (fun _ _ => False) ?hL ?hI ?hIx ⟨T, g3, fun x e => .inl e, b1, b2, b3, ho3, Upd.of_below hB3⟩ ?skip 6 ?assign ?body ?done ?stop
  case hL =>
    rintro i W' ⟨T', g1, _, _, _, g5, _, _⟩
    exact ⟨g5.cell, sb, vc, T', _, u, h, g1, stepH_len _ _ _, fun k hk _ => by rw [stepH_above _ _ _ _ hk]⟩
  case hI =>
    rintro i Wa Wb ⟨T', g1, g2, g3, g4, g5, g6, g7⟩ hu
    refine ⟨T', g1.upd hu (by omega) (fun k e => by have := hcv k e; omega) (fun k e => by rcases g2 k e with e | e; · have := hst k e; omega
                                                                                           · omega), g2, box_of (hu.block _ g3.lt (by omega)) g3, box_of (hu.block _ g4.lt (by omega)) g4, box_of (hu.block _ g5.lt (by omega)) g5, owns_on g6 (fun k e => hu.block k (g6.lt k e).2 (by have := hvlt k e; omega)), ⟨hu.os.trans g7.os, hu.tape.trans g7.tape, hu.output.trans g7.output, Nat.le_trans g7.size hu.size, fun k hk hn => (hu.block k (Nat.lt_of_lt_of_le hk g7.size) (by omega)).trans (g7.block k hk hn)⟩⟩
  case hIx => intro c Wa Wb hF; exact hF.elim
  case skip =>
    rintro i Wa hi hP ⟨T', g1, g2⟩
    have hd : H[i]? = some none := by
      rw [List.getElem?_eq_getElem hi] at hP ⊢
      simp only [Option.getD_some] at hP
      cases e : H[i] with
      | none => rfl
      | some c => rw [e] at hP; cases hP
    rw [← stepH_dead H R i hd] at g1
    exact ⟨T', g1, g2⟩
  case assign =>
    intro L x W' K hK
    gi_wp2_with (simp only [Oper.semAt]; go_simp)
    exact hK
  case body =>
    rintro L i hi W' hP hLe ⟨T', g1, g2, g3, g4, g5, g6, g7⟩ hs ⟨r, hr⟩
    simp only [ringAct, List.setIfInBounds_toArray, List.set_cons_succ, List.set_cons_zero]
    obtain ⟨gR, capR, hv, _⟩ := own_slice (owns_base g6 (b' := 0) (fun _ _ => Nat.zero_le _)) (by omega)
    cases hv
    have hcR := g6.cellAt i (by omega)
    have hRi : R[i]? = some R[i] := List.getElem?_eq_getElem (by omega)
    rw [List.getElem?_map, hRi, Option.map_some] at hcR
    have cr := g4.cell
    have ch := g3.cell
    have i0 : (0 : Int) ≤ i := by omega
    have i1 : (i : Int) < H.length := by omega
    have hgd : R.getD i false = R[i] := by rw [List.getD_eq_getElem?_getD, hRi]; rfl
    cases hb1 : R[i] with
    | true =>
      have hst1 : stepH H R (i + 1) = stepH H R i := by
        show (if R.getD i false = true then stepH H R i else (stepH H R i).set i none) = _
        rw [hgd, hb1, if_pos rfl]
      rw [hb1] at hcR
      have fin : Hid (∃ T', HLay W' hb sb vc T' (stepH H R (i + 1)) u h ∧ (∀ x, T' x → T x ∨ W.heap.size + 5 ≤ x) ∧ Boxed W' W.heap.size 23 (.pointer (some ⟨hb, 0, none⟩)) ∧ Boxed W' (W.heap.size + 1) 153 (.slice (some ⟨gR, 0, none⟩) H.length capv) ∧ Boxed W' (W.heap.size + 1 + 1) 23 (.pointer (some ⟨hb, 0, none⟩)) ∧ W'.ownsRow B0 4 1 (.slice (some ⟨gR, 0, none⟩) H.length capv) H.length (R.map .bool) ∧ Upd (fun x => T x ∨ x = hb ∨ vc.ownBlock = some x) W W') := ⟨T', by rw [hst1]; exact g1, g2, g3, g4, g5, g6, g7⟩
      clear g1 g2 g3 g4 g5 g6 g7 hr hst1 b1 b2 b3 ho3 hvlt
      gi_wp2_with (simp only [Oper.semAt]; go_simp)
      exact ⟨⟨rfl, rfl⟩, fin.out⟩
    | false =>
      have hst1 : stepH H R (i + 1) = (stepH H R i).set i none := by
        show (if R.getD i false = true then stepH H R i else (stepH H R i).set i none) = _
        rw [hgd, hb1, if_neg (by decide)]
      rw [hb1] at hcR
      obtain ⟨c, hc⟩ : ∃ c, H[i]? = some (some c) := by
        rw [List.getElem?_eq_getElem hi] at hP ⊢
        simp only [Option.getD_some] at hP
        cases e : H[i] with
        | none => rw [e] at hP; cases hP
        | some c => exact ⟨c, rfl⟩
      have hci : (stepH H R i)[i]? = some (some c) := by rw [stepH_above _ _ _ _ (Nat.le_refl _)]; exact hc
      have cg := give_st g1.st i c.bytes (hA_some hci)
      have c0 := g1.cell 0
      simp only [List.getElem?_cons_zero] at c0
      have hil : i < (stepH H R i).length := by rw [stepH_len]; exact hi
      obtain ⟨b, cap, hvc, hcell, hth⟩ := g1.at hil
      rw [stepH_len] at hvc
      have c1 := g1.cell 1
      simp only [List.getElem?_cons_succ, List.getElem?_cons_zero] at c1
      rw [hvc] at c1
      have hbo : vc.ownBlock = some b := by rw [hvc]; rfl
      have hbT := g1.tvc b hbo
      have hbl := hcv b hbo
      have nT : ∀ x, W.heap.size ≤ x → x < W.heap.size + 5 → ¬ T' x := by
        intro x h1 h2 e
        rcases g2 x e with e | e
        · have := hst x e; omega
        · omega
      have nR : ¬ T' gR := by
        intro e
        have h1 := hvlt gR rfl
        rcases g2 gR e with e | e
        · have := hst gR e; omega
        · omega
      have F : ∀ w2, Upd T' W' w2 → St w2 (Nx T' W' w2) sb ((hA (stepH H R i)).set i none) 8388608 1048577 → w2.cell? ⟨W.heap.size, 0, none⟩ = some (.pointer (some ⟨hb, 0, none⟩)) ∧ w2.cell? ⟨hb, 1, none⟩ = some (.slice (some ⟨b, 0, none⟩) H.length cap) ∧ (∃ v0 v1 v2 v3 v4, w2.cell? ⟨b, i * 5, none⟩ = some v0 ∧ w2.cell? ⟨b, i * 5 + 1, none⟩ = some v1 ∧ w2.cell? ⟨b, i * 5 + 2, none⟩ = some v2 ∧ w2.cell? ⟨b, i * 5 + 3, none⟩ = some v3 ∧ w2.cell? ⟨b, i * 5 + 4, none⟩ = some v4) ∧ (w2.frozen? ⟨b, i * 5, none⟩ = false ∧ w2.frozen? ⟨b, i * 5 + 1, none⟩ = false ∧ w2.frozen? ⟨b, i * 5 + 2, none⟩ = false ∧ w2.frozen? ⟨b, i * 5 + 3, none⟩ = false ∧ w2.frozen? ⟨b, i * 5 + 4, none⟩ = false) ∧
          Hid (((((((w2.setCell ⟨b, i * 5, none⟩ (.int .i64 0)).setCell ⟨b, i * 5 + 1, none⟩ (.bool false)).setCell ⟨b, i * 5 + 2, none⟩ (.int .u64 0)).setCell ⟨b, i * 5 + 3, none⟩ (.int .i64 0)).setCell ⟨b, i * 5 + 4, none⟩ (.int .i64 0)).heap[L]? = W'.heap[L]? ∧ (((((w2.setCell ⟨b, i * 5, none⟩ (.int .i64 0)).setCell ⟨b, i * 5 + 1, none⟩ (.bool false)).setCell ⟨b, i * 5 + 2, none⟩ (.int .u64 0)).setCell ⟨b, i * 5 + 3, none⟩ (.int .i64 0)).setCell ⟨b, i * 5 + 4, none⟩ (.int .i64 0)).heap[W3.heap.size]? = W'.heap[W3.heap.size]?) ∧ ∃ T', HLay (((((w2.setCell ⟨b, i * 5, none⟩ (.int .i64 0)).setCell ⟨b, i * 5 + 1, none⟩ (.bool false)).setCell ⟨b, i * 5 + 2, none⟩ (.int .u64 0)).setCell ⟨b, i * 5 + 3, none⟩ (.int .i64 0)).setCell ⟨b, i * 5 + 4, none⟩ (.int .i64 0)) hb sb vc T' (stepH H R (i + 1)) u h ∧ (∀ x, T' x → T x ∨ W.heap.size + 5 ≤ x) ∧ Boxed (((((w2.setCell ⟨b, i * 5, none⟩ (.int .i64 0)).setCell ⟨b, i * 5 + 1, none⟩ (.bool false)).setCell ⟨b, i * 5 + 2, none⟩ (.int .u64 0)).setCell ⟨b, i * 5 + 3, none⟩ (.int .i64 0)).setCell ⟨b, i * 5 + 4, none⟩ (.int .i64 0)) W.heap.size 23 (.pointer (some ⟨hb, 0, none⟩)) ∧ Boxed (((((w2.setCell ⟨b, i * 5, none⟩ (.int .i64 0)).setCell ⟨b, i * 5 + 1, none⟩ (.bool false)).setCell ⟨b, i * 5 + 2, none⟩ (.int .u64 0)).setCell ⟨b, i * 5 + 3, none⟩ (.int .i64 0)).setCell ⟨b, i * 5 + 4, none⟩ (.int .i64 0)) (W.heap.size + 1) 153 (.slice (some ⟨gR, 0, none⟩) H.length capv) ∧ Boxed (((((w2.setCell ⟨b, i * 5, none⟩ (.int .i64 0)).setCell ⟨b, i * 5 + 1, none⟩ (.bool false)).setCell ⟨b, i * 5 + 2, none⟩ (.int .u64 0)).setCell ⟨b, i * 5 + 3, none⟩ (.int .i64 0)).setCell ⟨b, i * 5 + 4, none⟩ (.int .i64 0)) (W.heap.size + 1 + 1) 23 (.pointer (some ⟨hb, 0, none⟩)) ∧ (((((w2.setCell ⟨b, i * 5, none⟩ (.int .i64 0)).setCell ⟨b, i * 5 + 1, none⟩ (.bool false)).setCell ⟨b, i * 5 + 2, none⟩ (.int .u64 0)).setCell ⟨b, i * 5 + 3, none⟩ (.int .i64 0)).setCell ⟨b, i * 5 + 4, none⟩ (.int .i64 0)).ownsRow B0 4 1 (.slice (some ⟨gR, 0, none⟩) H.length capv) H.length (R.map .bool) ∧ Upd (fun x => T x ∨ x = hb ∨ vc.ownBlock = some x) W (((((w2.setCell ⟨b, i * 5, none⟩ (.int .i64 0)).setCell ⟨b, i * 5 + 1, none⟩ (.bool false)).setCell ⟨b, i * 5 + 2, none⟩ (.int .u64 0)).setCell ⟨b, i * 5 + 3, none⟩ (.int .i64 0)).setCell ⟨b, i * 5 + 4, none⟩ (.int .i64 0))) := by
        intro w2 hU2 hS2
        have e0 : w2.heap[W.heap.size]? = W'.heap[W.heap.size]? := hU2.block _ g3.lt (nT _ (by omega) (by omega))
        have e1 : w2.heap[hb]? = W'.heap[hb]? := hU2.block _ g1.hlt g1.thb
        have e2 : w2.heap[b]? = W'.heap[b]? := hU2.block _ (g1.clt b hbo) hbT
        have cc : ∀ j, j < 5 → w2.cell? ⟨b, i * 5 + j, none⟩ = (clO (some c)).cells[j]? := fun j hj => by rw [World.cell?_of_block e2]; exact hcell j _ hci hj
        have ff : ∀ j, w2.frozen? ⟨b, j, none⟩ = false := fun j => by rw [World.frozen?_of_block e2]; exact hth j
        refine ⟨by rw [World.cell?_of_block e0]; exact ch, by rw [World.cell?_of_block e1]; exact c1, ⟨_, _, _, _, _, cc 0 (by omega), cc 1 (by omega), cc 2 (by omega), cc 3 (by omega), cc 4 (by omega)⟩, ⟨ff _, ff _, ff _, ff _, ff _⟩, ?_⟩
        obtain ⟨q1, q2⟩ := g1.gave i hil hU2 hS2 (b := b) (cap := cap) (by rw [stepH_len]; exact hvc)
        have hk : ∀ x, W.heap.size ≤ x → x < W.heap.size + 5 → x < W'.heap.size → (((((w2.setCell ⟨b, i * 5, none⟩ (.int .i64 0)).setCell ⟨b, i * 5 + 1, none⟩ (.bool false)).setCell ⟨b, i * 5 + 2, none⟩ (.int .u64 0)).setCell ⟨b, i * 5 + 3, none⟩ (.int .i64 0)).setCell ⟨b, i * 5 + 4, none⟩ (.int .i64 0)).heap[x]? = W'.heap[x]? := by
          intro x h1 h2 h3
          refine q2.block x h3 ?_
          rintro (e | e)
          · exact nT x h1 h2 e
          · omega
        show _ ∧ _
        refine ⟨⟨hk L (by omega) (by omega) (by omega), hk _ (by omega) (by omega) (by omega)⟩, Nx T' W' w2, by rw [hst1]; exact q1, ?_, box_of (hk _ (by omega) (by omega) g3.lt) g3, box_of (hk _ (by omega) (by omega) g4.lt) g4, box_of (hk _ (by omega) (by omega) g5.lt) g5, owns_on g6 (fun k e => q2.block k (g6.lt k e).2 ?_), ?_⟩
        · rintro x (e | e)
          · exact g2 x e
          · right; omega
        · cases e
          rintro (e | e)
          · exact nR e
          · have h1 := (hvlt gR rfl).1
            have h2 : gR = b := e
            omega
        · refine g7.trans (q2.mono ?_)
          rintro x (e | rfl)
          · rcases g2 x e with e | e
            · exact .inl (.inl e)
            · have := g1.tlt x (by assumption)
              exact .inr ⟨by omega, this⟩
          · exact .inl (.inr (.inr hbo))
      clear g1 g2 g3 g4 g5 g6 g7 hr hst1 b1 b2 b3 ho3 hvlt hcell hth nT nR hci hc
      gi_wp2_with (first | (simp only [Oper.semAt]; go_simp) | ((refine ⟨trivial, ?_⟩); gi_at_call 177; (refine (CallsIn.inRound L (callsIn_wide.2 cg)).mono ?_); rintro e w2 ⟨rfl, hU2, hS2⟩; (obtain ⟨f1, f2, ⟨v0, v1, v2, v3, v4, f30, f31, f32, f33, f34⟩, ⟨f40, f41, f42, f43, f44⟩, f5⟩ := F w2 hU2 hS2); clear F cg hU2 hS2))
      exact f5.out
  case done =>
    rintro W' ⟨T', g1, g2, g3, g4, g5, g6, g7⟩ hD
    have ch := g3.cell
    have c3 := g1.cell 3
    simp only [List.getElem?_cons_succ, List.getElem?_cons_zero] at c3
    have th := g1.thaw 3
    obtain ⟨q1, q2⟩ := g1.held need hn
    have hsz : W.heap.size ≤ W'.heap.size := g7.size
    have hD2 : (W'.setCell ⟨hb, 3, none⟩ (.int .i64 need)).heap[W3.heap.size]? = some (.deferred (some [])) := by rw [Below.heap_setCell _ _ _ _ (by show W3.heap.size ≠ hb; omega)]; exact hD
    have Q1 := hid q1
    have U7 := hid (g7.trans' (q2.mono (fun x e => .inr (.inl e))))
    have G2 := hid g2
    clear q1 q2 g1 g2 g3 g4 g5 g6 g7
    go_wp2
    refine ⟨by simp, .inl ⟨_, _, rfl, run_takeDeferred hD2, ?_⟩⟩
    refine ⟨_, results_none rfl _ _ _, rfl, U7.out.putObj (.inr ⟨by omega, (Array.getElem?_eq_some_iff.1 hD2).1⟩) _, T', ?_, ?_⟩
    · refine Q1.out.upd (upd_put (S := fun k => k = W3.heap.size) rfl _) (by omega) (fun k e => by have := hcv k e; omega) ?_
      intro k e
      rcases G2.out k e with e | e
      · have := hst k e; omega
      · omega
    · intro k e
      rcases G2.out k e with e | e
      · exact .inl e
      · right; omega
  case stop => intro c W' hF; exact hF.elim
end
end Go.Proofs.YtgmimmdojkoppaaGreatDoor.W
/- Package heap: Collect. -/
namespace Go.Proofs.YtgmimmdojkoppaaGreatDoor.W
open Go.ChangeShapes Go.WideShapes Go.RowKit Go.Shelf
set_option linter.unusedVariables false
/-- the cells of R -/
def zipK : List (Option Hc) → List Bool → List (Option Hc)
  | c :: H, b :: R => (if b = true then c else none) :: zipK H R
  | _, _ => []
theorem zipK_sum (H : List (Option Hc)) (R : List Bool) : sumH (zipK H R) = needR H R := by
  induction H generalizing R with
  | nil => cases R <;> rfl
  | cons c H ih =>
    cases R with
    | nil => rfl
    | cons b R =>
      simp only [zipK, needR, sumH_cons, ih]
      cases b
      · simp [needO]
      · simp
theorem zipK_get (H : List (Option Hc)) (R : List Bool) (hl : R.length = H.length) (i : Nat) (hi : i < H.length) : (zipK H R)[i]? = if R.getD i false = true then H[i]? else some none := by
  induction H generalizing R i with
  | nil => simp at hi
  | cons c H ih =>
    cases R with
    | nil => simp at hl
    | cons b R =>
      cases i with
      | zero => cases b <;> simp [zipK]
      | succ i =>
        have := ih R (by simpa using hl) i (by simpa using hi)
        simpa [zipK] using this
theorem zipK_len (H : List (Option Hc)) (R : List Bool) (hl : R.length = H.length) : (zipK H R).length = H.length := by
  induction H generalizing R with
  | nil => cases R <;> rfl
  | cons c H ih =>
    cases R with
    | nil => simp at hl
    | cons b R => simp [zipK, ih R (by simpa using hl)]
theorem stepH_below (H : List (Option Hc)) (R : List Bool) (k i : Nat) (h : i < k) (hi : i < H.length) : (stepH H R k)[i]? = if R.getD i false = true then H[i]? else some none := by
  induction k with
  | zero => omega
  | succ k ih =>
    show (if R.getD k false = true then stepH H R k else (stepH H R k).set k none)[i]? = _
    by_cases e : i = k
    · subst e
      by_cases hr : R.getD i false = true
      · rw [if_pos hr, if_pos hr]; exact stepH_above H R i i (Nat.le_refl _)
      · rw [if_neg hr, if_neg hr, List.getElem?_set_self (by rw [stepH_len]; exact hi)]
    · have := ih (by omega)
      split
      · exact this
      · rw [List.getElem?_set_ne (by omega)]; exact this
theorem stepH_zip (H : List (Option Hc)) (R : List Bool) (hl : R.length = H.length) : stepH H R H.length = zipK H R := by
  apply List.ext_getElem?
  intro i
  by_cases hi : i < H.length
  · rw [stepH_below H R _ i hi hi, zipK_get H R hl i hi]
  · rw [List.getElem?_eq_none (by rw [stepH_len]; omega), List.getElem?_eq_none (by rw [zipK_len H R hl]; omega)]
section
variable {W : World} {S : Nat → Prop} {hb : Nat} {H : List (Option Hc)} {u : Nat}
end
end Go.Proofs.YtgmimmdojkoppaaGreatDoor.W
/- Package heap: Put: what it leads to, in pieces. -/
namespace Go.Proofs.YtgmimmdojkoppaaGreatDoor.W
open Go.ChangeShapes Go.WideShapes Go.RowKit Go.Shelf
set_option linter.unusedVariables false
/-- the words of a row that is put -/
def Hc.ws : Hc → List Nat
  | .row ws => ws
  | _ => []
/-- what is reached from a cell that is put -/
def Hc.seeds (c : Hc) : List Nat := c.ws ++ [c.cl.base]
/-- the cells that are left when room is made for c -/
noncomputable def roomH (H : List (Option Hc)) (u : Nat) (c : Hc) (rs : List Nat) : List (Option Hc) := if sumH H + c.need ≤ u then H else zipK H (rchB H (rs ++ c.seeds))
section
variable {W W' : World} {hb sb : Nat} {vc : Value} {T S : Nat → Prop} {H : List (Option Hc)} {u h : Nat}
theorem SaveOk.next {c : Hc} {v : Value} (h1 : SaveOk W hb sb S c v u h) (hU : Upd S W W') : SaveOk W' hb sb (Nx S W W') c v u h := by
  intro w T' vc' H' id hl hi hT hU2
  have hz := hU.size
  refine h1 w T' vc' H' id hl hi (fun k e => ?_) (hU.trans hU2)
  rcases hT k e with (e | e) | e
  · exact .inl e
  · exact .inr e.1
  · right; omega
theorem put_tail {w : World} (g : HLay w hb sb vc T H u (sumH H)) (hU : Upd S W w) (hS1 : Nx S W w hb) (hS2 : ∀ k, vc.ownBlock = some k → Nx S W w k) (hS3 : ∀ k, T k → Nx S W w k) (c : Hc) (hok : c.ok) (i : Int) (t : ByteArray) (ob ow : Option Addr) (bl bc wl wc : Nat) (hwl : wl ≤ 1048576) (hsz : sizeV c.cl.kind c.cl.view t.size bl wl = c.bytes.length) (hfit : sumH H + c.need ≤ u) (hsv : ∀ sb h, SaveOk W hb sb S c (.agg #[.int .i64 c.cl.kind, .bool c.cl.view, .int .i64 i, .string t, .slice ob bl bc, .slice ow wl wc, .int .u64 c.cl.base, .int .i64 c.cl.frm, .int .i64 c.cl.len]) u h) :
    w.cell? ⟨hb, 3, none⟩ = some (.int .i64 (sumH H : Nat)) ∧ w.cell? ⟨hb, 2, none⟩ = some (.int .i64 u) ∧ w.frozen? ⟨hb, 3, none⟩ = false ∧ lid H < 281474976710656 ∧
    Calls Tryz.prog 133 #[.pointer (some ⟨hb, 0, none⟩), .agg #[.int .i64 c.cl.kind, .bool c.cl.view, .int .i64 i, .string t, .slice ob bl bc, .slice ow wl wc, .int .u64 c.cl.base, .int .i64 c.cl.frm, .int .i64 c.cl.len]] (w.setCell ⟨hb, 3, none⟩ (.int .i64 ((sumH H : Int) + (c.need : Int)))) fun e w' => e = .returned (.int .i64 (lid H : Nat)) ∧ Hid (Upd S W w' ∧ HSt w' (Nx S W w') hb (putH H (lid H) (some c)) u) := by
  have hu := g.u1
  obtain ⟨q1, q2⟩ := g.held (sumH H + c.need) (by omega)
  have h5 := lid_le H
  have h6 := g.len
  refine ⟨g.cell 3, g.cell 2, g.thaw 3, by omega, ?_⟩
  have e1 : (((sumH H + c.need : Nat) : Int)) = (sumH H : Int) + (c.need : Int) := by omega
  rw [e1] at q1 q2
  generalize w.setCell ⟨hb, 3, none⟩ (.int .i64 ((sumH H : Int) + (c.need : Int))) = w7 at *
  have hU7 : Upd S W w7 := hU.trans (q2.mono (fun x e => by rw [e]; exact hS1))
  have hz7 := q2.size
  have nx : ∀ k, Nx S W w k → Nx S W w7 k := by
    rintro k (e | e)
    · exact .inl e
    · exact .inr ⟨e.1, by omega⟩
  refine (add_c q1 (Nx S W w7) ?_ c hok i t ob ow bl bc wl wc hwl hsz (by omega) ((hsv sb _).next hU7)).mono ?_
  · rintro k (e | e | e)
    · exact nx k (hS3 k e)
    · rw [e]; exact nx _ hS1
    · exact nx k (hS2 k e)
  · rintro e w' ⟨rfl, hU', vc', T', hL', hT', hv'⟩
    have hz' := hU'.size
    have hzW := hU7.size
    have nx' : ∀ k, k < w'.heap.size → (Nx S W w k ∨ w7.heap.size ≤ k) → Nx S W w' k := by
      rintro k hk ((e | e) | e)
      · exact .inl e
      · exact .inr ⟨e.1, hk⟩
      · exact .inr ⟨by omega, hk⟩
    refine ⟨rfl, ?_⟩
    show _ ∧ _
    refine ⟨hU7.trans hU', sb, vc', T', ?_, nx' hb hL'.hlt (.inl hS1), fun k e => nx' k (hL'.clt k e) ((hv' k e).imp (hS2 k) id), fun k e => nx' k (hL'.tlt k e) ((hT' k e).imp (hS3 k) id), ?_⟩
    · rw [putH_sum]; exact hL'
    · rw [putH_sum]; exact hfit
theorem put_sweep {w : World} (g : HLay w hb sb vc T H u (sumH H)) (hfit : sumH H ≤ u) (hU : Upd S W w) (hS1 : Nx S W w hb) (hS2 : ∀ k, vc.ownBlock = some k → Nx S W w k) (hS3 : ∀ k, T k → Nx S W w k) (vr vw : Value) (rs ws : List Nat) (base : Nat) (hr : WordsAt w vr rs) (hw : WordsAt w vw ws) (hbase : base < 18446744073709551616) :
    (Calls Tryz.prog 131 #[.pointer (some ⟨hb, 0, none⟩), .slice (some ⟨w.heap.size + 1, 0, none⟩) 3 3] ((w.alloc (.cells #[.int .u64 base] 22)).alloc (.cells #[vr, vw, .slice (some ⟨w.heap.size, 0, none⟩) 1 1] 31)) fun e w2 => ∃ vb, e = .returned (.tuple #[vb, .int .i64 (reachN H (rs ++ (ws ++ [base])) : Nat)]) ∧ ((∀ k < w.heap.size, w2.heap[k]? = w.heap[k]?) ∧ Calls Tryz.prog 130 #[.pointer (some ⟨hb, 0, none⟩), vb, .int .i64 (reachN H (rs ++ (ws ++ [base])) : Nat)] w2 fun e w' => e = .returned (.tuple #[]) ∧ (Hid (∃ T', HLay w' hb sb vc T' (zipK H (rchB H (rs ++ (ws ++ [base])))) u (sumH (zipK H (rchB H (rs ++ (ws ++ [base]))))) ∧ Upd S W w' ∧ Nx S W w' hb ∧ (∀ k, vc.ownBlock = some k → Nx S W w' k) ∧ (∀ k, T' k → Nx S W w' k) ∧ sumH (zipK H (rchB H (rs ++ (ws ++ [base])))) ≤ u) ∧ ∀ k < w.heap.size, ¬ (T k ∨ k = hb ∨ vc.ownBlock = some k) → w'.heap[k]? = w.heap[k]?))) := by
  have hu := g.u1
  have hB1 : Below w.heap.size w (w.alloc (.cells #[.int .u64 base] 22)) := (Below.refl _ w).alloc (Nat.le_refl _) _
  have hs1 : (w.alloc (.cells #[.int .u64 base] 22)).heap.size = w.heap.size + 1 := World.size_alloc ..
  have hB2 : Below (w.heap.size + 1) (w.alloc (.cells #[.int .u64 base] 22)) ((w.alloc (.cells #[.int .u64 base] 22)).alloc (.cells #[vr, vw, .slice (some ⟨w.heap.size, 0, none⟩) 1 1] 31)) := by rw [← hs1]; exact (Below.refl _ _).alloc (Nat.le_refl _) _
  have hBl : Below w.heap.size w ((w.alloc (.cells #[.int .u64 base] 22)).alloc (.cells #[vr, vw, .slice (some ⟨w.heap.size, 0, none⟩) 1 1] 31)) := hB1.trans (hB2.mono (by omega))
  have hsl : (((w.alloc (.cells #[.int .u64 base] 22)).alloc (.cells #[vr, vw, .slice (some ⟨w.heap.size, 0, none⟩) 1 1] 31))).heap.size = w.heap.size + 2 := by rw [World.size_alloc, hs1]
  have hbw : WordsAt ((w.alloc (.cells #[.int .u64 base] 22)).alloc (.cells #[vr, vw, .slice (some ⟨w.heap.size, 0, none⟩) 1 1] 31)) (.slice (some ⟨w.heap.size, 0, none⟩) 1 1) [base] := by
    refine ⟨_, _, rfl, by simp, by simpa using hbase, fun i hi => ?_⟩
    simp at hi
    subst hi
    refine ⟨_, rfl, ?_⟩
    have e1 : ((⟨w.heap.size, 0, none⟩ : Addr).add 0) = ⟨w.heap.size, 0, none⟩ := by simp [Addr.add]
    rw [e1]
    refine below_cell (W := w.alloc (.cells #[.int .u64 base] 22)) (by rw [hs1]; exact hB2) ?_
    rw [World.cell?_alloc_new]; rfl
  have hla : ListsAt ((w.alloc (.cells #[.int .u64 base] 22)).alloc (.cells #[vr, vw, .slice (some ⟨w.heap.size, 0, none⟩) 1 1] 31)) (.slice (some ⟨w.heap.size + 1, 0, none⟩) 3 3) [rs, ws, [base]] := by
    refine ⟨_, _, rfl, by simp, fun i hi => ?_⟩
    have hn : ∀ j, (((w.alloc (.cells #[.int .u64 base] 22)).alloc (.cells #[vr, vw, .slice (some ⟨w.heap.size, 0, none⟩) 1 1] 31))).cell? ⟨w.heap.size + 1, j, none⟩ = #[vr, vw, .slice (some ⟨w.heap.size, 0, none⟩) 1 1][j]? := by
      intro j
      have := World.cell?_alloc_new (w.alloc (.cells #[.int .u64 base] 22)) #[vr, vw, .slice (some ⟨w.heap.size, 0, none⟩) 1 1] 31 j
      rw [hs1] at this
      exact this
    have ha : ∀ j, ((⟨w.heap.size + 1, 0, none⟩ : Addr).add j) = ⟨w.heap.size + 1, j, none⟩ := by intro j; unfold Addr.add; split <;> simp_all
    simp at hi
    rcases (by omega : i = 0 ∨ i = 1 ∨ i = 2) with rfl | rfl | rfl
    · exact ⟨_, vr, rfl, by rw [ha, hn]; rfl, words_below hr hBl⟩
    · exact ⟨_, vw, rfl, by rw [ha, hn]; rfl, words_below hw hBl⟩
    · exact ⟨_, _, rfl, by rw [ha, hn]; rfl, hbw⟩
  have cr := reach_b (g.below hBl) _ _ hla (by omega)
  simp only [List.flatten_cons, List.flatten_nil, List.append_nil] at cr
  have hle : reachN H (rs ++ (ws ++ [base])) ≤ 1048576 := by have := needR_le H (rchB H (rs ++ (ws ++ [base]))); unfold reachN; omega
  refine cr.mono ?_
  rintro e w2 ⟨vb, rfl, hBr, ho⟩
  have hB : Below w.heap.size w w2 := hBl.trans (hBr.mono hBl.size)
  have hsz := hBr.size
  refine ⟨vb, rfl, fun k hk => hB.block k hk, ?_⟩
  have g2 := g.below hB
  refine (keep_c g2 vb (rchB H (rs ++ (ws ++ [base]))) (rchB_len H _) (w.heap.size + 2) (by rw [rchB_len, ← hsl]; exact ho) ⟨by have := g.hlt; omega, fun k e => by have := g.clt k e; omega, fun k e => by have := g.tlt k e; omega⟩ (by omega) _ hle).mono ?_
  rintro e w' ⟨rfl, hU', T', gl, hT'⟩
  have hz := hB.size
  have hz' := hU'.size
  have hzW := hU.size
  have hUw : Upd (fun x => T x ∨ x = hb ∨ vc.ownBlock = some x) w w' := (Upd.of_below hB).trans' hU'
  have hin : ∀ x, T x ∨ x = hb ∨ vc.ownBlock = some x → Nx S W w x := by
    rintro x (e | e | e)
    · exact hS3 x e
    · rw [e]; exact hS1
    · exact hS2 x e
  have nx' : ∀ k, k < w'.heap.size → Nx S W w k → Nx S W w' k := by
    rintro k hk (e | e)
    · exact .inl e
    · exact .inr ⟨e.1, hk⟩
  rw [stepH_zip H _ (rchB_len H _)] at gl
  refine ⟨rfl, ?_, fun k hk hn => hUw.block k hk hn⟩
  show ∃ T', _
  refine ⟨T', ?_, hU.trans (hUw.mono hin), nx' hb gl.hlt hS1, fun k e => nx' k (gl.clt k e) (hS2 k e), fun k e => ?_, ?_⟩
  · have e : sumH (zipK H (rchB H (rs ++ (ws ++ [base])))) = reachN H (rs ++ (ws ++ [base])) := zipK_sum H _
    rw [e]; exact gl
  · rcases hT' k e with e2 | e2
    · exact nx' k (gl.tlt k e) (hS3 k e2)
    · exact .inr ⟨by omega, gl.tlt k e⟩
  · rw [zipK_sum]
    have := needR_le H (rchB H (rs ++ (ws ++ [base])))
    omega
end
end Go.Proofs.YtgmimmdojkoppaaGreatDoor.W
/- Package heap: Put. -/
namespace Go.Proofs.YtgmimmdojkoppaaGreatDoor.W
open Go.ChangeShapes Go.WideShapes Go.RowKit Go.Shelf
set_option linter.unusedVariables false
section
variable {W W' : World} {hb sb : Nat} {vc : Value} {T S : Nat → Prop} {H : List (Option Hc)} {u h : Nat}
/-- what Put answers and leaves -/
def PutPost (W : World) (S : Nat → Prop) (hb : Nat) (H1 : List (Option Hc)) (u : Nat) (c : Hc) (e : Ending) (w' : World) : Prop := Upd S W w' ∧ ((sumH H1 + c.need ≤ u ∧ e = .returned (.tuple #[.int .u64 (18445336698825998336 + lid H1 : Nat), .int .i64 0]) ∧ HSt w' (Nx S W w') hb (putH H1 (lid H1) (some c)) u) ∨ (u < sumH H1 + c.need ∧ e = .returned (.tuple #[.int .u64 0, .int .i64 40]) ∧ HSt w' (Nx S W w') hb H1 u))
set_option maxHeartbeats 2000000 in
theorem hput_c (g : HSt W S hb H u) (hS : ∀ k, S k → k < W.heap.size) (c : Hc) (hok : c.ok) (i : Int) (t : ByteArray) (ob ow : Option Addr) (bl bc wl wc : Nat) (htl : t.size ≤ 8388608) (hbl : bl ≤ 8388608) (hwl : wl ≤ 1048576) (hsz : sizeV c.cl.kind c.cl.view t.size bl wl = c.bytes.length) (hws : WordsAt W (.slice ow wl wc) c.ws) (hbase : c.cl.base < 18446744073709551616)
    (hright : ∀ w, Below W.heap.size W w → Calls Tryz.prog 127 #[.agg #[.int .i64 c.cl.kind, .bool c.cl.view, .int .i64 i, .string t, .slice ob bl bc, .slice ow wl wc, .int .u64 c.cl.base, .int .i64 c.cl.frm, .int .i64 c.cl.len], (.func (.func 128) #[.pointer (some ⟨hb, 0, none⟩)] #[])] w fun e w' => e = .returned (.bool true) ∧ Below w.heap.size w w')
    (hsv : ∀ sb h, SaveOk W hb sb S c (.agg #[.int .i64 c.cl.kind, .bool c.cl.view, .int .i64 i, .string t, .slice ob bl bc, .slice ow wl wc, .int .u64 c.cl.base, .int .i64 c.cl.frm, .int .i64 c.cl.len]) u h) (vr : Value) (rs : List Nat) (hr : WordsAt W vr rs) :
    Calls Tryz.prog 63 #[.pointer (some ⟨hb, 0, none⟩), .agg #[.int .i64 c.cl.kind, .bool c.cl.view, .int .i64 i, .string t, .slice ob bl bc, .slice ow wl wc, .int .u64 c.cl.base, .int .i64 c.cl.frm, .int .i64 c.cl.len], vr] W (PutPost W S hb (roomH H u c rs) u c) := by
  obtain ⟨orr, capr, hvr, _⟩ := id hr
  subst hvr
  obtain ⟨sb, vc, T, g1, s1, s2, s3, s4⟩ := g
  have hu := g1.u1
  have hBa : Below W.heap.size W (W.alloc (.cells #[.int .i64 c.cl.kind, .bool c.cl.view, .int .i64 i, .string t, .slice ob bl bc, .slice ow wl wc, .int .u64 c.cl.base, .int .i64 c.cl.frm, .int .i64 c.cl.len] 99)) := (Below.refl _ W).alloc (Nat.le_refl _) _
  have n9 := World.cell?_alloc_new W #[.int .i64 c.cl.kind, .bool c.cl.view, .int .i64 i, .string t, .slice ob bl bc, .slice ow wl wc, .int .u64 c.cl.base, .int .i64 c.cl.frm, .int .i64 c.cl.len] 99
  have hsa : ((W.alloc (.cells #[.int .i64 c.cl.kind, .bool c.cl.view, .int .i64 i, .string t, .slice ob bl bc, .slice ow wl wc, .int .u64 c.cl.base, .int .i64 c.cl.frm, .int .i64 c.cl.len] 99))).heap.size = W.heap.size + 1 := World.size_alloc ..
  have cn := need_c c.cl.kind c.cl.view i t ob ow bl bc wl wc c.cl.base c.cl.frm c.cl.len (by omega) (by omega) (by omega)
  rw [hsz] at cn
  have en : (1 + (c.bytes.length + 7) / 8 : Nat) = c.need := rfl
  rw [en] at cn
  unfold cellV at cn
  have cr := hright (W.alloc (.cells #[.int .i64 c.cl.kind, .bool c.cl.view, .int .i64 i, .string t, .slice ob bl bc, .slice ow wl wc, .int .u64 c.cl.base, .int .i64 c.cl.frm, .int .i64 c.cl.len] 99)) hBa
  have k2 : Hid (∀ w2, Below ((W.alloc (.cells #[.int .i64 c.cl.kind, .bool c.cl.view, .int .i64 i, .string t, .slice ob bl bc, .slice ow wl wc, .int .u64 c.cl.base, .int .i64 c.cl.frm, .int .i64 c.cl.len] 99))).heap.size (W.alloc (.cells #[.int .i64 c.cl.kind, .bool c.cl.view, .int .i64 i, .string t, .slice ob bl bc, .slice ow wl wc, .int .u64 c.cl.base, .int .i64 c.cl.frm, .int .i64 c.cl.len] 99)) w2 → (∀ j, w2.cell? ⟨W.heap.size, j, none⟩ = #[.int .i64 c.cl.kind, .bool c.cl.view, .int .i64 i, .string t, .slice ob bl bc, .slice ow wl wc, .int .u64 c.cl.base, .int .i64 c.cl.frm, .int .i64 c.cl.len][j]?)) := by
    show ∀ w2, _
    intro w2 hB2 j
    rw [World.cell?_of_block (hB2.block W.heap.size (by omega))]
    exact n9 j
  go_enter Tryz.func63, Tryz.ntmps63
  go_upto_region 4 with (first | (go_at_call 127; (with_reducible refine cr.mono ?_); rintro e w2 ⟨rfl, hB2⟩; (have n92 := k2.out w2 hB2)) | (go_at_call 129; (with_reducible refine (cn _).mono ?_); rintro e w3 ⟨rfl, hB3⟩; clear cn))
  have hBa3 : Below ((W.alloc (.cells #[.int .i64 c.cl.kind, .bool c.cl.view, .int .i64 i, .string t, .slice ob bl bc, .slice ow wl wc, .int .u64 c.cl.base, .int .i64 c.cl.frm, .int .i64 c.cl.len] 99))).heap.size (W.alloc (.cells #[.int .i64 c.cl.kind, .bool c.cl.view, .int .i64 i, .string t, .slice ob bl bc, .slice ow wl wc, .int .u64 c.cl.base, .int .i64 c.cl.frm, .int .i64 c.cl.len] 99)) w3 := hB2.trans (hB3.mono hB2.size)
  have n93 := k2.out w3 hBa3
  have hBW : Below W.heap.size W w3 := hBa.trans (hBa3.mono hBa.size)
  have hz3 := hBa3.size
  have g3 := g1.below hBW
  have c3 := g3.cell 3
  have c2 := g3.cell 2
  simp only [List.getElem?_cons_succ, List.getElem?_cons_zero] at c3 c2
  have hU3 : Upd S W w3.drew := (Upd.of_below hBW).drew
  have nx3 : ∀ k, S k → Nx S W w3.drew k := fun k e => .inl e
  have wadd : IntKind.i64.wrap ((sumH H : Int) + (c.need : Int)) = (sumH H : Int) + (c.need : Int) := by
    have h1 : c.need ≤ 1048577 := by
      have := Hc.bytes_len hok
      unfold Hc.need; omega
    rw [IntKind.wrap_i64]; omega
  clear k2 cr n92 hB2 hB3 n9
  by_cases hfit : sumH H + c.need ≤ u
  · have hf1 : ¬ ((sumH H : Int) + (c.need : Int)) > (u : Int) := by omega
    have hro : roomH H u c rs = H := by unfold roomH; rw [if_pos hfit]
    have g5 : HLay w3.drew.drew hb sb vc T H u (sumH H) := g3.same rfl
    have hU5 : Upd S W w3.drew.drew := hU3.drew
    obtain ⟨d3, d2, d4, hl, ca⟩ := put_tail g5 hU5 (.inl s1) (fun k e => .inl (s2 k e)) (fun k e => .inl (s3 k e)) c hok i t ob ow bl bc wl wc hwl hsz hfit hsv
    have n95 : ∀ j, w3.drew.drew.cell? ⟨W.heap.size, j, none⟩ = #[.int .i64 c.cl.kind, .bool c.cl.view, .int .i64 i, .string t, .slice ob bl bc, .slice ow wl wc, .int .u64 c.cl.base, .int .i64 c.cl.frm, .int .i64 c.cl.len][j]? := n93
    have cw := wordOf_c (lid H) hl
    have hne : Hid (W.heap.size ≠ hb) := (show _ ≠ _ by have := g1.hlt; omega)
    clear g5 g3 g1 hsv hright hU5 hU3 hBW hBa3 hBa
    go_region
    go_upto_region 6 with fail
    go_region
    go_upto_region 8 with fail
    generalize w3.drew.drew = w5 at *
    have n96 : ∀ j, (w5.setCell ⟨hb, 3, none⟩ (.int .i64 ((sumH H : Int) + (c.need : Int)))).cell? ⟨W.heap.size, j, none⟩ = #[.int .i64 c.cl.kind, .bool c.cl.view, .int .i64 i, .string t, .slice ob bl bc, .slice ow wl wc, .int .u64 c.cl.base, .int .i64 c.cl.frm, .int .i64 c.cl.len][j]? := by
      intro j
      rw [World.cell?_of_block (Below.heap_setCell _ _ _ _ hne.out)]
      exact n95 j
    go_wp2_with (first | (go_at_call 133; (with_reducible refine ca.mono ?_); rintro e w6 ⟨rfl, hf⟩; clear ca) | (go_at_call 132; (with_reducible refine (cw _).mono ?_); rintro e w' ⟨rfl, hw⟩; (have hw' := hw.symm); subst hw'; clear hw))
    go_ret2
    show PutPost W S hb (roomH H u c rs) u c _ _
    rw [hro]
    exact ⟨hf.out.1, .inl ⟨hfit, rfl, hf.out.2⟩⟩
  · have hf1 : ((sumH H : Int) + (c.need : Int)) > (u : Int) := by omega
    have hro : roomH H u c rs = zipK H (rchB H (rs ++ (c.ws ++ [c.cl.base]))) := by unfold roomH Hc.seeds; rw [if_neg hfit]
    have g4 : HLay w3.drew hb sb vc T H u (sumH H) := g3.same rfl
    have csw := put_sweep g4 s4 hU3 (.inl s1) (fun k e => .inl (s2 k e)) (fun k e => .inl (s3 k e)) _ (.slice ow wl wc) rs c.ws c.cl.base (words_below (W' := w3.drew) hr ⟨hBW.os, hBW.tape, hBW.output, hBW.size, hBW.block⟩) (words_below (W' := w3.drew) hws ⟨hBW.os, hBW.tape, hBW.output, hBW.size, hBW.block⟩) hbase
    have n94 : ∀ j, w3.drew.cell? ⟨W.heap.size, j, none⟩ = #[.int .i64 c.cl.kind, .bool c.cl.view, .int .i64 i, .string t, .slice ob bl bc, .slice ow wl wc, .int .u64 c.cl.base, .int .i64 c.cl.frm, .int .i64 c.cl.len][j]? := n93
    generalize zipK H (rchB H (rs ++ (c.ws ++ [c.cl.base]))) = H1 at *
    generalize reachN H (rs ++ (c.ws ++ [c.cl.base])) = rN at *
    have hne : Hid (W.heap.size ≠ hb) := (show _ ≠ _ by have := g1.hlt; omega)
    have kk : Hid (∀ w' : World, (∀ k < w3.drew.heap.size, ¬ (T k ∨ k = hb ∨ vc.ownBlock = some k) → w'.heap[k]? = w3.drew.heap[k]?) → ∀ j : Nat, w'.cell? ⟨W.heap.size, j, none⟩ = #[.int .i64 c.cl.kind, .bool c.cl.view, .int .i64 i, .string t, .slice ob bl bc, .slice ow wl wc, .int .u64 c.cl.base, .int .i64 c.cl.frm, .int .i64 c.cl.len][j]?) := by
      show ∀ w' : World, _
      intro w' hk j
      have e4 := hk W.heap.size (by show _ < w3.heap.size; omega) (by
        rintro (e | e | e)
        · have := g1.tlt _ e; omega
        · exact hne.out e
        · have := g1.clt _ e; omega)
      rw [World.cell?_of_block e4]
      exact n94 j
    clear g3 g1 hright hU3 hBW hBa3 hBa
    go_region
    go_upto_region 5 with fail
    generalize w3.drew = w4 at *
    go_upto_region 6 with (first | (go_at_call 131; (with_reducible refine csw.mono ?_); rintro e w5 ⟨vb, rfl, hk5, ck⟩; clear csw) | (go_at_call 130; (with_reducible refine ck.mono ?_); rintro e w6 ⟨rfl, hk6, hb6⟩; clear ck))
    have n96 := kk.out w6 hb6
    obtain ⟨T', g6, hU6, t1, t2, t3, t4⟩ := hk6.out
    clear n94 kk hk5 hb6 c3 c2
    have c3 := g6.cell 3
    have c2 := g6.cell 2
    simp only [List.getElem?_cons_succ, List.getElem?_cons_zero] at c3 c2
    have wadd1 : IntKind.i64.wrap ((sumH H1 : Int) + (c.need : Int)) = (sumH H1 : Int) + (c.need : Int) := by
      have h1 : c.need ≤ 1048577 := by
        have := Hc.bytes_len hok
        unfold Hc.need; omega
      rw [IntKind.wrap_i64]; omega
    by_cases hfit1 : sumH H1 + c.need ≤ u
    · have hf2 : ¬ ((sumH H1 : Int) + (c.need : Int)) > (u : Int) := by omega
      have g7 : HLay w6.drew hb sb vc T' H1 u (sumH H1) := g6.same rfl
      obtain ⟨d3, d2, d4, hl, ca⟩ := put_tail g7 hU6.drew t1 t2 t3 c hok i t ob ow bl bc wl wc hwl hsz hfit1 hsv
      have n97 : ∀ j, w6.drew.cell? ⟨W.heap.size, j, none⟩ = #[.int .i64 c.cl.kind, .bool c.cl.view, .int .i64 i, .string t, .slice ob bl bc, .slice ow wl wc, .int .u64 c.cl.base, .int .i64 c.cl.frm, .int .i64 c.cl.len][j]? := n96
      have cw := wordOf_c (lid H1) hl
      clear g7 g6 hsv hU6 hf1 hfit
      go_region
      go_upto_region 8 with fail
      generalize w6.drew = w7 at *
      have n98 : ∀ j, (w7.setCell ⟨hb, 3, none⟩ (.int .i64 ((sumH H1 : Int) + (c.need : Int)))).cell? ⟨W.heap.size, j, none⟩ = #[.int .i64 c.cl.kind, .bool c.cl.view, .int .i64 i, .string t, .slice ob bl bc, .slice ow wl wc, .int .u64 c.cl.base, .int .i64 c.cl.frm, .int .i64 c.cl.len][j]? := by
        intro j
        rw [World.cell?_of_block (Below.heap_setCell _ _ _ _ hne.out)]
        exact n97 j
      go_wp2_with (first | (go_at_call 133; (with_reducible refine ca.mono ?_); rintro e w8 ⟨rfl, hf⟩; clear ca) | (go_at_call 132; (with_reducible refine (cw _).mono ?_); rintro e w' ⟨rfl, hw⟩; (have hw' := hw.symm); subst hw'; clear hw))
      go_ret2
      show PutPost W S hb (roomH H u c rs) u c _ _
      rw [hro]
      exact ⟨hf.out.1, .inl ⟨hfit1, rfl, hf.out.2⟩⟩
    · have hf2 : ((sumH H1 : Int) + (c.need : Int)) > (u : Int) := by omega
      have fin : Hid (Upd S W w6.drew ∧ HSt w6.drew (Nx S W w6.drew) hb H1 u) := ⟨hU6.drew, sb, vc, T', g6.same rfl, t1, t2, t3, t4⟩
      clear g6 hsv hU6 hf1 hfit
      go_region
      go_wp2
      go_ret2
      show PutPost W S hb (roomH H u c rs) u c _ _
      rw [hro]
      exact ⟨fin.out.1, .inr ⟨by omega, rfl, fin.out.2⟩⟩
end
end Go.Proofs.YtgmimmdojkoppaaGreatDoor.W
