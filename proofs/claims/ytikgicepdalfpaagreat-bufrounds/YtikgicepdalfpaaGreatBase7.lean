import Derived.Test.YtikgicepdalfpaaGreatBase5
import Derived.Test.YtikgicepdalfpaaGreatBase6
import Derived.Scope
import Derived.Test.YtikgicepdalfpaaGreatBase4
import Derived.Lib.ConvBytes
import Derived.Laws.ResultCell
/- Package heap: keep. -/
namespace Go.Proofs.YtikgicepdalfpaaGreat.W
open Go.ChangeShapes Go.WideShapes Go.RowKit Go.Shelf
set_option linter.unusedVariables false
/-- the cells, those below k that are not of R let go -/
def stepH (H : List (Option Hc)) (R : List Bool) : Nat → List (Option Hc)
  | 0 => H
  | k + 1 => if R.getD k false = true then stepH H R k else (stepH H R k).set k none
theorem stepH_len (H : List (Option Hc)) (R : List Bool) (k : Nat) : (stepH H R k).length = H.length := by
  induction k with
  | zero => rfl
  | succ k ih => unfold stepH; split <;> simp [ih]
theorem stepH_above (H : List (Option Hc)) (R : List Bool) (k i : Nat) (h : k ≤ i) : (stepH H R k)[i]? = H[i]? := by
  induction k with
  | zero => rfl
  | succ k ih =>
    unfold stepH
    split
    · exact ih (by omega)
    · rw [List.getElem?_set_ne (by omega)]; exact ih (by omega)
theorem stepH_dead (H : List (Option Hc)) (R : List Bool) (k : Nat) (h : H[k]? = some none) : stepH H R (k + 1) = stepH H R k := by
  show (if R.getD k false = true then stepH H R k else (stepH H R k).set k none) = _
  split
  · rfl
  · have e := stepH_above H R k k (Nat.le_refl _)
    rw [h] at e
    apply List.ext_getElem?
    intro i
    by_cases hi : i = k
    · subst hi
      rw [List.getElem?_set_self (List.getElem?_eq_some_iff.1 e).1, e]
    · rw [List.getElem?_set_ne (Ne.symm hi)]
theorem live_law {g : Operand} {pt : Nat} {assign body : Code} {Q : Exit → Act → World → Prop} {a : Act} {W0 : World} {Bh hb n : Nat} {P : Nat → Bool} (hg : a.eval g = .func (.func 102) #[] #[.pointer (some ⟨Bh, 0, none⟩)])
    (I : Nat → World → Prop) (Ix : Code → World → Prop) (hL : ∀ i W, I i W → W.cell? ⟨Bh, 0, none⟩ = some (.pointer (some ⟨hb, 0, none⟩)) ∧ ∃ sb vc T H u h, HLay W hb sb vc T H u h ∧ H.length = n ∧ ∀ k, i ≤ k → k < n → ((H[k]?).getD none).isSome = P k)
    (hI : ∀ i W W', I i W → Upd (fun k => k = W0.heap.size + 1) W W' → I i W')
    (hIx : ∀ c W W', Ix c W → Upd (fun k => k = W0.heap.size + 1) W W' → Ix c W') (h0 : I 0 W0) (hskip : ∀ i W, i < n → P i = false → I i W → I (i + 1) W) (q : Nat)
    (hassign : ∀ (L x : Nat) (W : World) (K : Act → World → Prop), K (ringAct pt a q x) W → assign.wpIn (Fence.wide.inRound L) 7 Tryz.prog (Exit.then K (fun _ _ _ => False)) { tmps := a.tmps.setIfInBounds pt (.int .i64 (x : Int)), defers := [] } W)
    (hbody : ∀ (L : Nat) i (hi : i < n) W, P i = true → L = W0.heap.size + 1 → I i W → W0.heap.size + 2 ≤ W.heap.size → (∃ r, W.heap[L]? = some (.loop r)) → body.wpIn (Fence.wide.inRound L) 7 Tryz.prog (rndWay L W0.heap.size W (I (i + 1)) Ix) (ringAct pt a q i) W)
    (hdone : ∀ W, I n W → W.heap[W0.heap.size]? = some (.deferred (some [])) → Q .normal { a with defers := { target := .collected W0.heap.size, args := #[] } :: a.defers } W)
    (hstop : ∀ c W, Ix c W → W.heap[W0.heap.size]? = some (.deferred (some [])) → c.wp Tryz.prog Q { a with defers := { target := .collected W0.heap.size, args := #[] } :: a.defers } W) :
    (Code.rangeFunc g #[pt] assign body).wp Tryz.prog Q a W0 :=
  iterP_law (live_iter Bh hb n P) eg_live hg I Ix hL hI hIx h0 hskip (fun i => ringAct pt a q i) (fun i => rfl) (fun L i W K hK => by rw [zip_one]; exact hassign L i W K hK) hbody hdone hstop
section
variable {W W' : World} {hb sb : Nat} {vc : Value} {T : Nat → Prop} {H : List (Option Hc)} {u h : Nat}
theorem HLay.held (g : HLay W hb sb vc T H u h) (m : Nat) (hm : m ≤ 1048576) : HLay (W.setCell ⟨hb, 3, none⟩ (.int .i64 m)) hb sb vc T H u m ∧ Upd (fun x => x = hb) W (W.setCell ⟨hb, 3, none⟩ (.int .i64 m)) := by
  have hU : Upd (fun x => x = hb) W (W.setCell ⟨hb, 3, none⟩ (.int .i64 m)) := (Upd.refl (fun x => x = hb) W).setCell (p := ⟨hb, 3, none⟩) (.inl rfl) _
  refine ⟨⟨?_, ?_, ?_, ?_, g.thb, g.tvc, g.ok, g.len, g.u1, hm⟩, hU⟩
  · have := heap_set (b := hb) g.obj 3 (.int .i64 (m : Nat))
    exact this
  · refine owns_on g.own (fun k e => hU.block k (g.clt k e) ?_)
    rintro rfl
    exact own_ne g.own g.obj (by decide) e.symm
  · refine g.st.on (fun k e => hU.block k (g.tlt k e) ?_)
    rintro rfl
    exact g.thb e
  · intro k e
    have := hU.size
    have := g.tlt k e
    omega
set_option maxRecDepth 20000 in
set_option maxHeartbeats 1000000 in
theorem keep_c (g : HLay W hb sb vc T H u h) (vr : Value) (R : List Bool) (hRl : R.length = H.length) (B0 : Nat) (ho : W.ownsRow B0 4 1 vr R.length (R.map .bool)) (l : Low B0 hb vc T) (hB0 : B0 ≤ W.heap.size) (need : Nat) (hn : need ≤ 1048576) :
    Calls Tryz.prog 34 #[.pointer (some ⟨hb, 0, none⟩), vr, .int .i64 need] W fun e w' => e = .returned (.tuple #[]) ∧ Upd (fun x => T x ∨ x = hb ∨ vc.ownBlock = some x) W w' ∧ ∃ T', HLay w' hb sb vc T' (stepH H R H.length) u need ∧ ∀ k, T' k → T k ∨ W.heap.size ≤ k := by
  have hlt := g.hlt
  obtain ⟨ov, capv, hvr⟩ := slice_of (owns_base ho (b' := 0) (fun _ _ => Nat.zero_le _))
  subst hvr
  have cv := live_c
  refine (callsIn_wide (n := 9)).1 ?_
  refine callsIn_of_wp_marks Tryz.func34 rfl trivial ?_ rfl
  refine wpIn_wide.2 ?_
  simp only [Tryz.ntmps34, List.size_toArray, List.length_cons, List.length_nil, Nat.reduceAdd, Nat.reduceSub, Array.replicate_succ, Array.replicate_zero, List.push_toArray, List.append_toArray, List.nil_append, List.cons_append]
  go_wp2
  refine wp_scope_straight ?_
  go_wp2_with (first | (refine wp_label ?_) | (go_at_call 65; (with_reducible refine (cv _ _).mono ?_); rintro e w8 ⟨rfl, hw8⟩; (have hw' := hw8.symm); subst hw'; clear hw8))
  have b1 : Boxed (((W.alloc (.cells #[.pointer (some ⟨hb, 0, none⟩)] 23)).alloc (.cells #[.slice ov H.length capv] 80)).alloc (.cells #[.pointer (some ⟨hb, 0, none⟩)] 23)) W.heap.size 23 (.pointer (some ⟨hb, 0, none⟩)) := ((Boxed.new W _ _).alloc _).alloc _
  have b2 : Boxed (((W.alloc (.cells #[.pointer (some ⟨hb, 0, none⟩)] 23)).alloc (.cells #[.slice ov H.length capv] 80)).alloc (.cells #[.pointer (some ⟨hb, 0, none⟩)] 23)) (W.heap.size + 1) 80 (.slice ov H.length capv) := by
    have := (Boxed.new (W.alloc (.cells #[.pointer (some ⟨hb, 0, none⟩)] 23)) 80 (.slice ov H.length capv)).alloc (.cells #[.pointer (some ⟨hb, 0, none⟩)] 23)
    rwa [World.size_alloc] at this
  have b3 : Boxed (((W.alloc (.cells #[.pointer (some ⟨hb, 0, none⟩)] 23)).alloc (.cells #[.slice ov H.length capv] 80)).alloc (.cells #[.pointer (some ⟨hb, 0, none⟩)] 23)) (W.heap.size + 1 + 1) 23 (.pointer (some ⟨hb, 0, none⟩)) := by
    have := Boxed.new ((W.alloc (.cells #[.pointer (some ⟨hb, 0, none⟩)] 23)).alloc (.cells #[.slice ov H.length capv] 80)) 23 (.pointer (some ⟨hb, 0, none⟩))
    rwa [World.size_alloc, World.size_alloc] at this
  have hB3 : Below W.heap.size W (((W.alloc (.cells #[.pointer (some ⟨hb, 0, none⟩)] 23)).alloc (.cells #[.slice ov H.length capv] 80)).alloc (.cells #[.pointer (some ⟨hb, 0, none⟩)] 23)) := (((Below.refl _ W).alloc (Nat.le_refl _) _).alloc (by simp) _).alloc (by simp; omega) _
  have hz3 : (((W.alloc (.cells #[.pointer (some ⟨hb, 0, none⟩)] 23)).alloc (.cells #[.slice ov H.length capv] 80)).alloc (.cells #[.pointer (some ⟨hb, 0, none⟩)] 23)).heap.size = W.heap.size + 3 := by simp
  generalize World.alloc (World.alloc (World.alloc W _) _) _ = W3 at *
  have g3 := g.below hB3
  have ho3 : W3.ownsRow B0 4 1 (.slice ov R.length capv) R.length (R.map .bool) := owns_on ho (fun k e => hB3.block k (ho.lt k e).2)
  rw [hRl] at ho3
  have hvlt : ∀ k, (Value.slice ov H.length capv).ownBlock = some k → B0 ≤ k ∧ k < W.heap.size := fun k e => ho.lt k (by rw [hRl]; exact e)
  have hcv := l.vc
  have hst := l.st
  have hhb := l.hb
  refine live_law (hb := hb) (n := H.length) (P := fun k => ((H[k]?).getD none).isSome) rfl
    (fun i W' => ∃ T', HLay W' hb sb vc T' (stepH H R i) u h ∧ (∀ x, T' x → T x ∨ W.heap.size + 5 ≤ x) ∧ Boxed W' W.heap.size 23 (.pointer (some ⟨hb, 0, none⟩)) ∧ Boxed W' (W.heap.size + 1) 80 (.slice ov H.length capv) ∧ Boxed W' (W.heap.size + 1 + 1) 23 (.pointer (some ⟨hb, 0, none⟩)) ∧ W'.ownsRow B0 4 1 (.slice ov H.length capv) H.length (R.map .bool) ∧ Upd (fun x => T x ∨ x = hb ∨ vc.ownBlock = some x) W W')
    (fun _ _ => False) ?hL ?hI ?hIx ⟨T, g3, fun x e => .inl e, b1, b2, b3, ho3, Upd.of_below hB3⟩ ?skip 6 ?assign ?body ?done ?stop
  case hL =>
    rintro i W' ⟨T', g1, _, _, _, g5, _, _⟩
    exact ⟨g5.cell, sb, vc, T', _, u, h, g1, stepH_len _ _ _, fun k hk _ => by rw [stepH_above _ _ _ _ hk]⟩
  case hI =>
    rintro i Wa Wb ⟨T', g1, g2, g3, g4, g5, g6, g7⟩ hu
    refine ⟨T', g1.upd hu (by omega) (fun k e => by have := hcv k e; omega) (fun k e => by rcases g2 k e with e | e; · have := hst k e; omega
                                                                                           · omega), g2, box_of (hu.block _ g3.lt (by omega)) g3, box_of (hu.block _ g4.lt (by omega)) g4, box_of (hu.block _ g5.lt (by omega)) g5, owns_on g6 (fun k e => hu.block k (g6.lt k e).2 (by have := hvlt k e; omega)), ⟨hu.os.trans g7.os, hu.tape.trans g7.tape, hu.output.trans g7.output, Nat.le_trans g7.size hu.size, fun k hk hn => (hu.block k (Nat.lt_of_lt_of_le hk g7.size) (by omega)).trans (g7.block k hk hn)⟩⟩
  case hIx => intro c Wa Wb hF; exact hF.elim
  case skip =>
    rintro i Wa hi hP ⟨T', g1, g2⟩
    have hd : H[i]? = some none := by
      rw [List.getElem?_eq_getElem hi] at hP ⊢
      simp only [Option.getD_some] at hP
      cases e : H[i] with
      | none => rfl
      | some c => rw [e] at hP; cases hP
    rw [← stepH_dead H R i hd] at g1
    exact ⟨T', g1, g2⟩
  case assign =>
    intro L x W' K hK
    gi_wp2_with (simp only [Oper.semAt]; go_simp)
    exact hK
  case body =>
    rintro L i hi W' hP hLe ⟨T', g1, g2, g3, g4, g5, g6, g7⟩ hs ⟨r, hr⟩
    simp only [ringAct, List.setIfInBounds_toArray, List.set_cons_succ, List.set_cons_zero]
    obtain ⟨gR, capR, hv, _⟩ := own_slice (owns_base g6 (b' := 0) (fun _ _ => Nat.zero_le _)) (by omega)
    cases hv
    have hcR := g6.cellAt i (by omega)
    have hRi : R[i]? = some R[i] := List.getElem?_eq_getElem (by omega)
    rw [List.getElem?_map, hRi, Option.map_some] at hcR
    have cr := g4.cell
    have ch := g3.cell
    have i0 : (0 : Int) ≤ i := by omega
    have i1 : (i : Int) < H.length := by omega
    have hgd : R.getD i false = R[i] := by rw [List.getD_eq_getElem?_getD, hRi]; rfl
    cases hb1 : R[i] with
    | true =>
      have hst1 : stepH H R (i + 1) = stepH H R i := by
        show (if R.getD i false = true then stepH H R i else (stepH H R i).set i none) = _
        rw [hgd, hb1, if_pos rfl]
      rw [hb1] at hcR
      have fin : Hid (∃ T', HLay W' hb sb vc T' (stepH H R (i + 1)) u h ∧ (∀ x, T' x → T x ∨ W.heap.size + 5 ≤ x) ∧ Boxed W' W.heap.size 23 (.pointer (some ⟨hb, 0, none⟩)) ∧ Boxed W' (W.heap.size + 1) 80 (.slice (some ⟨gR, 0, none⟩) H.length capv) ∧ Boxed W' (W.heap.size + 1 + 1) 23 (.pointer (some ⟨hb, 0, none⟩)) ∧ W'.ownsRow B0 4 1 (.slice (some ⟨gR, 0, none⟩) H.length capv) H.length (R.map .bool) ∧ Upd (fun x => T x ∨ x = hb ∨ vc.ownBlock = some x) W W') := ⟨T', by rw [hst1]; exact g1, g2, g3, g4, g5, g6, g7⟩
      clear g1 g2 g3 g4 g5 g6 g7 hr hst1 b1 b2 b3 ho3 hvlt
      gi_wp2_with (simp only [Oper.semAt]; go_simp)
      exact ⟨⟨rfl, rfl⟩, fin.out⟩
    | false =>
      have hst1 : stepH H R (i + 1) = (stepH H R i).set i none := by
        show (if R.getD i false = true then stepH H R i else (stepH H R i).set i none) = _
        rw [hgd, hb1, if_neg (by decide)]
      rw [hb1] at hcR
      obtain ⟨c, hc⟩ : ∃ c, H[i]? = some (some c) := by
        rw [List.getElem?_eq_getElem hi] at hP ⊢
        simp only [Option.getD_some] at hP
        cases e : H[i] with
        | none => rw [e] at hP; cases hP
        | some c => exact ⟨c, rfl⟩
      have hci : (stepH H R i)[i]? = some (some c) := by rw [stepH_above _ _ _ _ (Nat.le_refl _)]; exact hc
      have cg := give_st g1.st i c.bytes (hA_some hci)
      have c0 := g1.cell 0
      simp only [List.getElem?_cons_zero] at c0
      have hil : i < (stepH H R i).length := by rw [stepH_len]; exact hi
      obtain ⟨b, cap, hvc, hcell, hth⟩ := g1.at hil
      rw [stepH_len] at hvc
      have c1 := g1.cell 1
      simp only [List.getElem?_cons_succ, List.getElem?_cons_zero] at c1
      rw [hvc] at c1
      have hbo : vc.ownBlock = some b := by rw [hvc]; rfl
      have hbT := g1.tvc b hbo
      have hbl := hcv b hbo
      have nT : ∀ x, W.heap.size ≤ x → x < W.heap.size + 5 → ¬ T' x := by
        intro x h1 h2 e
        rcases g2 x e with e | e
        · have := hst x e; omega
        · omega
      have nR : ¬ T' gR := by
        intro e
        have h1 := hvlt gR rfl
        rcases g2 gR e with e | e
        · have := hst gR e; omega
        · omega
      have F : ∀ w2, Upd T' W' w2 → St w2 (Nx T' W' w2) sb ((hA (stepH H R i)).set i none) 8388608 1048577 → w2.cell? ⟨W.heap.size, 0, none⟩ = some (.pointer (some ⟨hb, 0, none⟩)) ∧ w2.cell? ⟨hb, 1, none⟩ = some (.slice (some ⟨b, 0, none⟩) H.length cap) ∧ (∃ v0 v1 v2 v3 v4, w2.cell? ⟨b, i * 5, none⟩ = some v0 ∧ w2.cell? ⟨b, i * 5 + 1, none⟩ = some v1 ∧ w2.cell? ⟨b, i * 5 + 2, none⟩ = some v2 ∧ w2.cell? ⟨b, i * 5 + 3, none⟩ = some v3 ∧ w2.cell? ⟨b, i * 5 + 4, none⟩ = some v4) ∧ (w2.frozen? ⟨b, i * 5, none⟩ = false ∧ w2.frozen? ⟨b, i * 5 + 1, none⟩ = false ∧ w2.frozen? ⟨b, i * 5 + 2, none⟩ = false ∧ w2.frozen? ⟨b, i * 5 + 3, none⟩ = false ∧ w2.frozen? ⟨b, i * 5 + 4, none⟩ = false) ∧
          Hid (((((((w2.setCell ⟨b, i * 5, none⟩ (.int .i64 0)).setCell ⟨b, i * 5 + 1, none⟩ (.bool false)).setCell ⟨b, i * 5 + 2, none⟩ (.int .u64 0)).setCell ⟨b, i * 5 + 3, none⟩ (.int .i64 0)).setCell ⟨b, i * 5 + 4, none⟩ (.int .i64 0)).heap[L]? = W'.heap[L]? ∧ (((((w2.setCell ⟨b, i * 5, none⟩ (.int .i64 0)).setCell ⟨b, i * 5 + 1, none⟩ (.bool false)).setCell ⟨b, i * 5 + 2, none⟩ (.int .u64 0)).setCell ⟨b, i * 5 + 3, none⟩ (.int .i64 0)).setCell ⟨b, i * 5 + 4, none⟩ (.int .i64 0)).heap[W3.heap.size]? = W'.heap[W3.heap.size]?) ∧ ∃ T', HLay (((((w2.setCell ⟨b, i * 5, none⟩ (.int .i64 0)).setCell ⟨b, i * 5 + 1, none⟩ (.bool false)).setCell ⟨b, i * 5 + 2, none⟩ (.int .u64 0)).setCell ⟨b, i * 5 + 3, none⟩ (.int .i64 0)).setCell ⟨b, i * 5 + 4, none⟩ (.int .i64 0)) hb sb vc T' (stepH H R (i + 1)) u h ∧ (∀ x, T' x → T x ∨ W.heap.size + 5 ≤ x) ∧ Boxed (((((w2.setCell ⟨b, i * 5, none⟩ (.int .i64 0)).setCell ⟨b, i * 5 + 1, none⟩ (.bool false)).setCell ⟨b, i * 5 + 2, none⟩ (.int .u64 0)).setCell ⟨b, i * 5 + 3, none⟩ (.int .i64 0)).setCell ⟨b, i * 5 + 4, none⟩ (.int .i64 0)) W.heap.size 23 (.pointer (some ⟨hb, 0, none⟩)) ∧ Boxed (((((w2.setCell ⟨b, i * 5, none⟩ (.int .i64 0)).setCell ⟨b, i * 5 + 1, none⟩ (.bool false)).setCell ⟨b, i * 5 + 2, none⟩ (.int .u64 0)).setCell ⟨b, i * 5 + 3, none⟩ (.int .i64 0)).setCell ⟨b, i * 5 + 4, none⟩ (.int .i64 0)) (W.heap.size + 1) 80 (.slice (some ⟨gR, 0, none⟩) H.length capv) ∧ Boxed (((((w2.setCell ⟨b, i * 5, none⟩ (.int .i64 0)).setCell ⟨b, i * 5 + 1, none⟩ (.bool false)).setCell ⟨b, i * 5 + 2, none⟩ (.int .u64 0)).setCell ⟨b, i * 5 + 3, none⟩ (.int .i64 0)).setCell ⟨b, i * 5 + 4, none⟩ (.int .i64 0)) (W.heap.size + 1 + 1) 23 (.pointer (some ⟨hb, 0, none⟩)) ∧ (((((w2.setCell ⟨b, i * 5, none⟩ (.int .i64 0)).setCell ⟨b, i * 5 + 1, none⟩ (.bool false)).setCell ⟨b, i * 5 + 2, none⟩ (.int .u64 0)).setCell ⟨b, i * 5 + 3, none⟩ (.int .i64 0)).setCell ⟨b, i * 5 + 4, none⟩ (.int .i64 0)).ownsRow B0 4 1 (.slice (some ⟨gR, 0, none⟩) H.length capv) H.length (R.map .bool) ∧ Upd (fun x => T x ∨ x = hb ∨ vc.ownBlock = some x) W (((((w2.setCell ⟨b, i * 5, none⟩ (.int .i64 0)).setCell ⟨b, i * 5 + 1, none⟩ (.bool false)).setCell ⟨b, i * 5 + 2, none⟩ (.int .u64 0)).setCell ⟨b, i * 5 + 3, none⟩ (.int .i64 0)).setCell ⟨b, i * 5 + 4, none⟩ (.int .i64 0))) := by
        intro w2 hU2 hS2
        have e0 : w2.heap[W.heap.size]? = W'.heap[W.heap.size]? := hU2.block _ g3.lt (nT _ (by omega) (by omega))
        have e1 : w2.heap[hb]? = W'.heap[hb]? := hU2.block _ g1.hlt g1.thb
        have e2 : w2.heap[b]? = W'.heap[b]? := hU2.block _ (g1.clt b hbo) hbT
        have cc : ∀ j, j < 5 → w2.cell? ⟨b, i * 5 + j, none⟩ = (clO (some c)).cells[j]? := fun j hj => by rw [World.cell?_of_block e2]; exact hcell j _ hci hj
        have ff : ∀ j, w2.frozen? ⟨b, j, none⟩ = false := fun j => by rw [World.frozen?_of_block e2]; exact hth j
        refine ⟨by rw [World.cell?_of_block e0]; exact ch, by rw [World.cell?_of_block e1]; exact c1, ⟨_, _, _, _, _, cc 0 (by omega), cc 1 (by omega), cc 2 (by omega), cc 3 (by omega), cc 4 (by omega)⟩, ⟨ff _, ff _, ff _, ff _, ff _⟩, ?_⟩
        obtain ⟨q1, q2⟩ := g1.gave i hil hU2 hS2 (b := b) (cap := cap) (by rw [stepH_len]; exact hvc)
        have hk : ∀ x, W.heap.size ≤ x → x < W.heap.size + 5 → x < W'.heap.size → (((((w2.setCell ⟨b, i * 5, none⟩ (.int .i64 0)).setCell ⟨b, i * 5 + 1, none⟩ (.bool false)).setCell ⟨b, i * 5 + 2, none⟩ (.int .u64 0)).setCell ⟨b, i * 5 + 3, none⟩ (.int .i64 0)).setCell ⟨b, i * 5 + 4, none⟩ (.int .i64 0)).heap[x]? = W'.heap[x]? := by
          intro x h1 h2 h3
          refine q2.block x h3 ?_
          rintro (e | e)
          · exact nT x h1 h2 e
          · omega
        show _ ∧ _
        refine ⟨⟨hk L (by omega) (by omega) (by omega), hk _ (by omega) (by omega) (by omega)⟩, Nx T' W' w2, by rw [hst1]; exact q1, ?_, box_of (hk _ (by omega) (by omega) g3.lt) g3, box_of (hk _ (by omega) (by omega) g4.lt) g4, box_of (hk _ (by omega) (by omega) g5.lt) g5, owns_on g6 (fun k e => q2.block k (g6.lt k e).2 ?_), ?_⟩
        · rintro x (e | e)
          · exact g2 x e
          · right; omega
        · cases e
          rintro (e | e)
          · exact nR e
          · have h1 := (hvlt gR rfl).1
            have h2 : gR = b := e
            omega
        · refine g7.trans (q2.mono ?_)
          rintro x (e | rfl)
          · rcases g2 x e with e | e
            · exact .inl (.inl e)
            · have := g1.tlt x (by assumption)
              exact .inr ⟨by omega, this⟩
          · exact .inl (.inr (.inr hbo))
      clear g1 g2 g3 g4 g5 g6 g7 hr hst1 b1 b2 b3 ho3 hvlt hcell hth nT nR hci hc
      gi_wp2_with (first | (simp only [Oper.semAt]; go_simp) | ((refine ⟨trivial, ?_⟩); gi_at_call 66; (refine (CallsIn.inRound L (callsIn_wide.2 cg)).mono ?_); rintro e w2 ⟨rfl, hU2, hS2⟩; (obtain ⟨f1, f2, ⟨v0, v1, v2, v3, v4, f30, f31, f32, f33, f34⟩, ⟨f40, f41, f42, f43, f44⟩, f5⟩ := F w2 hU2 hS2); clear F cg hU2 hS2))
      exact f5.out
  case done =>
    rintro W' ⟨T', g1, g2, g3, g4, g5, g6, g7⟩ hD
    have ch := g3.cell
    have c3 := g1.cell 3
    simp only [List.getElem?_cons_succ, List.getElem?_cons_zero] at c3
    have th := g1.thaw 3
    obtain ⟨q1, q2⟩ := g1.held need hn
    have hsz : W.heap.size ≤ W'.heap.size := g7.size
    have hD2 : (W'.setCell ⟨hb, 3, none⟩ (.int .i64 need)).heap[W3.heap.size]? = some (.deferred (some [])) := by rw [Below.heap_setCell _ _ _ _ (by show W3.heap.size ≠ hb; omega)]; exact hD
    have Q1 := hid q1
    have U7 := hid (g7.trans' (q2.mono (fun x e => .inr (.inl e))))
    have G2 := hid g2
    clear q1 q2 g1 g2 g3 g4 g5 g6 g7
    go_wp2
    refine ⟨by simp, .inl ⟨_, _, rfl, run_takeDeferred hD2, ?_⟩⟩
    refine ⟨_, results_none rfl _ _ _, rfl, U7.out.putObj (.inr ⟨by omega, (Array.getElem?_eq_some_iff.1 hD2).1⟩) _, T', ?_, ?_⟩
    · refine Q1.out.upd (upd_put (S := fun k => k = W3.heap.size) rfl _) (by omega) (fun k e => by have := hcv k e; omega) ?_
      intro k e
      rcases G2.out k e with e | e
      · have := hst k e; omega
      · omega
    · intro k e
      rcases G2.out k e with e | e
      · exact .inl e
      · right; omega
  case stop => intro c W' hF; exact hF.elim
end
end Go.Proofs.YtikgicepdalfpaaGreat.W
/- Package heap: Collect. -/
namespace Go.Proofs.YtikgicepdalfpaaGreat.W
open Go.ChangeShapes Go.WideShapes Go.RowKit Go.Shelf
set_option linter.unusedVariables false
/-- the cells of R -/
def zipK : List (Option Hc) → List Bool → List (Option Hc)
  | c :: H, b :: R => (if b = true then c else none) :: zipK H R
  | _, _ => []
theorem zipK_sum (H : List (Option Hc)) (R : List Bool) : sumH (zipK H R) = needR H R := by
  induction H generalizing R with
  | nil => cases R <;> rfl
  | cons c H ih =>
    cases R with
    | nil => rfl
    | cons b R =>
      simp only [zipK, needR, sumH_cons, ih]
      cases b
      · simp [needO]
      · simp
theorem zipK_get (H : List (Option Hc)) (R : List Bool) (hl : R.length = H.length) (i : Nat) (hi : i < H.length) : (zipK H R)[i]? = if R.getD i false = true then H[i]? else some none := by
  induction H generalizing R i with
  | nil => simp at hi
  | cons c H ih =>
    cases R with
    | nil => simp at hl
    | cons b R =>
      cases i with
      | zero => cases b <;> simp [zipK]
      | succ i =>
        have := ih R (by simpa using hl) i (by simpa using hi)
        simpa [zipK] using this
theorem zipK_len (H : List (Option Hc)) (R : List Bool) (hl : R.length = H.length) : (zipK H R).length = H.length := by
  induction H generalizing R with
  | nil => cases R <;> rfl
  | cons c H ih =>
    cases R with
    | nil => simp at hl
    | cons b R => simp [zipK, ih R (by simpa using hl)]
theorem stepH_below (H : List (Option Hc)) (R : List Bool) (k i : Nat) (h : i < k) (hi : i < H.length) : (stepH H R k)[i]? = if R.getD i false = true then H[i]? else some none := by
  induction k with
  | zero => omega
  | succ k ih =>
    show (if R.getD k false = true then stepH H R k else (stepH H R k).set k none)[i]? = _
    by_cases e : i = k
    · subst e
      by_cases hr : R.getD i false = true
      · rw [if_pos hr, if_pos hr]; exact stepH_above H R i i (Nat.le_refl _)
      · rw [if_neg hr, if_neg hr, List.getElem?_set_self (by rw [stepH_len]; exact hi)]
    · have := ih (by omega)
      split
      · exact this
      · rw [List.getElem?_set_ne (by omega)]; exact this
theorem stepH_zip (H : List (Option Hc)) (R : List Bool) (hl : R.length = H.length) : stepH H R H.length = zipK H R := by
  apply List.ext_getElem?
  intro i
  by_cases hi : i < H.length
  · rw [stepH_below H R _ i hi hi, zipK_get H R hl i hi]
  · rw [List.getElem?_eq_none (by rw [stepH_len]; omega), List.getElem?_eq_none (by rw [zipK_len H R hl]; omega)]
section
variable {W : World} {S : Nat → Prop} {hb : Nat} {H : List (Option Hc)} {u : Nat}
end
end Go.Proofs.YtikgicepdalfpaaGreat.W
/- Package heap: Put: what it leads to, in pieces. -/
namespace Go.Proofs.YtikgicepdalfpaaGreat.W
open Go.ChangeShapes Go.WideShapes Go.RowKit Go.Shelf
set_option linter.unusedVariables false
/-- the words of a row that is put -/
def Hc.ws : Hc → List Nat
  | .row ws => ws
  | _ => []
/-- what is reached from a cell that is put -/
def Hc.seeds (c : Hc) : List Nat := c.ws ++ [c.cl.base]
/-- the cells that are left when room is made for c -/
noncomputable def roomH (H : List (Option Hc)) (u : Nat) (c : Hc) (rs : List Nat) : List (Option Hc) := if sumH H + c.need ≤ u then H else zipK H (rchB H (rs ++ c.seeds))
section
variable {W W' : World} {hb sb : Nat} {vc : Value} {T S : Nat → Prop} {H : List (Option Hc)} {u h : Nat}
theorem SaveOk.next {c : Hc} {v : Value} (h1 : SaveOk W hb sb S c v u h) (hU : Upd S W W') : SaveOk W' hb sb (Nx S W W') c v u h := by
  intro w T' vc' H' id hl hi hT hU2
  have hz := hU.size
  refine h1 w T' vc' H' id hl hi (fun k e => ?_) (hU.trans hU2)
  rcases hT k e with (e | e) | e
  · exact .inl e
  · exact .inr e.1
  · right; omega
theorem put_tail {w : World} (g : HLay w hb sb vc T H u (sumH H)) (hU : Upd S W w) (hS1 : Nx S W w hb) (hS2 : ∀ k, vc.ownBlock = some k → Nx S W w k) (hS3 : ∀ k, T k → Nx S W w k) (c : Hc) (hok : c.ok) (i : Int) (t : ByteArray) (ob ow : Option Addr) (bl bc wl wc : Nat) (hwl : wl ≤ 1048576) (hsz : sizeV c.cl.kind c.cl.view t.size bl wl = c.bytes.length) (hfit : sumH H + c.need ≤ u) (hsv : ∀ sb h, SaveOk W hb sb S c (.agg #[.int .i64 c.cl.kind, .bool c.cl.view, .int .i64 i, .string t, .slice ob bl bc, .slice ow wl wc, .int .u64 c.cl.base, .int .i64 c.cl.frm, .int .i64 c.cl.len]) u h) :
    w.cell? ⟨hb, 3, none⟩ = some (.int .i64 (sumH H : Nat)) ∧ w.cell? ⟨hb, 2, none⟩ = some (.int .i64 u) ∧ w.frozen? ⟨hb, 3, none⟩ = false ∧ lid H < 281474976710656 ∧
    Calls Tryz.prog 37 #[.pointer (some ⟨hb, 0, none⟩), .agg #[.int .i64 c.cl.kind, .bool c.cl.view, .int .i64 i, .string t, .slice ob bl bc, .slice ow wl wc, .int .u64 c.cl.base, .int .i64 c.cl.frm, .int .i64 c.cl.len]] (w.setCell ⟨hb, 3, none⟩ (.int .i64 ((sumH H : Int) + (c.need : Int)))) fun e w' => e = .returned (.int .i64 (lid H : Nat)) ∧ Hid (Upd S W w' ∧ HSt w' (Nx S W w') hb (putH H (lid H) (some c)) u) := by
  have hu := g.u1
  obtain ⟨q1, q2⟩ := g.held (sumH H + c.need) (by omega)
  have h5 := lid_le H
  have h6 := g.len
  refine ⟨g.cell 3, g.cell 2, g.thaw 3, by omega, ?_⟩
  have e1 : (((sumH H + c.need : Nat) : Int)) = (sumH H : Int) + (c.need : Int) := by omega
  rw [e1] at q1 q2
  generalize w.setCell ⟨hb, 3, none⟩ (.int .i64 ((sumH H : Int) + (c.need : Int))) = w7 at *
  have hU7 : Upd S W w7 := hU.trans (q2.mono (fun x e => by rw [e]; exact hS1))
  have hz7 := q2.size
  have nx : ∀ k, Nx S W w k → Nx S W w7 k := by
    rintro k (e | e)
    · exact .inl e
    · exact .inr ⟨e.1, by omega⟩
  refine (add_c q1 (Nx S W w7) ?_ c hok i t ob ow bl bc wl wc hwl hsz (by omega) ((hsv sb _).next hU7)).mono ?_
  · rintro k (e | e | e)
    · exact nx k (hS3 k e)
    · rw [e]; exact nx _ hS1
    · exact nx k (hS2 k e)
  · rintro e w' ⟨rfl, hU', vc', T', hL', hT', hv'⟩
    have hz' := hU'.size
    have hzW := hU7.size
    have nx' : ∀ k, k < w'.heap.size → (Nx S W w k ∨ w7.heap.size ≤ k) → Nx S W w' k := by
      rintro k hk ((e | e) | e)
      · exact .inl e
      · exact .inr ⟨e.1, hk⟩
      · exact .inr ⟨by omega, hk⟩
    refine ⟨rfl, ?_⟩
    show _ ∧ _
    refine ⟨hU7.trans hU', sb, vc', T', ?_, nx' hb hL'.hlt (.inl hS1), fun k e => nx' k (hL'.clt k e) ((hv' k e).imp (hS2 k) id), fun k e => nx' k (hL'.tlt k e) ((hT' k e).imp (hS3 k) id), ?_⟩
    · rw [putH_sum]; exact hL'
    · rw [putH_sum]; exact hfit
theorem put_sweep {w : World} (g : HLay w hb sb vc T H u (sumH H)) (hfit : sumH H ≤ u) (hU : Upd S W w) (hS1 : Nx S W w hb) (hS2 : ∀ k, vc.ownBlock = some k → Nx S W w k) (hS3 : ∀ k, T k → Nx S W w k) (vr vw : Value) (rs ws : List Nat) (base : Nat) (hr : WordsAt w vr rs) (hw : WordsAt w vw ws) (hbase : base < 18446744073709551616) :
    (Calls Tryz.prog 35 #[.pointer (some ⟨hb, 0, none⟩), .slice (some ⟨w.heap.size + 1, 0, none⟩) 3 3] ((w.alloc (.cells #[.int .u64 base] 22)).alloc (.cells #[vr, vw, .slice (some ⟨w.heap.size, 0, none⟩) 1 1] 27)) fun e w2 => ∃ vb, e = .returned (.tuple #[vb, .int .i64 (reachN H (rs ++ (ws ++ [base])) : Nat)]) ∧ ((∀ k < w.heap.size, w2.heap[k]? = w.heap[k]?) ∧ Calls Tryz.prog 34 #[.pointer (some ⟨hb, 0, none⟩), vb, .int .i64 (reachN H (rs ++ (ws ++ [base])) : Nat)] w2 fun e w' => e = .returned (.tuple #[]) ∧ (Hid (∃ T', HLay w' hb sb vc T' (zipK H (rchB H (rs ++ (ws ++ [base])))) u (sumH (zipK H (rchB H (rs ++ (ws ++ [base]))))) ∧ Upd S W w' ∧ Nx S W w' hb ∧ (∀ k, vc.ownBlock = some k → Nx S W w' k) ∧ (∀ k, T' k → Nx S W w' k) ∧ sumH (zipK H (rchB H (rs ++ (ws ++ [base])))) ≤ u) ∧ ∀ k < w.heap.size, ¬ (T k ∨ k = hb ∨ vc.ownBlock = some k) → w'.heap[k]? = w.heap[k]?))) := by
  have hu := g.u1
  have hB1 : Below w.heap.size w (w.alloc (.cells #[.int .u64 base] 22)) := (Below.refl _ w).alloc (Nat.le_refl _) _
  have hs1 : (w.alloc (.cells #[.int .u64 base] 22)).heap.size = w.heap.size + 1 := World.size_alloc ..
  have hB2 : Below (w.heap.size + 1) (w.alloc (.cells #[.int .u64 base] 22)) ((w.alloc (.cells #[.int .u64 base] 22)).alloc (.cells #[vr, vw, .slice (some ⟨w.heap.size, 0, none⟩) 1 1] 27)) := by rw [← hs1]; exact (Below.refl _ _).alloc (Nat.le_refl _) _
  have hBl : Below w.heap.size w ((w.alloc (.cells #[.int .u64 base] 22)).alloc (.cells #[vr, vw, .slice (some ⟨w.heap.size, 0, none⟩) 1 1] 27)) := hB1.trans (hB2.mono (by omega))
  have hsl : (((w.alloc (.cells #[.int .u64 base] 22)).alloc (.cells #[vr, vw, .slice (some ⟨w.heap.size, 0, none⟩) 1 1] 27))).heap.size = w.heap.size + 2 := by rw [World.size_alloc, hs1]
  have hbw : WordsAt ((w.alloc (.cells #[.int .u64 base] 22)).alloc (.cells #[vr, vw, .slice (some ⟨w.heap.size, 0, none⟩) 1 1] 27)) (.slice (some ⟨w.heap.size, 0, none⟩) 1 1) [base] := by
    refine ⟨_, _, rfl, by simp, by simpa using hbase, fun i hi => ?_⟩
    simp at hi
    subst hi
    refine ⟨_, rfl, ?_⟩
    have e1 : ((⟨w.heap.size, 0, none⟩ : Addr).add 0) = ⟨w.heap.size, 0, none⟩ := by simp [Addr.add]
    rw [e1]
    refine below_cell (W := w.alloc (.cells #[.int .u64 base] 22)) (by rw [hs1]; exact hB2) ?_
    rw [World.cell?_alloc_new]; rfl
  have hla : ListsAt ((w.alloc (.cells #[.int .u64 base] 22)).alloc (.cells #[vr, vw, .slice (some ⟨w.heap.size, 0, none⟩) 1 1] 27)) (.slice (some ⟨w.heap.size + 1, 0, none⟩) 3 3) [rs, ws, [base]] := by
    refine ⟨_, _, rfl, by simp, fun i hi => ?_⟩
    have hn : ∀ j, (((w.alloc (.cells #[.int .u64 base] 22)).alloc (.cells #[vr, vw, .slice (some ⟨w.heap.size, 0, none⟩) 1 1] 27))).cell? ⟨w.heap.size + 1, j, none⟩ = #[vr, vw, .slice (some ⟨w.heap.size, 0, none⟩) 1 1][j]? := by
      intro j
      have := World.cell?_alloc_new (w.alloc (.cells #[.int .u64 base] 22)) #[vr, vw, .slice (some ⟨w.heap.size, 0, none⟩) 1 1] 27 j
      rw [hs1] at this
      exact this
    have ha : ∀ j, ((⟨w.heap.size + 1, 0, none⟩ : Addr).add j) = ⟨w.heap.size + 1, j, none⟩ := by intro j; unfold Addr.add; split <;> simp_all
    simp at hi
    rcases (by omega : i = 0 ∨ i = 1 ∨ i = 2) with rfl | rfl | rfl
    · exact ⟨_, vr, rfl, by rw [ha, hn]; rfl, words_below hr hBl⟩
    · exact ⟨_, vw, rfl, by rw [ha, hn]; rfl, words_below hw hBl⟩
    · exact ⟨_, _, rfl, by rw [ha, hn]; rfl, hbw⟩
  have cr := reach_b (g.below hBl) _ _ hla (by omega)
  simp only [List.flatten_cons, List.flatten_nil, List.append_nil] at cr
  have hle : reachN H (rs ++ (ws ++ [base])) ≤ 1048576 := by have := needR_le H (rchB H (rs ++ (ws ++ [base]))); unfold reachN; omega
  refine cr.mono ?_
  rintro e w2 ⟨vb, rfl, hBr, ho⟩
  have hB : Below w.heap.size w w2 := hBl.trans (hBr.mono hBl.size)
  have hsz := hBr.size
  refine ⟨vb, rfl, fun k hk => hB.block k hk, ?_⟩
  have g2 := g.below hB
  refine (keep_c g2 vb (rchB H (rs ++ (ws ++ [base]))) (rchB_len H _) (w.heap.size + 2) (by rw [rchB_len, ← hsl]; exact ho) ⟨by have := g.hlt; omega, fun k e => by have := g.clt k e; omega, fun k e => by have := g.tlt k e; omega⟩ (by omega) _ hle).mono ?_
  rintro e w' ⟨rfl, hU', T', gl, hT'⟩
  have hz := hB.size
  have hz' := hU'.size
  have hzW := hU.size
  have hUw : Upd (fun x => T x ∨ x = hb ∨ vc.ownBlock = some x) w w' := (Upd.of_below hB).trans' hU'
  have hin : ∀ x, T x ∨ x = hb ∨ vc.ownBlock = some x → Nx S W w x := by
    rintro x (e | e | e)
    · exact hS3 x e
    · rw [e]; exact hS1
    · exact hS2 x e
  have nx' : ∀ k, k < w'.heap.size → Nx S W w k → Nx S W w' k := by
    rintro k hk (e | e)
    · exact .inl e
    · exact .inr ⟨e.1, hk⟩
  rw [stepH_zip H _ (rchB_len H _)] at gl
  refine ⟨rfl, ?_, fun k hk hn => hUw.block k hk hn⟩
  show ∃ T', _
  refine ⟨T', ?_, hU.trans (hUw.mono hin), nx' hb gl.hlt hS1, fun k e => nx' k (gl.clt k e) (hS2 k e), fun k e => ?_, ?_⟩
  · have e : sumH (zipK H (rchB H (rs ++ (ws ++ [base])))) = reachN H (rs ++ (ws ++ [base])) := zipK_sum H _
    rw [e]; exact gl
  · rcases hT' k e with e2 | e2
    · exact nx' k (gl.tlt k e) (hS3 k e2)
    · exact .inr ⟨by omega, gl.tlt k e⟩
  · rw [zipK_sum]
    have := needR_le H (rchB H (rs ++ (ws ++ [base])))
    omega
end
end Go.Proofs.YtikgicepdalfpaaGreat.W
/- Package heap: Put. -/
namespace Go.Proofs.YtikgicepdalfpaaGreat.W
open Go.ChangeShapes Go.WideShapes Go.RowKit Go.Shelf
set_option linter.unusedVariables false
section
variable {W W' : World} {hb sb : Nat} {vc : Value} {T S : Nat → Prop} {H : List (Option Hc)} {u h : Nat}
/-- what Put answers and leaves -/
def PutPost (W : World) (S : Nat → Prop) (hb : Nat) (H1 : List (Option Hc)) (u : Nat) (c : Hc) (e : Ending) (w' : World) : Prop := Upd S W w' ∧ ((sumH H1 + c.need ≤ u ∧ e = .returned (.tuple #[.int .u64 (18445336698825998336 + lid H1 : Nat), .int .i64 0]) ∧ HSt w' (Nx S W w') hb (putH H1 (lid H1) (some c)) u) ∨ (u < sumH H1 + c.need ∧ e = .returned (.tuple #[.int .u64 0, .int .i64 40]) ∧ HSt w' (Nx S W w') hb H1 u))
set_option maxHeartbeats 2000000 in
theorem hput_c (g : HSt W S hb H u) (hS : ∀ k, S k → k < W.heap.size) (c : Hc) (hok : c.ok) (i : Int) (t : ByteArray) (ob ow : Option Addr) (bl bc wl wc : Nat) (htl : t.size ≤ 8388608) (hbl : bl ≤ 8388608) (hwl : wl ≤ 1048576) (hsz : sizeV c.cl.kind c.cl.view t.size bl wl = c.bytes.length) (hws : WordsAt W (.slice ow wl wc) c.ws) (hbase : c.cl.base < 18446744073709551616)
    (hright : ∀ w, Below W.heap.size W w → Calls Tryz.prog 32 #[.pointer (some ⟨hb, 0, none⟩), .agg #[.int .i64 c.cl.kind, .bool c.cl.view, .int .i64 i, .string t, .slice ob bl bc, .slice ow wl wc, .int .u64 c.cl.base, .int .i64 c.cl.frm, .int .i64 c.cl.len]] w fun e w' => e = .returned (.bool true) ∧ Below w.heap.size w w')
    (hsv : ∀ sb h, SaveOk W hb sb S c (.agg #[.int .i64 c.cl.kind, .bool c.cl.view, .int .i64 i, .string t, .slice ob bl bc, .slice ow wl wc, .int .u64 c.cl.base, .int .i64 c.cl.frm, .int .i64 c.cl.len]) u h) (vr : Value) (rs : List Nat) (hr : WordsAt W vr rs) :
    Calls Tryz.prog 15 #[.pointer (some ⟨hb, 0, none⟩), .agg #[.int .i64 c.cl.kind, .bool c.cl.view, .int .i64 i, .string t, .slice ob bl bc, .slice ow wl wc, .int .u64 c.cl.base, .int .i64 c.cl.frm, .int .i64 c.cl.len], vr] W (PutPost W S hb (roomH H u c rs) u c) := by
  obtain ⟨orr, capr, hvr, _⟩ := id hr
  subst hvr
  obtain ⟨sb, vc, T, g1, s1, s2, s3, s4⟩ := g
  have hu := g1.u1
  have hBa : Below W.heap.size W (W.alloc (.cells #[.int .i64 c.cl.kind, .bool c.cl.view, .int .i64 i, .string t, .slice ob bl bc, .slice ow wl wc, .int .u64 c.cl.base, .int .i64 c.cl.frm, .int .i64 c.cl.len] 50)) := (Below.refl _ W).alloc (Nat.le_refl _) _
  have n9 := World.cell?_alloc_new W #[.int .i64 c.cl.kind, .bool c.cl.view, .int .i64 i, .string t, .slice ob bl bc, .slice ow wl wc, .int .u64 c.cl.base, .int .i64 c.cl.frm, .int .i64 c.cl.len] 50
  have hsa : ((W.alloc (.cells #[.int .i64 c.cl.kind, .bool c.cl.view, .int .i64 i, .string t, .slice ob bl bc, .slice ow wl wc, .int .u64 c.cl.base, .int .i64 c.cl.frm, .int .i64 c.cl.len] 50))).heap.size = W.heap.size + 1 := World.size_alloc ..
  have cn := need_c c.cl.kind c.cl.view i t ob ow bl bc wl wc c.cl.base c.cl.frm c.cl.len (by omega) (by omega) (by omega)
  rw [hsz] at cn
  have en : (1 + (c.bytes.length + 7) / 8 : Nat) = c.need := rfl
  rw [en] at cn
  unfold cellV at cn
  have cr := hright (W.alloc (.cells #[.int .i64 c.cl.kind, .bool c.cl.view, .int .i64 i, .string t, .slice ob bl bc, .slice ow wl wc, .int .u64 c.cl.base, .int .i64 c.cl.frm, .int .i64 c.cl.len] 50)) hBa
  have k2 : Hid (∀ w2, Below ((W.alloc (.cells #[.int .i64 c.cl.kind, .bool c.cl.view, .int .i64 i, .string t, .slice ob bl bc, .slice ow wl wc, .int .u64 c.cl.base, .int .i64 c.cl.frm, .int .i64 c.cl.len] 50))).heap.size (W.alloc (.cells #[.int .i64 c.cl.kind, .bool c.cl.view, .int .i64 i, .string t, .slice ob bl bc, .slice ow wl wc, .int .u64 c.cl.base, .int .i64 c.cl.frm, .int .i64 c.cl.len] 50)) w2 → (∀ j, w2.cell? ⟨W.heap.size, j, none⟩ = #[.int .i64 c.cl.kind, .bool c.cl.view, .int .i64 i, .string t, .slice ob bl bc, .slice ow wl wc, .int .u64 c.cl.base, .int .i64 c.cl.frm, .int .i64 c.cl.len][j]?)) := by
    show ∀ w2, _
    intro w2 hB2 j
    rw [World.cell?_of_block (hB2.block W.heap.size (by omega))]
    exact n9 j
  go_enter Tryz.func15, Tryz.ntmps15
  go_upto_region 4 with (first | (go_at_call 32; (with_reducible refine cr.mono ?_); rintro e w2 ⟨rfl, hB2⟩; (have n92 := k2.out w2 hB2)) | (go_at_call 33; (with_reducible refine (cn _).mono ?_); rintro e w3 ⟨rfl, hB3⟩; clear cn))
  have hBa3 : Below ((W.alloc (.cells #[.int .i64 c.cl.kind, .bool c.cl.view, .int .i64 i, .string t, .slice ob bl bc, .slice ow wl wc, .int .u64 c.cl.base, .int .i64 c.cl.frm, .int .i64 c.cl.len] 50))).heap.size (W.alloc (.cells #[.int .i64 c.cl.kind, .bool c.cl.view, .int .i64 i, .string t, .slice ob bl bc, .slice ow wl wc, .int .u64 c.cl.base, .int .i64 c.cl.frm, .int .i64 c.cl.len] 50)) w3 := hB2.trans (hB3.mono hB2.size)
  have n93 := k2.out w3 hBa3
  have hBW : Below W.heap.size W w3 := hBa.trans (hBa3.mono hBa.size)
  have hz3 := hBa3.size
  have g3 := g1.below hBW
  have c3 := g3.cell 3
  have c2 := g3.cell 2
  simp only [List.getElem?_cons_succ, List.getElem?_cons_zero] at c3 c2
  have hU3 : Upd S W w3.drew := (Upd.of_below hBW).drew
  have nx3 : ∀ k, S k → Nx S W w3.drew k := fun k e => .inl e
  have wadd : IntKind.i64.wrap ((sumH H : Int) + (c.need : Int)) = (sumH H : Int) + (c.need : Int) := by
    have h1 : c.need ≤ 1048577 := by
      have := Hc.bytes_len hok
      unfold Hc.need; omega
    rw [IntKind.wrap_i64]; omega
  clear k2 cr n92 hB2 hB3 n9
  by_cases hfit : sumH H + c.need ≤ u
  · have hf1 : ¬ ((sumH H : Int) + (c.need : Int)) > (u : Int) := by omega
    have hro : roomH H u c rs = H := by unfold roomH; rw [if_pos hfit]
    have g5 : HLay w3.drew.drew hb sb vc T H u (sumH H) := g3.same rfl
    have hU5 : Upd S W w3.drew.drew := hU3.drew
    obtain ⟨d3, d2, d4, hl, ca⟩ := put_tail g5 hU5 (.inl s1) (fun k e => .inl (s2 k e)) (fun k e => .inl (s3 k e)) c hok i t ob ow bl bc wl wc hwl hsz hfit hsv
    have n95 : ∀ j, w3.drew.drew.cell? ⟨W.heap.size, j, none⟩ = #[.int .i64 c.cl.kind, .bool c.cl.view, .int .i64 i, .string t, .slice ob bl bc, .slice ow wl wc, .int .u64 c.cl.base, .int .i64 c.cl.frm, .int .i64 c.cl.len][j]? := n93
    have cw := wordOf_c (lid H) hl
    have hne : Hid (W.heap.size ≠ hb) := (show _ ≠ _ by have := g1.hlt; omega)
    clear g5 g3 g1 hsv hright hU5 hU3 hBW hBa3 hBa
    go_region
    go_upto_region 6 with fail
    go_region
    go_upto_region 8 with fail
    generalize w3.drew.drew = w5 at *
    have n96 : ∀ j, (w5.setCell ⟨hb, 3, none⟩ (.int .i64 ((sumH H : Int) + (c.need : Int)))).cell? ⟨W.heap.size, j, none⟩ = #[.int .i64 c.cl.kind, .bool c.cl.view, .int .i64 i, .string t, .slice ob bl bc, .slice ow wl wc, .int .u64 c.cl.base, .int .i64 c.cl.frm, .int .i64 c.cl.len][j]? := by
      intro j
      rw [World.cell?_of_block (Below.heap_setCell _ _ _ _ hne.out)]
      exact n95 j
    go_wp2_with (first | (go_at_call 37; (with_reducible refine ca.mono ?_); rintro e w6 ⟨rfl, hf⟩; clear ca) | (go_at_call 36; (with_reducible refine (cw _).mono ?_); rintro e w' ⟨rfl, hw⟩; (have hw' := hw.symm); subst hw'; clear hw))
    go_ret2
    show PutPost W S hb (roomH H u c rs) u c _ _
    rw [hro]
    exact ⟨hf.out.1, .inl ⟨hfit, rfl, hf.out.2⟩⟩
  · have hf1 : ((sumH H : Int) + (c.need : Int)) > (u : Int) := by omega
    have hro : roomH H u c rs = zipK H (rchB H (rs ++ (c.ws ++ [c.cl.base]))) := by unfold roomH Hc.seeds; rw [if_neg hfit]
    have g4 : HLay w3.drew hb sb vc T H u (sumH H) := g3.same rfl
    have csw := put_sweep g4 s4 hU3 (.inl s1) (fun k e => .inl (s2 k e)) (fun k e => .inl (s3 k e)) _ (.slice ow wl wc) rs c.ws c.cl.base (words_below (W' := w3.drew) hr ⟨hBW.os, hBW.tape, hBW.output, hBW.size, hBW.block⟩) (words_below (W' := w3.drew) hws ⟨hBW.os, hBW.tape, hBW.output, hBW.size, hBW.block⟩) hbase
    have n94 : ∀ j, w3.drew.cell? ⟨W.heap.size, j, none⟩ = #[.int .i64 c.cl.kind, .bool c.cl.view, .int .i64 i, .string t, .slice ob bl bc, .slice ow wl wc, .int .u64 c.cl.base, .int .i64 c.cl.frm, .int .i64 c.cl.len][j]? := n93
    generalize zipK H (rchB H (rs ++ (c.ws ++ [c.cl.base]))) = H1 at *
    generalize reachN H (rs ++ (c.ws ++ [c.cl.base])) = rN at *
    have hne : Hid (W.heap.size ≠ hb) := (show _ ≠ _ by have := g1.hlt; omega)
    have kk : Hid (∀ w' : World, (∀ k < w3.drew.heap.size, ¬ (T k ∨ k = hb ∨ vc.ownBlock = some k) → w'.heap[k]? = w3.drew.heap[k]?) → ∀ j : Nat, w'.cell? ⟨W.heap.size, j, none⟩ = #[.int .i64 c.cl.kind, .bool c.cl.view, .int .i64 i, .string t, .slice ob bl bc, .slice ow wl wc, .int .u64 c.cl.base, .int .i64 c.cl.frm, .int .i64 c.cl.len][j]?) := by
      show ∀ w' : World, _
      intro w' hk j
      have e4 := hk W.heap.size (by show _ < w3.heap.size; omega) (by
        rintro (e | e | e)
        · have := g1.tlt _ e; omega
        · exact hne.out e
        · have := g1.clt _ e; omega)
      rw [World.cell?_of_block e4]
      exact n94 j
    clear g3 g1 hright hU3 hBW hBa3 hBa
    go_region
    go_upto_region 5 with fail
    generalize w3.drew = w4 at *
    go_upto_region 6 with (first | (go_at_call 35; (with_reducible refine csw.mono ?_); rintro e w5 ⟨vb, rfl, hk5, ck⟩; clear csw) | (go_at_call 34; (with_reducible refine ck.mono ?_); rintro e w6 ⟨rfl, hk6, hb6⟩; clear ck))
    have n96 := kk.out w6 hb6
    obtain ⟨T', g6, hU6, t1, t2, t3, t4⟩ := hk6.out
    clear n94 kk hk5 hb6 c3 c2
    have c3 := g6.cell 3
    have c2 := g6.cell 2
    simp only [List.getElem?_cons_succ, List.getElem?_cons_zero] at c3 c2
    have wadd1 : IntKind.i64.wrap ((sumH H1 : Int) + (c.need : Int)) = (sumH H1 : Int) + (c.need : Int) := by
      have h1 : c.need ≤ 1048577 := by
        have := Hc.bytes_len hok
        unfold Hc.need; omega
      rw [IntKind.wrap_i64]; omega
    by_cases hfit1 : sumH H1 + c.need ≤ u
    · have hf2 : ¬ ((sumH H1 : Int) + (c.need : Int)) > (u : Int) := by omega
      have g7 : HLay w6.drew hb sb vc T' H1 u (sumH H1) := g6.same rfl
      obtain ⟨d3, d2, d4, hl, ca⟩ := put_tail g7 hU6.drew t1 t2 t3 c hok i t ob ow bl bc wl wc hwl hsz hfit1 hsv
      have n97 : ∀ j, w6.drew.cell? ⟨W.heap.size, j, none⟩ = #[.int .i64 c.cl.kind, .bool c.cl.view, .int .i64 i, .string t, .slice ob bl bc, .slice ow wl wc, .int .u64 c.cl.base, .int .i64 c.cl.frm, .int .i64 c.cl.len][j]? := n96
      have cw := wordOf_c (lid H1) hl
      clear g7 g6 hsv hU6 hf1 hfit
      go_region
      go_upto_region 8 with fail
      generalize w6.drew = w7 at *
      have n98 : ∀ j, (w7.setCell ⟨hb, 3, none⟩ (.int .i64 ((sumH H1 : Int) + (c.need : Int)))).cell? ⟨W.heap.size, j, none⟩ = #[.int .i64 c.cl.kind, .bool c.cl.view, .int .i64 i, .string t, .slice ob bl bc, .slice ow wl wc, .int .u64 c.cl.base, .int .i64 c.cl.frm, .int .i64 c.cl.len][j]? := by
        intro j
        rw [World.cell?_of_block (Below.heap_setCell _ _ _ _ hne.out)]
        exact n97 j
      go_wp2_with (first | (go_at_call 37; (with_reducible refine ca.mono ?_); rintro e w8 ⟨rfl, hf⟩; clear ca) | (go_at_call 36; (with_reducible refine (cw _).mono ?_); rintro e w' ⟨rfl, hw⟩; (have hw' := hw.symm); subst hw'; clear hw))
      go_ret2
      show PutPost W S hb (roomH H u c rs) u c _ _
      rw [hro]
      exact ⟨hf.out.1, .inl ⟨hfit1, rfl, hf.out.2⟩⟩
    · have hf2 : ((sumH H1 : Int) + (c.need : Int)) > (u : Int) := by omega
      have fin : Hid (Upd S W w6.drew ∧ HSt w6.drew (Nx S W w6.drew) hb H1 u) := ⟨hU6.drew, sb, vc, T', g6.same rfl, t1, t2, t3, t4⟩
      clear g6 hsv hU6 hf1 hfit
      go_region
      go_wp2
      go_ret2
      show PutPost W S hb (roomH H u c rs) u c _ _
      rw [hro]
      exact ⟨fin.out.1, .inr ⟨by omega, rfl, fin.out.2⟩⟩
end
end Go.Proofs.YtikgicepdalfpaaGreat.W
/- Package heap: Put, of a number and of a row. -/
namespace Go.Proofs.YtikgicepdalfpaaGreat.W
open Go.ChangeShapes Go.WideShapes Go.RowKit Go.Shelf
set_option linter.unusedVariables false
section
variable {W W' : World} {hb sb : Nat} {vc : Value} {T S : Nat → Prop} {H : List (Option Hc)} {u h : Nat}
theorem words_nil (W : World) (o : Option Addr) (cap : Nat) : WordsAt W (.slice o 0 cap) [] := ⟨o, cap, rfl, by simp, by simp, fun i hi => by simp at hi⟩
theorem HSt.lay (g : HSt W S hb H u) : ∃ sb vc T, HLay W hb sb vc T H u (sumH H) := by
  obtain ⟨sb, vc, T, g1, _⟩ := g
  exact ⟨sb, vc, T, g1⟩
theorem put_num (g : HSt W S hb H u) (hS : ∀ k, S k → k < W.heap.size) (i : Int) (h0 : -9223372036854775808 ≤ i) (h1 : i < 9223372036854775808) (ob ow : Option Addr) (bc wc : Nat) (vr : Value) (rs : List Nat) (hr : WordsAt W vr rs) :
    Calls Tryz.prog 15 #[.pointer (some ⟨hb, 0, none⟩), .agg #[.int .i64 2, .bool false, .int .i64 i, .string ByteArray.empty, .slice ob 0 bc, .slice ow 0 wc, .int .u64 0, .int .i64 0, .int .i64 0], vr] W (PutPost W S hb (roomH H u (.num i) rs) u (.num i)) := by
  obtain ⟨sb, vc, T, g1⟩ := g.lay
  refine hput_c g hS (.num i) ⟨h0, h1⟩ i ByteArray.empty ob ow 0 bc 0 wc (by decide) (by decide) (by decide) ?_ (words_nil W ow wc) (show 0 < _ by decide) ?_ ?_ vr rs hr
  · show sizeV 2 false 0 0 0 = (le8 _).length
    rw [le8_len]; decide
  · intro w hB
    exact right_num (g1.below hB) i ob ow bc wc
  · intro sb h W' T' vc' H' id hl hi hT hU
    exact save_num hl id i 0 hi h0 h1 ob ow bc wc
theorem put_row (g : HSt W S hb H u) (hS : ∀ k, S k → k < W.heap.size) (ws : List Nat) (hl : ws.length ≤ 1048576) (hv64 : ∀ w ∈ ws, w < 18446744073709551616) (hval : ∀ w ∈ ws, isVal H w = true) (ob ow : Option Addr) (bc wc : Nat) (hv : WordsAt W (.slice ow ws.length wc) ws) (ho : OutOf (fun k => S k ∨ W.heap.size ≤ k) (.slice ow ws.length wc)) (vr : Value) (rs : List Nat) (hr : WordsAt W vr rs) :
    Calls Tryz.prog 15 #[.pointer (some ⟨hb, 0, none⟩), .agg #[.int .i64 9, .bool false, .int .i64 0, .string ByteArray.empty, .slice ob 0 bc, .slice ow ws.length wc, .int .u64 0, .int .i64 0, .int .i64 0], vr] W (PutPost W S hb (roomH H u (.row ws) rs) u (.row ws)) := by
  obtain ⟨sb, vc, T, g1⟩ := g.lay
  refine hput_c g hS (.row ws) ⟨hv64, hl⟩ 0 ByteArray.empty ob ow 0 bc ws.length wc (by decide) (by decide) hl ?_ hv (show 0 < _ by decide) ?_ ?_ vr rs hr
  · show sizeV 9 false 0 0 ws.length = (ws.flatMap le8).length
    rw [row_len, Nat.mul_comm]; rfl
  · intro w hB
    exact right_row (g1.below hB) ob ow bc wc ws (words_below hv hB) hl hval
  · intro sb h W' T' vc' H' id hl' hi hT hU
    exact save_row hl' id ws hi ⟨hv64, hl⟩ ob ow bc wc (words_upd hv hU (ho.mono (fun k e => .inl e))) (ho.mono hT)
theorem PutPost.fits {c : Hc} {rs : List Nat} {e : Ending} {w' : World} (h : PutPost W S hb (roomH H u c rs) u c e w') (hf : sumH H + c.need ≤ u) : e = .returned (.tuple #[.int .u64 (18445336698825998336 + lid H : Nat), .int .i64 0]) ∧ Upd S W w' ∧ HSt w' (Nx S W w') hb (putH H (lid H) (some c)) u := by
  have hr : roomH H u c rs = H := by unfold roomH; rw [if_pos hf]
  rw [hr] at h
  obtain ⟨h1, ⟨_, h2, h3⟩ | ⟨h2, _⟩⟩ := h
  · exact ⟨h2, h1, h3⟩
  · omega
theorem PutPost.not {c : Hc} {H1 : List (Option Hc)} {e : Ending} {w' : World} (h : PutPost W S hb H1 u c e w') (hf : u < sumH H1 + c.need) : e = .returned (.tuple #[.int .u64 0, .int .i64 40]) ∧ Upd S W w' ∧ HSt w' (Nx S W w') hb H1 u := by
  obtain ⟨h1, ⟨h2, _⟩ | ⟨_, h2, h3⟩⟩ := h
  · omega
  · exact ⟨h2, h1, h3⟩
/-- words laid in a new block -/
theorem words_new (W : World) (ws : List Nat) (vs : List Value) (h64 : ∀ w ∈ ws, w < 18446744073709551616) (hl : ws.length ≤ 1000000000000) (hv : vs = ws.map (fun w => Value.int .u64 (w : Nat))) (t : TypeId) : WordsAt (W.alloc (.cells vs.toArray t)) (.slice (some ⟨W.heap.size, 0, none⟩) ws.length ws.length) ws := by
  refine ⟨_, _, rfl, hl, h64, fun i hi => ⟨_, rfl, ?_⟩⟩
  have e1 : ((⟨W.heap.size, 0, none⟩ : Addr).add i) = ⟨W.heap.size, i, none⟩ := by unfold Addr.add; split <;> simp_all
  rw [e1, World.cell?_alloc_new, hv]
  simp [hi]
end
end Go.Proofs.YtikgicepdalfpaaGreat.W
/- Package heap: save, of a buffer. -/
namespace Go.Proofs.YtikgicepdalfpaaGreat.W
open Go.ChangeShapes Go.WideShapes Go.RowKit Go.Shelf
set_option linter.unusedVariables false
section
variable {W W' : World} {hb sb : Nat} {vc : Value} {T : Nat → Prop} {H : List (Option Hc)} {u h : Nat}
theorem mkc_buf (k : Int) (hk : elB k > 0) (n : Nat) (h : n ≤ 8388608) : Mkc (Hc.buf k) n := ⟨fun b => rfl, fun b b' => rfl, fun b hb hl => ⟨hk, hb, by omega⟩⟩
theorem save_buf (g : HLay W hb sb vc T H u h) (id : Nat) (k : Int) (hk : elB k > 0) (bs : List Nat) (hb256 : ∀ x ∈ bs, x < 256) (hc : H[id]? = some (some (.buf k (List.replicate bs.length 0)))) (hl : bs.length ≤ 8388608) (ob ow : Option Addr) (bc wc : Nat) (hcap : bs.length ≤ bc) (hv : ByteRow W ob bs) (ho : ∀ x, ob = some x → ¬ T x.block ∧ x.block < W.heap.size) :
    Calls Tryz.prog 73 #[.pointer (some ⟨hb, 0, none⟩), .int .i64 id, .agg #[.int .i64 k, .bool false, .int .i64 0, .string ByteArray.empty, .slice ob bs.length bc, .slice ow 0 wc, .int .u64 0, .int .i64 0, .int .i64 0]] W fun e w' => e = .returned (.tuple #[]) ∧ Upd T W w' ∧ HLay w' hb sb vc T (H.set id (some (.buf k bs))) u h := by
  have hBa : Below W.heap.size W (W.alloc (.cells #[.int .i64 k, .bool false, .int .i64 0, .string ByteArray.empty, .slice ob bs.length bc, .slice ow 0 wc, .int .u64 0, .int .i64 0, .int .i64 0] 50)) := (Below.refl _ W).alloc (Nat.le_refl _) _
  have ga := g.below hBa
  have hsa := hBa.size
  have cs : ∀ w, Calls Tryz.prog 59 #[.int .i64 k, .bool false] w fun e w' => e = .returned (.int .i64 3) ∧ w' = w := fun w => shape_buf k hk w
  have cb := saveBytes_c ga (Hc.buf k) bs (mkc_buf k hk _ hl) hb256 hl id hc ob bc hcap (byteRow_upd hv (Upd.of_below (S := fun _ => False) hBa) (fun x e hF => hF)) (fun x e => ⟨(ho x e).1, Nat.lt_of_lt_of_le (ho x e).2 hsa⟩)
  have c4 := World.cell?_alloc_new W #[.int .i64 k, .bool false, .int .i64 0, .string ByteArray.empty, .slice ob bs.length bc, .slice ow 0 wc, .int .u64 0, .int .i64 0, .int .i64 0] 50 4
  simp only [List.getElem?_toArray, List.getElem?_cons_succ, List.getElem?_cons_zero] at c4
  have fin : Hid (∀ w2, Upd T (W.alloc (.cells #[.int .i64 k, .bool false, .int .i64 0, .string ByteArray.empty, .slice ob bs.length bc, .slice ow 0 wc, .int .u64 0, .int .i64 0, .int .i64 0] 50)) w2 → Upd T W w2) := by
    show ∀ w2, _
    intro w2 hU
    exact (Upd.of_below hBa).trans' hU
  clear ga hsa hBa g hv
  go_enter Tryz.func73, Tryz.ntmps73
  go_wp2_with (first | (go_at_call 59; (with_reducible refine (cs _).mono ?_); rintro e w' ⟨rfl, hw⟩; (have hw' := hw.symm); subst hw'; clear hw) | (go_at_call 115; (with_reducible refine cb.mono ?_); rintro e w2 ⟨rfl, hU2, hL2⟩; clear cb))
  go_end0
  exact ⟨rfl, fin.out _ hU2, hL2⟩
end
end Go.Proofs.YtikgicepdalfpaaGreat.W
/- Package heap: load and Get, of a number. -/
namespace Go.Proofs.YtikgicepdalfpaaGreat.W
open Go.ChangeShapes Go.WideShapes Go.RowKit Go.Shelf
set_option linter.unusedVariables false
section
variable {W W' : World} {hb sb : Nat} {vc : Value} {T : Nat → Prop} {H : List (Option Hc)} {u h : Nat}
theorem cellT : (Tryz.prog.underlying 50).map (fun d => match d with | .struct _ | .array _ _ => true | _ => false) = some true := by kernel_rfl
theorem cellSz : (Tryz.prog.info? 50).map (·.size) = some 9 := by kernel_rfl
/-- a cell is answered out of its box -/
theorem cell_ret {fn : Func} {p : Tmp} (h : fn.results = #[.cell p 50]) (tmps : Array Value) (w : World) (gb : Nat) (v0 v1 v2 v3 v4 v5 v6 v7 v8 : Value) (fr : Nat × Nat) (hp : tmps.getD p undef = .pointer (some ⟨gb, 0, none⟩)) (hg : w.heap[gb]? = some (.cells #[v0, v1, v2, v3, v4, v5, v6, v7, v8] 50 fr)) : (results fn tmps).run Tryz.prog w = .ok (.agg #[v0, v1, v2, v3, v4, v5, v6, v7, v8]) w := by
  have ht := cellT
  cases hu : Tryz.prog.underlying 50 with
  | none => rw [hu] at ht; cases ht
  | some d =>
    rw [hu] at ht
    simp only [Option.map_some, Option.some.injEq] at ht
    refine results_cell_row h tmps w gb _ _ fr d hp hg hu ?_ (by rw [cellSz]; rfl)
    cases d <;> first | rfl | exact ht
/-- nine cells are written -/
theorem nine_set {w : World} {gb : Nat} {z0 z1 z2 z3 z4 z5 z6 z7 z8 : Value} {t : TypeId} (hg : w.heap[gb]? = some (.cells #[z0, z1, z2, z3, z4, z5, z6, z7, z8] t (0, 0))) (v0 v1 v2 v3 v4 v5 v6 v7 v8 : Value) : (((((((((w.setCell ⟨gb, 0, none⟩ v0).setCell ⟨gb, 1, none⟩ v1).setCell ⟨gb, 2, none⟩ v2).setCell ⟨gb, 3, none⟩ v3).setCell ⟨gb, 4, none⟩ v4).setCell ⟨gb, 5, none⟩ v5).setCell ⟨gb, 6, none⟩ v6).setCell ⟨gb, 7, none⟩ v7).setCell ⟨gb, 8, none⟩ v8).heap[gb]? = some (.cells #[v0, v1, v2, v3, v4, v5, v6, v7, v8] t (0, 0)) := by
  have h0 : w.heap[gb]? = some (.cells [z0, z1, z2, z3, z4, z5, z6, z7, z8].toArray t (0, 0)) := hg
  have h1 := heap_set h0 0 v0
  have h2 := heap_set h1 1 v1
  have h3 := heap_set h2 2 v2
  have h4 := heap_set h3 3 v3
  have h5 := heap_set h4 4 v4
  have h6 := heap_set h5 5 v5
  have h7 := heap_set h6 6 v6
  have h8 := heap_set h7 7 v7
  have h9 := heap_set h8 8 v8
  exact h9
theorem nine_below {w a : World} {gb B : Nat} (h : Below B a w) (hB : B ≤ gb) (v0 v1 v2 v3 v4 v5 v6 v7 v8 : Value) : Below B a (((((((((w.setCell ⟨gb, 0, none⟩ v0).setCell ⟨gb, 1, none⟩ v1).setCell ⟨gb, 2, none⟩ v2).setCell ⟨gb, 3, none⟩ v3).setCell ⟨gb, 4, none⟩ v4).setCell ⟨gb, 5, none⟩ v5).setCell ⟨gb, 6, none⟩ v6).setCell ⟨gb, 7, none⟩ v7).setCell ⟨gb, 8, none⟩ v8) :=
  ((((((((h.setCell (p := ⟨gb, 0, none⟩) hB v0).setCell (p := ⟨gb, 1, none⟩) hB v1).setCell (p := ⟨gb, 2, none⟩) hB v2).setCell (p := ⟨gb, 3, none⟩) hB v3).setCell (p := ⟨gb, 4, none⟩) hB v4).setCell (p := ⟨gb, 5, none⟩) hB v5).setCell (p := ⟨gb, 6, none⟩) hB v6).setCell (p := ⟨gb, 7, none⟩) hB v7).setCell (p := ⟨gb, 8, none⟩) hB v8
set_option maxHeartbeats 1000000 in
theorem load_num (g : HLay W hb sb vc T H u h) (id : Nat) (i : Int) (hc : H[id]? = some (some (.num i))) :
    Calls Tryz.prog 76 #[.pointer (some ⟨hb, 0, none⟩), .int .i64 id] W fun e w' => e = .returned (.agg #[.int .i64 2, .bool false, .int .i64 i, .string ByteArray.empty, .slice none 0 0, .slice none 0 0, .int .u64 0, .int .i64 0, .int .i64 0]) ∧ Below W.heap.size W w' := by
  have hidl : id < H.length := (List.getElem?_eq_some_iff.1 hc).1
  obtain ⟨b, cap, hvc, hcell, _⟩ := g.at hidl
  have c1 := g.cell 1
  simp only [List.getElem?_cons_succ, List.getElem?_cons_zero] at c1
  rw [hvc] at c1
  have k0 := hcell 0 _ hc (by omega)
  have k1 := hcell 1 _ hc (by omega)
  have k2 := hcell 2 _ hc (by omega)
  have k3 := hcell 3 _ hc (by omega)
  have k4 := hcell 4 _ hc (by omega)
  simp only [clO, Hc.cl, Cl.cells, List.getElem?_cons_succ, List.getElem?_cons_zero, Nat.add_zero] at k0 k1 k2 k3 k4
  have j0 : (0 : Int) ≤ id := by omega
  have j1 : (id : Int) < H.length := by omega
  have cs : ∀ w, Calls Tryz.prog 59 #[.int .i64 2, .bool false] w fun e w' => e = .returned (.int .i64 1) ∧ w' = w := fun w => shape_c 2 false w
  clear hcell
  have hB1 : Below W.heap.size W (W.alloc (.cells #[.int .i64 0, .bool false, .int .i64 0, .string ⟨#[]⟩, .slice none 0 0, .slice none 0 0, .int .u64 0, .int .i64 0, .int .i64 0] 50)) := (Below.refl _ W).alloc (Nat.le_refl _) _
  have hs1 : (W.alloc (.cells #[.int .i64 0, .bool false, .int .i64 0, .string ⟨#[]⟩, .slice none 0 0, .slice none 0 0, .int .u64 0, .int .i64 0, .int .i64 0] 50)).heap.size = W.heap.size + 1 := World.size_alloc ..
  have e1 := World.cell?_alloc_new W #[.int .i64 0, .bool false, .int .i64 0, .string ⟨#[]⟩, .slice none 0 0, .slice none 0 0, .int .u64 0, .int .i64 0, .int .i64 0] 50
  have f1 := World.alloc_heap_new W (.cells #[.int .i64 0, .bool false, .int .i64 0, .string ⟨#[]⟩, .slice none 0 0, .slice none 0 0, .int .u64 0, .int .i64 0, .int .i64 0] 50)
  go_enter Tryz.func76, Tryz.ntmps76
  go_upto_region 1 with fail
  have c1' := below_cell hB1 c1
  have k0' := below_cell hB1 k0
  have k1' := below_cell hB1 k1
  have k2' := below_cell hB1 k2
  have k3' := below_cell hB1 k3
  have k4' := below_cell hB1 k4
  generalize hW1 : W.alloc (.cells #[.int .i64 0, .bool false, .int .i64 0, .string ⟨#[]⟩, .slice none 0 0, .slice none 0 0, .int .u64 0, .int .i64 0, .int .i64 0] 50) = W1 at *
  clear c1 k0 k1 k2 k3 k4 hW1
  go_upto_region 3 with fail
  have hB3 : Below W1.heap.size W1 ((W1.alloc (.cells #[.int .i64 2, .bool false, .int .u64 0, .int .i64 0, .int .i64 0] 105)).alloc (.cells #[.int .i64 2, .bool false, .int .i64 0, .string ⟨#[]⟩, .slice none 0 0, .slice none 0 0, .int .u64 0, .int .i64 0, .int .i64 0] 50)) := ((Below.refl _ W1).alloc (Nat.le_refl _) _).alloc (by rw [World.size_alloc]; omega) _
  have hs2 : (W1.alloc (.cells #[.int .i64 2, .bool false, .int .u64 0, .int .i64 0, .int .i64 0] 105)).heap.size = W.heap.size + 2 := by rw [World.size_alloc, hs1]
  have hs3 : ((W1.alloc (.cells #[.int .i64 2, .bool false, .int .u64 0, .int .i64 0, .int .i64 0] 105)).alloc (.cells #[.int .i64 2, .bool false, .int .i64 0, .string ⟨#[]⟩, .slice none 0 0, .slice none 0 0, .int .u64 0, .int .i64 0, .int .i64 0] 50)).heap.size = W.heap.size + 3 := by rw [World.size_alloc, hs2]
  have eO := World.cell?_alloc_new (W1.alloc (.cells #[.int .i64 2, .bool false, .int .u64 0, .int .i64 0, .int .i64 0] 105)) #[.int .i64 2, .bool false, .int .i64 0, .string ⟨#[]⟩, .slice none 0 0, .slice none 0 0, .int .u64 0, .int .i64 0, .int .i64 0] 50
  have eC := World.cell?_alloc_new W1 #[.int .i64 2, .bool false, .int .u64 0, .int .i64 0, .int .i64 0] 105
  have eC3 : ∀ j, ((W1.alloc (.cells #[.int .i64 2, .bool false, .int .u64 0, .int .i64 0, .int .i64 0] 105)).alloc (.cells #[.int .i64 2, .bool false, .int .i64 0, .string ⟨#[]⟩, .slice none 0 0, .slice none 0 0, .int .u64 0, .int .i64 0, .int .i64 0] 50)).cell? ⟨W.heap.size + 1, j, none⟩ = #[Value.int .i64 2, .bool false, .int .u64 0, .int .i64 0, .int .i64 0][j]? := by
    intro j
    rw [← hs1, ← eC j]
    exact World.cell?_of_block (Below.heap_alloc _ _ _ (by show W1.heap.size < _; rw [World.size_alloc]; omega))
  have fO := World.alloc_heap_new (W1.alloc (.cells #[.int .i64 2, .bool false, .int .u64 0, .int .i64 0, .int .i64 0] 105)) (.cells #[.int .i64 2, .bool false, .int .i64 0, .string ⟨#[]⟩, .slice none 0 0, .slice none 0 0, .int .u64 0, .int .i64 0, .int .i64 0] 50)
  rw [hs2, show W.heap.size + 2 = W.heap.size + 1 + 1 from rfl] at eO fO
  generalize (W1.alloc (.cells #[.int .i64 2, .bool false, .int .u64 0, .int .i64 0, .int .i64 0] 105)).alloc (.cells #[.int .i64 2, .bool false, .int .i64 0, .string ⟨#[]⟩, .slice none 0 0, .slice none 0 0, .int .u64 0, .int .i64 0, .int .i64 0] 50) = W3 at *
  have eR3 : ∀ j, W3.cell? ⟨W.heap.size, j, none⟩ = #[.int .i64 0, .bool false, .int .i64 0, .string ⟨#[]⟩, .slice none 0 0, .slice none 0 0, .int .u64 0, .int .i64 0, .int .i64 0][j]? := by
    intro j
    rw [World.cell?_of_block (hB3.block W.heap.size (by omega))]
    exact e1 j
  have hBW : Below W.heap.size W W3 := hB1.trans (hB3.mono hB1.size)
  have g3 := g.below hBW
  have fR : W3.heap[W.heap.size]? = some (.cells #[.int .i64 0, .bool false, .int .i64 0, .string ⟨#[]⟩, .slice none 0 0, .slice none 0 0, .int .u64 0, .int .i64 0, .int .i64 0] 50) := (hB3.block W.heap.size (by omega)).trans f1
  have c0 := g3.cell 0
  simp only [List.getElem?_cons_zero] at c0
  have ho := g.ok id _ hc
  have cl := load_st g3.st id _ (hA_some hc) 0 8 (.inr (.inr (.inr rfl))) (by omega) (by show 0 + 8 ≤ (le8 _).length; rw [le8_len]; omega)
  have el : leN (seg (Hc.num i).bytes 0 8) = (i % 18446744073709551616).toNat := by
    have h1 : seg (Hc.num i).bytes 0 8 = le8 (i % 18446744073709551616).toNat := by
      show ((le8 _).drop 0).take 8 = _
      rw [List.drop_zero, List.take_of_length_le (by rw [le8_len]; omega)]
    rw [h1, leN_le8 _ (by omega)]
  rw [el, show ((0 : Nat) : Int) = 0 from rfl, show ((8 : Nat) : Int) = 8 from rfl] at cl
  have ei : IntKind.i64.wrap (((i % 18446744073709551616).toNat : Nat) : Int) = i := by
    have h1 := ho.1
    have h2 := ho.2
    rw [IntKind.wrap_i64]; omega
  generalize (i % 18446744073709551616).toNat = X at cl ei
  have kp : Hid (∀ w4, Below W3.heap.size W3 w4 → w4.heap[W.heap.size]? = some (.cells #[.int .i64 0, .bool false, .int .i64 0, .string ⟨#[]⟩, .slice none 0 0, .slice none 0 0, .int .u64 0, .int .i64 0, .int .i64 0] 50) ∧ w4.heap[W.heap.size + 1 + 1]? = some (.cells #[.int .i64 2, .bool false, .int .i64 0, .string ⟨#[]⟩, .slice none 0 0, .slice none 0 0, .int .u64 0, .int .i64 0, .int .i64 0] 50)) := by
    show ∀ w4, _
    intro w4 hB4
    exact ⟨(hB4.block _ (by omega)).trans fR, (hB4.block _ (by omega)).trans fO⟩
  clear eR3 fR fO g3 e1 c1' k0' k1' k2' k3' k4' f1
  go_upto_region 6 with (first | (go_at_call 59; (with_reducible refine (cs _).mono ?_); rintro e w' ⟨rfl, hw⟩; (have hw' := hw.symm); subst hw'; clear hw) | (go_at_call 111; (with_reducible refine cl.mono ?_); rintro e w4 ⟨rfl, hB4⟩; clear cl))
  obtain ⟨fR, fO⟩ := kp.out w4 hB4
  have eR := fun j => cell_of_row w4 W.heap.size j _ _ _ fR
  have eO := fun j => cell_of_row w4 (W.heap.size + 1 + 1) j _ _ _ fO
  have zR : ∀ j, w4.frozen? ⟨W.heap.size, j, none⟩ = false := fun j => by simp [World.frozen?, fR]
  have zO : ∀ j, w4.frozen? ⟨W.heap.size + 1 + 1, j, none⟩ = false := fun j => by simp [World.frozen?, fO]
  have hBf : Below W.heap.size W w4 := hBW.trans (hB4.mono hBW.size)
  have hO1 : W.heap.size ≤ W.heap.size + 1 + 1 := by omega
  have FR := hid fR
  clear kp fR fO g ho hc hBW hB4
  go_wp2
  refine bodyPost_ret (cell_ret rfl _ _ W.heap.size _ _ _ _ _ _ _ _ _ (0, 0) rfl (nine_set ((Below.heap_setCell _ _ _ _ (by show W.heap.size ≠ W.heap.size + 1 + 1; omega)).trans FR.out) _ _ _ _ _ _ _ _ _)) rfl ?_
  exact ⟨rfl, nine_below (hBf.setCell (p := ⟨W.heap.size + 1 + 1, 2, none⟩) hO1 _) (Nat.le_refl _) _ _ _ _ _ _ _ _ _⟩
end
end Go.Proofs.YtikgicepdalfpaaGreat.W
/- Package heap: loadBytes. -/
namespace Go.Proofs.YtikgicepdalfpaaGreat.W
open Go.ChangeShapes Go.WideShapes Go.RowKit Go.Shelf
set_option linter.unusedVariables false
theorem info8 : (Tryz.prog.info? 5).map (fun i => (i.zero, i.size, i.bytes)) = some (some (.int .u8 0), 1, 1) := by kernel_rfl
theorem under8 : Tryz.prog.underlying 48 = some (.slice 5) := by kernel_rfl
theorem make_bytes (w : World) (n : Nat) (hn : n ≤ 8388608) : ∃ w', (Instr.makeSlice 48 (.int .i64 (n : Int)) (.int .i64 (n : Int))).run Tryz.prog w = .ok (.slice (some ⟨w.heap.size, 0, none⟩) n n) w' ∧ w'.ownsRow w.heap.size 5 1 (.slice (some ⟨w.heap.size, 0, none⟩) n n) n ((List.replicate n 0).map byteV) ∧ w.grownBy w' none := by
  obtain ⟨i0, hi, hz0, hz1, hz2⟩ := info_parts info8
  obtain ⟨w', h1, h2, h3⟩ := run_makeSlice_full (P := Tryz.prog) w w.heap.size 48 5 i0 (.int .u8 0) 1 under8 hi hz0 hz1 .i64 .i64 n (by omega) (by rw [hz2]; omega) (by simp [maxLen]; omega) (Nat.le_refl _)
  refine ⟨w', h1, ?_, h3⟩
  have e : (madeCells (Value.int .u8 0).cells (n * 1)).toList = (List.replicate n 0).map byteV := by
    rw [Nat.mul_one, List.map_replicate]
    exact made_one _ n
  rw [← e]
  exact h2
section
variable {W W' : World} {hb sb : Nat} {vc : Value} {T : Nat → Prop} {H : List (Option Hc)} {u h : Nat}
/-- along loadBytes: o bytes are there -/
structure LbI (W : World) (hb sb : Nat) (vc : Value) (T : Nat → Prop) (H : List (Option Hc)) (u h id gb Bb Bn : Nat) (bs : List Nat) (o : Nat) (W' : World) : Prop where
  lay : HLay W' hb sb vc T H u h
  b0 : Boxed W' W.heap.size 23 (.pointer (some ⟨hb, 0, none⟩))
  b1 : Boxed W' (W.heap.size + 1) 3 (.int .i64 id)
  bb : Boxed W' Bb 48 (.slice (some ⟨gb, 0, none⟩) bs.length bs.length)
  bn : Boxed W' Bn 3 (.int .i64 (bs.length : Nat))
  row : W'.ownsRow W.heap.size 5 1 (.slice (some ⟨gb, 0, none⟩) bs.length bs.length) bs.length ((upTo bs o).map byteV)
  bel : Below W.heap.size W W'
section
variable {id gb Bb Bn o : Nat} {bs : List Nat} {w2 : World}
theorem LbI.gge (q : LbI W hb sb vc T H u h id gb Bb Bn bs o W') : W.heap.size ≤ gb ∧ gb < W'.heap.size := q.row.lt gb rfl
theorem LbI.upd {S : Nat → Prop} (g : HLay W hb sb vc T H u h) (q : LbI W hb sb vc T H u h id gb Bb Bn bs o W') (hu : Upd S W' w2) (hS : ∀ k, S k → W.heap.size ≤ k) (h0 : ¬ S W.heap.size) (h1 : ¬ S (W.heap.size + 1)) (h2 : ¬ S Bb) (h3 : ¬ S Bn) (h4 : ¬ S gb) : LbI W hb sb vc T H u h id gb Bb Bn bs o w2 := by
  have hhb := g.hlt
  have hcv := g.clt
  have hst := g.tlt
  have hz := q.bel.size
  refine ⟨q.lay.upd hu (fun e => by have := hS _ e; omega) (fun k e e2 => by have := hcv k e; have := hS _ e2; omega) (fun k e e2 => by have := hst k e; have := hS _ e2; omega), box_of (hu.block _ q.b0.lt h0) q.b0, box_of (hu.block _ q.b1.lt h1) q.b1, box_of (hu.block _ q.bb.lt h2) q.bb, box_of (hu.block _ q.bn.lt h3) q.bn, owns_on q.row (fun k e => ?_), q.bel.trans (hu.below hz hS)⟩
  cases e
  exact hu.block _ q.gge.2 h4
theorem LbI.below (g : HLay W hb sb vc T H u h) (q : LbI W hb sb vc T H u h id gb Bb Bn bs o W') (hB : Below W'.heap.size W' w2) : LbI W hb sb vc T H u h id gb Bb Bn bs o w2 :=
  q.upd g (Upd.of_below (S := fun _ => False) hB) (fun k e => e.elim) (fun e => e) (fun e => e) (fun e => e) (fun e => e) (fun e => e)
theorem LbI.ne (q : LbI W hb sb vc T H u h id gb Bb Bn bs o W') {B t : Nat} {v : Value} (hb' : Boxed W' B t v) (ht : t ≠ 5) : B ≠ gb := by
  rintro rfl
  rcases q.row.2 with ⟨h0, _⟩ | ⟨g', cap', cur, h0, _, hgg, _⟩
  · cases h0
  · cases h0
    unfold Boxed at hb'
    rw [hgg] at hb'
    cases hb'
    exact ht rfl
theorem LbI.store (g : HLay W hb sb vc T H u h) (q : LbI W hb sb vc T H u h id gb Bb Bn bs o W') (y : Nat) (hy : bs[o]? = some y) : LbI W hb sb vc T H u h id gb Bb Bn bs (o + 1) (W'.setCell ⟨gb, o, none⟩ (.int .u8 (y : Nat))).drew := by
  show LbI W hb sb vc T H u h id gb Bb Bn bs (o + 1) (W'.drew.setCell ⟨gb, o, none⟩ (byteV y))
  obtain ⟨ho, rfl⟩ := List.getElem?_eq_some_iff.1 hy
  have hhb := g.hlt
  have hcv := g.clt
  have hst := g.tlt
  have hz := q.bel.size
  have hge := q.gge
  have n0 := q.ne q.b0 (by decide)
  have n1 := q.ne q.b1 (by decide)
  have n2 := q.ne q.bb (by decide)
  have n3 := q.ne q.bn (by decide)
  have hu : Upd (fun k => k = gb) W' (W'.drew.setCell ⟨gb, o, none⟩ (byteV bs[o])) := (Upd.refl (fun k => k = gb) W').drew.setCell (p := ⟨gb, o, none⟩) (.inl rfl) _
  have hst2 := (World.ownsRow.stored (w := W'.drew) (base := W.heap.size) q.row o (byteV bs[o])).1
  rw [← List.map_set, upTo_set bs o ho] at hst2
  exact ⟨q.lay.upd hu (fun e => by omega) (fun k e e2 => by have := hcv k e; omega) (fun k e e2 => by have := hst k e; omega), box_of (hu.block _ q.b0.lt n0) q.b0, box_of (hu.block _ q.b1.lt n1) q.b1, box_of (hu.block _ q.bb.lt n2) q.bb, box_of (hu.block _ q.bn.lt n3) q.bn, hst2, q.bel.trans (hu.below hz (fun k e => by omega))⟩
end
set_option maxRecDepth 100000 in
theorem loadBytes_c (g : HLay W hb sb vc T H u h) (id : Nat) (c : Hc) (hc : H[id]? = some (some c)) (bs : List Nat) (hbs : c.bytes = bs) (hb256 : ∀ x ∈ bs, x < 256) (hn : bs.length ≤ 8388608) :
    Calls Tryz.prog 118 #[.pointer (some ⟨hb, 0, none⟩), .int .i64 id] W fun e w' => ∃ gb, e = .returned (.slice (some ⟨gb, 0, none⟩) bs.length bs.length) ∧ W.heap.size ≤ gb ∧ Below W.heap.size W w' ∧ w'.ownsRow W.heap.size 5 1 (.slice (some ⟨gb, 0, none⟩) bs.length bs.length) bs.length (bs.map byteV) := by
  have hil := (List.getElem?_eq_some_iff.1 hc).1
  obtain ⟨nn, hnn⟩ : ∃ nn, bs.length = nn := ⟨_, rfl⟩
  rw [hnn] at hn ⊢
  have cpc := fun w => pieces_c w nn
  refine (callsIn_wide (n := 9)).1 ?_
  refine callsIn_of_wp_marks Tryz.func118 rfl trivial ?_ rfl
  refine wpIn_wide.2 ?_
  simp only [Tryz.ntmps118, List.size_toArray, List.length_cons, List.length_nil, Nat.reduceAdd, Nat.reduceSub, Array.replicate_succ, Array.replicate_zero, List.push_toArray, List.append_toArray, List.nil_append, List.cons_append]
  have b1 : Below W.heap.size W ((W.alloc (.cells #[.pointer (some ⟨hb, 0, none⟩)] 23)).alloc (.cells #[.int .i64 id] 3)) := ((Below.refl _ W).alloc (Nat.le_refl _) _).alloc (by simp) _
  have cb := bytes_c (g.below b1) id c hc
  rw [hbs, hnn] at cb
  have z2 : (((W.alloc (.cells #[.pointer (some ⟨hb, 0, none⟩)] 23)).alloc (.cells #[.int .i64 id] 3))).heap.size = W.heap.size + 2 := by simp
  have x0 : Boxed ((W.alloc (.cells #[.pointer (some ⟨hb, 0, none⟩)] 23)).alloc (.cells #[.int .i64 id] 3)) W.heap.size 23 (.pointer (some ⟨hb, 0, none⟩)) := (Boxed.new W _ _).alloc _
  have x1 : Boxed ((W.alloc (.cells #[.pointer (some ⟨hb, 0, none⟩)] 23)).alloc (.cells #[.int .i64 id] 3)) (W.heap.size + 1) 3 (.int .i64 id) := by
    have := Boxed.new (W.alloc (.cells #[.pointer (some ⟨hb, 0, none⟩)] 23)) 3 (.int .i64 id)
    rwa [World.size_alloc] at this
  have g2 := g.below b1
  go_upto_region 1 with fail
  generalize ((W.alloc (.cells #[.pointer (some ⟨hb, 0, none⟩)] 23)).alloc (.cells #[.int .i64 id] 3)) = W2 at *
  obtain ⟨Wm, hmk, hown, hgr⟩ := make_bytes W2 nn hn
  have b2 : Below W2.heap.size W2 Wm := ((Upd.refl (fun _ => False) W2).grown hgr (fun k e => by cases e)).below (Nat.le_refl _) (fun k e => e.elim)
  have y0 := x0.cell
  have y1 := x1.cell
  go_upto_region 2 with (go_at_call 69; (with_reducible refine cb.mono ?_); rintro e w' ⟨rfl, hw⟩; (have hw' := hw.symm); subst hw'; clear hw)
  have hownA := hown.alloc (.cells #[.slice (some ⟨W.heap.size + 2, 0, none⟩) nn nn] 48)
  have zm : W.heap.size + 2 < Wm.heap.size := by have : W2.heap.size < Wm.heap.size := (hown.lt W2.heap.size rfl).2; omega
  have xb : Boxed (Wm.alloc (.cells #[.slice (some ⟨W.heap.size + 2, 0, none⟩) nn nn] 48)) Wm.heap.size 48 (.slice (some ⟨W.heap.size + 2, 0, none⟩) nn nn) := Boxed.new _ _ _
  have bA : Below W2.heap.size W2 (Wm.alloc (.cells #[.slice (some ⟨W.heap.size + 2, 0, none⟩) nn nn] 48)) := b2.alloc b2.size _
  have zA : (Wm.alloc (.cells #[.slice (some ⟨W.heap.size + 2, 0, none⟩) nn nn] 48)).heap.size = Wm.heap.size + 1 := World.size_alloc ..
  generalize Wm.alloc (.cells #[.slice (some ⟨W.heap.size + 2, 0, none⟩) nn nn] 48) = WA at *
  have yb := xb.cell
  go_wp2_with (go_at_call 137; (with_reducible refine (cpc _).mono ?_); rintro e w8 ⟨rfl, hw8⟩; (have hw' := hw8.symm); subst hw'; clear hw8)
  rw [z2] at hownA
  subst hnn
  have bZ : Below W2.heap.size W2 (WA.alloc (.cells #[.int .i64 (bs.length : Nat)] 3)) := bA.alloc bA.size _
  have q0 : LbI W hb sb vc T H u h id (W.heap.size + 2) Wm.heap.size (Wm.heap.size + 1) bs 0 (WA.alloc (.cells #[.int .i64 (bs.length : Nat)] 3)) := by
    refine ⟨g2.below bZ, box_of (bZ.block _ (by omega)) x0, box_of (bZ.block _ (by omega)) x1, xb.alloc _, ?_, ?_, b1.trans (bZ.mono (by omega))⟩
    · have := Boxed.new WA 3 (.int .i64 (bs.length : Nat))
      rwa [zA] at this
    · rw [upTo_zero]
      exact owns_base (hownA.alloc _) (fun g e => by cases e; show W.heap.size ≤ W.heap.size + 2; omega)
  have zZ : (WA.alloc (.cells #[.int .i64 (bs.length : Nat)] 3)).heap.size = Wm.heap.size + 2 := by rw [World.size_alloc, zA]
  generalize WA.alloc (.cells #[.int .i64 (bs.length : Nat)] 3) = WZ at *
  refine pieces_law (p1 := 18) (p2 := 19) (W0 := WZ) (Bn := Wm.heap.size + 1) bs.length hn rfl
    (fun i W' => LbI W hb sb vc T H u h id (W.heap.size + 2) Wm.heap.size (Wm.heap.size + 1) bs (pieceO bs.length i) W')
    ?hL ?hI (by rw [piece_zero]; exact q0) 6 7 ?assign ?body ?done
  case hL =>
    intro i W' q
    exact q.bn.cell
  case hI =>
    intro i Wa Wb q hu
    exact q.upd g hu (fun k e => by omega) (by omega) (by omega) (by omega) (by omega) (by omega)
  case assign =>
    intro L x y W' K hK
    gi_wp2_with (simp only [Oper.semAt]; go_simp)
    exact hK
  case done =>
    intro W' q hD
    rw [piece_end] at q
    have yb2 := q.bb.cell
    have Q := hid q
    clear q
    go_wp2
    refine ⟨by simp, .inl ⟨_, _, rfl, run_takeDeferred hD, ?_⟩⟩
    have q9 := Q.out.upd g (upd_put (S := fun k => k = WZ.heap.size) rfl (.deferred none)) (fun k e => by omega) (by omega) (by omega) (by omega) (by omega) (by omega)
    refine ⟨_, results_tmp rfl _ _ _, W.heap.size + 2, rfl, by omega, q9.bel, ?_⟩
    have r9 := q9.row
    rwa [upTo_all] at r9
  case body =>
    intro L i hi W' hLe q hs hr
    simp only [pAct, List.setIfInBounds_toArray, List.set_cons_succ, List.set_cons_zero]
    have hp := piece_lt bs.length i hi
    have hw1 : pieceW bs.length i = 1 ∨ pieceW bs.length i = 2 ∨ pieceW bs.length i = 4 ∨ pieceW bs.length i = 8 := by unfold pieceW; split <;> simp
    have hsl := seg_len bs (pieceO bs.length i) (pieceW bs.length i) hp.1
    have cl := load_st (q.lay.same (W' := W'.drew) rfl).st id _ (hA_some hc) (pieceO bs.length i) (pieceW bs.length i) hw1 hp.2 (by rw [hbs]; exact hp.1)
    rw [hbs] at cl
    have hnx := piece_next bs.length i
    rw [hnx]
    have hge := q.gge
    have y0 := q.b0.cell
    have y1 := q.b1.cell
    have c0 := q.lay.cell 0
    simp only [List.getElem?_cons_zero] at c0
    have Q := hid q
    have HS := hid hsl
    have HP := hid hp
    have HB : Hid (∀ k, k < pieceW bs.length i → ∃ y : Nat, bs[pieceO bs.length i + k]? = some y ∧ IntKind.u8.wrap (((leN (seg bs (pieceO bs.length i) (pieceW bs.length i)) : Nat) : Int) / 2 ^ (8 * k)) = (y : Int)) := by
      show ∀ k, k < pieceW bs.length i → _
      intro k hk
      have e := byte_leN (seg bs (pieceO bs.length i) (pieceW bs.length i)) (fun x hx => hb256 x (List.mem_of_mem_drop (List.mem_of_mem_take hx))) k (by omega)
      refine ⟨(seg bs (pieceO bs.length i) (pieceW bs.length i))[k]'(by omega), ?_, ?_⟩
      · rw [← seg_get bs (pieceO bs.length i) (pieceW bs.length i) k hk]
        exact List.getElem?_eq_getElem _
      · rw [← e, show (2 : Int) ^ (8 * k) = ((256 ^ k : Nat) : Int) by rw [Int.pow_mul]; simp]
        rw [← Int.natCast_ediv, IntKind.wrap_u8]
        omega
    have hLn : L ≠ W.heap.size + 2 := by omega
    have hZn : WZ.heap.size ≠ W.heap.size + 2 := by omega
    clear q x0 x1 xb g2 q0 hr hsl hp b1 b2 bA bZ yb hgr hownA
    generalize leN (seg bs (pieceO bs.length i) (pieceW bs.length i)) = X at *
    generalize pieceO bs.length (i + 1) = oo1 at *
    generalize hoo : pieceO bs.length i = oo at *
    generalize hww : pieceW bs.length i = ww at *
    have hw8 : ww ≤ 8 := by omega
    clear hnx hoo hww hw1
    gi_wp2_with (simp only [Oper.semAt]; go_simp)
    refine round_held (S := fun w' => w'.cell? ⟨W.heap.size, 0, none⟩ = some (.pointer (some ⟨hb, 0, none⟩)) ∧ w'.cell? ⟨W.heap.size + 1, 0, none⟩ = some (.int .i64 id) ∧ w'.cell? ⟨hb, 0, none⟩ = some (.pointer (some ⟨sb, 0, none⟩))) (by kernel_rfl) (by kernel_rfl) (by rintro ⟨a, w, hF⟩; exact hF) ?_
    have hS : W'.drew.cell? ⟨W.heap.size, 0, none⟩ = some (.pointer (some ⟨hb, 0, none⟩)) ∧ W'.drew.cell? ⟨W.heap.size + 1, 0, none⟩ = some (.int .i64 id) ∧ W'.drew.cell? ⟨hb, 0, none⟩ = some (.pointer (some ⟨sb, 0, none⟩)) := ⟨y0, y1, c0⟩
    (refine wpAnyH_take (i := 0) (v := ?_) rfl (by kernel_rfl) (by kernel_rfl) (by kernel_rfl) (fun _ _ _ h => h) (Or.inl ⟨by rfl, ?_⟩) hS ?_); rotate_left; focus (intro w' hSw; obtain ⟨s1, s2, s3⟩ := hSw; go_simp; (try with_reducible rfl)); (try simp only [Act.put, List.setIfInBounds_toArray, List.set_cons_zero, List.set_cons_succ])
    (refine wpAnyH_take (i := 1) (v := ?_) rfl (by kernel_rfl) (by kernel_rfl) (by kernel_rfl) (fun _ _ _ h => h) (Or.inl ⟨by rfl, ?_⟩) hS ?_); rotate_left; focus (intro w' hSw; obtain ⟨s1, s2, s3⟩ := hSw; go_simp; (try with_reducible rfl)); (try simp only [Act.put, List.setIfInBounds_toArray, List.set_cons_zero, List.set_cons_succ])
    (refine wpAnyH_take (i := 2) (v := ?_) rfl (by kernel_rfl) (by kernel_rfl) (by kernel_rfl) (fun _ _ _ h => h) (Or.inl ⟨by rfl, ?_⟩) hS ?_); rotate_left; focus (intro w' hSw; obtain ⟨s1, s2, s3⟩ := hSw; go_simp; (try with_reducible rfl)); (try simp only [Act.put, List.setIfInBounds_toArray, List.set_cons_zero, List.set_cons_succ])
    (refine wpAnyH_take (i := 3) (v := ?_) rfl (by kernel_rfl) (by kernel_rfl) (by kernel_rfl) (fun _ _ _ h => h) (Or.inl ⟨by rfl, ?_⟩) hS ?_); rotate_left; focus (intro w' hSw; obtain ⟨s1, s2, s3⟩ := hSw; go_simp; (try with_reducible rfl)); (try simp only [Act.put, List.setIfInBounds_toArray, List.set_cons_zero, List.set_cons_succ])
    (refine wpAnyH_take (i := 4) (v := ?_) rfl (by kernel_rfl) (by kernel_rfl) (by kernel_rfl) (fun _ _ _ h => h) (Or.inl ⟨by rfl, ?_⟩) hS ?_); rotate_left; focus (intro w' hSw; obtain ⟨s1, s2, s3⟩ := hSw; go_simp; (try with_reducible rfl)); (try simp only [Act.put, List.setIfInBounds_toArray, List.set_cons_zero, List.set_cons_succ])
    (refine wpAnyH_take (i := 5) (v := ?_) rfl (by kernel_rfl) (by kernel_rfl) (by kernel_rfl) (fun _ _ _ h => h) (Or.inl ⟨by rfl, ?_⟩) hS ?_); rotate_left; focus (intro w' hSw; obtain ⟨s1, s2, s3⟩ := hSw; go_simp; (try with_reducible rfl)); (try simp only [Act.put, List.setIfInBounds_toArray, List.set_cons_zero, List.set_cons_succ])
    (refine wpAnyH_take (i := 6) (v := ?_) rfl (by kernel_rfl) (by kernel_rfl) (by kernel_rfl) (fun _ _ _ h => h) (Or.inl ⟨by rfl, ?_⟩) hS ?_); rotate_left; focus (intro w' hSw; obtain ⟨s1, s2, s3⟩ := hSw; go_simp; (try with_reducible rfl)); (try simp only [Act.put, List.setIfInBounds_toArray, List.set_cons_zero, List.set_cons_succ])
    refine wpAnyH_ready (rs := [7]) (by kernel_rfl) (by simp) ?_
    refine AllReadyH.cons rfl (fun K hK => ?_) AllReadyH.nil
    go_simp
    refine cl.mono ?_
    rintro e w2 ⟨rfl, hB2⟩
    have q2 := (Q.out.below g (w2 := w2) ⟨hB2.os, hB2.tape, hB2.output, hB2.size, hB2.block⟩)
    refine hK.out _ _ ⟨q2.b0.cell, q2.b1.cell, q2.lay.cell 0⟩ (fun hS2 => ?_)
    clear hK K hS cl
    (refine wpAnyH_take (i := 8) (v := ?_) rfl (by kernel_rfl) (by kernel_rfl) (by kernel_rfl) (fun _ _ _ h => h) (Or.inl ⟨by rfl, ?_⟩) hS2 ?_); rotate_left; focus (intro w' hSw; obtain ⟨s1, s2, s3⟩ := hSw; go_simp; (try with_reducible rfl)); (try simp only [Act.put, List.setIfInBounds_toArray, List.set_cons_zero, List.set_cons_succ])
    (refine wpAnyH_take (i := 9) (v := ?_) rfl (by kernel_rfl) (by kernel_rfl) (by kernel_rfl) (fun _ _ _ h => h) (Or.inl ⟨by rfl, ?_⟩) hS2 ?_); rotate_left; focus (intro w' hSw; obtain ⟨s1, s2, s3⟩ := hSw; go_simp; (try with_reducible rfl)); (try simp only [Act.put, List.setIfInBounds_toArray, List.set_cons_zero, List.set_cons_succ])
    (refine wpAnyH_take (i := 10) (v := ?_) rfl (by kernel_rfl) (by kernel_rfl) (by kernel_rfl) (fun _ _ _ h => h) (Or.inl ⟨by rfl, ?_⟩) hS2 ?_); rotate_left; focus (intro w' hSw; obtain ⟨s1, s2, s3⟩ := hSw; go_simp; (try with_reducible rfl)); (try simp only [Act.put, List.setIfInBounds_toArray, List.set_cons_zero, List.set_cons_succ])
    (refine wpAnyH_take (i := 11) (v := ?_) rfl (by kernel_rfl) (by kernel_rfl) (by kernel_rfl) (fun _ _ _ h => h) (Or.inl ⟨by rfl, ?_⟩) hS2 ?_); rotate_left; focus (intro w' hSw; obtain ⟨s1, s2, s3⟩ := hSw; go_simp; (try with_reducible rfl)); (try simp only [Act.put, List.setIfInBounds_toArray, List.set_cons_zero, List.set_cons_succ])
    (refine wpAnyH_take (i := 12) (v := ?_) rfl (by kernel_rfl) (by kernel_rfl) (by kernel_rfl) (fun _ _ _ h => h) (Or.inl ⟨by rfl, ?_⟩) hS2 ?_); rotate_left; focus (intro w' hSw; obtain ⟨s1, s2, s3⟩ := hSw; go_simp; (try with_reducible rfl)); (try simp only [Act.put, List.setIfInBounds_toArray, List.set_cons_zero, List.set_cons_succ])
    refine wpAnyH_done (by kernel_rfl) ?_ _
    have hU0 : Upd (fun k => k = W.heap.size + 2) W' w2 := ⟨hB2.os, hB2.tape, hB2.output, hB2.size, fun k hk _ => hB2.block k hk⟩
    have HQ2 := hid q2
    have HU0 := hid hU0
    clear hS2 q2 hB2 Q y0 y1 c0 hU0
    gi_wp2_with (simp only [Oper.semAt]; go_simp)
    gi_loopw [32] (fun ii wr => ∃ k : Nat, k ≤ ww ∧ ii = .int .i64 k ∧ LbI W hb sb vc T H u h id (W.heap.size + 2) Wm.heap.size (Wm.heap.size + 1) bs (oo + k) wr ∧ Upd (fun k => k = W.heap.size + 2) W' wr) (fun ii _ => ww - (intOf ii).toNat)
    case atStart => exact ⟨0, Nat.zero_le _, rfl, HQ2.out, HU0.out⟩
    case round =>
      obtain ⟨k, hk, rfl, qk, huk⟩ := hrel
      have w1 : IntKind.i64.wrap ((k : Int) + 1) = (k : Int) + 1 := by rw [IntKind.wrap_i64]; have := HP.out; omega
      have w8 : IntKind.i64.wrap (8 * (k : Int)) = 8 * (k : Int) := by rw [IntKind.wrap_i64]; have := HP.out; omega
      have w9 : IntKind.i64.wrap ((oo : Int) + (k : Int)) = (oo : Int) + (k : Int) := by rw [IntKind.wrap_i64]; have := HP.out; omega
      by_cases hlt : k < ww
      · obtain ⟨y, hy, hyv⟩ := HB.out k hlt
        have hst := hid (qk.store g y hy)
        have yb := qk.bb.cell
        have k1 : (k : Int) < ww := by omega
        have HUK := hid huk
        have HQK := hid qk
        clear qk huk
        gi_wp2_with (simp only [Oper.semAt]; go_simp)
        have n1 : (0 : Int) ≤ (oo : Int) + (k : Int) := by omega
        have n2 : (oo : Int) + (k : Int) < bs.length := by have := HP.out; omega
        have n3 : ((oo : Int) + (k : Int)).toNat = oo + k := by omega
        have n4 : (8 * (k : Int)).toNat = 8 * k := by omega
        have n5 : (0 : Int) ≤ 8 * (k : Int) := by omega
        have n6 : min (8 * k) 64 = 8 * k := by omega
        have hcl : ∃ z, wr.drew.cell? ⟨W.heap.size + 2, oo + k, none⟩ = some z := by
          have e := HQK.out.row.cellAt (oo + k) (by have := HP.out; omega)
          rw [List.getElem?_map, List.getElem?_eq_getElem (by rw [upTo_len _ _ (by have := HP.out; omega)]; have := HP.out; omega)] at e
          exact ⟨_, e⟩
        obtain ⟨z, hcl⟩ := hcl
        have hfz : wr.drew.frozen? ⟨W.heap.size + 2, oo + k, none⟩ = false := HQK.out.row.frozenAt (oo + k)
        refine round_held (S := fun w' => w'.cell? ⟨Wm.heap.size, 0, none⟩ = some (.slice (some ⟨W.heap.size + 2, 0, none⟩) bs.length bs.length)) (by kernel_rfl) (by kernel_rfl) (by rintro ⟨a, w, hF⟩; exact hF) ?_
        have hS : wr.drew.cell? ⟨Wm.heap.size, 0, none⟩ = some (.slice (some ⟨W.heap.size + 2, 0, none⟩) bs.length bs.length) := yb
        (refine wpAnyH_take (i := 0) (v := ?_) rfl (by kernel_rfl) (by kernel_rfl) (by kernel_rfl) (fun _ _ _ h => h) (Or.inl ⟨by rfl, ?_⟩) hS ?_); rotate_left; focus (intro w' hSw; go_simp; (try with_reducible rfl)); (try simp only [Act.put, List.setIfInBounds_toArray, List.set_cons_zero, List.set_cons_succ])
        (refine wpAnyH_take (i := 1) (v := ?_) rfl (by kernel_rfl) (by kernel_rfl) (by kernel_rfl) (fun _ _ _ h => h) (Or.inl ⟨by rfl, ?_⟩) hS ?_); rotate_left; focus (intro w' hSw; go_simp; (try with_reducible rfl)); (try simp only [Act.put, List.setIfInBounds_toArray, List.set_cons_zero, List.set_cons_succ])
        (refine wpAnyH_take (i := 2) (v := ?_) rfl (by kernel_rfl) (by kernel_rfl) (by kernel_rfl) (fun _ _ _ h => h) (Or.inl ⟨by rfl, ?_⟩) hS ?_); rotate_left; focus (intro w' hSw; go_simp; (try with_reducible rfl)); (try simp only [Act.put, List.setIfInBounds_toArray, List.set_cons_zero, List.set_cons_succ])
        (refine wpAnyH_take (i := 3) (v := ?_) rfl (by kernel_rfl) (by kernel_rfl) (by kernel_rfl) (fun _ _ _ h => h) (Or.inl ⟨by rfl, ?_⟩) hS ?_); rotate_left; focus (intro w' hSw; go_simp; (try with_reducible rfl)); (try simp only [Act.put, List.setIfInBounds_toArray, List.set_cons_zero, List.set_cons_succ])
        (refine wpAnyH_take (i := 4) (v := ?_) rfl (by kernel_rfl) (by kernel_rfl) (by kernel_rfl) (fun _ _ _ h => h) (Or.inl ⟨by rfl, ?_⟩) hS ?_); rotate_left; focus (intro w' hSw; go_simp; (try with_reducible rfl)); (try simp only [Act.put, List.setIfInBounds_toArray, List.set_cons_zero, List.set_cons_succ])
        (refine wpAnyH_take (i := 5) (v := ?_) rfl (by kernel_rfl) (by kernel_rfl) (by kernel_rfl) (fun _ _ _ h => h) (Or.inl ⟨by rfl, ?_⟩) hS ?_); rotate_left; focus (intro w' hSw; go_simp; (try with_reducible rfl)); (try simp only [Act.put, List.setIfInBounds_toArray, List.set_cons_zero, List.set_cons_succ])
        (refine wpAnyH_take (i := 6) (v := ?_) rfl (by kernel_rfl) (by kernel_rfl) (by kernel_rfl) (fun _ _ _ h => h) (Or.inl ⟨by rfl, ?_⟩) hS ?_); rotate_left; focus (intro w' hSw; go_simp; (try with_reducible rfl)); (try simp only [Act.put, List.setIfInBounds_toArray, List.set_cons_zero, List.set_cons_succ])
        (refine wpAnyH_take (i := 7) (v := ?_) rfl (by kernel_rfl) (by kernel_rfl) (by kernel_rfl) (fun _ _ _ h => h) (Or.inl ⟨by rfl, ?_⟩) hS ?_); rotate_left; focus (intro w' hSw; go_simp; (try with_reducible rfl)); (try simp only [Act.put, List.setIfInBounds_toArray, List.set_cons_zero, List.set_cons_succ])
        (refine wpAnyH_take (i := 8) (v := ?_) rfl (by kernel_rfl) (by kernel_rfl) (by kernel_rfl) (fun _ _ _ h => h) (Or.inl ⟨by rfl, ?_⟩) hS ?_); rotate_left; focus (intro w' hSw; go_simp; (try with_reducible rfl)); (try simp only [Act.put, List.setIfInBounds_toArray, List.set_cons_zero, List.set_cons_succ])
        (refine wpAnyH_take (i := 9) (v := ?_) rfl (by kernel_rfl) (by kernel_rfl) (by kernel_rfl) (fun _ _ _ h => h) (Or.inl ⟨by rfl, ?_⟩) hS ?_); rotate_left; focus (intro w' hSw; go_simp; (try with_reducible rfl)); (try simp only [Act.put, List.setIfInBounds_toArray, List.set_cons_zero, List.set_cons_succ])
        refine wpAnyH_ready (rs := [10]) (by kernel_rfl) (by simp) ?_
        refine AllReadyH.cons rfl (fun K hK => ?_) AllReadyH.nil
        go_simp
        refine hK.out _ _ (hst.out.bb.cell) (fun hS2 => ?_)
        clear hK K hS
        refine wpAnyH_done (by kernel_rfl) ?_ _
        have HU2 := hid (HUK.out.setCell (p := ⟨W.heap.size + 2, oo + k, none⟩) (.inl rfl) (.int .u8 (y : Nat))).drew
        clear hS2 hcl hfz yb
        gi_wp2_with (simp only [Oper.semAt]; go_simp)
        go_roundw
        case rel => exact ⟨k + 1, hlt, by go_num, by rw [← Nat.add_assoc]; exact hst.out, HU2.out⟩
        case measure => show ww - (k + 1 : Int).toNat < ww - (k : Int).toNat; omega
      · have he : k = ww := by omega
        have k1 : ¬ (k : Int) < ww := by omega
        rw [he] at qk
        have HQK := hid qk
        have HUK := hid huk
        clear qk huk he
        gi_wp2_with (simp only [Oper.semAt]; go_simp)
        exact ⟨⟨HUK.out.block _ (by omega) (by omega), HUK.out.block _ (by omega) (by omega)⟩, HQK.out⟩
end
end Go.Proofs.YtikgicepdalfpaaGreat.W
/- Package heap: right, of strings. -/
namespace Go.Proofs.YtikgicepdalfpaaGreat.W
open Go.ChangeShapes Go.WideShapes Go.RowKit Go.Shelf
set_option linter.unusedVariables false
theorem right_text (t : ByteArray) (ob ow : Option Addr) (bc wc : Nat) (hl : t.size ≤ 8388608) (hb : Nat) (W : World) : Calls Tryz.prog 32 #[.pointer (some ⟨hb, 0, none⟩), .agg #[.int .i64 4, .bool false, .int .i64 0, .string t, .slice ob 0 bc, .slice ow 0 wc, .int .u64 0, .int .i64 0, .int .i64 0]] W fun e w' => e = .returned (.bool true) ∧ Below W.heap.size W w' := by
  have cp := plain_text t ob ow bc wc
  have cs : ∀ w, Calls Tryz.prog 59 #[.int .i64 4, .bool false] w fun e w' => e = .returned (.int .i64 2) ∧ w' = w := fun w => shape_c 4 false w
  unfold cellV at cp
  have hB := (show Below W.heap.size W (W.alloc (.cells #[.int .i64 4, .bool false, .int .i64 0, .string t, .slice ob 0 bc, .slice ow 0 wc, .int .u64 0, .int .i64 0, .int .i64 0] 50)) from (Below.refl _ W).alloc (Nat.le_refl _) _)
  have n0 := World.cell?_alloc_new W #[.int .i64 4, .bool false, .int .i64 0, .string t, .slice ob 0 bc, .slice ow 0 wc, .int .u64 0, .int .i64 0, .int .i64 0] 50 0
  have n1 := World.cell?_alloc_new W #[.int .i64 4, .bool false, .int .i64 0, .string t, .slice ob 0 bc, .slice ow 0 wc, .int .u64 0, .int .i64 0, .int .i64 0] 50 1
  have n3 := World.cell?_alloc_new W #[.int .i64 4, .bool false, .int .i64 0, .string t, .slice ob 0 bc, .slice ow 0 wc, .int .u64 0, .int .i64 0, .int .i64 0] 50 3
  simp only [List.getElem?_toArray, List.getElem?_cons_succ, List.getElem?_cons_zero] at n0 n1 n3
  have l1 : (t.size : Int) ≤ 8388608 := by omega
  have HB := hid hB
  go_enter Tryz.func32, Tryz.ntmps32
  go_wp2_with (first | (go_at_call 58; (with_reducible refine (cp _).mono ?_); rintro e w2 ⟨rfl, hB2⟩; (have z0 := below_cell hB2 n0); (have z1 := below_cell hB2 n1); (have z3 := below_cell hB2 n3); (have HB2 := hid hB2); clear hB2) | (go_at_call 59; (with_reducible refine (cs _).mono ?_); rintro e w' ⟨rfl, hw⟩; (have hw' := hw.symm); subst hw'; clear hw))
  go_ret
  exact ⟨rfl, HB.out.trans (HB2.out.mono HB.out.size)⟩
end Go.Proofs.YtikgicepdalfpaaGreat.W
/- Package heap: save and Put, of a string. -/
namespace Go.Proofs.YtikgicepdalfpaaGreat.W
open Go.ChangeShapes Go.WideShapes Go.RowKit Go.Shelf
set_option linter.unusedVariables false
section
variable {W W' : World} {hb sb : Nat} {vc : Value} {T : Nat → Prop} {H : List (Option Hc)} {u h : Nat}
theorem mkc_text (n : Nat) (h : n ≤ 8388608) : Mkc Hc.text n := ⟨fun b => rfl, fun b b' => rfl, fun b hb hl => ⟨hb, by omega⟩⟩
theorem save_text (g : HLay W hb sb vc T H u h) (id : Nat) (t : ByteArray) (hc : H[id]? = some (some (.text (List.replicate t.size 0)))) (hl : t.size ≤ 8388608) (ob ow : Option Addr) (bc wc : Nat) :
    Calls Tryz.prog 73 #[.pointer (some ⟨hb, 0, none⟩), .int .i64 id, .agg #[.int .i64 4, .bool false, .int .i64 0, .string t, .slice ob 0 bc, .slice ow 0 wc, .int .u64 0, .int .i64 0, .int .i64 0]] W fun e w' => e = .returned (.tuple #[]) ∧ Upd T W w' ∧ HLay w' hb sb vc T (H.set id (some (.text (t.data.toList.map UInt8.toNat)))) u h := by
  have hBa : Below W.heap.size W (W.alloc (.cells #[.int .i64 4, .bool false, .int .i64 0, .string t, .slice ob 0 bc, .slice ow 0 wc, .int .u64 0, .int .i64 0, .int .i64 0] 50)) := (Below.refl _ W).alloc (Nat.le_refl _) _
  have ga := g.below hBa
  have cs : ∀ w, Calls Tryz.prog 59 #[.int .i64 4, .bool false] w fun e w' => e = .returned (.int .i64 2) ∧ w' = w := fun w => shape_c 4 false w
  go_enter Tryz.func73, Tryz.ntmps73
  go_upto_region 5 with (go_at_call 59; (with_reducible refine (cs _).mono ?_); rintro e w' ⟨rfl, hw⟩; (have hw' := hw.symm); subst hw'; clear hw)
  have c3 := World.cell?_alloc_new W #[.int .i64 4, .bool false, .int .i64 0, .string t, .slice ob 0 bc, .slice ow 0 wc, .int .u64 0, .int .i64 0, .int .i64 0] 50 3
  simp only [List.getElem?_toArray, List.getElem?_cons_succ, List.getElem?_cons_zero] at c3
  have hsa : (W.alloc (.cells #[.int .i64 4, .bool false, .int .i64 0, .string t, .slice ob 0 bc, .slice ow 0 wc, .int .u64 0, .int .i64 0, .int .i64 0] 50)).heap.size = W.heap.size + 1 := World.size_alloc ..
  generalize W.alloc (.cells #[.int .i64 4, .bool false, .int .i64 0, .string t, .slice ob 0 bc, .slice ow 0 wc, .int .u64 0, .int .i64 0, .int .i64 0] 50) = Wa at *
  have hcv : (convert 9 48 (.string t)).run Tryz.prog Wa = .ok (.slice (some ⟨Wa.heap.size, 0, none⟩) t.size (grownCap Wa t.size 0 5)) (Lib.bytesWorld Wa 5 t) := Lib.run_convert_string_bytes Wa _ _ _ t Tryz.underlying9 Tryz.underlying48 Tryz.underlying5
  have hBb : Below Wa.heap.size Wa (Lib.bytesWorld Wa 5 t) := ⟨rfl, rfl, rfl, by rw [Lib.bytesWorld_size]; omega, fun k hk => Lib.bytesWorld_at_old Wa _ t k hk⟩
  have hsb := Lib.bytesWorld_size Wa 5 t
  have hbl : (t.data.toList.map UInt8.toNat).length = t.size := by rw [List.length_map]; rfl
  have hrow : ByteRow (Lib.bytesWorld Wa 5 t) (some ⟨Wa.heap.size, 0, none⟩) (t.data.toList.map UInt8.toNat) := by
    refine .inr ⟨_, _, rfl, fun i hi => ?_⟩
    rw [Nat.zero_add, Lib.bytesWorld_cell Wa _ t i (by omega)]
    have hi2 : i < t.data.size := by simpa using hi
    rw [List.getElem_map]
    simp
    rw [Array.getElem?_eq_getElem hi2]
    rfl
  have hcp : t.size ≤ grownCap Wa t.size 0 5 := grownCap_ge Wa t.size 0 _
  have cb := saveBytes_c (ga.below hBb) Hc.text (t.data.toList.map UInt8.toNat) (by rw [hbl]; exact mkc_text _ hl) (fun x hx => by obtain ⟨y, _, rfl⟩ := List.mem_map.1 hx; exact y.toNat_lt) (by omega) id (by rw [hbl]; exact hc) (some ⟨Wa.heap.size, 0, none⟩) (grownCap Wa t.size 0 5) (by omega) hrow (fun x e => by cases e; exact ⟨fun e2 => by have h9 := g.tlt Wa.heap.size e2; omega, by show Wa.heap.size < _; omega⟩)
  rw [hbl] at cb
  have fin : Hid (∀ w2, Upd T (Lib.bytesWorld Wa 5 t) w2 → Upd T W w2) := by
    show ∀ w2, _
    intro w2 hU
    exact ((Upd.of_below hBa).trans' (Upd.of_below hBb)).trans' hU
  generalize grownCap Wa t.size 0 5 = cp at *
  generalize Lib.bytesWorld Wa 5 t = Wb at *
  clear hrow hBb hsb ga g hBa hsa
  go_wp2_with (go_at_call 115; (with_reducible refine cb.mono ?_); rintro e w2 ⟨rfl, hU2, hL2⟩; clear cb)
  go_end0
  exact ⟨rfl, fin.out _ hU2, hL2⟩
/-- the bytes of a string -/
def strB (t : ByteArray) : List Nat := t.data.toList.map UInt8.toNat
theorem strB_len (t : ByteArray) : (strB t).length = t.size := by unfold strB; rw [List.length_map]; rfl
theorem strB_ok (t : ByteArray) (h : t.size ≤ 8388608) : (Hc.text (strB t)).ok := ⟨fun x hx => by obtain ⟨y, _, rfl⟩ := List.mem_map.1 hx; exact y.toNat_lt, by rw [strB_len]; exact h⟩
theorem text_need (t : ByteArray) : (Hc.text (strB t)).need = 1 + (t.size + 7) / 8 := by
  unfold Hc.need
  rw [show (Hc.text (strB t)).bytes.length = t.size from strB_len t]
theorem put_text {S : Nat → Prop} (g : HSt W S hb H u) (hS : ∀ k, S k → k < W.heap.size) (t : ByteArray) (hl : t.size ≤ 8388608) (ob ow : Option Addr) (bc wc : Nat) (vr : Value) (rs : List Nat) (hr : WordsAt W vr rs) :
    Calls Tryz.prog 15 #[.pointer (some ⟨hb, 0, none⟩), .agg #[.int .i64 4, .bool false, .int .i64 0, .string t, .slice ob 0 bc, .slice ow 0 wc, .int .u64 0, .int .i64 0, .int .i64 0], vr] W (PutPost W S hb (roomH H u (.text (strB t)) rs) u (.text (strB t))) := by
  refine hput_c g hS (.text (strB t)) (strB_ok t hl) 0 t ob ow 0 bc 0 wc hl (by decide) (by decide) ?_ (words_nil W ow wc) (show 0 < _ by decide) ?_ ?_ vr rs hr
  · show sizeV 4 false t.size 0 0 = (strB t).length
    rw [strB_len]; rfl
  · intro w hB
    exact right_text t ob ow bc wc hl hb w
  · intro sb h W' T' vc' H' id hl' hi hT hU
    have e : (Hc.text (strB t)).zero = .text (List.replicate t.size 0) := by show Hc.text (List.replicate (strB t).length 0) = _; rw [strB_len]
    rw [e] at hi
    exact save_text hl' id t hi hl ob ow bc wc
end
end Go.Proofs.YtikgicepdalfpaaGreat.W
/- Package heap: Get. -/
namespace Go.Proofs.YtikgicepdalfpaaGreat.W
open Go.ChangeShapes Go.WideShapes Go.RowKit Go.Shelf
set_option linter.unusedVariables false
section
variable {W W' : World} {hb sb : Nat} {vc : Value} {T : Nat → Prop} {H : List (Option Hc)} {u h : Nat}
theorem cell_ret2 {fn : Func} {p q : Tmp} (h : fn.results = #[.cell p 50, .tmp q]) (tmps : Array Value) (w : World) (gb : Nat) (v0 v1 v2 v3 v4 v5 v6 v7 v8 : Value) (fr : Nat × Nat) (hp : tmps.getD p undef = .pointer (some ⟨gb, 0, none⟩)) (hg : w.heap[gb]? = some (.cells #[v0, v1, v2, v3, v4, v5, v6, v7, v8] 50 fr)) : (results fn tmps).run Tryz.prog w = .ok (.tuple #[.agg #[v0, v1, v2, v3, v4, v5, v6, v7, v8], tmps.getD q undef]) w := by
  have ht := cellT
  rw [results_cell_tmp h, hp]
  cases hu : Tryz.prog.underlying 50 with
  | none => rw [hu] at ht; cases ht
  | some d =>
    rw [hu] at ht
    simp only [Option.map_some, Option.some.injEq] at ht
    have hl := run_loadVar_row (P := Tryz.prog) w gb 50 50 #[v0, v1, v2, v3, v4, v5, v6, v7, v8] fr d hg hu (by cases d <;> first | rfl | exact ht) (by rw [cellSz]; rfl)
    simp [asAddr, hl]
theorem get_c (g : HLay W hb sb vc T H u h) (w : Nat) (hw : w < 18446744073709551616) (id : Nat) (hi : hit H w = some id) (kd : Int) (vw : Bool) (i : Int) (t : ByteArray) (ob ow : Option Addr) (bl bc wl wc : Nat) (ba fr ln : Int) (hld : ∀ w1, Below W.heap.size W w1 → Calls Tryz.prog 76 #[.pointer (some ⟨hb, 0, none⟩), .int .i64 id] w1 fun e w' => e = .returned (.agg #[.int .i64 kd, .bool vw, .int .i64 i, .string t, .slice ob bl bc, .slice ow wl wc, .int .u64 ba, .int .i64 fr, .int .i64 ln]) ∧ Below w1.heap.size w1 w') :
    Calls Tryz.prog 43 #[.pointer (some ⟨hb, 0, none⟩), .int .u64 w] W fun e w' => e = .returned (.tuple #[.agg #[.int .i64 kd, .bool vw, .int .i64 i, .string t, .slice ob bl bc, .slice ow wl wc, .int .u64 ba, .int .i64 fr, .int .i64 ln], .int .i64 0]) ∧ Below W.heap.size W w' := by
  have hB1 : Below W.heap.size W (W.alloc (.cells #[.int .i64 0, .bool false, .int .i64 0, .string ⟨#[]⟩, .slice none 0 0, .slice none 0 0, .int .u64 0, .int .i64 0, .int .i64 0] 50)) := (Below.refl _ W).alloc (Nat.le_refl _) _
  have hs1 : (W.alloc (.cells #[.int .i64 0, .bool false, .int .i64 0, .string ⟨#[]⟩, .slice none 0 0, .slice none 0 0, .int .u64 0, .int .i64 0, .int .i64 0] 50)).heap.size = W.heap.size + 1 := World.size_alloc ..
  have f1 := World.alloc_heap_new W (.cells #[.int .i64 0, .bool false, .int .i64 0, .string ⟨#[]⟩, .slice none 0 0, .slice none 0 0, .int .u64 0, .int .i64 0, .int .i64 0] 50)
  have cf := find_c (g.below hB1) w hw
  rw [hi] at cf
  simp only [Option.getD_some, Option.isSome_some] at cf
  have cl := hld _ hB1
  have kp : Hid (∀ w4, Below (W.alloc (.cells #[.int .i64 0, .bool false, .int .i64 0, .string ⟨#[]⟩, .slice none 0 0, .slice none 0 0, .int .u64 0, .int .i64 0, .int .i64 0] 50)).heap.size (W.alloc (.cells #[.int .i64 0, .bool false, .int .i64 0, .string ⟨#[]⟩, .slice none 0 0, .slice none 0 0, .int .u64 0, .int .i64 0, .int .i64 0] 50)) w4 → w4.heap[W.heap.size]? = some (.cells #[.int .i64 0, .bool false, .int .i64 0, .string ⟨#[]⟩, .slice none 0 0, .slice none 0 0, .int .u64 0, .int .i64 0, .int .i64 0] 50) ∧ Below W.heap.size W w4) := by
    show ∀ w4, _
    intro w4 hB4
    exact ⟨(hB4.block _ (by omega)).trans f1, hB1.trans (hB4.mono hB1.size)⟩
  clear hld
  go_enter Tryz.func43, Tryz.ntmps43
  go_upto_region 1 with fail
  generalize W.alloc (.cells #[.int .i64 0, .bool false, .int .i64 0, .string ⟨#[]⟩, .slice none 0 0, .slice none 0 0, .int .u64 0, .int .i64 0, .int .i64 0] 50) = W1 at *
  go_wp2_with (first | (go_at_call 68; (with_reducible refine cf.mono ?_); rintro e w' ⟨rfl, hw⟩; (have hw' := hw.symm); subst hw'; clear hw cf) | (go_at_call 76; (with_reducible refine cl.mono ?_); rintro e w4 ⟨rfl, hB4⟩; clear cl; (obtain ⟨fR, hBf⟩ := kp.out w4 hB4); (have eR := fun j => cell_of_row w4 W.heap.size j _ _ _ fR); (have zR := (fun j => by simp [World.frozen?, fR] : ∀ j, w4.frozen? ⟨W.heap.size, j, none⟩ = false)); (have FR := hid fR); clear fR))
  refine bodyPost_ret (cell_ret2 rfl _ _ W.heap.size _ _ _ _ _ _ _ _ _ (0, 0) rfl (nine_set FR.out _ _ _ _ _ _ _ _ _)) rfl ?_
  exact ⟨rfl, nine_below hBf (Nat.le_refl _) _ _ _ _ _ _ _ _ _⟩
theorem get_num (g : HLay W hb sb vc T H u h) (w : Nat) (hw : w < 18446744073709551616) (id : Nat) (hi : hit H w = some id) (i : Int) (hc : H[id]? = some (some (.num i))) :
    Calls Tryz.prog 43 #[.pointer (some ⟨hb, 0, none⟩), .int .u64 w] W fun e w' => e = .returned (.tuple #[.agg #[.int .i64 2, .bool false, .int .i64 i, .string ByteArray.empty, .slice none 0 0, .slice none 0 0, .int .u64 0, .int .i64 0, .int .i64 0], .int .i64 0]) ∧ Below W.heap.size W w' :=
  get_c g w hw id hi 2 false i ByteArray.empty none none 0 0 0 0 0 0 0 (fun w1 hB => load_num (g.below hB) id i hc)
end
end Go.Proofs.YtikgicepdalfpaaGreat.W
