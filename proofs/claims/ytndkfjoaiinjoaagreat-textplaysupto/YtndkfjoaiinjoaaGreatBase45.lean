import Derived.Test.YtndkfjoaiinjoaaGreatBase42
import Derived.Test.YtndkfjoaiinjoaaGreatBase43
import Derived.Test.YtndkfjoaiinjoaaGreatBase44
/- TextPlays: what stands behind each act. -/
namespace Go.Proofs.YtndkfjoaiinjoaaGreat.W
open Go.ChangeShapes Go.WideShapes Go.RowKit Go.Shelf Si
set_option linter.unusedVariables false
/-- the pool's blocks -/
def Kq (pb rb : Nat) (lv wv vv : Value) (k : Nat) : Prop := k = pb ∨ k = rb ∨ lv.ownBlock = some k ∨ wv.ownBlock = some k ∨ vv.ownBlock = some k
theorem Hf.updN {W0 W W' : World} {hb : Nat} {H : List (Option Hc)} {u : Nat} {K D : Nat → Prop} (q : Hf W0 W hb H u K) (hU : Upd D W W') (hD : ∀ k, D k → K k ∧ W0.heap.size ≤ k) : Hf W0 W' hb H u (fun k => K k ∨ (W.heap.size ≤ k ∧ k < W'.heap.size)) := by
  obtain ⟨h1, S, h2, h3, h4⟩ := q
  have z := hU.size
  refine ⟨h1.trans (hU.below h1.size (fun k e => (hD k e).2)), S, h2.on z (fun k e hl => hU.block k hl (fun d => (h4 k (hD k d).1).2 e)), fun k e => ⟨(h3 k e).1, by have := (h3 k e).2; omega⟩, ?_⟩
  rintro k (e | e)
  · exact ⟨by have := (h4 k e).1; omega, (h4 k e).2⟩
  · exact ⟨e.2, fun e2 => by have := (h3 k e2).2; omega⟩
theorem Hf.le {W0 W : World} {hb : Nat} {H : List (Option Hc)} {u : Nat} {K : Nat → Prop} (q : Hf W0 W hb H u K) : sumH H ≤ u := by
  obtain ⟨h1, S, ⟨sb, vc, T, _, _, _, _, h⟩, _⟩ := q
  exact h
theorem need_sum {H : List (Option Hc)} {i : Nat} {d : Hc} (h : H[i]? = some (some d)) : d.need ≤ sumH H := by
  obtain ⟨hi, e⟩ := List.getElem?_eq_some_iff.1 h
  have h1 := sumH_set H i none hi
  rw [e] at h1
  simp only [needO] at h1
  omega
section
variable {H : List (Option Hc)} {L : List Rc} {ws : List Nat} {vs : List Tv} {f : Nat → Nat} {u : Nat}
theorem Tl.small (p : Tl H L ws vs f) (hs : sumH H ≤ u) (hu : u ≤ 1000) : ∀ c ∈ L, c.ch ≤ 100000000 := by
  intro c hc
  obtain ⟨k, hk⟩ := List.mem_iff_getElem?.1 hc
  cases c with
  | gone => exact Nat.zero_le _
  | num => exact Nat.zero_le _
  | txt n =>
    have hh : hd L k := by unfold hd; rw [hk]; rfl
    obtain ⟨d, h1, h2⟩ := p.cell k hh
    rw [hk] at h2
    have h3 := need_sum h1
    simp only [Option.getD_some, Rc.need] at h2
    show n ≤ 100000000
    omega
theorem Tl.cel (p : Tl H L ws vs f) : ∀ v ∈ vs, v.cell < 0 ∨ ∃ k : Nat, v.cell = k ∧ k < L.length := by
  intro v hv
  obtain ⟨n, hn⟩ := List.mem_iff_getElem?.1 hv
  have hl := (List.getElem?_eq_some_iff.1 hn).1
  obtain ⟨w, hw⟩ : ∃ w, ws[n]? = some w := ⟨_, List.getElem?_eq_getElem (by rw [p.len]; exact hl)⟩
  rcases p.val n v w hn hw with ⟨c, _⟩ | ⟨k, h1, h2, _⟩
  · left; omega
  · exact .inr ⟨k, h1, h2⟩
theorem Tl.isv (p : Tl H L ws vs f) {n : Nat} {v : Tv} {w : Nat} (hv : vs[n]? = some v) (hw' : ws[n]? = some w) (ha : v.alive L) (ht : v.whole = true → v.t = ⟨#[]⟩) : IsV H w v.whole v.i v.t := by
  obtain ⟨h1, h2⟩ := p.told hv hw' ha
  cases hb : v.whole with
  | true => exact .inl ⟨rfl, h1 hb, ht hb⟩
  | false => exact .inr ⟨rfl, h2 hb⟩
end
/-- the pool beside both heaps -/
structure Inv8 (W0 W : World) (pb hb rb u : Nat) (lv wv vv : Value) (L : List Rc) (ws : List Nat) (vs : List Tv) (H : List (Option Hc)) (f : Nat → Nat) : Prop where
  pl : Tpl W pb hb rb lv wv vv u L ws vs
  sp : Sep pb rb lv wv vv
  tl : Tl H L ws vs f
  hf : Hf W0 W hb H u (Kq pb rb lv wv vv)
  far : ∀ k, Kq pb rb lv wv vv k → W0.heap.size ≤ k
  wt : ∀ v ∈ vs, v.whole = true → v.t = ⟨#[]⟩
  hu : u ≤ 1000
/-- and how many have been made -/
def Pool8 (W0 : World) (pb hb rb u m : Nat) (W : World) : Prop := ∃ lv wv vv L ws vs H f, Inv8 W0 W pb hb rb u lv wv vv L ws vs H f ∧ vs.length ≤ m ∧ L.length ≤ m
section
variable {W0 W W' w w3 w3' w4 w5 : World} {pb hb rb u m : Nat} {lv wv vv : Value} {L : List Rc} {ws : List Nat} {vs : List Tv} {H : List (Option Hc)} {f : Nat → Nat}
theorem Inv8.below (I : Inv8 W0 W pb hb rb u lv wv vv L ws vs H f) (hB : Below W.heap.size W W') : Inv8 W0 W' pb hb rb u lv wv vv L ws vs H f :=
  ⟨I.pl.below hB, I.sp, I.tl, I.hf.below' hB, I.far, I.wt, I.hu⟩
theorem Pool8.below (h : Pool8 W0 pb hb rb u m W) (hB : Below W.heap.size W W') : Pool8 W0 pb hb rb u m W' := by
  obtain ⟨lv, wv, vv, L, ws, vs, H, f, I, h1, h2⟩ := h
  exact ⟨lv, wv, vv, L, ws, vs, H, f, I.below hB, h1, h2⟩
theorem Pool8.le {m' : Nat} (h : Pool8 W0 pb hb rb u m W) (hm : m ≤ m') : Pool8 W0 pb hb rb u m' W := by
  obtain ⟨lv, wv, vv, L, ws, vs, H, f, I, h1, h2⟩ := h
  exact ⟨lv, wv, vv, L, ws, vs, H, f, I, by omega, by omega⟩
theorem Pool8.bel (h : Pool8 W0 pb hb rb u m W) : Below W0.heap.size W0 W := by
  obtain ⟨lv, wv, vv, L, ws, vs, H, f, I, h1, h2⟩ := h
  exact I.hf.bel
/-- what act's call keeps -/
def Kx (W w : World) (pb rb : Nat) (lv wv vv : Value) (k : Nat) : Prop := Kq pb rb lv wv vv k ∨ (W.heap.size ≤ k ∧ k < w.heap.size)
set_option maxHeartbeats 1000000 in
theorem made_c (I : Inv8 W0 W pb hb rb u lv wv vv L ws vs H f) (hm1 : vs.length ≤ m) (hm2 : L.length ≤ m) (hm : m < 400) (hBw : Below W.heap.size W w)
    (v : Tv) (sm : Bool) (w0 : Nat) {rs : List Nat} {ks : List Int} (r : Rt H L f rs ks) (hv : v.t.size ≤ 10000 ∧ -9223372036854775808 ≤ v.i ∧ v.i ≤ 9223372036854775807 ∨ u < v.rc.need)
    (hsm : sm = true → v.t.size ≤ 10000 ∧ -9223372036854775808 ≤ v.i ∧ v.i ≤ 9223372036854775807 ∧ Tv.small ⟨v.whole, v.i, v.t, -1⟩ w0 ∧ w0 < 18446744073709551616) (hwt : v.whole = true → v.t = ⟨#[]⟩) {e1 e2 : Ending}
    (hG : GPost W0 w hb H u (Kx W w pb rb lv wv vv) v.hc sm w0 rs e1 w3) (hB3 : Below w3.heap.size w3 w3') (hS : SPost w3' rb lv u L ks v sm e2 w4) :
    W.heap.size < w.heap.size → ∃ (a b a0 a1 : Int) (a3 : ByteArray) (a4 : Int), e1 = .returned (.tuple #[.int .u64 a, .int .i64 b]) ∧ e2 = .returned (.tuple #[.agg #[.int .i64 a0, .int .i64 a1, .int .u64 0, .string a3, .int .i64 a4], .int .i64 b]) ∧ (∀ k, (k = pb ∨ k = W.heap.size ∨ wv.ownBlock = some k ∨ vv.ownBlock = some k) → w4.heap[k]? = w3'.heap[k]?) ∧ Upd (fun k => k < w3.heap.size) w3' w4 ∧
      ∀ w5, Upd (fun k => w3.heap.size ≤ k ∧ k < w3'.heap.size) w4 w5 → Calls Tryz.prog 42 #[.pointer (some ⟨pb, 0, none⟩), .int .u64 a, .int .i64 b, .agg #[.int .i64 a0, .int .i64 a1, .int .u64 0, .string a3, .int .i64 a4], .int .i64 b] w5 (fun e w6 => e = .returned (.bool true) ∧ Pool8 W0 pb hb rb u (m + 1) w6) := by
  intro hlt
  have hUg := hG.1
  obtain ⟨H', L', lv', hf1, hU, hlv, hRh, hLen, hcase⟩ := agree I.tl r v hv sm w0 hsm (by omega) hG hS
  have zw := hBw.size
  have z3 := hUg.size
  have z3' := hB3.size
  have z4 := hU.size
  have z0 := I.hf.bel.size
  have ltW : ∀ k, Kq pb rb lv wv vv k → k < W.heap.size := fun k e => I.pl.lt k e
  have k3 : ∀ k, Kq pb rb lv wv vv k → w3'.heap[k]? = W.heap[k]? := fun k e => by
    have := ltW k e
    rw [hB3.block k (by omega), hUg.block k (by omega) (fun d => d.1 (.inl e)), hBw.block k this]
  have hU4 : Upd (fun k => k < w3.heap.size) w3' w4 := hU.mono (fun k e => by
    have := ltW k (e.elim (fun e => .inr (.inl e)) (fun e => .inr (.inr (.inl e))))
    omega)
  have keep4 : ∀ k, (k = pb ∨ k = W.heap.size ∨ wv.ownBlock = some k ∨ vv.ownBlock = some k) → w4.heap[k]? = w3'.heap[k]? := by
    intro k e
    have hrb := ltW rb (.inr (.inl rfl))
    have hkl : k < w3'.heap.size := by
      rcases e with e | e | e | e
      · have := ltW k (.inl e); omega
      · omega
      · have := ltW k (.inr (.inr (.inr (.inl e)))); omega
      · have := ltW k (.inr (.inr (.inr (.inr e)))); omega
    refine hU.block k hkl ?_
    rintro (d | d)
    · rcases e with e | e | e | e
      · exact I.sp.p1 (e.symm.trans d)
      · omega
      · rw [d] at e; exact I.sp.p5 e
      · rw [d] at e; exact I.sp.p6 e
    · rcases e with e | e | e | e
      · rw [e] at d; exact I.sp.p2 d
      · have := ltW k (.inr (.inr (.inl d))); omega
      · exact I.sp.p7 k e d
      · exact I.sp.p8 k e d
  -- what stands at w5
  have at5 : ∀ w5, Upd (fun k => w3.heap.size ≤ k ∧ k < w3'.heap.size) w4 w5 → ∀ (ws' : List Nat) (vs' : List Tv) (f' : Nat → Nat), ws' = ws → vs' = vs → (∀ v ∈ vs', v.cell < 0 ∨ ∃ k : Nat, v.cell = k ∧ k < L'.length) →
      Tpl w5 pb hb rb lv' wv vv u L' ws' vs' ∧ Sep pb rb lv' wv vv ∧ Hf W0 w5 hb H' u (Kq pb rb lv' wv vv) ∧ (∀ k, Kq pb rb lv' wv vv k → W0.heap.size ≤ k) := by
    rintro w5 hU5 ws' vs' f' rfl rfl hcel
    have z5 := hU5.size
    have k5 : ∀ k, (k = pb ∨ wv.ownBlock = some k ∨ vv.ownBlock = some k) → w5.heap[k]? = W.heap[k]? := fun k e => by
      have e' : Kq pb rb lv wv vv k := e.elim .inl (fun e => .inr (.inr (.inr e)))
      have := ltW k e'
      rw [hU5.block k (by omega) (fun d => by omega), hU.block k (by omega) ?_, k3 k e']
      rintro (d | d)
      · subst d
        rcases e with e | e | e
        · exact I.sp.p1 e.symm
        · exact I.sp.p5 e
        · exact I.sp.p6 e
      · rcases e with e | e | e
        · subst e; exact I.sp.p2 d
        · exact I.sp.p7 k e d
        · exact I.sp.p8 k e d
    have hlv' : ∀ k, lv'.ownBlock = some k → k < w4.heap.size ∧ ¬ (w3.heap.size ≤ k ∧ k < w3'.heap.size) ∧ W0.heap.size ≤ k := fun k e => by
      have h1 := hRh.lt k (.inr e)
      rcases hlv k e with h2 | h2
      · have h3 := ltW k (.inr (.inr (.inl h2)))
        have h4 := I.far k (.inr (.inr (.inl h2)))
        exact ⟨h1, by omega, h4⟩
      · exact ⟨h1, by omega, by omega⟩
    have hrb := ltW rb (.inr (.inl rfl))
    have sp' : Sep pb rb lv' wv vv := by
      refine ⟨I.sp.p1, ?_, I.sp.p3, I.sp.p4, I.sp.p5, I.sp.p6, ?_, ?_, I.sp.p9⟩
      · intro e
        rcases hlv pb e with h | h
        · exact I.sp.p2 h
        · have := ltW pb (.inl rfl); omega
      · intro k e1 e2
        rcases hlv k e2 with h | h
        · exact I.sp.p7 k e1 h
        · have := ltW k (.inr (.inr (.inr (.inl e1)))); omega
      · intro k e1 e2
        rcases hlv k e2 with h | h
        · exact I.sp.p8 k e1 h
        · have := ltW k (.inr (.inr (.inr (.inr e1)))); omega
    refine ⟨⟨(k5 pb (.inl rfl)).trans I.pl.blk, hRh.on ?_, owns_on I.pl.wrow (fun k e => k5 k (.inr (.inl e))), owns_on I.pl.vrow (fun k e => k5 k (.inr (.inr e))), I.pl.len, hcel, I.pl.few⟩, sp', ?_, ?_⟩
    · rintro k (e | e)
      · subst e
        exact hU5.block k (by omega) (fun d => by omega)
      · obtain ⟨h1, h2, _⟩ := hlv' k e
        exact hU5.block k h1 h2
    · have q1 := hf1.below hB3
      have q2 := q1.updN hU (fun k e => ⟨.inl (.inl (e.elim (fun e => .inr (.inl e)) (fun e => .inr (.inr (.inl e))))), I.far k (e.elim (fun e => .inr (.inl e)) (fun e => .inr (.inr (.inl e))))⟩)
      have q3 := q2.updN hU5 (fun k e => ⟨.inl (.inr e), by omega⟩)
      refine q3.sub ?_
      rintro k (e | e | e | e | e)
      · exact .inl (.inl (.inl (.inl (.inl e))))
      · exact .inl (.inl (.inl (.inl (.inr (.inl e)))))
      · rcases hlv k e with h | h
        · exact .inl (.inl (.inl (.inl (.inr (.inr (.inl h))))))
        · exact .inl (.inr ⟨h, hRh.lt k (.inr e)⟩)
      · exact .inl (.inl (.inl (.inl (.inr (.inr (.inr (.inl e)))))))
      · exact .inl (.inl (.inl (.inl (.inr (.inr (.inr (.inr e)))))))
    · rintro k (e | e | e | e | e)
      · exact I.far k (.inl e)
      · exact I.far k (.inr (.inl e))
      · exact (hlv' k e).2.2
      · exact I.far k (.inr (.inr (.inr (.inl e))))
      · exact I.far k (.inr (.inr (.inr (.inr e))))
  rcases hcase with ⟨x, c, f', rfl, rfl, htl, hal, hc⟩ | ⟨rfl, rfl, htl⟩
  · refine ⟨x, 0, if v.whole = true then 2 else 4, v.i, v.t, c, rfl, rfl, keep4, hU4, ?_⟩
    intro w5 hU5
    have z5 := hU5.size
    obtain ⟨pl, sp, hq, far⟩ := at5 w5 hU5 ws vs f' rfl rfl (fun v hv => htl.cel v (List.mem_append_left _ hv))
    have hiv : IsV H' x v.whole v.i v.t := htl.isv (n := vs.length) (v := ⟨v.whole, v.i, v.t, c⟩) (by simp) (by rw [← I.tl.len]; simp) hal hwt
    obtain ⟨_, S, g2, g3, g4⟩ := id hq
    refine (grows_c pl sp ⟨v.whole, v.i, v.t, c⟩ x hiv (S := S) (H := H') (u := u) (fun w' hU => g2.on hU.size (fun k e hl => hU.block k hl (fun d => (g4 k (d.elim .inl (fun d => .inr (.inr (.inr d))))).2 e))) hc (by omega)).mono ?_
    rintro e w6 ⟨rfl, wv', vv', pl', hU6, hw', hv', hwv⟩
    refine ⟨rfl, lv', wv', vv', L', ws ++ [x], vs ++ [⟨v.whole, v.i, v.t, c⟩], H', f', ⟨pl', ?_, htl, ?_, ?_, ?_, I.hu⟩, by simp; omega, by omega⟩
    · have l5 : ∀ k, Kq pb rb lv' wv vv k → k < w5.heap.size := fun k e => pl.lt k e
      refine ⟨sp.p1, sp.p2, ?_, ?_, ?_, ?_, ?_, ?_, hwv⟩
      · intro e
        rcases hw' pb e with h | h
        · exact sp.p3 h
        · have := l5 pb (.inl rfl); omega
      · intro e
        rcases hv' pb e with h | h
        · exact sp.p4 h
        · have := l5 pb (.inl rfl); omega
      · intro e
        rcases hw' rb e with h | h
        · exact sp.p5 h
        · have := l5 rb (.inr (.inl rfl)); omega
      · intro e
        rcases hv' rb e with h | h
        · exact sp.p6 h
        · have := l5 rb (.inr (.inl rfl)); omega
      · intro k e e2
        rcases hw' k e with h | h
        · exact sp.p7 k h e2
        · have := l5 k (.inr (.inr (.inl e2))); omega
      · intro k e e2
        rcases hv' k e with h | h
        · exact sp.p8 k h e2
        · have := l5 k (.inr (.inr (.inl e2))); omega
    · have q4 := hq.updN hU6 (fun k e => ⟨e.elim .inl (fun e => .inr (.inr (.inr e))), far k (e.elim .inl (fun e => .inr (.inr (.inr e))))⟩)
      refine q4.sub ?_
      rintro k (e | e | e | e | e)
      · exact .inl (.inl e)
      · exact .inl (.inr (.inl e))
      · exact .inl (.inr (.inr (.inl e)))
      · rcases hw' k e with h | h
        · exact .inl (.inr (.inr (.inr (.inl h))))
        · exact .inr ⟨h, pl'.lt k (.inr (.inr (.inr (.inl e))))⟩
      · rcases hv' k e with h | h
        · exact .inl (.inr (.inr (.inr (.inr h))))
        · exact .inr ⟨h, pl'.lt k (.inr (.inr (.inr (.inr e))))⟩
    · have z50 : W0.heap.size ≤ w5.heap.size := by omega
      rintro k (e | e | e | e | e)
      · exact far k (.inl e)
      · exact far k (.inr (.inl e))
      · exact far k (.inr (.inr (.inl e)))
      · rcases hw' k e with h | h
        · exact far k (.inr (.inr (.inr (.inl h))))
        · omega
      · rcases hv' k e with h | h
        · exact far k (.inr (.inr (.inr (.inr h))))
        · omega
    · intro y hy
      rcases List.mem_append.1 hy with hy | hy
      · exact I.wt y hy
      · simp at hy
        subst hy
        exact hwt
  · refine ⟨0, 40, 0, 0, ⟨#[]⟩, 0, rfl, rfl, keep4, hU4, ?_⟩
    intro w5 hU5
    obtain ⟨pl, sp, hq, far⟩ := at5 w5 hU5 ws vs f rfl rfl htl.cel
    refine (grows_no 40 (by decide) _ 0 0 0 ⟨#[]⟩ w5).mono ?_
    rintro e w6 ⟨rfl, hB⟩
    exact ⟨rfl, lv', wv, vv, L', ws, vs, H', f, (Inv8.below ⟨pl, sp, htl, hq, far, I.wt, I.hu⟩ hB), by omega, by omega⟩
end
end Go.Proofs.YtndkfjoaiinjoaaGreat.W
/- TextPlays: what an act asks of both; act. -/
namespace Go.Proofs.YtndkfjoaiinjoaaGreat.W
open Go.ChangeShapes Go.WideShapes Go.RowKit Go.Shelf Si
set_option linter.unusedVariables false
section
variable {W0 W W' w w2 : World} {pb hb rb u m B : Nat} {lv wv vv v1 v2 : Value} {L : List Rc} {ws : List Nat} {vs : List Tv} {H : List (Option Hc)} {f : Nat → Nat} {r : List Nat}
theorem asked_c (I : Inv8 W0 W pb hb rb u lv wv vv L ws vs H f) (hm1 : vs.length ≤ m) (hm2 : L.length ≤ m) (hm : m < 400) (hB2 : Below W.heap.size W w2) (hlt : W.heap.size < w2.heap.size) (h2 : Two B w2 v1 v2 (wsel ws r) (vsel vs r)) (hB : W.heap.size ≤ B) (hr : r.length ≤ 1100000) (hBw : Below w2.heap.size w2 w)
    {F1 F2 : FuncId} {args1 args2 : Array Value} (v : Tv) (sm : Bool) (w0 : Nat) {rs : List Nat} {ks : List Int} (hrt : Rt H L f rs ks) (hv : v.t.size ≤ 10000 ∧ -9223372036854775808 ≤ v.i ∧ v.i ≤ 9223372036854775807 ∨ u < v.rc.need)
    (hsm : sm = true → v.t.size ≤ 10000 ∧ -9223372036854775808 ≤ v.i ∧ v.i ≤ 9223372036854775807 ∧ Tv.small ⟨v.whole, v.i, v.t, -1⟩ w0 ∧ w0 < 18446744073709551616) (hwt : v.whole = true → v.t = ⟨#[]⟩)
    (c1 : Hf W0 w hb H u (Kx W w pb rb lv wv vv) → WordsAt w v1 (wsel ws r) → Calls Tryz.prog F1 args1 w (GPost W0 w hb H u (Kx W w pb rb lv wv vv) v.hc sm w0 rs))
    (c2 : ∀ w3', Rh w3' rb lv u L → w3'.ownsRow 0 95 5 v2 (vsel vs r).length (flatT (vsel vs r)) → Calls Tryz.prog F2 args2 w3' (SPost w3' rb lv u L ks v sm)) :
    Asked F1 args1 F2 args2 pb (fun k => k = pb ∨ k = W.heap.size ∨ wv.ownBlock = some k ∨ vv.ownBlock = some k) (Pool8 W0 pb hb rb u (m + 1)) w := by
  have hBW : Below W.heap.size W w := hB2.trans (hBw.mono hB2.size)
  have hT := h2.below hBw
  have zw := hBw.size
  have h64 : ∀ x ∈ wsel ws r, x < 18446744073709551616 := by
    intro x hx
    obtain ⟨n, _, rfl⟩ := List.mem_map.1 hx
    cases hn : ws[n]? with
    | none => simp
    | some y => exact I.tl.wlt y (List.mem_of_getElem? hn)
  refine (c1 (I.hf.below hBW) (words_own hT.1 (by simp [wsel]; omega) h64)).mono ?_
  intro e w3 hG
  obtain ⟨a, b, rfl⟩ := hG.two
  have z3 := hG.1.size
  have hk : ∀ k, Kx W w pb rb lv wv vv k → k < w.heap.size ∧ w3.heap[k]? = w.heap[k]? := fun k e => by
    have hl : k < w.heap.size := by
      rcases e with e | e
      · have := I.pl.lt k e
        have := hBW.size
        omega
      · exact e.2
    exact ⟨hl, hG.1.block k hl (fun d => d.1 e)⟩
  refine ⟨a, b, rfl, ?_, ?_⟩
  · rintro k (e | e | e | e)
    · exact (hk k (.inl (.inl e))).2
    · exact (hk k (.inr ⟨by omega, by omega⟩)).2
    · exact (hk k (.inl (.inr (.inr (.inr (.inl e)))))).2
    · exact (hk k (.inl (.inr (.inr (.inr (.inr e)))))).2
  · intro w3' hB3
    have hk3 : ∀ k, Kx W w pb rb lv wv vv k → w3'.heap[k]? = w.heap[k]? := fun k e => by
      obtain ⟨h1, h2⟩ := hk k e
      rw [hB3.block k (by omega), h2]
    have rh : Rh w3' rb lv u L := (I.pl.below hBW).ref.on (fun k e => hk3 k (.inl (e.elim (fun e => .inr (.inl e)) (fun e => .inr (.inr (.inl e))))))
    have ho2 := owns_on hT.2.1 (W' := w3') (fun k e => hk3 k (.inr ⟨by have := hT.2.2.2.1 k e; omega, (hT.2.1.lt k e).2⟩))
    refine (c2 w3' rh ho2).mono ?_
    intro e2 w4 hS
    obtain ⟨a', b', a0, a1, a3, a4, e1, rfl, hk4, hU4, hg⟩ := made_c I hm1 hm2 hm hBW v sm w0 hrt hv hsm hwt hG hB3 hS (by omega)
    obtain ⟨rfl, rfl⟩ : a = a' ∧ b = b' := by simpa using e1
    exact ⟨a0, a1, a3, a4, rfl, hk4, hU4, hg⟩
theorem asked_no (I : Inv8 W0 W pb hb rb u lv wv vv L ws vs H f) (hm1 : vs.length ≤ m) (hm2 : L.length ≤ m) (hB2 : Below W.heap.size W w2) (hlt : W.heap.size < w2.heap.size) (hBw : Below w2.heap.size w2 w)
    {F1 F2 : FuncId} {args1 args2 : Array Value} (E : Int) (hE : ¬ E = 0)
    (c1 : Calls Tryz.prog F1 args1 w fun e w' => e = .returned (.tuple #[.int .u64 0, .int .i64 E]) ∧ Below w.heap.size w w')
    (c2 : ∀ w3', Calls Tryz.prog F2 args2 w3' fun e w' => e = .returned (.tuple #[.agg #[.int .i64 0, .int .i64 0, .int .u64 0, .string ⟨#[]⟩, .int .i64 0], .int .i64 E]) ∧ Below w3'.heap.size w3' w') :
    Asked F1 args1 F2 args2 pb (fun k => k = pb ∨ k = W.heap.size ∨ wv.ownBlock = some k ∨ vv.ownBlock = some k) (Pool8 W0 pb hb rb u (m + 1)) w := by
  have hBW : Below W.heap.size W w := hB2.trans (hBw.mono hB2.size)
  have zw := hBw.size
  refine c1.mono ?_
  rintro e w3 ⟨rfl, hB1⟩
  refine ⟨0, E, rfl, ?_, ?_⟩
  · intro k e
    refine hB1.block k ?_
    have hz := hBW.size
    rcases e with e | e | e | e
    · have := I.pl.lt k (.inl e); omega
    · omega
    · have := I.pl.lt k (.inr (.inr (.inr (.inl e)))); omega
    · have := I.pl.lt k (.inr (.inr (.inr (.inr e)))); omega
  · intro w3' hB3
    refine (c2 w3').mono ?_
    rintro e w4 ⟨rfl, hB4⟩
    refine ⟨0, 0, ⟨#[]⟩, 0, rfl, ?_, Upd.of_below hB4, ?_⟩
    · intro k e
      refine hB4.block k ?_
      have hz := hBW.size
      have z1 := hB1.size
      have z3 := hB3.size
      rcases e with e | e | e | e
      · have := I.pl.lt k (.inl e); omega
      · omega
      · have := I.pl.lt k (.inr (.inr (.inr (.inl e)))); omega
      · have := I.pl.lt k (.inr (.inr (.inr (.inr e)))); omega
    intro w5 hU5
    refine (grows_no E hE _ 0 0 0 ⟨#[]⟩ w5).mono ?_
    rintro e w6 ⟨rfl, hB6⟩
    have z1 := hB1.size
    have z3 := hB3.size
    have z4 := hB4.size
    have zW := hBW.size
    have b4 : Below W.heap.size W w4 := ((hBW.trans (hB1.mono zW)).trans (hB3.mono (by omega))).trans (hB4.mono (by omega))
    have b5 : Below W.heap.size W w5 := b4.trans (hU5.below (by omega) (fun k e => by omega))
    exact ⟨rfl, lv, wv, vv, L, ws, vs, H, f, I.below (b5.trans (hB6.mono b5.size)), by omega, by omega⟩
theorem vsel_in (I : Inv8 W0 W pb hb rb u lv wv vv L ws vs H f) (hr : ∀ n ∈ r, ∃ v, vs[n]? = some v ∧ v.alive L) : ∀ v ∈ vsel vs r, v.cell < 0 ∨ ∃ k : Nat, v.cell = k ∧ k < L.length := by
  intro v hv
  obtain ⟨n, hn, rfl⟩ := List.mem_map.1 hv
  obtain ⟨v', h1, _⟩ := hr n hn
  rw [h1]
  exact I.pl.cel v' (List.mem_of_getElem? h1)
theorem hsm_txt (t : ByteArray) (hv : True) : decide (t.size ≤ 5) = true → t.size ≤ 10000 ∧ -9223372036854775808 ≤ (0 : Int) ∧ (0 : Int) ≤ 9223372036854775807 ∧ Tv.small ⟨false, 0, t, -1⟩ (txtW t).toNat ∧ (txtW t).toNat < 18446744073709551616 := by
  intro h
  have hs : t.size ≤ 5 := of_decide_eq_true h
  have hb5 := cls_is5 _ (txtW_cls t hs)
  have hnn : (0 : Int) ≤ txtW t := by omega
  refine ⟨by omega, by omega, by omega, .inr ⟨rfl, hs, Int.toNat_of_nonneg hnn⟩, ?_⟩
  omega
theorem hsm_int (i : Int) (h0 : -9223372036854775808 ≤ i) (h1 : i ≤ 9223372036854775807) : smallB i = true → (⟨#[]⟩ : ByteArray).size ≤ 10000 ∧ -9223372036854775808 ≤ i ∧ i ≤ 9223372036854775807 ∧ Tv.small ⟨true, i, ⟨#[]⟩, -1⟩ (intW i).toNat ∧ (intW i).toNat < 18446744073709551616 := by
  intro hs
  have hb5 := intW_bd i hs
  have hnn : (0 : Int) ≤ intW i := by omega
  refine ⟨by decide, h0, h1, .inl ⟨rfl, hs, Int.toNat_of_nonneg hnn⟩, ?_⟩
  omega
theorem hv_txt (t : ByteArray) (hu : u ≤ 1000) : t.size ≤ 10000 ∧ -9223372036854775808 ≤ (0 : Int) ∧ (0 : Int) ≤ 9223372036854775807 ∨ u < (Tv.mk false 0 t 0).rc.need := by
  by_cases h : t.size ≤ 10000
  · left; omega
  · right
    show u < 1 + (t.size + 7) / 8
    omega
theorem i64_bd {i : Int} (h : (Lit.int .i64 i).wf = true) : -9223372036854775808 ≤ i ∧ i ≤ 9223372036854775807 := by
  simp [Lit.wf] at h
  have e1 : IntKind.i64.min = -9223372036854775808 := by decide
  omega
/-- an act that is done -/
theorem act_c (h : Pool8 W0 pb hb rb u m W) (hm : m < 400) (x : A8) (hx : x.wf W) (hl : x.l ≤ 1100000) (ht : x.text.size ≤ 500) :
    Calls Tryz.prog 18 #[.pointer (some ⟨pb, 0, none⟩), .agg #[.int .i64 x.what, .string x.text, .int .i64 x.int, .int .i64 x.i, .int .i64 x.k, .int .i64 x.a, .int .i64 x.b, .slice x.o x.l x.c]] W fun e w' => e = .returned (.bool true) ∧ Pool8 W0 pb hb rb u (m + 1) w' := by
  obtain ⟨lv, wv, vv, L, ws, vs, H, f, I, hm1, hm2⟩ := h
  have hz1 : (W.alloc (.cells #[.int .i64 x.what, .string x.text, .int .i64 x.int, .int .i64 x.i, .int .i64 x.k, .int .i64 x.a, .int .i64 x.b, .slice x.o x.l x.c] 62)).heap.size = W.heap.size + 1 := World.size_alloc ..
  have hrl := rsel_len L vs x.N x.l
  have hra := rsel_alive I.tl x.N x.l
  have hsm := I.tl.small I.hf.le I.hu
  have bx : (-9223372036854775808 ≤ x.int ∧ x.int ≤ 9223372036854775807) ∧ (-9223372036854775808 ≤ x.a ∧ x.a < 9223372036854775808) ∧ (-9223372036854775808 ≤ x.b ∧ x.b < 9223372036854775808) := by
    obtain ⟨_, h1, _, _, h2, h3, _⟩ := hx
    have e1 := i64_bd h1
    have e2 := i64_bd h2
    have e3 := i64_bd h3
    omega
  have hu := I.hu
  have old : ∀ w', Below W.heap.size W w' → Pool8 W0 pb hb rb u (m + 1) w' := fun w' hB => ⟨lv, wv, vv, L, ws, vs, H, f, I.below hB, by omega, by omega⟩
  by_cases n1 : x.what = 1
  · refine act_one I.pl x hx hl n1 _ (fun w2 v1 v2 hB2 h2 hlt => ?_)
    refine asked_c I hm1 hm2 hm hB2 hlt h2 (by omega) (by omega) ((Below.refl _ w2).drew) ⟨false, 0, x.text, 0⟩ _ _ (I.tl.rt _ hra) (.inl ⟨show x.text.size ≤ 10000 by omega, show (-9223372036854775808 : Int) ≤ 0 by decide, show (0 : Int) ≤ 9223372036854775807 by decide⟩) (hsm_txt x.text trivial) (fun e => by cases e) (fun q hw => gboxS q _ _ hw x.text (by omega)) (fun w3' rh ho => string7_c rh (by omega) hsm (by omega) _ _ ho (vsel_in I hra) (by simp [vsel]; omega) x.text (by omega) 0)
  by_cases n2 : x.what = 2
  · refine act_two I.pl x hx hl n2 _ (fun w2 v1 v2 hB2 h2 hlt => ?_)
    refine asked_c I hm1 hm2 hm hB2 hlt h2 (by omega) (by omega) ((Below.refl _ w2).drew) ⟨true, x.int, ⟨#[]⟩, 0⟩ _ _ (I.tl.rt _ hra) (.inl ⟨show (⟨#[]⟩ : ByteArray).size ≤ 10000 by decide, bx.1.1, bx.1.2⟩) (hsm_int x.int bx.1.1 bx.1.2) (fun _ => rfl) (fun q hw => gboxI q _ _ hw x.int bx.1.1 bx.1.2) (fun w3' rh ho => whole7_c rh (by omega) hsm (by omega) _ _ ho (vsel_in I hra) (by simp [vsel]; omega) x.int 0)
  cases hd : (aliveB L vs x.i && aliveB L vs x.k) with
  | false =>
    refine (act_dead I.pl x hx hl n1 n2 hd).mono ?_
    rintro e w' ⟨rfl, hB⟩
    exact ⟨rfl, old w' hB⟩
  | true =>
    have hi : aliveB L vs x.i = true := by cases h1 : aliveB L vs x.i <;> simp_all
    have hk : aliveB L vs x.k = true := by cases h1 : aliveB L vs x.k <;> simp_all
    obtain ⟨n, v, hn, hv, hal⟩ := I.tl.alive hi
    obtain ⟨n', v', hn', hv', hal'⟩ := I.tl.alive hk
    have gw : ∀ {n : Nat} {v : Tv}, vs[n]? = some v → ∃ y, ws[n]? = some y := fun {n v} h => ⟨_, List.getElem?_eq_getElem (by rw [I.tl.len]; exact (List.getElem?_eq_some_iff.1 h).1)⟩
    obtain ⟨y, hy⟩ := gw hv
    obtain ⟨y', hy'⟩ := gw hv'
    have hvm := List.mem_of_getElem? hv
    have hvm' := List.mem_of_getElem? hv'
    have hiv := I.tl.isv hv hy hal (I.wt v hvm)
    have hiv' := I.tl.isv hv' hy' hal' (I.wt v' hvm')
    have hts := (I.tl.rng v hvm).1
    have hts' := (I.tl.rng v' hvm').1
    obtain ⟨_, S, q, _⟩ := id I.hf
    by_cases n3 : x.what = 3
    · refine act_three I.pl x hx hl hi hk n3 n v y hn hv hy n' v' y' hn' hv' hy' _ (fun w2 v1 v2 hB2 h2 hlt w hBw => ?_)
      have hBW : Below W.heap.size W w := hB2.trans (hBw.mono hB2.size)
      by_cases hno : v.whole = true ∨ v'.whole = true
      · refine asked_no I hm1 hm2 hB2 hlt hBw 51 (by decide) (concat_no (q.below hBW) y y' v.whole v'.whole v.i v'.i v.t v'.t hiv hiv' hno _) (fun w3' => concat8_no v.whole v'.whole v.i v.cell v'.i v'.cell v.t v'.t (by rcases hno with e | e <;> simp [e]) _ _ w3')
      · have e1 : v.whole = false := by cases e : v.whole <;> simp_all
        have e2 : v'.whole = false := by cases e : v'.whole <;> simp_all
        have t1 : IsTxt H y v.t := (I.tl.told hv hy hal).2 e1
        have t2 : IsTxt H y' v'.t := (I.tl.told hv' hy' hal').2 e2
        have hz : (v.t ++ v'.t).size ≤ 20000 := by rw [ByteArray.size_append]; omega
        have hrt : Rt H L f (wsel ws (rsel L vs x.N x.l) ++ [y, y']) ((vsel vs (rsel L vs x.N x.l) ++ [Tv.mk false v.i v.t v.cell, Tv.mk false v'.i v'.t v'.cell]).map Tv.cell) := by
          have hh := I.tl.rt (rsel L vs x.N x.l ++ [n, n']) (by
            intro k hk
            rcases List.mem_append.1 hk with hk | hk
            · exact hra k hk
            · simp at hk
              rcases hk with rfl | rfl
              · exact ⟨v, hv, hal⟩
              · exact ⟨v', hv', hal'⟩)
          simpa [wsel, vsel, hv, hv', hy, hy'] using hh
        rw [e1, e2]
        refine asked_c I hm1 hm2 hm hB2 hlt h2 (by omega) (by omega) hBw ⟨false, 0, v.t ++ v'.t, 0⟩ _ _ hrt (hv_txt _ hu) (hsm_txt _ trivial) (fun e => by cases e) (fun q hw => concat_g q _ _ hw (by simp [wsel]; omega) y y' v.t v'.t t1 t2 (by omega)) (fun w3' rh ho => concat8_c rh (by omega) hsm (by omega) _ _ ho (vsel_in I hra) (by simp [vsel]; omega) v.i v'.i v.cell v'.cell v.t v'.t (I.pl.cel v hvm) (I.pl.cel v' hvm') (by omega) (by omega) 0)
    by_cases n4 : x.what = 4
    · refine act_four I.pl x hx hl hi hk n4 n v y hn hv hy _ (fun w2 v1 v2 hB2 h2 hlt w hBw => ?_)
      have hBW : Below W.heap.size W w := hB2.trans (hBw.mono hB2.size)
      cases e1 : v.whole with
      | true =>
        have t1 : IsInt H y v.i := (I.tl.told hv hy hal).1 e1
        exact asked_no I hm1 hm2 hB2 hlt hBw 51 (by decide) (sub_int (q.below hBW) y v.i x.a x.b t1 _) (fun w3' => sub8_no v.i v.cell x.a x.b v.t _ _ w3')
      | false =>
        have t1 : IsTxt H y v.t := (I.tl.told hv hy hal).2 e1
        by_cases ho : x.a < 0 ∨ x.a > x.b ∨ x.b > v.t.size
        · exact asked_no I hm1 hm2 hB2 hlt hBw 31 (by decide) (sub_out (q.below hBW) y v.t t1 x.a x.b (by omega) ho _) (fun w3' => sub8_out v.i v.cell x.a x.b v.t (by omega) ho _ _ w3')
        · obtain ⟨a, ha⟩ : ∃ a : Nat, x.a = a := ⟨x.a.toNat, by omega⟩
          obtain ⟨b, hb'⟩ : ∃ b : Nat, x.b = b := ⟨x.b.toNat, by omega⟩
          rw [ha, hb'] at ho ⊢
          have hz : (v.t.extract a b).size ≤ 10000 := by rw [ByteArray.size_extract]; omega
          have hrt : Rt H L f (wsel ws (rsel L vs x.N x.l) ++ [y]) ((vsel vs (rsel L vs x.N x.l) ++ [Tv.mk false v.i v.t v.cell]).map Tv.cell) := by
            have hh := I.tl.rt (rsel L vs x.N x.l ++ [n]) (by
              intro k hk
              rcases List.mem_append.1 hk with hk | hk
              · exact hra k hk
              · simp at hk
                subst hk
                exact ⟨v, hv, hal⟩)
            simpa [wsel, vsel, hv, hy] using hh
          refine asked_c I hm1 hm2 hm hB2 hlt h2 (by omega) (by omega) hBw ⟨false, 0, v.t.extract a b, 0⟩ _ _ hrt (hv_txt _ hu) (hsm_txt _ trivial) (fun e => by cases e) (fun q hw => sub_g q _ _ hw (by simp [wsel]; omega) y v.t t1 a b (by omega) (by omega) (by omega) (by omega)) (fun w3' rh ho => sub8_c rh (by omega) hsm (by omega) _ _ ho (vsel_in I hra) (by simp [vsel]; omega) v.i v.cell v.t a b (by omega) (by omega) (I.pl.cel v hvm) (by omega) 0)
    by_cases n5 : x.what = 5
    · refine (act_five I.pl x hx hl hi hk n5 n v y hn hv hy hiv (by omega) bx.2.1 q).mono ?_
      rintro e w' ⟨rfl, hB⟩
      exact ⟨rfl, old w' hB⟩
    by_cases n6 : x.what = 6
    · refine (act_six I.pl x hx hl hi hk n6 n v y hn hv hy hiv (by omega) n' v' y' hn' hv' hy' hiv' (by omega) q).mono ?_
      rintro e w' ⟨rfl, hB⟩
      exact ⟨rfl, old w' hB⟩
    refine (act_seven I.pl x hx hl hi hk ?_ q).mono ?_
    · by_cases n7 : x.what = 7
      · exact .inl ⟨n7, n, v, y, hn, hv, hy, hiv⟩
      · right; omega
    · rintro e w' ⟨rfl, hB⟩
      exact ⟨rfl, old w' hB⟩
end
end Go.Proofs.YtndkfjoaiinjoaaGreat.W
