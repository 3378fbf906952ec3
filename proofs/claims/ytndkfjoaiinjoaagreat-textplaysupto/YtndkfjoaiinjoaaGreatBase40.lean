import Derived.Test.YtndkfjoaiinjoaaGreatBase39
import Derived.Test.YtndkfjoaiinjoaaGreatProg
import Derived.WalkKit
import Derived.ProofKit
import Derived.OpenShut
import Derived.ChangeMaps5
import Derived.Deep.SlicePairs
import Derived.Deep.Grids
import Derived.Deep.Strs
/- TextPlays in plain words: the roots' words and cells; both heaps answer alike. -/
namespace Go.Proofs.YtndkfjoaiinjoaaGreat.W
open Go.ChangeShapes Go.WideShapes Go.RowKit Go.Shelf
set_option linter.unusedVariables false
section
variable {H : List (Option Hc)} {L : List Rc} {ws : List Nat} {vs : List Tv} {f : Nat → Nat}
theorem Tl.alive (p : Tl H L ws vs f) {i : Int} (h : aliveB L vs i = true) : ∃ (n : Nat) (v : Tv), i = n ∧ vs[n]? = some v ∧ v.alive L := by
  obtain ⟨n, v, rfl, hv⟩ := aliveB_get h
  refine ⟨n, v, rfl, hv, ?_⟩
  have hn := (List.getElem?_eq_some_iff.1 hv).1
  obtain ⟨w, hw'⟩ : ∃ w, ws[n]? = some w := ⟨_, List.getElem?_eq_getElem (by rw [p.len]; exact hn)⟩
  unfold aliveB at h
  rw [Int.toNat_natCast, hv] at h
  simp only [Bool.and_eq_true, Bool.or_eq_true, decide_eq_true_eq] at h
  rcases p.val n v w hv hw' with ⟨c, _⟩ | ⟨k, c, _, _⟩
  · exact .inl c
  · refine .inr ⟨k, c, ?_⟩
    rcases h.2 with h | h
    · omega
    · rw [c, Int.toNat_natCast] at h
      exact h
theorem rsel_alive (p : Tl H L ws vs f) (N : Nat → Int) (j : Nat) : ∀ n ∈ rsel L vs N j, ∃ v, vs[n]? = some v ∧ v.alive L := by
  induction j with
  | zero => intro n hn; cases hn
  | succ j ih =>
    intro n hn
    unfold rsel at hn
    rcases List.mem_append.1 hn with hn | hn
    · exact ih n hn
    · split at hn
      · rename_i ha
        obtain ⟨m, v, e, hv, hl⟩ := p.alive ha
        simp at hn
        rw [e, Int.toNat_natCast] at hn
        subst hn
        exact ⟨v, hv, hl⟩
      · cases hn
theorem Tv.small_low {v : Tv} {w : Nat} (h : v.small w) : hit H w = none := by
  apply hit_low
  rcases h with ⟨_, h1, h2⟩ | ⟨_, h1, h2⟩
  · rw [h2, intW_cls _ h1]; decide
  · rw [h2, txtW_cls _ h1]; decide
/-- roots that are there -/
theorem Tl.rt (p : Tl H L ws vs f) (r : List Nat) (hr : ∀ n ∈ r, ∃ v, vs[n]? = some v ∧ v.alive L) : Rt H L f (wsel ws r) ((vsel vs r).map Tv.cell) := by
  have key : ∀ n ∈ r, ∃ v w, vs[n]? = some v ∧ ws[n]? = some w ∧ ((v.cell = -1 ∧ hit H w = none) ∨ ∃ k : Nat, v.cell = k ∧ hd L k ∧ w = hw (f k)) := by
    intro n hn
    obtain ⟨v, hv, ha⟩ := hr n hn
    have hl := (List.getElem?_eq_some_iff.1 hv).1
    obtain ⟨w, hw'⟩ : ∃ w, ws[n]? = some w := ⟨_, List.getElem?_eq_getElem (by rw [p.len]; exact hl)⟩
    refine ⟨v, w, hv, hw', ?_⟩
    rcases p.val n v w hv hw' with ⟨c, hs⟩ | ⟨k, c, _, h3⟩
    · exact .inl ⟨c, Tv.small_low hs⟩
    · right
      have hk : hd L k := by
        rcases ha with ha | ⟨j, hj, hh⟩
        · omega
        · have : j = k := by omega
          subst this
          exact hh
      exact ⟨k, c, hk, (h3 hk).1⟩
  have mv : ∀ n ∈ r, ∀ v, vs[n]? = some v → v ∈ vsel vs r := fun n hn v hv => List.mem_map.2 ⟨n, hn, by rw [hv]; rfl⟩
  have mw : ∀ n ∈ r, ∀ w, ws[n]? = some w → w ∈ wsel ws r := fun n hn w hw' => List.mem_map.2 ⟨n, hn, by rw [hw']; rfl⟩
  constructor
  · intro w hw'
    obtain ⟨n, hn, e⟩ := List.mem_map.1 hw'
    obtain ⟨v, w', h1, h2, h3⟩ := key n hn
    rw [h2] at e
    simp at e
    subst e
    rcases h3 with ⟨_, h3⟩ | ⟨k, h3, h4, h5⟩
    · exact .inl h3
    · exact .inr ⟨k, List.mem_map.2 ⟨v, mv n hn v h1, h3⟩, h5⟩
  · intro k hk
    obtain ⟨v, hv, e⟩ := List.mem_map.1 hk
    obtain ⟨n, hn, e2⟩ := List.mem_map.1 hv
    obtain ⟨v', w', h1, h2, h3⟩ := key n hn
    rw [h1] at e2
    simp at e2
    subst e2
    rcases h3 with ⟨h3, _⟩ | ⟨k', h3, h4, h5⟩
    · omega
    · have : k' = k := by omega
      subst this
      exact ⟨h4, by rw [← h5]; exact mw n hn w' h2⟩
end
/-- both boxed, or both refused -/
theorem agree {W0 W1 w1 W2 w2 : World} {hb rb u : Nat} {K : Nat → Prop} {H : List (Option Hc)} {L : List Rc} {ws : List Nat} {vs : List Tv} {f : Nat → Nat} {rs : List Nat} {ks : List Int} {lv : Value} {e1 e2 : Ending} (p : Tl H L ws vs f) (r : Rt H L f rs ks) (v : Tv) (hv : v.t.size ≤ 10000 ∧ -9223372036854775808 ≤ v.i ∧ v.i ≤ 9223372036854775807 ∨ u < v.rc.need) (sm : Bool) (w0 : Nat)
    (hsm : sm = true → v.t.size ≤ 10000 ∧ -9223372036854775808 ≤ v.i ∧ v.i ≤ 9223372036854775807 ∧ Tv.small ⟨v.whole, v.i, v.t, -1⟩ w0 ∧ w0 < 18446744073709551616) (hl : L.length < 500000)
    (g : GPost W0 W1 hb H u K v.hc sm w0 rs e1 w1) (s : SPost W2 rb lv u L ks v sm e2 w2) :
    ∃ H' L' lv', Hf W0 w1 hb H' u K ∧ Upd (fun k => k = rb ∨ lv.ownBlock = some k) W2 w2 ∧ (∀ k, lv'.ownBlock = some k → lv.ownBlock = some k ∨ W2.heap.size ≤ k) ∧ Rh w2 rb lv' u L' ∧ L'.length ≤ L.length + 1 ∧
      ((∃ (x : Nat) (c : Int) (f' : Nat → Nat), e1 = .returned (.tuple #[.int .u64 (x : Nat), .int .i64 0]) ∧ e2 = .returned (.tuple #[.agg (Tv.cells ⟨v.whole, v.i, v.t, c⟩).toArray, .int .i64 0]) ∧ Tl H' L' (ws ++ [x]) (vs ++ [⟨v.whole, v.i, v.t, c⟩]) f' ∧ Tv.alive L' ⟨v.whole, v.i, v.t, c⟩ ∧ (c < 0 ∨ ∃ k : Nat, c = k ∧ k < L'.length)) ∨
       (e1 = .returned (.tuple #[.int .u64 0, .int .i64 40]) ∧ e2 = .returned (.tuple #[.agg #[.int .i64 0, .int .i64 0, .int .u64 0, .string ⟨#[]⟩, .int .i64 0], .int .i64 40]) ∧ Tl H' L' ws vs f)) := by
  obtain ⟨hiff, htl⟩ := p.room (u := u) r v.hc v.seeds_eq
  rw [v.need_eq] at hiff
  obtain ⟨_, g⟩ := g
  obtain ⟨lv', s1, s2, s⟩ := s
  rcases g with ⟨q1, q2, q3⟩ | ⟨q1, q2, q3, q4⟩ | ⟨q1, q2, q3, q4⟩
  · rcases s with ⟨t1, t2, t3⟩ | ⟨t1, _⟩ | ⟨t1, _⟩
    · obtain ⟨a1, a2, a3, a4, a5⟩ := hsm q1
      refine ⟨H, L, lv', q3, s1, s2, t3, Nat.le_succ _, .inl ⟨w0, -1, f, q2, t2, p.more ⟨v.whole, v.i, v.t, -1⟩ w0 ⟨a1, a2, a3⟩ rfl a4 a5, .inl rfl, .inl (by omega)⟩⟩
    · rw [q1] at t1; cases t1
    · rw [q1] at t1; cases t1
  · rw [v.need_eq] at q2
    rcases s with ⟨t1, _⟩ | ⟨t1, t2, t3, t4⟩ | ⟨t1, t2, _⟩
    · rw [q1] at t1; cases t1
    · have hlen := keepK_len L ks L.length
      have hv' : v.t.size ≤ 10000 ∧ -9223372036854775808 ≤ v.i ∧ v.i ≤ 9223372036854775807 := hv.resolve_right (by omega)
      have hput := htl.put ⟨v.whole, v.i, v.t, (keepK L ks L.length).length⟩ hv' rfl (by rw [hlen]; exact hl)
      rw [hlen] at hput
      refine ⟨_, keepK L ks L.length ++ [v.rc], lv', q4, s1, s2, t4, by rw [List.length_append, hlen]; exact Nat.le_refl _, .inl ⟨_, L.length, _, q3, t3, hput, .inr ⟨L.length, rfl, ?_⟩, .inr ⟨L.length, rfl, by simp [hlen]⟩⟩⟩
      unfold hd
      rw [List.getElem?_append_right (by rw [hlen]; exact Nat.le_refl _), hlen]
      simp
      exact v.rc_held
    · have := hiff.1 q2
      omega
  · rw [v.need_eq] at q2
    rcases s with ⟨t1, _⟩ | ⟨t1, t2, _⟩ | ⟨t1, t2, t3, t4⟩
    · rw [q1] at t1; cases t1
    · have := hiff.2 t2
      omega
    · exact ⟨_, _, lv', q4, s1, s2, t4, by rw [keepK_len]; omega, .inr ⟨q3, t3, htl⟩⟩
end Go.Proofs.YtndkfjoaiinjoaaGreat.W
/- A slice of acts that came in: TextPlays. -/
namespace Go.Proofs.YtndkfjoaiinjoaaGreat.W.Si
open Go.ChangeShapes Go.WideShapes Go.RowKit
set_option linter.unusedVariables false
/-- what is done -/
structure A8 where
  what : Int
  text : ByteArray
  int : Int
  i : Int
  k : Int
  a : Int
  b : Int
  o : Option Addr
  l : Nat
  c : Nat
  N : Nat → Int
def A8.cells (x : A8) : List Value := [.int .i64 x.what, .string x.text, .int .i64 x.int, .int .i64 x.i, .int .i64 x.k, .int .i64 x.a, .int .i64 x.b, .slice x.o x.l x.c]
def A8.wf (w : World) (x : A8) : Prop := (Lit.int .i64 x.what).wf = true ∧ (Lit.int .i64 x.int).wf = true ∧ (Lit.int .i64 x.i).wf = true ∧ (Lit.int .i64 x.k).wf = true ∧ (Lit.int .i64 x.a).wf = true ∧ (Lit.int .i64 x.b).wf = true ∧ ∀ j, j < x.l → ∃ a, x.o = some a ∧ w.cell? (a.add j) = some (.int .i64 (x.N j))
/-- a slice of them -/
def Acts8 (w : World) (o : Option Addr) (l c : Nat) (F : Nat → A8) : Prop := (o = none ∧ l = 0) ∨ ∃ a, o = some a ∧ l ≤ c ∧ c ≤ maxLen ∧ ∀ i, i < l → (F i).wf w ∧ ∀ j, j < 8 → w.cell? (a.add (i * 8 + j)) = (F i).cells[j]?
section
variable {H : Type} {enc : TypeId × Value → H} {w : World} {d : DataW H} {p : List MemPlace} {o : Option Addr} {l c : Nat}
end
end Go.Proofs.YtndkfjoaiinjoaaGreat.W.Si
/- TextPlays: act, where nothing is done. -/
namespace Go.Proofs.YtndkfjoaiinjoaaGreat.W
open Go.ChangeShapes Go.WideShapes Go.RowKit Go.Shelf Si
set_option linter.unusedVariables false
set_option linter.unusedSimpArgs false
section
variable {W W' : World} {pb hb rb : Nat} {lv wv vv : Value} {room : Nat} {L : List Rc} {ws : List Nat} {vs : List Tv} {S : Nat → Prop} {H : List (Option Hc)} {u : Nat}
set_option maxRecDepth 100000 in
set_option maxHeartbeats 2000000 in
theorem act_dead (h : Tpl W pb hb rb lv wv vv room L ws vs) (x : A8) (hx : x.wf W) (hl : x.l ≤ 1100000) (n1 : ¬ x.what = 1) (n2 : ¬ x.what = 2) (hd : (aliveB L vs x.i && aliveB L vs x.k) = false) :
    Calls Tryz.prog 18 #[.pointer (some ⟨pb, 0, none⟩), .agg #[.int .i64 x.what, .string x.text, .int .i64 x.int, .int .i64 x.i, .int .i64 x.k, .int .i64 x.a, .int .i64 x.b, .slice x.o x.l x.c]] W fun e w' => e = .returned (.bool true) ∧ Below W.heap.size W w' := by
  have hB1 : Below W.heap.size W (W.alloc (.cells #[.int .i64 x.what, .string x.text, .int .i64 x.int, .int .i64 x.i, .int .i64 x.k, .int .i64 x.a, .int .i64 x.b, .slice x.o x.l x.c] 62)) := (Below.refl _ W).alloc (Nat.le_refl _) _
  have hN1 := World.alloc_heap_new W (.cells #[.int .i64 x.what, .string x.text, .int .i64 x.int, .int .i64 x.i, .int .i64 x.k, .int .i64 x.a, .int .i64 x.b, .slice x.o x.l x.c] 62)
  have hz1 : (W.alloc (.cells #[.int .i64 x.what, .string x.text, .int .i64 x.int, .int .i64 x.i, .int .i64 x.k, .int .i64 x.a, .int .i64 x.b, .slice x.o x.l x.c] 62)).heap.size = W.heap.size + 1 := World.size_alloc ..
  have hw7 : ∀ j, j < x.l → ∃ a, x.o = some a ∧ (W.alloc (.cells #[.int .i64 x.what, .string x.text, .int .i64 x.int, .int .i64 x.i, .int .i64 x.k, .int .i64 x.a, .int .i64 x.b, .slice x.o x.l x.c] 62)).cell? (a.add j) = some (.int .i64 (x.N j)) := fun j hj => by
    obtain ⟨a, h1, h2⟩ := hx.2.2.2.2.2.2 j hj
    exact ⟨a, h1, below_cell hB1 h2⟩
  have cr := roots_c (h.below hB1) x.o x.l x.c x.N hw7 hl
  have cI := hid (show ∀ w, Below W.heap.size W w → Calls Tryz.prog 19 #[.pointer (some ⟨pb, 0, none⟩), .int .i64 x.i] w fun e w' => e = .returned (.bool (aliveB L vs x.i)) ∧ Below w.heap.size w w' from fun w hB => alive_c (h.below hB) x.i)
  have cK := hid (show ∀ w, Below W.heap.size W w → Calls Tryz.prog 19 #[.pointer (some ⟨pb, 0, none⟩), .int .i64 x.k] w fun e w' => e = .returned (.bool (aliveB L vs x.k)) ∧ Below w.heap.size w w' from fun w hB => alive_c (h.below hB) x.k)
  have GG := hid (show ∀ w, Below (W.alloc (.cells #[.int .i64 x.what, .string x.text, .int .i64 x.int, .int .i64 x.i, .int .i64 x.k, .int .i64 x.a, .int .i64 x.b, .slice x.o x.l x.c] 62)).heap.size (W.alloc (.cells #[.int .i64 x.what, .string x.text, .int .i64 x.int, .int .i64 x.i, .int .i64 x.k, .int .i64 x.a, .int .i64 x.b, .slice x.o x.l x.c] 62)) w → Below W.heap.size W w ∧ w.heap[W.heap.size]? = some (.cells #[.int .i64 x.what, .string x.text, .int .i64 x.int, .int .i64 x.i, .int .i64 x.k, .int .i64 x.a, .int .i64 x.b, .slice x.o x.l x.c] 62 (0, 0)) from fun w hw => ⟨hB1.trans (hw.mono hB1.size), (hw.block _ (by omega)).trans hN1⟩)
  have c7 : (W.alloc (.cells #[.int .i64 x.what, .string x.text, .int .i64 x.int, .int .i64 x.i, .int .i64 x.k, .int .i64 x.a, .int .i64 x.b, .slice x.o x.l x.c] 62)).cell? ⟨W.heap.size, 7, none⟩ = some (.slice x.o x.l x.c) := cell_of_row _ _ 7 _ _ _ hN1
  clear hw7 hx hl hN1 hz1 hB1 h
  obtain ⟨xw, xt, xi, xI, xk, xa, xb, xo, xl, xc, xN⟩ := x
  simp only at *
  go_enter Tryz.func18, Tryz.ntmps18
  go_upto_region 1 with fail
  generalize W.alloc (.cells #[.int .i64 xw, .string xt, .int .i64 xi, .int .i64 xI, .int .i64 xk, .int .i64 xa, .int .i64 xb, .slice xo xl xc] 62) = W1 at *
  go_upto_region 2 with (go_at_call 40; (with_reducible refine cr.mono ?_); rintro e w2 ⟨v1, v2, rfl, hB2, -⟩; clear cr)
  obtain ⟨hBW, g2⟩ := GG.out w2 hB2
  have e0 : w2.cell? ⟨W.heap.size, 0, none⟩ = some (.int .i64 xw) := cell_of_row _ _ 0 _ _ _ g2
  have e3 : w2.cell? ⟨W.heap.size, 3, none⟩ = some (.int .i64 xI) := cell_of_row _ _ 3 _ _ _ g2
  have e4 : w2.cell? ⟨W.heap.size, 4, none⟩ = some (.int .i64 xk) := cell_of_row _ _ 4 _ _ _ g2
  have e4' := hid (show ∀ w3, Below w2.heap.size w2 w3 → w3.cell? ⟨W.heap.size, 4, none⟩ = some (.int .i64 xk) ∧ Below W.heap.size W w3 from fun w3 hB3 => ⟨below_cell hB3 e4, hBW.trans (hB3.mono hBW.size)⟩)
  have ca := cI.out w2 hBW
  clear c7 g2 hB2 GG cI e4
  cases hal : aliveB L vs xI with
  | false =>
    rw [hal] at ca
    clear cK
    go_wp2_with (go_at_call 19; (with_reducible refine ca.mono ?_); rintro e w3 ⟨rfl, hB3⟩; (obtain ⟨e4, hB4⟩ := e4'.out w3 hB3); clear ca e4')
    go_ret
    exact ⟨rfl, hB4⟩
  | true =>
    rw [hal, Bool.true_and] at hd
    rw [hal] at ca
    go_wp2_with (go_at_call 19; first | ((with_reducible refine ca.mono ?_); rintro e w3 ⟨rfl, hB3⟩; (obtain ⟨e4, hB4⟩ := e4'.out w3 hB3); (have cb := cK.out w3 hB4); rw [hd] at cb; clear ca e4' cK) | ((with_reducible refine cb.mono ?_); rintro e w5 ⟨rfl, hB5⟩; clear cb))
    go_ret
    exact ⟨rfl, hB4.trans (hB5.mono hB4.size)⟩
end
end Go.Proofs.YtndkfjoaiinjoaaGreat.W
/- TextPlays: act, where one is told, and where there is no such act. -/
namespace Go.Proofs.YtndkfjoaiinjoaaGreat.W
open Go.ChangeShapes Go.WideShapes Go.RowKit Go.Shelf Si
set_option linter.unusedVariables false
set_option linter.unusedSimpArgs false
section
variable {W W' : World} {pb hb rb : Nat} {lv wv vv : Value} {room : Nat} {L : List Rc} {ws : List Nat} {vs : List Tv} {S : Nat → Prop} {H : List (Option Hc)} {u : Nat}
set_option maxRecDepth 100000 in
set_option maxHeartbeats 2000000 in
theorem act_seven (h : Tpl W pb hb rb lv wv vv room L ws vs) (x : A8) (hx : x.wf W) (hl : x.l ≤ 1100000) (hi : aliveB L vs x.i = true) (hk : aliveB L vs x.k = true) (hw : x.what = 7 ∧ (∃ (n : Nat) (v : Tv) (w : Nat), x.i = n ∧ vs[n]? = some v ∧ ws[n]? = some w ∧ IsV H w v.whole v.i v.t) ∨ (x.what < 1 ∨ 7 < x.what)) (q : HSt W S hb H u) :
    Calls Tryz.prog 18 #[.pointer (some ⟨pb, 0, none⟩), .agg #[.int .i64 x.what, .string x.text, .int .i64 x.int, .int .i64 x.i, .int .i64 x.k, .int .i64 x.a, .int .i64 x.b, .slice x.o x.l x.c]] W fun e w' => e = .returned (.bool true) ∧ Below W.heap.size W w' := by
  have hB1 : Below W.heap.size W (W.alloc (.cells #[.int .i64 x.what, .string x.text, .int .i64 x.int, .int .i64 x.i, .int .i64 x.k, .int .i64 x.a, .int .i64 x.b, .slice x.o x.l x.c] 62)) := (Below.refl _ W).alloc (Nat.le_refl _) _
  have hN1 := World.alloc_heap_new W (.cells #[.int .i64 x.what, .string x.text, .int .i64 x.int, .int .i64 x.i, .int .i64 x.k, .int .i64 x.a, .int .i64 x.b, .slice x.o x.l x.c] 62)
  have hz1 : (W.alloc (.cells #[.int .i64 x.what, .string x.text, .int .i64 x.int, .int .i64 x.i, .int .i64 x.k, .int .i64 x.a, .int .i64 x.b, .slice x.o x.l x.c] 62)).heap.size = W.heap.size + 1 := World.size_alloc ..
  have hw7 : ∀ j, j < x.l → ∃ a, x.o = some a ∧ (W.alloc (.cells #[.int .i64 x.what, .string x.text, .int .i64 x.int, .int .i64 x.i, .int .i64 x.k, .int .i64 x.a, .int .i64 x.b, .slice x.o x.l x.c] 62)).cell? (a.add j) = some (.int .i64 (x.N j)) := fun j hj => by
    obtain ⟨a, h1, h2⟩ := hx.2.2.2.2.2.2 j hj
    exact ⟨a, h1, below_cell hB1 h2⟩
  have cr := roots_c (h.below hB1) x.o x.l x.c x.N hw7 hl
  have cI := hid (show ∀ w, Below W.heap.size W w → Calls Tryz.prog 19 #[.pointer (some ⟨pb, 0, none⟩), .int .i64 x.i] w fun e w' => e = .returned (.bool (aliveB L vs x.i)) ∧ Below w.heap.size w w' from fun w hB => alive_c (h.below hB) x.i)
  have cK := hid (show ∀ w, Below W.heap.size W w → Calls Tryz.prog 19 #[.pointer (some ⟨pb, 0, none⟩), .int .i64 x.k] w fun e w' => e = .returned (.bool (aliveB L vs x.k)) ∧ Below w.heap.size w w' from fun w hB => alive_c (h.below hB) x.k)
  have GG := hid (show ∀ w, Below (W.alloc (.cells #[.int .i64 x.what, .string x.text, .int .i64 x.int, .int .i64 x.i, .int .i64 x.k, .int .i64 x.a, .int .i64 x.b, .slice x.o x.l x.c] 62)).heap.size (W.alloc (.cells #[.int .i64 x.what, .string x.text, .int .i64 x.int, .int .i64 x.i, .int .i64 x.k, .int .i64 x.a, .int .i64 x.b, .slice x.o x.l x.c] 62)) w → Below W.heap.size W w ∧ w.heap[W.heap.size]? = some (.cells #[.int .i64 x.what, .string x.text, .int .i64 x.int, .int .i64 x.i, .int .i64 x.k, .int .i64 x.a, .int .i64 x.b, .slice x.o x.l x.c] 62 (0, 0)) from fun w hw => ⟨hB1.trans (hw.mono hB1.size), (hw.block _ (by omega)).trans hN1⟩)
  have c7 : (W.alloc (.cells #[.int .i64 x.what, .string x.text, .int .i64 x.int, .int .i64 x.i, .int .i64 x.k, .int .i64 x.a, .int .i64 x.b, .slice x.o x.l x.c] 62)).cell? ⟨W.heap.size, 7, none⟩ = some (.slice x.o x.l x.c) := cell_of_row _ _ 7 _ _ _ hN1
  have cT := hid (show ∀ (n : Nat) (v : Tv) (y : Nat), vs[n]? = some v → ws[n]? = some y → IsV H y v.whole v.i v.t → ∀ w, Below W.heap.size W w → Calls Tryz.prog 20 #[.pointer (some ⟨pb, 0, none⟩), .int .i64 n] w fun e w' => e = .returned (.bool true) ∧ Below w.heap.size w w' from fun n v y e1 e2 e3 w hB => tells_c (h.below hB) (q.below hB) n v y e1 e2 e3)
  rw [hi] at cI
  rw [hk] at cK
  clear hw7 hx hl hN1 hz1 hB1 h q hi hk
  obtain ⟨xw, xt, xi, xI, xk, xa, xb, xo, xl, xc, xN⟩ := x
  simp only at *
  go_enter Tryz.func18, Tryz.ntmps18
  go_upto_region 1 with fail
  generalize W.alloc (.cells #[.int .i64 xw, .string xt, .int .i64 xi, .int .i64 xI, .int .i64 xk, .int .i64 xa, .int .i64 xb, .slice xo xl xc] 62) = W1 at *
  go_upto_region 2 with (go_at_call 40; (with_reducible refine cr.mono ?_); rintro e w2 ⟨v1, v2, rfl, hB2, -⟩; clear cr)
  obtain ⟨hBW, g2⟩ := GG.out w2 hB2
  have e0 : w2.cell? ⟨W.heap.size, 0, none⟩ = some (.int .i64 xw) := cell_of_row _ _ 0 _ _ _ g2
  have e3 : w2.cell? ⟨W.heap.size, 3, none⟩ = some (.int .i64 xI) := cell_of_row _ _ 3 _ _ _ g2
  have e4 : w2.cell? ⟨W.heap.size, 4, none⟩ = some (.int .i64 xk) := cell_of_row _ _ 4 _ _ _ g2
  have HK := hid (show ∀ w3, Below w2.heap.size w2 w3 → w3.cell? ⟨W.heap.size, 4, none⟩ = some (.int .i64 xk) ∧ Below W.heap.size W w3 from fun w3 hB3 => ⟨below_cell hB3 e4, hBW.trans (hB3.mono hBW.size)⟩)
  have HZ := hid (show ∀ w3, Below w2.heap.size w2 w3 → w3.cell? ⟨W.heap.size, 0, none⟩ = some (.int .i64 xw) ∧ w3.cell? ⟨W.heap.size, 3, none⟩ = some (.int .i64 xI) from fun w3 hB3 => ⟨below_cell hB3 e0, below_cell hB3 e3⟩)
  have ca := cI.out w2 hBW
  clear c7 g2 hB2 GG cI e4
  rcases hw with ⟨rfl, n, v, y, rfl, hv, hy, hiv⟩ | hw
  · have ct := cT.out n v y hv hy hiv
    have CT := hid ct
    clear ct cT hv hy hiv
    go_wp2_with (first | (go_at_call 19; first | ((with_reducible refine ca.mono ?_); rintro e w3 ⟨rfl, hB3⟩; (obtain ⟨e4, hB4⟩ := HK.out w3 hB3); (have cb := cK.out w3 hB4); clear ca cK) | ((with_reducible refine cb.mono ?_); rintro e w5 ⟨rfl, hB5⟩; (have hB25 := hB3.trans (hB5.mono hB3.size)); (obtain ⟨f4, hB6⟩ := HK.out w5 hB25); (obtain ⟨f0, f3⟩ := HZ.out w5 hB25); (have ct := CT.out w5 hB6); clear cb HK HZ hB25)) | (go_at_call 20; (with_reducible refine ct.mono ?_); rintro e w7 ⟨rfl, hB7⟩; clear ct))
    go_ret
    exact ⟨rfl, hB6.trans (hB7.mono hB6.size)⟩
  · have m1 : ¬ xw = 1 := by omega
    have m2 : ¬ xw = 2 := by omega
    have m3 : ¬ xw = 3 := by omega
    have m4 : ¬ xw = 4 := by omega
    have m5 : ¬ xw = 5 := by omega
    have m6 : ¬ xw = 6 := by omega
    have m7 : ¬ xw = 7 := by omega
    clear hw cT
    go_wp2_with (go_at_call 19; first | ((with_reducible refine ca.mono ?_); rintro e w3 ⟨rfl, hB3⟩; (obtain ⟨e4, hB4⟩ := HK.out w3 hB3); (have cb := cK.out w3 hB4); clear ca cK) | ((with_reducible refine cb.mono ?_); rintro e w5 ⟨rfl, hB5⟩; (have hB25 := hB3.trans (hB5.mono hB3.size)); (obtain ⟨f4, hB6⟩ := HK.out w5 hB25); (obtain ⟨f0, f3⟩ := HZ.out w5 hB25); clear cb HK HZ hB25))
    go_ret
    exact ⟨rfl, hB6⟩
end
end Go.Proofs.YtndkfjoaiinjoaaGreat.W
/- TextPlays: act, where a byte is asked for. -/
namespace Go.Proofs.YtndkfjoaiinjoaaGreat.W
open Go.ChangeShapes Go.WideShapes Go.RowKit Go.Shelf Si
set_option linter.unusedVariables false
set_option linter.unusedSimpArgs false
section
variable {W W' : World} {pb hb rb : Nat} {lv wv vv : Value} {room : Nat} {L : List Rc} {ws : List Nat} {vs : List Tv} {S : Nat → Prop} {H : List (Option Hc)} {u : Nat}
theorem byte_g (q : HSt W S hb H u) (w : Nat) (wh : Bool) (i : Int) (t : ByteArray) (h : IsV H w wh i t) (k : Int) (h0 : -9223372036854775808 ≤ k) (h1 : k < 9223372036854775808) :
    Calls Tryz.prog 15 #[.pointer (some ⟨hb, 0, none⟩), .int .u64 w, .int .i64 k] W fun e w' => e = .returned (.tuple #[.int .u8 (bytW wh t k), .int .i64 (bytF wh t k)]) ∧ Below W.heap.size W w' := by
  rcases h with ⟨rfl, h, rfl⟩ | ⟨rfl, h⟩
  · exact byte_int q w i k h
  · exact byte_c q w t h k h0 h1
set_option maxRecDepth 100000 in
set_option maxHeartbeats 2000000 in
theorem act_five (h : Tpl W pb hb rb lv wv vv room L ws vs) (x : A8) (hx : x.wf W) (hl : x.l ≤ 1100000) (hi : aliveB L vs x.i = true) (hk : aliveB L vs x.k = true) (hw : x.what = 5) (n : Nat) (v : Tv) (y : Nat) (hn : x.i = n) (hv : vs[n]? = some v) (hy : ws[n]? = some y) (hiv : IsV H y v.whole v.i v.t) (hts : v.t.size ≤ 100000) (ha : -9223372036854775808 ≤ x.a ∧ x.a < 9223372036854775808) (q : HSt W S hb H u) :
    Calls Tryz.prog 18 #[.pointer (some ⟨pb, 0, none⟩), .agg #[.int .i64 x.what, .string x.text, .int .i64 x.int, .int .i64 x.i, .int .i64 x.k, .int .i64 x.a, .int .i64 x.b, .slice x.o x.l x.c]] W fun e w' => e = .returned (.bool true) ∧ Below W.heap.size W w' := by
  have hB1 : Below W.heap.size W (W.alloc (.cells #[.int .i64 x.what, .string x.text, .int .i64 x.int, .int .i64 x.i, .int .i64 x.k, .int .i64 x.a, .int .i64 x.b, .slice x.o x.l x.c] 62)) := (Below.refl _ W).alloc (Nat.le_refl _) _
  have hN1 := World.alloc_heap_new W (.cells #[.int .i64 x.what, .string x.text, .int .i64 x.int, .int .i64 x.i, .int .i64 x.k, .int .i64 x.a, .int .i64 x.b, .slice x.o x.l x.c] 62)
  have hz1 : (W.alloc (.cells #[.int .i64 x.what, .string x.text, .int .i64 x.int, .int .i64 x.i, .int .i64 x.k, .int .i64 x.a, .int .i64 x.b, .slice x.o x.l x.c] 62)).heap.size = W.heap.size + 1 := World.size_alloc ..
  have hw7 : ∀ j, j < x.l → ∃ a, x.o = some a ∧ (W.alloc (.cells #[.int .i64 x.what, .string x.text, .int .i64 x.int, .int .i64 x.i, .int .i64 x.k, .int .i64 x.a, .int .i64 x.b, .slice x.o x.l x.c] 62)).cell? (a.add j) = some (.int .i64 (x.N j)) := fun j hj => by
    obtain ⟨a, h1, h2⟩ := hx.2.2.2.2.2.2 j hj
    exact ⟨a, h1, below_cell hB1 h2⟩
  have cr := roots_c (h.below hB1) x.o x.l x.c x.N hw7 hl
  have cI := hid (show ∀ w, Below W.heap.size W w → Calls Tryz.prog 19 #[.pointer (some ⟨pb, 0, none⟩), .int .i64 x.i] w fun e w' => e = .returned (.bool (aliveB L vs x.i)) ∧ Below w.heap.size w w' from fun w hB => alive_c (h.below hB) x.i)
  have cK := hid (show ∀ w, Below W.heap.size W w → Calls Tryz.prog 19 #[.pointer (some ⟨pb, 0, none⟩), .int .i64 x.k] w fun e w' => e = .returned (.bool (aliveB L vs x.k)) ∧ Below w.heap.size w w' from fun w hB => alive_c (h.below hB) x.k)
  have GG := hid (show ∀ w, Below (W.alloc (.cells #[.int .i64 x.what, .string x.text, .int .i64 x.int, .int .i64 x.i, .int .i64 x.k, .int .i64 x.a, .int .i64 x.b, .slice x.o x.l x.c] 62)).heap.size (W.alloc (.cells #[.int .i64 x.what, .string x.text, .int .i64 x.int, .int .i64 x.i, .int .i64 x.k, .int .i64 x.a, .int .i64 x.b, .slice x.o x.l x.c] 62)) w → Below W.heap.size W w ∧ w.heap[W.heap.size]? = some (.cells #[.int .i64 x.what, .string x.text, .int .i64 x.int, .int .i64 x.i, .int .i64 x.k, .int .i64 x.a, .int .i64 x.b, .slice x.o x.l x.c] 62 (0, 0)) from fun w hw => ⟨hB1.trans (hw.mono hB1.size), (hw.block _ (by omega)).trans hN1⟩)
  have c7 : (W.alloc (.cells #[.int .i64 x.what, .string x.text, .int .i64 x.int, .int .i64 x.i, .int .i64 x.k, .int .i64 x.a, .int .i64 x.b, .slice x.o x.l x.c] 62)).cell? ⟨W.heap.size, 7, none⟩ = some (.slice x.o x.l x.c) := cell_of_row _ _ 7 _ _ _ hN1
  obtain ⟨gw, gv, cw, cv, tr⟩ := h.tr hv hy
  have hnm := (List.getElem?_eq_some_iff.1 hv).1
  have TR := hid (show ∀ w, Below W.heap.size W w → Tr8 w pb hb gw gv n vs.length cw cv y v from fun w hB => tr.below hB)
  have cB := hid (show ∀ w, Below W.heap.size W w → ∀ p : TBW w, Calls Tryz.prog 15 #[.pointer (some ⟨hb, 0, none⟩), .int .u64 y, .int .i64 x.a] p.w' fun e w'' => e = .returned (.tuple #[.int .u8 (bytW v.whole v.t x.a), .int .i64 (bytF v.whole v.t x.a)]) ∧ ∃ p' : TBW w, w'' = p'.w' from fun w hB p => TBW.calls (p := p) (byte_g ((q.below hB).below p.h) y v.whole v.i v.t hiv x.a ha.1 ha.2))
  have c8 := fun (w : World) (p : TBW w) => TBW.calls (p := p) (byte8_c v.whole v.i v.cell x.a v.t hts p.w')
  have o1 : (0 : Int) ≤ n := Int.natCast_nonneg _
  have o2 : (n : Int) < vs.length := by omega
  rw [hi] at cI
  rw [hk] at cK
  clear hw7 hx hl hN1 hz1 hB1 h q hi hk hv hy hiv hts ha tr hnm
  obtain ⟨xw, xt, xi, xI, xk, xa, xb, xo, xl, xc, xN⟩ := x
  simp only at *
  subst hw
  subst hn
  go_enter Tryz.func18, Tryz.ntmps18
  go_upto_region 1 with fail
  generalize W.alloc (.cells #[.int .i64 5, .string xt, .int .i64 xi, .int .i64 n, .int .i64 xk, .int .i64 xa, .int .i64 xb, .slice xo xl xc] 62) = W1 at *
  go_upto_region 2 with (go_at_call 40; (with_reducible refine cr.mono ?_); rintro e w2 ⟨v1, v2, rfl, hB2, -⟩; clear cr)
  obtain ⟨hBW, g2⟩ := GG.out w2 hB2
  have e0 : w2.cell? ⟨W.heap.size, 0, none⟩ = some (.int .i64 5) := cell_of_row _ _ 0 _ _ _ g2
  have e3 : w2.cell? ⟨W.heap.size, 3, none⟩ = some (.int .i64 n) := cell_of_row _ _ 3 _ _ _ g2
  have e4 : w2.cell? ⟨W.heap.size, 4, none⟩ = some (.int .i64 xk) := cell_of_row _ _ 4 _ _ _ g2
  have e5 : w2.cell? ⟨W.heap.size, 5, none⟩ = some (.int .i64 xa) := cell_of_row _ _ 5 _ _ _ g2
  have HK := hid (show ∀ w3, Below w2.heap.size w2 w3 → w3.cell? ⟨W.heap.size, 4, none⟩ = some (.int .i64 xk) ∧ Below W.heap.size W w3 from fun w3 hB3 => ⟨below_cell hB3 e4, hBW.trans (hB3.mono hBW.size)⟩)
  have HZ := hid (show ∀ w3, Below w2.heap.size w2 w3 → w3.cell? ⟨W.heap.size, 0, none⟩ = some (.int .i64 5) ∧ w3.cell? ⟨W.heap.size, 3, none⟩ = some (.int .i64 n) ∧ w3.cell? ⟨W.heap.size, 5, none⟩ = some (.int .i64 xa) from fun w3 hB3 => ⟨below_cell hB3 e0, below_cell hB3 e3, below_cell hB3 e5⟩)
  have ca := cI.out w2 hBW
  clear c7 g2 hB2 GG cI e4 e5
  go_upto_region 23 with (go_at_call 19; first | ((with_reducible refine ca.mono ?_); rintro e w3 ⟨rfl, hB3⟩; (obtain ⟨e4, hB4⟩ := HK.out w3 hB3); (have cb := cK.out w3 hB4); clear ca cK) | ((with_reducible refine cb.mono ?_); rintro e w5 ⟨rfl, hB5⟩; (have hB25 := hB3.trans (hB5.mono hB3.size)); (obtain ⟨f4, hB6⟩ := HK.out w5 hB25); (obtain ⟨f0, f3, f5⟩ := HZ.out w5 hB25); clear cb HK HZ hB25))
  have t5 := TR.out w5 hB6
  have cb := cB.out w5 hB6
  clear e0 e3 e4 f0 f4 hB3 hB4 hB5 cB
  have inst : Nonempty (TBW w5) := ⟨⟨_, Below.refl _ _⟩⟩
  have a0 := TBW.cell t5.p0
  have a2 := TBW.cell t5.p2
  have aw := TBW.cell t5.w0
  have a3 := TBW.cell f3
  have a5 := TBW.cell f5
  refine tbw_region (by kernel_rfl) (by kernel_rfl) ?_
  repeat (go_big_quiet_step ((go_at_call 15; exact cb _)))
  refine wpQuiet_nil ?_
  intro _ hw'
  obtain ⟨pw, hw''⟩ := hw'
  subst hw''
  have hB7 := hB6.trans (pw.h.mono hB6.size)
  have g3 := below_cell pw.h f3
  have g5 := below_cell pw.h f5
  generalize pw.w' = w7 at *
  clear a0 a2 aw a3 a5 inst cb f3 f5 t5 pw
  have t7 := TR.out w7 hB7
  go_upto_region 24 with fail
  have inst : Nonempty (TBW w7) := ⟨⟨_, Below.refl _ _⟩⟩
  have a0 := TBW.cell t7.p3
  have a3 := TBW.cell g3
  have a5 := TBW.cell g5
  have b0 := TBW.cell t7.v0
  have b1 := TBW.cell t7.v1
  have b2 := TBW.cell t7.v2
  have b3 := TBW.cell t7.v3
  have b4 := TBW.cell t7.v4
  have cc := c8 w7
  clear t7 g3 g5 TR c8
  generalize bytW v.whole v.t xa = bw at *
  generalize bytF v.whole v.t xa = bf at *
  refine tbw_region (by kernel_rfl) (by kernel_rfl) ?_
  repeat (go_big_quiet_step ((go_at_call 46; exact cc _)))
  refine wpQuiet_nil ?_
  intro _ hw'
  obtain ⟨pw, hw''⟩ := hw'
  subst hw''
  have hB8 := hid (hB7.trans (pw.h.mono hB7.size))
  clear a0 a3 a5 b0 b1 b2 b3 b4 cc inst
  go_wp2
  go_ret
  exact ⟨by simp, hB8.out⟩
end
end Go.Proofs.YtndkfjoaiinjoaaGreat.W
