import Derived.Test.YtndkfjoaiinjoaaGreatBase17
import Derived.Test.YtndkfjoaiinjoaaGreatBase22
import Derived.Test.YtndkfjoaiinjoaaGreatBase15
import Derived.Test.YtndkfjoaiinjoaaGreatBase21
import Derived.Laws.IdiomStrings
import Derived.Test.YtndkfjoaiinjoaaGreatBase12
import Derived.Laws.BytesArg
/- Package heap: loadBytes. -/
namespace Go.Proofs.YtndkfjoaiinjoaaGreat.W
open Go.ChangeShapes Go.WideShapes Go.RowKit Go.Shelf
set_option linter.unusedVariables false
theorem info8 : (Tryz.prog.info? 5).map (fun i => (i.zero, i.size, i.bytes)) = some (some (.int .u8 0), 1, 1) := by kernel_rfl
theorem under8 : Tryz.prog.underlying 39 = some (.slice 5) := by kernel_rfl
theorem make_bytes (w : World) (n : Nat) (hn : n ≤ 8388608) : ∃ w', (Instr.makeSlice 39 (.int .i64 (n : Int)) (.int .i64 (n : Int))).run Tryz.prog w = .ok (.slice (some ⟨w.heap.size, 0, none⟩) n n) w' ∧ w'.ownsRow w.heap.size 5 1 (.slice (some ⟨w.heap.size, 0, none⟩) n n) n ((List.replicate n 0).map byteV) ∧ w.grownBy w' none := by
  obtain ⟨i0, hi, hz0, hz1, hz2⟩ := info_parts info8
  obtain ⟨w', h1, h2, h3⟩ := run_makeSlice_full (P := Tryz.prog) w w.heap.size 39 5 i0 (.int .u8 0) 1 under8 hi hz0 hz1 .i64 .i64 n (by omega) (by rw [hz2]; omega) (by simp [maxLen]; omega) (Nat.le_refl _)
  refine ⟨w', h1, ?_, h3⟩
  have e : (madeCells (Value.int .u8 0).cells (n * 1)).toList = (List.replicate n 0).map byteV := by
    rw [Nat.mul_one, List.map_replicate]
    exact made_one _ n
  rw [← e]
  exact h2
section
variable {W W' : World} {hb sb : Nat} {vc : Value} {T : Nat → Prop} {H : List (Option Hc)} {u h : Nat}
/-- along loadBytes: o bytes are there -/
structure LbI (W : World) (hb sb : Nat) (vc : Value) (T : Nat → Prop) (H : List (Option Hc)) (u h id gb Bb Bn : Nat) (bs : List Nat) (o : Nat) (W' : World) : Prop where
  lay : HLay W' hb sb vc T H u h
  b0 : Boxed W' W.heap.size 22 (.pointer (some ⟨hb, 0, none⟩))
  b1 : Boxed W' (W.heap.size + 1) 3 (.int .i64 id)
  bb : Boxed W' Bb 39 (.slice (some ⟨gb, 0, none⟩) bs.length bs.length)
  bn : Boxed W' Bn 3 (.int .i64 (bs.length : Nat))
  row : W'.ownsRow W.heap.size 5 1 (.slice (some ⟨gb, 0, none⟩) bs.length bs.length) bs.length ((upTo bs o).map byteV)
  bel : Below W.heap.size W W'
section
variable {id gb Bb Bn o : Nat} {bs : List Nat} {w2 : World}
theorem LbI.gge (q : LbI W hb sb vc T H u h id gb Bb Bn bs o W') : W.heap.size ≤ gb ∧ gb < W'.heap.size := q.row.lt gb rfl
theorem LbI.upd {S : Nat → Prop} (g : HLay W hb sb vc T H u h) (q : LbI W hb sb vc T H u h id gb Bb Bn bs o W') (hu : Upd S W' w2) (hS : ∀ k, S k → W.heap.size ≤ k) (h0 : ¬ S W.heap.size) (h1 : ¬ S (W.heap.size + 1)) (h2 : ¬ S Bb) (h3 : ¬ S Bn) (h4 : ¬ S gb) : LbI W hb sb vc T H u h id gb Bb Bn bs o w2 := by
  have hhb := g.hlt
  have hcv := g.clt
  have hst := g.tlt
  have hz := q.bel.size
  refine ⟨q.lay.upd hu (fun e => by have := hS _ e; omega) (fun k e e2 => by have := hcv k e; have := hS _ e2; omega) (fun k e e2 => by have := hst k e; have := hS _ e2; omega), box_of (hu.block _ q.b0.lt h0) q.b0, box_of (hu.block _ q.b1.lt h1) q.b1, box_of (hu.block _ q.bb.lt h2) q.bb, box_of (hu.block _ q.bn.lt h3) q.bn, owns_on q.row (fun k e => ?_), q.bel.trans (hu.below hz hS)⟩
  cases e
  exact hu.block _ q.gge.2 h4
theorem LbI.below (g : HLay W hb sb vc T H u h) (q : LbI W hb sb vc T H u h id gb Bb Bn bs o W') (hB : Below W'.heap.size W' w2) : LbI W hb sb vc T H u h id gb Bb Bn bs o w2 :=
  q.upd g (Upd.of_below (S := fun _ => False) hB) (fun k e => e.elim) (fun e => e) (fun e => e) (fun e => e) (fun e => e) (fun e => e)
theorem LbI.ne (q : LbI W hb sb vc T H u h id gb Bb Bn bs o W') {B t : Nat} {v : Value} (hb' : Boxed W' B t v) (ht : t ≠ 5) : B ≠ gb := by
  rintro rfl
  rcases q.row.2 with ⟨h0, _⟩ | ⟨g', cap', cur, h0, _, hgg, _⟩
  · cases h0
  · cases h0
    unfold Boxed at hb'
    rw [hgg] at hb'
    cases hb'
    exact ht rfl
theorem LbI.store (g : HLay W hb sb vc T H u h) (q : LbI W hb sb vc T H u h id gb Bb Bn bs o W') (y : Nat) (hy : bs[o]? = some y) : LbI W hb sb vc T H u h id gb Bb Bn bs (o + 1) (W'.setCell ⟨gb, o, none⟩ (.int .u8 (y : Nat))).drew := by
  show LbI W hb sb vc T H u h id gb Bb Bn bs (o + 1) (W'.drew.setCell ⟨gb, o, none⟩ (byteV y))
  obtain ⟨ho, rfl⟩ := List.getElem?_eq_some_iff.1 hy
  have hhb := g.hlt
  have hcv := g.clt
  have hst := g.tlt
  have hz := q.bel.size
  have hge := q.gge
  have n0 := q.ne q.b0 (by decide)
  have n1 := q.ne q.b1 (by decide)
  have n2 := q.ne q.bb (by decide)
  have n3 := q.ne q.bn (by decide)
  have hu : Upd (fun k => k = gb) W' (W'.drew.setCell ⟨gb, o, none⟩ (byteV bs[o])) := (Upd.refl (fun k => k = gb) W').drew.setCell (p := ⟨gb, o, none⟩) (.inl rfl) _
  have hst2 := (World.ownsRow.stored (w := W'.drew) (base := W.heap.size) q.row o (byteV bs[o])).1
  rw [← List.map_set, upTo_set bs o ho] at hst2
  exact ⟨q.lay.upd hu (fun e => by omega) (fun k e e2 => by have := hcv k e; omega) (fun k e e2 => by have := hst k e; omega), box_of (hu.block _ q.b0.lt n0) q.b0, box_of (hu.block _ q.b1.lt n1) q.b1, box_of (hu.block _ q.bb.lt n2) q.bb, box_of (hu.block _ q.bn.lt n3) q.bn, hst2, q.bel.trans (hu.below hz (fun k e => by omega))⟩
end
set_option maxRecDepth 100000 in
theorem loadBytes_c (g : HLay W hb sb vc T H u h) (id : Nat) (c : Hc) (hc : H[id]? = some (some c)) (bs : List Nat) (hbs : c.bytes = bs) (hb256 : ∀ x ∈ bs, x < 256) (hn : bs.length ≤ 8388608) :
    Calls Tryz.prog 119 #[.pointer (some ⟨hb, 0, none⟩), .int .i64 id] W fun e w' => ∃ gb, e = .returned (.slice (some ⟨gb, 0, none⟩) bs.length bs.length) ∧ W.heap.size ≤ gb ∧ Below W.heap.size W w' ∧ w'.ownsRow W.heap.size 5 1 (.slice (some ⟨gb, 0, none⟩) bs.length bs.length) bs.length (bs.map byteV) := by
  have hil := (List.getElem?_eq_some_iff.1 hc).1
  obtain ⟨nn, hnn⟩ : ∃ nn, bs.length = nn := ⟨_, rfl⟩
  rw [hnn] at hn ⊢
  have cpc := fun w => pieces_c w nn
  refine (callsIn_wide (n := 9)).1 ?_
  refine callsIn_of_wp_marks Tryz.func119 rfl trivial ?_ rfl
  refine wpIn_wide.2 ?_
  simp only [Tryz.ntmps119, List.size_toArray, List.length_cons, List.length_nil, Nat.reduceAdd, Nat.reduceSub, Array.replicate_succ, Array.replicate_zero, List.push_toArray, List.append_toArray, List.nil_append, List.cons_append]
  have b1 : Below W.heap.size W ((W.alloc (.cells #[.pointer (some ⟨hb, 0, none⟩)] 22)).alloc (.cells #[.int .i64 id] 3)) := ((Below.refl _ W).alloc (Nat.le_refl _) _).alloc (by simp) _
  have cb := bytes_c (g.below b1) id c hc
  rw [hbs, hnn] at cb
  have z2 : (((W.alloc (.cells #[.pointer (some ⟨hb, 0, none⟩)] 22)).alloc (.cells #[.int .i64 id] 3))).heap.size = W.heap.size + 2 := by simp
  have x0 : Boxed ((W.alloc (.cells #[.pointer (some ⟨hb, 0, none⟩)] 22)).alloc (.cells #[.int .i64 id] 3)) W.heap.size 22 (.pointer (some ⟨hb, 0, none⟩)) := (Boxed.new W _ _).alloc _
  have x1 : Boxed ((W.alloc (.cells #[.pointer (some ⟨hb, 0, none⟩)] 22)).alloc (.cells #[.int .i64 id] 3)) (W.heap.size + 1) 3 (.int .i64 id) := by
    have := Boxed.new (W.alloc (.cells #[.pointer (some ⟨hb, 0, none⟩)] 22)) 3 (.int .i64 id)
    rwa [World.size_alloc] at this
  have g2 := g.below b1
  go_upto_region 1 with fail
  generalize ((W.alloc (.cells #[.pointer (some ⟨hb, 0, none⟩)] 22)).alloc (.cells #[.int .i64 id] 3)) = W2 at *
  obtain ⟨Wm, hmk, hown, hgr⟩ := make_bytes W2 nn hn
  have b2 : Below W2.heap.size W2 Wm := ((Upd.refl (fun _ => False) W2).grown hgr (fun k e => by cases e)).below (Nat.le_refl _) (fun k e => e.elim)
  have y0 := x0.cell
  have y1 := x1.cell
  go_upto_region 2 with (go_at_call 63; (with_reducible refine cb.mono ?_); rintro e w' ⟨rfl, hw⟩; (have hw' := hw.symm); subst hw'; clear hw)
  have hownA := hown.alloc (.cells #[.slice (some ⟨W.heap.size + 2, 0, none⟩) nn nn] 39)
  have zm : W.heap.size + 2 < Wm.heap.size := by have : W2.heap.size < Wm.heap.size := (hown.lt W2.heap.size rfl).2; omega
  have xb : Boxed (Wm.alloc (.cells #[.slice (some ⟨W.heap.size + 2, 0, none⟩) nn nn] 39)) Wm.heap.size 39 (.slice (some ⟨W.heap.size + 2, 0, none⟩) nn nn) := Boxed.new _ _ _
  have bA : Below W2.heap.size W2 (Wm.alloc (.cells #[.slice (some ⟨W.heap.size + 2, 0, none⟩) nn nn] 39)) := b2.alloc b2.size _
  have zA : (Wm.alloc (.cells #[.slice (some ⟨W.heap.size + 2, 0, none⟩) nn nn] 39)).heap.size = Wm.heap.size + 1 := World.size_alloc ..
  generalize Wm.alloc (.cells #[.slice (some ⟨W.heap.size + 2, 0, none⟩) nn nn] 39) = WA at *
  have yb := xb.cell
  go_wp2_with (go_at_call 118; (with_reducible refine (cpc _).mono ?_); rintro e w8 ⟨rfl, hw8⟩; (have hw' := hw8.symm); subst hw'; clear hw8)
  rw [z2] at hownA
  subst hnn
  have bZ : Below W2.heap.size W2 (WA.alloc (.cells #[.int .i64 (bs.length : Nat)] 3)) := bA.alloc bA.size _
  have q0 : LbI W hb sb vc T H u h id (W.heap.size + 2) Wm.heap.size (Wm.heap.size + 1) bs 0 (WA.alloc (.cells #[.int .i64 (bs.length : Nat)] 3)) := by
    refine ⟨g2.below bZ, box_of (bZ.block _ (by omega)) x0, box_of (bZ.block _ (by omega)) x1, xb.alloc _, ?_, ?_, b1.trans (bZ.mono (by omega))⟩
    · have := Boxed.new WA 3 (.int .i64 (bs.length : Nat))
      rwa [zA] at this
    · rw [upTo_zero]
      exact owns_base (hownA.alloc _) (fun g e => by cases e; show W.heap.size ≤ W.heap.size + 2; omega)
  have zZ : (WA.alloc (.cells #[.int .i64 (bs.length : Nat)] 3)).heap.size = Wm.heap.size + 2 := by rw [World.size_alloc, zA]
  generalize WA.alloc (.cells #[.int .i64 (bs.length : Nat)] 3) = WZ at *
  refine pieces_law (p1 := 18) (p2 := 19) (W0 := WZ) (Bn := Wm.heap.size + 1) bs.length hn rfl
    (fun i W' => LbI W hb sb vc T H u h id (W.heap.size + 2) Wm.heap.size (Wm.heap.size + 1) bs (pieceO bs.length i) W')
    ?hL ?hI (by rw [piece_zero]; exact q0) 6 7 ?assign ?body ?done
  case hL =>
    intro i W' q
    exact q.bn.cell
  case hI =>
    intro i Wa Wb q hu
    exact q.upd g hu (fun k e => by omega) (by omega) (by omega) (by omega) (by omega) (by omega)
  case assign =>
    intro L x y W' K hK
    gi_wp2_with (simp only [Oper.semAt]; go_simp)
    exact hK
  case done =>
    intro W' q hD
    rw [piece_end] at q
    have yb2 := q.bb.cell
    have Q := hid q
    clear q
    go_wp2
    refine ⟨by simp, .inl ⟨_, _, rfl, run_takeDeferred hD, ?_⟩⟩
    have q9 := Q.out.upd g (upd_put (S := fun k => k = WZ.heap.size) rfl (.deferred none)) (fun k e => by omega) (by omega) (by omega) (by omega) (by omega) (by omega)
    refine ⟨_, results_tmp rfl _ _ _, W.heap.size + 2, rfl, by omega, q9.bel, ?_⟩
    have r9 := q9.row
    rwa [upTo_all] at r9
  case body =>
    intro L i hi W' hLe q hs hr
    simp only [pAct, List.setIfInBounds_toArray, List.set_cons_succ, List.set_cons_zero]
    have hp := piece_lt bs.length i hi
    have hw1 : pieceW bs.length i = 1 ∨ pieceW bs.length i = 2 ∨ pieceW bs.length i = 4 ∨ pieceW bs.length i = 8 := by unfold pieceW; split <;> simp
    have hsl := seg_len bs (pieceO bs.length i) (pieceW bs.length i) hp.1
    have cl := load_st (q.lay.same (W' := W'.drew) rfl).st id _ (hA_some hc) (pieceO bs.length i) (pieceW bs.length i) hw1 hp.2 (by rw [hbs]; exact hp.1)
    rw [hbs] at cl
    have hnx := piece_next bs.length i
    rw [hnx]
    have hge := q.gge
    have y0 := q.b0.cell
    have y1 := q.b1.cell
    have c0 := q.lay.cell 0
    simp only [List.getElem?_cons_zero] at c0
    have Q := hid q
    have HS := hid hsl
    have HP := hid hp
    have HB : Hid (∀ k, k < pieceW bs.length i → ∃ y : Nat, bs[pieceO bs.length i + k]? = some y ∧ IntKind.u8.wrap (((leN (seg bs (pieceO bs.length i) (pieceW bs.length i)) : Nat) : Int) / 2 ^ (8 * k)) = (y : Int)) := by
      show ∀ k, k < pieceW bs.length i → _
      intro k hk
      have e := byte_leN (seg bs (pieceO bs.length i) (pieceW bs.length i)) (fun x hx => hb256 x (List.mem_of_mem_drop (List.mem_of_mem_take hx))) k (by omega)
      refine ⟨(seg bs (pieceO bs.length i) (pieceW bs.length i))[k]'(by omega), ?_, ?_⟩
      · rw [← seg_get bs (pieceO bs.length i) (pieceW bs.length i) k hk]
        exact List.getElem?_eq_getElem _
      · rw [← e, show (2 : Int) ^ (8 * k) = ((256 ^ k : Nat) : Int) by rw [Int.pow_mul]; simp]
        rw [← Int.natCast_ediv, IntKind.wrap_u8]
        omega
    have hLn : L ≠ W.heap.size + 2 := by omega
    have hZn : WZ.heap.size ≠ W.heap.size + 2 := by omega
    clear q x0 x1 xb g2 q0 hr hsl hp b1 b2 bA bZ yb hgr hownA
    generalize leN (seg bs (pieceO bs.length i) (pieceW bs.length i)) = X at *
    generalize pieceO bs.length (i + 1) = oo1 at *
    generalize hoo : pieceO bs.length i = oo at *
    generalize hww : pieceW bs.length i = ww at *
    have hw8 : ww ≤ 8 := by omega
    clear hnx hoo hww hw1
    gi_wp2_with (simp only [Oper.semAt]; go_simp)
    refine round_held (S := fun w' => w'.cell? ⟨W.heap.size, 0, none⟩ = some (.pointer (some ⟨hb, 0, none⟩)) ∧ w'.cell? ⟨W.heap.size + 1, 0, none⟩ = some (.int .i64 id) ∧ w'.cell? ⟨hb, 0, none⟩ = some (.pointer (some ⟨sb, 0, none⟩))) (by kernel_rfl) (by kernel_rfl) (by rintro ⟨a, w, hF⟩; exact hF) ?_
    have hS : W'.drew.cell? ⟨W.heap.size, 0, none⟩ = some (.pointer (some ⟨hb, 0, none⟩)) ∧ W'.drew.cell? ⟨W.heap.size + 1, 0, none⟩ = some (.int .i64 id) ∧ W'.drew.cell? ⟨hb, 0, none⟩ = some (.pointer (some ⟨sb, 0, none⟩)) := ⟨y0, y1, c0⟩
    (refine wpAnyH_take (i := 0) (v := ?_) rfl (by kernel_rfl) (by kernel_rfl) (by kernel_rfl) (fun _ _ _ h => h) (Or.inl ⟨by rfl, ?_⟩) hS ?_); rotate_left; focus (intro w' hSw; obtain ⟨s1, s2, s3⟩ := hSw; go_simp; (try with_reducible rfl)); (try simp only [Act.put, List.setIfInBounds_toArray, List.set_cons_zero, List.set_cons_succ])
    (refine wpAnyH_take (i := 1) (v := ?_) rfl (by kernel_rfl) (by kernel_rfl) (by kernel_rfl) (fun _ _ _ h => h) (Or.inl ⟨by rfl, ?_⟩) hS ?_); rotate_left; focus (intro w' hSw; obtain ⟨s1, s2, s3⟩ := hSw; go_simp; (try with_reducible rfl)); (try simp only [Act.put, List.setIfInBounds_toArray, List.set_cons_zero, List.set_cons_succ])
    (refine wpAnyH_take (i := 2) (v := ?_) rfl (by kernel_rfl) (by kernel_rfl) (by kernel_rfl) (fun _ _ _ h => h) (Or.inl ⟨by rfl, ?_⟩) hS ?_); rotate_left; focus (intro w' hSw; obtain ⟨s1, s2, s3⟩ := hSw; go_simp; (try with_reducible rfl)); (try simp only [Act.put, List.setIfInBounds_toArray, List.set_cons_zero, List.set_cons_succ])
    (refine wpAnyH_take (i := 3) (v := ?_) rfl (by kernel_rfl) (by kernel_rfl) (by kernel_rfl) (fun _ _ _ h => h) (Or.inl ⟨by rfl, ?_⟩) hS ?_); rotate_left; focus (intro w' hSw; obtain ⟨s1, s2, s3⟩ := hSw; go_simp; (try with_reducible rfl)); (try simp only [Act.put, List.setIfInBounds_toArray, List.set_cons_zero, List.set_cons_succ])
    (refine wpAnyH_take (i := 4) (v := ?_) rfl (by kernel_rfl) (by kernel_rfl) (by kernel_rfl) (fun _ _ _ h => h) (Or.inl ⟨by rfl, ?_⟩) hS ?_); rotate_left; focus (intro w' hSw; obtain ⟨s1, s2, s3⟩ := hSw; go_simp; (try with_reducible rfl)); (try simp only [Act.put, List.setIfInBounds_toArray, List.set_cons_zero, List.set_cons_succ])
    (refine wpAnyH_take (i := 5) (v := ?_) rfl (by kernel_rfl) (by kernel_rfl) (by kernel_rfl) (fun _ _ _ h => h) (Or.inl ⟨by rfl, ?_⟩) hS ?_); rotate_left; focus (intro w' hSw; obtain ⟨s1, s2, s3⟩ := hSw; go_simp; (try with_reducible rfl)); (try simp only [Act.put, List.setIfInBounds_toArray, List.set_cons_zero, List.set_cons_succ])
    (refine wpAnyH_take (i := 6) (v := ?_) rfl (by kernel_rfl) (by kernel_rfl) (by kernel_rfl) (fun _ _ _ h => h) (Or.inl ⟨by rfl, ?_⟩) hS ?_); rotate_left; focus (intro w' hSw; obtain ⟨s1, s2, s3⟩ := hSw; go_simp; (try with_reducible rfl)); (try simp only [Act.put, List.setIfInBounds_toArray, List.set_cons_zero, List.set_cons_succ])
    refine wpAnyH_ready (rs := [7]) (by kernel_rfl) (by simp) ?_
    refine AllReadyH.cons rfl (fun K hK => ?_) AllReadyH.nil
    go_simp
    refine cl.mono ?_
    rintro e w2 ⟨rfl, hB2⟩
    have q2 := (Q.out.below g (w2 := w2) ⟨hB2.os, hB2.tape, hB2.output, hB2.size, hB2.block⟩)
    refine hK.out _ _ ⟨q2.b0.cell, q2.b1.cell, q2.lay.cell 0⟩ (fun hS2 => ?_)
    clear hK K hS cl
    (refine wpAnyH_take (i := 8) (v := ?_) rfl (by kernel_rfl) (by kernel_rfl) (by kernel_rfl) (fun _ _ _ h => h) (Or.inl ⟨by rfl, ?_⟩) hS2 ?_); rotate_left; focus (intro w' hSw; obtain ⟨s1, s2, s3⟩ := hSw; go_simp; (try with_reducible rfl)); (try simp only [Act.put, List.setIfInBounds_toArray, List.set_cons_zero, List.set_cons_succ])
    (refine wpAnyH_take (i := 9) (v := ?_) rfl (by kernel_rfl) (by kernel_rfl) (by kernel_rfl) (fun _ _ _ h => h) (Or.inl ⟨by rfl, ?_⟩) hS2 ?_); rotate_left; focus (intro w' hSw; obtain ⟨s1, s2, s3⟩ := hSw; go_simp; (try with_reducible rfl)); (try simp only [Act.put, List.setIfInBounds_toArray, List.set_cons_zero, List.set_cons_succ])
    (refine wpAnyH_take (i := 10) (v := ?_) rfl (by kernel_rfl) (by kernel_rfl) (by kernel_rfl) (fun _ _ _ h => h) (Or.inl ⟨by rfl, ?_⟩) hS2 ?_); rotate_left; focus (intro w' hSw; obtain ⟨s1, s2, s3⟩ := hSw; go_simp; (try with_reducible rfl)); (try simp only [Act.put, List.setIfInBounds_toArray, List.set_cons_zero, List.set_cons_succ])
    (refine wpAnyH_take (i := 11) (v := ?_) rfl (by kernel_rfl) (by kernel_rfl) (by kernel_rfl) (fun _ _ _ h => h) (Or.inl ⟨by rfl, ?_⟩) hS2 ?_); rotate_left; focus (intro w' hSw; obtain ⟨s1, s2, s3⟩ := hSw; go_simp; (try with_reducible rfl)); (try simp only [Act.put, List.setIfInBounds_toArray, List.set_cons_zero, List.set_cons_succ])
    (refine wpAnyH_take (i := 12) (v := ?_) rfl (by kernel_rfl) (by kernel_rfl) (by kernel_rfl) (fun _ _ _ h => h) (Or.inl ⟨by rfl, ?_⟩) hS2 ?_); rotate_left; focus (intro w' hSw; obtain ⟨s1, s2, s3⟩ := hSw; go_simp; (try with_reducible rfl)); (try simp only [Act.put, List.setIfInBounds_toArray, List.set_cons_zero, List.set_cons_succ])
    refine wpAnyH_done (by kernel_rfl) ?_ _
    have hU0 : Upd (fun k => k = W.heap.size + 2) W' w2 := ⟨hB2.os, hB2.tape, hB2.output, hB2.size, fun k hk _ => hB2.block k hk⟩
    have HQ2 := hid q2
    have HU0 := hid hU0
    clear hS2 q2 hB2 Q y0 y1 c0 hU0
    gi_wp2_with (simp only [Oper.semAt]; go_simp)
    gi_loopw [32] (fun ii wr => ∃ k : Nat, k ≤ ww ∧ ii = .int .i64 k ∧ LbI W hb sb vc T H u h id (W.heap.size + 2) Wm.heap.size (Wm.heap.size + 1) bs (oo + k) wr ∧ Upd (fun k => k = W.heap.size + 2) W' wr) (fun ii _ => ww - (intOf ii).toNat)
    case atStart => exact ⟨0, Nat.zero_le _, rfl, HQ2.out, HU0.out⟩
    case round =>
      obtain ⟨k, hk, rfl, qk, huk⟩ := hrel
      have w1 : IntKind.i64.wrap ((k : Int) + 1) = (k : Int) + 1 := by rw [IntKind.wrap_i64]; have := HP.out; omega
      have w8 : IntKind.i64.wrap (8 * (k : Int)) = 8 * (k : Int) := by rw [IntKind.wrap_i64]; have := HP.out; omega
      have w9 : IntKind.i64.wrap ((oo : Int) + (k : Int)) = (oo : Int) + (k : Int) := by rw [IntKind.wrap_i64]; have := HP.out; omega
      by_cases hlt : k < ww
      · obtain ⟨y, hy, hyv⟩ := HB.out k hlt
        have hst := hid (qk.store g y hy)
        have yb := qk.bb.cell
        have k1 : (k : Int) < ww := by omega
        have HUK := hid huk
        have HQK := hid qk
        clear qk huk
        gi_wp2_with (simp only [Oper.semAt]; go_simp)
        have n1 : (0 : Int) ≤ (oo : Int) + (k : Int) := by omega
        have n2 : (oo : Int) + (k : Int) < bs.length := by have := HP.out; omega
        have n3 : ((oo : Int) + (k : Int)).toNat = oo + k := by omega
        have n4 : (8 * (k : Int)).toNat = 8 * k := by omega
        have n5 : (0 : Int) ≤ 8 * (k : Int) := by omega
        have n6 : min (8 * k) 64 = 8 * k := by omega
        have hcl : ∃ z, wr.drew.cell? ⟨W.heap.size + 2, oo + k, none⟩ = some z := by
          have e := HQK.out.row.cellAt (oo + k) (by have := HP.out; omega)
          rw [List.getElem?_map, List.getElem?_eq_getElem (by rw [upTo_len _ _ (by have := HP.out; omega)]; have := HP.out; omega)] at e
          exact ⟨_, e⟩
        obtain ⟨z, hcl⟩ := hcl
        have hfz : wr.drew.frozen? ⟨W.heap.size + 2, oo + k, none⟩ = false := HQK.out.row.frozenAt (oo + k)
        refine round_held (S := fun w' => w'.cell? ⟨Wm.heap.size, 0, none⟩ = some (.slice (some ⟨W.heap.size + 2, 0, none⟩) bs.length bs.length)) (by kernel_rfl) (by kernel_rfl) (by rintro ⟨a, w, hF⟩; exact hF) ?_
        have hS : wr.drew.cell? ⟨Wm.heap.size, 0, none⟩ = some (.slice (some ⟨W.heap.size + 2, 0, none⟩) bs.length bs.length) := yb
        (refine wpAnyH_take (i := 0) (v := ?_) rfl (by kernel_rfl) (by kernel_rfl) (by kernel_rfl) (fun _ _ _ h => h) (Or.inl ⟨by rfl, ?_⟩) hS ?_); rotate_left; focus (intro w' hSw; go_simp; (try with_reducible rfl)); (try simp only [Act.put, List.setIfInBounds_toArray, List.set_cons_zero, List.set_cons_succ])
        (refine wpAnyH_take (i := 1) (v := ?_) rfl (by kernel_rfl) (by kernel_rfl) (by kernel_rfl) (fun _ _ _ h => h) (Or.inl ⟨by rfl, ?_⟩) hS ?_); rotate_left; focus (intro w' hSw; go_simp; (try with_reducible rfl)); (try simp only [Act.put, List.setIfInBounds_toArray, List.set_cons_zero, List.set_cons_succ])
        (refine wpAnyH_take (i := 2) (v := ?_) rfl (by kernel_rfl) (by kernel_rfl) (by kernel_rfl) (fun _ _ _ h => h) (Or.inl ⟨by rfl, ?_⟩) hS ?_); rotate_left; focus (intro w' hSw; go_simp; (try with_reducible rfl)); (try simp only [Act.put, List.setIfInBounds_toArray, List.set_cons_zero, List.set_cons_succ])
        (refine wpAnyH_take (i := 3) (v := ?_) rfl (by kernel_rfl) (by kernel_rfl) (by kernel_rfl) (fun _ _ _ h => h) (Or.inl ⟨by rfl, ?_⟩) hS ?_); rotate_left; focus (intro w' hSw; go_simp; (try with_reducible rfl)); (try simp only [Act.put, List.setIfInBounds_toArray, List.set_cons_zero, List.set_cons_succ])
        (refine wpAnyH_take (i := 4) (v := ?_) rfl (by kernel_rfl) (by kernel_rfl) (by kernel_rfl) (fun _ _ _ h => h) (Or.inl ⟨by rfl, ?_⟩) hS ?_); rotate_left; focus (intro w' hSw; go_simp; (try with_reducible rfl)); (try simp only [Act.put, List.setIfInBounds_toArray, List.set_cons_zero, List.set_cons_succ])
        (refine wpAnyH_take (i := 5) (v := ?_) rfl (by kernel_rfl) (by kernel_rfl) (by kernel_rfl) (fun _ _ _ h => h) (Or.inl ⟨by rfl, ?_⟩) hS ?_); rotate_left; focus (intro w' hSw; go_simp; (try with_reducible rfl)); (try simp only [Act.put, List.setIfInBounds_toArray, List.set_cons_zero, List.set_cons_succ])
        (refine wpAnyH_take (i := 6) (v := ?_) rfl (by kernel_rfl) (by kernel_rfl) (by kernel_rfl) (fun _ _ _ h => h) (Or.inl ⟨by rfl, ?_⟩) hS ?_); rotate_left; focus (intro w' hSw; go_simp; (try with_reducible rfl)); (try simp only [Act.put, List.setIfInBounds_toArray, List.set_cons_zero, List.set_cons_succ])
        (refine wpAnyH_take (i := 7) (v := ?_) rfl (by kernel_rfl) (by kernel_rfl) (by kernel_rfl) (fun _ _ _ h => h) (Or.inl ⟨by rfl, ?_⟩) hS ?_); rotate_left; focus (intro w' hSw; go_simp; (try with_reducible rfl)); (try simp only [Act.put, List.setIfInBounds_toArray, List.set_cons_zero, List.set_cons_succ])
        (refine wpAnyH_take (i := 8) (v := ?_) rfl (by kernel_rfl) (by kernel_rfl) (by kernel_rfl) (fun _ _ _ h => h) (Or.inl ⟨by rfl, ?_⟩) hS ?_); rotate_left; focus (intro w' hSw; go_simp; (try with_reducible rfl)); (try simp only [Act.put, List.setIfInBounds_toArray, List.set_cons_zero, List.set_cons_succ])
        (refine wpAnyH_take (i := 9) (v := ?_) rfl (by kernel_rfl) (by kernel_rfl) (by kernel_rfl) (fun _ _ _ h => h) (Or.inl ⟨by rfl, ?_⟩) hS ?_); rotate_left; focus (intro w' hSw; go_simp; (try with_reducible rfl)); (try simp only [Act.put, List.setIfInBounds_toArray, List.set_cons_zero, List.set_cons_succ])
        refine wpAnyH_ready (rs := [10]) (by kernel_rfl) (by simp) ?_
        refine AllReadyH.cons rfl (fun K hK => ?_) AllReadyH.nil
        go_simp
        refine hK.out _ _ (hst.out.bb.cell) (fun hS2 => ?_)
        clear hK K hS
        refine wpAnyH_done (by kernel_rfl) ?_ _
        have HU2 := hid (HUK.out.setCell (p := ⟨W.heap.size + 2, oo + k, none⟩) (.inl rfl) (.int .u8 (y : Nat))).drew
        clear hS2 hcl hfz yb
        gi_wp2_with (simp only [Oper.semAt]; go_simp)
        go_roundw
        case rel => exact ⟨k + 1, hlt, by go_num, by rw [← Nat.add_assoc]; exact hst.out, HU2.out⟩
        case measure => show ww - (k + 1 : Int).toNat < ww - (k : Int).toNat; omega
      · have he : k = ww := by omega
        have k1 : ¬ (k : Int) < ww := by omega
        rw [he] at qk
        have HQK := hid qk
        have HUK := hid huk
        clear qk huk he
        gi_wp2_with (simp only [Oper.semAt]; go_simp)
        exact ⟨⟨HUK.out.block _ (by omega) (by omega), HUK.out.block _ (by omega) (by omega)⟩, HQK.out⟩
end
end Go.Proofs.YtndkfjoaiinjoaaGreat.W
/- Package heap: load and Get, of a string. -/
namespace Go.Proofs.YtndkfjoaiinjoaaGreat.W
open Go.ChangeShapes Go.WideShapes Go.RowKit Go.Shelf
set_option linter.unusedVariables false
theorem conv_back (w : World) (gb : Nat) (t : ByteArray) (B : Nat) (h : w.ownsRow B 5 1 (.slice (some ⟨gb, 0, none⟩) t.size t.size) t.size ((strB t).map byteV)) : (convert 39 9 (.slice (some ⟨gb, 0, none⟩) t.size t.size)).run Tryz.prog w = .ok (.string t) w := by
  have hl : t.data.toList.length = t.size := by rw [Array.length_toList]; rfl
  have := run_convert_bytes_back (P := Tryz.prog) w 39 9 5 ⟨gb, 0, none⟩ t.size t.data.toList Tryz.underlying39 Tryz.underlying5 Tryz.underlying9 (fun j hj => ?_)
  · rw [hl] at this
    simpa using this
  · have e := h.cells (g := gb) rfl j (byteV (t.data.toList[j]).toNat) ?_
    · exact e
    · unfold strB
      rw [List.getElem?_map, List.getElem?_map, List.getElem?_eq_getElem hj]; rfl
section
variable {W W' : World} {hb sb : Nat} {vc : Value} {T : Nat → Prop} {H : List (Option Hc)} {u h : Nat}
set_option maxHeartbeats 1000000 in
theorem load_text (g : HLay W hb sb vc T H u h) (id : Nat) (t : ByteArray) (hc : H[id]? = some (some (.text (strB t)))) :
    Calls Tryz.prog 110 #[.pointer (some ⟨hb, 0, none⟩), .int .i64 id] W fun e w' => e = .returned (.agg #[.int .i64 4, .bool false, .int .i64 0, .string t, .slice none 0 0, .slice none 0 0, .int .u64 0, .int .i64 0, .int .i64 0]) ∧ Below W.heap.size W w' := by
  have hidl : id < H.length := (List.getElem?_eq_some_iff.1 hc).1
  obtain ⟨b, cap, hvc, hcell, _⟩ := g.at hidl
  have c1 := g.cell 1
  simp only [List.getElem?_cons_succ, List.getElem?_cons_zero] at c1
  rw [hvc] at c1
  have k0 := hcell 0 _ hc (by omega)
  have k1 := hcell 1 _ hc (by omega)
  have k2 := hcell 2 _ hc (by omega)
  have k3 := hcell 3 _ hc (by omega)
  have k4 := hcell 4 _ hc (by omega)
  simp only [clO, Hc.cl, Cl.cells, List.getElem?_cons_succ, List.getElem?_cons_zero, Nat.add_zero] at k0 k1 k2 k3 k4
  have j0 : (0 : Int) ≤ id := by omega
  have j1 : (id : Int) < H.length := by omega
  have cs : ∀ w, Calls Tryz.prog 58 #[.int .i64 4, .bool false] w fun e w' => e = .returned (.int .i64 2) ∧ w' = w := fun w => shape_c 4 false w
  clear hcell
  have hB1 : Below W.heap.size W (W.alloc (.cells #[.int .i64 0, .bool false, .int .i64 0, .string ⟨#[]⟩, .slice none 0 0, .slice none 0 0, .int .u64 0, .int .i64 0, .int .i64 0] 41)) := (Below.refl _ W).alloc (Nat.le_refl _) _
  have hs1 : (W.alloc (.cells #[.int .i64 0, .bool false, .int .i64 0, .string ⟨#[]⟩, .slice none 0 0, .slice none 0 0, .int .u64 0, .int .i64 0, .int .i64 0] 41)).heap.size = W.heap.size + 1 := World.size_alloc ..
  have e1 := World.cell?_alloc_new W #[.int .i64 0, .bool false, .int .i64 0, .string ⟨#[]⟩, .slice none 0 0, .slice none 0 0, .int .u64 0, .int .i64 0, .int .i64 0] 41
  have f1 := World.alloc_heap_new W (.cells #[.int .i64 0, .bool false, .int .i64 0, .string ⟨#[]⟩, .slice none 0 0, .slice none 0 0, .int .u64 0, .int .i64 0, .int .i64 0] 41)
  go_enter Tryz.func110, Tryz.ntmps110
  go_upto_region 1 with fail
  have c1' := below_cell hB1 c1
  have k0' := below_cell hB1 k0
  have k1' := below_cell hB1 k1
  have k2' := below_cell hB1 k2
  have k3' := below_cell hB1 k3
  have k4' := below_cell hB1 k4
  generalize hW1 : W.alloc (.cells #[.int .i64 0, .bool false, .int .i64 0, .string ⟨#[]⟩, .slice none 0 0, .slice none 0 0, .int .u64 0, .int .i64 0, .int .i64 0] 41) = W1 at *
  clear c1 k0 k1 k2 k3 k4 hW1
  go_upto_region 2 with fail
  have hBc : Below W1.heap.size W1 (W1.alloc (.cells #[.int .i64 4, .bool false, .int .u64 0, .int .i64 0, .int .i64 0] 130)) := (Below.refl _ W1).alloc (Nat.le_refl _) _
  have fC := World.alloc_heap_new W1 (.cells #[.int .i64 4, .bool false, .int .u64 0, .int .i64 0, .int .i64 0] 130)
  rw [hs1] at fC
  have hsc : (W1.alloc (.cells #[.int .i64 4, .bool false, .int .u64 0, .int .i64 0, .int .i64 0] 130)).heap.size = W.heap.size + 2 := by rw [World.size_alloc, hs1]
  generalize World.alloc W1 _ = Wc at *
  have eC := fun j => cell_of_row Wc (W.heap.size + 1) j _ _ _ fC
  go_upto_region 3 with (go_at_call 107; (with_reducible refine (bare_c 4 false 0 0 0 _).mono ?_); rintro e wb ⟨rfl, hBb⟩)
  have hbz := hBb.size
  have fO := World.alloc_heap_new wb (.cells #[.int .i64 4, .bool false, .int .i64 0, .string ⟨#[]⟩, .slice none 0 0, .slice none 0 0, .int .u64 0, .int .i64 0, .int .i64 0] 41)
  have hBd : Below wb.heap.size wb (wb.alloc (.cells #[.int .i64 4, .bool false, .int .i64 0, .string ⟨#[]⟩, .slice none 0 0, .slice none 0 0, .int .u64 0, .int .i64 0, .int .i64 0] 41)) := (Below.refl _ wb).alloc (Nat.le_refl _) _
  have hB3 : Below W1.heap.size W1 (wb.alloc (.cells #[.int .i64 4, .bool false, .int .i64 0, .string ⟨#[]⟩, .slice none 0 0, .slice none 0 0, .int .u64 0, .int .i64 0, .int .i64 0] 41)) := (hBc.trans (hBb.mono (by omega))).trans (hBd.mono (by omega))
  have fC3 := (hBd.block (W.heap.size + 1) (by omega)).trans ((hBb.block (W.heap.size + 1) (by omega)).trans fC)
  obtain ⟨nb, hnb⟩ : ∃ nb, wb.heap.size = nb := ⟨_, rfl⟩
  rw [hnb] at fO
  rw [hnb]
  have hO2 : W.heap.size + 2 ≤ nb := by omega
  clear hnb hBd hBb hBc fC eC hsc hbz
  generalize World.alloc wb _ = W3 at *
  have eO := fun j => cell_of_row W3 nb j _ _ _ fO
  have eC3 := fun j => cell_of_row W3 (W.heap.size + 1) j _ _ _ fC3
  have hs3 := (Array.getElem?_eq_some_iff.1 fO).1
  have hs2 := hs3
  clear fC3
  have eR3 : ∀ j, W3.cell? ⟨W.heap.size, j, none⟩ = #[.int .i64 0, .bool false, .int .i64 0, .string ⟨#[]⟩, .slice none 0 0, .slice none 0 0, .int .u64 0, .int .i64 0, .int .i64 0][j]? := by
    intro j
    rw [World.cell?_of_block (hB3.block W.heap.size (by omega))]
    exact e1 j
  have hBW : Below W.heap.size W W3 := hB1.trans (hB3.mono hB1.size)
  have g3 := g.below hBW
  have fR : W3.heap[W.heap.size]? = some (.cells #[.int .i64 0, .bool false, .int .i64 0, .string ⟨#[]⟩, .slice none 0 0, .slice none 0 0, .int .u64 0, .int .i64 0, .int .i64 0] 41) := (hB3.block W.heap.size (by omega)).trans f1
  have c0 := g3.cell 0
  simp only [List.getElem?_cons_zero] at c0
  have ho := g.ok id _ hc
  have cl := loadBytes_c g3 id _ hc (strB t) rfl ho.1 (by have := ho.2; exact this)
  rw [strB_len] at cl
  have kp : Hid (∀ w4, Below W3.heap.size W3 w4 → w4.heap[W.heap.size]? = some (.cells #[.int .i64 0, .bool false, .int .i64 0, .string ⟨#[]⟩, .slice none 0 0, .slice none 0 0, .int .u64 0, .int .i64 0, .int .i64 0] 41) ∧ w4.heap[nb]? = some (.cells #[.int .i64 4, .bool false, .int .i64 0, .string ⟨#[]⟩, .slice none 0 0, .slice none 0 0, .int .u64 0, .int .i64 0, .int .i64 0] 41)) := by
    show ∀ w4, _
    intro w4 hB4
    exact ⟨(hB4.block _ (by omega)).trans fR, (hB4.block _ (by omega)).trans fO⟩
  clear eR3 fR fO g3 e1 c1' k0' k1' k2' k3' k4' f1
  go_upto_region 8 with (go_at_call 58; (with_reducible refine (cs _).mono ?_); rintro e w' ⟨rfl, hw⟩; (have hw' := hw.symm); subst hw'; clear hw)
  have HBW := hid hBW
  clear g ho hc hBW hB1 hB3 hs1 hs2 hs3 j0 j1
  go_wp2_with (go_at_call 119; (with_reducible refine cl.mono ?_); rintro e w4 ⟨gb, rfl, hgb, hB4, hown⟩; clear cl; (have hcv := conv_back w4 gb t _ hown); (obtain ⟨fR, fO⟩ := kp.out w4 hB4); (have eR := fun j => cell_of_row w4 W.heap.size j _ _ _ fR); (have eO := fun j => cell_of_row w4 (nb) j _ _ _ fO); (have zR := (fun j => by simp [World.frozen?, fR] : ∀ j, w4.frozen? ⟨W.heap.size, j, none⟩ = false)); (have zO := (fun j => by simp [World.frozen?, fO] : ∀ j, w4.frozen? ⟨nb, j, none⟩ = false)); (have FR := hid fR); (have HB4 := hid hB4); clear fR fO hB4 hown hgb)
  have hBf : Below W.heap.size W w4 := HBW.out.trans (HB4.out.mono HBW.out.size)
  refine bodyPost_ret (cell_ret rfl _ _ W.heap.size _ _ _ _ _ _ _ _ _ (0, 0) rfl (nine_set ((Below.heap_setCell _ _ _ _ (by show W.heap.size ≠ nb; omega)).trans FR.out) _ _ _ _ _ _ _ _ _)) rfl ?_
  exact ⟨rfl, nine_below (hBf.setCell (p := ⟨nb, 3, none⟩) (by show W.heap.size ≤ nb; omega) _) (Nat.le_refl _) _ _ _ _ _ _ _ _ _⟩
theorem get_text (g : HLay W hb sb vc T H u h) (w : Nat) (hw : w < 18446744073709551616) (id : Nat) (hi : hit H w = some id) (t : ByteArray) (hc : H[id]? = some (some (.text (strB t)))) :
    Calls Tryz.prog 91 #[.pointer (some ⟨hb, 0, none⟩), .int .u64 w] W fun e w' => e = .returned (.tuple #[.agg #[.int .i64 4, .bool false, .int .i64 0, .string t, .slice none 0 0, .slice none 0 0, .int .u64 0, .int .i64 0, .int .i64 0], .int .i64 0]) ∧ Below W.heap.size W w' :=
  get_c g w hw id hi 4 false 0 t none none 0 0 0 0 0 0 0 (fun w1 hB => load_text (g.below hB) id t hc)
end
end Go.Proofs.YtndkfjoaiinjoaaGreat.W
/- The contract of the reference's class function: it returns the class 'cls' of every pattern; the world has at most drawn. -/
namespace Go.Proofs.YtndkfjoaiinjoaaGreat.W
open Go.ChangeShapes Go.WideShapes Go.RowKit

end Go.Proofs.YtndkfjoaiinjoaaGreat.W
/- Contracts of the reference's faces: each returns what package word's own does; the world has at most drawn. -/
namespace Go.Proofs.YtndkfjoaiinjoaaGreat.W
open Go.ChangeShapes Go.WideShapes Go.RowKit

set_option maxHeartbeats 400000 in
theorem refSmall_c (i : Int) (w : World) :
    Calls Tryz.prog 79 #[.int .i64 i] w fun e w' => e = .returned (.bool (smallB i)) ∧ w' = w := by
  by_cases c1 : -140737488355328 ≤ i
  · go_enter Tryz.func79, Tryz.ntmps79
    go_wp2
    go_ret
    exact ⟨ret_bool (by unfold smallB; rw [Bool.eq_iff_iff]; simp; omega), rfl⟩
  · have H := hid (show smallB i = false by simp [smallB]; omega)
    go_enter Tryz.func79, Tryz.ntmps79
    go_wp2
    go_ret
    exact ⟨ret_bool H.out.symm, rfl⟩
end Go.Proofs.YtndkfjoaiinjoaaGreat.W
/- The contract of package word's ToText: it returns the text of every pattern that is one; the world has at most one block more. -/
namespace Go.Proofs.YtndkfjoaiinjoaaGreat.W
open Go.ChangeShapes Go.WideShapes Go.RowKit

theorem conv_tab (w : World) (b0 b1 b2 b3 b4 : Int) (len cap : Nat) (h : len ≤ 5) :
    (convert 39 9 (.slice (some ⟨w.heap.size, 0, none⟩) len cap)).run Tryz.prog (w.alloc (.cells #[.int .u8 b0, .int .u8 b1, .int .u8 b2, .int .u8 b3, .int .u8 b4] 159)) =
      .ok (.string (strOfNums ([b0, b1, b2, b3, b4].take len))) (w.alloc (.cells #[.int .u8 b0, .int .u8 b1, .int .u8 b2, .int .u8 b3, .int .u8 b4] 159)) := by
  refine run_convert_bytes_arg _ 39 5 Tryz.underlying39 Tryz.underlying5 w.heap.size 0 len cap ([b0, b1, b2, b3, b4].take len) (by simp; omega) ?_ 9 Tryz.underlying9
  intro i hi
  have hc : (w.alloc (.cells #[.int .u8 b0, .int .u8 b1, .int .u8 b2, .int .u8 b3, .int .u8 b4] 159)).cell? ⟨w.heap.size, 0 + i, none⟩ = #[Value.int .u8 b0, .int .u8 b1, .int .u8 b2, .int .u8 b3, .int .u8 b4][0 + i]? := by
    exact World.cell?_alloc_new w _ _ _
  rw [hc, List.getD_eq_getElem?_getD, List.getElem?_take_of_lt hi]
  match i, (show i < 5 by omega) with
  | 0, _ => rfl
  | 1, _ => rfl
  | 2, _ => rfl
  | 3, _ => rfl
  | 4, _ => rfl
theorem tab_eq (k r : Int) (k0 : 0 ≤ k) (k5 : k ≤ 5) (r0 : 0 ≤ r) (r1 : r < 1099511627776) :
    strOfNums ([r % 256, r / 256 % 256, r / 65536 % 256, r / 16777216 % 256, r / 4294967296].take k.toNat) = ⟨(decN k.toNat r.toNat).toArray⟩ := by
  obtain ⟨m, rfl⟩ := Int.eq_ofNat_of_zero_le r0
  obtain ⟨j, rfl⟩ := Int.eq_ofNat_of_zero_le k0
  have b0 : ((m : Int) % 256).toNat = m % 256 := by omega
  have b1 : ((m : Int) / 256 % 256).toNat = m / 256 % 256 := by omega
  have b2 : ((m : Int) / 65536 % 256).toNat = m / 256 / 256 % 256 := by omega
  have b3 : ((m : Int) / 16777216 % 256).toNat = m / 256 / 256 / 256 % 256 := by omega
  have b4 : ((m : Int) / 4294967296).toNat = m / 256 / 256 / 256 / 256 % 256 := by omega
  have hj : j < 6 := by omega
  rw [Int.toNat_natCast, Int.toNat_natCast]
  unfold strOfNums
  match j, hj with
  | 0, _ => simp [decN]
  | 1, _ => simp [decN, b0]
  | 2, _ => simp [decN, b0, b1]
  | 3, _ => simp [decN, b0, b1, b2]
  | 4, _ => simp [decN, b0, b1, b2, b3]
  | 5, _ => simp [decN, b0, b1, b2, b3, b4]
set_option maxHeartbeats 400000 in
theorem toText_c (n : Int) (h0 : 0 ≤ n) (h1 : n < 18446744073709551616) (w : World) :
    Calls Tryz.prog 55 #[.int .u64 n] w fun e w' => e = .returned (.tuple #[.string (toTxt n), .bool (cls n == 5)]) ∧ Below w.heap.size w w' := by
  by_cases c : cls n = 5
  · obtain ⟨i1, i2, i3⟩ := cls_is5 n c
    have c' : (cls n == 5) = true := by simpa using c
    simp [txtOk] at i3
    obtain ⟨k, hk⟩ : ∃ k, n % 281474976710656 / 1099511627776 = k := ⟨_, rfl⟩
    obtain ⟨r, hr⟩ : ∃ r, n % 1099511627776 = r := ⟨_, rfl⟩
    have k0 : 0 ≤ k := by omega
    have k5 : k ≤ 5 := by omega
    have r0 : 0 ≤ r := by omega
    have r1 : r < 1099511627776 := by omega
    have H := hid (show toTxt n = ⟨(decN k.toNat r.toNat).toArray⟩ by simp [toTxt, c, hk, hr])
    clear i1 i2 i3
    have kc := fun (w : World) => conv_tab w (r % 256) (r / 256 % 256) (r / 65536 % 256) (r / 16777216 % 256) (r / 4294967296) k.toNat 5 (by omega)
    go_enter Tryz.func55, Tryz.ntmps55
    go_wp2_with (first | (go_at_call 52; refine (class_c _ (by omega) (by omega) _).mono ?_; rintro e w' ⟨rfl, rfl⟩) | (go_at_call 87; refine (loadOf_c _ (by omega) (by omega) _).mono ?_; rintro e w' ⟨rfl, rfl⟩) | (go_at_call 90; refine (split_c _ (by omega) (by omega) _).mono ?_; rintro e w' ⟨rfl, rfl⟩))
    refine wp_loop_rounds 6 ?_
    rw [rounds_succ]
    go_wp2
    rw [rounds_succ]
    go_wp2
    rw [rounds_succ]
    go_wp2
    rw [rounds_succ]
    go_wp2
    rw [rounds_succ]
    go_wp2
    rw [rounds_succ]
    go_wp2
    go_ret2
    exact ⟨ret_sb (by rw [H.out, tab_eq k r k0 k5 r0 r1]) c'.symm, (Below.refl _ _).alloc (Nat.le_refl _) _⟩
  · have H := hid (show toTxt n = ByteArray.empty by simp [toTxt, c])
    have d : (cls n == 5) = false := by simpa using c
    have d' : (cls n != 5) = true := by simpa using c
    go_enter Tryz.func55, Tryz.ntmps55
    go_wp2_with (first | (go_at_call 52; refine (class_c _ (by omega) (by omega) _).mono ?_; rintro e w' ⟨rfl, rfl⟩))
    go_ret2
    exact ⟨ret_sb H.out.symm d.symm, Below.refl _ _⟩
end Go.Proofs.YtndkfjoaiinjoaaGreat.W
