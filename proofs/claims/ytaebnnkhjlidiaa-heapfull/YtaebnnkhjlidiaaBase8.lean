import Derived.Test.YtaebnnkhjlidiaaBase6
import Derived.Test.YtaebnnkhjlidiaaBase7
import Derived.Test.YtaebnnkhjlidiaaBase5
import Derived.Laws.IdiomStrings
import Derived.Test.YtaebnnkhjlidiaaBase4
import Derived.Laws.BytesArg
import Derived.Test.YtaebnnkhjlidiaaBase0
import Derived.Lib.ConvBytes
import Derived.Lib.AppendZeros
import Derived.Lib.SliceRun
/- Package heap: loadBytes. -/
namespace Go.Proofs.Ytaebnnkhjlidiaa.W
open Go.ChangeShapes Go.WideShapes Go.RowKit Go.Shelf
set_option linter.unusedVariables false
theorem info8 : (Try.prog.info? 5).map (fun i => (i.zero, i.size, i.bytes)) = some (some (.int .u8 0), 1, 1) := by kernel_rfl
theorem under8 : Try.prog.underlying 22 = some (.slice 5) := by kernel_rfl
theorem make_bytes (w : World) (n : Nat) (hn : n ≤ 8388608) : ∃ w', (Instr.makeSlice 22 (.int .i64 (n : Int)) (.int .i64 (n : Int))).run Try.prog w = .ok (.slice (some ⟨w.heap.size, 0, none⟩) n n) w' ∧ w'.ownsRow w.heap.size 5 1 (.slice (some ⟨w.heap.size, 0, none⟩) n n) n ((List.replicate n 0).map byteV) ∧ w.grownBy w' none := by
  obtain ⟨i0, hi, hz0, hz1, hz2⟩ := info_parts info8
  obtain ⟨w', h1, h2, h3⟩ := run_makeSlice_full (P := Try.prog) w w.heap.size 22 5 i0 (.int .u8 0) 1 under8 hi hz0 hz1 .i64 .i64 n (by omega) (by rw [hz2]; omega) (by simp [maxLen]; omega) (Nat.le_refl _)
  refine ⟨w', h1, ?_, h3⟩
  have e : (madeCells (Value.int .u8 0).cells (n * 1)).toList = (List.replicate n 0).map byteV := by
    rw [Nat.mul_one, List.map_replicate]
    exact made_one _ n
  rw [← e]
  exact h2
section
variable {W W' : World} {hb sb : Nat} {vc : Value} {T : Nat → Prop} {H : List (Option Hc)} {u h : Nat}
/-- along loadBytes: o bytes are there -/
structure LbI (W : World) (hb sb : Nat) (vc : Value) (T : Nat → Prop) (H : List (Option Hc)) (u h id gb Bb Bn : Nat) (bs : List Nat) (o : Nat) (W' : World) : Prop where
  lay : HLay W' hb sb vc T H u h
  b0 : Boxed W' W.heap.size 31 (.pointer (some ⟨hb, 0, none⟩))
  b1 : Boxed W' (W.heap.size + 1) 3 (.int .i64 id)
  bb : Boxed W' Bb 22 (.slice (some ⟨gb, 0, none⟩) bs.length bs.length)
  bn : Boxed W' Bn 3 (.int .i64 (bs.length : Nat))
  row : W'.ownsRow W.heap.size 5 1 (.slice (some ⟨gb, 0, none⟩) bs.length bs.length) bs.length ((upTo bs o).map byteV)
  bel : Below W.heap.size W W'
section
variable {id gb Bb Bn o : Nat} {bs : List Nat} {w2 : World}
theorem LbI.gge (q : LbI W hb sb vc T H u h id gb Bb Bn bs o W') : W.heap.size ≤ gb ∧ gb < W'.heap.size := q.row.lt gb rfl
theorem LbI.upd {S : Nat → Prop} (g : HLay W hb sb vc T H u h) (q : LbI W hb sb vc T H u h id gb Bb Bn bs o W') (hu : Upd S W' w2) (hS : ∀ k, S k → W.heap.size ≤ k) (h0 : ¬ S W.heap.size) (h1 : ¬ S (W.heap.size + 1)) (h2 : ¬ S Bb) (h3 : ¬ S Bn) (h4 : ¬ S gb) : LbI W hb sb vc T H u h id gb Bb Bn bs o w2 := by
  have hhb := g.hlt
  have hcv := g.clt
  have hst := g.tlt
  have hz := q.bel.size
  refine ⟨q.lay.upd hu (fun e => by have := hS _ e; omega) (fun k e e2 => by have := hcv k e; have := hS _ e2; omega) (fun k e e2 => by have := hst k e; have := hS _ e2; omega), box_of (hu.block _ q.b0.lt h0) q.b0, box_of (hu.block _ q.b1.lt h1) q.b1, box_of (hu.block _ q.bb.lt h2) q.bb, box_of (hu.block _ q.bn.lt h3) q.bn, owns_on q.row (fun k e => ?_), q.bel.trans (hu.below hz hS)⟩
  cases e
  exact hu.block _ q.gge.2 h4
theorem LbI.below (g : HLay W hb sb vc T H u h) (q : LbI W hb sb vc T H u h id gb Bb Bn bs o W') (hB : Below W'.heap.size W' w2) : LbI W hb sb vc T H u h id gb Bb Bn bs o w2 :=
  q.upd g (Upd.of_below (S := fun _ => False) hB) (fun k e => e.elim) (fun e => e) (fun e => e) (fun e => e) (fun e => e) (fun e => e)
theorem LbI.ne (q : LbI W hb sb vc T H u h id gb Bb Bn bs o W') {B t : Nat} {v : Value} (hb' : Boxed W' B t v) (ht : t ≠ 5) : B ≠ gb := by
  rintro rfl
  rcases q.row.2 with ⟨h0, _⟩ | ⟨g', cap', cur, h0, _, hgg, _⟩
  · cases h0
  · cases h0
    unfold Boxed at hb'
    rw [hgg] at hb'
    cases hb'
    exact ht rfl
theorem LbI.store (g : HLay W hb sb vc T H u h) (q : LbI W hb sb vc T H u h id gb Bb Bn bs o W') (y : Nat) (hy : bs[o]? = some y) : LbI W hb sb vc T H u h id gb Bb Bn bs (o + 1) (W'.setCell ⟨gb, o, none⟩ (.int .u8 (y : Nat))).drew := by
  show LbI W hb sb vc T H u h id gb Bb Bn bs (o + 1) (W'.drew.setCell ⟨gb, o, none⟩ (byteV y))
  obtain ⟨ho, rfl⟩ := List.getElem?_eq_some_iff.1 hy
  have hhb := g.hlt
  have hcv := g.clt
  have hst := g.tlt
  have hz := q.bel.size
  have hge := q.gge
  have n0 := q.ne q.b0 (by decide)
  have n1 := q.ne q.b1 (by decide)
  have n2 := q.ne q.bb (by decide)
  have n3 := q.ne q.bn (by decide)
  have hu : Upd (fun k => k = gb) W' (W'.drew.setCell ⟨gb, o, none⟩ (byteV bs[o])) := (Upd.refl (fun k => k = gb) W').drew.setCell (p := ⟨gb, o, none⟩) (.inl rfl) _
  have hst2 := (World.ownsRow.stored (w := W'.drew) (base := W.heap.size) q.row o (byteV bs[o])).1
  rw [← List.map_set, upTo_set bs o ho] at hst2
  exact ⟨q.lay.upd hu (fun e => by omega) (fun k e e2 => by have := hcv k e; omega) (fun k e e2 => by have := hst k e; omega), box_of (hu.block _ q.b0.lt n0) q.b0, box_of (hu.block _ q.b1.lt n1) q.b1, box_of (hu.block _ q.bb.lt n2) q.bb, box_of (hu.block _ q.bn.lt n3) q.bn, hst2, q.bel.trans (hu.below hz (fun k e => by omega))⟩
end
set_option maxRecDepth 100000 in
theorem loadBytes_c (g : HLay W hb sb vc T H u h) (id : Nat) (c : Hc) (hc : H[id]? = some (some c)) (bs : List Nat) (hbs : c.bytes = bs) (hb256 : ∀ x ∈ bs, x < 256) (hn : bs.length ≤ 8388608) :
    Calls Try.prog 51 #[.pointer (some ⟨hb, 0, none⟩), .int .i64 id] W fun e w' => ∃ gb, e = .returned (.slice (some ⟨gb, 0, none⟩) bs.length bs.length) ∧ W.heap.size ≤ gb ∧ Below W.heap.size W w' ∧ w'.ownsRow W.heap.size 5 1 (.slice (some ⟨gb, 0, none⟩) bs.length bs.length) bs.length (bs.map byteV) := by
  have hil := (List.getElem?_eq_some_iff.1 hc).1
  obtain ⟨nn, hnn⟩ : ∃ nn, bs.length = nn := ⟨_, rfl⟩
  rw [hnn] at hn ⊢
  have cpc := fun w => pieces_c w nn
  refine (callsIn_wide (n := 9)).1 ?_
  refine callsIn_of_wp_marks Try.func51 rfl trivial ?_ rfl
  refine wpIn_wide.2 ?_
  simp only [Try.ntmps51, List.size_toArray, List.length_cons, List.length_nil, Nat.reduceAdd, Nat.reduceSub, Array.replicate_succ, Array.replicate_zero, List.push_toArray, List.append_toArray, List.nil_append, List.cons_append]
  have b1 : Below W.heap.size W ((W.alloc (.cells #[.pointer (some ⟨hb, 0, none⟩)] 31)).alloc (.cells #[.int .i64 id] 3)) := ((Below.refl _ W).alloc (Nat.le_refl _) _).alloc (by simp) _
  have cb := bytes_c (g.below b1) id c hc
  rw [hbs, hnn] at cb
  have z2 : (((W.alloc (.cells #[.pointer (some ⟨hb, 0, none⟩)] 31)).alloc (.cells #[.int .i64 id] 3))).heap.size = W.heap.size + 2 := by simp
  have x0 : Boxed ((W.alloc (.cells #[.pointer (some ⟨hb, 0, none⟩)] 31)).alloc (.cells #[.int .i64 id] 3)) W.heap.size 31 (.pointer (some ⟨hb, 0, none⟩)) := (Boxed.new W _ _).alloc _
  have x1 : Boxed ((W.alloc (.cells #[.pointer (some ⟨hb, 0, none⟩)] 31)).alloc (.cells #[.int .i64 id] 3)) (W.heap.size + 1) 3 (.int .i64 id) := by
    have := Boxed.new (W.alloc (.cells #[.pointer (some ⟨hb, 0, none⟩)] 31)) 3 (.int .i64 id)
    rwa [World.size_alloc] at this
  have g2 := g.below b1
  go_upto_region 1 with fail
  generalize ((W.alloc (.cells #[.pointer (some ⟨hb, 0, none⟩)] 31)).alloc (.cells #[.int .i64 id] 3)) = W2 at *
  obtain ⟨Wm, hmk, hown, hgr⟩ := make_bytes W2 nn hn
  have b2 : Below W2.heap.size W2 Wm := ((Upd.refl (fun _ => False) W2).grown hgr (fun k e => by cases e)).below (Nat.le_refl _) (fun k e => e.elim)
  have y0 := x0.cell
  have y1 := x1.cell
  go_upto_region 2 with (go_at_call 41; (with_reducible refine cb.mono ?_); rintro e w' ⟨rfl, hw⟩; (have hw' := hw.symm); subst hw'; clear hw)
  have hownA := hown.alloc (.cells #[.slice (some ⟨W.heap.size + 2, 0, none⟩) nn nn] 22)
  have zm : W.heap.size + 2 < Wm.heap.size := by have : W2.heap.size < Wm.heap.size := (hown.lt W2.heap.size rfl).2; omega
  have xb : Boxed (Wm.alloc (.cells #[.slice (some ⟨W.heap.size + 2, 0, none⟩) nn nn] 22)) Wm.heap.size 22 (.slice (some ⟨W.heap.size + 2, 0, none⟩) nn nn) := Boxed.new _ _ _
  have bA : Below W2.heap.size W2 (Wm.alloc (.cells #[.slice (some ⟨W.heap.size + 2, 0, none⟩) nn nn] 22)) := b2.alloc b2.size _
  have zA : (Wm.alloc (.cells #[.slice (some ⟨W.heap.size + 2, 0, none⟩) nn nn] 22)).heap.size = Wm.heap.size + 1 := World.size_alloc ..
  generalize Wm.alloc (.cells #[.slice (some ⟨W.heap.size + 2, 0, none⟩) nn nn] 22) = WA at *
  have yb := xb.cell
  go_wp2_with (go_at_call 68; (with_reducible refine (cpc _).mono ?_); rintro e w8 ⟨rfl, hw8⟩; (have hw' := hw8.symm); subst hw'; clear hw8)
  rw [z2] at hownA
  subst hnn
  have bZ : Below W2.heap.size W2 (WA.alloc (.cells #[.int .i64 (bs.length : Nat)] 3)) := bA.alloc bA.size _
  have q0 : LbI W hb sb vc T H u h id (W.heap.size + 2) Wm.heap.size (Wm.heap.size + 1) bs 0 (WA.alloc (.cells #[.int .i64 (bs.length : Nat)] 3)) := by
    refine ⟨g2.below bZ, box_of (bZ.block _ (by omega)) x0, box_of (bZ.block _ (by omega)) x1, xb.alloc _, ?_, ?_, b1.trans (bZ.mono (by omega))⟩
    · have := Boxed.new WA 3 (.int .i64 (bs.length : Nat))
      rwa [zA] at this
    · rw [upTo_zero]
      exact owns_base (hownA.alloc _) (fun g e => by cases e; show W.heap.size ≤ W.heap.size + 2; omega)
  have zZ : (WA.alloc (.cells #[.int .i64 (bs.length : Nat)] 3)).heap.size = Wm.heap.size + 2 := by rw [World.size_alloc, zA]
  generalize WA.alloc (.cells #[.int .i64 (bs.length : Nat)] 3) = WZ at *
  refine pieces_law (p1 := 18) (p2 := 19) (W0 := WZ) (Bn := Wm.heap.size + 1) bs.length hn rfl
    (fun i W' => LbI W hb sb vc T H u h id (W.heap.size + 2) Wm.heap.size (Wm.heap.size + 1) bs (pieceO bs.length i) W')
    ?hL ?hI (by rw [piece_zero]; exact q0) 6 7 ?assign ?body ?done
  case hL =>
    intro i W' q
    exact q.bn.cell
  case hI =>
    intro i Wa Wb q hu
    exact q.upd g hu (fun k e => by omega) (by omega) (by omega) (by omega) (by omega) (by omega)
  case assign =>
    intro L x y W' K hK
    gi_wp2_with (simp only [Oper.semAt]; go_simp)
    exact hK
  case done =>
    intro W' q hD
    rw [piece_end] at q
    have yb2 := q.bb.cell
    have Q := hid q
    clear q
    go_wp2
    refine ⟨by simp, .inl ⟨_, _, rfl, run_takeDeferred hD, ?_⟩⟩
    have q9 := Q.out.upd g (upd_put (S := fun k => k = WZ.heap.size) rfl (.deferred none)) (fun k e => by omega) (by omega) (by omega) (by omega) (by omega) (by omega)
    refine ⟨_, results_tmp rfl _ _ _, W.heap.size + 2, rfl, by omega, q9.bel, ?_⟩
    have r9 := q9.row
    rwa [upTo_all] at r9
  case body =>
    intro L i hi W' hLe q hs hr
    simp only [pAct, List.setIfInBounds_toArray, List.set_cons_succ, List.set_cons_zero]
    have hp := piece_lt bs.length i hi
    have hw1 : pieceW bs.length i = 1 ∨ pieceW bs.length i = 2 ∨ pieceW bs.length i = 4 ∨ pieceW bs.length i = 8 := by unfold pieceW; split <;> simp
    have hsl := seg_len bs (pieceO bs.length i) (pieceW bs.length i) hp.1
    have cl := load_st (q.lay.same (W' := W'.drew) rfl).st id _ (hA_some hc) (pieceO bs.length i) (pieceW bs.length i) hw1 hp.2 (by rw [hbs]; exact hp.1)
    rw [hbs] at cl
    have hnx := piece_next bs.length i
    rw [hnx]
    have hge := q.gge
    have y0 := q.b0.cell
    have y1 := q.b1.cell
    have c0 := q.lay.cell 0
    simp only [List.getElem?_cons_zero] at c0
    have Q := hid q
    have HS := hid hsl
    have HP := hid hp
    have HB : Hid (∀ k, k < pieceW bs.length i → ∃ y : Nat, bs[pieceO bs.length i + k]? = some y ∧ IntKind.u8.wrap (((leN (seg bs (pieceO bs.length i) (pieceW bs.length i)) : Nat) : Int) / 2 ^ (8 * k)) = (y : Int)) := by
      show ∀ k, k < pieceW bs.length i → _
      intro k hk
      have e := byte_leN (seg bs (pieceO bs.length i) (pieceW bs.length i)) (fun x hx => hb256 x (List.mem_of_mem_drop (List.mem_of_mem_take hx))) k (by omega)
      refine ⟨(seg bs (pieceO bs.length i) (pieceW bs.length i))[k]'(by omega), ?_, ?_⟩
      · rw [← seg_get bs (pieceO bs.length i) (pieceW bs.length i) k hk]
        exact List.getElem?_eq_getElem _
      · rw [← e, show (2 : Int) ^ (8 * k) = ((256 ^ k : Nat) : Int) by rw [Int.pow_mul]; simp]
        rw [← Int.natCast_ediv, IntKind.wrap_u8]
        omega
    have hLn : L ≠ W.heap.size + 2 := by omega
    have hZn : WZ.heap.size ≠ W.heap.size + 2 := by omega
    clear q x0 x1 xb g2 q0 hr hsl hp b1 b2 bA bZ yb hgr hownA
    generalize leN (seg bs (pieceO bs.length i) (pieceW bs.length i)) = X at *
    generalize pieceO bs.length (i + 1) = oo1 at *
    generalize hoo : pieceO bs.length i = oo at *
    generalize hww : pieceW bs.length i = ww at *
    have hw8 : ww ≤ 8 := by omega
    clear hnx hoo hww hw1
    gi_wp2_with (simp only [Oper.semAt]; go_simp)
    refine round_held (S := fun w' => w'.cell? ⟨W.heap.size, 0, none⟩ = some (.pointer (some ⟨hb, 0, none⟩)) ∧ w'.cell? ⟨W.heap.size + 1, 0, none⟩ = some (.int .i64 id) ∧ w'.cell? ⟨hb, 0, none⟩ = some (.pointer (some ⟨sb, 0, none⟩))) (by kernel_rfl) (by kernel_rfl) (by rintro ⟨a, w, hF⟩; exact hF) ?_
    have hS : W'.drew.cell? ⟨W.heap.size, 0, none⟩ = some (.pointer (some ⟨hb, 0, none⟩)) ∧ W'.drew.cell? ⟨W.heap.size + 1, 0, none⟩ = some (.int .i64 id) ∧ W'.drew.cell? ⟨hb, 0, none⟩ = some (.pointer (some ⟨sb, 0, none⟩)) := ⟨y0, y1, c0⟩
    (refine wpAnyH_take (i := 0) (v := ?_) rfl (by kernel_rfl) (by kernel_rfl) (by kernel_rfl) (fun _ _ _ h => h) (Or.inl ⟨by rfl, ?_⟩) hS ?_); rotate_left; focus (intro w' hSw; obtain ⟨s1, s2, s3⟩ := hSw; go_simp; (try with_reducible rfl)); (try simp only [Act.put, List.setIfInBounds_toArray, List.set_cons_zero, List.set_cons_succ])
    (refine wpAnyH_take (i := 1) (v := ?_) rfl (by kernel_rfl) (by kernel_rfl) (by kernel_rfl) (fun _ _ _ h => h) (Or.inl ⟨by rfl, ?_⟩) hS ?_); rotate_left; focus (intro w' hSw; obtain ⟨s1, s2, s3⟩ := hSw; go_simp; (try with_reducible rfl)); (try simp only [Act.put, List.setIfInBounds_toArray, List.set_cons_zero, List.set_cons_succ])
    (refine wpAnyH_take (i := 2) (v := ?_) rfl (by kernel_rfl) (by kernel_rfl) (by kernel_rfl) (fun _ _ _ h => h) (Or.inl ⟨by rfl, ?_⟩) hS ?_); rotate_left; focus (intro w' hSw; obtain ⟨s1, s2, s3⟩ := hSw; go_simp; (try with_reducible rfl)); (try simp only [Act.put, List.setIfInBounds_toArray, List.set_cons_zero, List.set_cons_succ])
    (refine wpAnyH_take (i := 3) (v := ?_) rfl (by kernel_rfl) (by kernel_rfl) (by kernel_rfl) (fun _ _ _ h => h) (Or.inl ⟨by rfl, ?_⟩) hS ?_); rotate_left; focus (intro w' hSw; obtain ⟨s1, s2, s3⟩ := hSw; go_simp; (try with_reducible rfl)); (try simp only [Act.put, List.setIfInBounds_toArray, List.set_cons_zero, List.set_cons_succ])
    (refine wpAnyH_take (i := 4) (v := ?_) rfl (by kernel_rfl) (by kernel_rfl) (by kernel_rfl) (fun _ _ _ h => h) (Or.inl ⟨by rfl, ?_⟩) hS ?_); rotate_left; focus (intro w' hSw; obtain ⟨s1, s2, s3⟩ := hSw; go_simp; (try with_reducible rfl)); (try simp only [Act.put, List.setIfInBounds_toArray, List.set_cons_zero, List.set_cons_succ])
    (refine wpAnyH_take (i := 5) (v := ?_) rfl (by kernel_rfl) (by kernel_rfl) (by kernel_rfl) (fun _ _ _ h => h) (Or.inl ⟨by rfl, ?_⟩) hS ?_); rotate_left; focus (intro w' hSw; obtain ⟨s1, s2, s3⟩ := hSw; go_simp; (try with_reducible rfl)); (try simp only [Act.put, List.setIfInBounds_toArray, List.set_cons_zero, List.set_cons_succ])
    (refine wpAnyH_take (i := 6) (v := ?_) rfl (by kernel_rfl) (by kernel_rfl) (by kernel_rfl) (fun _ _ _ h => h) (Or.inl ⟨by rfl, ?_⟩) hS ?_); rotate_left; focus (intro w' hSw; obtain ⟨s1, s2, s3⟩ := hSw; go_simp; (try with_reducible rfl)); (try simp only [Act.put, List.setIfInBounds_toArray, List.set_cons_zero, List.set_cons_succ])
    refine wpAnyH_ready (rs := [7]) (by kernel_rfl) (by simp) ?_
    refine AllReadyH.cons rfl (fun K hK => ?_) AllReadyH.nil
    go_simp
    refine cl.mono ?_
    rintro e w2 ⟨rfl, hB2⟩
    have q2 := (Q.out.below g (w2 := w2) ⟨hB2.os, hB2.tape, hB2.output, hB2.size, hB2.block⟩)
    refine hK.out _ _ ⟨q2.b0.cell, q2.b1.cell, q2.lay.cell 0⟩ (fun hS2 => ?_)
    clear hK K hS cl
    (refine wpAnyH_take (i := 8) (v := ?_) rfl (by kernel_rfl) (by kernel_rfl) (by kernel_rfl) (fun _ _ _ h => h) (Or.inl ⟨by rfl, ?_⟩) hS2 ?_); rotate_left; focus (intro w' hSw; obtain ⟨s1, s2, s3⟩ := hSw; go_simp; (try with_reducible rfl)); (try simp only [Act.put, List.setIfInBounds_toArray, List.set_cons_zero, List.set_cons_succ])
    (refine wpAnyH_take (i := 9) (v := ?_) rfl (by kernel_rfl) (by kernel_rfl) (by kernel_rfl) (fun _ _ _ h => h) (Or.inl ⟨by rfl, ?_⟩) hS2 ?_); rotate_left; focus (intro w' hSw; obtain ⟨s1, s2, s3⟩ := hSw; go_simp; (try with_reducible rfl)); (try simp only [Act.put, List.setIfInBounds_toArray, List.set_cons_zero, List.set_cons_succ])
    (refine wpAnyH_take (i := 10) (v := ?_) rfl (by kernel_rfl) (by kernel_rfl) (by kernel_rfl) (fun _ _ _ h => h) (Or.inl ⟨by rfl, ?_⟩) hS2 ?_); rotate_left; focus (intro w' hSw; obtain ⟨s1, s2, s3⟩ := hSw; go_simp; (try with_reducible rfl)); (try simp only [Act.put, List.setIfInBounds_toArray, List.set_cons_zero, List.set_cons_succ])
    (refine wpAnyH_take (i := 11) (v := ?_) rfl (by kernel_rfl) (by kernel_rfl) (by kernel_rfl) (fun _ _ _ h => h) (Or.inl ⟨by rfl, ?_⟩) hS2 ?_); rotate_left; focus (intro w' hSw; obtain ⟨s1, s2, s3⟩ := hSw; go_simp; (try with_reducible rfl)); (try simp only [Act.put, List.setIfInBounds_toArray, List.set_cons_zero, List.set_cons_succ])
    (refine wpAnyH_take (i := 12) (v := ?_) rfl (by kernel_rfl) (by kernel_rfl) (by kernel_rfl) (fun _ _ _ h => h) (Or.inl ⟨by rfl, ?_⟩) hS2 ?_); rotate_left; focus (intro w' hSw; obtain ⟨s1, s2, s3⟩ := hSw; go_simp; (try with_reducible rfl)); (try simp only [Act.put, List.setIfInBounds_toArray, List.set_cons_zero, List.set_cons_succ])
    refine wpAnyH_done (by kernel_rfl) ?_ _
    have hU0 : Upd (fun k => k = W.heap.size + 2) W' w2 := ⟨hB2.os, hB2.tape, hB2.output, hB2.size, fun k hk _ => hB2.block k hk⟩
    have HQ2 := hid q2
    have HU0 := hid hU0
    clear hS2 q2 hB2 Q y0 y1 c0 hU0
    gi_wp2_with (simp only [Oper.semAt]; go_simp)
    gi_loopw [32] (fun ii wr => ∃ k : Nat, k ≤ ww ∧ ii = .int .i64 k ∧ LbI W hb sb vc T H u h id (W.heap.size + 2) Wm.heap.size (Wm.heap.size + 1) bs (oo + k) wr ∧ Upd (fun k => k = W.heap.size + 2) W' wr) (fun ii _ => ww - (intOf ii).toNat)
    case atStart => exact ⟨0, Nat.zero_le _, rfl, HQ2.out, HU0.out⟩
    case round =>
      obtain ⟨k, hk, rfl, qk, huk⟩ := hrel
      have w1 : IntKind.i64.wrap ((k : Int) + 1) = (k : Int) + 1 := by rw [IntKind.wrap_i64]; have := HP.out; omega
      have w8 : IntKind.i64.wrap (8 * (k : Int)) = 8 * (k : Int) := by rw [IntKind.wrap_i64]; have := HP.out; omega
      have w9 : IntKind.i64.wrap ((oo : Int) + (k : Int)) = (oo : Int) + (k : Int) := by rw [IntKind.wrap_i64]; have := HP.out; omega
      by_cases hlt : k < ww
      · obtain ⟨y, hy, hyv⟩ := HB.out k hlt
        have hst := hid (qk.store g y hy)
        have yb := qk.bb.cell
        have k1 : (k : Int) < ww := by omega
        have HUK := hid huk
        have HQK := hid qk
        clear qk huk
        gi_wp2_with (simp only [Oper.semAt]; go_simp)
        have n1 : (0 : Int) ≤ (oo : Int) + (k : Int) := by omega
        have n2 : (oo : Int) + (k : Int) < bs.length := by have := HP.out; omega
        have n3 : ((oo : Int) + (k : Int)).toNat = oo + k := by omega
        have n4 : (8 * (k : Int)).toNat = 8 * k := by omega
        have n5 : (0 : Int) ≤ 8 * (k : Int) := by omega
        have n6 : min (8 * k) 64 = 8 * k := by omega
        have hcl : ∃ z, wr.drew.cell? ⟨W.heap.size + 2, oo + k, none⟩ = some z := by
          have e := HQK.out.row.cellAt (oo + k) (by have := HP.out; omega)
          rw [List.getElem?_map, List.getElem?_eq_getElem (by rw [upTo_len _ _ (by have := HP.out; omega)]; have := HP.out; omega)] at e
          exact ⟨_, e⟩
        obtain ⟨z, hcl⟩ := hcl
        have hfz : wr.drew.frozen? ⟨W.heap.size + 2, oo + k, none⟩ = false := HQK.out.row.frozenAt (oo + k)
        refine round_held (S := fun w' => w'.cell? ⟨Wm.heap.size, 0, none⟩ = some (.slice (some ⟨W.heap.size + 2, 0, none⟩) bs.length bs.length)) (by kernel_rfl) (by kernel_rfl) (by rintro ⟨a, w, hF⟩; exact hF) ?_
        have hS : wr.drew.cell? ⟨Wm.heap.size, 0, none⟩ = some (.slice (some ⟨W.heap.size + 2, 0, none⟩) bs.length bs.length) := yb
        (refine wpAnyH_take (i := 0) (v := ?_) rfl (by kernel_rfl) (by kernel_rfl) (by kernel_rfl) (fun _ _ _ h => h) (Or.inl ⟨by rfl, ?_⟩) hS ?_); rotate_left; focus (intro w' hSw; go_simp; (try with_reducible rfl)); (try simp only [Act.put, List.setIfInBounds_toArray, List.set_cons_zero, List.set_cons_succ])
        (refine wpAnyH_take (i := 1) (v := ?_) rfl (by kernel_rfl) (by kernel_rfl) (by kernel_rfl) (fun _ _ _ h => h) (Or.inl ⟨by rfl, ?_⟩) hS ?_); rotate_left; focus (intro w' hSw; go_simp; (try with_reducible rfl)); (try simp only [Act.put, List.setIfInBounds_toArray, List.set_cons_zero, List.set_cons_succ])
        (refine wpAnyH_take (i := 2) (v := ?_) rfl (by kernel_rfl) (by kernel_rfl) (by kernel_rfl) (fun _ _ _ h => h) (Or.inl ⟨by rfl, ?_⟩) hS ?_); rotate_left; focus (intro w' hSw; go_simp; (try with_reducible rfl)); (try simp only [Act.put, List.setIfInBounds_toArray, List.set_cons_zero, List.set_cons_succ])
        (refine wpAnyH_take (i := 3) (v := ?_) rfl (by kernel_rfl) (by kernel_rfl) (by kernel_rfl) (fun _ _ _ h => h) (Or.inl ⟨by rfl, ?_⟩) hS ?_); rotate_left; focus (intro w' hSw; go_simp; (try with_reducible rfl)); (try simp only [Act.put, List.setIfInBounds_toArray, List.set_cons_zero, List.set_cons_succ])
        (refine wpAnyH_take (i := 4) (v := ?_) rfl (by kernel_rfl) (by kernel_rfl) (by kernel_rfl) (fun _ _ _ h => h) (Or.inl ⟨by rfl, ?_⟩) hS ?_); rotate_left; focus (intro w' hSw; go_simp; (try with_reducible rfl)); (try simp only [Act.put, List.setIfInBounds_toArray, List.set_cons_zero, List.set_cons_succ])
        (refine wpAnyH_take (i := 5) (v := ?_) rfl (by kernel_rfl) (by kernel_rfl) (by kernel_rfl) (fun _ _ _ h => h) (Or.inl ⟨by rfl, ?_⟩) hS ?_); rotate_left; focus (intro w' hSw; go_simp; (try with_reducible rfl)); (try simp only [Act.put, List.setIfInBounds_toArray, List.set_cons_zero, List.set_cons_succ])
        (refine wpAnyH_take (i := 6) (v := ?_) rfl (by kernel_rfl) (by kernel_rfl) (by kernel_rfl) (fun _ _ _ h => h) (Or.inl ⟨by rfl, ?_⟩) hS ?_); rotate_left; focus (intro w' hSw; go_simp; (try with_reducible rfl)); (try simp only [Act.put, List.setIfInBounds_toArray, List.set_cons_zero, List.set_cons_succ])
        (refine wpAnyH_take (i := 7) (v := ?_) rfl (by kernel_rfl) (by kernel_rfl) (by kernel_rfl) (fun _ _ _ h => h) (Or.inl ⟨by rfl, ?_⟩) hS ?_); rotate_left; focus (intro w' hSw; go_simp; (try with_reducible rfl)); (try simp only [Act.put, List.setIfInBounds_toArray, List.set_cons_zero, List.set_cons_succ])
        (refine wpAnyH_take (i := 8) (v := ?_) rfl (by kernel_rfl) (by kernel_rfl) (by kernel_rfl) (fun _ _ _ h => h) (Or.inl ⟨by rfl, ?_⟩) hS ?_); rotate_left; focus (intro w' hSw; go_simp; (try with_reducible rfl)); (try simp only [Act.put, List.setIfInBounds_toArray, List.set_cons_zero, List.set_cons_succ])
        (refine wpAnyH_take (i := 9) (v := ?_) rfl (by kernel_rfl) (by kernel_rfl) (by kernel_rfl) (fun _ _ _ h => h) (Or.inl ⟨by rfl, ?_⟩) hS ?_); rotate_left; focus (intro w' hSw; go_simp; (try with_reducible rfl)); (try simp only [Act.put, List.setIfInBounds_toArray, List.set_cons_zero, List.set_cons_succ])
        refine wpAnyH_ready (rs := [10]) (by kernel_rfl) (by simp) ?_
        refine AllReadyH.cons rfl (fun K hK => ?_) AllReadyH.nil
        go_simp
        refine hK.out _ _ (hst.out.bb.cell) (fun hS2 => ?_)
        clear hK K hS
        refine wpAnyH_done (by kernel_rfl) ?_ _
        have HU2 := hid (HUK.out.setCell (p := ⟨W.heap.size + 2, oo + k, none⟩) (.inl rfl) (.int .u8 (y : Nat))).drew
        clear hS2 hcl hfz yb
        gi_wp2_with (simp only [Oper.semAt]; go_simp)
        go_roundw
        case rel => exact ⟨k + 1, hlt, by go_num, by rw [← Nat.add_assoc]; exact hst.out, HU2.out⟩
        case measure => show ww - (k + 1 : Int).toNat < ww - (k : Int).toNat; omega
      · have he : k = ww := by omega
        have k1 : ¬ (k : Int) < ww := by omega
        rw [he] at qk
        have HQK := hid qk
        have HUK := hid huk
        clear qk huk he
        gi_wp2_with (simp only [Oper.semAt]; go_simp)
        exact ⟨⟨HUK.out.block _ (by omega) (by omega), HUK.out.block _ (by omega) (by omega)⟩, HQK.out⟩
end
end Go.Proofs.Ytaebnnkhjlidiaa.W
/- Package heap: load and Get, of a string. -/
namespace Go.Proofs.Ytaebnnkhjlidiaa.W
open Go.ChangeShapes Go.WideShapes Go.RowKit Go.Shelf
set_option linter.unusedVariables false
theorem conv_back (w : World) (gb : Nat) (t : ByteArray) (B : Nat) (h : w.ownsRow B 5 1 (.slice (some ⟨gb, 0, none⟩) t.size t.size) t.size ((strB t).map byteV)) : (convert 22 9 (.slice (some ⟨gb, 0, none⟩) t.size t.size)).run Try.prog w = .ok (.string t) w := by
  have hl : t.data.toList.length = t.size := by rw [Array.length_toList]; rfl
  have := run_convert_bytes_back (P := Try.prog) w 22 9 5 ⟨gb, 0, none⟩ t.size t.data.toList Try.underlying22 Try.underlying5 Try.underlying9 (fun j hj => ?_)
  · rw [hl] at this
    simpa using this
  · have e := h.cells (g := gb) rfl j (byteV (t.data.toList[j]).toNat) ?_
    · exact e
    · unfold strB
      rw [List.getElem?_map, List.getElem?_map, List.getElem?_eq_getElem hj]; rfl
section
variable {W W' : World} {hb sb : Nat} {vc : Value} {T : Nat → Prop} {H : List (Option Hc)} {u h : Nat}
set_option maxHeartbeats 1000000 in
theorem load_text (g : HLay W hb sb vc T H u h) (id : Nat) (t : ByteArray) (hc : H[id]? = some (some (.text (strB t)))) :
    Calls Try.prog 29 #[.pointer (some ⟨hb, 0, none⟩), .int .i64 id] W fun e w' => e = .returned (.agg #[.int .i64 4, .bool false, .int .i64 0, .string t, .slice none 0 0, .slice none 0 0, .int .u64 0, .int .i64 0, .int .i64 0]) ∧ Below W.heap.size W w' := by
  have hidl : id < H.length := (List.getElem?_eq_some_iff.1 hc).1
  obtain ⟨b, cap, hvc, hcell, _⟩ := g.at hidl
  have c1 := g.cell 1
  simp only [List.getElem?_cons_succ, List.getElem?_cons_zero] at c1
  rw [hvc] at c1
  have k0 := hcell 0 _ hc (by omega)
  have k1 := hcell 1 _ hc (by omega)
  have k2 := hcell 2 _ hc (by omega)
  have k3 := hcell 3 _ hc (by omega)
  have k4 := hcell 4 _ hc (by omega)
  simp only [clO, Hc.cl, Cl.cells, List.getElem?_cons_succ, List.getElem?_cons_zero, Nat.add_zero] at k0 k1 k2 k3 k4
  have j0 : (0 : Int) ≤ id := by omega
  have j1 : (id : Int) < H.length := by omega
  have cs : ∀ w, Calls Try.prog 36 #[.int .i64 4, .bool false] w fun e w' => e = .returned (.int .i64 2) ∧ w' = w := fun w => shape_c 4 false w
  clear hcell
  have hB1 : Below W.heap.size W (W.alloc (.cells #[.int .i64 0, .bool false, .int .i64 0, .string ⟨#[]⟩, .slice none 0 0, .slice none 0 0, .int .u64 0, .int .i64 0, .int .i64 0] 26)) := (Below.refl _ W).alloc (Nat.le_refl _) _
  have hs1 : (W.alloc (.cells #[.int .i64 0, .bool false, .int .i64 0, .string ⟨#[]⟩, .slice none 0 0, .slice none 0 0, .int .u64 0, .int .i64 0, .int .i64 0] 26)).heap.size = W.heap.size + 1 := World.size_alloc ..
  have e1 := World.cell?_alloc_new W #[.int .i64 0, .bool false, .int .i64 0, .string ⟨#[]⟩, .slice none 0 0, .slice none 0 0, .int .u64 0, .int .i64 0, .int .i64 0] 26
  have f1 := World.alloc_heap_new W (.cells #[.int .i64 0, .bool false, .int .i64 0, .string ⟨#[]⟩, .slice none 0 0, .slice none 0 0, .int .u64 0, .int .i64 0, .int .i64 0] 26)
  go_enter Try.func29, Try.ntmps29
  go_upto_region 1 with fail
  have c1' := below_cell hB1 c1
  have k0' := below_cell hB1 k0
  have k1' := below_cell hB1 k1
  have k2' := below_cell hB1 k2
  have k3' := below_cell hB1 k3
  have k4' := below_cell hB1 k4
  generalize hW1 : W.alloc (.cells #[.int .i64 0, .bool false, .int .i64 0, .string ⟨#[]⟩, .slice none 0 0, .slice none 0 0, .int .u64 0, .int .i64 0, .int .i64 0] 26) = W1 at *
  clear c1 k0 k1 k2 k3 k4 hW1
  go_upto_region 2 with fail
  have hBc : Below W1.heap.size W1 (W1.alloc (.cells #[.int .i64 4, .bool false, .int .u64 0, .int .i64 0, .int .i64 0] 76)) := (Below.refl _ W1).alloc (Nat.le_refl _) _
  have fC := World.alloc_heap_new W1 (.cells #[.int .i64 4, .bool false, .int .u64 0, .int .i64 0, .int .i64 0] 76)
  rw [hs1] at fC
  have hsc : (W1.alloc (.cells #[.int .i64 4, .bool false, .int .u64 0, .int .i64 0, .int .i64 0] 76)).heap.size = W.heap.size + 2 := by rw [World.size_alloc, hs1]
  generalize World.alloc W1 _ = Wc at *
  have eC := fun j => cell_of_row Wc (W.heap.size + 1) j _ _ _ fC
  go_upto_region 3 with (go_at_call 49; (with_reducible refine (bare_c 4 false 0 0 0 _).mono ?_); rintro e wb ⟨rfl, hBb⟩)
  have hbz := hBb.size
  have fO := World.alloc_heap_new wb (.cells #[.int .i64 4, .bool false, .int .i64 0, .string ⟨#[]⟩, .slice none 0 0, .slice none 0 0, .int .u64 0, .int .i64 0, .int .i64 0] 26)
  have hBd : Below wb.heap.size wb (wb.alloc (.cells #[.int .i64 4, .bool false, .int .i64 0, .string ⟨#[]⟩, .slice none 0 0, .slice none 0 0, .int .u64 0, .int .i64 0, .int .i64 0] 26)) := (Below.refl _ wb).alloc (Nat.le_refl _) _
  have hB3 : Below W1.heap.size W1 (wb.alloc (.cells #[.int .i64 4, .bool false, .int .i64 0, .string ⟨#[]⟩, .slice none 0 0, .slice none 0 0, .int .u64 0, .int .i64 0, .int .i64 0] 26)) := (hBc.trans (hBb.mono (by omega))).trans (hBd.mono (by omega))
  have fC3 := (hBd.block (W.heap.size + 1) (by omega)).trans ((hBb.block (W.heap.size + 1) (by omega)).trans fC)
  obtain ⟨nb, hnb⟩ : ∃ nb, wb.heap.size = nb := ⟨_, rfl⟩
  rw [hnb] at fO
  rw [hnb]
  have hO2 : W.heap.size + 2 ≤ nb := by omega
  clear hnb hBd hBb hBc fC eC hsc hbz
  generalize World.alloc wb _ = W3 at *
  have eO := fun j => cell_of_row W3 nb j _ _ _ fO
  have eC3 := fun j => cell_of_row W3 (W.heap.size + 1) j _ _ _ fC3
  have hs3 := (Array.getElem?_eq_some_iff.1 fO).1
  have hs2 := hs3
  clear fC3
  have eR3 : ∀ j, W3.cell? ⟨W.heap.size, j, none⟩ = #[.int .i64 0, .bool false, .int .i64 0, .string ⟨#[]⟩, .slice none 0 0, .slice none 0 0, .int .u64 0, .int .i64 0, .int .i64 0][j]? := by
    intro j
    rw [World.cell?_of_block (hB3.block W.heap.size (by omega))]
    exact e1 j
  have hBW : Below W.heap.size W W3 := hB1.trans (hB3.mono hB1.size)
  have g3 := g.below hBW
  have fR : W3.heap[W.heap.size]? = some (.cells #[.int .i64 0, .bool false, .int .i64 0, .string ⟨#[]⟩, .slice none 0 0, .slice none 0 0, .int .u64 0, .int .i64 0, .int .i64 0] 26) := (hB3.block W.heap.size (by omega)).trans f1
  have c0 := g3.cell 0
  simp only [List.getElem?_cons_zero] at c0
  have ho := g.ok id _ hc
  have cl := loadBytes_c g3 id _ hc (strB t) rfl ho.1 (by have := ho.2; exact this)
  rw [strB_len] at cl
  have kp : Hid (∀ w4, Below W3.heap.size W3 w4 → w4.heap[W.heap.size]? = some (.cells #[.int .i64 0, .bool false, .int .i64 0, .string ⟨#[]⟩, .slice none 0 0, .slice none 0 0, .int .u64 0, .int .i64 0, .int .i64 0] 26) ∧ w4.heap[nb]? = some (.cells #[.int .i64 4, .bool false, .int .i64 0, .string ⟨#[]⟩, .slice none 0 0, .slice none 0 0, .int .u64 0, .int .i64 0, .int .i64 0] 26)) := by
    show ∀ w4, _
    intro w4 hB4
    exact ⟨(hB4.block _ (by omega)).trans fR, (hB4.block _ (by omega)).trans fO⟩
  clear eR3 fR fO g3 e1 c1' k0' k1' k2' k3' k4' f1
  go_upto_region 8 with (go_at_call 36; (with_reducible refine (cs _).mono ?_); rintro e w' ⟨rfl, hw⟩; (have hw' := hw.symm); subst hw'; clear hw)
  have HBW := hid hBW
  clear g ho hc hBW hB1 hB3 hs1 hs2 hs3 j0 j1
  go_wp2_with (go_at_call 51; (with_reducible refine cl.mono ?_); rintro e w4 ⟨gb, rfl, hgb, hB4, hown⟩; clear cl; (have hcv := conv_back w4 gb t _ hown); (obtain ⟨fR, fO⟩ := kp.out w4 hB4); (have eR := fun j => cell_of_row w4 W.heap.size j _ _ _ fR); (have eO := fun j => cell_of_row w4 (nb) j _ _ _ fO); (have zR := (fun j => by simp [World.frozen?, fR] : ∀ j, w4.frozen? ⟨W.heap.size, j, none⟩ = false)); (have zO := (fun j => by simp [World.frozen?, fO] : ∀ j, w4.frozen? ⟨nb, j, none⟩ = false)); (have FR := hid fR); (have HB4 := hid hB4); clear fR fO hB4 hown hgb)
  have hBf : Below W.heap.size W w4 := HBW.out.trans (HB4.out.mono HBW.out.size)
  refine bodyPost_ret (cell_ret rfl _ _ W.heap.size _ _ _ _ _ _ _ _ _ (0, 0) rfl (nine_set ((Below.heap_setCell _ _ _ _ (by show W.heap.size ≠ nb; omega)).trans FR.out) _ _ _ _ _ _ _ _ _)) rfl ?_
  exact ⟨rfl, nine_below (hBf.setCell (p := ⟨nb, 3, none⟩) (by show W.heap.size ≤ nb; omega) _) (Nat.le_refl _) _ _ _ _ _ _ _ _ _⟩
theorem get_text (g : HLay W hb sb vc T H u h) (w : Nat) (hw : w < 18446744073709551616) (id : Nat) (hi : hit H w = some id) (t : ByteArray) (hc : H[id]? = some (some (.text (strB t)))) :
    Calls Try.prog 14 #[.pointer (some ⟨hb, 0, none⟩), .int .u64 w] W fun e w' => e = .returned (.tuple #[.agg #[.int .i64 4, .bool false, .int .i64 0, .string t, .slice none 0 0, .slice none 0 0, .int .u64 0, .int .i64 0, .int .i64 0], .int .i64 0]) ∧ Below W.heap.size W w' :=
  get_c g w hw id hi 4 false 0 t none none 0 0 0 0 0 0 0 (fun w1 hB => load_text (g.below hB) id t hc)
end
end Go.Proofs.Ytaebnnkhjlidiaa.W
/- The contract of the reference's class function: it returns the class 'cls' of every pattern; the world has at most drawn. -/
namespace Go.Proofs.Ytaebnnkhjlidiaa.W
open Go.ChangeShapes Go.WideShapes Go.RowKit

theorem txt_lt (l k : Int) (hk : k ≤ 5) (hl : l / 1099511627776 = k) (c : l % 1099511627776 < 2 ^ (8 * k).toNat) : textCls l = 5 := by
  unfold textCls txtOk
  rw [hl]
  simp [hk, c]
theorem txt_ge (l k : Int) (hl : l / 1099511627776 = k) (c : ¬ l % 1099511627776 < 2 ^ (8 * k).toNat) : textCls l = 7 := by
  unfold textCls txtOk
  rw [hl]
  simp [c]
end Go.Proofs.Ytaebnnkhjlidiaa.W
/- Contracts of the reference's faces: each returns what package word's own does; the world has at most drawn. -/
namespace Go.Proofs.Ytaebnnkhjlidiaa.W
open Go.ChangeShapes Go.WideShapes Go.RowKit

end Go.Proofs.Ytaebnnkhjlidiaa.W
/- The contract of package word's ToText: it returns the text of every pattern that is one; the world has at most one block more. -/
namespace Go.Proofs.Ytaebnnkhjlidiaa.W
open Go.ChangeShapes Go.WideShapes Go.RowKit

theorem tab_eq (k r : Int) (k0 : 0 ≤ k) (k5 : k ≤ 5) (r0 : 0 ≤ r) (r1 : r < 1099511627776) :
    strOfNums ([r % 256, r / 256 % 256, r / 65536 % 256, r / 16777216 % 256, r / 4294967296].take k.toNat) = ⟨(decN k.toNat r.toNat).toArray⟩ := by
  obtain ⟨m, rfl⟩ := Int.eq_ofNat_of_zero_le r0
  obtain ⟨j, rfl⟩ := Int.eq_ofNat_of_zero_le k0
  have b0 : ((m : Int) % 256).toNat = m % 256 := by omega
  have b1 : ((m : Int) / 256 % 256).toNat = m / 256 % 256 := by omega
  have b2 : ((m : Int) / 65536 % 256).toNat = m / 256 / 256 % 256 := by omega
  have b3 : ((m : Int) / 16777216 % 256).toNat = m / 256 / 256 / 256 % 256 := by omega
  have b4 : ((m : Int) / 4294967296).toNat = m / 256 / 256 / 256 / 256 % 256 := by omega
  have hj : j < 6 := by omega
  rw [Int.toNat_natCast, Int.toNat_natCast]
  unfold strOfNums
  match j, hj with
  | 0, _ => simp [decN]
  | 1, _ => simp [decN, b0]
  | 2, _ => simp [decN, b0, b1]
  | 3, _ => simp [decN, b0, b1, b2]
  | 4, _ => simp [decN, b0, b1, b2, b3]
  | 5, _ => simp [decN, b0, b1, b2, b3, b4]
end Go.Proofs.Ytaebnnkhjlidiaa.W
/- Package value: Unbox, of a string in a cell; of what stands in a word. -/
namespace Go.Proofs.Ytaebnnkhjlidiaa.W
open Go.ChangeShapes Go.WideShapes Go.RowKit Go.Shelf
set_option linter.unusedVariables false
section
variable {W W' : World} {hb sb : Nat} {vc : Value} {T : Nat → Prop} {H : List (Option Hc)} {u h : Nat}
end
end Go.Proofs.Ytaebnnkhjlidiaa.W
/- Package text: order. -/
namespace Go.Proofs.Ytaebnnkhjlidiaa.W
open Go.ChangeShapes Go.WideShapes Go.RowKit
set_option linter.unusedVariables false
/-- how two rows of bytes stand to each other -/
def ordL : List Nat → List Nat → Int
  | [], [] => 0
  | [], _ :: _ => -1
  | _ :: _, [] => 1
  | a :: x, b :: y => if a = b then ordL x y else if a < b then -1 else 1
theorem ordL_self (x : List Nat) : ordL x x = 0 := by
  induction x with
  | nil => rfl
  | cons a x ih => simp [ordL, ih]
theorem ordL_eq (x : List Nat) : ∀ y, ordL x y = 0 → x = y := by
  induction x with
  | nil => intro y h; cases y with
    | nil => rfl
    | cons b y => simp [ordL] at h
  | cons a x ih => intro y h; cases y with
    | nil => simp [ordL] at h
    | cons b y =>
      unfold ordL at h
      by_cases c : a = b
      · rw [if_pos c] at h; rw [c, ih y h]
      · rw [if_neg c] at h; split at h <;> simp at h
theorem ordL_neg (x : List Nat) : ∀ y, ordL x y = - ordL y x := by
  induction x with
  | nil => intro y; cases y <;> simp [ordL]
  | cons a x ih => intro y; cases y with
    | nil => simp [ordL]
    | cons b y =>
      unfold ordL
      by_cases c : a = b
      · rw [if_pos c, if_pos c.symm]; exact ih y
      · rw [if_neg c, if_neg (Ne.symm c)]
        by_cases d : a < b
        · rw [if_pos d, if_neg (by omega)]
        · rw [if_neg d, if_pos (by omega)]; rfl
/-- as numbers -/
def cmpI (a b : Int) : Int := if a < b then -1 else if a > b then 1 else 0
theorem ordL_at (x y : List Nat) (k : Nat) (h : x.take k = y.take k) (hx : k ≤ x.length) (hy : k ≤ y.length) : ordL x y = ordL (x.drop k) (y.drop k) := by
  induction k generalizing x y with
  | zero => rfl
  | succ k ih =>
    cases x with
    | nil => simp at hx
    | cons a x => cases y with
      | nil => simp at hy
      | cons b y =>
        simp at h
        simp at hx hy
        rw [List.drop_succ_cons, List.drop_succ_cons, ← ih x y h.2 hx hy]
        show (if a = b then ordL x y else _) = _
        rw [if_pos h.1]
theorem ordL_end1 (x y : List Nat) (k : Nat) (h : x.take k = y.take k) (hx : k < x.length) (hy : k = y.length) : ordL x y = 1 := by
  rw [ordL_at x y k h (by omega) (by omega), List.drop_eq_nil_of_le (by omega : y.length ≤ k), List.drop_eq_getElem_cons hx]
  rfl
theorem ordL_ne (x y : List Nat) (k : Nat) (h : x.take k = y.take k) (a b : Nat) (hx : x[k]? = some a) (hy : y[k]? = some b) (hne : a ≠ b) : ordL x y = cmpI a b := by
  obtain ⟨lx, ex⟩ := List.getElem?_eq_some_iff.1 hx
  obtain ⟨ly, ey⟩ := List.getElem?_eq_some_iff.1 hy
  rw [ordL_at x y k h (by omega) (by omega), List.drop_eq_getElem_cons lx, List.drop_eq_getElem_cons ly, ex, ey]
  unfold ordL cmpI
  rw [if_neg hne]
  by_cases d : a < b
  · rw [if_pos d, if_pos (by omega)]
  · rw [if_neg d, if_neg (by omega), if_pos (by omega)]
theorem ordL_end (x y : List Nat) (h : x = y.take x.length) (hl : x.length ≤ y.length) : ordL x y = cmpI x.length y.length := by
  have h1 := ordL_at x y x.length (by rw [List.take_length]; exact h) (Nat.le_refl _) hl
  rw [h1, List.drop_length]
  by_cases c : x.length = y.length
  · rw [List.drop_eq_nil_of_le (by omega)]
    unfold cmpI ordL
    rw [if_neg (by omega), if_neg (by omega)]
  · rw [List.drop_eq_getElem_cons (by omega : x.length < y.length)]
    unfold cmpI ordL
    rw [if_pos (by omega)]
/-- the bytes of a string, as numbers -/
def byL (t : ByteArray) : List Nat := t.data.toList.map UInt8.toNat
theorem byL_len (t : ByteArray) : (byL t).length = t.size := by unfold byL; rw [List.length_map]; rfl
theorem byL_get (t : ByteArray) (k : Nat) (h : k < t.size) : (byL t)[k]? = some (t[k]).toNat := by
  unfold byL
  rw [List.getElem?_map]
  have h2 : k < t.data.size := h
  have : t.data.toList[k]? = some t[k] := by
    rw [Array.getElem?_toList, Array.getElem?_eq_getElem h2]; rfl
  rw [this]; rfl
theorem take_byL {x y : List Nat} {k a : Nat} (h : x.take k = y.take k) (hx : x[k]? = some a) (hy : y[k]? = some a) : x.take (k + 1) = y.take (k + 1) := by
  rw [List.take_add_one, List.take_add_one, h, hx, hy]
end Go.Proofs.Ytaebnnkhjlidiaa.W
/- Package text: what a word tells; Of, Len, Byte, both, Compare. -/
namespace Go.Proofs.Ytaebnnkhjlidiaa.W
open Go.ChangeShapes Go.WideShapes Go.RowKit Go.Shelf
set_option linter.unusedVariables false
/-- a word of a string -/
def IsTxt (H : List (Option Hc)) (w : Nat) (t : ByteArray) : Prop := (t.size ≤ 5 ∧ (w : Int) = txtW t) ∨ ∃ id, w = hw id ∧ id < 281474976710656 ∧ H[id]? = some (some (.text (strB t)))
/-- what is held is held on -/
def Ext (H H' : List (Option Hc)) : Prop := ∀ (i : Nat) (c : Hc), H[i]? = some (some c) → H'[i]? = some (some c)
theorem Ext.refl (H : List (Option Hc)) : Ext H H := fun _ _ h => h
theorem Ext.trans {H H' H'' : List (Option Hc)} (h : Ext H H') (h' : Ext H' H'') : Ext H H'' := fun i c e => h' i c (h i c e)
theorem ext_put (H : List (Option Hc)) (c : Hc) : Ext H (putH H (lid H) (some c)) := by
  intro i x hx
  rw [putH_ne H _ i (fun e => ?_)]
  · exact hx
  · subst e
    have hl := (List.getElem?_eq_some_iff.1 hx).1
    rw [lid_free hl] at hx
    cases hx
theorem IsTxt.ext {H H' : List (Option Hc)} {w : Nat} {t : ByteArray} (h : IsTxt H w t) (he : Ext H H') : IsTxt H' w t := by
  rcases h with h | ⟨id, h1, h2, h3⟩
  · exact .inl h
  · exact .inr ⟨id, h1, h2, he _ _ h3⟩
theorem IsTxt.lt {H : List (Option Hc)} {w : Nat} {t : ByteArray} (h : IsTxt H w t) : w < 18446744073709551616 := by
  rcases h with ⟨h1, h2⟩ | ⟨id, rfl, h2, h3⟩
  · have := cls_is5 _ (txtW_cls t h1); omega
  · exact hw_lt id h2
section
variable {W1 : World} {S : Nat → Prop} {hb : Nat} {H : List (Option Hc)} {u : Nat}
/-- the i-th byte, or none -/
def byteR (t : ByteArray) (i : Int) : Int := if h : 0 ≤ i ∧ i < t.size then ((t[i.toNat]'(by omega)).toNat : Nat) else 0
/-- and its number -/
def byteE (t : ByteArray) (i : Int) : Int := if 0 ≤ i ∧ i < t.size then 0 else 31
end
end Go.Proofs.Ytaebnnkhjlidiaa.W
/- slices.Grow and slices.Concat, of words. -/
namespace Go.Proofs.Ytaebnnkhjlidiaa.W
open Go.ChangeShapes Go.WideShapes Go.RowKit Go.Shelf
set_option linter.unusedVariables false
theorem infoW : (Try.prog.info? 24).map (fun i => (i.zero, i.size, i.bytes)) = some (some (.int .u64 0), 1, 8) := by kernel_rfl
theorem underW : Try.prog.underlying 23 = some (.slice 24) := by kernel_rfl
theorem grow_run (w : World) (ty : TypeId) (m : Nat) (hm : 0 < m) (hm2 : m ≤ 2000000) : ∃ cap w', (Builtin.append_ #[23, 3] ty #[.slice none 0 0, .int .i64 (m : Int)]).run Try.prog w = .ok (.slice (some ⟨w.heap.size, 0, none⟩) m cap) w' ∧ w'.ownsRow w.heap.size 24 1 (.slice (some ⟨w.heap.size, 0, none⟩) 0 cap) 0 [] ∧ w.grownBy w' none ∧ m ≤ cap := by
  obtain ⟨i0, hi, hz0, hz1, hz2⟩ := info_parts infoW
  have hrun := Lib.run_append_nil_zeros (P := Try.prog) w 23 3 ty 24 i0 (.int .u64 0) .i64 .i64 underW Try.underlying3 hi hz0 m hm (by omega) (by omega) (by rw [hz2]; omega)
  refine ⟨_, _, hrun, ⟨by simp, .inr ⟨w.heap.size, _, _, rfl, Nat.le_refl _, heap_alloc_new w.drew _, Nat.zero_le _, grownCap_le_maxLen w _ _ _ (by unfold maxLen; omega), ?_, by simp⟩⟩, ⟨rfl, rfl, rfl, ?_, fun k hk _ => Below.heap_alloc w.drew _ k hk⟩, ?_⟩
  · have h1 : (Value.int .u64 0).cells = #[.int .u64 0] := rfl
    rw [zeroCells_one _ _ h1, zeroCells_one _ _ h1]
    have := grownCap_ge w m 0 24
    simp; omega
  · show w.heap.size ≤ (w.drew.alloc _).heap.size; simp
  · exact grownCap_ge w m 0 24
theorem app_words (w : World) (B : Nat) (ty : TypeId) (hB : B ≤ w.heap.size) (v : Value) (n : Nat) (xs : List Value) (hown : w.ownsRow B 24 1 v n xs) (vs : Value) (ws : List Nat) (hw : WordsAt w vs ws) (hn : n + ws.length ≤ 2000000) :
    ∃ v' w', (Builtin.append_ #[23, 23] ty #[v, vs]).run Try.prog w = .ok v' w' ∧ w'.ownsRow B 24 1 v' (n + ws.length) (xs ++ ws.map (fun x => .int .u64 (x : Nat))) ∧ w.grownBy w' v.ownBlock := by
  obtain ⟨i0, hi, hz0, hz1, hz2⟩ := info_parts infoW
  obtain ⟨o, cap, rfl, hl, h64, hcell⟩ := hw
  cases o with
  | none =>
    have h0 : ws = [] := by
      cases ws with
      | nil => rfl
      | cons a r => obtain ⟨x, hx, _⟩ := hcell 0 (by simp); cases hx
    subst h0
    refine ⟨v, w, ?_, by simpa using hown, ⟨rfl, rfl, rfl, Nat.le_refl _, fun k _ _ => rfl⟩⟩
    rcases hown.2 with ⟨rfl, rfl⟩ | ⟨g, cap', cur, rfl, _, _, hnc, _⟩
    · simp [Builtin.append_, run_underlying underW, sizeOf, typeInfo, hi, Builtin.lenOf, Builtin.firstCells]
    · simp [Builtin.append_, run_underlying underW, sizeOf, typeInfo, hi, Builtin.lenOf, Builtin.firstCells, hnc, storeCells]
  | some a =>
    have h1 : ∀ j u, (ws.map (fun x => Value.int .u64 (x : Nat)))[j]? = some u → w.cell? (a.add j) = some u := by
      intro j u hj
      rw [List.getElem?_map] at hj
      by_cases hjl : j < ws.length
      · rw [List.getElem?_eq_getElem hjl] at hj
        obtain ⟨x, hx, hc⟩ := hcell j hjl
        cases hx
        simp at hj
        rw [← hj]; exact hc
      · rw [List.getElem?_eq_none (by omega)] at hj; cases hj
    have h2 : ∀ u ∈ ws.map (fun x => Value.int .u64 (x : Nat)), u.oneCell' = true := by
      intro u hu
      obtain ⟨x, _, rfl⟩ := List.mem_map.1 hu
      rfl
    obtain ⟨v', w', hrun, ho, hg, _⟩ := run_append_own w B 23 ty 24 i0 (.int .u64 0) 1 8 underW hi hz0 hz1 hz2 rfl (by omega) v n xs hown a ws.length cap (ws.map (fun x => .int .u64 (x : Nat))) (by simp) h1 h2 (by unfold maxLen; omega) (by omega) hB
    exact ⟨v', w', hrun, ho, hg⟩
theorem words_own {w : World} {B : Nat} {v : Value} {ws : List Nat} (h : w.ownsRow B 24 1 v ws.length (ws.map (fun x => .int .u64 (x : Nat)))) (hl : ws.length ≤ 2000000) (h64 : ∀ x ∈ ws, x < 18446744073709551616) : WordsAt w v ws := by
  rcases h.2 with ⟨rfl, h0⟩ | ⟨g, cap, cur, rfl, _⟩
  · exact ⟨none, 0, by rw [h0], by omega, h64, fun i hi => by omega⟩
  · refine ⟨some ⟨g, 0, none⟩, cap, rfl, by omega, h64, fun i hi => ⟨_, rfl, ?_⟩⟩
    exact h.cells (g := g) rfl i _ (by rw [List.getElem?_map, List.getElem?_eq_getElem hi]; rfl)
end Go.Proofs.Ytaebnnkhjlidiaa.W
/- casketlaw6's awake. -/
namespace Go.Proofs.Ytaebnnkhjlidiaa.W
open Go.ChangeShapes Go.WideShapes Go.RowKit Go.Shelf
set_option linter.unusedVariables false
def aw0 : List (Option Hc) := [some (.num 5)]
def aw1 : List (Option Hc) := [some (.num 5), some (.row [18445336698825998336, 9221120237041090560])]
theorem aw_need0 (i : Int) : (Hc.num i).need = 2 := by unfold Hc.need; rw [show (Hc.num i).bytes.length = 8 from le8_len _]
theorem aw_need1 : (Hc.row [18445336698825998336, 9221120237041090560]).need = 3 := by unfold Hc.need; rw [show (Hc.row [18445336698825998336, 9221120237041090560]).bytes.length = 16 from row_len _]
theorem aw_sum1 : sumH aw1 = 5 := by show (Hc.num 5).need + ((Hc.row _).need + 0) = 5; rw [aw_need0, aw_need1]
theorem aw_hit0 : hit aw1 18445336698825998336 = some 0 := by decide
theorem aw_hit1 : hit aw1 18445336698825998337 = some 1 := by decide
theorem aw_val : ∀ w ∈ [18445336698825998336, 9221120237041090560], isVal aw0 w = true := by decide
theorem aw_rch (rs : List Nat) : rchB aw1 ([18445336698825998337] ++ rs) = [true, true] := by
  refine needR_eq (H := aw1) (rchB_len _ _) rfl (fun i => ?_)
  rw [rchB_get]
  have h1 : Rch aw1 ([18445336698825998337] ++ rs) 1 := .root 18445336698825998337 1 (by simp) aw_hit1
  have h0 : Rch aw1 ([18445336698825998337] ++ rs) 0 := .step 1 0 18445336698825998336 (.row [18445336698825998336, 9221120237041090560]) h1 rfl (by simp [Hc.succ]) aw_hit0
  constructor
  · intro h
    obtain ⟨c, hc⟩ := h.live
    have : i < 2 := (List.getElem?_eq_some_iff.1 hc).1
    rcases (by omega : i = 0 ∨ i = 1) with rfl | rfl <;> rfl
  · intro h
    have : i < 2 := (List.getElem?_eq_some_iff.1 h).1
    rcases (by omega : i = 0 ∨ i = 1) with rfl | rfl
    · exact h0
    · exact h1
theorem aw_reach : reachN aw1 [18445336698825998337] = 5 := by
  have := aw_rch []
  rw [List.append_nil] at this
  unfold reachN
  rw [this]
  show (if true = true then (Hc.num 5).need else 0) + ((if true = true then (Hc.row _).need else 0) + 0) = 5
  rw [aw_need0, aw_need1]; rfl
theorem aw_room : roomH aw1 6 (.num 6) [18445336698825998337] = aw1 := by
  unfold roomH
  rw [aw_sum1, aw_need0, if_neg (by decide), aw_rch]
  rfl
theorem aw_put0 {W : World} {S : Nat → Prop} {hb : Nat} (g : HSt W S hb [] 6) (hS : ∀ k, S k → k < W.heap.size) :
    Calls Try.prog 12 #[.pointer (some ⟨hb, 0, none⟩), .agg #[.int .i64 2, .bool false, .int .i64 5, .string ⟨#[]⟩, .slice none 0 0, .slice none 0 0, .int .u64 0, .int .i64 0, .int .i64 0], .slice none 0 0] W fun e w' => e = .returned (.tuple #[.int .u64 18445336698825998336, .int .i64 0]) ∧ Upd S W w' ∧ HSt w' (Nx S W w') hb aw0 6 := by
  refine (put_num g hS 5 (by omega) (by omega) none none 0 0 (.slice none 0 0) [] (words_nil W _ _)).mono ?_
  intro e w' h
  exact h.fits (by rw [aw_need0]; decide)
theorem aw_put1 {W : World} {S : Nat → Prop} {hb : Nat} (g : HSt W S hb aw0 6) (hS : ∀ k, S k → k < W.heap.size) :
    Calls Try.prog 12 #[.pointer (some ⟨hb, 0, none⟩), .agg #[.int .i64 9, .bool false, .int .i64 0, .string ⟨#[]⟩, .slice none 0 0, .slice (some ⟨W.heap.size, 0, none⟩) 2 2, .int .u64 0, .int .i64 0, .int .i64 0], .slice (some ⟨W.heap.size + 1, 0, none⟩) 1 1] ((W.alloc (.cells #[.int .u64 18445336698825998336, .int .u64 9221120237041090560] 24)).alloc (.cells #[.int .u64 18445336698825998336] 24)) fun e w' => e = .returned (.tuple #[.int .u64 18445336698825998337, .int .i64 0]) ∧ Upd S W w' ∧ HSt w' (Nx S W w') hb aw1 6 := by
  have hB1 : Below W.heap.size W (W.alloc (.cells #[.int .u64 18445336698825998336, .int .u64 9221120237041090560] 24)) := (Below.refl _ W).alloc (Nat.le_refl _) _
  have hs1 : (W.alloc (.cells #[.int .u64 18445336698825998336, .int .u64 9221120237041090560] 24)).heap.size = W.heap.size + 1 := World.size_alloc ..
  have hB2 : Below (W.alloc (.cells #[.int .u64 18445336698825998336, .int .u64 9221120237041090560] 24)).heap.size (W.alloc (.cells #[.int .u64 18445336698825998336, .int .u64 9221120237041090560] 24)) ((W.alloc (.cells #[.int .u64 18445336698825998336, .int .u64 9221120237041090560] 24)).alloc (.cells #[.int .u64 18445336698825998336] 24)) := (Below.refl _ _).alloc (Nat.le_refl _) _
  have hs2 : (((W.alloc (.cells #[.int .u64 18445336698825998336, .int .u64 9221120237041090560] 24)).alloc (.cells #[.int .u64 18445336698825998336] 24))).heap.size = W.heap.size + 2 := by rw [World.size_alloc, hs1]
  have hB : Below W.heap.size W ((W.alloc (.cells #[.int .u64 18445336698825998336, .int .u64 9221120237041090560] 24)).alloc (.cells #[.int .u64 18445336698825998336] 24)) := hB1.trans (hB2.mono hB1.size)
  have hw := words_below (words_new W [18445336698825998336, 9221120237041090560] _ (by decide) (by decide) rfl 24) hB2
  have hr := words_new (W.alloc (.cells #[.int .u64 18445336698825998336, .int .u64 9221120237041090560] 24)) [18445336698825998336] _ (by decide) (by decide) rfl 24
  rw [hs1] at hr
  refine (put_row (g.below hB) (fun k e => by have := hS k e; omega) [18445336698825998336, 9221120237041090560] (by decide) (by decide) aw_val none (some ⟨W.heap.size, 0, none⟩) 0 2 hw ?_ _ _ hr).mono ?_
  · intro o n cap e k
    cases e
    rcases k with k | k
    · have := hS _ k; exact absurd this (Nat.lt_irrefl _)
    · have k' : (((W.alloc (.cells #[.int .u64 18445336698825998336, .int .u64 9221120237041090560] 24)).alloc (.cells #[.int .u64 18445336698825998336] 24))).heap.size ≤ W.heap.size := k
      omega
  · intro e w' h
    obtain ⟨h1, h2, h3⟩ := h.fits (by rw [aw_need1]; show (Hc.num 5).need + 0 + 3 ≤ 6; rw [aw_need0]; decide)
    have hz := h2.size
    refine ⟨h1, (Upd.of_below hB).trans' h2, h3.mono ?_⟩
    rintro k (e | e)
    · exact .inl e
    · exact .inr ⟨by omega, e.2⟩
theorem aw_put2 {W : World} {S : Nat → Prop} {hb : Nat} (g : HSt W S hb aw1 6) (hS : ∀ k, S k → k < W.heap.size) :
    Calls Try.prog 12 #[.pointer (some ⟨hb, 0, none⟩), .agg #[.int .i64 2, .bool false, .int .i64 6, .string ⟨#[]⟩, .slice none 0 0, .slice none 0 0, .int .u64 0, .int .i64 0, .int .i64 0], .slice (some ⟨W.heap.size, 0, none⟩) 1 1] (W.alloc (.cells #[.int .u64 18445336698825998337] 24)) fun e w' => e = .returned (.tuple #[.int .u64 0, .int .i64 40]) ∧ Upd S W w' ∧ HSt w' (Nx S W w') hb aw1 6 := by
  have hB1 : Below W.heap.size W (W.alloc (.cells #[.int .u64 18445336698825998337] 24)) := (Below.refl _ W).alloc (Nat.le_refl _) _
  have hs1 : (W.alloc (.cells #[.int .u64 18445336698825998337] 24)).heap.size = W.heap.size + 1 := World.size_alloc ..
  have hr := words_new W [18445336698825998337] _ (by decide) (by decide) rfl 24
  refine (put_num (g.below hB1) (fun k e => by have := hS k e; omega) 6 (by omega) (by omega) none none 0 0 _ _ hr).mono ?_
  intro e w' h
  rw [aw_room] at h
  obtain ⟨h1, h2, h3⟩ := h.not (by rw [aw_need0, aw_sum1]; decide)
  have hz := h2.size
  refine ⟨h1, (Upd.of_below hB1).trans' h2, h3.mono ?_⟩
  rintro k (e | e)
  · exact .inl e
  · exact .inr ⟨by omega, e.2⟩
theorem HSt.lt {W : World} {S : Nat → Prop} {hb : Nat} {H : List (Option Hc)} {u : Nat} {W' : World} (hS : ∀ k, S k → k < W.heap.size) (hU : Upd S W W') : ∀ k, Nx S W W' k → k < W'.heap.size := by
  rintro k (e | e)
  · have := hS k e; have := hU.size; omega
  · exact e.2
theorem awake6_c (W : World) : Calls Try.prog 10 #[] W fun e w' => e = .returned (.bool true) ∧ Below W.heap.size W w' := by
  have cn := hnew_c 6 (by decide) W
  rw [show ((6 : Nat) : Int) = 6 from rfl] at cn
  go_enter Try.func10, Try.ntmps10
  go_upto_region 4 with (go_at_call 11; (with_reducible refine cn.mono ?_); rintro e W1 ⟨hb, rfl, hB1, g1⟩; clear cn)
  have hS1 : ∀ k, (W.heap.size ≤ k ∧ k < W1.heap.size) → k < W1.heap.size := fun k e => e.2
  have c1 := aw_put0 g1 hS1
  go_upto_region 5 with (go_at_call 12; (with_reducible refine c1.mono ?_); rintro e W2 ⟨rfl, hU2, g2⟩; clear c1)
  have c2 := aw_put1 g2 (HSt.lt (hb := hb) (H := aw0) (u := 6) hS1 hU2)
  go_upto_region 6 with (go_at_call 12; (with_reducible refine c2.mono ?_); rintro e W3 ⟨rfl, hU3, g3⟩; clear c2)
  have c3 := aw_put2 g3 (HSt.lt (hb := hb) (H := aw0) (u := 6) (HSt.lt (hb := hb) (H := aw0) (u := 6) hS1 hU2) hU3)
  go_upto_region 7 with (go_at_call 12; (with_reducible refine c3.mono ?_); rintro e W4 ⟨rfl, hU4, g4⟩; clear c3)
  obtain ⟨sb, vc, T, l4⟩ := g4.lay
  have c4 := get_num l4 18445336698825998336 (by decide) 0 aw_hit0 5 rfl
  rw [show ((18445336698825998336 : Nat) : Int) = 18445336698825998336 from rfl] at c4
  go_upto_region 8 with (go_at_call 14; (with_reducible refine c4.mono ?_); rintro e W5 ⟨rfl, hB5⟩; clear c4)
  have hB6 : Below W5.heap.size W5 (W5.alloc (.cells #[.int .i64 2, .bool false, .int .i64 5, .string ByteArray.empty, .slice none 0 0, .slice none 0 0, .int .u64 0, .int .i64 0, .int .i64 0] 26)) := (Below.refl _ W5).alloc (Nat.le_refl _) _
  have e6 := World.cell?_alloc_new W5 #[.int .i64 2, .bool false, .int .i64 5, .string ByteArray.empty, .slice none 0 0, .slice none 0 0, .int .u64 0, .int .i64 0, .int .i64 0] 26
  have d0 := e6 0
  have d2 := e6 2
  simp only [List.getElem?_toArray, List.getElem?_cons_succ, List.getElem?_cons_zero] at d0 d2
  generalize W5.alloc (.cells #[.int .i64 2, .bool false, .int .i64 5, .string ByteArray.empty, .slice none 0 0, .slice none 0 0, .int .u64 0, .int .i64 0, .int .i64 0] 26) = W6 at *
  have hB46 : Below W4.heap.size W4 W6 := hB5.trans (hB6.mono hB5.size)
  have hB7 : Below W6.heap.size W6 (W6.alloc (.cells #[.int .u64 18445336698825998337] 24)) := (Below.refl _ W6).alloc (Nat.le_refl _) _
  have l7 := l4.below (hB46.trans (hB7.mono hB46.size))
  have c5 : Calls Try.prog 13 #[.pointer (some ⟨hb, 0, none⟩), .slice (some ⟨W6.heap.size, 0, none⟩) 1 1] (W6.alloc (.cells #[.int .u64 18445336698825998337] 24)) fun e w' => e = .returned (.int .i64 5) ∧ Below (W6.alloc (.cells #[.int .u64 18445336698825998337] 24)).heap.size (W6.alloc (.cells #[.int .u64 18445336698825998337] 24)) w' := by
    have := hreach_c l7 (by rw [aw_sum1]; decide) _ _ (words_new W6 [18445336698825998337] _ (by decide) (by decide) rfl 24)
    rw [aw_reach] at this
    exact this
  have fin : Hid (∀ w', Below (W6.alloc (.cells #[.int .u64 18445336698825998337] 24)).heap.size (W6.alloc (.cells #[.int .u64 18445336698825998337] 24)) w' → Below W.heap.size W w') := by
    show ∀ w', _
    intro w' hB8
    have hB4 : Below W1.heap.size W1 W1 := Below.refl _ _
    have u14 : Upd (fun k => W.heap.size ≤ k ∧ k < W1.heap.size) W1 W4 := (hU2.trans hU3).trans (hU4.mono (fun k e => by
      rcases e with (e | e) | e
      · exact .inl e
      · exact .inr ⟨e.1, by have := hU3.size; omega⟩
      · exact .inr ⟨by have := hU2.size; omega, e.2⟩))
    have b14 : Below W.heap.size W1 W4 := u14.below hB1.size (fun k e => e.1)
    have b4 : Below W.heap.size W W4 := hB1.trans b14
    have z1 := b4.size
    have z2 := hB46.size
    have z3 := hB7.size
    exact ((b4.trans (hB46.mono z1)).trans (hB7.mono (by omega))).trans (hB8.mono (by omega))
  clear hB46 hB7 l7 l4 hB5 hB6 g1 g2 g3 g4 hU2 hU3 hU4 e6
  go_wp2_with (go_at_call 13; (with_reducible refine c5.mono ?_); rintro e w8 ⟨rfl, hB8⟩; clear c5)
  go_ret
  exact ⟨rfl, fin.out _ hB8⟩
end Go.Proofs.Ytaebnnkhjlidiaa.W
/- A heap that a statement made itself, and what it keeps beside it; Box of a string; Concat, Sub. -/
namespace Go.Proofs.Ytaebnnkhjlidiaa.W
open Go.ChangeShapes Go.WideShapes Go.RowKit Go.Shelf
set_option linter.unusedVariables false
/-- a heap that was made behind W0; what K names is none of its -/
def Hf (W0 W : World) (hb : Nat) (H : List (Option Hc)) (u : Nat) (K : Nat → Prop) : Prop := Below W0.heap.size W0 W ∧ ∃ S, HSt W S hb H u ∧ (∀ k, S k → W0.heap.size ≤ k ∧ k < W.heap.size) ∧ (∀ k, K k → k < W.heap.size ∧ ¬ S k)
section
variable {W0 W W1 W' : World} {hb : Nat} {H : List (Option Hc)} {u : Nat} {K K' : Nat → Prop}
theorem Hf.bel (q : Hf W0 W hb H u K) : Below W0.heap.size W0 W := q.1
theorem Hf.sub (q : Hf W0 W hb H u K) (h : ∀ k, K' k → K k) : Hf W0 W hb H u K' := by
  obtain ⟨h1, S, h2, h3, h4⟩ := q
  exact ⟨h1, S, h2, h3, fun k e => h4 k (h k e)⟩
theorem Hf.below (q : Hf W0 W hb H u K) (hB : Below W.heap.size W W') : Hf W0 W' hb H u (fun k => K k ∨ (W.heap.size ≤ k ∧ k < W'.heap.size)) := by
  obtain ⟨h1, S, h2, h3, h4⟩ := q
  have z := hB.size
  refine ⟨h1.trans (hB.mono h1.size), S, h2.below hB, fun k e => ⟨(h3 k e).1, by have := (h3 k e).2; omega⟩, ?_⟩
  rintro k (e | e)
  · exact ⟨by have := (h4 k e).1; omega, (h4 k e).2⟩
  · exact ⟨e.2, fun e2 => by have := (h3 k e2).2; omega⟩
theorem Hf.below' (q : Hf W0 W hb H u K) (hB : Below W.heap.size W W') : Hf W0 W' hb H u K := (q.below hB).sub (fun k e => .inl e)
/-- what is kept aside may be written -/
theorem Hf.upd {D : Nat → Prop} (q : Hf W0 W hb H u K) (hU : Upd D W W') (hD : ∀ k, D k → K k ∧ W0.heap.size ≤ k) : Hf W0 W' hb H u K := by
  obtain ⟨h1, S, h2, h3, h4⟩ := q
  have z := hU.size
  refine ⟨h1.trans (hU.below h1.size (fun k e => (hD k e).2)), S, h2.on z (fun k e hl => hU.block k hl (fun d => (h4 k (hD k d).1).2 e)), fun k e => ⟨(h3 k e).1, by have := (h3 k e).2; omega⟩, fun k e => ⟨by have := (h4 k e).1; omega, (h4 k e).2⟩⟩
theorem hf_new (hB : Below W0.heap.size W0 W) (u : Nat) (hu : u ≤ 1048576) : Calls Try.prog 11 #[.int .i64 u] W fun e w' => ∃ hb, e = .returned (.tuple #[.pointer (some ⟨hb, 0, none⟩), .int .i64 0]) ∧ Hf W0 w' hb [] u (fun k => k < W.heap.size) ∧ Below W.heap.size W w' := by
  refine (hnew_c u hu W).mono ?_
  rintro e w' ⟨hb, rfl, hB', g⟩
  have h1 := hB.size
  have h2 := hB'.size
  exact ⟨hb, rfl, ⟨hB.trans (hB'.mono h1), _, g, fun k e => ⟨by omega, e.2⟩, fun k e => ⟨by omega, fun e2 => by omega⟩⟩, hB'⟩
/-- what may change -/
def Ch (W0 : World) (K : Nat → Prop) : Nat → Prop := fun k => ¬ K k ∧ W0.heap.size ≤ k
theorem Hf.put {S : Nat → Prop} {H' : List (Option Hc)} (h0 : Below W0.heap.size W0 W1) (h3 : ∀ k, S k → W0.heap.size ≤ k ∧ k < W1.heap.size) (h4 : ∀ k, K k → k < W1.heap.size ∧ ¬ S k) (hU : Upd S W1 W') (g : HSt W' (Nx S W1 W') hb H' u) : Hf W0 W' hb H' u K ∧ Upd (Ch W0 K) W1 W' := by
  have z := hU.size
  have z0 := h0.size
  refine ⟨⟨h0.trans (hU.below z0 (fun k e => (h3 k e).1)), _, g, ?_, fun k e => ⟨by have := (h4 k e).1; omega, ?_⟩⟩, ⟨hU.os, hU.tape, hU.output, hU.size, fun k hk hn => hU.block k hk (fun e => hn ⟨fun e2 => (h4 k e2).2 e, (h3 k e).1⟩)⟩⟩
  · rintro k (e | e)
    · exact ⟨(h3 k e).1, by have := (h3 k e).2; omega⟩
    · exact ⟨by omega, e.2⟩
  · rintro (e2 | e2)
    · exact (h4 k e).2 e2
    · have := (h4 k e).1; omega
/-- what a string needs -/
def tneed (t : ByteArray) : Nat := 1 + (t.size + 7) / 8
theorem hf_text (q : Hf W0 W1 hb H u K) (t : ByteArray) (hl : t.size ≤ 8388608) (hf : sumH H + tneed t ≤ u) (vr : Value) (rs : List Nat) (hr : WordsAt W1 vr rs) :
    Calls Try.prog 12 #[.pointer (some ⟨hb, 0, none⟩), .agg #[.int .i64 4, .bool false, .int .i64 0, .string t, .slice none 0 0, .slice none 0 0, .int .u64 0, .int .i64 0, .int .i64 0], vr] W1 fun e w' => e = .returned (.tuple #[.int .u64 (hw (lid H) : Nat), .int .i64 0]) ∧ Hf W0 w' hb (putH H (lid H) (some (.text (strB t)))) u K ∧ Upd (Ch W0 K) W1 w' := by
  obtain ⟨h1, S, h2, h3, h4⟩ := q
  refine (put_text h2 (fun k e => (h3 k e).2) t hl none none 0 0 vr rs hr).mono ?_
  intro e w' hP
  have hf' : sumH H + (Hc.text (strB t)).need ≤ u := by rw [text_need]; exact hf
  have hrm : roomH H u (.text (strB t)) rs = H := by unfold roomH; rw [if_pos hf']
  rw [hrm] at hP
  obtain ⟨hU, ⟨_, rfl, g⟩ | ⟨hn, _⟩⟩ := hP
  · exact ⟨rfl, Hf.put h1 h3 h4 hU g⟩
  · omega
/-- behind a string that was boxed -/
def TxtPost (W0 W1 : World) (hb : Nat) (H : List (Option Hc)) (u : Nat) (K : Nat → Prop) (t : ByteArray) (e : Ending) (w' : World) : Prop := ∃ (w : Nat) (H' : List (Option Hc)), e = .returned (.tuple #[.int .u64 (w : Nat), .int .i64 0]) ∧ Hf W0 w' hb H' u K ∧ Ext H H' ∧ IsTxt H' w t ∧ sumH H' ≤ sumH H + tneed t ∧ H'.length ≤ H.length + 1 ∧ Upd (Ch W0 K) W1 w'
theorem TxtPost.two {t : ByteArray} {e : Ending} (h : TxtPost W0 W1 hb H u K t e W') : ∃ x y, e = .returned (.tuple #[.int .u64 x, .int .i64 y]) := by
  obtain ⟨w, H', rfl, _⟩ := h
  exact ⟨_, _, rfl⟩
theorem TxtPost.on {W2 : World} {t : ByteArray} {e : Ending} (hB : Below W1.heap.size W1 W2) (h : TxtPost W0 W2 hb H u K t e W') : TxtPost W0 W1 hb H u K t e W' := by
  obtain ⟨w, H', rfl, h1, h2, h3, h4, h5, h6⟩ := h
  exact ⟨w, H', rfl, h1, h2, h3, h4, h5, (Upd.of_below hB).trans' h6⟩
end
end Go.Proofs.Ytaebnnkhjlidiaa.W
/- Package text: box, Concat, Sub. -/
namespace Go.Proofs.Ytaebnnkhjlidiaa.W
open Go.ChangeShapes Go.WideShapes Go.RowKit Go.Shelf
set_option linter.unusedVariables false
section
variable {W0 W W1 W' : World} {hb : Nat} {H : List (Option Hc)} {u : Nat} {K K' : Nat → Prop}
end
end Go.Proofs.Ytaebnnkhjlidiaa.W
/- casketlaw8: awake, box. -/
namespace Go.Proofs.Ytaebnnkhjlidiaa.W
open Go.ChangeShapes Go.WideShapes Go.RowKit Go.Shelf
set_option linter.unusedVariables false
theorem words_lit (w : World) (ws : List Nat) (hl : ws.length ≤ 1000000) (h : ∀ x ∈ ws, x < 18446744073709551616) : WordsAt (w.alloc (.cells (ws.map (fun x => Value.int .u64 (x : Nat))).toArray 24)) (.slice (some ⟨w.heap.size, 0, none⟩) ws.length ws.length) ws := by
  have e0 := World.cell?_alloc_new w (ws.map (fun x => Value.int .u64 (x : Nat))).toArray 24
  refine ⟨_, _, rfl, by omega, h, fun i hi => ⟨_, rfl, ?_⟩⟩
  have e1 : ((⟨w.heap.size, 0, none⟩ : Addr).add i) = ⟨w.heap.size, i, none⟩ := by unfold Addr.add; split <;> simp_all
  rw [e1, e0 i]
  simp [hi]
theorem words_nil' (w : World) : WordsAt w (.slice none 0 0) [] := words_nil w none 0
theorem abc_abc : (⟨#[97, 98, 99]⟩ : ByteArray) ++ ⟨#[97, 98, 99]⟩ = ⟨#[97, 98, 99, 97, 98, 99]⟩ := by decide
section
variable {W0 W W1 W' : World} {hb : Nat} {H : List (Option Hc)} {u : Nat} {K K' : Nat → Prop}
end
end Go.Proofs.Ytaebnnkhjlidiaa.W
/- A row of words of a statement's own, beside its heap: append. -/
namespace Go.Proofs.Ytaebnnkhjlidiaa.W
open Go.ChangeShapes Go.WideShapes Go.RowKit Go.Shelf
set_option linter.unusedVariables false
/-- words, as they stand in a row -/
def wds (ws : List Nat) : List Value := ws.map (fun x => .int .u64 (x : Nat))
section
variable {W0 W W1 W' : World} {hb : Nat} {H : List (Option Hc)} {u : Nat} {K K' : Nat → Prop}
theorem Hf.upd' {D : Nat → Prop} (q : Hf W0 W hb H u K) (hU : Upd D W W') (hD : ∀ k, D k → K k ∧ W0.heap.size ≤ k) : Hf W0 W' hb H u (fun k => K k ∨ (W.heap.size ≤ k ∧ k < W'.heap.size)) := by
  obtain ⟨h1, S, h2, h3, h4⟩ := q
  have z := hU.size
  refine ⟨h1.trans (hU.below h1.size (fun k e => (hD k e).2)), S, h2.on z (fun k e hl => hU.block k hl (fun d => (h4 k (hD k d).1).2 e)), fun k e => ⟨(h3 k e).1, by have := (h3 k e).2; omega⟩, ?_⟩
  rintro k (e | e)
  · exact ⟨by have := (h4 k e).1; omega, (h4 k e).2⟩
  · exact ⟨e.2, fun e2 => by have := (h3 k e2).2; omega⟩
/-- a row of words of one's own -/
structure Mine (W0 W : World) (K : Nat → Prop) (v : Value) (ws : List Nat) : Prop where
  row : W.ownsRow W0.heap.size 24 1 v ws.length (wds ws)
  keep : ∀ k, v.ownBlock = some k → K k
  lt : ∀ x ∈ ws, x < 18446744073709551616
  len : ws.length ≤ 900000
theorem Mine.words {v : Value} {ws : List Nat} (o : Mine W0 W K v ws) : WordsAt W v ws := words_own o.row (by have := o.len; omega) o.lt
theorem Mine.upd {v : Value} {ws : List Nat} (o : Mine W0 W K v ws) (hU : Upd (Ch W0 K) W W') : Mine W0 W' K v ws :=
  ⟨owns_on o.row (fun k e => hU.block k (o.row.lt k e).2 (fun h => h.1 (o.keep k e))), o.keep, o.lt, o.len⟩
theorem Mine.below {v : Value} {ws : List Nat} (o : Mine W0 W K v ws) (hB : Below W.heap.size W W') : Mine W0 W' K v ws :=
  ⟨owns_on o.row (fun k e => hB.block k (o.row.lt k e).2), o.keep, o.lt, o.len⟩
theorem Mine.sub {v : Value} {ws : List Nat} (o : Mine W0 W K v ws) (h : ∀ k, K k → K' k) : Mine W0 W K' v ws := ⟨o.row, fun k e => h k (o.keep k e), o.lt, o.len⟩
theorem mine_nil (W0 W : World) (K : Nat → Prop) : Mine W0 W K (.slice none 0 0) [] := ⟨World.ownsRow_nil _ _ _ _, fun k e => (by cases e), fun x h => (by cases h), by decide⟩
theorem mine_lit (hB : W0.heap.size ≤ W.heap.size) (ws : List Nat) (h : ∀ x ∈ ws, x < 18446744073709551616) (hl : ws.length ≤ 900000) : Mine W0 (W.alloc (.cells (wds ws).toArray 24)) (fun k => W.heap.size ≤ k ∧ k < (W.alloc (.cells (wds ws).toArray 24)).heap.size) (.slice (some ⟨W.heap.size, 0, none⟩) ws.length ws.length) ws := by
  have hz : (wds ws).length = ws.length := by unfold wds; simp
  have h1 := World.ownsRow_lit (base := W0.heap.size) (e := 24) (size := 1) W (wds ws).toArray ws.length hB (by unfold maxLen; omega) (by simp [hz])
  refine ⟨by simpa using h1, fun k e => ?_, h, hl⟩
  cases e
  exact ⟨Nat.le_refl _, by rw [World.size_alloc]; exact Nat.lt_succ_self _⟩
/-- a word is put behind -/
theorem mine_append (q : Hf W0 W hb H u K) (ty : TypeId) (v : Value) (ws : List Nat) (o : Mine W0 W K v ws) (x : Nat) (hx : x < 18446744073709551616) (hl : ws.length < 900000) :
    ∃ v' w', (Builtin.append_ #[23, 23] ty #[v, .slice (some ⟨W.heap.size, 0, none⟩) 1 1]).run Try.prog (W.alloc (.cells #[.int .u64 (x : Nat)] 24)) = .ok v' w' ∧ Hf W0 w' hb H u (fun k => K k ∨ (W.heap.size ≤ k ∧ k < w'.heap.size)) ∧ Mine W0 w' (fun k => K k ∨ (W.heap.size ≤ k ∧ k < w'.heap.size)) v' (ws ++ [x]) ∧ Upd (fun k => v.ownBlock = some k) W w' := by
  obtain ⟨i0, hi, hz0, hz1, hz2⟩ := info_parts infoW
  have hB1 : Below W.heap.size W (W.alloc (.cells #[.int .u64 (x : Nat)] 24)) := (Below.refl _ W).alloc (Nat.le_refl _) _
  have z1 : (W.alloc (.cells #[.int .u64 (x : Nat)] 24)).heap.size = W.heap.size + 1 := World.size_alloc ..
  have e0 := World.cell?_alloc_new W #[.int .u64 (x : Nat)] 24
  have ho := o.row.alloc (.cells #[.int .u64 (x : Nat)] 24)
  obtain ⟨v', w', hrun, ho', hg, hk⟩ := append_at (P := Try.prog) (W.alloc (.cells #[.int .u64 (x : Nat)] 24)) 23 ty 24 i0 (.int .u64 0) 1 8 underW hi hz0 hz1 hz2 rfl (by omega) v ws.length (wds ws) (owns_base ho (fun _ _ => Nat.zero_le _)) ⟨W.heap.size, 0, none⟩ 1 1 [.int .u64 (x : Nat)] (by simp) (by
    intro j y hj
    have hj0 : j = 0 := by have := (List.getElem?_eq_some_iff.1 hj).1; simp at this; exact this
    subst hj0
    simp at hj
    subst hj
    have e1 : ((⟨W.heap.size, 0, none⟩ : Addr).add 0) = ⟨W.heap.size, 0, none⟩ := by unfold Addr.add; split <;> simp_all
    rw [e1, e0 0]; rfl) (by intro y hy; simp at hy; rw [hy]; rfl) (by omega) (by omega) (by omega)
  have hlo : ∀ k, v.ownBlock = some k → W0.heap.size ≤ k ∧ k < W.heap.size := fun k e => o.row.lt k e
  have q0 := q.1.size
  have hU1 : Upd (fun k => v.ownBlock = some k) (W.alloc (.cells #[.int .u64 (x : Nat)] 24)) w' := (Upd.refl _ _).grown hg (fun k e => .inl e)
  have hU : Upd (fun k => v.ownBlock = some k) W w' := (Upd.of_below hB1).trans' hU1
  refine ⟨v', w', hrun, q.upd' hU (fun k e => ⟨o.keep k e, (hlo k e).1⟩), ⟨?_, ?_, ?_, by simp; omega⟩, hU⟩
  · have := owns_base ho' (b' := W0.heap.size) (fun g e => by rcases hk g e with e | e
                                                              · exact (hlo g e).1
                                                              · omega)
    unfold wds at *
    rw [List.length_append, List.map_append]
    exact this
  · intro k e
    rcases hk k e with e | e
    · exact .inl (o.keep k e)
    · exact .inr ⟨by omega, e.2⟩
  · intro y hy
    rcases List.mem_append.1 hy with h | h
    · exact o.lt y h
    · simp at h; rw [h]; exact hx
end
/-- behind casketlaw8's box -/
def LPost (W0 : World) (hb : Nat) (H : List (Option Hc)) (u : Nat) (K : Nat → Prop) (t : ByteArray) (e : Ending) (w' : World) : Prop := ∃ (w : Nat) (H' : List (Option Hc)), e = .returned (.tuple #[.int .u64 (w : Nat), .bool true]) ∧ Hf W0 w' hb H' u K ∧ Ext H H' ∧ IsTxt H' w t ∧ sumH H' ≤ sumH H + tneed t ∧ H'.length ≤ H.length + 1
section
variable {W0 W W1 W' : World} {hb : Nat} {H : List (Option Hc)} {u : Nat} {K K' : Nat → Prop}
end
theorem tn_le (t : ByteArray) (n : Nat) (h : t.size ≤ n) : tneed t ≤ 1 + (n + 7) / 8 := by unfold tneed; omega
end Go.Proofs.Ytaebnnkhjlidiaa.W
/- Box, told whole: of numbers, doubles and strings, beside what is kept; what all of it takes. -/
namespace Go.Proofs.Ytaebnnkhjlidiaa.W
open Go.ChangeShapes Go.WideShapes Go.RowKit Go.Shelf
set_option linter.unusedVariables false
/-- each cell is a root -/
def AllR (H : List (Option Hc)) (ws : List Nat) : Prop := ∀ (i : Nat) (c : Hc), H[i]? = some (some c) → ∃ w ∈ ws, hit H w = some i
theorem hit_ext {H H' : List (Option Hc)} (he : Ext H H') {w i : Nat} (h : hit H w = some i) : hit H' w = some i := by
  unfold hit at h ⊢
  split at h
  · rename_i c
    cases h
    have : ∃ x, H[w % 281474976710656]? = some (some x) := by
      have c2 := c.2
      cases e : H[w % 281474976710656]? with
      | none => rw [e] at c2; cases c2
      | some o => cases o with
        | none => rw [e] at c2; cases c2
        | some x => exact ⟨x, rfl⟩
    obtain ⟨x, hx⟩ := this
    rw [if_pos ⟨c.1, by rw [he _ _ hx]; rfl⟩]
  · cases h
theorem allR_put {H : List (Option Hc)} {ws : List Nat} (h : AllR H ws) (c : Hc) (hl : lid H < 281474976710656) : AllR (putH H (lid H) (some c)) (ws ++ [hw (lid H)]) := by
  intro i x hx
  by_cases e : i = lid H
  · subst e
    exact ⟨hw (lid H), by simp, hit_hw hl (putH_self H _)⟩
  · rw [putH_ne H _ i e] at hx
    obtain ⟨w, hw1, hw2⟩ := h i x hx
    exact ⟨w, List.mem_append_left _ hw1, hit_ext (ext_put H c) hw2⟩
theorem allR_snoc {H : List (Option Hc)} {ws : List Nat} (h : AllR H ws) (w : Nat) : AllR H (ws ++ [w]) := by
  intro i x hx
  obtain ⟨v, h1, h2⟩ := h i x hx
  exact ⟨v, List.mem_append_left _ h1, h2⟩
theorem allR_reach {H : List (Option Hc)} {ws : List Nat} (h : AllR H ws) : reachN H ws = sumH H := by
  have := zip_all (H := H) (ws := ws) (fun i c hc => by obtain ⟨w, h1, h2⟩ := h i c hc; exact .root w i h1 h2)
  unfold reachN
  rw [← zipK_sum, this]
/-- a word of a whole number -/
def IsInt (H : List (Option Hc)) (w : Nat) (i : Int) : Prop := (smallB i = true ∧ (w : Int) = intW i) ∨ ∃ id, w = hw id ∧ id < 281474976710656 ∧ H[id]? = some (some (.num i))
theorem IsInt.ext {H H' : List (Option Hc)} {w : Nat} {i : Int} (h : IsInt H w i) (he : Ext H H') : IsInt H' w i := by
  rcases h with h | ⟨id, h1, h2, h3⟩
  · exact .inl h
  · exact .inr ⟨id, h1, h2, he _ _ h3⟩
theorem IsInt.cls {H : List (Option Hc)} {w : Nat} {i : Int} (h : IsInt H w i) : ¬ cls (w : Int) = 7 := by
  rcases h with ⟨h1, h2⟩ | ⟨id, rfl, h2, h3⟩
  · rw [h2, intW_cls i h1]; decide
  · rw [cls_hw id h2]; decide
theorem IsTxt.cls {H : List (Option Hc)} {w : Nat} {t : ByteArray} (h : IsTxt H w t) : ¬ W.cls (w : Int) = 7 := by
  rcases h with ⟨h1, h2⟩ | ⟨id, rfl, h2, h3⟩
  · rw [h2, txtW_cls t h1]; decide
  · rw [cls_hw id h2]; decide
/-- what a whole number takes -/
def nI (i : Int) : Nat := if smallB i = true then 0 else 2
/-- what a string takes -/
def nT (t : ByteArray) : Nat := if t.size ≤ 5 then 0 else tneed t
theorem num_need (i : Int) : (Hc.num i).need = 2 := by
  unfold Hc.need
  rw [show (Hc.num i).bytes.length = 8 from le8_len _]
/-- behind a value that was boxed -/
def BPost (W0 W1 : World) (hb : Nat) (H : List (Option Hc)) (u : Nat) (K : Nat → Prop) (V : List (Option Hc) → Nat → Prop) (n : Nat) (e : Ending) (w' : World) : Prop := ∃ (w : Nat) (H' : List (Option Hc)), e = .returned (.tuple #[.int .u64 (w : Nat), .int .i64 0]) ∧ Hf W0 w' hb H' u K ∧ Ext H H' ∧ V H' w ∧ sumH H' = sumH H + n ∧ H'.length ≤ H.length + 1 ∧ (∀ ws, AllR H ws → AllR H' (ws ++ [w])) ∧ w < 18446744073709551616 ∧ Upd (Ch W0 K) W1 w'
section
variable {W0 W W1 W' : World} {hb : Nat} {H : List (Option Hc)} {u : Nat} {K K' : Nat → Prop}
theorem BPost.two {V : List (Option Hc) → Nat → Prop} {n : Nat} {e : Ending} (h : BPost W0 W1 hb H u K V n e W') : ∃ x y, e = .returned (.tuple #[.int .u64 x, .int .i64 y]) := by
  obtain ⟨w, H', rfl, _⟩ := h
  exact ⟨_, _, rfl⟩
theorem BPost.on {W2 : World} {V : List (Option Hc) → Nat → Prop} {n : Nat} {e : Ending} (hB : Below W1.heap.size W1 W2) (h : BPost W0 W2 hb H u K V n e W') : BPost W0 W1 hb H u K V n e W' := by
  obtain ⟨w, H', rfl, h1, h2, h3, h4, h5, h6, h7, h8⟩ := h
  exact ⟨w, H', rfl, h1, h2, h3, h4, h5, h6, h7, (Upd.of_below hB).trans' h8⟩
theorem hf_num (q : Hf W0 W1 hb H u K) (i : Int) (h0 : -9223372036854775808 ≤ i) (h1 : i < 9223372036854775808) (hf : sumH H + 2 ≤ u) (vr : Value) (rs : List Nat) (hr : WordsAt W1 vr rs) :
    Calls Try.prog 12 #[.pointer (some ⟨hb, 0, none⟩), .agg #[.int .i64 2, .bool false, .int .i64 i, .string ⟨#[]⟩, .slice none 0 0, .slice none 0 0, .int .u64 0, .int .i64 0, .int .i64 0], vr] W1 fun e w' => e = .returned (.tuple #[.int .u64 (hw (lid H) : Nat), .int .i64 0]) ∧ Hf W0 w' hb (putH H (lid H) (some (.num i))) u K ∧ Upd (Ch W0 K) W1 w' := by
  obtain ⟨g1, S, h2, h3, h4⟩ := q
  refine (put_num h2 (fun k e => (h3 k e).2) i h0 h1 none none 0 0 vr rs hr).mono ?_
  intro e w' hP
  have hf' : sumH H + (Hc.num i).need ≤ u := by rw [num_need]; exact hf
  have hrm : roomH H u (.num i) rs = H := by unfold roomH; rw [if_pos hf']
  rw [hrm] at hP
  obtain ⟨hU, ⟨_, rfl, g⟩ | ⟨hn, _⟩⟩ := hP
  · exact ⟨rfl, Hf.put g1 h3 h4 hU g⟩
  · omega
theorem hf_reach (q : Hf W0 W1 hb H u K) (vr : Value) (rs : List Nat) (hr : WordsAt W1 vr rs) :
    Calls Try.prog 13 #[.pointer (some ⟨hb, 0, none⟩), vr] W1 fun e w' => e = .returned (.int .i64 (reachN H rs : Nat)) ∧ Below W1.heap.size W1 w' := by
  obtain ⟨_, S, ⟨sb, vc, T, l, _, _, _, hs⟩, _⟩ := q
  have hu := l.u1
  refine (hreach_c l (by omega) vr rs hr).mono ?_
  rintro e w' ⟨rfl, hB'⟩
  exact ⟨rfl, hB'⟩
/-- a copy of a row of words -/
theorem copy_run (ty : TypeId) (v : Value) (ws : List Nat) (h : WordsAt W1 v ws) (hl : ws.length ≤ 900000) : ∃ v' w', (Builtin.append_ #[23, 23] ty #[.slice (some ⟨W1.heap.size, 0, none⟩) 0 0, v]).run Try.prog (W1.alloc (.cells #[] 24)) = .ok v' w' ∧ WordsAt w' v' ws ∧ Below W1.heap.size W1 w' := by
  have hB1 : Below W1.heap.size W1 (W1.alloc (.cells #[] 24)) := (Below.refl _ W1).alloc (Nat.le_refl _) _
  have h0 := World.ownsRow_lit (base := W1.heap.size) (e := 24) (size := 1) W1 #[] 0 (Nat.le_refl _) (by simp) (by simp)
  obtain ⟨v', w', hrun, ho, hg⟩ := app_words (W1.alloc (.cells #[] 24)) W1.heap.size ty hB1.size (.slice (some ⟨W1.heap.size, 0, none⟩) 0 0) 0 [] h0 v ws (words_below h hB1) (by omega)
  have hU : Upd (fun k => W1.heap.size ≤ k) (W1.alloc (.cells #[] 24)) w' := (Upd.refl _ _).grown hg (fun k e => .inl (by cases e; exact Nat.le_refl _))
  have h64 := h.choose_spec.choose_spec.2.2.1
  refine ⟨v', w', hrun, words_own (B := W1.heap.size) (by simpa using ho) (by omega) h64, hB1.trans (hU.below hB1.size (fun k e => e))⟩
end
end Go.Proofs.Ytaebnnkhjlidiaa.W
/- Package heap: save, of a buffer. -/
namespace Go.Proofs.Ytaebnnkhjlidiaa.W
open Go.ChangeShapes Go.WideShapes Go.RowKit Go.Shelf
set_option linter.unusedVariables false
section
variable {W W' : World} {hb sb : Nat} {vc : Value} {T : Nat → Prop} {H : List (Option Hc)} {u h : Nat}
theorem mkc_buf (k : Int) (hk : elB k > 0) (n : Nat) (h : n ≤ 8388608) : Mkc (Hc.buf k) n := ⟨fun b => rfl, fun b b' => rfl, fun b hb hl => ⟨hk, hb, by omega⟩⟩
theorem save_buf (g : HLay W hb sb vc T H u h) (id : Nat) (k : Int) (hk : elB k > 0) (bs : List Nat) (hb256 : ∀ x ∈ bs, x < 256) (hc : H[id]? = some (some (.buf k (List.replicate bs.length 0)))) (hl : bs.length ≤ 8388608) (ob ow : Option Addr) (bc wc : Nat) (hcap : bs.length ≤ bc) (hv : ByteRow W ob bs) (ho : ∀ x, ob = some x → ¬ T x.block ∧ x.block < W.heap.size) :
    Calls Try.prog 47 #[.pointer (some ⟨hb, 0, none⟩), .int .i64 id, .agg #[.int .i64 k, .bool false, .int .i64 0, .string ByteArray.empty, .slice ob bs.length bc, .slice ow 0 wc, .int .u64 0, .int .i64 0, .int .i64 0]] W fun e w' => e = .returned (.tuple #[]) ∧ Upd T W w' ∧ HLay w' hb sb vc T (H.set id (some (.buf k bs))) u h := by
  have hBa : Below W.heap.size W (W.alloc (.cells #[.int .i64 k, .bool false, .int .i64 0, .string ByteArray.empty, .slice ob bs.length bc, .slice ow 0 wc, .int .u64 0, .int .i64 0, .int .i64 0] 26)) := (Below.refl _ W).alloc (Nat.le_refl _) _
  have ga := g.below hBa
  have hsa := hBa.size
  have cs : ∀ w, Calls Try.prog 36 #[.int .i64 k, .bool false] w fun e w' => e = .returned (.int .i64 3) ∧ w' = w := fun w => shape_buf k hk w
  have cb := saveBytes_c ga (Hc.buf k) bs (mkc_buf k hk _ hl) hb256 hl id hc ob bc hcap (byteRow_upd hv (Upd.of_below (S := fun _ => False) hBa) (fun x e hF => hF)) (fun x e => ⟨(ho x e).1, Nat.lt_of_lt_of_le (ho x e).2 hsa⟩)
  have c4 := World.cell?_alloc_new W #[.int .i64 k, .bool false, .int .i64 0, .string ByteArray.empty, .slice ob bs.length bc, .slice ow 0 wc, .int .u64 0, .int .i64 0, .int .i64 0] 26 4
  simp only [List.getElem?_toArray, List.getElem?_cons_succ, List.getElem?_cons_zero] at c4
  have fin : Hid (∀ w2, Upd T (W.alloc (.cells #[.int .i64 k, .bool false, .int .i64 0, .string ByteArray.empty, .slice ob bs.length bc, .slice ow 0 wc, .int .u64 0, .int .i64 0, .int .i64 0] 26)) w2 → Upd T W w2) := by
    show ∀ w2, _
    intro w2 hU
    exact (Upd.of_below hBa).trans' hU
  clear ga hsa hBa g hv
  go_enter Try.func47, Try.ntmps47
  go_wp2_with (first | (go_at_call 36; (with_reducible refine (cs _).mono ?_); rintro e w' ⟨rfl, hw⟩; (have hw' := hw.symm); subst hw'; clear hw) | (go_at_call 66; (with_reducible refine cb.mono ?_); rintro e w2 ⟨rfl, hU2, hL2⟩; clear cb))
  go_end0
  exact ⟨rfl, fin.out _ hU2, hL2⟩
end
end Go.Proofs.Ytaebnnkhjlidiaa.W
/- Package heap: load and Get, of a buffer and of a view. -/
namespace Go.Proofs.Ytaebnnkhjlidiaa.W
open Go.ChangeShapes Go.WideShapes Go.RowKit Go.Shelf
set_option linter.unusedVariables false
theorem nine_far (w : World) (gb : Nat) (v0 v1 v2 v3 v4 v5 v6 v7 v8 : Value) (k : Nat) (h : k ≠ gb) : (((((((((w.setCell ⟨gb, 0, none⟩ v0).setCell ⟨gb, 1, none⟩ v1).setCell ⟨gb, 2, none⟩ v2).setCell ⟨gb, 3, none⟩ v3).setCell ⟨gb, 4, none⟩ v4).setCell ⟨gb, 5, none⟩ v5).setCell ⟨gb, 6, none⟩ v6).setCell ⟨gb, 7, none⟩ v7).setCell ⟨gb, 8, none⟩ v8).heap[k]? = w.heap[k]? := by
  rw [Below.heap_setCell _ _ _ _ h, Below.heap_setCell _ _ _ _ h, Below.heap_setCell _ _ _ _ h, Below.heap_setCell _ _ _ _ h, Below.heap_setCell _ _ _ _ h, Below.heap_setCell _ _ _ _ h, Below.heap_setCell _ _ _ _ h, Below.heap_setCell _ _ _ _ h, Below.heap_setCell _ _ _ _ h]
section
variable {W W' : World} {hb sb : Nat} {vc : Value} {T : Nat → Prop} {H : List (Option Hc)} {u h : Nat}
set_option maxHeartbeats 1000000 in
theorem load_buf (g : HLay W hb sb vc T H u h) (id : Nat) (k : Int) (bs : List Nat) (hc : H[id]? = some (some (.buf k bs))) :
    Calls Try.prog 29 #[.pointer (some ⟨hb, 0, none⟩), .int .i64 id] W fun e w' => ∃ gb, e = .returned (.agg #[.int .i64 k, .bool false, .int .i64 0, .string ⟨#[]⟩, .slice (some ⟨gb, 0, none⟩) bs.length bs.length, .slice none 0 0, .int .u64 0, .int .i64 0, .int .i64 0]) ∧ W.heap.size + 1 ≤ gb ∧ Below W.heap.size W w' ∧ w'.ownsRow (W.heap.size + 1) 5 1 (.slice (some ⟨gb, 0, none⟩) bs.length bs.length) bs.length (bs.map byteV) := by
  have hidl : id < H.length := (List.getElem?_eq_some_iff.1 hc).1
  obtain ⟨b, cap, hvc, hcell, _⟩ := g.at hidl
  have c1 := g.cell 1
  simp only [List.getElem?_cons_succ, List.getElem?_cons_zero] at c1
  rw [hvc] at c1
  have k0 := hcell 0 _ hc (by omega)
  have k1 := hcell 1 _ hc (by omega)
  have k2 := hcell 2 _ hc (by omega)
  have k3 := hcell 3 _ hc (by omega)
  have k4 := hcell 4 _ hc (by omega)
  simp only [clO, Hc.cl, Cl.cells, List.getElem?_cons_succ, List.getElem?_cons_zero, Nat.add_zero] at k0 k1 k2 k3 k4
  have j0 : (0 : Int) ≤ id := by omega
  have j1 : (id : Int) < H.length := by omega
  have ho := g.ok id _ hc
  have hk : elB k > 0 := ho.1
  have cs : ∀ w, Calls Try.prog 36 #[.int .i64 k, .bool false] w fun e w' => e = .returned (.int .i64 3) ∧ w' = w := fun w => shape_buf k hk w
  clear hcell
  have hB1 : Below W.heap.size W (W.alloc (.cells #[.int .i64 0, .bool false, .int .i64 0, .string ⟨#[]⟩, .slice none 0 0, .slice none 0 0, .int .u64 0, .int .i64 0, .int .i64 0] 26)) := (Below.refl _ W).alloc (Nat.le_refl _) _
  have hs1 : (W.alloc (.cells #[.int .i64 0, .bool false, .int .i64 0, .string ⟨#[]⟩, .slice none 0 0, .slice none 0 0, .int .u64 0, .int .i64 0, .int .i64 0] 26)).heap.size = W.heap.size + 1 := World.size_alloc ..
  have e1 := World.cell?_alloc_new W #[.int .i64 0, .bool false, .int .i64 0, .string ⟨#[]⟩, .slice none 0 0, .slice none 0 0, .int .u64 0, .int .i64 0, .int .i64 0] 26
  have f1 := World.alloc_heap_new W (.cells #[.int .i64 0, .bool false, .int .i64 0, .string ⟨#[]⟩, .slice none 0 0, .slice none 0 0, .int .u64 0, .int .i64 0, .int .i64 0] 26)
  go_enter Try.func29, Try.ntmps29
  go_upto_region 1 with fail
  have c1' := below_cell hB1 c1
  have k0' := below_cell hB1 k0
  have k1' := below_cell hB1 k1
  have k2' := below_cell hB1 k2
  have k3' := below_cell hB1 k3
  have k4' := below_cell hB1 k4
  generalize hW1 : W.alloc (.cells #[.int .i64 0, .bool false, .int .i64 0, .string ⟨#[]⟩, .slice none 0 0, .slice none 0 0, .int .u64 0, .int .i64 0, .int .i64 0] 26) = W1 at *
  clear c1 k0 k1 k2 k3 k4 hW1
  go_upto_region 2 with fail
  have hBc : Below W1.heap.size W1 (W1.alloc (.cells #[.int .i64 k, .bool false, .int .u64 0, .int .i64 0, .int .i64 0] 76)) := (Below.refl _ W1).alloc (Nat.le_refl _) _
  have fC := World.alloc_heap_new W1 (.cells #[.int .i64 k, .bool false, .int .u64 0, .int .i64 0, .int .i64 0] 76)
  rw [hs1] at fC
  have hsc : (W1.alloc (.cells #[.int .i64 k, .bool false, .int .u64 0, .int .i64 0, .int .i64 0] 76)).heap.size = W.heap.size + 2 := by rw [World.size_alloc, hs1]
  generalize World.alloc W1 _ = Wc at *
  have eC := fun j => cell_of_row Wc (W.heap.size + 1) j _ _ _ fC
  go_upto_region 3 with (go_at_call 49; (with_reducible refine (bare_c k false 0 0 0 _).mono ?_); rintro e wb ⟨rfl, hBb⟩)
  have hbz := hBb.size
  have fO := World.alloc_heap_new wb (.cells #[.int .i64 k, .bool false, .int .i64 0, .string ⟨#[]⟩, .slice none 0 0, .slice none 0 0, .int .u64 0, .int .i64 0, .int .i64 0] 26)
  have hBd : Below wb.heap.size wb (wb.alloc (.cells #[.int .i64 k, .bool false, .int .i64 0, .string ⟨#[]⟩, .slice none 0 0, .slice none 0 0, .int .u64 0, .int .i64 0, .int .i64 0] 26)) := (Below.refl _ wb).alloc (Nat.le_refl _) _
  have hB3 : Below W1.heap.size W1 (wb.alloc (.cells #[.int .i64 k, .bool false, .int .i64 0, .string ⟨#[]⟩, .slice none 0 0, .slice none 0 0, .int .u64 0, .int .i64 0, .int .i64 0] 26)) := (hBc.trans (hBb.mono (by omega))).trans (hBd.mono (by omega))
  have fC3 := (hBd.block (W.heap.size + 1) (by omega)).trans ((hBb.block (W.heap.size + 1) (by omega)).trans fC)
  obtain ⟨nb, hnb⟩ : ∃ nb, wb.heap.size = nb := ⟨_, rfl⟩
  rw [hnb] at fO
  rw [hnb]
  have hO2 : W.heap.size + 2 ≤ nb := by omega
  clear hnb hBd hBb hBc fC eC hsc hbz
  generalize World.alloc wb _ = W3 at *
  have eO := fun j => cell_of_row W3 nb j _ _ _ fO
  have eC3 := fun j => cell_of_row W3 (W.heap.size + 1) j _ _ _ fC3
  have hs3 := (Array.getElem?_eq_some_iff.1 fO).1
  have hs2 := hs3
  clear fC3
  have eR3 : ∀ j, W3.cell? ⟨W.heap.size, j, none⟩ = #[.int .i64 0, .bool false, .int .i64 0, .string ⟨#[]⟩, .slice none 0 0, .slice none 0 0, .int .u64 0, .int .i64 0, .int .i64 0][j]? := by
    intro j
    rw [World.cell?_of_block (hB3.block W.heap.size (by omega))]
    exact e1 j
  have hBW : Below W.heap.size W W3 := hB1.trans (hB3.mono hB1.size)
  have g3 := g.below hBW
  have fR : W3.heap[W.heap.size]? = some (.cells #[.int .i64 0, .bool false, .int .i64 0, .string ⟨#[]⟩, .slice none 0 0, .slice none 0 0, .int .u64 0, .int .i64 0, .int .i64 0] 26) := (hB3.block W.heap.size (by omega)).trans f1
  have c0 := g3.cell 0
  simp only [List.getElem?_cons_zero] at c0
  have cl := loadBytes_c g3 id _ hc bs rfl ho.2.1 (by have := ho.2.2; exact this)
  have kp : Hid (∀ w4, Below W3.heap.size W3 w4 → w4.heap[W.heap.size]? = some (.cells #[.int .i64 0, .bool false, .int .i64 0, .string ⟨#[]⟩, .slice none 0 0, .slice none 0 0, .int .u64 0, .int .i64 0, .int .i64 0] 26) ∧ w4.heap[nb]? = some (.cells #[.int .i64 k, .bool false, .int .i64 0, .string ⟨#[]⟩, .slice none 0 0, .slice none 0 0, .int .u64 0, .int .i64 0, .int .i64 0] 26)) := by
    show ∀ w4, _
    intro w4 hB4
    exact ⟨(hB4.block _ (by omega)).trans fR, (hB4.block _ (by omega)).trans fO⟩
  clear eR3 fR fO g3 e1 c1' k0' k1' k2' k3' k4' f1
  go_upto_region 10 with (go_at_call 36; (with_reducible refine (cs _).mono ?_); rintro e w' ⟨rfl, hw⟩; (have hw' := hw.symm); subst hw'; clear hw)
  have HBW := hid hBW
  have HS3 := hid hs3
  clear g ho hc hBW hB1 hB3 hs1 hs2 hs3 j0 j1 hk
  generalize hnn : bs.length = nn at *
  go_wp2_with (go_at_call 51; (with_reducible refine cl.mono ?_); rintro e w4 ⟨gb, rfl, hgb, hB4, hown⟩; clear cl; (obtain ⟨fR, fO⟩ := kp.out w4 hB4); (have eR := fun j => cell_of_row w4 W.heap.size j _ _ _ fR); (have eO := fun j => cell_of_row w4 (nb) j _ _ _ fO); (have zR := (fun j => by simp [World.frozen?, fR] : ∀ j, w4.frozen? ⟨W.heap.size, j, none⟩ = false)); (have zO := (fun j => by simp [World.frozen?, fO] : ∀ j, w4.frozen? ⟨nb, j, none⟩ = false)); (have FR := hid fR); (have HB4 := hid hB4); (have HO := hid hown); (have HG := hid hgb); clear fR fO hB4 hown hgb)
  subst hnn
  have hBf : Below W.heap.size W w4 := HBW.out.trans (HB4.out.mono HBW.out.size)
  refine bodyPost_ret (cell_ret rfl _ _ W.heap.size _ _ _ _ _ _ _ _ _ (0, 0) rfl (nine_set ((Below.heap_setCell _ _ _ _ (by show W.heap.size ≠ nb; omega)).trans FR.out) _ _ _ _ _ _ _ _ _)) rfl ?_
  have hge : W.heap.size + 3 ≤ gb := by have := HG.out; have := HS3.out; omega
  refine ⟨gb, rfl, by omega, nine_below (hBf.setCell (p := ⟨nb, 4, none⟩) (by show W.heap.size ≤ nb; omega) _) (Nat.le_refl _) _ _ _ _ _ _ _ _ _, ?_⟩
  refine owns_on (owns_base HO.out (fun g e => by cases e; show W.heap.size + 1 ≤ gb; omega)) (fun q e => ?_)
  cases e
  refine (nine_far _ _ _ _ _ _ _ _ _ _ _ gb (by omega)).trans (Below.heap_setCell _ _ _ _ ?_)
  show gb ≠ nb
  have := HG.out; have := HS3.out; omega
theorem get_buf (g : HLay W hb sb vc T H u h) (w : Nat) (hw : w < 18446744073709551616) (id : Nat) (hi : hit H w = some id) (k : Int) (bs : List Nat) (hc : H[id]? = some (some (.buf k bs))) :
    Calls Try.prog 14 #[.pointer (some ⟨hb, 0, none⟩), .int .u64 w] W fun e w' => ∃ gb, e = .returned (.tuple #[.agg #[.int .i64 k, .bool false, .int .i64 0, .string ⟨#[]⟩, .slice (some ⟨gb, 0, none⟩) bs.length bs.length, .slice none 0 0, .int .u64 0, .int .i64 0, .int .i64 0], .int .i64 0]) ∧ W.heap.size ≤ gb ∧ Below W.heap.size W w' ∧ w'.ownsRow W.heap.size 5 1 (.slice (some ⟨gb, 0, none⟩) bs.length bs.length) bs.length (bs.map byteV) := by
  have hB1 : Below W.heap.size W (W.alloc (.cells #[.int .i64 0, .bool false, .int .i64 0, .string ⟨#[]⟩, .slice none 0 0, .slice none 0 0, .int .u64 0, .int .i64 0, .int .i64 0] 26)) := (Below.refl _ W).alloc (Nat.le_refl _) _
  have hs1 : (W.alloc (.cells #[.int .i64 0, .bool false, .int .i64 0, .string ⟨#[]⟩, .slice none 0 0, .slice none 0 0, .int .u64 0, .int .i64 0, .int .i64 0] 26)).heap.size = W.heap.size + 1 := World.size_alloc ..
  have f1 := World.alloc_heap_new W (.cells #[.int .i64 0, .bool false, .int .i64 0, .string ⟨#[]⟩, .slice none 0 0, .slice none 0 0, .int .u64 0, .int .i64 0, .int .i64 0] 26)
  have cf := find_c (g.below hB1) w hw
  rw [hi] at cf
  simp only [Option.getD_some, Option.isSome_some] at cf
  have cl := load_buf (g.below hB1) id k bs hc

  have kp : Hid (∀ w4, Below (W.alloc (.cells #[.int .i64 0, .bool false, .int .i64 0, .string ⟨#[]⟩, .slice none 0 0, .slice none 0 0, .int .u64 0, .int .i64 0, .int .i64 0] 26)).heap.size (W.alloc (.cells #[.int .i64 0, .bool false, .int .i64 0, .string ⟨#[]⟩, .slice none 0 0, .slice none 0 0, .int .u64 0, .int .i64 0, .int .i64 0] 26)) w4 → w4.heap[W.heap.size]? = some (.cells #[.int .i64 0, .bool false, .int .i64 0, .string ⟨#[]⟩, .slice none 0 0, .slice none 0 0, .int .u64 0, .int .i64 0, .int .i64 0] 26) ∧ Below W.heap.size W w4) := by
    show ∀ w4, _
    intro w4 hB4
    exact ⟨(hB4.block _ (by omega)).trans f1, hB1.trans (hB4.mono hB1.size)⟩
  clear hc
  generalize hnn : bs.length = nn at *
  go_enter Try.func14, Try.ntmps14
  go_upto_region 1 with fail
  generalize W.alloc (.cells #[.int .i64 0, .bool false, .int .i64 0, .string ⟨#[]⟩, .slice none 0 0, .slice none 0 0, .int .u64 0, .int .i64 0, .int .i64 0] 26) = W1 at *
  go_wp2_with (first | (go_at_call 28; (with_reducible refine cf.mono ?_); rintro e w' ⟨rfl, hw⟩; (have hw' := hw.symm); subst hw'; clear hw cf) | (go_at_call 29; (with_reducible refine cl.mono ?_); rintro e w4 ⟨gb, rfl, hgb, hB4, hown⟩; clear cl; (obtain ⟨fR, hBf⟩ := kp.out w4 hB4); (have HO := hid hown); (have HG := hid hgb); clear hown hgb; (have eR := fun j => cell_of_row w4 W.heap.size j _ _ _ fR); (have zR := (fun j => by simp [World.frozen?, fR] : ∀ j, w4.frozen? ⟨W.heap.size, j, none⟩ = false)); (have FR := hid fR); clear fR))
  refine bodyPost_ret (cell_ret2 rfl _ _ W.heap.size _ _ _ _ _ _ _ _ _ (0, 0) rfl (nine_set FR.out _ _ _ _ _ _ _ _ _)) rfl ?_
  subst hnn
  refine ⟨gb, rfl, by have := HG.out; omega, nine_below hBf (Nat.le_refl _) _ _ _ _ _ _ _ _ _, ?_⟩
  refine owns_on (owns_base HO.out (fun g e => by cases e; show W.heap.size ≤ gb; have := HG.out; omega)) (fun q e => ?_)
  cases e
  exact nine_far _ _ _ _ _ _ _ _ _ _ _ gb (by have := HG.out; omega)
set_option maxHeartbeats 1000000 in
theorem load_view (g : HLay W hb sb vc T H u h) (id : Nat) (k : Int) (ba p n : Nat) (hc : H[id]? = some (some (.view k ba p n))) :
    Calls Try.prog 29 #[.pointer (some ⟨hb, 0, none⟩), .int .i64 id] W fun e w' => e = .returned (.agg #[.int .i64 k, .bool true, .int .i64 0, .string ⟨#[]⟩, .slice none 0 0, .slice none 0 0, .int .u64 ba, .int .i64 p, .int .i64 n]) ∧ Below W.heap.size W w' := by
  have hidl : id < H.length := (List.getElem?_eq_some_iff.1 hc).1
  obtain ⟨b, cap, hvc, hcell, _⟩ := g.at hidl
  have c1 := g.cell 1
  simp only [List.getElem?_cons_succ, List.getElem?_cons_zero] at c1
  rw [hvc] at c1
  have k0 := hcell 0 _ hc (by omega)
  have k1 := hcell 1 _ hc (by omega)
  have k2 := hcell 2 _ hc (by omega)
  have k3 := hcell 3 _ hc (by omega)
  have k4 := hcell 4 _ hc (by omega)
  simp only [clO, Hc.cl, Cl.cells, List.getElem?_cons_succ, List.getElem?_cons_zero, Nat.add_zero] at k0 k1 k2 k3 k4
  have j0 : (0 : Int) ≤ id := by omega
  have j1 : (id : Int) < H.length := by omega
  have ho := g.ok id _ hc
  have hk : elB k > 0 := ho.1
  have cs : ∀ w, Calls Try.prog 36 #[.int .i64 k, .bool true] w fun e w' => e = .returned (.int .i64 4) ∧ w' = w := fun w => shape_view k hk w
  clear hcell
  have hB1 : Below W.heap.size W (W.alloc (.cells #[.int .i64 0, .bool false, .int .i64 0, .string ⟨#[]⟩, .slice none 0 0, .slice none 0 0, .int .u64 0, .int .i64 0, .int .i64 0] 26)) := (Below.refl _ W).alloc (Nat.le_refl _) _
  have hs1 : (W.alloc (.cells #[.int .i64 0, .bool false, .int .i64 0, .string ⟨#[]⟩, .slice none 0 0, .slice none 0 0, .int .u64 0, .int .i64 0, .int .i64 0] 26)).heap.size = W.heap.size + 1 := World.size_alloc ..
  have e1 := World.cell?_alloc_new W #[.int .i64 0, .bool false, .int .i64 0, .string ⟨#[]⟩, .slice none 0 0, .slice none 0 0, .int .u64 0, .int .i64 0, .int .i64 0] 26
  have f1 := World.alloc_heap_new W (.cells #[.int .i64 0, .bool false, .int .i64 0, .string ⟨#[]⟩, .slice none 0 0, .slice none 0 0, .int .u64 0, .int .i64 0, .int .i64 0] 26)
  go_enter Try.func29, Try.ntmps29
  go_upto_region 1 with fail
  have c1' := below_cell hB1 c1
  have k0' := below_cell hB1 k0
  have k1' := below_cell hB1 k1
  have k2' := below_cell hB1 k2
  have k3' := below_cell hB1 k3
  have k4' := below_cell hB1 k4
  generalize hW1 : W.alloc (.cells #[.int .i64 0, .bool false, .int .i64 0, .string ⟨#[]⟩, .slice none 0 0, .slice none 0 0, .int .u64 0, .int .i64 0, .int .i64 0] 26) = W1 at *
  clear c1 k0 k1 k2 k3 k4 hW1
  go_upto_region 2 with fail
  have hBc : Below W1.heap.size W1 (W1.alloc (.cells #[.int .i64 k, .bool true, .int .u64 ba, .int .i64 p, .int .i64 n] 76)) := (Below.refl _ W1).alloc (Nat.le_refl _) _
  have fC := World.alloc_heap_new W1 (.cells #[.int .i64 k, .bool true, .int .u64 ba, .int .i64 p, .int .i64 n] 76)
  rw [hs1] at fC
  have hsc : (W1.alloc (.cells #[.int .i64 k, .bool true, .int .u64 ba, .int .i64 p, .int .i64 n] 76)).heap.size = W.heap.size + 2 := by rw [World.size_alloc, hs1]
  generalize World.alloc W1 _ = Wc at *
  have eC := fun j => cell_of_row Wc (W.heap.size + 1) j _ _ _ fC
  go_upto_region 3 with (go_at_call 49; (with_reducible refine (bare_c k true ba p n _).mono ?_); rintro e wb ⟨rfl, hBb⟩)
  have hbz := hBb.size
  have fO := World.alloc_heap_new wb (.cells #[.int .i64 k, .bool true, .int .i64 0, .string ⟨#[]⟩, .slice none 0 0, .slice none 0 0, .int .u64 ba, .int .i64 p, .int .i64 n] 26)
  have hBd : Below wb.heap.size wb (wb.alloc (.cells #[.int .i64 k, .bool true, .int .i64 0, .string ⟨#[]⟩, .slice none 0 0, .slice none 0 0, .int .u64 ba, .int .i64 p, .int .i64 n] 26)) := (Below.refl _ wb).alloc (Nat.le_refl _) _
  have hB3 : Below W1.heap.size W1 (wb.alloc (.cells #[.int .i64 k, .bool true, .int .i64 0, .string ⟨#[]⟩, .slice none 0 0, .slice none 0 0, .int .u64 ba, .int .i64 p, .int .i64 n] 26)) := (hBc.trans (hBb.mono (by omega))).trans (hBd.mono (by omega))
  have fC3 := (hBd.block (W.heap.size + 1) (by omega)).trans ((hBb.block (W.heap.size + 1) (by omega)).trans fC)
  obtain ⟨nb, hnb⟩ : ∃ nb, wb.heap.size = nb := ⟨_, rfl⟩
  rw [hnb] at fO
  rw [hnb]
  have hO2 : W.heap.size + 2 ≤ nb := by omega
  clear hnb hBd hBb hBc fC eC hsc hbz
  generalize World.alloc wb _ = W3 at *
  have eO := fun j => cell_of_row W3 nb j _ _ _ fO
  have eC3 := fun j => cell_of_row W3 (W.heap.size + 1) j _ _ _ fC3
  have hs3 := (Array.getElem?_eq_some_iff.1 fO).1
  have hs2 := hs3
  clear fC3
  have eR3 : ∀ j, W3.cell? ⟨W.heap.size, j, none⟩ = #[.int .i64 0, .bool false, .int .i64 0, .string ⟨#[]⟩, .slice none 0 0, .slice none 0 0, .int .u64 0, .int .i64 0, .int .i64 0][j]? := by
    intro j
    rw [World.cell?_of_block (hB3.block W.heap.size (by omega))]
    exact e1 j
  have hBW : Below W.heap.size W W3 := hB1.trans (hB3.mono hB1.size)
  have g3 := g.below hBW
  have fR : W3.heap[W.heap.size]? = some (.cells #[.int .i64 0, .bool false, .int .i64 0, .string ⟨#[]⟩, .slice none 0 0, .slice none 0 0, .int .u64 0, .int .i64 0, .int .i64 0] 26) := (hB3.block W.heap.size (by omega)).trans f1
  have HBW := hid hBW
  have eR := fun j => cell_of_row W3 W.heap.size j _ _ _ fR
  have zR : ∀ j, W3.frozen? ⟨W.heap.size, j, none⟩ = false := fun j => by simp [World.frozen?, fR]
  have FR := hid fR
  clear fO eR3 fR g3 e1 c1' k0' k1' k2' k3' k4' f1 g ho hc hBW hB1 hB3 hs1 hs2 hs3 j0 j1 hk
  go_wp2_with (go_at_call 36; (with_reducible refine (cs _).mono ?_); rintro e w' ⟨rfl, hw⟩; (have hw' := hw.symm); subst hw'; clear hw)
  refine bodyPost_ret (cell_ret rfl _ _ W.heap.size _ _ _ _ _ _ _ _ _ (0, 0) rfl (nine_set FR.out _ _ _ _ _ _ _ _ _)) rfl ?_
  exact ⟨rfl, nine_below HBW.out (Nat.le_refl _) _ _ _ _ _ _ _ _ _⟩
theorem get_view (g : HLay W hb sb vc T H u h) (w : Nat) (hw : w < 18446744073709551616) (id : Nat) (hi : hit H w = some id) (k : Int) (ba p n : Nat) (hc : H[id]? = some (some (.view k ba p n))) :
    Calls Try.prog 14 #[.pointer (some ⟨hb, 0, none⟩), .int .u64 w] W fun e w' => e = .returned (.tuple #[.agg #[.int .i64 k, .bool true, .int .i64 0, .string ⟨#[]⟩, .slice none 0 0, .slice none 0 0, .int .u64 ba, .int .i64 p, .int .i64 n], .int .i64 0]) ∧ Below W.heap.size W w' :=
  get_c g w hw id hi k true 0 ⟨#[]⟩ none none 0 0 0 0 ba p n (fun w1 hB => load_view (g.below hB) id k ba p n hc)
end
end Go.Proofs.Ytaebnnkhjlidiaa.W
/- Package heap: right and Put, of a buffer. -/
namespace Go.Proofs.Ytaebnnkhjlidiaa.W
open Go.ChangeShapes Go.WideShapes Go.RowKit Go.Shelf
set_option linter.unusedVariables false
section
variable {W W' : World} {hb sb : Nat} {vc : Value} {T : Nat → Prop} {H : List (Option Hc)} {u h : Nat}
set_option maxHeartbeats 1000000 in
set_option maxRecDepth 100000 in
theorem right_buf (k : Int) (hk : elB k > 0) (ob ow : Option Addr) (bc wc nn : Nat) (hl : nn ≤ 8388608) (hmod : nn % elB k = 0) (hb : Nat) (W : World) : Calls Try.prog 22 #[.agg #[.int .i64 k, .bool false, .int .i64 0, .string ⟨#[]⟩, .slice ob nn bc, .slice ow 0 wc, .int .u64 0, .int .i64 0, .int .i64 0], (.func (.func 23) #[.pointer (some ⟨hb, 0, none⟩)] #[])] W fun e w' => e = .returned (.bool true) ∧ Below W.heap.size W w' := by
  have cp : ∀ w, Calls Try.prog 37 #[.agg #[.int .i64 k, .bool false, .int .i64 0, .string ⟨#[]⟩, .slice ob nn bc, .slice ow 0 wc, .int .u64 0, .int .i64 0, .int .i64 0]] w fun e w' => e = .returned (.bool true) ∧ Below w.heap.size w w' := fun w => plain_buf k hk ob ow nn bc wc w
  have cs : ∀ w, Calls Try.prog 36 #[.int .i64 k, .bool false] w fun e w' => e = .returned (.int .i64 3) ∧ w' = w := fun w => shape_buf k hk w
  have ce : ∀ w, Calls Try.prog 38 #[.int .i64 k] w fun e w' => e = .returned (.int .i64 (elB k : Nat)) ∧ w' = w := fun w => elementBytes_c k w
  have hB := (show Below W.heap.size W (W.alloc (.cells #[.int .i64 k, .bool false, .int .i64 0, .string ⟨#[]⟩, .slice ob nn bc, .slice ow 0 wc, .int .u64 0, .int .i64 0, .int .i64 0] 26)) from (Below.refl _ W).alloc (Nat.le_refl _) _)
  have hs1 : (W.alloc (.cells #[.int .i64 k, .bool false, .int .i64 0, .string ⟨#[]⟩, .slice ob nn bc, .slice ow 0 wc, .int .u64 0, .int .i64 0, .int .i64 0] 26)).heap.size = W.heap.size + 1 := World.size_alloc ..
  have l1 : (nn : Int) ≤ 8388608 := by omega
  generalize elB k = ev at *
  have hm2 : (nn : Int) % (ev : Int) = 0 := by omega
  have hm3 : Int.tmod (nn : Int) (ev : Int) = 0 := by rw [Int.tmod_eq_emod_of_nonneg (by omega)]; exact hm2
  have e0 : ¬ ((ev : Nat) : Int) = 0 := by omega
  have kp : Hid (∀ w2, Below (W.alloc (.cells #[.int .i64 k, .bool false, .int .i64 0, .string ⟨#[]⟩, .slice ob nn bc, .slice ow 0 wc, .int .u64 0, .int .i64 0, .int .i64 0] 26)).heap.size (W.alloc (.cells #[.int .i64 k, .bool false, .int .i64 0, .string ⟨#[]⟩, .slice ob nn bc, .slice ow 0 wc, .int .u64 0, .int .i64 0, .int .i64 0] 26)) w2 → (w2.cell? ⟨W.heap.size, 0, none⟩ = some (.int .i64 k) ∧ w2.cell? ⟨W.heap.size, 1, none⟩ = some (.bool false) ∧ w2.cell? ⟨W.heap.size, 4, none⟩ = some (.slice ob nn bc)) ∧ Below W.heap.size W w2) := by
    show ∀ w2, _
    intro w2 hB2
    have e := fun j => (World.cell?_of_block (a := ⟨W.heap.size, j, none⟩) (hB2.block W.heap.size (by omega))).trans (World.cell?_alloc_new W #[.int .i64 k, .bool false, .int .i64 0, .string ⟨#[]⟩, .slice ob nn bc, .slice ow 0 wc, .int .u64 0, .int .i64 0, .int .i64 0] 26 j)
    exact ⟨⟨e 0, e 1, e 4⟩, hB.trans (hB2.mono hB.size)⟩
  clear hs1 hmod hl hk
  go_enter Try.func22, Try.ntmps22
  go_upto_region 9 with (first | (go_at_call 37; (with_reducible refine (cp _).mono ?_); rintro e w2 ⟨rfl, hB2⟩; clear cp; (obtain ⟨⟨z0, z1, z4⟩, hBf⟩ := kp.out w2 hB2)) | (go_at_call 36; (with_reducible refine (cs _).mono ?_); rintro e w' ⟨rfl, hw⟩; (have hw' := hw.symm); subst hw'; clear hw))
  go_region_with (go_at_call 38; (with_reducible refine (ce _).mono ?_); rintro e w' ⟨rfl, hw⟩; (have hw' := hw.symm); subst hw'; clear hw)
  all_goals (
    simp only [Act.put, List.getElem_toArray, List.getElem_cons_zero, List.getElem_cons_succ, List.setIfInBounds_toArray, List.set_cons_zero, List.set_cons_succ]
    go_wp2
    go_ret
    exact ⟨rfl, ⟨hBf.os, hBf.tape, hBf.output, hBf.size, hBf.block⟩⟩)
theorem put_buf {S : Nat → Prop} (g : HSt W S hb H u) (hS : ∀ k, S k → k < W.heap.size) (k : Int) (hk : elB k > 0) (bs : List Nat) (hb256 : ∀ x ∈ bs, x < 256) (hl : bs.length ≤ 8388608) (hmod : bs.length % elB k = 0) (ob ow : Option Addr) (bc wc : Nat) (hcap : bs.length ≤ bc) (hv : ByteRow W ob bs) (ho : ∀ x, ob = some x → ¬ S x.block ∧ x.block < W.heap.size) (vr : Value) (rs : List Nat) (hr : WordsAt W vr rs) :
    Calls Try.prog 12 #[.pointer (some ⟨hb, 0, none⟩), .agg #[.int .i64 k, .bool false, .int .i64 0, .string ⟨#[]⟩, .slice ob bs.length bc, .slice ow 0 wc, .int .u64 0, .int .i64 0, .int .i64 0], vr] W (PutPost W S hb (roomH H u (.buf k bs) rs) u (.buf k bs)) := by
  refine hput_c g hS (.buf k bs) ⟨hk, hb256, hl⟩ 0 ⟨#[]⟩ ob ow bs.length bc 0 wc (by decide) hl (by decide) ?_ (words_nil W ow wc) (show 0 < _ by decide) ?_ ?_ vr rs hr
  · show sizeV k false 0 bs.length 0 = bs.length
    have e3 : shp k false = 3 := by
      unfold shp
      simp [hk]
    unfold sizeV
    rw [e3]; rfl
  · intro w hB
    exact right_buf k hk ob ow bc wc bs.length hl hmod hb w
  · intro sb h W' T' vc' H' id hl' hi hT hU
    have e : (Hc.buf k bs).zero = .buf k (List.replicate bs.length 0) := rfl
    rw [e] at hi
    exact save_buf hl' id k hk bs hb256 hi hl ob ow bc wc hcap (byteRow_upd hv hU (fun x e => (ho x e).1)) (fun x e => ⟨fun e2 => by rcases hT _ e2 with e3 | e3; exact (ho x e).1 e3; have := (ho x e).2; omega, Nat.lt_of_lt_of_le (ho x e).2 hU.size⟩)
end
end Go.Proofs.Ytaebnnkhjlidiaa.W
