import Derived.Test.YtgmimmdojkoppaaGreatDoorBase15
import Derived.Test.YtgmimmdojkoppaaGreatDoorBase3
import Derived.Test.YtgmimmdojkoppaaGreatDoorBase10
/- Package heap: saveBytes. -/
namespace Go.Proofs.YtgmimmdojkoppaaGreatDoor.W
open Go.ChangeShapes Go.WideShapes Go.RowKit Go.Shelf
set_option linter.unusedVariables false
section
variable {W W' : World} {hb sb : Nat} {vc : Value} {T : Nat → Prop} {H : List (Option Hc)} {u h : Nat}
/-- what makes a cell of bytes -/
structure Mkc (f : List Nat → Hc) (n : Nat) : Prop where
  bytes : ∀ b, (f b).bytes = b
  cl : ∀ b b', (f b).cl = (f b').cl
  ok : ∀ b, (∀ x ∈ b, x < 256) → b.length = n → (f b).ok
theorem bytes_step (g : HLay W hb sb vc T H u h) (f : List Nat → Hc) (bs : List Nat) (hf : Mkc f bs.length) (hb256 : ∀ x ∈ bs, x < 256) (id : Nat) (i : Nat) (hc : H[id]? = some (some (f (upTo bs (pieceO bs.length i))))) (hi : i < pieceN bs.length) :
    Calls Tryz.prog 223 #[.pointer (some ⟨sb, 0, none⟩), .int .i64 id, .int .i64 (pieceO bs.length i : Nat), .int .i64 (pieceW bs.length i : Nat), .int .u64 (leN (seg bs (pieceO bs.length i) (pieceW bs.length i)) : Nat)] W fun e w' => e = .returned (.int .i64 0) ∧ Upd T W w' ∧ HLay w' hb sb vc T (H.set id (some (f (upTo bs (pieceO bs.length (i + 1)))))) u h := by
  have hp := piece_lt bs.length i hi
  have hw : pieceW bs.length i = 1 ∨ pieceW bs.length i = 2 ∨ pieceW bs.length i = 4 ∨ pieceW bs.length i = 8 := by unfold pieceW; split <;> simp
  have hl := upTo_len bs (pieceO bs.length i) (by omega)
  have hs := seg_len bs (pieceO bs.length i) (pieceW bs.length i) hp.1
  have h64 : leN (seg bs (pieceO bs.length i) (pieceW bs.length i)) < 18446744073709551616 := by
    have h1 := leN_lt (seg bs (pieceO bs.length i) (pieceW bs.length i)) (fun x hx => hb256 x (List.mem_of_mem_drop (List.mem_of_mem_take hx)))
    rw [hs] at h1
    exact Nat.lt_of_lt_of_le h1 (pow_le8 _ (by omega))
  have cv := save_st g.st id _ (hA_some hc) (pieceO bs.length i) (pieceW bs.length i) _ h64 hw hp.2 (by rw [hf.bytes, hl]; exact hp.1)
  rw [hf.bytes, saved_upTo bs hb256 _ _ hp.1, ← piece_next] at cv
  refine cv.mono ?_
  rintro e w' ⟨rfl, hU, hS⟩
  have hn := piece_next bs.length i
  have hl2 := upTo_len bs (pieceO bs.length (i + 1)) (by omega)
  exact ⟨rfl, hU, g.saved id _ (f (upTo bs (pieceO bs.length (i + 1)))) hc (hf.cl _ _) (hf.ok _ (upTo_lt bs _ 256 hb256 (by omega)) hl2) hU (by rw [hf.bytes]; exact hS)⟩
theorem saveBytes_c (g : HLay W hb sb vc T H u h) (f : List Nat → Hc) (bs : List Nat) (hf : Mkc f bs.length) (hb256 : ∀ x ∈ bs, x < 256) (hn : bs.length ≤ 8388608) (id : Nat) (hc : H[id]? = some (some (f (List.replicate bs.length 0)))) (o : Option Addr) (cap : Nat) (hcap : bs.length ≤ cap) (hv : ByteRow W o bs) (ho : ∀ x, o = some x → ¬ T x.block ∧ x.block < W.heap.size) :
    Calls Tryz.prog 224 #[.pointer (some ⟨hb, 0, none⟩), .int .i64 id, .slice o bs.length cap] W fun e w' => e = .returned (.tuple #[]) ∧ Upd T W w' ∧ HLay w' hb sb vc T (H.set id (some (f bs))) u h := by
  have hil := (List.getElem?_eq_some_iff.1 hc).1
  have cpc := fun w => pieces_c w bs.length
  refine (callsIn_wide (n := 9)).1 ?_
  refine callsIn_of_wp_marks Tryz.func224 rfl trivial ?_ rfl
  refine wpIn_wide.2 ?_
  simp only [Tryz.ntmps224, List.size_toArray, List.length_cons, List.length_nil, Nat.reduceAdd, Nat.reduceSub, Array.replicate_succ, Array.replicate_zero, List.push_toArray, List.append_toArray, List.nil_append, List.cons_append]
  go_wp2_with (go_at_call 252; (with_reducible refine (cpc _).mono ?_); rintro e w8 ⟨rfl, hw8⟩; (have hw' := hw8.symm); subst hw'; clear hw8)
  have b1 : Below W.heap.size W ((((W.alloc (.cells #[.pointer (some ⟨hb, 0, none⟩)] 23)).alloc (.cells #[.int .i64 id] 3)).alloc (.cells #[.slice o bs.length cap] 66)).alloc (.cells #[.int .i64 (bs.length : Nat)] 3)) := ((((Below.refl _ W).alloc (Nat.le_refl _) _).alloc (by simp) _).alloc (by simp; omega) _).alloc (by simp; omega) _
  have z4 : (((((W.alloc (.cells #[.pointer (some ⟨hb, 0, none⟩)] 23)).alloc (.cells #[.int .i64 id] 3)).alloc (.cells #[.slice o bs.length cap] 66)).alloc (.cells #[.int .i64 (bs.length : Nat)] 3))).heap.size = W.heap.size + 4 := by simp
  have x0 : Boxed ((((W.alloc (.cells #[.pointer (some ⟨hb, 0, none⟩)] 23)).alloc (.cells #[.int .i64 id] 3)).alloc (.cells #[.slice o bs.length cap] 66)).alloc (.cells #[.int .i64 (bs.length : Nat)] 3)) W.heap.size 23 (.pointer (some ⟨hb, 0, none⟩)) := (((Boxed.new W _ _).alloc _).alloc _).alloc _
  have x1 : Boxed ((((W.alloc (.cells #[.pointer (some ⟨hb, 0, none⟩)] 23)).alloc (.cells #[.int .i64 id] 3)).alloc (.cells #[.slice o bs.length cap] 66)).alloc (.cells #[.int .i64 (bs.length : Nat)] 3)) (W.heap.size + 1) 3 (.int .i64 id) := by
    have := ((Boxed.new (W.alloc (.cells #[.pointer (some ⟨hb, 0, none⟩)] 23)) 3 (.int .i64 id)).alloc (.cells #[.slice o bs.length cap] 66)).alloc (.cells #[.int .i64 (bs.length : Nat)] 3)
    rwa [World.size_alloc] at this
  have x2 : Boxed ((((W.alloc (.cells #[.pointer (some ⟨hb, 0, none⟩)] 23)).alloc (.cells #[.int .i64 id] 3)).alloc (.cells #[.slice o bs.length cap] 66)).alloc (.cells #[.int .i64 (bs.length : Nat)] 3)) (W.heap.size + 1 + 1) 66 (.slice o bs.length cap) := by
    have := (Boxed.new ((W.alloc (.cells #[.pointer (some ⟨hb, 0, none⟩)] 23)).alloc (.cells #[.int .i64 id] 3)) 66 (.slice o bs.length cap)).alloc (.cells #[.int .i64 (bs.length : Nat)] 3)
    rwa [World.size_alloc, World.size_alloc] at this
  have x3 : Boxed ((((W.alloc (.cells #[.pointer (some ⟨hb, 0, none⟩)] 23)).alloc (.cells #[.int .i64 id] 3)).alloc (.cells #[.slice o bs.length cap] 66)).alloc (.cells #[.int .i64 (bs.length : Nat)] 3)) (W.heap.size + 1 + 1 + 1) 3 (.int .i64 (bs.length : Nat)) := by
    have := Boxed.new (((W.alloc (.cells #[.pointer (some ⟨hb, 0, none⟩)] 23)).alloc (.cells #[.int .i64 id] 3)).alloc (.cells #[.slice o bs.length cap] 66)) 3 (.int .i64 (bs.length : Nat))
    rwa [World.size_alloc, World.size_alloc, World.size_alloc] at this
  have g4 := g.below b1
  have v4 : ByteRow ((((W.alloc (.cells #[.pointer (some ⟨hb, 0, none⟩)] 23)).alloc (.cells #[.int .i64 id] 3)).alloc (.cells #[.slice o bs.length cap] 66)).alloc (.cells #[.int .i64 (bs.length : Nat)] 3)) o bs := byteRow_upd hv (Upd.of_below (S := fun _ => False) b1) (fun x e hF => hF)
  generalize World.alloc (World.alloc (World.alloc (World.alloc W _) _) _) _ = W4 at *
  have h0 : HLay W4 hb sb vc T (H.set id (some (f (upTo bs (pieceO bs.length 0))))) u h := by
    have e : H.set id (some (f (upTo bs (pieceO bs.length 0)))) = H := by
      apply List.ext_getElem?
      intro i
      by_cases c : i = id
      · subst c; rw [List.getElem?_set_self hil, piece_zero, upTo_zero, hc]
      · rw [List.getElem?_set_ne (Ne.symm c)]
    rw [e]; exact g4
  have hhb := g.hlt
  have hcv := g.clt
  have hst := g.tlt
  refine pieces_law (p1 := 14) (p2 := 15) (W0 := W4) (Bn := W.heap.size + 1 + 1 + 1) bs.length hn rfl
    (fun i W' => HLay W' hb sb vc T (H.set id (some (f (upTo bs (pieceO bs.length i))))) u h ∧ Boxed W' W.heap.size 23 (.pointer (some ⟨hb, 0, none⟩)) ∧ Boxed W' (W.heap.size + 1) 3 (.int .i64 id) ∧ Boxed W' (W.heap.size + 1 + 1) 66 (.slice o bs.length cap) ∧ Boxed W' (W.heap.size + 1 + 1 + 1) 3 (.int .i64 (bs.length : Nat)) ∧ ByteRow W' o bs ∧ Upd T W W')
    ?hL ?hI ⟨h0, x0, x1, x2, x3, v4, Upd.of_below b1⟩ 6 7 ?assign ?body ?done
  case hL =>
    rintro i W' ⟨_, _, _, _, q, _⟩
    exact q.cell
  case hI =>
    rintro i Wa Wb ⟨q1, q2, q3, q4, q5, q6, q7⟩ hu
    refine ⟨q1.upd hu (by omega) (fun k e => by have := hcv k e; omega) (fun k e => by have := hst k e; omega), box_of (hu.block _ q2.lt (by omega)) q2, box_of (hu.block _ q3.lt (by omega)) q3, box_of (hu.block _ q4.lt (by omega)) q4, box_of (hu.block _ q5.lt (by omega)) q5, byteRow_upd q6 hu (fun x e => by have := (ho x e).2; omega), ⟨hu.os.trans q7.os, hu.tape.trans q7.tape, hu.output.trans q7.output, Nat.le_trans q7.size hu.size, fun k hk hT => ?_⟩⟩
    rw [hu.block k (Nat.lt_of_lt_of_le hk q7.size) (by omega)]
    exact q7.block k hk hT
  case assign =>
    intro L x y W' K hK
    gi_wp2_with (simp only [Oper.semAt]; go_simp)
    exact hK
  case done =>
    rintro W' ⟨q1, q2, q3, q4, q5, q6, q7⟩ hD
    rw [piece_end, upTo_all] at q1
    have Q1 := hid q1
    have U7 := hid q7
    have hz7 := q7.size
    clear q1 q2 q3 q4 q5 q6 q7
    go_wp2
    refine ⟨by simp, .inl ⟨_, _, rfl, run_takeDeferred hD, ?_⟩⟩
    refine ⟨_, results_none rfl _ _ _, rfl, U7.out.putObj (.inr ⟨by omega, (Array.getElem?_eq_some_iff.1 hD).1⟩) _, ?_⟩
    exact Q1.out.upd (upd_put (S := fun k => k = W4.heap.size) rfl _) (by omega) (fun k e => by have := hcv k e; omega) (fun k e => by have := hst k e; omega)
  case body =>
    rintro L i hi W' hLe ⟨q1, q2, q3, q4, q5, q6, q7⟩ hs ⟨r, hr⟩
    simp only [pAct, List.setIfInBounds_toArray, List.set_cons_succ, List.set_cons_zero]
    have hp := piece_lt bs.length i hi
    have hw1 : 1 ≤ pieceW bs.length i ∧ pieceW bs.length i ≤ 8 := by unfold pieceW; split <;> simp
    have hsl := seg_len bs (pieceO bs.length i) (pieceW bs.length i) hp.1
    obtain ⟨g0, p0, ho0, hcel⟩ : ∃ g p, o = some ⟨g, p, none⟩ ∧ ∀ i (hi : i < bs.length), W'.cell? ⟨g, p + i, none⟩ = some (.int .u8 (bs[i] : Nat)) := by
      rcases q6 with e | e
      · have : bs.length = 0 := by rw [e]; rfl
        omega
      · exact e
    have hTo := ho _ ho0
    subst ho0
    have cv := bytes_step (q1.same (W' := W'.drew) rfl) f bs hf hb256 id i (List.getElem?_set_self hil) hi
    rw [List.set_set] at cv
    have c0 := q1.cell 0
    simp only [List.getElem?_cons_zero] at c0
    have y0 := q2.cell
    have y1 := q3.cell
    have y2 := q4.cell
    have hcs : ∀ k (hk : k < (seg bs (pieceO bs.length i) (pieceW bs.length i)).length), W'.cell? ⟨g0, p0 + pieceO bs.length i + k, none⟩ = some (.int .u8 ((seg bs (pieceO bs.length i) (pieceW bs.length i))[k] : Nat)) := by
      intro k hk
      have e1 : bs[pieceO bs.length i + k]? = (seg bs (pieceO bs.length i) (pieceW bs.length i))[k]? := (seg_get _ _ _ _ (by omega)).symm
      have hlt : pieceO bs.length i + k < bs.length := by omega
      rw [List.getElem?_eq_getElem hk, List.getElem?_eq_getElem hlt] at e1
      have e2 := hcel (pieceO bs.length i + k) hlt
      rw [Option.some.inj e1, ← Nat.add_assoc] at e2
      exact e2
    have sb256 : ∀ x ∈ seg bs (pieceO bs.length i) (pieceW bs.length i), x < 256 := fun x hx => hb256 x (List.mem_of_mem_drop (List.mem_of_mem_take hx))
    have fin : Hid (∀ w2, Upd T W'.drew w2 → HLay w2 hb sb vc T (H.set id (some (f (upTo bs (pieceO bs.length (i + 1)))))) u h → ((w2.cell? ⟨W.heap.size, 0, none⟩ = some (.pointer (some ⟨hb, 0, none⟩)) ∧ w2.cell? ⟨W.heap.size + 1, 0, none⟩ = some (.int .i64 id) ∧ w2.cell? ⟨hb, 0, none⟩ = some (.pointer (some ⟨sb, 0, none⟩))) ∧ ((w2.heap[L]? = W'.heap[L]? ∧ w2.heap[W4.heap.size]? = W'.heap[W4.heap.size]?) ∧ HLay w2 hb sb vc T (H.set id (some (f (upTo bs (pieceO bs.length (i + 1)))))) u h ∧ Boxed w2 W.heap.size 23 (.pointer (some ⟨hb, 0, none⟩)) ∧ Boxed w2 (W.heap.size + 1) 3 (.int .i64 id) ∧ Boxed w2 (W.heap.size + 1 + 1) 66 (.slice (some ⟨g0, p0, none⟩) bs.length cap) ∧ Boxed w2 (W.heap.size + 1 + 1 + 1) 3 (.int .i64 (bs.length : Nat)) ∧ ByteRow w2 (some ⟨g0, p0, none⟩) bs ∧ Upd T W w2))) := by
      show ∀ w2, _
      intro w2 hU0 hL2
      have hU : Upd T W' w2 := ⟨hU0.os, hU0.tape, hU0.output, hU0.size, hU0.block⟩
      have nT : ∀ k, W.heap.size ≤ k → ¬ T k := fun k hk e => by have := hst k e; omega
      have r0 := box_of (hU.block _ q2.lt (nT _ (by omega))) q2
      have r1 := box_of (hU.block _ q3.lt (nT _ (by omega))) q3
      exact ⟨⟨r0.cell, r1.cell, hL2.cell 0⟩, ⟨hU.block L (by omega) (nT _ (by omega)), hU.block _ (by omega) (nT _ (by omega))⟩, hL2, r0, r1, box_of (hU.block _ q4.lt (nT _ (by omega))) q4, box_of (hU.block _ q5.lt (nT _ (by omega))) q5, byteRow_upd q6 hU (fun x e => by cases e; exact hTo.1), q7.trans' hU⟩
    clear q1 q2 q3 q4 q5 q6 q7 hcel h0 x0 x1 x2 x3 v4 g4 hr hv g
    generalize hsg : seg bs (pieceO bs.length i) (pieceW bs.length i) = sg at *
    generalize pieceO bs.length (i + 1) = oo1 at *
    generalize pieceO bs.length i = oo at *
    generalize pieceW bs.length i = ww at *
    have nw : IntKind.i64.wrap ((oo : Int) + (ww : Int)) = (oo : Int) + (ww : Int) := by rw [IntKind.wrap_i64]; omega
    have n1 : (0 : Int) ≤ oo := by omega
    have n5 : (oo : Int) + (ww : Int) ≤ cap := by omega
    have n6 : ¬ cap = oo := by omega
    have n7 : (0 : Int) ≤ (oo : Int) + (ww : Int) := by omega
    have n8 : (oo : Int) ≤ (oo : Int) + (ww : Int) := by omega
    have n9 : ((oo : Int) + (ww : Int)).toNat - oo = ww := by omega
    have HC := hid hcs
    have HB := hid sb256
    clear hcs sb256 hsg hp hLe z4
    gi_wp2_with (simp only [Oper.semAt]; go_simp)
    gi_loopw [8, 23] (fun x ii wr => ∃ k : Nat, k ≤ ww ∧ x = .int .u64 (leN (sg.take k) : Nat) ∧ ii = .int .i64 k ∧ wr = W') (fun _ ii _ => ww - (intOf ii).toNat)
    case atStart => exact ⟨0, Nat.zero_le _, by simp [leN], rfl, rfl⟩
    case round =>
      obtain ⟨k, hk, rfl, rfl, rfl⟩ := hrel
      have w1 : IntKind.i64.wrap ((k : Int) + 1) = (k : Int) + 1 := by rw [IntKind.wrap_i64]; omega
      have w8 : IntKind.i64.wrap (8 * (k : Int)) = 8 * (k : Int) := by rw [IntKind.wrap_i64]; omega
      by_cases hlt : k < ww
      · have hks : k < sg.length := by omega
        have hx := HC.out k hks
        have st : Hid (bits .or .u64 (leN (sg.take k) : Int) (IntKind.u64.wrap (IntKind.u64.wrap ((sg[k] : Nat) : Int) * 2 ^ (8 * k))) = (leN (sg.take (k + 1)) : Int)) := by
          have l1 : (sg.take k).length = k := by simp; omega
          rw [List.take_succ_eq_append_getElem hks, leN_snoc, l1]
          refine hid (or_byte8 k _ _ (by omega) ?_ (HB.out _ (List.getElem_mem _)))
          have := leN_lt (sg.take k) (fun x hx => HB.out x (List.mem_of_mem_take hx))
          rwa [l1] at this
        have k0 : (0 : Int) ≤ k := by omega
        have k1 : (k : Int) < ww := by omega
        clear HC HB cv fin
        generalize sg[k] = y at *
        gi_wp2_with (simp only [Oper.semAt]; go_simp)
        go_roundw
        case rel => exact ⟨k + 1, hlt, by rw [← st.out, show (8 * (k : Int)).toNat = 8 * k by omega], by go_num, trivial⟩
        case measure => show ww - (k + 1 : Int).toNat < ww - (k : Int).toNat; omega
      · have he : sg.take k = sg := List.take_of_length_le (by omega)
        have k1 : ¬ (k : Int) < ww := by omega
        rw [he]
        clear HC HB he
        gi_wp2_with (simp only [Oper.semAt]; go_simp)
        refine round_held (S := fun w' => w'.cell? ⟨W.heap.size, 0, none⟩ = some (.pointer (some ⟨hb, 0, none⟩)) ∧ w'.cell? ⟨W.heap.size + 1, 0, none⟩ = some (.int .i64 id) ∧ w'.cell? ⟨hb, 0, none⟩ = some (.pointer (some ⟨sb, 0, none⟩))) (by kernel_rfl) (by kernel_rfl) (by rintro ⟨a, w, hF⟩; exact hF) ?_
        have hS : wr.drew.cell? ⟨W.heap.size, 0, none⟩ = some (.pointer (some ⟨hb, 0, none⟩)) ∧ wr.drew.cell? ⟨W.heap.size + 1, 0, none⟩ = some (.int .i64 id) ∧ wr.drew.cell? ⟨hb, 0, none⟩ = some (.pointer (some ⟨sb, 0, none⟩)) := ⟨y0, y1, c0⟩
        (refine wpAnyH_take (i := 0) (v := ?_) rfl (by kernel_rfl) (by kernel_rfl) (by kernel_rfl) (fun _ _ _ h => h) (Or.inl ⟨by rfl, ?_⟩) hS ?_); rotate_left; focus (intro w' hSw; obtain ⟨s1, s2, s3⟩ := hSw; go_simp; (try with_reducible rfl)); (try simp only [Act.put, List.setIfInBounds_toArray, List.set_cons_zero, List.set_cons_succ])
        (refine wpAnyH_take (i := 1) (v := ?_) rfl (by kernel_rfl) (by kernel_rfl) (by kernel_rfl) (fun _ _ _ h => h) (Or.inl ⟨by rfl, ?_⟩) hS ?_); rotate_left; focus (intro w' hSw; obtain ⟨s1, s2, s3⟩ := hSw; go_simp; (try with_reducible rfl)); (try simp only [Act.put, List.setIfInBounds_toArray, List.set_cons_zero, List.set_cons_succ])
        (refine wpAnyH_take (i := 2) (v := ?_) rfl (by kernel_rfl) (by kernel_rfl) (by kernel_rfl) (fun _ _ _ h => h) (Or.inl ⟨by rfl, ?_⟩) hS ?_); rotate_left; focus (intro w' hSw; obtain ⟨s1, s2, s3⟩ := hSw; go_simp; (try with_reducible rfl)); (try simp only [Act.put, List.setIfInBounds_toArray, List.set_cons_zero, List.set_cons_succ])
        (refine wpAnyH_take (i := 3) (v := ?_) rfl (by kernel_rfl) (by kernel_rfl) (by kernel_rfl) (fun _ _ _ h => h) (Or.inl ⟨by rfl, ?_⟩) hS ?_); rotate_left; focus (intro w' hSw; obtain ⟨s1, s2, s3⟩ := hSw; go_simp; (try with_reducible rfl)); (try simp only [Act.put, List.setIfInBounds_toArray, List.set_cons_zero, List.set_cons_succ])
        (refine wpAnyH_take (i := 4) (v := ?_) rfl (by kernel_rfl) (by kernel_rfl) (by kernel_rfl) (fun _ _ _ h => h) (Or.inl ⟨by rfl, ?_⟩) hS ?_); rotate_left; focus (intro w' hSw; obtain ⟨s1, s2, s3⟩ := hSw; go_simp; (try with_reducible rfl)); (try simp only [Act.put, List.setIfInBounds_toArray, List.set_cons_zero, List.set_cons_succ])
        (refine wpAnyH_take (i := 5) (v := ?_) rfl (by kernel_rfl) (by kernel_rfl) (by kernel_rfl) (fun _ _ _ h => h) (Or.inl ⟨by rfl, ?_⟩) hS ?_); rotate_left; focus (intro w' hSw; obtain ⟨s1, s2, s3⟩ := hSw; go_simp; (try with_reducible rfl)); (try simp only [Act.put, List.setIfInBounds_toArray, List.set_cons_zero, List.set_cons_succ])
        (refine wpAnyH_take (i := 6) (v := ?_) rfl (by kernel_rfl) (by kernel_rfl) (by kernel_rfl) (fun _ _ _ h => h) (Or.inl ⟨by rfl, ?_⟩) hS ?_); rotate_left; focus (intro w' hSw; obtain ⟨s1, s2, s3⟩ := hSw; go_simp; (try with_reducible rfl)); (try simp only [Act.put, List.setIfInBounds_toArray, List.set_cons_zero, List.set_cons_succ])
        (refine wpAnyH_take (i := 7) (v := ?_) rfl (by kernel_rfl) (by kernel_rfl) (by kernel_rfl) (fun _ _ _ h => h) (Or.inl ⟨by rfl, ?_⟩) hS ?_); rotate_left; focus (intro w' hSw; obtain ⟨s1, s2, s3⟩ := hSw; go_simp; (try with_reducible rfl)); (try simp only [Act.put, List.setIfInBounds_toArray, List.set_cons_zero, List.set_cons_succ])
        refine wpAnyH_ready (rs := [8]) (by kernel_rfl) (by simp) ?_
        refine AllReadyH.cons rfl (fun K hK => ?_) AllReadyH.nil
        go_simp
        refine cv.mono ?_
        rintro e w2 ⟨rfl, hU2, hL2⟩
        have ff := fin.out w2 hU2 hL2
        refine hK.out _ _ ff.1 (fun hS2 => ?_)
        clear hK K
        refine wpAnyH_done (by kernel_rfl) ?_ _
        exact ff.2
end
end Go.Proofs.YtgmimmdojkoppaaGreatDoor.W
/- Package heap: right, of strings. -/
namespace Go.Proofs.YtgmimmdojkoppaaGreatDoor.W
open Go.ChangeShapes Go.WideShapes Go.RowKit Go.Shelf
set_option linter.unusedVariables false
theorem right_text (t : ByteArray) (ob ow : Option Addr) (bc wc : Nat) (hl : t.size ≤ 8388608) (hb : Nat) (W : World) : Calls Tryz.prog 127 #[.agg #[.int .i64 4, .bool false, .int .i64 0, .string t, .slice ob 0 bc, .slice ow 0 wc, .int .u64 0, .int .i64 0, .int .i64 0], (.func (.func 128) #[.pointer (some ⟨hb, 0, none⟩)] #[])] W fun e w' => e = .returned (.bool true) ∧ Below W.heap.size W w' := by
  have cp := plain_text t ob ow bc wc
  have cs : ∀ w, Calls Tryz.prog 170 #[.int .i64 4, .bool false] w fun e w' => e = .returned (.int .i64 2) ∧ w' = w := fun w => shape_c 4 false w
  unfold cellV at cp
  have hB := (show Below W.heap.size W (W.alloc (.cells #[.int .i64 4, .bool false, .int .i64 0, .string t, .slice ob 0 bc, .slice ow 0 wc, .int .u64 0, .int .i64 0, .int .i64 0] 99)) from (Below.refl _ W).alloc (Nat.le_refl _) _)
  have n0 := World.cell?_alloc_new W #[.int .i64 4, .bool false, .int .i64 0, .string t, .slice ob 0 bc, .slice ow 0 wc, .int .u64 0, .int .i64 0, .int .i64 0] 99 0
  have n1 := World.cell?_alloc_new W #[.int .i64 4, .bool false, .int .i64 0, .string t, .slice ob 0 bc, .slice ow 0 wc, .int .u64 0, .int .i64 0, .int .i64 0] 99 1
  have n3 := World.cell?_alloc_new W #[.int .i64 4, .bool false, .int .i64 0, .string t, .slice ob 0 bc, .slice ow 0 wc, .int .u64 0, .int .i64 0, .int .i64 0] 99 3
  simp only [List.getElem?_toArray, List.getElem?_cons_succ, List.getElem?_cons_zero] at n0 n1 n3
  have l1 : (t.size : Int) ≤ 8388608 := by omega
  have HB := hid hB
  go_enter Tryz.func127, Tryz.ntmps127
  go_wp2_with (first | (go_at_call 169; (with_reducible refine (cp _).mono ?_); rintro e w2 ⟨rfl, hB2⟩; (have z0 := below_cell hB2 n0); (have z1 := below_cell hB2 n1); (have z3 := below_cell hB2 n3); (have HB2 := hid hB2); clear hB2) | (go_at_call 170; (with_reducible refine (cs _).mono ?_); rintro e w' ⟨rfl, hw⟩; (have hw' := hw.symm); subst hw'; clear hw))
  go_ret
  exact ⟨rfl, HB.out.trans (HB2.out.mono HB.out.size)⟩
end Go.Proofs.YtgmimmdojkoppaaGreatDoor.W
/- Package heap: save, of a view and of a row. -/
namespace Go.Proofs.YtgmimmdojkoppaaGreatDoor.W
open Go.ChangeShapes Go.WideShapes Go.RowKit Go.Shelf
set_option linter.unusedVariables false
section
variable {W W' : World} {hb sb : Nat} {vc : Value} {T : Nat → Prop} {H : List (Option Hc)} {u h : Nat}
end
end Go.Proofs.YtgmimmdojkoppaaGreatDoor.W
/- Package heap: add. -/
namespace Go.Proofs.YtgmimmdojkoppaaGreatDoor.W
open Go.ChangeShapes Go.WideShapes Go.RowKit Go.Shelf
set_option linter.unusedVariables false
/-- the Id that the next cell gets -/
def lid (H : List (Option Hc)) : Nat := leastA (hA H)
theorem lid_le (H : List (Option Hc)) : lid H ≤ H.length := by
  unfold lid leastA; rw [← hA_len]; exact List.findIdx_le_length
theorem lid_free {H : List (Option Hc)} (h : lid H < H.length) : H[lid H]? = some none := by
  have h' : leastA (hA H) < (hA H).length := by rw [hA_len]; exact h
  have h2 : (hA H)[leastA (hA H)] = none := Option.isNone_iff_eq_none.1 (List.findIdx_getElem (w := h'))
  have h3 : (hA H)[leastA (hA H)]? = some none := by rw [List.getElem?_eq_getElem h', h2]
  rw [hA_get] at h3
  show H[leastA (hA H)]? = _
  have h4 : H[leastA (hA H)]? = some H[leastA (hA H)] := List.getElem?_eq_getElem h
  rw [h4] at h3 ⊢
  cases e : H[leastA (hA H)] with
  | none => rfl
  | some x => rw [e] at h3; simp at h3
theorem lid_low (H : List (Option Hc)) (i : Nat) (hi : i < lid H) : ∃ c, H[i]? = some (some c) := by
  have hil : i < H.length := Nat.lt_of_lt_of_le hi (lid_le H)
  have h1 := List.not_of_lt_findIdx (p := fun x : Option (List Nat) => x.isNone) (xs := hA H) hi
  have h2 : (hA H)[i]? = some ((hA H)[i]'(by rw [hA_len]; exact hil)) := List.getElem?_eq_getElem _
  have h4 : H[i]? = some H[i] := List.getElem?_eq_getElem hil
  rw [hA_get, h4] at h2
  cases e : H[i] with
  | some x => exact ⟨x, by rw [h4, e]⟩
  | none =>
    rw [e] at h2
    simp at h2
    rw [← h2] at h1
    simp at h1
theorem need_pos (c : Hc) : 1 ≤ c.need := by unfold Hc.need; omega
theorem full_sum (H : List (Option Hc)) (h : ∀ i, i < H.length → ∃ c, H[i]? = some (some c)) : H.length ≤ sumH H := by
  induction H with
  | nil => exact Nat.le_refl _
  | cons a H ih =>
    obtain ⟨c, hc⟩ := h 0 (by simp)
    simp at hc
    subst hc
    rw [sumH_cons, List.length_cons]
    have := ih (fun i hi => by have := h (i + 1) (by simpa using hi); simpa using this)
    have := need_pos c
    show _ ≤ c.need + _
    omega
theorem lid_sum {H : List (Option Hc)} (h : lid H = H.length) : H.length ≤ sumH H := full_sum H (fun i hi => lid_low H i (by omega))
theorem putH_len (H : List (Option Hc)) (id : Nat) (x : Option Hc) : (putH H id x).length = if id < H.length then H.length else H.length + 1 := by
  unfold putH; split <;> simp
theorem putH_sum (H : List (Option Hc)) (c : Hc) : sumH (putH H (lid H) (some c)) = sumH H + c.need := by
  unfold putH
  by_cases d : lid H < H.length
  · rw [if_pos d]
    have h1 := sumH_set H (lid H) (some c) d
    have h2 := lid_free d
    rw [List.getElem?_eq_getElem d] at h2
    simp at h2
    rw [h2] at h1
    simpa [needO] using h1
  · rw [if_neg d, sumH_snoc]; rfl
theorem putH_self (H : List (Option Hc)) (x : Option Hc) : (putH H (lid H) x)[lid H]? = some x := by
  unfold putH
  by_cases d : lid H < H.length
  · rw [if_pos d, List.getElem?_set_self d]
  · have := lid_le H
    rw [if_neg d, show lid H = H.length by omega]; simp
theorem putH_ne (H : List (Option Hc)) (x : Option Hc) (j : Nat) (hj : j ≠ lid H) : (putH H (lid H) x)[j]? = H[j]? := by
  unfold putH
  by_cases d : lid H < H.length
  · rw [if_pos d, List.getElem?_set_ne (Ne.symm hj)]
  · have := lid_le H
    rw [if_neg d]
    by_cases e : j < H.length
    · rw [List.getElem?_append_left e]
    · rw [List.getElem?_eq_none (by simp; omega), List.getElem?_eq_none (by omega)]
theorem putH_set (H : List (Option Hc)) (x y : Option Hc) : (putH H (lid H) x).set (lid H) y = putH H (lid H) y := by
  unfold putH
  by_cases d : lid H < H.length
  · rw [if_pos d, if_pos d, List.set_set]
  · have := lid_le H
    rw [if_neg d, if_neg d, show lid H = H.length by omega, List.set_append_right _ _ (Nat.le_refl _)]; simp
theorem putH_ok {H : List (Option Hc)} {c : Hc} (h : ∀ (i : Nat) (c : Hc), H[i]? = some (some c) → c.ok) (hc : c.ok) : ∀ (i : Nat) (d : Hc), (putH H (lid H) (some c))[i]? = some (some d) → d.ok := by
  intro i d hd
  by_cases e : i = lid H
  · subst e; rw [putH_self] at hd; cases hd; exact hc
  · rw [putH_ne _ _ _ e] at hd; exact h i d hd
section
variable {W W' : World} {hb sb : Nat} {vc : Value} {T : Nat → Prop} {H : List (Option Hc)} {u h : Nat}
/-- what holds behind Take -/
structure Took (W0 : World) (hb sb : Nat) (vc : Value) (T : Nat → Prop) (H : List (Option Hc)) (u h m : Nat) (W : World) : Prop where
  tab : HTab W hb sb vc H u h
  st : St W (Nx T W0 W) sb (putA (hA H) (lid H) (some (List.replicate m 0))) 8388608 1048577
  upd : Upd T W0 W
theorem took (g : HLay W hb sb vc T H u h) (c : Hc) (hok : c.ok) (hroom : sumH H + c.need ≤ 1048576) : Calls Tryz.prog 181 #[.pointer (some ⟨sb, 0, none⟩), .int .i64 (c.bytes.length : Nat)] W fun e w' => e = .returned (.tuple #[.int .i64 (lid H : Nat), .int .i64 0]) ∧ Took W hb sb vc T H u h c.bytes.length w' := by
  have h1 := sumA_sumH H
  have h2 := need_up8 c
  have h3 := g.len
  refine (take_st g.st c.bytes.length (Hc.bytes_len hok) (by omega) (by rw [hA_len]; omega)).mono ?_
  rintro e w' ⟨rfl, hU, hS⟩
  exact ⟨rfl, g.tab.kept (hU.block _ g.hlt g.thb) (fun k e => hU.block k (g.clt k e) (g.tvc k e)), hS, hU⟩
/-- the table has room for the Id: a heap, the cell of noughts -/
theorem Took.lay {W1 : World} {vc4 : Value} {c : Hc} {m : Nat} (g : HLay W hb sb vc T H u h) (k : Took W hb sb vc T H u h m W1) (hm : m = c.bytes.length) (hok : c.ok) (hroom : sumH H + c.need ≤ 1048576)
    {W2 W3 : World} (hU : Upd (fun x => x = hb ∨ vc.ownBlock = some x) W1 W2) (ht : HTab W3 hb sb vc4 (putH H (lid H) (some c.zero)) u h) (hU3 : Upd (fun x => vc4.ownBlock = some x) W2 W3) (hv4 : ∀ x, vc4.ownBlock = some x → vc.ownBlock = some x ∨ W1.heap.size ≤ x) :
    HLay W3 hb sb vc4 (Nx T W W1) (putH H (lid H) (some c.zero)) u h := by
  have z1 := k.upd.size
  have z2 := hU.size
  have z3 := hU3.size
  have hT : ∀ x, Nx T W W1 x → x < W1.heap.size := by
    rintro x (e | e)
    · have := g.tlt x e; omega
    · exact e.2
  have hThb : ¬ Nx T W W1 hb := by
    rintro (e | e)
    · exact g.thb e
    · have := g.hlt; omega
  have hTv : ∀ x, vc.ownBlock = some x → ¬ Nx T W W1 x := by
    rintro x e (e2 | e2)
    · exact g.tvc x e e2
    · have := g.clt x e; omega
  have hTv4 : ∀ x, vc4.ownBlock = some x → ¬ Nx T W W1 x := by
    intro x e e2
    rcases hv4 x e with e3 | e3
    · exact hTv x e3 e2
    · have := hT x e2; omega
  have hbl : ∀ x, Nx T W W1 x → W3.heap[x]? = W1.heap[x]? := by
    intro x hx
    have hl := hT x hx
    rw [hU3.block x (by omega) (fun e => hTv4 x e hx), hU.block x hl]
    rintro (e | e)
    · exact hThb (e ▸ hx)
    · exact hTv x e hx
  have hs : St W3 (Nx T W W1) sb (hA (putH H (lid H) (some c.zero))) 8388608 1048577 := by
    rw [hA_put, zero_bytes, ← hm]
    exact k.st.on hbl
  refine ht.lay hs (fun x e => by have := hT x e; omega) hThb hTv4 (putH_ok g.ok (zero_ok hok)) ?_ g.u1 g.h1
  rw [putH_len]
  split
  · exact g.len
  · have h5 := lid_le H
    have h6 := lid_sum (H := H) (by omega)
    have := need_pos c
    omega
end
end Go.Proofs.YtgmimmdojkoppaaGreatDoor.W
