/- Package store: seek's contract. -/
import Derived.Test.YtenbjlmomkiknabS5u
namespace Go.Proofs.Ytenbjlmomkiknab.W
open Go.ChangeShapes Go.WideShapes Go.RowKit Go.Shelf
set_option linter.unusedVariables false
attribute [local go_sem] Oper.semAt_some

/-- a store's own blocks, and no others -/
def fpS (sb : Nat) (vr vb vf : Value) : Nat → Prop := fun k => k = sb ∨ vr.ownBlock = some k ∨ vb.ownBlock = some k ∨ vf.ownBlock = some k
theorem own_fp (sb : Nat) (vr vb vf : Value) : Own (fpS sb vr vb vf) sb vr vb vf := ⟨.inl rfl, fun _ e => .inr (.inl e), fun _ e => .inr (.inr (.inl e)), fun _ e => .inr (.inr (.inr e))⟩
theorem fp_own {S : Nat → Prop} {sb : Nat} {vr vb vf : Value} (h : Own S sb vr vb vf) : ∀ k, fpS sb vr vb vf k → S k := by
  rintro k (rfl | e | e | e)
  · exact h.sb
  · exact h.row k e
  · exact h.blk k e
  · exact h.free k e
theorem fp_lt {W : World} {sb : Nat} {vr vb vf : Value} {s : Sto} (h : Lay W sb vr vb vf s) : ∀ k, fpS sb vr vb vf k → k < W.heap.size := by
  obtain ⟨l0, l1, l2, l3⟩ := lay_lt h
  rintro k (rfl | e | e | e)
  · exact l0
  · exact l1 k e
  · exact l2 k e
  · exact l3 k e
section
variable {W : World} {sb : Nat} {vr vb vf : Value} {s : Sto} {c : List Nat} {bl : Nat → Blk} {p l u en : Nat → Nat}
theorem chain_drop (k : Pk s c bl p l u en) (h : Nat) : ∀ i (hi : i < (c.drop h).length), ∃ b, s.get (c.drop h)[i] = some b ∧ b.next = ((c.drop h)[i + 1]?.getD 0 : Nat) := by
  intro i hi
  rw [List.length_drop] at hi
  have e : c[h + i]? = some (c.drop h)[i] := by rw [List.getElem_drop, List.getElem?_eq_getElem]
  refine ⟨bl (h + i), k.get _ _ e, ?_⟩
  rw [k.next _ (by omega), List.getElem?_drop]
  rfl
theorem drop_nz (k : Pk s c bl p l u en) (h : Nat) : ∀ i (hi : i + 1 < (c.drop h).length), (c.drop h)[i + 1] ≠ 0 := by
  intro i hi e
  rw [List.length_drop] at hi
  rw [List.getElem_drop] at e
  have := List.pairwise_iff_getElem.1 k.nodup 0 (h + (i + 1)) k.ne (by omega) (by omega)
  have e0 : c[0]'k.ne = 0 := by have := k.zero; rw [List.getElem?_eq_getElem k.ne] at this; exact Option.some.inj this
  rw [e0, e] at this
  exact this rfl
theorem room_drop (h i : Nat) : roomAt s (c.drop h) i = roomAt s c (h + i) := by
  unfold roomAt
  simp only [List.getD, List.getElem?_drop]
  rfl
set_option maxHeartbeats 4000000 in
theorem seek_c (h : Lay W sb vr vb vf s) (f : Fit s) (k : Pk s c bl p l u en) (hd : Nat) (hdl : hd < c.length) (hh : s.hand = (c[hd] : Nat)) (size : Int) (hus : (en c.length : Int) + size ≤ s.used) {n : Nat} {bn : Blk} (hn : s.get n = some bn) (hnc : n ∉ c) {S : Nat → Prop} (hO : Own S sb vr vb vf) :
    Calls Try.prog 82 #[.pointer (some ⟨sb, 0, none⟩), .int .i64 size] W (SeekPost S W sb vb vf n bn (SeekG s c bl p l u en size)) := by
  obtain ⟨lsb, lr, lb, lf⟩ := lay_lt h
  refine (callsIn_wide (n := 9)).1 ?_
  refine callsIn_of_wp_marks Try.func82 rfl trivial ?_ rfl
  refine wpIn_wide.2 ?_
  simp only [Try.ntmps82, List.size_toArray, List.length_cons, List.length_nil, Nat.reduceAdd, Nat.reduceSub, Array.replicate_succ, Array.replicate_zero, List.push_toArray, List.append_toArray, List.nil_append, List.cons_append]
  go_wp2
  go_step3
  go_wp2
  go_step3
  go_wp2
  have hU1 := ((Upd.refl S W).alloc (.cells #[.pointer (some ⟨sb, 0, none⟩)] 47)).alloc (.cells #[.int .i64 size] 3)
  have hL1 := (h.alloc (.cells #[.pointer (some ⟨sb, 0, none⟩)] 47)).alloc (.cells #[.int .i64 size] 3)
  have hB1 : Boxed ((W.alloc (.cells #[.pointer (some ⟨sb, 0, none⟩)] 47)).alloc (.cells #[.int .i64 size] 3)) W.heap.size 47 (.pointer (some ⟨sb, 0, none⟩)) := (Boxed.new W _ _).alloc _
  have hB2 : Boxed ((W.alloc (.cells #[.pointer (some ⟨sb, 0, none⟩)] 47)).alloc (.cells #[.int .i64 size] 3)) (W.heap.size + 1) 3 (.int .i64 size) := by
    have := Boxed.new (W.alloc (.cells #[.pointer (some ⟨sb, 0, none⟩)] 47)) 3 (.int .i64 size)
    rwa [World.size_alloc] at this
  have hz : ((W.alloc (.cells #[.pointer (some ⟨sb, 0, none⟩)] 47)).alloc (.cells #[.int .i64 size] 3)).heap.size = W.heap.size + 2 := by simp
  generalize World.alloc (World.alloc W _) _ = W1 at *
  refine wp_loop_rounds 3 ?_
  rw [rounds_succ]
  refine wp_block (wp_seq (seek_pass h f hU1 hL1 hO.sb size hB1 hB2 (c.drop hd) (by rw [List.length_drop]; omega) (k.nodup.sublist (List.drop_sublist _ _)) (drop_nz k hd) (by rw [hh, List.getElem_drop]; rfl) (chain_drop k hd) rfl [] _ _ _ _ _ _ _ _ _ _ _ _ _ _ _ _ _ _ _ _ _ _ _ _ _ _ _ _ _ _ _ _ _ _ ?done ?stop))
  case stop =>
    rintro W3 D i hi hr hU3 hL3 b1 hD1 hD2 hold
    dsimp only
    have hil : hd + i < c.length := by rw [List.length_drop] at hi; omega
    rw [room_drop] at hr
    rw [List.getElem_drop] at hL3
    have cs := b1.cell
    have c9 := hL3.cell 9
    simp [Sto.obj] at c9
    have HP := (show Hid _ from seek_hit k f hn hnc (hO.mono (fun _ g => .inl g)) hU3 size (hd + i) hil s.sought hL3 hr)
    clear hL3 hU3 hold
    go_wp2
    rw [Exit.noGoto_ret]
    refine ⟨by simp, .inl ⟨_, _, rfl, run_takeDeferred hD2, ?_⟩⟩
    refine ⟨_, results_tmp rfl _ _ _, ?_⟩
    exact seekpost_put HP.out hD2 (by omega) _
  case done =>
    rintro W3 D hr hU3 hL3 b1 b2 hD1 hD2 hold
    dsimp only
    have c10 := hL3.cell 10
    simp [Sto.obj] at c10
    have cs := b1.cell
    have ltD := (Array.getElem?_eq_some_iff.1 hD2).1
    cases hso : s.sought with
    | true =>
      rw [hso] at c10
      have cp := pack_c hL3 f k (own_fp sb vr vb vf)
      go_wp2_with (go_at_call 27; (with_reducible refine cp.mono ?_); rintro e W4 ⟨rfl, hU4, vr4, hL4, hO4⟩; clear cp)
      have keep : ∀ x : Nat, W.heap.size ≤ x → x < W3.heap.size → W4.heap[x]? = W3.heap[x]? := fun x h1 h2 => hU4.block x h2 (fun g => by have := fp_lt h x g; omega)
      have s4 := hU4.size
      have hU4S : Upd S W W4 := hU3.trans (hU4.mono (fun k g => .inl (fp_own hO k g)))
      have hO4S : Own S sb vr4 vb vf := hO4.mono (fp_own hO)
      have d1 := box_of (keep W.heap.size (by omega) b1.lt) b1
      have d2 := box_of (keep (W.heap.size + 1) (by omega) b2.lt) b2
      have mD := (keep D (by omega) (Array.getElem?_eq_some_iff.1 hD2).1).trans hD2
      have hz0 : 0 < c.length := k.ne
      obtain ⟨z, hzc⟩ : ∃ z, c[c.length - 1]? = some z := ⟨_, List.getElem?_eq_getElem (by omega)⟩
      have hlt : c.length - 1 < c.length := by omega
      have hg : (packedSto (s) c bl p l en).get z = some { bl (c.length - 1) with pos := en (c.length - 1) } := packN_earlier k c.length (c.length - 1) z hlt (Nat.le_refl _) hzc
      have hnx : (bl (c.length - 1)).next = ((0 : Nat) : Int) := by rw [k.next _ hlt, List.getElem?_eq_none (by omega)]; rfl
      have hhand : (packedSto (s) c bl p l en).hand = (z : Nat) := packN_hand hzc
      have hroom : size ≤ roomAt (packedSto (s) c bl p l en) [z] 0 := by
        have e1 := k.en1 (c.length - 1) hlt
        rw [show c.length - 1 + 1 = c.length by omega] at e1
        have hst : ({ bl (c.length - 1) with pos := (en (c.length - 1) : Int) } : Blk).stop = (en c.length : Nat) := by
          show (en (c.length - 1) : Int) + up8 (bl (c.length - 1)).len = _
          rw [k.len _ hlt, k.up _ hlt, e1]; omega
        have hus' : (packedSto (s) c bl p l en).used = s.used := (packN_rest c.length).2.1
        show size ≤ roomOf _ ((packedSto (s) c bl p l en).getD z) 0 _
        rw [getD_of hg, roomOf, if_pos rfl, hst, hus']
        have := f.used0
        omega
      rw [rounds_succ]
      refine wp_block (wp_seq (seek_pass h (fit_packed f k) hU4S hL4 hO.sb size d1 d2 [z] (by simp) (by simp) (by simp) hhand (by intro i hi; have e : i = 0 := (by rw [List.length_singleton] at hi; omega); subst e; exact ⟨_, hg, hnx⟩) rfl _ _ _ _ _ _ _ _ _ _ _ _ _ _ _ _ _ _ _ _ _ _ _ _ _ _ _ _ _ _ _ _ _ _ _ ?d2 ?s2))
      case d2 =>
        rintro W5 D5 hr5 _ _ _ _ _ _ _
        exact absurd hroom (by have := hr5 0 (by simp); omega)
      case s2 =>
        rintro W5 D5 i hi hr5 hU5 hL5 b5 hD5 hD6 hold5
        dsimp only
        have ei : i = 0 := by rw [List.length_singleton] at hi; omega
        subst ei
        have hL5' : Lay W5 sb vr4 vb vf (packedSto (s) c bl p l en) := by
          have e : ({ packedSto (s) c bl p l en with hand := (([z][0]'hi : Nat) : Int) } : Sto) = packedSto (s) c bl p l en := by rw [show ([z][0]'hi) = z from rfl, ← hhand]
          rw [← e]; exact hL5
        have cs5 := b5.cell
        have c9 := hL5'.cell 9
        simp [Sto.obj, hhand] at c9
        have HP := (show Hid _ from seek_hit_packed (W := W) (S := S) (h := s.hand) (b := s.sought) k f hn hnc (hO4S.mono (fun _ g => .inl g)) hU5 size z hzc hL5')
        have nD := (hold5 D (by omega) (Array.getElem?_eq_some_iff.1 mD).1).trans mD
        have qD := (Array.getElem?_eq_some_iff.1 mD).1
        clear hL5 hL5' hU5 hold5
        go_wp2
        (try rw [Exit.noGoto_ret])
        refine ⟨by simp, .inl ⟨_, _, rfl, run_takeDeferred hD6, ?_⟩⟩
        have rD : (W5.putObj D5 (.deferred none)).heap[D]? = some (.deferred (some [])) := ((World.putObj_heap_other (by omega)).trans (nD))
        refine ⟨by simp, .inl ⟨_, _, rfl, run_takeDeferred rD, ?_⟩⟩
        refine ⟨_, results_tmp rfl _ _ _, ?_⟩
        exact seekpost_put (seekpost_put HP.out hD6 (by omega) _) rD (by omega) _
    | false =>
      rw [hso] at c10
      have th9 := hL3.thaw 9
      have th10 := hL3.thaw 10
      have c9 := hL3.cell 9
      simp [Sto.obj] at c9
      go_wp2
      refine wp_region_noPanic ?_
      go_region
      refine NoPanic.normal ?_
      go_wp2
      have k7 : Pk (s.turn 0 true) c bl p l u en := k.congr (fun _ => rfl) rfl
      have hL6 : Lay ((W3.setCell ⟨sb, 9, none⟩ (.int .i64 0)).setCell ⟨sb, 10, none⟩ (.bool true)).drew sb vr vb vf (s.turn 0 true) := by
        have x1 := hL3.store (s' := { s with hand := 0 }) 9 (.int .i64 0) rfl rfl rfl rfl
        exact (x1.store (s' := s.turn 0 true) 10 (.bool true) rfl rfl rfl rfl).drew
      have hU6 := ((hU3.setCell (p := ⟨sb, 9, none⟩) (.inl hO.sb) (.int .i64 0)).setCell (p := ⟨sb, 10, none⟩) (.inl hO.sb) (.bool true)).drew
      have keep6 : ∀ x : Nat, x ≠ sb → ((W3.setCell ⟨sb, 9, none⟩ (.int .i64 0)).setCell ⟨sb, 10, none⟩ (.bool true)).drew.heap[x]? = W3.heap[x]? := fun x hx => by
        show ((W3.setCell ⟨sb, 9, none⟩ (.int .i64 0)).setCell ⟨sb, 10, none⟩ (.bool true)).heap[x]? = _
        rw [Below.heap_setCell _ _ _ _ hx, Below.heap_setCell _ _ _ _ hx]
      have b61 := box_of (keep6 W.heap.size (by omega)) b1
      have b62 := box_of (keep6 (W.heap.size + 1) (by omega)) b2
      have hD6' := (keep6 D (by omega)).trans hD2
      have z6 : ((W3.setCell ⟨sb, 9, none⟩ (.int .i64 0)).setCell ⟨sb, 10, none⟩ (.bool true)).drew.heap.size = W3.heap.size := by
        show ((W3.setCell ⟨sb, 9, none⟩ (.int .i64 0)).setCell ⟨sb, 10, none⟩ (.bool true)).heap.size = _
        simp [World.setCell]
      clear c9 th9 th10 c10 cs keep6
      generalize World.drew (World.setCell (World.setCell W3 _ _) _ _) = W6 at *
      have e0 : c[0]'k.ne = 0 := by have := k.zero; rw [List.getElem?_eq_getElem k.ne] at this; exact Option.some.inj this
      rw [rounds_succ]
      refine wp_block (wp_seq (seek_pass h (fit_turn f 0 true) hU6 hL6 hO.sb size b61 b62 c k.ne k.nodup (by have := drop_nz k 0; simpa using this) (by rw [e0]; rfl) (by have := chain_drop k7 0; simpa using this) rfl _ _ _ _ _ _ _ _ _ _ _ _ _ _ _ _ _ _ _ _ _ _ _ _ _ _ _ _ _ _ _ _ _ _ _ ?d2 ?s2))
      case s2 =>
        rintro W7 D7 i hi hr7 hU7 hL7 b71 hD71 hD72 hold7
        dsimp only
        have hr7' : size ≤ roomAt s c i := hr7
        have cs7 := b71.cell
        have c9 := hL7.cell 9
        simp [Sto.obj] at c9
        have HP := (show Hid _ from seek_hit k f hn hnc (hO.mono (fun _ g => .inl g)) hU7 size i hi true hL7 hr7')
        have nD := (hold7 D (by omega) (by omega)).trans hD6'
        clear hL7 hU7 hold7
        go_wp2
        (try rw [Exit.noGoto_ret])
        refine ⟨by simp, .inl ⟨_, _, rfl, run_takeDeferred hD72, ?_⟩⟩
        have rD : (W7.putObj D7 (.deferred none)).heap[D]? = some (.deferred (some [])) := (World.putObj_heap_other (by omega)).trans nD
        refine ⟨by simp, .inl ⟨_, _, rfl, run_takeDeferred rD, ?_⟩⟩
        refine ⟨_, results_tmp rfl _ _ _, ?_⟩
        exact seekpost_put (seekpost_put HP.out hD72 (by omega) _) rD (by omega) _
      case d2 =>
        rintro W7 D7 hr7 hU7 hL7 b71 b72 hD71 hD72 hold7
        dsimp only
        have c10 := hL7.cell 10
        simp [Sto.obj, Sto.turn] at c10
        have cs := b71.cell
        have hDD := (hold7 D (by omega) (by omega)).trans hD6'
        have ltD7 := (Array.getElem?_eq_some_iff.1 hD72).1
        have cp := pack_c hL7 (fit_turn f 0 true) k7 (own_fp sb vr vb vf)
        go_wp2_with (go_at_call 27; (with_reducible refine cp.mono ?_); rintro e W4 ⟨rfl, hU4, vr4, hL4, hO4⟩; clear cp)
        have keep : ∀ x : Nat, W.heap.size ≤ x → x < W7.heap.size → W4.heap[x]? = W7.heap[x]? := fun x h1 h2 => hU4.block x h2 (fun g => by have := fp_lt h x g; omega)
        have s4 := hU4.size
        have hU4S : Upd S W W4 := hU7.trans (hU4.mono (fun k g => .inl (fp_own hO k g)))
        have hO4S : Own S sb vr4 vb vf := hO4.mono (fp_own hO)
        have d1 := box_of (keep W.heap.size (by omega) b71.lt) b71
        have d2 := box_of (keep (W.heap.size + 1) (by omega) b72.lt) b72
        have mD7 := (keep D7 (by omega) (Array.getElem?_eq_some_iff.1 hD72).1).trans hD72
        have mD := (keep D (by omega) (Array.getElem?_eq_some_iff.1 hDD).1).trans hDD
        have hz0 : 0 < c.length := k.ne
        obtain ⟨z, hzc⟩ : ∃ z, c[c.length - 1]? = some z := ⟨_, List.getElem?_eq_getElem (by omega)⟩
        have hlt : c.length - 1 < c.length := by omega
        have hg : (packedSto (s.turn 0 true) c bl p l en).get z = some { bl (c.length - 1) with pos := en (c.length - 1) } := packN_earlier k7 c.length (c.length - 1) z hlt (Nat.le_refl _) hzc
        have hnx : (bl (c.length - 1)).next = ((0 : Nat) : Int) := by rw [k.next _ hlt, List.getElem?_eq_none (by omega)]; rfl
        have hhand : (packedSto (s.turn 0 true) c bl p l en).hand = (z : Nat) := packN_hand hzc
        have hroom : size ≤ roomAt (packedSto (s.turn 0 true) c bl p l en) [z] 0 := by
          have e1 := k.en1 (c.length - 1) hlt
          rw [show c.length - 1 + 1 = c.length by omega] at e1
          have hst : ({ bl (c.length - 1) with pos := (en (c.length - 1) : Int) } : Blk).stop = (en c.length : Nat) := by
            show (en (c.length - 1) : Int) + up8 (bl (c.length - 1)).len = _
            rw [k.len _ hlt, k.up _ hlt, e1]; omega
          have hus' : (packedSto (s.turn 0 true) c bl p l en).used = s.used := (packN_rest c.length).2.1
          show size ≤ roomOf _ ((packedSto (s.turn 0 true) c bl p l en).getD z) 0 _
          rw [getD_of hg, roomOf, if_pos rfl, hst, hus']
          have := f.used0
          omega
        rw [rounds_succ]
        refine wp_block (wp_seq (seek_pass h (fit_packed (fit_turn f 0 true) k7) hU4S hL4 hO.sb size d1 d2 [z] (by simp) (by simp) (by simp) hhand (by intro i hi; have e : i = 0 := (by rw [List.length_singleton] at hi; omega); subst e; exact ⟨_, hg, hnx⟩) rfl _ _ _ _ _ _ _ _ _ _ _ _ _ _ _ _ _ _ _ _ _ _ _ _ _ _ _ _ _ _ _ _ _ _ _ ?d3 ?s3))
        case d3 =>
          rintro W5 D5 hr5 _ _ _ _ _ _ _
          exact absurd hroom (by have := hr5 0 (by simp); omega)
        case s3 =>
          rintro W5 D5 i hi hr5 hU5 hL5 b5 hD5 hD6 hold5
          dsimp only
          have ei : i = 0 := by rw [List.length_singleton] at hi; omega
          subst ei
          have hL5' : Lay W5 sb vr4 vb vf (packedSto (s.turn 0 true) c bl p l en) := by
            have e : ({ packedSto (s.turn 0 true) c bl p l en with hand := (([z][0]'hi : Nat) : Int) } : Sto) = packedSto (s.turn 0 true) c bl p l en := by rw [show ([z][0]'hi) = z from rfl, ← hhand]
            rw [← e]; exact hL5
          have cs5 := b5.cell
          have c9 := hL5'.cell 9
          simp [Sto.obj, hhand] at c9
          have HP := (show Hid _ from seek_hit_packed (W := W) (S := S) (h := 0) (b := true) k f hn hnc (hO4S.mono (fun _ g => .inl g)) hU5 size z hzc hL5')
          have nD7 := (hold5 D7 (by omega) (Array.getElem?_eq_some_iff.1 mD7).1).trans mD7
          have qD7 := (Array.getElem?_eq_some_iff.1 mD7).1
          have nD := (hold5 D (by omega) (Array.getElem?_eq_some_iff.1 mD).1).trans mD
          have qD := (Array.getElem?_eq_some_iff.1 mD).1
          clear hL5 hL5' hU5 hold5
          go_wp2
          (try rw [Exit.noGoto_ret])
          refine ⟨by simp, .inl ⟨_, _, rfl, run_takeDeferred hD6, ?_⟩⟩
          have rD7 : (W5.putObj D5 (.deferred none)).heap[D7]? = some (.deferred (some [])) := ((World.putObj_heap_other (by omega)).trans (nD7))
          refine ⟨by simp, .inl ⟨_, _, rfl, run_takeDeferred rD7, ?_⟩⟩
          have rD : ((W5.putObj D5 (.deferred none)).putObj D7 (.deferred none)).heap[D]? = some (.deferred (some [])) := ((World.putObj_heap_other (by omega)).trans ((World.putObj_heap_other (by omega)).trans nD))
          refine ⟨by simp, .inl ⟨_, _, rfl, run_takeDeferred rD, ?_⟩⟩
          refine ⟨_, results_tmp rfl _ _ _, ?_⟩
          exact seekpost_put (seekpost_put (seekpost_put HP.out hD6 (by omega) _) rD7 (by omega) _) rD (by omega) _
end
end Go.Proofs.Ytenbjlmomkiknab.W
