import Derived.Test.YtaebnnkhjlidiaaKf3J
import Derived.Test.YtaebnnkhjlidiaaBase8
import Derived.Test.YtaebnnkhjlidiaaSiOpenJ
/- HeapFull: the walk. -/
namespace Go.Proofs.Ytaebnnkhjlidiaa.W
open Go.ChangeShapes Go.WideShapes Go.RowKit Go.Shelf Si
set_option linter.unusedVariables false
set_option linter.unusedSimpArgs false
namespace Hq
set_option maxRecDepth 100000 in
theorem flong (u : Int) (o : Option Addr) (l c : Nat) (f : Int) (h : u < 0 ∨ 400 < u ∨ 100 < l) (w : World) : Calls Try.prog 4 #[.int .i64 u, .slice o l c, .int .i64 f] w fun e w' => e = .returned (.bool true) ∧ Below w.heap.size w w' := by
  by_cases c1 : u < 0
  · clear h
    go_enter Try.func4, Try.ntmps4
    go_wp2
    go_ret
    exact ⟨rfl, Below.refl _ _⟩
  · by_cases c2 : u > 400
    · clear h
      go_enter Try.func4, Try.ntmps4
      go_wp2
      go_ret
      exact ⟨rfl, Below.refl _ _⟩
    · have c3 : (l : Int) > 100 := by omega
      clear h
      go_enter Try.func4, Try.ntmps4
      go_wp2
      go_ret
      exact ⟨rfl, Below.refl _ _⟩
set_option maxRecDepth 100000 in
set_option maxHeartbeats 4000000 in
theorem fmain (u : Nat) (hu : u ≤ 400) (o : Option Addr) (l c : Nat) (N : Nat → Int) (fr : Int) (w : World) (R1 : IntsAt w o l c N) (hl : l ≤ 100) : Calls Try.prog 4 #[.int .i64 u, .slice o l c, .int .i64 fr] w fun e w' => e = .returned (.bool true) ∧ Below w.heap.size w w' := by
  have u0 : ¬ (u : Int) < 0 := by omega
  have u1 : ¬ (u : Int) > 400 := by omega
  have l0 : ¬ (l : Int) > 100 := by omega
  have cn := hf_new (Below.refl w.heap.size w) u (by omega)
  go_enter Try.func4, Try.ntmps4
  go_upto_region 4 with (go_at_call 11; (with_reducible refine cn.mono ?_); rintro e w2 ⟨hb, rfl, q2, b2⟩; clear cn)
  have fu0 : Fu w w2 hb u 0 [] [] (fun k => k < w.heap.size) (.slice none 0 0) (.slice none 0 0) := ⟨q2, kp_nil, mine_nil w w2 _, World.ownsRow_nil _ _ _ _, fun k e => (by cases e), fun k e => (by cases e), fun i h => (by cases h), Nat.le_refl _⟩
  have FU0 := hid fu0
  clear fu0 q2 b2
  go_wp2
  go_loopw [9, 10, 11, 12, 13, 14, 15, 16, 17] (fun vr vn vs ii _ _ _ _ _ wr => ∃ (j : Nat) (H : List (Option Hc)) (ids : List Nat) (K : Nat → Prop), j ≤ l ∧ ii = .int .i64 j ∧ vs = .int .i64 (idsum H ids : Nat) ∧ Fu w wr hb u j H ids K vr vn) (fun _ _ _ ii _ _ _ _ _ _ => l - (intOf ii).toNat)
  case atStart => exact ⟨0, [], [], _, by omega, rfl, rfl, FU0.out⟩
  case round =>
    obtain ⟨j, H, ids, K, hj, rfl, rfl, fu⟩ := hrel
    clear FU0
    have FU := hid fu
    by_cases hlt : j < l
    · have ho : ∃ a, o = some a := by
        rcases R1 with h | ⟨b, e, _⟩
        · omega
        · exact ⟨b, e⟩
      obtain ⟨a, rfl⟩ := ho
      have hcell : wr.cell? (a.add j) = some (.int .i64 (N j)) := by
        rcases R1 with ⟨e, _⟩ | ⟨b, e, _, _, h⟩
        · cases e
        · injection e with e
          subst e
          have hc := h j hlt
          exact (fu.q.bel.cell (World.block_lt_of_cell? w _ hc)).trans hc
      have j0 : (0 : Int) ≤ j := Int.natCast_nonneg _
      have j1 : (j : Int) < l := by omega
      clear fu
      by_cases c1 : N j < 0
      · go_wp2
        go_ret
        exact ⟨rfl, FU.out.q.bel⟩
      · by_cases c2 : N j > 200
        · go_wp2
          go_ret
          exact ⟨rfl, FU.out.q.bel⟩
        · obtain ⟨n, hn⟩ : ∃ n : Nat, N j = n := ⟨(N j).toNat, by omega⟩
          rw [hn] at hcell c1 c2
          have hn1 : n ≤ 200 := by omega
          clear hn
          obtain ⟨w3, hm3, b3, lt3, ce3, th3⟩ := fill_made wr n (by omega)
          obtain ⟨ox, cx, hvx⟩ := slice_of (owns_base FU.out.r.row (b' := 0) (fun _ _ => Nat.zero_le _))
          obtain ⟨oy, cy, hvy⟩ := slice_of (owns_base FU.out.n (b' := 0) (fun _ _ => Nat.zero_le _))
          generalize (ids.map hw).length = nx at hvx
          generalize ids.length = ny at hvy
          subst hvx
          subst hvy
          go_upto_region 15 with fail
          have B4 : Below wr.heap.size wr (w3.alloc (.cells #[.int .i64 8, .bool false, .int .i64 0, .string ⟨#[]⟩, .slice (some ⟨wr.heap.size, 0, none⟩) n n, .slice none 0 0, .int .u64 0, .int .i64 0, .int .i64 0] 26)) := b3.alloc b3.size _
          obtain ⟨K4, s4, k4, k4'⟩ : ∃ K4 : Nat → Prop, Fu w (w3.alloc (.cells #[.int .i64 8, .bool false, .int .i64 0, .string ⟨#[]⟩, .slice (some ⟨wr.heap.size, 0, none⟩) n n, .slice none 0 0, .int .u64 0, .int .i64 0, .int .i64 0] 26)) hb u j H ids K4 (.slice ox nx cx) (.slice oy ny cy) ∧ K4 wr.heap.size ∧ K4 w3.heap.size := ⟨_, FU.out.below B4, .inr ⟨Nat.le_refl _, by rw [World.size_alloc]; omega⟩, .inr ⟨b3.size, by rw [World.size_alloc]; omega⟩⟩
          have f4 := World.alloc_heap_new w3 (.cells #[.int .i64 8, .bool false, .int .i64 0, .string ⟨#[]⟩, .slice (some ⟨wr.heap.size, 0, none⟩) n n, .slice none 0 0, .int .u64 0, .int .i64 0, .int .i64 0] 26)
          have hBa := (Below.refl w3.heap.size w3).alloc (Nat.le_refl _) (.cells #[.int .i64 8, .bool false, .int .i64 0, .string ⟨#[]⟩, .slice (some ⟨wr.heap.size, 0, none⟩) n n, .slice none 0 0, .int .u64 0, .int .i64 0, .int .i64 0] 26)
          have fi := Fill.first (b := j + 1) (fun t ht => (hBa.cell (p := ⟨wr.heap.size, t, none⟩) lt3).trans (ce3 t ht)) (fun t => (hBa.frozen (p := ⟨wr.heap.size, t, none⟩) lt3).trans (th3 t))
          have hcg : wr.heap.size ≠ w3.heap.size := by omega
          have k5 : w.heap.size ≤ wr.heap.size := FU.out.q.bel.size
          have nb1 : ∀ k, (Value.slice ox nx cx).ownBlock = some k → k < wr.heap.size := fun k e => (FU.out.r.row.lt k e).2
          have nb2 : ∀ k, (Value.slice oy ny cy).ownBlock = some k → k < wr.heap.size := fun k e => (FU.out.n.lt k e).2
          have NB := hid (And.intro nb1 nb2)
          clear nb1 nb2
          generalize w3.alloc (.cells #[.int .i64 8, .bool false, .int .i64 0, .string ⟨#[]⟩, .slice (some ⟨wr.heap.size, 0, none⟩) n n, .slice none 0 0, .int .u64 0, .int .i64 0, .int .i64 0] 26) = W4 at *
          generalize w3.heap.size = cb at *
          clear hm3 b3 lt3 ce3 th3 hcell FU B4 hBa
          generalize wr.heap.size = gb at *
          have S4 := hid s4
          have HF := hid fi
          clear s4 fi
          go_wp2
          go_loopw [14] (fun kk wk => ∃ k : Nat, k ≤ n ∧ kk = .int .i64 k ∧ Fill W4 wk gb n k (j + 1)) (fun kk _ => n - (intOf kk).toNat)
          case atStart => exact ⟨0, by omega, rfl, HF.out⟩
          case round =>
            obtain ⟨k, hk, rfl, fi⟩ := hrel
            clear HF
            have f5 := (fi.upd.block cb (lt_get f4) (fun e => hcg e.symm)).trans f4
            have c5 := fun i => cell_of_row _ cb i _ _ _ f5
            by_cases hkn : k < n
            · have k0 : (0 : Int) ≤ k := Int.natCast_nonneg _
              have k1 : (k : Int) < n := by omega
              have ck := fi.cells k hkn
              have zk := fi.thaw k
              have wj : IntKind.u8.wrap ((j : Int) + 1) = ((j + 1 : Nat) : Int) := by rw [IntKind.wrap_u8]; omega
              have wi : IntKind.i64.wrap ((j : Int) + 1) = (j : Int) + 1 := by rw [IntKind.wrap_i64]; omega
              have FS := hid (fi.step hkn)
              clear fi f5
              go_wp2
              go_roundw
              case rel => exact ⟨k + 1, by omega, by go_num, FS.out⟩
              case measure => simp [intOf]; omega
            · have e : k = n := by omega
              subst e
              have s5 : Fu w wr hb u j H ids K4 (.slice ox nx cx) (.slice oy ny cy) := S4.out.upd fi.upd (fun x e => by subst e; exact ⟨k4, k5, fun e => by have := NB.out.1 _ e; omega, fun e => by have := NB.out.2 _ e; omega⟩)
              have br := fi.row
              have cN := need8 k hn1 gb wr
              obtain ⟨nd, hnd⟩ : ∃ nd : Nat, 1 + (k + 7) / 8 = nd := ⟨_, rfl⟩
              rw [hnd] at cN
              have HN := hid hnd
              clear hnd
              have S5 := hid s5
              have BR := hid br
              clear s5 br fi S4 NB k5 hkn hk
              go_upto_region 20 with (go_at_call 9; (with_reducible refine cN.mono ?_); rintro e w6 ⟨rfl, b6⟩; clear cN)
              have s6 := S5.out.below' b6
              have f6 := (b6.block cb (lt_get f5)).trans f5
              have br6 : ByteRow w6 (some ⟨gb, 0, none⟩) (List.replicate k (j + 1)) := byteRow_upd (S := fun _ => False) BR.out (Upd.of_below b6) (fun x e h => h)
              clear c5 f5 S5 BR b6
              obtain ⟨vc, Wc, hrun, hwc, bc⟩ := copy_run (W1 := w6.drew) 23 (.slice ox nx cx) (ids.map hw) (show WordsAt w6 (.slice ox nx cx) (ids.map hw) from s6.r.words) (by have := s6.len; simp; omega)
              have bc' : Below w6.heap.size w6 Wc := ⟨bc.os, bc.tape, bc.output, bc.size, bc.block⟩
              have s7 := s6.below' bc'
              have cp := f_buf s7.q s7.k (by have := s7.lh; omega) k (j + 1) hn1 (by omega) gb (byteRow_upd (S := fun _ => False) br6 (Upd.of_below bc') (fun x e h => h)) k4 vc hwc
              have hrun' : (Builtin.append_ #[23, 23] 23 #[.slice (some ⟨w6.heap.size, 0, none⟩) 0 0, (.slice ox nx cx)]).run Try.prog (w6.alloc (.cells #[] 24)).drew = .ok vc Wc := hrun
              have lt6 := lt_get f6
              have fA : (w6.alloc (.cells #[] 24)).drew.heap[cb]? = some (.cells #[.int .i64 8, .bool false, .int .i64 0, .string ⟨#[]⟩, .slice (some ⟨gb, 0, none⟩) k k, .slice none 0 0, .int .u64 0, .int .i64 0, .int .i64 0] 26) := (Below.heap_alloc w6 _ cb lt6).trans f6
              have fC : Wc.heap[cb]? = some (.cells #[.int .i64 8, .bool false, .int .i64 0, .string ⟨#[]⟩, .slice (some ⟨gb, 0, none⟩) k k, .slice none 0 0, .int .u64 0, .int .i64 0, .int .i64 0] 26) := (bc'.block _ lt6).trans f6
              have S7 := hid s7
              clear s6 s7 hwc hrun br6
              refine wp_region_held_drew (S := fun w' => w'.heap[cb]? = some (.cells #[.int .i64 8, .bool false, .int .i64 0, .string ⟨#[]⟩, .slice (some ⟨gb, 0, none⟩) k k, .slice none 0 0, .int .u64 0, .int .i64 0, .int .i64 0] 26)) (by kernel_rfl) f6 ?_
              intro hS
              (refine wpAnyH_take (i := 0) (v := ?_) rfl (by kernel_rfl) (by kernel_rfl) (by kernel_rfl) (fun _ _ _ h => h) (Or.inl ⟨by rfl, ?_⟩) hS ?_); rotate_left; (focus (intro w' hSw; (have el := fun j => cell_of_row w' cb j _ _ _ hSw); go_simp; (try with_reducible rfl))); (try simp only [Act.put, List.getElem_toArray, List.getElem_cons_zero, List.getElem_cons_succ, List.setIfInBounds_toArray, List.set_cons_zero, List.set_cons_succ])
              (refine wpAnyH_take (i := 1) (v := ?_) rfl (by kernel_rfl) (by kernel_rfl) (by kernel_rfl) (fun _ _ _ h => h) (Or.inl ⟨by rfl, ?_⟩) hS ?_); rotate_left; (focus (intro w' hSw; (have el := fun j => cell_of_row w' cb j _ _ _ hSw); go_simp; (try with_reducible rfl))); (try simp only [Act.put, List.getElem_toArray, List.getElem_cons_zero, List.getElem_cons_succ, List.setIfInBounds_toArray, List.set_cons_zero, List.set_cons_succ])
              (refine wpAnyH_take (i := 3) (v := ?_) rfl (by kernel_rfl) (by kernel_rfl) (by kernel_rfl) (fun _ _ _ h => h) (Or.inl ⟨by rfl, ?_⟩) hS ?_); rotate_left; (focus (intro w' hSw; (have el := fun j => cell_of_row w' cb j _ _ _ hSw); go_simp; (try with_reducible rfl))); (try simp only [Act.put, List.getElem_toArray, List.getElem_cons_zero, List.getElem_cons_succ, List.setIfInBounds_toArray, List.set_cons_zero, List.set_cons_succ])
              refine wpAnyH_ready (rs := [2]) (by kernel_rfl) (by simp) ?_
              refine AllReadyH.cons rfl (fun K hK => ?_) AllReadyH.nil
              go_simp
              refine hK.out _ _ fA (fun hS2 => ?_)
              clear hK K hS fA
              (try simp only [Act.put, List.getElem_toArray, List.getElem_cons_zero, List.getElem_cons_succ, List.setIfInBounds_toArray, List.set_cons_zero, List.set_cons_succ])
              refine wpAnyH_ready (rs := [4]) (by kernel_rfl) (by simp) ?_
              refine AllReadyH.cons rfl (fun K hK => ?_) AllReadyH.nil
              rw [if_pos (by rfl)]
              refine Lib.wp_append_run _ (.tmp 90) (.tmp 91) 23 23 rfl _ _ rfl rfl _ _ hrun' ?_
              refine hK.out _ _ fC (fun hS3 => ?_)
              clear hK K hS2 hrun'
              (try simp only [Act.put, List.getElem_toArray, List.getElem_cons_zero, List.getElem_cons_succ, List.setIfInBounds_toArray, List.set_cons_zero, List.set_cons_succ])
              refine wpAnyH_ready (rs := [5]) (by kernel_rfl) (by simp) ?_
              refine AllReadyH.cons rfl (fun K hK => ?_) AllReadyH.nil
              go_simp
              refine cp.mono ?_
              intro e w8 hP
              obtain ⟨pp, gg, rfl, hH⟩ := S7.out.put hn1 (by omega) (by omega) hP
              have f8 : w8.heap[cb]? = some (.cells #[.int .i64 8, .bool false, .int .i64 0, .string ⟨#[]⟩, .slice (some ⟨gb, 0, none⟩) k k, .slice none 0 0, .int .u64 0, .int .i64 0, .int .i64 0] 26) := (hP.1.block cb (lt_get fC) (fun e => e.1 k4')).trans fC
              refine hK.out _ _ f8 (fun hS4 => ?_)
              clear hK K hS3 cp fC f6 S7 bc bc' k4 k4' hP
              (try simp only [Act.put, List.getElem_toArray, List.getElem_cons_zero, List.getElem_cons_succ, List.setIfInBounds_toArray, List.set_cons_zero, List.set_cons_succ])
              (refine wpAnyH_take (i := 6) (v := ?_) rfl (by kernel_rfl) (by kernel_rfl) (by kernel_rfl) (fun _ _ _ h => h) (Or.inl ⟨by rfl, ?_⟩) hS4 ?_); rotate_left; (focus (intro w' hSw; (have el := fun j => cell_of_row w' cb j _ _ _ hSw); go_simp; (try with_reducible rfl))); (try simp only [Act.put, List.getElem_toArray, List.getElem_cons_zero, List.getElem_cons_succ, List.setIfInBounds_toArray, List.set_cons_zero, List.set_cons_succ])
              (refine wpAnyH_take (i := 7) (v := ?_) rfl (by kernel_rfl) (by kernel_rfl) (by kernel_rfl) (fun _ _ _ h => h) (Or.inl ⟨by rfl, ?_⟩) hS4 ?_); rotate_left; (focus (intro w' hSw; (have el := fun j => cell_of_row w' cb j _ _ _ hSw); go_simp; (try with_reducible rfl))); (try simp only [Act.put, List.getElem_toArray, List.getElem_cons_zero, List.getElem_cons_succ, List.setIfInBounds_toArray, List.set_cons_zero, List.set_cons_succ])
              (refine wpAnyH_take (i := 8) (v := ?_) rfl (by kernel_rfl) (by kernel_rfl) (by kernel_rfl) (fun _ _ _ h => h) (Or.inl ⟨by rfl, ?_⟩) hS4 ?_); rotate_left; (focus (intro w' hSw; (have el := fun j => cell_of_row w' cb j _ _ _ hSw); go_simp; (try with_reducible rfl))); (try simp only [Act.put, List.getElem_toArray, List.getElem_cons_zero, List.getElem_cons_succ, List.setIfInBounds_toArray, List.set_cons_zero, List.set_cons_succ])
              (refine wpAnyH_take (i := 9) (v := ?_) rfl (by kernel_rfl) (by kernel_rfl) (by kernel_rfl) (fun _ _ _ h => h) (Or.inl ⟨by rfl, ?_⟩) hS4 ?_); rotate_left; (focus (intro w' hSw; (have el := fun j => cell_of_row w' cb j _ _ _ hSw); go_simp; (try with_reducible rfl))); (try simp only [Act.put, List.getElem_toArray, List.getElem_cons_zero, List.getElem_cons_succ, List.setIfInBounds_toArray, List.set_cons_zero, List.set_cons_succ])
              (refine wpAnyH_take (i := 10) (v := ?_) rfl (by kernel_rfl) (by kernel_rfl) (by kernel_rfl) (fun _ _ _ h => h) (Or.inl ⟨by rfl, ?_⟩) hS4 ?_); rotate_left; (focus (intro w' hSw; (have el := fun j => cell_of_row w' cb j _ _ _ hSw); go_simp; (try with_reducible rfl))); (try simp only [Act.put, List.getElem_toArray, List.getElem_cons_zero, List.getElem_cons_succ, List.setIfInBounds_toArray, List.set_cons_zero, List.set_cons_succ])
              refine wpAnyH_done (by kernel_rfl) ?_ _
              clear hS4 f8
              have HH := hid hH
              clear hH
              go_upto_region 21 with fail
              obtain ⟨H8, fu8, es8, hway⟩ := HH.out.stay
              rw [HN.out] at hway
              have hrm := fu8.room
              have hnd : nd ≤ 100 := by have := HN.out; omega
              have hs8 : idsum H ids ≤ 500 := by omega
              have wv : IntKind.i64.wrap ((idsum H ids : Nat) + (nd : Int)) = (idsum H ids : Nat) + (nd : Int) := by rw [IntKind.wrap_i64]; omega
              rcases hway with ⟨x1, x2, _⟩ | ⟨x1, x2⟩
              · subst x2
                have x3 : ((idsum H ids : Nat) : Int) + (nd : Int) ≤ u := by omega
                obtain ⟨vr', W8, vn', W9, r1, r2, H9, ids9, K9, fu9, es9⟩ := HH.out.keep (by omega) 23 30
                rw [HN.out] at r2 es9
                obtain ⟨ox2, cx2, hvx2⟩ := slice_of (owns_base fu9.r.row (b' := 0) (fun _ _ => Nat.zero_le _))
                obtain ⟨oy2, cy2, hvy2⟩ := slice_of (owns_base fu9.n (b' := 0) (fun _ _ => Nat.zero_le _))
                generalize (ids9.map hw).length = nx2 at hvx2
                generalize ids9.length = ny2 at hvy2
                subst hvx2
                subst hvy2
                have FU9 := hid fu9
                have ES9 := hid es9
                clear fu9 fu8 es8 es9 HH hrm x1 HN
                generalize idsum H ids = s at *
                go_wp2_with (first | (at_builtin; refine Lib.wpList_append_run _ rfl (.tmp 114) (.tmp 116) 23 23 rfl _ _ (by simp [Act.eval]) (by simp [Act.eval]) _ _ r1 ?_) | (at_builtin; refine Lib.wpList_append_run _ rfl (.tmp 118) (.tmp 120) 30 30 rfl _ _ (by simp [Act.eval]) (by simp [Act.eval]) _ _ r2 ?_))
                go_roundw
                case rel => exact ⟨j + 1, H9, ids9, K9, by omega, by go_num, by rw [ES9.out]; go_num, FU9.out⟩
                case measure => simp [intOf]; omega
              · subst x2
                have x3 : ¬ ((idsum H ids : Nat) : Int) + (nd : Int) ≤ u := by omega
                have FU9 := hid fu8
                have ES9 := hid es8
                clear fu8 es8 HH hrm x1 HN
                generalize idsum H ids = s at *
                go_wp2
                go_roundw
                case rel => exact ⟨j + 1, H8, ids, K4, by omega, by go_num, by rw [ES9.out], FU9.out⟩
                case measure => simp [intOf]; omega
    · have e : j = l := by omega
      subst e
      obtain ⟨ox, cx, hvx⟩ := slice_of (owns_base fu.r.row (b' := 0) (fun _ _ => Nat.zero_le _))
      obtain ⟨oy, cy, hvy⟩ := slice_of (owns_base fu.n (b' := 0) (fun _ _ => Nat.zero_le _))
      have hlm : (ids.map hw).length = ids.length := List.length_map _
      rw [hlm] at hvx
      obtain ⟨L, hL⟩ : ∃ L, ids.length = L := ⟨_, rfl⟩
      rw [hL] at hvx hvy
      subst hvx
      subst hvy
      have HL := hid hL
      have hLj : L ≤ 100 := by have := fu.len; omega
      have cr := f_reach fu.q fu.k _ fu.r.words
      clear fu hlm hL hj hlt
      go_upto_region 29 with (go_at_call 13; (with_reducible refine cr.mono ?_); rintro e w1 ⟨rfl, b1⟩; clear cr)
      have fu1 := FU.out.below' b1
      have FU1 := hid fu1
      clear fu1 FU b1
      by_cases hL0 : L = 0
      · subst hL0
        go_wp2_with (go_at_call 10; (with_reducible refine (awake6_c _).mono ?_); rintro e w5 ⟨rfl, b5⟩)
        go_ret
        have bb := FU1.out.q.bel
        exact ⟨rfl, bb.trans (b5.mono bb.size)⟩
      · have hL1 : ((L : Int) == 0) = false := by simp; omega
        have hL2 : ¬ (L : Int) = 0 := by omega
        go_upto_region 32 with fail
        obtain ⟨k, hkL, hkT⟩ : ∃ k : Nat, k < L ∧ ((¬ fr.tmod L < 0 ∧ fr.tmod L = k) ∨ (fr.tmod L < 0 ∧ IntKind.i64.wrap (-fr.tmod L) = k)) := by
          have h1 := Int.natAbs_tmod fr (L : Int)
          have h2 : fr.natAbs % (L : Int).natAbs < L := Nat.mod_lt _ (by simp; omega)
          refine ⟨(fr.tmod L).natAbs, by omega, ?_⟩
          by_cases h : fr.tmod L < 0
          · exact .inr ⟨h, by rw [IntKind.wrap_i64]; omega⟩
          · exact .inl ⟨h, by omega⟩
        obtain ⟨g1, cap1, e1, hcx⟩ := own_slice (owns_base FU1.out.r.row (b' := 0) (fun _ _ => Nat.zero_le _)) (by have := HL.out; simp; omega)
        obtain ⟨gy, capy, e2, hcy⟩ := own_slice (owns_base FU1.out.n (b' := 0) (fun _ _ => Nat.zero_le _)) (by have := HL.out; omega)
        injection e1 with e1 e1' e1''
        injection e2 with e2 e2' e2''
        rw [← e1', ← e1''] at hcx
        rw [← e2', ← e2''] at hcy
        subst e1
        subst e2
        clear e1' e1'' e2' e2''
        have k0 : (0 : Int) ≤ k := Int.natCast_nonneg _
        have k1 : (k : Int) ≤ cx := by omega
        have k2 : (k : Int) + 1 ≤ L := by omega
        have k3 : (0 : Int) ≤ (k : Int) + 1 := by omega
        have k4 : (k : Int) < L := by omega
        have wk : IntKind.i64.wrap ((k : Int) + 1) = (k : Int) + 1 := by rw [IntKind.wrap_i64]; omega
        have hkl : k < ids.length := by rw [HL.out]; exact hkL
        have nk : ∃ r : Nat, r ≤ 100 ∧ needO ((H[ids[k]]?).getD none) = r + 1 := by
          obtain ⟨n', b', x1, x2, x3, x4⟩ := FU1.out.b ids[k] (List.getElem_mem hkl)
          refine ⟨(n' + 7) / 8, by omega, ?_⟩
          rw [x4]
          show (Hc.buf 8 (List.replicate n' b')).need = _
          rw [bufn_need, List.length_replicate]; omega
        obtain ⟨r, hr, hnk⟩ := nk
        obtain ⟨o2, ho2⟩ : ∃ o2, (if cx = k + 1 then some (⟨g1, 0, none⟩ : Addr) else some ⟨g1, 0 + (k + 1), none⟩) = o2 := ⟨_, rfl⟩
        obtain ⟨v1, W1, v2, W2, r1, r2, own2, bb1, bb2⟩ := rest_run w1 ⟨g1, 0, none⟩ L cx (ids.map hw) FU1.out.r.words (by rw [List.length_map]; exact HL.out) k hkL hcx (by omega) o2 ho2
        rw [Nat.zero_add] at ho2
        rw [map_erase] at own2
        obtain ⟨Lm, hLm⟩ : ∃ Lm, L - 1 = Lm := ⟨_, rfl⟩
        rw [hLm] at own2
        have HLM := hid hLm
        clear hLm
        obtain ⟨o3, c3, hv3⟩ := slice_of (owns_base own2 (b' := 0) (fun _ _ => Nat.zero_le _))
        subst hv3
        have OWN := hid own2
        have HNK := hid hnk
        have HK := hid hkL
        clear own2 hnk hcy
        rcases hkT with ⟨t1, t2⟩ | ⟨t1, t2⟩
        · rw [t2] at t1 ⊢
          go_upto_region 34 with fail
          refine wp_region_held_drew (S := fun _ => True) (by kernel_rfl) trivial ?_
          intro hS
          (refine wpAnyH_take (i := 1) (v := ?_) rfl (by kernel_rfl) (by kernel_rfl) (by kernel_rfl) (fun _ _ _ h => h) (Or.inl ⟨by rfl, ?_⟩) hS ?_); rotate_left; (focus (intro w' hSw; go_simp; (try with_reducible rfl))); (try simp only [Act.put, List.getElem_toArray, List.getElem_cons_zero, List.getElem_cons_succ, List.setIfInBounds_toArray, List.set_cons_zero, List.set_cons_succ])
          (refine wpAnyH_take (i := 2) (v := ?_) rfl (by kernel_rfl) (by kernel_rfl) (by kernel_rfl) (fun _ _ _ h => h) (Or.inl ⟨by rfl, ?_⟩) hS ?_); rotate_left; (focus (intro w' hSw; go_simp; (try with_reducible rfl))); (try simp only [Act.put, List.getElem_toArray, List.getElem_cons_zero, List.getElem_cons_succ, List.setIfInBounds_toArray, List.set_cons_zero, List.set_cons_succ])
          (refine wpAnyH_take (i := 3) (v := .slice (some ⟨g1, 0, none⟩) k cx) rfl (by kernel_rfl) (by kernel_rfl) (by kernel_rfl) (fun _ _ _ h => h) (Or.inl ⟨by rfl, ?_⟩) hS ?_); (focus (intro w' hSw; go_simp)); (try simp only [Act.put, List.getElem_toArray, List.getElem_cons_zero, List.getElem_cons_succ, List.setIfInBounds_toArray, List.set_cons_zero, List.set_cons_succ])
          (refine wpAnyH_take (i := 5) (v := ?_) rfl (by kernel_rfl) (by kernel_rfl) (by kernel_rfl) (fun _ _ _ h => h) (Or.inl ⟨by rfl, ?_⟩) hS ?_); rotate_left; (focus (intro w' hSw; go_simp; (try with_reducible rfl))); (try simp only [Act.put, List.getElem_toArray, List.getElem_cons_zero, List.getElem_cons_succ, List.setIfInBounds_toArray, List.set_cons_zero, List.set_cons_succ])
          (refine wpAnyH_take (i := 6) (v := ?_) rfl (by kernel_rfl) (by kernel_rfl) (by kernel_rfl) (fun _ _ _ h => h) (Or.inl ⟨by rfl, ?_⟩) hS ?_); rotate_left; (focus (intro w' hSw; go_simp; (try with_reducible rfl))); (try simp only [Act.put, List.getElem_toArray, List.getElem_cons_zero, List.getElem_cons_succ, List.setIfInBounds_toArray, List.set_cons_zero, List.set_cons_succ])
          (refine wpAnyH_take (i := 7) (v := ?_) rfl (by kernel_rfl) (by kernel_rfl) (by kernel_rfl) (fun _ _ _ h => h) (Or.inl ⟨by rfl, ?_⟩) hS ?_); rotate_left; (focus (intro w' hSw; go_simp; (try with_reducible rfl))); (try simp only [Act.put, List.getElem_toArray, List.getElem_cons_zero, List.getElem_cons_succ, List.setIfInBounds_toArray, List.set_cons_zero, List.set_cons_succ])
          (refine wpAnyH_take (i := 8) (v := .slice o2 (L - (k + 1)) (cx - (k + 1))) rfl (by kernel_rfl) (by kernel_rfl) (by kernel_rfl) (fun _ _ _ h => h) (Or.inl ⟨by rfl, ?_⟩) hS ?_); (focus (intro w' hSw; go_simp; (try exact ho2))); (try simp only [Act.put, List.getElem_toArray, List.getElem_cons_zero, List.getElem_cons_succ, List.setIfInBounds_toArray, List.set_cons_zero, List.set_cons_succ])
          refine wpAnyH_ready (rs := [0]) (by kernel_rfl) (by simp) ?_
          refine AllReadyH.cons rfl (fun K hK => ?_) AllReadyH.nil
          go_simp
          refine hK.out _ _ trivial (fun hS2 => ?_)
          clear hK K hS
          (try simp only [Act.put, List.getElem_toArray, List.getElem_cons_zero, List.getElem_cons_succ, List.setIfInBounds_toArray, List.set_cons_zero, List.set_cons_succ])
          refine wpAnyH_ready (rs := [4]) (by kernel_rfl) (by simp) ?_
          refine AllReadyH.cons rfl (fun K hK => ?_) AllReadyH.nil
          rw [if_pos (by rfl)]
          refine Lib.wp_append_run _ (.tmp 142) (.tmp 145) 23 23 rfl _ _ rfl rfl _ _ r1 ?_
          refine hK.out _ _ trivial (fun hS3 => ?_)
          clear hK K hS2 r1
          (try simp only [Act.put, List.getElem_toArray, List.getElem_cons_zero, List.getElem_cons_succ, List.setIfInBounds_toArray, List.set_cons_zero, List.set_cons_succ])
          refine wpAnyH_ready (rs := [9]) (by kernel_rfl) (by simp) ?_
          refine AllReadyH.cons rfl (fun K hK => ?_) AllReadyH.nil
          rw [if_pos (by rfl)]
          refine Lib.wp_append_run _ (.tmp 146) (.tmp 150) 23 23 rfl _ _ rfl rfl _ _ r2 ?_
          refine hK.out _ _ trivial (fun hS4 => ?_)
          clear hK K hS3 r2
          (try simp only [Act.put, List.getElem_toArray, List.getElem_cons_zero, List.getElem_cons_succ, List.setIfInBounds_toArray, List.set_cons_zero, List.set_cons_succ])
          (refine wpAnyH_take (i := 10) (v := ?_) rfl (by kernel_rfl) (by kernel_rfl) (by kernel_rfl) (fun _ _ _ h => h) (Or.inl ⟨by rfl, ?_⟩) hS4 ?_); rotate_left; (focus (intro w' hSw; go_simp; (try with_reducible rfl))); (try simp only [Act.put, List.getElem_toArray, List.getElem_cons_zero, List.getElem_cons_succ, List.setIfInBounds_toArray, List.set_cons_zero, List.set_cons_succ])
          refine wpAnyH_done (by kernel_rfl) ?_ _
          clear hS4
          have fu2 := FU1.out.below' bb2
          have cy2 : W2.cell? ⟨gy, k, none⟩ = some (.int .i64 ((r : Int) + 1)) := by
            have n2 := fu2.n
            rw [HL.out] at n2
            refine own_at n2 k _ ?_
            unfold needV
            rw [List.getElem?_map, List.getElem?_eq_getElem hkl, Option.map_some, HNK.out]
            rfl
          have wr1 : IntKind.i64.wrap ((r : Int) + 1 - 1) = r := by rw [IntKind.wrap_i64]; omega
          have wr2 : IntKind.i64.wrap (r : Int) = r := by rw [IntKind.wrap_i64]; omega
          obtain ⟨W3, hm3, hw3, b3, lt3⟩ := make_words W2 r (by omega)
          have bb3 := bb2.trans (b3.mono bb2.size)
          obtain ⟨K3, fu3, kk3, kv3⟩ : ∃ K3 : Nat → Prop, Fu w W3 hb u j H ids K3 (.slice (some ⟨g1, 0, none⟩) L cx) (.slice (some ⟨gy, 0, none⟩) L cy) ∧ K3 W2.heap.size ∧ ∀ kk, (Value.slice o3 Lm c3).ownBlock = some kk → K3 kk := ⟨_, FU1.out.below bb3, .inr ⟨bb2.size, lt3⟩, fun kk e => .inr ⟨(OWN.out.lt kk e).1, Nat.lt_of_lt_of_le (OWN.out.lt kk e).2 b3.size⟩⟩
          have own3 := owns_on OWN.out (fun kk e => b3.block kk (OWN.out.lt kk e).2)
          have hlen3 : ((ids.eraseIdx k).map hw).length = Lm := by rw [List.length_map, List.length_eraseIdx, if_pos hkl, HL.out]; exact HLM.out
          have wl3 : WordsAt W3 (.slice o3 Lm c3) ((ids.eraseIdx k).map hw) := words_own (B := w1.heap.size) (by rw [hlen3]; exact own3) (by have := HLM.out; omega) (fun x hx => by obtain ⟨a, ha, rfl⟩ := List.mem_map.1 hx; exact hw_lt a (by have := (fu3.k.erase k).lt ha; have := fu3.k.len; omega))
          have cp := f_row fu3.q (fu3.k.erase k) (by have := fu3.lh; omega) r (by omega) W2.heap.size hw3 kk3 _ wl3
          have hsum : idsum H ids = idsum H (ids.eraseIdx k) + (r + 1) := by rw [idsum_erase H ids k hkl, HNK.out]
          have hroom := fu3.room.1
          have HS := hid (And.intro hsum hroom)
          have FU3 := hid fu3
          have OWN3 := hid own3
          have KV3 := hid kv3
          clear fu2 fu3 own3 kv3 wl3 hw3 hsum hroom OWN hlen3
          go_upto_region 36 with (go_at_call 12; (with_reducible refine cp.mono ?_); intro e w4 hP; obtain ⟨hU4, H4, q4, kp4, sm4, ln4, hway⟩ := hP; (have hway2 := hway.resolve_right (fun h => by have := HS.out; have := nrow_need r; omega)); clear hway cp; obtain ⟨_, i4, hi4, rfl, kp5, at5, sum5⟩ := hway2)
          have own4 := owns_on OWN3.out (fun kk e => hU4.block kk (OWN3.out.lt kk e).2 (fun d => d.1 (KV3.out kk e)))
          have bw1 := FU1.out.q.bel
          have s14 : w1.heap.size ≤ w4.heap.size := Nat.le_trans bb3.size hU4.size
          obtain ⟨v5, W5, r5, own5, u5, ob5⟩ := own_append w1 w4 23 24 (.int .u64 0) underW infoW rfl _ _ _ own4 s14 (.int .u64 (hw i4 : Nat)) rfl (by have := HLM.out; omega) 23
          have own4' := append_keep w1 w4 23 24 (.int .u64 0) underW infoW _ _ _ own4 (.int .u64 (hw i4 : Nat)) rfl (by have := HLM.out; omega) 23 _ _ r5
          have q5 := q4.upd' u5 (fun kk e => ⟨KV3.out kk e, Nat.le_trans bw1.size (OWN3.out.lt kk e).1⟩)
          obtain ⟨o5, c5, hv5⟩ := slice_of (owns_base own5 (b' := 0) (fun _ _ => Nat.zero_le _))
          have wl5 : WordsAt W5 v5 ((ids.eraseIdx k ++ [i4]).map hw) := by
            refine words_own (B := w1.heap.size) ?_ (by rw [List.length_map, List.length_append, List.length_eraseIdx, if_pos hkl, HL.out]; simp; omega) (fun x hx => by obtain ⟨a, ha, rfl⟩ := List.mem_map.1 hx; exact hw_lt a (by have := kp5.lt ha; have := kp5.len; omega))
            have el : ((ids.eraseIdx k ++ [i4]).map hw).length = Lm + 1 := by rw [List.length_map, List.length_append, List.length_eraseIdx, if_pos hkl, HL.out, HLM.out]; rfl
            rw [el]
            have ew : ((ids.eraseIdx k ++ [i4]).map hw).map (fun x => Value.int .u64 (x : Nat)) = wds ((ids.eraseIdx k).map hw) ++ [.int .u64 (hw i4 : Nat)] := by simp [wds]
            rw [ew]
            exact own5
          subst hv5
          have cr5 := f_reach q5 kp5 _ wl5
          have es5 : idsum H4 (ids.eraseIdx k ++ [i4]) = idsum H ids := by rw [sum5, HS.out.1, nrow_need]; omega
          rw [es5] at cr5
          have hbufs : ∀ i ∈ ids.eraseIdx k, Same8 H4 i := fun i hi => by obtain ⟨n', b', x1, x2, x3, x4⟩ := FU1.out.b i (List.mem_of_mem_eraseIdx hi); exact ⟨n', b', x1, x2, x3, by rw [sm4 i hi]; exact x4⟩
          have Q5 := hid (And.intro q5 (And.intro kp4 (And.intro own4' hbufs)))
          clear q4 q5 kp4 kp5 at5 sum5 sm4 ln4 hU4 own4 own4' own5 wl5 es5 hbufs u5 ob5 OWN3 KV3 FU3 HS bw1 hi4 s14
          go_upto_region 38 with (first | (refine wpList_step (fun K hK => ?_); rw [if_pos (by rfl)]; refine Lib.wp_append_run _ (.tmp 169) (.tmp 171) 23 23 rfl _ _ (by simp [Act.eval]) (by simp [Act.eval]) _ _ r5 ?_; refine hK _ _ ?_) | (go_at_call 13; (with_reducible refine cr5.mono ?_); rintro e w6 ⟨rfl, b6⟩; clear cr5))
          have Q6 := Q5.out.1.below' b6
          have own6 := owns_on Q5.out.2.2.1 (fun kk e => b6.block kk (Q5.out.2.2.1.lt kk e).2)
          have HQ6 := hid (And.intro Q6 own6)
          have KP4 := hid Q5.out.2.1
          have HB4 := hid Q5.out.2.2.2
          clear Q5 Q6 own6 b6 r5
          have hLmb : Lm ≤ 100 := by have := HLM.out; omega
          go_wp2
          go_loopw [22, 23, 24] (fun ii _ _ wr => ∃ t : Nat, t ≤ Lm ∧ ii = .int .i64 t ∧ (∃ K5, Hf w wr hb H4 u K5) ∧ wr.ownsRow w1.heap.size 24 1 (.slice o3 Lm c3) Lm (wds ((ids.eraseIdx k).map hw))) (fun ii _ _ _ => Lm - (intOf ii).toNat)
          case atStart => exact ⟨0, by omega, rfl, ⟨_, HQ6.out.1⟩, HQ6.out.2⟩
          case round =>
            clear HQ6
            obtain ⟨t, ht, rfl, ⟨K5, qt⟩, ot⟩ := hrel
            by_cases hlt : t < Lm
            · obtain ⟨g3, cap3, e3, _⟩ := own_slice (owns_base ot (b' := 0) (fun _ _ => Nat.zero_le _)) (by omega)
              injection e3 with e3 e3' e3''
              clear e3' e3''
              subst e3
              have hle : (ids.eraseIdx k).length = Lm := by rw [List.length_eraseIdx, if_pos hkl, HL.out]; exact HLM.out
              have htl : t < (ids.eraseIdx k).length := by rw [hle]; exact hlt
              have ct : wr.cell? ⟨g3, t, none⟩ = some (.int .u64 (hw (ids.eraseIdx k)[t] : Nat)) := by
                refine own_at ot t _ ?_
                unfold wds
                rw [List.map_map, List.getElem?_map, List.getElem?_eq_getElem htl]
                rfl
              have cg := hf_get8 qt KP4.out.len _ (HB4.out _ (List.getElem_mem htl))
              have t0 : (0 : Int) ≤ t := Int.natCast_nonneg _
              have t1' : (t : Int) < (Lm : Int) := by omega
              generalize (ids.eraseIdx k)[t] = it at *
              have QT := hid qt
              have OT := hid ot
              clear qt ot hle htl
              generalize hw it = wt at *
              go_upto_region 42 with (go_at_call 14; (with_reducible refine cg.mono ?_); rintro e w7 ⟨gb, n, b, rfl, b7, gl7, y1, y2, y3, y4⟩; clear cg)
              have b8 : Below wr.heap.size wr (w7.alloc (.cells #[.int .i64 8, .bool false, .int .i64 0, .string ⟨#[]⟩, .slice (some ⟨gb, 0, none⟩) n n, .slice none 0 0, .int .u64 0, .int .i64 0, .int .i64 0] 26)) := b7.alloc b7.size _
              have c8 := World.cell?_alloc_new w7 #[.int .i64 8, .bool false, .int .i64 0, .string ⟨#[]⟩, .slice (some ⟨gb, 0, none⟩) n n, .slice none 0 0, .int .u64 0, .int .i64 0, .int .i64 0] 26
              have y5 : ∀ t, t < n → (w7.alloc (.cells #[.int .i64 8, .bool false, .int .i64 0, .string ⟨#[]⟩, .slice (some ⟨gb, 0, none⟩) n n, .slice none 0 0, .int .u64 0, .int .i64 0, .int .i64 0] 26)).cell? ⟨gb, t, none⟩ = some (.int .u8 (b : Nat)) := fun t ht => (World.cell?_of_block (Below.heap_alloc w7 _ gb gl7)).trans (y4 t ht)
              have q8 := QT.out.below' b8
              have o8 := owns_on OT.out (fun kk e => b8.block kk (OT.out.lt kk e).2)
              generalize w7.alloc (.cells #[.int .i64 8, .bool false, .int .i64 0, .string ⟨#[]⟩, .slice (some ⟨gb, 0, none⟩) n n, .slice none 0 0, .int .u64 0, .int .i64 0, .int .i64 0] 26) = W8 at *
              generalize w7.heap.size = cb at *
              have Q8 := hid (And.intro (⟨K5, q8.below' (Below.refl _ W8).drew⟩ : ∃ K5, Hf w W8.drew hb H4 u K5) (owns_on (W' := W8.drew) o8 (fun kk e => rfl)))
              clear q8 o8 b8 b7 y4 gl7 QT OT ct
              have hb8 : ((b : Int) == 0) = false := by simp; omega
              rcases Nat.eq_zero_or_pos n with hn0 | hn0
              · subst hn0
                clear y5
                go_region
                go_wp2
                go_roundw
                case rel => exact ⟨t + 1, by omega, by go_num, Q8.out.1, Q8.out.2⟩
                case measure => simp [intOf]; omega
              · obtain ⟨m, rfl⟩ : ∃ m, n = m + 1 := ⟨n - 1, by omega⟩
                have ya := y5 0 (by omega)
                have yb := y5 m (by omega)
                have m0 : (0 : Int) ≤ m := Int.natCast_nonneg _
                have m1 : (m : Int) < (m : Int) + 1 := by omega
                have m2 : (0 : Int) < (m : Int) + 1 := by omega
                have m3 : (m : Int) + 1 > 0 := by omega
                have wm1 : IntKind.i64.wrap ((m : Int) + 1 - 1) = m := by rw [IntKind.wrap_i64]; omega
                have wm2 : IntKind.i64.wrap (m : Int) = m := by rw [IntKind.wrap_i64]; omega
                clear y5 hn0 y1 y2 y3
                go_region
                go_wp2
                go_roundw
                case rel => exact ⟨t + 1, by omega, by go_num, Q8.out.1, Q8.out.2⟩
                case measure => simp [intOf]; omega
            · have hnl : ¬ (t : Int) < (Lm : Int) := by omega
              have HB := hid qt.bel
              clear qt ot
              go_wp2_with (go_at_call 10; (with_reducible refine (awake6_c _).mono ?_); rintro e w5 ⟨rfl, b5⟩)
              go_ret
              exact ⟨rfl, HB.out.trans (b5.mono HB.out.size)⟩
        · go_upto_region 34 with fail
          refine wp_region_held_drew (S := fun _ => True) (by kernel_rfl) trivial ?_
          intro hS
          (refine wpAnyH_take (i := 1) (v := ?_) rfl (by kernel_rfl) (by kernel_rfl) (by kernel_rfl) (fun _ _ _ h => h) (Or.inl ⟨by rfl, ?_⟩) hS ?_); rotate_left; (focus (intro w' hSw; go_simp; (try with_reducible rfl))); (try simp only [Act.put, List.getElem_toArray, List.getElem_cons_zero, List.getElem_cons_succ, List.setIfInBounds_toArray, List.set_cons_zero, List.set_cons_succ])
          (refine wpAnyH_take (i := 2) (v := ?_) rfl (by kernel_rfl) (by kernel_rfl) (by kernel_rfl) (fun _ _ _ h => h) (Or.inl ⟨by rfl, ?_⟩) hS ?_); rotate_left; (focus (intro w' hSw; go_simp; (try with_reducible rfl))); (try simp only [Act.put, List.getElem_toArray, List.getElem_cons_zero, List.getElem_cons_succ, List.setIfInBounds_toArray, List.set_cons_zero, List.set_cons_succ])
          (refine wpAnyH_take (i := 3) (v := .slice (some ⟨g1, 0, none⟩) k cx) rfl (by kernel_rfl) (by kernel_rfl) (by kernel_rfl) (fun _ _ _ h => h) (Or.inl ⟨by rfl, ?_⟩) hS ?_); (focus (intro w' hSw; go_simp)); (try simp only [Act.put, List.getElem_toArray, List.getElem_cons_zero, List.getElem_cons_succ, List.setIfInBounds_toArray, List.set_cons_zero, List.set_cons_succ])
          (refine wpAnyH_take (i := 5) (v := ?_) rfl (by kernel_rfl) (by kernel_rfl) (by kernel_rfl) (fun _ _ _ h => h) (Or.inl ⟨by rfl, ?_⟩) hS ?_); rotate_left; (focus (intro w' hSw; go_simp; (try with_reducible rfl))); (try simp only [Act.put, List.getElem_toArray, List.getElem_cons_zero, List.getElem_cons_succ, List.setIfInBounds_toArray, List.set_cons_zero, List.set_cons_succ])
          (refine wpAnyH_take (i := 6) (v := ?_) rfl (by kernel_rfl) (by kernel_rfl) (by kernel_rfl) (fun _ _ _ h => h) (Or.inl ⟨by rfl, ?_⟩) hS ?_); rotate_left; (focus (intro w' hSw; go_simp; (try with_reducible rfl))); (try simp only [Act.put, List.getElem_toArray, List.getElem_cons_zero, List.getElem_cons_succ, List.setIfInBounds_toArray, List.set_cons_zero, List.set_cons_succ])
          (refine wpAnyH_take (i := 7) (v := ?_) rfl (by kernel_rfl) (by kernel_rfl) (by kernel_rfl) (fun _ _ _ h => h) (Or.inl ⟨by rfl, ?_⟩) hS ?_); rotate_left; (focus (intro w' hSw; go_simp; (try with_reducible rfl))); (try simp only [Act.put, List.getElem_toArray, List.getElem_cons_zero, List.getElem_cons_succ, List.setIfInBounds_toArray, List.set_cons_zero, List.set_cons_succ])
          (refine wpAnyH_take (i := 8) (v := .slice o2 (L - (k + 1)) (cx - (k + 1))) rfl (by kernel_rfl) (by kernel_rfl) (by kernel_rfl) (fun _ _ _ h => h) (Or.inl ⟨by rfl, ?_⟩) hS ?_); (focus (intro w' hSw; go_simp; (try exact ho2))); (try simp only [Act.put, List.getElem_toArray, List.getElem_cons_zero, List.getElem_cons_succ, List.setIfInBounds_toArray, List.set_cons_zero, List.set_cons_succ])
          refine wpAnyH_ready (rs := [0]) (by kernel_rfl) (by simp) ?_
          refine AllReadyH.cons rfl (fun K hK => ?_) AllReadyH.nil
          go_simp
          refine hK.out _ _ trivial (fun hS2 => ?_)
          clear hK K hS
          (try simp only [Act.put, List.getElem_toArray, List.getElem_cons_zero, List.getElem_cons_succ, List.setIfInBounds_toArray, List.set_cons_zero, List.set_cons_succ])
          refine wpAnyH_ready (rs := [4]) (by kernel_rfl) (by simp) ?_
          refine AllReadyH.cons rfl (fun K hK => ?_) AllReadyH.nil
          rw [if_pos (by rfl)]
          refine Lib.wp_append_run _ (.tmp 142) (.tmp 145) 23 23 rfl _ _ rfl rfl _ _ r1 ?_
          refine hK.out _ _ trivial (fun hS3 => ?_)
          clear hK K hS2 r1
          (try simp only [Act.put, List.getElem_toArray, List.getElem_cons_zero, List.getElem_cons_succ, List.setIfInBounds_toArray, List.set_cons_zero, List.set_cons_succ])
          refine wpAnyH_ready (rs := [9]) (by kernel_rfl) (by simp) ?_
          refine AllReadyH.cons rfl (fun K hK => ?_) AllReadyH.nil
          rw [if_pos (by rfl)]
          refine Lib.wp_append_run _ (.tmp 146) (.tmp 150) 23 23 rfl _ _ rfl rfl _ _ r2 ?_
          refine hK.out _ _ trivial (fun hS4 => ?_)
          clear hK K hS3 r2
          (try simp only [Act.put, List.getElem_toArray, List.getElem_cons_zero, List.getElem_cons_succ, List.setIfInBounds_toArray, List.set_cons_zero, List.set_cons_succ])
          (refine wpAnyH_take (i := 10) (v := ?_) rfl (by kernel_rfl) (by kernel_rfl) (by kernel_rfl) (fun _ _ _ h => h) (Or.inl ⟨by rfl, ?_⟩) hS4 ?_); rotate_left; (focus (intro w' hSw; go_simp; (try with_reducible rfl))); (try simp only [Act.put, List.getElem_toArray, List.getElem_cons_zero, List.getElem_cons_succ, List.setIfInBounds_toArray, List.set_cons_zero, List.set_cons_succ])
          refine wpAnyH_done (by kernel_rfl) ?_ _
          clear hS4
          have fu2 := FU1.out.below' bb2
          have cy2 : W2.cell? ⟨gy, k, none⟩ = some (.int .i64 ((r : Int) + 1)) := by
            have n2 := fu2.n
            rw [HL.out] at n2
            refine own_at n2 k _ ?_
            unfold needV
            rw [List.getElem?_map, List.getElem?_eq_getElem hkl, Option.map_some, HNK.out]
            rfl
          have wr1 : IntKind.i64.wrap ((r : Int) + 1 - 1) = r := by rw [IntKind.wrap_i64]; omega
          have wr2 : IntKind.i64.wrap (r : Int) = r := by rw [IntKind.wrap_i64]; omega
          obtain ⟨W3, hm3, hw3, b3, lt3⟩ := make_words W2 r (by omega)
          have bb3 := bb2.trans (b3.mono bb2.size)
          obtain ⟨K3, fu3, kk3, kv3⟩ : ∃ K3 : Nat → Prop, Fu w W3 hb u j H ids K3 (.slice (some ⟨g1, 0, none⟩) L cx) (.slice (some ⟨gy, 0, none⟩) L cy) ∧ K3 W2.heap.size ∧ ∀ kk, (Value.slice o3 Lm c3).ownBlock = some kk → K3 kk := ⟨_, FU1.out.below bb3, .inr ⟨bb2.size, lt3⟩, fun kk e => .inr ⟨(OWN.out.lt kk e).1, Nat.lt_of_lt_of_le (OWN.out.lt kk e).2 b3.size⟩⟩
          have own3 := owns_on OWN.out (fun kk e => b3.block kk (OWN.out.lt kk e).2)
          have hlen3 : ((ids.eraseIdx k).map hw).length = Lm := by rw [List.length_map, List.length_eraseIdx, if_pos hkl, HL.out]; exact HLM.out
          have wl3 : WordsAt W3 (.slice o3 Lm c3) ((ids.eraseIdx k).map hw) := words_own (B := w1.heap.size) (by rw [hlen3]; exact own3) (by have := HLM.out; omega) (fun x hx => by obtain ⟨a, ha, rfl⟩ := List.mem_map.1 hx; exact hw_lt a (by have := (fu3.k.erase k).lt ha; have := fu3.k.len; omega))
          have cp := f_row fu3.q (fu3.k.erase k) (by have := fu3.lh; omega) r (by omega) W2.heap.size hw3 kk3 _ wl3
          have hsum : idsum H ids = idsum H (ids.eraseIdx k) + (r + 1) := by rw [idsum_erase H ids k hkl, HNK.out]
          have hroom := fu3.room.1
          have HS := hid (And.intro hsum hroom)
          have FU3 := hid fu3
          have OWN3 := hid own3
          have KV3 := hid kv3
          clear fu2 fu3 own3 kv3 wl3 hw3 hsum hroom OWN hlen3
          go_upto_region 36 with (go_at_call 12; (with_reducible refine cp.mono ?_); intro e w4 hP; obtain ⟨hU4, H4, q4, kp4, sm4, ln4, hway⟩ := hP; (have hway2 := hway.resolve_right (fun h => by have := HS.out; have := nrow_need r; omega)); clear hway cp; obtain ⟨_, i4, hi4, rfl, kp5, at5, sum5⟩ := hway2)
          have own4 := owns_on OWN3.out (fun kk e => hU4.block kk (OWN3.out.lt kk e).2 (fun d => d.1 (KV3.out kk e)))
          have bw1 := FU1.out.q.bel
          have s14 : w1.heap.size ≤ w4.heap.size := Nat.le_trans bb3.size hU4.size
          obtain ⟨v5, W5, r5, own5, u5, ob5⟩ := own_append w1 w4 23 24 (.int .u64 0) underW infoW rfl _ _ _ own4 s14 (.int .u64 (hw i4 : Nat)) rfl (by have := HLM.out; omega) 23
          have own4' := append_keep w1 w4 23 24 (.int .u64 0) underW infoW _ _ _ own4 (.int .u64 (hw i4 : Nat)) rfl (by have := HLM.out; omega) 23 _ _ r5
          have q5 := q4.upd' u5 (fun kk e => ⟨KV3.out kk e, Nat.le_trans bw1.size (OWN3.out.lt kk e).1⟩)
          obtain ⟨o5, c5, hv5⟩ := slice_of (owns_base own5 (b' := 0) (fun _ _ => Nat.zero_le _))
          have wl5 : WordsAt W5 v5 ((ids.eraseIdx k ++ [i4]).map hw) := by
            refine words_own (B := w1.heap.size) ?_ (by rw [List.length_map, List.length_append, List.length_eraseIdx, if_pos hkl, HL.out]; simp; omega) (fun x hx => by obtain ⟨a, ha, rfl⟩ := List.mem_map.1 hx; exact hw_lt a (by have := kp5.lt ha; have := kp5.len; omega))
            have el : ((ids.eraseIdx k ++ [i4]).map hw).length = Lm + 1 := by rw [List.length_map, List.length_append, List.length_eraseIdx, if_pos hkl, HL.out, HLM.out]; rfl
            rw [el]
            have ew : ((ids.eraseIdx k ++ [i4]).map hw).map (fun x => Value.int .u64 (x : Nat)) = wds ((ids.eraseIdx k).map hw) ++ [.int .u64 (hw i4 : Nat)] := by simp [wds]
            rw [ew]
            exact own5
          subst hv5
          have cr5 := f_reach q5 kp5 _ wl5
          have es5 : idsum H4 (ids.eraseIdx k ++ [i4]) = idsum H ids := by rw [sum5, HS.out.1, nrow_need]; omega
          rw [es5] at cr5
          have hbufs : ∀ i ∈ ids.eraseIdx k, Same8 H4 i := fun i hi => by obtain ⟨n', b', x1, x2, x3, x4⟩ := FU1.out.b i (List.mem_of_mem_eraseIdx hi); exact ⟨n', b', x1, x2, x3, by rw [sm4 i hi]; exact x4⟩
          have Q5 := hid (And.intro q5 (And.intro kp4 (And.intro own4' hbufs)))
          clear q4 q5 kp4 kp5 at5 sum5 sm4 ln4 hU4 own4 own4' own5 wl5 es5 hbufs u5 ob5 OWN3 KV3 FU3 HS bw1 hi4 s14
          go_upto_region 38 with (first | (refine wpList_step (fun K hK => ?_); rw [if_pos (by rfl)]; refine Lib.wp_append_run _ (.tmp 169) (.tmp 171) 23 23 rfl _ _ (by simp [Act.eval]) (by simp [Act.eval]) _ _ r5 ?_; refine hK _ _ ?_) | (go_at_call 13; (with_reducible refine cr5.mono ?_); rintro e w6 ⟨rfl, b6⟩; clear cr5))
          have Q6 := Q5.out.1.below' b6
          have own6 := owns_on Q5.out.2.2.1 (fun kk e => b6.block kk (Q5.out.2.2.1.lt kk e).2)
          have HQ6 := hid (And.intro Q6 own6)
          have KP4 := hid Q5.out.2.1
          have HB4 := hid Q5.out.2.2.2
          clear Q5 Q6 own6 b6 r5
          have hLmb : Lm ≤ 100 := by have := HLM.out; omega
          go_wp2
          go_loopw [22, 23, 24] (fun ii _ _ wr => ∃ t : Nat, t ≤ Lm ∧ ii = .int .i64 t ∧ (∃ K5, Hf w wr hb H4 u K5) ∧ wr.ownsRow w1.heap.size 24 1 (.slice o3 Lm c3) Lm (wds ((ids.eraseIdx k).map hw))) (fun ii _ _ _ => Lm - (intOf ii).toNat)
          case atStart => exact ⟨0, by omega, rfl, ⟨_, HQ6.out.1⟩, HQ6.out.2⟩
          case round =>
            clear HQ6
            obtain ⟨t, ht, rfl, ⟨K5, qt⟩, ot⟩ := hrel
            by_cases hlt : t < Lm
            · obtain ⟨g3, cap3, e3, _⟩ := own_slice (owns_base ot (b' := 0) (fun _ _ => Nat.zero_le _)) (by omega)
              injection e3 with e3 e3' e3''
              clear e3' e3''
              subst e3
              have hle : (ids.eraseIdx k).length = Lm := by rw [List.length_eraseIdx, if_pos hkl, HL.out]; exact HLM.out
              have htl : t < (ids.eraseIdx k).length := by rw [hle]; exact hlt
              have ct : wr.cell? ⟨g3, t, none⟩ = some (.int .u64 (hw (ids.eraseIdx k)[t] : Nat)) := by
                refine own_at ot t _ ?_
                unfold wds
                rw [List.map_map, List.getElem?_map, List.getElem?_eq_getElem htl]
                rfl
              have cg := hf_get8 qt KP4.out.len _ (HB4.out _ (List.getElem_mem htl))
              have t0 : (0 : Int) ≤ t := Int.natCast_nonneg _
              have t1' : (t : Int) < (Lm : Int) := by omega
              generalize (ids.eraseIdx k)[t] = it at *
              have QT := hid qt
              have OT := hid ot
              clear qt ot hle htl
              generalize hw it = wt at *
              go_upto_region 42 with (go_at_call 14; (with_reducible refine cg.mono ?_); rintro e w7 ⟨gb, n, b, rfl, b7, gl7, y1, y2, y3, y4⟩; clear cg)
              have b8 : Below wr.heap.size wr (w7.alloc (.cells #[.int .i64 8, .bool false, .int .i64 0, .string ⟨#[]⟩, .slice (some ⟨gb, 0, none⟩) n n, .slice none 0 0, .int .u64 0, .int .i64 0, .int .i64 0] 26)) := b7.alloc b7.size _
              have c8 := World.cell?_alloc_new w7 #[.int .i64 8, .bool false, .int .i64 0, .string ⟨#[]⟩, .slice (some ⟨gb, 0, none⟩) n n, .slice none 0 0, .int .u64 0, .int .i64 0, .int .i64 0] 26
              have y5 : ∀ t, t < n → (w7.alloc (.cells #[.int .i64 8, .bool false, .int .i64 0, .string ⟨#[]⟩, .slice (some ⟨gb, 0, none⟩) n n, .slice none 0 0, .int .u64 0, .int .i64 0, .int .i64 0] 26)).cell? ⟨gb, t, none⟩ = some (.int .u8 (b : Nat)) := fun t ht => (World.cell?_of_block (Below.heap_alloc w7 _ gb gl7)).trans (y4 t ht)
              have q8 := QT.out.below' b8
              have o8 := owns_on OT.out (fun kk e => b8.block kk (OT.out.lt kk e).2)
              generalize w7.alloc (.cells #[.int .i64 8, .bool false, .int .i64 0, .string ⟨#[]⟩, .slice (some ⟨gb, 0, none⟩) n n, .slice none 0 0, .int .u64 0, .int .i64 0, .int .i64 0] 26) = W8 at *
              generalize w7.heap.size = cb at *
              have Q8 := hid (And.intro (⟨K5, q8.below' (Below.refl _ W8).drew⟩ : ∃ K5, Hf w W8.drew hb H4 u K5) (owns_on (W' := W8.drew) o8 (fun kk e => rfl)))
              clear q8 o8 b8 b7 y4 gl7 QT OT ct
              have hb8 : ((b : Int) == 0) = false := by simp; omega
              rcases Nat.eq_zero_or_pos n with hn0 | hn0
              · subst hn0
                clear y5
                go_region
                go_wp2
                go_roundw
                case rel => exact ⟨t + 1, by omega, by go_num, Q8.out.1, Q8.out.2⟩
                case measure => simp [intOf]; omega
              · obtain ⟨m, rfl⟩ : ∃ m, n = m + 1 := ⟨n - 1, by omega⟩
                have ya := y5 0 (by omega)
                have yb := y5 m (by omega)
                have m0 : (0 : Int) ≤ m := Int.natCast_nonneg _
                have m1 : (m : Int) < (m : Int) + 1 := by omega
                have m2 : (0 : Int) < (m : Int) + 1 := by omega
                have m3 : (m : Int) + 1 > 0 := by omega
                have wm1 : IntKind.i64.wrap ((m : Int) + 1 - 1) = m := by rw [IntKind.wrap_i64]; omega
                have wm2 : IntKind.i64.wrap (m : Int) = m := by rw [IntKind.wrap_i64]; omega
                clear y5 hn0 y1 y2 y3
                go_region
                go_wp2
                go_roundw
                case rel => exact ⟨t + 1, by omega, by go_num, Q8.out.1, Q8.out.2⟩
                case measure => simp [intOf]; omega
            · have hnl : ¬ (t : Int) < (Lm : Int) := by omega
              have HB := hid qt.bel
              clear qt ot
              go_wp2_with (go_at_call 10; (with_reducible refine (awake6_c _).mono ?_); rintro e w5 ⟨rfl, b5⟩)
              go_ret
              exact ⟨rfl, HB.out.trans (b5.mono HB.out.size)⟩
end Hq
theorem heapFull_walk (n0 : Int) (x0 : (Lit.int .i64 n0).wf = true) (o : Option Addr) (l c : Nat) (N : Nat → Int) (f : Int) (x2 : (Lit.int .i64 f).wf = true) (w : World) (R1 : IntsAt w o l c N) : Calls Try.prog 4 #[.int .i64 n0, .slice o l c, .int .i64 f] w fun e w' => e = .returned (.bool true) ∧ Below w.heap.size w w' := by
  by_cases h : n0 < 0 ∨ 400 < n0 ∨ 100 < l
  · exact Hq.flong n0 o l c f h w
  · obtain ⟨u, rfl⟩ : ∃ u : Nat, n0 = u := ⟨n0.toNat, by omega⟩
    exact Hq.fmain u (by omega) o l c N f w R1 (by omega)
end Go.Proofs.Ytaebnnkhjlidiaa.W
