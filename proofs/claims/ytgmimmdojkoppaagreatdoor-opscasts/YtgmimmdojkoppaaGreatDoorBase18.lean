import Derived.Test.YtgmimmdojkoppaaGreatDoorBase17
import Derived.BigFrameIn
import Derived.Test.YtgmimmdojkoppaaGreatDoorBase15
import Derived.Test.YtgmimmdojkoppaaGreatDoorBase10
/- Package heap: reach. -/
namespace Go.Proofs.YtgmimmdojkoppaaGreatDoor.W
open Go.ChangeShapes Go.WideShapes Go.RowKit Go.Shelf
set_option linter.unusedVariables false
section
variable {W : World} {hb sb : Nat} {vc : Value} {T : Nat → Prop} {H : List (Option Hc)} {u h : Nat}
set_option maxRecDepth 20000 in
set_option maxHeartbeats 1000000 in
theorem reach_c (g : HLay W hb sb vc T H u h) (v : Value) (ls : List (List Nat)) (hls : ListsAt W v ls) (hsum : sumH H ≤ 100000000) :
    Calls Tryz.prog 131 #[.pointer (some ⟨hb, 0, none⟩), v] W fun e w' => ∃ R vr, e = .returned (.tuple #[vr, .int .i64 (needR H R : Nat)]) ∧ Below W.heap.size W w' ∧ w'.ownsRow W.heap.size 4 1 vr R.length (R.map .bool) ∧ R.length = H.length ∧ ∀ i : Nat, R[i]? = some true ↔ Rch H ls.flatten i := by
  obtain ⟨o, cap, rfl, hll, hl⟩ := hls
  have c1 := g.cell 1
  simp at c1
  obtain ⟨oc, capc, hvc⟩ := g.sl
  rw [hvc] at c1
  have hlen := g.len
  refine (callsIn_wide (n := 9)).1 ?_
  refine callsIn_of_wp_marks Tryz.func131 rfl trivial ?_ rfl
  refine wpIn_wide.2 ?_
  simp only [Tryz.ntmps131, List.size_toArray, List.length_cons, List.length_nil, Nat.reduceAdd, Nat.reduceSub, Array.replicate_succ, Array.replicate_zero, List.push_toArray, List.append_toArray, List.nil_append, List.cons_append]
  have hlt := g.hlt
  go_upto_region 1 with fail
  have b1 : Boxed (((W.alloc (.cells #[.pointer (some ⟨hb, 0, none⟩)] 23)).alloc (.cells #[.slice none 0 0] 153)).alloc (.cells #[.int .i64 0] 3)) W.heap.size 23 (.pointer (some ⟨hb, 0, none⟩)) := ((Boxed.new W _ _).alloc _).alloc _
  have b2 : Boxed (((W.alloc (.cells #[.pointer (some ⟨hb, 0, none⟩)] 23)).alloc (.cells #[.slice none 0 0] 153)).alloc (.cells #[.int .i64 0] 3)) (W.heap.size + 1) 153 (.slice none 0 0) := by
    have := (Boxed.new (W.alloc (.cells #[.pointer (some ⟨hb, 0, none⟩)] 23)) 153 (.slice none 0 0)).alloc (.cells #[.int .i64 0] 3)
    rwa [World.size_alloc] at this
  have b3 : Boxed (((W.alloc (.cells #[.pointer (some ⟨hb, 0, none⟩)] 23)).alloc (.cells #[.slice none 0 0] 153)).alloc (.cells #[.int .i64 0] 3)) (W.heap.size + 2) 3 (.int .i64 0) := by
    have := Boxed.new ((W.alloc (.cells #[.pointer (some ⟨hb, 0, none⟩)] 23)).alloc (.cells #[.slice none 0 0] 153)) 3 (.int .i64 0)
    rwa [World.size_alloc, World.size_alloc] at this
  have hB1 : Below W.heap.size W (((W.alloc (.cells #[.pointer (some ⟨hb, 0, none⟩)] 23)).alloc (.cells #[.slice none 0 0] 153)).alloc (.cells #[.int .i64 0] 3)) := (((Below.refl _ W).alloc (Nat.le_refl _) _).alloc (by simp) _).alloc (by simp; omega) _
  have hz1 : (((W.alloc (.cells #[.pointer (some ⟨hb, 0, none⟩)] 23)).alloc (.cells #[.slice none 0 0] 153)).alloc (.cells #[.int .i64 0] 3)).heap.size = W.heap.size + 3 := by simp
  generalize World.alloc (World.alloc (World.alloc W _) _) _ = W1 at *
  have d1 := below_cell hB1 c1
  have e1 := b1.cell
  have e2 := b2.cell
  have f2 := b2.frozen
  obtain ⟨Wm, hmk, hro, hgr⟩ := make_bools W1 H.length hlen
  have g2 : Boxed Wm (W.heap.size + 1) 153 (.slice none 0 0) := b2.kept hgr (by simp)
  have e3 := g2.cell
  have f3 := g2.frozen
  rw [hz1] at hmk hro
  go_upto_region 2 with fail
  go_upto_region 4 with fail
  have hzm : W1.heap.size + 1 ≤ Wm.heap.size := (Nat.lt_of_le_of_lt (Nat.le_of_eq hz1) (hro.lt (W.heap.size + 3) rfl).2 : W1.heap.size < Wm.heap.size)
  have q4 : Rw W hb sb vc T H u h (W.heap.size + 1) (W.heap.size + 1 + 1) Wm.heap.size (Wm.heap.size + 1) (.slice (some ⟨W.heap.size + 3, 0, none⟩) H.length H.length) ls.flatten (fun _ => False) (((Wm.setCell ⟨W.heap.size + 1, 0, none⟩ (.slice (some ⟨W.heap.size + 3, 0, none⟩) H.length H.length)).alloc (.cells #[.slice none 0 0] 70)).alloc (.cells #[markF W.heap.size (W.heap.size + 1) (W.heap.size + 1 + 1) Wm.heap.size] 196)) (.slice none 0 0) (List.replicate H.length false, [], 0) := by
    have hs5 : (Wm.setCell ⟨W.heap.size + 1, 0, none⟩ (.slice (some ⟨W.heap.size + 3, 0, none⟩) H.length H.length)).heap.size = Wm.heap.size := by simp [World.setCell]
    have hBm : Below W.heap.size W Wm := hB1.trans (((Upd.refl (fun _ => False) W1).grown hgr (fun k e => by cases e)).below (by omega) (fun k e => e.elim))
    have hB4 : Below W.heap.size W (((Wm.setCell ⟨W.heap.size + 1, 0, none⟩ (.slice (some ⟨W.heap.size + 3, 0, none⟩) H.length H.length)).alloc (.cells #[.slice none 0 0] 70)).alloc (.cells #[markF W.heap.size (W.heap.size + 1) (W.heap.size + 1 + 1) Wm.heap.size] 196)) :=
      hBm.trans (((((Upd.refl (fun k => k = W.heap.size + 1) Wm).setCell (p := ⟨W.heap.size + 1, 0, none⟩) (.inl rfl) _).alloc _).alloc _).below (by omega) (fun k e => by omega))
    have kb : ∀ {B t v}, Boxed W1 B t v → B ≠ W.heap.size + 1 → Boxed (((Wm.setCell ⟨W.heap.size + 1, 0, none⟩ (.slice (some ⟨W.heap.size + 3, 0, none⟩) H.length H.length)).alloc (.cells #[.slice none 0 0] 70)).alloc (.cells #[markF W.heap.size (W.heap.size + 1) (W.heap.size + 1 + 1) Wm.heap.size] 196)) B t v := fun b hn => ((box_set (b.kept hgr (by simp)) hn).alloc _).alloc _
    refine ⟨g.below hB4, ⟨g.hlt, g.clt, g.tlt⟩, ⟨kb b1 (by omega), ((g2.set _).alloc _).alloc _, kb b3 (by omega), ?_, ?_, World.ownsRow_nil _ _ _ _, by simp [Value.ownBlock], by omega, by omega, by omega, by omega⟩, ?_, hB4, Mk.start H _, hsum⟩
    · have := (Boxed.new (Wm.setCell ⟨W.heap.size + 1, 0, none⟩ (.slice (some ⟨W.heap.size + 3, 0, none⟩) H.length H.length)) 70 (.slice none 0 0)).alloc (.cells #[markF W.heap.size (W.heap.size + 1) (W.heap.size + 1 + 1) Wm.heap.size] 196)
      rwa [hs5] at this
    · show World.ownsRow _ W.heap.size 4 1 _ (List.replicate H.length false).length _
      rw [List.length_replicate]
      refine owns_on (owns_base hro (fun k e => by cases e; show _ ≤ W.heap.size + 3; omega)) (fun k e => ?_)
      cases e
      have h3 := (hro.lt (W.heap.size + 3) rfl).2
      show (World.alloc (World.alloc (World.setCell _ _ _) _) _).heap[W.heap.size + 3]? = Wm.heap[W.heap.size + 3]?
      rw [Below.heap_alloc _ _ _ (by rw [World.size_alloc, hs5]; omega), Below.heap_alloc _ _ _ (by rw [hs5]; omega), Below.heap_setCell _ _ _ _ (by show _ ≠ W.heap.size + 1; omega)]
    · have := Boxed.new ((Wm.setCell ⟨W.heap.size + 1, 0, none⟩ (.slice (some ⟨W.heap.size + 3, 0, none⟩) H.length H.length)).alloc (.cells #[.slice none 0 0] 70)) 196 (markF W.heap.size (W.heap.size + 1) (W.heap.size + 1 + 1) Wm.heap.size)
      rwa [World.size_alloc, hs5] at this
  clear b1 b2 b3 e1 e2 f2 e3 f3 g2 d1 hmk hro hgr hB1
  unfold markF at q4
  generalize World.alloc (World.alloc (World.setCell _ _ _) _) _ = W4 at *
  have hl0 : Hid (∀ i (hi : i < ls.length), ∃ x u, o = some x ∧ W.cell? (x.add i) = some u ∧ WordsAt W u ls[i]) := hl
  clear hl c1
  have hb4 : 2 * unmarked (List.replicate H.length false) + 0 ≤ 2 * H.length := by simp [unmarked]
  go_wp2
  go_loopw [24] (fun ii wr => ∃ (i : Nat) (vo : Value) (s : List Bool × List Nat × Nat), i ≤ ls.length ∧ ii = .int .i64 i ∧ Rw W hb sb vc T H u h (W.heap.size + 1) (W.heap.size + 1 + 1) Wm.heap.size (Wm.heap.size + 1) (.slice (some ⟨W.heap.size + 3, 0, none⟩) H.length H.length) ls.flatten (fun _ => False) wr vo s ∧ 2 * unmarked s.1 + s.2.1.length ≤ 2 * H.length ∧ ∀ w ∈ (ls.take i).flatten, ∀ j, hit H w = some j → s.1[j]? = some true) (fun ii _ => ls.length - (intOf ii).toNat)
  case atStart => exact ⟨0, _, _, Nat.zero_le _, rfl, q4, hb4, fun w hw => absurd hw (by simp)⟩
  case round =>
    obtain ⟨i, vo, s, hi, rfl, q, hbd, hpr⟩ := hrel
    clear q4 hb4
    have hpr' := hid hpr
    have hq := hid q
    clear hpr
    by_cases hlt' : i < ls.length
    · obtain ⟨x, uu, ho, hcx, hws⟩ := hl0.out i hlt'
      have hmem : ls[i] ∈ ls := List.getElem_mem hlt'
      have htk : ls.take (i + 1) = ls.take i ++ [ls[i]] := by rw [List.take_add_one, List.getElem?_eq_getElem hlt']; rfl
      generalize ls[i] = ws at *
      obtain ⟨ow, capw, huu, hwl, hlt64, hcell⟩ := hws
      subst ho
      subst huu
      have hcx2 := below_cell (q.bel.mono (Nat.le_refl _)) hcx
      have i0 : (0 : Int) ≤ i := by omega
      have i1 : (i : Int) < ls.length := by omega
      have hw1 : IntKind.i64.wrap ((i : Int) + 1) = (i : Int) + 1 := by rw [IntKind.wrap_i64]; omega
      have HC := hid hcell
      have HT := hid htk
      have HM := hid hmem
      clear q hcell htk hmem
      go_upto_region 9 with fail
      go_loopw [30] (fun jj wr2 => ∃ (j : Nat) (vo : Value) (s : List Bool × List Nat × Nat), j ≤ ws.length ∧ jj = .int .i64 j ∧ Rw W hb sb vc T H u h (W.heap.size + 1) (W.heap.size + 1 + 1) Wm.heap.size (Wm.heap.size + 1) (.slice (some ⟨W.heap.size + 3, 0, none⟩) H.length H.length) ls.flatten (fun _ => False) wr2 vo s ∧ 2 * unmarked s.1 + s.2.1.length ≤ 2 * H.length ∧ ∀ w ∈ (ls.take i).flatten ++ ws.take j, ∀ j, hit H w = some j → s.1[j]? = some true) (fun jj _ => ws.length - (intOf jj).toNat)
      case atStart => exact ⟨0, vo, s, Nat.zero_le _, rfl, hq.out, hbd, fun w hw => hpr'.out w (by simpa using hw)⟩
      case round =>
        obtain ⟨j, vo2, s2, hj, rfl, q2, hbd2, hpr2⟩ := hrel
        clear hpr' hbd hq hcx2
        have HP := hid hpr2
        clear hpr2
        have hw2 : IntKind.i64.wrap ((j : Int) + 1) = (j : Int) + 1 := by rw [IntKind.wrap_i64]; omega
        by_cases hjl : j < ws.length
        · obtain ⟨y, hy, hcy⟩ := HC.out j hjl
          subst hy
          have hcy2 := below_cell (q2.bel.mono (Nat.le_refl _)) hcy
          have j0 : (0 : Int) ≤ j := by omega
          have j1 : (j : Int) < ws.length := by omega
          have cm := q2.m.cell
          unfold markF at cm
          have hroot : ∀ k, hit H ws[j] = some k → Rch H ls.flatten k := fun k hk => Rch.root ws[j] k (List.mem_flatten.2 ⟨ws, HM.out, List.getElem_mem hjl⟩) hk
          have ck := q2.mark hbd2 ws[j] (hlt64 _ (List.getElem_mem hjl)) hroot
          obtain ⟨n1, n2, n3, n4⟩ := q2.mm.mark ws[j] hroot
          have HN2 := hid n2
          have HN3 := hid n3
          have hbd3 := Nat.le_trans n4 hbd2
          have htk2 : ws.take (j + 1) = ws.take j ++ [ws[j]] := by rw [List.take_add_one, List.getElem?_eq_getElem hjl]; rfl
          have HT2 := hid htk2
          clear n1 n2 n3 n4 hroot htk2 q2 hcy
          generalize ws[j] = wj at *
          go_wp2_with (go_at_call 178; (with_reducible refine ck.mono ?_); rintro e w3 ⟨rfl, vo3, q3, hU3, hn3⟩)
          go_roundw
          case rel =>
            refine ⟨j + 1, vo3, _, hjl, by go_num, q3, hbd3, ?_⟩
            intro w hw k hk
            rw [HT2.out] at hw
            rcases List.mem_append.1 hw with hw | hw
            · exact HN3.out k (HP.out w (List.mem_append_left _ hw) k hk)
            · rcases List.mem_append.1 hw with hw | hw
              · exact HN3.out k (HP.out w (List.mem_append_right _ hw) k hk)
              · simp at hw; subst hw; exact HN2.out k hk
          case measure => show ws.length - (j + 1 : Int).toNat < ws.length - (j : Int).toNat; omega
        · have hje : j = ws.length := by omega
          have j1 : ¬ (j : Int) < ws.length := by omega
          have Q2 := hid q2
          clear q2
          go_wp2
          go_roundw
          case rel =>
            refine ⟨i + 1, vo2, s2, hlt', by go_num, Q2.out, hbd2, ?_⟩
            intro w hw k hk
            rw [HT.out, List.flatten_append] at hw
            refine HP.out w ?_ k hk
            rw [hje, List.take_length]
            simpa using hw
          case measure => show ls.length - (i + 1 : Int).toNat < ls.length - (i : Int).toNat; omega
    · have hie : i = ls.length := by omega
      have i1 : ¬ (i : Int) < ls.length := by omega
      have hroots : Hid (∀ w ∈ ls.flatten, ∀ j, hit H w = some j → s.1[j]? = some true) := by
        have := hpr'.out
        rw [hie, List.take_length] at this
        exact this
      clear hpr' q
      go_wp2
      refine wp_loop (fun a' w' => (a'.tmps.size = 82 ∧ a'.tmps.getD 2 undef = .pointer (some ⟨W.heap.size, 0, none⟩) ∧ a'.tmps.getD 4 undef = .pointer (some ⟨W.heap.size + 1, 0, none⟩) ∧ a'.tmps.getD 5 undef = .pointer (some ⟨W.heap.size + 1 + 1, 0, none⟩) ∧ a'.tmps.getD 6 undef = .pointer (some ⟨Wm.heap.size, 0, none⟩) ∧ a'.tmps.getD 7 undef = .pointer (some ⟨Wm.heap.size + 1, 0, none⟩)) ∧ Marks W.heap.size w' a'.defers ∧ ∃ (vo : Value) (s : List Bool × List Nat × Nat), Rw W hb sb vc T H u h (W.heap.size + 1) (W.heap.size + 1 + 1) Wm.heap.size (Wm.heap.size + 1) (.slice (some ⟨W.heap.size + 3, 0, none⟩) H.length H.length) ls.flatten (fun _ => False) w' vo s ∧ 2 * unmarked s.1 + s.2.1.length ≤ 2 * H.length ∧ ∀ w ∈ ls.flatten, ∀ j, hit H w = some j → s.1[j]? = some true) (fun _ w' => muW (W.heap.size + 3) Wm.heap.size w') ?_ ?_
      · exact ⟨⟨rfl, rfl, rfl, rfl, rfl, rfl⟩, trivial, vo, s, hq.out, hbd, hroots.out⟩
      clear hroots hbd hq
      rintro ⟨t, ds⟩ wr2 ⟨⟨hs, h2, h4, h5, h6, h7⟩, hM, vo2, s2, q, hbd, hroots⟩
      obtain ⟨uu, rfl⟩ := ract_of t hs h2 h4 h5 h6 h7
      clear hs h2 h4 h5 h6 h7 hl0
      unfold ract
      obtain ⟨R, O, m⟩ := s2
      have co := q.r.bo.cell
      have fo := q.r.bo.frozen
      have HR := hid hroots
      have HM := hid hM
      have hbd2 : 2 * unmarked R + O.length ≤ 2 * H.length := hbd
      clear hroots hM hbd
      rcases List.eq_nil_or_concat O with rfl | ⟨O', id, hOe⟩
      · obtain ⟨o', cap', hvo⟩ := slice_of (owns_base q.r.orow (b' := 0) (fun _ _ => Nat.zero_le _))
        rw [hvo] at co
        simp only [List.length_nil] at co
        have HQ := hid q
        have cr := q.r.br.cell
        have cn := q.r.bn.cell
        have fr := q.r.br.frozen
        have fn := q.r.bn.frozen
        have x1 : Boxed (wr2.setCell ⟨W.heap.size + 1, 0, none⟩ (.slice (some ⟨W.heap.size + 3, 0, none⟩) H.length H.length)) (W.heap.size + 1 + 1) 3 (.int .i64 (m : Nat)) := box_set q.r.bn (by omega)
        have y1 := x1.cell
        have y2 := x1.frozen
        have y3 : (wr2.setCell ⟨W.heap.size + 1, 0, none⟩ (.slice (some ⟨W.heap.size + 3, 0, none⟩) H.length H.length)).drew.cell? ⟨W.heap.size + 1 + 1, 0, none⟩ = some (.int .i64 (m : Nat)) := y1
        have y4 : (wr2.drew.setCell ⟨W.heap.size + 1, 0, none⟩ (.slice (some ⟨W.heap.size + 3, 0, none⟩) H.length H.length)).cell? ⟨W.heap.size + 1 + 1, 0, none⟩ = some (.int .i64 (m : Nat)) := y1
        have z3 : Boxed ((wr2.setCell ⟨W.heap.size + 1, 0, none⟩ (.slice (some ⟨W.heap.size + 3, 0, none⟩) H.length H.length)).setCell ⟨W.heap.size + 1 + 1, 0, none⟩ (.int .i64 (m : Nat))).drew (W.heap.size + 1 + 1) 3 (.int .i64 (m : Nat)) := x1.set _
        have z2 : Boxed ((wr2.setCell ⟨W.heap.size + 1, 0, none⟩ (.slice (some ⟨W.heap.size + 3, 0, none⟩) H.length H.length)).setCell ⟨W.heap.size + 1 + 1, 0, none⟩ (.int .i64 (m : Nat))).drew (W.heap.size + 1) 153 (.slice (some ⟨W.heap.size + 3, 0, none⟩) H.length H.length) := box_set (q.r.br.set (.slice (some ⟨W.heap.size + 3, 0, none⟩) H.length H.length)) (by omega)
        have hU5 : Upd (fun k => k = W.heap.size + 1 ∨ k = W.heap.size + 1 + 1) wr2 ((wr2.setCell ⟨W.heap.size + 1, 0, none⟩ (.slice (some ⟨W.heap.size + 3, 0, none⟩) H.length H.length)).setCell ⟨W.heap.size + 1 + 1, 0, none⟩ (.int .i64 (m : Nat))).drew := (((Upd.refl (fun k => k = W.heap.size + 1 ∨ k = W.heap.size + 1 + 1) wr2).setCell (p := ⟨W.heap.size + 1, 0, none⟩) (.inl (.inl rfl)) _).setCell (p := ⟨W.heap.size + 1 + 1, 0, none⟩) (.inl (.inr rfl)) _).drew
        have Z2 := hid z2
        have Z3 := hid z3
        have U5 := hid hU5
        clear q z2 z3 hU5 x1
        go_wp2
        go_region
        clear y1 y2 y3 y4 cr cn fr fn
        generalize World.drew (World.setCell (World.setCell wr2 _ _) _ _) = w5 at *
        have hM5 : Hid (Marks W.heap.size w5 ds) := by
          refine Marks.kept ?_ ds HM.out
          intro k _ hk
          refine U5.out.block k (Array.getElem?_eq_some_iff.1 hk).1 ?_
          rintro (rfl | rfl)
          · have := HQ.out.r.br
            unfold Boxed at this
            rw [this] at hk; cases hk
          · have := HQ.out.r.bn
            unfold Boxed at this
            rw [this] at hk; cases hk
        go_wp2
        refine marks_leave ds w5 hM5.out (fun w' hu => ?_)
        have kb : ∀ {B t v}, Boxed w5 B t v → Boxed w' B t v := fun b => box_of (hu.block _ b.lt (by rintro ⟨_, e⟩; unfold Boxed at b; rw [b] at e; cases e)) b
        have c2 := (kb Z2.out).cell
        have c3 := (kb Z3.out).cell
        have hB5 : Below W.heap.size W w5 := HQ.out.bel.trans (U5.out.below HQ.out.bel.size (fun k e => by omega))
        have hB6 : Below W.heap.size W w' := hB5.trans (hu.below hB5.size (fun k e => e.1))
        have hrr : w'.ownsRow W.heap.size 4 1 (.slice (some ⟨W.heap.size + 3, 0, none⟩) H.length H.length) R.length (R.map .bool) := by
          have h5 : w5.ownsRow W.heap.size 4 1 (.slice (some ⟨W.heap.size + 3, 0, none⟩) H.length H.length) R.length (R.map .bool) := owns_on HQ.out.r.rrow (fun k e => by
            simp [Value.ownBlock] at e
            exact U5.out.block k (by have := (HQ.out.r.rrow.lt (W.heap.size + 3) rfl).2; omega) (by omega))
          refine owns_on h5 (fun k e => hu.block k (h5.lt k e).2 ?_)
          rintro ⟨_, ex⟩
          rcases h5.2 with ⟨h0, _⟩ | ⟨g', cap2, cur, h0, _, hgg, _⟩
          · cases h0
          · rw [h0] at e; cases e; rw [hgg] at ex; cases ex
        have hm := HQ.out.mm.need
        have hRl := HQ.out.mm.inv.len
        have hdn := HQ.out.mm.inv.done HR.out
        simp only at hm hRl hdn
        refine ⟨.tuple #[.slice (some ⟨W.heap.size + 3, 0, none⟩) H.length H.length, .int .i64 (m : Nat)], ?_, R, .slice (some ⟨W.heap.size + 3, 0, none⟩) H.length H.length, by rw [hm], hB6, hrr, hRl, hdn⟩
        clear hm hRl hdn hrr hB6 hB5
        simp [results, Tryz.results131, go_sem, c2, c3]
      · rw [List.concat_eq_append] at hOe
        subst hOe
        obtain ⟨gO, capO, hvo, hcO⟩ := own_slice (owns_base q.r.orow (b' := 0) (fun _ _ => Nat.zero_le _)) (by simp)
        have hll1 : (O' ++ [id]).length = O'.length + 1 := by simp
        simp only [hll1] at hvo hcO hbd2
        subst hvo
        have hor := q.r.orow
        simp only [hll1] at hor
        have hlast := hor.cellAt O'.length (by omega)
        clear hor
        rw [List.getElem?_map, List.getElem?_append_right (Nat.le_refl _), Nat.sub_self, List.getElem?_cons_zero, Option.map_some] at hlast
        have hbig : O'.length ≤ 10000000 := by omega
        have o1 : IntKind.i64.wrap (((O'.length + 1 : Nat) : Int) - 1) = O'.length := by rw [IntKind.wrap_i64]; omega
        have o2 : (0 : Int) ≤ O'.length := by omega
        have o3 : (O'.length : Int) < ((O'.length + 1 : Nat) : Int) := by omega
        have o4 : (0 : Int) < ((O'.length + 1 : Nat) : Int) := by omega
        have q5 := hid q
        clear q
        go_upto_region 16 with fail
        have q6 := q5.out.pop
        have hmu0 : Hid (muW (W.heap.size + 3) Wm.heap.size wr2 = 2 * unmarked R + (O' ++ [id]).length) := q5.out.mu rfl
        rw [hll1] at hmu0
        obtain ⟨c, hc⟩ := q5.out.live
        have hrid : Hid (Rch H ls.flatten id) := q5.out.mm.inv.sound id (q5.out.mm.inv.opn id (by simp))
        have hM6 : Hid (Marks W.heap.size (wr2.setCell ⟨Wm.heap.size, 0, none⟩ (.slice (some ⟨gO, 0, none⟩) O'.length capO)) ds) := by
          refine Marks.kept ?_ ds HM.out
          intro k _ hk
          refine Below.heap_setCell _ _ _ _ ?_
          rintro rfl
          have := q5.out.r.bo
          unfold Boxed at this
          rw [this] at hk; cases hk
        clear co fo hlast q5 HM o1 o2 o3 o4
        generalize World.setCell wr2 _ _ = W6 at *
        have hok := q6.lay.ok id c hc
        have hidl : id < H.length := (List.getElem?_eq_some_iff.1 hc).1
        obtain ⟨b, capc', hvc', hcell, _⟩ := q6.lay.at hidl
        have ch := q6.r.bh.cell
        have c1 := q6.lay.cell 1
        simp only [List.getElem?_cons_succ, List.getElem?_cons_zero] at c1
        rw [hvc'] at c1
        have k0 := hcell 0 (some c) hc (by omega)
        have k1 := hcell 1 (some c) hc (by omega)
        have k2 := hcell 2 (some c) hc (by omega)
        have k3 := hcell 3 (some c) hc (by omega)
        have k4 := hcell 4 (some c) hc (by omega)
        simp only [clO, Cl.cells, List.getElem?_cons_succ, List.getElem?_cons_zero, Nat.add_zero] at k0 k1 k2 k3 k4
        have j0 : (0 : Int) ≤ id := by omega
        have j1 : (id : Int) < H.length := by omega
        clear hcell
        go_upto_region 17 with fail
        have hB7 : Below W6.heap.size W6 (W6.alloc (.cells #[.int .i64 c.cl.kind, .bool c.cl.view, .int .u64 c.cl.base, .int .i64 c.cl.frm, .int .i64 c.cl.len] 158)) := (Below.refl _ W6).alloc (Nat.le_refl _) _
        have q7 := q6.below hB7
        have hM7 : Hid (Marks W.heap.size (W6.alloc (.cells #[.int .i64 c.cl.kind, .bool c.cl.view, .int .u64 c.cl.base, .int .i64 c.cl.frm, .int .i64 c.cl.len] 158)) ds) := Marks.kept (fun k _ hk => hB7.block k (Array.getElem?_eq_some_iff.1 hk).1) ds hM6.out
        have n0 := World.cell?_alloc_new W6 #[.int .i64 c.cl.kind, .bool c.cl.view, .int .u64 c.cl.base, .int .i64 c.cl.frm, .int .i64 c.cl.len] 158 0
        have n1 := World.cell?_alloc_new W6 #[.int .i64 c.cl.kind, .bool c.cl.view, .int .u64 c.cl.base, .int .i64 c.cl.frm, .int .i64 c.cl.len] 158 1
        have n2 := World.cell?_alloc_new W6 #[.int .i64 c.cl.kind, .bool c.cl.view, .int .u64 c.cl.base, .int .i64 c.cl.frm, .int .i64 c.cl.len] 158 2
        simp only [List.getElem?_toArray, List.getElem?_cons_succ, List.getElem?_cons_zero] at n0 n1 n2
        clear q6 hM6 hB7 k0 k1 k2 k3 k4 ch c1
        generalize World.alloc W6 _ = W7 at *
        generalize W6.heap.size = Bc at *
        have csh := shape_c c.cl.kind c.cl.view W7
        rw [shp_eq hok] at csh
        have plain : ∀ (c' : Hc), c = c' → c'.succ = [] → Rw W hb sb vc T H u h (W.heap.size + 1) (W.heap.size + 1 + 1) Wm.heap.size (Wm.heap.size + 1) (.slice (some ⟨W.heap.size + 3, 0, none⟩) H.length H.length) ls.flatten (fun _ => False) W7 (.slice (some ⟨gO, 0, none⟩) O'.length capO) (R, O', m) := by
          rintro c' rfl hs
          exact q7.close hc (fun w hw => by rw [hs] at hw; cases hw)
        cases c with
        | num n =>
          have q8 := hid (plain _ rfl rfl)
          have hmu1 : Hid (muW (W.heap.size + 3) Wm.heap.size W7 = 2 * unmarked R + O'.length) := q8.out.mu rfl
          clear plain q7
          go_wp2_with (go_at_call 170; (with_reducible refine csh.mono ?_); rintro e w' ⟨rfl, hw⟩; (have hw' := hw.symm); subst hw'; clear hw)
          exact ⟨⟨⟨rfl, rfl, rfl, rfl, rfl, rfl⟩, hM7.out, _, _, q8.out, by show 2 * unmarked R + O'.length ≤ _; omega, HR.out⟩, by rw [hmu0.out, hmu1.out]; omega⟩
        | text bt =>
          have q8 := hid (plain _ rfl rfl)
          have hmu1 : Hid (muW (W.heap.size + 3) Wm.heap.size W7 = 2 * unmarked R + O'.length) := q8.out.mu rfl
          clear plain q7
          go_wp2_with (go_at_call 170; (with_reducible refine csh.mono ?_); rintro e w' ⟨rfl, hw⟩; (have hw' := hw.symm); subst hw'; clear hw)
          exact ⟨⟨⟨rfl, rfl, rfl, rfl, rfl, rfl⟩, hM7.out, _, _, q8.out, by show 2 * unmarked R + O'.length ≤ _; omega, HR.out⟩, by rw [hmu0.out, hmu1.out]; omega⟩
        | buf k bt =>
          have q8 := hid (plain _ rfl rfl)
          have hmu1 : Hid (muW (W.heap.size + 3) Wm.heap.size W7 = 2 * unmarked R + O'.length) := q8.out.mu rfl
          clear plain q7
          go_wp2_with (go_at_call 170; (with_reducible refine csh.mono ?_); rintro e w' ⟨rfl, hw⟩; (have hw' := hw.symm); subst hw'; clear hw)
          exact ⟨⟨⟨rfl, rfl, rfl, rfl, rfl, rfl⟩, hM7.out, _, _, q8.out, by show 2 * unmarked R + O'.length ≤ _; omega, HR.out⟩, by rw [hmu0.out, hmu1.out]; omega⟩
        | view k bs p n =>
          have hroot : ∀ j, hit H bs = some j → Rch H ls.flatten j := fun j hj => Rch.step id j bs _ hrid.out hc (by simp [Hc.succ]) hj
          have ck := q7.mark (by show 2 * unmarked R + O'.length ≤ _; omega) bs hok.2.1 hroot
          obtain ⟨x1, x2, x3, x4⟩ := q7.mm.mark bs hroot
          have cm := q7.m.cell
          unfold markF at cm
          have Q7 := hid q7
          have X2 := hid x2
          have X3 := hid x3
          have X4 : Hid (2 * unmarked (markP H (R, O', m) bs).1 + (markP H (R, O', m) bs).2.1.length ≤ 2 * unmarked R + O'.length) := x4
          simp only [Hc.cl] at n2
          clear plain q7 x1 x2 x3 x4 hroot
          go_wp2_with (first | (go_at_call 170; (with_reducible refine csh.mono ?_); rintro e w' ⟨rfl, hw⟩; (have hw' := hw.symm); subst hw'; clear hw) | (go_at_call 178; (with_reducible refine ck.mono ?_); rintro e w9 ⟨rfl, vo9, q9, hU9, hn9⟩))
          have q10 := q9.close hc (fun w hw => by
            simp [Hc.succ] at hw
            subst hw
            exact X2.out)
          have hmu1 := q10.mu rfl
          exact ⟨⟨⟨rfl, rfl, rfl, rfl, rfl, rfl⟩, hM7.out.upd Q7.out.r hU9, _, _, q10, Nat.le_trans X4.out (by omega), fun w hw j hj => X3.out j (HR.out w hw j hj)⟩, by rw [hmu0.out, hmu1]; have := X4.out; omega⟩
        | row ws =>
          have cw := words_c W7 hb id
          have ch := q7.r.bh.cell
          have Q7 := hid q7
          clear plain q7
          go_wp2_with (first | (go_at_call 170; (with_reducible refine csh.mono ?_); rintro e w' ⟨rfl, hw⟩; (have hw' := hw.symm); subst hw'; clear hw) | (go_at_call 179; (with_reducible refine cw.mono ?_); rintro e w8 ⟨rfl, hw8⟩; (have hw' := hw8.symm); subst hw'; clear hw8))
          have hB8 : Below W7.heap.size W7 ((W7.alloc (.cells #[.pointer (some ⟨hb, 0, none⟩)] 23)).alloc (.cells #[.int .i64 id] 3)) := ((Below.refl _ W7).alloc (Nat.le_refl _) _).alloc (by simp) _
          have hz8 : ((W7.alloc (.cells #[.pointer (some ⟨hb, 0, none⟩)] 23)).alloc (.cells #[.int .i64 id] 3)).heap.size = W7.heap.size + 2 := by simp
          have b8h : Boxed ((W7.alloc (.cells #[.pointer (some ⟨hb, 0, none⟩)] 23)).alloc (.cells #[.int .i64 id] 3)) W7.heap.size 23 (.pointer (some ⟨hb, 0, none⟩)) := (Boxed.new W7 _ _).alloc _
          have b8i : Boxed ((W7.alloc (.cells #[.pointer (some ⟨hb, 0, none⟩)] 23)).alloc (.cells #[.int .i64 id] 3)) (W7.heap.size + 1) 3 (.int .i64 id) := by
            have := Boxed.new (W7.alloc (.cells #[.pointer (some ⟨hb, 0, none⟩)] 23)) 3 (.int .i64 id)
            rwa [World.size_alloc] at this
          have q8 := Q7.out.below hB8
          have t1 := Q7.out.r.br.lt
          have t2 := Q7.out.r.bn.lt
          have t3 := Q7.out.r.bo.lt
          have t4 := Q7.out.m.lt
          have t5 := (Q7.out.r.rrow.lt (W.heap.size + 3) rfl).2
          have t6 := (Q7.out.r.orow.lt gO rfl).2
          have t7 := Q7.out.bel.size
          clear csh cw ch n0 n1 n2
          generalize World.alloc (World.alloc W7 _) _ = W8 at *
          refine words_law (hb := hb) (sb := sb) (vc := vc) (T := T) (u := u) (h := h) ws hc rfl
            (fun i W' => ∃ vo s, Rw W hb sb vc T H u h (W.heap.size + 1) (W.heap.size + 1 + 1) Wm.heap.size (Wm.heap.size + 1) (.slice (some ⟨W.heap.size + 3, 0, none⟩) H.length H.length) ls.flatten (fun j => j = id) W' vo s ∧ 2 * unmarked s.1 + s.2.1.length ≤ 2 * unmarked R + O'.length ∧ (∀ w ∈ ws.take i, ∀ j, hit H w = some j → s.1[j]? = some true) ∧ (∀ j : Nat, R[j]? = some true → s.1[j]? = some true) ∧ (∀ k, vo.ownBlock = some k → k < W7.heap.size ∨ W8.heap.size + 2 ≤ k) ∧ (∀ k : Nat, W7.heap[k]? = some (.deferred (some [])) → W'.heap[k]? = some (.deferred (some []))) ∧ Boxed W' W7.heap.size 23 (.pointer (some ⟨hb, 0, none⟩)) ∧ Boxed W' (W7.heap.size + 1) 3 (.int .i64 id))
            (fun _ _ => False) ?hL ?hI ?hIx ⟨_, _, q8, Nat.le_refl _, fun w hw => absurd hw (by simp), fun j e => e, fun k e => .inl (by cases e; exact t6), fun k e => (hB8.block k (Array.getElem?_eq_some_iff.1 e).1).trans e, b8h, b8i⟩ 14 ?assign ?body ?done ?stop
          case hL =>
            rintro i W' ⟨vo, s, g1, g2, g3, g4, g5, g6, g7, g8⟩
            exact ⟨g1.lay, g7.cell, g8.cell⟩
          case hI =>
            rintro i Wa Wb ⟨vo, s, g1, g2, g3, g4, g5, g6, g7, g8⟩ hu
            refine ⟨vo, s, g1.far hu (by omega) (by omega) (by omega) (by omega) (by omega) ?_ ?_, g2, g3, g4, g5, ?_, box_of (hu.block _ g7.lt (by omega)) g7, box_of (hu.block _ g8.lt (by omega)) g8⟩
            · intro e; simp [Value.ownBlock] at e; omega
            · intro e
              have := g5 _ e
              omega
            · intro k hk
              have h1 := (Array.getElem?_eq_some_iff.1 hk).1
              exact (hu.block k (Array.getElem?_eq_some_iff.1 (g6 k hk)).1 (by omega)).trans (g6 k hk)
          case hIx => intro c Wa Wb hF; exact hF.elim
          case assign =>
            intro L x W' K hK
            gi_wp2_with (simp only [Oper.semAt]; go_simp)
            exact hK
          case body =>
            rintro L i hi W' hLe ⟨vo, s, g1, g2, g3, g4, g5, g6, g7, g8⟩ hs ⟨r, hr⟩
            simp only [wAct, List.setIfInBounds_toArray, List.set_cons_succ, List.set_cons_zero]
            have hroot : ∀ j, hit H ws[i] = some j → Rch H ls.flatten j := fun j hj => Rch.step id j ws[i] _ hrid.out hc (List.getElem_mem hi) hj
            have ck := g1.mark (by omega) ws[i] (hok.1 _ (List.getElem_mem hi)) hroot
            obtain ⟨x1, x2, x3, x4⟩ := g1.mm.mark ws[i] hroot
            have htk : ws.take (i + 1) = ws.take i ++ [ws[i]] := by rw [List.take_add_one, List.getElem?_eq_getElem hi]; rfl
            have cm := g1.m.cell
            unfold markF at cm
            have fin : Hid (∀ w9 vo9, Rw W hb sb vc T H u h (W.heap.size + 1) (W.heap.size + 1 + 1) Wm.heap.size (Wm.heap.size + 1) (.slice (some ⟨W.heap.size + 3, 0, none⟩) H.length H.length) ls.flatten (fun j => j = id) w9 vo9 (markP H s ws[i]) → Upd (RB (W.heap.size + 1 + 1) Wm.heap.size (.slice (some ⟨W.heap.size + 3, 0, none⟩) H.length H.length) vo) W' w9 → (∀ k, vo9.ownBlock = some k → vo.ownBlock = some k ∨ W'.heap.size ≤ k) → (w9.heap[L]? = W'.heap[L]? ∧ w9.heap[W8.heap.size]? = W'.heap[W8.heap.size]?) ∧ ∃ vo s, Rw W hb sb vc T H u h (W.heap.size + 1) (W.heap.size + 1 + 1) Wm.heap.size (Wm.heap.size + 1) (.slice (some ⟨W.heap.size + 3, 0, none⟩) H.length H.length) ls.flatten (fun j => j = id) w9 vo s ∧ 2 * unmarked s.1 + s.2.1.length ≤ 2 * unmarked R + O'.length ∧ (∀ w ∈ ws.take (i + 1), ∀ j, hit H w = some j → s.1[j]? = some true) ∧ (∀ j : Nat, R[j]? = some true → s.1[j]? = some true) ∧ (∀ k, vo.ownBlock = some k → k < W7.heap.size ∨ W8.heap.size + 2 ≤ k) ∧ (∀ k : Nat, W7.heap[k]? = some (.deferred (some [])) → w9.heap[k]? = some (.deferred (some []))) ∧ Boxed w9 W7.heap.size 23 (.pointer (some ⟨hb, 0, none⟩)) ∧ Boxed w9 (W7.heap.size + 1) 3 (.int .i64 id)) := by
              show ∀ w9 vo9, _
              intro w9 vo9 q9 hU9 hn9
              have nb : ∀ k, W7.heap.size ≤ k → k < W8.heap.size + 2 → ¬ RB (W.heap.size + 1 + 1) Wm.heap.size (.slice (some ⟨W.heap.size + 3, 0, none⟩) H.length H.length) vo k := by
                rintro k h1 h2 (e | e | e | e)
                · omega
                · omega
                · simp [Value.ownBlock] at e; omega
                · have := g5 k e; omega
              refine ⟨⟨hU9.block _ (by omega) (nb _ (by omega) (by omega)), hU9.block _ (by omega) (nb _ (by omega) (by omega))⟩, vo9, _, q9, Nat.le_trans x4 g2, ?_, fun j e => x3 j (g4 j e), ?_, ?_, box_of (hU9.block _ g7.lt (nb _ (by omega) (by omega))) g7, box_of (hU9.block _ g8.lt (nb _ (by omega) (by omega))) g8⟩
              · intro w hw j hj
                rw [htk] at hw
                rcases List.mem_append.1 hw with hw | hw
                · exact x3 j (g3 w hw j hj)
                · simp at hw; subst hw; exact x2 j hj
              · intro k e
                rcases hn9 k e with e | e
                · exact g5 k e
                · right; omega
              · intro k hk
                refine (hU9.block k (Array.getElem?_eq_some_iff.1 (g6 k hk)).1 ?_).trans (g6 k hk)
                intro hR
                obtain ⟨a, t, f, e⟩ := g1.r.cells hR
                rw [g6 k hk] at e; cases e
            clear x1 x2 x3 x4 htk hroot g1 g2 g3 g4 g5 g6 g7 g8 hr
            generalize ws[i] = wi at *
            gi_wp2_with (first | (simp only [Oper.semAt]; go_simp) | ((refine ⟨trivial, ?_⟩); gi_at_call 178; (refine (CallsIn.inRound L (callsIn_wide.2 ck)).mono ?_); rintro e w9 ⟨rfl, vo9, q9, hU9, hn9⟩))
            exact fin.out w9 vo9 q9 hU9 hn9
          case done =>
            rintro W' ⟨vo, s, g1, g2, g3, g4, g5, g6, g7, g8⟩ hD
            have q10 := g1.close hc (by
              intro w hw j hj
              rw [List.take_length] at g3
              exact g3 w hw j hj)
            have hmu1 := q10.mu rfl
            have hbd3 : 2 * unmarked s.1 + s.2.1.length ≤ 2 * H.length := by omega
            have hM9 : Marks W.heap.size W' ({ target := .collected W8.heap.size, args := #[] } :: ds) := by
              refine ⟨⟨_, rfl, by omega, hD, ?_⟩, Marks.kept (fun k _ hk => (g6 k hk).trans hk.symm) ds hM7.out⟩
              intro d hd e
              obtain ⟨r, h1, h2⟩ := Marks.lt ds hM7.out d hd
              rw [h1] at e
              injection e with e1 _
              injection e1 with e1
              omega
            have hlt9 : muW (W.heap.size + 3) Wm.heap.size W' < muW (W.heap.size + 3) Wm.heap.size wr2 := by rw [hmu0.out, hmu1]; omega
            have hr9 : ∀ w ∈ ls.flatten, ∀ j, hit H w = some j → s.1[j]? = some true := fun w hw j hj => g4 j (HR.out w hw j hj)
            exact ⟨⟨⟨rfl, rfl, rfl, rfl, rfl, rfl⟩, hM9, vo, s, q10, hbd3, hr9⟩, hlt9⟩
          case stop => intro c W' hF; exact hF.elim
end
end Go.Proofs.YtgmimmdojkoppaaGreatDoor.W
/- Package heap: New, Reach; a heap and the blocks that are its own. -/
namespace Go.Proofs.YtgmimmdojkoppaaGreatDoor.W
open Go.ChangeShapes Go.WideShapes Go.RowKit Go.Shelf
set_option linter.unusedVariables false
/-- a heap of u units at hb, whose cells are H, in blocks of S -/
def HSt (W : World) (S : Nat → Prop) (hb : Nat) (H : List (Option Hc)) (u : Nat) : Prop := ∃ sb vc T, HLay W hb sb vc T H u (sumH H) ∧ S hb ∧ (∀ k, vc.ownBlock = some k → S k) ∧ (∀ k, T k → S k) ∧ sumH H ≤ u
section
variable {W W' : World} {S : Nat → Prop} {hb : Nat} {H : List (Option Hc)} {u : Nat}
theorem HSt.on (h : HSt W S hb H u) (hs : W.heap.size ≤ W'.heap.size) (hk : ∀ k, S k → k < W.heap.size → W'.heap[k]? = W.heap[k]?) : HSt W' S hb H u := by
  obtain ⟨sb, vc, T, h1, h2, h3, h4, h5⟩ := h
  exact ⟨sb, vc, T, h1.kept hs (hk _ h2 h1.hlt) (fun k e => hk k (h3 k e) (h1.clt k e)) (fun k e => hk k (h4 k e) (h1.tlt k e)), h2, h3, h4, h5⟩
theorem HSt.below (h : HSt W S hb H u) (hb' : Below W.heap.size W W') : HSt W' S hb H u := h.on hb'.size (fun k _ hl => hb'.block k hl)
theorem HSt.mono {S' : Nat → Prop} (h : HSt W S hb H u) (hk : ∀ k, S k → S' k) : HSt W S' hb H u := by
  obtain ⟨sb, vc, T, h1, h2, h3, h4, h5⟩ := h
  exact ⟨sb, vc, T, h1, hk _ h2, fun k e => hk k (h3 k e), fun k e => hk k (h4 k e), h5⟩
/-- what is given by reach's answer -/
theorem needR_eq {R R' : List Bool} (h1 : R.length = H.length) (h2 : R'.length = H.length) (h : ∀ i : Nat, R[i]? = some true ↔ R'[i]? = some true) : R = R' := by
  apply List.ext_getElem?
  intro i
  by_cases hi : i < H.length
  · have a1 : R[i]? = some R[i] := List.getElem?_eq_getElem (by omega)
    have a2 : R'[i]? = some R'[i] := List.getElem?_eq_getElem (by omega)
    have := h i
    rw [a1, a2] at this
    rw [a1, a2]
    cases e1 : R[i] <;> cases e2 : R'[i] <;> simp_all
  · rw [List.getElem?_eq_none (by omega), List.getElem?_eq_none (by omega)]
end
theorem hnew_c (u : Nat) (hu : u ≤ 1048576) (W : World) : Calls Tryz.prog 4 #[.int .i64 u] W fun e w' => ∃ hb, e = .returned (.tuple #[.pointer (some ⟨hb, 0, none⟩), .int .i64 0]) ∧ Below W.heap.size W w' ∧ HSt w' (fun k => W.heap.size ≤ k ∧ k < w'.heap.size) hb [] u := by
  have u0 : ¬ (u : Int) < 0 := by omega
  have u1 : ¬ (u : Int) > 1048576 := by omega
  have cn := new_st W 8388608 1048577 (by omega) (by omega)
  go_enter Tryz.func4, Tryz.ntmps4
  go_wp2_with (go_at_call 12; (with_reducible refine cn.mono ?_); rintro e w1 ⟨rfl, hSt, hBl, hSz⟩; clear cn)
  go_ret2
  have hB2 : Below w1.heap.size w1 (w1.alloc (.cells #[.pointer (some ⟨W.heap.size, 0, none⟩), .slice none 0 0, .int .i64 u, .int .i64 0] 45)) := (Below.refl _ w1).alloc (Nat.le_refl _) _
  have hl : HLay (w1.alloc (.cells #[.pointer (some ⟨W.heap.size, 0, none⟩), .slice none 0 0, .int .i64 u, .int .i64 0] 45)) w1.heap.size W.heap.size (.slice none 0 0) (fun k => k = W.heap.size) [] u 0 := by
    refine ⟨World.alloc_heap_new w1 _, World.ownsRow_nil _ _ _ _, hSt.below hB2 ?_, ?_, ?_, ?_, ?_, Nat.zero_le _, hu, Nat.zero_le _⟩
    · intro k e; subst e; omega
    · intro k e; subst e; have := hB2.size; omega
    · show ¬ w1.heap.size = W.heap.size; omega
    · intro k e; cases e
    · intro i c e; simp at e
  refine ⟨w1.heap.size, by rw [hSz]; rfl, hBl.trans (hB2.mono hBl.size), W.heap.size, .slice none 0 0, fun k => k = W.heap.size, hl, ⟨by omega, by rw [World.size_alloc]; omega⟩, ?_, ?_, Nat.zero_le _⟩
  · intro k e; cases e
  · intro k e; subst e; exact ⟨Nat.le_refl _, by rw [World.size_alloc]; omega⟩
/-- which cells are reached, as a row of truths -/
noncomputable def rchB (H : List (Option Hc)) (ws : List Nat) : List Bool := (List.range H.length).map (fun i => @decide (Rch H ws i) (Classical.propDecidable _))
theorem rchB_len (H : List (Option Hc)) (ws : List Nat) : (rchB H ws).length = H.length := by simp [rchB]
theorem rchB_get (H : List (Option Hc)) (ws : List Nat) (i : Nat) : (rchB H ws)[i]? = some true ↔ Rch H ws i := by
  by_cases hi : i < H.length
  · unfold rchB
    rw [List.getElem?_map, List.getElem?_range hi]
    simp
  · rw [List.getElem?_eq_none (by rw [rchB_len]; omega)]
    refine ⟨fun h => (by cases h), fun h => ?_⟩
    obtain ⟨c, hc⟩ := h.live
    exact absurd (List.getElem?_eq_some_iff.1 hc).1 hi
/-- what the cells that are reached need -/
noncomputable def reachN (H : List (Option Hc)) (ws : List Nat) : Nat := needR H (rchB H ws)
section
variable {W : World} {hb sb : Nat} {vc : Value} {T : Nat → Prop} {H : List (Option Hc)} {u h : Nat}
theorem reach_b (g : HLay W hb sb vc T H u h) (v : Value) (ls : List (List Nat)) (hls : ListsAt W v ls) (hsum : sumH H ≤ 100000000) :
    Calls Tryz.prog 131 #[.pointer (some ⟨hb, 0, none⟩), v] W fun e w' => ∃ vr, e = .returned (.tuple #[vr, .int .i64 (reachN H ls.flatten : Nat)]) ∧ Below W.heap.size W w' ∧ w'.ownsRow W.heap.size 4 1 vr H.length ((rchB H ls.flatten).map .bool) := by
  refine (reach_c g v ls hls hsum).mono ?_
  rintro e w' ⟨R, vr, rfl, hB, ho, hl, hR⟩
  have e : R = rchB H ls.flatten := needR_eq hl (rchB_len H _) (fun i => (hR i).trans (rchB_get H _ i).symm)
  subst e
  rw [rchB_len] at ho
  exact ⟨vr, rfl, hB, ho⟩
end
end Go.Proofs.YtgmimmdojkoppaaGreatDoor.W
