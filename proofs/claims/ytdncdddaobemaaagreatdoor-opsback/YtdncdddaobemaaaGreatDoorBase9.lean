import Derived.Test.YtdncdddaobemaaaGreatDoorBase8
import Derived.BigFrameIn
import Derived.Test.YtdncdddaobemaaaGreatDoorBase7
import Derived.Test.YtdncdddaobemaaaGreatDoorBase6
import Derived.Scope
import Derived.Lib.ConvBytes
import Derived.Laws.Strings
/- Package heap: reach. -/
namespace Go.Proofs.YtdncdddaobemaaaGreatDoor.W
open Go.ChangeShapes Go.WideShapes Go.RowKit Go.Shelf
set_option linter.unusedVariables false
section
variable {W : World} {hb sb : Nat} {vc : Value} {T : Nat → Prop} {H : List (Option Hc)} {u h : Nat}
set_option maxRecDepth 20000 in
set_option maxHeartbeats 1000000 in
theorem reach_c (g : HLay W hb sb vc T H u h) (v : Value) (ls : List (List Nat)) (hls : ListsAt W v ls) (hsum : sumH H ≤ 100000000) :
    Calls Tryz.prog 95 #[.pointer (some ⟨hb, 0, none⟩), v] W fun e w' => ∃ R vr, e = .returned (.tuple #[vr, .int .i64 (needR H R : Nat)]) ∧ Below W.heap.size W w' ∧ w'.ownsRow W.heap.size 4 1 vr R.length (R.map .bool) ∧ R.length = H.length ∧ ∀ i : Nat, R[i]? = some true ↔ Rch H ls.flatten i := by
  obtain ⟨o, cap, rfl, hll, hl⟩ := hls
  have c1 := g.cell 1
  simp at c1
  obtain ⟨oc, capc, hvc⟩ := g.sl
  rw [hvc] at c1
  have hlen := g.len
  refine (callsIn_wide (n := 9)).1 ?_
  refine callsIn_of_wp_marks Tryz.func95 rfl trivial ?_ rfl
  refine wpIn_wide.2 ?_
  simp only [Tryz.ntmps95, List.size_toArray, List.length_cons, List.length_nil, Nat.reduceAdd, Nat.reduceSub, Array.replicate_succ, Array.replicate_zero, List.push_toArray, List.append_toArray, List.nil_append, List.cons_append]
  have hlt := g.hlt
  go_upto_region 1 with fail
  have b1 : Boxed (((W.alloc (.cells #[.pointer (some ⟨hb, 0, none⟩)] 25)).alloc (.cells #[.slice none 0 0] 137)).alloc (.cells #[.int .i64 0] 3)) W.heap.size 25 (.pointer (some ⟨hb, 0, none⟩)) := ((Boxed.new W _ _).alloc _).alloc _
  have b2 : Boxed (((W.alloc (.cells #[.pointer (some ⟨hb, 0, none⟩)] 25)).alloc (.cells #[.slice none 0 0] 137)).alloc (.cells #[.int .i64 0] 3)) (W.heap.size + 1) 137 (.slice none 0 0) := by
    have := (Boxed.new (W.alloc (.cells #[.pointer (some ⟨hb, 0, none⟩)] 25)) 137 (.slice none 0 0)).alloc (.cells #[.int .i64 0] 3)
    rwa [World.size_alloc] at this
  have b3 : Boxed (((W.alloc (.cells #[.pointer (some ⟨hb, 0, none⟩)] 25)).alloc (.cells #[.slice none 0 0] 137)).alloc (.cells #[.int .i64 0] 3)) (W.heap.size + 2) 3 (.int .i64 0) := by
    have := Boxed.new ((W.alloc (.cells #[.pointer (some ⟨hb, 0, none⟩)] 25)).alloc (.cells #[.slice none 0 0] 137)) 3 (.int .i64 0)
    rwa [World.size_alloc, World.size_alloc] at this
  have hB1 : Below W.heap.size W (((W.alloc (.cells #[.pointer (some ⟨hb, 0, none⟩)] 25)).alloc (.cells #[.slice none 0 0] 137)).alloc (.cells #[.int .i64 0] 3)) := (((Below.refl _ W).alloc (Nat.le_refl _) _).alloc (by simp) _).alloc (by simp; omega) _
  have hz1 : (((W.alloc (.cells #[.pointer (some ⟨hb, 0, none⟩)] 25)).alloc (.cells #[.slice none 0 0] 137)).alloc (.cells #[.int .i64 0] 3)).heap.size = W.heap.size + 3 := by simp
  generalize World.alloc (World.alloc (World.alloc W _) _) _ = W1 at *
  have d1 := below_cell hB1 c1
  have e1 := b1.cell
  have e2 := b2.cell
  have f2 := b2.frozen
  obtain ⟨Wm, hmk, hro, hgr⟩ := make_bools W1 H.length hlen
  have g2 : Boxed Wm (W.heap.size + 1) 137 (.slice none 0 0) := b2.kept hgr (by simp)
  have e3 := g2.cell
  have f3 := g2.frozen
  rw [hz1] at hmk hro
  go_upto_region 2 with fail
  go_upto_region 4 with fail
  have hzm : W1.heap.size + 1 ≤ Wm.heap.size := (Nat.lt_of_le_of_lt (Nat.le_of_eq hz1) (hro.lt (W.heap.size + 3) rfl).2 : W1.heap.size < Wm.heap.size)
  have q4 : Rw W hb sb vc T H u h (W.heap.size + 1) (W.heap.size + 1 + 1) Wm.heap.size (Wm.heap.size + 1) (.slice (some ⟨W.heap.size + 3, 0, none⟩) H.length H.length) ls.flatten (fun _ => False) (((Wm.setCell ⟨W.heap.size + 1, 0, none⟩ (.slice (some ⟨W.heap.size + 3, 0, none⟩) H.length H.length)).alloc (.cells #[.slice none 0 0] 66)).alloc (.cells #[markF W.heap.size (W.heap.size + 1) (W.heap.size + 1 + 1) Wm.heap.size] 184)) (.slice none 0 0) (List.replicate H.length false, [], 0) := by
    have hs5 : (Wm.setCell ⟨W.heap.size + 1, 0, none⟩ (.slice (some ⟨W.heap.size + 3, 0, none⟩) H.length H.length)).heap.size = Wm.heap.size := by simp [World.setCell]
    have hBm : Below W.heap.size W Wm := hB1.trans (((Upd.refl (fun _ => False) W1).grown hgr (fun k e => by cases e)).below (by omega) (fun k e => e.elim))
    have hB4 : Below W.heap.size W (((Wm.setCell ⟨W.heap.size + 1, 0, none⟩ (.slice (some ⟨W.heap.size + 3, 0, none⟩) H.length H.length)).alloc (.cells #[.slice none 0 0] 66)).alloc (.cells #[markF W.heap.size (W.heap.size + 1) (W.heap.size + 1 + 1) Wm.heap.size] 184)) :=
      hBm.trans (((((Upd.refl (fun k => k = W.heap.size + 1) Wm).setCell (p := ⟨W.heap.size + 1, 0, none⟩) (.inl rfl) _).alloc _).alloc _).below (by omega) (fun k e => by omega))
    have kb : ∀ {B t v}, Boxed W1 B t v → B ≠ W.heap.size + 1 → Boxed (((Wm.setCell ⟨W.heap.size + 1, 0, none⟩ (.slice (some ⟨W.heap.size + 3, 0, none⟩) H.length H.length)).alloc (.cells #[.slice none 0 0] 66)).alloc (.cells #[markF W.heap.size (W.heap.size + 1) (W.heap.size + 1 + 1) Wm.heap.size] 184)) B t v := fun b hn => ((box_set (b.kept hgr (by simp)) hn).alloc _).alloc _
    refine ⟨g.below hB4, ⟨g.hlt, g.clt, g.tlt⟩, ⟨kb b1 (by omega), ((g2.set _).alloc _).alloc _, kb b3 (by omega), ?_, ?_, World.ownsRow_nil _ _ _ _, by simp [Value.ownBlock], by omega, by omega, by omega, by omega⟩, ?_, hB4, Mk.start H _, hsum⟩
    · have := (Boxed.new (Wm.setCell ⟨W.heap.size + 1, 0, none⟩ (.slice (some ⟨W.heap.size + 3, 0, none⟩) H.length H.length)) 66 (.slice none 0 0)).alloc (.cells #[markF W.heap.size (W.heap.size + 1) (W.heap.size + 1 + 1) Wm.heap.size] 184)
      rwa [hs5] at this
    · show World.ownsRow _ W.heap.size 4 1 _ (List.replicate H.length false).length _
      rw [List.length_replicate]
      refine owns_on (owns_base hro (fun k e => by cases e; show _ ≤ W.heap.size + 3; omega)) (fun k e => ?_)
      cases e
      have h3 := (hro.lt (W.heap.size + 3) rfl).2
      show (World.alloc (World.alloc (World.setCell _ _ _) _) _).heap[W.heap.size + 3]? = Wm.heap[W.heap.size + 3]?
      rw [Below.heap_alloc _ _ _ (by rw [World.size_alloc, hs5]; omega), Below.heap_alloc _ _ _ (by rw [hs5]; omega), Below.heap_setCell _ _ _ _ (by show _ ≠ W.heap.size + 1; omega)]
    · have := Boxed.new ((Wm.setCell ⟨W.heap.size + 1, 0, none⟩ (.slice (some ⟨W.heap.size + 3, 0, none⟩) H.length H.length)).alloc (.cells #[.slice none 0 0] 66)) 184 (markF W.heap.size (W.heap.size + 1) (W.heap.size + 1 + 1) Wm.heap.size)
      rwa [World.size_alloc, hs5] at this
  clear b1 b2 b3 e1 e2 f2 e3 f3 g2 d1 hmk hro hgr hB1
  unfold markF at q4
  generalize World.alloc (World.alloc (World.setCell _ _ _) _) _ = W4 at *
  have hl0 : Hid (∀ i (hi : i < ls.length), ∃ x u, o = some x ∧ W.cell? (x.add i) = some u ∧ WordsAt W u ls[i]) := hl
  clear hl c1
  have hb4 : 2 * unmarked (List.replicate H.length false) + 0 ≤ 2 * H.length := by simp [unmarked]
  go_wp2
  go_loopw [24] (fun ii wr => ∃ (i : Nat) (vo : Value) (s : List Bool × List Nat × Nat), i ≤ ls.length ∧ ii = .int .i64 i ∧ Rw W hb sb vc T H u h (W.heap.size + 1) (W.heap.size + 1 + 1) Wm.heap.size (Wm.heap.size + 1) (.slice (some ⟨W.heap.size + 3, 0, none⟩) H.length H.length) ls.flatten (fun _ => False) wr vo s ∧ 2 * unmarked s.1 + s.2.1.length ≤ 2 * H.length ∧ ∀ w ∈ (ls.take i).flatten, ∀ j, hit H w = some j → s.1[j]? = some true) (fun ii _ => ls.length - (intOf ii).toNat)
  case atStart => exact ⟨0, _, _, Nat.zero_le _, rfl, q4, hb4, fun w hw => absurd hw (by simp)⟩
  case round =>
    obtain ⟨i, vo, s, hi, rfl, q, hbd, hpr⟩ := hrel
    clear q4 hb4
    have hpr' := hid hpr
    have hq := hid q
    clear hpr
    by_cases hlt' : i < ls.length
    · obtain ⟨x, uu, ho, hcx, hws⟩ := hl0.out i hlt'
      have hmem : ls[i] ∈ ls := List.getElem_mem hlt'
      have htk : ls.take (i + 1) = ls.take i ++ [ls[i]] := by rw [List.take_add_one, List.getElem?_eq_getElem hlt']; rfl
      generalize ls[i] = ws at *
      obtain ⟨ow, capw, huu, hwl, hlt64, hcell⟩ := hws
      subst ho
      subst huu
      have hcx2 := below_cell (q.bel.mono (Nat.le_refl _)) hcx
      have i0 : (0 : Int) ≤ i := by omega
      have i1 : (i : Int) < ls.length := by omega
      have hw1 : IntKind.i64.wrap ((i : Int) + 1) = (i : Int) + 1 := by rw [IntKind.wrap_i64]; omega
      have HC := hid hcell
      have HT := hid htk
      have HM := hid hmem
      clear q hcell htk hmem
      go_upto_region 9 with fail
      go_loopw [30] (fun jj wr2 => ∃ (j : Nat) (vo : Value) (s : List Bool × List Nat × Nat), j ≤ ws.length ∧ jj = .int .i64 j ∧ Rw W hb sb vc T H u h (W.heap.size + 1) (W.heap.size + 1 + 1) Wm.heap.size (Wm.heap.size + 1) (.slice (some ⟨W.heap.size + 3, 0, none⟩) H.length H.length) ls.flatten (fun _ => False) wr2 vo s ∧ 2 * unmarked s.1 + s.2.1.length ≤ 2 * H.length ∧ ∀ w ∈ (ls.take i).flatten ++ ws.take j, ∀ j, hit H w = some j → s.1[j]? = some true) (fun jj _ => ws.length - (intOf jj).toNat)
      case atStart => exact ⟨0, vo, s, Nat.zero_le _, rfl, hq.out, hbd, fun w hw => hpr'.out w (by simpa using hw)⟩
      case round =>
        obtain ⟨j, vo2, s2, hj, rfl, q2, hbd2, hpr2⟩ := hrel
        clear hpr' hbd hq hcx2
        have HP := hid hpr2
        clear hpr2
        have hw2 : IntKind.i64.wrap ((j : Int) + 1) = (j : Int) + 1 := by rw [IntKind.wrap_i64]; omega
        by_cases hjl : j < ws.length
        · obtain ⟨y, hy, hcy⟩ := HC.out j hjl
          subst hy
          have hcy2 := below_cell (q2.bel.mono (Nat.le_refl _)) hcy
          have j0 : (0 : Int) ≤ j := by omega
          have j1 : (j : Int) < ws.length := by omega
          have cm := q2.m.cell
          unfold markF at cm
          have hroot : ∀ k, hit H ws[j] = some k → Rch H ls.flatten k := fun k hk => Rch.root ws[j] k (List.mem_flatten.2 ⟨ws, HM.out, List.getElem_mem hjl⟩) hk
          have ck := q2.mark hbd2 ws[j] (hlt64 _ (List.getElem_mem hjl)) hroot
          obtain ⟨n1, n2, n3, n4⟩ := q2.mm.mark ws[j] hroot
          have HN2 := hid n2
          have HN3 := hid n3
          have hbd3 := Nat.le_trans n4 hbd2
          have htk2 : ws.take (j + 1) = ws.take j ++ [ws[j]] := by rw [List.take_add_one, List.getElem?_eq_getElem hjl]; rfl
          have HT2 := hid htk2
          clear n1 n2 n3 n4 hroot htk2 q2 hcy
          generalize ws[j] = wj at *
          go_wp2_with (go_at_call 161; (with_reducible refine ck.mono ?_); rintro e w3 ⟨rfl, vo3, q3, hU3, hn3⟩)
          go_roundw
          case rel =>
            refine ⟨j + 1, vo3, _, hjl, by go_num, q3, hbd3, ?_⟩
            intro w hw k hk
            rw [HT2.out] at hw
            rcases List.mem_append.1 hw with hw | hw
            · exact HN3.out k (HP.out w (List.mem_append_left _ hw) k hk)
            · rcases List.mem_append.1 hw with hw | hw
              · exact HN3.out k (HP.out w (List.mem_append_right _ hw) k hk)
              · simp at hw; subst hw; exact HN2.out k hk
          case measure => show ws.length - (j + 1 : Int).toNat < ws.length - (j : Int).toNat; omega
        · have hje : j = ws.length := by omega
          have j1 : ¬ (j : Int) < ws.length := by omega
          have Q2 := hid q2
          clear q2
          go_wp2
          go_roundw
          case rel =>
            refine ⟨i + 1, vo2, s2, hlt', by go_num, Q2.out, hbd2, ?_⟩
            intro w hw k hk
            rw [HT.out, List.flatten_append] at hw
            refine HP.out w ?_ k hk
            rw [hje, List.take_length]
            simpa using hw
          case measure => show ls.length - (i + 1 : Int).toNat < ls.length - (i : Int).toNat; omega
    · have hie : i = ls.length := by omega
      have i1 : ¬ (i : Int) < ls.length := by omega
      have hroots : Hid (∀ w ∈ ls.flatten, ∀ j, hit H w = some j → s.1[j]? = some true) := by
        have := hpr'.out
        rw [hie, List.take_length] at this
        exact this
      clear hpr' q
      go_wp2
      refine wp_loop (fun a' w' => (a'.tmps.size = 82 ∧ a'.tmps.getD 2 undef = .pointer (some ⟨W.heap.size, 0, none⟩) ∧ a'.tmps.getD 4 undef = .pointer (some ⟨W.heap.size + 1, 0, none⟩) ∧ a'.tmps.getD 5 undef = .pointer (some ⟨W.heap.size + 1 + 1, 0, none⟩) ∧ a'.tmps.getD 6 undef = .pointer (some ⟨Wm.heap.size, 0, none⟩) ∧ a'.tmps.getD 7 undef = .pointer (some ⟨Wm.heap.size + 1, 0, none⟩)) ∧ Marks W.heap.size w' a'.defers ∧ ∃ (vo : Value) (s : List Bool × List Nat × Nat), Rw W hb sb vc T H u h (W.heap.size + 1) (W.heap.size + 1 + 1) Wm.heap.size (Wm.heap.size + 1) (.slice (some ⟨W.heap.size + 3, 0, none⟩) H.length H.length) ls.flatten (fun _ => False) w' vo s ∧ 2 * unmarked s.1 + s.2.1.length ≤ 2 * H.length ∧ ∀ w ∈ ls.flatten, ∀ j, hit H w = some j → s.1[j]? = some true) (fun _ w' => muW (W.heap.size + 3) Wm.heap.size w') ?_ ?_
      · exact ⟨⟨rfl, rfl, rfl, rfl, rfl, rfl⟩, trivial, vo, s, hq.out, hbd, hroots.out⟩
      clear hroots hbd hq
      rintro ⟨t, ds⟩ wr2 ⟨⟨hs, h2, h4, h5, h6, h7⟩, hM, vo2, s2, q, hbd, hroots⟩
      obtain ⟨uu, rfl⟩ := ract_of t hs h2 h4 h5 h6 h7
      clear hs h2 h4 h5 h6 h7 hl0
      unfold ract
      obtain ⟨R, O, m⟩ := s2
      have co := q.r.bo.cell
      have fo := q.r.bo.frozen
      have HR := hid hroots
      have HM := hid hM
      have hbd2 : 2 * unmarked R + O.length ≤ 2 * H.length := hbd
      clear hroots hM hbd
      rcases List.eq_nil_or_concat O with rfl | ⟨O', id, hOe⟩
      · obtain ⟨o', cap', hvo⟩ := slice_of (owns_base q.r.orow (b' := 0) (fun _ _ => Nat.zero_le _))
        rw [hvo] at co
        simp only [List.length_nil] at co
        have HQ := hid q
        have cr := q.r.br.cell
        have cn := q.r.bn.cell
        have fr := q.r.br.frozen
        have fn := q.r.bn.frozen
        have x1 : Boxed (wr2.setCell ⟨W.heap.size + 1, 0, none⟩ (.slice (some ⟨W.heap.size + 3, 0, none⟩) H.length H.length)) (W.heap.size + 1 + 1) 3 (.int .i64 (m : Nat)) := box_set q.r.bn (by omega)
        have y1 := x1.cell
        have y2 := x1.frozen
        have y3 : (wr2.setCell ⟨W.heap.size + 1, 0, none⟩ (.slice (some ⟨W.heap.size + 3, 0, none⟩) H.length H.length)).drew.cell? ⟨W.heap.size + 1 + 1, 0, none⟩ = some (.int .i64 (m : Nat)) := y1
        have y4 : (wr2.drew.setCell ⟨W.heap.size + 1, 0, none⟩ (.slice (some ⟨W.heap.size + 3, 0, none⟩) H.length H.length)).cell? ⟨W.heap.size + 1 + 1, 0, none⟩ = some (.int .i64 (m : Nat)) := y1
        have z3 : Boxed ((wr2.setCell ⟨W.heap.size + 1, 0, none⟩ (.slice (some ⟨W.heap.size + 3, 0, none⟩) H.length H.length)).setCell ⟨W.heap.size + 1 + 1, 0, none⟩ (.int .i64 (m : Nat))).drew (W.heap.size + 1 + 1) 3 (.int .i64 (m : Nat)) := x1.set _
        have z2 : Boxed ((wr2.setCell ⟨W.heap.size + 1, 0, none⟩ (.slice (some ⟨W.heap.size + 3, 0, none⟩) H.length H.length)).setCell ⟨W.heap.size + 1 + 1, 0, none⟩ (.int .i64 (m : Nat))).drew (W.heap.size + 1) 137 (.slice (some ⟨W.heap.size + 3, 0, none⟩) H.length H.length) := box_set (q.r.br.set (.slice (some ⟨W.heap.size + 3, 0, none⟩) H.length H.length)) (by omega)
        have hU5 : Upd (fun k => k = W.heap.size + 1 ∨ k = W.heap.size + 1 + 1) wr2 ((wr2.setCell ⟨W.heap.size + 1, 0, none⟩ (.slice (some ⟨W.heap.size + 3, 0, none⟩) H.length H.length)).setCell ⟨W.heap.size + 1 + 1, 0, none⟩ (.int .i64 (m : Nat))).drew := (((Upd.refl (fun k => k = W.heap.size + 1 ∨ k = W.heap.size + 1 + 1) wr2).setCell (p := ⟨W.heap.size + 1, 0, none⟩) (.inl (.inl rfl)) _).setCell (p := ⟨W.heap.size + 1 + 1, 0, none⟩) (.inl (.inr rfl)) _).drew
        have Z2 := hid z2
        have Z3 := hid z3
        have U5 := hid hU5
        clear q z2 z3 hU5 x1
        go_wp2
        go_region
        clear y1 y2 y3 y4 cr cn fr fn
        generalize World.drew (World.setCell (World.setCell wr2 _ _) _ _) = w5 at *
        have hM5 : Hid (Marks W.heap.size w5 ds) := by
          refine Marks.kept ?_ ds HM.out
          intro k _ hk
          refine U5.out.block k (Array.getElem?_eq_some_iff.1 hk).1 ?_
          rintro (rfl | rfl)
          · have := HQ.out.r.br
            unfold Boxed at this
            rw [this] at hk; cases hk
          · have := HQ.out.r.bn
            unfold Boxed at this
            rw [this] at hk; cases hk
        go_wp2
        refine marks_leave ds w5 hM5.out (fun w' hu => ?_)
        have kb : ∀ {B t v}, Boxed w5 B t v → Boxed w' B t v := fun b => box_of (hu.block _ b.lt (by rintro ⟨_, e⟩; unfold Boxed at b; rw [b] at e; cases e)) b
        have c2 := (kb Z2.out).cell
        have c3 := (kb Z3.out).cell
        have hB5 : Below W.heap.size W w5 := HQ.out.bel.trans (U5.out.below HQ.out.bel.size (fun k e => by omega))
        have hB6 : Below W.heap.size W w' := hB5.trans (hu.below hB5.size (fun k e => e.1))
        have hrr : w'.ownsRow W.heap.size 4 1 (.slice (some ⟨W.heap.size + 3, 0, none⟩) H.length H.length) R.length (R.map .bool) := by
          have h5 : w5.ownsRow W.heap.size 4 1 (.slice (some ⟨W.heap.size + 3, 0, none⟩) H.length H.length) R.length (R.map .bool) := owns_on HQ.out.r.rrow (fun k e => by
            simp [Value.ownBlock] at e
            exact U5.out.block k (by have := (HQ.out.r.rrow.lt (W.heap.size + 3) rfl).2; omega) (by omega))
          refine owns_on h5 (fun k e => hu.block k (h5.lt k e).2 ?_)
          rintro ⟨_, ex⟩
          rcases h5.2 with ⟨h0, _⟩ | ⟨g', cap2, cur, h0, _, hgg, _⟩
          · cases h0
          · rw [h0] at e; cases e; rw [hgg] at ex; cases ex
        have hm := HQ.out.mm.need
        have hRl := HQ.out.mm.inv.len
        have hdn := HQ.out.mm.inv.done HR.out
        simp only at hm hRl hdn
        refine ⟨.tuple #[.slice (some ⟨W.heap.size + 3, 0, none⟩) H.length H.length, .int .i64 (m : Nat)], ?_, R, .slice (some ⟨W.heap.size + 3, 0, none⟩) H.length H.length, by rw [hm], hB6, hrr, hRl, hdn⟩
        clear hm hRl hdn hrr hB6 hB5
        simp [results, Tryz.results95, go_sem, c2, c3]
      · rw [List.concat_eq_append] at hOe
        subst hOe
        obtain ⟨gO, capO, hvo, hcO⟩ := own_slice (owns_base q.r.orow (b' := 0) (fun _ _ => Nat.zero_le _)) (by simp)
        have hll1 : (O' ++ [id]).length = O'.length + 1 := by simp
        simp only [hll1] at hvo hcO hbd2
        subst hvo
        have hor := q.r.orow
        simp only [hll1] at hor
        have hlast := hor.cellAt O'.length (by omega)
        clear hor
        rw [List.getElem?_map, List.getElem?_append_right (Nat.le_refl _), Nat.sub_self, List.getElem?_cons_zero, Option.map_some] at hlast
        have hbig : O'.length ≤ 10000000 := by omega
        have o1 : IntKind.i64.wrap (((O'.length + 1 : Nat) : Int) - 1) = O'.length := by rw [IntKind.wrap_i64]; omega
        have o2 : (0 : Int) ≤ O'.length := by omega
        have o3 : (O'.length : Int) < ((O'.length + 1 : Nat) : Int) := by omega
        have o4 : (0 : Int) < ((O'.length + 1 : Nat) : Int) := by omega
        have q5 := hid q
        clear q
        go_upto_region 16 with fail
        have q6 := q5.out.pop
        have hmu0 : Hid (muW (W.heap.size + 3) Wm.heap.size wr2 = 2 * unmarked R + (O' ++ [id]).length) := q5.out.mu rfl
        rw [hll1] at hmu0
        obtain ⟨c, hc⟩ := q5.out.live
        have hrid : Hid (Rch H ls.flatten id) := q5.out.mm.inv.sound id (q5.out.mm.inv.opn id (by simp))
        have hM6 : Hid (Marks W.heap.size (wr2.setCell ⟨Wm.heap.size, 0, none⟩ (.slice (some ⟨gO, 0, none⟩) O'.length capO)) ds) := by
          refine Marks.kept ?_ ds HM.out
          intro k _ hk
          refine Below.heap_setCell _ _ _ _ ?_
          rintro rfl
          have := q5.out.r.bo
          unfold Boxed at this
          rw [this] at hk; cases hk
        clear co fo hlast q5 HM o1 o2 o3 o4
        generalize World.setCell wr2 _ _ = W6 at *
        have hok := q6.lay.ok id c hc
        have hidl : id < H.length := (List.getElem?_eq_some_iff.1 hc).1
        obtain ⟨b, capc', hvc', hcell, _⟩ := q6.lay.at hidl
        have ch := q6.r.bh.cell
        have c1 := q6.lay.cell 1
        simp only [List.getElem?_cons_succ, List.getElem?_cons_zero] at c1
        rw [hvc'] at c1
        have k0 := hcell 0 (some c) hc (by omega)
        have k1 := hcell 1 (some c) hc (by omega)
        have k2 := hcell 2 (some c) hc (by omega)
        have k3 := hcell 3 (some c) hc (by omega)
        have k4 := hcell 4 (some c) hc (by omega)
        simp only [clO, Cl.cells, List.getElem?_cons_succ, List.getElem?_cons_zero, Nat.add_zero] at k0 k1 k2 k3 k4
        have j0 : (0 : Int) ≤ id := by omega
        have j1 : (id : Int) < H.length := by omega
        clear hcell
        go_upto_region 17 with fail
        have hB7 : Below W6.heap.size W6 (W6.alloc (.cells #[.int .i64 c.cl.kind, .bool c.cl.view, .int .u64 c.cl.base, .int .i64 c.cl.frm, .int .i64 c.cl.len] 183)) := (Below.refl _ W6).alloc (Nat.le_refl _) _
        have q7 := q6.below hB7
        have hM7 : Hid (Marks W.heap.size (W6.alloc (.cells #[.int .i64 c.cl.kind, .bool c.cl.view, .int .u64 c.cl.base, .int .i64 c.cl.frm, .int .i64 c.cl.len] 183)) ds) := Marks.kept (fun k _ hk => hB7.block k (Array.getElem?_eq_some_iff.1 hk).1) ds hM6.out
        have n0 := World.cell?_alloc_new W6 #[.int .i64 c.cl.kind, .bool c.cl.view, .int .u64 c.cl.base, .int .i64 c.cl.frm, .int .i64 c.cl.len] 183 0
        have n1 := World.cell?_alloc_new W6 #[.int .i64 c.cl.kind, .bool c.cl.view, .int .u64 c.cl.base, .int .i64 c.cl.frm, .int .i64 c.cl.len] 183 1
        have n2 := World.cell?_alloc_new W6 #[.int .i64 c.cl.kind, .bool c.cl.view, .int .u64 c.cl.base, .int .i64 c.cl.frm, .int .i64 c.cl.len] 183 2
        simp only [List.getElem?_toArray, List.getElem?_cons_succ, List.getElem?_cons_zero] at n0 n1 n2
        clear q6 hM6 hB7 k0 k1 k2 k3 k4 ch c1
        generalize World.alloc W6 _ = W7 at *
        generalize W6.heap.size = Bc at *
        have csh := shape_c c.cl.kind c.cl.view W7
        rw [shp_eq hok] at csh
        have plain : ∀ (c' : Hc), c = c' → c'.succ = [] → Rw W hb sb vc T H u h (W.heap.size + 1) (W.heap.size + 1 + 1) Wm.heap.size (Wm.heap.size + 1) (.slice (some ⟨W.heap.size + 3, 0, none⟩) H.length H.length) ls.flatten (fun _ => False) W7 (.slice (some ⟨gO, 0, none⟩) O'.length capO) (R, O', m) := by
          rintro c' rfl hs
          exact q7.close hc (fun w hw => by rw [hs] at hw; cases hw)
        cases c with
        | num n =>
          have q8 := hid (plain _ rfl rfl)
          have hmu1 : Hid (muW (W.heap.size + 3) Wm.heap.size W7 = 2 * unmarked R + O'.length) := q8.out.mu rfl
          clear plain q7
          go_wp2_with (go_at_call 153; (with_reducible refine csh.mono ?_); rintro e w' ⟨rfl, hw⟩; (have hw' := hw.symm); subst hw'; clear hw)
          exact ⟨⟨⟨rfl, rfl, rfl, rfl, rfl, rfl⟩, hM7.out, _, _, q8.out, by show 2 * unmarked R + O'.length ≤ _; omega, HR.out⟩, by rw [hmu0.out, hmu1.out]; omega⟩
        | text bt =>
          have q8 := hid (plain _ rfl rfl)
          have hmu1 : Hid (muW (W.heap.size + 3) Wm.heap.size W7 = 2 * unmarked R + O'.length) := q8.out.mu rfl
          clear plain q7
          go_wp2_with (go_at_call 153; (with_reducible refine csh.mono ?_); rintro e w' ⟨rfl, hw⟩; (have hw' := hw.symm); subst hw'; clear hw)
          exact ⟨⟨⟨rfl, rfl, rfl, rfl, rfl, rfl⟩, hM7.out, _, _, q8.out, by show 2 * unmarked R + O'.length ≤ _; omega, HR.out⟩, by rw [hmu0.out, hmu1.out]; omega⟩
        | buf k bt =>
          have q8 := hid (plain _ rfl rfl)
          have hmu1 : Hid (muW (W.heap.size + 3) Wm.heap.size W7 = 2 * unmarked R + O'.length) := q8.out.mu rfl
          clear plain q7
          go_wp2_with (go_at_call 153; (with_reducible refine csh.mono ?_); rintro e w' ⟨rfl, hw⟩; (have hw' := hw.symm); subst hw'; clear hw)
          exact ⟨⟨⟨rfl, rfl, rfl, rfl, rfl, rfl⟩, hM7.out, _, _, q8.out, by show 2 * unmarked R + O'.length ≤ _; omega, HR.out⟩, by rw [hmu0.out, hmu1.out]; omega⟩
        | view k bs p n =>
          have hroot : ∀ j, hit H bs = some j → Rch H ls.flatten j := fun j hj => Rch.step id j bs _ hrid.out hc (by simp [Hc.succ]) hj
          have ck := q7.mark (by show 2 * unmarked R + O'.length ≤ _; omega) bs hok.2.1 hroot
          obtain ⟨x1, x2, x3, x4⟩ := q7.mm.mark bs hroot
          have cm := q7.m.cell
          unfold markF at cm
          have Q7 := hid q7
          have X2 := hid x2
          have X3 := hid x3
          have X4 : Hid (2 * unmarked (markP H (R, O', m) bs).1 + (markP H (R, O', m) bs).2.1.length ≤ 2 * unmarked R + O'.length) := x4
          simp only [Hc.cl] at n2
          clear plain q7 x1 x2 x3 x4 hroot
          go_wp2_with (first | (go_at_call 153; (with_reducible refine csh.mono ?_); rintro e w' ⟨rfl, hw⟩; (have hw' := hw.symm); subst hw'; clear hw) | (go_at_call 161; (with_reducible refine ck.mono ?_); rintro e w9 ⟨rfl, vo9, q9, hU9, hn9⟩))
          have q10 := q9.close hc (fun w hw => by
            simp [Hc.succ] at hw
            subst hw
            exact X2.out)
          have hmu1 := q10.mu rfl
          exact ⟨⟨⟨rfl, rfl, rfl, rfl, rfl, rfl⟩, hM7.out.upd Q7.out.r hU9, _, _, q10, Nat.le_trans X4.out (by omega), fun w hw j hj => X3.out j (HR.out w hw j hj)⟩, by rw [hmu0.out, hmu1]; have := X4.out; omega⟩
        | row ws =>
          have cw := words_c W7 hb id
          have ch := q7.r.bh.cell
          have Q7 := hid q7
          clear plain q7
          go_wp2_with (first | (go_at_call 153; (with_reducible refine csh.mono ?_); rintro e w' ⟨rfl, hw⟩; (have hw' := hw.symm); subst hw'; clear hw) | (go_at_call 163; (with_reducible refine cw.mono ?_); rintro e w8 ⟨rfl, hw8⟩; (have hw' := hw8.symm); subst hw'; clear hw8))
          have hB8 : Below W7.heap.size W7 ((W7.alloc (.cells #[.pointer (some ⟨hb, 0, none⟩)] 25)).alloc (.cells #[.int .i64 id] 3)) := ((Below.refl _ W7).alloc (Nat.le_refl _) _).alloc (by simp) _
          have hz8 : ((W7.alloc (.cells #[.pointer (some ⟨hb, 0, none⟩)] 25)).alloc (.cells #[.int .i64 id] 3)).heap.size = W7.heap.size + 2 := by simp
          have b8h : Boxed ((W7.alloc (.cells #[.pointer (some ⟨hb, 0, none⟩)] 25)).alloc (.cells #[.int .i64 id] 3)) W7.heap.size 25 (.pointer (some ⟨hb, 0, none⟩)) := (Boxed.new W7 _ _).alloc _
          have b8i : Boxed ((W7.alloc (.cells #[.pointer (some ⟨hb, 0, none⟩)] 25)).alloc (.cells #[.int .i64 id] 3)) (W7.heap.size + 1) 3 (.int .i64 id) := by
            have := Boxed.new (W7.alloc (.cells #[.pointer (some ⟨hb, 0, none⟩)] 25)) 3 (.int .i64 id)
            rwa [World.size_alloc] at this
          have q8 := Q7.out.below hB8
          have t1 := Q7.out.r.br.lt
          have t2 := Q7.out.r.bn.lt
          have t3 := Q7.out.r.bo.lt
          have t4 := Q7.out.m.lt
          have t5 := (Q7.out.r.rrow.lt (W.heap.size + 3) rfl).2
          have t6 := (Q7.out.r.orow.lt gO rfl).2
          have t7 := Q7.out.bel.size
          clear csh cw ch n0 n1 n2
          generalize World.alloc (World.alloc W7 _) _ = W8 at *
          refine words_law (hb := hb) (sb := sb) (vc := vc) (T := T) (u := u) (h := h) ws hc rfl
            (fun i W' => ∃ vo s, Rw W hb sb vc T H u h (W.heap.size + 1) (W.heap.size + 1 + 1) Wm.heap.size (Wm.heap.size + 1) (.slice (some ⟨W.heap.size + 3, 0, none⟩) H.length H.length) ls.flatten (fun j => j = id) W' vo s ∧ 2 * unmarked s.1 + s.2.1.length ≤ 2 * unmarked R + O'.length ∧ (∀ w ∈ ws.take i, ∀ j, hit H w = some j → s.1[j]? = some true) ∧ (∀ j : Nat, R[j]? = some true → s.1[j]? = some true) ∧ (∀ k, vo.ownBlock = some k → k < W7.heap.size ∨ W8.heap.size + 2 ≤ k) ∧ (∀ k : Nat, W7.heap[k]? = some (.deferred (some [])) → W'.heap[k]? = some (.deferred (some []))) ∧ Boxed W' W7.heap.size 25 (.pointer (some ⟨hb, 0, none⟩)) ∧ Boxed W' (W7.heap.size + 1) 3 (.int .i64 id))
            (fun _ _ => False) ?hL ?hI ?hIx ⟨_, _, q8, Nat.le_refl _, fun w hw => absurd hw (by simp), fun j e => e, fun k e => .inl (by cases e; exact t6), fun k e => (hB8.block k (Array.getElem?_eq_some_iff.1 e).1).trans e, b8h, b8i⟩ 14 ?assign ?body ?done ?stop
          case hL =>
            rintro i W' ⟨vo, s, g1, g2, g3, g4, g5, g6, g7, g8⟩
            exact ⟨g1.lay, g7.cell, g8.cell⟩
          case hI =>
            rintro i Wa Wb ⟨vo, s, g1, g2, g3, g4, g5, g6, g7, g8⟩ hu
            refine ⟨vo, s, g1.far hu (by omega) (by omega) (by omega) (by omega) (by omega) ?_ ?_, g2, g3, g4, g5, ?_, box_of (hu.block _ g7.lt (by omega)) g7, box_of (hu.block _ g8.lt (by omega)) g8⟩
            · intro e; simp [Value.ownBlock] at e; omega
            · intro e
              have := g5 _ e
              omega
            · intro k hk
              have h1 := (Array.getElem?_eq_some_iff.1 hk).1
              exact (hu.block k (Array.getElem?_eq_some_iff.1 (g6 k hk)).1 (by omega)).trans (g6 k hk)
          case hIx => intro c Wa Wb hF; exact hF.elim
          case assign =>
            intro L x W' K hK
            gi_wp2_with (simp only [Oper.semAt]; go_simp)
            exact hK
          case body =>
            rintro L i hi W' hLe ⟨vo, s, g1, g2, g3, g4, g5, g6, g7, g8⟩ hs ⟨r, hr⟩
            simp only [wAct, List.setIfInBounds_toArray, List.set_cons_succ, List.set_cons_zero]
            have hroot : ∀ j, hit H ws[i] = some j → Rch H ls.flatten j := fun j hj => Rch.step id j ws[i] _ hrid.out hc (List.getElem_mem hi) hj
            have ck := g1.mark (by omega) ws[i] (hok.1 _ (List.getElem_mem hi)) hroot
            obtain ⟨x1, x2, x3, x4⟩ := g1.mm.mark ws[i] hroot
            have htk : ws.take (i + 1) = ws.take i ++ [ws[i]] := by rw [List.take_add_one, List.getElem?_eq_getElem hi]; rfl
            have cm := g1.m.cell
            unfold markF at cm
            have fin : Hid (∀ w9 vo9, Rw W hb sb vc T H u h (W.heap.size + 1) (W.heap.size + 1 + 1) Wm.heap.size (Wm.heap.size + 1) (.slice (some ⟨W.heap.size + 3, 0, none⟩) H.length H.length) ls.flatten (fun j => j = id) w9 vo9 (markP H s ws[i]) → Upd (RB (W.heap.size + 1 + 1) Wm.heap.size (.slice (some ⟨W.heap.size + 3, 0, none⟩) H.length H.length) vo) W' w9 → (∀ k, vo9.ownBlock = some k → vo.ownBlock = some k ∨ W'.heap.size ≤ k) → (w9.heap[L]? = W'.heap[L]? ∧ w9.heap[W8.heap.size]? = W'.heap[W8.heap.size]?) ∧ ∃ vo s, Rw W hb sb vc T H u h (W.heap.size + 1) (W.heap.size + 1 + 1) Wm.heap.size (Wm.heap.size + 1) (.slice (some ⟨W.heap.size + 3, 0, none⟩) H.length H.length) ls.flatten (fun j => j = id) w9 vo s ∧ 2 * unmarked s.1 + s.2.1.length ≤ 2 * unmarked R + O'.length ∧ (∀ w ∈ ws.take (i + 1), ∀ j, hit H w = some j → s.1[j]? = some true) ∧ (∀ j : Nat, R[j]? = some true → s.1[j]? = some true) ∧ (∀ k, vo.ownBlock = some k → k < W7.heap.size ∨ W8.heap.size + 2 ≤ k) ∧ (∀ k : Nat, W7.heap[k]? = some (.deferred (some [])) → w9.heap[k]? = some (.deferred (some []))) ∧ Boxed w9 W7.heap.size 25 (.pointer (some ⟨hb, 0, none⟩)) ∧ Boxed w9 (W7.heap.size + 1) 3 (.int .i64 id)) := by
              show ∀ w9 vo9, _
              intro w9 vo9 q9 hU9 hn9
              have nb : ∀ k, W7.heap.size ≤ k → k < W8.heap.size + 2 → ¬ RB (W.heap.size + 1 + 1) Wm.heap.size (.slice (some ⟨W.heap.size + 3, 0, none⟩) H.length H.length) vo k := by
                rintro k h1 h2 (e | e | e | e)
                · omega
                · omega
                · simp [Value.ownBlock] at e; omega
                · have := g5 k e; omega
              refine ⟨⟨hU9.block _ (by omega) (nb _ (by omega) (by omega)), hU9.block _ (by omega) (nb _ (by omega) (by omega))⟩, vo9, _, q9, Nat.le_trans x4 g2, ?_, fun j e => x3 j (g4 j e), ?_, ?_, box_of (hU9.block _ g7.lt (nb _ (by omega) (by omega))) g7, box_of (hU9.block _ g8.lt (nb _ (by omega) (by omega))) g8⟩
              · intro w hw j hj
                rw [htk] at hw
                rcases List.mem_append.1 hw with hw | hw
                · exact x3 j (g3 w hw j hj)
                · simp at hw; subst hw; exact x2 j hj
              · intro k e
                rcases hn9 k e with e | e
                · exact g5 k e
                · right; omega
              · intro k hk
                refine (hU9.block k (Array.getElem?_eq_some_iff.1 (g6 k hk)).1 ?_).trans (g6 k hk)
                intro hR
                obtain ⟨a, t, f, e⟩ := g1.r.cells hR
                rw [g6 k hk] at e; cases e
            clear x1 x2 x3 x4 htk hroot g1 g2 g3 g4 g5 g6 g7 g8 hr
            generalize ws[i] = wi at *
            gi_wp2_with (first | (simp only [Oper.semAt]; go_simp) | ((refine ⟨trivial, ?_⟩); gi_at_call 161; (refine (CallsIn.inRound L (callsIn_wide.2 ck)).mono ?_); rintro e w9 ⟨rfl, vo9, q9, hU9, hn9⟩))
            exact fin.out w9 vo9 q9 hU9 hn9
          case done =>
            rintro W' ⟨vo, s, g1, g2, g3, g4, g5, g6, g7, g8⟩ hD
            have q10 := g1.close hc (by
              intro w hw j hj
              rw [List.take_length] at g3
              exact g3 w hw j hj)
            have hmu1 := q10.mu rfl
            have hbd3 : 2 * unmarked s.1 + s.2.1.length ≤ 2 * H.length := by omega
            have hM9 : Marks W.heap.size W' ({ target := .collected W8.heap.size, args := #[] } :: ds) := by
              refine ⟨⟨_, rfl, by omega, hD, ?_⟩, Marks.kept (fun k _ hk => (g6 k hk).trans hk.symm) ds hM7.out⟩
              intro d hd e
              obtain ⟨r, h1, h2⟩ := Marks.lt ds hM7.out d hd
              rw [h1] at e
              injection e with e1 _
              injection e1 with e1
              omega
            have hlt9 : muW (W.heap.size + 3) Wm.heap.size W' < muW (W.heap.size + 3) Wm.heap.size wr2 := by rw [hmu0.out, hmu1]; omega
            have hr9 : ∀ w ∈ ls.flatten, ∀ j, hit H w = some j → s.1[j]? = some true := fun w hw j hj => g4 j (HR.out w hw j hj)
            exact ⟨⟨⟨rfl, rfl, rfl, rfl, rfl, rfl⟩, hM9, vo, s, q10, hbd3, hr9⟩, hlt9⟩
          case stop => intro c W' hF; exact hF.elim
end
end Go.Proofs.YtdncdddaobemaaaGreatDoor.W
/- Package heap: New, Reach; a heap and the blocks that are its own. -/
namespace Go.Proofs.YtdncdddaobemaaaGreatDoor.W
open Go.ChangeShapes Go.WideShapes Go.RowKit Go.Shelf
set_option linter.unusedVariables false
/-- a heap of u units at hb, whose cells are H, in blocks of S -/
def HSt (W : World) (S : Nat → Prop) (hb : Nat) (H : List (Option Hc)) (u : Nat) : Prop := ∃ sb vc T, HLay W hb sb vc T H u (sumH H) ∧ S hb ∧ (∀ k, vc.ownBlock = some k → S k) ∧ (∀ k, T k → S k) ∧ sumH H ≤ u
section
variable {W W' : World} {S : Nat → Prop} {hb : Nat} {H : List (Option Hc)} {u : Nat}
theorem HSt.on (h : HSt W S hb H u) (hs : W.heap.size ≤ W'.heap.size) (hk : ∀ k, S k → k < W.heap.size → W'.heap[k]? = W.heap[k]?) : HSt W' S hb H u := by
  obtain ⟨sb, vc, T, h1, h2, h3, h4, h5⟩ := h
  exact ⟨sb, vc, T, h1.kept hs (hk _ h2 h1.hlt) (fun k e => hk k (h3 k e) (h1.clt k e)) (fun k e => hk k (h4 k e) (h1.tlt k e)), h2, h3, h4, h5⟩
theorem HSt.below (h : HSt W S hb H u) (hb' : Below W.heap.size W W') : HSt W' S hb H u := h.on hb'.size (fun k _ hl => hb'.block k hl)
theorem HSt.mono {S' : Nat → Prop} (h : HSt W S hb H u) (hk : ∀ k, S k → S' k) : HSt W S' hb H u := by
  obtain ⟨sb, vc, T, h1, h2, h3, h4, h5⟩ := h
  exact ⟨sb, vc, T, h1, hk _ h2, fun k e => hk k (h3 k e), fun k e => hk k (h4 k e), h5⟩
/-- what is given by reach's answer -/
theorem needR_eq {R R' : List Bool} (h1 : R.length = H.length) (h2 : R'.length = H.length) (h : ∀ i : Nat, R[i]? = some true ↔ R'[i]? = some true) : R = R' := by
  apply List.ext_getElem?
  intro i
  by_cases hi : i < H.length
  · have a1 : R[i]? = some R[i] := List.getElem?_eq_getElem (by omega)
    have a2 : R'[i]? = some R'[i] := List.getElem?_eq_getElem (by omega)
    have := h i
    rw [a1, a2] at this
    rw [a1, a2]
    cases e1 : R[i] <;> cases e2 : R'[i] <;> simp_all
  · rw [List.getElem?_eq_none (by omega), List.getElem?_eq_none (by omega)]
end
theorem hnew_c (u : Nat) (hu : u ≤ 1048576) (W : World) : Calls Tryz.prog 4 #[.int .i64 u] W fun e w' => ∃ hb, e = .returned (.tuple #[.pointer (some ⟨hb, 0, none⟩), .int .i64 0]) ∧ Below W.heap.size W w' ∧ HSt w' (fun k => W.heap.size ≤ k ∧ k < w'.heap.size) hb [] u := by
  have u0 : ¬ (u : Int) < 0 := by omega
  have u1 : ¬ (u : Int) > 1048576 := by omega
  have cn := new_st W 8388608 1048577 (by omega) (by omega)
  go_enter Tryz.func4, Tryz.ntmps4
  go_wp2_with (go_at_call 10; (with_reducible refine cn.mono ?_); rintro e w1 ⟨rfl, hSt, hBl, hSz⟩; clear cn)
  go_ret2
  have hB2 : Below w1.heap.size w1 (w1.alloc (.cells #[.pointer (some ⟨W.heap.size, 0, none⟩), .slice none 0 0, .int .i64 u, .int .i64 0] 44)) := (Below.refl _ w1).alloc (Nat.le_refl _) _
  have hl : HLay (w1.alloc (.cells #[.pointer (some ⟨W.heap.size, 0, none⟩), .slice none 0 0, .int .i64 u, .int .i64 0] 44)) w1.heap.size W.heap.size (.slice none 0 0) (fun k => k = W.heap.size) [] u 0 := by
    refine ⟨World.alloc_heap_new w1 _, World.ownsRow_nil _ _ _ _, hSt.below hB2 ?_, ?_, ?_, ?_, ?_, Nat.zero_le _, hu, Nat.zero_le _⟩
    · intro k e; subst e; omega
    · intro k e; subst e; have := hB2.size; omega
    · show ¬ w1.heap.size = W.heap.size; omega
    · intro k e; cases e
    · intro i c e; simp at e
  refine ⟨w1.heap.size, by rw [hSz]; rfl, hBl.trans (hB2.mono hBl.size), W.heap.size, .slice none 0 0, fun k => k = W.heap.size, hl, ⟨by omega, by rw [World.size_alloc]; omega⟩, ?_, ?_, Nat.zero_le _⟩
  · intro k e; cases e
  · intro k e; subst e; exact ⟨Nat.le_refl _, by rw [World.size_alloc]; omega⟩
/-- which cells are reached, as a row of truths -/
noncomputable def rchB (H : List (Option Hc)) (ws : List Nat) : List Bool := (List.range H.length).map (fun i => @decide (Rch H ws i) (Classical.propDecidable _))
theorem rchB_len (H : List (Option Hc)) (ws : List Nat) : (rchB H ws).length = H.length := by simp [rchB]
theorem rchB_get (H : List (Option Hc)) (ws : List Nat) (i : Nat) : (rchB H ws)[i]? = some true ↔ Rch H ws i := by
  by_cases hi : i < H.length
  · unfold rchB
    rw [List.getElem?_map, List.getElem?_range hi]
    simp
  · rw [List.getElem?_eq_none (by rw [rchB_len]; omega)]
    refine ⟨fun h => (by cases h), fun h => ?_⟩
    obtain ⟨c, hc⟩ := h.live
    exact absurd (List.getElem?_eq_some_iff.1 hc).1 hi
/-- what the cells that are reached need -/
noncomputable def reachN (H : List (Option Hc)) (ws : List Nat) : Nat := needR H (rchB H ws)
section
variable {W : World} {hb sb : Nat} {vc : Value} {T : Nat → Prop} {H : List (Option Hc)} {u h : Nat}
theorem reach_b (g : HLay W hb sb vc T H u h) (v : Value) (ls : List (List Nat)) (hls : ListsAt W v ls) (hsum : sumH H ≤ 100000000) :
    Calls Tryz.prog 95 #[.pointer (some ⟨hb, 0, none⟩), v] W fun e w' => ∃ vr, e = .returned (.tuple #[vr, .int .i64 (reachN H ls.flatten : Nat)]) ∧ Below W.heap.size W w' ∧ w'.ownsRow W.heap.size 4 1 vr H.length ((rchB H ls.flatten).map .bool) := by
  refine (reach_c g v ls hls hsum).mono ?_
  rintro e w' ⟨R, vr, rfl, hB, ho, hl, hR⟩
  have e : R = rchB H ls.flatten := needR_eq hl (rchB_len H _) (fun i => (hR i).trans (rchB_get H _ i).symm)
  subst e
  rw [rchB_len] at ho
  exact ⟨vr, rfl, hB, ho⟩
end
end Go.Proofs.YtdncdddaobemaaaGreatDoor.W
/- Package heap: keep. -/
namespace Go.Proofs.YtdncdddaobemaaaGreatDoor.W
open Go.ChangeShapes Go.WideShapes Go.RowKit Go.Shelf
set_option linter.unusedVariables false
/-- the cells, those below k that are not of R let go -/
def stepH (H : List (Option Hc)) (R : List Bool) : Nat → List (Option Hc)
  | 0 => H
  | k + 1 => if R.getD k false = true then stepH H R k else (stepH H R k).set k none
theorem stepH_len (H : List (Option Hc)) (R : List Bool) (k : Nat) : (stepH H R k).length = H.length := by
  induction k with
  | zero => rfl
  | succ k ih => unfold stepH; split <;> simp [ih]
theorem stepH_above (H : List (Option Hc)) (R : List Bool) (k i : Nat) (h : k ≤ i) : (stepH H R k)[i]? = H[i]? := by
  induction k with
  | zero => rfl
  | succ k ih =>
    unfold stepH
    split
    · exact ih (by omega)
    · rw [List.getElem?_set_ne (by omega)]; exact ih (by omega)
theorem stepH_dead (H : List (Option Hc)) (R : List Bool) (k : Nat) (h : H[k]? = some none) : stepH H R (k + 1) = stepH H R k := by
  show (if R.getD k false = true then stepH H R k else (stepH H R k).set k none) = _
  split
  · rfl
  · have e := stepH_above H R k k (Nat.le_refl _)
    rw [h] at e
    apply List.ext_getElem?
    intro i
    by_cases hi : i = k
    · subst hi
      rw [List.getElem?_set_self (List.getElem?_eq_some_iff.1 e).1, e]
    · rw [List.getElem?_set_ne (Ne.symm hi)]
theorem live_law {g : Operand} {pt : Nat} {assign body : Code} {Q : Exit → Act → World → Prop} {a : Act} {W0 : World} {Bh hb n : Nat} {P : Nat → Bool} (hg : a.eval g = .func (.func 203) #[] #[.pointer (some ⟨Bh, 0, none⟩)])
    (I : Nat → World → Prop) (Ix : Code → World → Prop) (hL : ∀ i W, I i W → W.cell? ⟨Bh, 0, none⟩ = some (.pointer (some ⟨hb, 0, none⟩)) ∧ ∃ sb vc T H u h, HLay W hb sb vc T H u h ∧ H.length = n ∧ ∀ k, i ≤ k → k < n → ((H[k]?).getD none).isSome = P k)
    (hI : ∀ i W W', I i W → Upd (fun k => k = W0.heap.size + 1) W W' → I i W')
    (hIx : ∀ c W W', Ix c W → Upd (fun k => k = W0.heap.size + 1) W W' → Ix c W') (h0 : I 0 W0) (hskip : ∀ i W, i < n → P i = false → I i W → I (i + 1) W) (q : Nat)
    (hassign : ∀ (L x : Nat) (W : World) (K : Act → World → Prop), K (ringAct pt a q x) W → assign.wpIn (Fence.wide.inRound L) 7 Tryz.prog (Exit.then K (fun _ _ _ => False)) { tmps := a.tmps.setIfInBounds pt (.int .i64 (x : Int)), defers := [] } W)
    (hbody : ∀ (L : Nat) i (hi : i < n) W, P i = true → L = W0.heap.size + 1 → I i W → W0.heap.size + 2 ≤ W.heap.size → (∃ r, W.heap[L]? = some (.loop r)) → body.wpIn (Fence.wide.inRound L) 7 Tryz.prog (rndWay L W0.heap.size W (I (i + 1)) Ix) (ringAct pt a q i) W)
    (hdone : ∀ W, I n W → W.heap[W0.heap.size]? = some (.deferred (some [])) → Q .normal { a with defers := { target := .collected W0.heap.size, args := #[] } :: a.defers } W)
    (hstop : ∀ c W, Ix c W → W.heap[W0.heap.size]? = some (.deferred (some [])) → c.wp Tryz.prog Q { a with defers := { target := .collected W0.heap.size, args := #[] } :: a.defers } W) :
    (Code.rangeFunc g #[pt] assign body).wp Tryz.prog Q a W0 :=
  iterP_law (live_iter Bh hb n P) eg_live hg I Ix hL hI hIx h0 hskip (fun i => ringAct pt a q i) (fun i => rfl) (fun L i W K hK => by rw [zip_one]; exact hassign L i W K hK) hbody hdone hstop
section
variable {W W' : World} {hb sb : Nat} {vc : Value} {T : Nat → Prop} {H : List (Option Hc)} {u h : Nat}
theorem HLay.held (g : HLay W hb sb vc T H u h) (m : Nat) (hm : m ≤ 1048576) : HLay (W.setCell ⟨hb, 3, none⟩ (.int .i64 m)) hb sb vc T H u m ∧ Upd (fun x => x = hb) W (W.setCell ⟨hb, 3, none⟩ (.int .i64 m)) := by
  have hU : Upd (fun x => x = hb) W (W.setCell ⟨hb, 3, none⟩ (.int .i64 m)) := (Upd.refl (fun x => x = hb) W).setCell (p := ⟨hb, 3, none⟩) (.inl rfl) _
  refine ⟨⟨?_, ?_, ?_, ?_, g.thb, g.tvc, g.ok, g.len, g.u1, hm⟩, hU⟩
  · have := heap_set (b := hb) g.obj 3 (.int .i64 (m : Nat))
    exact this
  · refine owns_on g.own (fun k e => hU.block k (g.clt k e) ?_)
    rintro rfl
    exact own_ne g.own g.obj (by decide) e.symm
  · refine g.st.on (fun k e => hU.block k (g.tlt k e) ?_)
    rintro rfl
    exact g.thb e
  · intro k e
    have := hU.size
    have := g.tlt k e
    omega
set_option maxRecDepth 20000 in
set_option maxHeartbeats 1000000 in
theorem keep_c (g : HLay W hb sb vc T H u h) (vr : Value) (R : List Bool) (hRl : R.length = H.length) (B0 : Nat) (ho : W.ownsRow B0 4 1 vr R.length (R.map .bool)) (l : Low B0 hb vc T) (hB0 : B0 ≤ W.heap.size) (need : Nat) (hn : need ≤ 1048576) :
    Calls Tryz.prog 94 #[.pointer (some ⟨hb, 0, none⟩), vr, .int .i64 need] W fun e w' => e = .returned (.tuple #[]) ∧ Upd (fun x => T x ∨ x = hb ∨ vc.ownBlock = some x) W w' ∧ ∃ T', HLay w' hb sb vc T' (stepH H R H.length) u need ∧ ∀ k, T' k → T k ∨ W.heap.size ≤ k := by
  have hlt := g.hlt
  obtain ⟨ov, capv, hvr⟩ := slice_of (owns_base ho (b' := 0) (fun _ _ => Nat.zero_le _))
  subst hvr
  have cv := live_c
  refine (callsIn_wide (n := 9)).1 ?_
  refine callsIn_of_wp_marks Tryz.func94 rfl trivial ?_ rfl
  refine wpIn_wide.2 ?_
  simp only [Tryz.ntmps94, List.size_toArray, List.length_cons, List.length_nil, Nat.reduceAdd, Nat.reduceSub, Array.replicate_succ, Array.replicate_zero, List.push_toArray, List.append_toArray, List.nil_append, List.cons_append]
  go_wp2
  refine wp_scope_straight ?_
  go_wp2_with (first | (refine wp_label ?_) | (go_at_call 159; (with_reducible refine (cv _ _).mono ?_); rintro e w8 ⟨rfl, hw8⟩; (have hw' := hw8.symm); subst hw'; clear hw8))
  have b1 : Boxed (((W.alloc (.cells #[.pointer (some ⟨hb, 0, none⟩)] 25)).alloc (.cells #[.slice ov H.length capv] 137)).alloc (.cells #[.pointer (some ⟨hb, 0, none⟩)] 25)) W.heap.size 25 (.pointer (some ⟨hb, 0, none⟩)) := ((Boxed.new W _ _).alloc _).alloc _
  have b2 : Boxed (((W.alloc (.cells #[.pointer (some ⟨hb, 0, none⟩)] 25)).alloc (.cells #[.slice ov H.length capv] 137)).alloc (.cells #[.pointer (some ⟨hb, 0, none⟩)] 25)) (W.heap.size + 1) 137 (.slice ov H.length capv) := by
    have := (Boxed.new (W.alloc (.cells #[.pointer (some ⟨hb, 0, none⟩)] 25)) 137 (.slice ov H.length capv)).alloc (.cells #[.pointer (some ⟨hb, 0, none⟩)] 25)
    rwa [World.size_alloc] at this
  have b3 : Boxed (((W.alloc (.cells #[.pointer (some ⟨hb, 0, none⟩)] 25)).alloc (.cells #[.slice ov H.length capv] 137)).alloc (.cells #[.pointer (some ⟨hb, 0, none⟩)] 25)) (W.heap.size + 1 + 1) 25 (.pointer (some ⟨hb, 0, none⟩)) := by
    have := Boxed.new ((W.alloc (.cells #[.pointer (some ⟨hb, 0, none⟩)] 25)).alloc (.cells #[.slice ov H.length capv] 137)) 25 (.pointer (some ⟨hb, 0, none⟩))
    rwa [World.size_alloc, World.size_alloc] at this
  have hB3 : Below W.heap.size W (((W.alloc (.cells #[.pointer (some ⟨hb, 0, none⟩)] 25)).alloc (.cells #[.slice ov H.length capv] 137)).alloc (.cells #[.pointer (some ⟨hb, 0, none⟩)] 25)) := (((Below.refl _ W).alloc (Nat.le_refl _) _).alloc (by simp) _).alloc (by simp; omega) _
  have hz3 : (((W.alloc (.cells #[.pointer (some ⟨hb, 0, none⟩)] 25)).alloc (.cells #[.slice ov H.length capv] 137)).alloc (.cells #[.pointer (some ⟨hb, 0, none⟩)] 25)).heap.size = W.heap.size + 3 := by simp
  generalize World.alloc (World.alloc (World.alloc W _) _) _ = W3 at *
  have g3 := g.below hB3
  have ho3 : W3.ownsRow B0 4 1 (.slice ov R.length capv) R.length (R.map .bool) := owns_on ho (fun k e => hB3.block k (ho.lt k e).2)
  rw [hRl] at ho3
  have hvlt : ∀ k, (Value.slice ov H.length capv).ownBlock = some k → B0 ≤ k ∧ k < W.heap.size := fun k e => ho.lt k (by rw [hRl]; exact e)
  have hcv := l.vc
  have hst := l.st
  have hhb := l.hb
  refine live_law (hb := hb) (n := H.length) (P := fun k => ((H[k]?).getD none).isSome) rfl
    (fun i W' => ∃ T', HLay W' hb sb vc T' (stepH H R i) u h ∧ (∀ x, T' x → T x ∨ W.heap.size + 5 ≤ x) ∧ Boxed W' W.heap.size 25 (.pointer (some ⟨hb, 0, none⟩)) ∧ Boxed W' (W.heap.size + 1) 137 (.slice ov H.length capv) ∧ Boxed W' (W.heap.size + 1 + 1) 25 (.pointer (some ⟨hb, 0, none⟩)) ∧ W'.ownsRow B0 4 1 (.slice ov H.length capv) H.length (R.map .bool) ∧ Upd (fun x => T x ∨ x = hb ∨ vc.ownBlock = some x) W W')
    (fun _ _ => False) ?hL ?hI ?hIx ⟨T, g3, fun x e => .inl e, b1, b2, b3, ho3, Upd.of_below hB3⟩ ?skip 6 ?assign ?body ?done ?stop
  case hL =>
    rintro i W' ⟨T', g1, _, _, _, g5, _, _⟩
    exact ⟨g5.cell, sb, vc, T', _, u, h, g1, stepH_len _ _ _, fun k hk _ => by rw [stepH_above _ _ _ _ hk]⟩
  case hI =>
    rintro i Wa Wb ⟨T', g1, g2, g3, g4, g5, g6, g7⟩ hu
    refine ⟨T', g1.upd hu (by omega) (fun k e => by have := hcv k e; omega) (fun k e => by rcases g2 k e with e | e; · have := hst k e; omega
                                                                                           · omega), g2, box_of (hu.block _ g3.lt (by omega)) g3, box_of (hu.block _ g4.lt (by omega)) g4, box_of (hu.block _ g5.lt (by omega)) g5, owns_on g6 (fun k e => hu.block k (g6.lt k e).2 (by have := hvlt k e; omega)), ⟨hu.os.trans g7.os, hu.tape.trans g7.tape, hu.output.trans g7.output, Nat.le_trans g7.size hu.size, fun k hk hn => (hu.block k (Nat.lt_of_lt_of_le hk g7.size) (by omega)).trans (g7.block k hk hn)⟩⟩
  case hIx => intro c Wa Wb hF; exact hF.elim
  case skip =>
    rintro i Wa hi hP ⟨T', g1, g2⟩
    have hd : H[i]? = some none := by
      rw [List.getElem?_eq_getElem hi] at hP ⊢
      simp only [Option.getD_some] at hP
      cases e : H[i] with
      | none => rfl
      | some c => rw [e] at hP; cases hP
    rw [← stepH_dead H R i hd] at g1
    exact ⟨T', g1, g2⟩
  case assign =>
    intro L x W' K hK
    gi_wp2_with (simp only [Oper.semAt]; go_simp)
    exact hK
  case body =>
    rintro L i hi W' hP hLe ⟨T', g1, g2, g3, g4, g5, g6, g7⟩ hs ⟨r, hr⟩
    simp only [ringAct, List.setIfInBounds_toArray, List.set_cons_succ, List.set_cons_zero]
    obtain ⟨gR, capR, hv, _⟩ := own_slice (owns_base g6 (b' := 0) (fun _ _ => Nat.zero_le _)) (by omega)
    cases hv
    have hcR := g6.cellAt i (by omega)
    have hRi : R[i]? = some R[i] := List.getElem?_eq_getElem (by omega)
    rw [List.getElem?_map, hRi, Option.map_some] at hcR
    have cr := g4.cell
    have ch := g3.cell
    have i0 : (0 : Int) ≤ i := by omega
    have i1 : (i : Int) < H.length := by omega
    have hgd : R.getD i false = R[i] := by rw [List.getD_eq_getElem?_getD, hRi]; rfl
    cases hb1 : R[i] with
    | true =>
      have hst1 : stepH H R (i + 1) = stepH H R i := by
        show (if R.getD i false = true then stepH H R i else (stepH H R i).set i none) = _
        rw [hgd, hb1, if_pos rfl]
      rw [hb1] at hcR
      have fin : Hid (∃ T', HLay W' hb sb vc T' (stepH H R (i + 1)) u h ∧ (∀ x, T' x → T x ∨ W.heap.size + 5 ≤ x) ∧ Boxed W' W.heap.size 25 (.pointer (some ⟨hb, 0, none⟩)) ∧ Boxed W' (W.heap.size + 1) 137 (.slice (some ⟨gR, 0, none⟩) H.length capv) ∧ Boxed W' (W.heap.size + 1 + 1) 25 (.pointer (some ⟨hb, 0, none⟩)) ∧ W'.ownsRow B0 4 1 (.slice (some ⟨gR, 0, none⟩) H.length capv) H.length (R.map .bool) ∧ Upd (fun x => T x ∨ x = hb ∨ vc.ownBlock = some x) W W') := ⟨T', by rw [hst1]; exact g1, g2, g3, g4, g5, g6, g7⟩
      clear g1 g2 g3 g4 g5 g6 g7 hr hst1 b1 b2 b3 ho3 hvlt
      gi_wp2_with (simp only [Oper.semAt]; go_simp)
      exact ⟨⟨rfl, rfl⟩, fin.out⟩
    | false =>
      have hst1 : stepH H R (i + 1) = (stepH H R i).set i none := by
        show (if R.getD i false = true then stepH H R i else (stepH H R i).set i none) = _
        rw [hgd, hb1, if_neg (by decide)]
      rw [hb1] at hcR
      obtain ⟨c, hc⟩ : ∃ c, H[i]? = some (some c) := by
        rw [List.getElem?_eq_getElem hi] at hP ⊢
        simp only [Option.getD_some] at hP
        cases e : H[i] with
        | none => rw [e] at hP; cases hP
        | some c => exact ⟨c, rfl⟩
      have hci : (stepH H R i)[i]? = some (some c) := by rw [stepH_above _ _ _ _ (Nat.le_refl _)]; exact hc
      have cg := give_st g1.st i c.bytes (hA_some hci)
      have c0 := g1.cell 0
      simp only [List.getElem?_cons_zero] at c0
      have hil : i < (stepH H R i).length := by rw [stepH_len]; exact hi
      obtain ⟨b, cap, hvc, hcell, hth⟩ := g1.at hil
      rw [stepH_len] at hvc
      have c1 := g1.cell 1
      simp only [List.getElem?_cons_succ, List.getElem?_cons_zero] at c1
      rw [hvc] at c1
      have hbo : vc.ownBlock = some b := by rw [hvc]; rfl
      have hbT := g1.tvc b hbo
      have hbl := hcv b hbo
      have nT : ∀ x, W.heap.size ≤ x → x < W.heap.size + 5 → ¬ T' x := by
        intro x h1 h2 e
        rcases g2 x e with e | e
        · have := hst x e; omega
        · omega
      have nR : ¬ T' gR := by
        intro e
        have h1 := hvlt gR rfl
        rcases g2 gR e with e | e
        · have := hst gR e; omega
        · omega
      have F : ∀ w2, Upd T' W' w2 → St w2 (Nx T' W' w2) sb ((hA (stepH H R i)).set i none) 8388608 1048577 → w2.cell? ⟨W.heap.size, 0, none⟩ = some (.pointer (some ⟨hb, 0, none⟩)) ∧ w2.cell? ⟨hb, 1, none⟩ = some (.slice (some ⟨b, 0, none⟩) H.length cap) ∧ (∃ v0 v1 v2 v3 v4, w2.cell? ⟨b, i * 5, none⟩ = some v0 ∧ w2.cell? ⟨b, i * 5 + 1, none⟩ = some v1 ∧ w2.cell? ⟨b, i * 5 + 2, none⟩ = some v2 ∧ w2.cell? ⟨b, i * 5 + 3, none⟩ = some v3 ∧ w2.cell? ⟨b, i * 5 + 4, none⟩ = some v4) ∧ (w2.frozen? ⟨b, i * 5, none⟩ = false ∧ w2.frozen? ⟨b, i * 5 + 1, none⟩ = false ∧ w2.frozen? ⟨b, i * 5 + 2, none⟩ = false ∧ w2.frozen? ⟨b, i * 5 + 3, none⟩ = false ∧ w2.frozen? ⟨b, i * 5 + 4, none⟩ = false) ∧
          Hid (((((((w2.setCell ⟨b, i * 5, none⟩ (.int .i64 0)).setCell ⟨b, i * 5 + 1, none⟩ (.bool false)).setCell ⟨b, i * 5 + 2, none⟩ (.int .u64 0)).setCell ⟨b, i * 5 + 3, none⟩ (.int .i64 0)).setCell ⟨b, i * 5 + 4, none⟩ (.int .i64 0)).heap[L]? = W'.heap[L]? ∧ (((((w2.setCell ⟨b, i * 5, none⟩ (.int .i64 0)).setCell ⟨b, i * 5 + 1, none⟩ (.bool false)).setCell ⟨b, i * 5 + 2, none⟩ (.int .u64 0)).setCell ⟨b, i * 5 + 3, none⟩ (.int .i64 0)).setCell ⟨b, i * 5 + 4, none⟩ (.int .i64 0)).heap[W3.heap.size]? = W'.heap[W3.heap.size]?) ∧ ∃ T', HLay (((((w2.setCell ⟨b, i * 5, none⟩ (.int .i64 0)).setCell ⟨b, i * 5 + 1, none⟩ (.bool false)).setCell ⟨b, i * 5 + 2, none⟩ (.int .u64 0)).setCell ⟨b, i * 5 + 3, none⟩ (.int .i64 0)).setCell ⟨b, i * 5 + 4, none⟩ (.int .i64 0)) hb sb vc T' (stepH H R (i + 1)) u h ∧ (∀ x, T' x → T x ∨ W.heap.size + 5 ≤ x) ∧ Boxed (((((w2.setCell ⟨b, i * 5, none⟩ (.int .i64 0)).setCell ⟨b, i * 5 + 1, none⟩ (.bool false)).setCell ⟨b, i * 5 + 2, none⟩ (.int .u64 0)).setCell ⟨b, i * 5 + 3, none⟩ (.int .i64 0)).setCell ⟨b, i * 5 + 4, none⟩ (.int .i64 0)) W.heap.size 25 (.pointer (some ⟨hb, 0, none⟩)) ∧ Boxed (((((w2.setCell ⟨b, i * 5, none⟩ (.int .i64 0)).setCell ⟨b, i * 5 + 1, none⟩ (.bool false)).setCell ⟨b, i * 5 + 2, none⟩ (.int .u64 0)).setCell ⟨b, i * 5 + 3, none⟩ (.int .i64 0)).setCell ⟨b, i * 5 + 4, none⟩ (.int .i64 0)) (W.heap.size + 1) 137 (.slice (some ⟨gR, 0, none⟩) H.length capv) ∧ Boxed (((((w2.setCell ⟨b, i * 5, none⟩ (.int .i64 0)).setCell ⟨b, i * 5 + 1, none⟩ (.bool false)).setCell ⟨b, i * 5 + 2, none⟩ (.int .u64 0)).setCell ⟨b, i * 5 + 3, none⟩ (.int .i64 0)).setCell ⟨b, i * 5 + 4, none⟩ (.int .i64 0)) (W.heap.size + 1 + 1) 25 (.pointer (some ⟨hb, 0, none⟩)) ∧ (((((w2.setCell ⟨b, i * 5, none⟩ (.int .i64 0)).setCell ⟨b, i * 5 + 1, none⟩ (.bool false)).setCell ⟨b, i * 5 + 2, none⟩ (.int .u64 0)).setCell ⟨b, i * 5 + 3, none⟩ (.int .i64 0)).setCell ⟨b, i * 5 + 4, none⟩ (.int .i64 0)).ownsRow B0 4 1 (.slice (some ⟨gR, 0, none⟩) H.length capv) H.length (R.map .bool) ∧ Upd (fun x => T x ∨ x = hb ∨ vc.ownBlock = some x) W (((((w2.setCell ⟨b, i * 5, none⟩ (.int .i64 0)).setCell ⟨b, i * 5 + 1, none⟩ (.bool false)).setCell ⟨b, i * 5 + 2, none⟩ (.int .u64 0)).setCell ⟨b, i * 5 + 3, none⟩ (.int .i64 0)).setCell ⟨b, i * 5 + 4, none⟩ (.int .i64 0))) := by
        intro w2 hU2 hS2
        have e0 : w2.heap[W.heap.size]? = W'.heap[W.heap.size]? := hU2.block _ g3.lt (nT _ (by omega) (by omega))
        have e1 : w2.heap[hb]? = W'.heap[hb]? := hU2.block _ g1.hlt g1.thb
        have e2 : w2.heap[b]? = W'.heap[b]? := hU2.block _ (g1.clt b hbo) hbT
        have cc : ∀ j, j < 5 → w2.cell? ⟨b, i * 5 + j, none⟩ = (clO (some c)).cells[j]? := fun j hj => by rw [World.cell?_of_block e2]; exact hcell j _ hci hj
        have ff : ∀ j, w2.frozen? ⟨b, j, none⟩ = false := fun j => by rw [World.frozen?_of_block e2]; exact hth j
        refine ⟨by rw [World.cell?_of_block e0]; exact ch, by rw [World.cell?_of_block e1]; exact c1, ⟨_, _, _, _, _, cc 0 (by omega), cc 1 (by omega), cc 2 (by omega), cc 3 (by omega), cc 4 (by omega)⟩, ⟨ff _, ff _, ff _, ff _, ff _⟩, ?_⟩
        obtain ⟨q1, q2⟩ := g1.gave i hil hU2 hS2 (b := b) (cap := cap) (by rw [stepH_len]; exact hvc)
        have hk : ∀ x, W.heap.size ≤ x → x < W.heap.size + 5 → x < W'.heap.size → (((((w2.setCell ⟨b, i * 5, none⟩ (.int .i64 0)).setCell ⟨b, i * 5 + 1, none⟩ (.bool false)).setCell ⟨b, i * 5 + 2, none⟩ (.int .u64 0)).setCell ⟨b, i * 5 + 3, none⟩ (.int .i64 0)).setCell ⟨b, i * 5 + 4, none⟩ (.int .i64 0)).heap[x]? = W'.heap[x]? := by
          intro x h1 h2 h3
          refine q2.block x h3 ?_
          rintro (e | e)
          · exact nT x h1 h2 e
          · omega
        show _ ∧ _
        refine ⟨⟨hk L (by omega) (by omega) (by omega), hk _ (by omega) (by omega) (by omega)⟩, Nx T' W' w2, by rw [hst1]; exact q1, ?_, box_of (hk _ (by omega) (by omega) g3.lt) g3, box_of (hk _ (by omega) (by omega) g4.lt) g4, box_of (hk _ (by omega) (by omega) g5.lt) g5, owns_on g6 (fun k e => q2.block k (g6.lt k e).2 ?_), ?_⟩
        · rintro x (e | e)
          · exact g2 x e
          · right; omega
        · cases e
          rintro (e | e)
          · exact nR e
          · have h1 := (hvlt gR rfl).1
            have h2 : gR = b := e
            omega
        · refine g7.trans (q2.mono ?_)
          rintro x (e | rfl)
          · rcases g2 x e with e | e
            · exact .inl (.inl e)
            · have := g1.tlt x (by assumption)
              exact .inr ⟨by omega, this⟩
          · exact .inl (.inr (.inr hbo))
      clear g1 g2 g3 g4 g5 g6 g7 hr hst1 b1 b2 b3 ho3 hvlt hcell hth nT nR hci hc
      gi_wp2_with (first | (simp only [Oper.semAt]; go_simp) | ((refine ⟨trivial, ?_⟩); gi_at_call 160; (refine (CallsIn.inRound L (callsIn_wide.2 cg)).mono ?_); rintro e w2 ⟨rfl, hU2, hS2⟩; (obtain ⟨f1, f2, ⟨v0, v1, v2, v3, v4, f30, f31, f32, f33, f34⟩, ⟨f40, f41, f42, f43, f44⟩, f5⟩ := F w2 hU2 hS2); clear F cg hU2 hS2))
      exact f5.out
  case done =>
    rintro W' ⟨T', g1, g2, g3, g4, g5, g6, g7⟩ hD
    have ch := g3.cell
    have c3 := g1.cell 3
    simp only [List.getElem?_cons_succ, List.getElem?_cons_zero] at c3
    have th := g1.thaw 3
    obtain ⟨q1, q2⟩ := g1.held need hn
    have hsz : W.heap.size ≤ W'.heap.size := g7.size
    have hD2 : (W'.setCell ⟨hb, 3, none⟩ (.int .i64 need)).heap[W3.heap.size]? = some (.deferred (some [])) := by rw [Below.heap_setCell _ _ _ _ (by show W3.heap.size ≠ hb; omega)]; exact hD
    have Q1 := hid q1
    have U7 := hid (g7.trans' (q2.mono (fun x e => .inr (.inl e))))
    have G2 := hid g2
    clear q1 q2 g1 g2 g3 g4 g5 g6 g7
    go_wp2
    refine ⟨by simp, .inl ⟨_, _, rfl, run_takeDeferred hD2, ?_⟩⟩
    refine ⟨_, results_none rfl _ _ _, rfl, U7.out.putObj (.inr ⟨by omega, (Array.getElem?_eq_some_iff.1 hD2).1⟩) _, T', ?_, ?_⟩
    · refine Q1.out.upd (upd_put (S := fun k => k = W3.heap.size) rfl _) (by omega) (fun k e => by have := hcv k e; omega) ?_
      intro k e
      rcases G2.out k e with e | e
      · have := hst k e; omega
      · omega
    · intro k e
      rcases G2.out k e with e | e
      · exact .inl e
      · right; omega
  case stop => intro c W' hF; exact hF.elim
end
end Go.Proofs.YtdncdddaobemaaaGreatDoor.W
/- Package heap: Collect. -/
namespace Go.Proofs.YtdncdddaobemaaaGreatDoor.W
open Go.ChangeShapes Go.WideShapes Go.RowKit Go.Shelf
set_option linter.unusedVariables false
/-- the cells of R -/
def zipK : List (Option Hc) → List Bool → List (Option Hc)
  | c :: H, b :: R => (if b = true then c else none) :: zipK H R
  | _, _ => []
theorem zipK_sum (H : List (Option Hc)) (R : List Bool) : sumH (zipK H R) = needR H R := by
  induction H generalizing R with
  | nil => cases R <;> rfl
  | cons c H ih =>
    cases R with
    | nil => rfl
    | cons b R =>
      simp only [zipK, needR, sumH_cons, ih]
      cases b
      · simp [needO]
      · simp
theorem zipK_get (H : List (Option Hc)) (R : List Bool) (hl : R.length = H.length) (i : Nat) (hi : i < H.length) : (zipK H R)[i]? = if R.getD i false = true then H[i]? else some none := by
  induction H generalizing R i with
  | nil => simp at hi
  | cons c H ih =>
    cases R with
    | nil => simp at hl
    | cons b R =>
      cases i with
      | zero => cases b <;> simp [zipK]
      | succ i =>
        have := ih R (by simpa using hl) i (by simpa using hi)
        simpa [zipK] using this
theorem zipK_len (H : List (Option Hc)) (R : List Bool) (hl : R.length = H.length) : (zipK H R).length = H.length := by
  induction H generalizing R with
  | nil => cases R <;> rfl
  | cons c H ih =>
    cases R with
    | nil => simp at hl
    | cons b R => simp [zipK, ih R (by simpa using hl)]
theorem stepH_below (H : List (Option Hc)) (R : List Bool) (k i : Nat) (h : i < k) (hi : i < H.length) : (stepH H R k)[i]? = if R.getD i false = true then H[i]? else some none := by
  induction k with
  | zero => omega
  | succ k ih =>
    show (if R.getD k false = true then stepH H R k else (stepH H R k).set k none)[i]? = _
    by_cases e : i = k
    · subst e
      by_cases hr : R.getD i false = true
      · rw [if_pos hr, if_pos hr]; exact stepH_above H R i i (Nat.le_refl _)
      · rw [if_neg hr, if_neg hr, List.getElem?_set_self (by rw [stepH_len]; exact hi)]
    · have := ih (by omega)
      split
      · exact this
      · rw [List.getElem?_set_ne (by omega)]; exact this
theorem stepH_zip (H : List (Option Hc)) (R : List Bool) (hl : R.length = H.length) : stepH H R H.length = zipK H R := by
  apply List.ext_getElem?
  intro i
  by_cases hi : i < H.length
  · rw [stepH_below H R _ i hi hi, zipK_get H R hl i hi]
  · rw [List.getElem?_eq_none (by rw [stepH_len]; omega), List.getElem?_eq_none (by rw [zipK_len H R hl]; omega)]
section
variable {W : World} {S : Nat → Prop} {hb : Nat} {H : List (Option Hc)} {u : Nat}
end
end Go.Proofs.YtdncdddaobemaaaGreatDoor.W
/- Package heap: Put: what it leads to, in pieces. -/
namespace Go.Proofs.YtdncdddaobemaaaGreatDoor.W
open Go.ChangeShapes Go.WideShapes Go.RowKit Go.Shelf
set_option linter.unusedVariables false
/-- the words of a row that is put -/
def Hc.ws : Hc → List Nat
  | .row ws => ws
  | _ => []
/-- what is reached from a cell that is put -/
def Hc.seeds (c : Hc) : List Nat := c.ws ++ [c.cl.base]
/-- the cells that are left when room is made for c -/
noncomputable def roomH (H : List (Option Hc)) (u : Nat) (c : Hc) (rs : List Nat) : List (Option Hc) := if sumH H + c.need ≤ u then H else zipK H (rchB H (rs ++ c.seeds))
section
variable {W W' : World} {hb sb : Nat} {vc : Value} {T S : Nat → Prop} {H : List (Option Hc)} {u h : Nat}
theorem SaveOk.next {c : Hc} {v : Value} (h1 : SaveOk W hb sb S c v u h) (hU : Upd S W W') : SaveOk W' hb sb (Nx S W W') c v u h := by
  intro w T' vc' H' id hl hi hT hU2
  have hz := hU.size
  refine h1 w T' vc' H' id hl hi (fun k e => ?_) (hU.trans hU2)
  rcases hT k e with (e | e) | e
  · exact .inl e
  · exact .inr e.1
  · right; omega
theorem put_tail {w : World} (g : HLay w hb sb vc T H u (sumH H)) (hU : Upd S W w) (hS1 : Nx S W w hb) (hS2 : ∀ k, vc.ownBlock = some k → Nx S W w k) (hS3 : ∀ k, T k → Nx S W w k) (c : Hc) (hok : c.ok) (i : Int) (t : ByteArray) (ob ow : Option Addr) (bl bc wl wc : Nat) (hwl : wl ≤ 1048576) (hsz : sizeV c.cl.kind c.cl.view t.size bl wl = c.bytes.length) (hfit : sumH H + c.need ≤ u) (hsv : ∀ sb h, SaveOk W hb sb S c (.agg #[.int .i64 c.cl.kind, .bool c.cl.view, .int .i64 i, .string t, .slice ob bl bc, .slice ow wl wc, .int .u64 c.cl.base, .int .i64 c.cl.frm, .int .i64 c.cl.len]) u h) :
    w.cell? ⟨hb, 3, none⟩ = some (.int .i64 (sumH H : Nat)) ∧ w.cell? ⟨hb, 2, none⟩ = some (.int .i64 u) ∧ w.frozen? ⟨hb, 3, none⟩ = false ∧ lid H < 281474976710656 ∧
    Calls Tryz.prog 97 #[.pointer (some ⟨hb, 0, none⟩), .agg #[.int .i64 c.cl.kind, .bool c.cl.view, .int .i64 i, .string t, .slice ob bl bc, .slice ow wl wc, .int .u64 c.cl.base, .int .i64 c.cl.frm, .int .i64 c.cl.len]] (w.setCell ⟨hb, 3, none⟩ (.int .i64 ((sumH H : Int) + (c.need : Int)))) fun e w' => e = .returned (.int .i64 (lid H : Nat)) ∧ Hid (Upd S W w' ∧ HSt w' (Nx S W w') hb (putH H (lid H) (some c)) u) := by
  have hu := g.u1
  obtain ⟨q1, q2⟩ := g.held (sumH H + c.need) (by omega)
  have h5 := lid_le H
  have h6 := g.len
  refine ⟨g.cell 3, g.cell 2, g.thaw 3, by omega, ?_⟩
  have e1 : (((sumH H + c.need : Nat) : Int)) = (sumH H : Int) + (c.need : Int) := by omega
  rw [e1] at q1 q2
  generalize w.setCell ⟨hb, 3, none⟩ (.int .i64 ((sumH H : Int) + (c.need : Int))) = w7 at *
  have hU7 : Upd S W w7 := hU.trans (q2.mono (fun x e => by rw [e]; exact hS1))
  have hz7 := q2.size
  have nx : ∀ k, Nx S W w k → Nx S W w7 k := by
    rintro k (e | e)
    · exact .inl e
    · exact .inr ⟨e.1, by omega⟩
  refine (add_c q1 (Nx S W w7) ?_ c hok i t ob ow bl bc wl wc hwl hsz (by omega) ((hsv sb _).next hU7)).mono ?_
  · rintro k (e | e | e)
    · exact nx k (hS3 k e)
    · rw [e]; exact nx _ hS1
    · exact nx k (hS2 k e)
  · rintro e w' ⟨rfl, hU', vc', T', hL', hT', hv'⟩
    have hz' := hU'.size
    have hzW := hU7.size
    have nx' : ∀ k, k < w'.heap.size → (Nx S W w k ∨ w7.heap.size ≤ k) → Nx S W w' k := by
      rintro k hk ((e | e) | e)
      · exact .inl e
      · exact .inr ⟨e.1, hk⟩
      · exact .inr ⟨by omega, hk⟩
    refine ⟨rfl, ?_⟩
    show _ ∧ _
    refine ⟨hU7.trans hU', sb, vc', T', ?_, nx' hb hL'.hlt (.inl hS1), fun k e => nx' k (hL'.clt k e) ((hv' k e).imp (hS2 k) id), fun k e => nx' k (hL'.tlt k e) ((hT' k e).imp (hS3 k) id), ?_⟩
    · rw [putH_sum]; exact hL'
    · rw [putH_sum]; exact hfit
theorem put_sweep {w : World} (g : HLay w hb sb vc T H u (sumH H)) (hfit : sumH H ≤ u) (hU : Upd S W w) (hS1 : Nx S W w hb) (hS2 : ∀ k, vc.ownBlock = some k → Nx S W w k) (hS3 : ∀ k, T k → Nx S W w k) (vr vw : Value) (rs ws : List Nat) (base : Nat) (hr : WordsAt w vr rs) (hw : WordsAt w vw ws) (hbase : base < 18446744073709551616) :
    (Calls Tryz.prog 95 #[.pointer (some ⟨hb, 0, none⟩), .slice (some ⟨w.heap.size + 1, 0, none⟩) 3 3] ((w.alloc (.cells #[.int .u64 base] 22)).alloc (.cells #[vr, vw, .slice (some ⟨w.heap.size, 0, none⟩) 1 1] 31)) fun e w2 => ∃ vb, e = .returned (.tuple #[vb, .int .i64 (reachN H (rs ++ (ws ++ [base])) : Nat)]) ∧ ((∀ k < w.heap.size, w2.heap[k]? = w.heap[k]?) ∧ Calls Tryz.prog 94 #[.pointer (some ⟨hb, 0, none⟩), vb, .int .i64 (reachN H (rs ++ (ws ++ [base])) : Nat)] w2 fun e w' => e = .returned (.tuple #[]) ∧ (Hid (∃ T', HLay w' hb sb vc T' (zipK H (rchB H (rs ++ (ws ++ [base])))) u (sumH (zipK H (rchB H (rs ++ (ws ++ [base]))))) ∧ Upd S W w' ∧ Nx S W w' hb ∧ (∀ k, vc.ownBlock = some k → Nx S W w' k) ∧ (∀ k, T' k → Nx S W w' k) ∧ sumH (zipK H (rchB H (rs ++ (ws ++ [base])))) ≤ u) ∧ ∀ k < w.heap.size, ¬ (T k ∨ k = hb ∨ vc.ownBlock = some k) → w'.heap[k]? = w.heap[k]?))) := by
  have hu := g.u1
  have hB1 : Below w.heap.size w (w.alloc (.cells #[.int .u64 base] 22)) := (Below.refl _ w).alloc (Nat.le_refl _) _
  have hs1 : (w.alloc (.cells #[.int .u64 base] 22)).heap.size = w.heap.size + 1 := World.size_alloc ..
  have hB2 : Below (w.heap.size + 1) (w.alloc (.cells #[.int .u64 base] 22)) ((w.alloc (.cells #[.int .u64 base] 22)).alloc (.cells #[vr, vw, .slice (some ⟨w.heap.size, 0, none⟩) 1 1] 31)) := by rw [← hs1]; exact (Below.refl _ _).alloc (Nat.le_refl _) _
  have hBl : Below w.heap.size w ((w.alloc (.cells #[.int .u64 base] 22)).alloc (.cells #[vr, vw, .slice (some ⟨w.heap.size, 0, none⟩) 1 1] 31)) := hB1.trans (hB2.mono (by omega))
  have hsl : (((w.alloc (.cells #[.int .u64 base] 22)).alloc (.cells #[vr, vw, .slice (some ⟨w.heap.size, 0, none⟩) 1 1] 31))).heap.size = w.heap.size + 2 := by rw [World.size_alloc, hs1]
  have hbw : WordsAt ((w.alloc (.cells #[.int .u64 base] 22)).alloc (.cells #[vr, vw, .slice (some ⟨w.heap.size, 0, none⟩) 1 1] 31)) (.slice (some ⟨w.heap.size, 0, none⟩) 1 1) [base] := by
    refine ⟨_, _, rfl, by simp, by simpa using hbase, fun i hi => ?_⟩
    simp at hi
    subst hi
    refine ⟨_, rfl, ?_⟩
    have e1 : ((⟨w.heap.size, 0, none⟩ : Addr).add 0) = ⟨w.heap.size, 0, none⟩ := by simp [Addr.add]
    rw [e1]
    refine below_cell (W := w.alloc (.cells #[.int .u64 base] 22)) (by rw [hs1]; exact hB2) ?_
    rw [World.cell?_alloc_new]; rfl
  have hla : ListsAt ((w.alloc (.cells #[.int .u64 base] 22)).alloc (.cells #[vr, vw, .slice (some ⟨w.heap.size, 0, none⟩) 1 1] 31)) (.slice (some ⟨w.heap.size + 1, 0, none⟩) 3 3) [rs, ws, [base]] := by
    refine ⟨_, _, rfl, by simp, fun i hi => ?_⟩
    have hn : ∀ j, (((w.alloc (.cells #[.int .u64 base] 22)).alloc (.cells #[vr, vw, .slice (some ⟨w.heap.size, 0, none⟩) 1 1] 31))).cell? ⟨w.heap.size + 1, j, none⟩ = #[vr, vw, .slice (some ⟨w.heap.size, 0, none⟩) 1 1][j]? := by
      intro j
      have := World.cell?_alloc_new (w.alloc (.cells #[.int .u64 base] 22)) #[vr, vw, .slice (some ⟨w.heap.size, 0, none⟩) 1 1] 31 j
      rw [hs1] at this
      exact this
    have ha : ∀ j, ((⟨w.heap.size + 1, 0, none⟩ : Addr).add j) = ⟨w.heap.size + 1, j, none⟩ := by intro j; unfold Addr.add; split <;> simp_all
    simp at hi
    rcases (by omega : i = 0 ∨ i = 1 ∨ i = 2) with rfl | rfl | rfl
    · exact ⟨_, vr, rfl, by rw [ha, hn]; rfl, words_below hr hBl⟩
    · exact ⟨_, vw, rfl, by rw [ha, hn]; rfl, words_below hw hBl⟩
    · exact ⟨_, _, rfl, by rw [ha, hn]; rfl, hbw⟩
  have cr := reach_b (g.below hBl) _ _ hla (by omega)
  simp only [List.flatten_cons, List.flatten_nil, List.append_nil] at cr
  have hle : reachN H (rs ++ (ws ++ [base])) ≤ 1048576 := by have := needR_le H (rchB H (rs ++ (ws ++ [base]))); unfold reachN; omega
  refine cr.mono ?_
  rintro e w2 ⟨vb, rfl, hBr, ho⟩
  have hB : Below w.heap.size w w2 := hBl.trans (hBr.mono hBl.size)
  have hsz := hBr.size
  refine ⟨vb, rfl, fun k hk => hB.block k hk, ?_⟩
  have g2 := g.below hB
  refine (keep_c g2 vb (rchB H (rs ++ (ws ++ [base]))) (rchB_len H _) (w.heap.size + 2) (by rw [rchB_len, ← hsl]; exact ho) ⟨by have := g.hlt; omega, fun k e => by have := g.clt k e; omega, fun k e => by have := g.tlt k e; omega⟩ (by omega) _ hle).mono ?_
  rintro e w' ⟨rfl, hU', T', gl, hT'⟩
  have hz := hB.size
  have hz' := hU'.size
  have hzW := hU.size
  have hUw : Upd (fun x => T x ∨ x = hb ∨ vc.ownBlock = some x) w w' := (Upd.of_below hB).trans' hU'
  have hin : ∀ x, T x ∨ x = hb ∨ vc.ownBlock = some x → Nx S W w x := by
    rintro x (e | e | e)
    · exact hS3 x e
    · rw [e]; exact hS1
    · exact hS2 x e
  have nx' : ∀ k, k < w'.heap.size → Nx S W w k → Nx S W w' k := by
    rintro k hk (e | e)
    · exact .inl e
    · exact .inr ⟨e.1, hk⟩
  rw [stepH_zip H _ (rchB_len H _)] at gl
  refine ⟨rfl, ?_, fun k hk hn => hUw.block k hk hn⟩
  show ∃ T', _
  refine ⟨T', ?_, hU.trans (hUw.mono hin), nx' hb gl.hlt hS1, fun k e => nx' k (gl.clt k e) (hS2 k e), fun k e => ?_, ?_⟩
  · have e : sumH (zipK H (rchB H (rs ++ (ws ++ [base])))) = reachN H (rs ++ (ws ++ [base])) := zipK_sum H _
    rw [e]; exact gl
  · rcases hT' k e with e2 | e2
    · exact nx' k (gl.tlt k e) (hS3 k e2)
    · exact .inr ⟨by omega, gl.tlt k e⟩
  · rw [zipK_sum]
    have := needR_le H (rchB H (rs ++ (ws ++ [base])))
    omega
end
end Go.Proofs.YtdncdddaobemaaaGreatDoor.W
/- Package heap: Put. -/
namespace Go.Proofs.YtdncdddaobemaaaGreatDoor.W
open Go.ChangeShapes Go.WideShapes Go.RowKit Go.Shelf
set_option linter.unusedVariables false
section
variable {W W' : World} {hb sb : Nat} {vc : Value} {T S : Nat → Prop} {H : List (Option Hc)} {u h : Nat}
/-- what Put answers and leaves -/
def PutPost (W : World) (S : Nat → Prop) (hb : Nat) (H1 : List (Option Hc)) (u : Nat) (c : Hc) (e : Ending) (w' : World) : Prop := Upd S W w' ∧ ((sumH H1 + c.need ≤ u ∧ e = .returned (.tuple #[.int .u64 (18445336698825998336 + lid H1 : Nat), .int .i64 0]) ∧ HSt w' (Nx S W w') hb (putH H1 (lid H1) (some c)) u) ∨ (u < sumH H1 + c.need ∧ e = .returned (.tuple #[.int .u64 0, .int .i64 40]) ∧ HSt w' (Nx S W w') hb H1 u))
set_option maxHeartbeats 2000000 in
theorem hput_c (g : HSt W S hb H u) (hS : ∀ k, S k → k < W.heap.size) (c : Hc) (hok : c.ok) (i : Int) (t : ByteArray) (ob ow : Option Addr) (bl bc wl wc : Nat) (htl : t.size ≤ 8388608) (hbl : bl ≤ 8388608) (hwl : wl ≤ 1048576) (hsz : sizeV c.cl.kind c.cl.view t.size bl wl = c.bytes.length) (hws : WordsAt W (.slice ow wl wc) c.ws) (hbase : c.cl.base < 18446744073709551616)
    (hright : ∀ w, Below W.heap.size W w → Calls Tryz.prog 92 #[.pointer (some ⟨hb, 0, none⟩), .agg #[.int .i64 c.cl.kind, .bool c.cl.view, .int .i64 i, .string t, .slice ob bl bc, .slice ow wl wc, .int .u64 c.cl.base, .int .i64 c.cl.frm, .int .i64 c.cl.len]] w fun e w' => e = .returned (.bool true) ∧ Below w.heap.size w w')
    (hsv : ∀ sb h, SaveOk W hb sb S c (.agg #[.int .i64 c.cl.kind, .bool c.cl.view, .int .i64 i, .string t, .slice ob bl bc, .slice ow wl wc, .int .u64 c.cl.base, .int .i64 c.cl.frm, .int .i64 c.cl.len]) u h) (vr : Value) (rs : List Nat) (hr : WordsAt W vr rs) :
    Calls Tryz.prog 51 #[.pointer (some ⟨hb, 0, none⟩), .agg #[.int .i64 c.cl.kind, .bool c.cl.view, .int .i64 i, .string t, .slice ob bl bc, .slice ow wl wc, .int .u64 c.cl.base, .int .i64 c.cl.frm, .int .i64 c.cl.len], vr] W (PutPost W S hb (roomH H u c rs) u c) := by
  obtain ⟨orr, capr, hvr, _⟩ := id hr
  subst hvr
  obtain ⟨sb, vc, T, g1, s1, s2, s3, s4⟩ := g
  have hu := g1.u1
  have hBa : Below W.heap.size W (W.alloc (.cells #[.int .i64 c.cl.kind, .bool c.cl.view, .int .i64 i, .string t, .slice ob bl bc, .slice ow wl wc, .int .u64 c.cl.base, .int .i64 c.cl.frm, .int .i64 c.cl.len] 97)) := (Below.refl _ W).alloc (Nat.le_refl _) _
  have n9 := World.cell?_alloc_new W #[.int .i64 c.cl.kind, .bool c.cl.view, .int .i64 i, .string t, .slice ob bl bc, .slice ow wl wc, .int .u64 c.cl.base, .int .i64 c.cl.frm, .int .i64 c.cl.len] 97
  have hsa : ((W.alloc (.cells #[.int .i64 c.cl.kind, .bool c.cl.view, .int .i64 i, .string t, .slice ob bl bc, .slice ow wl wc, .int .u64 c.cl.base, .int .i64 c.cl.frm, .int .i64 c.cl.len] 97))).heap.size = W.heap.size + 1 := World.size_alloc ..
  have cn := need_c c.cl.kind c.cl.view i t ob ow bl bc wl wc c.cl.base c.cl.frm c.cl.len (by omega) (by omega) (by omega)
  rw [hsz] at cn
  have en : (1 + (c.bytes.length + 7) / 8 : Nat) = c.need := rfl
  rw [en] at cn
  unfold cellV at cn
  have cr := hright (W.alloc (.cells #[.int .i64 c.cl.kind, .bool c.cl.view, .int .i64 i, .string t, .slice ob bl bc, .slice ow wl wc, .int .u64 c.cl.base, .int .i64 c.cl.frm, .int .i64 c.cl.len] 97)) hBa
  have k2 : Hid (∀ w2, Below ((W.alloc (.cells #[.int .i64 c.cl.kind, .bool c.cl.view, .int .i64 i, .string t, .slice ob bl bc, .slice ow wl wc, .int .u64 c.cl.base, .int .i64 c.cl.frm, .int .i64 c.cl.len] 97))).heap.size (W.alloc (.cells #[.int .i64 c.cl.kind, .bool c.cl.view, .int .i64 i, .string t, .slice ob bl bc, .slice ow wl wc, .int .u64 c.cl.base, .int .i64 c.cl.frm, .int .i64 c.cl.len] 97)) w2 → (∀ j, w2.cell? ⟨W.heap.size, j, none⟩ = #[.int .i64 c.cl.kind, .bool c.cl.view, .int .i64 i, .string t, .slice ob bl bc, .slice ow wl wc, .int .u64 c.cl.base, .int .i64 c.cl.frm, .int .i64 c.cl.len][j]?)) := by
    show ∀ w2, _
    intro w2 hB2 j
    rw [World.cell?_of_block (hB2.block W.heap.size (by omega))]
    exact n9 j
  go_enter Tryz.func51, Tryz.ntmps51
  go_upto_region 4 with (first | (go_at_call 92; (with_reducible refine cr.mono ?_); rintro e w2 ⟨rfl, hB2⟩; (have n92 := k2.out w2 hB2)) | (go_at_call 93; (with_reducible refine (cn _).mono ?_); rintro e w3 ⟨rfl, hB3⟩; clear cn))
  have hBa3 : Below ((W.alloc (.cells #[.int .i64 c.cl.kind, .bool c.cl.view, .int .i64 i, .string t, .slice ob bl bc, .slice ow wl wc, .int .u64 c.cl.base, .int .i64 c.cl.frm, .int .i64 c.cl.len] 97))).heap.size (W.alloc (.cells #[.int .i64 c.cl.kind, .bool c.cl.view, .int .i64 i, .string t, .slice ob bl bc, .slice ow wl wc, .int .u64 c.cl.base, .int .i64 c.cl.frm, .int .i64 c.cl.len] 97)) w3 := hB2.trans (hB3.mono hB2.size)
  have n93 := k2.out w3 hBa3
  have hBW : Below W.heap.size W w3 := hBa.trans (hBa3.mono hBa.size)
  have hz3 := hBa3.size
  have g3 := g1.below hBW
  have c3 := g3.cell 3
  have c2 := g3.cell 2
  simp only [List.getElem?_cons_succ, List.getElem?_cons_zero] at c3 c2
  have hU3 : Upd S W w3.drew := (Upd.of_below hBW).drew
  have nx3 : ∀ k, S k → Nx S W w3.drew k := fun k e => .inl e
  have wadd : IntKind.i64.wrap ((sumH H : Int) + (c.need : Int)) = (sumH H : Int) + (c.need : Int) := by
    have h1 : c.need ≤ 1048577 := by
      have := Hc.bytes_len hok
      unfold Hc.need; omega
    rw [IntKind.wrap_i64]; omega
  clear k2 cr n92 hB2 hB3 n9
  by_cases hfit : sumH H + c.need ≤ u
  · have hf1 : ¬ ((sumH H : Int) + (c.need : Int)) > (u : Int) := by omega
    have hro : roomH H u c rs = H := by unfold roomH; rw [if_pos hfit]
    have g5 : HLay w3.drew.drew hb sb vc T H u (sumH H) := g3.same rfl
    have hU5 : Upd S W w3.drew.drew := hU3.drew
    obtain ⟨d3, d2, d4, hl, ca⟩ := put_tail g5 hU5 (.inl s1) (fun k e => .inl (s2 k e)) (fun k e => .inl (s3 k e)) c hok i t ob ow bl bc wl wc hwl hsz hfit hsv
    have n95 : ∀ j, w3.drew.drew.cell? ⟨W.heap.size, j, none⟩ = #[.int .i64 c.cl.kind, .bool c.cl.view, .int .i64 i, .string t, .slice ob bl bc, .slice ow wl wc, .int .u64 c.cl.base, .int .i64 c.cl.frm, .int .i64 c.cl.len][j]? := n93
    have cw := wordOf_c (lid H) hl
    have hne : Hid (W.heap.size ≠ hb) := (show _ ≠ _ by have := g1.hlt; omega)
    clear g5 g3 g1 hsv hright hU5 hU3 hBW hBa3 hBa
    go_region
    go_upto_region 6 with fail
    go_region
    go_upto_region 8 with fail
    generalize w3.drew.drew = w5 at *
    have n96 : ∀ j, (w5.setCell ⟨hb, 3, none⟩ (.int .i64 ((sumH H : Int) + (c.need : Int)))).cell? ⟨W.heap.size, j, none⟩ = #[.int .i64 c.cl.kind, .bool c.cl.view, .int .i64 i, .string t, .slice ob bl bc, .slice ow wl wc, .int .u64 c.cl.base, .int .i64 c.cl.frm, .int .i64 c.cl.len][j]? := by
      intro j
      rw [World.cell?_of_block (Below.heap_setCell _ _ _ _ hne.out)]
      exact n95 j
    go_wp2_with (first | (go_at_call 97; (with_reducible refine ca.mono ?_); rintro e w6 ⟨rfl, hf⟩; clear ca) | (go_at_call 96; (with_reducible refine (cw _).mono ?_); rintro e w' ⟨rfl, hw⟩; (have hw' := hw.symm); subst hw'; clear hw))
    go_ret2
    show PutPost W S hb (roomH H u c rs) u c _ _
    rw [hro]
    exact ⟨hf.out.1, .inl ⟨hfit, rfl, hf.out.2⟩⟩
  · have hf1 : ((sumH H : Int) + (c.need : Int)) > (u : Int) := by omega
    have hro : roomH H u c rs = zipK H (rchB H (rs ++ (c.ws ++ [c.cl.base]))) := by unfold roomH Hc.seeds; rw [if_neg hfit]
    have g4 : HLay w3.drew hb sb vc T H u (sumH H) := g3.same rfl
    have csw := put_sweep g4 s4 hU3 (.inl s1) (fun k e => .inl (s2 k e)) (fun k e => .inl (s3 k e)) _ (.slice ow wl wc) rs c.ws c.cl.base (words_below (W' := w3.drew) hr ⟨hBW.os, hBW.tape, hBW.output, hBW.size, hBW.block⟩) (words_below (W' := w3.drew) hws ⟨hBW.os, hBW.tape, hBW.output, hBW.size, hBW.block⟩) hbase
    have n94 : ∀ j, w3.drew.cell? ⟨W.heap.size, j, none⟩ = #[.int .i64 c.cl.kind, .bool c.cl.view, .int .i64 i, .string t, .slice ob bl bc, .slice ow wl wc, .int .u64 c.cl.base, .int .i64 c.cl.frm, .int .i64 c.cl.len][j]? := n93
    generalize zipK H (rchB H (rs ++ (c.ws ++ [c.cl.base]))) = H1 at *
    generalize reachN H (rs ++ (c.ws ++ [c.cl.base])) = rN at *
    have hne : Hid (W.heap.size ≠ hb) := (show _ ≠ _ by have := g1.hlt; omega)
    have kk : Hid (∀ w' : World, (∀ k < w3.drew.heap.size, ¬ (T k ∨ k = hb ∨ vc.ownBlock = some k) → w'.heap[k]? = w3.drew.heap[k]?) → ∀ j : Nat, w'.cell? ⟨W.heap.size, j, none⟩ = #[.int .i64 c.cl.kind, .bool c.cl.view, .int .i64 i, .string t, .slice ob bl bc, .slice ow wl wc, .int .u64 c.cl.base, .int .i64 c.cl.frm, .int .i64 c.cl.len][j]?) := by
      show ∀ w' : World, _
      intro w' hk j
      have e4 := hk W.heap.size (by show _ < w3.heap.size; omega) (by
        rintro (e | e | e)
        · have := g1.tlt _ e; omega
        · exact hne.out e
        · have := g1.clt _ e; omega)
      rw [World.cell?_of_block e4]
      exact n94 j
    clear g3 g1 hright hU3 hBW hBa3 hBa
    go_region
    go_upto_region 5 with fail
    generalize w3.drew = w4 at *
    go_upto_region 6 with (first | (go_at_call 95; (with_reducible refine csw.mono ?_); rintro e w5 ⟨vb, rfl, hk5, ck⟩; clear csw) | (go_at_call 94; (with_reducible refine ck.mono ?_); rintro e w6 ⟨rfl, hk6, hb6⟩; clear ck))
    have n96 := kk.out w6 hb6
    obtain ⟨T', g6, hU6, t1, t2, t3, t4⟩ := hk6.out
    clear n94 kk hk5 hb6 c3 c2
    have c3 := g6.cell 3
    have c2 := g6.cell 2
    simp only [List.getElem?_cons_succ, List.getElem?_cons_zero] at c3 c2
    have wadd1 : IntKind.i64.wrap ((sumH H1 : Int) + (c.need : Int)) = (sumH H1 : Int) + (c.need : Int) := by
      have h1 : c.need ≤ 1048577 := by
        have := Hc.bytes_len hok
        unfold Hc.need; omega
      rw [IntKind.wrap_i64]; omega
    by_cases hfit1 : sumH H1 + c.need ≤ u
    · have hf2 : ¬ ((sumH H1 : Int) + (c.need : Int)) > (u : Int) := by omega
      have g7 : HLay w6.drew hb sb vc T' H1 u (sumH H1) := g6.same rfl
      obtain ⟨d3, d2, d4, hl, ca⟩ := put_tail g7 hU6.drew t1 t2 t3 c hok i t ob ow bl bc wl wc hwl hsz hfit1 hsv
      have n97 : ∀ j, w6.drew.cell? ⟨W.heap.size, j, none⟩ = #[.int .i64 c.cl.kind, .bool c.cl.view, .int .i64 i, .string t, .slice ob bl bc, .slice ow wl wc, .int .u64 c.cl.base, .int .i64 c.cl.frm, .int .i64 c.cl.len][j]? := n96
      have cw := wordOf_c (lid H1) hl
      clear g7 g6 hsv hU6 hf1 hfit
      go_region
      go_upto_region 8 with fail
      generalize w6.drew = w7 at *
      have n98 : ∀ j, (w7.setCell ⟨hb, 3, none⟩ (.int .i64 ((sumH H1 : Int) + (c.need : Int)))).cell? ⟨W.heap.size, j, none⟩ = #[.int .i64 c.cl.kind, .bool c.cl.view, .int .i64 i, .string t, .slice ob bl bc, .slice ow wl wc, .int .u64 c.cl.base, .int .i64 c.cl.frm, .int .i64 c.cl.len][j]? := by
        intro j
        rw [World.cell?_of_block (Below.heap_setCell _ _ _ _ hne.out)]
        exact n97 j
      go_wp2_with (first | (go_at_call 97; (with_reducible refine ca.mono ?_); rintro e w8 ⟨rfl, hf⟩; clear ca) | (go_at_call 96; (with_reducible refine (cw _).mono ?_); rintro e w' ⟨rfl, hw⟩; (have hw' := hw.symm); subst hw'; clear hw))
      go_ret2
      show PutPost W S hb (roomH H u c rs) u c _ _
      rw [hro]
      exact ⟨hf.out.1, .inl ⟨hfit1, rfl, hf.out.2⟩⟩
    · have hf2 : ((sumH H1 : Int) + (c.need : Int)) > (u : Int) := by omega
      have fin : Hid (Upd S W w6.drew ∧ HSt w6.drew (Nx S W w6.drew) hb H1 u) := ⟨hU6.drew, sb, vc, T', g6.same rfl, t1, t2, t3, t4⟩
      clear g6 hsv hU6 hf1 hfit
      go_region
      go_wp2
      go_ret2
      show PutPost W S hb (roomH H u c rs) u c _ _
      rw [hro]
      exact ⟨fin.out.1, .inr ⟨by omega, rfl, fin.out.2⟩⟩
end
end Go.Proofs.YtdncdddaobemaaaGreatDoor.W
/- Package heap: Put, of a number and of a row. -/
namespace Go.Proofs.YtdncdddaobemaaaGreatDoor.W
open Go.ChangeShapes Go.WideShapes Go.RowKit Go.Shelf
set_option linter.unusedVariables false
section
variable {W W' : World} {hb sb : Nat} {vc : Value} {T S : Nat → Prop} {H : List (Option Hc)} {u h : Nat}
theorem words_nil (W : World) (o : Option Addr) (cap : Nat) : WordsAt W (.slice o 0 cap) [] := ⟨o, cap, rfl, by simp, by simp, fun i hi => by simp at hi⟩
theorem HSt.lay (g : HSt W S hb H u) : ∃ sb vc T, HLay W hb sb vc T H u (sumH H) := by
  obtain ⟨sb, vc, T, g1, _⟩ := g
  exact ⟨sb, vc, T, g1⟩
theorem put_num (g : HSt W S hb H u) (hS : ∀ k, S k → k < W.heap.size) (i : Int) (h0 : -9223372036854775808 ≤ i) (h1 : i < 9223372036854775808) (ob ow : Option Addr) (bc wc : Nat) (vr : Value) (rs : List Nat) (hr : WordsAt W vr rs) :
    Calls Tryz.prog 51 #[.pointer (some ⟨hb, 0, none⟩), .agg #[.int .i64 2, .bool false, .int .i64 i, .string ByteArray.empty, .slice ob 0 bc, .slice ow 0 wc, .int .u64 0, .int .i64 0, .int .i64 0], vr] W (PutPost W S hb (roomH H u (.num i) rs) u (.num i)) := by
  obtain ⟨sb, vc, T, g1⟩ := g.lay
  refine hput_c g hS (.num i) ⟨h0, h1⟩ i ByteArray.empty ob ow 0 bc 0 wc (by decide) (by decide) (by decide) ?_ (words_nil W ow wc) (show 0 < _ by decide) ?_ ?_ vr rs hr
  · show sizeV 2 false 0 0 0 = (le8 _).length
    rw [le8_len]; decide
  · intro w hB
    exact right_num (g1.below hB) i ob ow bc wc
  · intro sb h W' T' vc' H' id hl hi hT hU
    exact save_num hl id i 0 hi h0 h1 ob ow bc wc
theorem PutPost.fits {c : Hc} {rs : List Nat} {e : Ending} {w' : World} (h : PutPost W S hb (roomH H u c rs) u c e w') (hf : sumH H + c.need ≤ u) : e = .returned (.tuple #[.int .u64 (18445336698825998336 + lid H : Nat), .int .i64 0]) ∧ Upd S W w' ∧ HSt w' (Nx S W w') hb (putH H (lid H) (some c)) u := by
  have hr : roomH H u c rs = H := by unfold roomH; rw [if_pos hf]
  rw [hr] at h
  obtain ⟨h1, ⟨_, h2, h3⟩ | ⟨h2, _⟩⟩ := h
  · exact ⟨h2, h1, h3⟩
  · omega
end
end Go.Proofs.YtdncdddaobemaaaGreatDoor.W
/- Package heap: save and Put, of a string. -/
namespace Go.Proofs.YtdncdddaobemaaaGreatDoor.W
open Go.ChangeShapes Go.WideShapes Go.RowKit Go.Shelf
set_option linter.unusedVariables false
section
variable {W W' : World} {hb sb : Nat} {vc : Value} {T : Nat → Prop} {H : List (Option Hc)} {u h : Nat}
theorem mkc_text (n : Nat) (h : n ≤ 8388608) : Mkc Hc.text n := ⟨fun b => rfl, fun b b' => rfl, fun b hb hl => ⟨hb, by omega⟩⟩
theorem save_text (g : HLay W hb sb vc T H u h) (id : Nat) (t : ByteArray) (hc : H[id]? = some (some (.text (List.replicate t.size 0)))) (hl : t.size ≤ 8388608) (ob ow : Option Addr) (bc wc : Nat) :
    Calls Tryz.prog 166 #[.pointer (some ⟨hb, 0, none⟩), .int .i64 id, .agg #[.int .i64 4, .bool false, .int .i64 0, .string t, .slice ob 0 bc, .slice ow 0 wc, .int .u64 0, .int .i64 0, .int .i64 0]] W fun e w' => e = .returned (.tuple #[]) ∧ Upd T W w' ∧ HLay w' hb sb vc T (H.set id (some (.text (t.data.toList.map UInt8.toNat)))) u h := by
  have hBa : Below W.heap.size W (W.alloc (.cells #[.int .i64 4, .bool false, .int .i64 0, .string t, .slice ob 0 bc, .slice ow 0 wc, .int .u64 0, .int .i64 0, .int .i64 0] 97)) := (Below.refl _ W).alloc (Nat.le_refl _) _
  have ga := g.below hBa
  have cs : ∀ w, Calls Tryz.prog 153 #[.int .i64 4, .bool false] w fun e w' => e = .returned (.int .i64 2) ∧ w' = w := fun w => shape_c 4 false w
  go_enter Tryz.func166, Tryz.ntmps166
  go_upto_region 5 with (go_at_call 153; (with_reducible refine (cs _).mono ?_); rintro e w' ⟨rfl, hw⟩; (have hw' := hw.symm); subst hw'; clear hw)
  have c3 := World.cell?_alloc_new W #[.int .i64 4, .bool false, .int .i64 0, .string t, .slice ob 0 bc, .slice ow 0 wc, .int .u64 0, .int .i64 0, .int .i64 0] 97 3
  simp only [List.getElem?_toArray, List.getElem?_cons_succ, List.getElem?_cons_zero] at c3
  have hsa : (W.alloc (.cells #[.int .i64 4, .bool false, .int .i64 0, .string t, .slice ob 0 bc, .slice ow 0 wc, .int .u64 0, .int .i64 0, .int .i64 0] 97)).heap.size = W.heap.size + 1 := World.size_alloc ..
  generalize W.alloc (.cells #[.int .i64 4, .bool false, .int .i64 0, .string t, .slice ob 0 bc, .slice ow 0 wc, .int .u64 0, .int .i64 0, .int .i64 0] 97) = Wa at *
  have hcv : (convert 9 62 (.string t)).run Tryz.prog Wa = .ok (.slice (some ⟨Wa.heap.size, 0, none⟩) t.size (grownCap Wa t.size 0 5)) (Lib.bytesWorld Wa 5 t) := Lib.run_convert_string_bytes Wa _ _ _ t Tryz.underlying9 Tryz.underlying62 Tryz.underlying5
  have hBb : Below Wa.heap.size Wa (Lib.bytesWorld Wa 5 t) := ⟨rfl, rfl, rfl, by rw [Lib.bytesWorld_size]; omega, fun k hk => Lib.bytesWorld_at_old Wa _ t k hk⟩
  have hsb := Lib.bytesWorld_size Wa 5 t
  have hbl : (t.data.toList.map UInt8.toNat).length = t.size := by rw [List.length_map]; rfl
  have hrow : ByteRow (Lib.bytesWorld Wa 5 t) (some ⟨Wa.heap.size, 0, none⟩) (t.data.toList.map UInt8.toNat) := by
    refine .inr ⟨_, _, rfl, fun i hi => ?_⟩
    rw [Nat.zero_add, Lib.bytesWorld_cell Wa _ t i (by omega)]
    have hi2 : i < t.data.size := by simpa using hi
    rw [List.getElem_map]
    simp
    rw [Array.getElem?_eq_getElem hi2]
    rfl
  have hcp : t.size ≤ grownCap Wa t.size 0 5 := grownCap_ge Wa t.size 0 _
  have cb := saveBytes_c (ga.below hBb) Hc.text (t.data.toList.map UInt8.toNat) (by rw [hbl]; exact mkc_text _ hl) (fun x hx => by obtain ⟨y, _, rfl⟩ := List.mem_map.1 hx; exact y.toNat_lt) (by omega) id (by rw [hbl]; exact hc) (some ⟨Wa.heap.size, 0, none⟩) (grownCap Wa t.size 0 5) (by omega) hrow (fun x e => by cases e; exact ⟨fun e2 => by have h9 := g.tlt Wa.heap.size e2; omega, by show Wa.heap.size < _; omega⟩)
  rw [hbl] at cb
  have fin : Hid (∀ w2, Upd T (Lib.bytesWorld Wa 5 t) w2 → Upd T W w2) := by
    show ∀ w2, _
    intro w2 hU
    exact ((Upd.of_below hBa).trans' (Upd.of_below hBb)).trans' hU
  generalize grownCap Wa t.size 0 5 = cp at *
  generalize Lib.bytesWorld Wa 5 t = Wb at *
  clear hrow hBb hsb ga g hBa hsa
  go_wp2_with (go_at_call 214; (with_reducible refine cb.mono ?_); rintro e w2 ⟨rfl, hU2, hL2⟩; clear cb)
  go_end0
  exact ⟨rfl, fin.out _ hU2, hL2⟩
/-- the bytes of a string -/
def strB (t : ByteArray) : List Nat := t.data.toList.map UInt8.toNat
theorem strB_len (t : ByteArray) : (strB t).length = t.size := by unfold strB; rw [List.length_map]; rfl
theorem strB_ok (t : ByteArray) (h : t.size ≤ 8388608) : (Hc.text (strB t)).ok := ⟨fun x hx => by obtain ⟨y, _, rfl⟩ := List.mem_map.1 hx; exact y.toNat_lt, by rw [strB_len]; exact h⟩
theorem text_need (t : ByteArray) : (Hc.text (strB t)).need = 1 + (t.size + 7) / 8 := by
  unfold Hc.need
  rw [show (Hc.text (strB t)).bytes.length = t.size from strB_len t]
theorem put_text {S : Nat → Prop} (g : HSt W S hb H u) (hS : ∀ k, S k → k < W.heap.size) (t : ByteArray) (hl : t.size ≤ 8388608) (ob ow : Option Addr) (bc wc : Nat) (vr : Value) (rs : List Nat) (hr : WordsAt W vr rs) :
    Calls Tryz.prog 51 #[.pointer (some ⟨hb, 0, none⟩), .agg #[.int .i64 4, .bool false, .int .i64 0, .string t, .slice ob 0 bc, .slice ow 0 wc, .int .u64 0, .int .i64 0, .int .i64 0], vr] W (PutPost W S hb (roomH H u (.text (strB t)) rs) u (.text (strB t))) := by
  refine hput_c g hS (.text (strB t)) (strB_ok t hl) 0 t ob ow 0 bc 0 wc hl (by decide) (by decide) ?_ (words_nil W ow wc) (show 0 < _ by decide) ?_ ?_ vr rs hr
  · show sizeV 4 false t.size 0 0 = (strB t).length
    rw [strB_len]; rfl
  · intro w hB
    exact right_text t ob ow bc wc hl hb w
  · intro sb h W' T' vc' H' id hl' hi hT hU
    have e : (Hc.text (strB t)).zero = .text (List.replicate t.size 0) := by show Hc.text (List.replicate (strB t).length 0) = _; rw [strB_len]
    rw [e] at hi
    exact save_text hl' id t hi hl ob ow bc wc
end
end Go.Proofs.YtdncdddaobemaaaGreatDoor.W
/- casketlaw7's plain; plain values. -/
namespace Go.Proofs.YtdncdddaobemaaaGreatDoor.W
open Go.ChangeShapes Go.WideShapes Go.RowKit Go.Shelf
set_option linter.unusedVariables false
/-- a right value that is no thing -/
def PV (kd i bi re : Int) (t : ByteArray) : Prop := (kd = 0 ∧ i = 0 ∧ bi = 0 ∧ t = ⟨#[]⟩ ∧ re = 0) ∨ (kd = 1 ∧ (i = 0 ∨ i = 1) ∧ bi = 0 ∧ t = ⟨#[]⟩ ∧ re = 0) ∨ (kd = 2 ∧ bi = 0 ∧ t = ⟨#[]⟩ ∧ re = 0) ∨ (kd = 3 ∧ i = 0 ∧ t = ⟨#[]⟩ ∧ re = 0) ∨ (kd = 4 ∧ i = 0 ∧ bi = 0 ∧ re = 0)
end Go.Proofs.YtdncdddaobemaaaGreatDoor.W
/- Contracts of package word's FromText and of the statements' awake. -/
namespace Go.Proofs.YtdncdddaobemaaaGreatDoor.W
open Go.ChangeShapes Go.WideShapes Go.RowKit

theorem take_snoc (s : ByteArray) (k : Nat) (h : k < s.size) : s.data.toList.take (k + 1) = s.data.toList.take k ++ [s[k]] := by
  rw [List.take_succ_eq_append_getElem (by simpa using h)]; rfl
theorem pow8 (k : Nat) : 2 ^ (8 * k) = 256 ^ k := by rw [Nat.pow_mul]
theorem pow_lt5 (k : Nat) (h : k ≤ 5) : 256 ^ k ≤ 1099511627776 := by
  have := Nat.pow_le_pow_right (n := 256) (by decide) h
  have e : 256 ^ 5 = 1099511627776 := by decide
  omega
theorem or_byte (z k b e : Nat) (hz : z ≤ 5) (hk : k < 5) (he : e < 256 ^ k) (hb : b < 256) :
    bits .or .u64 ((z : Int) * 1099511627776 + (e : Int)) (IntKind.u64.wrap (IntKind.u64.wrap (b : Int) * 2 ^ (8 * k))) = (z : Int) * 1099511627776 + ((e + b * 256 ^ k : Nat) : Int) := by
  have e1 : IntKind.u64.wrap (b : Int) = b := by rw [IntKind.wrap_u64]; omega
  have hp := pow_lt5 (k + 1) (by omega)
  rw [Nat.pow_succ] at hp
  have hbk : b * 256 ^ k ≤ 255 * 256 ^ k := Nat.mul_le_mul_right _ (by omega)
  have e2 : (b : Int) * 2 ^ (8 * k) = ((b * 256 ^ k : Nat) : Int) := by rw [← pow8]; simp
  have e3 : IntKind.u64.wrap ((b * 256 ^ k : Nat) : Int) = ((b * 256 ^ k : Nat) : Int) := by rw [IntKind.wrap_u64]; exact Int.emod_eq_of_lt (Int.natCast_nonneg _) (by omega)
  have e4 : (z : Int) * 1099511627776 + (e : Int) = ((z * 1099511627776 + e : Nat) : Int) := by omega
  rw [e1, e2, e3, e4, u64_or_nat _ _ (by omega) (by omega)]
  have j1 : z * 1099511627776 + e = z * 1099511627776 ||| e := (nat_join 40 _ _ (by omega) (by omega)).symm
  have j2 : e ||| b * 256 ^ k = b * 256 ^ k + e := by
    rw [Nat.or_comm, ← pow8]
    exact nat_join (8 * k) _ _ (Nat.mul_mod_left _ _) (by rw [pow8]; exact he)
  rw [j1, Nat.or_assoc, j2, nat_join 40 _ _ (by omega) (by omega)]
  omega
theorem enc_step (s : ByteArray) (k : Nat) (hs : s.size ≤ 5) (h : k < s.size) :
    bits .or .u64 ((s.size : Int) * 1099511627776 + (encN (s.data.toList.take k) : Int)) (IntKind.u64.wrap (IntKind.u64.wrap (s[k].toNat : Int) * 2 ^ (8 * k))) = (s.size : Int) * 1099511627776 + (encN (s.data.toList.take (k + 1)) : Int) := by
  have hl : (s.data.toList.take k).length = k := by
    have : k < s.data.toList.length := by simpa using h
    rw [List.length_take]; omega
  have he := encN_lt (s.data.toList.take k)
  rw [take_snoc s k h, encN_snoc]
  rw [hl] at he ⊢
  exact or_byte s.size k s[k].toNat _ hs (by omega) he s[k].toNat_lt
theorem enc_all (s : ByteArray) (k : Nat) (h : ¬ k < s.size) : s.data.toList.take k = s.data.toList := List.take_of_length_le (by simp; omega)
theorem enc_lt (s : ByteArray) (hs : s.size ≤ 5) : (s.size : Int) * 1099511627776 + (encN s.data.toList : Int) < 281474976710656 := by
  have he := encN_lt s.data.toList
  have hl : s.data.toList.length = s.size := by simp
  rw [hl] at he
  have := pow_lt5 s.size hs
  omega
set_option maxHeartbeats 400000 in
theorem fromText_c (s : ByteArray) (hs : s.size ≤ maxLen) (w : World) :
    Calls Tryz.prog 53 #[.string s] w fun e w' => e = .returned (.tuple #[.int .u64 (txtW s), .bool (decide (s.size ≤ 5))]) ∧ w' = w := by
  unfold maxLen at hs
  by_cases c : s.size ≤ 5
  · have H := hid (show txtW s = 18445055223849287680 + s.size * 1099511627776 + encN s.data.toList by simp [txtW, c])
    go_enter Tryz.func53, Tryz.ntmps53
    go_wp2
    go_loop [4, 15] (fun l i => ∃ k : Nat, k ≤ s.size ∧ i = .int .i64 k ∧ l = .int .u64 (s.size * 1099511627776 + encN (s.data.toList.take k))) (fun _ i => s.size - (intOf i).toNat)
    case atStart => exact ⟨0, Nat.zero_le _, rfl, int_eq (by simp [encN])⟩
    case round =>
      obtain ⟨k, hk, rfl, rfl⟩ := hrel
      by_cases hlt : k < s.size
      · go_wp2
        go_round
        case rel => exact ⟨k + 1, hlt, by go_num, int_eq (enc_step s k c hlt)⟩
        case measure => simp [intOf]; omega
      · have hb := enc_lt s c
        have he := enc_all s k hlt
        rw [he]
        clear he
        go_wp2_with (go_at_call 49; refine (join_c _ _ (by omega) (by omega) (by omega) (by omega) _).mono ?_; rintro e w' ⟨rfl, rfl⟩)
        go_ret2
        exact ⟨ret_ib (by rw [H.out]; omega) (by simpa using c), rfl⟩
  · have H := hid (show txtW s = 0 by simp [txtW, c])
    go_enter Tryz.func53, Tryz.ntmps53
    go_wp2
    go_ret2
    exact ⟨ret_ib H.out.symm (by simpa using c), rfl⟩
end Go.Proofs.YtdncdddaobemaaaGreatDoor.W
