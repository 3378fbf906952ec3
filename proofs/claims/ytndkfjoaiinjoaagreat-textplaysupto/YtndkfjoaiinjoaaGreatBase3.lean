import Derived.Test.YtndkfjoaiinjoaaGreatBase2
import Derived.Test.YtndkfjoaiinjoaaGreatBase0
import Derived.Deep.RegionHeld3
import Derived.Deep.Quiet
/- Package store: lay. -/
namespace Go.Proofs.YtndkfjoaiinjoaaGreat.W
open Go.ChangeShapes Go.WideShapes Go.RowKit Go.Shelf
set_option linter.unusedVariables false

/-- the row with a place for a new block, cleared -/
def longer (row : List Nat) (e : Nat) : List Nat := row ++ List.replicate (e - row.length) 0
def layRow (row : List Nat) (p u : Nat) : List Nat := setL (longer row (p + u)) p (List.replicate u 0)
/-- a new block has its place, behind bk -/
def Sto.laid (s : Sto) (n bk nx p u : Nat) : Sto := { ({ s.set n { s.getD n with pos := (p : Int) } with row := layRow s.row p u } : Sto).linked n bk nx with hand := n }
/-- what seek leaves -/
def SeekPost (S : Nat → Prop) (W : World) (sb : Nat) (vb vf : Value) (n : Nat) (bn : Blk) (G : Sto → Nat → Nat → Nat → Prop) (e : Ending) (w' : World) : Prop :=
  ∃ (s1 : Sto) (vr1 : Value) (bk nx p : Nat) (bb bx : Blk), e = .returned (.int .i64 bk) ∧ Upd S W w' ∧ Lay w' sb vr1 vb vf s1 ∧ Own (Nx S W w') sb vr1 vb vf ∧ Fit s1 ∧ s1.get n = some bn ∧ s1.get bk = some bb ∧ bb.next = nx ∧ s1.get nx = some bx ∧ bk ≠ n ∧ nx ≠ n ∧ bb.stop = p ∧ G s1 bk nx p
theorem info5 : (Tryz.prog.info? 5).map (fun i => (i.zero, i.size, i.bytes)) = some (some (.int .u8 0), 1, 1) := by kernel_rfl
theorem under57 : Tryz.prog.underlying 39 = some (.slice 5) := by kernel_rfl
theorem under3 : Tryz.prog.underlying 3 = some (.int .i64) := by kernel_rfl
theorem zero5 (w : World) : (zeroValue 5).run Tryz.prog w = .ok (.int .u8 0) w := by
  obtain ⟨i0, hi, hz0, hz1, hz2⟩ := info_parts info5
  simp [zeroValue, typeInfo, hi, hz0]
section
variable {W : World} {sb : Nat} {vr vb vf : Value} {s : Sto}
set_option maxRecDepth 20000 in
set_option maxHeartbeats 2000000 in
theorem lay_c (h : Lay W sb vr vb vf s) (hlen : s.blks.length ≤ 1000000000) (n u : Nat) (bn : Blk) (hn : s.get n = some bn) (hl0 : 0 < bn.len) (hl1 : bn.len ≤ 100000000) (hu : up8 bn.len = u) {S : Nat → Prop} (G : Sto → Nat → Nat → Nat → Prop)
    (cs : Calls Tryz.prog 115 #[.pointer (some ⟨sb, 0, none⟩), .int .i64 (u : Int)] W (SeekPost S W sb vb vf n bn G)) :
    Calls Tryz.prog 104 #[.pointer (some ⟨sb, 0, none⟩), .int .i64 n] W fun e w' => e = .returned (.tuple #[]) ∧ Upd S W w' ∧ ∃ s1 bk nx p, G s1 bk nx p ∧ ∃ vr2, Lay w' sb vr2 vb vf (s1.laid n bk nx p u) ∧ Own (Nx S W w') sb vr2 vb vf := by
  obtain ⟨Bn, On, pn⟩ := h.pt hn
  obtain ⟨_, _, c2, _, _⟩ := bcells h hn pn
  have cb := block_c W sb vr vb vf s h n bn hn hlen Bn On pn
  have cu := roundUp_c bn.len W (by omega) (by omega)
  rw [hu] at cu
  have hu8 : 8 ≤ u ∧ u ≤ 100000008 := by
    unfold up8 at hu
    omega
  obtain ⟨hu0, hu1⟩ := hu8
  go_enter Tryz.func104, Tryz.ntmps104
  go_upto_region 2 with (first | (go_at_call 111; (with_reducible refine cb.mono ?_); rintro e w' ⟨rfl, hw⟩; (have hw' := hw.symm); subst hw'; clear hw) | (go_at_call 99; (with_reducible refine cu.mono ?_); rintro e w' ⟨rfl, hw⟩; (have hw' := hw.symm); subst hw'; clear hw) | (go_at_call 115; (with_reducible refine cs.mono ?_); rintro e W1 ⟨s1, vr1, bk, nx, p, bb, bx, rfl, hU1, hL1, hO1, f1, hn1, hb1, hnx, hx1, ne1, ne2, hp, hG⟩; clear cb c2 cu cs))
  -- region 2: b.at = s.block(back).end()
  obtain ⟨Bb, Ob, pb⟩ := hL1.pt hb1
  obtain ⟨_, e1, e2, _, _⟩ := bcells hL1 hb1 pb
  obtain ⟨q1, q2, q3, q4⟩ := f1.blk bk bb hb1
  obtain ⟨st0, st1⟩ := stop_le f1 hb1
  have cb := block_c W1 sb vr1 vb vf s1 hL1 bk bb hb1 f1.len Bb Ob pb
  have ce := end_c W1 Bb Ob bb.pos bb.len e1 e2 q3 q4 q1 (by omega)
  have hpb : (p : Int) ≤ 1000200000000 := by omega
  rw [show bb.pos + up8 bb.len = (p : Int) from hp] at ce
  obtain ⟨_, d1, _, _, _⟩ := bcells hL1 hn1 pn
  have t1 := hL1.bthaw hn1 pn 1
  go_upto_region 3 with (first | (go_at_call 111; (with_reducible refine cb.mono ?_); rintro e w' ⟨rfl, hw⟩; (have hw' := hw.symm); subst hw'; clear hw) | (go_at_call 116; (with_reducible refine ce.mono ?_); rintro e w' ⟨rfl, m1, hw⟩; (have hw' := hw.symm); subst hw'; clear hw))
  have hL2 := (hL1.drewN m1).bstore (c := { bn with pos := (p : Int) }) hn1 pn 1 (by omega) (.int .i64 p) rfl
  have hU2 := (hU1.drewN m1).setCell (p := ⟨Bn, On + 1, none⟩) (hO1.pt pn) (.int .i64 p)
  have z2 : ((W1.drewN m1).setCell ⟨Bn, On + 1, none⟩ (.int .i64 p)).heap.size = W1.heap.size := by simp [World.setCell]
  clear cb ce d1 t1 e1 e2
  generalize World.setCell (World.drewN W1 m1) _ _ = W2 at *
  have hn2 : (s1.set n { bn with pos := (p : Int) }).get n = some { bn with pos := (p : Int) } := get_set_same hn1 _
  have hb2 : (s1.set n { bn with pos := (p : Int) }).get bk = some bb := by rw [get_set_ne _ ne1]; exact hb1
  have hx2 : (s1.set n { bn with pos := (p : Int) }).get nx = some bx := by rw [get_set_ne _ ne2]; exact hx1
  have hrow2 : (s1.set n { bn with pos := (p : Int) }).row = s1.row := set_row _ _ _
  have hlen2 : (s1.set n { bn with pos := (p : Int) }).blks.length ≤ 1000000000 := by rw [set_len]; exact f1.len
  have hlaid : ({ s1.set n { bn with pos := (p : Int) } with row := layRow s1.row p u } : Sto).linked n bk nx = ({ s1.set n { s1.getD n with pos := (p : Int) } with row := layRow s1.row p u } : Sto).linked n bk nx := by rw [getD_of hn1]
  have frow := f1.row
  have hO1' := hO1
  clear hL1 hU1 hO1 hb1 hx1 hn1 pb
  generalize s1.set n { bn with pos := (p : Int) } = s2 at *
  -- region 3: more := b.end() - len(s.row)
  obtain ⟨_, d1, d2, _, _⟩ := bcells hL2 hn2 pn
  have c0 := hL2.cell 0
  simp [Sto.obj] at c0
  have hvr : ∃ o cap, vr1 = .slice o s1.row.length cap := by
    rcases hL2.row.2 with ⟨e, e'⟩ | ⟨g, cap, cur, e, _⟩
    · exact ⟨none, 0, by rw [e, ← hrow2, e']⟩
    · exact ⟨_, _, by rw [← hrow2]; exact e⟩
  obtain ⟨ao, cap, hvr⟩ := hvr
  rw [hvr] at c0
  have ce := fun q => end_c (W2.drewN q) Bn On p bn.len d1 d2 (by omega) hl1 (by omega) (by omega)
  rw [hu] at ce
  go_quiet ((go_at_call 116; exact Calls.quiet_of (ce _)))
  replace hL2 := hL2.drewN nq
  replace hU2 := hU2.drewN nq
  replace z2 : (W2.drewN nq).heap.size = W1.heap.size := z2
  clear ce d1 d2 c0
  generalize World.drewN W2 nq = W3 at *
  have hO3 : Own (Nx S W W3) sb vr1 vb vf := hO1'.mono (fun k hk => hk.imp id (fun g => ⟨g.1, by omega⟩))
  by_cases hmore : s1.row.length < p + u
  · have hm1 : 0 < (p : Int) + u - s1.row.length := by omega
    have c0 := hL2.cell 0
    simp [Sto.obj] at c0
    rw [hvr] at c0
    have th0 := hL2.thaw 0
    obtain ⟨i0, hi, hz0, hz1, hz2⟩ := info_parts info5
    obtain ⟨m, hm⟩ : ∃ m : Nat, m = p + u - s1.row.length := ⟨_, rfl⟩
    have hmi : (p : Int) + u - s1.row.length = (m : Int) := by omega
    obtain ⟨vr2, W4, hrun, hown4, hgr4, hnew4⟩ := append_zeros (P := Tryz.prog) W3 39 3 39 5 i0 (.int .u8 0) .i64 .i64 under57 under3 hi hz0 hz1 hz2 rfl rfl vr1 s2.row.length _ hL2.row m (by omega) (by rw [hrow2]; omega)
    rw [hrow2] at hown4
    obtain ⟨g4, cap4, rfl, hcap4⟩ := own_slice hown4 (by omega)
    have hrow' : (longer s1.row (p + u)).length = s1.row.length + m := by simp only [longer, List.length_append, List.length_replicate]; omega
    have hL5 : Lay (W4.setCell ⟨sb, 0, none⟩ (.slice (some ⟨g4, 0, none⟩) (s1.row.length + m) cap4)) sb (.slice (some ⟨g4, 0, none⟩) (s1.row.length + m) cap4) vb vf { s2 with row := longer s1.row (p + u) } := by
      refine hL2.regrow_row hgr4 ?_
      rw [hrow']
      have e : (longer s1.row (p + u)).map byteV = s1.row.map byteV ++ List.replicate m (.int .u8 0) := by
        rw [longer, List.map_append, List.map_replicate, ← hm]; rfl
      rw [e]; exact hown4
    have hU4 := hU2.grown hgr4 (fun k e => hO3.row k e)
    have hU5 := hU4.setCell (p := ⟨sb, 0, none⟩) (hO3.sb.on hgr4.size) (.slice (some ⟨g4, 0, none⟩) (s1.row.length + m) cap4)
    rw [hvr] at hrun
    rw [hmi] at hm1 ⊢
    have hm0 : (0 : Int) < m := hm1
    have Hm := hid hm
    have Hmi := hid hmi
    have Hmore := hid hmore
    clear hm hmi hmore hm1
    have hob4 : W4.heap[sb]? = W3.heap[sb]? := hgr4.block sb (lay_lt hL2).1 (own_ne hL2.row hL2.obj (by decide))
    have th4 : W4.frozen? ⟨sb, 0, none⟩ = false := by rw [World.frozen?_of_block hob4]; exact th0
    have c4 : W4.cell? ⟨sb, 0, none⟩ = some (.slice ao s1.row.length cap) := by rw [World.cell?_of_block hob4]; exact c0
    go_upto_region 6 with (at_builtin; refine Lib.wpList_append_run _ rfl _ _ _ _ rfl _ _ rfl rfl _ _ hrun ?_)
    have hO5 : Own (Nx S W (W4.setCell ⟨sb, 0, none⟩ (.slice (some ⟨g4, 0, none⟩) (s1.row.length + m) cap4))) sb (.slice (some ⟨g4, 0, none⟩) (s1.row.length + m) cap4) vb vf := by
      have hs5 : W3.heap.size ≤ (W4.setCell ⟨sb, 0, none⟩ (.slice (some ⟨g4, 0, none⟩) (s1.row.length + m) cap4)).heap.size := by simpa [World.setCell] using hgr4.size
      have o5 := hO3.on hs5
      refine ⟨o5.sb, fun k e => ?_, o5.blk, o5.free⟩
      rcases hnew4 k e with g | ⟨g1, g2⟩
      · exact o5.row k g
      · exact .inr ⟨by have := hU2.size; omega, by simpa [World.setCell] using g2⟩
    clear hrun hown4 hgr4 hnew4 hL2 hU2 hO3 hU4 hob4 th4 c4 c0 th0 hi hz0 hz1 hz2
    have hlen5 : ({ s2 with row := longer s1.row (p + u) } : Sto).row.length = s1.row.length + m := hrow'
    have hle : p + u ≤ s1.row.length + m := by have := Hm.out; omega
    generalize World.setCell W4 _ _ = W5 at *
    generalize s1.row.length + m = len5 at *
    clear hlen5
    generalize hs5 : ({ s2 with row := longer s1.row (p + u) } : Sto) = s5 at hL5
    have hn5 : s5.get n = some { bn with pos := (p : Int) } := by rw [← hs5]; exact hn2
    have hb5 : s5.get bk = some bb := by rw [← hs5]; exact hb2
    have hx5 : s5.get nx = some bx := by rw [← hs5]; exact hx2
    have hl5 : s5.blks.length ≤ 1000000000 := by rw [← hs5]; exact hlen2
    have hr5 : s5.row.length = len5 := by rw [← hs5]; exact hrow'
    have hfin : Hid ({ ({ s5 with row := setL s5.row p (List.replicate u 0) } : Sto).linked n bk nx with hand := (n : Int) } = s1.laid n bk nx p u) := by
      rw [← hs5]; exact hid (by unfold Sto.laid; rw [← hlaid]; rfl)
    clear hn2 hb2 hx2 hlen2 hlaid hrow' hs5
    have c0 := hL5.cell 0
    simp [Sto.obj] at c0
    obtain ⟨_, d1, d2, _, _⟩ := bcells hL5 hn5 pn
    have gne : sb ≠ g4 := by
      have := own_ne hL5.row hL5.obj (by decide)
      simpa [Value.ownBlock] using this
    have bne : Bn ≠ g4 := by
      rcases pn with ⟨_, rfl, _⟩ | ⟨_, e, _⟩
      · exact gne
      · have := own_apart hL5.blk hL5.row (by decide)
        rw [e] at this
        simpa [Value.ownBlock] using this
    have ce := end_c W5.drew Bn On p bn.len d1 d2 (by omega) hl1 (by omega) (by omega)
    rw [hu] at ce
    have hcl : ∀ q ty, (Builtin.clear_ #[39] ty #[.slice (some ⟨g4, p, none⟩) u (cap4 - p)]).run Tryz.prog (W5.drewN q) = .ok (.tuple #[]) ((W5.drewN q).setCells g4 p (List.replicate u (.int .u8 0))) := fun q ty => Lib.run_clear_slice _ _ _ ty _ under57 zero5 rfl rfl g4 p u _ (by omega) (fun j hj => by
        have e := rcell hL5 (g := g4) (cap := cap4) (by rw [hr5]) (p + j) (by omega)
        have e' : (W5.drewN q).cell? ⟨g4, p + j, none⟩ = W5.cell? ⟨g4, p + j, none⟩ := rfl
        rw [e', e]; rfl) (fun j hj => by
        have e := hL5.row
        rw [hr5] at e
        have e' : (W5.drewN q).frozen? ⟨g4, p + j, none⟩ = W5.frozen? ⟨g4, p + j, none⟩ := rfl
        rw [e']; exact e.frozenAt _)
    have k0 : ∀ q, ((W5.drewN q).setCells g4 p (List.replicate u (.int .u8 0))).cell? ⟨sb, 0, none⟩ = some (.slice (some ⟨g4, 0, none⟩) len5 cap4) := fun q => (World.cell?_of_block (w := W5) (setCells_far (W5.drewN q) g4 p _ sb gne)).trans c0
    have k1 : ∀ q, ((W5.drewN q).setCells g4 p (List.replicate u (.int .u8 0))).cell? ⟨Bn, On + 1, none⟩ = some (.int .i64 p) := fun q => (World.cell?_of_block (w := W5) (setCells_far (W5.drewN q) g4 p _ Bn bne)).trans d1
    have k2 : ∀ q, ((W5.drewN q).setCells g4 p (List.replicate u (.int .u8 0))).cell? ⟨Bn, On + 2, none⟩ = some (.int .i64 bn.len) := fun q => (World.cell?_of_block (w := W5) (setCells_far (W5.drewN q) g4 p _ Bn bne)).trans d2
    have hcap' : (p : Int) + u ≤ cap4 := by omega
    have hsub : ((p : Int) + u).toNat - p = u := by omega
    have hp0 : (0 : Int) ≤ p := by omega
    have hpu : (p : Int) ≤ p + u := by omega
    have hnm : ¬ cap4 = p := by omega
    go_region_held3 (fun w' => w'.cell? ⟨sb, 0, none⟩ = some (.slice (some ⟨g4, 0, none⟩) len5 cap4) ∧ w'.cell? ⟨Bn, On + 1, none⟩ = some (.int .i64 p) ∧ w'.cell? ⟨Bn, On + 2, none⟩ = some (.int .i64 bn.len)) (first | exact ⟨c0, d1, d2⟩ | exact ⟨k0 _, k1 _, k2 _⟩) (first | (go_at_call 116; (with_reducible refine ce.mono ?_); rintro e w' ⟨rfl, m6, hw⟩; (have hw' := hw.symm); subst hw'; clear hw))
    have hL6 := (hL5.drewN (1 + m6)).rstores (g := g4) (cap := cap4) (by rw [hr5]) p (List.replicate u 0)
    rw [List.map_replicate, show byteV 0 = .int .u8 0 from rfl] at hL6
    have hU6 := (hU5.drewN (1 + m6)).setCells' (g := g4) (hO5.row g4 rfl) p (List.replicate u (.int .u8 0))
    have z6 := setCells_size (W5.drewN (1 + m6)) g4 p (List.replicate u (.int .u8 0))
    have hO6 : Own (Nx S W ((W5.drewN (1 + m6)).setCells g4 p (List.replicate u (.int .u8 0)))) sb (.slice (some ⟨g4, 0, none⟩) len5 cap4) vb vf := hO5.on (Nat.le_of_eq z6.symm)
    clear hL5 hU5 hO5 k0 k1 k2 c0 d1 d2 ce hcl z6
    generalize World.setCells (World.drewN W5 (1 + m6)) _ _ _ = W6 at *
    have cl := link_c hL6 (by exact hl5) n bk nx { bn with pos := (p : Int) } bb bx (by exact hn5) (by exact hb5) hnx (by exact hx5) ne1 ne2 hO6
    have HL : ∀ W7, Lay W7 sb (.slice (some ⟨g4, 0, none⟩) len5 cap4) vb vf (({ s5 with row := setL s5.row p (List.replicate u 0) } : Sto).linked n bk nx) → Upd (Nx S W W6) W6 W7 → W7.frozen? ⟨sb, 9, none⟩ = false ∧ (∃ v9, W7.cell? ⟨sb, 9, none⟩ = some v9) ∧ Hid (Lay (W7.setCell ⟨sb, 9, none⟩ (.int .i64 n)) sb (.slice (some ⟨g4, 0, none⟩) len5 cap4) vb vf (s1.laid n bk nx p u) ∧ Upd S W (W7.setCell ⟨sb, 9, none⟩ (.int .i64 n)) ∧ Own (Nx S W (W7.setCell ⟨sb, 9, none⟩ (.int .i64 n))) sb (.slice (some ⟨g4, 0, none⟩) len5 cap4) vb vf) := by
      intro W7 hL7 hU7
      refine ⟨hL7.thaw 9, ⟨_, hL7.cell 9⟩, ?_⟩
      have hU8 := hU6.trans hU7
      refine ⟨?_, hU8.setCell (p := ⟨sb, 9, none⟩) (hO6.sb.on hU7.size) _, hO6.on (by simpa [World.setCell] using hU7.size)⟩
      rw [← hfin.out]
      exact hL7.store 9 _ rfl rfl rfl rfl
    have HG := hid hG
    clear hL6 hU6 hO6 hfin hn5 hb5 hx5 hG
    go_wp2_with (go_at_call 117; (with_reducible refine cl.mono ?_); rintro e W7 ⟨rfl, hL7, hU7⟩; obtain ⟨th9, ⟨v9, c9⟩, HF⟩ := HL W7 hL7 hU7; clear HL hL7 hU7 cl)
    go_end0
    exact ⟨rfl, HF.out.2.1, s1, bk, nx, p, HG, _, HF.out.1, HF.out.2.2⟩
  · have hm1 : ¬ 0 < (p : Int) + u - s1.row.length := by omega
    obtain ⟨g4, cap4, hv4, hcap4⟩ := own_slice hL2.row (by rw [hrow2]; omega)
    rw [hrow2] at hv4 hcap4
    have hle : p + u ≤ s1.row.length := by omega
    have hlg : longer s1.row (p + u) = s1.row := by rw [longer, Nat.sub_eq_zero_of_le hle]; simp
    have hrow' : (longer s1.row (p + u)).length = s1.row.length := by rw [hlg]
    have hL5 : Lay W3 sb vr1 vb vf { s2 with row := longer s1.row (p + u) } := by rw [hlg, ← hrow2]; exact hL2
    have hU5 := hU2
    have hO5 := hO3
    rw [hvr] at hv4
    simp at hv4
    obtain ⟨rfl, rfl⟩ := hv4
    rw [hvr] at hL5 hO5
    clear hL2 hU2 hO3 hmore
    go_upto_region 6 with fail
    generalize hs5 : ({ s2 with row := longer s1.row (p + u) } : Sto) = s5 at hL5
    generalize W3 = W5 at *
    generalize s1.row.length = len5 at *
    have hn5 : s5.get n = some { bn with pos := (p : Int) } := by rw [← hs5]; exact hn2
    have hb5 : s5.get bk = some bb := by rw [← hs5]; exact hb2
    have hx5 : s5.get nx = some bx := by rw [← hs5]; exact hx2
    have hl5 : s5.blks.length ≤ 1000000000 := by rw [← hs5]; exact hlen2
    have hr5 : s5.row.length = len5 := by rw [← hs5]; exact hrow'
    have hfin : Hid ({ ({ s5 with row := setL s5.row p (List.replicate u 0) } : Sto).linked n bk nx with hand := (n : Int) } = s1.laid n bk nx p u) := by
      rw [← hs5]; exact hid (by unfold Sto.laid; rw [← hlaid]; rfl)
    clear hn2 hb2 hx2 hlen2 hlaid hrow' hs5
    have c0 := hL5.cell 0
    simp [Sto.obj] at c0
    obtain ⟨_, d1, d2, _, _⟩ := bcells hL5 hn5 pn
    have gne : sb ≠ g4 := by
      have := own_ne hL5.row hL5.obj (by decide)
      simpa [Value.ownBlock] using this
    have bne : Bn ≠ g4 := by
      rcases pn with ⟨_, rfl, _⟩ | ⟨_, e, _⟩
      · exact gne
      · have := own_apart hL5.blk hL5.row (by decide)
        rw [e] at this
        simpa [Value.ownBlock] using this
    have ce := end_c W5.drew Bn On p bn.len d1 d2 (by omega) hl1 (by omega) (by omega)
    rw [hu] at ce
    have hcl : ∀ q ty, (Builtin.clear_ #[39] ty #[.slice (some ⟨g4, p, none⟩) u (cap - p)]).run Tryz.prog (W5.drewN q) = .ok (.tuple #[]) ((W5.drewN q).setCells g4 p (List.replicate u (.int .u8 0))) := fun q ty => Lib.run_clear_slice _ _ _ ty _ under57 zero5 rfl rfl g4 p u _ (by omega) (fun j hj => by
        have e := rcell hL5 (g := g4) (cap := cap) (by rw [hr5]) (p + j) (by omega)
        have e' : (W5.drewN q).cell? ⟨g4, p + j, none⟩ = W5.cell? ⟨g4, p + j, none⟩ := rfl
        rw [e', e]; rfl) (fun j hj => by
        have e := hL5.row
        rw [hr5] at e
        have e' : (W5.drewN q).frozen? ⟨g4, p + j, none⟩ = W5.frozen? ⟨g4, p + j, none⟩ := rfl
        rw [e']; exact e.frozenAt _)
    have k0 : ∀ q, ((W5.drewN q).setCells g4 p (List.replicate u (.int .u8 0))).cell? ⟨sb, 0, none⟩ = some (.slice (some ⟨g4, 0, none⟩) len5 cap) := fun q => (World.cell?_of_block (w := W5) (setCells_far (W5.drewN q) g4 p _ sb gne)).trans c0
    have k1 : ∀ q, ((W5.drewN q).setCells g4 p (List.replicate u (.int .u8 0))).cell? ⟨Bn, On + 1, none⟩ = some (.int .i64 p) := fun q => (World.cell?_of_block (w := W5) (setCells_far (W5.drewN q) g4 p _ Bn bne)).trans d1
    have k2 : ∀ q, ((W5.drewN q).setCells g4 p (List.replicate u (.int .u8 0))).cell? ⟨Bn, On + 2, none⟩ = some (.int .i64 bn.len) := fun q => (World.cell?_of_block (w := W5) (setCells_far (W5.drewN q) g4 p _ Bn bne)).trans d2
    have hcap' : (p : Int) + u ≤ cap := by omega
    have hsub : ((p : Int) + u).toNat - p = u := by omega
    have hp0 : (0 : Int) ≤ p := by omega
    have hpu : (p : Int) ≤ p + u := by omega
    have hnm : ¬ cap = p := by omega
    go_region_held3 (fun w' => w'.cell? ⟨sb, 0, none⟩ = some (.slice (some ⟨g4, 0, none⟩) len5 cap) ∧ w'.cell? ⟨Bn, On + 1, none⟩ = some (.int .i64 p) ∧ w'.cell? ⟨Bn, On + 2, none⟩ = some (.int .i64 bn.len)) (first | exact ⟨c0, d1, d2⟩ | exact ⟨k0 _, k1 _, k2 _⟩) (first | (go_at_call 116; (with_reducible refine ce.mono ?_); rintro e w' ⟨rfl, m6, hw⟩; (have hw' := hw.symm); subst hw'; clear hw))
    have hL6 := (hL5.drewN (1 + m6)).rstores (g := g4) (cap := cap) (by rw [hr5]) p (List.replicate u 0)
    rw [List.map_replicate, show byteV 0 = .int .u8 0 from rfl] at hL6
    have hU6 := (hU5.drewN (1 + m6)).setCells' (g := g4) (hO5.row g4 rfl) p (List.replicate u (.int .u8 0))
    have z6 := setCells_size (W5.drewN (1 + m6)) g4 p (List.replicate u (.int .u8 0))
    have hO6 : Own (Nx S W ((W5.drewN (1 + m6)).setCells g4 p (List.replicate u (.int .u8 0)))) sb (.slice (some ⟨g4, 0, none⟩) len5 cap) vb vf := hO5.on (Nat.le_of_eq z6.symm)
    clear hL5 hU5 hO5 k0 k1 k2 c0 d1 d2 ce hcl z6
    generalize World.setCells (World.drewN W5 (1 + m6)) _ _ _ = W6 at *
    have cl := link_c hL6 (by exact hl5) n bk nx { bn with pos := (p : Int) } bb bx (by exact hn5) (by exact hb5) hnx (by exact hx5) ne1 ne2 hO6
    have HL : ∀ W7, Lay W7 sb (.slice (some ⟨g4, 0, none⟩) len5 cap) vb vf (({ s5 with row := setL s5.row p (List.replicate u 0) } : Sto).linked n bk nx) → Upd (Nx S W W6) W6 W7 → W7.frozen? ⟨sb, 9, none⟩ = false ∧ (∃ v9, W7.cell? ⟨sb, 9, none⟩ = some v9) ∧ Hid (Lay (W7.setCell ⟨sb, 9, none⟩ (.int .i64 n)) sb (.slice (some ⟨g4, 0, none⟩) len5 cap) vb vf (s1.laid n bk nx p u) ∧ Upd S W (W7.setCell ⟨sb, 9, none⟩ (.int .i64 n)) ∧ Own (Nx S W (W7.setCell ⟨sb, 9, none⟩ (.int .i64 n))) sb (.slice (some ⟨g4, 0, none⟩) len5 cap) vb vf) := by
      intro W7 hL7 hU7
      refine ⟨hL7.thaw 9, ⟨_, hL7.cell 9⟩, ?_⟩
      have hU8 := hU6.trans hU7
      refine ⟨?_, hU8.setCell (p := ⟨sb, 9, none⟩) (hO6.sb.on hU7.size) _, hO6.on (by simpa [World.setCell] using hU7.size)⟩
      rw [← hfin.out]
      exact hL7.store 9 _ rfl rfl rfl rfl
    have HG := hid hG
    clear hL6 hU6 hO6 hfin hn5 hb5 hx5 hG
    go_wp2_with (go_at_call 117; (with_reducible refine cl.mono ?_); rintro e W7 ⟨rfl, hL7, hU7⟩; obtain ⟨th9, ⟨v9, c9⟩, HF⟩ := HL W7 hL7 hU7; clear HL hL7 hU7 cl)
    go_end0
    exact ⟨rfl, HF.out.2.1, s1, bk, nx, p, HG, _, HF.out.1, HF.out.2.2⟩
end
end Go.Proofs.YtndkfjoaiinjoaaGreat.W
/- Package store: what Pack does, in plain words. -/
namespace Go.Proofs.YtndkfjoaiinjoaaGreat.W
open Go.ChangeShapes Go.WideShapes Go.RowKit Go.Shelf
set_option linter.unusedVariables false

/-- blocks of the ring in their order, the front first, and where each lies and will lie -/
structure Pk (s : Sto) (c : List Nat) (bl : Nat → Blk) (p l u en : Nat → Nat) : Prop where
  ne : 0 < c.length
  zero : c[0]? = some 0
  nodup : c.Nodup
  get : ∀ i n, c[i]? = some n → s.get n = some (bl i)
  next : ∀ i, i < c.length → (bl i).next = (c[i + 1]?.getD 0 : Nat)
  pos : ∀ i, i < c.length → (bl i).pos = p i
  len : ∀ i, i < c.length → (bl i).len = l i
  up : ∀ i, i < c.length → up8 (l i) = u i
  en0 : en 0 = 0
  en1 : ∀ i, i < c.length → en (i + 1) = en i + u i
  le : ∀ i, i < c.length → en i ≤ p i
  stop : ∀ i, i < c.length → p i + u i ≤ s.row.length
  first : p 0 = 0 ∧ l 0 = 0
  rest : ∀ i, 0 < i → i < c.length → 0 < l i
theorem Pk.lu {s : Sto} {c : List Nat} {bl : Nat → Blk} {p l u en : Nat → Nat} (k : Pk s c bl p l u en) {i : Nat} (hi : i < c.length) : l i ≤ u i ∧ u i ≤ l i + 7 := by
  have := k.up i hi
  unfold up8 at this
  omega
theorem Pk.end_le {s : Sto} {c : List Nat} {bl : Nat → Blk} {p l u en : Nat → Nat} (k : Pk s c bl p l u en) : en c.length ≤ s.row.length := by
  have h0 := k.ne
  obtain ⟨m, hm⟩ : ∃ m, c.length = m + 1 := ⟨c.length - 1, by omega⟩
  rw [hm, k.en1 m (by omega)]
  have h1 := k.le m (by omega)
  have h2 := k.stop m (by omega)
  omega
def packN (s : Sto) (c : List Nat) (bl : Nat → Blk) (p l en : Nat → Nat) : Nat → Sto
  | 0 => s
  | i + 1 => { (packN s c bl p l en i).set (c.getD i 0) { bl i with pos := en i } with row := setL (packN s c bl p l en i).row (en i) (seg (packN s c bl p l en i).row (p i) (l i)), hand := (c.getD i 0 : Nat) }
section
variable {s : Sto} {c : List Nat} {bl : Nat → Blk} {p l u en : Nat → Nat}
theorem packN_row (i : Nat) : (packN s c bl p l en i).row.length = s.row.length := by
  induction i with
  | zero => rfl
  | succ i ih => simp [packN, setL_len, ih]
theorem packN_blks (i : Nat) : (packN s c bl p l en i).blks.length = s.blks.length := by
  induction i with
  | zero => rfl
  | succ i ih => simp [packN, set_len, ih]
theorem packN_rest (i : Nat) : (packN s c bl p l en i).free = s.free ∧ (packN s c bl p l en i).used = s.used ∧ (packN s c bl p l en i).sought = s.sought := by
  induction i with
  | zero => exact ⟨rfl, rfl, rfl⟩
  | succ i ih => simp [packN, set_free, set_used, set_sought, ih]
theorem getD_get {i n : Nat} (h : c[i]? = some n) : c.getD i 0 = n := by simp [List.getD, h]
theorem packN_later (hd : c.Nodup) (i j n : Nat) (h : i ≤ j) (hn : c[j]? = some n) : (packN s c bl p l en i).get n = s.get n := by
  induction i with
  | zero => rfl
  | succ i ih =>
    have hj := (List.getElem?_eq_some_iff.1 hn).1
    have e : c[i]? = some c[i] := List.getElem?_eq_getElem (by omega)
    have hne : n ≠ c.getD i 0 := by
      rw [getD_get e]
      obtain ⟨_, e2⟩ := List.getElem?_eq_some_iff.1 hn
      rw [← e2]
      exact (List.pairwise_iff_getElem.1 hd i j (by omega) hj (by omega)).symm
    show (({ (packN s c bl p l en i).set (c.getD i 0) { bl i with pos := en i } with row := _, hand := _ } : Sto)).get n = _
    have : (({ (packN s c bl p l en i).set (c.getD i 0) { bl i with pos := en i } with row := setL (packN s c bl p l en i).row (en i) (seg (packN s c bl p l en i).row (p i) (l i)), hand := (c.getD i 0 : Nat) } : Sto)).get n = ((packN s c bl p l en i).set (c.getD i 0) { bl i with pos := en i }).get n := rfl
    rw [this, get_set_ne _ hne]
    exact ih (by omega)
theorem packN_earlier (k : Pk s c bl p l u en) (i j n : Nat) (h : j < i) (hi : i ≤ c.length) (hn : c[j]? = some n) : (packN s c bl p l en i).get n = some { bl j with pos := en j } := by
  induction i with
  | zero => omega
  | succ i ih =>
    have hj := (List.getElem?_eq_some_iff.1 hn).1
    have e : c[i]? = some c[i] := List.getElem?_eq_getElem (by omega)
    have this : (packN s c bl p l en (i + 1)).get n = ((packN s c bl p l en i).set (c.getD i 0) { bl i with pos := en i }).get n := rfl
    rw [this]
    by_cases hji : j = i
    · subst hji
      rw [getD_get hn]
      refine get_set_same (b := bl j) ?_ _
      rw [packN_later k.nodup j j n (Nat.le_refl _) hn]
      exact k.get j n hn
    · have hne : n ≠ c.getD i 0 := by
        rw [getD_get e]
        obtain ⟨_, e2⟩ := List.getElem?_eq_some_iff.1 hn
        rw [← e2]
        exact List.pairwise_iff_getElem.1 k.nodup j i hj (by omega) (by omega)
      rw [get_set_ne _ hne]
      exact ih (by omega) (by omega)
end
theorem own_take {W : World} {e : TypeId} {v : Value} {n m : Nat} {xs : List Value} {o : Option Addr} {cap : Nat} (h : W.ownsRow 0 e 1 v n xs) (hv : v = .slice o n cap) (hm : m ≤ n) : W.ownsRow 0 e 1 (.slice o m cap) m (xs.take m) := by
  subst hv
  obtain ⟨h1, h2⟩ := h
  refine ⟨by simp at h1 ⊢; omega, ?_⟩
  rcases h2 with ⟨e, rfl⟩ | ⟨g, cap', cur, e, hb, hg, hc, hcm, hs, ht⟩
  · cases e
    exact .inl ⟨by rw [show m = 0 by omega], by omega⟩
  · cases e
    refine .inr ⟨g, cap, cur, rfl, hb, hg, by omega, hcm, hs, ?_⟩
    rw [← ht, List.take_take]
    congr 1; omega
end Go.Proofs.YtndkfjoaiinjoaaGreat.W
/- A region that draws its order, in a round of a range over a function: as anywhere. -/
namespace Go.Proofs.YtndkfjoaiinjoaaGreat.W
open Go.ChangeShapes Go.WideShapes Go.RowKit Go.Shelf
set_option linter.unusedVariables false

theorem opIn_of_wp {P : Program} {L n : Nat} {o : Oper} {a : Act} {w : World} {K K' : Act → World → Prop} {Q : Exit → Act → World → Prop} (hd : ∀ c, o.op ≠ .defer c) (hK : ∀ a w, K a w → K' a w) (h : o.wp P a w K Q) : o.wpIn (Fence.wide.inRound L) n P a w K' Q := by
  refine ⟨fun _ _ => trivial, ?_⟩
  rw [Oper.semAt_eq _ _ _ hd]
  unfold Oper.wp at h
  generalize (execOp a.eval o).run P w = r at *
  cases r with
  | ok x w' =>
    cases x with
    | value v => exact hK _ _ h
    | skip => exact hK _ _ h
    | defer d => exact hK _ _ h
    | enter f args =>
      refine ⟨fun e => by simp [Fence.wide, Fence.inRound] at e, ?_⟩
      refine CallsIn.inRound L (callsIn_wide.2 (Calls.mono h ?_))
      intro e w'' he
      cases e with
      | returned v => exact hK _ _ he
      | panicked ch => exact he
      | outgrown => exact he
    | row row args =>
      refine ⟨fun e => by simp [Fence.wide, Fence.inRound] at e, ?_⟩
      intro c cs _
      obtain ⟨v, w'', hr, hs⟩ := h c cs
      exact ⟨v, w'', hK _ _ hr, stepsIn_wide.2 hs⟩
    | round l f tmps assign body => exact h.elim
    | _ => exact h.elim
  | halt x w' => cases x <;> first | exact h | exact h.elim
theorem opsIn_of_wp {P : Program} {L n : Nat} {ops : Array Oper} {i : Nat} {a : Act} {w : World} {K K' : Act → World → Prop} {Q : Exit → Act → World → Prop} (hd : ∀ (i : Nat) (o : Oper), ops[i]? = some o → ∀ c, o.op ≠ .defer c) (hno : ¬ LetsOut Q) (hK : ∀ a w, K a w → K' a w) (h : wpOp P ops Q i K a w) : wpOpIn (Fence.wide.inRound L) n P ops Q i K' a w := by
  unfold wpOp at h
  unfold wpOpIn
  cases ho : ops[i]? with
  | none => rw [ho] at h; exact hK _ _ h
  | some o =>
    rw [ho] at h
    simp only at h ⊢
    split
    · rename_i hw
      rw [if_pos hw] at h
      rcases h with h | h
      · exact opIn_of_wp (hd i o ho) hK h
      · exact absurd h.2 hno
    · rename_i hw
      rw [if_neg hw] at h
      exact ⟨fun _ _ => trivial, hK _ _ h⟩
theorem anyIn_of_held {P : Program} {L n : Nat} {ops : Array Oper} {md : Region.Mode} {S : World → Prop} {Q : Exit → Act → World → Prop} (hd : ∀ (i : Nat) (o : Oper), ops[i]? = some o → ∀ c, o.op ≠ .defer c) (hno : ¬ LetsOut Q) :
    ∀ (fuel : Nat) (listed : Array Bool) (a : Act) (w : World), wpAnyH P md ops Q S fuel listed a w → wpAnyIn (Fence.wide.inRound L) n P md ops Q fuel listed a w
  | 0, _, _, _, h => h
  | fuel + 1, listed, a, w, h => ⟨h.1, fun i hi => opsIn_of_wp hd hno (fun a' w' h' => anyIn_of_held hd hno fuel _ a' w' h'.2) (h.2 i hi)⟩
theorem anyIn_of_any {P : Program} {L n : Nat} {ops : Array Oper} {md : Region.Mode} {Q : Exit → Act → World → Prop} (hd : ∀ (i : Nat) (o : Oper), ops[i]? = some o → ∀ c, o.op ≠ .defer c) (hno : ¬ LetsOut Q) :
    ∀ (fuel : Nat) (listed : Array Bool) (a : Act) (w : World), wpAny P md ops Q fuel listed a w → wpAnyIn (Fence.wide.inRound L) n P md ops Q fuel listed a w
  | 0, _, _, _, h => h
  | fuel + 1, listed, a, w, h => ⟨h.1, fun i hi => opsIn_of_wp hd hno (fun a' w' h' => anyIn_of_any hd hno fuel _ a' w' h') (h.2 i hi)⟩
/-- is no operation of a region a defer statement? -/
def noDefer (ops : Array Oper) : Bool := ops.all (fun o => match o.op with | .defer _ => false | _ => true)
theorem noDefer_spec {ops : Array Oper} (h : noDefer ops = true) : ∀ (i : Nat) (o : Oper), ops[i]? = some o → ∀ c, o.op ≠ .defer c := by
  intro i o ho c hc
  obtain ⟨hi, e⟩ := Array.getElem?_eq_some_iff.1 ho
  have := (Array.all_eq_true.1 h) i hi
  rw [e, hc] at this
  cases this
/-- the beginning, where one condition on the world holds along the region -/
theorem round_held {P : Program} {L n id : Nat} {ops : Array Oper} {S : World → Prop} {Q : Exit → Act → World → Prop} {a : Act} {w : World} (hm : P.follows .mixedOrders = true) (hd : noDefer ops = true) (hno : ¬ LetsOut Q) (h : wpAnyH P .any ops Q S ops.size (Array.replicate ops.size false) a w.drew) : (Code.region id ops true).wpIn (Fence.wide.inRound L) n P Q a w :=
  wpIn_region_any hm (anyIn_of_held (noDefer_spec hd) hno _ _ _ _ h)
/-- a region that only reads -/
theorem round_quiet {P : Program} {L n id : Nat} {l : List Oper} {Q : Exit → Act → World → Prop} {a : Act} {w : World} (hm : P.follows .mixedOrders = true) (hd : noDefer l.toArray = true) (hno : ¬ LetsOut Q) (hB : Region.lexB .any l.toArray = true)
    (h : wpQuiet P l.toArray (fun w' => ∃ n, w' = w.drewN n) (fun a' => ∀ w', (∃ n, w' = w.drewN n) → Q .normal a' w') l a) : (Code.region id l.toArray true).wpIn (Fence.wide.inRound L) n P Q a w := by
  simp only [Region.lexB, Bool.and_eq_true] at hB
  refine wpIn_region_any hm (anyIn_of_any (noDefer_spec hd) hno _ _ _ _ (wpAny_of_quiet (C := fun w' => ∃ n, w' = w.drewN n) (Q := fun a' => ∀ w', (∃ n, w' = w.drewN n) → Q .normal a' w') (fun _ w' hw' h => h w' hw') _ _ _ _ ⟨1, rfl⟩ ?_))
  have := wpAnyQ_lex (C := fun w' => ∃ n, w' = w.drewN n) (md := .any) hB.1 l 0 (Array.replicate l.toArray.size false) a (by simp) (by simpa using hB.2) h
  simpa using this
end Go.Proofs.YtndkfjoaiinjoaaGreat.W
