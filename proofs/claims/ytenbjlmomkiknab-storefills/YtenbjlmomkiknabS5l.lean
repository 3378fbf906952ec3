/- Package store: lay. -/
import Derived.Test.YtenbjlmomkiknabS5k
import Derived.Test.YtenbjlmomkiknabS5e
namespace Go.Proofs.Ytenbjlmomkiknab.W
open Go.ChangeShapes Go.WideShapes Go.RowKit Go.Shelf
set_option linter.unusedVariables false

/-- the row with a place for a new block, cleared -/
def longer (row : List Nat) (e : Nat) : List Nat := row ++ List.replicate (e - row.length) 0
def layRow (row : List Nat) (p u : Nat) : List Nat := setL (longer row (p + u)) p (List.replicate u 0)
/-- a new block has its place, behind bk -/
def Sto.laid (s : Sto) (n bk nx p u : Nat) : Sto := { ({ s.set n { s.getD n with pos := (p : Int) } with row := layRow s.row p u } : Sto).linked n bk nx with hand := n }
/-- what seek leaves -/
def SeekPost (S : Nat → Prop) (W : World) (sb : Nat) (vb vf : Value) (n : Nat) (bn : Blk) (G : Sto → Nat → Nat → Nat → Prop) (e : Ending) (w' : World) : Prop :=
  ∃ (s1 : Sto) (vr1 : Value) (bk nx p : Nat) (bb bx : Blk), e = .returned (.int .i64 bk) ∧ Upd S W w' ∧ Lay w' sb vr1 vb vf s1 ∧ Own (Nx S W w') sb vr1 vb vf ∧ Fit s1 ∧ s1.get n = some bn ∧ s1.get bk = some bb ∧ bb.next = nx ∧ s1.get nx = some bx ∧ bk ≠ n ∧ nx ≠ n ∧ bb.stop = p ∧ G s1 bk nx p
theorem info5 : (Try.prog.info? 5).map (fun i => (i.zero, i.size, i.bytes)) = some (some (.int .u8 0), 1, 1) := by kernel_rfl
theorem under57 : Try.prog.underlying 30 = some (.slice 5) := by kernel_rfl
theorem under3 : Try.prog.underlying 3 = some (.int .i64) := by kernel_rfl
theorem zero5 (w : World) : (zeroValue 5).run Try.prog w = .ok (.int .u8 0) w := by
  obtain ⟨i0, hi, hz0, hz1, hz2⟩ := info_parts info5
  simp [zeroValue, typeInfo, hi, hz0]
section
variable {W : World} {sb : Nat} {vr vb vf : Value} {s : Sto}
set_option maxRecDepth 20000 in
set_option maxHeartbeats 2000000 in
theorem lay_c (h : Lay W sb vr vb vf s) (hlen : s.blks.length ≤ 1000000000) (n u : Nat) (bn : Blk) (hn : s.get n = some bn) (hl0 : 0 < bn.len) (hl1 : bn.len ≤ 100000000) (hu : up8 bn.len = u) {S : Nat → Prop} (G : Sto → Nat → Nat → Nat → Prop)
    (cs : Calls Try.prog 82 #[.pointer (some ⟨sb, 0, none⟩), .int .i64 (u : Int)] W (SeekPost S W sb vb vf n bn G)) :
    Calls Try.prog 52 #[.pointer (some ⟨sb, 0, none⟩), .int .i64 n] W fun e w' => e = .returned (.tuple #[]) ∧ Upd S W w' ∧ ∃ s1 bk nx p, G s1 bk nx p ∧ ∃ vr2, Lay w' sb vr2 vb vf (s1.laid n bk nx p u) ∧ Own (Nx S W w') sb vr2 vb vf := by
  obtain ⟨Bn, On, pn⟩ := h.pt hn
  obtain ⟨_, _, c2, _, _⟩ := bcells h hn pn
  have cb := block_c W sb vr vb vf s h n bn hn hlen Bn On pn
  have cu := roundUp_c bn.len W (by omega) (by omega)
  rw [hu] at cu
  have hu8 : 8 ≤ u ∧ u ≤ 100000008 := by
    unfold up8 at hu
    omega
  obtain ⟨hu0, hu1⟩ := hu8
  go_enter Try.func52, Try.ntmps52
  go_upto_region 2 with (first | (go_at_call 59; (with_reducible refine cb.mono ?_); rintro e w' ⟨rfl, hw⟩; (have hw' := hw.symm); subst hw'; clear hw) | (go_at_call 51; (with_reducible refine cu.mono ?_); rintro e w' ⟨rfl, hw⟩; (have hw' := hw.symm); subst hw'; clear hw) | (go_at_call 82; (with_reducible refine cs.mono ?_); rintro e W1 ⟨s1, vr1, bk, nx, p, bb, bx, rfl, hU1, hL1, hO1, f1, hn1, hb1, hnx, hx1, ne1, ne2, hp, hG⟩; clear cb c2 cu cs))
  -- region 2: b.at = s.block(back).end()
  obtain ⟨Bb, Ob, pb⟩ := hL1.pt hb1
  obtain ⟨_, e1, e2, _, _⟩ := bcells hL1 hb1 pb
  obtain ⟨q1, q2, q3, q4⟩ := f1.blk bk bb hb1
  obtain ⟨st0, st1⟩ := stop_le f1 hb1
  have cb := block_c W1 sb vr1 vb vf s1 hL1 bk bb hb1 f1.len Bb Ob pb
  have ce := end_c W1 Bb Ob bb.pos bb.len e1 e2 q3 q4 q1 (by omega)
  have hpb : (p : Int) ≤ 1000200000000 := by omega
  rw [show bb.pos + up8 bb.len = (p : Int) from hp] at ce
  obtain ⟨_, d1, _, _, _⟩ := bcells hL1 hn1 pn
  have t1 := hL1.bthaw hn1 pn 1
  go_upto_region 3 with (first | (go_at_call 59; (with_reducible refine cb.mono ?_); rintro e w' ⟨rfl, hw⟩; (have hw' := hw.symm); subst hw'; clear hw) | (go_at_call 60; (with_reducible refine ce.mono ?_); rintro e w' ⟨rfl, m1, hw⟩; (have hw' := hw.symm); subst hw'; clear hw))
  have hL2 := (hL1.drewN m1).bstore (c := { bn with pos := (p : Int) }) hn1 pn 1 (by omega) (.int .i64 p) rfl
  have hU2 := (hU1.drewN m1).setCell (p := ⟨Bn, On + 1, none⟩) (hO1.pt pn) (.int .i64 p)
  have z2 : ((W1.drewN m1).setCell ⟨Bn, On + 1, none⟩ (.int .i64 p)).heap.size = W1.heap.size := by simp [World.setCell]
  clear cb ce d1 t1 e1 e2
  generalize World.setCell (World.drewN W1 m1) _ _ = W2 at *
  have hn2 : (s1.set n { bn with pos := (p : Int) }).get n = some { bn with pos := (p : Int) } := get_set_same hn1 _
  have hb2 : (s1.set n { bn with pos := (p : Int) }).get bk = some bb := by rw [get_set_ne _ ne1]; exact hb1
  have hx2 : (s1.set n { bn with pos := (p : Int) }).get nx = some bx := by rw [get_set_ne _ ne2]; exact hx1
  have hrow2 : (s1.set n { bn with pos := (p : Int) }).row = s1.row := set_row _ _ _
  have hlen2 : (s1.set n { bn with pos := (p : Int) }).blks.length ≤ 1000000000 := by rw [set_len]; exact f1.len
  have hlaid : ({ s1.set n { bn with pos := (p : Int) } with row := layRow s1.row p u } : Sto).linked n bk nx = ({ s1.set n { s1.getD n with pos := (p : Int) } with row := layRow s1.row p u } : Sto).linked n bk nx := by rw [getD_of hn1]
  have frow := f1.row
  have hO1' := hO1
  clear hL1 hU1 hO1 hb1 hx1 hn1 pb
  generalize s1.set n { bn with pos := (p : Int) } = s2 at *
  -- region 3: more := b.end() - len(s.row)
  obtain ⟨_, d1, d2, _, _⟩ := bcells hL2 hn2 pn
  have c0 := hL2.cell 0
  simp [Sto.obj] at c0
  have hvr : ∃ o cap, vr1 = .slice o s1.row.length cap := by
    rcases hL2.row.2 with ⟨e, e'⟩ | ⟨g, cap, cur, e, _⟩
    · exact ⟨none, 0, by rw [e, ← hrow2, e']⟩
    · exact ⟨_, _, by rw [← hrow2]; exact e⟩
  obtain ⟨ao, cap, hvr⟩ := hvr
  rw [hvr] at c0
  have ce := fun q => end_c (W2.drewN q) Bn On p bn.len d1 d2 (by omega) hl1 (by omega) (by omega)
  rw [hu] at ce
  go_quiet ((go_at_call 60; exact Calls.quiet_of (ce _)))
  replace hL2 := hL2.drewN nq
  replace hU2 := hU2.drewN nq
  replace z2 : (W2.drewN nq).heap.size = W1.heap.size := z2
  clear ce d1 d2 c0
  generalize World.drewN W2 nq = W3 at *
  have hO3 : Own (Nx S W W3) sb vr1 vb vf := hO1'.mono (fun k hk => hk.imp id (fun g => ⟨g.1, by omega⟩))
  by_cases hmore : s1.row.length < p + u
  · have hm1 : 0 < (p : Int) + u - s1.row.length := by omega
    have c0 := hL2.cell 0
    simp [Sto.obj] at c0
    rw [hvr] at c0
    have th0 := hL2.thaw 0
    obtain ⟨i0, hi, hz0, hz1, hz2⟩ := info_parts info5
    obtain ⟨m, hm⟩ : ∃ m : Nat, m = p + u - s1.row.length := ⟨_, rfl⟩
    have hmi : (p : Int) + u - s1.row.length = (m : Int) := by omega
    obtain ⟨vr2, W4, hrun, hown4, hgr4, hnew4⟩ := append_zeros (P := Try.prog) W3 30 3 30 5 i0 (.int .u8 0) .i64 .i64 under57 under3 hi hz0 hz1 hz2 rfl rfl vr1 s2.row.length _ hL2.row m (by omega) (by rw [hrow2]; omega)
    rw [hrow2] at hown4
    obtain ⟨g4, cap4, rfl, hcap4⟩ := own_slice hown4 (by omega)
    have hrow' : (longer s1.row (p + u)).length = s1.row.length + m := by simp only [longer, List.length_append, List.length_replicate]; omega
    have hL5 : Lay (W4.setCell ⟨sb, 0, none⟩ (.slice (some ⟨g4, 0, none⟩) (s1.row.length + m) cap4)) sb (.slice (some ⟨g4, 0, none⟩) (s1.row.length + m) cap4) vb vf { s2 with row := longer s1.row (p + u) } := by
      refine hL2.regrow_row hgr4 ?_
      rw [hrow']
      have e : (longer s1.row (p + u)).map byteV = s1.row.map byteV ++ List.replicate m (.int .u8 0) := by
        rw [longer, List.map_append, List.map_replicate, ← hm]; rfl
      rw [e]; exact hown4
    have hU4 := hU2.grown hgr4 (fun k e => hO3.row k e)
    have hU5 := hU4.setCell (p := ⟨sb, 0, none⟩) (hO3.sb.on hgr4.size) (.slice (some ⟨g4, 0, none⟩) (s1.row.length + m) cap4)
    rw [hvr] at hrun
    rw [hmi] at hm1 ⊢
    have hm0 : (0 : Int) < m := hm1
    have Hm := hid hm
    have Hmi := hid hmi
    have Hmore := hid hmore
    clear hm hmi hmore hm1
    have hob4 : W4.heap[sb]? = W3.heap[sb]? := hgr4.block sb (lay_lt hL2).1 (own_ne hL2.row hL2.obj (by decide))
    have th4 : W4.frozen? ⟨sb, 0, none⟩ = false := by rw [World.frozen?_of_block hob4]; exact th0
    have c4 : W4.cell? ⟨sb, 0, none⟩ = some (.slice ao s1.row.length cap) := by rw [World.cell?_of_block hob4]; exact c0
    go_upto_region 6 with (at_builtin; refine Lib.wpList_append_run _ rfl _ _ _ _ rfl _ _ rfl rfl _ _ hrun ?_)
    have hO5 : Own (Nx S W (W4.setCell ⟨sb, 0, none⟩ (.slice (some ⟨g4, 0, none⟩) (s1.row.length + m) cap4))) sb (.slice (some ⟨g4, 0, none⟩) (s1.row.length + m) cap4) vb vf := by
      have hs5 : W3.heap.size ≤ (W4.setCell ⟨sb, 0, none⟩ (.slice (some ⟨g4, 0, none⟩) (s1.row.length + m) cap4)).heap.size := by simpa [World.setCell] using hgr4.size
      have o5 := hO3.on hs5
      refine ⟨o5.sb, fun k e => ?_, o5.blk, o5.free⟩
      rcases hnew4 k e with g | ⟨g1, g2⟩
      · exact o5.row k g
      · exact .inr ⟨by have := hU2.size; omega, by simpa [World.setCell] using g2⟩
    clear hrun hown4 hgr4 hnew4 hL2 hU2 hO3 hU4 hob4 th4 c4 c0 th0 hi hz0 hz1 hz2
    have hlen5 : ({ s2 with row := longer s1.row (p + u) } : Sto).row.length = s1.row.length + m := hrow'
    have hle : p + u ≤ s1.row.length + m := by have := Hm.out; omega
    generalize World.setCell W4 _ _ = W5 at *
    generalize s1.row.length + m = len5 at *
    clear hlen5
    generalize hs5 : ({ s2 with row := longer s1.row (p + u) } : Sto) = s5 at hL5
    have hn5 : s5.get n = some { bn with pos := (p : Int) } := by rw [← hs5]; exact hn2
    have hb5 : s5.get bk = some bb := by rw [← hs5]; exact hb2
    have hx5 : s5.get nx = some bx := by rw [← hs5]; exact hx2
    have hl5 : s5.blks.length ≤ 1000000000 := by rw [← hs5]; exact hlen2
    have hr5 : s5.row.length = len5 := by rw [← hs5]; exact hrow'
    have hfin : Hid ({ ({ s5 with row := setL s5.row p (List.replicate u 0) } : Sto).linked n bk nx with hand := (n : Int) } = s1.laid n bk nx p u) := by
      rw [← hs5]; exact hid (by unfold Sto.laid; rw [← hlaid]; rfl)
    clear hn2 hb2 hx2 hlen2 hlaid hrow' hs5
    have c0 := hL5.cell 0
    simp [Sto.obj] at c0
    obtain ⟨_, d1, d2, _, _⟩ := bcells hL5 hn5 pn
    have gne : sb ≠ g4 := by
      have := own_ne hL5.row hL5.obj (by decide)
      simpa [Value.ownBlock] using this
    have bne : Bn ≠ g4 := by
      rcases pn with ⟨_, rfl, _⟩ | ⟨_, e, _⟩
      · exact gne
      · have := own_apart hL5.blk hL5.row (by decide)
        rw [e] at this
        simpa [Value.ownBlock] using this
    have ce := end_c W5.drew Bn On p bn.len d1 d2 (by omega) hl1 (by omega) (by omega)
    rw [hu] at ce
    have hcl : ∀ q ty, (Builtin.clear_ #[30] ty #[.slice (some ⟨g4, p, none⟩) u (cap4 - p)]).run Try.prog (W5.drewN q) = .ok (.tuple #[]) ((W5.drewN q).setCells g4 p (List.replicate u (.int .u8 0))) := fun q ty => Lib.run_clear_slice _ _ _ ty _ under57 zero5 rfl rfl g4 p u _ (by omega) (fun j hj => by
        have e := rcell hL5 (g := g4) (cap := cap4) (by rw [hr5]) (p + j) (by omega)
        have e' : (W5.drewN q).cell? ⟨g4, p + j, none⟩ = W5.cell? ⟨g4, p + j, none⟩ := rfl
        rw [e', e]; rfl) (fun j hj => by
        have e := hL5.row
        rw [hr5] at e
        have e' : (W5.drewN q).frozen? ⟨g4, p + j, none⟩ = W5.frozen? ⟨g4, p + j, none⟩ := rfl
        rw [e']; exact e.frozenAt _)
    have k0 : ∀ q, ((W5.drewN q).setCells g4 p (List.replicate u (.int .u8 0))).cell? ⟨sb, 0, none⟩ = some (.slice (some ⟨g4, 0, none⟩) len5 cap4) := fun q => (World.cell?_of_block (w := W5) (setCells_far (W5.drewN q) g4 p _ sb gne)).trans c0
    have k1 : ∀ q, ((W5.drewN q).setCells g4 p (List.replicate u (.int .u8 0))).cell? ⟨Bn, On + 1, none⟩ = some (.int .i64 p) := fun q => (World.cell?_of_block (w := W5) (setCells_far (W5.drewN q) g4 p _ Bn bne)).trans d1
    have k2 : ∀ q, ((W5.drewN q).setCells g4 p (List.replicate u (.int .u8 0))).cell? ⟨Bn, On + 2, none⟩ = some (.int .i64 bn.len) := fun q => (World.cell?_of_block (w := W5) (setCells_far (W5.drewN q) g4 p _ Bn bne)).trans d2
    have hcap' : (p : Int) + u ≤ cap4 := by omega
    have hsub : ((p : Int) + u).toNat - p = u := by omega
    have hp0 : (0 : Int) ≤ p := by omega
    have hpu : (p : Int) ≤ p + u := by omega
    have hnm : ¬ cap4 = p := by omega
    go_region_held3 (fun w' => w'.cell? ⟨sb, 0, none⟩ = some (.slice (some ⟨g4, 0, none⟩) len5 cap4) ∧ w'.cell? ⟨Bn, On + 1, none⟩ = some (.int .i64 p) ∧ w'.cell? ⟨Bn, On + 2, none⟩ = some (.int .i64 bn.len)) (first | exact ⟨c0, d1, d2⟩ | exact ⟨k0 _, k1 _, k2 _⟩) (first | (go_at_call 60; (with_reducible refine ce.mono ?_); rintro e w' ⟨rfl, m6, hw⟩; (have hw' := hw.symm); subst hw'; clear hw))
    have hL6 := (hL5.drewN (1 + m6)).rstores (g := g4) (cap := cap4) (by rw [hr5]) p (List.replicate u 0)
    rw [List.map_replicate, show byteV 0 = .int .u8 0 from rfl] at hL6
    have hU6 := (hU5.drewN (1 + m6)).setCells' (g := g4) (hO5.row g4 rfl) p (List.replicate u (.int .u8 0))
    have z6 := setCells_size (W5.drewN (1 + m6)) g4 p (List.replicate u (.int .u8 0))
    have hO6 : Own (Nx S W ((W5.drewN (1 + m6)).setCells g4 p (List.replicate u (.int .u8 0)))) sb (.slice (some ⟨g4, 0, none⟩) len5 cap4) vb vf := hO5.on (Nat.le_of_eq z6.symm)
    clear hL5 hU5 hO5 k0 k1 k2 c0 d1 d2 ce hcl z6
    generalize World.setCells (World.drewN W5 (1 + m6)) _ _ _ = W6 at *
    have cl := link_c hL6 (by exact hl5) n bk nx { bn with pos := (p : Int) } bb bx (by exact hn5) (by exact hb5) hnx (by exact hx5) ne1 ne2 hO6
    have HL : ∀ W7, Lay W7 sb (.slice (some ⟨g4, 0, none⟩) len5 cap4) vb vf (({ s5 with row := setL s5.row p (List.replicate u 0) } : Sto).linked n bk nx) → Upd (Nx S W W6) W6 W7 → W7.frozen? ⟨sb, 9, none⟩ = false ∧ (∃ v9, W7.cell? ⟨sb, 9, none⟩ = some v9) ∧ Hid (Lay (W7.setCell ⟨sb, 9, none⟩ (.int .i64 n)) sb (.slice (some ⟨g4, 0, none⟩) len5 cap4) vb vf (s1.laid n bk nx p u) ∧ Upd S W (W7.setCell ⟨sb, 9, none⟩ (.int .i64 n)) ∧ Own (Nx S W (W7.setCell ⟨sb, 9, none⟩ (.int .i64 n))) sb (.slice (some ⟨g4, 0, none⟩) len5 cap4) vb vf) := by
      intro W7 hL7 hU7
      refine ⟨hL7.thaw 9, ⟨_, hL7.cell 9⟩, ?_⟩
      have hU8 := hU6.trans hU7
      refine ⟨?_, hU8.setCell (p := ⟨sb, 9, none⟩) (hO6.sb.on hU7.size) _, hO6.on (by simpa [World.setCell] using hU7.size)⟩
      rw [← hfin.out]
      exact hL7.store 9 _ rfl rfl rfl rfl
    have HG := hid hG
    clear hL6 hU6 hO6 hfin hn5 hb5 hx5 hG
    go_wp2_with (go_at_call 83; (with_reducible refine cl.mono ?_); rintro e W7 ⟨rfl, hL7, hU7⟩; obtain ⟨th9, ⟨v9, c9⟩, HF⟩ := HL W7 hL7 hU7; clear HL hL7 hU7 cl)
    go_end0
    exact ⟨rfl, HF.out.2.1, s1, bk, nx, p, HG, _, HF.out.1, HF.out.2.2⟩
  · have hm1 : ¬ 0 < (p : Int) + u - s1.row.length := by omega
    obtain ⟨g4, cap4, hv4, hcap4⟩ := own_slice hL2.row (by rw [hrow2]; omega)
    rw [hrow2] at hv4 hcap4
    have hle : p + u ≤ s1.row.length := by omega
    have hlg : longer s1.row (p + u) = s1.row := by rw [longer, Nat.sub_eq_zero_of_le hle]; simp
    have hrow' : (longer s1.row (p + u)).length = s1.row.length := by rw [hlg]
    have hL5 : Lay W3 sb vr1 vb vf { s2 with row := longer s1.row (p + u) } := by rw [hlg, ← hrow2]; exact hL2
    have hU5 := hU2
    have hO5 := hO3
    rw [hvr] at hv4
    simp at hv4
    obtain ⟨rfl, rfl⟩ := hv4
    rw [hvr] at hL5 hO5
    clear hL2 hU2 hO3 hmore
    go_upto_region 6 with fail
    generalize hs5 : ({ s2 with row := longer s1.row (p + u) } : Sto) = s5 at hL5
    generalize W3 = W5 at *
    generalize s1.row.length = len5 at *
    have hn5 : s5.get n = some { bn with pos := (p : Int) } := by rw [← hs5]; exact hn2
    have hb5 : s5.get bk = some bb := by rw [← hs5]; exact hb2
    have hx5 : s5.get nx = some bx := by rw [← hs5]; exact hx2
    have hl5 : s5.blks.length ≤ 1000000000 := by rw [← hs5]; exact hlen2
    have hr5 : s5.row.length = len5 := by rw [← hs5]; exact hrow'
    have hfin : Hid ({ ({ s5 with row := setL s5.row p (List.replicate u 0) } : Sto).linked n bk nx with hand := (n : Int) } = s1.laid n bk nx p u) := by
      rw [← hs5]; exact hid (by unfold Sto.laid; rw [← hlaid]; rfl)
    clear hn2 hb2 hx2 hlen2 hlaid hrow' hs5
    have c0 := hL5.cell 0
    simp [Sto.obj] at c0
    obtain ⟨_, d1, d2, _, _⟩ := bcells hL5 hn5 pn
    have gne : sb ≠ g4 := by
      have := own_ne hL5.row hL5.obj (by decide)
      simpa [Value.ownBlock] using this
    have bne : Bn ≠ g4 := by
      rcases pn with ⟨_, rfl, _⟩ | ⟨_, e, _⟩
      · exact gne
      · have := own_apart hL5.blk hL5.row (by decide)
        rw [e] at this
        simpa [Value.ownBlock] using this
    have ce := end_c W5.drew Bn On p bn.len d1 d2 (by omega) hl1 (by omega) (by omega)
    rw [hu] at ce
    have hcl : ∀ q ty, (Builtin.clear_ #[30] ty #[.slice (some ⟨g4, p, none⟩) u (cap - p)]).run Try.prog (W5.drewN q) = .ok (.tuple #[]) ((W5.drewN q).setCells g4 p (List.replicate u (.int .u8 0))) := fun q ty => Lib.run_clear_slice _ _ _ ty _ under57 zero5 rfl rfl g4 p u _ (by omega) (fun j hj => by
        have e := rcell hL5 (g := g4) (cap := cap) (by rw [hr5]) (p + j) (by omega)
        have e' : (W5.drewN q).cell? ⟨g4, p + j, none⟩ = W5.cell? ⟨g4, p + j, none⟩ := rfl
        rw [e', e]; rfl) (fun j hj => by
        have e := hL5.row
        rw [hr5] at e
        have e' : (W5.drewN q).frozen? ⟨g4, p + j, none⟩ = W5.frozen? ⟨g4, p + j, none⟩ := rfl
        rw [e']; exact e.frozenAt _)
    have k0 : ∀ q, ((W5.drewN q).setCells g4 p (List.replicate u (.int .u8 0))).cell? ⟨sb, 0, none⟩ = some (.slice (some ⟨g4, 0, none⟩) len5 cap) := fun q => (World.cell?_of_block (w := W5) (setCells_far (W5.drewN q) g4 p _ sb gne)).trans c0
    have k1 : ∀ q, ((W5.drewN q).setCells g4 p (List.replicate u (.int .u8 0))).cell? ⟨Bn, On + 1, none⟩ = some (.int .i64 p) := fun q => (World.cell?_of_block (w := W5) (setCells_far (W5.drewN q) g4 p _ Bn bne)).trans d1
    have k2 : ∀ q, ((W5.drewN q).setCells g4 p (List.replicate u (.int .u8 0))).cell? ⟨Bn, On + 2, none⟩ = some (.int .i64 bn.len) := fun q => (World.cell?_of_block (w := W5) (setCells_far (W5.drewN q) g4 p _ Bn bne)).trans d2
    have hcap' : (p : Int) + u ≤ cap := by omega
    have hsub : ((p : Int) + u).toNat - p = u := by omega
    have hp0 : (0 : Int) ≤ p := by omega
    have hpu : (p : Int) ≤ p + u := by omega
    have hnm : ¬ cap = p := by omega
    go_region_held3 (fun w' => w'.cell? ⟨sb, 0, none⟩ = some (.slice (some ⟨g4, 0, none⟩) len5 cap) ∧ w'.cell? ⟨Bn, On + 1, none⟩ = some (.int .i64 p) ∧ w'.cell? ⟨Bn, On + 2, none⟩ = some (.int .i64 bn.len)) (first | exact ⟨c0, d1, d2⟩ | exact ⟨k0 _, k1 _, k2 _⟩) (first | (go_at_call 60; (with_reducible refine ce.mono ?_); rintro e w' ⟨rfl, m6, hw⟩; (have hw' := hw.symm); subst hw'; clear hw))
    have hL6 := (hL5.drewN (1 + m6)).rstores (g := g4) (cap := cap) (by rw [hr5]) p (List.replicate u 0)
    rw [List.map_replicate, show byteV 0 = .int .u8 0 from rfl] at hL6
    have hU6 := (hU5.drewN (1 + m6)).setCells' (g := g4) (hO5.row g4 rfl) p (List.replicate u (.int .u8 0))
    have z6 := setCells_size (W5.drewN (1 + m6)) g4 p (List.replicate u (.int .u8 0))
    have hO6 : Own (Nx S W ((W5.drewN (1 + m6)).setCells g4 p (List.replicate u (.int .u8 0)))) sb (.slice (some ⟨g4, 0, none⟩) len5 cap) vb vf := hO5.on (Nat.le_of_eq z6.symm)
    clear hL5 hU5 hO5 k0 k1 k2 c0 d1 d2 ce hcl z6
    generalize World.setCells (World.drewN W5 (1 + m6)) _ _ _ = W6 at *
    have cl := link_c hL6 (by exact hl5) n bk nx { bn with pos := (p : Int) } bb bx (by exact hn5) (by exact hb5) hnx (by exact hx5) ne1 ne2 hO6
    have HL : ∀ W7, Lay W7 sb (.slice (some ⟨g4, 0, none⟩) len5 cap) vb vf (({ s5 with row := setL s5.row p (List.replicate u 0) } : Sto).linked n bk nx) → Upd (Nx S W W6) W6 W7 → W7.frozen? ⟨sb, 9, none⟩ = false ∧ (∃ v9, W7.cell? ⟨sb, 9, none⟩ = some v9) ∧ Hid (Lay (W7.setCell ⟨sb, 9, none⟩ (.int .i64 n)) sb (.slice (some ⟨g4, 0, none⟩) len5 cap) vb vf (s1.laid n bk nx p u) ∧ Upd S W (W7.setCell ⟨sb, 9, none⟩ (.int .i64 n)) ∧ Own (Nx S W (W7.setCell ⟨sb, 9, none⟩ (.int .i64 n))) sb (.slice (some ⟨g4, 0, none⟩) len5 cap) vb vf) := by
      intro W7 hL7 hU7
      refine ⟨hL7.thaw 9, ⟨_, hL7.cell 9⟩, ?_⟩
      have hU8 := hU6.trans hU7
      refine ⟨?_, hU8.setCell (p := ⟨sb, 9, none⟩) (hO6.sb.on hU7.size) _, hO6.on (by simpa [World.setCell] using hU7.size)⟩
      rw [← hfin.out]
      exact hL7.store 9 _ rfl rfl rfl rfl
    have HG := hid hG
    clear hL6 hU6 hO6 hfin hn5 hb5 hx5 hG
    go_wp2_with (go_at_call 83; (with_reducible refine cl.mono ?_); rintro e W7 ⟨rfl, hL7, hU7⟩; obtain ⟨th9, ⟨v9, c9⟩, HF⟩ := HL W7 hL7 hU7; clear HL hL7 hU7 cl)
    go_end0
    exact ⟨rfl, HF.out.2.1, s1, bk, nx, p, HG, _, HF.out.1, HF.out.2.2⟩
end
end Go.Proofs.Ytenbjlmomkiknab.W
