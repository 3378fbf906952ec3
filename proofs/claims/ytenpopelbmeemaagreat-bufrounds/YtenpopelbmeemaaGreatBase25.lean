import Derived.Test.YtenpopelbmeemaaGreatBase24
import Derived.Test.YtenpopelbmeemaaGreatBase22
/- A heap that a statement made itself, and what it keeps beside it; Box of a string; Concat, Sub. -/
namespace Go.Proofs.YtenpopelbmeemaaGreat.W
open Go.ChangeShapes Go.WideShapes Go.RowKit Go.Shelf
set_option linter.unusedVariables false
/-- a heap that was made behind W0; what K names is none of its -/
def Hf (W0 W : World) (hb : Nat) (H : List (Option Hc)) (u : Nat) (K : Nat → Prop) : Prop := Below W0.heap.size W0 W ∧ ∃ S, HSt W S hb H u ∧ (∀ k, S k → W0.heap.size ≤ k ∧ k < W.heap.size) ∧ (∀ k, K k → k < W.heap.size ∧ ¬ S k)
section
variable {W0 W W1 W' : World} {hb : Nat} {H : List (Option Hc)} {u : Nat} {K K' : Nat → Prop}
theorem Hf.bel (q : Hf W0 W hb H u K) : Below W0.heap.size W0 W := q.1
theorem Hf.sub (q : Hf W0 W hb H u K) (h : ∀ k, K' k → K k) : Hf W0 W hb H u K' := by
  obtain ⟨h1, S, h2, h3, h4⟩ := q
  exact ⟨h1, S, h2, h3, fun k e => h4 k (h k e)⟩
theorem Hf.below (q : Hf W0 W hb H u K) (hB : Below W.heap.size W W') : Hf W0 W' hb H u (fun k => K k ∨ (W.heap.size ≤ k ∧ k < W'.heap.size)) := by
  obtain ⟨h1, S, h2, h3, h4⟩ := q
  have z := hB.size
  refine ⟨h1.trans (hB.mono h1.size), S, h2.below hB, fun k e => ⟨(h3 k e).1, by have := (h3 k e).2; omega⟩, ?_⟩
  rintro k (e | e)
  · exact ⟨by have := (h4 k e).1; omega, (h4 k e).2⟩
  · exact ⟨e.2, fun e2 => by have := (h3 k e2).2; omega⟩
theorem Hf.below' (q : Hf W0 W hb H u K) (hB : Below W.heap.size W W') : Hf W0 W' hb H u K := (q.below hB).sub (fun k e => .inl e)
/-- what is kept aside may be written -/
theorem Hf.upd {D : Nat → Prop} (q : Hf W0 W hb H u K) (hU : Upd D W W') (hD : ∀ k, D k → K k ∧ W0.heap.size ≤ k) : Hf W0 W' hb H u K := by
  obtain ⟨h1, S, h2, h3, h4⟩ := q
  have z := hU.size
  refine ⟨h1.trans (hU.below h1.size (fun k e => (hD k e).2)), S, h2.on z (fun k e hl => hU.block k hl (fun d => (h4 k (hD k d).1).2 e)), fun k e => ⟨(h3 k e).1, by have := (h3 k e).2; omega⟩, fun k e => ⟨by have := (h4 k e).1; omega, (h4 k e).2⟩⟩
theorem hf_new (hB : Below W0.heap.size W0 W) (u : Nat) (hu : u ≤ 1048576) : Calls Tryz.prog 7 #[.int .i64 u] W fun e w' => ∃ hb, e = .returned (.tuple #[.pointer (some ⟨hb, 0, none⟩), .int .i64 0]) ∧ Hf W0 w' hb [] u (fun k => k < W.heap.size) ∧ Below W.heap.size W w' := by
  refine (hnew_c u hu W).mono ?_
  rintro e w' ⟨hb, rfl, hB', g⟩
  have h1 := hB.size
  have h2 := hB'.size
  exact ⟨hb, rfl, ⟨hB.trans (hB'.mono h1), _, g, fun k e => ⟨by omega, e.2⟩, fun k e => ⟨by omega, fun e2 => by omega⟩⟩, hB'⟩
/-- what may change -/
def Ch (W0 : World) (K : Nat → Prop) : Nat → Prop := fun k => ¬ K k ∧ W0.heap.size ≤ k
theorem Hf.put {S : Nat → Prop} {H' : List (Option Hc)} (h0 : Below W0.heap.size W0 W1) (h3 : ∀ k, S k → W0.heap.size ≤ k ∧ k < W1.heap.size) (h4 : ∀ k, K k → k < W1.heap.size ∧ ¬ S k) (hU : Upd S W1 W') (g : HSt W' (Nx S W1 W') hb H' u) : Hf W0 W' hb H' u K ∧ Upd (Ch W0 K) W1 W' := by
  have z := hU.size
  have z0 := h0.size
  refine ⟨⟨h0.trans (hU.below z0 (fun k e => (h3 k e).1)), _, g, ?_, fun k e => ⟨by have := (h4 k e).1; omega, ?_⟩⟩, ⟨hU.os, hU.tape, hU.output, hU.size, fun k hk hn => hU.block k hk (fun e => hn ⟨fun e2 => (h4 k e2).2 e, (h3 k e).1⟩)⟩⟩
  · rintro k (e | e)
    · exact ⟨(h3 k e).1, by have := (h3 k e).2; omega⟩
    · exact ⟨by omega, e.2⟩
  · rintro (e2 | e2)
    · exact (h4 k e).2 e2
    · have := (h4 k e).1; omega
/-- what a string needs -/
def tneed (t : ByteArray) : Nat := 1 + (t.size + 7) / 8
/-- behind a string that was boxed -/
def TxtPost (W0 W1 : World) (hb : Nat) (H : List (Option Hc)) (u : Nat) (K : Nat → Prop) (t : ByteArray) (e : Ending) (w' : World) : Prop := ∃ (w : Nat) (H' : List (Option Hc)), e = .returned (.tuple #[.int .u64 (w : Nat), .int .i64 0]) ∧ Hf W0 w' hb H' u K ∧ Ext H H' ∧ IsTxt H' w t ∧ sumH H' ≤ sumH H + tneed t ∧ H'.length ≤ H.length + 1 ∧ Upd (Ch W0 K) W1 w'
theorem TxtPost.two {t : ByteArray} {e : Ending} (h : TxtPost W0 W1 hb H u K t e W') : ∃ x y, e = .returned (.tuple #[.int .u64 x, .int .i64 y]) := by
  obtain ⟨w, H', rfl, _⟩ := h
  exact ⟨_, _, rfl⟩
theorem TxtPost.on {W2 : World} {t : ByteArray} {e : Ending} (hB : Below W1.heap.size W1 W2) (h : TxtPost W0 W2 hb H u K t e W') : TxtPost W0 W1 hb H u K t e W' := by
  obtain ⟨w, H', rfl, h1, h2, h3, h4, h5, h6⟩ := h
  exact ⟨w, H', rfl, h1, h2, h3, h4, h5, (Upd.of_below hB).trans' h6⟩
end
end Go.Proofs.YtenpopelbmeemaaGreat.W
/- Package heap: place, of a view; Read, Write, of buffers and views; Set. -/
namespace Go.Proofs.YtenpopelbmeemaaGreat.W
open Go.ChangeShapes Go.WideShapes Go.RowKit Go.Shelf
set_option linter.unusedVariables false
section
variable {W W' : World} {hb sb : Nat} {vc : Value} {T : Nat → Prop} {H : List (Option Hc)} {u h : Nat}
set_option maxRecDepth 100000 in
set_option maxHeartbeats 1000000 in
theorem place_view (g : HLay W hb sb vc T H u h) (w : Nat) (hw : w < 18446744073709551616) (id : Nat) (hi : hit H w = some id) (k : Int) (ba p n : Nat) (hc : H[id]? = some (some (.view k ba p n))) (t : Nat) (hit2 : hit H ba = some t) (wd : Nat) (hwd : wd = 1 ∨ wd = 2 ∨ wd = 4 ∨ wd = 8) (off : Int) (ho0 : -9223372036854775808 ≤ off) (ho1 : off ≤ 9223372036854775807) :
    Calls Tryz.prog 149 #[.pointer (some ⟨hb, 0, none⟩), .int .u64 w, .int .i64 off, .int .i64 wd] W fun e w' => e = .returned (if 0 ≤ off ∧ off + wd ≤ (n * elB k : Nat) then .tuple #[.int .i64 t, .int .i64 (p + off), .int .i64 0] else .tuple #[.int .i64 0, .int .i64 0, .int .i64 31]) ∧ Below W.heap.size W w' := by
  have hidl : id < H.length := (List.getElem?_eq_some_iff.1 hc).1
  obtain ⟨b, cap, hvc, hcell, _⟩ := g.at hidl
  have c1 := g.cell 1
  simp only [List.getElem?_cons_succ, List.getElem?_cons_zero] at c1
  rw [hvc] at c1
  have k0 := hcell 0 _ hc (by omega)
  have k1 := hcell 1 _ hc (by omega)
  have k2 := hcell 2 _ hc (by omega)
  have k3 := hcell 3 _ hc (by omega)
  have k4 := hcell 4 _ hc (by omega)
  simp only [clO, Hc.cl, Cl.cells, List.getElem?_cons_succ, List.getElem?_cons_zero, Nat.add_zero] at k0 k1 k2 k3 k4
  have j0 : (0 : Int) ≤ id := by omega
  have j1 : (id : Int) < H.length := by omega
  have ok := g.ok id _ hc
  have hk : elB k > 0 := ok.1
  have hn8 : n ≤ 8388608 := ok.2.2.2
  have hp8 : p ≤ 8388608 := ok.2.2.1
  have hba : ba < 18446744073709551616 := ok.2.1
  clear hcell
  have hB1 : Below W.heap.size W (W.alloc (.cells #[.int .i64 k, .bool true, .int .u64 ba, .int .i64 p, .int .i64 n] 116)) := (Below.refl _ W).alloc (Nat.le_refl _) _
  have cf := find_c g w hw
  rw [hi] at cf
  simp only [Option.getD_some, Option.isSome_some] at cf
  have ce : ∀ w, Calls Tryz.prog 79 #[.int .i64 k] w fun e w' => e = .returned (.int .i64 (elB k : Nat)) ∧ w' = w := fun w => elementBytes_c k w
  have cb : Calls Tryz.prog 74 #[.pointer (some ⟨hb, 0, none⟩), .int .i64 id] (W.alloc (.cells #[.int .i64 k, .bool true, .int .u64 ba, .int .i64 p, .int .i64 n] 116)) fun e w' => e = .returned (.int .i64 0) ∧ w' = (W.alloc (.cells #[.int .i64 k, .bool true, .int .u64 ba, .int .i64 p, .int .i64 n] 116)) := bytes_c (g.below hB1) id _ hc
  have cf2 := find_c (g.below hB1) ba hba
  rw [hit2] at cf2
  simp only [Option.getD_some, Option.isSome_some] at cf2
  have e1 := World.cell?_alloc_new W #[.int .i64 k, .bool true, .int .u64 ba, .int .i64 p, .int .i64 n] 116
  have e0 : ¬ ((elB k : Nat) : Int) = 0 := by omega
  have hout : Hid (∀ m : Nat, Below W.heap.size W ((W.alloc (.cells #[.int .i64 k, .bool true, .int .u64 ba, .int .i64 p, .int .i64 n] 116)).drewN m)) := fun m => ⟨hB1.os, hB1.tape, hB1.output, hB1.size, hB1.block⟩
  have hel : elB k ≤ 8 := by rcases elB_cases k with h | h | h | h | h <;> omega
  have hmul : IntKind.i64.wrap ((n : Int) * ((elB k : Nat) : Int)) = ((n * elB k : Nat) : Int) := by
    have h1 : n * elB k ≤ n * 8 := Nat.mul_le_mul_left n hel
    have h2 : ((n * elB k : Nat) : Int) = (n : Int) * ((elB k : Nat) : Int) := by simp
    rw [IntKind.wrap_i64, ← h2]; omega
  have hnl : n * elB k ≤ 67108864 := by
    have h1 : n * elB k ≤ n * 8 := Nat.mul_le_mul_left n hel
    omega
  generalize n * elB k = nn at *
  generalize ((elB k : Nat) : Int) = E at *
  clear hel
  have hsub : IntKind.i64.wrap ((nn : Int) - wd) = (nn : Int) - wd := by rw [IntKind.wrap_i64]; omega
  have hz : 0 ≤ off → off + wd ≤ nn → IntKind.i64.wrap ((p : Int) + off) = (p : Int) + off := by intro a1 a2; rw [IntKind.wrap_i64]; omega
  have hd : (wd : Int) = 1 ∨ (wd : Int) = 2 ∨ (wd : Int) = 4 ∨ (wd : Int) = 8 := by omega
  clear hwd
  generalize ((wd : Nat) : Int) = d at *
  by_cases hlo : off < 0
  · rw [if_neg (by omega)]
    clear hz
    rcases hd with rfl | rfl | rfl | rfl
    all_goals (
      clear g ok hc hB1
      go_enter Tryz.func149, Tryz.ntmps149
      go_upto_region 10 with (first | (go_at_call 40; (with_reducible refine cf.mono ?_); rintro e w' ⟨rfl, hw⟩; (have hw' := hw.symm); subst hw'; clear hw; clear cf) | (go_at_call 40; (with_reducible refine cf2.mono ?_); rintro e w' ⟨rfl, hw⟩; (have hw' := hw.symm); subst hw'; clear hw) | (go_at_call 79; (with_reducible refine (ce _).mono ?_); rintro e w' ⟨rfl, hw⟩; (have hw' := hw.symm); subst hw'; clear hw) | (go_at_call 74; (with_reducible refine cb.mono ?_); rintro e w' ⟨rfl, hw⟩; (have hw' := hw.symm); subst hw'; clear hw))
      go_quiet ((go_at_call 79; exact Calls.quiet_of_same (ce _)))
      go_wp2
      go_ret3
      exact ⟨rfl, ⟨(hout.out 0).os, (hout.out 0).tape, (hout.out 0).output, (hout.out 0).size, (hout.out 0).block⟩⟩)
  · by_cases hhi : off + d ≤ nn
    · rw [if_pos ⟨by omega, hhi⟩]
      have g1 : ¬ off > (nn : Int) - d := by omega
      have hz := hz (by omega) hhi
      clear hhi
      rcases hd with rfl | rfl | rfl | rfl
      all_goals (
        clear g ok hc hB1
        go_enter Tryz.func149, Tryz.ntmps149
        go_upto_region 10 with (first | (go_at_call 40; (with_reducible refine cf.mono ?_); rintro e w' ⟨rfl, hw⟩; (have hw' := hw.symm); subst hw'; clear hw; clear cf) | (go_at_call 40; (with_reducible refine cf2.mono ?_); rintro e w' ⟨rfl, hw⟩; (have hw' := hw.symm); subst hw'; clear hw) | (go_at_call 79; (with_reducible refine (ce _).mono ?_); rintro e w' ⟨rfl, hw⟩; (have hw' := hw.symm); subst hw'; clear hw) | (go_at_call 74; (with_reducible refine cb.mono ?_); rintro e w' ⟨rfl, hw⟩; (have hw' := hw.symm); subst hw'; clear hw))
        go_quiet ((go_at_call 79; exact Calls.quiet_of_same (ce _)))
        go_upto_region 13 with fail
        go_quiet (fail)
        go_wp2
        go_ret3
        exact ⟨rfl, ⟨(hout.out 0).os, (hout.out 0).tape, (hout.out 0).output, (hout.out 0).size, (hout.out 0).block⟩⟩)
    · rw [if_neg (by omega)]
      have g1 : off > (nn : Int) - d := by omega
      clear hhi hz
      rcases hd with rfl | rfl | rfl | rfl
      all_goals (
        clear g ok hc hB1
        go_enter Tryz.func149, Tryz.ntmps149
        go_upto_region 10 with (first | (go_at_call 40; (with_reducible refine cf.mono ?_); rintro e w' ⟨rfl, hw⟩; (have hw' := hw.symm); subst hw'; clear hw; clear cf) | (go_at_call 40; (with_reducible refine cf2.mono ?_); rintro e w' ⟨rfl, hw⟩; (have hw' := hw.symm); subst hw'; clear hw) | (go_at_call 79; (with_reducible refine (ce _).mono ?_); rintro e w' ⟨rfl, hw⟩; (have hw' := hw.symm); subst hw'; clear hw) | (go_at_call 74; (with_reducible refine cb.mono ?_); rintro e w' ⟨rfl, hw⟩; (have hw' := hw.symm); subst hw'; clear hw))
        go_quiet ((go_at_call 79; exact Calls.quiet_of_same (ce _)))
        go_wp2
        go_ret3
        exact ⟨rfl, ⟨(hout.out 0).os, (hout.out 0).tape, (hout.out 0).output, (hout.out 0).size, (hout.out 0).block⟩⟩)
/-- where the elements of a thing of bytes stand: cell t, of kind k2 and with the bytes bs, from p on; n bytes -/
structure Spot (H : List (Option Hc)) (w : Nat) (k : Int) (t p n : Nat) (k2 : Int) (bs : List Nat) : Prop where
  w64 : w < 18446744073709551616
  cell : H[t]? = some (some (.buf k2 bs))
  fit : p + n ≤ bs.length
  road : ∃ id, hit H w = some id ∧ ((H[id]? = some (some (.buf k bs)) ∧ t = id ∧ p = 0 ∧ n = bs.length ∧ k2 = k) ∨ ∃ ba c, H[id]? = some (some (.view k ba p c)) ∧ hit H ba = some t ∧ n = c * elB k)
theorem place_c {w : Nat} {k k2 : Int} {t p n : Nat} {bs : List Nat} (g : HLay W hb sb vc T H u h) (s : Spot H w k t p n k2 bs) (wd : Nat) (hwd : wd = 1 ∨ wd = 2 ∨ wd = 4 ∨ wd = 8) (off : Int) (ho0 : -9223372036854775808 ≤ off) (ho1 : off ≤ 9223372036854775807) :
    Calls Tryz.prog 149 #[.pointer (some ⟨hb, 0, none⟩), .int .u64 w, .int .i64 off, .int .i64 wd] W fun e w' => e = .returned (if 0 ≤ off ∧ off + wd ≤ n then .tuple #[.int .i64 t, .int .i64 (p + off), .int .i64 0] else .tuple #[.int .i64 0, .int .i64 0, .int .i64 31]) ∧ Below W.heap.size W w' := by
  obtain ⟨id, hi, ⟨hc, rfl, rfl, rfl, rfl⟩ | ⟨ba, c, hc, hb2, rfl⟩⟩ := s.road
  · have := place_buf g w s.w64 t hi k2 bs hc wd hwd off ho0 ho1
    rw [show (((0 : Nat) : Int) + off) = off by omega]
    exact this
  · exact place_view g w s.w64 id hi k ba p c hc t hb2 wd hwd off ho0 ho1
theorem hread_c {w : Nat} {k k2 : Int} {t p n : Nat} {bs : List Nat} (g : HLay W hb sb vc T H u h) (s : Spot H w k t p n k2 bs) (wd : Nat) (hwd : wd = 1 ∨ wd = 2 ∨ wd = 4 ∨ wd = 8) (o : Nat) (ho : o + wd ≤ n) (ha : (p + o) % wd = 0) :
    Calls Tryz.prog 132 #[.pointer (some ⟨hb, 0, none⟩), .int .u64 w, .int .i64 o, .int .i64 wd] W fun e w' => e = .returned (.tuple #[.int .u64 (leN (seg bs (p + o) wd) : Nat), .int .i64 0]) ∧ Below W.heap.size W w' := by
  have hok := g.ok t _ s.cell
  have hl8 : bs.length ≤ 8388608 := hok.2.2
  have hfit := s.fit
  have cp := place_c g s wd hwd o (by omega) (by omega)
  rw [if_pos ⟨by omega, by omega⟩, show ((p : Int) + (o : Int)) = ((p + o : Nat) : Int) by omega] at cp
  have cl : ∀ w', Below W.heap.size W w' → Calls Tryz.prog 71 #[.pointer (some ⟨sb, 0, none⟩), .int .i64 t, .int .i64 (p + o : Nat), .int .i64 wd] w' fun e w2 => e = .returned (.tuple #[.int .u64 (leN (seg bs (p + o) wd)), .int .i64 0]) ∧ Below w'.heap.size w' w2 := fun w' hB => load_st (g.below hB).st t _ (hA_some s.cell) (p + o) wd hwd ha (by show _ ≤ bs.length; omega)
  have c0 := g.cell 0
  simp only [List.getElem?_cons_zero] at c0
  generalize leN (seg bs (p + o) wd) = X at *
  generalize p + o = P at *
  clear g hok hl8 hfit ha s ho hwd
  go_enter Tryz.func132, Tryz.ntmps132
  go_wp2_with (first | (go_at_call 149; (with_reducible refine cp.mono ?_); rintro e w2 ⟨rfl, hB2⟩; clear cp; (have d0 := below_cell hB2 c0)) | (go_at_call 71; (with_reducible refine (cl _ hB2).mono ?_); rintro e w3 ⟨rfl, hB3⟩; clear cl))
  go_ret2
  exact ⟨rfl, hB2.trans (hB3.mono hB2.size)⟩
theorem hwrite_c {w : Nat} {k k2 : Int} {t p n : Nat} {bs : List Nat} (g : HLay W hb sb vc T H u h) (s : Spot H w k t p n k2 bs) (wd : Nat) (hwd : wd = 1 ∨ wd = 2 ∨ wd = 4 ∨ wd = 8) (o : Nat) (ho : o + wd ≤ n) (ha : (p + o) % wd = 0) (x : Nat) (hx : x < 18446744073709551616) :
    Calls Tryz.prog 134 #[.pointer (some ⟨hb, 0, none⟩), .int .u64 w, .int .i64 o, .int .i64 wd, .int .u64 x] W fun e w' => e = .returned (.int .i64 0) ∧ Upd T W w' ∧ HLay w' hb sb vc T (H.set t (some (.buf k2 (saved bs (p + o) x wd)))) u h := by
  have hok := g.ok t _ s.cell
  have hl8 : bs.length ≤ 8388608 := hok.2.2
  have hfit := s.fit
  have cp := place_c g s wd hwd o (by omega) (by omega)
  rw [if_pos ⟨by omega, by omega⟩, show ((p : Int) + (o : Int)) = ((p + o : Nat) : Int) by omega] at cp
  have hok2 : (Hc.buf k2 (saved bs (p + o) x wd)).ok := ⟨hok.1, saved_byte _ _ _ _ hok.2.1, by rw [saved_len]; exact hl8⟩
  have cl : ∀ w', Below W.heap.size W w' → Calls Tryz.prog 127 #[.pointer (some ⟨sb, 0, none⟩), .int .i64 t, .int .i64 (p + o : Nat), .int .i64 wd, .int .u64 x] w' fun e w2 => e = .returned (.int .i64 0) ∧ Hid (Upd T W w2 ∧ HLay w2 hb sb vc T (H.set t (some (.buf k2 (saved bs (p + o) x wd)))) u h) := by
    intro w' hB
    refine (save_st (g.below hB).st t _ (hA_some s.cell) (p + o) wd x hx hwd ha (by show _ ≤ bs.length; omega)).mono ?_
    rintro e w2 ⟨rfl, hU, hS⟩
    exact ⟨rfl, (Upd.of_below hB).trans' hU, (g.below hB).saved t _ (.buf k2 (saved bs (p + o) x wd)) s.cell rfl hok2 hU hS⟩
  have c0 := g.cell 0
  simp only [List.getElem?_cons_zero] at c0
  generalize (some (Hc.buf k2 (saved bs (p + o) x wd))) = X at *
  generalize p + o = P at *
  clear g hok hl8 hfit ha s ho hwd hok2
  go_enter Tryz.func134, Tryz.ntmps134
  go_wp2_with (first | (go_at_call 149; (with_reducible refine cp.mono ?_); rintro e w2 ⟨rfl, hB2⟩; clear cp; (have d0 := below_cell hB2 c0)) | (go_at_call 127; (with_reducible refine (cl _ hB2).mono ?_); rintro e w3 ⟨rfl, hf⟩; clear cl))
  go_ret
  exact ⟨rfl, hf.out.1, hf.out.2⟩
/-- the handle of a row that has a j-th word -/
theorem slot_c (g : HLay W hb sb vc T H u h) (w : Nat) (hw : w < 18446744073709551616) (id : Nat) (hi : hit H w = some id) (ws : List Nat) (hc : H[id]? = some (some (.row ws))) (j : Nat) (hj : j < ws.length) :
    Calls Tryz.prog 141 #[.pointer (some ⟨hb, 0, none⟩), .int .u64 w, .int .i64 j] W fun e w' => e = .returned (.tuple #[.int .i64 id, .int .i64 0]) ∧ w' = W := by
  have hidl : id < H.length := (List.getElem?_eq_some_iff.1 hc).1
  obtain ⟨b, cap, hvc, hcell, _⟩ := g.at hidl
  have c1 := g.cell 1
  simp only [List.getElem?_cons_succ, List.getElem?_cons_zero] at c1
  rw [hvc] at c1
  have k0 := hcell 0 _ hc (by omega)
  simp only [clO, Hc.cl, Cl.cells, List.getElem?_cons_zero, Nat.add_zero] at k0
  have j0 : (0 : Int) ≤ id := by omega
  have j1 : (id : Int) < H.length := by omega
  have hok := g.ok id _ hc
  have hl8 : ws.length ≤ 1048576 := hok.2
  have cf := find_c g w hw
  rw [hi] at cf
  simp only [Option.getD_some, Option.isSome_some] at cf
  have cb : Calls Tryz.prog 74 #[.pointer (some ⟨hb, 0, none⟩), .int .i64 id] W fun e w' => e = .returned (.int .i64 ((ws.flatMap le8).length : Nat)) ∧ w' = W := bytes_c g id _ hc
  rw [row_len] at cb
  have q8 : Int.tdiv ((8 * ws.length : Nat) : Int) 8 = ((ws.length : Nat) : Int) := by rw [Int.tdiv_eq_ediv_of_nonneg (by omega)]; omega
  have q9 : wrap64 ((ws.length : Nat) : Int) = ((ws.length : Nat) : Int) := by have := IntKind.wrap_i64 ((ws.length : Nat) : Int); unfold wrap64; omega
  have q7 : IntKind.i64.wrap ((ws.length : Nat) : Int) = ((ws.length : Nat) : Int) := by rw [IntKind.wrap_i64]; omega
  have x0 : ¬ (j : Int) < 0 := by omega
  have x1 : ¬ (j : Int) ≥ (ws.length : Nat) := by omega
  clear hcell hok hl8 hc hi g hj
  generalize ((8 * ws.length : Nat) : Int) = N8 at *
  generalize ((ws.length : Nat) : Int) = N at *
  go_enter Tryz.func141, Tryz.ntmps141
  go_wp2_with (first | (go_at_call 40; (with_reducible refine cf.mono ?_); rintro e w' ⟨rfl, hw⟩; (have hw' := hw.symm); subst hw'; clear hw) | (go_at_call 74; (with_reducible refine cb.mono ?_); rintro e w' ⟨rfl, hw⟩; (have hw' := hw.symm); subst hw'; clear hw))
  go_ret2
  exact ⟨rfl, rfl⟩
theorem hset_c (g : HLay W hb sb vc T H u h) (w : Nat) (hw : w < 18446744073709551616) (id : Nat) (hi : hit H w = some id) (ws : List Nat) (hc : H[id]? = some (some (.row ws))) (j : Nat) (hj : j < ws.length) (x : Nat) (hx : x < 18446744073709551616) (hv : isVal H x = true) :
    Calls Tryz.prog 113 #[.pointer (some ⟨hb, 0, none⟩), .int .u64 w, .int .i64 j, .int .u64 x] W fun e w' => e = .returned (.int .i64 0) ∧ Upd T W w' ∧ HLay w' hb sb vc T (H.set id (some (.row (ws.set j x)))) u h := by
  have c0 := g.cell 0
  simp only [List.getElem?_cons_zero] at c0
  have csl := slot_c g w hw id hi ws hc j hj
  have ci := isValue_c g x hx
  rw [hv] at ci
  have cs : ∀ w2, Below W.heap.size W w2 → Calls Tryz.prog 127 #[.pointer (some ⟨sb, 0, none⟩), .int .i64 id, .int .i64 ((j : Int) * 8), .int .i64 8, .int .u64 x] w2 fun e w' => e = .returned (.int .i64 0) ∧ Hid (Upd T W w' ∧ HLay w' hb sb vc T (H.set id (some (.row (ws.set j x)))) u h) := by
    intro w2 hB
    refine (row_step (g.below hB) id ws hc j x hj hx).mono ?_
    rintro e w3 ⟨rfl, hU, hL⟩
    exact ⟨rfl, (Upd.of_below hB).trans' hU, hL⟩
  have hok := g.ok id _ hc
  have hl8 : ws.length ≤ 1048576 := hok.2
  have w8 : IntKind.i64.wrap ((j : Int) * 8) = (j : Int) * 8 := by rw [IntKind.wrap_i64]; omega
  have w9 : wrap64 ((j : Int) * 8) = (j : Int) * 8 := by unfold wrap64; omega
  generalize H.set id (some (.row (ws.set j x))) = HH at *
  clear hok hl8 hc hi g hj
  go_enter Tryz.func113, Tryz.ntmps113
  go_wp2_with (first | (go_at_call 141; (with_reducible refine csl.mono ?_); rintro e w' ⟨rfl, hw⟩; (have hw' := hw.symm); subst hw'; clear hw) | (go_at_call 118; (with_reducible refine ci.mono ?_); rintro e w2 ⟨rfl, hB2⟩; (have d0 := below_cell hB2 c0)) | (go_at_call 127; (with_reducible refine (cs _ hB2).mono ?_); rintro e w3 ⟨rfl, hf⟩; clear cs))
  go_ret
  exact ⟨rfl, hf.out.1, hf.out.2⟩
end
/-- a cell is another one of the same need: over a heap that was made -/
theorem sumH_same {H : List (Option Hc)} {i : Nat} {c d : Hc} (hc : H[i]? = some (some c)) (hn : d.need = c.need) : sumH (H.set i (some d)) = sumH H := by
  have hl := (List.getElem?_eq_some_iff.1 hc).1
  have e := (List.getElem?_eq_some_iff.1 hc).2
  have := sumH_set H i (some d) hl
  rw [e] at this
  simp only [needO] at this
  omega
section
variable {W0 W W1 W' : World} {hb : Nat} {H : List (Option Hc)} {u : Nat} {K : Nat → Prop}
/-- what a call that writes into the store leaves, told over Hf -/
theorem hf_calls {f : FuncId} {args : Array Value} {v : Value} {H' : List (Option Hc)} (q : Hf W0 W1 hb H u K) (hs : sumH H' = sumH H)
    (h : ∀ sb vc T, HLay W1 hb sb vc T H u (sumH H) → Calls Tryz.prog f args W1 fun e w' => e = .returned v ∧ Upd T W1 w' ∧ HLay w' hb sb vc T H' u (sumH H)) :
    Calls Tryz.prog f args W1 fun e w' => e = .returned v ∧ Hf W0 w' hb H' u K ∧ Upd (Ch W0 K) W1 w' := by
  obtain ⟨h1, S, ⟨sb, vc, T, l, s1, s2, s3, s4⟩, h3, h4⟩ := q
  refine (h sb vc T l).mono ?_
  rintro e w' ⟨rfl, hU, hL⟩
  have hU' : Upd S W1 w' := hU.mono s3
  have hst : HSt w' (Nx S W1 w') hb H' u := ⟨sb, vc, T, by rw [hs]; exact hL, .inl s1, fun k e => .inl (s2 k e), fun k e => .inl (s3 k e), by omega⟩
  exact ⟨rfl, Hf.put h1 h3 h4 hU' hst⟩
theorem buf_need (k k' : Int) (b b' : List Nat) (h : b'.length = b.length) : (Hc.buf k' b').need = (Hc.buf k b).need := by
  unfold Hc.need
  show 1 + (b'.length + 7) / 8 = 1 + (b.length + 7) / 8
  rw [h]
theorem row_need2 (b b' : List Nat) (h : b'.length = b.length) : (Hc.row b').need = (Hc.row b).need := by
  unfold Hc.need
  show 1 + ((b'.flatMap le8).length + 7) / 8 = 1 + ((b.flatMap le8).length + 7) / 8
  rw [row_len, row_len, h]
theorem Hf.lay (q : Hf W0 W1 hb H u K) : ∃ sb vc T, HLay W1 hb sb vc T H u (sumH H) := by
  obtain ⟨_, S, h2, _⟩ := q
  exact h2.lay
end
end Go.Proofs.YtenpopelbmeemaaGreat.W
/- Package text: box, Concat, Sub. -/
namespace Go.Proofs.YtenpopelbmeemaaGreat.W
open Go.ChangeShapes Go.WideShapes Go.RowKit Go.Shelf
set_option linter.unusedVariables false
section
variable {W0 W W1 W' : World} {hb : Nat} {H : List (Option Hc)} {u : Nat} {K K' : Nat → Prop}
end
end Go.Proofs.YtenpopelbmeemaaGreat.W
/- casketlaw8: awake, box. -/
namespace Go.Proofs.YtenpopelbmeemaaGreat.W
open Go.ChangeShapes Go.WideShapes Go.RowKit Go.Shelf
set_option linter.unusedVariables false
section
variable {W0 W W1 W' : World} {hb : Nat} {H : List (Option Hc)} {u : Nat} {K K' : Nat → Prop}
end
end Go.Proofs.YtenpopelbmeemaaGreat.W
/- A row of words of a statement's own, beside its heap: append. -/
namespace Go.Proofs.YtenpopelbmeemaaGreat.W
open Go.ChangeShapes Go.WideShapes Go.RowKit Go.Shelf
set_option linter.unusedVariables false
/-- words, as they stand in a row -/
def wds (ws : List Nat) : List Value := ws.map (fun x => .int .u64 (x : Nat))
section
variable {W0 W W1 W' : World} {hb : Nat} {H : List (Option Hc)} {u : Nat} {K K' : Nat → Prop}
theorem Hf.upd' {D : Nat → Prop} (q : Hf W0 W hb H u K) (hU : Upd D W W') (hD : ∀ k, D k → K k ∧ W0.heap.size ≤ k) : Hf W0 W' hb H u (fun k => K k ∨ (W.heap.size ≤ k ∧ k < W'.heap.size)) := by
  obtain ⟨h1, S, h2, h3, h4⟩ := q
  have z := hU.size
  refine ⟨h1.trans (hU.below h1.size (fun k e => (hD k e).2)), S, h2.on z (fun k e hl => hU.block k hl (fun d => (h4 k (hD k d).1).2 e)), fun k e => ⟨(h3 k e).1, by have := (h3 k e).2; omega⟩, ?_⟩
  rintro k (e | e)
  · exact ⟨by have := (h4 k e).1; omega, (h4 k e).2⟩
  · exact ⟨e.2, fun e2 => by have := (h3 k e2).2; omega⟩
/-- a row of words of one's own -/
structure Mine (W0 W : World) (K : Nat → Prop) (v : Value) (ws : List Nat) : Prop where
  row : W.ownsRow W0.heap.size 22 1 v ws.length (wds ws)
  keep : ∀ k, v.ownBlock = some k → K k
  lt : ∀ x ∈ ws, x < 18446744073709551616
  len : ws.length ≤ 900000
theorem Mine.words {v : Value} {ws : List Nat} (o : Mine W0 W K v ws) : WordsAt W v ws := words_own o.row (by have := o.len; omega) o.lt
theorem Mine.upd {v : Value} {ws : List Nat} (o : Mine W0 W K v ws) (hU : Upd (Ch W0 K) W W') : Mine W0 W' K v ws :=
  ⟨owns_on o.row (fun k e => hU.block k (o.row.lt k e).2 (fun h => h.1 (o.keep k e))), o.keep, o.lt, o.len⟩
theorem Mine.below {v : Value} {ws : List Nat} (o : Mine W0 W K v ws) (hB : Below W.heap.size W W') : Mine W0 W' K v ws :=
  ⟨owns_on o.row (fun k e => hB.block k (o.row.lt k e).2), o.keep, o.lt, o.len⟩
theorem Mine.sub {v : Value} {ws : List Nat} (o : Mine W0 W K v ws) (h : ∀ k, K k → K' k) : Mine W0 W K' v ws := ⟨o.row, fun k e => h k (o.keep k e), o.lt, o.len⟩
theorem mine_nil (W0 W : World) (K : Nat → Prop) : Mine W0 W K (.slice none 0 0) [] := ⟨World.ownsRow_nil _ _ _ _, fun k e => (by cases e), fun x h => (by cases h), by decide⟩
/-- a word is put behind -/
theorem mine_append (q : Hf W0 W hb H u K) (ty : TypeId) (v : Value) (ws : List Nat) (o : Mine W0 W K v ws) (x : Nat) (hx : x < 18446744073709551616) (hl : ws.length < 900000) :
    ∃ v' w', (Builtin.append_ #[27, 27] ty #[v, .slice (some ⟨W.heap.size, 0, none⟩) 1 1]).run Tryz.prog (W.alloc (.cells #[.int .u64 (x : Nat)] 22)) = .ok v' w' ∧ Hf W0 w' hb H u (fun k => K k ∨ (W.heap.size ≤ k ∧ k < w'.heap.size)) ∧ Mine W0 w' (fun k => K k ∨ (W.heap.size ≤ k ∧ k < w'.heap.size)) v' (ws ++ [x]) ∧ Upd (fun k => v.ownBlock = some k) W w' := by
  obtain ⟨i0, hi, hz0, hz1, hz2⟩ := info_parts infoW
  have hB1 : Below W.heap.size W (W.alloc (.cells #[.int .u64 (x : Nat)] 22)) := (Below.refl _ W).alloc (Nat.le_refl _) _
  have z1 : (W.alloc (.cells #[.int .u64 (x : Nat)] 22)).heap.size = W.heap.size + 1 := World.size_alloc ..
  have e0 := World.cell?_alloc_new W #[.int .u64 (x : Nat)] 22
  have ho := o.row.alloc (.cells #[.int .u64 (x : Nat)] 22)
  obtain ⟨v', w', hrun, ho', hg, hk⟩ := append_at (P := Tryz.prog) (W.alloc (.cells #[.int .u64 (x : Nat)] 22)) 27 ty 22 i0 (.int .u64 0) 1 8 underW hi hz0 hz1 hz2 rfl (by omega) v ws.length (wds ws) (owns_base ho (fun _ _ => Nat.zero_le _)) ⟨W.heap.size, 0, none⟩ 1 1 [.int .u64 (x : Nat)] (by simp) (by
    intro j y hj
    have hj0 : j = 0 := by have := (List.getElem?_eq_some_iff.1 hj).1; simp at this; exact this
    subst hj0
    simp at hj
    subst hj
    have e1 : ((⟨W.heap.size, 0, none⟩ : Addr).add 0) = ⟨W.heap.size, 0, none⟩ := by unfold Addr.add; split <;> simp_all
    rw [e1, e0 0]; rfl) (by intro y hy; simp at hy; rw [hy]; rfl) (by omega) (by omega) (by omega)
  have hlo : ∀ k, v.ownBlock = some k → W0.heap.size ≤ k ∧ k < W.heap.size := fun k e => o.row.lt k e
  have q0 := q.1.size
  have hU1 : Upd (fun k => v.ownBlock = some k) (W.alloc (.cells #[.int .u64 (x : Nat)] 22)) w' := (Upd.refl _ _).grown hg (fun k e => .inl e)
  have hU : Upd (fun k => v.ownBlock = some k) W w' := (Upd.of_below hB1).trans' hU1
  refine ⟨v', w', hrun, q.upd' hU (fun k e => ⟨o.keep k e, (hlo k e).1⟩), ⟨?_, ?_, ?_, by simp; omega⟩, hU⟩
  · have := owns_base ho' (b' := W0.heap.size) (fun g e => by rcases hk g e with e | e
                                                              · exact (hlo g e).1
                                                              · omega)
    unfold wds at *
    rw [List.length_append, List.map_append]
    exact this
  · intro k e
    rcases hk k e with e | e
    · exact .inl (o.keep k e)
    · exact .inr ⟨by omega, e.2⟩
  · intro y hy
    rcases List.mem_append.1 hy with h | h
    · exact o.lt y h
    · simp at h; rw [h]; exact hx
end
section
variable {W0 W W1 W' : World} {hb : Nat} {H : List (Option Hc)} {u : Nat} {K K' : Nat → Prop}
end
end Go.Proofs.YtenpopelbmeemaaGreat.W
