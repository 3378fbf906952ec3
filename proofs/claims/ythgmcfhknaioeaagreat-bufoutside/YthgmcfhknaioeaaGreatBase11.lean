import Derived.Test.YthgmcfhknaioeaaGreatBase10
import Derived.BigQuiet
/- Package buf: New; element; raw's functions. -/
namespace Go.Proofs.YthgmcfhknaioeaaGreat.W
open Go.ChangeShapes Go.WideShapes Go.RowKit Go.Shelf
set_option linter.unusedVariables false
theorem isVal_nil (H : List (Option Hc)) : isVal H nilN = true := by unfold isVal; rw [if_neg (by decide), if_neg (by decide)]
theorem most_fit (u n : Nat) {k : Int} (hk : thK k) (h : 1 + (n * elT k + 7) / 8 ≤ u) : (n : Int) ≤ mostE u k := by
  unfold mostE
  rcases elT_cases hk with e | e | e | e <;> rw [e] at h ⊢ <;> omega
section
variable {W0 W W1 W' : World} {hb : Nat} {H : List (Option Hc)} {u : Nat} {K : Nat → Prop}
theorem hf_nils (q : Hf W0 W hb H u K) (hB : Below W.heap.size W W1) (n : Nat) (hl : n ≤ 1048576) (gb : Nat) (hg0 : W.heap.size ≤ gb) (hg1 : gb < W1.heap.size) (hv : WordsAt W1 (.slice (some ⟨gb, 0, none⟩) n n) (List.replicate n nilN)) (hf : sumH H + (1 + n) ≤ u) (vr : Value) (rs : List Nat) (hr : WordsAt W1 vr rs) :
    Calls Tryz.prog 23 #[.pointer (some ⟨hb, 0, none⟩), .agg #[.int .i64 9, .bool false, .int .i64 0, .string ⟨#[]⟩, .slice none 0 0, .slice (some ⟨gb, 0, none⟩) n n, .int .u64 0, .int .i64 0, .int .i64 0], vr] W1 fun e w' => e = .returned (.tuple #[.int .u64 (hw (lid H) : Nat), .int .i64 0]) ∧ Hf W0 w' hb (putH H (lid H) (some (.row (List.replicate n nilN)))) u K ∧ Upd (Ch W0 K) W w' := by
  have q1 := q.below hB
  have hlen : (List.replicate n nilN).length = n := List.length_replicate
  have := hf_row q1 (List.replicate n nilN) (by rw [hlen]; exact hl) (fun x hx => by rw [(List.mem_replicate.1 hx).2]; decide) (fun x hx => by rw [(List.mem_replicate.1 hx).2]; exact isVal_nil H) (some ⟨gb, 0, none⟩) n (by rw [hlen]; exact hv) (fun x e => by cases e; exact .inr ⟨hg0, hg1⟩) (by rw [row_need, hlen]; exact hf) vr rs hr
  rw [hlen] at this
  refine this.mono ?_
  rintro e w' ⟨rfl, h1, h2⟩
  refine ⟨rfl, h1.sub (fun k e => .inl e), (Upd.of_below hB).trans' (h2.mono ?_)⟩
  rintro x ⟨e1, e2⟩
  exact ⟨fun e => e1 (.inl e), e2⟩
theorem bnew_row (q : Hf W0 W hb H u K) (n : Nat) (hf : sumH H + (1 + n) ≤ u) (vr : Value) (rs : List Nat) (hr : WordsAt W vr rs) :
    Calls Tryz.prog 8 #[.pointer (some ⟨hb, 0, none⟩), .int .i64 9, .int .i64 n, vr] W fun e w' => e = .returned (.tuple #[.int .u64 (hw (lid H) : Nat), .int .i64 0]) ∧ Hf W0 w' hb (putH H (lid H) (some (.row (List.replicate n nilN)))) u K ∧ Upd (Ch W0 K) W w' := by
  obtain ⟨sb, vc, T, l⟩ := q.lay
  have hu := l.u1
  have ci := fun w => isThing_c 9 (.inl rfl) w
  have cm := mostElements_c l 9 (.inl rfl)
  have hm := most_fit u n (k := 9) (.inl rfl) (by show 1 + (n * 8 + 7) / 8 ≤ u; omega)
  have cb := blank_row W n (by omega)
  have cp := fun (w2 : World) (gb : Nat) (hB : Below W.heap.size W w2) h0 h1 hv => hf_nils q hB n (by omega) gb h0 h1 hv hf vr rs (words_below hr hB)
  obtain ⟨orr, capr, hvr, _⟩ := id hr
  subst hvr
  have g1 : ¬ (n : Int) < 0 := by omega
  have g2 : ¬ (n : Int) > mostE u 9 := by omega
  generalize mostE u 9 = M at *
  generalize hw (lid H) = X at *
  clear l hr hf hm q
  go_enter Tryz.func8, Tryz.ntmps8
  go_wp2_with (first | (go_at_call 21; (with_reducible refine (ci _).mono ?_); rintro e w' ⟨rfl, hw⟩; (have hw' := hw.symm); subst hw'; clear hw) | (go_at_call 22; (with_reducible refine cm.mono ?_); rintro e w' ⟨rfl, hw⟩; (have hw' := hw.symm); subst hw'; clear hw) | (go_at_call 24; (with_reducible refine cb.mono ?_); rintro e w2 ⟨gb, rfl, hB2, hv2, hg0, hg1⟩; clear cb) | (go_at_call 23; (with_reducible refine (cp _ gb hB2 hg0 hg1 hv2).mono ?_); rintro e w3 ⟨rfl, hq3, hu3⟩; clear cp))
  go_ret2
  exact ⟨rfl, hq3, hu3⟩
theorem bnew_buf (q : Hf W0 W hb H u K) (k : Int) (hk : elB k > 0) (n : Nat) (hf : sumH H + (1 + (n * elB k + 7) / 8) ≤ u) (vr : Value) (rs : List Nat) (hr : WordsAt W vr rs) :
    Calls Tryz.prog 8 #[.pointer (some ⟨hb, 0, none⟩), .int .i64 k, .int .i64 n, vr] W fun e w' => e = .returned (.tuple #[.int .u64 (hw (lid H) : Nat), .int .i64 0]) ∧ Hf W0 w' hb (putH H (lid H) (some (.buf k (List.replicate (n * elB k) 0)))) u K ∧ Upd (Ch W0 K) W w' := by
  obtain ⟨sb, vc, T, l⟩ := q.lay
  have hu := l.u1
  have h9 : ¬ k = 9 := by rintro rfl; simp [elB] at hk
  have eT : elT k = elB k := by unfold elT; rw [if_neg h9]
  have hel : elB k = 1 ∨ elB k = 2 ∨ elB k = 4 ∨ elB k = 8 := by have := elT_cases (k := k) (.inr hk); rw [eT] at this; exact this
  have ci := fun w => isThing_c k (.inr hk) w
  have cm := mostElements_c l k (.inr hk)
  have hm := most_fit u n (k := k) (.inr hk) (by rw [eT]; omega)
  have hn8 : n * elB k ≤ 8388608 := by omega
  have cb := blank_buf W k hk n hn8
  have cp := fun (w2 : World) (gb : Nat) (hB : Below W.heap.size W w2) h0 h1 hv => hf_blank q hB k hk (n * elB k) hn8 (Nat.mul_mod_left _ _) gb h0 h1 hv hf vr rs (words_below hr hB)
  obtain ⟨orr, capr, hvr, _⟩ := id hr
  subst hvr
  have g1 : ¬ (n : Int) < 0 := by omega
  have g2 : ¬ (n : Int) > mostE u k := by omega
  have hnw : IntKind.i64.wrap (n : Int) = n := by
    have : n ≤ 8388608 := by rcases hel with e | e | e | e <;> rw [e] at hn8 <;> omega
    rw [IntKind.wrap_i64]; omega
  generalize mostE u k = M at *
  generalize hw (lid H) = X at *
  generalize n * elB k = N at *
  clear l hr hf hm q hel eT hk
  go_enter Tryz.func8, Tryz.ntmps8
  go_wp2_with (first | (go_at_call 21; (with_reducible refine (ci _).mono ?_); rintro e w' ⟨rfl, hw⟩; (have hw' := hw.symm); subst hw'; clear hw) | (go_at_call 22; (with_reducible refine cm.mono ?_); rintro e w' ⟨rfl, hw⟩; (have hw' := hw.symm); subst hw'; clear hw) | (go_at_call 24; (with_reducible refine cb.mono ?_); rintro e w2 ⟨gb, rfl, hB2, hv2, hg0, hg1⟩; clear cb) | (go_at_call 23; (with_reducible refine (cp _ gb hB2 hg0 hg1 hv2).mono ?_); rintro e w3 ⟨rfl, hq3, hu3⟩; clear cp))
  go_ret2
  exact ⟨rfl, hq3, hu3⟩
theorem bnew_c (q : Hf W0 W hb H u K) (k : Int) (hk : thK k) (n : Nat) (hf : sumH H + (blankH k n).need ≤ u) (vr : Value) (rs : List Nat) (hr : WordsAt W vr rs) :
    Calls Tryz.prog 8 #[.pointer (some ⟨hb, 0, none⟩), .int .i64 k, .int .i64 n, vr] W fun e w' => e = .returned (.tuple #[.int .u64 (hw (lid H) : Nat), .int .i64 0]) ∧ Hf W0 w' hb (putH H (lid H) (some (blankH k n))) u K ∧ Upd (Ch W0 K) W w' := by
  rw [blank_need hk] at hf
  rcases hk with rfl | hk
  · have e : blankH 9 n = .row (List.replicate n nilN) := rfl
    rw [e]
    exact bnew_row q n (by have : elT 9 = 8 := rfl
                           rw [this] at hf; omega) vr rs hr
  · have h9 : ¬ k = 9 := by rintro rfl; simp [elB] at hk
    have e : blankH k n = .buf k (List.replicate (n * elB k) 0) := by unfold blankH; rw [if_neg h9]
    have eT : elT k = elB k := by unfold elT; rw [if_neg h9]
    rw [e]
    rw [eT] at hf
    exact bnew_buf q k hk n hf vr rs hr
theorem bnew_neg (q : Hf W0 W hb H u K) (k : Int) (hk : thK k) (n : Int) (hn : n < 0) (vr : Value) : Calls Tryz.prog 8 #[.pointer (some ⟨hb, 0, none⟩), .int .i64 k, .int .i64 n, vr] W fun e w' => e = .returned (.tuple #[.int .u64 0, .int .i64 13]) ∧ w' = W := by
  have ci := fun w => isThing_c k hk w
  clear q hk
  go_enter Tryz.func8, Tryz.ntmps8
  go_wp2_with (go_at_call 21; (with_reducible refine (ci _).mono ?_); rintro e w' ⟨rfl, hw⟩; (have hw' := hw.symm); subst hw'; clear hw)
  go_ret2
  exact ⟨rfl, rfl⟩
theorem bnew_big (q : Hf W0 W hb H u K) (k : Int) (hk : thK k) (n : Int) (hn : 0 ≤ n) (hb' : n > mostE u k) (vr : Value) : Calls Tryz.prog 8 #[.pointer (some ⟨hb, 0, none⟩), .int .i64 k, .int .i64 n, vr] W fun e w' => e = .returned (.tuple #[.int .u64 0, .int .i64 40]) ∧ w' = W := by
  obtain ⟨sb, vc, T, l⟩ := q.lay
  have ci := fun w => isThing_c k hk w
  have cm := mostElements_c l k hk
  have g1 : ¬ n < 0 := by omega
  generalize mostE u k = M at *
  clear q hk l hn
  go_enter Tryz.func8, Tryz.ntmps8
  go_wp2_with (first | (go_at_call 21; (with_reducible refine (ci _).mono ?_); rintro e w' ⟨rfl, hw⟩; (have hw' := hw.symm); subst hw'; clear hw) | (go_at_call 22; (with_reducible refine cm.mono ?_); rintro e w' ⟨rfl, hw⟩; (have hw' := hw.symm); subst hw'; clear hw))
  go_ret2
  exact ⟨rfl, rfl⟩
end
section
variable {W W' : World} {hb sb : Nat} {vc : Value} {T : Nat → Prop} {H : List (Option Hc)} {u h : Nat}
set_option maxRecDepth 100000 in
set_option maxHeartbeats 1000000 in
theorem elem_core (w i : Int) (kd : Int) (vw : Bool) (bl wl : Nat) (ba fr ln : Int) (xs : List Value) (m : Nat) (hget : ∀ w1, Below W.heap.size W w1 → Calls Tryz.prog 25 #[.pointer (some ⟨hb, 0, none⟩), .int .u64 w] w1 (ThP w1 kd vw bl wl ba fr ln xs))
    (hcnt : ∀ ob ow bc wc W, Calls Tryz.prog 26 #[.agg #[.int .i64 kd, .bool vw, .int .i64 0, .string ⟨#[]⟩, .slice ob bl bc, .slice ow wl wc, .int .u64 ba, .int .i64 fr, .int .i64 ln]] W fun e w' => e = .returned (.int .i64 (m : Nat)) ∧ Below W.heap.size W w') :
    Calls Tryz.prog 32 #[.pointer (some ⟨hb, 0, none⟩), .int .u64 w, .int .i64 i] W fun e w' => (0 ≤ i ∧ i < m ∧ ThP W kd vw bl wl ba fr ln xs e w') ∨ (¬ (0 ≤ i ∧ i < m) ∧ e = .returned (.tuple #[.agg #[.int .i64 0, .bool false, .int .i64 0, .string ⟨#[]⟩, .slice none 0 0, .slice none 0 0, .int .u64 0, .int .i64 0, .int .i64 0], .int .i64 31]) ∧ Below W.heap.size W w') := by
  have hB1 : Below W.heap.size W (W.alloc (.cells #[.int .i64 0, .bool false, .int .i64 0, .string ⟨#[]⟩, .slice none 0 0, .slice none 0 0, .int .u64 0, .int .i64 0, .int .i64 0] 39)) := (Below.refl _ W).alloc (Nat.le_refl _) _
  have hs1 : (W.alloc (.cells #[.int .i64 0, .bool false, .int .i64 0, .string ⟨#[]⟩, .slice none 0 0, .slice none 0 0, .int .u64 0, .int .i64 0, .int .i64 0] 39)).heap.size = W.heap.size + 1 := World.size_alloc ..
  have f1 := World.alloc_heap_new W (.cells #[.int .i64 0, .bool false, .int .i64 0, .string ⟨#[]⟩, .slice none 0 0, .slice none 0 0, .int .u64 0, .int .i64 0, .int .i64 0] 39)
  have cg := hget _ hB1
  clear hget
  generalize hW1 : W.alloc (.cells #[.int .i64 0, .bool false, .int .i64 0, .string ⟨#[]⟩, .slice none 0 0, .slice none 0 0, .int .u64 0, .int .i64 0, .int .i64 0] 39) = W1 at *
  go_enter Tryz.func32, Tryz.ntmps32
  go_upto_region 1 with fail
  clear hW1
  go_upto_region 2 with (go_at_call 25; (with_reducible refine cg.mono ?_); rintro e w2 ⟨ob, bc, ow, wc, rfl, hB2, ho⟩; clear cg)
  have hB3 : Below w2.heap.size w2 (w2.alloc (.cells #[.int .i64 kd, .bool vw, .int .i64 0, .string ⟨#[]⟩, .slice ob bl bc, .slice ow wl wc, .int .u64 ba, .int .i64 fr, .int .i64 ln] 39)) := (Below.refl _ w2).alloc (Nat.le_refl _) _
  have hs3 : (w2.alloc (.cells #[.int .i64 kd, .bool vw, .int .i64 0, .string ⟨#[]⟩, .slice ob bl bc, .slice ow wl wc, .int .u64 ba, .int .i64 fr, .int .i64 ln] 39)).heap.size = w2.heap.size + 1 := World.size_alloc ..
  have e3 := World.cell?_alloc_new w2 #[.int .i64 kd, .bool vw, .int .i64 0, .string ⟨#[]⟩, .slice ob bl bc, .slice ow wl wc, .int .u64 ba, .int .i64 fr, .int .i64 ln] 39
  have z2 := hB2.size
  have f3 : (w2.alloc (.cells #[.int .i64 kd, .bool vw, .int .i64 0, .string ⟨#[]⟩, .slice ob bl bc, .slice ow wl wc, .int .u64 ba, .int .i64 fr, .int .i64 ln] 39)).heap[W.heap.size]? = some (.cells #[.int .i64 0, .bool false, .int .i64 0, .string ⟨#[]⟩, .slice none 0 0, .slice none 0 0, .int .u64 0, .int .i64 0, .int .i64 0] 39) := (hB3.block W.heap.size (by omega)).trans ((hB2.block _ (by omega)).trans f1)
  have ho3 := owns_on ho (fun k e => hB3.block k (ho.lt k e).2)
  have hbel : Below W.heap.size W (w2.alloc (.cells #[.int .i64 kd, .bool vw, .int .i64 0, .string ⟨#[]⟩, .slice ob bl bc, .slice ow wl wc, .int .u64 ba, .int .i64 fr, .int .i64 ln] 39)) := (hB1.trans (hB2.mono hB1.size)).trans (hB3.mono (by have := hB1.size; omega))
  have hge : ∀ q, (Value.slice ow wl wc).ownBlock = some q → W.heap.size + 1 ≤ q := fun q e => by have := (ho.lt q e).1; omega
  have hwz : W.heap.size ≠ w2.heap.size := by omega
  generalize w2.alloc (.cells #[.int .i64 kd, .bool vw, .int .i64 0, .string ⟨#[]⟩, .slice ob bl bc, .slice ow wl wc, .int .u64 ba, .int .i64 fr, .int .i64 ln] 39) = w3 at *
  have kp : Hid (∀ w4, Below w3.heap.size w3 w4 → (∀ j, w4.cell? ⟨w2.heap.size, j, none⟩ = #[.int .i64 kd, .bool vw, .int .i64 0, .string ⟨#[]⟩, .slice ob bl bc, .slice ow wl wc, .int .u64 ba, .int .i64 fr, .int .i64 ln][j]?) ∧ w4.heap[W.heap.size]? = some (.cells #[.int .i64 0, .bool false, .int .i64 0, .string ⟨#[]⟩, .slice none 0 0, .slice none 0 0, .int .u64 0, .int .i64 0, .int .i64 0] 39) ∧ Below W.heap.size W w4 ∧ w4.ownsRow W1.heap.size 26 1 (.slice ow wl wc) wl xs) := by
    show ∀ w4, _
    intro w4 hB4
    exact ⟨fun j => (World.cell?_of_block (hB4.block w2.heap.size (by omega))).trans (e3 j), (hB4.block _ (by omega)).trans f3, hbel.trans (hB4.mono hbel.size), owns_on ho3 (fun k e => hB4.block k (ho3.lt k e).2)⟩
  have cc := hcnt ob ow bc wc w3
  have HG := hid hge
  have fin : Hid (Below W.heap.size W w3 ∧ w3.heap[W.heap.size]? = some (.cells #[.int .i64 0, .bool false, .int .i64 0, .string ⟨#[]⟩, .slice none 0 0, .slice none 0 0, .int .u64 0, .int .i64 0, .int .i64 0] 39)) := ⟨hbel, f3⟩
  clear ho ho3 hbel hge f3 hB2 hB3 hB1 hs1 z2 f1 hs3 hcnt
  by_cases i0 : i < 0
  · obtain ⟨hB3, f3⟩ := fin.out
    have eR := fun j => cell_of_row w3 W.heap.size j _ _ _ f3
    have zR : ∀ j, w3.frozen? ⟨W.heap.size, j, none⟩ = false := fun j => by simp [World.frozen?, f3]
    have FR := hid f3
    have HB := hid hB3
    clear f3 hB3 kp cc fin
    go_wp2
    refine bodyPost_ret (cell_ret2 rfl _ _ W.heap.size _ _ _ _ _ _ _ _ _ (0, 0) rfl (nine_set FR.out _ _ _ _ _ _ _ _ _)) rfl ?_
    exact .inr ⟨by omega, rfl, nine_below HB.out (Nat.le_refl _) _ _ _ _ _ _ _ _ _⟩
  · by_cases i1 : i ≥ (m : Int)
    · clear fin
      go_wp2_with (go_at_call 26; (with_reducible refine cc.mono ?_); rintro e w4 ⟨rfl, hB4⟩; clear cc; (obtain ⟨e4, f4, hB5, ho4⟩ := kp.out w4 hB4); (have eR := fun j => cell_of_row w4 W.heap.size j _ _ _ f4); (have zR := (fun j => by simp [World.frozen?, f4] : ∀ j, w4.frozen? ⟨W.heap.size, j, none⟩ = false)); (have FR := hid f4); (have HB := hid hB5); clear f4 hB5 ho4 hB4)
      refine bodyPost_ret (cell_ret2 rfl _ _ W.heap.size _ _ _ _ _ _ _ _ _ (0, 0) rfl (nine_set FR.out _ _ _ _ _ _ _ _ _)) rfl ?_
      exact .inr ⟨by omega, rfl, nine_below HB.out (Nat.le_refl _) _ _ _ _ _ _ _ _ _⟩
    · clear fin
      go_wp2_with (go_at_call 26; (with_reducible refine cc.mono ?_); rintro e w4 ⟨rfl, hB4⟩; clear cc; (obtain ⟨e4, f4, hB5, ho4⟩ := kp.out w4 hB4); (have eR := fun j => cell_of_row w4 W.heap.size j _ _ _ f4); (have zR := (fun j => by simp [World.frozen?, f4] : ∀ j, w4.frozen? ⟨W.heap.size, j, none⟩ = false)); (have FR := hid f4); (have HB := hid hB5); (have HO := hid ho4); clear f4 hB5 ho4 hB4)
      refine bodyPost_ret (cell_ret2 rfl _ _ W.heap.size _ _ _ _ _ _ _ _ _ (0, 0) rfl (nine_set FR.out _ _ _ _ _ _ _ _ _)) rfl ?_
      refine .inl ⟨by omega, by omega, ob, bc, ow, wc, rfl, nine_below HB.out (Nat.le_refl _) _ _ _ _ _ _ _ _ _, ?_⟩
      refine owns_on (owns_base HO.out (fun q e => by have := HG.out q e; omega)) (fun q e => ?_)
      exact nine_far _ _ _ _ _ _ _ _ _ _ _ q (by have := HG.out q e; omega)
theorem elem_c (g : HLay W hb sb vc T H u h) (w : Nat) (hw : w < 18446744073709551616) (id : Nat) (hi : hit H w = some id) (c : Hc) (hc : H[id]? = some (some c)) (hth : isTh c) (i : Int) (h0 : 0 ≤ i) (h1 : i < (c.cnt : Nat)) :
    Calls Tryz.prog 32 #[.pointer (some ⟨hb, 0, none⟩), .int .u64 w, .int .i64 i] W (ThPost W c) := by
  refine (elem_core w i c.cl.kind c.cl.view c.bl c.wl c.cl.base c.cl.frm c.cl.len (wds c.ws) c.cnt (fun w1 hB => thing_c (g.below hB) w hw id hi c hc hth) (fun ob ow bc wc W => count_c c hth (g.ok id c hc) ob ow bc wc W)).mono ?_
  rintro e w' (⟨_, _, h⟩ | ⟨h, _⟩)
  · exact h
  · exact absurd ⟨h0, h1⟩ h
theorem elem_out (g : HLay W hb sb vc T H u h) (w : Nat) (hw : w < 18446744073709551616) (id : Nat) (hi : hit H w = some id) (c : Hc) (hc : H[id]? = some (some c)) (hth : isTh c) (i : Int) (h1 : ¬ (0 ≤ i ∧ i < (c.cnt : Nat))) :
    Calls Tryz.prog 32 #[.pointer (some ⟨hb, 0, none⟩), .int .u64 w, .int .i64 i] W fun e w' => e = .returned (.tuple #[.agg #[.int .i64 0, .bool false, .int .i64 0, .string ⟨#[]⟩, .slice none 0 0, .slice none 0 0, .int .u64 0, .int .i64 0, .int .i64 0], .int .i64 31]) ∧ Below W.heap.size W w' := by
  refine (elem_core w i c.cl.kind c.cl.view c.bl c.wl c.cl.base c.cl.frm c.cl.len (wds c.ws) c.cnt (fun w1 hB => thing_c (g.below hB) w hw id hi c hc hth) (fun ob ow bc wc W => count_c c hth (g.ok id c hc) ob ow bc wc W)).mono ?_
  rintro e w' (⟨h2, h3, _⟩ | ⟨_, h⟩)
  · exact absurd ⟨h2, h3⟩ h1
  · exact h
theorem raw1_c {w : Nat} {k k2 : Int} {t p n wd Bh Bx Bd : Nat} {bs : List Nat} (g : HLay W hb sb vc T H u h) (s : Spot H w k t p n k2 bs) (r : RawAt W Bh Bx Bd hb w wd) (hwd : wd = 1 ∨ wd = 2 ∨ wd = 4 ∨ wd = 8) (i : Nat) (hi : i * wd + wd ≤ n) (ha : (p + i * wd) % wd = 0) :
    Calls Tryz.prog 128 #[.int .i64 i, .pointer (some ⟨Bh, 0, none⟩), .pointer (some ⟨Bx, 0, none⟩), .pointer (some ⟨Bd, 0, none⟩)] W fun e w' => e = .returned (.int .u64 (leN (seg bs (p + i * wd) wd) : Nat)) ∧ Below W.heap.size W w' := by
  have hok := g.ok t _ s.cell
  have hl8 : bs.length ≤ 8388608 := hok.2.2
  have hfit := s.fit
  have cr := hread_c g s wd hwd (i * wd) hi ha
  have x1 := r.h.cell
  have x2 := r.x.cell
  have x3 := r.d.cell
  have h2 : ((i * wd : Nat) : Int) = (i : Int) * (wd : Int) := by simp
  have hmul : IntKind.i64.wrap ((i : Int) * (wd : Int)) = ((i * wd : Nat) : Int) := by rw [IntKind.wrap_i64, ← h2]; omega
  have hmul' : wrap64 ((i : Int) * (wd : Int)) = ((i * wd : Nat) : Int) := by unfold wrap64; rw [← h2]; omega
  generalize leN (seg bs (p + i * wd) wd) = X at *
  generalize i * wd = iw at *
  clear g s r hok hl8 hfit hi ha h2 hwd
  go_enter Tryz.func128, Tryz.ntmps128
  go_wp2_with (go_at_call 129; (with_reducible refine cr.mono ?_); rintro e w2 ⟨rfl, hB2⟩; clear cr)
  go_ret
  exact ⟨rfl, hB2⟩
theorem raw2_c {w : Nat} {k k2 : Int} {t p n wd Bh Bx Bd : Nat} {bs : List Nat} (g : HLay W hb sb vc T H u h) (s : Spot H w k t p n k2 bs) (r : RawAt W Bh Bx Bd hb w wd) (hwd : wd = 1 ∨ wd = 2 ∨ wd = 4 ∨ wd = 8) (i : Nat) (hi : i * wd + wd ≤ n) (ha : (p + i * wd) % wd = 0) (x : Nat) (hx : x < 18446744073709551616) :
    Calls Tryz.prog 130 #[.int .i64 i, .int .u64 (x : Nat), .pointer (some ⟨Bh, 0, none⟩), .pointer (some ⟨Bx, 0, none⟩), .pointer (some ⟨Bd, 0, none⟩)] W fun e w' => e = .returned (.int .i64 0) ∧ Upd T W w' ∧ HLay w' hb sb vc T (H.set t (some (.buf k2 (saved bs (p + i * wd) x wd)))) u h := by
  have hok := g.ok t _ s.cell
  have hl8 : bs.length ≤ 8388608 := hok.2.2
  have hfit := s.fit
  have cr := hwrite_c g s wd hwd (i * wd) hi ha x hx
  have x1 := r.h.cell
  have x2 := r.x.cell
  have x3 := r.d.cell
  have h2 : ((i * wd : Nat) : Int) = (i : Int) * (wd : Int) := by simp
  have hmul : IntKind.i64.wrap ((i : Int) * (wd : Int)) = ((i * wd : Nat) : Int) := by rw [IntKind.wrap_i64, ← h2]; omega
  have hmul' : wrap64 ((i : Int) * (wd : Int)) = ((i * wd : Nat) : Int) := by unfold wrap64; rw [← h2]; omega
  generalize (H.set t (some (.buf k2 (saved bs (p + i * wd) x wd)))) = HH at *
  generalize i * wd = iw at *
  clear g s r hok hl8 hfit hi ha h2 hwd
  go_enter Tryz.func130, Tryz.ntmps130
  go_wp2_with (go_at_call 131; (with_reducible refine cr.mono ?_); rintro e w2 ⟨rfl, hU, hL⟩; clear cr)
  go_ret
  exact ⟨rfl, hU, hL⟩
end
end Go.Proofs.YthgmcfhknaioeaaGreat.W
/- Package buf: pairOf; Load and Store, of octets and shorts. -/
namespace Go.Proofs.YthgmcfhknaioeaaGreat.W
open Go.ChangeShapes Go.WideShapes Go.RowKit Go.Shelf
set_option linter.unusedVariables false
theorem small_c (i : Int) (h : smallB i = true) (W : World) : Calls Tryz.prog 106 #[.int .i64 i] W fun e w' => e = .returned (.int .u64 (intW i)) ∧ w' = W := by
  have hb : -140737488355328 ≤ i ∧ i ≤ 140737488355327 := by simpa [smallB] using h
  have cf := fromInt_c i (by omega) (by omega) W
  go_enter Tryz.func106, Tryz.ntmps106
  go_wp2_with (go_at_call 72; (with_reducible refine cf.mono ?_); rintro e w' ⟨rfl, hw⟩; (have hw' := hw.symm); subst hw'; clear hw)
  go_ret
  exact ⟨rfl, rfl⟩
/-- a whole number of sixteen bits -/
def sg16 (n : Nat) : Int := ((n : Int) + 32768) % 65536 - 32768
theorem wrap_16 (n : Nat) : IntKind.i16.wrap (n : Int) = sg16 n := by
  have e : IntKind.i16.wrap (n : Int) = if (n : Int) % 65536 ≥ 32768 then (n : Int) % 65536 - 65536 else (n : Int) % 65536 := by
    unfold IntKind.wrap
    simp [IntKind.bits, IntKind.signed]
  rw [e]
  unfold sg16
  split <;> omega
/-- the word of an element of whole numbers -/
def elI (k : Int) (n : Nat) : Int := if k = 7 then intW (sg16 n) else intW n
theorem within_c (j lo hi : Int) (W : World) : Calls Tryz.prog 108 #[.agg #[.int .i64 2, .int .i64 j, .int .u64 0, .string ⟨#[]⟩, .int .u64 0], .int .i64 lo, .int .i64 hi] W fun e w' => e = .returned (if lo ≤ j ∧ j ≤ hi then .tuple #[.int .i64 j, .int .i64 0] else .tuple #[.int .i64 0, .int .i64 13]) ∧ Below W.heap.size W w' := by
  have hB : Below W.heap.size W (W.alloc (.cells #[.int .i64 2, .int .i64 j, .int .u64 0, .string ⟨#[]⟩, .int .u64 0] 49)) := (Below.refl _ W).alloc (Nat.le_refl _) _
  have e1 := World.cell?_alloc_new W #[.int .i64 2, .int .i64 j, .int .u64 0, .string ⟨#[]⟩, .int .u64 0] 49
  by_cases a : j < lo
  · rw [if_neg (by omega)]
    go_enter Tryz.func108, Tryz.ntmps108
    go_wp2
    go_ret2
    exact ⟨rfl, hB⟩
  · by_cases b : j > hi
    · rw [if_neg (by omega)]
      go_enter Tryz.func108, Tryz.ntmps108
      go_wp2
      go_ret2
      exact ⟨rfl, hB⟩
    · rw [if_pos (by omega)]
      go_enter Tryz.func108, Tryz.ntmps108
      go_wp2
      go_ret2
      exact ⟨rfl, hB⟩
theorem within_not (kd : Int) (hk : ¬ kd = 2) (i bi : Int) (t : ByteArray) (re lo hi : Int) (W : World) : Calls Tryz.prog 108 #[.agg #[.int .i64 kd, .int .i64 i, .int .u64 bi, .string t, .int .u64 re], .int .i64 lo, .int .i64 hi] W fun e w' => e = .returned (.tuple #[.int .i64 0, .int .i64 51]) ∧ Below W.heap.size W w' := by
  have hB : Below W.heap.size W (W.alloc (.cells #[.int .i64 kd, .int .i64 i, .int .u64 bi, .string t, .int .u64 re] 49)) := (Below.refl _ W).alloc (Nat.le_refl _) _
  have e1 := World.cell?_alloc_new W #[.int .i64 kd, .int .i64 i, .int .u64 bi, .string t, .int .u64 re] 49
  go_enter Tryz.func108, Tryz.ntmps108
  go_wp2
  go_ret2
  exact ⟨rfl, hB⟩
theorem spot_thing {H : List (Option Hc)} {w : Nat} {k k2 : Int} {t p n : Nat} {bs : List Nat} (s : Spot H w k t p n k2 bs) (hk : elB k > 0) : ∃ id c, hit H w = some id ∧ H[id]? = some (some c) ∧ isTh c ∧ c.cl.kind = k ∧ c.cnt = n / elB k := by
  obtain ⟨id, hi, ⟨hc, rfl, rfl, rfl, rfl⟩ | ⟨ba, c, hc, hb2, rfl⟩⟩ := s.road
  · exact ⟨t, _, hi, hc, trivial, rfl, rfl⟩
  · refine ⟨id, _, hi, hc, trivial, rfl, ?_⟩
    show c = c * elB k / elB k
    rw [Nat.mul_div_cancel _ hk]
theorem pair_f0 (f g : Fn) (cs ds : Array Value) (w : World) : (Instr.field 78 (.agg #[.func f #[] cs, .func g #[] ds]) 0).run Tryz.prog w = .ok (.func f #[] cs) w := by kernel_rfl
theorem pair_f1 (f g : Fn) (cs ds : Array Value) (w : World) : (Instr.field 78 (.agg #[.func f #[] cs, .func g #[] ds]) 1).run Tryz.prog w = .ok (.func g #[] ds) w := by kernel_rfl
section
variable {W W' : World} {hb sb : Nat} {vc : Value} {T : Nat → Prop} {H : List (Option Hc)} {u h : Nat}
set_option maxRecDepth 100000 in
theorem pairOf_octets (W : World) (hb w : Nat) (vw : Bool) (ob ow : Option Addr) (bl bc wl wc : Nat) (ba fr ln : Int) : Calls Tryz.prog 34 #[.pointer (some ⟨hb, 0, none⟩), .int .u64 (w : Nat), .agg #[.int .i64 8, .bool vw, .int .i64 0, .string ⟨#[]⟩, .slice ob bl bc, .slice ow wl wc, .int .u64 ba, .int .i64 fr, .int .i64 ln]] W fun e w' => ∃ Br Bw, e = .returned (.agg #[.func (.func 109) #[] #[.pointer (some ⟨Br, 0, none⟩)], .func (.func 110) #[] #[.pointer (some ⟨Bw, 0, none⟩)]]) ∧ Below W.heap.size W w' ∧ PairAt w' Br Bw hb w 1 := by
  have hB1 : Below W.heap.size W (W.alloc (.cells #[.int .i64 8, .bool vw, .int .i64 0, .string ⟨#[]⟩, .slice ob bl bc, .slice ow wl wc, .int .u64 ba, .int .i64 fr, .int .i64 ln] 39)) := (Below.refl _ W).alloc (Nat.le_refl _) _
  have hs1 : (W.alloc (.cells #[.int .i64 8, .bool vw, .int .i64 0, .string ⟨#[]⟩, .slice ob bl bc, .slice ow wl wc, .int .u64 ba, .int .i64 fr, .int .i64 ln] 39)).heap.size = W.heap.size + 1 := World.size_alloc ..
  have e1 := World.cell?_alloc_new W #[.int .i64 8, .bool vw, .int .i64 0, .string ⟨#[]⟩, .slice ob bl bc, .slice ow wl wc, .int .u64 ba, .int .i64 fr, .int .i64 ln] 39 0
  simp only [List.getElem?_toArray, List.getElem?_cons_zero] at e1
  generalize hW1 : W.alloc (.cells #[.int .i64 8, .bool vw, .int .i64 0, .string ⟨#[]⟩, .slice ob bl bc, .slice ow wl wc, .int .u64 ba, .int .i64 fr, .int .i64 ln] 39) = W1 at *
  have hB2 : Below W1.heap.size W1 (W1.alloc (.cells #[.nilFunc, .nilFunc] 78)) := (Below.refl _ W1).alloc (Nat.le_refl _) _
  have hs2 : (W1.alloc (.cells #[.nilFunc, .nilFunc] 78)).heap.size = W.heap.size + 2 := by rw [World.size_alloc, hs1]
  have f2 := World.alloc_heap_new W1 (.cells #[.nilFunc, .nilFunc] 78)
  have e2 := below_cell hB2 e1
  generalize hW2 : W1.alloc (.cells #[.nilFunc, .nilFunc] 78) = W2 at *
  have cr := octets_c W2 hb w
  have kp : Hid (∀ w4, Below W2.heap.size W2 w4 → w4.heap[W1.heap.size]? = some (.cells #[.nilFunc, .nilFunc] 78) ∧ Below W.heap.size W w4) := by
    show ∀ w4, _
    intro w4 hB4
    have := hB2.size
    exact ⟨(hB4.block _ (by omega)).trans f2, (hB1.trans (hB2.mono hB1.size)).trans (hB4.mono (by have := hB1.size; omega))⟩
  have HS1 : Hid (W.heap.size ≤ W1.heap.size) := hid hB1.size
  clear hB1 hs1 e1 hB2 hs2 f2
  go_enter Tryz.func34, Tryz.ntmps34
  go_upto_region 1 with fail
  clear hW1 hW2
  go_wp2_with (go_at_call 69; (with_reducible refine cr.mono ?_); rintro e w4 ⟨Br, Bw, rfl, hB4, hP4⟩; clear cr; (obtain ⟨f4, hB5⟩ := kp.out w4 hB4); (have eR := fun j => cell_of_row w4 W1.heap.size j _ _ _ f4); (have zR := (fun j => by simp [World.frozen?, f4] : ∀ j, w4.frozen? ⟨W1.heap.size, j, none⟩ = false)); (have FR := hid f4); (have HB := hid hB5); (have HP := hid hP4); clear f4 hB5 hP4 hB4)
  refine bodyPost_ret (pair_ret rfl _ _ W1.heap.size _ _ (0, 0) rfl (two_set FR.out _ _)) rfl ?_
  refine ⟨Br, Bw, rfl, two_below HB.out HS1.out _ _, ?_⟩
  obtain ⟨Bh, Bx, Bd, hR, hr, hw⟩ := HP.out.ex
  have ne : ∀ {B t : Nat} {v : Value}, Boxed w4 B t v → B ≠ W1.heap.size := by
    intro B t v hb e
    subst e
    have := FR.out
    unfold Boxed at hb
    rw [hb] at this
    simp at this
  exact ⟨Bh, Bx, Bd, ⟨box_of (two_far _ _ _ _ _ (ne hR.h)) hR.h, box_of (two_far _ _ _ _ _ (ne hR.x)) hR.x, box_of (two_far _ _ _ _ _ (ne hR.d)) hR.d⟩, box_of (two_far _ _ _ _ _ (ne hr)) hr, box_of (two_far _ _ _ _ _ (ne hw)) hw⟩
theorem octets1_c {w : Nat} {k2 : Int} {t p n Br Bw : Nat} {bs : List Nat} (g : HLay W hb sb vc T H u h) (s : Spot H w 8 t p n k2 bs) (r : PairAt W Br Bw hb w 1) (i : Nat) (hi : i * 1 + 1 ≤ n) (ha : (p + i * 1) % 1 = 0) :
    Calls Tryz.prog 109 #[.int .i64 i, .pointer (some ⟨Br, 0, none⟩)] W fun e w' => e = .returned (.int .u64 (elI 8 (leN (seg bs (p + i * 1) 1)))) ∧ Below W.heap.size W w' := by
  obtain ⟨Bh, Bx, Bd, hR, hr, hw⟩ := r.ex
  have cr := raw1_c g s hR (.inl rfl) i hi ha
  have hok := g.ok t _ s.cell
  have hN : leN (seg bs (p + i * 1) 1) < 256 := by
    have h1 := leN_lt (seg bs (p + i * 1) 1) (fun x hx => hok.2.1 x (List.mem_of_mem_drop (List.mem_of_mem_take hx)))
    have h2 : (seg bs (p + i * 1) 1).length ≤ 1 := by unfold seg; rw [List.length_take]; omega
    have h3 : 256 ^ (seg bs (p + i * 1) 1).length ≤ 256 ^ 1 := Nat.pow_le_pow_right (by omega) h2
    omega
  have hcv : IntKind.i64.wrap ((leN (seg bs (p + i * 1) 1) : Nat) : Int) = ((leN (seg bs (p + i * 1) 1) : Nat) : Int) := by rw [IntKind.wrap_i64]; omega
  have cs := fun w => small_c ((leN (seg bs (p + i * 1) 1) : Nat) : Int) (by unfold smallB; rw [decide_eq_true_eq]; omega) w
  have eI : elI 8 (leN (seg bs (p + i * 1) 1)) = intW ((leN (seg bs (p + i * 1) 1) : Nat) : Int) := by unfold elI; rw [if_neg (by decide)]
  rw [eI]
  have x1 := hr.cell
  generalize leN (seg bs (p + i * 1) 1) = X at *
  generalize intW (X : Int) = IW at *
  clear g s r hR hr hw hok hi ha hN eI
  go_enter Tryz.func109, Tryz.ntmps109
  go_wp2_with (first | (go_at_call 128; (with_reducible refine cr.mono ?_); rintro e w2 ⟨rfl, hB2⟩; clear cr) | (go_at_call 106; (with_reducible refine (cs _).mono ?_); rintro e w' ⟨rfl, hw⟩; (have hw' := hw.symm); subst hw'; clear hw))
  go_ret
  exact ⟨rfl, hB2⟩
theorem octets2_c {w : Nat} {k2 : Int} {t p n Br Bw : Nat} {bs : List Nat} (g : HLay W hb sb vc T H u h) (s : Spot H w 8 t p n k2 bs) (r : PairAt W Br Bw hb w 1) (i : Nat) (hi : i * 1 + 1 ≤ n) (ha : (p + i * 1) % 1 = 0) (xw : Int) (j : Int) (hj : 0 ≤ j ∧ j ≤ 255) :
    Calls Tryz.prog 110 #[.int .i64 i, .int .u64 xw, .agg #[.int .i64 2, .int .i64 j, .int .u64 0, .string ⟨#[]⟩, .int .u64 0], .pointer (some ⟨Bw, 0, none⟩)] W fun e w' => e = .returned (.int .i64 0) ∧ Upd T W w' ∧ HLay w' hb sb vc T (H.set t (some (.buf k2 (saved bs (p + i * 1) (j % 18446744073709551616).toNat 1)))) u h := by
  have hB1 : Below W.heap.size W (W.alloc (.cells #[.int .i64 2, .int .i64 j, .int .u64 0, .string ⟨#[]⟩, .int .u64 0] 49)) := (Below.refl _ W).alloc (Nat.le_refl _) _
  have e1 := World.cell?_alloc_new W #[.int .i64 2, .int .i64 j, .int .u64 0, .string ⟨#[]⟩, .int .u64 0] 49
  have ci := fun W => within_c j (0) 255 W
  rw [if_pos hj] at ci
  have hwu : IntKind.u64.wrap j = (((j % 18446744073709551616).toNat : Nat) : Int) := by rw [IntKind.wrap_u64]; omega
  have hx64 : (j % 18446744073709551616).toNat < 18446744073709551616 := by omega
  have hv : ∀ w2, Below W.heap.size W w2 → (∃ Bh Bx Bd, w2.cell? ⟨Bw, 0, none⟩ = some (.func (.func 130) #[] #[.pointer (some ⟨Bh, 0, none⟩), .pointer (some ⟨Bx, 0, none⟩), .pointer (some ⟨Bd, 0, none⟩)]) ∧ Calls Tryz.prog 130 #[.int .i64 i, .int .u64 (((j % 18446744073709551616).toNat : Nat) : Int), .pointer (some ⟨Bh, 0, none⟩), .pointer (some ⟨Bx, 0, none⟩), .pointer (some ⟨Bd, 0, none⟩)] w2 fun e w' => e = .returned (.int .i64 0) ∧ Hid (Upd T W w' ∧ HLay w' hb sb vc T (H.set t (some (.buf k2 (saved bs (p + i * 1) (j % 18446744073709551616).toNat 1)))) u h)) := by
    intro w2 hB2
    obtain ⟨Bh, Bx, Bd, hR, hr, hw⟩ := (r.below hB2).ex
    refine ⟨Bh, Bx, Bd, hw.cell, (raw2_c (g.below hB2) s hR (.inl rfl) i hi ha _ hx64).mono ?_⟩
    rintro e w' ⟨rfl, hU, hL⟩
    exact ⟨rfl, (Upd.of_below hB2).trans' hU, hL⟩
  generalize (H.set t (some (.buf k2 (saved bs (p + i * 1) (j % 18446744073709551616).toNat 1)))) = HH at *
  generalize (((j % 18446744073709551616).toNat : Nat) : Int) = XX at *
  have HV := hid hv
  have HB1 := hid hB1
  clear g s r hi ha hx64 hv hB1
  go_enter Tryz.func110, Tryz.ntmps110
  go_upto_region 4 with (go_at_call 108; (with_reducible refine (ci _).mono ?_); rintro e w2 ⟨rfl, hB2⟩; clear ci)
  obtain ⟨Bh, Bx, Bd, x1, cv⟩ := HV.out w2 (HB1.out.trans (hB2.mono HB1.out.size))
  go_wp2_with (go_at_call 130; (with_reducible refine cv.mono ?_); rintro e w3 ⟨rfl, hf⟩; clear cv)
  go_ret
  exact ⟨rfl, hf.out.1, hf.out.2⟩
theorem octets2_range {Br Bw : Nat} (i xw j : Int) (hj : ¬ (0 ≤ j ∧ j ≤ 255)) (W : World) :
    Calls Tryz.prog 110 #[.int .i64 i, .int .u64 xw, .agg #[.int .i64 2, .int .i64 j, .int .u64 0, .string ⟨#[]⟩, .int .u64 0], .pointer (some ⟨Bw, 0, none⟩)] W fun e w' => e = .returned (.int .i64 13) ∧ Below W.heap.size W w' := by
  have hB1 : Below W.heap.size W (W.alloc (.cells #[.int .i64 2, .int .i64 j, .int .u64 0, .string ⟨#[]⟩, .int .u64 0] 49)) := (Below.refl _ W).alloc (Nat.le_refl _) _
  have e1 := World.cell?_alloc_new W #[.int .i64 2, .int .i64 j, .int .u64 0, .string ⟨#[]⟩, .int .u64 0] 49
  have ci := fun W => within_c j (0) 255 W
  rw [if_neg hj] at ci
  go_enter Tryz.func110, Tryz.ntmps110
  go_wp2_with (go_at_call 108; (with_reducible refine (ci _).mono ?_); rintro e w2 ⟨rfl, hB2⟩; clear ci)
  go_ret
  exact ⟨rfl, hB1.trans (hB2.mono hB1.size)⟩
theorem octets2_type {Br Bw : Nat} (i xw kd : Int) (hk : ¬ kd = 2) (a bi : Int) (t : ByteArray) (re : Int) (W : World) :
    Calls Tryz.prog 110 #[.int .i64 i, .int .u64 xw, .agg #[.int .i64 kd, .int .i64 a, .int .u64 bi, .string t, .int .u64 re], .pointer (some ⟨Bw, 0, none⟩)] W fun e w' => e = .returned (.int .i64 51) ∧ Below W.heap.size W w' := by
  have hB1 : Below W.heap.size W (W.alloc (.cells #[.int .i64 kd, .int .i64 a, .int .u64 bi, .string t, .int .u64 re] 49)) := (Below.refl _ W).alloc (Nat.le_refl _) _
  have e1 := World.cell?_alloc_new W #[.int .i64 kd, .int .i64 a, .int .u64 bi, .string t, .int .u64 re] 49
  have ci := fun W => within_not kd hk a bi t re (0) 255 W
  clear hk
  go_enter Tryz.func110, Tryz.ntmps110
  go_wp2_with (go_at_call 108; (with_reducible refine (ci _).mono ?_); rintro e w2 ⟨rfl, hB2⟩; clear ci)
  go_ret
  exact ⟨rfl, hB1.trans (hB2.mono hB1.size)⟩
set_option maxRecDepth 100000 in
theorem load_octets {w : Nat} {k2 : Int} {t p n : Nat} {bs : List Nat} (g : HLay W hb sb vc T H u h) (s : Spot H w 8 t p n k2 bs) (i : Nat) (hi : i * 1 + 1 ≤ n) (ha : p % 1 = 0) :
    Calls Tryz.prog 16 #[.pointer (some ⟨hb, 0, none⟩), .int .u64 w, .int .i64 i] W fun e w' => e = .returned (.tuple #[.int .u64 (elI 8 (leN (seg bs (p + i * 1) 1))), .int .i64 0]) ∧ Below W.heap.size W w' := by
  obtain ⟨id, c, hit0, hc, hth, hk0, hcn⟩ := spot_thing s (by decide)
  have hcnt : i < c.cnt := by rw [hcn]; show i < n / 1; omega
  have ce := elem_c g w s.w64 id hit0 c hc hth i (by omega) (by omega)
  unfold ThPost at ce
  rw [hk0] at ce
  have hv : ∀ w4 Br Bw, Below W.heap.size W w4 → PairAt w4 Br Bw hb w 1 → Calls Tryz.prog 109 #[.int .i64 i, .pointer (some ⟨Br, 0, none⟩)] w4 fun e w' => e = .returned (.int .u64 (elI 8 (leN (seg bs (p + i * 1) 1)))) ∧ Below w4.heap.size w4 w' := fun w4 Br Bw hB hP => octets1_c (g.below hB) s hP i hi (by omega)
  have hl8 : bs.length ≤ 8388608 := (g.ok t _ s.cell).2.2
  have hiw : IntKind.i64.wrap (i : Int) = i := by have := s.fit; rw [IntKind.wrap_i64]; omega
  have HV := hid hv
  generalize elI 8 (leN (seg bs (p + i * 1) 1)) = X at *
  generalize c.cl.view = vw at *
  generalize c.bl = bl at *
  generalize c.wl = wl at *
  generalize c.cl.base = ba at *
  generalize c.cl.frm = fr at *
  generalize c.cl.len = ln at *
  clear g s hi ha hv hc hth hk0 hcn hcnt hit0 hl8
  go_enter Tryz.func16, Tryz.ntmps16
  go_upto_region 2 with (go_at_call 32; (with_reducible refine ce.mono ?_); rintro e w2 ⟨ob, bc, ow, wc, rfl, hB2, ho⟩; clear ce ho)
  have hB3 : Below w2.heap.size w2 (w2.alloc (.cells #[.int .i64 8, .bool vw, .int .i64 0, .string ⟨#[]⟩, .slice ob bl bc, .slice ow wl wc, .int .u64 ba, .int .i64 fr, .int .i64 ln] 39)) := (Below.refl _ w2).alloc (Nat.le_refl _) _
  have e3 := World.cell?_alloc_new w2 #[.int .i64 8, .bool vw, .int .i64 0, .string ⟨#[]⟩, .slice ob bl bc, .slice ow wl wc, .int .u64 ba, .int .i64 fr, .int .i64 ln] 39
  have hbel := hB2.trans (hB3.mono hB2.size)
  generalize w2.alloc (.cells #[.int .i64 8, .bool vw, .int .i64 0, .string ⟨#[]⟩, .slice ob bl bc, .slice ow wl wc, .int .u64 ba, .int .i64 fr, .int .i64 ln] 39) = w3 at *
  have cp := pairOf_octets w3 hb w vw ob ow bl bc wl wc ba fr ln
  have HBel := hid hbel
  have pf := fun f g cs ds w => pair_f0 f g cs ds w
  clear hB2 hB3 hbel
  go_wp2_with (first | (go_at_call 34; (with_reducible refine cp.mono ?_); rintro e w4 ⟨Br, Bw, rfl, hB4, hP4⟩; clear cp; (have cv := HV.out w4 Br Bw (HBel.out.trans (hB4.mono HBel.out.size)) hP4)) | (go_at_call 109; (with_reducible refine cv.mono ?_); rintro e w5 ⟨rfl, hB5⟩; clear cv))
  go_ret2
  exact ⟨rfl, (HBel.out.trans (hB4.mono HBel.out.size)).trans (hB5.mono (by have := HBel.out.size; have := hB4.size; omega))⟩
set_option maxRecDepth 100000 in
theorem pairOf_shorts (W : World) (hb w : Nat) (vw : Bool) (ob ow : Option Addr) (bl bc wl wc : Nat) (ba fr ln : Int) : Calls Tryz.prog 34 #[.pointer (some ⟨hb, 0, none⟩), .int .u64 (w : Nat), .agg #[.int .i64 7, .bool vw, .int .i64 0, .string ⟨#[]⟩, .slice ob bl bc, .slice ow wl wc, .int .u64 ba, .int .i64 fr, .int .i64 ln]] W fun e w' => ∃ Br Bw, e = .returned (.agg #[.func (.func 105) #[] #[.pointer (some ⟨Br, 0, none⟩)], .func (.func 107) #[] #[.pointer (some ⟨Bw, 0, none⟩)]]) ∧ Below W.heap.size W w' ∧ PairAt w' Br Bw hb w 2 := by
  have hB1 : Below W.heap.size W (W.alloc (.cells #[.int .i64 7, .bool vw, .int .i64 0, .string ⟨#[]⟩, .slice ob bl bc, .slice ow wl wc, .int .u64 ba, .int .i64 fr, .int .i64 ln] 39)) := (Below.refl _ W).alloc (Nat.le_refl _) _
  have hs1 : (W.alloc (.cells #[.int .i64 7, .bool vw, .int .i64 0, .string ⟨#[]⟩, .slice ob bl bc, .slice ow wl wc, .int .u64 ba, .int .i64 fr, .int .i64 ln] 39)).heap.size = W.heap.size + 1 := World.size_alloc ..
  have e1 := World.cell?_alloc_new W #[.int .i64 7, .bool vw, .int .i64 0, .string ⟨#[]⟩, .slice ob bl bc, .slice ow wl wc, .int .u64 ba, .int .i64 fr, .int .i64 ln] 39 0
  simp only [List.getElem?_toArray, List.getElem?_cons_zero] at e1
  generalize hW1 : W.alloc (.cells #[.int .i64 7, .bool vw, .int .i64 0, .string ⟨#[]⟩, .slice ob bl bc, .slice ow wl wc, .int .u64 ba, .int .i64 fr, .int .i64 ln] 39) = W1 at *
  have hB2 : Below W1.heap.size W1 (W1.alloc (.cells #[.nilFunc, .nilFunc] 78)) := (Below.refl _ W1).alloc (Nat.le_refl _) _
  have hs2 : (W1.alloc (.cells #[.nilFunc, .nilFunc] 78)).heap.size = W.heap.size + 2 := by rw [World.size_alloc, hs1]
  have f2 := World.alloc_heap_new W1 (.cells #[.nilFunc, .nilFunc] 78)
  have e2 := below_cell hB2 e1
  generalize hW2 : W1.alloc (.cells #[.nilFunc, .nilFunc] 78) = W2 at *
  have cr := shorts_c W2 hb w
  have kp : Hid (∀ w4, Below W2.heap.size W2 w4 → w4.heap[W1.heap.size]? = some (.cells #[.nilFunc, .nilFunc] 78) ∧ Below W.heap.size W w4) := by
    show ∀ w4, _
    intro w4 hB4
    have := hB2.size
    exact ⟨(hB4.block _ (by omega)).trans f2, (hB1.trans (hB2.mono hB1.size)).trans (hB4.mono (by have := hB1.size; omega))⟩
  have HS1 : Hid (W.heap.size ≤ W1.heap.size) := hid hB1.size
  clear hB1 hs1 e1 hB2 hs2 f2
  go_enter Tryz.func34, Tryz.ntmps34
  go_upto_region 1 with fail
  clear hW1 hW2
  go_wp2_with (go_at_call 68; (with_reducible refine cr.mono ?_); rintro e w4 ⟨Br, Bw, rfl, hB4, hP4⟩; clear cr; (obtain ⟨f4, hB5⟩ := kp.out w4 hB4); (have eR := fun j => cell_of_row w4 W1.heap.size j _ _ _ f4); (have zR := (fun j => by simp [World.frozen?, f4] : ∀ j, w4.frozen? ⟨W1.heap.size, j, none⟩ = false)); (have FR := hid f4); (have HB := hid hB5); (have HP := hid hP4); clear f4 hB5 hP4 hB4)
  refine bodyPost_ret (pair_ret rfl _ _ W1.heap.size _ _ (0, 0) rfl (two_set FR.out _ _)) rfl ?_
  refine ⟨Br, Bw, rfl, two_below HB.out HS1.out _ _, ?_⟩
  obtain ⟨Bh, Bx, Bd, hR, hr, hw⟩ := HP.out.ex
  have ne : ∀ {B t : Nat} {v : Value}, Boxed w4 B t v → B ≠ W1.heap.size := by
    intro B t v hb e
    subst e
    have := FR.out
    unfold Boxed at hb
    rw [hb] at this
    simp at this
  exact ⟨Bh, Bx, Bd, ⟨box_of (two_far _ _ _ _ _ (ne hR.h)) hR.h, box_of (two_far _ _ _ _ _ (ne hR.x)) hR.x, box_of (two_far _ _ _ _ _ (ne hR.d)) hR.d⟩, box_of (two_far _ _ _ _ _ (ne hr)) hr, box_of (two_far _ _ _ _ _ (ne hw)) hw⟩
theorem shorts1_c {w : Nat} {k2 : Int} {t p n Br Bw : Nat} {bs : List Nat} (g : HLay W hb sb vc T H u h) (s : Spot H w 7 t p n k2 bs) (r : PairAt W Br Bw hb w 2) (i : Nat) (hi : i * 2 + 2 ≤ n) (ha : (p + i * 2) % 2 = 0) :
    Calls Tryz.prog 105 #[.int .i64 i, .pointer (some ⟨Br, 0, none⟩)] W fun e w' => e = .returned (.int .u64 (elI 7 (leN (seg bs (p + i * 2) 2)))) ∧ Below W.heap.size W w' := by
  obtain ⟨Bh, Bx, Bd, hR, hr, hw⟩ := r.ex
  have cr := raw1_c g s hR (.inr (.inl rfl)) i hi ha
  have eI : elI 7 (leN (seg bs (p + i * 2) 2)) = intW (sg16 (leN (seg bs (p + i * 2) 2))) := by unfold elI; rw [if_pos rfl]
  rw [eI]
  generalize leN (seg bs (p + i * 2) 2) = X at *
  have hs16 : -32768 ≤ sg16 X ∧ sg16 X ≤ 32767 := by unfold sg16; omega
  have hcv : IntKind.i16.wrap (X : Int) = sg16 X := wrap_16 X
  have hcw : IntKind.i64.wrap (sg16 X) = sg16 X := by rw [IntKind.wrap_i64]; omega
  have cs := fun w => small_c (sg16 X) (by unfold smallB; rw [decide_eq_true_eq]; omega) w
  have x1 := hr.cell
  generalize intW (sg16 X) = IW at *
  generalize sg16 X = S16 at *
  clear g s r hR hr hw hi ha eI hs16
  go_enter Tryz.func105, Tryz.ntmps105
  go_wp2_with (first | (go_at_call 128; (with_reducible refine cr.mono ?_); rintro e w2 ⟨rfl, hB2⟩; clear cr) | (go_at_call 106; (with_reducible refine (cs _).mono ?_); rintro e w' ⟨rfl, hw⟩; (have hw' := hw.symm); subst hw'; clear hw))
  go_ret
  exact ⟨rfl, hB2⟩
theorem shorts2_c {w : Nat} {k2 : Int} {t p n Br Bw : Nat} {bs : List Nat} (g : HLay W hb sb vc T H u h) (s : Spot H w 7 t p n k2 bs) (r : PairAt W Br Bw hb w 2) (i : Nat) (hi : i * 2 + 2 ≤ n) (ha : (p + i * 2) % 2 = 0) (xw : Int) (j : Int) (hj : -32768 ≤ j ∧ j ≤ 32767) :
    Calls Tryz.prog 107 #[.int .i64 i, .int .u64 xw, .agg #[.int .i64 2, .int .i64 j, .int .u64 0, .string ⟨#[]⟩, .int .u64 0], .pointer (some ⟨Bw, 0, none⟩)] W fun e w' => e = .returned (.int .i64 0) ∧ Upd T W w' ∧ HLay w' hb sb vc T (H.set t (some (.buf k2 (saved bs (p + i * 2) (j % 18446744073709551616).toNat 2)))) u h := by
  have hB1 : Below W.heap.size W (W.alloc (.cells #[.int .i64 2, .int .i64 j, .int .u64 0, .string ⟨#[]⟩, .int .u64 0] 49)) := (Below.refl _ W).alloc (Nat.le_refl _) _
  have e1 := World.cell?_alloc_new W #[.int .i64 2, .int .i64 j, .int .u64 0, .string ⟨#[]⟩, .int .u64 0] 49
  have ci := fun W => within_c j (-32768) 32767 W
  rw [if_pos hj] at ci
  have hwu : IntKind.u64.wrap j = (((j % 18446744073709551616).toNat : Nat) : Int) := by rw [IntKind.wrap_u64]; omega
  have hx64 : (j % 18446744073709551616).toNat < 18446744073709551616 := by omega
  have hv : ∀ w2, Below W.heap.size W w2 → (∃ Bh Bx Bd, w2.cell? ⟨Bw, 0, none⟩ = some (.func (.func 130) #[] #[.pointer (some ⟨Bh, 0, none⟩), .pointer (some ⟨Bx, 0, none⟩), .pointer (some ⟨Bd, 0, none⟩)]) ∧ Calls Tryz.prog 130 #[.int .i64 i, .int .u64 (((j % 18446744073709551616).toNat : Nat) : Int), .pointer (some ⟨Bh, 0, none⟩), .pointer (some ⟨Bx, 0, none⟩), .pointer (some ⟨Bd, 0, none⟩)] w2 fun e w' => e = .returned (.int .i64 0) ∧ Hid (Upd T W w' ∧ HLay w' hb sb vc T (H.set t (some (.buf k2 (saved bs (p + i * 2) (j % 18446744073709551616).toNat 2)))) u h)) := by
    intro w2 hB2
    obtain ⟨Bh, Bx, Bd, hR, hr, hw⟩ := (r.below hB2).ex
    refine ⟨Bh, Bx, Bd, hw.cell, (raw2_c (g.below hB2) s hR (.inr (.inl rfl)) i hi ha _ hx64).mono ?_⟩
    rintro e w' ⟨rfl, hU, hL⟩
    exact ⟨rfl, (Upd.of_below hB2).trans' hU, hL⟩
  generalize (H.set t (some (.buf k2 (saved bs (p + i * 2) (j % 18446744073709551616).toNat 2)))) = HH at *
  generalize (((j % 18446744073709551616).toNat : Nat) : Int) = XX at *
  have HV := hid hv
  have HB1 := hid hB1
  clear g s r hi ha hx64 hv hB1
  go_enter Tryz.func107, Tryz.ntmps107
  go_upto_region 4 with (go_at_call 108; (with_reducible refine (ci _).mono ?_); rintro e w2 ⟨rfl, hB2⟩; clear ci)
  obtain ⟨Bh, Bx, Bd, x1, cv⟩ := HV.out w2 (HB1.out.trans (hB2.mono HB1.out.size))
  go_wp2_with (go_at_call 130; (with_reducible refine cv.mono ?_); rintro e w3 ⟨rfl, hf⟩; clear cv)
  go_ret
  exact ⟨rfl, hf.out.1, hf.out.2⟩
theorem shorts2_range {Br Bw : Nat} (i xw j : Int) (hj : ¬ (-32768 ≤ j ∧ j ≤ 32767)) (W : World) :
    Calls Tryz.prog 107 #[.int .i64 i, .int .u64 xw, .agg #[.int .i64 2, .int .i64 j, .int .u64 0, .string ⟨#[]⟩, .int .u64 0], .pointer (some ⟨Bw, 0, none⟩)] W fun e w' => e = .returned (.int .i64 13) ∧ Below W.heap.size W w' := by
  have hB1 : Below W.heap.size W (W.alloc (.cells #[.int .i64 2, .int .i64 j, .int .u64 0, .string ⟨#[]⟩, .int .u64 0] 49)) := (Below.refl _ W).alloc (Nat.le_refl _) _
  have e1 := World.cell?_alloc_new W #[.int .i64 2, .int .i64 j, .int .u64 0, .string ⟨#[]⟩, .int .u64 0] 49
  have ci := fun W => within_c j (-32768) 32767 W
  rw [if_neg hj] at ci
  go_enter Tryz.func107, Tryz.ntmps107
  go_wp2_with (go_at_call 108; (with_reducible refine (ci _).mono ?_); rintro e w2 ⟨rfl, hB2⟩; clear ci)
  go_ret
  exact ⟨rfl, hB1.trans (hB2.mono hB1.size)⟩
theorem shorts2_type {Br Bw : Nat} (i xw kd : Int) (hk : ¬ kd = 2) (a bi : Int) (t : ByteArray) (re : Int) (W : World) :
    Calls Tryz.prog 107 #[.int .i64 i, .int .u64 xw, .agg #[.int .i64 kd, .int .i64 a, .int .u64 bi, .string t, .int .u64 re], .pointer (some ⟨Bw, 0, none⟩)] W fun e w' => e = .returned (.int .i64 51) ∧ Below W.heap.size W w' := by
  have hB1 : Below W.heap.size W (W.alloc (.cells #[.int .i64 kd, .int .i64 a, .int .u64 bi, .string t, .int .u64 re] 49)) := (Below.refl _ W).alloc (Nat.le_refl _) _
  have e1 := World.cell?_alloc_new W #[.int .i64 kd, .int .i64 a, .int .u64 bi, .string t, .int .u64 re] 49
  have ci := fun W => within_not kd hk a bi t re (-32768) 32767 W
  clear hk
  go_enter Tryz.func107, Tryz.ntmps107
  go_wp2_with (go_at_call 108; (with_reducible refine (ci _).mono ?_); rintro e w2 ⟨rfl, hB2⟩; clear ci)
  go_ret
  exact ⟨rfl, hB1.trans (hB2.mono hB1.size)⟩
set_option maxRecDepth 100000 in
theorem load_shorts {w : Nat} {k2 : Int} {t p n : Nat} {bs : List Nat} (g : HLay W hb sb vc T H u h) (s : Spot H w 7 t p n k2 bs) (i : Nat) (hi : i * 2 + 2 ≤ n) (ha : p % 2 = 0) :
    Calls Tryz.prog 16 #[.pointer (some ⟨hb, 0, none⟩), .int .u64 w, .int .i64 i] W fun e w' => e = .returned (.tuple #[.int .u64 (elI 7 (leN (seg bs (p + i * 2) 2))), .int .i64 0]) ∧ Below W.heap.size W w' := by
  obtain ⟨id, c, hit0, hc, hth, hk0, hcn⟩ := spot_thing s (by decide)
  have hcnt : i < c.cnt := by rw [hcn]; show i < n / 2; omega
  have ce := elem_c g w s.w64 id hit0 c hc hth i (by omega) (by omega)
  unfold ThPost at ce
  rw [hk0] at ce
  have hv : ∀ w4 Br Bw, Below W.heap.size W w4 → PairAt w4 Br Bw hb w 2 → Calls Tryz.prog 105 #[.int .i64 i, .pointer (some ⟨Br, 0, none⟩)] w4 fun e w' => e = .returned (.int .u64 (elI 7 (leN (seg bs (p + i * 2) 2)))) ∧ Below w4.heap.size w4 w' := fun w4 Br Bw hB hP => shorts1_c (g.below hB) s hP i hi (by omega)
  have hl8 : bs.length ≤ 8388608 := (g.ok t _ s.cell).2.2
  have hiw : IntKind.i64.wrap (i : Int) = i := by have := s.fit; rw [IntKind.wrap_i64]; omega
  have HV := hid hv
  generalize elI 7 (leN (seg bs (p + i * 2) 2)) = X at *
  generalize c.cl.view = vw at *
  generalize c.bl = bl at *
  generalize c.wl = wl at *
  generalize c.cl.base = ba at *
  generalize c.cl.frm = fr at *
  generalize c.cl.len = ln at *
  clear g s hi ha hv hc hth hk0 hcn hcnt hit0 hl8
  go_enter Tryz.func16, Tryz.ntmps16
  go_upto_region 2 with (go_at_call 32; (with_reducible refine ce.mono ?_); rintro e w2 ⟨ob, bc, ow, wc, rfl, hB2, ho⟩; clear ce ho)
  have hB3 : Below w2.heap.size w2 (w2.alloc (.cells #[.int .i64 7, .bool vw, .int .i64 0, .string ⟨#[]⟩, .slice ob bl bc, .slice ow wl wc, .int .u64 ba, .int .i64 fr, .int .i64 ln] 39)) := (Below.refl _ w2).alloc (Nat.le_refl _) _
  have e3 := World.cell?_alloc_new w2 #[.int .i64 7, .bool vw, .int .i64 0, .string ⟨#[]⟩, .slice ob bl bc, .slice ow wl wc, .int .u64 ba, .int .i64 fr, .int .i64 ln] 39
  have hbel := hB2.trans (hB3.mono hB2.size)
  generalize w2.alloc (.cells #[.int .i64 7, .bool vw, .int .i64 0, .string ⟨#[]⟩, .slice ob bl bc, .slice ow wl wc, .int .u64 ba, .int .i64 fr, .int .i64 ln] 39) = w3 at *
  have cp := pairOf_shorts w3 hb w vw ob ow bl bc wl wc ba fr ln
  have HBel := hid hbel
  have pf := fun f g cs ds w => pair_f0 f g cs ds w
  clear hB2 hB3 hbel
  go_wp2_with (first | (go_at_call 34; (with_reducible refine cp.mono ?_); rintro e w4 ⟨Br, Bw, rfl, hB4, hP4⟩; clear cp; (have cv := HV.out w4 Br Bw (HBel.out.trans (hB4.mono HBel.out.size)) hP4)) | (go_at_call 105; (with_reducible refine cv.mono ?_); rintro e w5 ⟨rfl, hB5⟩; clear cv))
  go_ret2
  exact ⟨rfl, (HBel.out.trans (hB4.mono HBel.out.size)).trans (hB5.mono (by have := HBel.out.size; have := hB4.size; omega))⟩
end
end Go.Proofs.YthgmcfhknaioeaaGreat.W
/- Package buf: Store, of octets and shorts; Load and Store beyond the end. -/
namespace Go.Proofs.YthgmcfhknaioeaaGreat.W
open Go.ChangeShapes Go.WideShapes Go.RowKit Go.Shelf
set_option linter.unusedVariables false
section
variable {W W' : World} {hb sb : Nat} {vc : Value} {T : Nat → Prop} {H : List (Option Hc)} {u h : Nat}
set_option maxRecDepth 100000 in
set_option maxHeartbeats 1000000 in
/-- Store, over what Unbox answers and what the pair does -/
theorem store_octets {w : Nat} {k2 : Int} {t p n : Nat} {bs : List Nat} (g : HLay W hb sb vc T H u h) (s : Spot H w 8 t p n k2 bs) (i : Nat) (hi : i * 1 + 1 ≤ n) (xw vk va vb vr : Int) (vt : ByteArray)
    (hun : ∀ w2, Below W.heap.size W w2 → Calls Tryz.prog 33 #[.pointer (some ⟨hb, 0, none⟩), .int .u64 xw] w2 fun e w' => e = .returned (.tuple #[.agg #[.int .i64 vk, .int .i64 va, .int .u64 vb, .string vt, .int .u64 vr], .int .i64 0]) ∧ Below w2.heap.size w2 w')
    (code : Int) (P : World → Prop) (hcl : ∀ w4 Br Bw, Below W.heap.size W w4 → PairAt w4 Br Bw hb w 1 → Calls Tryz.prog 110 #[.int .i64 i, .int .u64 xw, .agg #[.int .i64 vk, .int .i64 va, .int .u64 vb, .string vt, .int .u64 vr], .pointer (some ⟨Bw, 0, none⟩)] w4 fun e w' => e = .returned (.int .i64 code) ∧ Upd T w4 w' ∧ P w') :
    Calls Tryz.prog 15 #[.pointer (some ⟨hb, 0, none⟩), .int .u64 w, .int .i64 i, .int .u64 xw] W fun e w' => e = .returned (.int .i64 code) ∧ Upd T W w' ∧ P w' := by
  obtain ⟨id, c, hit0, hc, hth, hk0, hcn⟩ := spot_thing s (by decide)
  have hcnt : i < c.cnt := by rw [hcn]; show i < n / 1; omega
  have ce := elem_c g w s.w64 id hit0 c hc hth i (by omega) (by omega)
  unfold ThPost at ce
  rw [hk0] at ce
  have hl8 : bs.length ≤ 8388608 := (g.ok t _ s.cell).2.2
  have hiw : IntKind.i64.wrap (i : Int) = i := by have := s.fit; rw [IntKind.wrap_i64]; omega
  have HV := hid hcl
  have HU := hid hun
  have HT : Hid (∀ k, T k → k < W.heap.size) := hid g.tlt
  generalize c.cl.view = vw at *
  generalize c.bl = bl at *
  generalize c.wl = wl at *
  generalize c.cl.base = ba at *
  generalize c.cl.frm = fr at *
  generalize c.cl.len = ln at *
  clear g s hi hcl hun hc hth hk0 hcn hcnt hit0 hl8
  go_enter Tryz.func15, Tryz.ntmps15
  go_upto_region 2 with (go_at_call 32; (with_reducible refine ce.mono ?_); rintro e w2 ⟨ob, bc, ow, wc, rfl, hB2, ho⟩; clear ce ho)
  have hB3 : Below w2.heap.size w2 (w2.alloc (.cells #[.int .i64 8, .bool vw, .int .i64 0, .string ⟨#[]⟩, .slice ob bl bc, .slice ow wl wc, .int .u64 ba, .int .i64 fr, .int .i64 ln] 39)) := (Below.refl _ w2).alloc (Nat.le_refl _) _
  have f3 := World.alloc_heap_new w2 (.cells #[.int .i64 8, .bool vw, .int .i64 0, .string ⟨#[]⟩, .slice ob bl bc, .slice ow wl wc, .int .u64 ba, .int .i64 fr, .int .i64 ln] 39)
  have hbel := hB2.trans (hB3.mono hB2.size)
  have hz2 := hB2.size
  generalize w2.alloc (.cells #[.int .i64 8, .bool vw, .int .i64 0, .string ⟨#[]⟩, .slice ob bl bc, .slice ow wl wc, .int .u64 ba, .int .i64 fr, .int .i64 ln] 39) = w3 at *
  generalize w2.heap.size = B9 at *
  have cu := HU.out w3 hbel
  go_upto_region 5 with (go_at_call 33; (with_reducible refine cu.mono ?_); rintro e w4 ⟨rfl, hB4⟩; clear cu)
  have hB5 : Below w4.heap.size w4 (w4.alloc (.cells #[.int .i64 vk, .int .i64 va, .int .u64 vb, .string vt, .int .u64 vr] 49)) := (Below.refl _ w4).alloc (Nat.le_refl _) _
  have f5 := World.alloc_heap_new w4 (.cells #[.int .i64 vk, .int .i64 va, .int .u64 vb, .string vt, .int .u64 vr] 49)
  have f35 : (w4.alloc (.cells #[.int .i64 vk, .int .i64 va, .int .u64 vb, .string vt, .int .u64 vr] 49)).heap[B9]? = some (.cells #[.int .i64 8, .bool vw, .int .i64 0, .string ⟨#[]⟩, .slice ob bl bc, .slice ow wl wc, .int .u64 ba, .int .i64 fr, .int .i64 ln] 39) := (hB5.block B9 (Nat.lt_of_lt_of_le (lt_get f3) hB4.size)).trans ((hB4.block B9 (lt_get f3)).trans f3)
  have hbel5 := (hbel.trans (hB4.mono hbel.size)).trans (hB5.mono (Nat.le_trans hbel.size hB4.size))
  have hz4 : W.heap.size ≤ w4.heap.size := Nat.le_trans hbel.size hB4.size
  generalize w4.alloc (.cells #[.int .i64 vk, .int .i64 va, .int .u64 vb, .string vt, .int .u64 vr] 49) = w5 at *
  generalize w4.heap.size = B11 at *
  have nT : Hid (¬ T B9 ∧ ¬ T B11) := hid ⟨fun e => by have := HT.out _ e; omega, fun e => by have := HT.out _ e; omega⟩
  clear hB4 hB5 hB2 hB3 hbel f3 HU hz2 hz4 HT
  go_upto_region 7 with fail
  have hBd : Below W.heap.size W w5.drew := ⟨hbel5.os, hbel5.tape, hbel5.output, hbel5.size, hbel5.block⟩
  have pf := fun f g cs ds w => pair_f1 f g cs ds w
  have cp := pairOf_octets w5.drew hb w vw ob ow bl bc wl wc ba fr ln
  refine wp_region_held_drew (S := fun w' => w'.heap[B9]? = some (.cells #[.int .i64 8, .bool vw, .int .i64 0, .string ⟨#[]⟩, .slice ob bl bc, .slice ow wl wc, .int .u64 ba, .int .i64 fr, .int .i64 ln] 39) ∧ w'.heap[B11]? = some (.cells #[.int .i64 vk, .int .i64 va, .int .u64 vb, .string vt, .int .u64 vr] 49)) (by kernel_rfl) ⟨f35, f5⟩ ?_
  intro hS
  (refine wpAnyH_take (i := 0) (v := ?_) rfl (by kernel_rfl) (by kernel_rfl) (by kernel_rfl) (fun _ _ _ h => h) (Or.inl ⟨by rfl, ?_⟩) hS ?_); rotate_left; (focus (intro w' hSw; (have ec := fun j => cell_of_row w' B9 j _ _ _ hSw.1); (have ev := fun j => cell_of_row w' B11 j _ _ _ hSw.2); go_simp; (try with_reducible rfl)))
  (refine wpAnyH_take (i := 1) (v := ?_) rfl (by kernel_rfl) (by kernel_rfl) (by kernel_rfl) (fun _ _ _ h => h) (Or.inl ⟨by rfl, ?_⟩) hS ?_); rotate_left; (focus (intro w' hSw; (have ec := fun j => cell_of_row w' B9 j _ _ _ hSw.1); (have ev := fun j => cell_of_row w' B11 j _ _ _ hSw.2); go_simp; (try with_reducible rfl)))
  (refine wpAnyH_take (i := 2) (v := ?_) rfl (by kernel_rfl) (by kernel_rfl) (by kernel_rfl) (fun _ _ _ h => h) (Or.inl ⟨by rfl, ?_⟩) hS ?_); rotate_left; (focus (intro w' hSw; (have ec := fun j => cell_of_row w' B9 j _ _ _ hSw.1); (have ev := fun j => cell_of_row w' B11 j _ _ _ hSw.2); go_simp; (try with_reducible rfl)))
  (refine wpAnyH_take (i := 5) (v := ?_) rfl (by kernel_rfl) (by kernel_rfl) (by kernel_rfl) (fun _ _ _ h => h) (Or.inl ⟨by rfl, ?_⟩) hS ?_); rotate_left; (focus (intro w' hSw; (have ec := fun j => cell_of_row w' B9 j _ _ _ hSw.1); (have ev := fun j => cell_of_row w' B11 j _ _ _ hSw.2); go_simp; (try with_reducible rfl)))
  (refine wpAnyH_take (i := 6) (v := ?_) rfl (by kernel_rfl) (by kernel_rfl) (by kernel_rfl) (fun _ _ _ h => h) (Or.inl ⟨by rfl, ?_⟩) hS ?_); rotate_left; (focus (intro w' hSw; (have ec := fun j => cell_of_row w' B9 j _ _ _ hSw.1); (have ev := fun j => cell_of_row w' B11 j _ _ _ hSw.2); go_simp; (try with_reducible rfl)))
  (refine wpAnyH_take (i := 7) (v := ?_) rfl (by kernel_rfl) (by kernel_rfl) (by kernel_rfl) (fun _ _ _ h => h) (Or.inl ⟨by rfl, ?_⟩) hS ?_); rotate_left; (focus (intro w' hSw; (have ec := fun j => cell_of_row w' B9 j _ _ _ hSw.1); (have ev := fun j => cell_of_row w' B11 j _ _ _ hSw.2); go_simp; (try with_reducible rfl)))
  refine wpAnyH_ready (rs := [3]) (by kernel_rfl) (by simp) ?_
  refine AllReadyH.cons rfl (fun K hK => ?_) AllReadyH.nil
  go_simp
  refine cp.mono ?_
  rintro e w6 ⟨Br, Bw, rfl, hB6, hP6⟩
  have hS6 : w6.heap[B9]? = some (.cells #[.int .i64 8, .bool vw, .int .i64 0, .string ⟨#[]⟩, .slice ob bl bc, .slice ow wl wc, .int .u64 ba, .int .i64 fr, .int .i64 ln] 39) ∧ w6.heap[B11]? = some (.cells #[.int .i64 vk, .int .i64 va, .int .u64 vb, .string vt, .int .u64 vr] 49) := ⟨(hB6.block B9 (lt_get hS.1)).trans hS.1, (hB6.block B11 (lt_get hS.2)).trans hS.2⟩
  have cv := HV.out w6 Br Bw (hBd.trans (hB6.mono hBd.size)) hP6
  refine hK.out _ _ hS6 (fun _ => ?_)
  clear hK K cp hS
  have hS := hS6
  (refine wpAnyH_take (i := 4) (v := ?_) rfl (by kernel_rfl) (by kernel_rfl) (by kernel_rfl) (fun _ _ _ h => h) (Or.inl ⟨by rfl, ?_⟩) hS ?_); rotate_left; (focus (intro w' hSw; go_simp; (try with_reducible rfl)))
  refine wpAnyH_ready (rs := [8]) (by kernel_rfl) (by simp) ?_
  refine AllReadyH.cons rfl (fun K hK => ?_) AllReadyH.nil
  go_simp
  refine cv.mono ?_
  rintro e w7 ⟨rfl, hU7, hP7⟩
  have hS7 : w7.heap[B9]? = some (.cells #[.int .i64 8, .bool vw, .int .i64 0, .string ⟨#[]⟩, .slice ob bl bc, .slice ow wl wc, .int .u64 ba, .int .i64 fr, .int .i64 ln] 39) ∧ w7.heap[B11]? = some (.cells #[.int .i64 vk, .int .i64 va, .int .u64 vb, .string vt, .int .u64 vr] 49) := ⟨(hU7.block B9 (lt_get hS.1) nT.out.1).trans hS.1, (hU7.block B11 (lt_get hS.2) nT.out.2).trans hS.2⟩
  have hUW : Upd T W w7 := (Upd.of_below (hBd.trans (hB6.mono hBd.size))).trans' hU7
  refine hK.out _ _ hS7 (fun _ => ?_)
  clear hK K cv hS hS6
  have hS := hS7
  (refine wpAnyH_take (i := 9) (v := ?_) rfl (by kernel_rfl) (by kernel_rfl) (by kernel_rfl) (fun _ _ _ h => h) (Or.inl ⟨by rfl, ?_⟩) hS ?_); rotate_left; (focus (intro w' hSw; go_simp; (try with_reducible rfl)))
  refine wpAnyH_done (by kernel_rfl) ?_ _
  go_wp2
  go_ret
  exact ⟨rfl, hUW, hP7⟩
set_option maxRecDepth 100000 in
set_option maxHeartbeats 1000000 in
/-- Store, over what Unbox answers and what the pair does -/
theorem store_shorts {w : Nat} {k2 : Int} {t p n : Nat} {bs : List Nat} (g : HLay W hb sb vc T H u h) (s : Spot H w 7 t p n k2 bs) (i : Nat) (hi : i * 2 + 2 ≤ n) (xw vk va vb vr : Int) (vt : ByteArray)
    (hun : ∀ w2, Below W.heap.size W w2 → Calls Tryz.prog 33 #[.pointer (some ⟨hb, 0, none⟩), .int .u64 xw] w2 fun e w' => e = .returned (.tuple #[.agg #[.int .i64 vk, .int .i64 va, .int .u64 vb, .string vt, .int .u64 vr], .int .i64 0]) ∧ Below w2.heap.size w2 w')
    (code : Int) (P : World → Prop) (hcl : ∀ w4 Br Bw, Below W.heap.size W w4 → PairAt w4 Br Bw hb w 2 → Calls Tryz.prog 107 #[.int .i64 i, .int .u64 xw, .agg #[.int .i64 vk, .int .i64 va, .int .u64 vb, .string vt, .int .u64 vr], .pointer (some ⟨Bw, 0, none⟩)] w4 fun e w' => e = .returned (.int .i64 code) ∧ Upd T w4 w' ∧ P w') :
    Calls Tryz.prog 15 #[.pointer (some ⟨hb, 0, none⟩), .int .u64 w, .int .i64 i, .int .u64 xw] W fun e w' => e = .returned (.int .i64 code) ∧ Upd T W w' ∧ P w' := by
  obtain ⟨id, c, hit0, hc, hth, hk0, hcn⟩ := spot_thing s (by decide)
  have hcnt : i < c.cnt := by rw [hcn]; show i < n / 2; omega
  have ce := elem_c g w s.w64 id hit0 c hc hth i (by omega) (by omega)
  unfold ThPost at ce
  rw [hk0] at ce
  have hl8 : bs.length ≤ 8388608 := (g.ok t _ s.cell).2.2
  have hiw : IntKind.i64.wrap (i : Int) = i := by have := s.fit; rw [IntKind.wrap_i64]; omega
  have HV := hid hcl
  have HU := hid hun
  have HT : Hid (∀ k, T k → k < W.heap.size) := hid g.tlt
  generalize c.cl.view = vw at *
  generalize c.bl = bl at *
  generalize c.wl = wl at *
  generalize c.cl.base = ba at *
  generalize c.cl.frm = fr at *
  generalize c.cl.len = ln at *
  clear g s hi hcl hun hc hth hk0 hcn hcnt hit0 hl8
  go_enter Tryz.func15, Tryz.ntmps15
  go_upto_region 2 with (go_at_call 32; (with_reducible refine ce.mono ?_); rintro e w2 ⟨ob, bc, ow, wc, rfl, hB2, ho⟩; clear ce ho)
  have hB3 : Below w2.heap.size w2 (w2.alloc (.cells #[.int .i64 7, .bool vw, .int .i64 0, .string ⟨#[]⟩, .slice ob bl bc, .slice ow wl wc, .int .u64 ba, .int .i64 fr, .int .i64 ln] 39)) := (Below.refl _ w2).alloc (Nat.le_refl _) _
  have f3 := World.alloc_heap_new w2 (.cells #[.int .i64 7, .bool vw, .int .i64 0, .string ⟨#[]⟩, .slice ob bl bc, .slice ow wl wc, .int .u64 ba, .int .i64 fr, .int .i64 ln] 39)
  have hbel := hB2.trans (hB3.mono hB2.size)
  have hz2 := hB2.size
  generalize w2.alloc (.cells #[.int .i64 7, .bool vw, .int .i64 0, .string ⟨#[]⟩, .slice ob bl bc, .slice ow wl wc, .int .u64 ba, .int .i64 fr, .int .i64 ln] 39) = w3 at *
  generalize w2.heap.size = B9 at *
  have cu := HU.out w3 hbel
  go_upto_region 5 with (go_at_call 33; (with_reducible refine cu.mono ?_); rintro e w4 ⟨rfl, hB4⟩; clear cu)
  have hB5 : Below w4.heap.size w4 (w4.alloc (.cells #[.int .i64 vk, .int .i64 va, .int .u64 vb, .string vt, .int .u64 vr] 49)) := (Below.refl _ w4).alloc (Nat.le_refl _) _
  have f5 := World.alloc_heap_new w4 (.cells #[.int .i64 vk, .int .i64 va, .int .u64 vb, .string vt, .int .u64 vr] 49)
  have f35 : (w4.alloc (.cells #[.int .i64 vk, .int .i64 va, .int .u64 vb, .string vt, .int .u64 vr] 49)).heap[B9]? = some (.cells #[.int .i64 7, .bool vw, .int .i64 0, .string ⟨#[]⟩, .slice ob bl bc, .slice ow wl wc, .int .u64 ba, .int .i64 fr, .int .i64 ln] 39) := (hB5.block B9 (Nat.lt_of_lt_of_le (lt_get f3) hB4.size)).trans ((hB4.block B9 (lt_get f3)).trans f3)
  have hbel5 := (hbel.trans (hB4.mono hbel.size)).trans (hB5.mono (Nat.le_trans hbel.size hB4.size))
  have hz4 : W.heap.size ≤ w4.heap.size := Nat.le_trans hbel.size hB4.size
  generalize w4.alloc (.cells #[.int .i64 vk, .int .i64 va, .int .u64 vb, .string vt, .int .u64 vr] 49) = w5 at *
  generalize w4.heap.size = B11 at *
  have nT : Hid (¬ T B9 ∧ ¬ T B11) := hid ⟨fun e => by have := HT.out _ e; omega, fun e => by have := HT.out _ e; omega⟩
  clear hB4 hB5 hB2 hB3 hbel f3 HU hz2 hz4 HT
  go_upto_region 7 with fail
  have hBd : Below W.heap.size W w5.drew := ⟨hbel5.os, hbel5.tape, hbel5.output, hbel5.size, hbel5.block⟩
  have pf := fun f g cs ds w => pair_f1 f g cs ds w
  have cp := pairOf_shorts w5.drew hb w vw ob ow bl bc wl wc ba fr ln
  refine wp_region_held_drew (S := fun w' => w'.heap[B9]? = some (.cells #[.int .i64 7, .bool vw, .int .i64 0, .string ⟨#[]⟩, .slice ob bl bc, .slice ow wl wc, .int .u64 ba, .int .i64 fr, .int .i64 ln] 39) ∧ w'.heap[B11]? = some (.cells #[.int .i64 vk, .int .i64 va, .int .u64 vb, .string vt, .int .u64 vr] 49)) (by kernel_rfl) ⟨f35, f5⟩ ?_
  intro hS
  (refine wpAnyH_take (i := 0) (v := ?_) rfl (by kernel_rfl) (by kernel_rfl) (by kernel_rfl) (fun _ _ _ h => h) (Or.inl ⟨by rfl, ?_⟩) hS ?_); rotate_left; (focus (intro w' hSw; (have ec := fun j => cell_of_row w' B9 j _ _ _ hSw.1); (have ev := fun j => cell_of_row w' B11 j _ _ _ hSw.2); go_simp; (try with_reducible rfl)))
  (refine wpAnyH_take (i := 1) (v := ?_) rfl (by kernel_rfl) (by kernel_rfl) (by kernel_rfl) (fun _ _ _ h => h) (Or.inl ⟨by rfl, ?_⟩) hS ?_); rotate_left; (focus (intro w' hSw; (have ec := fun j => cell_of_row w' B9 j _ _ _ hSw.1); (have ev := fun j => cell_of_row w' B11 j _ _ _ hSw.2); go_simp; (try with_reducible rfl)))
  (refine wpAnyH_take (i := 2) (v := ?_) rfl (by kernel_rfl) (by kernel_rfl) (by kernel_rfl) (fun _ _ _ h => h) (Or.inl ⟨by rfl, ?_⟩) hS ?_); rotate_left; (focus (intro w' hSw; (have ec := fun j => cell_of_row w' B9 j _ _ _ hSw.1); (have ev := fun j => cell_of_row w' B11 j _ _ _ hSw.2); go_simp; (try with_reducible rfl)))
  (refine wpAnyH_take (i := 5) (v := ?_) rfl (by kernel_rfl) (by kernel_rfl) (by kernel_rfl) (fun _ _ _ h => h) (Or.inl ⟨by rfl, ?_⟩) hS ?_); rotate_left; (focus (intro w' hSw; (have ec := fun j => cell_of_row w' B9 j _ _ _ hSw.1); (have ev := fun j => cell_of_row w' B11 j _ _ _ hSw.2); go_simp; (try with_reducible rfl)))
  (refine wpAnyH_take (i := 6) (v := ?_) rfl (by kernel_rfl) (by kernel_rfl) (by kernel_rfl) (fun _ _ _ h => h) (Or.inl ⟨by rfl, ?_⟩) hS ?_); rotate_left; (focus (intro w' hSw; (have ec := fun j => cell_of_row w' B9 j _ _ _ hSw.1); (have ev := fun j => cell_of_row w' B11 j _ _ _ hSw.2); go_simp; (try with_reducible rfl)))
  (refine wpAnyH_take (i := 7) (v := ?_) rfl (by kernel_rfl) (by kernel_rfl) (by kernel_rfl) (fun _ _ _ h => h) (Or.inl ⟨by rfl, ?_⟩) hS ?_); rotate_left; (focus (intro w' hSw; (have ec := fun j => cell_of_row w' B9 j _ _ _ hSw.1); (have ev := fun j => cell_of_row w' B11 j _ _ _ hSw.2); go_simp; (try with_reducible rfl)))
  refine wpAnyH_ready (rs := [3]) (by kernel_rfl) (by simp) ?_
  refine AllReadyH.cons rfl (fun K hK => ?_) AllReadyH.nil
  go_simp
  refine cp.mono ?_
  rintro e w6 ⟨Br, Bw, rfl, hB6, hP6⟩
  have hS6 : w6.heap[B9]? = some (.cells #[.int .i64 7, .bool vw, .int .i64 0, .string ⟨#[]⟩, .slice ob bl bc, .slice ow wl wc, .int .u64 ba, .int .i64 fr, .int .i64 ln] 39) ∧ w6.heap[B11]? = some (.cells #[.int .i64 vk, .int .i64 va, .int .u64 vb, .string vt, .int .u64 vr] 49) := ⟨(hB6.block B9 (lt_get hS.1)).trans hS.1, (hB6.block B11 (lt_get hS.2)).trans hS.2⟩
  have cv := HV.out w6 Br Bw (hBd.trans (hB6.mono hBd.size)) hP6
  refine hK.out _ _ hS6 (fun _ => ?_)
  clear hK K cp hS
  have hS := hS6
  (refine wpAnyH_take (i := 4) (v := ?_) rfl (by kernel_rfl) (by kernel_rfl) (by kernel_rfl) (fun _ _ _ h => h) (Or.inl ⟨by rfl, ?_⟩) hS ?_); rotate_left; (focus (intro w' hSw; go_simp; (try with_reducible rfl)))
  refine wpAnyH_ready (rs := [8]) (by kernel_rfl) (by simp) ?_
  refine AllReadyH.cons rfl (fun K hK => ?_) AllReadyH.nil
  go_simp
  refine cv.mono ?_
  rintro e w7 ⟨rfl, hU7, hP7⟩
  have hS7 : w7.heap[B9]? = some (.cells #[.int .i64 7, .bool vw, .int .i64 0, .string ⟨#[]⟩, .slice ob bl bc, .slice ow wl wc, .int .u64 ba, .int .i64 fr, .int .i64 ln] 39) ∧ w7.heap[B11]? = some (.cells #[.int .i64 vk, .int .i64 va, .int .u64 vb, .string vt, .int .u64 vr] 49) := ⟨(hU7.block B9 (lt_get hS.1) nT.out.1).trans hS.1, (hU7.block B11 (lt_get hS.2) nT.out.2).trans hS.2⟩
  have hUW : Upd T W w7 := (Upd.of_below (hBd.trans (hB6.mono hBd.size))).trans' hU7
  refine hK.out _ _ hS7 (fun _ => ?_)
  clear hK K cv hS hS6
  have hS := hS7
  (refine wpAnyH_take (i := 9) (v := ?_) rfl (by kernel_rfl) (by kernel_rfl) (by kernel_rfl) (fun _ _ _ h => h) (Or.inl ⟨by rfl, ?_⟩) hS ?_); rotate_left; (focus (intro w' hSw; go_simp; (try with_reducible rfl)))
  refine wpAnyH_done (by kernel_rfl) ?_ _
  go_wp2
  go_ret
  exact ⟨rfl, hUW, hP7⟩
theorem load_out (g : HLay W hb sb vc T H u h) (w : Nat) (hw : w < 18446744073709551616) (id : Nat) (hi : hit H w = some id) (c : Hc) (hc : H[id]? = some (some c)) (hth : isTh c) (i : Int) (h1 : ¬ (0 ≤ i ∧ i < (c.cnt : Nat))) :
    Calls Tryz.prog 16 #[.pointer (some ⟨hb, 0, none⟩), .int .u64 w, .int .i64 i] W fun e w' => e = .returned (.tuple #[.int .u64 0, .int .i64 31]) ∧ Below W.heap.size W w' := by
  have ce := elem_out g w hw id hi c hc hth i h1
  clear g hc hth h1 hi
  go_enter Tryz.func16, Tryz.ntmps16
  go_upto_region 2 with (go_at_call 32; (with_reducible refine ce.mono ?_); rintro e w2 ⟨rfl, hB2⟩; clear ce)
  have hB3 : Below w2.heap.size w2 (w2.alloc (.cells #[.int .i64 0, .bool false, .int .i64 0, .string ⟨#[]⟩, .slice none 0 0, .slice none 0 0, .int .u64 0, .int .i64 0, .int .i64 0] 39)) := (Below.refl _ w2).alloc (Nat.le_refl _) _
  have hbel := hB2.trans (hB3.mono hB2.size)
  generalize w2.alloc (.cells #[.int .i64 0, .bool false, .int .i64 0, .string ⟨#[]⟩, .slice none 0 0, .slice none 0 0, .int .u64 0, .int .i64 0, .int .i64 0] 39) = w3 at *
  go_wp2
  go_ret2
  exact ⟨rfl, hbel⟩
theorem store_out (g : HLay W hb sb vc T H u h) (w : Nat) (hw : w < 18446744073709551616) (id : Nat) (hi : hit H w = some id) (c : Hc) (hc : H[id]? = some (some c)) (hth : isTh c) (i xw : Int) (h1 : ¬ (0 ≤ i ∧ i < (c.cnt : Nat))) :
    Calls Tryz.prog 15 #[.pointer (some ⟨hb, 0, none⟩), .int .u64 w, .int .i64 i, .int .u64 xw] W fun e w' => e = .returned (.int .i64 31) ∧ Below W.heap.size W w' := by
  have ce := elem_out g w hw id hi c hc hth i h1
  clear g hc hth h1 hi
  go_enter Tryz.func15, Tryz.ntmps15
  go_upto_region 2 with (go_at_call 32; (with_reducible refine ce.mono ?_); rintro e w2 ⟨rfl, hB2⟩; clear ce)
  have hB3 : Below w2.heap.size w2 (w2.alloc (.cells #[.int .i64 0, .bool false, .int .i64 0, .string ⟨#[]⟩, .slice none 0 0, .slice none 0 0, .int .u64 0, .int .i64 0, .int .i64 0] 39)) := (Below.refl _ w2).alloc (Nat.le_refl _) _
  have hbel := hB2.trans (hB3.mono hB2.size)
  generalize w2.alloc (.cells #[.int .i64 0, .bool false, .int .i64 0, .string ⟨#[]⟩, .slice none 0 0, .slice none 0 0, .int .u64 0, .int .i64 0, .int .i64 0] 39) = w3 at *
  go_wp2
  go_ret
  exact ⟨rfl, hbel⟩
/-- a small whole number is stored -/
theorem store_oct {w : Nat} {k2 : Int} {t p n : Nat} {bs : List Nat} (g : HLay W hb sb vc T H u h) (s : Spot H w 8 t p n k2 bs) (i : Nat) (hi : i * 1 + 1 ≤ n) (j : Nat) (hj : j ≤ 255) :
    Calls Tryz.prog 15 #[.pointer (some ⟨hb, 0, none⟩), .int .u64 w, .int .i64 i, .int .u64 (intW j)] W fun e w' => e = .returned (.int .i64 0) ∧ Upd T W w' ∧ HLay w' hb sb vc T (H.set t (some (.buf k2 (saved bs (p + i * 1) j 1)))) u h := by
  have hs : smallB (j : Int) = true := by unfold smallB; rw [decide_eq_true_eq]; omega
  refine store_octets g s i hi (intW j) 2 j 0 0 ⟨#[]⟩ (fun w2 hB => unbox_sint j hs _ w2) 0 (fun w' => HLay w' hb sb vc T (H.set t (some (.buf k2 (saved bs (p + i * 1) j 1)))) u h) (fun w4 Br Bw hB hP => ?_)
  have := octets2_c (g.below hB) s hP i hi (by omega) (intW j) j (by omega)
  rw [show ((j : Int) % 18446744073709551616).toNat = j by omega] at this
  exact this
end
end Go.Proofs.YthgmcfhknaioeaaGreat.W
/- Package buf: fits, View. -/
namespace Go.Proofs.YthgmcfhknaioeaaGreat.W
open Go.ChangeShapes Go.WideShapes Go.RowKit Go.Shelf
set_option linter.unusedVariables false
theorem fits_ar1 (E p f : Nat) (hk : E > 0) (hE : E ≤ 8) (ha : (p + f) % E = 0) : Int.tmod (p : Int) (E : Int) = ((p % E : Nat) : Int) ∧ Int.tmod (f : Int) (E : Int) = ((f % E : Nat) : Int) ∧ IntKind.i64.wrap (((p % E : Nat) : Int) + ((f % E : Nat) : Int)) = ((p % E + f % E : Nat) : Int) ∧ wrap64 (((p % E : Nat) : Int) + ((f % E : Nat) : Int)) = ((p % E + f % E : Nat) : Int) ∧ Int.tmod ((p % E + f % E : Nat) : Int) (E : Int) = 0 := by
  have l1 : p % E < E := Nat.mod_lt _ hk
  have l2 : f % E < E := Nat.mod_lt _ hk
  refine ⟨?_, ?_, ?_, ?_, ?_⟩
  · rw [Int.tmod_eq_emod_of_nonneg (Int.natCast_nonneg p)]; exact (Int.natCast_emod p E).symm
  · rw [Int.tmod_eq_emod_of_nonneg (Int.natCast_nonneg f)]; exact (Int.natCast_emod f E).symm
  · generalize p % E = a at *
    generalize f % E = b at *
    rw [IntKind.wrap_i64]; omega
  · generalize p % E = a at *
    generalize f % E = b at *
    unfold wrap64; omega
  · rw [Int.tmod_eq_emod_of_nonneg (Int.natCast_nonneg _), ← Int.natCast_emod, ← Nat.add_mod, ha]; rfl
theorem fits_ar2 (E S f n : Nat) (hS : S ≤ 8388608) (hf : f ≤ S) (hn : n ≤ (S - f) / E) : IntKind.i64.wrap ((S : Int) - f) = ((S - f : Nat) : Int) ∧ wrap64 ((S : Int) - f) = ((S - f : Nat) : Int) ∧ Int.tdiv ((S - f : Nat) : Int) (E : Int) = (((S - f) / E : Nat) : Int) ∧ wrap64 (((S - f) / E : Nat) : Int) = (((S - f) / E : Nat) : Int) ∧ IntKind.i64.wrap (((S - f) / E : Nat) : Int) = (((S - f) / E : Nat) : Int) ∧ ¬ (n : Int) > (((S - f) / E : Nat) : Int) := by
  have hQ : (S - f) / E ≤ 8388608 := by have := Nat.div_le_self (S - f) E; omega
  refine ⟨?_, ?_, ?_, ?_, ?_, ?_⟩
  · rw [IntKind.wrap_i64]; omega
  · unfold wrap64; omega
  · rw [Int.tdiv_eq_ediv_of_nonneg (Int.natCast_nonneg _)]; exact (Int.natCast_ediv _ E).symm
  · generalize (S - f) / E = a at *
    unfold wrap64; omega
  · generalize (S - f) / E = a at *
    rw [IntKind.wrap_i64]; omega
  · generalize (S - f) / E = a at *
    omega
section
variable {W0 W W1 W' : World} {hb : Nat} {H : List (Option Hc)} {u : Nat} {K : Nat → Prop}
set_option maxRecDepth 100000 in
set_option maxHeartbeats 1000000 in
theorem fits_c (kd : Int) (hkd : elB kd > 0) (vw : Bool) (ob ow : Option Addr) (bl bc wl wc ba p : Nat) (ln : Int) (m : Nat) (hcnt : ∀ W, Calls Tryz.prog 26 #[.agg #[.int .i64 kd, .bool vw, .int .i64 0, .string ⟨#[]⟩, .slice ob bl bc, .slice ow wl wc, .int .u64 ba, .int .i64 p, .int .i64 ln]] W fun e w' => e = .returned (.int .i64 (m : Nat)) ∧ Below W.heap.size W w') (k : Int) (hk : elB k > 0) (f n : Nat) (ha : (p + f) % elB k = 0) (hf : f ≤ m * elB kd) (hn : n ≤ (m * elB kd - f) / elB k) (hm : m * elB kd ≤ 8388608) (hp8 : p ≤ 8388608) (W : World) :
    Calls Tryz.prog 28 #[.agg #[.int .i64 kd, .bool vw, .int .i64 0, .string ⟨#[]⟩, .slice ob bl bc, .slice ow wl wc, .int .u64 ba, .int .i64 p, .int .i64 ln], .int .i64 k, .int .i64 f, .int .i64 n] W fun e w' => e = .returned (.int .i64 0) ∧ Below W.heap.size W w' := by
  have hB1 : Below W.heap.size W (W.alloc (.cells #[.int .i64 kd, .bool vw, .int .i64 0, .string ⟨#[]⟩, .slice ob bl bc, .slice ow wl wc, .int .u64 ba, .int .i64 p, .int .i64 ln] 39)) := (Below.refl _ W).alloc (Nat.le_refl _) _
  have f1 := World.alloc_heap_new W (.cells #[.int .i64 kd, .bool vw, .int .i64 0, .string ⟨#[]⟩, .slice ob bl bc, .slice ow wl wc, .int .u64 ba, .int .i64 p, .int .i64 ln] 39)
  have e1 := World.cell?_alloc_new W #[.int .i64 kd, .bool vw, .int .i64 0, .string ⟨#[]⟩, .slice ob bl bc, .slice ow wl wc, .int .u64 ba, .int .i64 p, .int .i64 ln] 39
  have cw := fun w => width_c k w
  have cw2 := fun w => width_c kd w
  have hke : elB k = 1 ∨ elB k = 2 ∨ elB k = 4 ∨ elB k = 8 := by rcases elB_cases k with h | h | h | h | h <;> omega
  have hms : ((m * elB kd : Nat) : Int) = (m : Int) * ((elB kd : Nat) : Int) := by simp
  have hmul : IntKind.i64.wrap ((m : Int) * ((elB kd : Nat) : Int)) = ((m * elB kd : Nat) : Int) := by rw [IntKind.wrap_i64, ← hms]; omega
  have hmul' : wrap64 ((m : Int) * ((elB kd : Nat) : Int)) = ((m * elB kd : Nat) : Int) := by unfold wrap64; rw [← hms]; omega
  clear hms
  generalize m * elB kd = S at *
  generalize ((elB kd : Nat) : Int) = EK at *
  generalize hE : elB k = E at *
  have e0 : ¬ ((E : Nat) : Int) = 0 := by omega
  have f0 : ¬ (f : Int) < 0 := by omega
  have n0 : ¬ (n : Int) < 0 := by omega
  have pw : IntKind.i64.wrap (p : Int) = p := by rw [IntKind.wrap_i64]; omega
  have Sw : IntKind.i64.wrap (S : Int) = S := by rw [IntKind.wrap_i64]; omega
  have s1 : ¬ (f : Int) > S := by omega
  obtain ⟨m1, m2, m3, m3', m4⟩ := fits_ar1 E p f hk (by omega) ha
  obtain ⟨s2, s2', s3, s4, s4', s5⟩ := fits_ar2 E S f n hm hf hn
  generalize (S - f) / E = QQ at *
  generalize S - f = DD at *
  generalize p % E + f % E = MM at *
  generalize p % E = M1 at *
  generalize f % E = M2 at *
  clear ha hf hn hm hp8 hke hk hkd hE
  go_enter Tryz.func28, Tryz.ntmps28
  go_upto_region 6 with (go_at_call 10; (with_reducible refine (cw _).mono ?_); rintro e w' ⟨rfl, hw⟩; (have hw' := hw.symm); subst hw'; clear hw)
  go_quiet (fail)
  go_upto_region 8 with fail
  generalize hWq : (W.alloc (.cells #[.int .i64 kd, .bool vw, .int .i64 0, .string ⟨#[]⟩, .slice ob bl bc, .slice ow wl wc, .int .u64 ba, .int .i64 p, .int .i64 ln] 39)).drewN nq = Wq at *
  have fq : Wq.heap[W.heap.size]? = some (.cells #[.int .i64 kd, .bool vw, .int .i64 0, .string ⟨#[]⟩, .slice ob bl bc, .slice ow wl wc, .int .u64 ba, .int .i64 p, .int .i64 ln] 39) := by rw [← hWq]; exact f1
  have hBq : Below W.heap.size W Wq := by rw [← hWq]; exact ⟨hB1.os, hB1.tape, hB1.output, hB1.size, hB1.block⟩
  clear hWq hB1 f1 e1
  refine wp_region_held_drew (S := fun w' => w'.heap[W.heap.size]? = some (.cells #[.int .i64 kd, .bool vw, .int .i64 0, .string ⟨#[]⟩, .slice ob bl bc, .slice ow wl wc, .int .u64 ba, .int .i64 p, .int .i64 ln] 39)) (by kernel_rfl) fq ?_
  intro hS
  (refine wpAnyH_take (i := 0) (v := ?_) rfl (by kernel_rfl) (by kernel_rfl) (by kernel_rfl) (fun _ _ _ h => h) (Or.inl ⟨by rfl, ?_⟩) hS ?_); rotate_left; (focus (intro w' hSw; (have ec := fun j => cell_of_row w' W.heap.size j _ _ _ hSw); go_simp; (try with_reducible rfl)))
  (refine wpAnyH_take (i := 2) (v := ?_) rfl (by kernel_rfl) (by kernel_rfl) (by kernel_rfl) (fun _ _ _ h => h) (Or.inl ⟨by rfl, ?_⟩) hS ?_); rotate_left; (focus (intro w' hSw; (have ec := fun j => cell_of_row w' W.heap.size j _ _ _ hSw); go_simp; (try with_reducible rfl)))
  (refine wpAnyH_take (i := 3) (v := ?_) rfl (by kernel_rfl) (by kernel_rfl) (by kernel_rfl) (fun _ _ _ h => h) (Or.inl ⟨by rfl, ?_⟩) hS ?_); rotate_left; (focus (intro w' hSw; (have ec := fun j => cell_of_row w' W.heap.size j _ _ _ hSw); go_simp; (try with_reducible rfl)))
  refine wpAnyH_ready (rs := [1]) (by kernel_rfl) (by simp) ?_
  refine AllReadyH.cons rfl (fun K hK => ?_) AllReadyH.nil
  go_simp
  refine (hcnt _).mono ?_
  rintro e w4 ⟨rfl, hB4⟩
  have f4 : w4.heap[W.heap.size]? = some (.cells #[.int .i64 kd, .bool vw, .int .i64 0, .string ⟨#[]⟩, .slice ob bl bc, .slice ow wl wc, .int .u64 ba, .int .i64 p, .int .i64 ln] 39) := (hB4.block _ (lt_get hS)).trans hS
  have hB4' : Below Wq.heap.size Wq w4 := ⟨hB4.os, hB4.tape, hB4.output, hB4.size, hB4.block⟩
  have hB5 : Below W.heap.size W w4 := hBq.trans (hB4'.mono hBq.size)
  refine hK.out _ _ f4 (fun _ => ?_)
  clear hK K hS fq hB4
  have hS := f4
  refine wpAnyH_ready (rs := [4]) (by kernel_rfl) (by simp) ?_
  refine AllReadyH.cons rfl (fun K hK => ?_) AllReadyH.nil
  go_simp
  refine (cw2 _).mono ?_
  rintro e w' ⟨rfl, hw⟩
  have hw' := hw.symm
  subst hw'
  clear hw
  refine hK.out _ _ hS (fun _ => ?_)
  clear hK K
  (refine wpAnyH_take (i := 5) (v := ?_) rfl (by kernel_rfl) (by kernel_rfl) (by kernel_rfl) (fun _ _ _ h => h) (Or.inl ⟨by rfl, ?_⟩) hS ?_); rotate_left; (focus (intro w' hSw; (have ec := fun j => cell_of_row w' W.heap.size j _ _ _ hSw); go_simp; (try with_reducible rfl)))
  (refine wpAnyH_take (i := 6) (v := ?_) rfl (by kernel_rfl) (by kernel_rfl) (by kernel_rfl) (fun _ _ _ h => h) (Or.inl ⟨by rfl, ?_⟩) hS ?_); rotate_left; (focus (intro w' hSw; (have ec := fun j => cell_of_row w' W.heap.size j _ _ _ hSw); go_simp; (try with_reducible rfl)))
  refine wpAnyH_done (by kernel_rfl) ?_ _
  (try simp only [Act.put, List.getElem_toArray, List.getElem_cons_zero, List.getElem_cons_succ, List.setIfInBounds_toArray, List.set_cons_zero, List.set_cons_succ])
  go_wp2
  go_ret
  exact ⟨rfl, hB5⟩
end
end Go.Proofs.YthgmcfhknaioeaaGreat.W
/- Package buf: View, of a buffer. -/
namespace Go.Proofs.YthgmcfhknaioeaaGreat.W
open Go.ChangeShapes Go.WideShapes Go.RowKit Go.Shelf
set_option linter.unusedVariables false
section
variable {W0 W W1 W' : World} {hb : Nat} {H : List (Option Hc)} {u : Nat} {K : Nat → Prop}
set_option maxRecDepth 100000 in
set_option maxHeartbeats 4000000 in
theorem view_false (q : Hf W0 W hb H u K) (w : Nat) (hw64 : w < 18446744073709551616) (kd : Int) (h9 : ¬ kd = 9) (bl wl ba p : Nat) (ln : Int) (xs : List Value) (hget : Calls Tryz.prog 25 #[.pointer (some ⟨hb, 0, none⟩), .int .u64 w] W (ThP W kd false bl wl ba p ln xs)) (k : Int) (f n : Nat)
    (hfits : ∀ ob ow bc wc W, Calls Tryz.prog 28 #[.agg #[.int .i64 kd, .bool false, .int .i64 0, .string ⟨#[]⟩, .slice ob bl bc, .slice ow wl wc, .int .u64 ba, .int .i64 p, .int .i64 ln], .int .i64 k, .int .i64 f, .int .i64 n] W fun e w' => e = .returned (.int .i64 0) ∧ Below W.heap.size W w')
    (pf : Nat) (hpf : p + f = pf) (hp8 : pf ≤ 8388608) (hn8 : n ≤ 8388608) (Q : World → Prop) (word : Nat) (orr : Option Addr) (capr : Nat) (rs : List Nat) (hr : WordsAt W (.slice orr rs.length capr) rs) (hrl : rs.length ≤ 900000)
    (hput : ∀ w9 v, Below W.heap.size W w9 → WordsAt w9 v (rs ++ [w]) → Calls Tryz.prog 23 #[.pointer (some ⟨hb, 0, none⟩), .agg #[.int .i64 k, .bool true, .int .i64 0, .string ⟨#[]⟩, .slice none 0 0, .slice none 0 0, .int .u64 (w : Nat), .int .i64 (pf : Nat), .int .i64 n], v] w9 fun e w' => e = .returned (.tuple #[.int .u64 (word : Nat), .int .i64 0]) ∧ Q w' ∧ ∀ b, W.heap.size ≤ b → b < w9.heap.size → w'.heap[b]? = w9.heap[b]?) :
    Calls Tryz.prog 13 #[.pointer (some ⟨hb, 0, none⟩), .int .u64 w, .int .i64 k, .int .i64 f, .int .i64 n, .slice orr rs.length capr] W fun e w' => e = .returned (.tuple #[.int .u64 (word : Nat), .int .i64 0]) ∧ Q w' := by
  have hfw : IntKind.i64.wrap (f : Int) = f := by rw [IntKind.wrap_i64]; omega
  have hnw : IntKind.i64.wrap (n : Int) = n := by rw [IntKind.wrap_i64]; omega
  have hpw : IntKind.i64.wrap ((p : Int) + (f : Int)) = (pf : Nat) := by rw [IntKind.wrap_i64]; omega
  have hpw' : wrap64 ((p : Int) + (f : Int)) = (pf : Nat) := by unfold wrap64; omega
  have HP := hid hput
  have HR := hid hr
  have HF := hid hfits
  have HLR := hid hrl
  have HW := hid hw64
  clear q hput hr hfits hp8 hn8 hpf hrl hw64
  generalize hrn : rs.length = rn at *
  go_enter Tryz.func13, Tryz.ntmps13
  go_upto_region 2 with (go_at_call 25; (with_reducible refine hget.mono ?_); rintro e w2 ⟨ob, bc, ow, wc, rfl, hB2, ho⟩; clear hget ho)
  have hf1 := HF.out ob ow bc wc
  have hB3 : Below w2.heap.size w2 (w2.alloc (.cells #[.int .i64 kd, .bool false, .int .i64 0, .string ⟨#[]⟩, .slice ob bl bc, .slice ow wl wc, .int .u64 ba, .int .i64 p, .int .i64 ln] 39)) := (Below.refl _ w2).alloc (Nat.le_refl _) _
  have f3 := World.alloc_heap_new w2 (.cells #[.int .i64 kd, .bool false, .int .i64 0, .string ⟨#[]⟩, .slice ob bl bc, .slice ow wl wc, .int .u64 ba, .int .i64 p, .int .i64 ln] 39)
  have e3 := World.cell?_alloc_new w2 #[.int .i64 kd, .bool false, .int .i64 0, .string ⟨#[]⟩, .slice ob bl bc, .slice ow wl wc, .int .u64 ba, .int .i64 p, .int .i64 ln] 39
  have hbel := hB2.trans (hB3.mono hB2.size)
  have hz2 := hB2.size
  generalize w2.alloc (.cells #[.int .i64 kd, .bool false, .int .i64 0, .string ⟨#[]⟩, .slice ob bl bc, .slice ow wl wc, .int .u64 ba, .int .i64 p, .int .i64 ln] 39) = w3 at *
  generalize w2.heap.size = B14 at *
  have kp : Hid (∀ w4, Below w3.heap.size w3 w4 → (∀ j, w4.cell? ⟨B14, j, none⟩ = #[.int .i64 kd, .bool false, .int .i64 0, .string ⟨#[]⟩, .slice ob bl bc, .slice ow wl wc, .int .u64 ba, .int .i64 p, .int .i64 ln][j]?) ∧ Below W.heap.size W w4) := by
    show ∀ w4, _
    intro w4 hB4
    exact ⟨fun j => (World.cell?_of_block (hB4.block B14 (lt_get f3))).trans (e3 j), hbel.trans (hB4.mono hbel.size)⟩
  have hf3 := hf1 w3
  clear hB2 hB3 hbel f3 hf1 hz2
  go_upto_region 13 with (go_at_call 28; (with_reducible refine hf3.mono ?_); rintro e w4 ⟨rfl, hB4⟩; clear hf3; (obtain ⟨e4, hbel4⟩ := kp.out w4 hB4); (have HBe := hid hbel4); clear hbel4 hB4 kp e3)
  have hB6 : Below w4.heap.size w4 (w4.alloc (.cells #[.int .i64 k, .bool true, .int .i64 0, .string ⟨#[]⟩, .slice none 0 0, .slice none 0 0, .int .u64 (w : Nat), .int .i64 (pf : Nat), .int .i64 n] 39)) := (Below.refl _ w4).alloc (Nat.le_refl _) _
  have f6 := World.alloc_heap_new w4 (.cells #[.int .i64 k, .bool true, .int .i64 0, .string ⟨#[]⟩, .slice none 0 0, .slice none 0 0, .int .u64 (w : Nat), .int .i64 (pf : Nat), .int .i64 n] 39)
  have hbel6 := HBe.out.trans (hB6.mono HBe.out.size)
  generalize w4.alloc (.cells #[.int .i64 k, .bool true, .int .i64 0, .string ⟨#[]⟩, .slice none 0 0, .slice none 0 0, .int .u64 (w : Nat), .int .i64 (pf : Nat), .int .i64 n] 39) = w6 at *
  have HB18 : Hid (W.heap.size ≤ w4.heap.size) := hid HBe.out.size
  generalize w4.heap.size = B18 at *
  have hb6d : Below W.heap.size W w6.drew := ⟨hbel6.os, hbel6.tape, hbel6.output, hbel6.size, hbel6.block⟩
  have f6d : w6.drew.heap[B18]? = some (.cells #[.int .i64 k, .bool true, .int .i64 0, .string ⟨#[]⟩, .slice none 0 0, .slice none 0 0, .int .u64 (w : Nat), .int .i64 (pf : Nat), .int .i64 n] 39) := f6
  clear hB6 HBe e4 f6 hbel6
  refine wp_region_held_drew (S := fun w' => w'.heap[B18]? = some (.cells #[.int .i64 k, .bool true, .int .i64 0, .string ⟨#[]⟩, .slice none 0 0, .slice none 0 0, .int .u64 (w : Nat), .int .i64 (pf : Nat), .int .i64 n] 39)) (by kernel_rfl) f6d ?_
  intro hS
  (refine wpAnyH_take (i := 0) (v := ?_) rfl (by kernel_rfl) (by kernel_rfl) (by kernel_rfl) (fun _ _ _ h => h) (Or.inl ⟨by rfl, ?_⟩) hS ?_); rotate_left; (focus (intro w' hSw; (have ec := fun j => cell_of_row w' B18 j _ _ _ hSw); go_simp; (try with_reducible rfl))); (try simp only [Act.put, List.getElem_toArray, List.getElem_cons_zero, List.setIfInBounds_toArray, List.set_cons_zero, List.set_cons_succ])
  (refine wpAnyH_take (i := 1) (v := ?_) rfl (by kernel_rfl) (by kernel_rfl) (by kernel_rfl) (fun _ _ _ h => h) (Or.inl ⟨by rfl, ?_⟩) hS ?_); rotate_left; (focus (intro w' hSw; (have ec := fun j => cell_of_row w' B18 j _ _ _ hSw); go_simp; (try with_reducible rfl))); (try simp only [Act.put, List.getElem_toArray, List.getElem_cons_zero, List.getElem_cons_succ, List.setIfInBounds_toArray, List.set_cons_zero, List.set_cons_succ])
  (refine wpAnyH_take (i := 2) (v := ?_) rfl (by kernel_rfl) (by kernel_rfl) (by kernel_rfl) (fun _ _ _ h => h) (Or.inl ⟨by rfl, ?_⟩) hS ?_); rotate_left; (focus (intro w' hSw; (have ec := fun j => cell_of_row w' B18 j _ _ _ hSw); go_simp; (try with_reducible rfl))); (try simp only [Act.put, List.getElem_toArray, List.getElem_cons_zero, List.getElem_cons_succ, List.setIfInBounds_toArray, List.set_cons_zero, List.set_cons_succ])
  (refine wpAnyH_take (i := 3) (v := ?_) rfl (by kernel_rfl) (by kernel_rfl) (by kernel_rfl) (fun _ _ _ h => h) (Or.inl ⟨by rfl, ?_⟩) hS ?_); rotate_left; (focus (intro w' hSw; (have ec := fun j => cell_of_row w' B18 j _ _ _ hSw); go_simp; (try with_reducible rfl))); (try simp only [Act.put, List.getElem_toArray, List.getElem_cons_zero, List.getElem_cons_succ, List.setIfInBounds_toArray, List.set_cons_zero, List.set_cons_succ])
  generalize w6.drew = w7 at *
  have hB8 : Below w7.heap.size w7 (w7.alloc (.cells #[.int .u64 (w : Nat)] 26)) := (Below.refl _ w7).alloc (Nat.le_refl _) _
  have hw8 : WordsAt (w7.alloc (.cells #[.int .u64 (w : Nat)] 26)) (.slice (some ⟨w7.heap.size, 0, none⟩) 1 1) [w] := words_new w7 [w] _ (by intro x hx; rw [List.mem_singleton.1 hx]; exact HW.out) (by simp) rfl 26
  have hS8 : (w7.alloc (.cells #[.int .u64 (w : Nat)] 26)).heap[B18]? = some (.cells #[.int .i64 k, .bool true, .int .i64 0, .string ⟨#[]⟩, .slice none 0 0, .slice none 0 0, .int .u64 (w : Nat), .int .i64 (pf : Nat), .int .i64 n] 39) := (hB8.block B18 (lt_get hS)).trans hS
  refine wpAnyH_ready (rs := [4]) (by kernel_rfl) (by simp) ?_
  refine AllReadyH.cons rfl (fun K hK => ?_) AllReadyH.nil
  go_simp
  refine hK.out _ _ hS8 (fun _ => ?_)
  clear hK K
  (try simp only [Act.put, List.getElem_toArray, List.getElem_cons_zero, List.getElem_cons_succ, List.setIfInBounds_toArray, List.set_cons_zero, List.set_cons_succ])
  have hb8 := hb6d.trans (hB8.mono hb6d.size)
  generalize w7.alloc (.cells #[.int .u64 (w : Nat)] 26) = w8 at *
  have hB9 : Below w8.heap.size w8 (w8.alloc (.cells #[.slice orr rn capr, .slice (some ⟨w7.heap.size, 0, none⟩) 1 1] 34)) := (Below.refl _ w8).alloc (Nat.le_refl _) _
  have e9 := World.cell?_alloc_new w8 #[.slice orr rn capr, .slice (some ⟨w7.heap.size, 0, none⟩) 1 1] 34
  have hS9 : (w8.alloc (.cells #[.slice orr rn capr, .slice (some ⟨w7.heap.size, 0, none⟩) 1 1] 34)).heap[B18]? = some (.cells #[.int .i64 k, .bool true, .int .i64 0, .string ⟨#[]⟩, .slice none 0 0, .slice none 0 0, .int .u64 (w : Nat), .int .i64 (pf : Nat), .int .i64 n] 39) := (hB9.block B18 (lt_get hS8)).trans hS8
  refine wpAnyH_ready (rs := [5]) (by kernel_rfl) (by simp) ?_
  refine AllReadyH.cons rfl (fun K hK => ?_) AllReadyH.nil
  go_simp
  refine hK.out _ _ hS9 (fun _ => ?_)
  clear hK K
  (try simp only [Act.put, List.getElem_toArray, List.getElem_cons_zero, List.getElem_cons_succ, List.setIfInBounds_toArray, List.set_cons_zero, List.set_cons_succ])
  have hb9 := hb8.trans (hB9.mono hb8.size)
  have hw9 := words_below hw8 hB9
  have hr9 := words_below HR.out hb9
  have d0 := e9 0
  have d1 := e9 1
  simp only [List.getElem?_toArray, List.getElem?_cons_succ, List.getElem?_cons_zero] at d0 d1
  have cc := sconcat_c (w8.alloc (.cells #[.slice orr rn capr, .slice (some ⟨w7.heap.size, 0, none⟩) 1 1] 34)) w8.heap.size 2 _ _ rs [w] d0 d1 hr9 hw9 (by show rs.length + 1 ≤ 1000000; have := HLR.out; omega) (by show 0 < 1; omega)
  generalize w8.alloc (.cells #[.slice orr rn capr, .slice (some ⟨w7.heap.size, 0, none⟩) 1 1] 34) = w9 at *
  refine wpAnyH_ready (rs := [6]) (by kernel_rfl) (by simp) ?_
  refine AllReadyH.cons rfl (fun K hK => ?_) AllReadyH.nil
  go_simp
  refine cc.mono ?_
  rintro e w10 ⟨v10, rfl, hB10, hv10⟩
  refine hK.out _ _ ((hB10.block B18 (lt_get hS9)).trans hS9) (fun hS10 => ?_)
  clear hK K cc
  (try simp only [Act.put, List.getElem_toArray, List.getElem_cons_zero, List.getElem_cons_succ, List.setIfInBounds_toArray, List.set_cons_zero, List.set_cons_succ])
  have hb10 := hb9.trans (hB10.mono hb9.size)
  have cp := HP.out w10 v10 hb10 hv10
  obtain ⟨o10, c10, hv, hx10⟩ := id hv10
  subst hv
  clear hv10 hx10
  generalize (rs ++ [w]).length = L10 at *
  refine wpAnyH_ready (rs := [7]) (by kernel_rfl) (by simp) ?_
  refine AllReadyH.cons rfl (fun K hK => ?_) AllReadyH.nil
  go_simp
  refine cp.mono ?_
  rintro e w11 ⟨rfl, hQ⟩
  obtain ⟨hQ1, hk1⟩ := hQ
  refine hK.out _ _ ((hk1 B18 HB18.out (lt_get hS10)).trans hS10) (fun hS11 => ?_)
  clear hK K cp
  (try simp only [Act.put, List.getElem_toArray, List.getElem_cons_zero, List.getElem_cons_succ, List.setIfInBounds_toArray, List.set_cons_zero, List.set_cons_succ])
  have hS := hS11
  (refine wpAnyH_take (i := 8) (v := ?_) rfl (by kernel_rfl) (by kernel_rfl) (by kernel_rfl) (fun _ _ _ h => h) (Or.inl ⟨by rfl, ?_⟩) hS ?_); rotate_left; (focus (intro w' hSw; (have ec := fun j => cell_of_row w' B18 j _ _ _ hSw); go_simp; (try with_reducible rfl))); (try simp only [Act.put, List.getElem_toArray, List.getElem_cons_zero, List.getElem_cons_succ, List.setIfInBounds_toArray, List.set_cons_zero, List.set_cons_succ])
  (refine wpAnyH_take (i := 9) (v := ?_) rfl (by kernel_rfl) (by kernel_rfl) (by kernel_rfl) (fun _ _ _ h => h) (Or.inl ⟨by rfl, ?_⟩) hS ?_); rotate_left; (focus (intro w' hSw; (have ec := fun j => cell_of_row w' B18 j _ _ _ hSw); go_simp; (try with_reducible rfl))); (try simp only [Act.put, List.getElem_toArray, List.getElem_cons_zero, List.getElem_cons_succ, List.setIfInBounds_toArray, List.set_cons_zero, List.set_cons_succ])
  (refine wpAnyH_take (i := 10) (v := ?_) rfl (by kernel_rfl) (by kernel_rfl) (by kernel_rfl) (fun _ _ _ h => h) (Or.inl ⟨by rfl, ?_⟩) hS ?_); rotate_left; (focus (intro w' hSw; (have ec := fun j => cell_of_row w' B18 j _ _ _ hSw); go_simp; (try with_reducible rfl))); (try simp only [Act.put, List.getElem_toArray, List.getElem_cons_zero, List.getElem_cons_succ, List.setIfInBounds_toArray, List.set_cons_zero, List.set_cons_succ])
  (refine wpAnyH_take (i := 11) (v := ?_) rfl (by kernel_rfl) (by kernel_rfl) (by kernel_rfl) (fun _ _ _ h => h) (Or.inl ⟨by rfl, ?_⟩) hS ?_); rotate_left; (focus (intro w' hSw; (have ec := fun j => cell_of_row w' B18 j _ _ _ hSw); go_simp; (try with_reducible rfl))); (try simp only [Act.put, List.getElem_toArray, List.getElem_cons_zero, List.getElem_cons_succ, List.setIfInBounds_toArray, List.set_cons_zero, List.set_cons_succ])
  refine wpAnyH_done (by kernel_rfl) ?_ _
  go_wp2
  go_ret2
  exact ⟨rfl, hQ1⟩
end
end Go.Proofs.YthgmcfhknaioeaaGreat.W
/- Package buf: View, of a view. -/
namespace Go.Proofs.YthgmcfhknaioeaaGreat.W
open Go.ChangeShapes Go.WideShapes Go.RowKit Go.Shelf
set_option linter.unusedVariables false
section
variable {W0 W W1 W' : World} {hb : Nat} {H : List (Option Hc)} {u : Nat} {K : Nat → Prop}
set_option maxRecDepth 100000 in
set_option maxHeartbeats 4000000 in
theorem view_true (q : Hf W0 W hb H u K) (w : Nat) (hw64 : w < 18446744073709551616) (kd : Int) (h9 : ¬ kd = 9) (bl wl ba p : Nat) (ln : Int) (xs : List Value) (hget : Calls Tryz.prog 25 #[.pointer (some ⟨hb, 0, none⟩), .int .u64 w] W (ThP W kd true bl wl ba p ln xs)) (k : Int) (f n : Nat)
    (hfits : ∀ ob ow bc wc W, Calls Tryz.prog 28 #[.agg #[.int .i64 kd, .bool true, .int .i64 0, .string ⟨#[]⟩, .slice ob bl bc, .slice ow wl wc, .int .u64 ba, .int .i64 p, .int .i64 ln], .int .i64 k, .int .i64 f, .int .i64 n] W fun e w' => e = .returned (.int .i64 0) ∧ Below W.heap.size W w')
    (pf : Nat) (hpf : p + f = pf) (hp8 : pf ≤ 8388608) (hn8 : n ≤ 8388608) (Q : World → Prop) (word : Nat) (orr : Option Addr) (capr : Nat) (rs : List Nat) (hr : WordsAt W (.slice orr rs.length capr) rs) (hrl : rs.length ≤ 900000)
    (hput : ∀ w9 v, Below W.heap.size W w9 → WordsAt w9 v (rs ++ [w]) → Calls Tryz.prog 23 #[.pointer (some ⟨hb, 0, none⟩), .agg #[.int .i64 k, .bool true, .int .i64 0, .string ⟨#[]⟩, .slice none 0 0, .slice none 0 0, .int .u64 (ba : Nat), .int .i64 (pf : Nat), .int .i64 n], v] w9 fun e w' => e = .returned (.tuple #[.int .u64 (word : Nat), .int .i64 0]) ∧ Q w' ∧ ∀ b, W.heap.size ≤ b → b < w9.heap.size → w'.heap[b]? = w9.heap[b]?) :
    Calls Tryz.prog 13 #[.pointer (some ⟨hb, 0, none⟩), .int .u64 w, .int .i64 k, .int .i64 f, .int .i64 n, .slice orr rs.length capr] W fun e w' => e = .returned (.tuple #[.int .u64 (word : Nat), .int .i64 0]) ∧ Q w' := by
  have hfw : IntKind.i64.wrap (f : Int) = f := by rw [IntKind.wrap_i64]; omega
  have hnw : IntKind.i64.wrap (n : Int) = n := by rw [IntKind.wrap_i64]; omega
  have hpw : IntKind.i64.wrap ((p : Int) + (f : Int)) = (pf : Nat) := by rw [IntKind.wrap_i64]; omega
  have hpw' : wrap64 ((p : Int) + (f : Int)) = (pf : Nat) := by unfold wrap64; omega
  have HP := hid hput
  have HR := hid hr
  have HF := hid hfits
  have HLR := hid hrl
  have HW := hid hw64
  clear q hput hr hfits hp8 hn8 hpf hrl hw64
  generalize hrn : rs.length = rn at *
  go_enter Tryz.func13, Tryz.ntmps13
  go_upto_region 2 with (go_at_call 25; (with_reducible refine hget.mono ?_); rintro e w2 ⟨ob, bc, ow, wc, rfl, hB2, ho⟩; clear hget ho)
  have hf1 := HF.out ob ow bc wc
  have hB3 : Below w2.heap.size w2 (w2.alloc (.cells #[.int .i64 kd, .bool true, .int .i64 0, .string ⟨#[]⟩, .slice ob bl bc, .slice ow wl wc, .int .u64 ba, .int .i64 p, .int .i64 ln] 39)) := (Below.refl _ w2).alloc (Nat.le_refl _) _
  have f3 := World.alloc_heap_new w2 (.cells #[.int .i64 kd, .bool true, .int .i64 0, .string ⟨#[]⟩, .slice ob bl bc, .slice ow wl wc, .int .u64 ba, .int .i64 p, .int .i64 ln] 39)
  have e3 := World.cell?_alloc_new w2 #[.int .i64 kd, .bool true, .int .i64 0, .string ⟨#[]⟩, .slice ob bl bc, .slice ow wl wc, .int .u64 ba, .int .i64 p, .int .i64 ln] 39
  have hbel := hB2.trans (hB3.mono hB2.size)
  have hz2 := hB2.size
  generalize w2.alloc (.cells #[.int .i64 kd, .bool true, .int .i64 0, .string ⟨#[]⟩, .slice ob bl bc, .slice ow wl wc, .int .u64 ba, .int .i64 p, .int .i64 ln] 39) = w3 at *
  generalize w2.heap.size = B14 at *
  have kp : Hid (∀ w4, Below w3.heap.size w3 w4 → (∀ j, w4.cell? ⟨B14, j, none⟩ = #[.int .i64 kd, .bool true, .int .i64 0, .string ⟨#[]⟩, .slice ob bl bc, .slice ow wl wc, .int .u64 ba, .int .i64 p, .int .i64 ln][j]?) ∧ Below W.heap.size W w4) := by
    show ∀ w4, _
    intro w4 hB4
    exact ⟨fun j => (World.cell?_of_block (hB4.block B14 (lt_get f3))).trans (e3 j), hbel.trans (hB4.mono hbel.size)⟩
  have hf3 := hf1 w3
  clear hB2 hB3 hbel f3 hf1 hz2
  go_upto_region 13 with (go_at_call 28; (with_reducible refine hf3.mono ?_); rintro e w4 ⟨rfl, hB4⟩; clear hf3; (obtain ⟨e4, hbel4⟩ := kp.out w4 hB4); (have HBe := hid hbel4); clear hbel4 hB4 kp e3)
  have hB6 : Below w4.heap.size w4 (w4.alloc (.cells #[.int .i64 k, .bool true, .int .i64 0, .string ⟨#[]⟩, .slice none 0 0, .slice none 0 0, .int .u64 (ba : Nat), .int .i64 (pf : Nat), .int .i64 n] 39)) := (Below.refl _ w4).alloc (Nat.le_refl _) _
  have f6 := World.alloc_heap_new w4 (.cells #[.int .i64 k, .bool true, .int .i64 0, .string ⟨#[]⟩, .slice none 0 0, .slice none 0 0, .int .u64 (ba : Nat), .int .i64 (pf : Nat), .int .i64 n] 39)
  have hbel6 := HBe.out.trans (hB6.mono HBe.out.size)
  generalize w4.alloc (.cells #[.int .i64 k, .bool true, .int .i64 0, .string ⟨#[]⟩, .slice none 0 0, .slice none 0 0, .int .u64 (ba : Nat), .int .i64 (pf : Nat), .int .i64 n] 39) = w6 at *
  have HB18 : Hid (W.heap.size ≤ w4.heap.size) := hid HBe.out.size
  generalize w4.heap.size = B18 at *
  have hb6d : Below W.heap.size W w6.drew := ⟨hbel6.os, hbel6.tape, hbel6.output, hbel6.size, hbel6.block⟩
  have f6d : w6.drew.heap[B18]? = some (.cells #[.int .i64 k, .bool true, .int .i64 0, .string ⟨#[]⟩, .slice none 0 0, .slice none 0 0, .int .u64 (ba : Nat), .int .i64 (pf : Nat), .int .i64 n] 39) := f6
  clear hB6 HBe e4 f6 hbel6
  refine wp_region_held_drew (S := fun w' => w'.heap[B18]? = some (.cells #[.int .i64 k, .bool true, .int .i64 0, .string ⟨#[]⟩, .slice none 0 0, .slice none 0 0, .int .u64 (ba : Nat), .int .i64 (pf : Nat), .int .i64 n] 39)) (by kernel_rfl) f6d ?_
  intro hS
  (refine wpAnyH_take (i := 0) (v := ?_) rfl (by kernel_rfl) (by kernel_rfl) (by kernel_rfl) (fun _ _ _ h => h) (Or.inl ⟨by rfl, ?_⟩) hS ?_); rotate_left; (focus (intro w' hSw; (have ec := fun j => cell_of_row w' B18 j _ _ _ hSw); go_simp; (try with_reducible rfl))); (try simp only [Act.put, List.getElem_toArray, List.getElem_cons_zero, List.setIfInBounds_toArray, List.set_cons_zero, List.set_cons_succ])
  (refine wpAnyH_take (i := 1) (v := ?_) rfl (by kernel_rfl) (by kernel_rfl) (by kernel_rfl) (fun _ _ _ h => h) (Or.inl ⟨by rfl, ?_⟩) hS ?_); rotate_left; (focus (intro w' hSw; (have ec := fun j => cell_of_row w' B18 j _ _ _ hSw); go_simp; (try with_reducible rfl))); (try simp only [Act.put, List.getElem_toArray, List.getElem_cons_zero, List.getElem_cons_succ, List.setIfInBounds_toArray, List.set_cons_zero, List.set_cons_succ])
  (refine wpAnyH_take (i := 2) (v := ?_) rfl (by kernel_rfl) (by kernel_rfl) (by kernel_rfl) (fun _ _ _ h => h) (Or.inl ⟨by rfl, ?_⟩) hS ?_); rotate_left; (focus (intro w' hSw; (have ec := fun j => cell_of_row w' B18 j _ _ _ hSw); go_simp; (try with_reducible rfl))); (try simp only [Act.put, List.getElem_toArray, List.getElem_cons_zero, List.getElem_cons_succ, List.setIfInBounds_toArray, List.set_cons_zero, List.set_cons_succ])
  (refine wpAnyH_take (i := 3) (v := ?_) rfl (by kernel_rfl) (by kernel_rfl) (by kernel_rfl) (fun _ _ _ h => h) (Or.inl ⟨by rfl, ?_⟩) hS ?_); rotate_left; (focus (intro w' hSw; (have ec := fun j => cell_of_row w' B18 j _ _ _ hSw); go_simp; (try with_reducible rfl))); (try simp only [Act.put, List.getElem_toArray, List.getElem_cons_zero, List.getElem_cons_succ, List.setIfInBounds_toArray, List.set_cons_zero, List.set_cons_succ])
  generalize w6.drew = w7 at *
  have hB8 : Below w7.heap.size w7 (w7.alloc (.cells #[.int .u64 (w : Nat)] 26)) := (Below.refl _ w7).alloc (Nat.le_refl _) _
  have hw8 : WordsAt (w7.alloc (.cells #[.int .u64 (w : Nat)] 26)) (.slice (some ⟨w7.heap.size, 0, none⟩) 1 1) [w] := words_new w7 [w] _ (by intro x hx; rw [List.mem_singleton.1 hx]; exact HW.out) (by simp) rfl 26
  have hS8 : (w7.alloc (.cells #[.int .u64 (w : Nat)] 26)).heap[B18]? = some (.cells #[.int .i64 k, .bool true, .int .i64 0, .string ⟨#[]⟩, .slice none 0 0, .slice none 0 0, .int .u64 (ba : Nat), .int .i64 (pf : Nat), .int .i64 n] 39) := (hB8.block B18 (lt_get hS)).trans hS
  refine wpAnyH_ready (rs := [4]) (by kernel_rfl) (by simp) ?_
  refine AllReadyH.cons rfl (fun K hK => ?_) AllReadyH.nil
  go_simp
  refine hK.out _ _ hS8 (fun _ => ?_)
  clear hK K
  (try simp only [Act.put, List.getElem_toArray, List.getElem_cons_zero, List.getElem_cons_succ, List.setIfInBounds_toArray, List.set_cons_zero, List.set_cons_succ])
  have hb8 := hb6d.trans (hB8.mono hb6d.size)
  generalize w7.alloc (.cells #[.int .u64 (w : Nat)] 26) = w8 at *
  have hB9 : Below w8.heap.size w8 (w8.alloc (.cells #[.slice orr rn capr, .slice (some ⟨w7.heap.size, 0, none⟩) 1 1] 34)) := (Below.refl _ w8).alloc (Nat.le_refl _) _
  have e9 := World.cell?_alloc_new w8 #[.slice orr rn capr, .slice (some ⟨w7.heap.size, 0, none⟩) 1 1] 34
  have hS9 : (w8.alloc (.cells #[.slice orr rn capr, .slice (some ⟨w7.heap.size, 0, none⟩) 1 1] 34)).heap[B18]? = some (.cells #[.int .i64 k, .bool true, .int .i64 0, .string ⟨#[]⟩, .slice none 0 0, .slice none 0 0, .int .u64 (ba : Nat), .int .i64 (pf : Nat), .int .i64 n] 39) := (hB9.block B18 (lt_get hS8)).trans hS8
  refine wpAnyH_ready (rs := [5]) (by kernel_rfl) (by simp) ?_
  refine AllReadyH.cons rfl (fun K hK => ?_) AllReadyH.nil
  go_simp
  refine hK.out _ _ hS9 (fun _ => ?_)
  clear hK K
  (try simp only [Act.put, List.getElem_toArray, List.getElem_cons_zero, List.getElem_cons_succ, List.setIfInBounds_toArray, List.set_cons_zero, List.set_cons_succ])
  have hb9 := hb8.trans (hB9.mono hb8.size)
  have hw9 := words_below hw8 hB9
  have hr9 := words_below HR.out hb9
  have d0 := e9 0
  have d1 := e9 1
  simp only [List.getElem?_toArray, List.getElem?_cons_succ, List.getElem?_cons_zero] at d0 d1
  have cc := sconcat_c (w8.alloc (.cells #[.slice orr rn capr, .slice (some ⟨w7.heap.size, 0, none⟩) 1 1] 34)) w8.heap.size 2 _ _ rs [w] d0 d1 hr9 hw9 (by show rs.length + 1 ≤ 1000000; have := HLR.out; omega) (by show 0 < 1; omega)
  generalize w8.alloc (.cells #[.slice orr rn capr, .slice (some ⟨w7.heap.size, 0, none⟩) 1 1] 34) = w9 at *
  refine wpAnyH_ready (rs := [6]) (by kernel_rfl) (by simp) ?_
  refine AllReadyH.cons rfl (fun K hK => ?_) AllReadyH.nil
  go_simp
  refine cc.mono ?_
  rintro e w10 ⟨v10, rfl, hB10, hv10⟩
  refine hK.out _ _ ((hB10.block B18 (lt_get hS9)).trans hS9) (fun hS10 => ?_)
  clear hK K cc
  (try simp only [Act.put, List.getElem_toArray, List.getElem_cons_zero, List.getElem_cons_succ, List.setIfInBounds_toArray, List.set_cons_zero, List.set_cons_succ])
  have hb10 := hb9.trans (hB10.mono hb9.size)
  have cp := HP.out w10 v10 hb10 hv10
  obtain ⟨o10, c10, hv, hx10⟩ := id hv10
  subst hv
  clear hv10 hx10
  generalize (rs ++ [w]).length = L10 at *
  refine wpAnyH_ready (rs := [7]) (by kernel_rfl) (by simp) ?_
  refine AllReadyH.cons rfl (fun K hK => ?_) AllReadyH.nil
  go_simp
  refine cp.mono ?_
  rintro e w11 ⟨rfl, hQ⟩
  obtain ⟨hQ1, hk1⟩ := hQ
  refine hK.out _ _ ((hk1 B18 HB18.out (lt_get hS10)).trans hS10) (fun hS11 => ?_)
  clear hK K cp
  (try simp only [Act.put, List.getElem_toArray, List.getElem_cons_zero, List.getElem_cons_succ, List.setIfInBounds_toArray, List.set_cons_zero, List.set_cons_succ])
  have hS := hS11
  (refine wpAnyH_take (i := 8) (v := ?_) rfl (by kernel_rfl) (by kernel_rfl) (by kernel_rfl) (fun _ _ _ h => h) (Or.inl ⟨by rfl, ?_⟩) hS ?_); rotate_left; (focus (intro w' hSw; (have ec := fun j => cell_of_row w' B18 j _ _ _ hSw); go_simp; (try with_reducible rfl))); (try simp only [Act.put, List.getElem_toArray, List.getElem_cons_zero, List.getElem_cons_succ, List.setIfInBounds_toArray, List.set_cons_zero, List.set_cons_succ])
  (refine wpAnyH_take (i := 9) (v := ?_) rfl (by kernel_rfl) (by kernel_rfl) (by kernel_rfl) (fun _ _ _ h => h) (Or.inl ⟨by rfl, ?_⟩) hS ?_); rotate_left; (focus (intro w' hSw; (have ec := fun j => cell_of_row w' B18 j _ _ _ hSw); go_simp; (try with_reducible rfl))); (try simp only [Act.put, List.getElem_toArray, List.getElem_cons_zero, List.getElem_cons_succ, List.setIfInBounds_toArray, List.set_cons_zero, List.set_cons_succ])
  (refine wpAnyH_take (i := 10) (v := ?_) rfl (by kernel_rfl) (by kernel_rfl) (by kernel_rfl) (fun _ _ _ h => h) (Or.inl ⟨by rfl, ?_⟩) hS ?_); rotate_left; (focus (intro w' hSw; (have ec := fun j => cell_of_row w' B18 j _ _ _ hSw); go_simp; (try with_reducible rfl))); (try simp only [Act.put, List.getElem_toArray, List.getElem_cons_zero, List.getElem_cons_succ, List.setIfInBounds_toArray, List.set_cons_zero, List.set_cons_succ])
  (refine wpAnyH_take (i := 11) (v := ?_) rfl (by kernel_rfl) (by kernel_rfl) (by kernel_rfl) (fun _ _ _ h => h) (Or.inl ⟨by rfl, ?_⟩) hS ?_); rotate_left; (focus (intro w' hSw; (have ec := fun j => cell_of_row w' B18 j _ _ _ hSw); go_simp; (try with_reducible rfl))); (try simp only [Act.put, List.getElem_toArray, List.getElem_cons_zero, List.getElem_cons_succ, List.setIfInBounds_toArray, List.set_cons_zero, List.set_cons_succ])
  refine wpAnyH_done (by kernel_rfl) ?_ _
  go_wp2
  go_ret2
  exact ⟨rfl, hQ1⟩
end
end Go.Proofs.YthgmcfhknaioeaaGreat.W
