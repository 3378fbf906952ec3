import Derived.Test.YtaebnnkhjlidiaaHcAJ
/- HeapCopies: the walk, where the numbers are in their bounds. -/
namespace Go.Proofs.Ytaebnnkhjlidiaa.W
open Go.ChangeShapes Go.WideShapes Go.RowKit Go.Shelf
set_option linter.unusedVariables false
theorem nine_upd {w : World} {gb : Nat} {S : Nat → Prop} (hS : S gb) (v0 v1 v2 v3 v4 v5 v6 v7 v8 : Value) : Upd S w (((((((((w.setCell ⟨gb, 0, none⟩ v0).setCell ⟨gb, 1, none⟩ v1).setCell ⟨gb, 2, none⟩ v2).setCell ⟨gb, 3, none⟩ v3).setCell ⟨gb, 4, none⟩ v4).setCell ⟨gb, 5, none⟩ v5).setCell ⟨gb, 6, none⟩ v6).setCell ⟨gb, 7, none⟩ v7).setCell ⟨gb, 8, none⟩ v8) :=
  (((((((((Upd.refl S w).setCell (p := ⟨gb, 0, none⟩) (.inl hS) v0).setCell (p := ⟨gb, 1, none⟩) (.inl hS) v1).setCell (p := ⟨gb, 2, none⟩) (.inl hS) v2).setCell (p := ⟨gb, 3, none⟩) (.inl hS) v3).setCell (p := ⟨gb, 4, none⟩) (.inl hS) v4).setCell (p := ⟨gb, 5, none⟩) (.inl hS) v5).setCell (p := ⟨gb, 6, none⟩) (.inl hS) v6).setCell (p := ⟨gb, 7, none⟩) (.inl hS) v7).setCell (p := ⟨gb, 8, none⟩) (.inl hS) v8
theorem Cp.upd {w wr w' : World} {hb gb qb cap B13 B15 n j : Nat} {H H' : List (Option Hc)} {K : Nat → Prop} (c : Cp w wr hb gb qb cap B13 B15 n j H K) (hf : Hf w w' hb H' 1000 K) (hU : Upd (Ch w K) wr w') : Cp w w' hb gb qb cap B13 B15 n j H' K :=
  ⟨hf, c.kg, c.kq, c.kb, owns_on c.rb (fun k e => hU.block k (c.rb.lt k e).2 (fun d => by cases e; exact d.1 c.kg.1)), owns_on c.rw (fun k e => hU.block k (c.rw.lt k e).2 (fun d => by cases e; exact d.1 c.kq.1)), (hU.block _ (lt_get c.x13) (fun d => d.1 c.kb.1)).trans c.x13, (hU.block _ (lt_get c.x15) (fun d => d.1 c.kb.2.1)).trans c.x15⟩
theorem hc_bget (n p x j : Nat) (hp : p < n) (hx : x < 256) (hj : j < n) : (saved (List.replicate n 0) p x 1)[j]? = some (if j = p then x else 0) := by
  rw [saved_get _ _ _ _ _ (by rw [List.length_replicate]; omega)]
  by_cases e : j = p
  · subst e
    rw [if_pos (by omega), if_pos rfl, Nat.sub_self, Nat.pow_zero, Nat.div_one, Nat.mod_eq_of_lt hx]
  · rw [if_neg (by omega), if_neg e, List.getElem?_replicate, if_pos hj]
theorem hc_wget (n p x j : Nat) (hp : p < n) (hj : j < n) : ((List.replicate n 0).set p x)[j]? = some (if j = p then x else 0) := by
  by_cases e : j = p
  · subst e
    rw [List.getElem?_set_self (by rw [List.length_replicate]; exact hp), if_pos rfl]
  · rw [List.getElem?_set_ne (Ne.symm e), List.getElem?_replicate, if_pos hj, if_neg e]
theorem hc_succ {j s : Nat} (h : j ≤ s) (hs : s ≤ 200) : IntKind.i64.wrap ((j : Int) + 1) = (j : Int) + 1 := by rw [IntKind.wrap_i64]; omega
theorem hc_meas {j s : Nat} (h : j < s) : s - ((j : Int) + 1).toNat < s - (j : Int).toNat := by omega
theorem hc_lt {j s : Nat} (h : j < s) : (0 : Int) ≤ j ∧ (j : Int) < s := by omega
theorem hc_nlt {j s : Nat} (h : ¬ j < s) : ¬ (j : Int) < s := by omega
theorem hc_nb {j k : Nat} (h : ¬ j = k) : ((j : Int) == (k : Int)) = false ∧ ((j : Int) != (k : Int)) = true := by refine ⟨?_, ?_⟩ <;> simp <;> omega
theorem hc_wy {y : Nat} (h : y < 256) : IntKind.u64.wrap (y : Int) = (y : Int) := by rw [IntKind.wrap_u64]; omega
set_option maxRecDepth 100000 in
set_option maxHeartbeats 2000000 in
theorem hc_main (n y a : Nat) (h1 : 1 ≤ n) (hn : n ≤ 200) (ha : a < n) (hy : y < 256) (w : World) :
    Calls Try.prog 8 #[.int .i64 n, .int .u8 y, .int .i64 a] w fun e w' => e = .returned (.bool true) ∧ Below w.heap.size w w' := by
  have a1 : ¬ (n : Int) < 1 := by omega
  have a2 : ¬ (n : Int) > 200 := by omega
  have a3 : ¬ (a : Int) < 0 := by omega
  have a4 : ¬ (a : Int) ≥ n := by omega
  have hn8 : n ≤ 8388608 := by omega
  have hn20 : n ≤ 1048576 := by omega
  have hfit : 0 + (1 + (n + 7) / 8) ≤ 1000 := by omega
  have hyw := hc_wy hy
  have HN := hid hn
  have HA := hid ha
  have HY := hid hy
  have H1 := hid h1
  have cn := hf_new (Below.refl w.heap.size w) 1000 (by decide)
  rw [show ((1000 : Nat) : Int) = 1000 from rfl] at cn
  have N8 := hid hn8
  have N20 := hid hn20
  have HFIT := hid hfit
  clear hn8 hn20 hfit h1 hn ha hy
  go_enter Try.func8, Try.ntmps8
  go_upto_region 6 with (go_at_call 11; (with_reducible refine cn.mono ?_); rintro e W1 ⟨hb, rfl, q1, hB1⟩; clear cn)
  obtain ⟨Wm, hmk, hrow, hBm, hlm⟩ := made_bytes W1 n N8.out
  have c1 := hf_blank q1 hBm 8 (by decide) n N8.out (Nat.mod_one n) W1.heap.size (Nat.le_refl _) hlm hrow HFIT.out (.slice none 0 0) [] (words_nil Wm _ _)
  rw [show hw (lid []) = hw 0 from rfl, show putH [] (lid []) (some (Hc.buf 8 (List.replicate n 0))) = [some (Hc.buf 8 (List.replicate n 0))] from rfl] at c1
  clear a1 a2 a3 a4 q1 hrow hBm hlm hB1
  go_upto_region 7 with (go_at_call 12; (with_reducible refine c1.mono ?_); rintro e W2 ⟨rfl, q2, u2⟩; clear c1 hmk)
  obtain ⟨Wn, hmn, hws, hBn, hln⟩ := make_words W2 n N20.out
  have c2 := hc_row n HN.out q2 hBn hln hws
  clear q2 u2 hws hBn hln
  go_upto_region 10 with (go_at_call 12; (with_reducible refine c2.mono ?_); rintro e W3 ⟨rfl, q3⟩; clear c2 hmn)
  have c3 := hc_getb _ _ n List.length_replicate q3
  have Q3 := hid q3
  clear q3
  go_upto_region 11 with (go_at_call 14; (with_reducible refine c3.mono ?_); rintro e W4 ⟨gb, rfl, hgb, hB4, ho4⟩; clear c3)
  have hB5 : Below W4.heap.size W4 (W4.alloc (.cells #[.int .i64 8, .bool false, .int .i64 0, .string ⟨#[]⟩, .slice (some ⟨gb, 0, none⟩) n n, .slice none 0 0, .int .u64 0, .int .i64 0, .int .i64 0] 26)) := (Below.refl _ W4).alloc (Nat.le_refl _) _
  have f5 := World.alloc_heap_new W4 (.cells #[.int .i64 8, .bool false, .int .i64 0, .string ⟨#[]⟩, .slice (some ⟨gb, 0, none⟩) n n, .slice none 0 0, .int .u64 0, .int .i64 0, .int .i64 0] 26)
  have q5 := (Q3.out.below hB4).below hB5
  have ho5 := owns_on ho4 (fun k e => hB5.block k (ho4.lt k e).2)
  have z4 := hB4.size
  have zw := Q3.out.bel.size
  have lg := (ho4.lt _ rfl).2
  generalize W4.alloc (.cells #[.int .i64 8, .bool false, .int .i64 0, .string ⟨#[]⟩, .slice (some ⟨gb, 0, none⟩) n n, .slice none 0 0, .int .u64 0, .int .i64 0, .int .i64 0] 26) = W5 at *
  have c4 := hc_getr _ _ n List.length_replicate H1.out q5
  have E5 := hid (And.intro f5 (And.intro ho5 (And.intro z4 (And.intro zw (And.intro lg hgb)))))
  have Q5 := hid q5
  clear f5 ho5 ho4 hB4 hB5 q5 z4 zw lg hgb Q3
  go_upto_region 12 with (go_at_call 14; (with_reducible refine c4.mono ?_); rintro e W6 ⟨qb, cap, rfl, hqb, hB6, ho6⟩; clear c4)
  have hB7 : Below W6.heap.size W6 (W6.alloc (.cells #[.int .i64 9, .bool false, .int .i64 0, .string ⟨#[]⟩, .slice none 0 0, .slice (some ⟨qb, 0, none⟩) n cap, .int .u64 0, .int .i64 0, .int .i64 0] 26)) := (Below.refl _ W6).alloc (Nat.le_refl _) _
  have f7 := World.alloc_heap_new W6 (.cells #[.int .i64 9, .bool false, .int .i64 0, .string ⟨#[]⟩, .slice none 0 0, .slice (some ⟨qb, 0, none⟩) n cap, .int .u64 0, .int .i64 0, .int .i64 0] 26)
  have z7 : (W6.alloc (.cells #[.int .i64 9, .bool false, .int .i64 0, .string ⟨#[]⟩, .slice none 0 0, .slice (some ⟨qb, 0, none⟩) n cap, .int .u64 0, .int .i64 0, .int .i64 0] 26)).heap.size = W6.heap.size + 1 := World.size_alloc ..
  have q7 := (Q5.out.below hB6).below hB7
  have ho7 := owns_on ho6 (fun k e => hB7.block k (ho6.lt k e).2)
  obtain ⟨f5, ho5, z4, zw, lg, hgb⟩ := E5.out
  have z6 := hB6.size
  have hz5 := lt_get f5
  have lq := (ho6.lt _ rfl).2
  obtain ⟨K7, hK7⟩ : ∃ K7, K7 = (fun k => (((k < w.heap.size ∨ W3.heap.size ≤ k ∧ k < W4.heap.size) ∨ W4.heap.size ≤ k ∧ k < W5.heap.size) ∨ W5.heap.size ≤ k ∧ k < W6.heap.size) ∨ W6.heap.size ≤ k ∧ k < (W6.alloc (.cells #[.int .i64 9, .bool false, .int .i64 0, .string ⟨#[]⟩, .slice none 0 0, .slice (some ⟨qb, 0, none⟩) n cap, .int .u64 0, .int .i64 0, .int .i64 0] 26)).heap.size) := ⟨_, rfl⟩
  rw [← hK7] at q7
  have cp : Cp w (W6.alloc (.cells #[.int .i64 9, .bool false, .int .i64 0, .string ⟨#[]⟩, .slice none 0 0, .slice (some ⟨qb, 0, none⟩) n cap, .int .u64 0, .int .i64 0, .int .i64 0] 26)) hb gb qb cap W4.heap.size W6.heap.size n 0 (hcH (List.replicate n 0) (List.replicate n 0)) K7 := by
    refine ⟨q7, ⟨by rw [hK7]; exact .inl (.inl (.inl (.inr ⟨hgb, lg⟩))), by omega⟩, ⟨by rw [hK7]; exact .inl (.inr ⟨hqb, lq⟩), by omega⟩, ⟨by rw [hK7]; exact .inl (.inl (.inr ⟨Nat.le_refl _, hz5⟩)), by rw [hK7, z7]; exact .inr ⟨Nat.le_refl _, Nat.lt_succ_self _⟩, by omega, by omega⟩, ?_, ?_, ?_, f7⟩
    · refine owns_base (owns_on ho5 (fun k e => (hB7.block k (by cases e; show gb < _; omega)).trans (hB6.block k (by cases e; show gb < _; omega)))) (fun k e => by cases e; show w.heap.size ≤ gb; omega)
    · exact owns_base ho7 (fun k e => by cases e; show w.heap.size ≤ qb; omega)
    · exact (hB7.block _ (by omega)).trans ((hB6.block _ hz5).trans f5)
  generalize W6.alloc (.cells #[.int .i64 9, .bool false, .int .i64 0, .string ⟨#[]⟩, .slice none 0 0, .slice (some ⟨qb, 0, none⟩) n cap, .int .u64 0, .int .i64 0, .int .i64 0] 26) = W7 at *
  generalize W4.heap.size = B13 at *
  generalize W6.heap.size = B15 at *
  have CP := hid cp
  have c5 := hc_write n a y HA.out HY.out _ cp.hf
  have C6 := hid (fun (W8 : World) (q8 : Hf w W8 hb (hcH (saved (List.replicate n 0) a y 1) (List.replicate n 0)) 1000 K7) => hc_setr (saved (List.replicate n 0) a y 1) n a HA.out q8)
  clear cp q7 f5 f7 ho5 ho6 ho7 hB6 hB7 z4 zw lg hgb hqb z6 z7 hz5 lq hK7 Q5 E5
  go_upto_region 14 with (first | (go_at_call 18; (with_reducible refine c5.mono ?_); rintro e W8 ⟨rfl, q8, u8⟩; clear c5; (have c6 := C6.out W8 q8); (have Q8 := hid (And.intro q8 u8)); clear q8 u8 C6) | (go_at_call 15; (with_reducible refine c6.mono ?_); rintro e W9 ⟨rfl, q9, u9⟩; clear c6; (have Q9 := hid (And.intro q9 u9)); clear q9 u9))
  have cp := (CP.out.upd Q8.out.1 Q8.out.2).upd Q9.out.1 Q9.out.2
  have CP9 := hid cp
  have BG : Hid (∀ j, j < n → (saved (List.replicate n 0) a y 1)[j]? = some (if j = a then y else 0)) := hid (fun j hj => hc_bget n a y j HA.out HY.out hj)
  have WG : Hid (∀ j, j < n → ((List.replicate n 0).set a (hw 0))[j]? = some (if j = a then hw 0 else 0)) := hid (fun j hj => hc_wget n a (hw 0) j HA.out hj)
  have BL : Hid ((saved (List.replicate n 0) a y 1).length = n) := hid (by rw [saved_len, List.length_replicate])
  have WL : Hid (((List.replicate n 0).set a (hw 0)).length = n) := hid (by rw [List.length_set, List.length_replicate])
  clear cp CP Q8 Q9
  generalize saved (List.replicate n 0) a y 1 = bs1 at *
  generalize (List.replicate n 0).set a (hw 0) = ws1 at *
  go_wp2
  go_loopw [17] (fun ii wr => ∃ j : Nat, j ≤ n ∧ ii = .int .i64 j ∧ Cp w wr hb gb qb cap B13 B15 n j (hcH bs1 ws1) K7) (fun ii _ => n - (intOf ii).toNat)
  case atStart => exact ⟨0, Nat.zero_le _, rfl, CP9.out⟩
  case round =>
    obtain ⟨j, hj, rfl, cp⟩ := hrel
    clear CP9
    have w1 := hc_succ hj HN.out
    by_cases hlt : j < n
    · obtain ⟨d1, d2, z1, z2⟩ := cp.cells hlt
      obtain ⟨j0, j1⟩ := hc_lt hlt
      have x13 := cp.x13
      have x15 := cp.x15
      have t4 := cell_of_row wr B13 4 _ _ _ x13
      have t5 := cell_of_row wr B15 5 _ _ _ x15
      simp only [List.getElem?_toArray, List.getElem?_cons_succ, List.getElem?_cons_zero] at t4 t5
      obtain ⟨n1, n2, n3, n4, n5⟩ := cp.ne
      have bD : Below wr.heap.size wr wr.drew := ⟨rfl, rfl, rfl, Nat.le_refl _, fun _ _ => rfl⟩
      have CS := hid ((cp.upd (cp.hf.below' bD) ((Upd.refl _ wr).drew)).step hlt)
      have NE := hid (And.intro n1 (And.intro n2 (And.intro n3 (And.intro n4 n5))))
      clear cp n1 n2 n3 n4 n5 bD
      go_upto_region 19 with fail
      clear t4 t5
      refine wp_region_held_drew (S := fun w' => w'.heap[B13]? = some (.cells #[.int .i64 8, .bool false, .int .i64 0, .string ⟨#[]⟩, .slice (some ⟨gb, 0, none⟩) n n, .slice none 0 0, .int .u64 0, .int .i64 0, .int .i64 0] 26) ∧ w'.heap[B15]? = some (.cells #[.int .i64 9, .bool false, .int .i64 0, .string ⟨#[]⟩, .slice none 0 0, .slice (some ⟨qb, 0, none⟩) n cap, .int .u64 0, .int .i64 0, .int .i64 0] 26)) (by kernel_rfl) ⟨x13, x15⟩ ?_
      intro hS
      clear x13 x15
      (refine wpAnyH_take (i := 0) (v := ?_) rfl (by kernel_rfl) (by kernel_rfl) (by kernel_rfl) (fun _ _ _ h => h) (Or.inl ⟨by rfl, ?_⟩) hS ?_); rotate_left; (focus (intro w' hSw; (have ec := fun j => cell_of_row w' B13 j _ _ _ hSw.1); (have ev := fun j => cell_of_row w' B15 j _ _ _ hSw.2); go_simp; (try with_reducible rfl)))
      (refine wpAnyH_take (i := 1) (v := ?_) rfl (by kernel_rfl) (by kernel_rfl) (by kernel_rfl) (fun _ _ _ h => h) (Or.inl ⟨by rfl, ?_⟩) hS ?_); rotate_left; (focus (intro w' hSw; (have ec := fun j => cell_of_row w' B13 j _ _ _ hSw.1); (have ev := fun j => cell_of_row w' B15 j _ _ _ hSw.2); go_simp; (try with_reducible rfl)))
      (refine wpAnyH_take (i := 2) (v := ?_) rfl (by kernel_rfl) (by kernel_rfl) (by kernel_rfl) (fun _ _ _ h => h) (Or.inl ⟨by rfl, ?_⟩) hS ?_); rotate_left; (focus (intro w' hSw; (have ec := fun j => cell_of_row w' B13 j _ _ _ hSw.1); (have ev := fun j => cell_of_row w' B15 j _ _ _ hSw.2); go_simp; (try with_reducible rfl)))
      (refine wpAnyH_take (i := 3) (v := ?_) rfl (by kernel_rfl) (by kernel_rfl) (by kernel_rfl) (fun _ _ _ h => h) (Or.inl ⟨by rfl, ?_⟩) hS ?_); rotate_left; (focus (intro w' hSw; (have ec := fun j => cell_of_row w' B13 j _ _ _ hSw.1); (have ev := fun j => cell_of_row w' B15 j _ _ _ hSw.2); go_simp; (try with_reducible rfl)))
      (refine wpAnyH_take (i := 4) (v := ?_) rfl (by kernel_rfl) (by kernel_rfl) (by kernel_rfl) (fun _ _ _ h => h) (Or.inl ⟨by rfl, ?_⟩) hS ?_); rotate_left; (focus (intro w' hSw; (have ec := fun j => cell_of_row w' B13 j _ _ _ hSw.1); (have ev := fun j => cell_of_row w' B15 j _ _ _ hSw.2); go_simp; (try with_reducible rfl)))
      (refine wpAnyH_take (i := 5) (v := ?_) rfl (by kernel_rfl) (by kernel_rfl) (by kernel_rfl) (fun _ _ _ h => h) (Or.inl ⟨by rfl, ?_⟩) hS ?_); rotate_left; (focus (intro w' hSw; (have ec := fun j => cell_of_row w' B13 j _ _ _ hSw.1); (have ev := fun j => cell_of_row w' B15 j _ _ _ hSw.2); go_simp; (try with_reducible rfl)))
      have d2' : (wr.setCell ⟨gb, j, none⟩ (.int .u8 9)).cell? ⟨qb, j, none⟩ = some (.int .u64 0) := (World.cell?_setCell_far wr ⟨gb, j, none⟩ ⟨qb, j, none⟩ _ NE.out.1).trans d2
      have z2' : wr.frozen? ⟨qb, j, none⟩ = false := z2 j
      (refine wpAnyH_take (i := 6) (v := ?_) rfl (by kernel_rfl) (by kernel_rfl) (by kernel_rfl) (fun _ _ _ h => h) (Or.inl ⟨by rfl, ?_⟩) hS ?_); rotate_left; (focus (intro w' hSw; (have ec := fun j => cell_of_row w' B13 j _ _ _ hSw.1); (have ev := fun j => cell_of_row w' B15 j _ _ _ hSw.2); go_simp; (try with_reducible rfl)))
      have hS7 : (wr.drew.setCell ⟨gb, j, none⟩ (.int .u8 9)).heap[B13]? = some (.cells #[.int .i64 8, .bool false, .int .i64 0, .string ⟨#[]⟩, .slice (some ⟨gb, 0, none⟩) n n, .slice none 0 0, .int .u64 0, .int .i64 0, .int .i64 0] 26) ∧ (wr.drew.setCell ⟨gb, j, none⟩ (.int .u8 9)).heap[B15]? = some (.cells #[.int .i64 9, .bool false, .int .i64 0, .string ⟨#[]⟩, .slice none 0 0, .slice (some ⟨qb, 0, none⟩) n cap, .int .u64 0, .int .i64 0, .int .i64 0] 26) := ⟨(Below.heap_setCell _ _ _ _ (Ne.symm NE.out.2.1)).trans hS.1, (Below.heap_setCell _ _ _ _ (Ne.symm NE.out.2.2.1)).trans hS.2⟩
      refine wpAnyH_ready (rs := [7]) (by kernel_rfl) (by simp) ?_
      refine AllReadyH.cons rfl (fun K hK => ?_) AllReadyH.nil
      go_simp
      refine hK.out _ _ hS7 (fun _ => ?_)
      clear hK K hS d1 d2 z1 z2
      have hS := hS7
      (refine wpAnyH_take (i := 8) (v := ?_) rfl (by kernel_rfl) (by kernel_rfl) (by kernel_rfl) (fun _ _ _ h => h) (Or.inl ⟨by rfl, ?_⟩) hS ?_); rotate_left; (focus (intro w' hSw; (have ec := fun j => cell_of_row w' B13 j _ _ _ hSw.1); (have ev := fun j => cell_of_row w' B15 j _ _ _ hSw.2); go_simp; (try with_reducible rfl)))
      have hS9 : ((wr.drew.setCell ⟨gb, j, none⟩ (.int .u8 9)).setCell ⟨qb, j, none⟩ (.int .u64 9)).heap[B13]? = some (.cells #[.int .i64 8, .bool false, .int .i64 0, .string ⟨#[]⟩, .slice (some ⟨gb, 0, none⟩) n n, .slice none 0 0, .int .u64 0, .int .i64 0, .int .i64 0] 26) ∧ ((wr.drew.setCell ⟨gb, j, none⟩ (.int .u8 9)).setCell ⟨qb, j, none⟩ (.int .u64 9)).heap[B15]? = some (.cells #[.int .i64 9, .bool false, .int .i64 0, .string ⟨#[]⟩, .slice none 0 0, .slice (some ⟨qb, 0, none⟩) n cap, .int .u64 0, .int .i64 0, .int .i64 0] 26) := ⟨(Below.heap_setCell _ _ _ _ (Ne.symm NE.out.2.2.2.1)).trans hS.1, (Below.heap_setCell _ _ _ _ (Ne.symm NE.out.2.2.2.2)).trans hS.2⟩
      refine wpAnyH_ready (rs := [9]) (by kernel_rfl) (by simp) ?_
      refine AllReadyH.cons rfl (fun K hK => ?_) AllReadyH.nil
      go_simp
      refine hK.out _ _ hS9 (fun _ => ?_)
      clear hK K hS hS7 hS9 d2' z2'
      refine wpAnyH_done (by kernel_rfl) ?_ _
      go_wp2
      go_roundw
      case rel => exact ⟨j + 1, hlt, by go_num, CS.out⟩
      case measure => exact hc_meas hlt
    · have j1 := hc_nlt hlt
      have c7 := hc_getb bs1 ws1 n BL.out cp.hf
      have CPx := hid cp
      have kp : Hid (∀ W10, Below wr.heap.size wr W10 → W10.heap[B13]? = some (.cells #[.int .i64 8, .bool false, .int .i64 0, .string ⟨#[]⟩, .slice (some ⟨gb, 0, none⟩) n n, .slice none 0 0, .int .u64 0, .int .i64 0, .int .i64 0] 26) ∧ W10.heap[B15]? = some (.cells #[.int .i64 9, .bool false, .int .i64 0, .string ⟨#[]⟩, .slice none 0 0, .slice (some ⟨qb, 0, none⟩) n cap, .int .u64 0, .int .i64 0, .int .i64 0] 26) ∧ Hf w W10 hb (hcH bs1 ws1) 1000 K7 ∧ B13 < wr.heap.size ∧ B15 < wr.heap.size) := hid (fun W10 hB => ⟨(hB.block _ (lt_get cp.x13)).trans cp.x13, (hB.block _ (lt_get cp.x15)).trans cp.x15, cp.hf.below' hB, lt_get cp.x13, lt_get cp.x15⟩)
      clear cp
      go_upto_region 21 with (go_at_call 14; (with_reducible refine c7.mono ?_); rintro e W10 ⟨gc, rfl, hgc, hB10, ho10⟩; clear c7; (obtain ⟨f13, f15, q10, l13, l15⟩ := kp.out W10 hB10); (have eR := fun j => cell_of_row W10 B13 j _ _ _ f13); (have zR := (fun j => by simp [World.frozen?, f13] : ∀ j, W10.frozen? ⟨B13, j, none⟩ = false)); (have F13 := hid f13); (have F15 := hid f15); (have Q10 := hid q10); (have G10 := hid (And.intro hgc (And.intro l13 l15))); (have O10 := hid ho10); clear f13 f15 q10 hgc hB10 ho10 l13 l15 kp)
      have n15 : Hid (B15 ≠ B13) := hid (fun e => by have h1 := F13.out; have h2 := F15.out; rw [e, h1] at h2; simp at h2)
      have p13' := hid (nine_set F13.out (.int .i64 8) (.bool false) (.int .i64 0) (.string ⟨#[]⟩) (.slice (some ⟨gc, 0, none⟩) n n) (.slice none 0 0) (.int .u64 0) (.int .i64 0) (.int .i64 0))
      have u10 := hid (nine_upd (w := W10) (gb := B13) (S := fun k => k = B13) rfl (.int .i64 8) (.bool false) (.int .i64 0) (.string ⟨#[]⟩) (.slice (some ⟨gc, 0, none⟩) n n) (.slice none 0 0) (.int .u64 0) (.int .i64 0) (.int .i64 0))
      have qE : Hid (Hf w (((((((((W10.setCell ⟨B13, 0, none⟩ (.int .i64 8)).setCell ⟨B13, 1, none⟩ (.bool false)).setCell ⟨B13, 2, none⟩ (.int .i64 0)).setCell ⟨B13, 3, none⟩ (.string ⟨#[]⟩)).setCell ⟨B13, 4, none⟩ (.slice (some ⟨gc, 0, none⟩) n n)).setCell ⟨B13, 5, none⟩ (.slice none 0 0)).setCell ⟨B13, 6, none⟩ (.int .u64 0)).setCell ⟨B13, 7, none⟩ (.int .i64 0)).setCell ⟨B13, 8, none⟩ (.int .i64 0)) hb (hcH bs1 ws1) 1000 K7) := hid (Q10.out.upd u10.out (fun k e => by rw [e]; exact ⟨CPx.out.kb.1, CPx.out.kb.2.2.1⟩))
      have oE : Hid (((((((((((W10.setCell ⟨B13, 0, none⟩ (.int .i64 8)).setCell ⟨B13, 1, none⟩ (.bool false)).setCell ⟨B13, 2, none⟩ (.int .i64 0)).setCell ⟨B13, 3, none⟩ (.string ⟨#[]⟩)).setCell ⟨B13, 4, none⟩ (.slice (some ⟨gc, 0, none⟩) n n)).setCell ⟨B13, 5, none⟩ (.slice none 0 0)).setCell ⟨B13, 6, none⟩ (.int .u64 0)).setCell ⟨B13, 7, none⟩ (.int .i64 0)).setCell ⟨B13, 8, none⟩ (.int .i64 0))).ownsRow wr.heap.size 5 1 (.slice (some ⟨gc, 0, none⟩) n n) n (bs1.map byteV)) := hid (owns_on O10.out (fun k e => by cases e; exact nine_far W10 B13 (.int .i64 8) (.bool false) (.int .i64 0) (.string ⟨#[]⟩) (.slice (some ⟨gc, 0, none⟩) n n) (.slice none 0 0) (.int .u64 0) (.int .i64 0) (.int .i64 0) gc (by have := G10.out; omega)))
      have fE : Hid (((((((((((W10.setCell ⟨B13, 0, none⟩ (.int .i64 8)).setCell ⟨B13, 1, none⟩ (.bool false)).setCell ⟨B13, 2, none⟩ (.int .i64 0)).setCell ⟨B13, 3, none⟩ (.string ⟨#[]⟩)).setCell ⟨B13, 4, none⟩ (.slice (some ⟨gc, 0, none⟩) n n)).setCell ⟨B13, 5, none⟩ (.slice none 0 0)).setCell ⟨B13, 6, none⟩ (.int .u64 0)).setCell ⟨B13, 7, none⟩ (.int .i64 0)).setCell ⟨B13, 8, none⟩ (.int .i64 0))).heap[B15]? = some (.cells #[.int .i64 9, .bool false, .int .i64 0, .string ⟨#[]⟩, .slice none 0 0, .slice (some ⟨qb, 0, none⟩) n cap, .int .u64 0, .int .i64 0, .int .i64 0] 26)) := hid ((nine_far W10 B13 (.int .i64 8) (.bool false) (.int .i64 0) (.string ⟨#[]⟩) (.slice (some ⟨gc, 0, none⟩) n n) (.slice none 0 0) (.int .u64 0) (.int .i64 0) (.int .i64 0) B15 n15.out).trans F15.out)
      clear eR zR F13 F15 Q10 O10 u10
      generalize (((((((((W10.setCell ⟨B13, 0, none⟩ (.int .i64 8)).setCell ⟨B13, 1, none⟩ (.bool false)).setCell ⟨B13, 2, none⟩ (.int .i64 0)).setCell ⟨B13, 3, none⟩ (.string ⟨#[]⟩)).setCell ⟨B13, 4, none⟩ (.slice (some ⟨gc, 0, none⟩) n n)).setCell ⟨B13, 5, none⟩ (.slice none 0 0)).setCell ⟨B13, 6, none⟩ (.int .u64 0)).setCell ⟨B13, 7, none⟩ (.int .i64 0)).setCell ⟨B13, 8, none⟩ (.int .i64 0)) = WE at *
      have c8 := hc_getr bs1 ws1 n WL.out H1.out qE.out
      have kp : Hid (∀ W11, Below WE.heap.size WE W11 → W11.heap[B13]? = some (.cells #[.int .i64 8, .bool false, .int .i64 0, .string ⟨#[]⟩, .slice (some ⟨gc, 0, none⟩) n n, .slice none 0 0, .int .u64 0, .int .i64 0, .int .i64 0] 26) ∧ W11.heap[B15]? = some (.cells #[.int .i64 9, .bool false, .int .i64 0, .string ⟨#[]⟩, .slice none 0 0, .slice (some ⟨qb, 0, none⟩) n cap, .int .u64 0, .int .i64 0, .int .i64 0] 26) ∧ Below w.heap.size w W11 ∧ W11.ownsRow wr.heap.size 5 1 (.slice (some ⟨gc, 0, none⟩) n n) n (bs1.map byteV)) := hid (fun W11 hB => ⟨(hB.block _ (lt_get p13'.out)).trans p13'.out, (hB.block _ (lt_get fE.out)).trans fE.out, qE.out.bel.trans (hB.mono qE.out.bel.size), owns_on oE.out (fun k e => hB.block k (oE.out.lt k e).2)⟩)
      have LE : Hid (B13 < WE.heap.size ∧ B15 < WE.heap.size) := hid ⟨lt_get p13'.out, lt_get fE.out⟩
      clear p13' qE oE fE
      go_upto_region 22 with (go_at_call 14; (with_reducible refine c8.mono ?_); rintro e W11 ⟨qc, cap2, rfl, hqc, hB11, ho11⟩; clear c8; (obtain ⟨f13, f15, b11, o11⟩ := kp.out W11 hB11); (have eR := fun j => cell_of_row W11 B15 j _ _ _ f15); (have zR := (fun j => by simp [World.frozen?, f15] : ∀ j, W11.frozen? ⟨B15, j, none⟩ = false)); (have F13 := hid f13); (have F15 := hid f15); (have B11 := hid b11); (have O11 := hid o11); (have O12 := hid ho11); (have G11 := hid hqc); clear f13 f15 b11 o11 ho11 hqc hB11 kp)
      have t15 := cell_of_row _ B15 5 _ _ _ (nine_set F15.out (.int .i64 9) (.bool false) (.int .i64 0) (.string ⟨#[]⟩) (.slice none 0 0) (.slice (some ⟨qc, 0, none⟩) n cap2) (.int .u64 0) (.int .i64 0) (.int .i64 0))
      have t13 := (World.cell?_of_block (a := ⟨B13, 4, none⟩) (nine_far W11 B15 (.int .i64 9) (.bool false) (.int .i64 0) (.string ⟨#[]⟩) (.slice none 0 0) (.slice (some ⟨qc, 0, none⟩) n cap2) (.int .u64 0) (.int .i64 0) (.int .i64 0) B13 (Ne.symm n15.out))).trans (cell_of_row W11 B13 4 _ _ _ F13.out)
      simp only [List.getElem?_toArray, List.getElem?_cons_succ, List.getElem?_cons_zero] at t15 t13
      have BF := hid (nine_below B11.out CPx.out.kb.2.2.2 (.int .i64 9) (.bool false) (.int .i64 0) (.string ⟨#[]⟩) (.slice none 0 0) (.slice (some ⟨qc, 0, none⟩) n cap2) (.int .u64 0) (.int .i64 0) (.int .i64 0))
      have RB : Hid (∀ j (hj : j < n), ((((((((((W11.setCell ⟨B15, 0, none⟩ (.int .i64 9)).setCell ⟨B15, 1, none⟩ (.bool false)).setCell ⟨B15, 2, none⟩ (.int .i64 0)).setCell ⟨B15, 3, none⟩ (.string ⟨#[]⟩)).setCell ⟨B15, 4, none⟩ (.slice none 0 0)).setCell ⟨B15, 5, none⟩ (.slice (some ⟨qc, 0, none⟩) n cap2)).setCell ⟨B15, 6, none⟩ (.int .u64 0)).setCell ⟨B15, 7, none⟩ (.int .i64 0)).setCell ⟨B15, 8, none⟩ (.int .i64 0))).cell? ⟨gc, j, none⟩ = some (.int .u8 (((if j = a then y else 0) : Nat) : Int))) := hid (fun j hj => (World.cell?_of_block (a := ⟨gc, j, none⟩) (nine_far W11 B15 (.int .i64 9) (.bool false) (.int .i64 0) (.string ⟨#[]⟩) (.slice none 0 0) (.slice (some ⟨qc, 0, none⟩) n cap2) (.int .u64 0) (.int .i64 0) (.int .i64 0) gc (by have := G10.out; omega))).trans (own_at O11.out j _ (by rw [List.getElem?_map, BG.out j hj]; rfl)))
      have RW : Hid (∀ j (hj : j < n), ((((((((((W11.setCell ⟨B15, 0, none⟩ (.int .i64 9)).setCell ⟨B15, 1, none⟩ (.bool false)).setCell ⟨B15, 2, none⟩ (.int .i64 0)).setCell ⟨B15, 3, none⟩ (.string ⟨#[]⟩)).setCell ⟨B15, 4, none⟩ (.slice none 0 0)).setCell ⟨B15, 5, none⟩ (.slice (some ⟨qc, 0, none⟩) n cap2)).setCell ⟨B15, 6, none⟩ (.int .u64 0)).setCell ⟨B15, 7, none⟩ (.int .i64 0)).setCell ⟨B15, 8, none⟩ (.int .i64 0))).cell? ⟨qc, j, none⟩ = some (.int .u64 (((if j = a then hw 0 else 0) : Nat) : Int))) := hid (fun j hj => (World.cell?_of_block (a := ⟨qc, j, none⟩) (nine_far W11 B15 (.int .i64 9) (.bool false) (.int .i64 0) (.string ⟨#[]⟩) (.slice none 0 0) (.slice (some ⟨qc, 0, none⟩) n cap2) (.int .u64 0) (.int .i64 0) (.int .i64 0) qc (by have := G11.out; have := LE.out; omega))).trans (own_at O12.out j _ (by rw [List.getElem?_map, WG.out j hj]; rfl)))
      clear eR zR F13 F15 B11 O11 O12 G10 G11 LE
      generalize (((((((((W11.setCell ⟨B15, 0, none⟩ (.int .i64 9)).setCell ⟨B15, 1, none⟩ (.bool false)).setCell ⟨B15, 2, none⟩ (.int .i64 0)).setCell ⟨B15, 3, none⟩ (.string ⟨#[]⟩)).setCell ⟨B15, 4, none⟩ (.slice none 0 0)).setCell ⟨B15, 5, none⟩ (.slice (some ⟨qc, 0, none⟩) n cap2)).setCell ⟨B15, 6, none⟩ (.int .u64 0)).setCell ⟨B15, 7, none⟩ (.int .i64 0)).setCell ⟨B15, 8, none⟩ (.int .i64 0)) = WF at *
      generalize hw 0 = b0 at RW ⊢
      go_wp2
      go_loop [18] (fun ii => ∃ l : Nat, l ≤ n ∧ ii = .int .i64 l) (fun ii => n - (intOf ii).toNat)
      case atStart => exact ⟨0, Nat.zero_le _, rfl⟩
      case round =>
        obtain ⟨l, hl, rfl⟩ := hrel
        have w2 := hc_succ hl HN.out
        by_cases hln : l < n
        · have e1 := RB.out l hln
          have e2 := RW.out l hln
          obtain ⟨l0, l1⟩ := hc_lt hln
          clear RB RW
          by_cases hla : l = a
          · subst hla
            rw [if_pos rfl] at e1 e2
            go_wp2
            go_round
            case rel => exact ⟨l + 1, hln, by go_num⟩
            case measure => exact hc_meas hln
          · rw [if_neg hla] at e1 e2
            obtain ⟨m1, m2⟩ := hc_nb hla
            clear hla
            go_wp2
            go_round
            case rel => exact ⟨l + 1, hln, by go_num⟩
            case measure => exact hc_meas hln
        · have l1 := hc_nlt hln
          clear RB RW
          go_wp2_with (go_at_call 10; (with_reducible refine (awake6_c _).mono ?_); rintro e WG2 ⟨rfl, hBF⟩)
          go_ret
          exact ⟨rfl, BF.out.trans (hBF.mono BF.out.size)⟩
end Go.Proofs.Ytaebnnkhjlidiaa.W
