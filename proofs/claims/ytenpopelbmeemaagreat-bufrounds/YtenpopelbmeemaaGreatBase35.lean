import Derived.Test.YtenpopelbmeemaaGreatBase33
import Derived.Test.YtenpopelbmeemaaGreatBase34
/- BufRounds: loads and stores of one buffer among several, over a heap of the statement's own. -/
namespace Go.Proofs.YtenpopelbmeemaaGreat.W
open Go.ChangeShapes Go.WideShapes Go.RowKit Go.Shelf
set_option linter.unusedVariables false
theorem leN_low (x w : Nat) : leN ((List.range w).map (fun j => x / 256 ^ j % 256)) = x % 256 ^ w := by
  induction w with
  | zero => simp [leN, Nat.mod_one]
  | succ w ih =>
    rw [List.range_succ, List.map_append, List.map_cons, List.map_nil, leN_snoc, ih, List.length_map, List.length_range, Nat.pow_succ, Nat.mod_mul, Nat.mul_comm (256 ^ w)]
theorem leN_saved (y : List Nat) (x w : Nat) (h : y.length = w) : leN (saved y 0 x w) = x % 256 ^ w := by
  rw [← leN_low]
  congr 1
  apply List.ext_getElem?
  intro j
  rw [saved_get _ _ _ _ _ (by omega)]
  by_cases hj : j < w
  · rw [if_pos (by omega), List.getElem?_map, List.getElem?_range hj, Nat.sub_zero]; rfl
  · rw [if_neg (by omega), List.getElem?_eq_none (by omega), List.getElem?_eq_none (by rw [List.length_map, List.length_range]; omega)]
theorem el_at (bs : List Nat) (i wd x : Nat) (h : i * wd + wd ≤ bs.length) : leN (seg (saved bs (0 + i * wd) x wd) (0 + i * wd) wd) = x % 256 ^ wd := by
  have := seg_saved_in bs (0 + i * wd) wd 0 x wd (by omega) (by omega)
  rw [Nat.add_zero] at this
  rw [this, leN_saved _ _ _ (seg_len _ _ _ (by omega))]
theorem el_off (bs : List Nat) (i j wd x : Nat) (h : i * wd + wd ≤ bs.length) (c : j ≠ i) : leN (seg (saved bs (0 + i * wd) x wd) (0 + j * wd) wd) = leN (seg bs (0 + j * wd) wd) := by
  have o : 0 + j * wd + wd ≤ 0 + i * wd ∨ 0 + i * wd + wd ≤ 0 + j * wd := by
    rcases Nat.lt_or_gt_of_ne c with h | h
    · exact .inl (by have := end_le (wd := wd) h; omega)
    · exact .inr (by have := end_le (wd := wd) h; omega)
  rw [seg_saved_out _ _ _ _ _ _ (by omega) o]
section
variable {W0 W : World} {hb : Nat} {H : List (Option Hc)} {u : Nat} {K : Nat → Prop} {id : Nat} {bs : List Nat}
theorem buf_spot {k : Int} (hc : H[id]? = some (some (.buf k bs))) (hi : id < 281474976710656) : Spot H (hw id) k id 0 bs.length k bs := ⟨hw_lt id hi, hc, by omega, id, hit_hw hi hc, .inl ⟨hc, rfl, rfl, rfl, rfl⟩⟩
theorem ld5 (q : Hf W0 W hb H u K) (hc : H[id]? = some (some (.buf 5 bs))) (hi : id < 281474976710656) (i : Nat) (hl : i * 8 + 8 ≤ bs.length) (x : Int) (hx : fltW ((leN (seg bs (0 + i * 8) 8) : Nat) : Int) = x) : Calls Tryz.prog 11 #[.pointer (some ⟨hb, 0, none⟩), .int .u64 (hw id : Nat), .int .i64 i] W fun e w' => e = .returned (.tuple #[.int .u64 x, .int .i64 0]) ∧ Below W.heap.size W w' := by
  obtain ⟨sb, vc, T, l⟩ := q.lay
  have := load_doubles l (buf_spot hc hi) i hl (by decide)
  rw [hx] at this
  exact this
theorem ld6 (q : Hf W0 W hb H u K) (hc : H[id]? = some (some (.buf 6 bs))) (hi : id < 281474976710656) (i : Nat) (hl : i * 4 + 4 ≤ bs.length) (r : Nat) (hr : leN (seg bs (0 + i * 4) 4) = r) (hr2 : r < 4294967296) (x : Int) (hx : Sf.wideI ((r : Nat) : Int) = x) : Calls Tryz.prog 11 #[.pointer (some ⟨hb, 0, none⟩), .int .u64 (hw id : Nat), .int .i64 i] W fun e w' => e = .returned (.tuple #[.int .u64 x, .int .i64 0]) ∧ Below W.heap.size W w' := by
  obtain ⟨sb, vc, T, l⟩ := q.lay
  refine load_narrows l (buf_spot hc hi) i hl (by decide) x (fun w => ?_)
  rw [hr, ← hx]
  refine (Sf.softWide_c ((r : Nat) : Int) (by omega) w).mono ?_
  rintro e w' ⟨rfl, m, rfl⟩
  exact ⟨rfl, Sf.bel_drewN w m⟩
theorem ld7 (q : Hf W0 W hb H u K) (hc : H[id]? = some (some (.buf 7 bs))) (hi : id < 281474976710656) (i : Nat) (hl : i * 2 + 2 ≤ bs.length) (x : Int) (hx : elI 7 (leN (seg bs (0 + i * 2) 2)) = x) : Calls Tryz.prog 11 #[.pointer (some ⟨hb, 0, none⟩), .int .u64 (hw id : Nat), .int .i64 i] W fun e w' => e = .returned (.tuple #[.int .u64 x, .int .i64 0]) ∧ Below W.heap.size W w' := by
  obtain ⟨sb, vc, T, l⟩ := q.lay
  have := load_shorts l (buf_spot hc hi) i hl (by decide)
  rw [hx] at this
  exact this
theorem ld8 (q : Hf W0 W hb H u K) (hc : H[id]? = some (some (.buf 8 bs))) (hi : id < 281474976710656) (i : Nat) (hl : i * 1 + 1 ≤ bs.length) (x : Int) (hx : elI 8 (leN (seg bs (0 + i * 1) 1)) = x) : Calls Tryz.prog 11 #[.pointer (some ⟨hb, 0, none⟩), .int .u64 (hw id : Nat), .int .i64 i] W fun e w' => e = .returned (.tuple #[.int .u64 x, .int .i64 0]) ∧ Below W.heap.size W w' := by
  obtain ⟨sb, vc, T, l⟩ := q.lay
  have := load_octets l (buf_spot hc hi) i hl (by decide)
  rw [hx] at this
  exact this
theorem st5 (q : Hf W0 W hb H u K) (hc : H[id]? = some (some (.buf 5 bs))) (hi : id < 281474976710656) (i : Nat) (hl : i * 8 + 8 ≤ bs.length) (x : Nat) (hx : x < 18446744073709551616) (hcl : cls ((x : Nat) : Int) = 1) : Calls Tryz.prog 10 #[.pointer (some ⟨hb, 0, none⟩), .int .u64 (hw id : Nat), .int .i64 i, .int .u64 (x : Nat)] W fun e w' => e = .returned (.int .i64 0) ∧ Hf W0 w' hb (H.set id (some (.buf 5 (saved bs (0 + i * 8) x 8)))) u K ∧ Upd (Ch W0 K) W w' := by
  refine hf_calls (v := .int .i64 0) (H' := H.set id (some (.buf 5 (saved bs (0 + i * 8) x 8)))) q (sumH_same hc (buf_need _ _ _ _ (saved_len _ _ _ _))) (fun sb vc T l => ?_)
  refine store_doubles l (buf_spot hc hi) i hl ((x : Nat) : Int) 3 0 x 0 ⟨#[]⟩ (fun w2 hB => unbox_flt ((x : Nat) : Int) (by omega) (by omega) hcl _ w2) 0 (fun w' => HLay w' hb sb vc T _ _ _) (fun w4 Br Bw hB hP => ?_)
  exact doubles2_c (l.below hB) (buf_spot hc hi) hP i hl (by omega) ((x : Nat) : Int) 3 0 x 0 ⟨#[]⟩ x hx (fun w => double_flt x w)
/-- as hf_calls, where what is laid is one of many -/
theorem hf_calls_ex {f : FuncId} {args : Array Value} {v : Value} {P : Nat → Prop} {F : Nat → List (Option Hc)} (q : Hf W0 W hb H u K) (hs : ∀ x, sumH (F x) = sumH H)
    (h : ∀ sb vc T, HLay W hb sb vc T H u (sumH H) → Calls Tryz.prog f args W fun e w' => e = .returned v ∧ Upd T W w' ∧ ∃ x, P x ∧ HLay w' hb sb vc T (F x) u (sumH H)) :
    Calls Tryz.prog f args W fun e w' => e = .returned v ∧ ∃ x, P x ∧ Hf W0 w' hb (F x) u K ∧ Upd (Ch W0 K) W w' := by
  obtain ⟨h1, S, ⟨sb, vc, T, l, s1, s2, s3, s4⟩, h3, h4⟩ := q
  refine (h sb vc T l).mono ?_
  rintro e w' ⟨rfl, hU, x, hP, hL⟩
  have hU' : Upd S W w' := hU.mono s3
  have hst : HSt w' (Nx S W w') hb (F x) u := ⟨sb, vc, T, by rw [hs x]; exact hL, .inl s1, fun k e => .inl (s2 k e), fun k e => .inl (s3 k e), by have := hs x; omega⟩
  exact ⟨rfl, x, hP, Hf.put h1 h3 h4 hU' hst⟩
theorem st6 (P : Nat → Prop) (q : Hf W0 W hb H u K) (hc : H[id]? = some (some (.buf 6 bs))) (hi : id < 281474976710656) (i : Nat) (hl : i * 4 + 4 ≤ bs.length) (x : Nat) (hx : x < 18446744073709551616) (hcl : cls ((x : Nat) : Int) = 1) (cn : ∀ w, Calls Tryz.prog 103 #[.int .u64 ((x : Nat) : Int)] w fun e w' => ∃ r : Nat, e = .returned (.int .u32 (r : Nat)) ∧ r < 4294967296 ∧ P r ∧ Below w.heap.size w w') : Calls Tryz.prog 10 #[.pointer (some ⟨hb, 0, none⟩), .int .u64 (hw id : Nat), .int .i64 i, .int .u64 (x : Nat)] W fun e w' => e = .returned (.int .i64 0) ∧ ∃ r, (r < 4294967296 ∧ P r) ∧ Hf W0 w' hb (H.set id (some (.buf 6 (saved bs (0 + i * 4) r 4)))) u K ∧ Upd (Ch W0 K) W w' := by
  refine hf_calls_ex (v := .int .i64 0) (P := fun r => r < 4294967296 ∧ P r) (F := fun r => H.set id (some (.buf 6 (saved bs (0 + i * 4) r 4)))) q (fun r => sumH_same hc (buf_need _ _ _ _ (saved_len _ _ _ _))) (fun sb vc T l => ?_)
  refine store_narrows l (buf_spot hc hi) i hl ((x : Nat) : Int) 3 0 x 0 ⟨#[]⟩ (fun w2 hB => unbox_flt ((x : Nat) : Int) (by omega) (by omega) hcl _ w2) 0 (fun w' => ∃ r, (r < 4294967296 ∧ P r) ∧ HLay w' hb sb vc T (H.set id (some (.buf 6 (saved bs (0 + i * 4) r 4)))) u (sumH H)) (fun w4 Br Bw hB hP => ?_)
  refine (narrows2_any P (l.below hB) (buf_spot hc hi) hP i hl (by omega) ((x : Nat) : Int) 3 0 x 0 ⟨#[]⟩ x cn (fun w => double_flt x w)).mono ?_
  rintro e w' ⟨rfl, r, hr, hPr, hU, hL⟩
  exact ⟨rfl, hU, r, ⟨hr, hPr⟩, hL⟩
/-- any double; then one that came out of 32 bits -/
theorem narrow_any (x : Nat) (hx : x < 18446744073709551616) (w : World) : Calls Tryz.prog 103 #[.int .u64 ((x : Nat) : Int)] w fun e w' => ∃ r : Nat, e = .returned (.int .u32 (r : Nat)) ∧ r < 4294967296 ∧ True ∧ Below w.heap.size w w' := by
  refine (Sf.softNarrow_any ((x : Nat) : Int) (by omega) (by omega) w).mono ?_
  rintro e w' ⟨r, m, rfl, hr, -, rfl⟩
  exact ⟨r, rfl, hr, trivial, Sf.bel_drewN w m⟩
theorem narrow_again (r x : Nat) (hr : r < 4294967296) (hx : Sf.wideI ((r : Nat) : Int) = (x : Nat)) (hx2 : x < 18446744073709551616) (w : World) : Calls Tryz.prog 103 #[.int .u64 ((x : Nat) : Int)] w fun e w' => ∃ s : Nat, e = .returned (.int .u32 (s : Nat)) ∧ s < 4294967296 ∧ Sf.wideI ((s : Nat) : Int) = (x : Nat) ∧ Below w.heap.size w w' := by
  have hw := Sf.wideI_nan ((r : Nat) : Int)
  rw [hx] at hw
  cases hn : (Ieee.single.read ((r : Nat) : Int).toNat).isNaN with
  | true =>
    rw [hn] at hw
    refine (Sf.softNarrow_any ((x : Nat) : Int) (by omega) (by omega) w).mono ?_
    rintro e w' ⟨s, m, rfl, hs, h2, rfl⟩
    refine ⟨s, rfl, hs, ?_, Sf.bel_drewN w m⟩
    rw [h2 hw, ← hx]
    unfold Sf.wideI
    rw [if_pos hn]
    rw [if_pos (by decide +kernel)]
  | false =>
    rw [hn] at hw
    have := Sf.narrow_wide ((r : Nat) : Int) (by omega) hn
    rw [hx] at this
    refine (Sf.softNarrow_in ((x : Nat) : Int) _ (by omega) hw this w).mono ?_
    rintro e w' ⟨rfl, rfl⟩
    exact ⟨r, rfl, hr, hx, Below.refl _ _⟩
theorem wide_word (r : Nat) (hr : r < 4294967296) : ∃ x : Nat, Sf.wideI ((r : Nat) : Int) = (x : Nat) ∧ x < 18446744073709551616 ∧ cls ((x : Nat) : Int) = 1 := by
  have hw := Sf.wideI_nan ((r : Nat) : Int)
  cases hn : (Ieee.single.read ((r : Nat) : Int).toNat).isNaN with
  | true =>
    refine ⟨9221120237041090560, ?_, by decide, by decide⟩
    unfold Sf.wideI
    rw [if_pos hn]; rfl
  | false =>
    rw [hn] at hw
    obtain ⟨h0, hl⟩ := Sf.wideI_range ((r : Nat) : Int)
    refine ⟨(Sf.wideI ((r : Nat) : Int)).toNat, (Int.toNat_of_nonneg h0).symm, by omega, ?_⟩
    rw [Int.toNat_of_nonneg h0]
    have e : fltW (Sf.wideI ((r : Nat) : Int)) = Sf.wideI ((r : Nat) : Int) := by
      have hw' : nanB (Sf.wideI ((r : Nat) : Int)) = false := hw
      unfold fltW
      rw [hw']; rfl
    rw [← e]
    exact fltW_cls _
theorem st7 (q : Hf W0 W hb H u K) (hc : H[id]? = some (some (.buf 7 bs))) (hi : id < 281474976710656) (i : Nat) (hl : i * 2 + 2 ≤ bs.length) (x : Nat) (j : Int) (hy : IsInt H x j) (hj : -32768 ≤ j ∧ j ≤ 32767) : Calls Tryz.prog 10 #[.pointer (some ⟨hb, 0, none⟩), .int .u64 (hw id : Nat), .int .i64 i, .int .u64 (x : Nat)] W fun e w' => e = .returned (.int .i64 0) ∧ Hf W0 w' hb (H.set id (some (.buf 7 (saved bs (0 + i * 2) (j % 18446744073709551616).toNat 2)))) u K ∧ Upd (Ch W0 K) W w' := by
  have hu : ∀ w2, Below W.heap.size W w2 → _ := fun w2 hB => unbox_int (q.below' hB).2.choose_spec.1 x j hy
  refine hf_calls (v := .int .i64 0) (H' := H.set id (some (.buf 7 (saved bs (0 + i * 2) (j % 18446744073709551616).toNat 2)))) q (sumH_same hc (buf_need _ _ _ _ (saved_len _ _ _ _))) (fun sb vc T l => ?_)
  refine store_shorts l (buf_spot hc hi) i hl ((x : Nat) : Int) 2 j 0 0 ⟨#[]⟩ hu 0 (fun w' => HLay w' hb sb vc T _ _ _) (fun w4 Br Bw hB hP => ?_)
  exact shorts2_c (l.below hB) (buf_spot hc hi) hP i hl (by omega) ((x : Nat) : Int) j hj
theorem st8 (q : Hf W0 W hb H u K) (hc : H[id]? = some (some (.buf 8 bs))) (hi : id < 281474976710656) (i : Nat) (hl : i * 1 + 1 ≤ bs.length) (x : Nat) (j : Int) (hy : IsInt H x j) (hj : 0 ≤ j ∧ j ≤ 255) : Calls Tryz.prog 10 #[.pointer (some ⟨hb, 0, none⟩), .int .u64 (hw id : Nat), .int .i64 i, .int .u64 (x : Nat)] W fun e w' => e = .returned (.int .i64 0) ∧ Hf W0 w' hb (H.set id (some (.buf 8 (saved bs (0 + i * 1) (j % 18446744073709551616).toNat 1)))) u K ∧ Upd (Ch W0 K) W w' := by
  have hu : ∀ w2, Below W.heap.size W w2 → _ := fun w2 hB => unbox_int (q.below' hB).2.choose_spec.1 x j hy
  refine hf_calls (v := .int .i64 0) (H' := H.set id (some (.buf 8 (saved bs (0 + i * 1) (j % 18446744073709551616).toNat 1)))) q (sumH_same hc (buf_need _ _ _ _ (saved_len _ _ _ _))) (fun sb vc T l => ?_)
  refine store_octets l (buf_spot hc hi) i hl ((x : Nat) : Int) 2 j 0 0 ⟨#[]⟩ hu 0 (fun w' => HLay w' hb sb vc T _ _ _) (fun w4 Br Bw hB hP => ?_)
  exact octets2_c (l.below hB) (buf_spot hc hi) hP i hl (by omega) ((x : Nat) : Int) j hj
/-- refused: nothing changes -/
theorem hf_calls_no {f : FuncId} {args : Array Value} {v : Value} (q : Hf W0 W hb H u K)
    (h : ∀ sb vc T, HLay W hb sb vc T H u (sumH H) → Calls Tryz.prog f args W fun e w' => e = .returned v ∧ Upd T W w' ∧ HLay w' hb sb vc T H u (sumH H)) :
    Calls Tryz.prog f args W fun e w' => e = .returned v ∧ Hf W0 w' hb H u K ∧ Upd (Ch W0 K) W w' := hf_calls q rfl h
theorem st7_range (q : Hf W0 W hb H u K) (hc : H[id]? = some (some (.buf 7 bs))) (hi : id < 281474976710656) (i : Nat) (hl : i * 2 + 2 ≤ bs.length) (x : Nat) (j : Int) (hy : IsInt H x j) (hj : ¬ (-32768 ≤ j ∧ j ≤ 32767)) : Calls Tryz.prog 10 #[.pointer (some ⟨hb, 0, none⟩), .int .u64 (hw id : Nat), .int .i64 i, .int .u64 (x : Nat)] W fun e w' => e = .returned (.int .i64 13) ∧ Hf W0 w' hb H u K ∧ Upd (Ch W0 K) W w' := by
  have hu : ∀ w2, Below W.heap.size W w2 → _ := fun w2 hB => unbox_int (q.below' hB).2.choose_spec.1 x j hy
  refine hf_calls_no q (fun sb vc T l => ?_)
  refine store_shorts l (buf_spot hc hi) i hl ((x : Nat) : Int) 2 j 0 0 ⟨#[]⟩ hu 13 (fun w' => HLay w' hb sb vc T _ _ _) (fun w4 Br Bw hB hP => ?_)
  refine (shorts2_range (Br := Br) i _ j hj w4).mono ?_
  rintro e w' ⟨rfl, hB5⟩
  exact ⟨rfl, Upd.of_below hB5, l.below (hB.trans (hB5.mono hB.size))⟩
theorem st8_range (q : Hf W0 W hb H u K) (hc : H[id]? = some (some (.buf 8 bs))) (hi : id < 281474976710656) (i : Nat) (hl : i * 1 + 1 ≤ bs.length) (x : Nat) (j : Int) (hy : IsInt H x j) (hj : ¬ (0 ≤ j ∧ j ≤ 255)) : Calls Tryz.prog 10 #[.pointer (some ⟨hb, 0, none⟩), .int .u64 (hw id : Nat), .int .i64 i, .int .u64 (x : Nat)] W fun e w' => e = .returned (.int .i64 13) ∧ Hf W0 w' hb H u K ∧ Upd (Ch W0 K) W w' := by
  have hu : ∀ w2, Below W.heap.size W w2 → _ := fun w2 hB => unbox_int (q.below' hB).2.choose_spec.1 x j hy
  refine hf_calls_no q (fun sb vc T l => ?_)
  refine store_octets l (buf_spot hc hi) i hl ((x : Nat) : Int) 2 j 0 0 ⟨#[]⟩ hu 13 (fun w' => HLay w' hb sb vc T _ _ _) (fun w4 Br Bw hB hP => ?_)
  refine (octets2_range (Br := Br) i _ j hj w4).mono ?_
  rintro e w' ⟨rfl, hB5⟩
  exact ⟨rfl, Upd.of_below hB5, l.below (hB.trans (hB5.mono hB.size))⟩
theorem st7_type (q : Hf W0 W hb H u K) (hc : H[id]? = some (some (.buf 7 bs))) (hi : id < 281474976710656) (i : Nat) (hl : i * 2 + 2 ≤ bs.length) (x : Nat) (hx : x < 18446744073709551616) (hcl : cls ((x : Nat) : Int) = 1) : Calls Tryz.prog 10 #[.pointer (some ⟨hb, 0, none⟩), .int .u64 (hw id : Nat), .int .i64 i, .int .u64 (x : Nat)] W fun e w' => e = .returned (.int .i64 51) ∧ Hf W0 w' hb H u K ∧ Upd (Ch W0 K) W w' := by
  refine hf_calls_no q (fun sb vc T l => ?_)
  refine store_shorts l (buf_spot hc hi) i hl ((x : Nat) : Int) 3 0 x 0 ⟨#[]⟩ (fun w2 hB => unbox_flt ((x : Nat) : Int) (by omega) (by omega) hcl _ w2) 51 (fun w' => HLay w' hb sb vc T _ _ _) (fun w4 Br Bw hB hP => ?_)
  refine (shorts2_type (Br := Br) i _ 3 (by decide) 0 x ⟨#[]⟩ 0 w4).mono ?_
  rintro e w' ⟨rfl, hB5⟩
  exact ⟨rfl, Upd.of_below hB5, l.below (hB.trans (hB5.mono hB.size))⟩
end
end Go.Proofs.YtenpopelbmeemaaGreat.W
