import Derived.Test.YtenpopelbmeemaaGreatBase31
import Derived.Test.YtenpopelbmeemaaGreatBase33
/- View and Store over a heap that a statement made; casketlaw9's awake. -/
namespace Go.Proofs.YtenpopelbmeemaaGreat.W
open Go.ChangeShapes Go.WideShapes Go.RowKit Go.Shelf
set_option linter.unusedVariables false
section
variable {W0 W W1 W' : World} {hb : Nat} {H : List (Option Hc)} {u : Nat} {K : Nat → Prop}
theorem hf_viewq (q : Hf W0 W hb H u K) (k : Int) (hk : elB k > 0) (ba p n : Nat) (hba : ba < 18446744073709551616) (id : Nat) (hi : hit H ba = some id) (k2 : Int) (bs : List Nat) (hc : H[id]? = some (some (.buf k2 bs))) (hp : p ≤ bs.length) (hpm : p % elB k = 0) (hn : n ≤ (bs.length - p) / elB k) (hf : sumH H + 1 ≤ u) (rs : List Nat) (w9 : World) (v : Value) (hB : Below W.heap.size W w9) (hr : WordsAt w9 v rs) :
    Calls Tryz.prog 23 #[.pointer (some ⟨hb, 0, none⟩), .agg #[.int .i64 k, .bool true, .int .i64 0, .string ⟨#[]⟩, .slice none 0 0, .slice none 0 0, .int .u64 ba, .int .i64 p, .int .i64 n], v] w9 fun e w' => e = .returned (.tuple #[.int .u64 (hw (lid H) : Nat), .int .i64 0]) ∧ (Hf W0 w' hb (putH H (lid H) (some (.view k ba p n))) u K ∧ Upd (Ch W0 K) W w') ∧ ∀ b, W.heap.size ≤ b → b < w9.heap.size → w'.heap[b]? = w9.heap[b]? := by
  refine (hf_view (q.below hB) k hk ba p n hba id hi k2 bs hc hp hpm hn hf v rs hr).mono ?_
  rintro e w' ⟨rfl, h1, h2⟩
  refine ⟨rfl, ⟨h1.sub (fun k e => .inl e), (Upd.of_below hB).trans' (h2.mono ?_)⟩, fun b b1 b2 => h2.block b b2 (fun e => e.1 (.inr ⟨b1, b2⟩))⟩
  rintro x ⟨e1, e2⟩
  exact ⟨fun e => e1 (.inl e), e2⟩
theorem bview_buf (q : Hf W0 W hb H u K) (w : Nat) (hw64 : w < 18446744073709551616) (id : Nat) (hi : hit H w = some id) (kd : Int) (bs : List Nat) (hc : H[id]? = some (some (.buf kd bs))) (m : Nat) (hm : bs.length = m * elB kd) (k : Int) (hk : elB k > 0) (f n : Nat) (ha : f % elB k = 0) (hf : f ≤ bs.length) (hn : n ≤ (bs.length - f) / elB k) (hfit : sumH H + 1 ≤ u) (orr : Option Addr) (capr : Nat) (rs : List Nat) (hr : WordsAt W (.slice orr rs.length capr) rs) (hrl : rs.length ≤ 900000) :
    Calls Tryz.prog 15 #[.pointer (some ⟨hb, 0, none⟩), .int .u64 w, .int .i64 k, .int .i64 f, .int .i64 n, .slice orr rs.length capr] W fun e w' => e = .returned (.tuple #[.int .u64 (hw (lid H) : Nat), .int .i64 0]) ∧ Hf W0 w' hb (putH H (lid H) (some (.view k w f n))) u K ∧ Upd (Ch W0 K) W w' := by
  obtain ⟨sb, vc, T, l⟩ := q.lay
  have hok := l.ok id _ hc
  have hkd : elB kd > 0 := hok.1
  have hl8 : bs.length ≤ 8388608 := hok.2.2
  have h9 : ¬ kd = 9 := by rintro rfl; simp [elB] at hkd
  have hcnt : (Hc.buf kd bs).cnt = m := by show bs.length / elB kd = m; rw [hm, Nat.mul_div_cancel _ hkd]
  have hn8 : n ≤ 8388608 := by have := Nat.div_le_self (bs.length - f) (elB k); omega
  refine view_false q w hw64 kd h9 0 0 0 (bs.length : Nat) (thing_c l w hw64 id hi _ hc trivial) k f n ?_ f (Nat.zero_add f) (by omega) hn8 (fun w' => Hf W0 w' hb (putH H (lid H) (some (.view k w f n))) u K ∧ Upd (Ch W0 K) W w') (hw (lid H)) orr capr rs hr hrl ?_
  · intro W
    refine fits_c kd hkd false 0 0 0 (bs.length : Nat) m (fun W => ?_) k hk f n (by rw [Nat.zero_add]; exact ha) (by rw [← hm]; exact hf) (by rw [← hm]; exact hn) (by rw [← hm]; exact hl8) (by omega) W
    have := count_c (Hc.buf kd bs) trivial hok W
    rw [hcnt] at this
    exact this
  · intro w9 v hB hv
    exact hf_viewq q k hk w f n hw64 id hi kd bs hc hf ha hn hfit (rs ++ [w]) w9 v hB hv
theorem bview_view (q : Hf W0 W hb H u K) (w : Nat) (hw64 : w < 18446744073709551616) (id : Nat) (hi : hit H w = some id) (kd : Int) (ba p m : Nat) (hc : H[id]? = some (some (.view kd ba p m))) (t : Nat) (ht : hit H ba = some t) (k2 : Int) (bs : List Nat) (hct : H[t]? = some (some (.buf k2 bs))) (hin : p + m * elB kd ≤ bs.length) (k : Int) (hk : elB k > 0) (f n : Nat) (ha : (p + f) % elB k = 0) (hf : f ≤ m * elB kd) (hn : n ≤ (m * elB kd - f) / elB k) (hfit : sumH H + 1 ≤ u) (orr : Option Addr) (capr : Nat) (rs : List Nat) (hr : WordsAt W (.slice orr rs.length capr) rs) (hrl : rs.length ≤ 900000) :
    Calls Tryz.prog 15 #[.pointer (some ⟨hb, 0, none⟩), .int .u64 w, .int .i64 k, .int .i64 f, .int .i64 n, .slice orr rs.length capr] W fun e w' => e = .returned (.tuple #[.int .u64 (hw (lid H) : Nat), .int .i64 0]) ∧ Hf W0 w' hb (putH H (lid H) (some (.view k ba (p + f) n))) u K ∧ Upd (Ch W0 K) W w' := by
  obtain ⟨sb, vc, T, l⟩ := q.lay
  have hok := l.ok id _ hc
  have hkd : elB kd > 0 := hok.1
  have hok2 := l.ok t _ hct
  have hl8 : bs.length ≤ 8388608 := hok2.2.2
  have h9 : ¬ kd = 9 := by rintro rfl; simp [elB] at hkd
  have hn8 : n ≤ 8388608 := by have := Nat.div_le_self (m * elB kd - f) (elB k); omega
  have hmn : (m * elB kd - f) / elB k ≤ (bs.length - (p + f)) / elB k := Nat.div_le_div_right (by omega)
  refine view_true q w hw64 kd h9 ba p m 0 (thing_c l w hw64 id hi _ hc trivial) k f n ?_ (p + f) rfl (by omega) hn8 (fun w' => Hf W0 w' hb (putH H (lid H) (some (.view k ba (p + f) n))) u K ∧ Upd (Ch W0 K) W w') (hw (lid H)) orr capr rs hr hrl ?_
  · intro W
    refine fits_c kd hkd true ba p m 0 m (fun W => ?_) k hk f n ha hf hn (by omega) (by omega) W
    exact count_c (Hc.view kd ba p m) trivial hok W
  · intro w9 v hB hv
    exact hf_viewq q k hk ba (p + f) n hok.2.1 t ht k2 bs hct (by omega) ha (Nat.le_trans hn hmn) hfit (rs ++ [w]) w9 v hB hv
theorem hf_oct {w : Nat} {k2 : Int} {t p n : Nat} {bs : List Nat} (q : Hf W0 W1 hb H u K) (s : Spot H w 8 t p n k2 bs) (i : Nat) (hi : i * 1 + 1 ≤ n) (j : Nat) (hj : j ≤ 255) :
    Calls Tryz.prog 10 #[.pointer (some ⟨hb, 0, none⟩), .int .u64 w, .int .i64 i, .int .u64 (intW j)] W1 fun e w' => e = .returned (.int .i64 0) ∧ Hf W0 w' hb (H.set t (some (.buf k2 (saved bs (p + i * 1) j 1)))) u K ∧ Upd (Ch W0 K) W1 w' :=
  hf_calls q (sumH_same s.cell (buf_need _ _ _ _ (saved_len _ _ _ _))) (fun sb vc T l => store_oct l s i hi j hj)
end
/-- a heap of a buffer of octets and a view of shorts -/
def a9H (bs : List Nat) : List (Option Hc) := [some (.buf 8 bs), some (.view 7 (hw 0) 2 3)]
theorem a9_spot0 (bs : List Nat) : Spot (a9H bs) (hw 0) 8 0 0 bs.length 8 bs := ⟨hw_lt 0 (by decide), rfl, by omega, 0, hit_hw (by decide) (show (a9H bs)[0]? = some (some (.buf 8 bs)) from rfl), .inl ⟨rfl, rfl, rfl, rfl, rfl⟩⟩
theorem a9_spot1 (bs : List Nat) (h : bs.length = 8) : Spot (a9H bs) (hw 1) 7 0 2 6 8 bs := ⟨hw_lt 1 (by decide), rfl, by omega, 1, hit_hw (by decide) (show (a9H bs)[1]? = some (some (.view 7 (hw 0) 2 3)) from rfl), .inr ⟨hw 0, 3, rfl, hit_hw (by decide) (show (a9H bs)[0]? = some (some (.buf 8 bs)) from rfl), rfl⟩⟩
theorem a9_set (bs bs' : List Nat) : (a9H bs).set 0 (some (.buf 8 bs')) = a9H bs' := rfl
theorem a9_end : elI 7 (leN (seg (saved (saved (List.replicate (8 * elB 8) 0) (0 + 2 * 1) 255 1) (0 + 3 * 1) 255 1) (2 + 0 * 2) 2)) = 18445055223849287679 := by decide
theorem a9_255 : intW ((255 : Nat) : Int) = 18444773748872577279 := by decide
set_option maxRecDepth 100000 in
theorem awake9_c (W : World) : Calls Tryz.prog 14 #[] W fun e w' => e = .returned (.bool true) ∧ Below W.heap.size W w' := by
  have cn := hf_new (Below.refl W.heap.size W) 9 (by decide)
  rw [show ((9 : Nat) : Int) = 9 from rfl] at cn
  go_enter Tryz.func14, Tryz.ntmps14
  go_upto_region 4 with (go_at_call 7; (with_reducible refine cn.mono ?_); rintro e W1 ⟨hb, rfl, q1, hB1⟩; clear cn)
  have c1 := bnew_buf q1 8 (by decide) 8 (by decide) (.slice none 0 0) [] (words_nil W1 _ _)
  rw [show ((8 : Nat) : Int) = 8 from rfl, show ((hw (lid []) : Nat) : Int) = 18445336698825998336 from rfl, show putH [] (lid []) (some (Hc.buf 8 (List.replicate (8 * elB 8) 0))) = [some (Hc.buf 8 (List.replicate (8 * elB 8) 0))] from rfl] at c1
  go_upto_region 5 with (go_at_call 8; (with_reducible refine c1.mono ?_); rintro e W2 ⟨rfl, q2, u2⟩; clear c1)
  have c2 := bview_buf q2 (hw 0) (hw_lt 0 (by decide)) 0 (hit_hw (by decide) rfl) 8 (List.replicate (8 * elB 8) 0) rfl 8 (by decide) 7 (by decide) 2 3 (by decide) (by decide) (by decide) (by decide) none 0 [] (words_nil W2 _ _) (by decide)
  rw [show ((hw 0 : Nat) : Int) = 18445336698825998336 from rfl, show ((2 : Nat) : Int) = 2 from rfl, show ((3 : Nat) : Int) = 3 from rfl, show ([] : List Nat).length = 0 from rfl, show ((hw (lid [some (Hc.buf 8 (List.replicate (8 * elB 8) 0))]) : Nat) : Int) = 18445336698825998337 from rfl, show putH [some (Hc.buf 8 (List.replicate (8 * elB 8) 0))] (lid [some (Hc.buf 8 (List.replicate (8 * elB 8) 0))]) (some (Hc.view 7 (hw 0) 2 3)) = a9H (List.replicate (8 * elB 8) 0) from rfl] at c2
  go_upto_region 6 with (go_at_call 15; (with_reducible refine c2.mono ?_); rintro e W3 ⟨rfl, q3, u3⟩; clear c2)
  have c3 := hf_oct q3 (a9_spot0 _) 2 (by decide) 255 (by decide)
  rw [a9_set, a9_255, show ((hw 0 : Nat) : Int) = 18445336698825998336 from rfl, show ((2 : Nat) : Int) = 2 from rfl] at c3
  go_upto_region 7 with (go_at_call 10; (with_reducible refine c3.mono ?_); rintro e W4 ⟨rfl, q4, u4⟩; clear c3)
  have c4 := hf_oct q4 (a9_spot0 _) 3 (by decide) 255 (by decide)
  rw [a9_set, a9_255, show ((hw 0 : Nat) : Int) = 18445336698825998336 from rfl, show ((3 : Nat) : Int) = 3 from rfl] at c4
  go_upto_region 8 with (go_at_call 10; (with_reducible refine c4.mono ?_); rintro e W5 ⟨rfl, q5, u5⟩; clear c4)
  obtain ⟨sb, vc, T, l⟩ := q5.lay
  have c5 := load_shorts l (a9_spot1 _ (by decide)) 0 (by decide) (by decide)
  rw [a9_end, show ((hw 1 : Nat) : Int) = 18445336698825998337 from rfl, show ((0 : Nat) : Int) = 0 from rfl] at c5
  have hf := hid q5.bel
  clear q1 q2 q3 q4 q5 u2 u3 u4 u5 l hB1
  go_wp2_with (go_at_call 11; (with_reducible refine c5.mono ?_); rintro e W6 ⟨rfl, hB6⟩; clear c5)
  go_ret
  exact ⟨rfl, hf.out.trans (hB6.mono hf.out.size)⟩
end Go.Proofs.YtenpopelbmeemaaGreat.W
/- Package buf: the pair of a row. -/
namespace Go.Proofs.YtenpopelbmeemaaGreat.W
open Go.ChangeShapes Go.WideShapes Go.RowKit Go.Shelf
set_option linter.unusedVariables false
/-- the boxes of a row's pair -/
structure WordAt (W : World) (Bh Bx hb w : Nat) : Prop where
  h : Boxed W Bh 23 (.pointer (some ⟨hb, 0, none⟩))
  x : Boxed W Bx 22 (.int .u64 (w : Nat))
theorem WordAt.below {W W' : World} {Bh Bx hb w : Nat} (r : WordAt W Bh Bx hb w) (hB : Below W.heap.size W W') : WordAt W' Bh Bx hb w :=
  ⟨box_of (hB.block _ r.h.lt) r.h, box_of (hB.block _ r.x.lt) r.x⟩
set_option maxRecDepth 100000 in
theorem words_pair (W : World) (hb w : Nat) : Calls Tryz.prog 66 #[.pointer (some ⟨hb, 0, none⟩), .int .u64 (w : Nat)] W fun e w' => ∃ Bh Bx, e = .returned (.agg #[(.func (.func 110) #[] #[.pointer (some ⟨Bh, 0, none⟩), .pointer (some ⟨Bx, 0, none⟩)]), (.func (.func 112) #[] #[.pointer (some ⟨Bh, 0, none⟩), .pointer (some ⟨Bx, 0, none⟩)])]) ∧ Below W.heap.size W w' ∧ WordAt w' Bh Bx hb w := by
  have b1 : Below W.heap.size W (W.alloc (.cells #[.pointer (some ⟨hb, 0, none⟩)] 23)) := (Below.refl _ W).alloc (Nat.le_refl _) _
  have s1 : (W.alloc (.cells #[.pointer (some ⟨hb, 0, none⟩)] 23)).heap.size = W.heap.size + 1 := World.size_alloc ..
  have x1 := Boxed.new W 23 (.pointer (some ⟨hb, 0, none⟩))
  generalize hW1 : W.alloc (.cells #[.pointer (some ⟨hb, 0, none⟩)] 23) = W1 at *
  have b2 : Below W1.heap.size W1 (W1.alloc (.cells #[.int .u64 (w : Nat)] 22)) := (Below.refl _ W1).alloc (Nat.le_refl _) _
  have s2 : (W1.alloc (.cells #[.int .u64 (w : Nat)] 22)).heap.size = W1.heap.size + 1 := World.size_alloc ..
  have x2 := Boxed.new W1 22 (.int .u64 (w : Nat))
  generalize hW2 : W1.alloc (.cells #[.int .u64 (w : Nat)] 22) = W2 at *
  have b4 : Below W2.heap.size W2 (W2.alloc (.cells #[.nilFunc, .nilFunc] 77)) := (Below.refl _ W2).alloc (Nat.le_refl _) _
  have f4 := World.alloc_heap_new W2 (.cells #[.nilFunc, .nilFunc] 77)
  generalize hW4 : W2.alloc (.cells #[.nilFunc, .nilFunc] 77) = W4 at *
  have eR := fun j => cell_of_row W4 W2.heap.size j _ _ _ f4
  have zR : ∀ j, W4.frozen? ⟨W2.heap.size, j, none⟩ = false := fun j => by simp [World.frozen?, f4]
  have at4 : Hid (WordAt W4 W.heap.size W1.heap.size hb w ∧ Below W.heap.size W W4 ∧ W.heap.size ≤ W2.heap.size ∧ W.heap.size ≠ W2.heap.size ∧ W1.heap.size ≠ W2.heap.size) := by
    refine hid ⟨⟨box_of (b4.block _ (by omega)) (box_of (b2.block _ (by omega)) x1), box_of (b4.block _ (by omega)) x2⟩, ?_, by omega, by omega, by omega⟩
    exact (b1.trans (b2.mono (by omega))).trans (b4.mono (by omega))
  have FR := hid f4
  clear b1 s1 x1 b2 s2 x2 b4 f4
  go_enter Tryz.func66, Tryz.ntmps66
  go_upto_region 1 with fail
  clear hW1 hW2 hW4
  go_wp2
  refine bodyPost_ret (pair_ret rfl _ _ W2.heap.size _ _ (0, 0) rfl (two_set FR.out _ _)) rfl ?_
  obtain ⟨a4, hB4, l3, n0, n1⟩ := at4.out
  exact ⟨_, _, rfl, two_below hB4 l3 _ _, box_of (two_far _ _ _ _ _ n0) a4.h, box_of (two_far _ _ _ _ _ n1) a4.x⟩
section
variable {W W' : World} {hb sb : Nat} {vc : Value} {T : Nat → Prop} {H : List (Option Hc)} {u h : Nat}
/-- a word of a row -/
theorem hword_c (g : HLay W hb sb vc T H u h) (w : Nat) (hw : w < 18446744073709551616) (id : Nat) (hi : hit H w = some id) (ws : List Nat) (hc : H[id]? = some (some (.row ws))) (j x : Nat) (hx : ws[j]? = some x) :
    Calls Tryz.prog 111 #[.pointer (some ⟨hb, 0, none⟩), .int .u64 w, .int .i64 j] W fun e w' => e = .returned (.tuple #[.int .u64 (x : Nat), .int .i64 0]) ∧ Below W.heap.size W w' := by
  have hj := (List.getElem?_eq_some_iff.1 hx).1
  have hok := g.ok id _ hc
  have hl8 : ws.length ≤ 1048576 := hok.2
  have csl := slot_c g w hw id hi ws hc j hj
  have cl : Calls Tryz.prog 71 #[.pointer (some ⟨sb, 0, none⟩), .int .i64 id, .int .i64 ((j : Int) * 8), .int .i64 8] W fun e w' => e = .returned (.tuple #[.int .u64 (x : Nat), .int .i64 0]) ∧ Below W.heap.size W w' := by
    have := load_st g.st id _ (hA_some hc) (8 * j) 8 (.inr (.inr (.inr rfl))) (by omega) (by show _ ≤ (ws.flatMap le8).length; rw [row_len]; omega)
    rw [show (Hc.row ws).bytes = ws.flatMap le8 from rfl, row_load ws j x hx (hok.1 x (List.mem_of_getElem? hx)), show ((8 * j : Nat) : Int) = (j : Int) * 8 by omega] at this
    exact this
  have c0 := g.cell 0
  simp only [List.getElem?_cons_zero] at c0
  have w8 : IntKind.i64.wrap ((j : Int) * 8) = (j : Int) * 8 := by rw [IntKind.wrap_i64]; omega
  have w9 : wrap64 ((j : Int) * 8) = (j : Int) * 8 := by unfold wrap64; omega
  clear hok hl8 hc hi g hj hx
  go_enter Tryz.func111, Tryz.ntmps111
  go_wp2_with (first | (go_at_call 141; (with_reducible refine csl.mono ?_); rintro e w' ⟨rfl, hw⟩; (have hw' := hw.symm); subst hw'; clear hw csl) | (go_at_call 71; (with_reducible refine cl.mono ?_); rintro e w3 ⟨rfl, hB3⟩; clear cl))
  go_ret2
  exact ⟨rfl, hB3⟩
theorem words1_c (g : HLay W hb sb vc T H u h) (w : Nat) (hw : w < 18446744073709551616) (id : Nat) (hi : hit H w = some id) (ws : List Nat) (hc : H[id]? = some (some (.row ws))) (j x : Nat) (hx : ws[j]? = some x) {Bh Bx : Nat} (r : WordAt W Bh Bx hb w) :
    Calls Tryz.prog 110 #[.int .i64 j, .pointer (some ⟨Bh, 0, none⟩), .pointer (some ⟨Bx, 0, none⟩)] W fun e w' => e = .returned (.int .u64 (x : Nat)) ∧ Below W.heap.size W w' := by
  have cw := hword_c g w hw id hi ws hc j x hx
  have e1 := r.h.cell
  have e2 := r.x.cell
  clear g hi hc hx r
  go_enter Tryz.func110, Tryz.ntmps110
  go_wp2_with (go_at_call 111; (with_reducible refine cw.mono ?_); rintro e w3 ⟨rfl, hB3⟩; clear cw)
  go_ret
  exact ⟨rfl, hB3⟩
theorem words2_c (g : HLay W hb sb vc T H u h) (w : Nat) (hw : w < 18446744073709551616) (id : Nat) (hi : hit H w = some id) (ws : List Nat) (hc : H[id]? = some (some (.row ws))) (i : Nat) (hj : i < ws.length) (x : Nat) (hx : x < 18446744073709551616) (hv : isVal H x = true) {Bh Bx : Nat} (r : WordAt W Bh Bx hb w) (vk va vb vr : Int) (vt : ByteArray) :
    Calls Tryz.prog 112 #[.int .i64 i, .int .u64 x, .agg #[.int .i64 vk, .int .i64 va, .int .u64 vb, .string vt, .int .u64 vr], .pointer (some ⟨Bh, 0, none⟩), .pointer (some ⟨Bx, 0, none⟩)] W fun e w' => e = .returned (.int .i64 0) ∧ Upd T W w' ∧ HLay w' hb sb vc T (H.set id (some (.row (ws.set i x)))) u h := by
  have hB1 : Below W.heap.size W (W.alloc (.cells #[.int .i64 vk, .int .i64 va, .int .u64 vb, .string vt, .int .u64 vr] 33)) := (Below.refl _ W).alloc (Nat.le_refl _) _
  have cs0 := hset_c g w hw id hi ws hc i hj x hx hv
  have cs1 := hset_c (g.below hB1) w hw id hi ws hc i hj x hx hv
  have e1 := (r.below hB1).h.cell
  have e2 := (r.below hB1).x.cell
  generalize (H.set id (some (.row (ws.set i x)))) = HH at *
  generalize hW1 : W.alloc (.cells #[.int .i64 vk, .int .i64 va, .int .u64 vb, .string vt, .int .u64 vr] 33) = W1 at *
  have HB := hid hB1
  clear g hi hc hj hx hv r hB1 cs0
  go_enter Tryz.func112, Tryz.ntmps112
  go_wp2_with (go_at_call 113; (with_reducible refine cs1.mono ?_); rintro e w3 ⟨rfl, hU, hL⟩; clear cs1)
  go_ret
  exact ⟨rfl, (Upd.of_below HB.out).trans' hU, hL⟩
end
end Go.Proofs.YtenpopelbmeemaaGreat.W
/- Package buf: pairOf of a row. -/
namespace Go.Proofs.YtenpopelbmeemaaGreat.W
open Go.ChangeShapes Go.WideShapes Go.RowKit Go.Shelf
set_option linter.unusedVariables false
set_option maxRecDepth 100000 in
theorem pairOf_words (W : World) (hb w : Nat) : Calls Tryz.prog 34 #[.pointer (some ⟨hb, 0, none⟩), .int .u64 (w : Nat), .int .i64 9] W fun e w' => ∃ Bh Bx, e = .returned (.agg #[(.func (.func 110) #[] #[.pointer (some ⟨Bh, 0, none⟩), .pointer (some ⟨Bx, 0, none⟩)]), (.func (.func 112) #[] #[.pointer (some ⟨Bh, 0, none⟩), .pointer (some ⟨Bx, 0, none⟩)])]) ∧ Below W.heap.size W w' ∧ WordAt w' Bh Bx hb w := by
  have hB2 : Below W.heap.size W (W.alloc (.cells #[.nilFunc, .nilFunc] 77)) := (Below.refl _ W).alloc (Nat.le_refl _) _
  have f2 := World.alloc_heap_new W (.cells #[.nilFunc, .nilFunc] 77)
  generalize hW2 : W.alloc (.cells #[.nilFunc, .nilFunc] 77) = W2 at *
  have cr := words_pair W2 hb w
  have kp : Hid (∀ w4, Below W2.heap.size W2 w4 → w4.heap[W.heap.size]? = some (.cells #[.nilFunc, .nilFunc] 77) ∧ Below W.heap.size W w4) := by
    show ∀ w4, _
    intro w4 hB4
    exact ⟨(hB4.block _ (lt_get f2)).trans f2, hB2.trans (hB4.mono hB2.size)⟩
  clear hB2 f2
  go_enter Tryz.func34, Tryz.ntmps34
  go_upto_region 1 with fail
  clear hW2
  go_wp2_with (go_at_call 66; (with_reducible refine cr.mono ?_); rintro e w4 ⟨Bh, Bx, rfl, hB4, hP4⟩; clear cr; (obtain ⟨f4, hB5⟩ := kp.out w4 hB4); (have eR := fun j => cell_of_row w4 W.heap.size j _ _ _ f4); (have zR := (fun j => by simp [World.frozen?, f4] : ∀ j, w4.frozen? ⟨W.heap.size, j, none⟩ = false)); (have FR := hid f4); (have HB := hid hB5); (have HP := hid hP4); clear f4 hB5 hP4 hB4)
  refine bodyPost_ret (pair_ret rfl _ _ W.heap.size _ _ (0, 0) rfl (two_set FR.out _ _)) rfl ?_
  refine ⟨Bh, Bx, rfl, two_below HB.out (Nat.le_refl _) _ _, ?_⟩
  have ne : ∀ {B t : Nat} {v : Value}, Boxed w4 B t v → B ≠ W.heap.size := by
    intro B t v hb e
    subst e
    have := FR.out
    unfold Boxed at hb
    rw [hb] at this
    simp at this
  exact ⟨box_of (two_far _ _ _ _ _ (ne HP.out.h)) HP.out.h, box_of (two_far _ _ _ _ _ (ne HP.out.x)) HP.out.x⟩
end Go.Proofs.YtenpopelbmeemaaGreat.W
/- Package buf: Load and Store of a row. -/
namespace Go.Proofs.YtenpopelbmeemaaGreat.W
open Go.ChangeShapes Go.WideShapes Go.RowKit Go.Shelf
set_option linter.unusedVariables false
section
variable {W W' : World} {hb sb : Nat} {vc : Value} {T : Nat → Prop} {H : List (Option Hc)} {u h : Nat}
set_option maxRecDepth 100000 in
theorem load_words (g : HLay W hb sb vc T H u h) (w : Nat) (hw : w < 18446744073709551616) (id : Nat) (hid0 : hit H w = some id) (ws : List Nat) (hc : H[id]? = some (some (.row ws))) (i : Nat) (hi : i < ws.length) :
    Calls Tryz.prog 11 #[.pointer (some ⟨hb, 0, none⟩), .int .u64 w, .int .i64 i] W fun e w' => e = .returned (.tuple #[.int .u64 (ws[i] : Nat), .int .i64 0]) ∧ Below W.heap.size W w' := by
  have hcnt : i < (Hc.row ws).cnt := hi
  have ce := elem_c g w hw id hid0 (.row ws) hc trivial i (by omega) (by omega)
  unfold ThPost at ce
  rw [show (Hc.row ws).cl.kind = 9 from rfl] at ce
  have hl : ws.length ≤ 1048576 := (g.ok id _ hc).2
  have hiw : IntKind.i64.wrap (i : Int) = i := by rw [IntKind.wrap_i64]; omega
  have hv : ∀ w4 Bh Bx, Below W.heap.size W w4 → WordAt w4 Bh Bx hb w → Calls Tryz.prog 110 #[.int .i64 i, .pointer (some ⟨Bh, 0, none⟩), .pointer (some ⟨Bx, 0, none⟩)] w4 fun e w' => e = .returned (.int .u64 (ws[i] : Nat)) ∧ Below w4.heap.size w4 w' := fun w4 Bh Bx hB hP => words1_c (g.below hB) w hw id hid0 ws hc i _ (List.getElem?_eq_getElem hi) hP
  have HV := hid hv
  generalize ws[i] = X at *
  generalize ((Hc.row ws).bytes.length : Int) = nb at *
  generalize (Hc.row ws).cl.view = vw at *
  generalize (Hc.row ws).cl.base = ba at *
  generalize (Hc.row ws).cl.frm = fr at *
  generalize (Hc.row ws).cl.len = ln at *
  clear g hc hcnt hid0 hl hi hv
  go_enter Tryz.func11, Tryz.ntmps11
  go_upto_region 2 with (go_at_call 32; (with_reducible refine ce.mono ?_); rintro e w2 ⟨rfl, hB2⟩; clear ce)
  have hB3 : Below w2.heap.size w2 (w2.alloc (.cells #[.int .i64 9, .bool vw, .int .i64 0, .string ⟨#[]⟩, .slice none 0 0, .slice none 0 0, .int .u64 ba, .int .i64 fr, .int .i64 ln, .int .i64 nb] 69)) := (Below.refl _ w2).alloc (Nat.le_refl _) _
  have e3 := World.cell?_alloc_new w2 #[.int .i64 9, .bool vw, .int .i64 0, .string ⟨#[]⟩, .slice none 0 0, .slice none 0 0, .int .u64 ba, .int .i64 fr, .int .i64 ln, .int .i64 nb] 69
  have hbel := hB2.trans (hB3.mono hB2.size)
  generalize w2.alloc (.cells #[.int .i64 9, .bool vw, .int .i64 0, .string ⟨#[]⟩, .slice none 0 0, .slice none 0 0, .int .u64 ba, .int .i64 fr, .int .i64 ln, .int .i64 nb] 69) = w3 at *
  have cp := pairOf_words w3 hb w
  have HBel := hid hbel
  have pf := fun f g cs ds w => pair_f0 f g cs ds w
  clear hB2 hB3 hbel
  go_wp2_with (first | (go_at_call 34; (with_reducible refine cp.mono ?_); rintro e w4 ⟨Bh, Bx, rfl, hB4, hP4⟩; clear cp; (have cv := HV.out w4 Bh Bx (HBel.out.trans (hB4.mono HBel.out.size)) hP4)) | (go_at_call 110; (with_reducible refine cv.mono ?_); rintro e w5 ⟨rfl, hB5⟩; clear cv))
  go_ret2
  exact ⟨rfl, (HBel.out.trans (hB4.mono HBel.out.size)).trans (hB5.mono (by have := HBel.out.size; have := hB4.size; omega))⟩
set_option maxRecDepth 100000 in
set_option maxHeartbeats 1000000 in
/-- Store, over what Unbox answers and what the pair does -/
theorem store_words (g : HLay W hb sb vc T H u h) (w : Nat) (hw : w < 18446744073709551616) (id : Nat) (hid0 : hit H w = some id) (ws : List Nat) (hc : H[id]? = some (some (.row ws))) (i : Nat) (hi : i < ws.length) (xw : Nat) (hxw : xw < 18446744073709551616) (hva : isVal H xw = true) (vk va vb vr : Int) (vt : ByteArray)
    (hun : ∀ w2, Below W.heap.size W w2 → Calls Tryz.prog 33 #[.pointer (some ⟨hb, 0, none⟩), .int .u64 xw] w2 fun e w' => e = .returned (.tuple #[.agg #[.int .i64 vk, .int .i64 va, .int .u64 vb, .string vt, .int .u64 vr], .int .i64 0]) ∧ Below w2.heap.size w2 w') :
    Calls Tryz.prog 10 #[.pointer (some ⟨hb, 0, none⟩), .int .u64 w, .int .i64 i, .int .u64 xw] W fun e w' => e = .returned (.int .i64 0) ∧ Upd T W w' ∧ HLay w' hb sb vc T (H.set id (some (.row (ws.set i xw)))) u h := by
  have hcnt : i < (Hc.row ws).cnt := hi
  have ce := elem_c g w hw id hid0 (.row ws) hc trivial i (by omega) (by omega)
  unfold ThPost at ce
  rw [show (Hc.row ws).cl.kind = 9 from rfl] at ce
  have hl : ws.length ≤ 1048576 := (g.ok id _ hc).2
  have hiw : IntKind.i64.wrap (i : Int) = i := by rw [IntKind.wrap_i64]; omega
  have hcl : ∀ w4 Bh Bx, Below W.heap.size W w4 → WordAt w4 Bh Bx hb w → Calls Tryz.prog 112 #[.int .i64 i, .int .u64 xw, .agg #[.int .i64 vk, .int .i64 va, .int .u64 vb, .string vt, .int .u64 vr], .pointer (some ⟨Bh, 0, none⟩), .pointer (some ⟨Bx, 0, none⟩)] w4 fun e w' => e = .returned (.int .i64 0) ∧ Upd T w4 w' ∧ HLay w' hb sb vc T (H.set id (some (.row (ws.set i xw)))) u h := fun w4 Bh Bx hB hP => words2_c (g.below hB) w hw id hid0 ws hc i hi xw hxw hva hP vk va vb vr vt
  generalize (H.set id (some (.row (ws.set i xw)))) = HH at *
  have HV := hid hcl
  have HU := hid hun
  have HT : Hid (∀ k, T k → k < W.heap.size) := hid g.tlt
  generalize (Hc.row ws).cl.view = vw at *
  generalize ((Hc.row ws).bytes.length : Int) = nb at *
  generalize (Hc.row ws).cl.base = ba at *
  generalize (Hc.row ws).cl.frm = fr at *
  generalize (Hc.row ws).cl.len = ln at *
  clear g hi hcl hun hc hcnt hid0 hl hxw hva
  go_enter Tryz.func10, Tryz.ntmps10
  go_upto_region 2 with (go_at_call 32; (with_reducible refine ce.mono ?_); rintro e w2 ⟨rfl, hB2⟩; clear ce)
  have hB3 : Below w2.heap.size w2 (w2.alloc (.cells #[.int .i64 9, .bool vw, .int .i64 0, .string ⟨#[]⟩, .slice none 0 0, .slice none 0 0, .int .u64 ba, .int .i64 fr, .int .i64 ln, .int .i64 nb] 69)) := (Below.refl _ w2).alloc (Nat.le_refl _) _
  have f3 := World.alloc_heap_new w2 (.cells #[.int .i64 9, .bool vw, .int .i64 0, .string ⟨#[]⟩, .slice none 0 0, .slice none 0 0, .int .u64 ba, .int .i64 fr, .int .i64 ln, .int .i64 nb] 69)
  have hbel := hB2.trans (hB3.mono hB2.size)
  have hz2 := hB2.size
  generalize w2.alloc (.cells #[.int .i64 9, .bool vw, .int .i64 0, .string ⟨#[]⟩, .slice none 0 0, .slice none 0 0, .int .u64 ba, .int .i64 fr, .int .i64 ln, .int .i64 nb] 69) = w3 at *
  generalize w2.heap.size = B9 at *
  have cu := HU.out w3 hbel
  go_upto_region 5 with (go_at_call 33; (with_reducible refine cu.mono ?_); rintro e w4 ⟨rfl, hB4⟩; clear cu)
  have hB5 : Below w4.heap.size w4 (w4.alloc (.cells #[.int .i64 vk, .int .i64 va, .int .u64 vb, .string vt, .int .u64 vr] 33)) := (Below.refl _ w4).alloc (Nat.le_refl _) _
  have f5 := World.alloc_heap_new w4 (.cells #[.int .i64 vk, .int .i64 va, .int .u64 vb, .string vt, .int .u64 vr] 33)
  have f35 : (w4.alloc (.cells #[.int .i64 vk, .int .i64 va, .int .u64 vb, .string vt, .int .u64 vr] 33)).heap[B9]? = some (.cells #[.int .i64 9, .bool vw, .int .i64 0, .string ⟨#[]⟩, .slice none 0 0, .slice none 0 0, .int .u64 ba, .int .i64 fr, .int .i64 ln, .int .i64 nb] 69) := (hB5.block B9 (Nat.lt_of_lt_of_le (lt_get f3) hB4.size)).trans ((hB4.block B9 (lt_get f3)).trans f3)
  have hbel5 := (hbel.trans (hB4.mono hbel.size)).trans (hB5.mono (Nat.le_trans hbel.size hB4.size))
  have hz4 : W.heap.size ≤ w4.heap.size := Nat.le_trans hbel.size hB4.size
  generalize w4.alloc (.cells #[.int .i64 vk, .int .i64 va, .int .u64 vb, .string vt, .int .u64 vr] 33) = w5 at *
  generalize w4.heap.size = B11 at *
  have nT : Hid (¬ T B9 ∧ ¬ T B11) := hid ⟨fun e => by have := HT.out _ e; omega, fun e => by have := HT.out _ e; omega⟩
  clear hB4 hB5 hB2 hB3 hbel f3 HU hz2 hz4 HT
  go_upto_region 7 with fail
  have hBd : Below W.heap.size W w5.drew := ⟨hbel5.os, hbel5.tape, hbel5.output, hbel5.size, hbel5.block⟩
  have pf := fun f g cs ds w => pair_f1 f g cs ds w
  have cp := pairOf_words w5.drew hb w
  refine wp_region_held_drew (S := fun w' => w'.heap[B9]? = some (.cells #[.int .i64 9, .bool vw, .int .i64 0, .string ⟨#[]⟩, .slice none 0 0, .slice none 0 0, .int .u64 ba, .int .i64 fr, .int .i64 ln, .int .i64 nb] 69) ∧ w'.heap[B11]? = some (.cells #[.int .i64 vk, .int .i64 va, .int .u64 vb, .string vt, .int .u64 vr] 33)) (by kernel_rfl) ⟨f35, f5⟩ ?_
  intro hS
  (refine wpAnyH_take (i := 0) (v := ?_) rfl (by kernel_rfl) (by kernel_rfl) (by kernel_rfl) (fun _ _ _ h => h) (Or.inl ⟨by rfl, ?_⟩) hS ?_); rotate_left; (focus (intro w' hSw; (have ec := fun j => cell_of_row w' B9 j _ _ _ hSw.1); (have ev := fun j => cell_of_row w' B11 j _ _ _ hSw.2); go_simp; (try with_reducible rfl)))
  (refine wpAnyH_take (i := 1) (v := ?_) rfl (by kernel_rfl) (by kernel_rfl) (by kernel_rfl) (fun _ _ _ h => h) (Or.inl ⟨by rfl, ?_⟩) hS ?_); rotate_left; (focus (intro w' hSw; (have ec := fun j => cell_of_row w' B9 j _ _ _ hSw.1); (have ev := fun j => cell_of_row w' B11 j _ _ _ hSw.2); go_simp; (try with_reducible rfl)))
  (refine wpAnyH_take (i := 2) (v := ?_) rfl (by kernel_rfl) (by kernel_rfl) (by kernel_rfl) (fun _ _ _ h => h) (Or.inl ⟨by rfl, ?_⟩) hS ?_); rotate_left; (focus (intro w' hSw; (have ec := fun j => cell_of_row w' B9 j _ _ _ hSw.1); (have ev := fun j => cell_of_row w' B11 j _ _ _ hSw.2); go_simp; (try with_reducible rfl)))
  (refine wpAnyH_take (i := 3) (v := ?_) rfl (by kernel_rfl) (by kernel_rfl) (by kernel_rfl) (fun _ _ _ h => h) (Or.inl ⟨by rfl, ?_⟩) hS ?_); rotate_left; (focus (intro w' hSw; (have ec := fun j => cell_of_row w' B9 j _ _ _ hSw.1); (have ev := fun j => cell_of_row w' B11 j _ _ _ hSw.2); go_simp; (try with_reducible rfl)))
  (refine wpAnyH_take (i := 4) (v := ?_) rfl (by kernel_rfl) (by kernel_rfl) (by kernel_rfl) (fun _ _ _ h => h) (Or.inl ⟨by rfl, ?_⟩) hS ?_); rotate_left; (focus (intro w' hSw; (have ec := fun j => cell_of_row w' B9 j _ _ _ hSw.1); (have ev := fun j => cell_of_row w' B11 j _ _ _ hSw.2); go_simp; (try with_reducible rfl)))
  (refine wpAnyH_take (i := 7) (v := ?_) rfl (by kernel_rfl) (by kernel_rfl) (by kernel_rfl) (fun _ _ _ h => h) (Or.inl ⟨by rfl, ?_⟩) hS ?_); rotate_left; (focus (intro w' hSw; (have ec := fun j => cell_of_row w' B9 j _ _ _ hSw.1); (have ev := fun j => cell_of_row w' B11 j _ _ _ hSw.2); go_simp; (try with_reducible rfl)))
  (refine wpAnyH_take (i := 8) (v := ?_) rfl (by kernel_rfl) (by kernel_rfl) (by kernel_rfl) (fun _ _ _ h => h) (Or.inl ⟨by rfl, ?_⟩) hS ?_); rotate_left; (focus (intro w' hSw; (have ec := fun j => cell_of_row w' B9 j _ _ _ hSw.1); (have ev := fun j => cell_of_row w' B11 j _ _ _ hSw.2); go_simp; (try with_reducible rfl)))
  (refine wpAnyH_take (i := 9) (v := ?_) rfl (by kernel_rfl) (by kernel_rfl) (by kernel_rfl) (fun _ _ _ h => h) (Or.inl ⟨by rfl, ?_⟩) hS ?_); rotate_left; (focus (intro w' hSw; (have ec := fun j => cell_of_row w' B9 j _ _ _ hSw.1); (have ev := fun j => cell_of_row w' B11 j _ _ _ hSw.2); go_simp; (try with_reducible rfl)))
  refine wpAnyH_ready (rs := [5]) (by kernel_rfl) (by simp) ?_
  refine AllReadyH.cons rfl (fun K hK => ?_) AllReadyH.nil
  go_simp
  refine cp.mono ?_
  rintro e w6 ⟨Bh, Bx, rfl, hB6, hP6⟩
  have hS6 : w6.heap[B9]? = some (.cells #[.int .i64 9, .bool vw, .int .i64 0, .string ⟨#[]⟩, .slice none 0 0, .slice none 0 0, .int .u64 ba, .int .i64 fr, .int .i64 ln, .int .i64 nb] 69) ∧ w6.heap[B11]? = some (.cells #[.int .i64 vk, .int .i64 va, .int .u64 vb, .string vt, .int .u64 vr] 33) := ⟨(hB6.block B9 (lt_get hS.1)).trans hS.1, (hB6.block B11 (lt_get hS.2)).trans hS.2⟩
  have cv := HV.out w6 Bh Bx (hBd.trans (hB6.mono hBd.size)) hP6
  refine hK.out _ _ hS6 (fun _ => ?_)
  clear hK K cp hS
  have hS := hS6
  (refine wpAnyH_take (i := 6) (v := ?_) rfl (by kernel_rfl) (by kernel_rfl) (by kernel_rfl) (fun _ _ _ h => h) (Or.inl ⟨by rfl, ?_⟩) hS ?_); rotate_left; (focus (intro w' hSw; go_simp; (try with_reducible rfl)))
  refine wpAnyH_ready (rs := [10]) (by kernel_rfl) (by simp) ?_
  refine AllReadyH.cons rfl (fun K hK => ?_) AllReadyH.nil
  go_simp
  refine cv.mono ?_
  rintro e w7 ⟨rfl, hU7, hP7⟩
  have hS7 : w7.heap[B9]? = some (.cells #[.int .i64 9, .bool vw, .int .i64 0, .string ⟨#[]⟩, .slice none 0 0, .slice none 0 0, .int .u64 ba, .int .i64 fr, .int .i64 ln, .int .i64 nb] 69) ∧ w7.heap[B11]? = some (.cells #[.int .i64 vk, .int .i64 va, .int .u64 vb, .string vt, .int .u64 vr] 33) := ⟨(hU7.block B9 (lt_get hS.1) nT.out.1).trans hS.1, (hU7.block B11 (lt_get hS.2) nT.out.2).trans hS.2⟩
  have hUW : Upd T W w7 := (Upd.of_below (hBd.trans (hB6.mono hBd.size))).trans' hU7
  refine hK.out _ _ hS7 (fun _ => ?_)
  clear hK K cv hS hS6
  have hS := hS7
  (refine wpAnyH_take (i := 11) (v := ?_) rfl (by kernel_rfl) (by kernel_rfl) (by kernel_rfl) (fun _ _ _ h => h) (Or.inl ⟨by rfl, ?_⟩) hS ?_); rotate_left; (focus (intro w' hSw; go_simp; (try with_reducible rfl)))
  refine wpAnyH_done (by kernel_rfl) ?_ _
  go_wp2
  go_ret
  exact ⟨rfl, hUW, hP7⟩
end
end Go.Proofs.YtenpopelbmeemaaGreat.W
/- BufOutside: a buffer of each kind, blank and with a one in it. -/
namespace Go.Proofs.YtenpopelbmeemaaGreat.W
open Go.ChangeShapes Go.WideShapes Go.RowKit Go.Shelf
set_option linter.unusedVariables false
/-- what is stored: the whole number one -/
def oneN : Nat := 18444773748872577025
theorem oneN_w : ((oneN : Nat) : Int) = intW 1 := by decide
/-- what the elements of the one cell load as -/
def Loads (n : Nat) (c : Hc) (f : Nat → Int) : Prop := ∀ (W0 W : World) (hb : Nat) (K : Nat → Prop) (i : Nat), i < n → Hf W0 W hb [some c] 500 K → Calls Tryz.prog 11 #[.pointer (some ⟨hb, 0, none⟩), .int .u64 (hw 0 : Nat), .int .i64 i] W fun e w' => e = .returned (.tuple #[.int .u64 (f i), .int .i64 0]) ∧ Below W.heap.size W w'
/-- what the cell is behind Store -/
def Stores (n : Nat) (c : Hc) (d : Nat → Hc) : Prop := ∀ (W0 W : World) (hb : Nat) (K : Nat → Prop) (i : Nat), i < n → Hf W0 W hb [some c] 500 K → Calls Tryz.prog 10 #[.pointer (some ⟨hb, 0, none⟩), .int .u64 (hw 0 : Nat), .int .i64 i, .int .u64 (oneN : Nat)] W fun e w' => e = .returned (.int .i64 0) ∧ Hf W0 w' hb [some (d i)] 500 K
/-- a kind's ways: blank elements load as z; behind a store the one loads as o -/
def Ways (k : Int) (n : Nat) (z o : Int) : Prop := ∃ d : Nat → Hc, Loads n (blankH k n) (fun _ => z) ∧ Stores n (blankH k n) d ∧ ∀ i, i < n → (isTh (d i) ∧ (d i).cnt = n) ∧ Loads n (d i) (fun j => if j = i then o else z)
theorem one_hit (c : Hc) : hit [some c] (hw 0) = some 0 := hit_hw (by decide) (show [some c][0]? = some (some c) from rfl)
theorem one_spot (k : Int) (bs : List Nat) : Spot [some (.buf k bs)] (hw 0) k 0 0 bs.length k bs := ⟨hw_lt 0 (by decide), rfl, by omega, 0, one_hit _, .inl ⟨rfl, rfl, rfl, rfl, rfl⟩⟩
theorem seg_rep (m a w : Nat) (h : a + w ≤ m) : seg (List.replicate m 0) a w = List.replicate w 0 := by
  unfold seg
  rw [List.drop_replicate, List.take_replicate, Nat.min_eq_left (by omega)]
theorem end_le {n i wd : Nat} (h : i < n) : i * wd + wd ≤ n * wd := by
  have := Nat.mul_le_mul_right wd (show i + 1 ≤ n from h)
  rw [Nat.add_mul, Nat.one_mul] at this
  exact this
theorem leN_rep (w : Nat) : leN (List.replicate w 0) = 0 := by
  induction w with
  | zero => rfl
  | succ w ih => rw [List.replicate_succ', leN_snoc, ih]; omega
theorem el_blank {n i wd : Nat} (h : i < n) : leN (seg (List.replicate (n * wd) 0) (0 + i * wd) wd) = 0 := by
  rw [Nat.zero_add, seg_rep _ _ _ (end_le h), leN_rep]
theorem el_saved {n i j wd x : Nat} (hi : i < n) (hj : j < n) (hx : leN (saved (List.replicate wd 0) 0 x wd) = x) : leN (seg (saved (List.replicate (n * wd) 0) (0 + i * wd) x wd) (0 + j * wd) wd) = if j = i then x else 0 := by
  have e1 := end_le (wd := wd) hi
  have e2 := end_le (wd := wd) hj
  by_cases c : j = i
  · subst c
    rw [if_pos rfl, Nat.zero_add]
    have := seg_saved_in (List.replicate (n * wd) 0) (j * wd) wd 0 x wd (by omega) (by rw [List.length_replicate]; exact e1)
    rw [Nat.add_zero] at this
    rw [this, seg_rep _ _ _ e1, hx]
  · rw [if_neg c]
    have o : j * wd + wd ≤ 0 + i * wd ∨ 0 + i * wd + wd ≤ j * wd := by
      rcases Nat.lt_or_gt_of_ne c with h | h
      · exact .inl (by have := end_le (wd := wd) h; omega)
      · exact .inr (by have := end_le (wd := wd) h; omega)
    rw [Nat.zero_add, Nat.zero_add] at *
    rw [seg_saved_out _ _ _ _ _ _ (by rw [List.length_replicate]; exact e1) o, seg_rep _ _ _ e2, leN_rep]
theorem one_small : smallB 1 = true := by decide
set_option maxRecDepth 100000 in
theorem ways_octets (n : Nat) : Ways 8 n (intW 0) (intW 1) := by
  have eb : blankH 8 n = .buf 8 (List.replicate (n * 1) 0) := rfl
  have ld : ∀ (bs : List Nat) (f : Nat → Nat), bs.length = n * 1 → (∀ i, i < n → leN (seg bs (0 + i * 1) 1) = f i) → ∀ (g : Nat → Int), (∀ i, i < n → elI 8 (f i) = g i) → Loads n (.buf 8 bs) g := by
    intro bs f hl hf g hg W0 W hb K i hi q
    obtain ⟨sb, vc, T, l⟩ := q.lay
    have e1 := end_le (wd := 1) hi
    have := load_octets l (one_spot 8 bs) i (by rw [hl]; exact e1) (by decide)
    rw [hf i hi, hg i hi] at this
    exact this
  refine ⟨fun i => .buf 8 (saved (List.replicate (n * 1) 0) (0 + i * 1) 1 1), ?_, ?_, ?_⟩
  · rw [eb]
    exact ld _ (fun _ => 0) List.length_replicate (fun i hi => el_blank hi) _ (fun i hi => by decide +kernel)
  · rw [eb]
    intro W0 W hb K i hi q
    have e1 := end_le (wd := 1) hi
    refine (hf_calls (v := .int .i64 0) (H' := [some (.buf 8 (List.replicate (n * 1) 0))].set 0 (some (.buf 8 (saved (List.replicate (n * 1) 0) (0 + i * 1) 1 1)))) q (sumH_same (one_spot 8 _).cell (buf_need _ _ _ _ (saved_len _ _ _ _))) (fun sb vc T l => ?_)).mono ?_
    rotate_left
    · rintro e w' ⟨rfl, h1, h2⟩
      exact ⟨rfl, h1⟩
    · rw [oneN_w]
      exact store_oct l (one_spot 8 _) i (by rw [List.length_replicate]; exact e1) 1 (by decide)
  · intro i hi
    refine ⟨⟨trivial, ?_⟩, ld _ (fun j => if j = i then 1 else 0) (by rw [saved_len, List.length_replicate]) (fun j hj => el_saved hi hj (by decide)) _ (fun j hj => ?_)⟩
    · show (saved _ _ _ _).length / 1 = n
      rw [saved_len, List.length_replicate, Nat.mul_div_cancel _ (by decide)]
    · by_cases c : j = i
      · subst c; simp only [if_pos]; decide +kernel
      · simp only [if_neg c]; decide +kernel
end Go.Proofs.YtenpopelbmeemaaGreat.W
