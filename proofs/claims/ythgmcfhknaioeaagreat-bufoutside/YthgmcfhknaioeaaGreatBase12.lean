import Derived.Test.YthgmcfhknaioeaaGreatBase11
/- View and Store over a heap that a statement made; casketlaw9's awake. -/
namespace Go.Proofs.YthgmcfhknaioeaaGreat.W
open Go.ChangeShapes Go.WideShapes Go.RowKit Go.Shelf
set_option linter.unusedVariables false
section
variable {W0 W W1 W' : World} {hb : Nat} {H : List (Option Hc)} {u : Nat} {K : Nat → Prop}
theorem hf_viewq (q : Hf W0 W hb H u K) (k : Int) (hk : elB k > 0) (ba p n : Nat) (hba : ba < 18446744073709551616) (id : Nat) (hi : hit H ba = some id) (k2 : Int) (bs : List Nat) (hc : H[id]? = some (some (.buf k2 bs))) (hp : p ≤ bs.length) (hpm : p % elB k = 0) (hn : n ≤ (bs.length - p) / elB k) (hf : sumH H + 1 ≤ u) (rs : List Nat) (w9 : World) (v : Value) (hB : Below W.heap.size W w9) (hr : WordsAt w9 v rs) :
    Calls Tryz.prog 23 #[.pointer (some ⟨hb, 0, none⟩), .agg #[.int .i64 k, .bool true, .int .i64 0, .string ⟨#[]⟩, .slice none 0 0, .slice none 0 0, .int .u64 ba, .int .i64 p, .int .i64 n], v] w9 fun e w' => e = .returned (.tuple #[.int .u64 (hw (lid H) : Nat), .int .i64 0]) ∧ (Hf W0 w' hb (putH H (lid H) (some (.view k ba p n))) u K ∧ Upd (Ch W0 K) W w') ∧ ∀ b, W.heap.size ≤ b → b < w9.heap.size → w'.heap[b]? = w9.heap[b]? := by
  refine (hf_view (q.below hB) k hk ba p n hba id hi k2 bs hc hp hpm hn hf v rs hr).mono ?_
  rintro e w' ⟨rfl, h1, h2⟩
  refine ⟨rfl, ⟨h1.sub (fun k e => .inl e), (Upd.of_below hB).trans' (h2.mono ?_)⟩, fun b b1 b2 => h2.block b b2 (fun e => e.1 (.inr ⟨b1, b2⟩))⟩
  rintro x ⟨e1, e2⟩
  exact ⟨fun e => e1 (.inl e), e2⟩
theorem bview_buf (q : Hf W0 W hb H u K) (w : Nat) (hw64 : w < 18446744073709551616) (id : Nat) (hi : hit H w = some id) (kd : Int) (bs : List Nat) (hc : H[id]? = some (some (.buf kd bs))) (m : Nat) (hm : bs.length = m * elB kd) (k : Int) (hk : elB k > 0) (f n : Nat) (ha : f % elB k = 0) (hf : f ≤ bs.length) (hn : n ≤ (bs.length - f) / elB k) (hfit : sumH H + 1 ≤ u) (orr : Option Addr) (capr : Nat) (rs : List Nat) (hr : WordsAt W (.slice orr rs.length capr) rs) (hrl : rs.length ≤ 900000) :
    Calls Tryz.prog 13 #[.pointer (some ⟨hb, 0, none⟩), .int .u64 w, .int .i64 k, .int .i64 f, .int .i64 n, .slice orr rs.length capr] W fun e w' => e = .returned (.tuple #[.int .u64 (hw (lid H) : Nat), .int .i64 0]) ∧ Hf W0 w' hb (putH H (lid H) (some (.view k w f n))) u K ∧ Upd (Ch W0 K) W w' := by
  obtain ⟨sb, vc, T, l⟩ := q.lay
  have hok := l.ok id _ hc
  have hkd : elB kd > 0 := hok.1
  have hl8 : bs.length ≤ 8388608 := hok.2.2
  have h9 : ¬ kd = 9 := by rintro rfl; simp [elB] at hkd
  have hcnt : (Hc.buf kd bs).cnt = m := by show bs.length / elB kd = m; rw [hm, Nat.mul_div_cancel _ hkd]
  have hn8 : n ≤ 8388608 := by have := Nat.div_le_self (bs.length - f) (elB k); omega
  refine view_false q w hw64 kd h9 bs.length 0 0 0 0 (wds []) (thing_c l w hw64 id hi _ hc trivial) k f n ?_ f (Nat.zero_add f) (by omega) hn8 (fun w' => Hf W0 w' hb (putH H (lid H) (some (.view k w f n))) u K ∧ Upd (Ch W0 K) W w') (hw (lid H)) orr capr rs hr hrl ?_
  · intro ob ow bc wc W
    refine fits_c kd hkd false ob ow bs.length bc 0 wc 0 0 0 m (fun W => ?_) k hk f n (by rw [Nat.zero_add]; exact ha) (by rw [← hm]; exact hf) (by rw [← hm]; exact hn) (by rw [← hm]; exact hl8) (by omega) W
    have := count_c (Hc.buf kd bs) trivial hok ob ow bc wc W
    rw [hcnt] at this
    exact this
  · intro w9 v hB hv
    exact hf_viewq q k hk w f n hw64 id hi kd bs hc hf ha hn hfit (rs ++ [w]) w9 v hB hv
theorem bview_view (q : Hf W0 W hb H u K) (w : Nat) (hw64 : w < 18446744073709551616) (id : Nat) (hi : hit H w = some id) (kd : Int) (ba p m : Nat) (hc : H[id]? = some (some (.view kd ba p m))) (t : Nat) (ht : hit H ba = some t) (k2 : Int) (bs : List Nat) (hct : H[t]? = some (some (.buf k2 bs))) (hin : p + m * elB kd ≤ bs.length) (k : Int) (hk : elB k > 0) (f n : Nat) (ha : (p + f) % elB k = 0) (hf : f ≤ m * elB kd) (hn : n ≤ (m * elB kd - f) / elB k) (hfit : sumH H + 1 ≤ u) (orr : Option Addr) (capr : Nat) (rs : List Nat) (hr : WordsAt W (.slice orr rs.length capr) rs) (hrl : rs.length ≤ 900000) :
    Calls Tryz.prog 13 #[.pointer (some ⟨hb, 0, none⟩), .int .u64 w, .int .i64 k, .int .i64 f, .int .i64 n, .slice orr rs.length capr] W fun e w' => e = .returned (.tuple #[.int .u64 (hw (lid H) : Nat), .int .i64 0]) ∧ Hf W0 w' hb (putH H (lid H) (some (.view k ba (p + f) n))) u K ∧ Upd (Ch W0 K) W w' := by
  obtain ⟨sb, vc, T, l⟩ := q.lay
  have hok := l.ok id _ hc
  have hkd : elB kd > 0 := hok.1
  have hok2 := l.ok t _ hct
  have hl8 : bs.length ≤ 8388608 := hok2.2.2
  have h9 : ¬ kd = 9 := by rintro rfl; simp [elB] at hkd
  have hn8 : n ≤ 8388608 := by have := Nat.div_le_self (m * elB kd - f) (elB k); omega
  have hmn : (m * elB kd - f) / elB k ≤ (bs.length - (p + f)) / elB k := Nat.div_le_div_right (by omega)
  refine view_true q w hw64 kd h9 0 0 ba p m (wds []) (thing_c l w hw64 id hi _ hc trivial) k f n ?_ (p + f) rfl (by omega) hn8 (fun w' => Hf W0 w' hb (putH H (lid H) (some (.view k ba (p + f) n))) u K ∧ Upd (Ch W0 K) W w') (hw (lid H)) orr capr rs hr hrl ?_
  · intro ob ow bc wc W
    refine fits_c kd hkd true ob ow 0 bc 0 wc ba p m m (fun W => ?_) k hk f n ha hf hn (by omega) (by omega) W
    exact count_c (Hc.view kd ba p m) trivial hok ob ow bc wc W
  · intro w9 v hB hv
    exact hf_viewq q k hk ba (p + f) n hok.2.1 t ht k2 bs hct (by omega) ha (Nat.le_trans hn hmn) hfit (rs ++ [w]) w9 v hB hv
theorem hf_oct {w : Nat} {k2 : Int} {t p n : Nat} {bs : List Nat} (q : Hf W0 W1 hb H u K) (s : Spot H w 8 t p n k2 bs) (i : Nat) (hi : i * 1 + 1 ≤ n) (j : Nat) (hj : j ≤ 255) :
    Calls Tryz.prog 15 #[.pointer (some ⟨hb, 0, none⟩), .int .u64 w, .int .i64 i, .int .u64 (intW j)] W1 fun e w' => e = .returned (.int .i64 0) ∧ Hf W0 w' hb (H.set t (some (.buf k2 (saved bs (p + i * 1) j 1)))) u K ∧ Upd (Ch W0 K) W1 w' :=
  hf_calls q (sumH_same s.cell (buf_need _ _ _ _ (saved_len _ _ _ _))) (fun sb vc T l => store_oct l s i hi j hj)
end
/-- a heap of a buffer of octets and a view of shorts -/
def a9H (bs : List Nat) : List (Option Hc) := [some (.buf 8 bs), some (.view 7 (hw 0) 2 3)]
theorem a9_spot0 (bs : List Nat) : Spot (a9H bs) (hw 0) 8 0 0 bs.length 8 bs := ⟨hw_lt 0 (by decide), rfl, by omega, 0, hit_hw (by decide) (show (a9H bs)[0]? = some (some (.buf 8 bs)) from rfl), .inl ⟨rfl, rfl, rfl, rfl, rfl⟩⟩
theorem a9_spot1 (bs : List Nat) (h : bs.length = 8) : Spot (a9H bs) (hw 1) 7 0 2 6 8 bs := ⟨hw_lt 1 (by decide), rfl, by omega, 1, hit_hw (by decide) (show (a9H bs)[1]? = some (some (.view 7 (hw 0) 2 3)) from rfl), .inr ⟨hw 0, 3, rfl, hit_hw (by decide) (show (a9H bs)[0]? = some (some (.buf 8 bs)) from rfl), rfl⟩⟩
theorem a9_set (bs bs' : List Nat) : (a9H bs).set 0 (some (.buf 8 bs')) = a9H bs' := rfl
theorem a9_end : elI 7 (leN (seg (saved (saved (List.replicate (8 * elB 8) 0) (0 + 2 * 1) 255 1) (0 + 3 * 1) 255 1) (2 + 0 * 2) 2)) = 18445055223849287679 := by decide
theorem a9_255 : intW ((255 : Nat) : Int) = 18444773748872577279 := by decide
set_option maxRecDepth 100000 in
theorem awake9_c (W : World) : Calls Tryz.prog 9 #[] W fun e w' => e = .returned (.bool true) ∧ Below W.heap.size W w' := by
  have cn := hf_new (Below.refl W.heap.size W) 9 (by decide)
  rw [show ((9 : Nat) : Int) = 9 from rfl] at cn
  go_enter Tryz.func9, Tryz.ntmps9
  go_upto_region 4 with (go_at_call 7; (with_reducible refine cn.mono ?_); rintro e W1 ⟨hb, rfl, q1, hB1⟩; clear cn)
  have c1 := bnew_buf q1 8 (by decide) 8 (by decide) (.slice none 0 0) [] (words_nil W1 _ _)
  rw [show ((8 : Nat) : Int) = 8 from rfl, show ((hw (lid []) : Nat) : Int) = 18445336698825998336 from rfl, show putH [] (lid []) (some (Hc.buf 8 (List.replicate (8 * elB 8) 0))) = [some (Hc.buf 8 (List.replicate (8 * elB 8) 0))] from rfl] at c1
  go_upto_region 5 with (go_at_call 8; (with_reducible refine c1.mono ?_); rintro e W2 ⟨rfl, q2, u2⟩; clear c1)
  have c2 := bview_buf q2 (hw 0) (hw_lt 0 (by decide)) 0 (hit_hw (by decide) rfl) 8 (List.replicate (8 * elB 8) 0) rfl 8 (by decide) 7 (by decide) 2 3 (by decide) (by decide) (by decide) (by decide) none 0 [] (words_nil W2 _ _) (by decide)
  rw [show ((hw 0 : Nat) : Int) = 18445336698825998336 from rfl, show ((2 : Nat) : Int) = 2 from rfl, show ((3 : Nat) : Int) = 3 from rfl, show ([] : List Nat).length = 0 from rfl, show ((hw (lid [some (Hc.buf 8 (List.replicate (8 * elB 8) 0))]) : Nat) : Int) = 18445336698825998337 from rfl, show putH [some (Hc.buf 8 (List.replicate (8 * elB 8) 0))] (lid [some (Hc.buf 8 (List.replicate (8 * elB 8) 0))]) (some (Hc.view 7 (hw 0) 2 3)) = a9H (List.replicate (8 * elB 8) 0) from rfl] at c2
  go_upto_region 6 with (go_at_call 13; (with_reducible refine c2.mono ?_); rintro e W3 ⟨rfl, q3, u3⟩; clear c2)
  have c3 := hf_oct q3 (a9_spot0 _) 2 (by decide) 255 (by decide)
  rw [a9_set, a9_255, show ((hw 0 : Nat) : Int) = 18445336698825998336 from rfl, show ((2 : Nat) : Int) = 2 from rfl] at c3
  go_upto_region 7 with (go_at_call 15; (with_reducible refine c3.mono ?_); rintro e W4 ⟨rfl, q4, u4⟩; clear c3)
  have c4 := hf_oct q4 (a9_spot0 _) 3 (by decide) 255 (by decide)
  rw [a9_set, a9_255, show ((hw 0 : Nat) : Int) = 18445336698825998336 from rfl, show ((3 : Nat) : Int) = 3 from rfl] at c4
  go_upto_region 8 with (go_at_call 15; (with_reducible refine c4.mono ?_); rintro e W5 ⟨rfl, q5, u5⟩; clear c4)
  obtain ⟨sb, vc, T, l⟩ := q5.lay
  have c5 := load_shorts l (a9_spot1 _ (by decide)) 0 (by decide) (by decide)
  rw [a9_end, show ((hw 1 : Nat) : Int) = 18445336698825998337 from rfl, show ((0 : Nat) : Int) = 0 from rfl] at c5
  have hf := hid q5.bel
  clear q1 q2 q3 q4 q5 u2 u3 u4 u5 l hB1
  go_wp2_with (go_at_call 16; (with_reducible refine c5.mono ?_); rintro e W6 ⟨rfl, hB6⟩; clear c5)
  go_ret
  exact ⟨rfl, hf.out.trans (hB6.mono hf.out.size)⟩
end Go.Proofs.YthgmcfhknaioeaaGreat.W
