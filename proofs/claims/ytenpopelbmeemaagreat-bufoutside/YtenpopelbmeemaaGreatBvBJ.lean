import Derived.Test.YtenpopelbmeemaaGreatBvAJ
/- BufViews: the walk, where the numbers are in their bounds. -/
namespace Go.Proofs.YtenpopelbmeemaaGreat.W
open Go.ChangeShapes Go.WideShapes Go.RowKit Go.Shelf
set_option linter.unusedVariables false
theorem bv_ar (n f s i m p : Nat) (hn : n ≤ 200) (h : f + s ≤ n) (h2 : i + m ≤ s) (hp : f + i = p) : IntKind.i64.wrap ((n : Int) - f) = (n : Int) - f ∧ IntKind.i64.wrap ((s : Int) - i) = (s : Int) - i ∧ IntKind.i64.wrap ((f : Int) + i) = (p : Int) ∧ wrap64 ((f : Int) + i) = (p : Int) ∧ IntKind.i64.wrap (p : Int) = (p : Int) ∧ IntKind.i64.wrap (m : Int) = (m : Int) ∧ IntKind.i64.wrap ((p : Int) + m) = ((p + m : Nat) : Int) ∧ wrap64 ((p : Int) + m) = ((p + m : Nat) : Int) := by
  refine ⟨?_, ?_, ?_, ?_, ?_, ?_, ?_, ?_⟩
  · rw [IntKind.wrap_i64]; omega
  · rw [IntKind.wrap_i64]; omega
  · rw [IntKind.wrap_i64]; omega
  · unfold wrap64; omega
  · rw [IntKind.wrap_i64]; omega
  · rw [IntKind.wrap_i64]; omega
  · rw [IntKind.wrap_i64]; omega
  · unfold wrap64; omega
theorem bv_succ {j s : Nat} (h : j ≤ s) (hs : s ≤ 200) : IntKind.i64.wrap ((j : Int) + 1) = (j : Int) + 1 := by rw [IntKind.wrap_i64]; omega
theorem bv_meas {j s : Nat} (h : j < s) : s - ((j : Int) + 1).toNat < s - (j : Int).toNat := by omega
theorem bv_lt {j s : Nat} (h : j < s) : (j : Int) < s := by omega
theorem bv_nlt {j s : Nat} (h : ¬ j < s) : ¬ (j : Int) < s := by omega
theorem bv_wy {y : Nat} (h : y < 256) : IntKind.u64.wrap (y : Int) = (y : Int) := by rw [IntKind.wrap_u64]; omega
set_option maxRecDepth 100000 in
set_option maxHeartbeats 2000000 in
theorem bv_main (n f s i m p y : Nat) (hn : n ≤ 200) (h : f + s ≤ n) (h2 : i + m ≤ s) (hp : f + i = p) (hy : y < 256) (w : World) :
    Calls Tryz.prog 4 #[.int .i64 n, .int .i64 f, .int .i64 s, .int .i64 i, .int .i64 m, .int .u8 y] w fun e w' => e = .returned (.bool true) ∧ Below w.heap.size w w' := by
  have hpm : p + m ≤ n := by omega
  have hm2 : m ≤ 200 := by omega
  have a1 : ¬ (n : Int) < 0 := by omega
  have a2 : ¬ (n : Int) > 200 := by omega
  have a3 : ¬ (f : Int) < 0 := by omega
  have a4 : ¬ (s : Int) < 0 := by omega
  have a5 : ¬ (f : Int) > n := by omega
  have a6 : ¬ (s : Int) > (n : Int) - f := by omega
  have a7 : ¬ (i : Int) < 0 := by omega
  have a8 : ¬ (m : Int) < 0 := by omega
  have a9 : ¬ (i : Int) > s := by omega
  have a10 : ¬ (m : Int) > (s : Int) - i := by omega
  obtain ⟨r1, r2, r3, r3', r4, r5, r6, r6'⟩ := bv_ar n f s i m p hn h h2 hp
  have hyw := bv_wy hy
  have hor := bv_or y hy
  have cn := hf_new (Below.refl w.heap.size w) 100 (by decide)
  rw [show ((100 : Nat) : Int) = 100 from rfl] at cn
  have c1 := fun (W : World) (hb : Nat) (q : Hf w W hb [] 100 (fun k => k < w.heap.size)) => bv_new q n hn
  have c2 := fun (W : World) (hb : Nat) (q : Hf w W hb [some (.buf 8 (List.replicate n 0))] 100 (fun k => k < w.heap.size)) => bv_v1 n f s hn h q
  have c3 := fun (W : World) (hb : Nat) (q : Hf w W hb [some (.buf 8 (List.replicate n 0)), some (.view 8 (hw 0) f s)] 100 (fun k => k < w.heap.size)) => bv_v2 n f s i m p y hn h h2 hp q
  have c4 := fun (W : World) (hb : Nat) bs (q : Hf w W hb (bvH bs f s p m) 100 (fun k => k < w.heap.size)) => bv_get bs f s p m q
  have c5 := fun (W : World) (hb : Nat) k hk (q : Hf w W hb (bvH (fil n p y k) f s p m) 100 (fun k => k < w.heap.size)) => bv_store n f s p m k y hpm hk hy q
  have c6 := fun (W : World) (hb : Nat) k hk (q : Hf w W hb (bvH (fil n p y m) f s p m) 100 (fun k => k < w.heap.size)) => bv_load n f s p m k y hpm hk hy q
  have c7 := fun (W : World) (hb : Nat) bs (q : Hf w W hb (bvH bs f s p m) 100 (fun k => k < w.heap.size)) => bv_len bs f s p m q
  have C1 := hid c1
  have C2 := hid c2
  have C3 := hid c3
  have C4 := hid c4
  have C5 := hid c5
  have C6 := hid c6
  have C7 := hid c7
  have HN := hid hn
  have HM := hid hm2
  clear c1 c2 c3 c4 c5 c6 c7 hn h h2 hp hy hpm hm2
  go_enter Tryz.func4, Tryz.ntmps4
  go_upto_region 6 with (go_at_call 7; (with_reducible refine cn.mono ?_); rintro e W1 ⟨hb, rfl, q1, hB1⟩; clear cn)
  have c1 := C1.out W1 hb q1
  clear a1 a2 a3 a4 a5 a6 a7 a8 a9 a10 r1 r2 q1 hB1 C1
  go_upto_region 7 with (go_at_call 8; (with_reducible refine c1.mono ?_); rintro e W2 ⟨rfl, q2⟩; clear c1)
  have c2 := C2.out W2 hb q2
  clear q2 C2
  go_upto_region 8 with (go_at_call 15; (with_reducible refine c2.mono ?_); rintro e W3 ⟨rfl, q3⟩; clear c2)
  have c3 := C3.out W3 hb q3
  clear q3 C3
  go_upto_region 11 with (go_at_call 15; (with_reducible refine c3.mono ?_); rintro e W4 ⟨rfl, q4⟩; clear c3)
  have c4 := C4.out W4 hb _ q4
  have Q4 := hid q4
  clear q4 C4
  generalize h0 : hw 0 = b0 at c4 C6 ⊢
  go_upto_region 12 with (go_at_call 16; (with_reducible refine c4.mono ?_); rintro e W5 ⟨rfl, hB5⟩; clear c4)
  have hB6 : Below W5.heap.size W5 (W5.alloc (.cells #[.int .i64 8, .bool true, .int .i64 0, .string ⟨#[]⟩, .slice none 0 0, .slice none 0 0, .int .u64 (b0 : Nat), .int .i64 p, .int .i64 m] 43)) := (Below.refl _ W5).alloc (Nat.le_refl _) _
  have e6 := World.cell?_alloc_new W5 #[.int .i64 8, .bool true, .int .i64 0, .string ⟨#[]⟩, .slice none 0 0, .slice none 0 0, .int .u64 (b0 : Nat), .int .i64 p, .int .i64 m] 43
  have q6 := (Q4.out.below' hB5).below' hB6
  generalize W5.alloc (.cells #[.int .i64 8, .bool true, .int .i64 0, .string ⟨#[]⟩, .slice none 0 0, .slice none 0 0, .int .u64 (b0 : Nat), .int .i64 p, .int .i64 m] 43) = W6 at *
  have Q6 := hid q6
  clear q6 Q4 hB5 hB6
  go_upto_region 14 with fail
  clear e6
  go_wp2
  go_loopw [23] (fun ii wr => ∃ j : Nat, j ≤ m ∧ ii = .int .i64 j ∧ Hf w wr hb (bvH (fil n p y j) f s p m) 100 (fun k => k < w.heap.size)) (fun ii _ => m - (intOf ii).toNat)
  case atStart => exact ⟨0, Nat.zero_le _, rfl, Q6.out⟩
  case round =>
    obtain ⟨j, hj, rfl, q⟩ := hrel
    clear Q6
    have w1 := bv_succ hj HM.out
    by_cases hlt : j < m
    · have cs := C5.out wr hb j hlt q
      have j1 := bv_lt hlt
      clear q C5 C6 C7
      generalize hbs : fil n p y (j + 1) = bs1 at *
      have HBS := hid hbs
      clear hbs
      generalize intW (y : Int) = IY at *
      go_wp2_with (go_at_call 10; (with_reducible refine cs.mono ?_); rintro e w2 ⟨rfl, q2⟩; clear cs)
      go_roundw
      case rel => exact ⟨j + 1, hlt, by go_num, by rw [HBS.out]; exact q2⟩
      case measure => exact bv_meas hlt
    · have he : j = m := Nat.le_antisymm hj (Nat.not_lt.1 hlt)
      rw [he] at q
      have j1 := bv_nlt hlt
      have Q := hid q
      clear q C5 he
      go_wp2
      go_loopw [24, 25, 26, 27] (fun ii _ _ _ wr2 => ∃ l : Nat, l ≤ n ∧ ii = .int .i64 l ∧ Hf w wr2 hb (bvH (fil n p y m) f s p m) 100 (fun k => k < w.heap.size)) (fun ii _ _ _ _ => n - (intOf ii).toNat)
      case atStart => exact ⟨0, Nat.zero_le _, rfl, Q.out⟩
      case round =>
        obtain ⟨l, hl, rfl, q⟩ := hrel
        clear Q
        have w2 := bv_succ hl HN.out
        by_cases hln : l < n
        · have cl := C6.out _ hb l hln q
          have l1 := bv_lt hln
          clear q C6 C7
          generalize bvH (fil n p y m) f s p m = HH at *
          by_cases c1 : p ≤ l
          · by_cases c2 : l < p + m
            · rw [if_pos ⟨c1, c2⟩] at cl
              generalize intW (y : Int) = IY at *
              generalize p + m = pm at *
              go_wp2_with (go_at_call 11; (with_reducible refine cl.mono ?_); rintro e w3 ⟨rfl, q3⟩; clear cl)
              go_roundw
              case rel => exact ⟨l + 1, hln, by go_num, q3⟩
              case measure => exact bv_meas hln
            · rw [if_neg (fun e => c2 e.2)] at cl
              generalize intW (y : Int) = IY at *
              generalize p + m = pm at *
              go_wp2_with (go_at_call 11; (with_reducible refine cl.mono ?_); rintro e w3 ⟨rfl, q3⟩; clear cl)
              go_roundw
              case rel => exact ⟨l + 1, hln, by go_num, q3⟩
              case measure => exact bv_meas hln
          · rw [if_neg (fun e => c1 e.1)] at cl
            generalize intW (y : Int) = IY at *
            generalize p + m = pm at *
            go_wp2_with (go_at_call 11; (with_reducible refine cl.mono ?_); rintro e w3 ⟨rfl, q3⟩; clear cl)
            go_roundw
            case rel => exact ⟨l + 1, hln, by go_num, q3⟩
            case measure => exact bv_meas hln
        · have l1 := bv_nlt hln
          have c7 := C7.out _ hb _ q
          have HB := hid q.bel
          clear q C6 C7
          go_wp2_with (first | (go_at_call 17; (with_reducible refine c7.mono ?_); rintro e w3 ⟨rfl, hB3⟩; clear c7; (have HB3 := hid hB3); clear hB3) | (go_at_call 14; (with_reducible refine (awake9_c _).mono ?_); rintro e w4 ⟨rfl, hB4⟩; (have HB4 := hid hB4); clear hB4))
          go_ret
          have hx := HB.out.trans (HB3.out.mono HB.out.size)
          exact ⟨rfl, hx.trans (HB4.out.mono hx.size)⟩
end Go.Proofs.YtenpopelbmeemaaGreat.W
