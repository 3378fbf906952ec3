import Derived.Test.YtfooijjfjmpigaaGreatDoorKL
/- TreeKids: the walk. -/
namespace Go.Proofs.YtfooijjfjmpigaaGreatDoor.W.Tr
open Go.ChangeShapes Go.WideShapes Go.RowKit Go.Shelf
set_option linter.unusedVariables false
set_option linter.unusedSimpArgs false
/-- along a node's kids: j of them have been met -/
structure Kj (w W4 : World) (lb mb xb gl lc nb lo sb : Nat) (kv : Value) (L : List (Nd × Nat)) (f : Fo) (i : Nat) (pl : List Nat) (j : Nat) (D : Nat → Prop) (W : World) : Prop where
  q : Kq w W lb mb xb gl lc L (fun k => metK f i k + (pl.take j).count k)
  nbx : W.heap[nb]? = some (.cells #[.int .i64 (j : Nat)] 3 (0, 0))
  lst : W.heap[nb + 1]? = some (.cells #[.int .i64 ((if j = 0 then i else pl.getD (j - 1) 0 : Nat) : Int)] 3 (0, 0))
  dd : ∀ k, D k ↔ k = mb ∨ k = nb ∨ k = nb + 1
  box : W.heap[sb]? = some (.cells #[kv] 38 (0, 0))
  kr : OI W lo kv pl
  kb : ∀ k, kv.ownBlock = some k → k < sb
  o1 : lb < nb ∧ mb < nb ∧ xb < nb ∧ gl < nb ∧ w.heap.size < nb
  o2 : nb + 2 = lo
  o3 : lo ≤ sb
  lt : sb + 1 = W4.heap.size
  sz : W4.heap.size ≤ W.heap.size
  keep : ∀ k : Nat, W4.heap[k]? = some (.deferred (some [])) → W.heap[k]? = some (.deferred (some []))
theorem Kj.upd {w W4 W W' : World} {lb mb xb gl lc nb lo sb i j : Nat} {kv : Value} {L : List (Nd × Nat)} {f : Fo} {pl : List Nat} {D : Nat → Prop} (h : Kj w W4 lb mb xb gl lc nb lo sb kv L f i pl j D W) (hu : It.Upd (fun k => k = W4.heap.size + 1) W W') : Kj w W4 lb mb xb gl lc nb lo sb kv L f i pl j D W' := by
  obtain ⟨a1, a2, a3, a4, a5⟩ := h.o1
  have := h.o2
  have := h.o3
  have := h.lt
  have := h.sz
  refine ⟨h.q.keep hu (fun k e => ⟨by omega, by omega, by omega, by omega, by omega⟩), (hu.block _ (by omega) (by omega)).trans h.nbx, (hu.block _ (by omega) (by omega)).trans h.lst, h.dd, (hu.block _ (by omega) (by omega)).trans h.box, owns_onX h.kr (fun k e => hu.block k (by have := h.kb k e; omega) (by have := h.kb k e; omega)), h.kb, h.o1, h.o2, h.o3, h.lt, Nat.le_trans h.sz hu.size, fun k hk => (hu.block k ?_ ?_).trans (h.keep k hk)⟩
  · exact (Array.getElem?_eq_some_iff.1 (h.keep k hk)).1
  · have := (Array.getElem?_eq_some_iff.1 hk).1; omega
theorem zip_one (t : Array Value) (p1 : Nat) (v1 : Value) : ((#[p1] : Array Tmp).zip #[v1]).foldl (fun t (p, v) => t.setIfInBounds p v) t = t.setIfInBounds p1 v1 := by
  simp
theorem take_cnt (pl : List Nat) (j k : Nat) (hj : j < pl.length) : (pl.take (j + 1)).count k = (pl.take j).count k + (if k = pl.getD j 0 then 1 else 0) := by
  rw [List.take_succ_eq_append_getElem hj, List.count_append, List.getD_eq_getElem?_getD, List.getElem?_eq_getElem hj]
  simp only [Option.getD_some, List.count_cons, List.count_nil, Nat.zero_add]
  by_cases h : k = pl[j]
  · rw [if_pos h, h]; simp
  · rw [if_neg h]
    have : ¬ pl[j] = k := fun e => h e.symm
    simp [this]
set_option maxRecDepth 100000 in
set_option maxHeartbeats 4000000 in
theorem kids_good (src : ByteArray) (hs : ¬ 6000 < src.size) (f : Fo) (s' : Cs) (hE : Ends src.data.toList (.ok (f, s'))) (w : World) (ht : Tabs w) (hm : MarksIn w) : Calls Tryz.prog 7 #[.string src] w fun e w' => e = .returned (.bool true) ∧ Below w.heap.size w w' := by
  obtain ⟨nd, md, hf⟩ : ∃ nd m, f = Fo.one nd m := by obtain ⟨n, h⟩ := hE; exact pg_form' n _ _ _ _ h
  obtain ⟨L, hL⟩ : ∃ L, rowF f = L := ⟨_, rfl⟩
  have hfew := hE.few
  have hpos : 0 < L.length := by rw [← hL, hf]; simp [Fo.one, rowF]
  have hkl := kids_le f
  rw [hL] at hfew hkl
  have hK : ∀ p ∈ L, p.2 ≤ 1000000 := fun p hp => by have := hkl p hp; omega
  have j1 : ¬ ((src.size : Nat) : Int) > 6000 := by omega
  have b1 : Below w.heap.size w (w.alloc (.cells #[.bool false] 4)) := (Below.refl _ w).alloc (Nat.le_refl _) _
  have hn := World.alloc_heap_new w (.cells #[.bool false] 4)
  have cp := parse_good src (by omega) _ (ht.below b1) (hm.below b1) hE
  rw [hL] at cp
  have cp2 : Calls Tryz.prog 8 #[.string src] (w.alloc (.cells #[.bool false] 4)) fun e w' => ∃ g cap, e = .returned (.tuple #[.slice (some ⟨g, 0, none⟩) L.length cap, .agg #[.int .i64 0, .int .i64 0]]) ∧ Below (w.alloc (.cells #[.bool false] 4)).heap.size (w.alloc (.cells #[.bool false] 4)) w' ∧ w.heap.size + 1 ≤ g ∧ g < w'.heap.size ∧ NR w' (.slice (some ⟨g, 0, none⟩) L.length cap) L ∧ ∃ cur, w'.heap[g]? = some (.cells cur 44 (0, 0)) := by
    refine cp.mono ?_
    rintro e w' ⟨r, rfl, hB, ho⟩
    have hnr := nr_of ho hpos (by omega)
    obtain ⟨g, cap, rfl, _⟩ := id hnr
    obtain ⟨h1, h2⟩ := ho.lt g rfl
    exact ⟨g, cap, rfl, hB, by simpa using h1, h2, hnr, own_kind ho rfl⟩
  have HT := hid ht
  have HM := hid hm
  have HK := hid hK
  have HLr := hid hL
  have HF := hid hf
  clear hE ht hm hs cp hkl hK hL hf
  refine (callsIn_wide (n := 9)).1 ?_
  refine callsIn_of_wp_marks Tryz.func7 rfl trivial ?_ rfl
  refine wpIn_wide.2 ?_
  simp only [Tryz.ntmps7, List.size_toArray, List.length_cons, List.length_nil, Nat.reduceAdd, Nat.reduceSub, Array.replicate_succ, Array.replicate_zero, List.push_toArray, List.append_toArray, List.nil_append, List.cons_append]
  go_upto_region 6 with (go_at_call 8; (with_reducible refine cp2.mono ?_); rintro e w2 ⟨gl, lc, rfl, hB2, hg1, hg2, hnr, cur, hcur⟩; clear cp2)
  have b3 : Below w2.heap.size w2 ((w2.alloc (.cells #[.slice (some ⟨gl, 0, none⟩) L.length lc] 22)).alloc (.cells #[.int .i64 0, .int .i64 0] 25)) := ((Below.refl _ w2).alloc (Nat.le_refl _) _).alloc (by simp) _
  have hl3 := World.alloc_heap_new w2 (.cells #[.slice (some ⟨gl, 0, none⟩) L.length lc] 22)
  have hl4 := (Below.heap_alloc (w2.alloc (.cells #[.slice (some ⟨gl, 0, none⟩) L.length lc] 22)) (.cells #[.int .i64 0, .int .i64 0] 25) w2.heap.size (by simp)).trans hl3
  have hB3 := b1.trans ((hB2.trans (b3.mono hB2.size)).mono b1.size)
  have hr3 := row_keepX (row_keepX hn hB2) b3
  have hc3 := row_keepX hcur b3
  have hn3 := nr_keep hnr hcur hc3
  have hsz3 : w.heap.size + 1 ≤ w2.heap.size := by have := hB2.size; simp at this; omega
  have hsz4 : ((w2.alloc (.cells #[.slice (some ⟨gl, 0, none⟩) L.length lc] 22)).alloc (.cells #[.int .i64 0, .int .i64 0] 25)).heap.size = w2.heap.size + 2 := by simp
  generalize hlb : w2.heap.size = lb at *
  generalize World.alloc (World.alloc w2 _) _ = W3 at *
  have cl : W3.cell? ⟨lb, 0, none⟩ = some (.slice (some ⟨gl, 0, none⟩) L.length lc) := row_cellsX hl4 0
  obtain ⟨W4, hmk, hrow4, hB4⟩ := make_met W3 L.length (by omega)
  have q5 : Kq w (W4.alloc (.cells #[.slice (some ⟨W3.heap.size, 0, none⟩) L.length L.length] 38)) lb W3.heap.size W4.heap.size gl lc L (fun _ => 0) := by
    have b5 : Below W4.heap.size W4 (W4.alloc (.cells #[.slice (some ⟨W3.heap.size, 0, none⟩) L.length L.length] 38)) := (Below.refl _ W4).alloc (Nat.le_refl _) _
    have b45 := hB4.trans (b5.mono hB4.size)
    have s4 := hB4.size
    exact ⟨hB3.trans (b45.mono hB3.size), row_keepX hr3 b45, row_keepX hl4 b45, nr_keep hn3 hc3 (row_keepX hc3 b45), ⟨_, row_keepX hc3 b45⟩, World.alloc_heap_new W4 _, row_keepX hrow4 b5, by omega, by omega, by omega, by omega⟩
  have hxm : W3.heap.size < W4.heap.size := (Array.getElem?_eq_some_iff.1 hrow4).1
  have hord : lb < W3.heap.size ∧ gl < lb := by omega
  clear b1 hn hB2 hg2 hnr hcur b3 hl3 hl4 hB3 hr3 hc3 hn3 hrow4 hB4 hsz4
  go_upto_region 8 with fail
  generalize World.alloc W4 _ = W5 at *
  generalize W3.heap.size = mb at *
  generalize W4.heap.size = xb at *
  clear cl hmk
  refine wp_loop (fun a' w' => (a'.tmps.size = 89 ∧ a'.tmps.getD 2 undef = .pointer (some ⟨w.heap.size, 0, none⟩) ∧ a'.tmps.getD 3 undef = .pointer (some ⟨lb, 0, none⟩) ∧ a'.tmps.getD 5 undef = .pointer (some ⟨xb, 0, none⟩)) ∧ Marks w.heap.size w' a'.defers ∧ ∃ i : Nat, a'.tmps.getD 6 undef = .int .i64 (i : Nat) ∧ i ≤ L.length ∧ Kq w w' lb mb xb gl lc L (metK f i)) (fun a' _ => L.length - (intOf (a'.tmps.getD 6 undef)).toNat) ?_ ?_
  · refine ⟨⟨rfl, rfl, rfl, rfl⟩, trivial, 0, rfl, Nat.zero_le _, ?_⟩
    have e : (fun _ : Nat => 0) = metK f 0 := by funext k; simp [metK]
    rw [← e]
    exact q5
  clear q5
  rintro ⟨t, ds⟩ wr ⟨⟨hs, h2, h3, h5⟩, hM, i, h6, hi, q⟩
  simp only at hs h2 h3 h5 h6 hM ⊢
  obtain ⟨uu, rfl⟩ := kact_of t hs h2 h3 h5 h6
  clear hs h2 h3 h5 h6
  unfold kact
  have cl : wr.cell? ⟨lb, 0, none⟩ = some (.slice (some ⟨gl, 0, none⟩) L.length lc) := row_cellsX q.lbox 0
  have j2 : (0 : Int) ≤ (i : Nat) := by omega
  have HQ := hid q
  have HMk := hid hM
  by_cases hlt : i < L.length
  case neg =>
    have hie : i = L.length := by omega
    have j3 : ¬ ((i : Nat) : Int) < L.length := by omega
    have cx : wr.cell? ⟨xb, 0, none⟩ = some (.slice (some ⟨mb, 0, none⟩) L.length L.length) := row_cellsX q.mbox 0
    have CM : Hid (∀ k, k < L.length → wr.cell? ⟨mb, k, none⟩ = some (.int .i64 ((if 0 < k then 1 else 0 : Nat) : Int))) := by
      intro k hk
      have e := metK_all nd md k (by rw [← HF.out, HLr.out]; exact hk)
      rw [← HF.out, HLr.out, ← hie] at e
      rw [row_cellsX HQ.out.mrow k, metV_at _ _ _ hk, e]
    have k5 : ((L.length : Nat) : Int) > 0 := by omega
    clear q hM
    go_upto_region 22 with fail
    go_loopw [10] (fun kv wr' => ∃ k : Nat, k ≤ L.length ∧ kv = .int .i64 (k : Nat) ∧ wr' = wr) (fun kv _ => L.length - (intOf kv).toNat)
    case atStart => exact ⟨0, Nat.zero_le _, rfl, rfl⟩
    case round =>
      obtain ⟨k, hk, rfl, hw⟩ := hrel
      have hw' := hw.symm
      subst hw'
      clear hw
      by_cases hkl : k < L.length
      · have c1 := CM.out k hkl
        have k1 : ((k : Nat) : Int) < L.length := by omega
        have k2 : (0 : Int) ≤ (k : Nat) := by omega
        have k3 : IntKind.i64.wrap ((k : Int) + 1) = ((k + 1 : Nat) : Int) := by rw [IntKind.wrap_i64]; omega
        by_cases hk0 : 0 < k
        · rw [if_pos hk0] at c1
          have k4 : ((k : Nat) : Int) > 0 := by omega
          go_wp2_with fail
          go_roundw
          case rel => exact ⟨k + 1, by omega, by first | rfl | go_num, trivial⟩
          case measure => show L.length - ((k + 1 : Nat) : Int).toNat < L.length - (k : Int).toNat; omega
        · rw [if_neg hk0] at c1
          have k4 : ¬ ((k : Nat) : Int) > 0 := by omega
          go_wp2_with fail
          go_roundw
          case rel => exact ⟨k + 1, by omega, by first | rfl | go_num, trivial⟩
          case measure => show L.length - ((k + 1 : Nat) : Int).toNat < L.length - (k : Int).toNat; omega
      · have k1 : ¬ ((k : Nat) : Int) < L.length := by omega
        have ca := awake12_c wr (HT.out.below HQ.out.bel) (HM.out.below HQ.out.bel)
        go_wp2_with (go_at_call 9; (with_reducible refine ca.mono ?_); rintro e w9 ⟨rfl, hB9⟩; (have f9 := row_keepX HQ.out.res hB9); (have c9 := row_cellsX f9 0); (have z9 := row_thawX f9 0); simp only [List.getElem?_toArray, List.getElem?_cons_zero] at c9; (have HB9 := hid (HQ.out.bel.trans (hB9.mono HQ.out.bel.size))); (have HS9 := hid (heap_setX (c := [.bool false]) f9 0 (.bool true))); (have HM9 : Hid (Marks w.heap.size (w9.setCell ⟨w.heap.size, 0, none⟩ (.bool true)) ds) := hid (Marks.kept (fun k _ hk => by (refine Below.heap_setCell _ _ _ _ ?_; rintro rfl; rw [f9] at hk; cases hk)) ds (Marks.kept (fun k _ hk => hB9.block k (Array.getElem?_eq_some_iff.1 hk).1) ds HMk.out))); clear hB9 f9 ca)
        refine marks_leave ds _ HM9.out (fun w' hu => ?_)
        have hc : w'.heap[w.heap.size]? = some (.cells #[.bool true] 4 (0, 0)) := (hu.block w.heap.size (Array.getElem?_eq_some_iff.1 HS9.out).1 (by rintro ⟨_, e⟩; rw [HS9.out] at e; cases e)).trans HS9.out
        refine ⟨.bool true, bool_ret Tryz.results7 _ _ w.heap.size (.bool true) (by simp) (row_cellsX hc 0), rfl, ?_⟩
        have hb10 := HB9.out.setCell (p := ⟨w.heap.size, 0, none⟩) (Nat.le_refl _) (.bool true)
        exact hb10.trans (hu.below hb10.size (fun k e => e.1))
  have j3 : ((i : Nat) : Int) < L.length := by omega
  have j4 : IntKind.i64.wrap ((i : Int) + 1) = ((i + 1 : Nat) : Int) := by rw [IntKind.wrap_i64]; omega
  obtain ⟨A, n, ks, R, hrow, hA, hkl⟩ := row_kl f 0 i (by rw [HLr.out]; exact hlt)
  rw [HLr.out] at hrow
  rw [Nat.zero_add] at hkl
  have hlen : i + 1 + (rowF ks).length + R.length = L.length := by rw [← hA, hrow]; simp; omega
  have hat : L[i]? = some (n, ks.len) := by rw [hrow, ← hA, List.getElem?_append_right (Nat.le_refl _)]; simp
  have HA := hid hA
  have HRow := hid hrow
  have HKl := hid hkl
  have HAt := hid hat
  clear hA hrow hkl hat hM
  go_upto_region 12 with fail
  have b2 : Below wr.heap.size wr ((wr.alloc (.cells #[.int .i64 0] 3)).alloc (.cells #[.int .i64 (i : Nat)] 3)) := ((Below.refl _ wr).alloc (Nat.le_refl _) _).alloc (by simp) _
  have n2 := (Below.heap_alloc (wr.alloc (.cells #[.int .i64 0] 3)) (.cells #[.int .i64 (i : Nat)] 3) wr.heap.size (by simp)).trans (World.alloc_heap_new wr (.cells #[.int .i64 0] 3))
  have l2 := World.alloc_heap_new (wr.alloc (.cells #[.int .i64 0] 3)) (.cells #[.int .i64 (i : Nat)] 3)
  rw [World.size_alloc] at l2
  have q2 := q.below b2
  have m2 : Marks w.heap.size ((wr.alloc (.cells #[.int .i64 0] 3)).alloc (.cells #[.int .i64 (i : Nat)] 3)) ds := Marks.kept (fun k _ hk => b2.block k (Array.getElem?_eq_some_iff.1 hk).1) ds HMk.out
  have sz2 : ((wr.alloc (.cells #[.int .i64 0] 3)).alloc (.cells #[.int .i64 (i : Nat)] 3)).heap.size = wr.heap.size + 2 := by simp
  have ord2 := q.lt
  generalize World.alloc (World.alloc wr _) _ = W2 at *
  generalize wr.heap.size = nb at *
  have cl2 : W2.cell? ⟨lb, 0, none⟩ = some (.slice (some ⟨gl, 0, none⟩) L.length lc) := row_cellsX q2.lbox 0
  have ck := kidsF_c W2 gl lc L q2.lrow q2.lt.2.2.1 HK.out A n ks R HRow.out
  rw [HA.out] at ck
  have hplen : (plF ks (i + 1)).length = ks.len := plF_len ks (i + 1)
  have HP : Hid (∀ k ∈ plF ks (i + 1), i + 1 ≤ k ∧ k < L.length) := hid (fun k hk => by have := plF_in ks _ k hk; omega)
  have HRi := hid (plF_rise ks (i + 1))
  have hksl := len_rowF ks
  generalize plF ks (i + 1) = pl at *
  have HQ2 := hid q2
  have HN2 := hid n2
  have HL2 := hid l2
  have HM2 := hid m2
  have HS2 := hid sz2
  clear cl q q2 n2 l2 m2 b2 HQ HMk sz2
  go_wp2_with (go_at_call 15; (with_reducible refine ck.mono ?_); rintro e W4 ⟨sb, kv, rfl, hB4, hbox, hkr, hlo, hsb, hkb⟩; clear ck)
  have q4 := HQ2.out.below hB4
  have n4 := row_keepX HN2.out hB4
  have l4 := row_keepX HL2.out hB4
  have m4 : Marks w.heap.size W4 ds := Marks.kept (fun k _ hk => hB4.block k (Array.getElem?_eq_some_iff.1 hk).1) ds HM2.out
  rw [HS2.out] at hkr hlo
  have k0 : Kj w W4 lb mb xb gl lc nb (nb + 2) sb kv L f i pl 0 (fun k => k = mb ∨ k = nb ∨ k = nb + 1) W4 :=
    ⟨by simpa using q4, n4, l4, fun k => Iff.rfl, hbox, hkr, hkb, ⟨ord2.2.1, ord2.2.2.2.2, ord2.2.2.2.1, ord2.2.2.1, ord2.1⟩, rfl, hlo, hsb, Nat.le_refl _, fun k hk => hk⟩
  have hbl : pl.length ≤ 2000000 := by omega
  have HK0 := hid k0
  have HM4 := hid m4
  clear q4 n4 l4 m4 k0 hbox hkr hB4 HQ2 HN2 HL2 HM2 HS2 cl2 hkb
  refine iterD_law (kids_iter sb (nb + 2) kv pl hbl) eg_kids rfl (Kj w W4 lb mb xb gl lc nb (nb + 2) sb kv L f i pl) (fun _ _ => False) ?hL ?hI ?hIx _ HK0.out ?A ?hsz ?assign ?body ?done ?stop
  case assign =>
    intro L' j hj W K hK
    rw [kidV_at]
    simp only [zip_one, List.setIfInBounds_toArray, List.set_cons_succ, List.set_cons_zero]
    gi_wp2_with (simp only [Oper.semAt]; go_simp)
    exact hK
  case hL =>
    intro j D W h
    refine ⟨⟨row_cellsX h.box 0, h.kr⟩, fun k hk => ?_⟩
    have := h.o1
    have := h.o2
    have := h.o3
    have := h.lt
    have := h.sz
    rcases (h.dd k).1 hk with rfl | rfl | rfl <;> omega
  case hI => intro j D W W' h hu; exact h.upd hu
  case hIx => intro c W W' h; exact h.elim
  case hsz => intro j hj; rw [kidV_at]; rfl
  case stop => intro c W h; exact h.elim
  case done =>
    intro D W h hD
    rw [kidV_len] at h
    have hM9 : Marks w.heap.size W ({ target := .collected W4.heap.size, args := #[] } :: ds) := by
      refine ⟨⟨_, rfl, by omega, hD, ?_⟩, Marks.kept (fun k _ hk => (h.keep k hk).trans hk.symm) ds HM4.out⟩
      intro d hd e
      obtain ⟨r, h1, h2⟩ := Marks.lt' ds HM4.out d hd
      rw [h1] at e
      injection e with e1 _
      injection e1 with e1
      omega
    have hq : Kq w W lb mb xb gl lc L (metK f (i + 1)) := by
      have e : (fun k => metK f i k + (pl.take pl.length).count k) = metK f (i + 1) := by
        funext k
        rw [List.take_of_length_le (Nat.le_refl _), metK_succ f i k pl HKl.out]
      rw [← e]
      exact h.q
    have c0 : W.cell? ⟨nb, 0, none⟩ = some (.int .i64 (pl.length : Nat)) := row_cellsX h.nbx 0
    have c1 : W.cell? ⟨lb, 0, none⟩ = some (.slice (some ⟨gl, 0, none⟩) L.length lc) := row_cellsX hq.lbox 0
    obtain ⟨-, -, c2, -, -, -⟩ := nr_cells hq.lrow i _ HAt.out
    simp only at c2
    rw [← hplen] at c2
    have H9 := hid (And.intro hM9 hq)
    have inst : Nonempty (BW W) := ⟨⟨_, Below.refl _ _⟩⟩
    have f0 := BW.cell c0
    have f1 := BW.cell c1
    have f2 := BW.cell c2
    clear hM9 hq h HK0 hD c0 c1 c2
    go_upto_region 19 with fail
    refine wp_region_quiet_below (by kernel_rfl) (by kernel_rfl) ?_
    repeat (go_big_quiet_step (fail))
    refine wpQuiet_nil ?_
    intro _ hw'
    obtain ⟨pw, hw''⟩ := hw'
    subst hw''
    clear f0 f1 f2 inst
    go_wp2
    obtain ⟨hM9, hq⟩ := H9.out
    refine ⟨⟨⟨rfl, rfl, rfl, rfl⟩, Marks.kept (fun k _ hk => pw.h.block k (Array.getElem?_eq_some_iff.1 hk).1) _ hM9, i + 1, rfl, by omega, hq.below pw.h⟩, ?_⟩
    show L.length - ((i + 1 : Nat) : Int).toNat < L.length - (i : Int).toNat
    omega
  case body =>
    intro L' j hj D W hLe h hs hlp
    subst hLe
    rw [kidV_len] at hj
    have hmem : pl.getD j 0 ∈ pl := by
      rw [List.getD_eq_getElem?_getD, List.getElem?_eq_getElem hj]
      exact List.getElem_mem _
    obtain ⟨hk1, hk2⟩ := HP.out _ hmem
    obtain ⟨lv, hlv⟩ : ∃ lv, lv = (if j = 0 then i else pl.getD (j - 1) 0) := ⟨_, rfl⟩
    have hlk : lv < pl.getD j 0 := by
      rw [hlv]
      split
      · omega
      · have := HRi.out (j - 1) (by omega)
        rw [show j - 1 + 1 = j by omega] at this
        exact this
    have hlst := h.lst
    rw [← hlv] at hlst
    have hcb : metK f i (pl.getD j 0) + (pl.take j).count (pl.getD j 0) ≤ 1000000 := by
      have h1 := metK_le f i (pl.getD j 0)
      have h2 : (pl.take j).count (pl.getD j 0) ≤ (pl.take j).length := List.count_le_length
      rw [List.length_take] at h2
      omega
    have ecnt : (fun x => (metK f i x + (pl.take j).count x) + if x = pl.getD j 0 then 1 else 0) = fun x => metK f i x + (pl.take (j + 1)).count x := by
      funext x
      rw [take_cnt pl j x hj]
      omega
    have hqm := h.q.met (pl.getD j 0) hk2
    have cm := row_cellsX h.q.mrow (pl.getD j 0)
    rw [metV_at _ _ _ hk2] at cm
    have zm := row_thawX h.q.mrow (pl.getD j 0)
    rw [ecnt] at hqm
    generalize hc : metK f i (pl.getD j 0) + (pl.take j).count (pl.getD j 0) = c at *
    generalize hk : pl.getD j 0 = k at *
    rw [show ((c + 1 : Nat) : Int) = (c : Int) + 1 by omega] at hqm
    obtain ⟨a1, a2, a3, a4, a5⟩ := h.o1
    have o3 := h.o3
    have olt := h.lt
    have osz := h.sz
    have f1 : (W.setCell ⟨mb, k, none⟩ (.int .i64 ((c : Int) + 1))).heap[nb + 1]? = some (.cells #[.int .i64 (lv : Nat)] 3 (0, 0)) := (Below.heap_setCell _ _ _ _ (by show nb + 1 ≠ mb; omega)).trans hlst
    have f2 := heap_setX (c := [.int .i64 (lv : Nat)]) f1 0 (.int .i64 (k : Nat))
    have g1 : (W.setCell ⟨mb, k, none⟩ (.int .i64 ((c : Int) + 1))).heap[nb]? = some (.cells #[.int .i64 (j : Nat)] 3 (0, 0)) := (Below.heap_setCell _ _ _ _ (by show nb ≠ mb; omega)).trans h.nbx
    have g2 : ((W.setCell ⟨mb, k, none⟩ (.int .i64 ((c : Int) + 1))).setCell ⟨nb + 1, 0, none⟩ (.int .i64 (k : Nat))).heap[nb]? = some (.cells #[.int .i64 (j : Nat)] 3 (0, 0)) := (Below.heap_setCell _ _ _ _ (by show nb ≠ nb + 1; omega)).trans g1
    have g3 := heap_setX (c := [.int .i64 (j : Nat)]) g2 0 (.int .i64 ((j : Int) + 1))
    have f3 : (((W.setCell ⟨mb, k, none⟩ (.int .i64 ((c : Int) + 1))).setCell ⟨nb + 1, 0, none⟩ (.int .i64 (k : Nat))).setCell ⟨nb, 0, none⟩ (.int .i64 ((j : Int) + 1))).heap[nb + 1]? = some (.cells #[.int .i64 (k : Nat)] 3 (0, 0)) := (Below.heap_setCell _ _ _ _ (by show nb + 1 ≠ nb; omega)).trans f2
    have hU : It.Upd (fun x => x = mb ∨ x = nb ∨ x = nb + 1) W (((W.setCell ⟨mb, k, none⟩ (.int .i64 ((c : Int) + 1))).setCell ⟨nb + 1, 0, none⟩ (.int .i64 (k : Nat))).setCell ⟨nb, 0, none⟩ (.int .i64 ((j : Int) + 1))) := (((It.Upd.refl (fun x => x = mb ∨ x = nb ∨ x = nb + 1) W).setCell (p := ⟨mb, k, none⟩) (.inl (.inl rfl)) _).setCell (p := ⟨nb + 1, 0, none⟩) (.inl (.inr (.inr rfl))) _).setCell (p := ⟨nb, 0, none⟩) (.inl (.inr (.inl rfl))) _
    have hqn : Kq w (((W.setCell ⟨mb, k, none⟩ (.int .i64 ((c : Int) + 1))).setCell ⟨nb + 1, 0, none⟩ (.int .i64 (k : Nat))).setCell ⟨nb, 0, none⟩ (.int .i64 ((j : Int) + 1))) lb mb xb gl lc L (fun x => metK f i x + (pl.take (j + 1)).count x) :=
      hqm.keep (((It.Upd.refl (fun x => x = nb ∨ x = nb + 1) _).setCell (p := ⟨nb + 1, 0, none⟩) (.inl (.inr rfl)) _).setCell (p := ⟨nb, 0, none⟩) (.inl (.inl rfl)) _) (fun x e => by rcases e with rfl | rfl <;> exact ⟨by omega, by omega, by omega, by omega, by omega⟩)
    have fin : Hid (rndWayD (W4.heap.size + 1) W4.heap.size D W (fun W' => ∃ D', Kj w W4 lb mb xb gl lc nb (nb + 2) sb kv L f i pl (j + 1) D' W') (fun _ _ => False) .normal { tmps := #[], defers := [] } (((W.setCell ⟨mb, k, none⟩ (.int .i64 ((c : Int) + 1))).setCell ⟨nb + 1, 0, none⟩ (.int .i64 (k : Nat))).setCell ⟨nb, 0, none⟩ (.int .i64 ((j : Int) + 1)))) := by
      refine ⟨⟨hU.block _ (by omega) (by omega), hU.block _ (by omega) (by omega)⟩, fun x hx1 hx2 => hU.block x hx1 (fun e => hx2 ((h.dd x).2 e)), D, ?_⟩
      refine ⟨hqn, by rw [show ((j + 1 : Nat) : Int) = (j : Int) + 1 by omega]; exact g3, ?_, h.dd, (hU.block _ (by omega) (by omega)).trans h.box, owns_onX h.kr (fun x e => hU.block x (by have := h.kb x e; omega) (by have := (h.kr.lt x e).1; omega)), h.kb, h.o1, h.o2, h.o3, h.lt, Nat.le_trans h.sz hU.size, fun x hx => (hU.block x (Array.getElem?_eq_some_iff.1 (h.keep x hx)).1 ?_).trans (h.keep x hx)⟩
      · rw [if_neg (by omega), show j + 1 - 1 = j by omega, hk]
        exact f3
      · rintro (e | e | e)
        · have := h.keep x hx
          rw [e, h.q.mrow] at this; cases this
        · have := h.keep x hx
          rw [e, h.nbx] at this; cases this
        · have := h.keep x hx
          rw [e, h.lst] at this; cases this
    have cl : W.cell? ⟨lb, 0, none⟩ = some (.slice (some ⟨gl, 0, none⟩) L.length lc) := row_cellsX h.q.lbox 0
    have cx : W.cell? ⟨xb, 0, none⟩ = some (.slice (some ⟨mb, 0, none⟩) L.length L.length) := row_cellsX h.q.mbox 0
    have cw : W.cell? ⟨nb + 1, 0, none⟩ = some (.int .i64 (lv : Nat)) := row_cellsX hlst 0
    have d1 : (W.setCell ⟨mb, k, none⟩ (.int .i64 ((c : Int) + 1))).cell? ⟨nb + 1, 0, none⟩ = some (.int .i64 (lv : Nat)) := row_cellsX f1 0
    have z1 := row_thawX f1 0
    have d2 : ((W.setCell ⟨mb, k, none⟩ (.int .i64 ((c : Int) + 1))).setCell ⟨nb + 1, 0, none⟩ (.int .i64 (k : Nat))).cell? ⟨nb, 0, none⟩ = some (.int .i64 (j : Nat)) := row_cellsX g2 0
    have z2 := row_thawX g2 0
    have e1 : ¬ ((k : Nat) : Int) ≤ (lv : Nat) := by omega
    have e2 : ¬ ((k : Nat) : Int) ≥ L.length := by omega
    have e3 : (0 : Int) ≤ (k : Nat) := by omega
    have e4 : ((k : Nat) : Int) < L.length := by omega
    have e5 : IntKind.i64.wrap ((c : Int) + 1) = (c : Int) + 1 := by rw [IntKind.wrap_i64]; omega
    have e6 : IntKind.i64.wrap ((j : Int) + 1) = (j : Int) + 1 := by rw [IntKind.wrap_i64]; omega
    clear hlst hqm hqn hU f1 f2 f3 g1 g2 g3 h hmem hk1 hk2 hlv hlk hcb ecnt hc hk
    gi_wp2_with (simp only [Oper.semAt]; go_simp)
    exact fin.out
end Go.Proofs.YtfooijjfjmpigaaGreatDoor.W.Tr
namespace Go.Proofs.YtfooijjfjmpigaaGreatDoor.W
set_option linter.unusedVariables false
open Go.ChangeShapes Go.WideShapes Go.RowKit Go.Shelf
theorem treeKids_walk (src : ByteArray) (w0 : src.size ≤ maxLen) (w : World) (ht : Tabs w) (hm : MarksIn w) : Calls Tryz.prog 7 #[.string src] w fun e w' => e = .returned (.bool true) ∧ Below w.heap.size w w' := by
  by_cases h : 6000 < src.size
  · exact Tr.kids_long src h w
  obtain ⟨r, hr⟩ := Tr.ends src.data.toList
  cases r with
  | error f => exact Tr.kids_bad src h f hr w ht hm
  | ok p =>
    obtain ⟨f, s'⟩ := p
    exact Tr.kids_good src h f s' hr w ht hm
end Go.Proofs.YtfooijjfjmpigaaGreatDoor.W
