import Derived.Test.YtdafcfmbnlgbfaaS7bJ
import Derived.Test.YtdafcfmbnlgbfaaHkDJ
/- Package store: Extents. -/
namespace Go.Proofs.Ytdafcfmbnlgbfaa.W
open Go.ChangeShapes Go.WideShapes Go.RowKit Go.Shelf
set_option linter.unusedVariables false
set_option linter.unusedSimpArgs false
theorem extents_c (W : World) (sb : Nat) : Calls Try.prog 11 #[(Value.pointer (some ⟨sb, 0, none⟩))] W fun e w' => e = .returned (.func (.func 26) #[] #[.pointer (some ⟨W.heap.size, 0, none⟩)]) ∧ w' = W.alloc (.cells #[(Value.pointer (some ⟨sb, 0, none⟩))] 23) := by
  go_enter Try.func11, Try.ntmps11
  go_wp2
  go_ret
  exact ⟨rfl, rfl⟩
theorem eg_ext : ∀ args w, (callFunc 26 args).run Try.prog w = .ok (.enter 26 args) w := enters_of Try.func26 (by kernel_rfl) rfl
def noTr : Tr := ⟨0, 0, 0⟩
/-- an extent, as it is told -/
def Tr.val (t : Tr) : Array Value := #[.agg #[.int .i64 (t.i : Nat), .int .i64 (t.p : Nat), .int .i64 (t.l : Nat)]]
/-- a store that tells l -/
def Tells (W : World) (sb : Nat) (l : List Tr) : Prop := ∃ vr vb vf s E, Lay W sb vr vb vf s ∧ Fit s ∧ Good s E ∧ E.length ≤ 100000000 ∧ s.blks.length ≤ 100000000 ∧ extL s E = l
theorem extL_len {s : Sto} {E : List Ex} : (extL s E).length ≤ E.length + s.blks.length := by
  unfold extL trE zs
  rw [List.length_append, List.length_map, List.length_map]
  have := List.length_filter_le (isZ s) (List.range s.blks.length)
  rw [List.length_range] at this
  omega
set_option maxRecDepth 100000 in
set_option maxHeartbeats 2000000 in
theorem ext_iter (Bc sb : Nat) (l : List Tr) :
    IterE 26 #[.pointer (some ⟨Bc, 0, none⟩)] l.length (fun _ => true) (fun k => (l.getD k noTr).val) (fun W => W.cell? ⟨Bc, 0, none⟩ = some (Value.pointer (some ⟨sb, 0, none⟩)) ∧ Tells W sb l) := by
  intro m ll B J X hm hL hB hXB hXG hS hY D0 W hWB h0
  subst hWB
  show CallsIn Fence.wide m Try.prog 26 #[.func (.yield ll) #[] #[], .pointer (some ⟨Bc, 0, none⟩)] W _
  obtain ⟨⟨cB, vr, vb, vf, s, E, hLay, hFit, hGood, hEl, hBl, hext⟩, _, hD0⟩ := hL 0 D0 W h0
  have cl := list_c hLay hFit hGood hEl hBl
  rw [hext] at cl
  have hll : l.length ≤ 200000000 := by have := extL_len (s := s) (E := E); rw [hext] at this; omega
  have HY := hid hY
  have HL := hid hL
  have HB := hid hB
  have H0 := hid h0
  have HD0 := hid hD0
  have HLL := hid hll
  clear hY hL hB hXB hXG hS h0 hLay hFit hGood hEl hBl hext hD0 hll
  refine callsIn_of_wp Try.func26 rfl trivial ?_ rfl
  simp only [Try.ntmps26, List.size_toArray, List.length_cons, List.length_nil, Nat.reduceAdd, Nat.reduceSub, Array.replicate_succ, Array.replicate_zero, List.push_toArray, List.append_toArray, List.nil_append, List.cons_append]
  gi_wp2_with ((refine ⟨trivial, ?_⟩); gi_at_call 27; (refine (callsIn_wide.2 cl).mono ?_); rintro e w2 ⟨v, rfl, b2, own⟩; clear cl; (obtain ⟨o, cap, hv⟩ := slice_of (owns_base own (b' := 0) (fun _ _ => Nat.zero_le _))); subst hv)
  have hz2 := b2.size
  have hJ2 : J 0 D0 w2 := HB.out 0 D0 W w2 H0.out (Upd.of_below b2)
  obtain ⟨n, hn⟩ : ∃ n, l.length = n := ⟨_, rfl⟩
  rw [hn] at own ⊢
  have HN := hid hn
  have OWN := hid own
  have HGW : Hid (∀ x, (Value.slice o n cap).ownBlock = some x → x < w2.heap.size) := fun x e => (own.lt x e).2
  have HJ2 := hid hJ2
  have HZ2 := hid hz2
  clear hn own hJ2 hz2 b2 cB
  gi_loopw [4, 8] (fun _ ii wr => ∃ (k : Nat) (D : Nat → Prop), k ≤ n ∧ ii = .int .i64 k ∧ J k D wr ∧ (∀ x, D x → x < W.heap.size ∨ w2.heap.size ≤ x) ∧ wr.ownsRow W.heap.size 64 3 (.slice o n cap) n (flatT l) ∧ w2.heap.size ≤ wr.heap.size) (fun _ ii _ => n - (intOf ii).toNat)
  case atStart => exact ⟨0, D0, Nat.zero_le _, rfl, HJ2.out, fun x e => .inl (HD0.out x e), OWN.out, Nat.le_refl _⟩
  case round =>
    obtain ⟨k, D, hk, rfl, hJ, hDx, own, hzr⟩ := hrel
    clear HJ2 OWN
    by_cases hlt : k < n
    · obtain ⟨t, ht⟩ : ∃ t, l[k]? = some t := ⟨_, List.getElem?_eq_getElem (by rw [HN.out]; exact hlt)⟩
      have htd : l.getD k noTr = t := by rw [List.getD_eq_getElem?_getD, ht]; rfl
      obtain ⟨g, cap', hv, _⟩ := own_slice (owns_base own (b' := 0) (fun _ _ => Nat.zero_le _)) (by omega)
      injection hv with hv1 hv2 hv3
      subst hv1
      clear hv2 hv3
      have gl := own.lt g rfl
      have gw := HGW.out g rfl
      have hDr := (HL.out k D wr hJ).2.2
      have c0 := own.cellAt (k * 3) (by omega)
      have c1 := own.cellAt (k * 3 + 1) (by omega)
      have c2 := own.cellAt (k * 3 + 2) (by omega)
      rw [← Nat.add_zero (k * 3), flatT_get l k 0 t ht (by omega), Nat.add_zero] at c0
      rw [flatT_get l k 1 t ht (by omega)] at c1
      rw [flatT_get l k 2 t ht (by omega)] at c2
      simp only [Tr.cells, List.getElem?_cons_succ, List.getElem?_cons_zero] at c0 c1 c2
      have hmeas : n - ((k : Int) + 1).toNat < n - ((k : Int)).toNat := by omega
      have k0 : (0 : Int) ≤ k := Int.natCast_nonneg _
      have k1 : (k : Int) < n := by omega
      have wk : IntKind.i64.wrap ((k : Int) + 1) = (k : Int) + 1 := by have := HLL.out; have := HN.out; rw [IntKind.wrap_i64]; omega
      have wk2 : wrap64 ((k : Int) + 1) = (k : Int) + 1 := by have := HLL.out; have := HN.out; unfold wrap64; omega
      have bA : Below wr.heap.size wr (wr.alloc (.cells #[.int .i64 (t.i : Nat), .int .i64 (t.p : Nat), .int .i64 (t.l : Nat)] 64)) := (Below.refl _ _).alloc (Nat.le_refl _) _
      have hJA := HB.out k D wr _ hJ (Upd.of_below bA)
      have zA : (wr.alloc (.cells #[.int .i64 (t.i : Nat), .int .i64 (t.p : Nat), .int .i64 (t.l : Nat)] 64)).heap.size = wr.heap.size + 1 := World.size_alloc ..
      have hYk := HY.out k (by rw [HN.out]; exact hlt) D _ trivial hJA
      rw [htd] at hYk
      obtain ⟨fn, tmps, assign, body, hy, hR⟩ := hYk
      have fX := fun j => cell_of_row _ _ j _ _ _ (World.alloc_heap_new wr (.cells #[.int .i64 (t.i : Nat), .int .i64 (t.p : Nat), .int .i64 (t.l : Nat)] 64))
      have x0 := fX 0
      have x1 := fX 1
      have x2 := fX 2
      have ownA : (wr.alloc (.cells #[.int .i64 (t.i : Nat), .int .i64 (t.p : Nat), .int .i64 (t.l : Nat)] 64)).ownsRow W.heap.size 64 3 (.slice (some ⟨g, 0, none⟩) n cap) n (flatT l) := owns_on own (fun x e => bA.block x (own.lt x e).2)
      have KP := hid (And.intro hmeas (And.intro hDx (And.intro ownA (And.intro gl (And.intro hzr (And.intro zA (And.intro gw hDr)))))))
      have WK := hid (And.intro wk wk2)
      clear hmeas hDx own ownA gl hzr zA wk wk2 hJ hJA bA ht htd fX gw hDr
      simp only [Tr.val] at hy
      simp at x0 x1 x2
      gi_wp2
      refine hR.mono ?_
      obtain ⟨hmeas, hDx, ownA, gl, hzr, zA, gw, hDr⟩ := KP.out
      rintro e W3 (⟨rfl, ⟨D', hJ', hD'⟩, hkp⟩ | ⟨rfl, hX, hkp⟩)
      · have gn : ¬ D g := fun e => by rcases hDx g e with h | h <;> omega
        have own3 : W3.ownsRow W.heap.size 64 3 (.slice (some ⟨g, 0, none⟩) n cap) n (flatT l) := owns_on ownA (fun x e => by cases e; exact hkp g (by omega) (by omega) gn)
        have hz3 : w2.heap.size ≤ W3.heap.size := by
          have nx : ¬ D wr.heap.size := fun e => by have := hDr _ e; omega
          have h1 := hkp wr.heap.size (by omega) (by omega) nx
          rw [World.alloc_heap_new] at h1
          have := (Array.getElem?_eq_some_iff.1 h1).1
          omega
        have hD2 : ∀ x, D' x → x < W.heap.size ∨ w2.heap.size ≤ x := by
          intro x e
          rcases hD' x e with h | h
          · exact hDx x h
          · right; omega
        have FIN := hid (show ∃ D, J (k + 1) D W3 ∧ (∀ x, D x → x < W.heap.size ∨ w2.heap.size ≤ x) ∧ W3.ownsRow W.heap.size 64 3 (.slice (some ⟨g, 0, none⟩) n cap) n (flatT l) ∧ w2.heap.size ≤ W3.heap.size from ⟨D', hJ', hD2, own3, hz3⟩)
        have HM := hid hmeas
        clear hmeas hDx ownA gl hzr zA gn own3 hJ' hD' hkp hz3 hy hR KP hD2 gw hDr
        obtain ⟨wk, wk2⟩ := WK.out
        gi_wp2
        go_roundw
        case rel =>
          obtain ⟨D, y1, y2, y3, y4⟩ := FIN.out
          exact ⟨k + 1, D, hlt, rfl, y1, y2, y3, y4⟩
        case measure => exact HM.out
      · clear hmeas hDx ownA gl hzr zA hkp hy hR KP gw hDr
        gi_wp2
        refine bodyPost_ret (results_none rfl _ _ _) rfl ?_
        exact ⟨⟨_, rfl⟩, .inr hX⟩
    · have he : k = n := by omega
      subst he
      have G := hid hJ
      clear hJ own hDx
      gi_wp2
      go_end0
      exact ⟨⟨_, rfl⟩, .inl ⟨D, by rw [HN.out]; exact G.out⟩⟩
end Go.Proofs.Ytdafcfmbnlgbfaa.W
