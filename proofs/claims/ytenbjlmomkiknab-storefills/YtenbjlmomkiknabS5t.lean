/- Package store: one going over the ring by seek. -/
import Derived.Test.YtenbjlmomkiknabS5s
namespace Go.Proofs.Ytenbjlmomkiknab.W
open Go.ChangeShapes Go.WideShapes Go.RowKit Go.Shelf
set_option linter.unusedVariables false
attribute [local go_sem] Oper.semAt_some

def cIn : Code → Code
  | .scope c => c
  | .loop c => c
  | .block _ c => c
  | c => c
def cFst : Code → Code
  | .seq x _ => x
  | c => c
def cSnd : Code → Code
  | .seq _ y => y
  | c => c
/-- the room behind a block of a chain -/
def roomAt (s : Sto) (xs : List Nat) (i : Nat) : Int := roomOf s (s.getD (xs.getD i 0)) (xs[i + 1]?.getD 0) (s.getD (xs[i + 1]?.getD 0))
set_option maxHeartbeats 2000000 in
theorem seek_pass {W W1 : World} {sb : Nat} {vr vr0 vb vf : Value} {s s0 : Sto} {S : Nat → Prop} (h0 : Lay W sb vr0 vb vf s0) (f : Fit s) (hU1 : Upd S W W1) (hL1 : Lay W1 sb vr vb vf s) (hO : S sb) (size : Int) (hB1 : Boxed W1 W.heap.size 47 (.pointer (some ⟨sb, 0, none⟩))) (hB2 : Boxed W1 (W.heap.size + 1) 3 (.int .i64 size))
    (xs : List Nat) (hne : 0 < xs.length) (hd : xs.Nodup) (hz : ∀ i (hi : i + 1 < xs.length), xs[i + 1] ≠ 0) (hh : s.hand = (xs[0] : Nat))
    (hch : ∀ i (hi : i < xs.length), ∃ b, s.get xs[i] = some b ∧ b.next = (xs[i + 1]?.getD 0 : Nat)) {Y : Code} (hY : cFst (cIn (cIn (cIn (cFst (cSnd (cIn (cSnd (Try.f82.body.getD .skip)))))))) = Y) {Q : Exit → Act → World → Prop} (ds : List Deferred) (u4 u5 u6 u7 u8 u9 u10 u11 u12 u13 u14 u15 u16 u17 u18 u19 u20 u21 u22 u23 u24 u25 u26 u27 u28 u29 u30 u31 u32 u33 u34 u35 u36 u37 : Value)
    (hdone : ∀ W3 D, (∀ i, i < xs.length → roomAt s xs i < size) → Upd S W W3 → Lay W3 sb vr vb vf s → Boxed W3 W.heap.size 47 (.pointer (some ⟨sb, 0, none⟩)) → Boxed W3 (W.heap.size + 1) 3 (.int .i64 size) → W1.heap.size ≤ D → W3.heap[D]? = some (.deferred (some [])) → (∀ d, W.heap.size ≤ d → d < W1.heap.size → W3.heap[d]? = W1.heap[d]?) → Q .normal { tmps := #[.pointer (some ⟨sb, 0, none⟩), .int .i64 size, .pointer (some ⟨W.heap.size, 0, none⟩), .pointer (some ⟨W.heap.size + 1, 0, none⟩), u4, u5, .pointer (some ⟨sb, 0, none⟩), .pointer (some ⟨sb, 0, none⟩), .pointer (some ⟨sb, 0, none⟩), .pointer (some ⟨sb, 9, none⟩), .int .i64 (xs[0] : Nat), .func (.func 85) #[] #[.pointer (some ⟨W1.heap.size + 1, 0, none⟩), .pointer (some ⟨W1.heap.size, 0, none⟩)], u12, u13, u14, u15, u16, u17, u18, u19, u20, u21, u22, u23, u24, u25, u26, u27, u28, u29, u30, u31, u32, u33, u34, u35, u36, u37], defers := { target := .collected D, args := #[] } :: ds } W3)
    (hstop : ∀ W3 D i (hi : i < xs.length), size ≤ roomAt s xs i → Upd S W W3 → Lay W3 sb vr vb vf { s with hand := (xs[i] : Nat) } → Boxed W3 W.heap.size 47 (.pointer (some ⟨sb, 0, none⟩)) → W1.heap.size ≤ D → W3.heap[D]? = some (.deferred (some [])) → (∀ d, W.heap.size ≤ d → d < W1.heap.size → W3.heap[d]? = W1.heap[d]?) → Q (.exit 0) { tmps := #[.pointer (some ⟨sb, 0, none⟩), .int .i64 size, .pointer (some ⟨W.heap.size, 0, none⟩), .pointer (some ⟨W.heap.size + 1, 0, none⟩), u4, u5, .pointer (some ⟨sb, 0, none⟩), .pointer (some ⟨sb, 0, none⟩), .pointer (some ⟨sb, 0, none⟩), .pointer (some ⟨sb, 9, none⟩), .int .i64 (xs[0] : Nat), .func (.func 85) #[] #[.pointer (some ⟨W1.heap.size + 1, 0, none⟩), .pointer (some ⟨W1.heap.size, 0, none⟩)], u12, u13, u14, u15, u16, u17, u18, u19, u20, u21, u22, u23, u24, u25, u26, u27, u28, u29, u30, u31, u32, u33, u34, u35, u36, u37], defers := { target := .collected D, args := #[] } :: ds } W3) :
    Y.wp Try.prog Q { tmps := #[.pointer (some ⟨sb, 0, none⟩), .int .i64 size, .pointer (some ⟨W.heap.size, 0, none⟩), .pointer (some ⟨W.heap.size + 1, 0, none⟩), u4, u5, u6, u7, u8, u9, u10, u11, u12, u13, u14, u15, u16, u17, u18, u19, u20, u21, u22, u23, u24, u25, u26, u27, u28, u29, u30, u31, u32, u33, u34, u35, u36, u37], defers := ds } W1 := by
  obtain ⟨lsb, lr, lb, lf⟩ := lay_lt h0
  have s1 := hU1.size
  have c9 := hL1.cell 9
  simp [Sto.obj, hh] at c9
  have cs := hB1.cell
  have lt2 := hB2.lt
  dsimp only [Try.f82, cIn, cFst, cSnd, Option.getD_some] at hY
  subst hY
  go_wp2
  go_region_held3 (fun w' => w'.cell? ⟨sb, 9, none⟩ = some (.int .i64 (xs[0] : Nat)) ∧ w'.cell? ⟨W.heap.size, 0, none⟩ = some (.pointer (some ⟨sb, 0, none⟩))) (first | exact ⟨c9, cs⟩ | go_keep) (first | (go_at_call 58; (refine (from_c _ sb xs[0]).mono ?_); rintro e w' ⟨rfl, hw⟩; (have hw' := hw.symm); subst hw'; clear hw))
  go_wp2
  have hU2 := ((hU1.alloc (.cells #[.pointer (some ⟨sb, 0, none⟩)] 47)).alloc (.cells #[.int .i64 (xs[0] : Nat)] 3)).drew
  have hL2 := ((hL1.alloc (.cells #[.pointer (some ⟨sb, 0, none⟩)] 47)).alloc (.cells #[.int .i64 (xs[0] : Nat)] 3)).drew
  have hB4 : Boxed ((W1.alloc (.cells #[.pointer (some ⟨sb, 0, none⟩)] 47)).alloc (.cells #[.int .i64 (xs[0] : Nat)] 3)).drew (W1.heap.size + 1) 3 (.int .i64 (xs[0] : Nat)) := by
    have := Boxed.new (W1.alloc (.cells #[.pointer (some ⟨sb, 0, none⟩)] 47)) 3 (.int .i64 (xs[0] : Nat))
    rw [World.size_alloc] at this
    exact this
  have hB3 : Boxed ((W1.alloc (.cells #[.pointer (some ⟨sb, 0, none⟩)] 47)).alloc (.cells #[.int .i64 (xs[0] : Nat)] 3)).drew W1.heap.size 47 (.pointer (some ⟨sb, 0, none⟩)) := (Boxed.new W1 47 (.pointer (some ⟨sb, 0, none⟩))).alloc (.cells #[.int .i64 (xs[0] : Nat)] 3)
  have hB1' : Boxed ((W1.alloc (.cells #[.pointer (some ⟨sb, 0, none⟩)] 47)).alloc (.cells #[.int .i64 (xs[0] : Nat)] 3)).drew W.heap.size 47 (.pointer (some ⟨sb, 0, none⟩)) := (hB1.alloc _).alloc _
  have hB2' : Boxed ((W1.alloc (.cells #[.pointer (some ⟨sb, 0, none⟩)] 47)).alloc (.cells #[.int .i64 (xs[0] : Nat)] 3)).drew (W.heap.size + 1) 3 (.int .i64 size) := (hB2.alloc _).alloc _
  have hz2 : ((W1.alloc (.cells #[.pointer (some ⟨sb, 0, none⟩)] 47)).alloc (.cells #[.int .i64 (xs[0] : Nat)] 3)).drew.heap.size = W1.heap.size + 2 := by
    show ((W1.alloc (.cells #[.pointer (some ⟨sb, 0, none⟩)] 47)).alloc (.cells #[.int .i64 (xs[0] : Nat)] 3)).heap.size = _
    simp
  have hold : ∀ d, W.heap.size ≤ d → d < W1.heap.size → ((W1.alloc (.cells #[.pointer (some ⟨sb, 0, none⟩)] 47)).alloc (.cells #[.int .i64 (xs[0] : Nat)] 3)).drew.heap[d]? = W1.heap[d]? := fun d _ hd => by
    show ((W1.alloc (.cells #[.pointer (some ⟨sb, 0, none⟩)] 47)).alloc (.cells #[.int .i64 (xs[0] : Nat)] 3)).heap[d]? = _
    rw [Below.heap_alloc _ _ _ (by simp; omega), Below.heap_alloc _ _ _ hd]
  clear c9 cs
  generalize World.drew (World.alloc (World.alloc W1 _) _) = W2 at *
  obtain ⟨l0, l1, l2, l3⟩ := lay_lt hL1
  refine ring_law (Bn := W1.heap.size + 1) (Bs := W1.heap.size) (sb := sb) rfl xs hne hd hz hB4
    (fun i W' => W1.heap.size ≤ W'.heap.size ∧ Upd S W W' ∧ Lay W' sb vr vb vf s ∧ Boxed W' W.heap.size 47 (.pointer (some ⟨sb, 0, none⟩)) ∧ Boxed W' (W.heap.size + 1) 3 (.int .i64 size) ∧ Boxed W' W1.heap.size 47 (.pointer (some ⟨sb, 0, none⟩)) ∧ (∀ j, j < i → roomAt s xs j < size) ∧ (∀ d, W.heap.size ≤ d → d < W1.heap.size → W'.heap[d]? = W1.heap[d]?))
    (fun c W' => c = .exit 0 ∧ ∃ i, ∃ hi : i < xs.length, size ≤ roomAt s xs i ∧ W1.heap.size ≤ W'.heap.size ∧ Upd S W W' ∧ Lay W' sb vr vb vf { s with hand := (xs[i] : Nat) } ∧ Boxed W' W.heap.size 47 (.pointer (some ⟨sb, 0, none⟩)) ∧ (∀ d, W.heap.size ≤ d → d < W1.heap.size → W'.heap[d]? = W1.heap[d]?))
    ?hI ?hIx ⟨by omega, hU2, hL2, hB1', hB2', hB3, fun j hj => absurd hj (by omega), hold⟩ ?hread 5 ?assign ?body ?done ?stop
  case hI =>
    rintro i Wa Wb ⟨g0, g1, g2, g3, g4, g5, g6, g7⟩ hu
    exact ⟨Nat.le_trans g0 hu.size, upd_far g1 hu (by omega) (by omega), lay_far hL1 g2 g0 hu (by omega), box_far g3 hu (by omega) (by omega), box_far g4 hu (by omega) (by omega), box_far g5 hu (by omega) (by omega), g6, fun d h1 h2 => (hu.block d (by omega) (by omega)).trans (g7 d h1 h2)⟩
  case hIx =>
    rintro c Wa Wb ⟨rfl, i, hi, hr, g0, g1, g2, g3, g7⟩ hu
    exact ⟨rfl, i, hi, hr, Nat.le_trans g0 hu.size, upd_far g1 hu (by omega) (by omega), lay_far hL1 g2 g0 hu (by omega), box_far g3 hu (by omega) (by omega), fun d h1 h2 => (hu.block d (by omega) (by omega)).trans (g7 d h1 h2)⟩
  case hread =>
    rintro i hi Wa ⟨g0, g1, g2, g3, g4, g5, g6, g7⟩
    obtain ⟨b, hb, hnx⟩ := hch i hi
    obtain ⟨B, O, pt⟩ := g2.pt hb
    obtain ⟨_, _, _, _, d4⟩ := bcells g2 hb pt
    exact ⟨g5.cell, B, O, block_c Wa sb vr vb vf _ g2 _ _ hb f.len B O pt, by rw [d4, hnx]⟩
  case assign =>
    intro L x W' K hK
    gi_wp2
    exact hK
  case body =>
    rintro L i hi W' hLe ⟨g0, g1, g2, g3, g4, g5, g6, g7⟩ hs ⟨r, hr⟩ b4
    simp only [ringAct, List.setIfInBounds_toArray, List.set_cons_succ, List.set_cons_zero]
    obtain ⟨b, hb, hnx⟩ := hch i hi
    obtain ⟨cc, hcc⟩ : ∃ cc, s.get (xs[i + 1]?.getD 0) = some cc := by
      by_cases hl : i + 1 < xs.length
      · obtain ⟨b', hb', _⟩ := hch (i + 1) hl
        exact ⟨b', by rw [List.getElem?_eq_getElem hl]; exact hb'⟩
      · exact ⟨s.head, by rw [List.getElem?_eq_none (by omega)]; rfl⟩
    have hroom : roomAt s xs i = roomOf s b (xs[i + 1]?.getD 0) cc := by
      unfold roomAt
      rw [getD_get (List.getElem?_eq_getElem hi), getD_of hb, getD_of hcc]
    have cr := fun q => room_c (g2.drewN q) f xs[i] (xs[i + 1]?.getD 0) b cc hb hnx hcc
    rw [← hroom] at cr
    have cs := g3.cell
    have cz := g4.cell
    have th := g2.thaw 9
    have c9 := g2.cell 9
    simp [Sto.obj] at c9
    clear b4
    gi_wp2
    refine round_quiet (by kernel_rfl) (by kernel_rfl) (by rintro ⟨a, w, hF⟩; exact hF) (by kernel_rfl) ?_
    repeat (quiet_step ((go_at_call 98; exact Calls.quiet_of (cr _))))
    refine wpQuiet_nil ?_
    rintro _ ⟨nq, rfl⟩
    have hx9 : ∀ v : Value, ∀ x : Nat, x ≠ sb → ((W'.drewN nq).setCell ⟨sb, 9, none⟩ v).heap[x]? = W'.heap[x]? := fun v x hx => by rw [Below.heap_setCell _ _ _ _ hx]; rfl
    by_cases hroom' : size ≤ roomAt s xs i
    · have HR := (show Hid _ from hroom')
      gi_wp2
      refine ⟨⟨hx9 _ _ (by omega), hx9 _ _ (by omega), hx9 _ _ (by omega)⟩, rfl, i, hi, HR.out, ?_, (g1.drewN _).setCell (p := ⟨sb, 9, none⟩) (.inl hO) _, (g2.drewN _).store 9 _ rfl rfl rfl rfl, boxed_set g3 (by omega) _ _, fun d h1 h2 => (hx9 _ d (by omega)).trans (g7 d h1 h2)⟩
      simpa [World.setCell, World.drewN] using g0
    · have hr2 : roomAt s xs i < size := by omega
      have HR := (show Hid _ from hr2)
      gi_wp2
      exact ⟨⟨rfl, rfl, rfl⟩, g0, g1.drewN _, g2.drewN _, g3, g4, g5, fun j hj => by
        by_cases e : j = i
        · rw [e]; exact HR.out
        · exact g6 j (by omega), g7⟩
  case done =>
    rintro W' ⟨g0, g1, g2, g3, g4, g5, g6, g7⟩ hD
    exact hdone W' _ g6 g1 g2 g3 g4 (by omega) hD g7
  case stop =>
    rintro c W' ⟨rfl, i, hi, hr, g0, g1, g2, g3, g7⟩ hD
    refine wp_exit ?_
    exact hstop W' _ i hi hr g1 g2 g3 (by omega) hD g7
end Go.Proofs.Ytenbjlmomkiknab.W
