import Derived.Test.YtgkakflnmpoadaaGreatDoorBase2
import Derived.Deep.RegionLaw
/- Package store: one going over the ring by seek. -/
namespace Go.Proofs.YtgkakflnmpoadaaGreatDoor.W
open Go.ChangeShapes Go.WideShapes Go.RowKit Go.Shelf
set_option linter.unusedVariables false
attribute [local go_sem] Oper.semAt_some

def cIn : Code → Code
  | .scope c => c
  | .loop c => c
  | .block _ c => c
  | c => c
def cFst : Code → Code
  | .seq x _ => x
  | c => c
def cSnd : Code → Code
  | .seq _ y => y
  | c => c
/-- the room behind a block of a chain -/
def roomAt (s : Sto) (xs : List Nat) (i : Nat) : Int := roomOf s (s.getD (xs.getD i 0)) (xs[i + 1]?.getD 0) (s.getD (xs[i + 1]?.getD 0))
set_option maxHeartbeats 2000000 in
theorem seek_pass {W W1 : World} {sb : Nat} {vr vr0 vb vf : Value} {s s0 : Sto} {S : Nat → Prop} (h0 : Lay W sb vr0 vb vf s0) (f : Fit s) (hU1 : Upd S W W1) (hL1 : Lay W1 sb vr vb vf s) (hO : S sb) (size : Int) (hB1 : Boxed W1 W.heap.size 40 (.pointer (some ⟨sb, 0, none⟩))) (hB2 : Boxed W1 (W.heap.size + 1) 3 (.int .i64 size))
    (xs : List Nat) (hne : 0 < xs.length) (hd : xs.Nodup) (hz : ∀ i (hi : i + 1 < xs.length), xs[i + 1] ≠ 0) (hh : s.hand = (xs[0] : Nat))
    (hch : ∀ i (hi : i < xs.length), ∃ b, s.get xs[i] = some b ∧ b.next = (xs[i + 1]?.getD 0 : Nat)) {Y : Code} (hY : cFst (cIn (cIn (cIn (cFst (cSnd (cIn (cSnd (Tryz.f260.body.getD .skip)))))))) = Y) {Q : Exit → Act → World → Prop} (ds : List Deferred) (u4 u5 u6 u7 u8 u9 u10 u11 u12 u13 u14 u15 u16 u17 u18 u19 u20 u21 u22 u23 u24 u25 u26 u27 u28 u29 u30 u31 u32 u33 u34 u35 u36 u37 : Value)
    (hdone : ∀ W3 D, (∀ i, i < xs.length → roomAt s xs i < size) → Upd S W W3 → Lay W3 sb vr vb vf s → Boxed W3 W.heap.size 40 (.pointer (some ⟨sb, 0, none⟩)) → Boxed W3 (W.heap.size + 1) 3 (.int .i64 size) → W1.heap.size ≤ D → W3.heap[D]? = some (.deferred (some [])) → (∀ d, W.heap.size ≤ d → d < W1.heap.size → W3.heap[d]? = W1.heap[d]?) → Q .normal { tmps := #[.pointer (some ⟨sb, 0, none⟩), .int .i64 size, .pointer (some ⟨W.heap.size, 0, none⟩), .pointer (some ⟨W.heap.size + 1, 0, none⟩), u4, u5, .pointer (some ⟨sb, 0, none⟩), .pointer (some ⟨sb, 0, none⟩), .pointer (some ⟨sb, 0, none⟩), .pointer (some ⟨sb, 9, none⟩), .int .i64 (xs[0] : Nat), .func (.func 301) #[] #[.pointer (some ⟨W1.heap.size + 1, 0, none⟩), .pointer (some ⟨W1.heap.size, 0, none⟩)], u12, u13, u14, u15, u16, u17, u18, u19, u20, u21, u22, u23, u24, u25, u26, u27, u28, u29, u30, u31, u32, u33, u34, u35, u36, u37], defers := { target := .collected D, args := #[] } :: ds } W3)
    (hstop : ∀ W3 D i (hi : i < xs.length), size ≤ roomAt s xs i → Upd S W W3 → Lay W3 sb vr vb vf { s with hand := (xs[i] : Nat) } → Boxed W3 W.heap.size 40 (.pointer (some ⟨sb, 0, none⟩)) → W1.heap.size ≤ D → W3.heap[D]? = some (.deferred (some [])) → (∀ d, W.heap.size ≤ d → d < W1.heap.size → W3.heap[d]? = W1.heap[d]?) → Q (.exit 0) { tmps := #[.pointer (some ⟨sb, 0, none⟩), .int .i64 size, .pointer (some ⟨W.heap.size, 0, none⟩), .pointer (some ⟨W.heap.size + 1, 0, none⟩), u4, u5, .pointer (some ⟨sb, 0, none⟩), .pointer (some ⟨sb, 0, none⟩), .pointer (some ⟨sb, 0, none⟩), .pointer (some ⟨sb, 9, none⟩), .int .i64 (xs[0] : Nat), .func (.func 301) #[] #[.pointer (some ⟨W1.heap.size + 1, 0, none⟩), .pointer (some ⟨W1.heap.size, 0, none⟩)], u12, u13, u14, u15, u16, u17, u18, u19, u20, u21, u22, u23, u24, u25, u26, u27, u28, u29, u30, u31, u32, u33, u34, u35, u36, u37], defers := { target := .collected D, args := #[] } :: ds } W3) :
    Y.wp Tryz.prog Q { tmps := #[.pointer (some ⟨sb, 0, none⟩), .int .i64 size, .pointer (some ⟨W.heap.size, 0, none⟩), .pointer (some ⟨W.heap.size + 1, 0, none⟩), u4, u5, u6, u7, u8, u9, u10, u11, u12, u13, u14, u15, u16, u17, u18, u19, u20, u21, u22, u23, u24, u25, u26, u27, u28, u29, u30, u31, u32, u33, u34, u35, u36, u37], defers := ds } W1 := by
  obtain ⟨lsb, lr, lb, lf⟩ := lay_lt h0
  have s1 := hU1.size
  have c9 := hL1.cell 9
  simp [Sto.obj, hh] at c9
  have cs := hB1.cell
  have lt2 := hB2.lt
  dsimp only [Tryz.f260, cIn, cFst, cSnd, Option.getD_some] at hY
  subst hY
  go_wp2
  go_region_held3 (fun w' => w'.cell? ⟨sb, 9, none⟩ = some (.int .i64 (xs[0] : Nat)) ∧ w'.cell? ⟨W.heap.size, 0, none⟩ = some (.pointer (some ⟨sb, 0, none⟩))) (first | exact ⟨c9, cs⟩ | go_keep) (first | (go_at_call 290; (refine (from_c _ sb xs[0]).mono ?_); rintro e w' ⟨rfl, hw⟩; (have hw' := hw.symm); subst hw'; clear hw))
  go_wp2
  have hU2 := ((hU1.alloc (.cells #[.pointer (some ⟨sb, 0, none⟩)] 40)).alloc (.cells #[.int .i64 (xs[0] : Nat)] 3)).drew
  have hL2 := ((hL1.alloc (.cells #[.pointer (some ⟨sb, 0, none⟩)] 40)).alloc (.cells #[.int .i64 (xs[0] : Nat)] 3)).drew
  have hB4 : Boxed ((W1.alloc (.cells #[.pointer (some ⟨sb, 0, none⟩)] 40)).alloc (.cells #[.int .i64 (xs[0] : Nat)] 3)).drew (W1.heap.size + 1) 3 (.int .i64 (xs[0] : Nat)) := by
    have := Boxed.new (W1.alloc (.cells #[.pointer (some ⟨sb, 0, none⟩)] 40)) 3 (.int .i64 (xs[0] : Nat))
    rw [World.size_alloc] at this
    exact this
  have hB3 : Boxed ((W1.alloc (.cells #[.pointer (some ⟨sb, 0, none⟩)] 40)).alloc (.cells #[.int .i64 (xs[0] : Nat)] 3)).drew W1.heap.size 40 (.pointer (some ⟨sb, 0, none⟩)) := (Boxed.new W1 40 (.pointer (some ⟨sb, 0, none⟩))).alloc (.cells #[.int .i64 (xs[0] : Nat)] 3)
  have hB1' : Boxed ((W1.alloc (.cells #[.pointer (some ⟨sb, 0, none⟩)] 40)).alloc (.cells #[.int .i64 (xs[0] : Nat)] 3)).drew W.heap.size 40 (.pointer (some ⟨sb, 0, none⟩)) := (hB1.alloc _).alloc _
  have hB2' : Boxed ((W1.alloc (.cells #[.pointer (some ⟨sb, 0, none⟩)] 40)).alloc (.cells #[.int .i64 (xs[0] : Nat)] 3)).drew (W.heap.size + 1) 3 (.int .i64 size) := (hB2.alloc _).alloc _
  have hz2 : ((W1.alloc (.cells #[.pointer (some ⟨sb, 0, none⟩)] 40)).alloc (.cells #[.int .i64 (xs[0] : Nat)] 3)).drew.heap.size = W1.heap.size + 2 := by
    show ((W1.alloc (.cells #[.pointer (some ⟨sb, 0, none⟩)] 40)).alloc (.cells #[.int .i64 (xs[0] : Nat)] 3)).heap.size = _
    simp
  have hold : ∀ d, W.heap.size ≤ d → d < W1.heap.size → ((W1.alloc (.cells #[.pointer (some ⟨sb, 0, none⟩)] 40)).alloc (.cells #[.int .i64 (xs[0] : Nat)] 3)).drew.heap[d]? = W1.heap[d]? := fun d _ hd => by
    show ((W1.alloc (.cells #[.pointer (some ⟨sb, 0, none⟩)] 40)).alloc (.cells #[.int .i64 (xs[0] : Nat)] 3)).heap[d]? = _
    rw [Below.heap_alloc _ _ _ (by simp; omega), Below.heap_alloc _ _ _ hd]
  clear c9 cs
  generalize World.drew (World.alloc (World.alloc W1 _) _) = W2 at *
  obtain ⟨l0, l1, l2, l3⟩ := lay_lt hL1
  refine ring_law (Bn := W1.heap.size + 1) (Bs := W1.heap.size) (sb := sb) rfl xs hne hd hz hB4
    (fun i W' => W1.heap.size ≤ W'.heap.size ∧ Upd S W W' ∧ Lay W' sb vr vb vf s ∧ Boxed W' W.heap.size 40 (.pointer (some ⟨sb, 0, none⟩)) ∧ Boxed W' (W.heap.size + 1) 3 (.int .i64 size) ∧ Boxed W' W1.heap.size 40 (.pointer (some ⟨sb, 0, none⟩)) ∧ (∀ j, j < i → roomAt s xs j < size) ∧ (∀ d, W.heap.size ≤ d → d < W1.heap.size → W'.heap[d]? = W1.heap[d]?))
    (fun c W' => c = .exit 0 ∧ ∃ i, ∃ hi : i < xs.length, size ≤ roomAt s xs i ∧ W1.heap.size ≤ W'.heap.size ∧ Upd S W W' ∧ Lay W' sb vr vb vf { s with hand := (xs[i] : Nat) } ∧ Boxed W' W.heap.size 40 (.pointer (some ⟨sb, 0, none⟩)) ∧ (∀ d, W.heap.size ≤ d → d < W1.heap.size → W'.heap[d]? = W1.heap[d]?))
    ?hI ?hIx ⟨by omega, hU2, hL2, hB1', hB2', hB3, fun j hj => absurd hj (by omega), hold⟩ ?hread 5 ?assign ?body ?done ?stop
  case hI =>
    rintro i Wa Wb ⟨g0, g1, g2, g3, g4, g5, g6, g7⟩ hu
    exact ⟨Nat.le_trans g0 hu.size, upd_far g1 hu (by omega) (by omega), lay_far hL1 g2 g0 hu (by omega), box_far g3 hu (by omega) (by omega), box_far g4 hu (by omega) (by omega), box_far g5 hu (by omega) (by omega), g6, fun d h1 h2 => (hu.block d (by omega) (by omega)).trans (g7 d h1 h2)⟩
  case hIx =>
    rintro c Wa Wb ⟨rfl, i, hi, hr, g0, g1, g2, g3, g7⟩ hu
    exact ⟨rfl, i, hi, hr, Nat.le_trans g0 hu.size, upd_far g1 hu (by omega) (by omega), lay_far hL1 g2 g0 hu (by omega), box_far g3 hu (by omega) (by omega), fun d h1 h2 => (hu.block d (by omega) (by omega)).trans (g7 d h1 h2)⟩
  case hread =>
    rintro i hi Wa ⟨g0, g1, g2, g3, g4, g5, g6, g7⟩
    obtain ⟨b, hb, hnx⟩ := hch i hi
    obtain ⟨B, O, pt⟩ := g2.pt hb
    obtain ⟨_, _, _, _, d4⟩ := bcells g2 hb pt
    exact ⟨g5.cell, B, O, block_c Wa sb vr vb vf _ g2 _ _ hb f.len B O pt, by rw [d4, hnx]⟩
  case assign =>
    intro L x W' K hK
    gi_wp2
    exact hK
  case body =>
    rintro L i hi W' hLe ⟨g0, g1, g2, g3, g4, g5, g6, g7⟩ hs ⟨r, hr⟩ b4
    simp only [ringAct, List.setIfInBounds_toArray, List.set_cons_succ, List.set_cons_zero]
    obtain ⟨b, hb, hnx⟩ := hch i hi
    obtain ⟨cc, hcc⟩ : ∃ cc, s.get (xs[i + 1]?.getD 0) = some cc := by
      by_cases hl : i + 1 < xs.length
      · obtain ⟨b', hb', _⟩ := hch (i + 1) hl
        exact ⟨b', by rw [List.getElem?_eq_getElem hl]; exact hb'⟩
      · exact ⟨s.head, by rw [List.getElem?_eq_none (by omega)]; rfl⟩
    have hroom : roomAt s xs i = roomOf s b (xs[i + 1]?.getD 0) cc := by
      unfold roomAt
      rw [getD_get (List.getElem?_eq_getElem hi), getD_of hb, getD_of hcc]
    have cr := fun q => room_c (g2.drewN q) f xs[i] (xs[i + 1]?.getD 0) b cc hb hnx hcc
    rw [← hroom] at cr
    have cs := g3.cell
    have cz := g4.cell
    have th := g2.thaw 9
    have c9 := g2.cell 9
    simp [Sto.obj] at c9
    clear b4
    gi_wp2
    refine round_quiet (by kernel_rfl) (by kernel_rfl) (by rintro ⟨a, w, hF⟩; exact hF) (by kernel_rfl) ?_
    repeat (quiet_step ((go_at_call 291; exact Calls.quiet_of (cr _))))
    refine wpQuiet_nil ?_
    rintro _ ⟨nq, rfl⟩
    have hx9 : ∀ v : Value, ∀ x : Nat, x ≠ sb → ((W'.drewN nq).setCell ⟨sb, 9, none⟩ v).heap[x]? = W'.heap[x]? := fun v x hx => by rw [Below.heap_setCell _ _ _ _ hx]; rfl
    by_cases hroom' : size ≤ roomAt s xs i
    · have HR := (show Hid _ from hroom')
      gi_wp2
      refine ⟨⟨hx9 _ _ (by omega), hx9 _ _ (by omega), hx9 _ _ (by omega)⟩, rfl, i, hi, HR.out, ?_, (g1.drewN _).setCell (p := ⟨sb, 9, none⟩) (.inl hO) _, (g2.drewN _).store 9 _ rfl rfl rfl rfl, boxed_set g3 (by omega) _ _, fun d h1 h2 => (hx9 _ d (by omega)).trans (g7 d h1 h2)⟩
      simpa [World.setCell, World.drewN] using g0
    · have hr2 : roomAt s xs i < size := by omega
      have HR := (show Hid _ from hr2)
      gi_wp2
      exact ⟨⟨rfl, rfl, rfl⟩, g0, g1.drewN _, g2.drewN _, g3, g4, g5, fun j hj => by
        by_cases e : j = i
        · rw [e]; exact HR.out
        · exact g6 j (by omega), g7⟩
  case done =>
    rintro W' ⟨g0, g1, g2, g3, g4, g5, g6, g7⟩ hD
    exact hdone W' _ g6 g1 g2 g3 g4 (by omega) hD g7
  case stop =>
    rintro c W' ⟨rfl, i, hi, hr, g0, g1, g2, g3, g7⟩ hD
    refine wp_exit ?_
    exact hstop W' _ i hi hr g1 g2 g3 (by omega) hD g7
end Go.Proofs.YtgkakflnmpoadaaGreatDoor.W
/- Package store: seek, whatever the gaps are. -/
namespace Go.Proofs.YtgkakflnmpoadaaGreatDoor.W
open Go.ChangeShapes Go.WideShapes Go.RowKit Go.Shelf
set_option linter.unusedVariables false
attribute [local go_sem] Oper.semAt_some

theorem Lay.putDef {W : World} {sb : Nat} {vr vb vf : Value} {s : Sto} (h : Lay W sb vr vb vf s) {D : Nat} {x : Option (List Deferred)} (hD : W.heap[D]? = some (.deferred x)) (o : Obj) : Lay (W.putObj D o) sb vr vb vf s := by
  have key : ∀ {e : TypeId} {size : Nat} {v : Value} {n : Nat} {xs : List Value}, W.ownsRow 0 e size v n xs → ∀ k, v.ownBlock = some k → (W.putObj D o).heap[k]? = W.heap[k]? := by
    intro e size v n xs ho k hk
    rcases ho.2 with ⟨rfl, _⟩ | ⟨g, cap, cur, rfl, _, hg, _⟩
    · simp [Value.ownBlock] at hk
    · simp [Value.ownBlock] at hk
      subst hk
      exact World.putObj_heap_other (by rintro rfl; rw [hg] at hD; cases hD)
  exact h.kept (World.putObj_heap_other (by rintro rfl; have := h.obj; rw [this] at hD; cases hD)) (key h.row) (key h.blk) (key h.free)
theorem seekpost_put {S : Nat → Prop} {W w' : World} {sb : Nat} {vb vf : Value} {n : Nat} {bn : Blk} {G : Sto → Nat → Nat → Nat → Prop} {e : Ending} (h : SeekPost S W sb vb vf n bn G e w') {D : Nat} {x : Option (List Deferred)} (hD : w'.heap[D]? = some (.deferred x)) (hW : W.heap.size ≤ D) (o : Obj) : SeekPost S W sb vb vf n bn G e (w'.putObj D o) := by
  obtain ⟨s1, vr1, bk, nx, p, bb, bx, h1, h2, h3, h4, rest⟩ := h
  have lt := (Array.getElem?_eq_some_iff.1 hD).1
  exact ⟨s1, vr1, bk, nx, p, bb, bx, h1, h2.putObj (.inr ⟨hW, lt⟩) o, h3.putDef hD o, h4.on (by simp), rest⟩
theorem Pk.congr {s s' : Sto} {c : List Nat} {bl : Nat → Blk} {p l u en : Nat → Nat} (k : Pk s c bl p l u en) (hg : ∀ n, s'.get n = s.get n) (hr : s'.row = s.row) : Pk s' c bl p l u en :=
  ⟨k.ne, k.zero, k.nodup, fun i n e => by rw [hg]; exact k.get i n e, k.next, k.pos, k.len, k.up, k.en0, k.en1, k.le, fun i hi => by rw [hr]; exact k.stop i hi, k.first, k.rest⟩
/-- what is left as it was but for the hand, and whether gaps have been sought -/
def Sto.turn (s : Sto) (h : Int) (b : Bool) : Sto := { s with hand := h, sought := b }
theorem fit_turn {s : Sto} (f : Fit s) (h : Int) (b : Bool) : Fit (s.turn h b) := ⟨f.len, f.row, f.byte, f.used0, f.used1, f.blk⟩
theorem packN_other {s : Sto} {c : List Nat} {bl : Nat → Blk} {p l en : Nat → Nat} (i n : Nat) (hi : i ≤ c.length) (hn : n ∉ c) : (packN s c bl p l en i).get n = s.get n := by
  induction i with
  | zero => rfl
  | succ i ih =>
    have e : c[i]? = some c[i] := List.getElem?_eq_getElem (by omega)
    have hne : n ≠ c.getD i 0 := by
      rw [getD_get e]
      rintro rfl
      exact hn (List.getElem_mem _)
    have this : (packN s c bl p l en (i + 1)).get n = ((packN s c bl p l en i).set (c.getD i 0) { bl i with pos := en i }).get n := rfl
    rw [this, get_set_ne _ hne]
    exact ih (by omega)
theorem mem_setL (row : List Nat) (o : Nat) (vs : List Nat) (x : Nat) (h : x ∈ setL row o vs) : x ∈ row ∨ x ∈ vs := by
  induction vs generalizing row o with
  | nil => exact .inl h
  | cons v r ih =>
    rcases ih _ _ h with g | g
    · rcases List.mem_or_eq_of_mem_set g with g | g
      · exact .inl g
      · exact .inr (by rw [g]; simp)
    · exact .inr (by simp [g])
theorem packN_byte {s : Sto} {c : List Nat} {bl : Nat → Blk} {p l en : Nat → Nat} (i : Nat) (h : ∀ x ∈ s.row, x < 256) : ∀ x ∈ (packN s c bl p l en i).row, x < 256 := by
  induction i with
  | zero => exact h
  | succ i ih =>
    intro x hx
    rcases mem_setL _ _ _ _ hx with g | g
    · exact ih x g
    · exact ih x (List.mem_of_mem_drop (List.mem_of_mem_take g))
theorem fit_packed {s : Sto} {c : List Nat} {bl : Nat → Blk} {p l u en : Nat → Nat} (f : Fit s) (k : Pk s c bl p l u en) : Fit (packedSto s c bl p l en) := by
  have hr := packN_rest (s := s) (c := c) (bl := bl) (p := p) (l := l) (en := en) c.length
  refine ⟨?_, ?_, ?_, ?_, ?_, ?_⟩
  · show (packN s c bl p l en c.length).blks.length ≤ _
    rw [packN_blks]; exact f.len
  · show ((packN s c bl p l en c.length).row.take (en c.length)).length ≤ _
    have := packN_row (s := s) (c := c) (bl := bl) (p := p) (l := l) (en := en) c.length
    have := f.row
    rw [List.length_take]; omega
  · intro x hx
    exact packN_byte c.length f.byte x (List.mem_of_mem_take hx)
  · show 0 ≤ (packN s c bl p l en c.length).used
    rw [hr.2.1]; exact f.used0
  · show (packN s c bl p l en c.length).used ≤ _
    rw [hr.2.1]; exact f.used1
  · intro n b hb
    have hb' : (packN s c bl p l en c.length).get n = some b := hb
    by_cases hn : n ∈ c
    · obtain ⟨j, hj, e⟩ := List.mem_iff_getElem.1 hn
      have hc : c[j]? = some n := by rw [List.getElem?_eq_getElem hj, e]
      rw [packN_earlier k c.length j n hj (Nat.le_refl _) hc] at hb'
      cases hb'
      have fb := f.blk n (bl j) (k.get j n hc)
      have := k.le j hj
      rw [k.pos j hj] at fb
      exact ⟨by show (0 : Int) ≤ (en j : Nat); omega, by show ((en j : Nat) : Int) ≤ _; omega, fb.2.2.1, fb.2.2.2⟩
    · rw [packN_other c.length n (Nat.le_refl _) hn] at hb'
      exact f.blk n b hb'
theorem packN_hand {s : Sto} {c : List Nat} {bl : Nat → Blk} {p l en : Nat → Nat} {n : Nat} (h : c[c.length - 1]? = some n) : (packN s c bl p l en c.length).hand = (n : Nat) := by
  have hlt := (List.getElem?_eq_some_iff.1 h).1
  obtain ⟨m, hm⟩ : ∃ m, c.length = m + 1 := ⟨c.length - 1, by omega⟩
  rw [hm, Nat.add_sub_cancel] at h
  have e : packN s c bl p l en c.length = packN s c bl p l en (m + 1) := by rw [hm]
  rw [e]
  show ((c.getD m 0 : Nat) : Int) = _
  rw [getD_get h]
/-- how seek leaves a store: behind bk there is room -/
def SeekG (s : Sto) (c : List Nat) (bl : Nat → Blk) (p l u en : Nat → Nat) (size : Int) (s1 : Sto) (bk nx q : Nat) : Prop :=
  (∃ j b, c[j]? = some bk ∧ s1 = s.turn bk b ∧ nx = c[j + 1]?.getD 0 ∧ q = p j + u j ∧ size ≤ roomAt s c j) ∨
  (∃ h b, s1 = packedSto (s.turn h b) c bl p l en ∧ c[c.length - 1]? = some bk ∧ nx = 0 ∧ q = en c.length)
section
variable {W : World} {sb : Nat} {vr vb vf : Value} {s : Sto} {c : List Nat} {bl : Nat → Blk} {p l u en : Nat → Nat}
theorem Pk.stopOf (k : Pk s c bl p l u en) {i : Nat} (hi : i < c.length) : (bl i).stop = (p i + u i : Nat) := by
  unfold Blk.stop
  rw [k.pos i hi, k.len i hi, k.up i hi]; omega
theorem Pk.nextGet (k : Pk s c bl p l u en) (i : Nat) : ∃ b, s.get (c[i + 1]?.getD 0) = some b := by
  cases e : c[i + 1]? with
  | none => exact ⟨s.head, rfl⟩
  | some n => exact ⟨_, k.get _ n e⟩
/-- a gap is found where the store lies as it lay -/
theorem seek_hit {W3 : World} (k : Pk s c bl p l u en) (f : Fit s) {n : Nat} {bn : Blk} (hn : s.get n = some bn) (hnc : n ∉ c) {S : Nat → Prop} (hO : Own (Nx S W W3) sb vr vb vf) (hU : Upd S W W3) (size : Int) (j : Nat) (hj : j < c.length) (b : Bool) (hL : Lay W3 sb vr vb vf (s.turn (c[j] : Nat) b)) (hr : size ≤ roomAt s c j) :
    SeekPost S W sb vb vf n bn (SeekG s c bl p l u en size) (.returned (.int .i64 (c[j] : Nat))) W3 := by
  have hc : c[j]? = some c[j] := List.getElem?_eq_getElem hj
  obtain ⟨bx, hbx⟩ := k.nextGet j
  have h0 : (0 : Nat) ∈ c := List.mem_of_getElem? k.zero
  refine ⟨s.turn (c[j] : Nat) b, vr, c[j], c[j + 1]?.getD 0, p j + u j, bl j, bx, rfl, hU, hL, hO, fit_turn f _ _, hn, k.get j _ hc, k.next j hj, hbx, ?_, ?_, k.stopOf hj, .inl ⟨j, b, hc, rfl, rfl, rfl, hr⟩⟩
  · rintro rfl; exact hnc (List.getElem_mem _)
  · rintro e
    cases e2 : c[j + 1]? with
    | none => rw [e2] at e; exact hnc (by rw [← e]; exact h0)
    | some m => rw [e2] at e; exact hnc (by rw [← e]; exact List.mem_of_getElem? e2)
/-- a gap is found behind the last block, blocks having been moved together -/
theorem seek_hit_packed {W3 : World} {h : Int} {b : Bool} (k : Pk s c bl p l u en) (f : Fit s) {n : Nat} {bn : Blk} (hn : s.get n = some bn) (hnc : n ∉ c) {S : Nat → Prop} (hO : Own (Nx S W W3) sb vr vb vf) (hU : Upd S W W3) (size : Int) (z : Nat) (hz : c[c.length - 1]? = some z) (hL : Lay W3 sb vr vb vf (packedSto (s.turn h b) c bl p l en)) :
    SeekPost S W sb vb vf n bn (SeekG s c bl p l u en size) (.returned (.int .i64 (z : Nat))) W3 := by
  have hlt := (List.getElem?_eq_some_iff.1 hz).1
  have k' : Pk (s.turn h b) c bl p l u en := k.congr (fun _ => rfl) rfl
  have h0 : (0 : Nat) ∈ c := List.mem_of_getElem? k.zero
  have hg : (packedSto (s.turn h b) c bl p l en).get z = some { bl (c.length - 1) with pos := en (c.length - 1) } := packN_earlier k' c.length (c.length - 1) z hlt (Nat.le_refl _) hz
  have hnx : (bl (c.length - 1)).next = ((0 : Nat) : Int) := by rw [k.next _ hlt, List.getElem?_eq_none (by omega)]; rfl
  have hst : ({ bl (c.length - 1) with pos := (en (c.length - 1) : Int) } : Blk).stop = (en c.length : Nat) := by
    show (en (c.length - 1) : Int) + up8 (bl (c.length - 1)).len = _
    have e := k.en1 (c.length - 1) hlt
    rw [show c.length - 1 + 1 = c.length by omega] at e
    rw [k.len _ hlt, k.up _ hlt, e]; omega
  have hgn : (packedSto (s.turn h b) c bl p l en).get n = some bn := (packN_other c.length n (Nat.le_refl _) hnc).trans hn
  refine ⟨_, vr, z, 0, en c.length, _, (packedSto (s.turn h b) c bl p l en).head, rfl, hU, hL, hO, fit_packed (fit_turn f h b) k', hgn, hg, hnx, rfl, ?_, ?_, hst, .inr ⟨h, b, rfl, hz, rfl, rfl⟩⟩
  · rintro rfl; exact hnc (List.mem_of_getElem? hz)
  · rintro rfl; exact hnc h0
end
end Go.Proofs.YtgkakflnmpoadaaGreatDoor.W
/- Package store: seek's contract. -/
namespace Go.Proofs.YtgkakflnmpoadaaGreatDoor.W
open Go.ChangeShapes Go.WideShapes Go.RowKit Go.Shelf
set_option linter.unusedVariables false
attribute [local go_sem] Oper.semAt_some

/-- a store's own blocks, and no others -/
def fpS (sb : Nat) (vr vb vf : Value) : Nat → Prop := fun k => k = sb ∨ vr.ownBlock = some k ∨ vb.ownBlock = some k ∨ vf.ownBlock = some k
theorem own_fp (sb : Nat) (vr vb vf : Value) : Own (fpS sb vr vb vf) sb vr vb vf := ⟨.inl rfl, fun _ e => .inr (.inl e), fun _ e => .inr (.inr (.inl e)), fun _ e => .inr (.inr (.inr e))⟩
theorem fp_own {S : Nat → Prop} {sb : Nat} {vr vb vf : Value} (h : Own S sb vr vb vf) : ∀ k, fpS sb vr vb vf k → S k := by
  rintro k (rfl | e | e | e)
  · exact h.sb
  · exact h.row k e
  · exact h.blk k e
  · exact h.free k e
theorem fp_lt {W : World} {sb : Nat} {vr vb vf : Value} {s : Sto} (h : Lay W sb vr vb vf s) : ∀ k, fpS sb vr vb vf k → k < W.heap.size := by
  obtain ⟨l0, l1, l2, l3⟩ := lay_lt h
  rintro k (rfl | e | e | e)
  · exact l0
  · exact l1 k e
  · exact l2 k e
  · exact l3 k e
section
variable {W : World} {sb : Nat} {vr vb vf : Value} {s : Sto} {c : List Nat} {bl : Nat → Blk} {p l u en : Nat → Nat}
theorem chain_drop (k : Pk s c bl p l u en) (h : Nat) : ∀ i (hi : i < (c.drop h).length), ∃ b, s.get (c.drop h)[i] = some b ∧ b.next = ((c.drop h)[i + 1]?.getD 0 : Nat) := by
  intro i hi
  rw [List.length_drop] at hi
  have e : c[h + i]? = some (c.drop h)[i] := by rw [List.getElem_drop, List.getElem?_eq_getElem]
  refine ⟨bl (h + i), k.get _ _ e, ?_⟩
  rw [k.next _ (by omega), List.getElem?_drop]
  rfl
theorem drop_nz (k : Pk s c bl p l u en) (h : Nat) : ∀ i (hi : i + 1 < (c.drop h).length), (c.drop h)[i + 1] ≠ 0 := by
  intro i hi e
  rw [List.length_drop] at hi
  rw [List.getElem_drop] at e
  have := List.pairwise_iff_getElem.1 k.nodup 0 (h + (i + 1)) k.ne (by omega) (by omega)
  have e0 : c[0]'k.ne = 0 := by have := k.zero; rw [List.getElem?_eq_getElem k.ne] at this; exact Option.some.inj this
  rw [e0, e] at this
  exact this rfl
theorem room_drop (h i : Nat) : roomAt s (c.drop h) i = roomAt s c (h + i) := by
  unfold roomAt
  simp only [List.getD, List.getElem?_drop]
  rfl
set_option maxHeartbeats 4000000 in
theorem seek_c (h : Lay W sb vr vb vf s) (f : Fit s) (k : Pk s c bl p l u en) (hd : Nat) (hdl : hd < c.length) (hh : s.hand = (c[hd] : Nat)) (size : Int) (hus : (en c.length : Int) + size ≤ s.used) {n : Nat} {bn : Blk} (hn : s.get n = some bn) (hnc : n ∉ c) {S : Nat → Prop} (hO : Own S sb vr vb vf) :
    Calls Tryz.prog 260 #[.pointer (some ⟨sb, 0, none⟩), .int .i64 size] W (SeekPost S W sb vb vf n bn (SeekG s c bl p l u en size)) := by
  obtain ⟨lsb, lr, lb, lf⟩ := lay_lt h
  refine (callsIn_wide (n := 9)).1 ?_
  refine callsIn_of_wp_marks Tryz.func260 rfl trivial ?_ rfl
  refine wpIn_wide.2 ?_
  simp only [Tryz.ntmps260, List.size_toArray, List.length_cons, List.length_nil, Nat.reduceAdd, Nat.reduceSub, Array.replicate_succ, Array.replicate_zero, List.push_toArray, List.append_toArray, List.nil_append, List.cons_append]
  go_wp2
  go_step3
  go_wp2
  go_step3
  go_wp2
  have hU1 := ((Upd.refl S W).alloc (.cells #[.pointer (some ⟨sb, 0, none⟩)] 40)).alloc (.cells #[.int .i64 size] 3)
  have hL1 := (h.alloc (.cells #[.pointer (some ⟨sb, 0, none⟩)] 40)).alloc (.cells #[.int .i64 size] 3)
  have hB1 : Boxed ((W.alloc (.cells #[.pointer (some ⟨sb, 0, none⟩)] 40)).alloc (.cells #[.int .i64 size] 3)) W.heap.size 40 (.pointer (some ⟨sb, 0, none⟩)) := (Boxed.new W _ _).alloc _
  have hB2 : Boxed ((W.alloc (.cells #[.pointer (some ⟨sb, 0, none⟩)] 40)).alloc (.cells #[.int .i64 size] 3)) (W.heap.size + 1) 3 (.int .i64 size) := by
    have := Boxed.new (W.alloc (.cells #[.pointer (some ⟨sb, 0, none⟩)] 40)) 3 (.int .i64 size)
    rwa [World.size_alloc] at this
  have hz : ((W.alloc (.cells #[.pointer (some ⟨sb, 0, none⟩)] 40)).alloc (.cells #[.int .i64 size] 3)).heap.size = W.heap.size + 2 := by simp
  generalize World.alloc (World.alloc W _) _ = W1 at *
  refine wp_loop_rounds 3 ?_
  rw [rounds_succ]
  refine wp_block (wp_seq (seek_pass h f hU1 hL1 hO.sb size hB1 hB2 (c.drop hd) (by rw [List.length_drop]; omega) (k.nodup.sublist (List.drop_sublist _ _)) (drop_nz k hd) (by rw [hh, List.getElem_drop]; rfl) (chain_drop k hd) rfl [] _ _ _ _ _ _ _ _ _ _ _ _ _ _ _ _ _ _ _ _ _ _ _ _ _ _ _ _ _ _ _ _ _ _ ?done ?stop))
  case stop =>
    rintro W3 D i hi hr hU3 hL3 b1 hD1 hD2 hold
    dsimp only
    have hil : hd + i < c.length := by rw [List.length_drop] at hi; omega
    rw [room_drop] at hr
    rw [List.getElem_drop] at hL3
    have cs := b1.cell
    have c9 := hL3.cell 9
    simp [Sto.obj] at c9
    have HP := (show Hid _ from seek_hit k f hn hnc (hO.mono (fun _ g => .inl g)) hU3 size (hd + i) hil s.sought hL3 hr)
    clear hL3 hU3 hold
    go_wp2
    rw [Exit.noGoto_ret]
    refine ⟨by simp, .inl ⟨_, _, rfl, run_takeDeferred hD2, ?_⟩⟩
    refine ⟨_, results_tmp rfl _ _ _, ?_⟩
    exact seekpost_put HP.out hD2 (by omega) _
  case done =>
    rintro W3 D hr hU3 hL3 b1 b2 hD1 hD2 hold
    dsimp only
    have c10 := hL3.cell 10
    simp [Sto.obj] at c10
    have cs := b1.cell
    have ltD := (Array.getElem?_eq_some_iff.1 hD2).1
    cases hso : s.sought with
    | true =>
      rw [hso] at c10
      have cp := pack_c hL3 f k (own_fp sb vr vb vf)
      go_wp2_with (go_at_call 292; (with_reducible refine cp.mono ?_); rintro e W4 ⟨rfl, hU4, vr4, hL4, hO4⟩; clear cp)
      have keep : ∀ x : Nat, W.heap.size ≤ x → x < W3.heap.size → W4.heap[x]? = W3.heap[x]? := fun x h1 h2 => hU4.block x h2 (fun g => by have := fp_lt h x g; omega)
      have s4 := hU4.size
      have hU4S : Upd S W W4 := hU3.trans (hU4.mono (fun k g => .inl (fp_own hO k g)))
      have hO4S : Own S sb vr4 vb vf := hO4.mono (fp_own hO)
      have d1 := box_of (keep W.heap.size (by omega) b1.lt) b1
      have d2 := box_of (keep (W.heap.size + 1) (by omega) b2.lt) b2
      have mD := (keep D (by omega) (Array.getElem?_eq_some_iff.1 hD2).1).trans hD2
      have hz0 : 0 < c.length := k.ne
      obtain ⟨z, hzc⟩ : ∃ z, c[c.length - 1]? = some z := ⟨_, List.getElem?_eq_getElem (by omega)⟩
      have hlt : c.length - 1 < c.length := by omega
      have hg : (packedSto (s) c bl p l en).get z = some { bl (c.length - 1) with pos := en (c.length - 1) } := packN_earlier k c.length (c.length - 1) z hlt (Nat.le_refl _) hzc
      have hnx : (bl (c.length - 1)).next = ((0 : Nat) : Int) := by rw [k.next _ hlt, List.getElem?_eq_none (by omega)]; rfl
      have hhand : (packedSto (s) c bl p l en).hand = (z : Nat) := packN_hand hzc
      have hroom : size ≤ roomAt (packedSto (s) c bl p l en) [z] 0 := by
        have e1 := k.en1 (c.length - 1) hlt
        rw [show c.length - 1 + 1 = c.length by omega] at e1
        have hst : ({ bl (c.length - 1) with pos := (en (c.length - 1) : Int) } : Blk).stop = (en c.length : Nat) := by
          show (en (c.length - 1) : Int) + up8 (bl (c.length - 1)).len = _
          rw [k.len _ hlt, k.up _ hlt, e1]; omega
        have hus' : (packedSto (s) c bl p l en).used = s.used := (packN_rest c.length).2.1
        show size ≤ roomOf _ ((packedSto (s) c bl p l en).getD z) 0 _
        rw [getD_of hg, roomOf, if_pos rfl, hst, hus']
        have := f.used0
        omega
      rw [rounds_succ]
      refine wp_block (wp_seq (seek_pass h (fit_packed f k) hU4S hL4 hO.sb size d1 d2 [z] (by simp) (by simp) (by simp) hhand (by intro i hi; have e : i = 0 := (by rw [List.length_singleton] at hi; omega); subst e; exact ⟨_, hg, hnx⟩) rfl _ _ _ _ _ _ _ _ _ _ _ _ _ _ _ _ _ _ _ _ _ _ _ _ _ _ _ _ _ _ _ _ _ _ _ ?d2 ?s2))
      case d2 =>
        rintro W5 D5 hr5 _ _ _ _ _ _ _
        exact absurd hroom (by have := hr5 0 (by simp); omega)
      case s2 =>
        rintro W5 D5 i hi hr5 hU5 hL5 b5 hD5 hD6 hold5
        dsimp only
        have ei : i = 0 := by rw [List.length_singleton] at hi; omega
        subst ei
        have hL5' : Lay W5 sb vr4 vb vf (packedSto (s) c bl p l en) := by
          have e : ({ packedSto (s) c bl p l en with hand := (([z][0]'hi : Nat) : Int) } : Sto) = packedSto (s) c bl p l en := by rw [show ([z][0]'hi) = z from rfl, ← hhand]
          rw [← e]; exact hL5
        have cs5 := b5.cell
        have c9 := hL5'.cell 9
        simp [Sto.obj, hhand] at c9
        have HP := (show Hid _ from seek_hit_packed (W := W) (S := S) (h := s.hand) (b := s.sought) k f hn hnc (hO4S.mono (fun _ g => .inl g)) hU5 size z hzc hL5')
        have nD := (hold5 D (by omega) (Array.getElem?_eq_some_iff.1 mD).1).trans mD
        have qD := (Array.getElem?_eq_some_iff.1 mD).1
        clear hL5 hL5' hU5 hold5
        go_wp2
        (try rw [Exit.noGoto_ret])
        refine ⟨by simp, .inl ⟨_, _, rfl, run_takeDeferred hD6, ?_⟩⟩
        have rD : (W5.putObj D5 (.deferred none)).heap[D]? = some (.deferred (some [])) := ((World.putObj_heap_other (by omega)).trans (nD))
        refine ⟨by simp, .inl ⟨_, _, rfl, run_takeDeferred rD, ?_⟩⟩
        refine ⟨_, results_tmp rfl _ _ _, ?_⟩
        exact seekpost_put (seekpost_put HP.out hD6 (by omega) _) rD (by omega) _
    | false =>
      rw [hso] at c10
      have th9 := hL3.thaw 9
      have th10 := hL3.thaw 10
      have c9 := hL3.cell 9
      simp [Sto.obj] at c9
      go_wp2
      refine wp_region_noPanic ?_
      go_region
      refine NoPanic.normal ?_
      go_wp2
      have k7 : Pk (s.turn 0 true) c bl p l u en := k.congr (fun _ => rfl) rfl
      have hL6 : Lay ((W3.setCell ⟨sb, 9, none⟩ (.int .i64 0)).setCell ⟨sb, 10, none⟩ (.bool true)).drew sb vr vb vf (s.turn 0 true) := by
        have x1 := hL3.store (s' := { s with hand := 0 }) 9 (.int .i64 0) rfl rfl rfl rfl
        exact (x1.store (s' := s.turn 0 true) 10 (.bool true) rfl rfl rfl rfl).drew
      have hU6 := ((hU3.setCell (p := ⟨sb, 9, none⟩) (.inl hO.sb) (.int .i64 0)).setCell (p := ⟨sb, 10, none⟩) (.inl hO.sb) (.bool true)).drew
      have keep6 : ∀ x : Nat, x ≠ sb → ((W3.setCell ⟨sb, 9, none⟩ (.int .i64 0)).setCell ⟨sb, 10, none⟩ (.bool true)).drew.heap[x]? = W3.heap[x]? := fun x hx => by
        show ((W3.setCell ⟨sb, 9, none⟩ (.int .i64 0)).setCell ⟨sb, 10, none⟩ (.bool true)).heap[x]? = _
        rw [Below.heap_setCell _ _ _ _ hx, Below.heap_setCell _ _ _ _ hx]
      have b61 := box_of (keep6 W.heap.size (by omega)) b1
      have b62 := box_of (keep6 (W.heap.size + 1) (by omega)) b2
      have hD6' := (keep6 D (by omega)).trans hD2
      have z6 : ((W3.setCell ⟨sb, 9, none⟩ (.int .i64 0)).setCell ⟨sb, 10, none⟩ (.bool true)).drew.heap.size = W3.heap.size := by
        show ((W3.setCell ⟨sb, 9, none⟩ (.int .i64 0)).setCell ⟨sb, 10, none⟩ (.bool true)).heap.size = _
        simp [World.setCell]
      clear c9 th9 th10 c10 cs keep6
      generalize World.drew (World.setCell (World.setCell W3 _ _) _ _) = W6 at *
      have e0 : c[0]'k.ne = 0 := by have := k.zero; rw [List.getElem?_eq_getElem k.ne] at this; exact Option.some.inj this
      rw [rounds_succ]
      refine wp_block (wp_seq (seek_pass h (fit_turn f 0 true) hU6 hL6 hO.sb size b61 b62 c k.ne k.nodup (by have := drop_nz k 0; simpa using this) (by rw [e0]; rfl) (by have := chain_drop k7 0; simpa using this) rfl _ _ _ _ _ _ _ _ _ _ _ _ _ _ _ _ _ _ _ _ _ _ _ _ _ _ _ _ _ _ _ _ _ _ _ ?d2 ?s2))
      case s2 =>
        rintro W7 D7 i hi hr7 hU7 hL7 b71 hD71 hD72 hold7
        dsimp only
        have hr7' : size ≤ roomAt s c i := hr7
        have cs7 := b71.cell
        have c9 := hL7.cell 9
        simp [Sto.obj] at c9
        have HP := (show Hid _ from seek_hit k f hn hnc (hO.mono (fun _ g => .inl g)) hU7 size i hi true hL7 hr7')
        have nD := (hold7 D (by omega) (by omega)).trans hD6'
        clear hL7 hU7 hold7
        go_wp2
        (try rw [Exit.noGoto_ret])
        refine ⟨by simp, .inl ⟨_, _, rfl, run_takeDeferred hD72, ?_⟩⟩
        have rD : (W7.putObj D7 (.deferred none)).heap[D]? = some (.deferred (some [])) := (World.putObj_heap_other (by omega)).trans nD
        refine ⟨by simp, .inl ⟨_, _, rfl, run_takeDeferred rD, ?_⟩⟩
        refine ⟨_, results_tmp rfl _ _ _, ?_⟩
        exact seekpost_put (seekpost_put HP.out hD72 (by omega) _) rD (by omega) _
      case d2 =>
        rintro W7 D7 hr7 hU7 hL7 b71 b72 hD71 hD72 hold7
        dsimp only
        have c10 := hL7.cell 10
        simp [Sto.obj, Sto.turn] at c10
        have cs := b71.cell
        have hDD := (hold7 D (by omega) (by omega)).trans hD6'
        have ltD7 := (Array.getElem?_eq_some_iff.1 hD72).1
        have cp := pack_c hL7 (fit_turn f 0 true) k7 (own_fp sb vr vb vf)
        go_wp2_with (go_at_call 292; (with_reducible refine cp.mono ?_); rintro e W4 ⟨rfl, hU4, vr4, hL4, hO4⟩; clear cp)
        have keep : ∀ x : Nat, W.heap.size ≤ x → x < W7.heap.size → W4.heap[x]? = W7.heap[x]? := fun x h1 h2 => hU4.block x h2 (fun g => by have := fp_lt h x g; omega)
        have s4 := hU4.size
        have hU4S : Upd S W W4 := hU7.trans (hU4.mono (fun k g => .inl (fp_own hO k g)))
        have hO4S : Own S sb vr4 vb vf := hO4.mono (fp_own hO)
        have d1 := box_of (keep W.heap.size (by omega) b71.lt) b71
        have d2 := box_of (keep (W.heap.size + 1) (by omega) b72.lt) b72
        have mD7 := (keep D7 (by omega) (Array.getElem?_eq_some_iff.1 hD72).1).trans hD72
        have mD := (keep D (by omega) (Array.getElem?_eq_some_iff.1 hDD).1).trans hDD
        have hz0 : 0 < c.length := k.ne
        obtain ⟨z, hzc⟩ : ∃ z, c[c.length - 1]? = some z := ⟨_, List.getElem?_eq_getElem (by omega)⟩
        have hlt : c.length - 1 < c.length := by omega
        have hg : (packedSto (s.turn 0 true) c bl p l en).get z = some { bl (c.length - 1) with pos := en (c.length - 1) } := packN_earlier k7 c.length (c.length - 1) z hlt (Nat.le_refl _) hzc
        have hnx : (bl (c.length - 1)).next = ((0 : Nat) : Int) := by rw [k.next _ hlt, List.getElem?_eq_none (by omega)]; rfl
        have hhand : (packedSto (s.turn 0 true) c bl p l en).hand = (z : Nat) := packN_hand hzc
        have hroom : size ≤ roomAt (packedSto (s.turn 0 true) c bl p l en) [z] 0 := by
          have e1 := k.en1 (c.length - 1) hlt
          rw [show c.length - 1 + 1 = c.length by omega] at e1
          have hst : ({ bl (c.length - 1) with pos := (en (c.length - 1) : Int) } : Blk).stop = (en c.length : Nat) := by
            show (en (c.length - 1) : Int) + up8 (bl (c.length - 1)).len = _
            rw [k.len _ hlt, k.up _ hlt, e1]; omega
          have hus' : (packedSto (s.turn 0 true) c bl p l en).used = s.used := (packN_rest c.length).2.1
          show size ≤ roomOf _ ((packedSto (s.turn 0 true) c bl p l en).getD z) 0 _
          rw [getD_of hg, roomOf, if_pos rfl, hst, hus']
          have := f.used0
          omega
        rw [rounds_succ]
        refine wp_block (wp_seq (seek_pass h (fit_packed (fit_turn f 0 true) k7) hU4S hL4 hO.sb size d1 d2 [z] (by simp) (by simp) (by simp) hhand (by intro i hi; have e : i = 0 := (by rw [List.length_singleton] at hi; omega); subst e; exact ⟨_, hg, hnx⟩) rfl _ _ _ _ _ _ _ _ _ _ _ _ _ _ _ _ _ _ _ _ _ _ _ _ _ _ _ _ _ _ _ _ _ _ _ ?d3 ?s3))
        case d3 =>
          rintro W5 D5 hr5 _ _ _ _ _ _ _
          exact absurd hroom (by have := hr5 0 (by simp); omega)
        case s3 =>
          rintro W5 D5 i hi hr5 hU5 hL5 b5 hD5 hD6 hold5
          dsimp only
          have ei : i = 0 := by rw [List.length_singleton] at hi; omega
          subst ei
          have hL5' : Lay W5 sb vr4 vb vf (packedSto (s.turn 0 true) c bl p l en) := by
            have e : ({ packedSto (s.turn 0 true) c bl p l en with hand := (([z][0]'hi : Nat) : Int) } : Sto) = packedSto (s.turn 0 true) c bl p l en := by rw [show ([z][0]'hi) = z from rfl, ← hhand]
            rw [← e]; exact hL5
          have cs5 := b5.cell
          have c9 := hL5'.cell 9
          simp [Sto.obj, hhand] at c9
          have HP := (show Hid _ from seek_hit_packed (W := W) (S := S) (h := 0) (b := true) k f hn hnc (hO4S.mono (fun _ g => .inl g)) hU5 size z hzc hL5')
          have nD7 := (hold5 D7 (by omega) (Array.getElem?_eq_some_iff.1 mD7).1).trans mD7
          have qD7 := (Array.getElem?_eq_some_iff.1 mD7).1
          have nD := (hold5 D (by omega) (Array.getElem?_eq_some_iff.1 mD).1).trans mD
          have qD := (Array.getElem?_eq_some_iff.1 mD).1
          clear hL5 hL5' hU5 hold5
          go_wp2
          (try rw [Exit.noGoto_ret])
          refine ⟨by simp, .inl ⟨_, _, rfl, run_takeDeferred hD6, ?_⟩⟩
          have rD7 : (W5.putObj D5 (.deferred none)).heap[D7]? = some (.deferred (some [])) := ((World.putObj_heap_other (by omega)).trans (nD7))
          refine ⟨by simp, .inl ⟨_, _, rfl, run_takeDeferred rD7, ?_⟩⟩
          have rD : ((W5.putObj D5 (.deferred none)).putObj D7 (.deferred none)).heap[D]? = some (.deferred (some [])) := ((World.putObj_heap_other (by omega)).trans ((World.putObj_heap_other (by omega)).trans nD))
          refine ⟨by simp, .inl ⟨_, _, rfl, run_takeDeferred rD, ?_⟩⟩
          refine ⟨_, results_tmp rfl _ _ _, ?_⟩
          exact seekpost_put (seekpost_put (seekpost_put HP.out hD6 (by omega) _) rD7 (by omega) _) rD (by omega) _
end
end Go.Proofs.YtgkakflnmpoadaaGreatDoor.W
/- Package store: New; leastId where no Id has been given back; Used, Span, Len. -/
namespace Go.Proofs.YtgkakflnmpoadaaGreatDoor.W
open Go.ChangeShapes Go.WideShapes Go.RowKit Go.Shelf
set_option linter.unusedVariables false

def noBlk : Blk := ⟨false, 0, 0, 0, 0⟩
def emptySto : Sto := ⟨[], noBlk, [], [], 0, 0, false⟩
theorem new_c (W : World) : Calls Tryz.prog 10 #[] W fun e w' => e = .returned (.pointer (some ⟨W.heap.size, 0, none⟩)) ∧ Lay w' W.heap.size (.slice none 0 0) (.slice none 0 0) (.slice none 0 0) emptySto ∧ Below W.heap.size W w' ∧ w'.heap.size = W.heap.size + 1 := by
  go_enter Tryz.func10, Tryz.ntmps10
  go_wp2
  go_ret
  refine ⟨rfl, ⟨heap_alloc_new W _, World.ownsRow_nil _ _ _ _, World.ownsRow_nil _ _ _ _, World.ownsRow_nil _ _ _ _⟩, (Below.refl _ _).alloc (Nat.le_refl _) _, by simp⟩
theorem info59 : (Tryz.prog.info? 64).map (fun i => (i.zero, i.size, i.bytes)) = some (some (.agg #[.bool false, .int .i64 0, .int .i64 0, .int .i64 0, .int .i64 0]), 5, 40) := by kernel_rfl
theorem under60 : Tryz.prog.underlying 65 = some (.slice 64) := by kernel_rfl
section
variable {W : World} {sb : Nat} {vr vb vf : Value} {s : Sto}
theorem slice_of {e : TypeId} {size : Nat} {v : Value} {n : Nat} {xs : List Value} (h : W.ownsRow 0 e size v n xs) : ∃ o cap, v = .slice o n cap := by
  rcases h.2 with ⟨rfl, rfl⟩ | ⟨g, cap, cur, rfl, _⟩
  · exact ⟨_, _, rfl⟩
  · exact ⟨_, _, rfl⟩
theorem len_some (h : Lay W sb vr vb vf s) (hlen : s.blks.length ≤ 1000000000) (id : Int) (b : Blk) (hx : s.ext id = some b) :
    Calls Tryz.prog 171 #[.pointer (some ⟨sb, 0, none⟩), .int .i64 id] W fun e w' => e = .returned (.tuple #[.int .i64 b.len, .int .i64 0]) ∧ w' = W := by
  have ch := has_c h hlen id
  simp only [hx, Option.isSome_some] at ch
  obtain ⟨k, rfl, hb, hl⟩ := ext_some hx
  have h1 := (List.getElem?_eq_some_iff.1 hb).1
  have hg : s.get (k + 1) = some b := by unfold Sto.get; rw [if_neg (by omega)]; exact hb
  obtain ⟨g, cap, rfl, _⟩ := own_slice h.blk (Nat.lt_of_le_of_lt (Nat.zero_le _) h1)
  obtain ⟨_, _, b2, _, _⟩ := bcells h hg (.inr ⟨by omega, rfl, rfl⟩)
  simp only [Nat.add_sub_cancel] at b2
  have c6 := h.cell 6
  simp [Sto.obj] at c6
  have h0' : (0 : Int) ≤ k := by omega
  have h1' : (k : Int) < s.blks.length := by omega
  clear hg hb hx
  go_enter Tryz.func171, Tryz.ntmps171
  go_wp2_with (go_at_call 208; (with_reducible refine ch.mono ?_); rintro e w' ⟨rfl, hw⟩; (have hw' := hw.symm); subst hw'; clear hw)
  go_ret2
  exact ⟨rfl, rfl⟩
set_option maxHeartbeats 1000000 in
theorem leastId_new (h : Lay W sb vr vb vf s) (hf : s.free = []) (hlen : s.blks.length ≤ 1000000000) {S : Nat → Prop} (hO : Own S sb vr vb vf) :
    Calls Tryz.prog 214 #[.pointer (some ⟨sb, 0, none⟩)] W fun e w' => e = .returned (.int .i64 s.blks.length) ∧ Upd S W w' ∧ ∃ vb', Lay w' sb vr vb' vf { s with blks := s.blks ++ [noBlk] } ∧ Own (Nx S W w') sb vr vb' vf := by
  have hfr := h.free
  rw [hf] at hfr
  obtain ⟨o, cap, hvf⟩ := slice_of hfr
  simp only [List.length_nil] at hvf
  have c7 := h.cell 7
  have c6 := h.cell 6
  simp [Sto.obj, hvf] at c7 c6
  obtain ⟨i0, hi, hz0, hz1, hz2⟩ := info_parts info59
  have hnews : ∀ j u, noBlk.cells[j]? = some u → (W.alloc (.cells #[.bool false, .int .i64 0, .int .i64 0, .int .i64 0, .int .i64 0] 64)).cell? ((⟨W.heap.size, 0, none⟩ : Addr).add j) = some u := by
    intro j u hj
    have e : (⟨W.heap.size, 0, none⟩ : Addr).add j = ⟨W.heap.size, j, none⟩ := by unfold Addr.add; split <;> simp_all
    rw [e, World.cell?_alloc_new]
    simpa [Blk.cells, noBlk] using hj
  have ho1 : ∀ u ∈ noBlk.cells, u.oneCell' = true := by intro u hu; simp [Blk.cells, noBlk] at hu; rcases hu with rfl | rfl <;> rfl
  obtain ⟨vb', W4, hrun, hown, hgr, hnew⟩ := append_at (P := Tryz.prog) (W.alloc (.cells #[.bool false, .int .i64 0, .int .i64 0, .int .i64 0, .int .i64 0] 64)) 65 65 64 i0 _ 5 40 under60 hi hz0 hz1 hz2 rfl (by decide) vb s.blks.length (flat s.blks) (h.blk.alloc _) ⟨W.heap.size, 0, none⟩ 1 1 noBlk.cells rfl hnews ho1 (by decide) (by decide) (by omega)
  obtain ⟨g4, cap4, rfl, hcap4⟩ := own_slice hown (by omega)
  have hLa := h.alloc (.cells #[.bool false, .int .i64 0, .int .i64 0, .int .i64 0, .int .i64 0] 64)
  have hL5 : Lay (W4.setCell ⟨sb, 6, none⟩ (.slice (some ⟨g4, 0, none⟩) (s.blks.length + 1) cap4)) sb vr (.slice (some ⟨g4, 0, none⟩) (s.blks.length + 1) cap4) vf { s with blks := s.blks ++ [noBlk] } := by
    refine hLa.regrow_blk hgr ?_
    rw [flat_append, List.length_append]
    exact hown
  have hUa := (Upd.refl S W).alloc (.cells #[.bool false, .int .i64 0, .int .i64 0, .int .i64 0, .int .i64 0] 64)
  have hU4 := hUa.grown hgr (fun k e => .inl (hO.blk k e))
  have hU5 := hU4.setCell (p := ⟨sb, 6, none⟩) (.inl hO.sb) (.slice (some ⟨g4, 0, none⟩) (s.blks.length + 1) cap4)
  have hO5 : Own (Nx S W (W4.setCell ⟨sb, 6, none⟩ (.slice (some ⟨g4, 0, none⟩) (s.blks.length + 1) cap4))) sb vr (.slice (some ⟨g4, 0, none⟩) (s.blks.length + 1) cap4) vf := by
    refine ⟨.inl hO.sb, fun k e => .inl (hO.row k e), fun k e => ?_, fun k e => .inl (hO.free k e)⟩
    rcases hnew k e with g | ⟨g1, g2⟩
    · exact .inl (hO.blk k g)
    · exact .inr ⟨by simp at g1; omega, by simpa [World.setCell] using g2⟩
  have hob4 : W4.heap[sb]? = (W.alloc (.cells #[.bool false, .int .i64 0, .int .i64 0, .int .i64 0, .int .i64 0] 64)).heap[sb]? := hgr.block sb (lay_lt hLa).1 (own_ne hLa.blk hLa.obj (by decide))
  have th4 : W4.frozen? ⟨sb, 6, none⟩ = false := by rw [World.frozen?_of_block hob4]; exact hLa.thaw 6
  have c4 : W4.cell? ⟨sb, 6, none⟩ = some vb := by rw [World.cell?_of_block hob4, hLa.cell 6]; rfl
  have c6' := hL5.cell 6
  simp [Sto.obj] at c6'
  have HL := hid hL5
  have HU := hid hU5
  have HO := hid hO5
  clear hL5 hU5 hO5 hU4 hUa hgr hnew hown hob4 hLa hfr
  go_enter Tryz.func214, Tryz.ntmps214
  go_wp2_with (at_builtin; refine Lib.wpList_append_run _ rfl _ _ _ _ rfl _ _ rfl rfl _ _ hrun ?_)
  go_ret
  exact ⟨rfl, HU, _, HL, HO⟩
end
end Go.Proofs.YtgkakflnmpoadaaGreatDoor.W
/- Package store: the heap of free Ids: its methods. -/
namespace Go.Proofs.YtgkakflnmpoadaaGreatDoor.W
open Go.ChangeShapes Go.WideShapes Go.RowKit Go.Shelf
set_option linter.unusedVariables false
section
variable {W : World} {sb : Nat} {vr vb vf : Value} {s : Sto}
theorem meth_push (sb : Nat) (w : World) : (method 414 219 (.pointer (some ⟨sb, 7, none⟩)) "Push").run Tryz.prog w = .ok (330, .pointer (some ⟨sb, 7, none⟩)) w := by kernel_rfl
theorem meth_pop (sb : Nat) (w : World) : (method 414 219 (.pointer (some ⟨sb, 7, none⟩)) "Pop").run Tryz.prog w = .ok (329, .pointer (some ⟨sb, 7, none⟩)) w := by kernel_rfl
theorem meth_len (sb : Nat) (w : World) (o : Option Addr) (n c : Nat) (hc : w.cell? ⟨sb, 7, none⟩ = some (.slice o n c)) : (method 414 219 (.pointer (some ⟨sb, 7, none⟩)) "Len").run Tryz.prog w = .ok (326, .slice o n c) w := by
  have e : (method 414 219 (.pointer (some ⟨sb, 7, none⟩)) "Len").run Tryz.prog w = ((do let v ← loadVar 67 ⟨sb, 7, none⟩; pure (326, v) : Sem (FuncId × Value))).run Tryz.prog w := by kernel_rfl
  rw [e]
  simp [go_sem, loadVar, hc]
theorem meth_less (sb : Nat) (w : World) (o : Option Addr) (n c : Nat) (hc : w.cell? ⟨sb, 7, none⟩ = some (.slice o n c)) : (method 414 219 (.pointer (some ⟨sb, 7, none⟩)) "Less").run Tryz.prog w = .ok (327, .slice o n c) w := by
  have e : (method 414 219 (.pointer (some ⟨sb, 7, none⟩)) "Less").run Tryz.prog w = ((do let v ← loadVar 67 ⟨sb, 7, none⟩; pure (327, v) : Sem (FuncId × Value))).run Tryz.prog w := by kernel_rfl
  rw [e]
  simp [go_sem, loadVar, hc]
theorem meth_swap (sb : Nat) (w : World) (o : Option Addr) (n c : Nat) (hc : w.cell? ⟨sb, 7, none⟩ = some (.slice o n c)) : (method 414 219 (.pointer (some ⟨sb, 7, none⟩)) "Swap").run Tryz.prog w = .ok (328, .slice o n c) w := by
  have e : (method 414 219 (.pointer (some ⟨sb, 7, none⟩)) "Swap").run Tryz.prog w = ((do let v ← loadVar 67 ⟨sb, 7, none⟩; pure (328, v) : Sem (FuncId × Value))).run Tryz.prog w := by kernel_rfl
  rw [e]
  simp [go_sem, loadVar, hc]
theorem fcell (h : Lay W sb vr vb vf s) {g cap : Nat} (hf : vf = .slice (some ⟨g, 0, none⟩) s.free.length cap) (j : Nat) (hj : j < s.free.length) : W.cell? ⟨g, j, none⟩ = some (.int .i64 s.free[j]) := by
  subst hf
  rw [h.free.cellAt j (by omega)]
  simp [hj]
theorem less_c (h : Lay W sb vr vb vf s) {g cap : Nat} (hf : vf = .slice (some ⟨g, 0, none⟩) s.free.length cap) (hlen : s.free.length ≤ 1000000000) (i j : Nat) (hi : i < s.free.length) (hj : j < s.free.length) :
    Calls Tryz.prog 327 #[.slice (some ⟨g, 0, none⟩) s.free.length cap, .int .i64 i, .int .i64 j] W fun e w' => e = .returned (.bool (decide (s.free[i] < s.free[j]))) ∧ ∃ m, w' = W.drewN m := by
  have ci := fcell h hf i hi
  have cj := fcell h hf j hj
  have i0 : (0 : Int) ≤ i := by omega
  have i1 : (i : Int) < s.free.length := by omega
  have j0 : (0 : Int) ≤ j := by omega
  have j1 : (j : Int) < s.free.length := by omega
  generalize s.free[i] = x at *
  generalize s.free[j] = y at *
  go_enter Tryz.func327, Tryz.ntmps327
  go_wp2
  go_quiet (fail)
  go_wp2
  go_ret
  exact ⟨rfl, _, rfl⟩
/-- two elements change places -/
def swp (l : List Int) (i j : Nat) : List Int := (l.set i (l.getD j 0)).set j (l.getD i 0)
theorem swp_len (l : List Int) (i j : Nat) : (swp l i j).length = l.length := by simp [swp]
theorem Lay.fstore (h : Lay W sb vr vb vf s) {g cap : Nat} (hr : vf = .slice (some ⟨g, 0, none⟩) s.free.length cap) (j : Nat) (n : Int) : Lay (W.setCell ⟨g, j, none⟩ (.int .i64 n)) sb vr vb vf { s with free := s.free.set j n } := by
  subst hr
  have hst := (h.free.stored j (.int .i64 n)).1
  obtain ⟨_, hq⟩ := h.free
  rcases hq with ⟨hq, _⟩ | ⟨g', cap', cur, hq, _, hgg, _⟩
  · cases hq
  · simp at hq
    obtain ⟨rfl, rfl⟩ := hq
    refine ⟨?_, own_other h.row hgg (by decide) _ _, own_other h.blk hgg (by decide) _ _, ?_⟩
    · rw [Below.heap_setCell _ _ _ _ (by rintro rfl; have := h.obj; rw [hgg] at this; simp at this)]
      exact h.obj
    · show World.ownsRow _ 0 3 1 (.slice (some ⟨g, 0, none⟩) s.free.length cap) (s.free.set j n).length ((s.free.set j n).map (.int .i64))
      rw [List.length_set, List.map_set]
      exact hst
theorem swap_c (h : Lay W sb vr vb vf s) {g cap : Nat} (hf : vf = .slice (some ⟨g, 0, none⟩) s.free.length cap) (hlen : s.free.length ≤ 1000000000) (i j : Nat) (hi : i < s.free.length) (hj : j < s.free.length) :
    Calls Tryz.prog 328 #[.slice (some ⟨g, 0, none⟩) s.free.length cap, .int .i64 i, .int .i64 j] W fun e w' => e = .returned (.tuple #[]) ∧ Lay w' sb vr vb vf { s with free := swp s.free i j } ∧ Upd (fun k => k = g) W w' := by
  have ci := fcell h hf i hi
  have cj := fcell h hf j hj
  have fr := h.free
  rw [hf] at fr
  have ti := fr.frozenAt i
  have tj := fr.frozenAt j
  have i0 : (0 : Int) ≤ i := by omega
  have i1 : (i : Int) < s.free.length := by omega
  have j0 : (0 : Int) ≤ j := by omega
  have j1 : (j : Int) < s.free.length := by omega
  have hx : s.free.getD i 0 = s.free[i] := by simp [hi]
  have hy : s.free.getD j 0 = s.free[j] := by simp [hj]
  have hL1 := h.fstore hf i (s.free.getD j 0)
  have hL2 := hL1.fstore (g := g) (cap := cap) (by rw [hf]; simp) j (s.free.getD i 0)
  have hU2 := ((Upd.refl (fun k => k = g) W).setCell (p := ⟨g, i, none⟩) (.inl rfl) (.int .i64 (s.free.getD j 0))).setCell (p := ⟨g, j, none⟩) (.inl rfl) (.int .i64 (s.free.getD i 0))
  obtain ⟨v2, hv2⟩ : ∃ v2, (W.setCell ⟨g, i, none⟩ (.int .i64 (s.free.getD j 0))).cell? ⟨g, j, none⟩ = some v2 := by
    have e := fcell hL1 (g := g) (cap := cap) (by rw [hf]; simp) j (by simpa using hj)
    exact ⟨_, e⟩
  rw [hx, hy] at hL2 hU2
  rw [hy] at hv2
  have HL := (show Hid _ from hL2)
  have HU := (show Hid _ from hU2)
  clear hL1 hL2 hU2
  generalize s.free[i] = x at *
  generalize s.free[j] = y at *
  go_enter Tryz.func328, Tryz.ntmps328
  go_wp2
  go_region
  go_wp2
  go_end0
  refine ⟨rfl, ?_, HU.out.drew⟩
  have e : swp s.free i j = (s.free.set i y).set j x := by rw [swp, hx, hy]
  rw [e]
  exact HL.out.drew
theorem info3 : (Tryz.prog.info? 3).map (fun i => (i.zero, i.size, i.bytes)) = some (some (.int .i64 0), 1, 8) := by kernel_rfl
theorem under61 : Tryz.prog.underlying 67 = some (.slice 3) := by kernel_rfl
theorem step_append_run {P : Program} {ops : Array Oper} {o : Oper} {a : Act} {w : World} {K : Act → World → Prop} {Q : Exit → Act → World → Prop} {E : Prop} (hg : o.guard = none) (s x : Operand) (t tn : TypeId)
    (ho : o.op = .call { callee := .builtin .append, args := #[s, x], argTypes := #[t, tn] }) (vs vx : Value) (hs : a.eval s = vs) (hx : a.eval x = vx) (v' : Value) (w' : World) (hr : (Builtin.append_ #[t, tn] o.type #[vs, vx]).run P w = .ok v' w') (hK : K (a.put o.dst v') w') :
    if Region.wanted o (yielded ops a.tmps) = true then Oper.wp P o a w K Q else E := by
  have hw : Region.wanted o (yielded ops a.tmps) = true := by simp [Region.wanted, hg]
  rw [if_pos hw]
  exact Lib.wp_append_run w s x t tn ho vs vx hs hx v' w' hr hK
theorem assert_int (x : Int) (w : World) : (Instr.typeAssert (.iface 3 (.int .i64 x)) 20 3 false).run Tryz.prog w = .ok (.int .i64 x) w := by kernel_rfl
theorem push_m (h : Lay W sb vr vb vf s) (hlen : s.free.length ≤ 1000000000) (x : Int) {S : Nat → Prop} (hO : Own S sb vr vb vf) :
    Calls Tryz.prog 330 #[.pointer (some ⟨sb, 7, none⟩), .iface 3 (.int .i64 x)] W fun e w' => e = .returned (.tuple #[]) ∧ Upd S W w' ∧ ∃ vf', Lay w' sb vr vb vf' { s with free := s.free ++ [x] } ∧ Own (Nx S W w') sb vr vb vf' := by
  obtain ⟨i0, hi, hz0, hz1, hz2⟩ := info_parts info3
  have hLa := (h.alloc (.cells #[.int .i64 x] 3)).drew
  have hnews : ∀ j u, [Value.int .i64 x][j]? = some u → ((W.alloc (.cells #[.int .i64 x] 3)).drew).cell? ((⟨W.heap.size, 0, none⟩ : Addr).add j) = some u := by
    intro j u hj
    have e : (⟨W.heap.size, 0, none⟩ : Addr).add j = ⟨W.heap.size, j, none⟩ := by unfold Addr.add; split <;> simp_all
    rw [e]
    have := World.cell?_alloc_new W #[Value.int .i64 x] 3 j
    show (W.alloc (.cells #[.int .i64 x] 3)).cell? ⟨W.heap.size, j, none⟩ = _
    rw [this]
    simpa using hj
  obtain ⟨vf', W4, hrun, hown, hgr, hnew⟩ := append_at (P := Tryz.prog) ((W.alloc (.cells #[.int .i64 x] 3)).drew) 67 67 3 i0 _ 1 8 under61 hi hz0 hz1 hz2 rfl (by decide) vf s.free.length (s.free.map (.int .i64)) hLa.free ⟨W.heap.size, 0, none⟩ 1 1 [.int .i64 x] rfl hnews (by intro u hu; simp at hu; subst hu; rfl) (by decide) (by decide) (by omega)
  obtain ⟨g4, cap4, rfl, hcap4⟩ := own_slice hown (by omega)
  have hL5 : Lay (W4.setCell ⟨sb, 7, none⟩ (.slice (some ⟨g4, 0, none⟩) (s.free.length + 1) cap4)) sb vr vb (.slice (some ⟨g4, 0, none⟩) (s.free.length + 1) cap4) { s with free := s.free ++ [x] } := by
    refine hLa.regrow_free hgr ?_
    rw [List.length_append, List.map_append]
    exact hown
  have hUa := ((Upd.refl S W).alloc (.cells #[.int .i64 x] 3)).drew
  have hU4 := hUa.grown hgr (fun k e => .inl (hO.free k e))
  have hU5 := hU4.setCell (p := ⟨sb, 7, none⟩) (.inl hO.sb) (.slice (some ⟨g4, 0, none⟩) (s.free.length + 1) cap4)
  have za : ((W.alloc (.cells #[.int .i64 x] 3)).drew).heap.size = W.heap.size + 1 := by
    show (W.alloc (.cells #[.int .i64 x] 3)).heap.size = _
    rw [World.size_alloc]
  have hO5 : Own (Nx S W (W4.setCell ⟨sb, 7, none⟩ (.slice (some ⟨g4, 0, none⟩) (s.free.length + 1) cap4))) sb vr vb (.slice (some ⟨g4, 0, none⟩) (s.free.length + 1) cap4) := by
    refine ⟨.inl hO.sb, fun k e => .inl (hO.row k e), fun k e => .inl (hO.blk k e), fun k e => ?_⟩
    rcases hnew k e with g | ⟨g1, g2⟩
    · exact .inl (hO.free k g)
    · exact .inr ⟨by omega, by simpa [World.setCell] using g2⟩
  have hob4 : W4.heap[sb]? = ((W.alloc (.cells #[.int .i64 x] 3)).drew).heap[sb]? := hgr.block sb (lay_lt hLa).1 (own_ne hLa.free hLa.obj (by decide))
  have th4 : W4.frozen? ⟨sb, 7, none⟩ = false := by rw [World.frozen?_of_block hob4]; exact hLa.thaw 7
  have c4 : W4.cell? ⟨sb, 7, none⟩ = some vf := by rw [World.cell?_of_block hob4, hLa.cell 7]; rfl
  have c7 := h.cell 7
  simp [Sto.obj] at c7
  have c7a := (h.alloc (.cells #[.int .i64 x] 3)).cell 7
  simp [Sto.obj] at c7a
  obtain ⟨o, cap, hvf⟩ := slice_of h.free
  rw [hvf] at hrun c4 c7 c7a
  have HL := (show Hid _ from hL5)
  have HU := (show Hid _ from hU5)
  have HO := (show Hid _ from hO5)
  clear hL5 hU5 hO5 hU4 hUa hgr hnew hown hob4 hLa
  have hta := assert_int x
  go_enter Tryz.func330, Tryz.ntmps330
  go_wp2
  go_region_law (refine step_append_run rfl (.tmp 7) (.tmp 10) 67 67 rfl _ _ (by simp [Act.eval]) (by simp [Act.eval]) _ _ hrun ?_)
  all_goals (
    go_end0
    exact ⟨rfl, HU, _, HL, HO⟩)
theorem free_take {n : Nat} {free : List Int} (h : free.length = n + 1) : free.dropLast.length = n ∧ (free.map (Value.int .i64)).take n = free.dropLast.map (.int .i64) := by
  refine ⟨by simp [h], ?_⟩
  rw [← List.map_take, List.dropLast_eq_take, h]
  rfl
theorem pop_m (h : Lay W sb vr vb vf s) (n : Nat) (hn : s.free.length = n + 1) (hlen : s.free.length ≤ 1000000000) {S : Nat → Prop} (hO : Own S sb vr vb vf) :
    Calls Tryz.prog 329 #[.pointer (some ⟨sb, 7, none⟩)] W fun e w' => e = .returned (.iface 3 (.int .i64 (s.free.getD n 0))) ∧ Upd S W w' ∧ ∃ vf', Lay w' sb vr vb vf' { s with free := s.free.dropLast } ∧ Own S sb vr vb vf' := by
  obtain ⟨g, cap, hf, hcap⟩ := own_slice h.free (by omega)
  have cn := fcell h hf n (by omega)
  have hx : s.free.getD n 0 = s.free[n] := by simp [hn]
  rw [hx]
  have c7 := h.cell 7
  have th := h.thaw 7
  simp [Sto.obj, hf] at c7
  have ho : W.ownsRow 0 3 1 (.slice (some ⟨g, 0, none⟩) n cap) n ((s.free.map (.int .i64)).take n) := own_take h.free hf (by omega)
  obtain ⟨e1, e2⟩ := free_take hn
  rw [e2] at ho
  have hL2 : Lay (W.setCell ⟨sb, 7, none⟩ (.slice (some ⟨g, 0, none⟩) n cap)) sb vr vb (.slice (some ⟨g, 0, none⟩) n cap) { s with free := s.free.dropLast } := by
    refine h.regrow_free (v2 := .slice (some ⟨g, 0, none⟩) n cap) ⟨rfl, rfl, rfl, Nat.le_refl _, fun _ _ _ => rfl⟩ ?_
    rw [e1]; exact ho
  have hU2 := (Upd.refl S W).setCell (p := ⟨sb, 7, none⟩) (.inl hO.sb) (.slice (some ⟨g, 0, none⟩) n cap)
  have hO2 : Own S sb vr vb (.slice (some ⟨g, 0, none⟩) n cap) := ⟨hO.sb, hO.row, hO.blk, fun k e => hO.free k (by rw [hf]; exact e)⟩
  have HL := (show Hid _ from hL2)
  have HU := (show Hid _ from hU2)
  have HO := (show Hid _ from hO2)
  have n0 : (0 : Int) ≤ n := by omega
  have n1 : (n : Int) < s.free.length := by omega
  have n2 : (n : Int) ≤ cap := by omega
  have n3 : ((s.free.length : Nat) : Int) = n + 1 := by omega
  have n4 : ¬ cap = 0 := by omega
  rw [hn] at c7
  clear hL2 hU2 hO2 ho hx
  generalize s.free[n] = x at *
  go_enter Tryz.func329, Tryz.ntmps329
  go_wp2
  go_ret
  exact ⟨rfl, HU, _, HL, HO⟩
end
end Go.Proofs.YtgkakflnmpoadaaGreatDoor.W
/- Rows that are heaps: the least is first. -/
namespace Go.Proofs.YtgkakflnmpoadaaGreatDoor.W
def hp (l : List Int) (i : Nat) : Int := l.getD i 0
def IsHeap (l : List Int) (n : Nat) : Prop := ∀ k, 0 < k → k < n → hp l ((k - 1) / 2) ≤ hp l k
theorem hp_swp (l : List Int) (i j k : Nat) (hi : i < l.length) (hj : j < l.length) : hp (swp l i j) k = if k = j then hp l i else if k = i then hp l j else hp l k := by
  unfold hp swp
  simp only [List.getD, List.getElem?_set, List.length_set]
  by_cases h1 : k = j
  · subst h1; simp [hj]
  · have h1' : ¬ j = k := fun e => h1 e.symm
    by_cases h2 : k = i
    · subst h2; simp [h1, h1', hi]
    · have h2' : ¬ i = k := fun e => h2 e.symm
      simp [h1, h1', h2, h2']
theorem swp_perm (l : List Int) (i j : Nat) (hi : i < l.length) (hj : j < l.length) : (swp l i j).Perm l := by
  have := List.set_set_perm hi hj
  unfold swp
  simpa [List.getD, hi, hj] using this
structure UpInv (l : List Int) (n j : Nat) : Prop where
  lt : j < n
  rest : ∀ k, 0 < k → k < n → k ≠ j → hp l ((k - 1) / 2) ≤ hp l k
  kids : 0 < j → ∀ k, 0 < k → k < n → (k - 1) / 2 = j → hp l ((j - 1) / 2) ≤ hp l k
theorem UpInv.exit {l : List Int} {n j : Nat} (h : UpInv l n j) (he : j = 0 ∨ ¬ hp l j < hp l ((j - 1) / 2)) : IsHeap l n := by
  intro k h0 hk
  by_cases e : k = j
  · subst e
    rcases he with rfl | he
    · omega
    · omega
  · exact h.rest k h0 hk e
theorem UpInv.step {l : List Int} {n j : Nat} (h : UpInv l n j) (hl : n ≤ l.length) (hj : 0 < j) (hs : hp l j < hp l ((j - 1) / 2)) : UpInv (swp l ((j - 1) / 2) j) n ((j - 1) / 2) := by
  have hlt := h.lt
  have g := fun k => hp_swp l ((j - 1) / 2) j k (by omega) (by omega)
  refine ⟨by omega, ?_, ?_⟩
  · intro k h0 hk hne
    rw [g, g]
    by_cases e : k = j
    · subst e
      rw [if_neg (by omega), if_pos rfl, if_pos rfl]; omega
    · rw [if_neg e, if_neg hne]
      by_cases e2 : (k - 1) / 2 = j
      · rw [if_pos e2]; exact h.kids hj k h0 hk e2
      · rw [if_neg e2]
        by_cases e3 : (k - 1) / 2 = (j - 1) / 2
        · rw [if_pos e3]
          have := h.rest k h0 hk e
          rw [e3] at this; omega
        · rw [if_neg e3]; exact h.rest k h0 hk e
  · intro hi k h0 hk e
    rw [g, g, if_neg (by omega), if_neg (by omega)]
    have hp1 := h.rest ((j - 1) / 2) hi (by omega) (by omega)
    by_cases e2 : k = j
    · rw [if_pos e2]; exact hp1
    · rw [if_neg e2, if_neg (by omega)]
      have := h.rest k h0 hk e2
      rw [e] at this; omega
structure DownInv (l : List Int) (n i : Nat) : Prop where
  rest : ∀ k, 0 < k → k < n → (k - 1) / 2 ≠ i → hp l ((k - 1) / 2) ≤ hp l k
  kids : 0 < i → ∀ k, 0 < k → k < n → (k - 1) / 2 = i → hp l ((i - 1) / 2) ≤ hp l k
theorem DownInv.exit {l : List Int} {n i j : Nat} (h : DownInv l n i) (he : n ≤ 2 * i + 1 ∨ ((2 * i + 1 < n → hp l j ≤ hp l (2 * i + 1)) ∧ (2 * i + 2 < n → hp l j ≤ hp l (2 * i + 2)) ∧ ¬ hp l j < hp l i)) : IsHeap l n := by
  intro k h0 hk
  by_cases e : (k - 1) / 2 = i
  · rcases he with he | ⟨h1, h2, h3⟩
    · omega
    · rw [e]
      rcases (show k = 2 * i + 1 ∨ k = 2 * i + 2 by omega) with rfl | rfl
      · have := h1 hk; omega
      · have := h2 hk; omega
  · exact h.rest k h0 hk e
theorem DownInv.step {l : List Int} {n i j : Nat} (h : DownInv l n i) (hl : n ≤ l.length) (hj : j = 2 * i + 1 ∨ j = 2 * i + 2) (hjn : j < n) (h1 : 2 * i + 1 < n → hp l j ≤ hp l (2 * i + 1)) (h2 : 2 * i + 2 < n → hp l j ≤ hp l (2 * i + 2)) (hs : hp l j < hp l i) : DownInv (swp l i j) n j := by
  have g := fun k => hp_swp l i j k (by omega) (by omega)
  have hpj : (j - 1) / 2 = i := by omega
  refine ⟨?_, ?_⟩
  · intro k h0 hk hne
    rw [g, g, if_neg hne]
    by_cases e : (k - 1) / 2 = i
    · rw [if_pos e]
      by_cases e2 : k = j
      · rw [if_pos e2]; omega
      · rw [if_neg e2, if_neg (by omega)]
        rcases (show k = 2 * i + 1 ∨ k = 2 * i + 2 by omega) with rfl | rfl
        · exact h1 hk
        · exact h2 hk
    · rw [if_neg e, if_neg (by omega)]
      by_cases e3 : k = i
      · rw [if_pos e3]
        subst e3
        exact h.kids h0 j (by omega) hjn hpj
      · rw [if_neg e3]; exact h.rest k h0 hk e
  · intro hj0 k h0 hk e
    rw [g, g, hpj, if_neg (by omega), if_pos rfl, if_neg (by omega), if_neg (by omega)]
    have := h.rest k h0 hk (by omega)
    rw [e] at this; exact this
theorem heap_least {l : List Int} {n : Nat} (h : IsHeap l n) (k : Nat) (hk : k < n) : hp l 0 ≤ hp l k := by
  induction k using Nat.strongRecOn with
  | ind k ih =>
    by_cases e : k = 0
    · rw [e]; exact Int.le_refl _
    · have h1 := h k (by omega) hk
      have h2 := ih ((k - 1) / 2) (by omega) (by omega)
      omega
theorem down_start {l : List Int} {n : Nat} (h : IsHeap l (n + 1)) (hl : l.length = n + 1) : DownInv (swp l 0 n) n 0 := by
  have g := fun k => hp_swp l 0 n k (by omega) (by omega)
  refine ⟨?_, fun h0 => absurd h0 (by omega)⟩
  intro k h0 hk hne
  rw [g, g, if_neg (by omega), if_neg (by omega), if_neg (by omega), if_neg (by omega)]
  exact h k h0 (by omega)
theorem up_start {l : List Int} (h : IsHeap l l.length) (x : Int) : UpInv (l ++ [x]) (l.length + 1) l.length := by
  have e : ∀ k, k < l.length → hp (l ++ [x]) k = hp l k := fun k hk => by unfold hp; simp [List.getD, List.getElem?_append_left hk]
  refine ⟨by omega, ?_, ?_⟩
  · intro k h0 hk hne
    rw [e _ (by omega), e _ (by omega)]
    exact h k h0 (by omega)
  · intro h0 k h1 hk he
    omega
end Go.Proofs.YtgkakflnmpoadaaGreatDoor.W
/- container/heap over the free Ids: up, down, Push, Pop. -/
namespace Go.Proofs.YtgkakflnmpoadaaGreatDoor.W
open Go.ChangeShapes Go.WideShapes Go.RowKit Go.Shelf
set_option linter.unusedVariables false
/-- the store with other free Ids -/
def Sto.fr (s : Sto) (l : List Int) : Sto := { s with free := l }
section
variable {W : World} {sb : Nat} {vr vb vf : Value} {s : Sto}
theorem less_h (h : Lay W sb vr vb vf s) {g cap n : Nat} (hf : vf = .slice (some ⟨g, 0, none⟩) n cap) (hn : s.free.length = n) (hlen : n ≤ 1000000000) (i j : Nat) (hi : i < n) (hj : j < n) :
    Calls Tryz.prog 327 #[.slice (some ⟨g, 0, none⟩) n cap, .int .i64 i, .int .i64 j] W fun e w' => e = .returned (.bool (decide (hp s.free i < hp s.free j))) ∧ ∃ m, w' = W.drewN m := by
  subst hn
  have := less_c h hf hlen i j hi hj
  have e1 : hp s.free i = s.free[i] := by simp [hp, hi]
  have e2 : hp s.free j = s.free[j] := by simp [hp, hj]
  rw [e1, e2]; exact this
theorem swap_h (h : Lay W sb vr vb vf s) {g cap n : Nat} (hf : vf = .slice (some ⟨g, 0, none⟩) n cap) (hn : s.free.length = n) (hlen : n ≤ 1000000000) (i j : Nat) (hi : i < n) (hj : j < n) :
    Calls Tryz.prog 328 #[.slice (some ⟨g, 0, none⟩) n cap, .int .i64 i, .int .i64 j] W fun e w' => e = .returned (.tuple #[]) ∧ Lay w' sb vr vb vf (s.fr (swp s.free i j)) ∧ Upd (fun k => k = g) W w' := by
  subst hn
  exact swap_c h hf hlen i j hi hj
set_option maxHeartbeats 2000000 in
theorem up_c (h : Lay W sb vr vb vf s) {g cap : Nat} (hf : vf = .slice (some ⟨g, 0, none⟩) s.free.length cap) (hlen : s.free.length ≤ 1000000000) (j0 : Nat) (hinv : UpInv s.free s.free.length j0) :
    Calls Tryz.prog 258 #[.iface 219 (.pointer (some ⟨sb, 7, none⟩)), .int .i64 j0] W fun e w' => e = .returned (.tuple #[]) ∧ Upd (fun k => k = g) W w' ∧ ∃ free', free'.Perm s.free ∧ IsHeap free' s.free.length ∧ Lay w' sb vr vb vf (s.fr free') := by
  have HF := (show Hid _ from hf)
  clear hf
  go_enter Tryz.func258, Tryz.ntmps258
  go_wp2
  go_loopw [1] (fun jv wr => ∃ (j : Nat) (free' : List Int), jv = .int .i64 j ∧ free'.length = s.free.length ∧ free'.Perm s.free ∧ UpInv free' s.free.length j ∧ Lay wr sb vr vb vf (s.fr free') ∧ Upd (fun k => k = g) W wr) (fun jv _ => (intOf jv).toNat)
  case atStart => exact ⟨j0, s.free, rfl, rfl, List.Perm.refl _, hinv, h, Upd.refl _ _⟩
  case round =>
    obtain ⟨j, free', rfl, hl, hp1, hi, hL, hU⟩ := hrel
    have hjl := hi.lt
    have c7 := hL.cell 7
    simp [Sto.obj, Sto.fr, HF.out] at c7
    have HP := (show Hid _ from hp1)
    have HI := (show Hid _ from hi)
    have HL := (show Hid _ from hL)
    have HU := (show Hid _ from hU)
    by_cases hj0 : j = 0
    · subst hj0
      clear hL hU hp1 hi
      go_wp2
      go_end0
      exact ⟨rfl, HU, free', HP, HI.out.exit (.inl rfl), HL⟩
    · obtain ⟨q, hq⟩ : ∃ q, q = (j - 1) / 2 := ⟨_, rfl⟩
      have hjp : (1 : Int) ≤ j := by omega
      have e1 : ((j : Int) - 1).tdiv 2 = (q : Nat) := by
        rw [Int.tdiv_eq_ediv_of_nonneg (by omega)]; omega
      have hqi : q < j := by omega
      have m1 := fun k => meth_less sb (wr.drewN k) (some ⟨g, 0, none⟩) s.free.length cap c7
      have m2 := fun k => meth_swap sb (wr.drewN k) (some ⟨g, 0, none⟩) s.free.length cap c7
      have m10 := m1 0
      rw [World.drewN_zero] at m10
      have cl : Calls Tryz.prog 327 #[.slice (some ⟨g, 0, none⟩) s.free.length cap, .int .i64 j, .int .i64 q] wr fun e w' => e = .returned (.bool (decide (hp free' j < hp free' q))) ∧ ∃ m, w' = wr.drewN m := less_h hL HF.out hl (by omega) j q (by omega) (by omega)
      have csw : ∀ k, Calls Tryz.prog 328 #[.slice (some ⟨g, 0, none⟩) s.free.length cap, .int .i64 q, .int .i64 j] (wr.drewN k) fun e w' => e = .returned (.tuple #[]) ∧ Lay w' sb vr vb vf (s.fr (swp free' q j)) ∧ Upd (fun k => k = g) (wr.drewN k) w' := fun k => swap_h (hL.drewN k) HF.out hl (by omega) q j (by omega) (by omega)
      have hqe : (((q : Nat) : Int) == (j : Int)) = false := by simp; omega
      have hin : (j : Int) ≤ 1000000000 := by omega
      have HQ := (show Hid _ from hq)
      clear hL hU hp1 hi c7 hq
      by_cases hless : hp free' j < hp free' q
      · rw [decide_eq_true hless] at cl
        have HS : Hid (UpInv (swp free' q j) s.free.length q) := by
          have := HI.out.step (by omega) (by omega) (by rw [← HQ.out]; exact hless)
          rw [← HQ.out] at this
          exact this
        go_wp2_with (first | (go_at_call 327; (with_reducible refine cl.mono ?_); rintro e w' ⟨rfl, k1, hw⟩; (have hw' := hw.symm); subst hw'; clear hw) | (go_at_call 328; (with_reducible refine (csw _).mono ?_); rintro e W5 ⟨rfl, hL5, hU5⟩))
        go_roundw
        case rel => exact ⟨q, swp free' q j, rfl, by rw [swp_len]; exact hl, (swp_perm _ _ _ (by omega) (by omega)).trans HP.out, HS.out, hL5, (HU.out.drewN _).trans' hU5⟩
        case measure => simp [intOf]; omega
      · rw [decide_eq_false hless] at cl
        go_wp2_with (first | (go_at_call 327; (with_reducible refine cl.mono ?_); rintro e w' ⟨rfl, k1, hw⟩; (have hw' := hw.symm); subst hw'; clear hw))
        go_end0
        exact ⟨rfl, HU.out.drewN _, free', HP, HI.out.exit (.inr (by rw [← HQ.out]; omega)), HL.out.drewN _⟩
set_option maxHeartbeats 4000000 in
theorem down_c (h : Lay W sb vr vb vf s) {g cap : Nat} (hf : vf = .slice (some ⟨g, 0, none⟩) s.free.length cap) (hlen : s.free.length ≤ 1000000000) (n : Nat) (hn : n ≤ s.free.length) (hinv : DownInv s.free n 0) :
    Calls Tryz.prog 289 #[.iface 219 (.pointer (some ⟨sb, 7, none⟩)), .int .i64 0, .int .i64 n] W fun e w' => (∃ v, e = .returned v) ∧ Upd (fun k => k = g) W w' ∧ ∃ free', free'.Perm s.free ∧ IsHeap free' n ∧ (∀ k, n ≤ k → hp free' k = hp s.free k) ∧ Lay w' sb vr vb vf (s.fr free') := by
  have HF := (show Hid _ from hf)
  clear hf
  go_enter Tryz.func289, Tryz.ntmps289
  go_wp2
  go_loopw [7] (fun iv wr => ∃ (i : Nat) (free' : List Int), iv = .int .i64 i ∧ free'.length = s.free.length ∧ free'.Perm s.free ∧ DownInv free' n i ∧ (i ≤ n) ∧ (∀ k, n ≤ k → hp free' k = hp s.free k) ∧ Lay wr sb vr vb vf (s.fr free') ∧ Upd (fun k => k = g) W wr) (fun iv _ => n - (intOf iv).toNat)
  case atStart => exact ⟨0, s.free, rfl, rfl, List.Perm.refl _, hinv, Nat.zero_le _, fun _ _ => rfl, h, Upd.refl _ _⟩
  case round =>
    obtain ⟨i, free', rfl, hl, hp1, hi, hin, hkk, hL, hU⟩ := hrel
    have c7 := hL.cell 7
    simp [Sto.obj, Sto.fr, HF.out] at c7
    have HP := (show Hid _ from hp1)
    have HI := (show Hid _ from hi)
    have HL := (show Hid _ from hL)
    have HU := (show Hid _ from hU)
    have HK := (show Hid _ from hkk)
    have i0 : (0 : Int) ≤ i := by omega
    have i1 : (i : Int) ≤ 1000000000 := by omega
    have n1 : (n : Int) ≤ 1000000000 := by omega
    have m1 := fun k => meth_less sb (wr.drewN k) (some ⟨g, 0, none⟩) s.free.length cap c7
    have m2 := fun k => meth_swap sb (wr.drewN k) (some ⟨g, 0, none⟩) s.free.length cap c7
    have m10 := m1 0
    rw [World.drewN_zero] at m10
    obtain ⟨c1, hc1⟩ : ∃ c1, c1 = 2 * i + 1 := ⟨_, rfl⟩
    have e1 : (2 * (i : Int) + 1) = (c1 : Nat) := by omega
    by_cases hA : n ≤ c1
    · have hA' : (n : Int) ≤ c1 := by omega
      have HE : Hid (IsHeap free' n) := HI.out.exit (j := 0) (.inl (by omega))
      clear hL hU hp1 hi hkk hc1
      go_wp2
      go_ret
      exact ⟨⟨_, rfl⟩, HU, free', HP, HE.out, HK.out, HL⟩
    · have hA' : ¬ (n : Int) ≤ c1 := by omega
      have c0 : ¬ (c1 : Int) < 0 := by omega
      by_cases hB : n ≤ c1 + 1
      · have hB' : ¬ ((c1 : Int) + 1 < n) := by omega
        have cji : ∀ k, Calls Tryz.prog 327 #[.slice (some ⟨g, 0, none⟩) s.free.length cap, .int .i64 (c1 : Nat), .int .i64 i] (wr.drewN k) fun e w' => e = .returned (.bool (decide (hp free' c1 < hp free' i))) ∧ ∃ m, w' = (wr.drewN k).drewN m := fun k => less_h (hL.drewN k) HF.out hl (by omega) c1 i (by omega) (by omega)
        have cji0 := cji 0
        rw [World.drewN_zero] at cji0
        have csw : ∀ k, Calls Tryz.prog 328 #[.slice (some ⟨g, 0, none⟩) s.free.length cap, .int .i64 i, .int .i64 (c1 : Nat)] (wr.drewN k) fun e w' => e = .returned (.tuple #[]) ∧ Lay w' sb vr vb vf (s.fr (swp free' i c1)) ∧ Upd (fun k => k = g) (wr.drewN k) w' := fun k => swap_h (hL.drewN k) HF.out hl (by omega) i c1 (by omega) (by omega)
        clear hL hU hp1 hi hkk c7
        by_cases hless : hp free' c1 < hp free' i
        · rw [decide_eq_true hless] at cji0
          have HS : Hid (DownInv (swp free' i c1) n c1) := HI.out.step (by omega) (.inl hc1) (by omega) (fun _ => by rw [hc1]; exact Int.le_refl _) (fun _ => by omega) hless
          have HQ : Hid (∀ k, n ≤ k → hp (swp free' i c1) k = hp s.free k) := fun k hk => by
            rw [hp_swp _ _ _ _ (by omega) (by omega), if_neg (by omega), if_neg (by omega)]; exact HK.out k hk
          have hci : i < c1 := by omega
          have hcn : c1 < n := by omega
          clear hc1
          go_wp2_with (first | (go_at_call 327; (with_reducible refine cji0.mono ?_); rintro e w' ⟨rfl, k2, hw⟩; (have hw' := hw.symm); subst hw'; clear hw) | (go_at_call 328; (with_reducible refine (csw _).mono ?_); rintro e W5 ⟨rfl, hL5, hU5⟩))
          go_roundw
          case rel => exact ⟨c1, swp free' i c1, by go_num, by rw [swp_len]; exact hl, (swp_perm _ _ _ (by omega) (by omega)).trans HP.out, HS.out, by omega, HQ.out, hL5, (HU.out.drewN _).trans' hU5⟩
          case measure => simp [intOf]; omega
        · rw [decide_eq_false hless] at cji0
          have HE : Hid (IsHeap free' n) := HI.out.exit (j := c1) (.inr ⟨fun _ => by rw [hc1]; exact Int.le_refl _, fun _ => by omega, hless⟩)
          clear hc1
          go_wp2_with (first | (go_at_call 327; (with_reducible refine cji0.mono ?_); rintro e w' ⟨rfl, k2, hw⟩; (have hw' := hw.symm); subst hw'; clear hw))
          go_ret
          exact ⟨⟨_, rfl⟩, (HU.out.drewN _), free', HP, HE.out, HK.out, HL.out.drewN _⟩
      · have hB' : ((c1 : Int) + 1 < n) := by omega
        obtain ⟨c2, hc2⟩ : ∃ c2, c2 = c1 + 1 := ⟨_, rfl⟩
        have e2 : ((c1 : Int) + 1) = (c2 : Nat) := by omega
        rw [e2] at hB'
        have c21 : Calls Tryz.prog 327 #[.slice (some ⟨g, 0, none⟩) s.free.length cap, .int .i64 c2, .int .i64 c1] wr fun e w' => e = .returned (.bool (decide (hp free' c2 < hp free' c1))) ∧ ∃ m, w' = wr.drewN m := less_h hL HF.out hl (by omega) c2 c1 (by omega) (by omega)
        by_cases h21 : hp free' c2 < hp free' c1
        · rw [decide_eq_true h21] at c21
          have cji : ∀ k, Calls Tryz.prog 327 #[.slice (some ⟨g, 0, none⟩) s.free.length cap, .int .i64 (c2 : Nat), .int .i64 i] (wr.drewN k) fun e w' => e = .returned (.bool (decide (hp free' c2 < hp free' i))) ∧ ∃ m, w' = (wr.drewN k).drewN m := fun k => less_h (hL.drewN k) HF.out hl (by omega) c2 i (by omega) (by omega)
          have csw : ∀ k, Calls Tryz.prog 328 #[.slice (some ⟨g, 0, none⟩) s.free.length cap, .int .i64 i, .int .i64 (c2 : Nat)] (wr.drewN k) fun e w' => e = .returned (.tuple #[]) ∧ Lay w' sb vr vb vf (s.fr (swp free' i c2)) ∧ Upd (fun k => k = g) (wr.drewN k) w' := fun k => swap_h (hL.drewN k) HF.out hl (by omega) i c2 (by omega) (by omega)
          clear hL hU hp1 hi hkk c7
          by_cases hless : hp free' c2 < hp free' i
          · simp only [decide_eq_true hless] at cji
            have HS : Hid (DownInv (swp free' i c2) n c2) := HI.out.step (by omega) (.inr (by omega)) (by omega) (fun _ => by rw [← hc1]; omega) (fun _ => by rw [show 2 * i + 2 = c2 by omega]; exact Int.le_refl _) hless
            have HQ : Hid (∀ k, n ≤ k → hp (swp free' i c2) k = hp s.free k) := fun k hk => by
              rw [hp_swp _ _ _ _ (by omega) (by omega), if_neg (by omega), if_neg (by omega)]; exact HK.out k hk
            have hci : i < c2 := by omega
            have hcn : c2 < n := by omega
            clear hc1 hc2
            go_wp2_with (first | (go_at_call 327; (with_reducible refine c21.mono ?_); rintro e w' ⟨rfl, k1, hw⟩; (have hw' := hw.symm); subst hw'; clear hw c21) | (go_at_call 327; (with_reducible refine (cji _).mono ?_); rintro e w' ⟨rfl, k2, hw⟩; (have hw' := hw.symm); subst hw'; clear hw) | (go_at_call 328; (with_reducible refine (csw _).mono ?_); rintro e W5 ⟨rfl, hL5, hU5⟩))
            go_roundw
            case rel => exact ⟨c2, swp free' i c2, by go_num, by rw [swp_len]; exact hl, (swp_perm _ _ _ (by omega) (by omega)).trans HP.out, HS.out, by omega, HQ.out, hL5, (HU.out.drewN _).trans' hU5⟩
            case measure => simp [intOf]; omega
          · simp only [decide_eq_false hless] at cji
            have HE : Hid (IsHeap free' n) := HI.out.exit (j := c2) (.inr ⟨fun _ => by rw [← hc1]; omega, fun _ => by rw [show 2 * i + 2 = c2 by omega]; exact Int.le_refl _, hless⟩)
            clear hc1 hc2
            go_wp2_with (first | (go_at_call 327; (with_reducible refine c21.mono ?_); rintro e w' ⟨rfl, k1, hw⟩; (have hw' := hw.symm); subst hw'; clear hw c21) | (go_at_call 327; (with_reducible refine (cji _).mono ?_); rintro e w' ⟨rfl, k2, hw⟩; (have hw' := hw.symm); subst hw'; clear hw))
            go_ret
            exact ⟨⟨_, rfl⟩, (HU.out.drewN _), free', HP, HE.out, HK.out, HL.out.drewN _⟩
        · rw [decide_eq_false h21] at c21
          have cji : ∀ k, Calls Tryz.prog 327 #[.slice (some ⟨g, 0, none⟩) s.free.length cap, .int .i64 (c1 : Nat), .int .i64 i] (wr.drewN k) fun e w' => e = .returned (.bool (decide (hp free' c1 < hp free' i))) ∧ ∃ m, w' = (wr.drewN k).drewN m := fun k => less_h (hL.drewN k) HF.out hl (by omega) c1 i (by omega) (by omega)
          have csw : ∀ k, Calls Tryz.prog 328 #[.slice (some ⟨g, 0, none⟩) s.free.length cap, .int .i64 i, .int .i64 (c1 : Nat)] (wr.drewN k) fun e w' => e = .returned (.tuple #[]) ∧ Lay w' sb vr vb vf (s.fr (swp free' i c1)) ∧ Upd (fun k => k = g) (wr.drewN k) w' := fun k => swap_h (hL.drewN k) HF.out hl (by omega) i c1 (by omega) (by omega)
          clear hL hU hp1 hi hkk c7
          by_cases hless : hp free' c1 < hp free' i
          · simp only [decide_eq_true hless] at cji
            have HS : Hid (DownInv (swp free' i c1) n c1) := HI.out.step (by omega) (.inl hc1) (by omega) (fun _ => by rw [hc1]; exact Int.le_refl _) (fun _ => by rw [show 2 * i + 2 = c2 by omega]; omega) hless
            have HQ : Hid (∀ k, n ≤ k → hp (swp free' i c1) k = hp s.free k) := fun k hk => by
              rw [hp_swp _ _ _ _ (by omega) (by omega), if_neg (by omega), if_neg (by omega)]; exact HK.out k hk
            have hci : i < c1 := by omega
            have hcn : c1 < n := by omega
            clear hc1 hc2
            go_wp2_with (first | (go_at_call 327; (with_reducible refine c21.mono ?_); rintro e w' ⟨rfl, k1, hw⟩; (have hw' := hw.symm); subst hw'; clear hw c21) | (go_at_call 327; (with_reducible refine (cji _).mono ?_); rintro e w' ⟨rfl, k2, hw⟩; (have hw' := hw.symm); subst hw'; clear hw) | (go_at_call 328; (with_reducible refine (csw _).mono ?_); rintro e W5 ⟨rfl, hL5, hU5⟩))
            go_roundw
            case rel => exact ⟨c1, swp free' i c1, by go_num, by rw [swp_len]; exact hl, (swp_perm _ _ _ (by omega) (by omega)).trans HP.out, HS.out, by omega, HQ.out, hL5, (HU.out.drewN _).trans' hU5⟩
            case measure => simp [intOf]; omega
          · simp only [decide_eq_false hless] at cji
            have HE : Hid (IsHeap free' n) := HI.out.exit (j := c1) (.inr ⟨fun _ => by rw [hc1]; exact Int.le_refl _, fun _ => by rw [show 2 * i + 2 = c2 by omega]; omega, hless⟩)
            clear hc1 hc2
            go_wp2_with (first | (go_at_call 327; (with_reducible refine c21.mono ?_); rintro e w' ⟨rfl, k1, hw⟩; (have hw' := hw.symm); subst hw'; clear hw c21) | (go_at_call 327; (with_reducible refine (cji _).mono ?_); rintro e w' ⟨rfl, k2, hw⟩; (have hw' := hw.symm); subst hw'; clear hw))
            go_ret
            exact ⟨⟨_, rfl⟩, (HU.out.drewN _), free', HP, HE.out, HK.out, HL.out.drewN _⟩
end
end Go.Proofs.YtgkakflnmpoadaaGreatDoor.W
/- container/heap over the free Ids: Push, Pop; leastId. -/
namespace Go.Proofs.YtgkakflnmpoadaaGreatDoor.W
open Go.ChangeShapes Go.WideShapes Go.RowKit Go.Shelf
set_option linter.unusedVariables false
section
variable {W : World} {sb : Nat} {vr vb vf : Value} {s : Sto}
theorem lenIds_c (o : Option Addr) (n c : Nat) (w : World) : Calls Tryz.prog 326 #[.slice o n c] w fun e w' => e = .returned (.int .i64 n) ∧ w' = w := by
  go_enter Tryz.func326, Tryz.ntmps326
  go_wp2
  go_ret
  exact ⟨rfl, rfl⟩
theorem heapPush_c (h : Lay W sb vr vb vf s) (hlen : s.free.length ≤ 100000000) (hh : IsHeap s.free s.free.length) (x : Int) {S : Nat → Prop} (hO : Own S sb vr vb vf) :
    Calls Tryz.prog 212 #[.iface 219 (.pointer (some ⟨sb, 7, none⟩)), .iface 3 (.int .i64 x)] W fun e w' => e = .returned (.tuple #[]) ∧ Upd S W w' ∧ ∃ free' vf', free'.Perm (s.free ++ [x]) ∧ IsHeap free' free'.length ∧ Lay w' sb vr vb vf' (s.fr free') ∧ Own (Nx S W w') sb vr vb vf' := by
  have m0 := meth_push sb W
  have c0 := push_m h (by omega) x hO
  go_enter Tryz.func212, Tryz.ntmps212
  go_upto_region 1 with (go_at_call 330; (with_reducible refine c0.mono ?_); rintro e W1 ⟨rfl, hU1, vf1, hL1, hO1⟩; clear c0 m0)
  have hl1 : (s.fr (s.free ++ [x])).free.length = s.free.length + 1 := by simp [Sto.fr]
  obtain ⟨g, cap, hvf, hcap⟩ := own_slice hL1.free (by simp)
  have hvf' : vf1 = .slice (some ⟨g, 0, none⟩) (s.fr (s.free ++ [x])).free.length cap := hvf
  have c7 := hL1.cell 7
  rw [hvf'] at c7
  have m1 := meth_len sb W1 (some ⟨g, 0, none⟩) (s.fr (s.free ++ [x])).free.length cap c7
  have hL1' : Lay W1 sb vr vb vf1 (s.fr (s.free ++ [x])) := hL1
  have cu := up_c hL1' hvf' (by rw [hl1]; omega) s.free.length (by rw [hl1]; exact up_start hh x)
  have cl := fun w => lenIds_c (some ⟨g, 0, none⟩) (s.fr (s.free ++ [x])).free.length cap w
  have HG : Hid (S g ∨ (W.heap.size ≤ g ∧ g < W1.heap.size)) := hO1.free g (by rw [hvf]; rfl)
  have HU := (show Hid _ from hU1)
  have HO := (show Hid _ from hO1)
  rw [hl1] at m1 cl
  have lb : ((s.free.length : Nat) : Int) ≤ 100000000 := by omega
  clear hL1 hL1' hU1 hO1 c7 hvf hvf' hcap
  go_wp2_with (first | (go_at_call 326; (with_reducible refine (cl _).mono ?_); rintro e w' ⟨rfl, hw⟩; (have hw' := hw.symm); subst hw'; clear hw) | (go_at_call 258; (with_reducible refine cu.mono ?_); rintro e W2 ⟨rfl, hU2, free', hp', hh', hL2⟩; clear cu))
  go_end0
  have hpl : free'.length = s.free.length + 1 := by rw [hp'.length_eq]; exact hl1
  rw [hl1] at hh'
  refine ⟨rfl, HU.out.trans (hU2.mono (by rintro k rfl; exact HG.out)), free', vf1, hp', by rw [hpl]; exact hh', hL2, HO.out.on hU2.size⟩
theorem pop_perm {l l' : List Int} {n : Nat} (hl : l'.length = n + 1) (hp' : l'.Perm l) : (hp l' n :: l'.dropLast).Perm l := by
  have e : l' = l'.dropLast ++ [hp l' n] := by
    have e1 : l'.drop n = [hp l' n] := by
      rw [List.drop_eq_getElem_cons (by omega), List.drop_of_length_le (by omega)]
      simp [hp, hl]
    have e2 : l'.dropLast = l'.take n := by rw [List.dropLast_eq_take, hl]; rfl
    rw [e2, ← e1, List.take_append_drop]
  have h1 : (hp l' n :: l'.dropLast).Perm (l'.dropLast ++ [hp l' n]) := (List.perm_append_singleton _ _).symm
  rw [← e] at h1
  exact h1.trans hp'
theorem dropLast_hp {l : List Int} {n k : Nat} (hl : l.length = n + 1) (hk : k < n) : hp l.dropLast k = hp l k := by
  unfold hp
  simp only [List.getD]
  rw [List.getElem?_dropLast, if_pos (by omega)]
theorem heapPop_c (h : Lay W sb vr vb vf s) (n : Nat) (hn : s.free.length = n + 1) (hlen : s.free.length ≤ 100000000) (hh : IsHeap s.free s.free.length) {S : Nat → Prop} (hO : Own S sb vr vb vf) :
    Calls Tryz.prog 259 #[.iface 219 (.pointer (some ⟨sb, 7, none⟩))] W fun e w' => e = .returned (.iface 3 (.int .i64 (hp s.free 0))) ∧ Upd S W w' ∧ ∃ free' vf', (hp s.free 0 :: free').Perm s.free ∧ IsHeap free' free'.length ∧ Lay w' sb vr vb vf' (s.fr free') ∧ Own S sb vr vb vf' := by
  obtain ⟨x0, hx0⟩ : ∃ x0, x0 = hp s.free 0 := ⟨_, rfl⟩
  rw [← hx0]
  have HX := (show Hid _ from hx0)
  clear hx0
  obtain ⟨g, cap, hf, hcap⟩ := own_slice h.free (by omega)
  have hSg : S g := hO.free g (by rw [hf]; rfl)
  have c7 := h.cell 7
  rw [hf] at c7
  have m1 := meth_len sb W (some ⟨g, 0, none⟩) s.free.length cap c7
  have m2 := meth_swap sb W (some ⟨g, 0, none⟩) s.free.length cap c7
  have cl := fun w => lenIds_c (some ⟨g, 0, none⟩) s.free.length cap w
  have csw : Calls Tryz.prog 328 #[.slice (some ⟨g, 0, none⟩) (n + 1) cap, .int .i64 0, .int .i64 n] W fun e w' => e = .returned (.tuple #[]) ∧ Lay w' sb vr vb vf (s.fr (swp s.free 0 n)) ∧ Upd (fun k => k = g) W w' := swap_h h (by rw [hf, hn]) hn (by omega) 0 n (by omega) (by omega)
  have HF := (show Hid _ from hf)
  have hlb : (n : Int) ≤ 100000000 := by omega
  rw [hn] at m1 m2 cl
  clear hf c7
  go_enter Tryz.func259, Tryz.ntmps259
  go_upto_region 3 with (first | (go_at_call 326; (with_reducible refine (cl _).mono ?_); rintro e w' ⟨rfl, hw⟩; (have hw' := hw.symm); subst hw'; clear hw) | (go_at_call 328; (with_reducible refine csw.mono ?_); rintro e W1 ⟨rfl, hL1, hU1⟩; clear csw))
  have hL1' : Lay W1 sb vr vb vf (s.fr (swp s.free 0 n)) := hL1
  have hl1 : (s.fr (swp s.free 0 n)).free.length = n + 1 := by show (swp s.free 0 n).length = _; rw [swp_len, hn]
  have hf1 : vf = .slice (some ⟨g, 0, none⟩) (s.fr (swp s.free 0 n)).free.length cap := by rw [HF.out, hl1, hn]
  have cd := down_c hL1' hf1 (by omega) n (by omega) (down_start (by rw [← hn]; exact hh) hn)
  have HU1 := (show Hid _ from hU1.mono (T := S) (by rintro k rfl; exact hSg))
  clear hL1 hL1' hU1 hf1 m1 m2 cl
  go_upto_region 4 with (go_at_call 289; (with_reducible refine cd.mono ?_); rintro e W2 ⟨⟨v2, rfl⟩, hU2, free', hp', hh', hk', hL2⟩; clear cd)
  have hpl : free'.length = n + 1 := by rw [hp'.length_eq]; exact hl1
  have hp2 : free'.Perm s.free := hp'.trans (swp_perm s.free 0 n (by omega) (by omega))
  have hx : hp free' n = hp s.free 0 := by
    rw [hk' n (Nat.le_refl _)]
    show hp (swp s.free 0 n) n = _
    rw [hp_swp _ _ _ _ (by omega) (by omega), if_pos rfl]
  have hL2' : Lay W2 sb vr vb vf (s.fr free') := hL2
  have cp := pop_m hL2' n hpl (by show free'.length ≤ _; omega) hO
  rw [show (s.fr free').free.getD n 0 = x0 from hx.trans HX.out.symm] at cp
  have m3 := meth_pop sb W2
  have HU2 := (show Hid _ from HU1.out.trans' (hU2.mono (T := S) (by rintro k rfl; exact hSg)))
  have HPm : Hid ((x0 :: free'.dropLast).Perm s.free) := by
    have := pop_perm hpl hp2
    rw [hx, ← HX.out] at this
    exact this
  have HH : Hid (IsHeap free'.dropLast free'.dropLast.length) := by
    intro k h0 hk
    have hdl : free'.dropLast.length = n := by simp [hpl]
    rw [hdl] at hk
    rw [dropLast_hp hpl (by omega), dropLast_hp hpl hk]
    exact hh' k h0 hk
  clear hL2 hL2' hU2 hp' hh' hk' hp2 hx
  go_wp2_with (go_at_call 329; (with_reducible refine cp.mono ?_); rintro e W3 ⟨rfl, hU3, vf3, hL3, hO3⟩; clear cp)
  go_ret
  exact ⟨rfl, HU2.out.trans' hU3, free'.dropLast, vf3, HPm.out, HH.out, hL3, hO3⟩
theorem leastId_pop (h : Lay W sb vr vb vf s) (n : Nat) (hn : s.free.length = n + 1) (hlen : s.free.length ≤ 100000000) (hh : IsHeap s.free s.free.length) {S : Nat → Prop} (hO : Own S sb vr vb vf) :
    Calls Tryz.prog 214 #[.pointer (some ⟨sb, 0, none⟩)] W fun e w' => e = .returned (.int .i64 (hp s.free 0)) ∧ Upd S W w' ∧ ∃ free' vf', (hp s.free 0 :: free').Perm s.free ∧ IsHeap free' free'.length ∧ Lay w' sb vr vb vf' (s.fr free') ∧ Own S sb vr vb vf' := by
  obtain ⟨o, cap, hvf⟩ := slice_of h.free
  have c7 := h.cell 7
  simp [Sto.obj, hvf, hn] at c7
  have cp := heapPop_c h n hn hlen hh hO
  clear hvf
  generalize hp s.free 0 = x0 at *
  have hta := assert_int x0
  go_enter Tryz.func214, Tryz.ntmps214
  go_wp2_with (go_at_call 259; (with_reducible refine cp.mono ?_); rintro e W3 ⟨rfl, hU3, free', vf3, hp3, hh3, hL3, hO3⟩; clear cp)
  go_ret
  exact ⟨rfl, hU3, free', vf3, hp3, hh3, hL3, hO3⟩
end
end Go.Proofs.YtgkakflnmpoadaaGreatDoor.W
/- Package store: Take. -/
namespace Go.Proofs.YtgkakflnmpoadaaGreatDoor.W
open Go.ChangeShapes Go.WideShapes Go.RowKit Go.Shelf
set_option linter.unusedVariables false

theorem nx_nx {S : Nat → Prop} {a b c : World} (h : a.heap.size ≤ b.heap.size) (hc : b.heap.size ≤ c.heap.size) : ∀ k, Nx (Nx S a b) b c k → Nx S a c k := by
  rintro k ((g | g) | g)
  · exact .inl g
  · exact .inr ⟨g.1, by omega⟩
  · exact .inr ⟨by omega, g.2⟩
/-- an extent's block, before it has its place -/
def Sto.took (s : Sto) (id : Nat) (n : Int) : Sto := { s with blks := s.blks.set id ⟨true, 0, n, 0, 0⟩, used := s.used + up8 n }
section
variable {W : World} {sb : Nat} {vr vb vf : Value} {s : Sto}
/-- a block is written whole -/
theorem Lay.bfull (h : Lay W sb vr vb vf s) {n B O : Nat} {b : Blk} (hb : s.get n = some b) (hp : Pt sb vb n B O) (c : Blk) :
    Lay (((((W.setCell ⟨B, O, none⟩ (.bool c.live)).setCell ⟨B, O + 1, none⟩ (.int .i64 c.pos)).setCell ⟨B, O + 2, none⟩ (.int .i64 c.len)).setCell ⟨B, O + 3, none⟩ (.int .i64 c.back)).setCell ⟨B, O + 4, none⟩ (.int .i64 c.next)) sb vr vb vf (s.set n c) := by
  have h0 := h.bstore (c := { b with live := c.live }) hb hp 0 (by omega) (.bool c.live) rfl
  have h1 := h0.bstore (c := { b with live := c.live, pos := c.pos }) (get_set_same hb _) hp 1 (by omega) (.int .i64 c.pos) rfl
  rw [set_set] at h1
  have h2 := h1.bstore (c := { b with live := c.live, pos := c.pos, len := c.len }) (get_set_same hb _) hp 2 (by omega) (.int .i64 c.len) rfl
  rw [set_set] at h2
  have h3 := h2.bstore (c := { b with live := c.live, pos := c.pos, len := c.len, back := c.back }) (get_set_same hb _) hp 3 (by omega) (.int .i64 c.back) rfl
  rw [set_set] at h3
  have h4 := h3.bstore (c := c) (get_set_same hb _) hp 4 (by omega) (.int .i64 c.next) rfl
  rw [set_set] at h4
  exact h4
theorem Upd.five {S : Nat → Prop} {a b : World} (h : Upd S a b) {B : Nat} (hp : Nx S a b B) (o1 o2 o3 o4 o5 : Nat) (v1 v2 v3 v4 v5 : Value) : Upd S a (((((b.setCell ⟨B, o1, none⟩ v1).setCell ⟨B, o2, none⟩ v2).setCell ⟨B, o3, none⟩ v3).setCell ⟨B, o4, none⟩ v4).setCell ⟨B, o5, none⟩ v5) := by
  have k : ∀ c : World, c.heap.size = b.heap.size → Nx S a c B := fun c e => hp.on (by omega)
  exact ((((h.setCell (p := ⟨B, o1, none⟩) hp v1).setCell (p := ⟨B, o2, none⟩) (k _ (by simp [World.setCell])) v2).setCell (p := ⟨B, o3, none⟩) (k _ (by simp [World.setCell])) v3).setCell (p := ⟨B, o4, none⟩) (k _ (by simp [World.setCell])) v4).setCell (p := ⟨B, o5, none⟩) (k _ (by simp [World.setCell])) v5
end
end Go.Proofs.YtgkakflnmpoadaaGreatDoor.W
/- Package store: unlink, Give. -/
namespace Go.Proofs.YtgkakflnmpoadaaGreatDoor.W
open Go.ChangeShapes Go.WideShapes Go.RowKit Go.Shelf
set_option linter.unusedVariables false
def Sto.un1 (s : Sto) (bk nx : Nat) : Sto := s.set bk { s.getD bk with next := nx }
def Sto.un2 (s : Sto) (bk nx : Nat) : Sto := (s.un1 bk nx).set nx { (s.un1 bk nx).getD nx with back := bk }
/-- a block taken out of the ring -/
def Sto.unlinked (s : Sto) (n bk nx : Nat) : Sto := { s.un2 bk nx with hand := if s.hand = n then (bk : Int) else s.hand }
section
variable {W : World} {sb : Nat} {vr vb vf : Value} {s : Sto}
set_option maxHeartbeats 1000000 in
theorem unlink_c (h : Lay W sb vr vb vf s) (hlen : s.blks.length ≤ 1000000000) (n bk nx : Nat) (bn bb bx : Blk) (hn : s.get n = some bn) (hbk : bn.back = bk) (hnx : bn.next = nx) (hb : s.get bk = some bb) (hx : s.get nx = some bx) {S : Nat → Prop} (hO : Own S sb vr vb vf) :
    Calls Tryz.prog 209 #[.pointer (some ⟨sb, 0, none⟩), .int .i64 n] W fun e w' => e = .returned (.tuple #[]) ∧ Lay w' sb vr vb vf (s.unlinked n bk nx) ∧ Upd S W w' := by
  obtain ⟨Bn, On, pn⟩ := h.pt hn
  obtain ⟨Bb, Ob, pb⟩ := h.pt hb
  obtain ⟨Bx, Ox, px⟩ := h.pt hx
  have g2 : ∃ b2, (s.un1 bk nx).get nx = some b2 := by
    unfold Sto.un1
    by_cases e : nx = bk
    · subst e; exact ⟨_, get_set_same hb _⟩
    · rw [get_set_ne _ e]; exact ⟨_, hx⟩
  obtain ⟨b2, g2⟩ := g2
  have l1 : (s.un1 bk nx).blks.length ≤ 1000000000 := by unfold Sto.un1; rw [set_len]; exact hlen
  have hh2 : (s.un2 bk nx).hand = s.hand := by unfold Sto.un2 Sto.un1; rw [set_hand, set_hand]
  obtain ⟨_, _, _, d3, d4⟩ := bcells h hn pn
  rw [hbk] at d3
  rw [hnx] at d4
  have cbn := fun q => block_c (W.drewN q) sb vr vb vf s (h.drewN q) n bn hn hlen Bn On pn
  go_enter Tryz.func209, Tryz.ntmps209
  go_wp2
  go_quiet ((go_at_call 257; exact Calls.quiet_of_same (cbn _)))
  have hL0 := h.drewN nq
  have hU0 := (Upd.refl S W).drewN nq
  clear d3 d4 cbn
  generalize World.drewN W nq = W0 at *
  have cb := block_c W0 sb vr vb vf s hL0 bk bb hb hlen Bb Ob pb
  obtain ⟨_, _, _, _, d4⟩ := bcells hL0 hb pb
  have t4 := hL0.bthaw hb pb 4
  go_upto_region 2 with (go_at_call 257; (with_reducible refine cb.mono ?_); rintro e w' ⟨rfl, hw⟩; (have hw' := hw.symm); subst hw'; clear hw)
  have hL1 : Lay (W0.setCell ⟨Bb, Ob + 4, none⟩ (.int .i64 nx)) sb vr vb vf (s.un1 bk nx) := hL0.bstore hb pb 4 (by omega) (.int .i64 nx) (by rw [getD_of hb]; rfl)
  have hU1 := hU0.setCell (p := ⟨Bb, Ob + 4, none⟩) (.inl (hO.pt pb)) (.int .i64 nx)
  clear cb d4 t4 hL0 hU0
  generalize World.setCell W0 _ _ = W1 at *
  have cb := block_c W1 sb vr vb vf _ hL1 nx b2 g2 l1 Bx Ox px
  obtain ⟨_, _, _, d3, _⟩ := bcells hL1 g2 px
  have t3 := hL1.bthaw g2 px 3
  go_upto_region 3 with (go_at_call 257; (with_reducible refine cb.mono ?_); rintro e w' ⟨rfl, hw⟩; (have hw' := hw.symm); subst hw'; clear hw)
  have hL2 : Lay (W1.setCell ⟨Bx, Ox + 3, none⟩ (.int .i64 bk)) sb vr vb vf (s.un2 bk nx) := hL1.bstore g2 px 3 (by omega) (.int .i64 bk) (by rw [getD_of g2]; rfl)
  have hU2 := hU1.setCell (p := ⟨Bx, Ox + 3, none⟩) (.inl (hO.pt px)) (.int .i64 bk)
  clear cb d3 t3 hL1 hU1
  generalize World.setCell W1 _ _ = W2 at *
  have c9 := hL2.cell 9
  simp [Sto.obj, hh2] at c9
  have t9 := hL2.thaw 9
  by_cases hhand : s.hand = n
  · have hbq : (s.hand == (n : Int)) = true := by simp [hhand]
    have hL3 : Lay (W2.setCell ⟨sb, 9, none⟩ (.int .i64 bk)) sb vr vb vf (s.unlinked n bk nx) := by
      unfold Sto.unlinked
      rw [if_pos hhand]
      exact hL2.store 9 _ rfl rfl rfl rfl
    have HU := (show Hid _ from hU2.setCell (p := ⟨sb, 9, none⟩) (.inl hO.sb) (.int .i64 bk))
    have HL := (show Hid _ from hL3)
    clear hL3 hL2 hU2 hhand
    go_wp2
    go_end0
    exact ⟨rfl, HL, HU⟩
  · have hbq : (s.hand == (n : Int)) = false := by simp [hhand]
    have hL3 : Lay W2 sb vr vb vf (s.unlinked n bk nx) := by
      unfold Sto.unlinked
      rw [if_neg hhand, ← hh2]
      exact hL2
    have HU := (show Hid _ from hU2)
    have HL := (show Hid _ from hL3)
    clear hL3 hL2 hU2 hhand
    go_wp2
    go_end0
    exact ⟨rfl, HL, HU⟩
set_option maxHeartbeats 4000000 in
/-- Give, the state that unlink leaves being t -/
theorem give_c (h : Lay W sb vr vb vf s) (hlen : s.blks.length ≤ 100000000) (id u : Nat) (b : Blk) (hx : s.ext (id : Int) = some b) (hl0 : 0 ≤ b.len) (hl1 : b.len ≤ 100000000) (hu : up8 b.len = u) (hus0 : 0 ≤ s.used) (hus1 : s.used ≤ 1000000000000) (hfl : s.free.length ≤ 100000000) (hhp : IsHeap s.free s.free.length) (t : Sto) (htb : t.blks.length = s.blks.length) (htf : t.free = s.free) (htu : t.used = s.used) {S : Nat → Prop} (hO : Own S sb vr vb vf)
    (ht0 : b.len = 0 → t = s)
    (hcu : 0 < b.len → Calls Tryz.prog 209 #[.pointer (some ⟨sb, 0, none⟩), .int .i64 (id + 1)] W fun e w' => e = .returned (.tuple #[]) ∧ Lay w' sb vr vb vf t ∧ Upd S W w') :
    Calls Tryz.prog 164 #[.pointer (some ⟨sb, 0, none⟩), .int .i64 id] W fun e w' => e = .returned (.int .i64 0) ∧ Upd S W w' ∧ ∃ free' vf', free'.Perm (s.free ++ [(id : Int)]) ∧ IsHeap free' free'.length ∧ Lay w' sb vr vb vf' (({ t with blks := t.blks.set id noBlk, used := s.used - u } : Sto).fr free') ∧ Own (Nx S W w') sb vr vb vf' := by
  have ch := has_c h (by omega) id
  simp only [hx, Option.isSome_some] at ch
  obtain ⟨k, hk, hb, hl⟩ := ext_some hx
  have hk' : k = id := by omega
  subst hk'
  have h1 := (List.getElem?_eq_some_iff.1 hb).1
  have hg : s.get (k + 1) = some b := by unfold Sto.get; rw [if_neg (by omega)]; exact hb
  obtain ⟨g0, cap0, hvb0, _⟩ := own_slice h.blk (Nat.lt_of_le_of_lt (Nat.zero_le _) h1)
  obtain ⟨_, _, b2, _, _⟩ := bcells h hg (.inr ⟨by omega, by rw [hvb0]; rfl, rfl⟩)
  simp only [Nat.add_sub_cancel] at b2
  have c6 := h.cell 6
  simp [Sto.obj, hvb0] at c6
  have h0' : (0 : Int) ≤ k := by omega
  have h1' : (k : Int) < s.blks.length := by omega
  have cn := fun w => number_c k w (by omega) (by omega)
  have hub : 0 ≤ (u : Int) ∧ (u : Int) ≤ 100000008 := by unfold up8 at hu; omega
  have cu := fun w => roundUp_c b.len w hl0 (by omega)
  rw [hu] at cu
  have hh1 : (k : Int) ≤ 1000000000 := by omega
  have hkt : k < t.blks.length := by rw [htb]; exact h1
  clear hg hb hx hk hvb0
  go_enter Tryz.func164, Tryz.ntmps164
  by_cases hlen0 : 0 < b.len
  · have cun := hcu hlen0
    go_upto_region 6 with (first | (go_at_call 208; (with_reducible refine ch.mono ?_); rintro e w' ⟨rfl, hw⟩; (have hw' := hw.symm); subst hw'; clear hw) | (go_at_call 210; (with_reducible refine (cn _).mono ?_); rintro e w' ⟨rfl, hw⟩; (have hw' := hw.symm); subst hw'; clear hw) | (go_at_call 209; (with_reducible refine cun.mono ?_); rintro e W1 ⟨rfl, hL1, hU1⟩; clear cun))
    clear b2 c6
    have c8 := hL1.cell 8
    simp [Sto.obj, htu] at c8
    have th8 := hL1.thaw 8
    have hw8 : IntKind.i64.wrap (s.used - u) = s.used - u := by rw [IntKind.wrap_i64]; omega
    have k8 : ∀ v : Value, (W1.drew.setCell ⟨sb, 8, none⟩ v).cell? ⟨sb, 8, none⟩ = some v := fun v => World.cell?_setCell_same' _ _ _ (by show (W1.cell? _).isSome = true; rw [c8]; rfl)
    go_region_with (go_at_call 211; (with_reducible refine (cu _).mono ?_); rintro e w' ⟨rfl, hw⟩; (have hw' := hw.symm); subst hw'; clear hw)
    all_goals (
      have hL2 : Lay (W1.setCell ⟨sb, 8, none⟩ (.int .i64 (s.used - u))).drew sb vr vb vf { t with used := s.used - u } := (hL1.store (s' := { t with used := s.used - u }) 8 _ rfl rfl rfl rfl).drew
      have hU2 := (hU1.setCell (p := ⟨sb, 8, none⟩) (.inl hO.sb) (.int .i64 (s.used - u))).drew
      clear c8 th8 k8 hL1 hU1
      generalize World.drew (World.setCell W1 _ _) = W2 at *
      obtain ⟨b3, hb3⟩ : ∃ b3, ({ t with used := s.used - u } : Sto).get (k + 1) = some b3 := ⟨t.blks[k]'hkt, by unfold Sto.get; rw [if_neg (by omega)]; exact List.getElem?_eq_getElem hkt⟩
      obtain ⟨g, cap, hvb, hcap⟩ := own_slice hL2.blk (by show 0 < t.blks.length; omega)
      have pt : Pt sb vb (k + 1) g (k * 5) := .inr ⟨by omega, by rw [hvb]; rfl, by simp⟩
      have hvb' : vb = .slice (some ⟨g, 0, none⟩) t.blks.length cap := hvb
      have c6 := hL2.cell 6
      simp [Sto.obj, hvb'] at c6
      obtain ⟨a0, a1, a2, a3, a4⟩ := bcells hL2 hb3 pt
      have t0 := hL2.bthaw hb3 pt 0
      have t1 := hL2.bthaw hb3 pt 1
      have t2 := hL2.bthaw hb3 pt 2
      have t3 := hL2.bthaw hb3 pt 3
      have t4 := hL2.bthaw hb3 pt 4
      simp only [Nat.add_zero] at t0
      have i0 : (0 : Int) ≤ k := by omega
      have i1 : (k : Int) < t.blks.length := by omega
      have hL3 : Lay (((((W2.setCell ⟨g, k * 5, none⟩ (.bool false)).setCell ⟨g, k * 5 + 1, none⟩ (.int .i64 0)).setCell ⟨g, k * 5 + 2, none⟩ (.int .i64 0)).setCell ⟨g, k * 5 + 3, none⟩ (.int .i64 0)).setCell ⟨g, k * 5 + 4, none⟩ (.int .i64 0)) sb vr vb vf { t with blks := t.blks.set k noBlk, used := s.used - u } := by
        have := hL2.bfull hb3 pt noBlk
        rw [show ({ t with used := s.used - u } : Sto).set (k + 1) noBlk = { t with blks := t.blks.set k noBlk, used := s.used - u } by unfold Sto.set; rw [if_neg (by omega)]; rfl] at this
        exact this
      have hU3 := hU2.five (.inl (hO.pt pt)) (k * 5) (k * 5 + 1) (k * 5 + 2) (k * 5 + 3) (k * 5 + 4) (.bool false) (.int .i64 0) (.int .i64 0) (.int .i64 0) (.int .i64 0)
      have HVB := (show Hid _ from hvb')
      clear hvb hvb'
      go_upto_region 8 with fail
      clear a0 a1 a2 a3 a4 t0 t1 t2 t3 t4 c6 hL2 hU2
      generalize World.setCell (World.setCell (World.setCell (World.setCell (World.setCell W2 _ _) _ _) _ _) _ _) _ _ = W3 at *
      have cp := heapPush_c hL3 (by show t.free.length ≤ _; rw [htf]; exact hfl) (by show IsHeap t.free t.free.length; rw [htf]; exact hhp) k hO
      have HU := (show Hid _ from hU3)
      clear hL3 hU3
      go_wp2_with (go_at_call 212; (with_reducible refine cp.mono ?_); rintro e W4 ⟨rfl, hU4, free', vf', hp4, hh4, hL4, hO4⟩; clear cp)
      go_ret
      refine ⟨rfl, HU.out.trans (hU4.mono (fun k g => .inl g)), free', vf', ?_, hh4, hL4, hO4.mono ?_⟩
      · have : free'.Perm (t.free ++ [(k : Int)]) := hp4
        rw [htf] at this; exact this
      · rintro k (g | g)
        · exact .inl g
        · exact .inr ⟨by have := HU.out.size; omega, g.2⟩)
  · have hl00 : b.len = 0 := by omega
    have ets := ht0 hl00
    clear hl00
    go_upto_region 6 with (first | (go_at_call 208; (with_reducible refine ch.mono ?_); rintro e w' ⟨rfl, hw⟩; (have hw' := hw.symm); subst hw'; clear hw))
    have hL1 : Lay W sb vr vb vf t := by rw [ets]; exact h
    have hU1 := Upd.refl S W
    clear b2 c6 ets
    have c8 := hL1.cell 8
    simp [Sto.obj, htu] at c8
    have th8 := hL1.thaw 8
    have hw8 : IntKind.i64.wrap (s.used - u) = s.used - u := by rw [IntKind.wrap_i64]; omega
    have k8 : ∀ v : Value, (W.drew.setCell ⟨sb, 8, none⟩ v).cell? ⟨sb, 8, none⟩ = some v := fun v => World.cell?_setCell_same' _ _ _ (by show (W.cell? _).isSome = true; rw [c8]; rfl)
    go_region_with (go_at_call 211; (with_reducible refine (cu _).mono ?_); rintro e w' ⟨rfl, hw⟩; (have hw' := hw.symm); subst hw'; clear hw)
    all_goals (
      have hL2 : Lay (W.setCell ⟨sb, 8, none⟩ (.int .i64 (s.used - u))).drew sb vr vb vf { t with used := s.used - u } := (hL1.store (s' := { t with used := s.used - u }) 8 _ rfl rfl rfl rfl).drew
      have hU2 := (hU1.setCell (p := ⟨sb, 8, none⟩) (.inl hO.sb) (.int .i64 (s.used - u))).drew
      clear c8 th8 k8 hL1 hU1
      generalize World.drew (World.setCell W _ _) = W2 at *
      obtain ⟨b3, hb3⟩ : ∃ b3, ({ t with used := s.used - u } : Sto).get (k + 1) = some b3 := ⟨t.blks[k]'hkt, by unfold Sto.get; rw [if_neg (by omega)]; exact List.getElem?_eq_getElem hkt⟩
      obtain ⟨g, cap, hvb, hcap⟩ := own_slice hL2.blk (by show 0 < t.blks.length; omega)
      have pt : Pt sb vb (k + 1) g (k * 5) := .inr ⟨by omega, by rw [hvb]; rfl, by simp⟩
      have hvb' : vb = .slice (some ⟨g, 0, none⟩) t.blks.length cap := hvb
      have c6 := hL2.cell 6
      simp [Sto.obj, hvb'] at c6
      obtain ⟨a0, a1, a2, a3, a4⟩ := bcells hL2 hb3 pt
      have t0 := hL2.bthaw hb3 pt 0
      have t1 := hL2.bthaw hb3 pt 1
      have t2 := hL2.bthaw hb3 pt 2
      have t3 := hL2.bthaw hb3 pt 3
      have t4 := hL2.bthaw hb3 pt 4
      simp only [Nat.add_zero] at t0
      have i0 : (0 : Int) ≤ k := by omega
      have i1 : (k : Int) < t.blks.length := by omega
      have hL3 : Lay (((((W2.setCell ⟨g, k * 5, none⟩ (.bool false)).setCell ⟨g, k * 5 + 1, none⟩ (.int .i64 0)).setCell ⟨g, k * 5 + 2, none⟩ (.int .i64 0)).setCell ⟨g, k * 5 + 3, none⟩ (.int .i64 0)).setCell ⟨g, k * 5 + 4, none⟩ (.int .i64 0)) sb vr vb vf { t with blks := t.blks.set k noBlk, used := s.used - u } := by
        have := hL2.bfull hb3 pt noBlk
        rw [show ({ t with used := s.used - u } : Sto).set (k + 1) noBlk = { t with blks := t.blks.set k noBlk, used := s.used - u } by unfold Sto.set; rw [if_neg (by omega)]; rfl] at this
        exact this
      have hU3 := hU2.five (.inl (hO.pt pt)) (k * 5) (k * 5 + 1) (k * 5 + 2) (k * 5 + 3) (k * 5 + 4) (.bool false) (.int .i64 0) (.int .i64 0) (.int .i64 0) (.int .i64 0)
      have HVB := (show Hid _ from hvb')
      clear hvb hvb'
      go_upto_region 8 with fail
      clear a0 a1 a2 a3 a4 t0 t1 t2 t3 t4 c6 hL2 hU2
      generalize World.setCell (World.setCell (World.setCell (World.setCell (World.setCell W2 _ _) _ _) _ _) _ _) _ _ = W3 at *
      have cp := heapPush_c hL3 (by show t.free.length ≤ _; rw [htf]; exact hfl) (by show IsHeap t.free t.free.length; rw [htf]; exact hhp) k hO
      have HU := (show Hid _ from hU3)
      clear hL3 hU3
      go_wp2_with (go_at_call 212; (with_reducible refine cp.mono ?_); rintro e W4 ⟨rfl, hU4, free', vf', hp4, hh4, hL4, hO4⟩; clear cp)
      go_ret
      refine ⟨rfl, HU.out.trans (hU4.mono (fun k g => .inl g)), free', vf', ?_, hh4, hL4, hO4.mono ?_⟩
      · have : free'.Perm (t.free ++ [(k : Int)]) := hp4
        rw [htf] at this; exact this
      · rintro k (g | g)
        · exact .inl g
        · exact .inr ⟨by have := HU.out.size; omega, g.2⟩)
end
end Go.Proofs.YtgkakflnmpoadaaGreatDoor.W
/- Package store: Take of no bytes, and its errors. -/
namespace Go.Proofs.YtgkakflnmpoadaaGreatDoor.W
open Go.ChangeShapes Go.WideShapes Go.RowKit Go.Shelf
set_option linter.unusedVariables false
section
variable {W : World} {sb : Nat} {vr vb vf : Value} {s : Sto}
end
end Go.Proofs.YtgkakflnmpoadaaGreatDoor.W
/- Package store: how a store lies, in plain words: the ring as a list, and what each Id has. -/
namespace Go.Proofs.YtgkakflnmpoadaaGreatDoor.W
set_option linter.unusedVariables false
/-- an extent with bytes: its block's number, its place, its length -/
structure Ex where
  n : Nat
  p : Nat
  l : Nat
def up8N (l : Nat) : Nat := (l + 7) / 8 * 8
theorem up8N_eq (l : Nat) : up8 (l : Int) = (up8N l : Nat) := by unfold up8 up8N; omega
def Ex.stop (e : Ex) : Nat := e.p + up8N e.l
/-- the front, as an extent -/
def front : Ex := ⟨0, 0, 0⟩
/-- the ring: the front, then the extents in their order -/
def ring (E : List Ex) : List Ex := front :: E
/-- extents lie one behind the other, at multiples of 8 -/
def Lies (E : List Ex) (room : Nat) : Prop := (∀ i e f, (ring E)[i]? = some e → (ring E)[i + 1]? = some f → e.stop ≤ f.p) ∧ (∀ e ∈ E, e.p % 8 = 0 ∧ 0 < e.l ∧ e.n ≠ 0) ∧ (∀ e ∈ ring E, e.stop ≤ room)
/-- the block of an extent of the ring -/
def blkOf (E : List Ex) (i : Nat) (e : Ex) : Blk := ⟨decide (0 < i), e.p, e.l, (((ring E)[if i = 0 then E.length else i - 1]?.map Ex.n).getD 0 : Nat), (((ring E)[i + 1]?.map Ex.n).getD 0 : Nat)⟩
structure Good (s : Sto) (E : List Ex) : Prop where
  nodup : ((ring E).map Ex.n).Nodup
  lies : Lies E s.row.length
  get : ∀ i e, (ring E)[i]? = some e → s.get e.n = some (blkOf E i e)
  byte : ∀ x ∈ s.row, x < 256
  hand : ∃ e ∈ ring E, s.hand = (e.n : Nat)
  zero : ∀ id b, s.blks[id]? = some b → id + 1 ∉ (ring E).map Ex.n → b = noBlk ∨ b = ⟨true, 0, 0, 0, 0⟩
  heap : IsHeap s.free s.free.length
  nodupF : s.free.Nodup
  free : ∀ x : Int, x ∈ s.free ↔ ∃ id : Nat, x = id ∧ s.blks[id]? = some noBlk
  used : s.used = ((E.map (fun e => up8N e.l)).foldr (· + ·) 0 : Nat)
  row8 : s.row.length % 8 = 0
end Go.Proofs.YtgkakflnmpoadaaGreatDoor.W
