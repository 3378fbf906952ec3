import Derived.Test.YtgmimmdojkoppaaGreatDoorBase4
import Derived.Test.YtgmimmdojkoppaaGreatDoorBase2
/- Package store: one going over the ring by seek. -/
namespace Go.Proofs.YtgmimmdojkoppaaGreatDoor.W
open Go.ChangeShapes Go.WideShapes Go.RowKit Go.Shelf
set_option linter.unusedVariables false
attribute [local go_sem] Oper.semAt_some

def cIn : Code → Code
  | .scope c => c
  | .loop c => c
  | .block _ c => c
  | c => c
def cFst : Code → Code
  | .seq x _ => x
  | c => c
def cSnd : Code → Code
  | .seq _ y => y
  | c => c
/-- the room behind a block of a chain -/
def roomAt (s : Sto) (xs : List Nat) (i : Nat) : Int := roomOf s (s.getD (xs.getD i 0)) (xs[i + 1]?.getD 0) (s.getD (xs[i + 1]?.getD 0))
set_option maxHeartbeats 2000000 in
theorem seek_pass {W W1 : World} {sb : Nat} {vr vr0 vb vf : Value} {s s0 : Sto} {S : Nat → Prop} (h0 : Lay W sb vr0 vb vf s0) (f : Fit s) (hU1 : Upd S W W1) (hL1 : Lay W1 sb vr vb vf s) (hO : S sb) (size : Int) (hB1 : Boxed W1 W.heap.size 41 (.pointer (some ⟨sb, 0, none⟩))) (hB2 : Boxed W1 (W.heap.size + 1) 3 (.int .i64 size))
    (xs : List Nat) (hne : 0 < xs.length) (hd : xs.Nodup) (hz : ∀ i (hi : i + 1 < xs.length), xs[i + 1] ≠ 0) (hh : s.hand = (xs[0] : Nat))
    (hch : ∀ i (hi : i < xs.length), ∃ b, s.get xs[i] = some b ∧ b.next = (xs[i + 1]?.getD 0 : Nat)) {Y : Code} (hY : cFst (cIn (cIn (cIn (cFst (cSnd (cIn (cSnd (Tryz.f266.body.getD .skip)))))))) = Y) {Q : Exit → Act → World → Prop} (ds : List Deferred) (u4 u5 u6 u7 u8 u9 u10 u11 u12 u13 u14 u15 u16 u17 u18 u19 u20 u21 u22 u23 u24 u25 u26 u27 u28 u29 u30 u31 u32 u33 u34 u35 u36 u37 : Value)
    (hdone : ∀ W3 D, (∀ i, i < xs.length → roomAt s xs i < size) → Upd S W W3 → Lay W3 sb vr vb vf s → Boxed W3 W.heap.size 41 (.pointer (some ⟨sb, 0, none⟩)) → Boxed W3 (W.heap.size + 1) 3 (.int .i64 size) → W1.heap.size ≤ D → W3.heap[D]? = some (.deferred (some [])) → (∀ d, W.heap.size ≤ d → d < W1.heap.size → W3.heap[d]? = W1.heap[d]?) → Q .normal { tmps := #[.pointer (some ⟨sb, 0, none⟩), .int .i64 size, .pointer (some ⟨W.heap.size, 0, none⟩), .pointer (some ⟨W.heap.size + 1, 0, none⟩), u4, u5, .pointer (some ⟨sb, 0, none⟩), .pointer (some ⟨sb, 0, none⟩), .pointer (some ⟨sb, 0, none⟩), .pointer (some ⟨sb, 9, none⟩), .int .i64 (xs[0] : Nat), .func (.func 307) #[] #[.pointer (some ⟨W1.heap.size + 1, 0, none⟩), .pointer (some ⟨W1.heap.size, 0, none⟩)], u12, u13, u14, u15, u16, u17, u18, u19, u20, u21, u22, u23, u24, u25, u26, u27, u28, u29, u30, u31, u32, u33, u34, u35, u36, u37], defers := { target := .collected D, args := #[] } :: ds } W3)
    (hstop : ∀ W3 D i (hi : i < xs.length), size ≤ roomAt s xs i → Upd S W W3 → Lay W3 sb vr vb vf { s with hand := (xs[i] : Nat) } → Boxed W3 W.heap.size 41 (.pointer (some ⟨sb, 0, none⟩)) → W1.heap.size ≤ D → W3.heap[D]? = some (.deferred (some [])) → (∀ d, W.heap.size ≤ d → d < W1.heap.size → W3.heap[d]? = W1.heap[d]?) → Q (.exit 0) { tmps := #[.pointer (some ⟨sb, 0, none⟩), .int .i64 size, .pointer (some ⟨W.heap.size, 0, none⟩), .pointer (some ⟨W.heap.size + 1, 0, none⟩), u4, u5, .pointer (some ⟨sb, 0, none⟩), .pointer (some ⟨sb, 0, none⟩), .pointer (some ⟨sb, 0, none⟩), .pointer (some ⟨sb, 9, none⟩), .int .i64 (xs[0] : Nat), .func (.func 307) #[] #[.pointer (some ⟨W1.heap.size + 1, 0, none⟩), .pointer (some ⟨W1.heap.size, 0, none⟩)], u12, u13, u14, u15, u16, u17, u18, u19, u20, u21, u22, u23, u24, u25, u26, u27, u28, u29, u30, u31, u32, u33, u34, u35, u36, u37], defers := { target := .collected D, args := #[] } :: ds } W3) :
    Y.wp Tryz.prog Q { tmps := #[.pointer (some ⟨sb, 0, none⟩), .int .i64 size, .pointer (some ⟨W.heap.size, 0, none⟩), .pointer (some ⟨W.heap.size + 1, 0, none⟩), u4, u5, u6, u7, u8, u9, u10, u11, u12, u13, u14, u15, u16, u17, u18, u19, u20, u21, u22, u23, u24, u25, u26, u27, u28, u29, u30, u31, u32, u33, u34, u35, u36, u37], defers := ds } W1 := by
  obtain ⟨lsb, lr, lb, lf⟩ := lay_lt h0
  have s1 := hU1.size
  have c9 := hL1.cell 9
  simp [Sto.obj, hh] at c9
  have cs := hB1.cell
  have lt2 := hB2.lt
  dsimp only [Tryz.f266, cIn, cFst, cSnd, Option.getD_some] at hY
  subst hY
  go_wp2
  go_region_held3 (fun w' => w'.cell? ⟨sb, 9, none⟩ = some (.int .i64 (xs[0] : Nat)) ∧ w'.cell? ⟨W.heap.size, 0, none⟩ = some (.pointer (some ⟨sb, 0, none⟩))) (first | exact ⟨c9, cs⟩ | go_keep) (first | (go_at_call 294; (refine (from_c _ sb xs[0]).mono ?_); rintro e w' ⟨rfl, hw⟩; (have hw' := hw.symm); subst hw'; clear hw))
  go_wp2
  have hU2 := ((hU1.alloc (.cells #[.pointer (some ⟨sb, 0, none⟩)] 41)).alloc (.cells #[.int .i64 (xs[0] : Nat)] 3)).drew
  have hL2 := ((hL1.alloc (.cells #[.pointer (some ⟨sb, 0, none⟩)] 41)).alloc (.cells #[.int .i64 (xs[0] : Nat)] 3)).drew
  have hB4 : Boxed ((W1.alloc (.cells #[.pointer (some ⟨sb, 0, none⟩)] 41)).alloc (.cells #[.int .i64 (xs[0] : Nat)] 3)).drew (W1.heap.size + 1) 3 (.int .i64 (xs[0] : Nat)) := by
    have := Boxed.new (W1.alloc (.cells #[.pointer (some ⟨sb, 0, none⟩)] 41)) 3 (.int .i64 (xs[0] : Nat))
    rw [World.size_alloc] at this
    exact this
  have hB3 : Boxed ((W1.alloc (.cells #[.pointer (some ⟨sb, 0, none⟩)] 41)).alloc (.cells #[.int .i64 (xs[0] : Nat)] 3)).drew W1.heap.size 41 (.pointer (some ⟨sb, 0, none⟩)) := (Boxed.new W1 41 (.pointer (some ⟨sb, 0, none⟩))).alloc (.cells #[.int .i64 (xs[0] : Nat)] 3)
  have hB1' : Boxed ((W1.alloc (.cells #[.pointer (some ⟨sb, 0, none⟩)] 41)).alloc (.cells #[.int .i64 (xs[0] : Nat)] 3)).drew W.heap.size 41 (.pointer (some ⟨sb, 0, none⟩)) := (hB1.alloc _).alloc _
  have hB2' : Boxed ((W1.alloc (.cells #[.pointer (some ⟨sb, 0, none⟩)] 41)).alloc (.cells #[.int .i64 (xs[0] : Nat)] 3)).drew (W.heap.size + 1) 3 (.int .i64 size) := (hB2.alloc _).alloc _
  have hz2 : ((W1.alloc (.cells #[.pointer (some ⟨sb, 0, none⟩)] 41)).alloc (.cells #[.int .i64 (xs[0] : Nat)] 3)).drew.heap.size = W1.heap.size + 2 := by
    show ((W1.alloc (.cells #[.pointer (some ⟨sb, 0, none⟩)] 41)).alloc (.cells #[.int .i64 (xs[0] : Nat)] 3)).heap.size = _
    simp
  have hold : ∀ d, W.heap.size ≤ d → d < W1.heap.size → ((W1.alloc (.cells #[.pointer (some ⟨sb, 0, none⟩)] 41)).alloc (.cells #[.int .i64 (xs[0] : Nat)] 3)).drew.heap[d]? = W1.heap[d]? := fun d _ hd => by
    show ((W1.alloc (.cells #[.pointer (some ⟨sb, 0, none⟩)] 41)).alloc (.cells #[.int .i64 (xs[0] : Nat)] 3)).heap[d]? = _
    rw [Below.heap_alloc _ _ _ (by simp; omega), Below.heap_alloc _ _ _ hd]
  clear c9 cs
  generalize World.drew (World.alloc (World.alloc W1 _) _) = W2 at *
  obtain ⟨l0, l1, l2, l3⟩ := lay_lt hL1
  refine ring_law (Bn := W1.heap.size + 1) (Bs := W1.heap.size) (sb := sb) rfl xs hne hd hz hB4
    (fun i W' => W1.heap.size ≤ W'.heap.size ∧ Upd S W W' ∧ Lay W' sb vr vb vf s ∧ Boxed W' W.heap.size 41 (.pointer (some ⟨sb, 0, none⟩)) ∧ Boxed W' (W.heap.size + 1) 3 (.int .i64 size) ∧ Boxed W' W1.heap.size 41 (.pointer (some ⟨sb, 0, none⟩)) ∧ (∀ j, j < i → roomAt s xs j < size) ∧ (∀ d, W.heap.size ≤ d → d < W1.heap.size → W'.heap[d]? = W1.heap[d]?))
    (fun c W' => c = .exit 0 ∧ ∃ i, ∃ hi : i < xs.length, size ≤ roomAt s xs i ∧ W1.heap.size ≤ W'.heap.size ∧ Upd S W W' ∧ Lay W' sb vr vb vf { s with hand := (xs[i] : Nat) } ∧ Boxed W' W.heap.size 41 (.pointer (some ⟨sb, 0, none⟩)) ∧ (∀ d, W.heap.size ≤ d → d < W1.heap.size → W'.heap[d]? = W1.heap[d]?))
    ?hI ?hIx ⟨by omega, hU2, hL2, hB1', hB2', hB3, fun j hj => absurd hj (by omega), hold⟩ ?hread 5 ?assign ?body ?done ?stop
  case hI =>
    rintro i Wa Wb ⟨g0, g1, g2, g3, g4, g5, g6, g7⟩ hu
    exact ⟨Nat.le_trans g0 hu.size, upd_far g1 hu (by omega) (by omega), lay_far hL1 g2 g0 hu (by omega), box_far g3 hu (by omega) (by omega), box_far g4 hu (by omega) (by omega), box_far g5 hu (by omega) (by omega), g6, fun d h1 h2 => (hu.block d (by omega) (by omega)).trans (g7 d h1 h2)⟩
  case hIx =>
    rintro c Wa Wb ⟨rfl, i, hi, hr, g0, g1, g2, g3, g7⟩ hu
    exact ⟨rfl, i, hi, hr, Nat.le_trans g0 hu.size, upd_far g1 hu (by omega) (by omega), lay_far hL1 g2 g0 hu (by omega), box_far g3 hu (by omega) (by omega), fun d h1 h2 => (hu.block d (by omega) (by omega)).trans (g7 d h1 h2)⟩
  case hread =>
    rintro i hi Wa ⟨g0, g1, g2, g3, g4, g5, g6, g7⟩
    obtain ⟨b, hb, hnx⟩ := hch i hi
    obtain ⟨B, O, pt⟩ := g2.pt hb
    obtain ⟨_, _, _, _, d4⟩ := bcells g2 hb pt
    exact ⟨g5.cell, B, O, block_c Wa sb vr vb vf _ g2 _ _ hb f.len B O pt, by rw [d4, hnx]⟩
  case assign =>
    intro L x W' K hK
    gi_wp2
    exact hK
  case body =>
    rintro L i hi W' hLe ⟨g0, g1, g2, g3, g4, g5, g6, g7⟩ hs ⟨r, hr⟩ b4
    simp only [ringAct, List.setIfInBounds_toArray, List.set_cons_succ, List.set_cons_zero]
    obtain ⟨b, hb, hnx⟩ := hch i hi
    obtain ⟨cc, hcc⟩ : ∃ cc, s.get (xs[i + 1]?.getD 0) = some cc := by
      by_cases hl : i + 1 < xs.length
      · obtain ⟨b', hb', _⟩ := hch (i + 1) hl
        exact ⟨b', by rw [List.getElem?_eq_getElem hl]; exact hb'⟩
      · exact ⟨s.head, by rw [List.getElem?_eq_none (by omega)]; rfl⟩
    have hroom : roomAt s xs i = roomOf s b (xs[i + 1]?.getD 0) cc := by
      unfold roomAt
      rw [getD_get (List.getElem?_eq_getElem hi), getD_of hb, getD_of hcc]
    have cr := fun q => room_c (g2.drewN q) f xs[i] (xs[i + 1]?.getD 0) b cc hb hnx hcc
    rw [← hroom] at cr
    have cs := g3.cell
    have cz := g4.cell
    have th := g2.thaw 9
    have c9 := g2.cell 9
    simp [Sto.obj] at c9
    clear b4
    gi_wp2
    refine round_quiet (by kernel_rfl) (by kernel_rfl) (by rintro ⟨a, w, hF⟩; exact hF) (by kernel_rfl) ?_
    repeat (quiet_step ((go_at_call 295; exact Calls.quiet_of (cr _))))
    refine wpQuiet_nil ?_
    rintro _ ⟨nq, rfl⟩
    have hx9 : ∀ v : Value, ∀ x : Nat, x ≠ sb → ((W'.drewN nq).setCell ⟨sb, 9, none⟩ v).heap[x]? = W'.heap[x]? := fun v x hx => by rw [Below.heap_setCell _ _ _ _ hx]; rfl
    by_cases hroom' : size ≤ roomAt s xs i
    · have HR := (show Hid _ from hroom')
      gi_wp2
      refine ⟨⟨hx9 _ _ (by omega), hx9 _ _ (by omega), hx9 _ _ (by omega)⟩, rfl, i, hi, HR.out, ?_, (g1.drewN _).setCell (p := ⟨sb, 9, none⟩) (.inl hO) _, (g2.drewN _).store 9 _ rfl rfl rfl rfl, boxed_set g3 (by omega) _ _, fun d h1 h2 => (hx9 _ d (by omega)).trans (g7 d h1 h2)⟩
      simpa [World.setCell, World.drewN] using g0
    · have hr2 : roomAt s xs i < size := by omega
      have HR := (show Hid _ from hr2)
      gi_wp2
      exact ⟨⟨rfl, rfl, rfl⟩, g0, g1.drewN _, g2.drewN _, g3, g4, g5, fun j hj => by
        by_cases e : j = i
        · rw [e]; exact HR.out
        · exact g6 j (by omega), g7⟩
  case done =>
    rintro W' ⟨g0, g1, g2, g3, g4, g5, g6, g7⟩ hD
    exact hdone W' _ g6 g1 g2 g3 g4 (by omega) hD g7
  case stop =>
    rintro c W' ⟨rfl, i, hi, hr, g0, g1, g2, g3, g7⟩ hD
    refine wp_exit ?_
    exact hstop W' _ i hi hr g1 g2 g3 (by omega) hD g7
end Go.Proofs.YtgmimmdojkoppaaGreatDoor.W
/- Package store: seek, whatever the gaps are. -/
namespace Go.Proofs.YtgmimmdojkoppaaGreatDoor.W
open Go.ChangeShapes Go.WideShapes Go.RowKit Go.Shelf
set_option linter.unusedVariables false
attribute [local go_sem] Oper.semAt_some

theorem Lay.putDef {W : World} {sb : Nat} {vr vb vf : Value} {s : Sto} (h : Lay W sb vr vb vf s) {D : Nat} {x : Option (List Deferred)} (hD : W.heap[D]? = some (.deferred x)) (o : Obj) : Lay (W.putObj D o) sb vr vb vf s := by
  have key : ∀ {e : TypeId} {size : Nat} {v : Value} {n : Nat} {xs : List Value}, W.ownsRow 0 e size v n xs → ∀ k, v.ownBlock = some k → (W.putObj D o).heap[k]? = W.heap[k]? := by
    intro e size v n xs ho k hk
    rcases ho.2 with ⟨rfl, _⟩ | ⟨g, cap, cur, rfl, _, hg, _⟩
    · simp [Value.ownBlock] at hk
    · simp [Value.ownBlock] at hk
      subst hk
      exact World.putObj_heap_other (by rintro rfl; rw [hg] at hD; cases hD)
  exact h.kept (World.putObj_heap_other (by rintro rfl; have := h.obj; rw [this] at hD; cases hD)) (key h.row) (key h.blk) (key h.free)
theorem seekpost_put {S : Nat → Prop} {W w' : World} {sb : Nat} {vb vf : Value} {n : Nat} {bn : Blk} {G : Sto → Nat → Nat → Nat → Prop} {e : Ending} (h : SeekPost S W sb vb vf n bn G e w') {D : Nat} {x : Option (List Deferred)} (hD : w'.heap[D]? = some (.deferred x)) (hW : W.heap.size ≤ D) (o : Obj) : SeekPost S W sb vb vf n bn G e (w'.putObj D o) := by
  obtain ⟨s1, vr1, bk, nx, p, bb, bx, h1, h2, h3, h4, rest⟩ := h
  have lt := (Array.getElem?_eq_some_iff.1 hD).1
  exact ⟨s1, vr1, bk, nx, p, bb, bx, h1, h2.putObj (.inr ⟨hW, lt⟩) o, h3.putDef hD o, h4.on (by simp), rest⟩
theorem Pk.congr {s s' : Sto} {c : List Nat} {bl : Nat → Blk} {p l u en : Nat → Nat} (k : Pk s c bl p l u en) (hg : ∀ n, s'.get n = s.get n) (hr : s'.row = s.row) : Pk s' c bl p l u en :=
  ⟨k.ne, k.zero, k.nodup, fun i n e => by rw [hg]; exact k.get i n e, k.next, k.pos, k.len, k.up, k.en0, k.en1, k.le, fun i hi => by rw [hr]; exact k.stop i hi, k.first, k.rest⟩
/-- what is left as it was but for the hand, and whether gaps have been sought -/
def Sto.turn (s : Sto) (h : Int) (b : Bool) : Sto := { s with hand := h, sought := b }
theorem fit_turn {s : Sto} (f : Fit s) (h : Int) (b : Bool) : Fit (s.turn h b) := ⟨f.len, f.row, f.byte, f.used0, f.used1, f.blk⟩
theorem packN_other {s : Sto} {c : List Nat} {bl : Nat → Blk} {p l en : Nat → Nat} (i n : Nat) (hi : i ≤ c.length) (hn : n ∉ c) : (packN s c bl p l en i).get n = s.get n := by
  induction i with
  | zero => rfl
  | succ i ih =>
    have e : c[i]? = some c[i] := List.getElem?_eq_getElem (by omega)
    have hne : n ≠ c.getD i 0 := by
      rw [getD_get e]
      rintro rfl
      exact hn (List.getElem_mem _)
    have this : (packN s c bl p l en (i + 1)).get n = ((packN s c bl p l en i).set (c.getD i 0) { bl i with pos := en i }).get n := rfl
    rw [this, get_set_ne _ hne]
    exact ih (by omega)
theorem mem_setL (row : List Nat) (o : Nat) (vs : List Nat) (x : Nat) (h : x ∈ setL row o vs) : x ∈ row ∨ x ∈ vs := by
  induction vs generalizing row o with
  | nil => exact .inl h
  | cons v r ih =>
    rcases ih _ _ h with g | g
    · rcases List.mem_or_eq_of_mem_set g with g | g
      · exact .inl g
      · exact .inr (by rw [g]; simp)
    · exact .inr (by simp [g])
theorem packN_byte {s : Sto} {c : List Nat} {bl : Nat → Blk} {p l en : Nat → Nat} (i : Nat) (h : ∀ x ∈ s.row, x < 256) : ∀ x ∈ (packN s c bl p l en i).row, x < 256 := by
  induction i with
  | zero => exact h
  | succ i ih =>
    intro x hx
    rcases mem_setL _ _ _ _ hx with g | g
    · exact ih x g
    · exact ih x (List.mem_of_mem_drop (List.mem_of_mem_take g))
theorem fit_packed {s : Sto} {c : List Nat} {bl : Nat → Blk} {p l u en : Nat → Nat} (f : Fit s) (k : Pk s c bl p l u en) : Fit (packedSto s c bl p l en) := by
  have hr := packN_rest (s := s) (c := c) (bl := bl) (p := p) (l := l) (en := en) c.length
  refine ⟨?_, ?_, ?_, ?_, ?_, ?_⟩
  · show (packN s c bl p l en c.length).blks.length ≤ _
    rw [packN_blks]; exact f.len
  · show ((packN s c bl p l en c.length).row.take (en c.length)).length ≤ _
    have := packN_row (s := s) (c := c) (bl := bl) (p := p) (l := l) (en := en) c.length
    have := f.row
    rw [List.length_take]; omega
  · intro x hx
    exact packN_byte c.length f.byte x (List.mem_of_mem_take hx)
  · show 0 ≤ (packN s c bl p l en c.length).used
    rw [hr.2.1]; exact f.used0
  · show (packN s c bl p l en c.length).used ≤ _
    rw [hr.2.1]; exact f.used1
  · intro n b hb
    have hb' : (packN s c bl p l en c.length).get n = some b := hb
    by_cases hn : n ∈ c
    · obtain ⟨j, hj, e⟩ := List.mem_iff_getElem.1 hn
      have hc : c[j]? = some n := by rw [List.getElem?_eq_getElem hj, e]
      rw [packN_earlier k c.length j n hj (Nat.le_refl _) hc] at hb'
      cases hb'
      have fb := f.blk n (bl j) (k.get j n hc)
      have := k.le j hj
      rw [k.pos j hj] at fb
      exact ⟨by show (0 : Int) ≤ (en j : Nat); omega, by show ((en j : Nat) : Int) ≤ _; omega, fb.2.2.1, fb.2.2.2⟩
    · rw [packN_other c.length n (Nat.le_refl _) hn] at hb'
      exact f.blk n b hb'
theorem packN_hand {s : Sto} {c : List Nat} {bl : Nat → Blk} {p l en : Nat → Nat} {n : Nat} (h : c[c.length - 1]? = some n) : (packN s c bl p l en c.length).hand = (n : Nat) := by
  have hlt := (List.getElem?_eq_some_iff.1 h).1
  obtain ⟨m, hm⟩ : ∃ m, c.length = m + 1 := ⟨c.length - 1, by omega⟩
  rw [hm, Nat.add_sub_cancel] at h
  have e : packN s c bl p l en c.length = packN s c bl p l en (m + 1) := by rw [hm]
  rw [e]
  show ((c.getD m 0 : Nat) : Int) = _
  rw [getD_get h]
/-- how seek leaves a store: behind bk there is room -/
def SeekG (s : Sto) (c : List Nat) (bl : Nat → Blk) (p l u en : Nat → Nat) (size : Int) (s1 : Sto) (bk nx q : Nat) : Prop :=
  (∃ j b, c[j]? = some bk ∧ s1 = s.turn bk b ∧ nx = c[j + 1]?.getD 0 ∧ q = p j + u j ∧ size ≤ roomAt s c j) ∨
  (∃ h b, s1 = packedSto (s.turn h b) c bl p l en ∧ c[c.length - 1]? = some bk ∧ nx = 0 ∧ q = en c.length)
section
variable {W : World} {sb : Nat} {vr vb vf : Value} {s : Sto} {c : List Nat} {bl : Nat → Blk} {p l u en : Nat → Nat}
theorem Pk.stopOf (k : Pk s c bl p l u en) {i : Nat} (hi : i < c.length) : (bl i).stop = (p i + u i : Nat) := by
  unfold Blk.stop
  rw [k.pos i hi, k.len i hi, k.up i hi]; omega
theorem Pk.nextGet (k : Pk s c bl p l u en) (i : Nat) : ∃ b, s.get (c[i + 1]?.getD 0) = some b := by
  cases e : c[i + 1]? with
  | none => exact ⟨s.head, rfl⟩
  | some n => exact ⟨_, k.get _ n e⟩
/-- a gap is found where the store lies as it lay -/
theorem seek_hit {W3 : World} (k : Pk s c bl p l u en) (f : Fit s) {n : Nat} {bn : Blk} (hn : s.get n = some bn) (hnc : n ∉ c) {S : Nat → Prop} (hO : Own (Nx S W W3) sb vr vb vf) (hU : Upd S W W3) (size : Int) (j : Nat) (hj : j < c.length) (b : Bool) (hL : Lay W3 sb vr vb vf (s.turn (c[j] : Nat) b)) (hr : size ≤ roomAt s c j) :
    SeekPost S W sb vb vf n bn (SeekG s c bl p l u en size) (.returned (.int .i64 (c[j] : Nat))) W3 := by
  have hc : c[j]? = some c[j] := List.getElem?_eq_getElem hj
  obtain ⟨bx, hbx⟩ := k.nextGet j
  have h0 : (0 : Nat) ∈ c := List.mem_of_getElem? k.zero
  refine ⟨s.turn (c[j] : Nat) b, vr, c[j], c[j + 1]?.getD 0, p j + u j, bl j, bx, rfl, hU, hL, hO, fit_turn f _ _, hn, k.get j _ hc, k.next j hj, hbx, ?_, ?_, k.stopOf hj, .inl ⟨j, b, hc, rfl, rfl, rfl, hr⟩⟩
  · rintro rfl; exact hnc (List.getElem_mem _)
  · rintro e
    cases e2 : c[j + 1]? with
    | none => rw [e2] at e; exact hnc (by rw [← e]; exact h0)
    | some m => rw [e2] at e; exact hnc (by rw [← e]; exact List.mem_of_getElem? e2)
/-- a gap is found behind the last block, blocks having been moved together -/
theorem seek_hit_packed {W3 : World} {h : Int} {b : Bool} (k : Pk s c bl p l u en) (f : Fit s) {n : Nat} {bn : Blk} (hn : s.get n = some bn) (hnc : n ∉ c) {S : Nat → Prop} (hO : Own (Nx S W W3) sb vr vb vf) (hU : Upd S W W3) (size : Int) (z : Nat) (hz : c[c.length - 1]? = some z) (hL : Lay W3 sb vr vb vf (packedSto (s.turn h b) c bl p l en)) :
    SeekPost S W sb vb vf n bn (SeekG s c bl p l u en size) (.returned (.int .i64 (z : Nat))) W3 := by
  have hlt := (List.getElem?_eq_some_iff.1 hz).1
  have k' : Pk (s.turn h b) c bl p l u en := k.congr (fun _ => rfl) rfl
  have h0 : (0 : Nat) ∈ c := List.mem_of_getElem? k.zero
  have hg : (packedSto (s.turn h b) c bl p l en).get z = some { bl (c.length - 1) with pos := en (c.length - 1) } := packN_earlier k' c.length (c.length - 1) z hlt (Nat.le_refl _) hz
  have hnx : (bl (c.length - 1)).next = ((0 : Nat) : Int) := by rw [k.next _ hlt, List.getElem?_eq_none (by omega)]; rfl
  have hst : ({ bl (c.length - 1) with pos := (en (c.length - 1) : Int) } : Blk).stop = (en c.length : Nat) := by
    show (en (c.length - 1) : Int) + up8 (bl (c.length - 1)).len = _
    have e := k.en1 (c.length - 1) hlt
    rw [show c.length - 1 + 1 = c.length by omega] at e
    rw [k.len _ hlt, k.up _ hlt, e]; omega
  have hgn : (packedSto (s.turn h b) c bl p l en).get n = some bn := (packN_other c.length n (Nat.le_refl _) hnc).trans hn
  refine ⟨_, vr, z, 0, en c.length, _, (packedSto (s.turn h b) c bl p l en).head, rfl, hU, hL, hO, fit_packed (fit_turn f h b) k', hgn, hg, hnx, rfl, ?_, ?_, hst, .inr ⟨h, b, rfl, hz, rfl, rfl⟩⟩
  · rintro rfl; exact hnc (List.mem_of_getElem? hz)
  · rintro rfl; exact hnc h0
end
end Go.Proofs.YtgmimmdojkoppaaGreatDoor.W
/- Package store: seek's contract. -/
namespace Go.Proofs.YtgmimmdojkoppaaGreatDoor.W
open Go.ChangeShapes Go.WideShapes Go.RowKit Go.Shelf
set_option linter.unusedVariables false
attribute [local go_sem] Oper.semAt_some

/-- a store's own blocks, and no others -/
def fpS (sb : Nat) (vr vb vf : Value) : Nat → Prop := fun k => k = sb ∨ vr.ownBlock = some k ∨ vb.ownBlock = some k ∨ vf.ownBlock = some k
theorem own_fp (sb : Nat) (vr vb vf : Value) : Own (fpS sb vr vb vf) sb vr vb vf := ⟨.inl rfl, fun _ e => .inr (.inl e), fun _ e => .inr (.inr (.inl e)), fun _ e => .inr (.inr (.inr e))⟩
theorem fp_own {S : Nat → Prop} {sb : Nat} {vr vb vf : Value} (h : Own S sb vr vb vf) : ∀ k, fpS sb vr vb vf k → S k := by
  rintro k (rfl | e | e | e)
  · exact h.sb
  · exact h.row k e
  · exact h.blk k e
  · exact h.free k e
theorem fp_lt {W : World} {sb : Nat} {vr vb vf : Value} {s : Sto} (h : Lay W sb vr vb vf s) : ∀ k, fpS sb vr vb vf k → k < W.heap.size := by
  obtain ⟨l0, l1, l2, l3⟩ := lay_lt h
  rintro k (rfl | e | e | e)
  · exact l0
  · exact l1 k e
  · exact l2 k e
  · exact l3 k e
section
variable {W : World} {sb : Nat} {vr vb vf : Value} {s : Sto} {c : List Nat} {bl : Nat → Blk} {p l u en : Nat → Nat}
theorem chain_drop (k : Pk s c bl p l u en) (h : Nat) : ∀ i (hi : i < (c.drop h).length), ∃ b, s.get (c.drop h)[i] = some b ∧ b.next = ((c.drop h)[i + 1]?.getD 0 : Nat) := by
  intro i hi
  rw [List.length_drop] at hi
  have e : c[h + i]? = some (c.drop h)[i] := by rw [List.getElem_drop, List.getElem?_eq_getElem]
  refine ⟨bl (h + i), k.get _ _ e, ?_⟩
  rw [k.next _ (by omega), List.getElem?_drop]
  rfl
theorem drop_nz (k : Pk s c bl p l u en) (h : Nat) : ∀ i (hi : i + 1 < (c.drop h).length), (c.drop h)[i + 1] ≠ 0 := by
  intro i hi e
  rw [List.length_drop] at hi
  rw [List.getElem_drop] at e
  have := List.pairwise_iff_getElem.1 k.nodup 0 (h + (i + 1)) k.ne (by omega) (by omega)
  have e0 : c[0]'k.ne = 0 := by have := k.zero; rw [List.getElem?_eq_getElem k.ne] at this; exact Option.some.inj this
  rw [e0, e] at this
  exact this rfl
theorem room_drop (h i : Nat) : roomAt s (c.drop h) i = roomAt s c (h + i) := by
  unfold roomAt
  simp only [List.getD, List.getElem?_drop]
  rfl
set_option maxHeartbeats 4000000 in
theorem seek_c (h : Lay W sb vr vb vf s) (f : Fit s) (k : Pk s c bl p l u en) (hd : Nat) (hdl : hd < c.length) (hh : s.hand = (c[hd] : Nat)) (size : Int) (hus : (en c.length : Int) + size ≤ s.used) {n : Nat} {bn : Blk} (hn : s.get n = some bn) (hnc : n ∉ c) {S : Nat → Prop} (hO : Own S sb vr vb vf) :
    Calls Tryz.prog 266 #[.pointer (some ⟨sb, 0, none⟩), .int .i64 size] W (SeekPost S W sb vb vf n bn (SeekG s c bl p l u en size)) := by
  obtain ⟨lsb, lr, lb, lf⟩ := lay_lt h
  refine (callsIn_wide (n := 9)).1 ?_
  refine callsIn_of_wp_marks Tryz.func266 rfl trivial ?_ rfl
  refine wpIn_wide.2 ?_
  simp only [Tryz.ntmps266, List.size_toArray, List.length_cons, List.length_nil, Nat.reduceAdd, Nat.reduceSub, Array.replicate_succ, Array.replicate_zero, List.push_toArray, List.append_toArray, List.nil_append, List.cons_append]
  go_wp2
  go_step3
  go_wp2
  go_step3
  go_wp2
  have hU1 := ((Upd.refl S W).alloc (.cells #[.pointer (some ⟨sb, 0, none⟩)] 41)).alloc (.cells #[.int .i64 size] 3)
  have hL1 := (h.alloc (.cells #[.pointer (some ⟨sb, 0, none⟩)] 41)).alloc (.cells #[.int .i64 size] 3)
  have hB1 : Boxed ((W.alloc (.cells #[.pointer (some ⟨sb, 0, none⟩)] 41)).alloc (.cells #[.int .i64 size] 3)) W.heap.size 41 (.pointer (some ⟨sb, 0, none⟩)) := (Boxed.new W _ _).alloc _
  have hB2 : Boxed ((W.alloc (.cells #[.pointer (some ⟨sb, 0, none⟩)] 41)).alloc (.cells #[.int .i64 size] 3)) (W.heap.size + 1) 3 (.int .i64 size) := by
    have := Boxed.new (W.alloc (.cells #[.pointer (some ⟨sb, 0, none⟩)] 41)) 3 (.int .i64 size)
    rwa [World.size_alloc] at this
  have hz : ((W.alloc (.cells #[.pointer (some ⟨sb, 0, none⟩)] 41)).alloc (.cells #[.int .i64 size] 3)).heap.size = W.heap.size + 2 := by simp
  generalize World.alloc (World.alloc W _) _ = W1 at *
  refine wp_loop_rounds 3 ?_
  rw [rounds_succ]
  refine wp_block (wp_seq (seek_pass h f hU1 hL1 hO.sb size hB1 hB2 (c.drop hd) (by rw [List.length_drop]; omega) (k.nodup.sublist (List.drop_sublist _ _)) (drop_nz k hd) (by rw [hh, List.getElem_drop]; rfl) (chain_drop k hd) rfl [] _ _ _ _ _ _ _ _ _ _ _ _ _ _ _ _ _ _ _ _ _ _ _ _ _ _ _ _ _ _ _ _ _ _ ?done ?stop))
  case stop =>
    rintro W3 D i hi hr hU3 hL3 b1 hD1 hD2 hold
    dsimp only
    have hil : hd + i < c.length := by rw [List.length_drop] at hi; omega
    rw [room_drop] at hr
    rw [List.getElem_drop] at hL3
    have cs := b1.cell
    have c9 := hL3.cell 9
    simp [Sto.obj] at c9
    have HP := (show Hid _ from seek_hit k f hn hnc (hO.mono (fun _ g => .inl g)) hU3 size (hd + i) hil s.sought hL3 hr)
    clear hL3 hU3 hold
    go_wp2
    rw [Exit.noGoto_ret]
    refine ⟨by simp, .inl ⟨_, _, rfl, run_takeDeferred hD2, ?_⟩⟩
    refine ⟨_, results_tmp rfl _ _ _, ?_⟩
    exact seekpost_put HP.out hD2 (by omega) _
  case done =>
    rintro W3 D hr hU3 hL3 b1 b2 hD1 hD2 hold
    dsimp only
    have c10 := hL3.cell 10
    simp [Sto.obj] at c10
    have cs := b1.cell
    have ltD := (Array.getElem?_eq_some_iff.1 hD2).1
    cases hso : s.sought with
    | true =>
      rw [hso] at c10
      have cp := pack_c hL3 f k (own_fp sb vr vb vf)
      go_wp2_with (go_at_call 296; (with_reducible refine cp.mono ?_); rintro e W4 ⟨rfl, hU4, vr4, hL4, hO4⟩; clear cp)
      have keep : ∀ x : Nat, W.heap.size ≤ x → x < W3.heap.size → W4.heap[x]? = W3.heap[x]? := fun x h1 h2 => hU4.block x h2 (fun g => by have := fp_lt h x g; omega)
      have s4 := hU4.size
      have hU4S : Upd S W W4 := hU3.trans (hU4.mono (fun k g => .inl (fp_own hO k g)))
      have hO4S : Own S sb vr4 vb vf := hO4.mono (fp_own hO)
      have d1 := box_of (keep W.heap.size (by omega) b1.lt) b1
      have d2 := box_of (keep (W.heap.size + 1) (by omega) b2.lt) b2
      have mD := (keep D (by omega) (Array.getElem?_eq_some_iff.1 hD2).1).trans hD2
      have hz0 : 0 < c.length := k.ne
      obtain ⟨z, hzc⟩ : ∃ z, c[c.length - 1]? = some z := ⟨_, List.getElem?_eq_getElem (by omega)⟩
      have hlt : c.length - 1 < c.length := by omega
      have hg : (packedSto (s) c bl p l en).get z = some { bl (c.length - 1) with pos := en (c.length - 1) } := packN_earlier k c.length (c.length - 1) z hlt (Nat.le_refl _) hzc
      have hnx : (bl (c.length - 1)).next = ((0 : Nat) : Int) := by rw [k.next _ hlt, List.getElem?_eq_none (by omega)]; rfl
      have hhand : (packedSto (s) c bl p l en).hand = (z : Nat) := packN_hand hzc
      have hroom : size ≤ roomAt (packedSto (s) c bl p l en) [z] 0 := by
        have e1 := k.en1 (c.length - 1) hlt
        rw [show c.length - 1 + 1 = c.length by omega] at e1
        have hst : ({ bl (c.length - 1) with pos := (en (c.length - 1) : Int) } : Blk).stop = (en c.length : Nat) := by
          show (en (c.length - 1) : Int) + up8 (bl (c.length - 1)).len = _
          rw [k.len _ hlt, k.up _ hlt, e1]; omega
        have hus' : (packedSto (s) c bl p l en).used = s.used := (packN_rest c.length).2.1
        show size ≤ roomOf _ ((packedSto (s) c bl p l en).getD z) 0 _
        rw [getD_of hg, roomOf, if_pos rfl, hst, hus']
        have := f.used0
        omega
      rw [rounds_succ]
      refine wp_block (wp_seq (seek_pass h (fit_packed f k) hU4S hL4 hO.sb size d1 d2 [z] (by simp) (by simp) (by simp) hhand (by intro i hi; have e : i = 0 := (by rw [List.length_singleton] at hi; omega); subst e; exact ⟨_, hg, hnx⟩) rfl _ _ _ _ _ _ _ _ _ _ _ _ _ _ _ _ _ _ _ _ _ _ _ _ _ _ _ _ _ _ _ _ _ _ _ ?d2 ?s2))
      case d2 =>
        rintro W5 D5 hr5 _ _ _ _ _ _ _
        exact absurd hroom (by have := hr5 0 (by simp); omega)
      case s2 =>
        rintro W5 D5 i hi hr5 hU5 hL5 b5 hD5 hD6 hold5
        dsimp only
        have ei : i = 0 := by rw [List.length_singleton] at hi; omega
        subst ei
        have hL5' : Lay W5 sb vr4 vb vf (packedSto (s) c bl p l en) := by
          have e : ({ packedSto (s) c bl p l en with hand := (([z][0]'hi : Nat) : Int) } : Sto) = packedSto (s) c bl p l en := by rw [show ([z][0]'hi) = z from rfl, ← hhand]
          rw [← e]; exact hL5
        have cs5 := b5.cell
        have c9 := hL5'.cell 9
        simp [Sto.obj, hhand] at c9
        have HP := (show Hid _ from seek_hit_packed (W := W) (S := S) (h := s.hand) (b := s.sought) k f hn hnc (hO4S.mono (fun _ g => .inl g)) hU5 size z hzc hL5')
        have nD := (hold5 D (by omega) (Array.getElem?_eq_some_iff.1 mD).1).trans mD
        have qD := (Array.getElem?_eq_some_iff.1 mD).1
        clear hL5 hL5' hU5 hold5
        go_wp2
        (try rw [Exit.noGoto_ret])
        refine ⟨by simp, .inl ⟨_, _, rfl, run_takeDeferred hD6, ?_⟩⟩
        have rD : (W5.putObj D5 (.deferred none)).heap[D]? = some (.deferred (some [])) := ((World.putObj_heap_other (by omega)).trans (nD))
        refine ⟨by simp, .inl ⟨_, _, rfl, run_takeDeferred rD, ?_⟩⟩
        refine ⟨_, results_tmp rfl _ _ _, ?_⟩
        exact seekpost_put (seekpost_put HP.out hD6 (by omega) _) rD (by omega) _
    | false =>
      rw [hso] at c10
      have th9 := hL3.thaw 9
      have th10 := hL3.thaw 10
      have c9 := hL3.cell 9
      simp [Sto.obj] at c9
      go_wp2
      refine wp_region_noPanic ?_
      go_region
      refine NoPanic.normal ?_
      go_wp2
      have k7 : Pk (s.turn 0 true) c bl p l u en := k.congr (fun _ => rfl) rfl
      have hL6 : Lay ((W3.setCell ⟨sb, 9, none⟩ (.int .i64 0)).setCell ⟨sb, 10, none⟩ (.bool true)).drew sb vr vb vf (s.turn 0 true) := by
        have x1 := hL3.store (s' := { s with hand := 0 }) 9 (.int .i64 0) rfl rfl rfl rfl
        exact (x1.store (s' := s.turn 0 true) 10 (.bool true) rfl rfl rfl rfl).drew
      have hU6 := ((hU3.setCell (p := ⟨sb, 9, none⟩) (.inl hO.sb) (.int .i64 0)).setCell (p := ⟨sb, 10, none⟩) (.inl hO.sb) (.bool true)).drew
      have keep6 : ∀ x : Nat, x ≠ sb → ((W3.setCell ⟨sb, 9, none⟩ (.int .i64 0)).setCell ⟨sb, 10, none⟩ (.bool true)).drew.heap[x]? = W3.heap[x]? := fun x hx => by
        show ((W3.setCell ⟨sb, 9, none⟩ (.int .i64 0)).setCell ⟨sb, 10, none⟩ (.bool true)).heap[x]? = _
        rw [Below.heap_setCell _ _ _ _ hx, Below.heap_setCell _ _ _ _ hx]
      have b61 := box_of (keep6 W.heap.size (by omega)) b1
      have b62 := box_of (keep6 (W.heap.size + 1) (by omega)) b2
      have hD6' := (keep6 D (by omega)).trans hD2
      have z6 : ((W3.setCell ⟨sb, 9, none⟩ (.int .i64 0)).setCell ⟨sb, 10, none⟩ (.bool true)).drew.heap.size = W3.heap.size := by
        show ((W3.setCell ⟨sb, 9, none⟩ (.int .i64 0)).setCell ⟨sb, 10, none⟩ (.bool true)).heap.size = _
        simp [World.setCell]
      clear c9 th9 th10 c10 cs keep6
      generalize World.drew (World.setCell (World.setCell W3 _ _) _ _) = W6 at *
      have e0 : c[0]'k.ne = 0 := by have := k.zero; rw [List.getElem?_eq_getElem k.ne] at this; exact Option.some.inj this
      rw [rounds_succ]
      refine wp_block (wp_seq (seek_pass h (fit_turn f 0 true) hU6 hL6 hO.sb size b61 b62 c k.ne k.nodup (by have := drop_nz k 0; simpa using this) (by rw [e0]; rfl) (by have := chain_drop k7 0; simpa using this) rfl _ _ _ _ _ _ _ _ _ _ _ _ _ _ _ _ _ _ _ _ _ _ _ _ _ _ _ _ _ _ _ _ _ _ _ ?d2 ?s2))
      case s2 =>
        rintro W7 D7 i hi hr7 hU7 hL7 b71 hD71 hD72 hold7
        dsimp only
        have hr7' : size ≤ roomAt s c i := hr7
        have cs7 := b71.cell
        have c9 := hL7.cell 9
        simp [Sto.obj] at c9
        have HP := (show Hid _ from seek_hit k f hn hnc (hO.mono (fun _ g => .inl g)) hU7 size i hi true hL7 hr7')
        have nD := (hold7 D (by omega) (by omega)).trans hD6'
        clear hL7 hU7 hold7
        go_wp2
        (try rw [Exit.noGoto_ret])
        refine ⟨by simp, .inl ⟨_, _, rfl, run_takeDeferred hD72, ?_⟩⟩
        have rD : (W7.putObj D7 (.deferred none)).heap[D]? = some (.deferred (some [])) := (World.putObj_heap_other (by omega)).trans nD
        refine ⟨by simp, .inl ⟨_, _, rfl, run_takeDeferred rD, ?_⟩⟩
        refine ⟨_, results_tmp rfl _ _ _, ?_⟩
        exact seekpost_put (seekpost_put HP.out hD72 (by omega) _) rD (by omega) _
      case d2 =>
        rintro W7 D7 hr7 hU7 hL7 b71 b72 hD71 hD72 hold7
        dsimp only
        have c10 := hL7.cell 10
        simp [Sto.obj, Sto.turn] at c10
        have cs := b71.cell
        have hDD := (hold7 D (by omega) (by omega)).trans hD6'
        have ltD7 := (Array.getElem?_eq_some_iff.1 hD72).1
        have cp := pack_c hL7 (fit_turn f 0 true) k7 (own_fp sb vr vb vf)
        go_wp2_with (go_at_call 296; (with_reducible refine cp.mono ?_); rintro e W4 ⟨rfl, hU4, vr4, hL4, hO4⟩; clear cp)
        have keep : ∀ x : Nat, W.heap.size ≤ x → x < W7.heap.size → W4.heap[x]? = W7.heap[x]? := fun x h1 h2 => hU4.block x h2 (fun g => by have := fp_lt h x g; omega)
        have s4 := hU4.size
        have hU4S : Upd S W W4 := hU7.trans (hU4.mono (fun k g => .inl (fp_own hO k g)))
        have hO4S : Own S sb vr4 vb vf := hO4.mono (fp_own hO)
        have d1 := box_of (keep W.heap.size (by omega) b71.lt) b71
        have d2 := box_of (keep (W.heap.size + 1) (by omega) b72.lt) b72
        have mD7 := (keep D7 (by omega) (Array.getElem?_eq_some_iff.1 hD72).1).trans hD72
        have mD := (keep D (by omega) (Array.getElem?_eq_some_iff.1 hDD).1).trans hDD
        have hz0 : 0 < c.length := k.ne
        obtain ⟨z, hzc⟩ : ∃ z, c[c.length - 1]? = some z := ⟨_, List.getElem?_eq_getElem (by omega)⟩
        have hlt : c.length - 1 < c.length := by omega
        have hg : (packedSto (s.turn 0 true) c bl p l en).get z = some { bl (c.length - 1) with pos := en (c.length - 1) } := packN_earlier k7 c.length (c.length - 1) z hlt (Nat.le_refl _) hzc
        have hnx : (bl (c.length - 1)).next = ((0 : Nat) : Int) := by rw [k.next _ hlt, List.getElem?_eq_none (by omega)]; rfl
        have hhand : (packedSto (s.turn 0 true) c bl p l en).hand = (z : Nat) := packN_hand hzc
        have hroom : size ≤ roomAt (packedSto (s.turn 0 true) c bl p l en) [z] 0 := by
          have e1 := k.en1 (c.length - 1) hlt
          rw [show c.length - 1 + 1 = c.length by omega] at e1
          have hst : ({ bl (c.length - 1) with pos := (en (c.length - 1) : Int) } : Blk).stop = (en c.length : Nat) := by
            show (en (c.length - 1) : Int) + up8 (bl (c.length - 1)).len = _
            rw [k.len _ hlt, k.up _ hlt, e1]; omega
          have hus' : (packedSto (s.turn 0 true) c bl p l en).used = s.used := (packN_rest c.length).2.1
          show size ≤ roomOf _ ((packedSto (s.turn 0 true) c bl p l en).getD z) 0 _
          rw [getD_of hg, roomOf, if_pos rfl, hst, hus']
          have := f.used0
          omega
        rw [rounds_succ]
        refine wp_block (wp_seq (seek_pass h (fit_packed (fit_turn f 0 true) k7) hU4S hL4 hO.sb size d1 d2 [z] (by simp) (by simp) (by simp) hhand (by intro i hi; have e : i = 0 := (by rw [List.length_singleton] at hi; omega); subst e; exact ⟨_, hg, hnx⟩) rfl _ _ _ _ _ _ _ _ _ _ _ _ _ _ _ _ _ _ _ _ _ _ _ _ _ _ _ _ _ _ _ _ _ _ _ ?d3 ?s3))
        case d3 =>
          rintro W5 D5 hr5 _ _ _ _ _ _ _
          exact absurd hroom (by have := hr5 0 (by simp); omega)
        case s3 =>
          rintro W5 D5 i hi hr5 hU5 hL5 b5 hD5 hD6 hold5
          dsimp only
          have ei : i = 0 := by rw [List.length_singleton] at hi; omega
          subst ei
          have hL5' : Lay W5 sb vr4 vb vf (packedSto (s.turn 0 true) c bl p l en) := by
            have e : ({ packedSto (s.turn 0 true) c bl p l en with hand := (([z][0]'hi : Nat) : Int) } : Sto) = packedSto (s.turn 0 true) c bl p l en := by rw [show ([z][0]'hi) = z from rfl, ← hhand]
            rw [← e]; exact hL5
          have cs5 := b5.cell
          have c9 := hL5'.cell 9
          simp [Sto.obj, hhand] at c9
          have HP := (show Hid _ from seek_hit_packed (W := W) (S := S) (h := 0) (b := true) k f hn hnc (hO4S.mono (fun _ g => .inl g)) hU5 size z hzc hL5')
          have nD7 := (hold5 D7 (by omega) (Array.getElem?_eq_some_iff.1 mD7).1).trans mD7
          have qD7 := (Array.getElem?_eq_some_iff.1 mD7).1
          have nD := (hold5 D (by omega) (Array.getElem?_eq_some_iff.1 mD).1).trans mD
          have qD := (Array.getElem?_eq_some_iff.1 mD).1
          clear hL5 hL5' hU5 hold5
          go_wp2
          (try rw [Exit.noGoto_ret])
          refine ⟨by simp, .inl ⟨_, _, rfl, run_takeDeferred hD6, ?_⟩⟩
          have rD7 : (W5.putObj D5 (.deferred none)).heap[D7]? = some (.deferred (some [])) := ((World.putObj_heap_other (by omega)).trans (nD7))
          refine ⟨by simp, .inl ⟨_, _, rfl, run_takeDeferred rD7, ?_⟩⟩
          have rD : ((W5.putObj D5 (.deferred none)).putObj D7 (.deferred none)).heap[D]? = some (.deferred (some [])) := ((World.putObj_heap_other (by omega)).trans ((World.putObj_heap_other (by omega)).trans nD))
          refine ⟨by simp, .inl ⟨_, _, rfl, run_takeDeferred rD, ?_⟩⟩
          refine ⟨_, results_tmp rfl _ _ _, ?_⟩
          exact seekpost_put (seekpost_put (seekpost_put HP.out hD6 (by omega) _) rD7 (by omega) _) rD (by omega) _
end
end Go.Proofs.YtgmimmdojkoppaaGreatDoor.W
/- Package store: New; leastId where no Id has been given back; Used, Span, Len. -/
namespace Go.Proofs.YtgmimmdojkoppaaGreatDoor.W
open Go.ChangeShapes Go.WideShapes Go.RowKit Go.Shelf
set_option linter.unusedVariables false

def noBlk : Blk := ⟨false, 0, 0, 0, 0⟩
def emptySto : Sto := ⟨[], noBlk, [], [], 0, 0, false⟩
theorem new_c (W : World) : Calls Tryz.prog 12 #[] W fun e w' => e = .returned (.pointer (some ⟨W.heap.size, 0, none⟩)) ∧ Lay w' W.heap.size (.slice none 0 0) (.slice none 0 0) (.slice none 0 0) emptySto ∧ Below W.heap.size W w' ∧ w'.heap.size = W.heap.size + 1 := by
  go_enter Tryz.func12, Tryz.ntmps12
  go_wp2
  go_ret
  refine ⟨rfl, ⟨heap_alloc_new W _, World.ownsRow_nil _ _ _ _, World.ownsRow_nil _ _ _ _, World.ownsRow_nil _ _ _ _⟩, (Below.refl _ _).alloc (Nat.le_refl _) _, by simp⟩
theorem info59 : (Tryz.prog.info? 68).map (fun i => (i.zero, i.size, i.bytes)) = some (some (.agg #[.bool false, .int .i64 0, .int .i64 0, .int .i64 0, .int .i64 0]), 5, 40) := by kernel_rfl
theorem under60 : Tryz.prog.underlying 69 = some (.slice 68) := by kernel_rfl
section
variable {W : World} {sb : Nat} {vr vb vf : Value} {s : Sto}
theorem slice_of {e : TypeId} {size : Nat} {v : Value} {n : Nat} {xs : List Value} (h : W.ownsRow 0 e size v n xs) : ∃ o cap, v = .slice o n cap := by
  rcases h.2 with ⟨rfl, rfl⟩ | ⟨g, cap, cur, rfl, _⟩
  · exact ⟨_, _, rfl⟩
  · exact ⟨_, _, rfl⟩
theorem len_some (h : Lay W sb vr vb vf s) (hlen : s.blks.length ≤ 1000000000) (id : Int) (b : Blk) (hx : s.ext id = some b) :
    Calls Tryz.prog 184 #[.pointer (some ⟨sb, 0, none⟩), .int .i64 id] W fun e w' => e = .returned (.tuple #[.int .i64 b.len, .int .i64 0]) ∧ w' = W := by
  have ch := has_c h hlen id
  simp only [hx, Option.isSome_some] at ch
  obtain ⟨k, rfl, hb, hl⟩ := ext_some hx
  have h1 := (List.getElem?_eq_some_iff.1 hb).1
  have hg : s.get (k + 1) = some b := by unfold Sto.get; rw [if_neg (by omega)]; exact hb
  obtain ⟨g, cap, rfl, _⟩ := own_slice h.blk (Nat.lt_of_le_of_lt (Nat.zero_le _) h1)
  obtain ⟨_, _, b2, _, _⟩ := bcells h hg (.inr ⟨by omega, rfl, rfl⟩)
  simp only [Nat.add_sub_cancel] at b2
  have c6 := h.cell 6
  simp [Sto.obj] at c6
  have h0' : (0 : Int) ≤ k := by omega
  have h1' : (k : Int) < s.blks.length := by omega
  clear hg hb hx
  go_enter Tryz.func184, Tryz.ntmps184
  go_wp2_with (go_at_call 215; (with_reducible refine ch.mono ?_); rintro e w' ⟨rfl, hw⟩; (have hw' := hw.symm); subst hw'; clear hw)
  go_ret2
  exact ⟨rfl, rfl⟩
set_option maxHeartbeats 1000000 in
theorem leastId_new (h : Lay W sb vr vb vf s) (hf : s.free = []) (hlen : s.blks.length ≤ 1000000000) {S : Nat → Prop} (hO : Own S sb vr vb vf) :
    Calls Tryz.prog 221 #[.pointer (some ⟨sb, 0, none⟩)] W fun e w' => e = .returned (.int .i64 s.blks.length) ∧ Upd S W w' ∧ ∃ vb', Lay w' sb vr vb' vf { s with blks := s.blks ++ [noBlk] } ∧ Own (Nx S W w') sb vr vb' vf := by
  have hfr := h.free
  rw [hf] at hfr
  obtain ⟨o, cap, hvf⟩ := slice_of hfr
  simp only [List.length_nil] at hvf
  have c7 := h.cell 7
  have c6 := h.cell 6
  simp [Sto.obj, hvf] at c7 c6
  obtain ⟨i0, hi, hz0, hz1, hz2⟩ := info_parts info59
  have hnews : ∀ j u, noBlk.cells[j]? = some u → (W.alloc (.cells #[.bool false, .int .i64 0, .int .i64 0, .int .i64 0, .int .i64 0] 68)).cell? ((⟨W.heap.size, 0, none⟩ : Addr).add j) = some u := by
    intro j u hj
    have e : (⟨W.heap.size, 0, none⟩ : Addr).add j = ⟨W.heap.size, j, none⟩ := by unfold Addr.add; split <;> simp_all
    rw [e, World.cell?_alloc_new]
    simpa [Blk.cells, noBlk] using hj
  have ho1 : ∀ u ∈ noBlk.cells, u.oneCell' = true := by intro u hu; simp [Blk.cells, noBlk] at hu; rcases hu with rfl | rfl <;> rfl
  obtain ⟨vb', W4, hrun, hown, hgr, hnew⟩ := append_at (P := Tryz.prog) (W.alloc (.cells #[.bool false, .int .i64 0, .int .i64 0, .int .i64 0, .int .i64 0] 68)) 69 69 68 i0 _ 5 40 under60 hi hz0 hz1 hz2 rfl (by decide) vb s.blks.length (flat s.blks) (h.blk.alloc _) ⟨W.heap.size, 0, none⟩ 1 1 noBlk.cells rfl hnews ho1 (by decide) (by decide) (by omega)
  obtain ⟨g4, cap4, rfl, hcap4⟩ := own_slice hown (by omega)
  have hLa := h.alloc (.cells #[.bool false, .int .i64 0, .int .i64 0, .int .i64 0, .int .i64 0] 68)
  have hL5 : Lay (W4.setCell ⟨sb, 6, none⟩ (.slice (some ⟨g4, 0, none⟩) (s.blks.length + 1) cap4)) sb vr (.slice (some ⟨g4, 0, none⟩) (s.blks.length + 1) cap4) vf { s with blks := s.blks ++ [noBlk] } := by
    refine hLa.regrow_blk hgr ?_
    rw [flat_append, List.length_append]
    exact hown
  have hUa := (Upd.refl S W).alloc (.cells #[.bool false, .int .i64 0, .int .i64 0, .int .i64 0, .int .i64 0] 68)
  have hU4 := hUa.grown hgr (fun k e => .inl (hO.blk k e))
  have hU5 := hU4.setCell (p := ⟨sb, 6, none⟩) (.inl hO.sb) (.slice (some ⟨g4, 0, none⟩) (s.blks.length + 1) cap4)
  have hO5 : Own (Nx S W (W4.setCell ⟨sb, 6, none⟩ (.slice (some ⟨g4, 0, none⟩) (s.blks.length + 1) cap4))) sb vr (.slice (some ⟨g4, 0, none⟩) (s.blks.length + 1) cap4) vf := by
    refine ⟨.inl hO.sb, fun k e => .inl (hO.row k e), fun k e => ?_, fun k e => .inl (hO.free k e)⟩
    rcases hnew k e with g | ⟨g1, g2⟩
    · exact .inl (hO.blk k g)
    · exact .inr ⟨by simp at g1; omega, by simpa [World.setCell] using g2⟩
  have hob4 : W4.heap[sb]? = (W.alloc (.cells #[.bool false, .int .i64 0, .int .i64 0, .int .i64 0, .int .i64 0] 68)).heap[sb]? := hgr.block sb (lay_lt hLa).1 (own_ne hLa.blk hLa.obj (by decide))
  have th4 : W4.frozen? ⟨sb, 6, none⟩ = false := by rw [World.frozen?_of_block hob4]; exact hLa.thaw 6
  have c4 : W4.cell? ⟨sb, 6, none⟩ = some vb := by rw [World.cell?_of_block hob4, hLa.cell 6]; rfl
  have c6' := hL5.cell 6
  simp [Sto.obj] at c6'
  have HL := hid hL5
  have HU := hid hU5
  have HO := hid hO5
  clear hL5 hU5 hO5 hU4 hUa hgr hnew hown hob4 hLa hfr
  go_enter Tryz.func221, Tryz.ntmps221
  go_wp2_with (at_builtin; refine Lib.wpList_append_run _ rfl _ _ _ _ rfl _ _ rfl rfl _ _ hrun ?_)
  go_ret
  exact ⟨rfl, HU, _, HL, HO⟩
end
end Go.Proofs.YtgmimmdojkoppaaGreatDoor.W
