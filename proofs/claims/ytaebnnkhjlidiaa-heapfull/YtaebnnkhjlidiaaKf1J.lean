import Derived.Test.YtaebnnkhjlidiaaBase9
/- One heap whose cells refer to none, the words that are kept, and what each of them needs: HeapFull's state. -/
namespace Go.Proofs.Ytaebnnkhjlidiaa.W
open Go.ChangeShapes Go.WideShapes Go.RowKit Go.Shelf
set_option linter.unusedVariables false
theorem infoN : (Try.prog.info? 3).map (fun i => (i.zero, i.size, i.bytes)) = some (some (.int .i64 0), 1, 8) := by kernel_rfl
theorem underN : Try.prog.underlying 30 = some (.slice 3) := by kernel_rfl
/-- a value is put behind a row of one's own -/
theorem own_append (W0 W : World) (t e : TypeId) (z : Value) (hu : Try.prog.underlying t = some (.slice e)) (hI : (Try.prog.info? e).map (fun i => (i.zero, i.size, i.bytes)) = some (some z, 1, 8)) (hz : z.cells.size = 1) (v : Value) (n : Nat) (xs : List Value) (ho : W.ownsRow W0.heap.size e 1 v n xs) (h0 : W0.heap.size ≤ W.heap.size) (x : Value) (hx : x.oneCell' = true) (hn : n ≤ 1000000) (ty : TypeId) :
    ∃ v' w', (Builtin.append_ #[t, t] ty #[v, .slice (some ⟨W.heap.size, 0, none⟩) 1 1]).run Try.prog (W.alloc (.cells #[x] e)) = .ok v' w' ∧ w'.ownsRow W0.heap.size e 1 v' (n + 1) (xs ++ [x]) ∧ Upd (fun k => v.ownBlock = some k) W w' ∧ ∀ k, v'.ownBlock = some k → v.ownBlock = some k ∨ (W.heap.size ≤ k ∧ k < w'.heap.size) := by
  obtain ⟨i0, hi, hz0, hz1, hz2⟩ := info_parts hI
  have hB1 : Below W.heap.size W (W.alloc (.cells #[x] e)) := (Below.refl _ W).alloc (Nat.le_refl _) _
  have z1 : (W.alloc (.cells #[x] e)).heap.size = W.heap.size + 1 := World.size_alloc ..
  have e0 := World.cell?_alloc_new W #[x] e
  have ho1 := ho.alloc (.cells #[x] e)
  obtain ⟨v', w', hrun, ho', hg, hk⟩ := append_at (P := Try.prog) (W.alloc (.cells #[x] e)) t ty e i0 z 1 8 hu hi hz0 hz1 hz2 hz (by omega) v n xs (owns_base ho1 (fun _ _ => Nat.zero_le _)) ⟨W.heap.size, 0, none⟩ 1 1 [x] (by simp) (by
    intro j y hj
    have hj0 : j = 0 := by have := (List.getElem?_eq_some_iff.1 hj).1; simp at this; exact this
    subst hj0
    simp at hj
    subst hj
    have e1 : ((⟨W.heap.size, 0, none⟩ : Addr).add 0) = ⟨W.heap.size, 0, none⟩ := by unfold Addr.add; split <;> simp_all
    rw [e1, e0 0]; rfl) (by intro y hy; simp at hy; rw [hy]; exact hx) (by omega) (by omega) (by omega)
  have hlo : ∀ k, v.ownBlock = some k → W0.heap.size ≤ k ∧ k < W.heap.size := fun k e => ho.lt k e
  have hU1 : Upd (fun k => v.ownBlock = some k) (W.alloc (.cells #[x] e)) w' := (Upd.refl _ _).grown hg (fun k e => .inl e)
  have hU : Upd (fun k => v.ownBlock = some k) W w' := (Upd.of_below hB1).trans' hU1
  refine ⟨v', w', hrun, owns_base ho' (fun g e => ?_), hU, fun k e => ?_⟩
  · rcases hk g e with e | e
    · exact (hlo g e).1
    · omega
  · rcases hk k e with e | e
    · exact .inl e
    · exact .inr ⟨by omega, e.2⟩
/-- what each of them needs, as values -/
def needV (H : List (Option Hc)) (ids : List Nat) : List Value := ids.map (fun i => .int .i64 (needO ((H[i]?).getD none) : Nat))
theorem needV_same {H H' : List (Option Hc)} {ids : List Nat} (h : ∀ i ∈ ids, H'[i]? = H[i]?) : needV H' ids = needV H ids := by
  unfold needV
  exact List.map_congr_left (fun i hi => by rw [h i hi])
/-- a string of one byte, so often -/
def Same8 (H : List (Option Hc)) (i : Nat) : Prop := ∃ n b : Nat, 1 ≤ b ∧ b < 256 ∧ n ≤ 200 ∧ H[i]? = some (some (.buf 8 (List.replicate n b)))
structure Fu (w W : World) (hb u j : Nat) (H : List (Option Hc)) (ids : List Nat) (K : Nat → Prop) (vr vn : Value) : Prop where
  q : Hf w W hb H u K
  k : Kp H ids
  r : Mine w W K vr (ids.map hw)
  n : W.ownsRow w.heap.size 3 1 vn ids.length (needV H ids)
  nk : ∀ k, vn.ownBlock = some k → K k
  ne : ∀ k, vr.ownBlock = some k → ¬ vn.ownBlock = some k
  b : ∀ i ∈ ids, Same8 H i
  lh : H.length ≤ j
section
variable {w W W' : World} {hb u j : Nat} {H : List (Option Hc)} {ids : List Nat} {K K' : Nat → Prop} {vr vn : Value}
theorem Fu.below (s : Fu w W hb u j H ids K vr vn) (hB : Below W.heap.size W W') : Fu w W' hb u j H ids (fun k => K k ∨ (W.heap.size ≤ k ∧ k < W'.heap.size)) vr vn :=
  ⟨s.q.below hB, s.k, (s.r.below hB).sub (fun k e => .inl e), owns_on s.n (fun k e => hB.block k (s.n.lt k e).2), fun k e => .inl (s.nk k e), s.ne, s.b, s.lh⟩
theorem Fu.below' (s : Fu w W hb u j H ids K vr vn) (hB : Below W.heap.size W W') : Fu w W' hb u j H ids K vr vn :=
  ⟨s.q.below' hB, s.k, s.r.below hB, owns_on s.n (fun k e => hB.block k (s.n.lt k e).2), s.nk, s.ne, s.b, s.lh⟩
/-- blocks that are kept aside, but neither of the two rows, are written -/
theorem Fu.upd {D : Nat → Prop} (s : Fu w W hb u j H ids K vr vn) (hU : Upd D W W') (hD : ∀ k, D k → K k ∧ w.heap.size ≤ k ∧ ¬ vr.ownBlock = some k ∧ ¬ vn.ownBlock = some k) : Fu w W' hb u j H ids K vr vn :=
  ⟨s.q.upd hU (fun k e => ⟨(hD k e).1, (hD k e).2.1⟩), s.k, ⟨owns_on s.r.row (fun k e => hU.block k (s.r.row.lt k e).2 (fun d => (hD k d).2.2.1 e)), s.r.keep, s.r.lt, s.r.len⟩, owns_on s.n (fun k e => hU.block k (s.n.lt k e).2 (fun d => (hD k d).2.2.2 e)), s.nk, s.ne, s.b, s.lh⟩
theorem Fu.more {j' : Nat} (s : Fu w W hb u j H ids K vr vn) (h : j ≤ j') : Fu w W hb u j' H ids K vr vn := ⟨s.q, s.k, s.r, s.n, s.nk, s.ne, s.b, Nat.le_trans s.lh h⟩
theorem Fu.len (s : Fu w W hb u j H ids K vr vn) : ids.length ≤ j := by
  have := List.Nodup.length_le_of_subset s.k.nod (fun a ha' => List.mem_range.2 (s.k.lt ha'))
  rw [List.length_range] at this
  have := s.lh
  omega
theorem Fu.room (s : Fu w W hb u j H ids K vr vn) : idsum H ids ≤ u ∧ u ≤ 1048576 := by
  obtain ⟨_, S, ⟨sb, vc, T, g, _, _, _, hs⟩, _⟩ := s.q
  have := s.k.le
  exact ⟨by omega, g.u1⟩
/-- what Put of a cell that refers to none answers, ids being the roots -/
def FPost (w W : World) (hb : Nat) (H : List (Option Hc)) (u : Nat) (K : Nat → Prop) (ids : List Nat) (c : Hc) (e : Ending) (w' : World) : Prop :=
  Upd (Ch w K) W w' ∧ ∃ H', Hf w w' hb H' u K ∧ Kp H' ids ∧ (∀ i ∈ ids, H'[i]? = H[i]?) ∧ H'.length ≤ H.length + 1 ∧
    ((idsum H ids + c.need ≤ u ∧ ∃ i, i ≤ H.length ∧ e = .returned (.tuple #[.int .u64 (hw i : Nat), .int .i64 0]) ∧ Kp H' (ids ++ [i]) ∧ H'[i]? = some (some c) ∧ idsum H' (ids ++ [i]) = idsum H ids + c.need) ∨ (u < idsum H ids + c.need ∧ e = .returned (.tuple #[.int .u64 0, .int .i64 40])))
theorem f_post (q : Hf w W hb H u K) (k : Kp H ids) (hl : H.length < 1000000) (c : Hc) (hs : ∀ w ∈ c.seeds, w = 0) (hc : ∀ w ∈ c.succ, w = 0) {f : World → Ending → World → Prop} {call : Nat} {args : Array Value}
    (hput : ∀ S, HSt W S hb H u → (∀ k, S k → k < W.heap.size) → (∀ k, K k → k < W.heap.size ∧ ¬ S k) → Calls Try.prog call args W (PutPost W S hb (roomH H u c (ids.map hw)) u c)) :
    Calls Try.prog call args W (FPost w W hb H u K ids c) := by
  obtain ⟨h1, S, h2, h3, h4⟩ := q
  refine (hput S h2 (fun k e => (h3 k e).2) h4).mono ?_
  rintro e w' ⟨hU, hP⟩
  obtain ⟨r1, r2, r3, r4⟩ := k.room (u := u) c hs
  have e1 := idsum_same r2
  rcases hP with ⟨p1, p2, p3⟩ | ⟨p1, p2, p3⟩
  · obtain ⟨t1, t2, t3, t4, t5⟩ := r1.put c hc (by rw [r4]; exact hl)
    obtain ⟨g1, g2⟩ := Hf.put h1 h3 h4 hU p3
    have hne : ∀ i ∈ ids, i ≠ lid (roomH H u c (ids.map hw)) := by
      intro i hi e
      have := (List.nodup_append.1 t1.nod).2.2 i hi _ (List.mem_singleton.2 rfl)
      exact this e
    refine ⟨g2, _, g1, t2, fun i hi => (putH_ne _ _ i (hne i hi)).trans (r2 i hi), by rw [r4] at t5; exact t5, .inl ⟨r3.1 p1, _, by have := lid_le (roomH H u c (ids.map hw)); rw [r4] at this; exact this, p2, t1, putH_self _ _, t4.trans (by rw [e1])⟩⟩
  · obtain ⟨g1, g2⟩ := Hf.put h1 h3 h4 hU p3
    have hfit : ¬ (idsum H ids + c.need ≤ u) := fun e => by have := r3.2 e; omega
    exact ⟨g2, _, g1, r1, r2, by rw [r4]; omega, .inr ⟨by omega, p2⟩⟩
theorem f_buf (q : Hf w W hb H u K) (k : Kp H ids) (hl : H.length < 1000000) (n b : Nat) (hn : n ≤ 200) (hb256 : b < 256) (gb : Nat) (hv : ByteRow W (some ⟨gb, 0, none⟩) (List.replicate n b)) (ho : K gb) (vr : Value) (hr : WordsAt W vr (ids.map hw)) :
    Calls Try.prog 12 #[.pointer (some ⟨hb, 0, none⟩), .agg #[.int .i64 8, .bool false, .int .i64 0, .string ⟨#[]⟩, .slice (some ⟨gb, 0, none⟩) n n, .slice none 0 0, .int .u64 0, .int .i64 0, .int .i64 0], vr] W (FPost w W hb H u K ids (.buf 8 (List.replicate n b))) := by
  refine f_post q k hl (.buf 8 (List.replicate n b)) (fun x hx => by simpa [Hc.seeds, Hc.ws, Hc.cl] using hx) (fun x hx => (by cases hx)) (f := fun _ _ _ => True) (fun S h2 hS h4 => ?_)
  have hlen : (List.replicate n b).length = n := List.length_replicate
  have := put_buf h2 hS 8 (by decide) (List.replicate n b) (fun x hx => by rw [(List.mem_replicate.1 hx).2]; exact hb256) (by rw [hlen]; omega) (by rw [hlen]; show n % 1 = 0; omega) (some ⟨gb, 0, none⟩) none n 0 (by rw [hlen]; exact Nat.le_refl _) hv (fun x e => by cases e; exact ⟨(h4 gb ho).2, (h4 gb ho).1⟩) vr (ids.map hw) hr
  rw [hlen] at this
  exact this
theorem f_row (q : Hf w W hb H u K) (k : Kp H ids) (hl : H.length < 1000000) (n : Nat) (hn : n ≤ 1048576) (gb : Nat) (hv : WordsAt W (.slice (some ⟨gb, 0, none⟩) n n) (List.replicate n 0)) (ho : K gb) (vr : Value) (hr : WordsAt W vr (ids.map hw)) :
    Calls Try.prog 12 #[.pointer (some ⟨hb, 0, none⟩), .agg #[.int .i64 9, .bool false, .int .i64 0, .string ⟨#[]⟩, .slice none 0 0, .slice (some ⟨gb, 0, none⟩) n n, .int .u64 0, .int .i64 0, .int .i64 0], vr] W (FPost w W hb H u K ids (nrow n)) := by
  refine f_post q k hl (nrow n) (nrow_seeds n) (nrow_succ n) (f := fun _ _ _ => True) (fun S h2 hS h4 => ?_)
  have hlen : (List.replicate n 0).length = n := List.length_replicate
  have := put_row h2 hS (List.replicate n 0) (by rw [hlen]; exact hn) (fun w hw => by rw [(List.mem_replicate.1 hw).2]; decide) (fun w hw => by rw [(List.mem_replicate.1 hw).2]; exact isVal_zero _) none (some ⟨gb, 0, none⟩) 0 n (by rw [hlen]; exact hv) (by
    intro o n' cap e k
    cases e
    have := h4 _ ho
    rcases k with k | k
    · exact this.2 k
    · exact absurd k (Nat.not_le.2 this.1)) vr (ids.map hw) hr
  rw [hlen] at this
  exact this
theorem f_reach (q : Hf w W hb H u K) (k : Kp H ids) (vr : Value) (hr : WordsAt W vr (ids.map hw)) :
    Calls Try.prog 13 #[.pointer (some ⟨hb, 0, none⟩), vr] W fun e w' => e = .returned (.int .i64 (idsum H ids : Nat)) ∧ Below W.heap.size W w' := by
  obtain ⟨h1, S, ⟨sb, vc, T, g, _, _, _, hs⟩, _⟩ := q
  have hu := g.u1
  have := hreach_c g (by omega) vr (ids.map hw) hr
  rw [k.reach] at this
  exact this
/-- behind Put: what stays, and what may be kept -/
structure FuP (w W : World) (hb u j n : Nat) (H0 : List (Option Hc)) (ids : List Nat) (K : Nat → Prop) (vr vn : Value) (p g : Nat) : Prop where
  stay : ∃ H, Fu w W hb u (j + 1) H ids K vr vn ∧ idsum H ids = idsum H0 ids ∧ ((idsum H0 ids + (1 + (n + 7) / 8) ≤ u ∧ g = 0 ∧ ∃ i, p = hw i ∧ i ≤ j ∧ Kp H (ids ++ [i]) ∧ Same8 H i ∧ needO ((H[i]?).getD none) = 1 + (n + 7) / 8 ∧ idsum H (ids ++ [i]) = idsum H0 ids + (1 + (n + 7) / 8)) ∨ (u < idsum H0 ids + (1 + (n + 7) / 8) ∧ g = 40))
theorem Fu.put (s : Fu w W hb u j H ids K vr vn) {n b : Nat} (hn : n ≤ 200) (h1 : 1 ≤ b) (h2 : b < 256) {e : Ending} (h : FPost w W hb H u K ids (.buf 8 (List.replicate n b)) e W') : ∃ p g : Nat, e = .returned (.tuple #[.int .u64 p, .int .i64 g]) ∧ FuP w W' hb u j n H ids K vr vn p g := by
  obtain ⟨hU, H', t, k1, k2, k3, h⟩ := h
  have lh := s.lh
  have hnd : (Hc.buf 8 (List.replicate n b)).need = 1 + (n + 7) / 8 := by rw [bufn_need, List.length_replicate]
  have fu : Fu w W' hb u (j + 1) H' ids K vr vn := ⟨t, k1, s.r.upd hU, by rw [needV_same k2]; exact owns_on s.n (fun k e => hU.block k (s.n.lt k e).2 (fun d => d.1 (s.nk k e))), s.nk, s.ne, fun i hi => by obtain ⟨n', b', x1, x2, x3, x4⟩ := s.b i hi; exact ⟨n', b', x1, x2, x3, by rw [k2 i hi]; exact x4⟩, by omega⟩
  rcases h with ⟨f1, i, f2, f3, f4, f5, f6⟩ | ⟨f1, f2⟩
  · rw [hnd] at f1 f6
    exact ⟨hw i, 0, f3, ⟨H', fu, idsum_same k2, .inl ⟨f1, rfl, i, rfl, by omega, f4, ⟨n, b, h1, h2, hn, f5⟩, by rw [f5]; exact hnd, f6⟩⟩⟩
  · rw [hnd] at f1
    exact ⟨0, 40, f2, ⟨H', fu, idsum_same k2, .inr ⟨f1, rfl⟩⟩⟩
/-- the word and its need are kept -/
theorem FuP.keep {n p : Nat} {H0 : List (Option Hc)} (s : FuP w W hb u j n H0 ids K vr vn p 0) (hj : j ≤ 1000) (ty1 ty2 : TypeId) : ∃ vr' W1 vn' W2, (Builtin.append_ #[23, 23] ty1 #[vr, .slice (some ⟨W.heap.size, 0, none⟩) 1 1]).run Try.prog (W.alloc (.cells #[.int .u64 (p : Nat)] 24)) = .ok vr' W1 ∧ (Builtin.append_ #[30, 30] ty2 #[vn, .slice (some ⟨W1.heap.size, 0, none⟩) 1 1]).run Try.prog (W1.alloc (.cells #[.int .i64 ((1 + (n + 7) / 8 : Nat) : Int)] 3)) = .ok vn' W2 ∧ ∃ H' ids' K', Fu w W2 hb u (j + 1) H' ids' K' vr' vn' ∧ idsum H' ids' = idsum H0 ids + (1 + (n + 7) / 8) := by
  obtain ⟨H, fu, es, h⟩ := s.stay
  rcases h with ⟨h1, _, i, rfl, hi, k1, sb, nd, e1⟩ | ⟨_, h⟩
  · have hl : ids.length ≤ j + 1 := fu.len
    have w0 := fu.q.bel.size
    obtain ⟨vr', W1, r1, o1, u1, b1⟩ := own_append w W 23 24 (.int .u64 0) underW infoW rfl vr _ _ fu.r.row w0 (.int .u64 (hw i : Nat)) rfl (by simp; omega) ty1
    have hx1 : ∀ k, vr.ownBlock = some k → K k ∧ w.heap.size ≤ k := fun k e => ⟨fu.r.keep k e, (fu.r.row.lt k e).1⟩
    have q1 := fu.q.upd' u1 hx1
    have n1 : W1.ownsRow w.heap.size 3 1 vn ids.length (needV H ids) := owns_on fu.n (fun k e => u1.block k (fu.n.lt k e).2 (fun e2 => fu.ne k e2 e))
    obtain ⟨vn', W2, r2, o2, u2, b2⟩ := own_append w W1 30 3 (.int .i64 0) underN infoN rfl vn _ _ n1 (Nat.le_trans w0 u1.size) (.int .i64 ((1 + (n + 7) / 8 : Nat) : Int)) rfl (by omega) ty2
    have hx2 : ∀ k, vn.ownBlock = some k → (K k ∨ (W.heap.size ≤ k ∧ k < W1.heap.size)) ∧ w.heap.size ≤ k := fun k e => ⟨.inl (fu.nk k e), (fu.n.lt k e).1⟩
    have q2 := q1.upd' u2 hx2
    have ne1 : ∀ k, vr'.ownBlock = some k → ¬ vn.ownBlock = some k := by
      intro k x1 x2
      rcases b1 k x1 with x | x
      · exact fu.ne k x x2
      · have := (fu.n.lt k x2).2; omega
    refine ⟨vr', W1, vn', W2, r1, r2, H, ids ++ [i], _, ⟨q2, k1, ⟨?_, ?_, ?_, ?_⟩, ?_, ?_, ?_, ?_, fu.lh⟩, e1⟩
    · have hw1 : W1.ownsRow w.heap.size 24 1 vr' ((ids ++ [i]).map hw).length (wds ((ids ++ [i]).map hw)) := by
        have e : wds ((ids ++ [i]).map hw) = wds (ids.map hw) ++ [.int .u64 (hw i : Nat)] := by simp [wds]
        rw [e]
        simpa using o1
      exact owns_on hw1 (fun k e => u2.block k (o1.lt k e).2 (fun e2 => ne1 k e e2))
    · intro k e
      rcases b1 k e with x | x
      · exact .inl (.inl (fu.r.keep k x))
      · exact .inl (.inr x)
    · intro x hx
      obtain ⟨a, ha, rfl⟩ := List.mem_map.1 hx
      exact hw_lt a (by have := k1.lt ha; have := k1.len; omega)
    · simp; omega
    · have e : needV H (ids ++ [i]) = needV H ids ++ [.int .i64 ((1 + (n + 7) / 8 : Nat) : Int)] := by unfold needV; rw [List.map_append, List.map_singleton, nd]
      rw [e]
      simpa using o2
    · intro k e
      rcases b2 k e with x | x
      · exact .inl (.inl (fu.nk k x))
      · exact .inr x
    · intro k x1 x2
      rcases b2 k x2 with x | x
      · exact ne1 k x1 x
      · have := (o1.lt k x1).2; omega
    · intro a ha
      rcases List.mem_append.1 ha with ha | ha
      · exact fu.b a ha
      · simp at ha; subst ha; exact sb
  · omega
end
end Go.Proofs.Ytaebnnkhjlidiaa.W
