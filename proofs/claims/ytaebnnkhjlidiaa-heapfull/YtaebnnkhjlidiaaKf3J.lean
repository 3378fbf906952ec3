import Derived.Test.YtaebnnkhjlidiaaKf2J
/- What is left when one of the words is let go; what Get answers of a string. -/
namespace Go.Proofs.Ytaebnnkhjlidiaa.W
open Go.ChangeShapes Go.WideShapes Go.RowKit Go.Shelf
set_option linter.unusedVariables false
theorem idsum_erase (H : List (Option Hc)) (ids : List Nat) (k : Nat) (hk : k < ids.length) : idsum H ids = idsum H (ids.eraseIdx k) + needO ((H[ids[k]]?).getD none) := by
  induction ids generalizing k with
  | nil => simp at hk
  | cons a r ih =>
    cases k with
    | zero => rw [idsum_cons]; simp; omega
    | succ k =>
      have := ih k (by simpa using hk)
      rw [List.eraseIdx_cons_succ, idsum_cons, idsum_cons, this]
      simp
      omega
theorem Kp.erase {H : List (Option Hc)} {ids : List Nat} (h : Kp H ids) (k : Nat) : Kp H (ids.eraseIdx k) :=
  ⟨h.leaf, fun i hi => h.live i (List.mem_of_mem_eraseIdx hi), h.nod.sublist (List.eraseIdx_sublist _ _), h.len⟩
theorem words_take {W : World} {x : Addr} {L c : Nat} {ws : List Nat} (h : WordsAt W (.slice (some x) L c) ws) (k : Nat) (hk : k ≤ ws.length) (c' : Nat) : WordsAt W (.slice (some x) k c') (ws.take k) := by
  obtain ⟨o, cap, e, h1, h2, h3⟩ := h
  cases e
  have hl : (ws.take k).length = k := by rw [List.length_take]; omega
  refine ⟨some x, c', by rw [hl], by omega, fun w hw => h2 w (List.mem_of_mem_take hw), fun i hi => ?_⟩
  obtain ⟨y, hy, hc⟩ := h3 i (by omega)
  refine ⟨y, hy, ?_⟩
  rw [hc, List.getElem_take]
theorem add_more (a : Addr) (m i : Nat) (hm : 0 < m) : (⟨a.block, a.off + m, none⟩ : Addr).add i = a.add (m + i) := by
  unfold Addr.add
  by_cases h : i = 0
  · subst h
    rw [if_pos rfl, if_neg (by omega)]
    simp
  · rw [if_neg h, if_neg (by omega)]
    simp
    omega
theorem words_drop {W : World} {x : Addr} {L c : Nat} {ws : List Nat} (h : WordsAt W (.slice (some x) L c) ws) (k : Nat) (hk : k < ws.length) (o2 : Option Addr) (ho : (if c = k + 1 then some x else some ⟨x.block, x.off + (k + 1), none⟩) = o2) (hc : ws.length ≤ c) (c' : Nat) : WordsAt W (.slice o2 (ws.length - (k + 1)) c') (ws.drop (k + 1)) := by
  obtain ⟨o, cap, e, h1, h2, h3⟩ := h
  cases e
  have hl : (ws.drop (k + 1)).length = ws.length - (k + 1) := List.length_drop
  refine ⟨o2, c', by rw [hl], by omega, fun w hw => h2 w (List.mem_of_mem_drop hw), fun i hi => ?_⟩
  rw [hl] at hi
  rw [if_neg (by omega)] at ho
  obtain ⟨y, hy, hc⟩ := h3 (k + 1 + i) (by omega)
  injection hy with hy
  subst hy
  refine ⟨_, ho.symm, ?_⟩
  rw [add_more x (k + 1) i (by omega), hc, List.getElem_drop]
theorem erase_split (ws : List Nat) (k : Nat) : ws.take k ++ ws.drop (k + 1) = ws.eraseIdx k := (List.eraseIdx_eq_take_drop_succ ws k).symm
theorem rest_run (W : World) (x : Addr) (L cx : Nat) (ws : List Nat) (hws : WordsAt W (.slice (some x) L cx) ws) (hL : ws.length = L) (k : Nat) (hk : k < L) (hcx : L ≤ cx) (hl : L ≤ 1000) (o2 : Option Addr) (ho : (if cx = k + 1 then some x else some ⟨x.block, x.off + (k + 1), none⟩) = o2) :
    ∃ v1 W1 v2 W2, (Builtin.append_ #[23, 23] 23 #[.slice (some ⟨W.heap.size, 0, none⟩) 0 0, .slice (some x) k cx]).run Try.prog (W.alloc (.cells #[] 24)).drew = .ok v1 W1 ∧ (Builtin.append_ #[23, 23] 23 #[v1, .slice o2 (L - (k + 1)) (cx - (k + 1))]).run Try.prog W1 = .ok v2 W2 ∧ W2.ownsRow W.heap.size 24 1 v2 (L - 1) (wds (ws.eraseIdx k)) ∧ Below W.heap.size W W1 ∧ Below W.heap.size W W2 := by
  subst hL
  have b0 : Below W.heap.size W (W.alloc (.cells #[] 24)).drew := ((Below.refl _ W).alloc (Nat.le_refl _) _).drew
  have h0 : (W.alloc (.cells #[] 24)).drew.ownsRow W.heap.size 24 1 (.slice (some ⟨W.heap.size, 0, none⟩) 0 0) 0 [] := World.ownsRow_lit (base := W.heap.size) (e := 24) (size := 1) W #[] 0 (Nat.le_refl _) (by simp) (by simp)
  obtain ⟨v1, W1, r1, o1, g1⟩ := app_words (W.alloc (.cells #[] 24)).drew W.heap.size 23 b0.size (.slice (some ⟨W.heap.size, 0, none⟩) 0 0) 0 [] h0 (.slice (some x) k cx) (ws.take k) (words_below (words_take hws k (by omega) cx) b0) (by rw [List.length_take]; omega)
  have u1 : Upd (fun k => W.heap.size ≤ k) (W.alloc (.cells #[] 24)).drew W1 := (Upd.refl _ _).grown g1 (fun k e => .inl (by cases e; exact Nat.le_refl _))
  have b1 : Below W.heap.size W W1 := b0.trans (u1.below b0.size (fun k e => e))
  obtain ⟨v2, W2, r2, o2', g2⟩ := app_words W1 W.heap.size 23 b1.size v1 _ _ o1 (.slice o2 (ws.length - (k + 1)) (cx - (k + 1))) (ws.drop (k + 1)) (words_below (words_drop hws k hk o2 ho hcx _) b1) (by rw [List.length_take, List.length_drop]; omega)
  have u2 : Upd (fun k => W.heap.size ≤ k) W1 W2 := (Upd.refl _ _).grown g2 (fun k e => .inl (o1.lt k e).1)
  have b2 : Below W.heap.size W W2 := b1.trans (u2.below b1.size (fun k e => e))
  refine ⟨v1, W1, v2, W2, r1, r2, ?_, b1, b2⟩
  have e1 : 0 + (ws.take k).length + (ws.drop (k + 1)).length = ws.length - 1 := by rw [List.length_take, List.length_drop]; omega
  have e2 : [] ++ (ws.take k).map (fun x => Value.int .u64 (x : Nat)) ++ (ws.drop (k + 1)).map (fun x => Value.int .u64 (x : Nat)) = wds (ws.eraseIdx k) := by
    rw [← erase_split]
    simp [wds]
  rw [e1, e2] at o2'
  exact o2'
/-- what was there stays the old slice's, wherever the new one lies -/
theorem append_keep (W0 W : World) (t e : TypeId) (z : Value) (hu : Try.prog.underlying t = some (.slice e)) (hI : (Try.prog.info? e).map (fun i => (i.zero, i.size, i.bytes)) = some (some z, 1, 8)) (v : Value) (n : Nat) (xs : List Value) (ho : W.ownsRow W0.heap.size e 1 v n xs) (x : Value) (hx : x.oneCell' = true) (hn : n ≤ 1000000) (ty : TypeId) (v' : Value) (w' : World)
    (hrun : (Builtin.append_ #[t, t] ty #[v, .slice (some ⟨W.heap.size, 0, none⟩) 1 1]).run Try.prog (W.alloc (.cells #[x] e)) = .ok v' w') : w'.ownsRow W0.heap.size e 1 v n xs := by
  obtain ⟨i0, hi, hz0, hz1, hz2⟩ := info_parts hI
  have ho1 := ho.alloc (.cells #[x] e)
  have e0 := World.cell?_alloc_new W #[x] e
  have hnews : ∀ (j : Nat) u, [x][j]? = some u → (W.alloc (.cells #[x] e)).cell? ((⟨W.heap.size, 0, none⟩ : Addr).add j) = some u := by
    intro j y hj
    have hj0 : j = 0 := by have := (List.getElem?_eq_some_iff.1 hj).1; simp at this; exact this
    subst hj0
    simp at hj
    subst hj
    have e1 : ((⟨W.heap.size, 0, none⟩ : Addr).add 0) = ⟨W.heap.size, 0, none⟩ := by unfold Addr.add; split <;> simp_all
    rw [e1, e0 0]; rfl
  rcases ho1.2 with ⟨rfl, rfl⟩ | ⟨g, cap, cur, rfl, hbg, hg, hnc, hcm, hcs, htake⟩
  · have : xs = [] := List.eq_nil_of_length_eq_zero (by simpa using ho.1)
    rw [this]
    exact World.ownsRow_nil _ _ _ _
  · by_cases hroom : n + 1 ≤ cap
    · have hr := run_append_room (P := Try.prog) (W.alloc (.cells #[x] e)) t ty e i0 hu hi g n cap cur hg ⟨W.heap.size, 0, none⟩ 1 1 [x] (by rw [hz1]; rfl) hnews (by intro y hy; simp at hy; rw [hy]; exact hx) hroom (by rw [hz1, hcs]; simp; omega)
      rw [hr] at hrun
      injection hrun with _ hw'
      subst hw'
      rw [hz1]
      refine ⟨ho.1, .inr ⟨g, cap, _, rfl, hbg, setRow_heap _ g cur _ e _ hg, hnc, hcm, ?_, ?_⟩⟩
      · simp only [List.size_toArray, List.length_append, List.length_take, List.length_drop, Array.length_toList, List.length_singleton]
        omega
      · rw [← htake]
        have hl2 : (cur.toList.take (n * 1)).length = n * 1 := by rw [List.length_take, Array.length_toList]; omega
        simp only [List.append_assoc]
        rw [List.take_append_of_le_length (by omega), List.take_of_length_le (by omega)]
    · have holds : ∀ (j : Nat) u, xs[j]? = some u → (W.alloc (.cells #[x] e)).cell? ((⟨g, 0, none⟩ : Addr).add j) = some u := ho1.cells (g := g) rfl
      have hr := run_append_grow (P := Try.prog) (W.alloc (.cells #[x] e)) t ty e i0 z hu hi hz0 ⟨g, 0, none⟩ n cap xs (by rw [hz1]; exact ho.1) holds ⟨W.heap.size, 0, none⟩ 1 1 [x] (by rw [hz1]; rfl) hnews (by omega) (by omega) (growslice_fits (by omega) (by rw [hz2]; omega))
      rw [hr] at hrun
      injection hrun with _ hw'
      subst hw'
      exact owns_on ho1 (fun k e => by cases e; exact Below.heap_alloc _ _ _ (show _ < (W.alloc (.cells #[x] e)).heap.size from (ho1.lt _ rfl).2))
theorem hf_get8 {w W : World} {hb u : Nat} {H : List (Option Hc)} {K : Nat → Prop} (q : Hf w W hb H u K) (hl : H.length ≤ 1000000) (i : Nat) (h : Same8 H i) :
    Calls Try.prog 14 #[.pointer (some ⟨hb, 0, none⟩), .int .u64 (hw i : Nat)] W fun e w' => ∃ gb n b : Nat, e = .returned (.tuple #[.agg #[.int .i64 8, .bool false, .int .i64 0, .string ⟨#[]⟩, .slice (some ⟨gb, 0, none⟩) n n, .slice none 0 0, .int .u64 0, .int .i64 0, .int .i64 0], .int .i64 0]) ∧ Below W.heap.size W w' ∧ gb < w'.heap.size ∧ 1 ≤ b ∧ b < 256 ∧ n ≤ 200 ∧ ∀ t, t < n → w'.cell? ⟨gb, t, none⟩ = some (.int .u8 (b : Nat)) := by
  obtain ⟨h1, S, ⟨sb, vc, T, g, _⟩, _⟩ := q
  obtain ⟨n, b, x1, x2, x3, x4⟩ := h
  have hlt : i < H.length := (List.getElem?_eq_some_iff.1 x4).1
  refine (get_buf g (hw i) (hw_lt i (by omega)) i (hit_hw (by omega) x4) 8 _ x4).mono ?_
  rintro e w' ⟨gb, rfl, k1, k2, k3⟩
  rw [List.length_replicate] at k3 ⊢
  refine ⟨gb, n, b, rfl, k2, (k3.lt gb rfl).2, x1, x2, x3, fun t ht => own_at k3 t _ ?_⟩
  rw [List.getElem?_map, List.getElem?_replicate, if_pos ht]
  rfl
theorem map_erase (ids : List Nat) (k : Nat) : (ids.map hw).eraseIdx k = (ids.eraseIdx k).map hw := by
  induction ids generalizing k with
  | nil => rfl
  | cons a r ih =>
    cases k with
    | zero => rfl
    | succ k => simp [ih]
end Go.Proofs.Ytaebnnkhjlidiaa.W
