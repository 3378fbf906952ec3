import Derived.Test.YtaebnnkhjlidiabKs3J
/- What HeapSame makes ahead of its second Put, in whatever order. -/
namespace Go.Proofs.Ytaebnnkhjlidiab.W
open Go.ChangeShapes Go.WideShapes Go.RowKit Go.Shelf
set_option linter.unusedVariables false
/-- append of words to an empty row of one's own -/
theorem copy_any (M : World) (B eb : Nat) (hM : B ≤ M.heap.size) (h0 : M.ownsRow B 30 1 (.slice (some ⟨eb, 0, none⟩) 0 0) 0 []) (ty : TypeId) (v : Value) (ws : List Nat) (h : WordsAt M v ws) (hl : ws.length ≤ 900000) : ∃ v' w', (Builtin.append_ #[28, 28] ty #[.slice (some ⟨eb, 0, none⟩) 0 0, v]).run Try.prog M = .ok v' w' ∧ WordsAt w' v' ws ∧ Upd (fun k => k = eb) M w' := by
  obtain ⟨v', w', hrun, ho, hg⟩ := app_words M B ty hM (.slice (some ⟨eb, 0, none⟩) 0 0) 0 [] h0 v ws h (by omega)
  have hU : Upd (fun k => k = eb) M w' := (Upd.refl _ _).grown hg (fun k e => .inl (by cases e; rfl))
  have h64 := h.choose_spec.choose_spec.2.2.1
  exact ⟨v', w', hrun, words_own (B := B) (by simpa using ho) (by omega) h64, hU⟩
theorem bel_of_drew {n : Nat} {W W' : World} (h : Below n W.drew W') : Below n W W' := ⟨h.os, h.tape, h.output, h.size, h.block⟩
section
variable {w W W' F : World} {ha hb u j : Nat} {ia ib : List Nat} {K : Nat → Prop} {vx vy : Value}
theorem SmH.bel {n S p g : Nat} (s : SmH w W ha hb u j n ia ib K vx vy S p g) : Below w.heap.size w W := by
  obtain ⟨Ha, Hb, t, _⟩ := s.stay
  exact t.bel
theorem SmB.bel {n p g q h : Nat} (s : SmB w W ha hb u j n ia ib K vx vy p g q h) : Below w.heap.size w W := by
  obtain ⟨Ha, Hb, sm, _⟩ := s.stay
  exact sm.q.bel
theorem Sm.collect {Ha Hb : List (Option Hc)} (s : Sm w W ha hb u j Ha Hb ia ib K vx vy) (vr : Value) (hr : WordsAt W vr (ib.map hw)) :
    Calls Try.prog 9 #[.pointer (some ⟨hb, 0, none⟩), vr] W fun e w' => e = .returned (.tuple #[]) ∧ ∃ H', Sm w w' ha hb u j Ha H' ia ib K vx vy := by
  refine (two_collect s.q.swap ib s.kb vr hr).mono ?_
  rintro e w' ⟨rfl, hU, H', t, k1, k2, k3⟩
  exact ⟨rfl, H', t.swap, s.ka, k1, by rw [k2]; exact s.es, s.x.upd hU, s.y.upd hU, s.ne, s.la, by rw [k3]; exact s.lb, s.na, s.nb⟩
theorem Sm.ra {Ha Hb : List (Option Hc)} (s : Sm w W ha hb u j Ha Hb ia ib K vx vy) :
    Calls Try.prog 10 #[.pointer (some ⟨ha, 0, none⟩), vx] W fun e w' => e = .returned (.int .i64 (idsum Ha ia : Nat)) ∧ Below W.heap.size W w' := two_reach s.q ia s.ka vx s.x.words
theorem Sm.rb {Ha Hb : List (Option Hc)} (s : Sm w W ha hb u j Ha Hb ia ib K vx vy) :
    Calls Try.prog 10 #[.pointer (some ⟨hb, 0, none⟩), vy] W fun e w' => e = .returned (.int .i64 (idsum Ha ia : Nat)) ∧ Below W.heap.size W w' := by
  have := two_reach s.q.swap ib s.kb vy s.y.words
  rwa [← s.es] at this
/-- what the second Put finds -/
structure Prep (W F : World) (n : Nat) (nb : Nat) (vr : Value) (ws : List Nat) : Prop where
  bel : Below W.heap.size W F
  lo : W.heap.size ≤ nb
  hi : nb < F.heap.size
  row : WordsAt F (.slice (some ⟨nb, 0, none⟩) n n) (List.replicate n 0)
  rts : WordsAt F vr ws
theorem SmH.put {n S p g : Nat} (s : SmH w W ha hb u j n ia ib K vx vy S p g) (hj : j ≤ 100) (hn : n ≤ 100) {nb : Nat} {vr : Value} (f : Prep W F n nb vr (ib.map hw)) :
    Calls Try.prog 8 #[.pointer (some ⟨hb, 0, none⟩), .agg #[.int .i64 9, .bool false, .int .i64 0, .string ByteArray.empty, .slice none 0 0, .slice (some ⟨nb, 0, none⟩) n n, .int .u64 0, .int .i64 0, .int .i64 0], vr] F fun e w' => ∃ q h K', e = .returned (.tuple #[.int .u64 (q : Nat), .int .i64 (h : Nat)]) ∧ SmB w w' ha hb u j n ia ib K' vx vy p g q h := by
  refine ((s.below f.bel).row hj (by omega) (some ⟨nb, 0, none⟩) n f.row (fun x e => by cases e; exact .inr ⟨f.lo, f.hi⟩) vr f.rts).mono ?_
  rintro e w' ⟨q, h, h1, h2⟩
  exact ⟨q, h, _, h1, h2⟩
theorem own_empty (W : World) : (W.alloc (.cells #[] 30)).ownsRow W.heap.size 30 1 (.slice (some ⟨W.heap.size, 0, none⟩) 0 0) 0 [] := World.ownsRow_lit (base := W.heap.size) (e := 30) (size := 1) W #[] 0 (Nat.le_refl _) (by simp) (by simp)
/-- the words first, then the copy -/
theorem prep1 (W : World) (n : Nat) (hn : n ≤ 100) (v : Value) (ws : List Nat) (h : WordsAt W v ws) (hl : ws.length ≤ 900000) :
    ∃ M, (Instr.makeSlice 28 (.int .i64 (n : Int)) (.int .i64 (n : Int))).run Try.prog W.drew = .ok (.slice (some ⟨W.heap.size, 0, none⟩) n n) M ∧ Below W.heap.size W M ∧ ∃ vr F, (Builtin.append_ #[28, 28] 28 #[.slice (some ⟨M.heap.size, 0, none⟩) 0 0, v]).run Try.prog (M.alloc (.cells #[] 30)) = .ok vr F ∧ Prep W F n W.heap.size vr ws := by
  obtain ⟨M, h1, h2, h3, h4⟩ := make_words W.drew n (by omega)
  have b1 : Below W.heap.size W M := bel_of_drew h3
  obtain ⟨vr, F, r1, r2, r3⟩ := copy_run (W1 := M) 28 v ws (words_below h b1) hl
  refine ⟨M, h1, b1, vr, F, r1, b1.trans (r3.mono b1.size), Nat.le_refl _, Nat.lt_of_lt_of_le h4 r3.size, words_below h2 r3, r2⟩
/-- the empty row first, then the words, then the copy -/
theorem prep2 (W : World) (n : Nat) (hn : n ≤ 100) (v : Value) (ws : List Nat) (h : WordsAt W v ws) (hl : ws.length ≤ 900000) :
    ∃ M, (Instr.makeSlice 28 (.int .i64 (n : Int)) (.int .i64 (n : Int))).run Try.prog (W.alloc (.cells #[] 30)).drew = .ok (.slice (some ⟨W.heap.size + 1, 0, none⟩) n n) M ∧ Below W.heap.size W M ∧ ∃ vr F, (Builtin.append_ #[28, 28] 28 #[.slice (some ⟨W.heap.size, 0, none⟩) 0 0, v]).run Try.prog M = .ok vr F ∧ Prep W F n (W.heap.size + 1) vr ws := by
  obtain ⟨M, h1, h2, h3, h4⟩ := make_words (W.alloc (.cells #[] 30)).drew n (by omega)
  have z : (W.alloc (.cells #[] 30)).drew.heap.size = W.heap.size + 1 := World.size_alloc ..
  have b0 : Below W.heap.size W (W.alloc (.cells #[] 30)) := (Below.refl _ W).alloc (Nat.le_refl _) _
  have b3 : Below (W.heap.size + 1) (W.alloc (.cells #[] 30)) M := by have := bel_of_drew h3; rwa [z] at this
  have b1 : Below W.heap.size W M := b0.trans (b3.mono (by omega))
  rw [z] at h1 h2 h4
  have h0 : M.ownsRow W.heap.size 30 1 (.slice (some ⟨W.heap.size, 0, none⟩) 0 0) 0 [] := owns_on (own_empty W) (fun k e => by cases e; exact b3.block W.heap.size (Nat.lt_succ_self _))
  obtain ⟨vr, F, r1, r2, r3⟩ := copy_any M W.heap.size W.heap.size b1.size h0 28 v ws (words_below h b1) hl
  have hws : WordsAt F (.slice (some ⟨W.heap.size + 1, 0, none⟩) n n) (List.replicate n 0) := words_upd h2 r3 (fun o n' cap e k => by cases e; simp at k)
  have b4 : Below W.heap.size M F := r3.below b1.size (fun k e => by omega)
  refine ⟨M, h1, b1, vr, F, r1, b1.trans b4, by omega, Nat.lt_of_lt_of_le h4 r3.size, hws, r2⟩
/-- the copy first, then the words -/
theorem prep3 (W : World) (n : Nat) (hn : n ≤ 100) (v : Value) (ws : List Nat) (h : WordsAt W v ws) (hl : ws.length ≤ 900000) :
    ∃ vr M, (Builtin.append_ #[28, 28] 28 #[.slice (some ⟨W.heap.size, 0, none⟩) 0 0, v]).run Try.prog (W.alloc (.cells #[] 30)).drew = .ok vr M ∧ Below W.heap.size W M ∧ ∃ F, (Instr.makeSlice 28 (.int .i64 (n : Int)) (.int .i64 (n : Int))).run Try.prog M = .ok (.slice (some ⟨M.heap.size, 0, none⟩) n n) F ∧ Prep W F n M.heap.size vr ws := by
  obtain ⟨vr, M, r1, r2, r3⟩ := copy_run (W1 := W.drew) 28 v ws h hl
  have b1 : Below W.heap.size W M := bel_of_drew r3
  obtain ⟨F, h1, h2, h3, h4⟩ := make_words M n (by omega)
  exact ⟨vr, M, r1, b1, F, h1, b1.trans (h3.mono b1.size), b1.size, h4, h2, words_below r2 h3⟩
end
end Go.Proofs.Ytaebnnkhjlidiab.W
