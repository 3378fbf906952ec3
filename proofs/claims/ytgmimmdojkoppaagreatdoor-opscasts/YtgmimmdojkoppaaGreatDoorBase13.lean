import Derived.Test.YtgmimmdojkoppaaGreatDoorBase12
import Derived.Deep.RegionHeld3
import Derived.Test.YtgmimmdojkoppaaGreatDoorBase11
import Derived.Test.YtgmimmdojkoppaaGreatDoorBase6
/- Package heap: the words of a row, one behind the other: the iterator, and a range over it. -/
namespace Go.Proofs.YtgmimmdojkoppaaGreatDoor.W
open Go.ChangeShapes Go.WideShapes Go.RowKit Go.Shelf
set_option linter.unusedVariables false
theorem words_c (W : World) (hb id : Nat) : Calls Tryz.prog 179 #[.pointer (some ⟨hb, 0, none⟩), .int .i64 id] W fun e w' => e = .returned (.func (.func 220) #[] #[.pointer (some ⟨W.heap.size, 0, none⟩), .pointer (some ⟨W.heap.size + 1, 0, none⟩)]) ∧ w' = (W.alloc (.cells #[.pointer (some ⟨hb, 0, none⟩)] 23)).alloc (.cells #[.int .i64 id] 3) := by
  go_enter Tryz.func179, Tryz.ntmps179
  go_wp2
  go_ret
  exact ⟨rfl, rfl⟩
section
variable {hb sb : Nat} {vc : Value} {T : Nat → Prop} {H : List (Option Hc)} {u h : Nat}
set_option maxHeartbeats 1000000 in
theorem words_iter (Bh Bi id : Nat) (ws : List Nat) (hrow : H[id]? = some (some (.row ws))) :
    Iter 220 #[.pointer (some ⟨Bh, 0, none⟩), .pointer (some ⟨Bi, 0, none⟩)] (ws.map (fun w => #[.int .u64 (w : Nat)])) (fun _ W => HLay W hb sb vc T H u h ∧ W.cell? ⟨Bh, 0, none⟩ = some (.pointer (some ⟨hb, 0, none⟩)) ∧ W.cell? ⟨Bi, 0, none⟩ = some (.int .i64 id)) := by
  intro n l J X hn hL hB hY W h0
  rw [List.length_map]
  have hY : ∀ i (hi : i < ws.length) W, J i W → YieldAt Fence.wide (n - 1) Tryz.prog l #[.int .u64 (ws[i] : Nat)] W fun e W' => (e = .returned (.bool true) ∧ J (i + 1) W') ∨ (e = .returned (.bool false) ∧ X W') := by
    intro i hi W hJ
    have := hY i (by rw [List.length_map]; exact hi) W hJ
    rw [List.getElem_map] at this
    exact this
  show CallsIn Fence.wide n Tryz.prog 220 #[.func (.yield l) #[] #[], .pointer (some ⟨Bh, 0, none⟩), .pointer (some ⟨Bi, 0, none⟩)] W fun e W' => (∃ v, e = .returned v) ∧ (J ws.length W' ∨ X W')
  obtain ⟨g0, a1, a2⟩ := hL 0 W h0
  have hok := g0.ok id _ hrow
  have hwl : ws.length ≤ 1048576 := hok.2
  have cb := bytes_c g0 id _ hrow
  have eb : (Hc.row ws).bytes.length = 8 * ws.length := row_len ws
  obtain ⟨N, hN⟩ : ∃ N, N = 8 * ws.length := ⟨_, rfl⟩
  have HN := hid hN
  rw [← hN] at eb
  rw [eb] at cb
  clear hN
  refine callsIn_of_wp Tryz.func220 rfl trivial ?_ rfl
  simp only [Tryz.ntmps220, List.size_toArray, List.length_cons, List.length_nil, Nat.reduceAdd, Nat.reduceSub, Array.replicate_succ, Array.replicate_zero, List.push_toArray, List.append_toArray, List.nil_append, List.cons_append]
  gi_wp2_with ((refine ⟨trivial, ?_⟩); gi_at_call 136; (refine (callsIn_wide.2 cb).mono ?_); rintro e w' ⟨rfl, hw⟩; (have hw' := hw.symm); subst hw'; clear hw)
  gi_loopw [5] (fun off wr => ∃ i o : Nat, i ≤ ws.length ∧ o = 8 * i ∧ off = .int .i64 o ∧ J i wr) (fun off _ => N - (intOf off).toNat)
  case atStart => exact ⟨0, 0, Nat.zero_le _, rfl, rfl, h0⟩
  case round =>
    obtain ⟨i, o, hi, ho, rfl, hJi⟩ := hrel
    have HO := hid ho
    clear cb a1 a2 g0
    have hNs : N ≤ 8388608 := by have := HN.out; omega
    by_cases hlt : i < ws.length
    · obtain ⟨g1, b1, b2⟩ := hL i wr hJi
      have c0 := g1.cell 0
      simp at c0
      have cl := load_st (g1.same (W' := wr.drew) rfl).st id _ (hA_some hrow) o 8 (.inr (.inr (.inr rfl))) (by omega) (by have := HN.out; rw [eb]; omega)
      have ew : leN (seg (Hc.row ws).bytes o 8) = ws[i] := by rw [ho]; exact row_load ws i ws[i] (by simp) (hok.1 _ (List.getElem_mem hlt))
      rw [ew] at cl
      have o1 : (o : Int) < N := by have := HN.out; omega
      have o2 : IntKind.i64.wrap ((o : Int) + 8) = (o : Int) + 8 := by rw [IntKind.wrap_i64]; omega
      have hw8 : ((8 : Nat) : Int) = 8 := rfl
      rw [hw8] at cl
      have HJ : Hid (∀ w2, Below wr.heap.size wr w2 → J i w2) := fun w2 h => hB i wr w2 hJi h
      clear ew hJi g1 ho
      gi_wp2
      refine wpIn_wide.2 ?_
      go_region_held3 (fun w' => w'.cell? ⟨Bh, 0, none⟩ = some (.pointer (some ⟨hb, 0, none⟩)) ∧ w'.cell? ⟨Bi, 0, none⟩ = some (.int .i64 id) ∧ w'.cell? ⟨hb, 0, none⟩ = some (.pointer (some ⟨sb, 0, none⟩))) (first | exact ⟨b1, b2, c0⟩ | exact k2) (first | (go_at_call 200; (with_reducible refine cl.mono ?_); rintro e w2 ⟨rfl, hBl⟩; (have k2 := (show _ ∧ _ ∧ _ from ⟨below_cell hBl (show wr.drew.cell? _ = _ from b1), below_cell hBl (show wr.drew.cell? _ = _ from b2), below_cell hBl (show wr.drew.cell? _ = _ from c0)⟩)); clear b1 b2 c0 cl))
      obtain ⟨fn, tmps, assign, body, hy, hR⟩ := hY i hlt w2 (HJ.out w2 ⟨hBl.os, hBl.tape, hBl.output, hBl.size, hBl.block⟩)
      gi_wp2
      refine hR.mono ?_
      rintro e W3 (⟨rfl, hK3⟩ | ⟨rfl, hX3⟩)
      · clear hY hL hB hy hR
        gi_wp2
        go_roundw
        case rel => exact ⟨i + 1, o + 8, hlt, by have := HO.out; omega, by go_num, hK3⟩
        case measure => show N - (o + 8 : Int).toNat < N - (o : Int).toNat; omega
      · clear hY hL hB hy hR
        gi_wp2
        refine bodyPost_ret (results_none rfl _ _ _) rfl ?_
        exact ⟨⟨_, rfl⟩, .inr hX3⟩
    · have he : i = ws.length := by omega
      have o1 : ¬ (o : Int) < N := by have := HN.out; omega
      rw [he] at hJi
      clear hY hL hB
      gi_wp2
      go_end0
      exact ⟨⟨_, rfl⟩, .inl hJi⟩
theorem eg_words : ∀ args w, (callFunc 220 args).run Tryz.prog w = .ok (.enter 220 args) w := enters_of Tryz.func220 (by kernel_rfl) rfl
/-- the frame in which a round's body begins -/
def wAct (pt q : Nat) (a : Act) (w : Nat) : Act := { tmps := (a.tmps.setIfInBounds pt (.int .u64 (w : Int))).setIfInBounds q (.int .u64 (w : Int)), defers := [] }
theorem words_law {g : Operand} {pt : Nat} {assign body : Code} {Q : Exit → Act → World → Prop} {a : Act} {W0 : World} {Bh Bi id : Nat} (ws : List Nat) (hrow : H[id]? = some (some (.row ws))) (hg : a.eval g = .func (.func 220) #[] #[.pointer (some ⟨Bh, 0, none⟩), .pointer (some ⟨Bi, 0, none⟩)])
    (I : Nat → World → Prop) (Ix : Code → World → Prop) (hL : ∀ i W, I i W → HLay W hb sb vc T H u h ∧ W.cell? ⟨Bh, 0, none⟩ = some (.pointer (some ⟨hb, 0, none⟩)) ∧ W.cell? ⟨Bi, 0, none⟩ = some (.int .i64 id))
    (hI : ∀ i W W', I i W → Upd (fun k => k = W0.heap.size + 1) W W' → I i W')
    (hIx : ∀ c W W', Ix c W → Upd (fun k => k = W0.heap.size + 1) W W' → Ix c W') (h0 : I 0 W0) (q : Nat)
    (hassign : ∀ (L x : Nat) (W : World) (K : Act → World → Prop), K (wAct pt q a x) W → assign.wpIn (Fence.wide.inRound L) 7 Tryz.prog (Exit.then K (fun _ _ _ => False)) { tmps := a.tmps.setIfInBounds pt (.int .u64 (x : Int)), defers := [] } W)
    (hbody : ∀ (L : Nat) i (hi : i < ws.length) W, L = W0.heap.size + 1 → I i W → W0.heap.size + 2 ≤ W.heap.size → (∃ r, W.heap[L]? = some (.loop r)) → body.wpIn (Fence.wide.inRound L) 7 Tryz.prog (rndWay L W0.heap.size W (I (i + 1)) Ix) (wAct pt q a ws[i]) W)
    (hdone : ∀ W, I ws.length W → W.heap[W0.heap.size]? = some (.deferred (some [])) → Q .normal { a with defers := { target := .collected W0.heap.size, args := #[] } :: a.defers } W)
    (hstop : ∀ c W, Ix c W → W.heap[W0.heap.size]? = some (.deferred (some [])) → c.wp Tryz.prog Q { a with defers := { target := .collected W0.heap.size, args := #[] } :: a.defers } W) :
    (Code.rangeFunc g #[pt] assign body).wp Tryz.prog Q a W0 := by
  have hlen : (ws.map (fun w => (#[.int .u64 (w : Nat)] : Array Value))).length = ws.length := List.length_map ..
  refine iter_law (words_iter (hb := hb) (sb := sb) (vc := vc) (T := T) (u := u) (h := h) Bh Bi id ws hrow) eg_words hg I Ix hL hI hIx h0 (fun i => wAct pt q a (ws.getD i 0)) ?_ ?_ ?_ ?_ hstop
  · intro i hi; rw [List.getElem_map]; rfl
  · intro L i hi W K hK
    rw [List.getElem_map, zip_one]
    have hi' : i < ws.length := by rw [← hlen]; exact hi
    have e : ws.getD i 0 = ws[i] := by simp [hi']
    simp only [e] at hK
    exact hassign L ws[i] W K hK
  · intro L i hi W hLe hIi hs hr
    have hi' : i < ws.length := by rw [← hlen]; exact hi
    have e : ws.getD i 0 = ws[i] := by simp [hi']
    simp only [e]
    exact hbody L i hi' W hLe hIi hs hr
  · intro W hW hD
    rw [hlen] at hW
    exact hdone W hW hD
end
end Go.Proofs.YtgmimmdojkoppaaGreatDoor.W
/- Package heap: the pieces of n bytes: the iterator. -/
namespace Go.Proofs.YtgmimmdojkoppaaGreatDoor.W
open Go.ChangeShapes Go.WideShapes Go.RowKit Go.Shelf
set_option linter.unusedVariables false
/-- where the piece k of n bytes begins -/
def pieceO (n k : Nat) : Nat := if k ≤ n / 8 then 8 * k else 8 * (n / 8) + (k - n / 8)
/-- how many bytes it has -/
def pieceW (n k : Nat) : Nat := if k < n / 8 then 8 else 1
/-- how many pieces there are -/
def pieceN (n : Nat) : Nat := n / 8 + n % 8
theorem piece_next (n k : Nat) : pieceO n (k + 1) = pieceO n k + pieceW n k := by
  unfold pieceO pieceW
  by_cases h : k < n / 8
  · rw [if_pos (by omega), if_pos (by omega), if_pos h]; omega
  · by_cases h2 : k ≤ n / 8
    · rw [if_neg (by omega), if_pos h2, if_neg h]; omega
    · rw [if_neg (by omega), if_neg h2, if_neg h]; omega
theorem piece_end (n : Nat) : pieceO n (pieceN n) = n := by
  unfold pieceO pieceN
  by_cases h : n % 8 = 0
  · rw [if_pos (by omega)]; omega
  · rw [if_neg (by omega)]; omega
theorem piece_lt (n k : Nat) (h : k < pieceN n) : pieceO n k + pieceW n k ≤ n ∧ pieceO n k % pieceW n k = 0 := by
  unfold pieceO pieceW pieceN at *
  by_cases h1 : k < n / 8
  · rw [if_pos (by omega), if_pos h1]; omega
  · by_cases h2 : k ≤ n / 8
    · rw [if_pos h2, if_neg h1]; omega
    · rw [if_neg h2, if_neg h1]; omega
theorem piece_zero (n : Nat) : pieceO n 0 = 0 := by unfold pieceO; rw [if_pos (by omega)]
/-- the pieces, as they are told -/
def piecesV (n : Nat) : List (Array Value) := (List.range (pieceN n)).map (fun k => #[.int .i64 (pieceO n k : Nat), .int .i64 (pieceW n k : Nat)])
theorem pieces_c (W : World) (n : Nat) : Calls Tryz.prog 252 #[.int .i64 n] W fun e w' => e = .returned (.func (.func 283) #[] #[.pointer (some ⟨W.heap.size, 0, none⟩)]) ∧ w' = W.alloc (.cells #[.int .i64 n] 3) := by
  go_enter Tryz.func252, Tryz.ntmps252
  go_wp2
  go_ret
  exact ⟨rfl, rfl⟩
theorem pieces_iter (Bn nn : Nat) (hnn : nn ≤ 8388608) : Iter 283 #[.pointer (some ⟨Bn, 0, none⟩)] (piecesV nn) (fun _ W => W.cell? ⟨Bn, 0, none⟩ = some (.int .i64 nn)) := by
  intro n l J X hn hL hB hY W h0
  have hlen : (piecesV nn).length = pieceN nn := by unfold piecesV; rw [List.length_map, List.length_range]
  rw [hlen]
  have hY : ∀ i (hi : i < pieceN nn) W, J i W → YieldAt Fence.wide (n - 1) Tryz.prog l #[.int .i64 (pieceO nn i : Nat), .int .i64 (pieceW nn i : Nat)] W fun e W' => (e = .returned (.bool true) ∧ J (i + 1) W') ∨ (e = .returned (.bool false) ∧ X W') := by
    intro i hi W hJ
    have := hY i (by rw [hlen]; exact hi) W hJ
    unfold piecesV at this
    rw [List.getElem_map, List.getElem_range] at this
    exact this
  show CallsIn Fence.wide n Tryz.prog 283 #[.func (.yield l) #[] #[], .pointer (some ⟨Bn, 0, none⟩)] W fun e W' => (∃ v, e = .returned v) ∧ (J (pieceN nn) W' ∨ X W')
  refine callsIn_of_wp Tryz.func283 rfl trivial ?_ rfl
  simp only [Tryz.ntmps283, List.size_toArray, List.length_cons, List.length_nil, Nat.reduceAdd, Nat.reduceSub, Array.replicate_succ, Array.replicate_zero, List.push_toArray, List.append_toArray, List.nil_append, List.cons_append]
  gi_wp2
  gi_loopw [3, 4] (fun wd off wr => ∃ i o v : Nat, i ≤ pieceN nn ∧ o = pieceO nn i ∧ v = (if i ≤ nn / 8 then 8 else 1) ∧ off = .int .i64 o ∧ wd = .int .i64 v ∧ J i wr) (fun _ off _ => nn - (intOf off).toNat)
  case atStart => exact ⟨0, 0, 8, Nat.zero_le _, (piece_zero nn).symm, by rw [if_pos (Nat.zero_le _)], rfl, rfl, h0⟩
  case round =>
    obtain ⟨i, o, v, hi, ho, hv, rfl, rfl, hJi⟩ := hrel
    have cn := hL i wr hJi
    have HO := hid ho
    have HV := hid hv
    by_cases hlt : i < pieceN nn
    · have hp := piece_lt nn i hlt
      have hnx := piece_next nn i
      have hw1 : pieceW nn i = 8 ∨ pieceW nn i = 1 := by unfold pieceW; split <;> simp
      have o1 : (o : Int) < nn := by omega
      have v8 : v = 8 ∨ v = 1 := by rw [hv]; split <;> simp
      have a1 : IntKind.i64.wrap ((o : Int) + (v : Int)) = (o : Int) + (v : Int) := by rw [IntKind.wrap_i64]; omega
      have hvn : (if i + 1 ≤ nn / 8 then 8 else 1) = pieceW nn i := by
        unfold pieceW
        by_cases c : i < nn / 8
        · rw [if_pos (by omega), if_pos c]
        · rw [if_neg (by omega), if_neg c]
      have HVN := hid hvn
      have HP := hid hp
      obtain ⟨fn, tmps, assign, body, hy, hR⟩ := hY i hlt wr hJi
      rw [← ho] at hy
      have HX := hid hnx
      clear hY hL hB hJi hp hnx hvn ho hv
      by_cases hbig : o + v > nn
      · have hw : pieceW nn i = 1 := by
          have h1 := HO.out
          have h2 := HV.out
          have h3 := HP.out
          rcases hw1 with e | e
          · rw [← h1, e] at h3
            rcases v8 with e2 | e2 <;> omega
          · exact e
        have g1 : (o : Int) + (v : Int) > nn := by omega
        have a2 : IntKind.i64.wrap ((o : Int) + 1) = (o : Int) + 1 := by rw [IntKind.wrap_i64]; omega
        rw [hw, show ((1 : Nat) : Int) = 1 from rfl] at hy
        gi_wp2
        refine hR.mono ?_
        rintro e W3 (⟨rfl, hK3⟩ | ⟨rfl, hX3⟩)
        · clear hy hR
          gi_wp2
          go_roundw
          case rel => exact ⟨i + 1, o + 1, 1, hlt, by have := HX.out; rw [hw] at this; have := HO.out; omega, by have := HVN.out; omega, by go_num, rfl, hK3⟩
          case measure => show nn - (o + 1 : Int).toNat < nn - (o : Int).toNat; omega
        · clear hy hR
          gi_wp2
          refine bodyPost_ret (results_none rfl _ _ _) rfl ?_
          exact ⟨⟨_, rfl⟩, .inr hX3⟩
      · have hw : pieceW nn i = v := by
          have h1 := HO.out
          have h2 := HV.out
          have h3 := HP.out
          unfold pieceO at h1
          unfold pieceW
          by_cases c : i < nn / 8
          · rw [if_pos c]; rw [if_pos (by omega)] at h2; omega
          · rw [if_neg c]
            by_cases d : i ≤ nn / 8
            · rw [if_pos d] at h1 h2; omega
            · rw [if_neg d] at h2; omega
        have g1 : ¬ (o : Int) + (v : Int) > nn := by omega
        rw [hw] at hy
        gi_wp2
        refine hR.mono ?_
        rintro e W3 (⟨rfl, hK3⟩ | ⟨rfl, hX3⟩)
        · clear hy hR
          gi_wp2
          go_roundw
          case rel => exact ⟨i + 1, o + v, v, hlt, by have := HX.out; rw [hw] at this; have := HO.out; omega, by have := HVN.out; omega, by go_num, rfl, hK3⟩
          case measure => show nn - (o + v : Int).toNat < nn - (o : Int).toNat; omega
        · clear hy hR
          gi_wp2
          refine bodyPost_ret (results_none rfl _ _ _) rfl ?_
          exact ⟨⟨_, rfl⟩, .inr hX3⟩
    · have he : i = pieceN nn := by omega
      have o1 : ¬ (o : Int) < nn := by have := piece_end nn; rw [he] at ho; omega
      rw [he] at hJi
      clear hY hL hB ho hv
      gi_wp2
      go_end0
      exact ⟨⟨_, rfl⟩, .inl hJi⟩
end Go.Proofs.YtgmimmdojkoppaaGreatDoor.W
/- A range over an iterator that passes some by. -/
namespace Go.Proofs.YtgmimmdojkoppaaGreatDoor.W
open Go.ChangeShapes Go.WideShapes Go.RowKit Go.Shelf
set_option linter.unusedVariables false
/-- the function gf, with lb captured, tells val k for each k below n that is of P, as long as it is asked, where G holds -/
def IterP (gf : Nat) (lb : Array Value) (n : Nat) (P : Nat → Bool) (val : Nat → Array Value) (G : Nat → World → Prop) : Prop :=
  ∀ (m l : Nat) (J : Nat → World → Prop) (X : World → Prop), 1 ≤ m → (∀ i W, J i W → G i W) → (∀ i W W', J i W → Below W.heap.size W W' → J i W') → (∀ i W, i < n → P i = false → J i W → J (i + 1) W) →
    (∀ i (hi : i < n) W, P i = true → J i W → YieldAt Fence.wide (m - 1) Tryz.prog l (val i) W fun e W' => (e = .returned (.bool true) ∧ J (i + 1) W') ∨ (e = .returned (.bool false) ∧ X W')) →
    ∀ W, J 0 W → CallsIn Fence.wide m Tryz.prog gf (#[.func (.yield l) #[] #[]] ++ lb) W fun e W' => (∃ v, e = .returned v) ∧ (J n W' ∨ X W')
theorem iterP_law {gf : Nat} {lb : Array Value} {n : Nat} {P : Nat → Bool} {val : Nat → Array Value} {G : Nat → World → Prop} (hit : IterP gf lb n P val G) (eg : ∀ args w, (callFunc gf args).run Tryz.prog w = .ok (.enter gf args) w)
    {g : Operand} {ps : Array Tmp} {assign body : Code} {Q : Exit → Act → World → Prop} {a : Act} {W0 : World} (hg : a.eval g = .func (.func gf) #[] lb)
    (I : Nat → World → Prop) (Ix : Code → World → Prop) (hL : ∀ i W, I i W → G i W)
    (hI : ∀ i W W', I i W → Upd (fun k => k = W0.heap.size + 1) W W' → I i W')
    (hIx : ∀ c W W', Ix c W → Upd (fun k => k = W0.heap.size + 1) W W' → Ix c W') (h0 : I 0 W0)
    (hskip : ∀ i W, i < n → P i = false → I i W → I (i + 1) W) (A : Nat → Act) (hsz : ∀ i, (val i).size = ps.size)
    (hassign : ∀ (L i : Nat) (W : World) (K : Act → World → Prop), K (A i) W → assign.wpIn (Fence.wide.inRound L) 7 Tryz.prog (Exit.then K (fun _ _ _ => False)) { tmps := (ps.zip (val i)).foldl (fun t (p, v) => t.setIfInBounds p v) a.tmps, defers := [] } W)
    (hbody : ∀ (L : Nat) i (hi : i < n) W, P i = true → L = W0.heap.size + 1 → I i W → W0.heap.size + 2 ≤ W.heap.size → (∃ r, W.heap[L]? = some (.loop r)) → body.wpIn (Fence.wide.inRound L) 7 Tryz.prog (rndWay L W0.heap.size W (I (i + 1)) Ix) (A i) W)
    (hdone : ∀ W, I n W → W.heap[W0.heap.size]? = some (.deferred (some [])) → Q .normal { a with defers := { target := .collected W0.heap.size, args := #[] } :: a.defers } W)
    (hstop : ∀ c W, Ix c W → W.heap[W0.heap.size]? = some (.deferred (some [])) → c.wp Tryz.prog Q { a with defers := { target := .collected W0.heap.size, args := #[] } :: a.defers } W) :
    (Code.rangeFunc g ps assign body).wp Tryz.prog Q a W0 := by
  have hUL : ∀ (W : World) (o : Obj), Upd (fun k => k = W0.heap.size + 1) W (W.putObj (W0.heap.size + 1) o) := fun W o => upd_put (S := fun k => k = W0.heap.size + 1) (L := W0.heap.size + 1) rfl o
  refine (wpIn_wide (n := 9)).1 (rf_law hg eg (fun W => I n W) Ix ?_ ?_ ?_)
  · intro r W1 hr1 hr2 hr3 hr4 hr5 hr6 hW1 hL1
    have hI1 : I 0 W1 := by
      refine hI 0 W0 W1 h0 ?_
      rw [hW1]; exact ((Upd.refl _ W0).alloc _).alloc _
    have hsz1 : W0.heap.size + 2 ≤ W1.heap.size := by rw [hW1]; simp
    have key := hit 8 (W0.heap.size + 1)
      (fun i W => I i W ∧ LoopAt W (W0.heap.size + 1) W0.heap.size r ∧ W0.heap.size + 2 ≤ W.heap.size)
      (fun W => ∃ c, Ix c W ∧ LoopAt W (W0.heap.size + 1) W0.heap.size { r with state := .done, pending := some c })
      (by omega) (fun i W h => hL i W h.1) ?_ (fun i W hi hp h => ⟨hskip i W hi hp h.1, h.2⟩) ?_ W1 ⟨hI1, hL1, hsz1⟩
    · refine key.mono ?_
      rintro e W3 ⟨hv, ⟨h1, h2, _⟩ | ⟨c, h1, h2⟩⟩
      · exact ⟨hv, .inl ⟨h1, r, h2, by rw [hr1]; simp, hr2⟩⟩
      · exact ⟨hv, .inr ⟨c, h1, _, h2, by simp, rfl⟩⟩
    · rintro i W W' ⟨h1, h2, h3⟩ hb
      exact ⟨hI i W W' h1 (Upd.of_below hb), h2.kept (hb.block _ (by omega)) (hb.block _ (by omega)), by have := hb.size; omega⟩
    · rintro i hi W hP ⟨hi1, hl1, hs1⟩
      have hargs : (val i).size = r.params.size := by rw [hr4]; exact hsz i
      refine YieldAt.mono (yield_law (Rn := fun W' => I (i + 1) W' ∧ LoopAt W' (W0.heap.size + 1) W0.heap.size r ∧ W0.heap.size + 2 ≤ W'.heap.size) (Rx := fun c W' => Ix c W' ∧ LoopAt W' (W0.heap.size + 1) W0.heap.size { r with state := .done, pending := some c }) hl1 hr1 hargs (A i) ?_ ?_) ?_
      · intro K hK
        rw [hr5, hr4, hr3]
        exact hassign _ i W K hK
      · intro W2 hW2 hl2
        have hI2 : I i W2 := by rw [hW2]; exact hI i W _ hi1 (hUL W _)
        have hs2 : W0.heap.size + 2 ≤ W2.heap.size := by rw [hW2]; simpa using hs1
        have hbd := hbody _ i hi W2 hP rfl hI2 hs2 ⟨_, hl2.lp⟩
        rw [← hr6] at hbd
        refine wpIn_mono hbd ?_
        intro e a3 W3 hp
        have put : ∀ q : Loop, (W3.heap[W0.heap.size + 1]? = W2.heap[W0.heap.size + 1]? ∧ W3.heap[W0.heap.size]? = W2.heap[W0.heap.size]?) → LoopAt W3 (W0.heap.size + 1) W0.heap.size { r with state := .busy } ∧ LoopAt (W3.putObj (W0.heap.size + 1) (.loop q)) (W0.heap.size + 1) W0.heap.size q ∧ W0.heap.size + 2 ≤ (W3.putObj (W0.heap.size + 1) (.loop q)).heap.size := by
          rintro q ⟨e1, e2⟩
          have hl3 := hl2.kept e1 e2
          refine ⟨hl3, hl3.put q, ?_⟩
          have := (Array.getElem?_eq_some_iff.1 hl3.lp).1
          simp; omega
        cases e with
        | normal =>
          obtain ⟨hk, hin⟩ := hp
          obtain ⟨p1, p2, p4⟩ := put { r with state := .ready, pending := none } hk
          have er : ({ r with state := .ready, pending := none } : Loop) = r := by cases r; simp_all
          refine ⟨p1, hI _ W3 _ hin (hUL W3 _), ?_, p4⟩
          rw [er] at p2 ⊢
          exact p2
        | ret =>
          obtain ⟨hk, hin⟩ := hp
          obtain ⟨p1, p2, p4⟩ := put { r with state := .done, pending := some .ret } hk
          exact ⟨p1, hIx _ W3 _ hin (hUL W3 _), p2⟩
        | exit id =>
          obtain ⟨hk, hin⟩ := hp
          obtain ⟨p1, p2, p4⟩ := put { r with state := .done, pending := some (.exit id) } hk
          exact ⟨p1, hIx _ W3 _ hin (hUL W3 _), p2⟩
        | goto t => exact hp.elim
        | panic ch => exact hp.elim
        | outgrown => exact hp.elim
      · rintro e W' (⟨rfl, h1⟩ | ⟨rfl, c, h1⟩)
        · exact .inl ⟨rfl, h1⟩
        · exact .inr ⟨rfl, c, h1⟩
  · intro W3 q hd hl
    exact hdone _ (hI _ W3 _ hd (hUL W3 _)) hl.defs
  · intro W3 q c hs hl
    exact wpIn_wide.2 (hstop c _ (hIx _ W3 _ hs (hUL W3 _)) hl.defs)
end Go.Proofs.YtgmimmdojkoppaaGreatDoor.W
/- Package heap: live; a cell that is let go. -/
namespace Go.Proofs.YtgmimmdojkoppaaGreatDoor.W
open Go.ChangeShapes Go.WideShapes Go.RowKit Go.Shelf
set_option linter.unusedVariables false
theorem live_c (W : World) (hb : Nat) : Calls Tryz.prog 176 #[.pointer (some ⟨hb, 0, none⟩)] W fun e w' => e = .returned (.func (.func 214) #[] #[.pointer (some ⟨W.heap.size, 0, none⟩)]) ∧ w' = W.alloc (.cells #[.pointer (some ⟨hb, 0, none⟩)] 23) := by
  go_enter Tryz.func176, Tryz.ntmps176
  go_wp2
  go_ret
  exact ⟨rfl, rfl⟩
theorem eg_live : ∀ args w, (callFunc 214 args).run Tryz.prog w = .ok (.enter 214 args) w := enters_of Tryz.func214 (by kernel_rfl) rfl
set_option maxHeartbeats 1000000 in
theorem live_iter (Bh hb n : Nat) (P : Nat → Bool) :
    IterP 214 #[.pointer (some ⟨Bh, 0, none⟩)] n P (fun k => #[.int .i64 (k : Nat)]) (fun i W => W.cell? ⟨Bh, 0, none⟩ = some (.pointer (some ⟨hb, 0, none⟩)) ∧ ∃ sb vc T H u h, HLay W hb sb vc T H u h ∧ H.length = n ∧ ∀ k, i ≤ k → k < n → ((H[k]?).getD none).isSome = P k) := by
  intro m l J X hm hL hB hS hY W h0
  show CallsIn Fence.wide m Tryz.prog 214 #[.func (.yield l) #[] #[], .pointer (some ⟨Bh, 0, none⟩)] W _
  have hn : n ≤ 1048576 := by
    obtain ⟨_, sb, vc, T, H, u, h, g, e, _⟩ := hL 0 W h0
    have := g.len
    omega
  refine callsIn_of_wp Tryz.func214 rfl trivial ?_ rfl
  simp only [Tryz.ntmps214, List.size_toArray, List.length_cons, List.length_nil, Nat.reduceAdd, Nat.reduceSub, Array.replicate_succ, Array.replicate_zero, List.push_toArray, List.append_toArray, List.nil_append, List.cons_append]
  gi_wp2
  gi_loopw [3] (fun ii wr => ∃ k : Nat, k ≤ n ∧ ii = .int .i64 k ∧ J k wr) (fun ii _ => n - (intOf ii).toNat)
  case atStart => exact ⟨0, Nat.zero_le _, rfl, h0⟩
  case round =>
    obtain ⟨k, hk, rfl, hJ⟩ := hrel
    obtain ⟨cB, sb, vc, T, H, u, h, g, hlen, hP⟩ := hL k wr hJ
    have c1 := g.cell 1
    simp only [List.getElem?_cons_succ, List.getElem?_cons_zero] at c1
    have k0 : (0 : Int) ≤ k := by omega
    have w1 : IntKind.i64.wrap ((k : Int) + 1) = (k : Int) + 1 := by rw [IntKind.wrap_i64]; omega
    by_cases hlt : k < n
    · have k1 : (k : Int) < H.length := by omega
      obtain ⟨b, cap, hvc, hcell, _⟩ := g.at (i := k) (by omega)
      have hget : H[k]? = some H[k] := List.getElem?_eq_getElem (by omega)
      have hc := hcell 0 H[k] hget (by omega)
      have hPk := hP k (Nat.le_refl _) hlt
      rw [hget] at hPk
      simp only [Option.getD_some] at hPk
      rw [hvc] at c1
      cases hx : H[k] with
      | none =>
        rw [hx] at hc hPk
        simp only [clO, Cl.cells, List.getElem?_cons_zero, Nat.add_zero] at hc
        have hJ2 := hid (hS k wr hlt (by rw [← hPk]; rfl) hJ)
        clear hY hL hB hS hP hcell hPk hx hget g hJ
        gi_wp2
        refine ⟨(fun f hf => by cases hf), ?_⟩
        gi_wp2
        go_roundw
        case rel => exact ⟨k + 1, by omega, by go_num, hJ2.out⟩
        case measure => show n - (k + 1 : Int).toNat < n - (k : Int).toNat; omega
      | some c =>
        rw [hx] at hc hPk
        simp only [clO, Cl.cells, List.getElem?_cons_zero, Nat.add_zero] at hc
        have hk0 := Hc.kind_ne (g.ok k c (by rw [hget, hx]))
        obtain ⟨fn, tmps, assign, body, hy, hR⟩ := hY k hlt wr (by rw [← hPk]; rfl) hJ
        have d2 : (c.cl.kind == 0) = false := by simpa using hk0
        clear hL hB hS hP hcell hPk hx hget g hJ hY
        gi_wp2
        refine hR.mono ?_
        rintro e W3 (⟨rfl, hK3⟩ | ⟨rfl, hX3⟩)
        · clear hy hR
          gi_wp2
          go_roundw
          case rel => exact ⟨k + 1, by omega, by go_num, hK3⟩
          case measure => show n - (k + 1 : Int).toNat < n - (k : Int).toNat; omega
        · clear hy hR
          gi_wp2
          refine bodyPost_ret (results_none rfl _ _ _) rfl ?_
          exact ⟨⟨_, rfl⟩, .inr hX3⟩
    · have he : k = n := by omega
      subst he
      have k1 : ¬ (k : Int) < H.length := by omega
      obtain ⟨o, cap, hvc⟩ := g.sl
      rw [hvc] at c1
      have HJ := hid hJ
      clear hY hL hB hS hP g hJ
      gi_wp2
      go_end0
      exact ⟨⟨_, rfl⟩, .inl HJ.out⟩
/-- five cells of the table are written -/
theorem flatC_cons (a : Option Hc) (H : List (Option Hc)) : flatC (a :: H) = (clO a).cells ++ flatC H := by simp [flatC]
theorem flatC_five (H : List (Option Hc)) (k : Nat) (c' : Option Hc) (hk : k < H.length) : (((((flatC H).set (k * 5) (.int .i64 (clO c').kind)).set (k * 5 + 1) (.bool (clO c').view)).set (k * 5 + 2) (.int .u64 (clO c').base)).set (k * 5 + 3) (.int .i64 (clO c').frm)).set (k * 5 + 4) (.int .i64 (clO c').len) = flatC (H.set k c') := by
  induction H generalizing k with
  | nil => simp at hk
  | cons a H ih =>
    cases k with
    | zero =>
      rw [List.set_cons_zero, flatC_cons, flatC_cons]
      simp [Cl.cells]
    | succ k =>
      have h5 : ∀ (l : List Value) (j : Nat) (v : Value), ((clO a).cells ++ l).set ((k + 1) * 5 + j) v = (clO a).cells ++ l.set (k * 5 + j) v := by
        intro l j v
        rw [List.set_append_right _ _ (by rw [Cl.cells_len]; omega), Cl.cells_len]
        congr 2
        omega
      have h50 : ∀ (l : List Value) (v : Value), ((clO a).cells ++ l).set ((k + 1) * 5) v = (clO a).cells ++ l.set (k * 5) v := fun l v => h5 l 0 v
      rw [List.set_cons_succ, flatC_cons, flatC_cons, h50, h5, h5, h5, h5, ih k (by simpa using hk)]
section
variable {W W' : World} {hb sb : Nat} {vc : Value} {T : Nat → Prop} {H : List (Option Hc)} {u h : Nat}
theorem HLay.gave (g : HLay W hb sb vc T H u h) (k : Nat) (hk : k < H.length) (hU : Upd T W W') (hS : St W' (Nx T W W') sb ((hA H).set k none) 8388608 1048577) {b cap : Nat} (hvc : vc = .slice (some ⟨b, 0, none⟩) H.length cap) :
    HLay (((((W'.setCell ⟨b, k * 5, none⟩ (.int .i64 0)).setCell ⟨b, k * 5 + 1, none⟩ (.bool false)).setCell ⟨b, k * 5 + 2, none⟩ (.int .u64 0)).setCell ⟨b, k * 5 + 3, none⟩ (.int .i64 0)).setCell ⟨b, k * 5 + 4, none⟩ (.int .i64 0)) hb sb vc (Nx T W W') (H.set k none) u h ∧
    Upd (fun x => T x ∨ x = b) W (((((W'.setCell ⟨b, k * 5, none⟩ (.int .i64 0)).setCell ⟨b, k * 5 + 1, none⟩ (.bool false)).setCell ⟨b, k * 5 + 2, none⟩ (.int .u64 0)).setCell ⟨b, k * 5 + 3, none⟩ (.int .i64 0)).setCell ⟨b, k * 5 + 4, none⟩ (.int .i64 0)) := by
  subst hvc
  have hbT := g.tvc b rfl
  have hbl := g.clt b rfl
  have hbh : b ≠ hb := by
    rintro rfl
    exact own_ne g.own g.obj (by decide) rfl
  have o0 : W'.ownsRow 0 158 5 (.slice (some ⟨b, 0, none⟩) H.length cap) H.length (flatC H) := owns_on g.own (fun k e => by cases e; exact hU.block b hbl hbT)
  have o1 := (o0.stored (k * 5) (.int .i64 0)).1
  have o2 := (o1.stored (k * 5 + 1) (.bool false)).1
  have o3 := (o2.stored (k * 5 + 2) (.int .u64 0)).1
  have o4 := (o3.stored (k * 5 + 3) (.int .i64 0)).1
  have o5 := (o4.stored (k * 5 + 4) (.int .i64 0)).1
  have e5 := flatC_five H k none hk
  simp only [clO] at e5
  rw [show ((0 : Nat) : Int) = 0 from rfl] at e5
  rw [e5] at o5
  have hx : ∀ x : Nat, x ≠ b → (((((W'.setCell ⟨b, k * 5, none⟩ (.int .i64 0)).setCell ⟨b, k * 5 + 1, none⟩ (.bool false)).setCell ⟨b, k * 5 + 2, none⟩ (.int .u64 0)).setCell ⟨b, k * 5 + 3, none⟩ (.int .i64 0)).setCell ⟨b, k * 5 + 4, none⟩ (.int .i64 0)).heap[x]? = W'.heap[x]? := by
    intro x hne
    rw [Below.heap_setCell _ _ _ _ hne, Below.heap_setCell _ _ _ _ hne, Below.heap_setCell _ _ _ _ hne, Below.heap_setCell _ _ _ _ hne, Below.heap_setCell _ _ _ _ hne]
  have hz : (((((W'.setCell ⟨b, k * 5, none⟩ (.int .i64 0)).setCell ⟨b, k * 5 + 1, none⟩ (.bool false)).setCell ⟨b, k * 5 + 2, none⟩ (.int .u64 0)).setCell ⟨b, k * 5 + 3, none⟩ (.int .i64 0)).setCell ⟨b, k * 5 + 4, none⟩ (.int .i64 0)).heap.size = W'.heap.size := by simp [World.setCell]
  have hNb : ¬ Nx T W W' b := by
    rintro (e | e)
    · exact hbT e
    · omega
  refine ⟨⟨?_, ?_, ?_, ?_, ?_, ?_, ?_, ?_, g.u1, g.h1⟩, ?_⟩
  · rw [hx hb (Ne.symm hbh), hU.block hb g.hlt g.thb]
    exact g.obj
  · rw [List.length_set]; exact o5
  · rw [← hA_set]
    exact hS.on (fun x e => hx x (by rintro rfl; exact hNb e))
  · rintro x (e | e)
    · rw [hz]; exact Nat.lt_of_lt_of_le (g.tlt x e) hU.size
    · rw [hz]; exact e.2
  · rintro (e | e)
    · exact g.thb e
    · have := g.hlt; omega
  · intro x e
    cases e
    exact hNb
  · intro i c e
    by_cases hik : i = k
    · subst hik
      rw [List.getElem?_set_self hk] at e
      cases e
    · rw [List.getElem?_set_ne (Ne.symm hik)] at e
      exact g.ok i c e
  · rw [List.length_set]; exact g.len
  · have hU' : Upd (fun x => T x ∨ x = b) W W' := hU.mono (fun x e => .inl e)
    exact ((((hU'.setCell (p := ⟨b, k * 5, none⟩) (.inl (.inr rfl)) _).setCell (p := ⟨b, k * 5 + 1, none⟩) (.inl (.inr rfl)) _).setCell (p := ⟨b, k * 5 + 2, none⟩) (.inl (.inr rfl)) _).setCell (p := ⟨b, k * 5 + 3, none⟩) (.inl (.inr rfl)) _).setCell (p := ⟨b, k * 5 + 4, none⟩) (.inl (.inr rfl)) _
end
end Go.Proofs.YtgmimmdojkoppaaGreatDoor.W
/- A row of one's own beside a store grows by append, and is written. -/
namespace Go.Proofs.YtgmimmdojkoppaaGreatDoor.W
open Go.ChangeShapes Go.WideShapes Go.RowKit Go.Shelf
set_option linter.unusedVariables false
section
variable {W : World} {sb : Nat} {A : List (Option (List Nat))} {B : Nat} {v : Value} {n : Nat} {xs : List Value}
theorem owns_base {b b' : Nat} {e : TypeId} {size : Nat} (h : W.ownsRow b e size v n xs) (hb : ∀ g, v.ownBlock = some g → b' ≤ g) : W.ownsRow b' e size v n xs := by
  refine ⟨h.1, ?_⟩
  rcases h.2 with hn | ⟨g, cap, cur, rfl, _, rest⟩
  · exact .inl hn
  · exact .inr ⟨g, cap, cur, rfl, hb g rfl, rest⟩
theorem under34 : Tryz.prog.underlying 70 = some (.slice 3) := by kernel_rfl
end
end Go.Proofs.YtgmimmdojkoppaaGreatDoor.W
/- StoreFills: the row of lengths, written; the store beside it. -/
namespace Go.Proofs.YtgmimmdojkoppaaGreatDoor.W
open Go.ChangeShapes Go.WideShapes Go.RowKit Go.Shelf
set_option linter.unusedVariables false
section
variable {W : World} {sb : Nat} {A : List (Option (List Nat))} {B : Nat} {v : Value} {n : Nat} {xs : List Value}
end
end Go.Proofs.YtgmimmdojkoppaaGreatDoor.W
/- Package heap: the table of cells alone: it grows, a cell is written; what is put. -/
namespace Go.Proofs.YtgmimmdojkoppaaGreatDoor.W
open Go.ChangeShapes Go.WideShapes Go.RowKit Go.Shelf
set_option linter.unusedVariables false
/-- the table: a heap but for its store -/
structure HTab (W : World) (hb sb : Nat) (vc : Value) (C : List (Option Hc)) (u h : Nat) : Prop where
  obj : W.heap[hb]? = some (.cells [.pointer (some ⟨sb, 0, none⟩), vc, .int .i64 u, .int .i64 h].toArray 45 (0, 0))
  own : W.ownsRow 0 158 5 vc C.length (flatC C)
/-- a cell is put -/
def putH (H : List (Option Hc)) (id : Nat) (x : Option Hc) : List (Option Hc) := if id < H.length then H.set id x else H ++ [x]
theorem hA_put (H : List (Option Hc)) (id : Nat) (c : Hc) : hA (putH H id (some c)) = putA (hA H) id (some c.bytes) := by
  unfold putH putA
  rw [hA_len]
  split
  · rw [← hA_set]; rfl
  · rw [hA_snoc]; rfl
theorem infoC : (Tryz.prog.info? 158).map (fun i => (i.zero, i.size, i.bytes)) = some (some (.agg #[.int .i64 0, .bool false, .int .u64 0, .int .i64 0, .int .i64 0]), 5, 40) := by kernel_rfl
theorem underC : Tryz.prog.underlying 43 = some (.slice 158) := by kernel_rfl
theorem flatC_snoc (H : List (Option Hc)) (c : Option Hc) : flatC (H ++ [c]) = flatC H ++ (clO c).cells := by simp [flatC]
section
variable {W W' : World} {hb sb : Nat} {vc : Value} {T : Nat → Prop} {H : List (Option Hc)} {u h : Nat}
theorem HLay.tab (g : HLay W hb sb vc T H u h) : HTab W hb sb vc H u h := ⟨g.obj, g.own⟩
theorem HTab.kept (g : HTab W hb sb vc H u h) (h0 : W'.heap[hb]? = W.heap[hb]?) (h1 : ∀ k, vc.ownBlock = some k → W'.heap[k]? = W.heap[k]?) : HTab W' hb sb vc H u h := ⟨h0.trans g.obj, owns_on g.own h1⟩
theorem HTab.hlt (g : HTab W hb sb vc H u h) : hb < W.heap.size := (Array.getElem?_eq_some_iff.1 g.obj).1
theorem HTab.cell (g : HTab W hb sb vc H u h) (j : Nat) : W.cell? ⟨hb, j, none⟩ = [Value.pointer (some ⟨sb, 0, none⟩), vc, .int .i64 u, .int .i64 h][j]? := by
  rw [cell_of_row W hb j _ _ (0, 0) g.obj]; simp
theorem HTab.ne (g : HTab W hb sb vc H u h) : vc.ownBlock ≠ some hb := (own_ne g.own g.obj (by decide)).symm
/-- one cell more -/
theorem HTab.grow (g : HTab W hb sb vc H u h) (hl : H.length ≤ 1048576) (ty : TypeId) :
    ∃ v' w', (Builtin.append_ #[43, 43] ty #[vc, .slice (some ⟨W.heap.size, 0, none⟩) 1 1]).run Tryz.prog (W.alloc (.cells #[.int .i64 0, .bool false, .int .u64 0, .int .i64 0, .int .i64 0] 158)) = .ok v' w' ∧ w'.cell? ⟨hb, 1, none⟩ = some vc ∧ w'.frozen? ⟨hb, 1, none⟩ = false ∧ HTab (w'.setCell ⟨hb, 1, none⟩ v') hb sb v' (H ++ [none]) u h ∧ Upd (fun k => k = hb ∨ vc.ownBlock = some k) W (w'.setCell ⟨hb, 1, none⟩ v') ∧ ∀ k, v'.ownBlock = some k → vc.ownBlock = some k ∨ W.heap.size ≤ k := by
  obtain ⟨i0, hi, hz0, hz1, hz2⟩ := info_parts infoC
  have hBa : Below W.heap.size W (W.alloc (.cells #[.int .i64 0, .bool false, .int .u64 0, .int .i64 0, .int .i64 0] 158)) := (Below.refl _ W).alloc (Nat.le_refl _) _
  have ga : HTab (W.alloc (.cells #[.int .i64 0, .bool false, .int .u64 0, .int .i64 0, .int .i64 0] 158)) hb sb vc H u h := g.kept (hBa.block _ g.hlt) (fun k e => hBa.block k (g.own.lt k e).2)
  have hnews : ∀ j v, (clO none).cells[j]? = some v → (W.alloc (.cells #[.int .i64 0, .bool false, .int .u64 0, .int .i64 0, .int .i64 0] 158)).cell? ((⟨W.heap.size, 0, none⟩ : Addr).add j) = some v := by
    intro j v hj
    have e : (⟨W.heap.size, 0, none⟩ : Addr).add j = ⟨W.heap.size, j, none⟩ := by unfold Addr.add; split <;> simp_all
    rw [e, World.cell?_alloc_new]
    simpa [clO, Cl.cells] using hj
  have ho1 : ∀ v ∈ (clO none).cells, v.oneCell' = true := by
    intro v hv
    simp [clO, Cl.cells] at hv
    rcases hv with rfl | rfl | rfl | rfl <;> rfl
  obtain ⟨v', w', hrun, hown, hgr, hnew⟩ := append_at (P := Tryz.prog) (W.alloc (.cells #[.int .i64 0, .bool false, .int .u64 0, .int .i64 0, .int .i64 0] 158)) 43 ty 158 i0 _ 5 40 underC hi hz0 hz1 hz2 rfl (by decide) vc H.length (flatC H) ga.own ⟨W.heap.size, 0, none⟩ 1 1 (clO none).cells rfl hnews ho1 (by decide) (by decide) (by omega)
  have hU : Upd (fun k => k = hb ∨ vc.ownBlock = some k) W w' := ((Upd.refl _ W).alloc _).trans' (((Upd.refl (fun k => k = hb ∨ vc.ownBlock = some k) _)).grown hgr (fun k e => .inl (.inr e)))
  have hob : w'.heap[hb]? = W.heap[hb]? := (hgr.block hb ga.hlt (fun e => ga.ne e.symm)).trans (hBa.block _ g.hlt)
  have hob' : w'.heap[hb]? = some (.cells [.pointer (some ⟨sb, 0, none⟩), vc, .int .i64 u, .int .i64 h].toArray 45 (0, 0)) := hob.trans g.obj
  have hv' : v'.ownBlock ≠ some hb := (own_ne hown hob' (by decide)).symm
  refine ⟨v', w', hrun, ?_, ?_, ⟨?_, ?_⟩, hU.setCell (p := ⟨hb, 1, none⟩) (.inl (.inl rfl)) _, ?_⟩
  · rw [World.cell?_of_block hob, g.cell 1]; rfl
  · rw [World.frozen?_of_block hob]; simp [World.frozen?, g.obj]
  · exact heap_set (b := hb) hob' 1 v'
  · rw [flatC_snoc, List.length_append]
    refine owns_on hown (fun k e => Below.heap_setCell _ _ _ _ ?_)
    rintro rfl
    exact hv' e
  · intro k e
    rcases hnew k e with e | e
    · exact .inl e
    · right; have := e.1; rw [World.size_alloc] at this; omega
/-- a cell is written -/
theorem HTab.write {b cap : Nat} (g : HTab W hb sb (.slice (some ⟨b, 0, none⟩) H.length cap) H u h) (k : Nat) (hk : k < H.length) (c : Option Hc) :
    HTab (((((W.setCell ⟨b, k * 5, none⟩ (.int .i64 (clO c).kind)).setCell ⟨b, k * 5 + 1, none⟩ (.bool (clO c).view)).setCell ⟨b, k * 5 + 2, none⟩ (.int .u64 (clO c).base)).setCell ⟨b, k * 5 + 3, none⟩ (.int .i64 (clO c).frm)).setCell ⟨b, k * 5 + 4, none⟩ (.int .i64 (clO c).len)) hb sb (.slice (some ⟨b, 0, none⟩) H.length cap) (H.set k c) u h ∧
    Upd (fun x => x = b) W (((((W.setCell ⟨b, k * 5, none⟩ (.int .i64 (clO c).kind)).setCell ⟨b, k * 5 + 1, none⟩ (.bool (clO c).view)).setCell ⟨b, k * 5 + 2, none⟩ (.int .u64 (clO c).base)).setCell ⟨b, k * 5 + 3, none⟩ (.int .i64 (clO c).frm)).setCell ⟨b, k * 5 + 4, none⟩ (.int .i64 (clO c).len)) := by
  have hne : hb ≠ b := by rintro rfl; exact g.ne rfl
  have o1 := (g.own.stored (k * 5) (.int .i64 (clO c).kind)).1
  have o2 := (o1.stored (k * 5 + 1) (.bool (clO c).view)).1
  have o3 := (o2.stored (k * 5 + 2) (.int .u64 (clO c).base)).1
  have o4 := (o3.stored (k * 5 + 3) (.int .i64 (clO c).frm)).1
  have o5 := (o4.stored (k * 5 + 4) (.int .i64 (clO c).len)).1
  rw [flatC_five H k c hk] at o5
  refine ⟨⟨?_, by rw [List.length_set]; exact o5⟩, ?_⟩
  · rw [Below.heap_setCell _ _ _ _ hne, Below.heap_setCell _ _ _ _ hne, Below.heap_setCell _ _ _ _ hne, Below.heap_setCell _ _ _ _ hne, Below.heap_setCell _ _ _ _ hne]
    exact g.obj
  · exact ((((((Upd.refl (fun x => x = b) W)).setCell (p := ⟨b, k * 5, none⟩) (.inl rfl) _).setCell (p := ⟨b, k * 5 + 1, none⟩) (.inl rfl) _).setCell (p := ⟨b, k * 5 + 2, none⟩) (.inl rfl) _).setCell (p := ⟨b, k * 5 + 3, none⟩) (.inl rfl) _).setCell (p := ⟨b, k * 5 + 4, none⟩) (.inl rfl) _
/-- a table and a store make a heap -/
theorem HTab.lay (g : HTab W hb sb vc H u h) (hs : St W T sb (hA H) 8388608 1048577) (h1 : ∀ k, T k → k < W.heap.size) (h2 : ¬ T hb) (h3 : ∀ k, vc.ownBlock = some k → ¬ T k) (h4 : ∀ (i : Nat) (c : Hc), H[i]? = some (some c) → c.ok) (h5 : H.length ≤ 1048576) (h6 : u ≤ 1048576) (h7 : h ≤ 1048576) : HLay W hb sb vc T H u h := ⟨g.obj, g.own, hs, h1, h2, h3, h4, h5, h6, h7⟩
end
end Go.Proofs.YtgmimmdojkoppaaGreatDoor.W
