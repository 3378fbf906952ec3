import Derived.Test.YtaebnnkhjlidiaaBase4
import Derived.Test.YtaebnnkhjlidiaaBase2
import Derived.Laws.EntriesVeiled
/- Package heap: live; a cell that is let go. -/
namespace Go.Proofs.Ytaebnnkhjlidiaa.W
open Go.ChangeShapes Go.WideShapes Go.RowKit Go.Shelf
set_option linter.unusedVariables false
theorem live_c (W : World) (hb : Nat) : Calls Try.prog 34 #[.pointer (some ⟨hb, 0, none⟩)] W fun e w' => e = .returned (.func (.func 55) #[] #[.pointer (some ⟨W.heap.size, 0, none⟩)]) ∧ w' = W.alloc (.cells #[.pointer (some ⟨hb, 0, none⟩)] 31) := by
  go_enter Try.func34, Try.ntmps34
  go_wp2
  go_ret
  exact ⟨rfl, rfl⟩
theorem eg_live : ∀ args w, (callFunc 55 args).run Try.prog w = .ok (.enter 55 args) w := enters_of Try.func55 (by kernel_rfl) rfl
set_option maxHeartbeats 1000000 in
theorem live_iter (Bh hb n : Nat) (P : Nat → Bool) :
    IterP 55 #[.pointer (some ⟨Bh, 0, none⟩)] n P (fun k => #[.int .i64 (k : Nat)]) (fun i W => W.cell? ⟨Bh, 0, none⟩ = some (.pointer (some ⟨hb, 0, none⟩)) ∧ ∃ sb vc T H u h, HLay W hb sb vc T H u h ∧ H.length = n ∧ ∀ k, i ≤ k → k < n → ((H[k]?).getD none).isSome = P k) := by
  intro m l J X hm hL hB hS hY W h0
  show CallsIn Fence.wide m Try.prog 55 #[.func (.yield l) #[] #[], .pointer (some ⟨Bh, 0, none⟩)] W _
  have hn : n ≤ 1048576 := by
    obtain ⟨_, sb, vc, T, H, u, h, g, e, _⟩ := hL 0 W h0
    have := g.len
    omega
  refine callsIn_of_wp Try.func55 rfl trivial ?_ rfl
  simp only [Try.ntmps55, List.size_toArray, List.length_cons, List.length_nil, Nat.reduceAdd, Nat.reduceSub, Array.replicate_succ, Array.replicate_zero, List.push_toArray, List.append_toArray, List.nil_append, List.cons_append]
  gi_wp2
  gi_loopw [3] (fun ii wr => ∃ k : Nat, k ≤ n ∧ ii = .int .i64 k ∧ J k wr) (fun ii _ => n - (intOf ii).toNat)
  case atStart => exact ⟨0, Nat.zero_le _, rfl, h0⟩
  case round =>
    obtain ⟨k, hk, rfl, hJ⟩ := hrel
    obtain ⟨cB, sb, vc, T, H, u, h, g, hlen, hP⟩ := hL k wr hJ
    have c1 := g.cell 1
    simp only [List.getElem?_cons_succ, List.getElem?_cons_zero] at c1
    have k0 : (0 : Int) ≤ k := by omega
    have w1 : IntKind.i64.wrap ((k : Int) + 1) = (k : Int) + 1 := by rw [IntKind.wrap_i64]; omega
    by_cases hlt : k < n
    · have k1 : (k : Int) < H.length := by omega
      obtain ⟨b, cap, hvc, hcell, _⟩ := g.at (i := k) (by omega)
      have hget : H[k]? = some H[k] := List.getElem?_eq_getElem (by omega)
      have hc := hcell 0 H[k] hget (by omega)
      have hPk := hP k (Nat.le_refl _) hlt
      rw [hget] at hPk
      simp only [Option.getD_some] at hPk
      rw [hvc] at c1
      cases hx : H[k] with
      | none =>
        rw [hx] at hc hPk
        simp only [clO, Cl.cells, List.getElem?_cons_zero, Nat.add_zero] at hc
        have hJ2 := hid (hS k wr hlt (by rw [← hPk]; rfl) hJ)
        clear hY hL hB hS hP hcell hPk hx hget g hJ
        gi_wp2
        refine ⟨(fun f hf => by cases hf), ?_⟩
        gi_wp2
        go_roundw
        case rel => exact ⟨k + 1, by omega, by go_num, hJ2.out⟩
        case measure => show n - (k + 1 : Int).toNat < n - (k : Int).toNat; omega
      | some c =>
        rw [hx] at hc hPk
        simp only [clO, Cl.cells, List.getElem?_cons_zero, Nat.add_zero] at hc
        have hk0 := Hc.kind_ne (g.ok k c (by rw [hget, hx]))
        obtain ⟨fn, tmps, assign, body, hy, hR⟩ := hY k hlt wr (by rw [← hPk]; rfl) hJ
        have d2 : (c.cl.kind == 0) = false := by simpa using hk0
        clear hL hB hS hP hcell hPk hx hget g hJ hY
        gi_wp2
        refine hR.mono ?_
        rintro e W3 (⟨rfl, hK3⟩ | ⟨rfl, hX3⟩)
        · clear hy hR
          gi_wp2
          go_roundw
          case rel => exact ⟨k + 1, by omega, by go_num, hK3⟩
          case measure => show n - (k + 1 : Int).toNat < n - (k : Int).toNat; omega
        · clear hy hR
          gi_wp2
          refine bodyPost_ret (results_none rfl _ _ _) rfl ?_
          exact ⟨⟨_, rfl⟩, .inr hX3⟩
    · have he : k = n := by omega
      subst he
      have k1 : ¬ (k : Int) < H.length := by omega
      obtain ⟨o, cap, hvc⟩ := g.sl
      rw [hvc] at c1
      have HJ := hid hJ
      clear hY hL hB hS hP g hJ
      gi_wp2
      go_end0
      exact ⟨⟨_, rfl⟩, .inl HJ.out⟩
/-- five cells of the table are written -/
theorem flatC_cons (a : Option Hc) (H : List (Option Hc)) : flatC (a :: H) = (clO a).cells ++ flatC H := by simp [flatC]
theorem flatC_five (H : List (Option Hc)) (k : Nat) (c' : Option Hc) (hk : k < H.length) : (((((flatC H).set (k * 5) (.int .i64 (clO c').kind)).set (k * 5 + 1) (.bool (clO c').view)).set (k * 5 + 2) (.int .u64 (clO c').base)).set (k * 5 + 3) (.int .i64 (clO c').frm)).set (k * 5 + 4) (.int .i64 (clO c').len) = flatC (H.set k c') := by
  induction H generalizing k with
  | nil => simp at hk
  | cons a H ih =>
    cases k with
    | zero =>
      rw [List.set_cons_zero, flatC_cons, flatC_cons]
      simp [Cl.cells]
    | succ k =>
      have h5 : ∀ (l : List Value) (j : Nat) (v : Value), ((clO a).cells ++ l).set ((k + 1) * 5 + j) v = (clO a).cells ++ l.set (k * 5 + j) v := by
        intro l j v
        rw [List.set_append_right _ _ (by rw [Cl.cells_len]; omega), Cl.cells_len]
        congr 2
        omega
      have h50 : ∀ (l : List Value) (v : Value), ((clO a).cells ++ l).set ((k + 1) * 5) v = (clO a).cells ++ l.set (k * 5) v := fun l v => h5 l 0 v
      rw [List.set_cons_succ, flatC_cons, flatC_cons, h50, h5, h5, h5, h5, ih k (by simpa using hk)]
section
variable {W W' : World} {hb sb : Nat} {vc : Value} {T : Nat → Prop} {H : List (Option Hc)} {u h : Nat}
theorem HLay.gave (g : HLay W hb sb vc T H u h) (k : Nat) (hk : k < H.length) (hU : Upd T W W') (hS : St W' (Nx T W W') sb ((hA H).set k none) 8388608 1048577) {b cap : Nat} (hvc : vc = .slice (some ⟨b, 0, none⟩) H.length cap) :
    HLay (((((W'.setCell ⟨b, k * 5, none⟩ (.int .i64 0)).setCell ⟨b, k * 5 + 1, none⟩ (.bool false)).setCell ⟨b, k * 5 + 2, none⟩ (.int .u64 0)).setCell ⟨b, k * 5 + 3, none⟩ (.int .i64 0)).setCell ⟨b, k * 5 + 4, none⟩ (.int .i64 0)) hb sb vc (Nx T W W') (H.set k none) u h ∧
    Upd (fun x => T x ∨ x = b) W (((((W'.setCell ⟨b, k * 5, none⟩ (.int .i64 0)).setCell ⟨b, k * 5 + 1, none⟩ (.bool false)).setCell ⟨b, k * 5 + 2, none⟩ (.int .u64 0)).setCell ⟨b, k * 5 + 3, none⟩ (.int .i64 0)).setCell ⟨b, k * 5 + 4, none⟩ (.int .i64 0)) := by
  subst hvc
  have hbT := g.tvc b rfl
  have hbl := g.clt b rfl
  have hbh : b ≠ hb := by
    rintro rfl
    exact own_ne g.own g.obj (by decide) rfl
  have o0 : W'.ownsRow 0 76 5 (.slice (some ⟨b, 0, none⟩) H.length cap) H.length (flatC H) := owns_on g.own (fun k e => by cases e; exact hU.block b hbl hbT)
  have o1 := (o0.stored (k * 5) (.int .i64 0)).1
  have o2 := (o1.stored (k * 5 + 1) (.bool false)).1
  have o3 := (o2.stored (k * 5 + 2) (.int .u64 0)).1
  have o4 := (o3.stored (k * 5 + 3) (.int .i64 0)).1
  have o5 := (o4.stored (k * 5 + 4) (.int .i64 0)).1
  have e5 := flatC_five H k none hk
  simp only [clO] at e5
  rw [show ((0 : Nat) : Int) = 0 from rfl] at e5
  rw [e5] at o5
  have hx : ∀ x : Nat, x ≠ b → (((((W'.setCell ⟨b, k * 5, none⟩ (.int .i64 0)).setCell ⟨b, k * 5 + 1, none⟩ (.bool false)).setCell ⟨b, k * 5 + 2, none⟩ (.int .u64 0)).setCell ⟨b, k * 5 + 3, none⟩ (.int .i64 0)).setCell ⟨b, k * 5 + 4, none⟩ (.int .i64 0)).heap[x]? = W'.heap[x]? := by
    intro x hne
    rw [Below.heap_setCell _ _ _ _ hne, Below.heap_setCell _ _ _ _ hne, Below.heap_setCell _ _ _ _ hne, Below.heap_setCell _ _ _ _ hne, Below.heap_setCell _ _ _ _ hne]
  have hz : (((((W'.setCell ⟨b, k * 5, none⟩ (.int .i64 0)).setCell ⟨b, k * 5 + 1, none⟩ (.bool false)).setCell ⟨b, k * 5 + 2, none⟩ (.int .u64 0)).setCell ⟨b, k * 5 + 3, none⟩ (.int .i64 0)).setCell ⟨b, k * 5 + 4, none⟩ (.int .i64 0)).heap.size = W'.heap.size := by simp [World.setCell]
  have hNb : ¬ Nx T W W' b := by
    rintro (e | e)
    · exact hbT e
    · omega
  refine ⟨⟨?_, ?_, ?_, ?_, ?_, ?_, ?_, ?_, g.u1, g.h1⟩, ?_⟩
  · rw [hx hb (Ne.symm hbh), hU.block hb g.hlt g.thb]
    exact g.obj
  · rw [List.length_set]; exact o5
  · rw [← hA_set]
    exact hS.on (fun x e => hx x (by rintro rfl; exact hNb e))
  · rintro x (e | e)
    · rw [hz]; exact Nat.lt_of_lt_of_le (g.tlt x e) hU.size
    · rw [hz]; exact e.2
  · rintro (e | e)
    · exact g.thb e
    · have := g.hlt; omega
  · intro x e
    cases e
    exact hNb
  · intro i c e
    by_cases hik : i = k
    · subst hik
      rw [List.getElem?_set_self hk] at e
      cases e
    · rw [List.getElem?_set_ne (Ne.symm hik)] at e
      exact g.ok i c e
  · rw [List.length_set]; exact g.len
  · have hU' : Upd (fun x => T x ∨ x = b) W W' := hU.mono (fun x e => .inl e)
    exact ((((hU'.setCell (p := ⟨b, k * 5, none⟩) (.inl (.inr rfl)) _).setCell (p := ⟨b, k * 5 + 1, none⟩) (.inl (.inr rfl)) _).setCell (p := ⟨b, k * 5 + 2, none⟩) (.inl (.inr rfl)) _).setCell (p := ⟨b, k * 5 + 3, none⟩) (.inl (.inr rfl)) _).setCell (p := ⟨b, k * 5 + 4, none⟩) (.inl (.inr rfl)) _
end
end Go.Proofs.Ytaebnnkhjlidiaa.W
/- A row of one's own beside a store grows by append, and is written. -/
namespace Go.Proofs.Ytaebnnkhjlidiaa.W
open Go.ChangeShapes Go.WideShapes Go.RowKit Go.Shelf
set_option linter.unusedVariables false
section
variable {W : World} {sb : Nat} {A : List (Option (List Nat))} {B : Nat} {v : Value} {n : Nat} {xs : List Value}
theorem owns_base {b b' : Nat} {e : TypeId} {size : Nat} (h : W.ownsRow b e size v n xs) (hb : ∀ g, v.ownBlock = some g → b' ≤ g) : W.ownsRow b' e size v n xs := by
  refine ⟨h.1, ?_⟩
  rcases h.2 with hn | ⟨g, cap, cur, rfl, _, rest⟩
  · exact .inl hn
  · exact .inr ⟨g, cap, cur, rfl, hb g rfl, rest⟩
theorem under34 : Try.prog.underlying 30 = some (.slice 3) := by kernel_rfl
theorem both_append (h : Both B W sb A v n xs) (hB : B ≤ W.heap.size) (ty : TypeId) (a : Addr) (c : Nat) (x : Int) (hx : W.cell? (a.add 0) = some (.int .i64 x)) (hn : n ≤ 1000) :
    ∃ v' w', (Builtin.append_ #[30, 30] ty #[v, .slice (some a) 1 c]).run Try.prog W = .ok v' w' ∧ Both B w' sb A v' (n + 1) (xs ++ [.int .i64 x]) ∧ Below B W w' := by
  obtain ⟨i0, hi, hz0, hz1, hz2⟩ := info_parts info3
  obtain ⟨S, h1, h2, h3⟩ := h.ex
  have hbase : ∀ g, v.ownBlock = some g → B ≤ g := fun g hg => (h.own.lt g hg).1
  obtain ⟨v', w', hr, ho, hg, hat⟩ := append_at W 30 ty 3 i0 (.int .i64 0) 1 8 under34 hi hz0 hz1 hz2 rfl (by decide) v n xs (owns_base h.own (fun _ _ => Nat.zero_le _)) a 1 c [.int .i64 x] rfl (by
    intro j u hj
    match j, hj with
    | 0, hj => simp at hj; subst hj; exact hx) (by intro u hu; simp at hu; subst hu; rfl) (by decide) (by decide) (by omega)
  have hs := hg.size
  have hU : Upd (fun k => v.ownBlock = some k) W w' := (Upd.refl _ W).grown hg (fun k e => .inl e)
  refine ⟨v', w', hr, ⟨⟨S, ?_, fun k hk => ⟨(h2 k hk).1, by have := (h2 k hk).2; omega⟩, ?_⟩, owns_base ho ?_⟩, hU.below hB hbase⟩
  · exact h1.on (fun k hk => hU.block k (h2 k hk).2 (fun e => h3 k e hk))
  · intro k hk hS
    rcases hat k hk with e | e
    · exact h3 k e hS
    · have := (h2 k hS).2; omega
  · intro g hg'
    rcases hat g hg' with e | e
    · exact hbase g e
    · omega
end
end Go.Proofs.Ytaebnnkhjlidiaa.W
/- StoreFills: the row of lengths, written; the store beside it. -/
namespace Go.Proofs.Ytaebnnkhjlidiaa.W
open Go.ChangeShapes Go.WideShapes Go.RowKit Go.Shelf
set_option linter.unusedVariables false
def intsV (l : List Int) : List Value := l.map (fun z => .int .i64 z)
/-- the lengths, -1 where given back -/
def gaveV (z : List Int) (G : Nat → Bool) (n : Nat) : List Value := (List.range n).map (fun j => .int .i64 (if G j = true then -1 else z.getD j 0))
theorem gaveV_get (z : List Int) (G : Nat → Bool) (n j : Nat) (h : j < n) : (gaveV z G n)[j]? = some (.int .i64 (if G j = true then -1 else z.getD j 0)) := by
  unfold gaveV; rw [List.getElem?_map, List.getElem?_range h]; rfl
theorem gaveV_len (z : List Int) (G : Nat → Bool) (n : Nat) : (gaveV z G n).length = n := by simp [gaveV]
theorem gaveV_set (z : List Int) (G : Nat → Bool) (n id : Nat) : (gaveV z G n).set id (.int .i64 (-1)) = gaveV z (fun j => if j = id then true else G j) n := by
  apply List.ext_getElem?
  intro j
  by_cases hj : j < n
  · rw [gaveV_get _ _ _ _ hj]
    by_cases e : j = id
    · subst e; rw [List.getElem?_set_self (by rw [gaveV_len]; exact hj)]; simp
    · rw [List.getElem?_set_ne (by omega), gaveV_get _ _ _ _ hj]; simp [e]
  · rw [List.getElem?_eq_none (by rw [List.length_set, gaveV_len]; omega), List.getElem?_eq_none (by rw [gaveV_len]; omega)]
theorem gaveV_all (z : List Int) (n : Nat) (h : n ≤ z.length) : intsV (z.take n) = gaveV z (fun _ => false) n := by
  apply List.ext_getElem?
  intro j
  by_cases hj : j < n
  · rw [gaveV_get _ _ _ _ hj]
    unfold intsV
    rw [List.getElem?_map, List.getElem?_take, if_pos hj, List.getElem?_eq_getElem (by omega)]
    simp [List.getD, List.getElem?_eq_getElem (show j < z.length by omega)]
  · rw [List.getElem?_eq_none (by unfold intsV; rw [List.length_map, List.length_take]; omega), List.getElem?_eq_none (by rw [gaveV_len]; omega)]
theorem putA_get (A : List (Option (List Nat))) (x : Option (List Nat)) : (putA A (leastA A) x)[leastA A]? = some x := by
  unfold putA
  have h := List.findIdx_le_length (xs := A) (p := fun x => x.isNone)
  split
  · rename_i hl
    rw [List.getElem?_set_self hl]
  · rename_i hl
    have e : leastA A = A.length := by unfold leastA at *; omega
    rw [e]; simp
section
variable {W : World} {sb : Nat} {A : List (Option (List Nat))} {B : Nat} {v : Value} {n : Nat} {xs : List Value}
theorem both_slice (h : Both B W sb A v n xs) (hn : 0 < n) : ∃ g cap, v = .slice (some ⟨g, 0, none⟩) n cap ∧ ∀ j, j < n → W.cell? ⟨g, j, none⟩ = xs[j]? := by
  obtain ⟨g, cap, rfl, hc⟩ := own_slice (owns_base h.own (b' := 0) (fun _ _ => Nat.zero_le _)) hn
  exact ⟨g, cap, rfl, fun j hj => h.own.cellAt j (by omega)⟩
theorem both_len (h : Both B W sb A v n xs) : ∃ o cap, v = .slice o n cap := by
  rcases h.own.2 with ⟨rfl, rfl⟩ | ⟨g, cap, cur, rfl, _⟩
  · exact ⟨_, _, rfl⟩
  · exact ⟨_, _, rfl⟩
theorem both_store {g cap : Nat} (h : Both B W sb A (.slice (some ⟨g, 0, none⟩) n cap) n xs) (hB : B ≤ W.heap.size) (i : Nat) (x : Int) :
    W.frozen? ⟨g, i, none⟩ = false ∧ Both B (W.setCell ⟨g, i, none⟩ (.int .i64 x)) sb A (.slice (some ⟨g, 0, none⟩) n cap) n (xs.set i (.int .i64 x)) ∧ Below B W (W.setCell ⟨g, i, none⟩ (.int .i64 x)) := by
  obtain ⟨S, h1, h2, h3⟩ := h.ex
  have hst := (h.own.stored i (.int .i64 x)).1
  have hg := h.own.lt g rfl
  refine ⟨h.own.frozenAt i, ⟨⟨S, h1.on (fun k hk => Below.heap_setCell _ _ _ _ (by rintro rfl; exact h3 _ rfl hk)), fun k hk => ⟨(h2 k hk).1, by simpa [World.setCell] using (h2 k hk).2⟩, h3⟩, hst⟩, ?_⟩
  exact ((Upd.refl (fun k => k = g) W).setCell (p := ⟨g, i, none⟩) (.inl rfl) _).below hB (fun k e => by subst e; exact hg.1)
theorem both_give_err (h : Both B W sb A v n xs) (id : Int) (hx : id < 0 ∨ (A[id.toNat]?).getD none = none) : Calls Try.prog 42 #[.pointer (some ⟨sb, 0, none⟩), .int .i64 id] W fun e w' => e = .returned (.int .i64 30) ∧ w' = W := by
  obtain ⟨S, h1, _⟩ := h.ex
  exact give_st_err h1 id hx
theorem both_len_err (h : Both B W sb A v n xs) (id : Int) (hx : id < 0 ∨ (A[id.toNat]?).getD none = none) : Calls Try.prog 56 #[.pointer (some ⟨sb, 0, none⟩), .int .i64 id] W fun e w' => e = .returned (.tuple #[.int .i64 0, .int .i64 30]) ∧ w' = W := by
  obtain ⟨S, h1, _⟩ := h.ex
  exact len_st_err h1 id hx
end
end Go.Proofs.Ytaebnnkhjlidiaa.W
/- Package heap: the table of cells alone: it grows, a cell is written; what is put. -/
namespace Go.Proofs.Ytaebnnkhjlidiaa.W
open Go.ChangeShapes Go.WideShapes Go.RowKit Go.Shelf
set_option linter.unusedVariables false
/-- the table: a heap but for its store -/
structure HTab (W : World) (hb sb : Nat) (vc : Value) (C : List (Option Hc)) (u h : Nat) : Prop where
  obj : W.heap[hb]? = some (.cells [.pointer (some ⟨sb, 0, none⟩), vc, .int .i64 u, .int .i64 h].toArray 56 (0, 0))
  own : W.ownsRow 0 76 5 vc C.length (flatC C)
/-- a cell is put -/
def putH (H : List (Option Hc)) (id : Nat) (x : Option Hc) : List (Option Hc) := if id < H.length then H.set id x else H ++ [x]
theorem hA_put (H : List (Option Hc)) (id : Nat) (c : Hc) : hA (putH H id (some c)) = putA (hA H) id (some c.bytes) := by
  unfold putH putA
  rw [hA_len]
  split
  · rw [← hA_set]; rfl
  · rw [hA_snoc]; rfl
theorem infoC : (Try.prog.info? 76).map (fun i => (i.zero, i.size, i.bytes)) = some (some (.agg #[.int .i64 0, .bool false, .int .u64 0, .int .i64 0, .int .i64 0]), 5, 40) := by kernel_rfl
theorem underC : Try.prog.underlying 54 = some (.slice 76) := by kernel_rfl
theorem flatC_snoc (H : List (Option Hc)) (c : Option Hc) : flatC (H ++ [c]) = flatC H ++ (clO c).cells := by simp [flatC]
section
variable {W W' : World} {hb sb : Nat} {vc : Value} {T : Nat → Prop} {H : List (Option Hc)} {u h : Nat}
theorem HLay.tab (g : HLay W hb sb vc T H u h) : HTab W hb sb vc H u h := ⟨g.obj, g.own⟩
theorem HTab.kept (g : HTab W hb sb vc H u h) (h0 : W'.heap[hb]? = W.heap[hb]?) (h1 : ∀ k, vc.ownBlock = some k → W'.heap[k]? = W.heap[k]?) : HTab W' hb sb vc H u h := ⟨h0.trans g.obj, owns_on g.own h1⟩
theorem HTab.hlt (g : HTab W hb sb vc H u h) : hb < W.heap.size := (Array.getElem?_eq_some_iff.1 g.obj).1
theorem HTab.cell (g : HTab W hb sb vc H u h) (j : Nat) : W.cell? ⟨hb, j, none⟩ = [Value.pointer (some ⟨sb, 0, none⟩), vc, .int .i64 u, .int .i64 h][j]? := by
  rw [cell_of_row W hb j _ _ (0, 0) g.obj]; simp
theorem HTab.ne (g : HTab W hb sb vc H u h) : vc.ownBlock ≠ some hb := (own_ne g.own g.obj (by decide)).symm
/-- one cell more -/
theorem HTab.grow (g : HTab W hb sb vc H u h) (hl : H.length ≤ 1048576) (ty : TypeId) :
    ∃ v' w', (Builtin.append_ #[54, 54] ty #[vc, .slice (some ⟨W.heap.size, 0, none⟩) 1 1]).run Try.prog (W.alloc (.cells #[.int .i64 0, .bool false, .int .u64 0, .int .i64 0, .int .i64 0] 76)) = .ok v' w' ∧ w'.cell? ⟨hb, 1, none⟩ = some vc ∧ w'.frozen? ⟨hb, 1, none⟩ = false ∧ HTab (w'.setCell ⟨hb, 1, none⟩ v') hb sb v' (H ++ [none]) u h ∧ Upd (fun k => k = hb ∨ vc.ownBlock = some k) W (w'.setCell ⟨hb, 1, none⟩ v') ∧ ∀ k, v'.ownBlock = some k → vc.ownBlock = some k ∨ W.heap.size ≤ k := by
  obtain ⟨i0, hi, hz0, hz1, hz2⟩ := info_parts infoC
  have hBa : Below W.heap.size W (W.alloc (.cells #[.int .i64 0, .bool false, .int .u64 0, .int .i64 0, .int .i64 0] 76)) := (Below.refl _ W).alloc (Nat.le_refl _) _
  have ga : HTab (W.alloc (.cells #[.int .i64 0, .bool false, .int .u64 0, .int .i64 0, .int .i64 0] 76)) hb sb vc H u h := g.kept (hBa.block _ g.hlt) (fun k e => hBa.block k (g.own.lt k e).2)
  have hnews : ∀ j v, (clO none).cells[j]? = some v → (W.alloc (.cells #[.int .i64 0, .bool false, .int .u64 0, .int .i64 0, .int .i64 0] 76)).cell? ((⟨W.heap.size, 0, none⟩ : Addr).add j) = some v := by
    intro j v hj
    have e : (⟨W.heap.size, 0, none⟩ : Addr).add j = ⟨W.heap.size, j, none⟩ := by unfold Addr.add; split <;> simp_all
    rw [e, World.cell?_alloc_new]
    simpa [clO, Cl.cells] using hj
  have ho1 : ∀ v ∈ (clO none).cells, v.oneCell' = true := by
    intro v hv
    simp [clO, Cl.cells] at hv
    rcases hv with rfl | rfl | rfl | rfl <;> rfl
  obtain ⟨v', w', hrun, hown, hgr, hnew⟩ := append_at (P := Try.prog) (W.alloc (.cells #[.int .i64 0, .bool false, .int .u64 0, .int .i64 0, .int .i64 0] 76)) 54 ty 76 i0 _ 5 40 underC hi hz0 hz1 hz2 rfl (by decide) vc H.length (flatC H) ga.own ⟨W.heap.size, 0, none⟩ 1 1 (clO none).cells rfl hnews ho1 (by decide) (by decide) (by omega)
  have hU : Upd (fun k => k = hb ∨ vc.ownBlock = some k) W w' := ((Upd.refl _ W).alloc _).trans' (((Upd.refl (fun k => k = hb ∨ vc.ownBlock = some k) _)).grown hgr (fun k e => .inl (.inr e)))
  have hob : w'.heap[hb]? = W.heap[hb]? := (hgr.block hb ga.hlt (fun e => ga.ne e.symm)).trans (hBa.block _ g.hlt)
  have hob' : w'.heap[hb]? = some (.cells [.pointer (some ⟨sb, 0, none⟩), vc, .int .i64 u, .int .i64 h].toArray 56 (0, 0)) := hob.trans g.obj
  have hv' : v'.ownBlock ≠ some hb := (own_ne hown hob' (by decide)).symm
  refine ⟨v', w', hrun, ?_, ?_, ⟨?_, ?_⟩, hU.setCell (p := ⟨hb, 1, none⟩) (.inl (.inl rfl)) _, ?_⟩
  · rw [World.cell?_of_block hob, g.cell 1]; rfl
  · rw [World.frozen?_of_block hob]; simp [World.frozen?, g.obj]
  · exact heap_set (b := hb) hob' 1 v'
  · rw [flatC_snoc, List.length_append]
    refine owns_on hown (fun k e => Below.heap_setCell _ _ _ _ ?_)
    rintro rfl
    exact hv' e
  · intro k e
    rcases hnew k e with e | e
    · exact .inl e
    · right; have := e.1; rw [World.size_alloc] at this; omega
/-- a cell is written -/
theorem HTab.write {b cap : Nat} (g : HTab W hb sb (.slice (some ⟨b, 0, none⟩) H.length cap) H u h) (k : Nat) (hk : k < H.length) (c : Option Hc) :
    HTab (((((W.setCell ⟨b, k * 5, none⟩ (.int .i64 (clO c).kind)).setCell ⟨b, k * 5 + 1, none⟩ (.bool (clO c).view)).setCell ⟨b, k * 5 + 2, none⟩ (.int .u64 (clO c).base)).setCell ⟨b, k * 5 + 3, none⟩ (.int .i64 (clO c).frm)).setCell ⟨b, k * 5 + 4, none⟩ (.int .i64 (clO c).len)) hb sb (.slice (some ⟨b, 0, none⟩) H.length cap) (H.set k c) u h ∧
    Upd (fun x => x = b) W (((((W.setCell ⟨b, k * 5, none⟩ (.int .i64 (clO c).kind)).setCell ⟨b, k * 5 + 1, none⟩ (.bool (clO c).view)).setCell ⟨b, k * 5 + 2, none⟩ (.int .u64 (clO c).base)).setCell ⟨b, k * 5 + 3, none⟩ (.int .i64 (clO c).frm)).setCell ⟨b, k * 5 + 4, none⟩ (.int .i64 (clO c).len)) := by
  have hne : hb ≠ b := by rintro rfl; exact g.ne rfl
  have o1 := (g.own.stored (k * 5) (.int .i64 (clO c).kind)).1
  have o2 := (o1.stored (k * 5 + 1) (.bool (clO c).view)).1
  have o3 := (o2.stored (k * 5 + 2) (.int .u64 (clO c).base)).1
  have o4 := (o3.stored (k * 5 + 3) (.int .i64 (clO c).frm)).1
  have o5 := (o4.stored (k * 5 + 4) (.int .i64 (clO c).len)).1
  rw [flatC_five H k c hk] at o5
  refine ⟨⟨?_, by rw [List.length_set]; exact o5⟩, ?_⟩
  · rw [Below.heap_setCell _ _ _ _ hne, Below.heap_setCell _ _ _ _ hne, Below.heap_setCell _ _ _ _ hne, Below.heap_setCell _ _ _ _ hne, Below.heap_setCell _ _ _ _ hne]
    exact g.obj
  · exact ((((((Upd.refl (fun x => x = b) W)).setCell (p := ⟨b, k * 5, none⟩) (.inl rfl) _).setCell (p := ⟨b, k * 5 + 1, none⟩) (.inl rfl) _).setCell (p := ⟨b, k * 5 + 2, none⟩) (.inl rfl) _).setCell (p := ⟨b, k * 5 + 3, none⟩) (.inl rfl) _).setCell (p := ⟨b, k * 5 + 4, none⟩) (.inl rfl) _
/-- a table and a store make a heap -/
theorem HTab.lay (g : HTab W hb sb vc H u h) (hs : St W T sb (hA H) 8388608 1048577) (h1 : ∀ k, T k → k < W.heap.size) (h2 : ¬ T hb) (h3 : ∀ k, vc.ownBlock = some k → ¬ T k) (h4 : ∀ (i : Nat) (c : Hc), H[i]? = some (some c) → c.ok) (h5 : H.length ≤ 1048576) (h6 : u ≤ 1048576) (h7 : h ≤ 1048576) : HLay W hb sb vc T H u h := ⟨g.obj, g.own, hs, h1, h2, h3, h4, h5, h6, h7⟩
end
end Go.Proofs.Ytaebnnkhjlidiaa.W
/- Package heap: size, Need; cells as values. -/
namespace Go.Proofs.Ytaebnnkhjlidiaa.W
open Go.ChangeShapes Go.WideShapes Go.RowKit Go.Shelf
set_option linter.unusedVariables false
/-- a cell as it is handed over -/
def cellV (k : Int) (v : Bool) (i : Int) (t : ByteArray) (b w : Value) (base : Int) (p n : Int) : Value := .agg #[.int .i64 k, .bool v, .int .i64 i, .string t, b, w, .int .u64 base, .int .i64 p, .int .i64 n]
/-- how many bytes of its own a cell has, whatever cell -/
def sizeV (k : Int) (v : Bool) (tl bl wl : Nat) : Nat := if shp k v = 1 then 8 else if shp k v = 2 then tl else if shp k v = 3 then bl else if shp k v = 5 then wl * 8 else 0
theorem size_c (k : Int) (v : Bool) (i : Int) (t : ByteArray) (ob ow : Option Addr) (bl bc wl wc : Nat) (base p n : Int) (hw : wl ≤ 1000000000) (W : World) :
    Calls Try.prog 20 #[cellV k v i t (.slice ob bl bc) (.slice ow wl wc) base p n] W fun e w' => e = .returned (.int .i64 (sizeV k v t.size bl wl : Nat)) ∧ Below W.heap.size W w' := by
  have cs : ∀ w, Calls Try.prog 36 #[.int .i64 k, .bool v] w fun e w' => e = .returned (.int .i64 (shp k v)) ∧ w' = w := fun w => shape_c k v w
  unfold cellV sizeV
  generalize shp k v = s at *
  have hB := (show Below W.heap.size W (W.alloc (.cells #[.int .i64 k, .bool v, .int .i64 i, .string t, .slice ob bl bc, .slice ow wl wc, .int .u64 base, .int .i64 p, .int .i64 n] 26)) from (Below.refl _ W).alloc (Nat.le_refl _) _)
  have hw8 : IntKind.i64.wrap ((wl : Int) * 8) = (wl : Int) * 8 := by rw [IntKind.wrap_i64]; omega
  by_cases h1 : s = 1
  · subst h1
    rw [if_pos rfl]
    go_enter Try.func20, Try.ntmps20
    go_wp2_with (go_at_call 36; (with_reducible refine (cs _).mono ?_); rintro e w' ⟨rfl, hw⟩; (have hw' := hw.symm); subst hw'; clear hw)
    go_ret
    exact ⟨rfl, hB⟩
  rw [if_neg h1]
  by_cases h2 : s = 2
  · subst h2
    rw [if_pos rfl]
    go_enter Try.func20, Try.ntmps20
    go_wp2_with (go_at_call 36; (with_reducible refine (cs _).mono ?_); rintro e w' ⟨rfl, hw⟩; (have hw' := hw.symm); subst hw'; clear hw)
    go_ret
    exact ⟨rfl, hB⟩
  rw [if_neg h2]
  by_cases h3 : s = 3
  · subst h3
    rw [if_pos rfl]
    go_enter Try.func20, Try.ntmps20
    go_wp2_with (go_at_call 36; (with_reducible refine (cs _).mono ?_); rintro e w' ⟨rfl, hw⟩; (have hw' := hw.symm); subst hw'; clear hw)
    go_ret
    exact ⟨rfl, hB⟩
  rw [if_neg h3]
  by_cases h5 : s = 5
  · subst h5
    rw [if_pos rfl]
    go_enter Try.func20, Try.ntmps20
    go_wp2_with (go_at_call 36; (with_reducible refine (cs _).mono ?_); rintro e w' ⟨rfl, hw⟩; (have hw' := hw.symm); subst hw'; clear hw)
    go_ret
    exact ⟨rfl, hB⟩
  rw [if_neg h5]
  go_enter Try.func20, Try.ntmps20
  go_wp2_with (go_at_call 36; (with_reducible refine (cs _).mono ?_); rintro e w' ⟨rfl, hw⟩; (have hw' := hw.symm); subst hw'; clear hw)
  go_ret
  exact ⟨rfl, hB⟩
theorem sizeV_le (k : Int) (v : Bool) (tl bl wl : Nat) (h1 : tl ≤ 80000000) (h2 : bl ≤ 80000000) (h3 : wl ≤ 10000000) : sizeV k v tl bl wl ≤ 80000000 := by
  unfold sizeV
  repeat' split
  all_goals omega
theorem need_c (k : Int) (v : Bool) (i : Int) (t : ByteArray) (ob ow : Option Addr) (bl bc wl wc : Nat) (base p n : Int) (ht : t.size ≤ 80000000) (hbl : bl ≤ 80000000) (hw : wl ≤ 10000000) (W : World) :
    Calls Try.prog 9 #[cellV k v i t (.slice ob bl bc) (.slice ow wl wc) base p n] W fun e w' => e = .returned (.int .i64 (1 + (sizeV k v t.size bl wl + 7) / 8 : Nat)) ∧ Below W.heap.size W w' := by
  have cs : ∀ w, Calls Try.prog 20 #[cellV k v i t (.slice ob bl bc) (.slice ow wl wc) base p n] w fun e w' => e = .returned (.int .i64 (sizeV k v t.size bl wl : Nat)) ∧ Below w.heap.size w w' := fun w => size_c k v i t ob ow bl bc wl wc base p n (by omega) w
  have hs := sizeV_le k v t.size bl wl ht hbl hw
  generalize sizeV k v t.size bl wl = z at *
  have cu : ∀ w, Calls Try.prog 19 #[.int .i64 z] w fun e w' => e = .returned (.int .i64 (1 + (z + 7) / 8 : Nat)) ∧ w' = w := fun w => unitsOf_c z (by omega) w
  unfold cellV at *
  have hB := (show Below W.heap.size W (W.alloc (.cells #[.int .i64 k, .bool v, .int .i64 i, .string t, .slice ob bl bc, .slice ow wl wc, .int .u64 base, .int .i64 p, .int .i64 n] 26)) from (Below.refl _ W).alloc (Nat.le_refl _) _)
  go_enter Try.func9, Try.ntmps9
  go_wp2_with (first | (go_at_call 20; (with_reducible refine (cs _).mono ?_); rintro e w2 ⟨rfl, hB2⟩) | (go_at_call 19; (with_reducible refine (cu _).mono ?_); rintro e w' ⟨rfl, hw⟩; (have hw' := hw.symm); subst hw'; clear hw))
  go_ret
  exact ⟨rfl, hB.trans (hB2.mono hB.size)⟩
end Go.Proofs.Ytaebnnkhjlidiaa.W
/- Package heap: bytes of a cell are written: save, of a number. -/
namespace Go.Proofs.Ytaebnnkhjlidiaa.W
open Go.ChangeShapes Go.WideShapes Go.RowKit Go.Shelf
set_option linter.unusedVariables false
theorem le8_get (x j : Nat) (h : j < 8) : (le8 x)[j]? = some (x / 256 ^ j % 256) := by
  unfold le8; rw [List.getElem?_map, List.getElem?_range h]; rfl
theorem saved_le8 (y : List Nat) (x : Nat) (h : y.length = 8) : saved y 0 x 8 = le8 x := by
  apply List.ext_getElem?
  intro j
  rw [saved_get _ _ _ _ _ (by omega)]
  by_cases hj : j < 8
  · rw [if_pos (by omega), le8_get x j hj, Nat.sub_zero]
  · rw [if_neg (by omega), List.getElem?_eq_none (by omega), List.getElem?_eq_none (by rw [le8_len]; omega)]
theorem flatC_same (H : List (Option Hc)) (i : Nat) (c d : Option Hc) (hc : H[i]? = some c) (he : clO d = clO c) : flatC (H.set i d) = flatC H := by
  induction H generalizing i with
  | nil => simp at hc
  | cons a H ih =>
    cases i with
    | zero =>
      simp at hc; subst hc
      rw [List.set_cons_zero, flatC_cons, flatC_cons, he]
    | succ i =>
      simp at hc
      rw [List.set_cons_succ, flatC_cons, flatC_cons, ih i hc]
section
variable {W W' : World} {hb sb : Nat} {vc : Value} {T : Nat → Prop} {H : List (Option Hc)} {u h : Nat}
/-- a cell's bytes are others -/
theorem HLay.saved (g : HLay W hb sb vc T H u h) (i : Nat) (c d : Hc) (hc : H[i]? = some (some c)) (he : d.cl = c.cl) (hd : d.ok) (hU : Upd T W W') (hS : St W' T sb ((hA H).set i (some d.bytes)) 8388608 1048577) : HLay W' hb sb vc T (H.set i (some d)) u h := by
  have hil := (List.getElem?_eq_some_iff.1 hc).1
  refine ⟨(hU.block hb g.hlt g.thb).trans g.obj, ?_, ?_, fun k e => Nat.lt_of_lt_of_le (g.tlt k e) hU.size, g.thb, g.tvc, ?_, by rw [List.length_set]; exact g.len, g.u1, g.h1⟩
  · rw [List.length_set, flatC_same H i (some c) (some d) hc he]
    exact owns_on g.own (fun k e => hU.block k (g.clt k e) (g.tvc k e))
  · rw [← hA_set]; exact hS
  · intro j e hj
    by_cases hij : j = i
    · subst hij
      rw [List.getElem?_set_self hil] at hj
      cases hj; exact hd
    · rw [List.getElem?_set_ne (Ne.symm hij)] at hj
      exact g.ok j e hj
theorem save_num (g : HLay W hb sb vc T H u h) (id : Nat) (i j : Int) (hc : H[id]? = some (some (.num j))) (h0 : -9223372036854775808 ≤ i) (h1 : i < 9223372036854775808) (ob ow : Option Addr) (bc wc : Nat) :
    Calls Try.prog 47 #[.pointer (some ⟨hb, 0, none⟩), .int .i64 id, .agg #[.int .i64 2, .bool false, .int .i64 i, .string ByteArray.empty, .slice ob 0 bc, .slice ow 0 wc, .int .u64 0, .int .i64 0, .int .i64 0]] W fun e w' => e = .returned (.tuple #[]) ∧ Upd T W w' ∧ HLay w' hb sb vc T (H.set id (some (.num i))) u h := by
  have hBa : Below W.heap.size W (W.alloc (.cells #[.int .i64 2, .bool false, .int .i64 i, .string ByteArray.empty, .slice ob 0 bc, .slice ow 0 wc, .int .u64 0, .int .i64 0, .int .i64 0] 26)) := (Below.refl _ W).alloc (Nat.le_refl _) _
  have ga := g.below hBa
  have hn : (i % 18446744073709551616).toNat < 18446744073709551616 := by omega
  have cv := save_st (ga.same (W' := (W.alloc (.cells #[.int .i64 2, .bool false, .int .i64 i, .string ByteArray.empty, .slice ob 0 bc, .slice ow 0 wc, .int .u64 0, .int .i64 0, .int .i64 0] 26)).drew) rfl).st id _ (hA_some hc) 0 8 (i % 18446744073709551616).toNat hn (.inr (.inr (.inr rfl))) (by omega) (by show 0 + 8 ≤ (le8 _).length; rw [le8_len]; omega)
  have e8 : saved (Hc.num j).bytes 0 (i % 18446744073709551616).toNat 8 = (Hc.num i).bytes := saved_le8 _ _ (le8_len _)
  rw [e8] at cv
  have ew : (((i % 18446744073709551616).toNat : Nat) : Int) = IntKind.u64.wrap i := by rw [IntKind.wrap_u64]; omega
  rw [ew, show ((0 : Nat) : Int) = 0 from rfl, show ((8 : Nat) : Int) = 8 from rfl] at cv
  have cs : ∀ w, Calls Try.prog 36 #[.int .i64 2, .bool false] w fun e w' => e = .returned (.int .i64 1) ∧ w' = w := fun w => shape_c 2 false w
  have fin : Hid (∀ w2, Upd T (W.alloc (.cells #[.int .i64 2, .bool false, .int .i64 i, .string ByteArray.empty, .slice ob 0 bc, .slice ow 0 wc, .int .u64 0, .int .i64 0, .int .i64 0] 26)) w2 → St w2 T sb ((hA H).set id (some (Hc.num i).bytes)) 8388608 1048577 → Upd T W w2 ∧ HLay w2 hb sb vc T (H.set id (some (.num i))) u h) := by
    show ∀ w2, _
    intro w2 hU2 hS2
    exact ⟨(Upd.of_below hBa).trans' hU2, ga.saved id _ (.num i) hc rfl ⟨h0, h1⟩ hU2 hS2⟩
  have c0 := ga.cell 0
  simp only [List.getElem?_cons_zero] at c0
  have c2 := World.cell?_alloc_new W #[.int .i64 2, .bool false, .int .i64 i, .string ByteArray.empty, .slice ob 0 bc, .slice ow 0 wc, .int .u64 0, .int .i64 0, .int .i64 0] 26 2
  simp only [List.getElem?_toArray, List.getElem?_cons_succ, List.getElem?_cons_zero] at c2
  have keep : Hid (∀ w2, Upd T (W.alloc (.cells #[.int .i64 2, .bool false, .int .i64 i, .string ByteArray.empty, .slice ob 0 bc, .slice ow 0 wc, .int .u64 0, .int .i64 0, .int .i64 0] 26)).drew w2 → w2.cell? ⟨hb, 0, none⟩ = some (.pointer (some ⟨sb, 0, none⟩)) ∧ w2.cell? ⟨W.heap.size, 2, none⟩ = some (.int .i64 i)) := by
    show ∀ w2, _
    intro w2 hU2
    have e1 := hU2.block hb ga.hlt g.thb
    have e2 := hU2.block W.heap.size (by show _ < (W.alloc _).heap.size; rw [World.size_alloc]; omega) (fun e => by have := g.tlt _ e; omega)
    exact ⟨(World.cell?_of_block e1).trans c0, (World.cell?_of_block e2).trans c2⟩
  clear ga e8 ew hn
  go_enter Try.func47, Try.ntmps47
  go_wp2_with (go_at_call 36; (with_reducible refine (cs _).mono ?_); rintro e w' ⟨rfl, hw⟩; (have hw' := hw.symm); subst hw'; clear hw)
  go_region_held3 (fun w' => w'.cell? ⟨hb, 0, none⟩ = some (.pointer (some ⟨sb, 0, none⟩)) ∧ w'.cell? ⟨W.heap.size, 2, none⟩ = some (.int .i64 i)) (first | exact ⟨c0, c2⟩ | exact k2) (first | (go_at_call 32; (with_reducible refine cv.mono ?_); rintro e w2 ⟨rfl, hU2, hS2⟩; (have k2 := keep.out w2 hU2); clear cv keep c0 c2))
  have hf := fin.out w2 ⟨hU2.os, hU2.tape, hU2.output, hU2.size, hU2.block⟩ hS2
  go_wp2
  go_end0
  exact ⟨rfl, hf.1, hf.2⟩
end
end Go.Proofs.Ytaebnnkhjlidiaa.W
/- The heap in plain words: marking what is reached. -/
namespace Go.Proofs.Ytaebnnkhjlidiaa.W
set_option linter.unusedVariables false
/-- what is marked needs -/
def needR : List (Option Hc) → List Bool → Nat
  | c :: H, b :: R => (if b = true then needO c else 0) + needR H R
  | _, _ => 0
theorem needR_set (H : List (Option Hc)) (R : List Bool) (i : Nat) (c : Option Hc) (hl : R.length = H.length) (hc : H[i]? = some c) (hr : R[i]? = some false) : needR H (R.set i true) = needR H R + needO c := by
  induction H generalizing R i with
  | nil => simp at hc
  | cons a H ih =>
    cases R with
    | nil => simp at hr
    | cons b R =>
      cases i with
      | zero =>
        simp at hc hr; subst hc; subst hr
        simp only [List.set_cons_zero, needR]
        simp
        omega
      | succ i =>
        simp at hc hr hl
        simp only [List.set_cons_succ, needR]
        rw [ih R i hl hc hr]; omega
theorem needR_le (H : List (Option Hc)) (R : List Bool) : needR H R ≤ sumH H := by
  induction H generalizing R with
  | nil => exact Nat.le_refl _
  | cons a H ih =>
    cases R with
    | nil => exact Nat.zero_le _
    | cons b R =>
      simp only [needR, sumH_cons]
      have := ih R
      split <;> omega
theorem needR_false (H : List (Option Hc)) (n : Nat) : needR H (List.replicate n false) = 0 := by
  induction H generalizing n with
  | nil => rfl
  | cons a H ih =>
    cases n with
    | zero => rfl
    | succ n => simp only [List.replicate_succ, needR, ih]; simp
/-- how many are not marked -/
def unmarked (R : List Bool) : Nat := (R.filter (fun b => !b)).length
theorem unmarked_set (R : List Bool) (i : Nat) (hr : R[i]? = some false) : unmarked (R.set i true) + 1 = unmarked R := by
  induction R generalizing i with
  | nil => simp at hr
  | cons b R ih =>
    cases i with
    | zero => simp at hr; subst hr; simp [unmarked]
    | succ i =>
      simp at hr
      have := ih i hr
      unfold unmarked at *
      rw [List.set_cons_succ, List.filter_cons, List.filter_cons]
      split
      · rw [List.length_cons, List.length_cons]; omega
      · exact this
/-- marking under way: R marked, O of them still open, cur under work -/
structure Rinv (H : List (Option Hc)) (ws : List Nat) (R : List Bool) (O : List Nat) (cur : Nat → Prop) : Prop where
  len : R.length = H.length
  sound : ∀ i : Nat, R[i]? = some true → Rch H ws i
  opn : ∀ i ∈ O, R[i]? = some true
  shut : ∀ (i : Nat) c, R[i]? = some true → i ∉ O → ¬ cur i → H[i]? = some (some c) → ∀ w ∈ c.succ, ∀ j, hit H w = some j → R[j]? = some true
section
variable {H : List (Option Hc)} {ws : List Nat} {R : List Bool} {O : List Nat} {cur : Nat → Prop}
theorem Rch.live {i : Nat} (h : Rch H ws i) : ∃ c, H[i]? = some (some c) := by
  have key : ∀ {w i : Nat}, hit H w = some i → ∃ c, H[i]? = some (some c) := by
    intro w i hh
    unfold hit at hh
    split at hh
    · rename_i hc
      cases hh
      have := hc.2
      cases e : H[w % 281474976710656]? with
      | none => rw [e] at this; simp at this
      | some x =>
        cases x with
        | none => rw [e] at this; simp at this
        | some c => exact ⟨c, rfl⟩
    · cases hh
  cases h with
  | root w i hw hh => exact key hh
  | step j i w c hj hc hw hh => exact key hh
theorem set_true {R : List Bool} {i j : Nat} (h : R[j]? = some true) : (R.set i true)[j]? = some true := by
  by_cases e : i = j
  · subst e; rw [List.getElem?_set_self (List.getElem?_eq_some_iff.1 h).1]
  · rw [List.getElem?_set_ne e]; exact h
theorem Rinv.mark (h : Rinv H ws R O cur) {i : Nat} (hi : Rch H ws i) (hr : R[i]? = some false) : Rinv H ws (R.set i true) (O ++ [i]) cur := by
  have hil := (List.getElem?_eq_some_iff.1 hr).1
  refine ⟨by rw [List.length_set]; exact h.len, ?_, ?_, ?_⟩
  · intro j hj
    by_cases e : i = j
    · subst e; exact hi
    · rw [List.getElem?_set_ne e] at hj; exact h.sound j hj
  · intro j hj
    rcases List.mem_append.1 hj with hj | hj
    · exact set_true (h.opn j hj)
    · simp at hj; subst hj; rw [List.getElem?_set_self hil]
  · intro j c hj hno hcur hc w hw k hk
    have e : i ≠ j := by rintro rfl; exact hno (by simp)
    rw [List.getElem?_set_ne e] at hj
    exact set_true (h.shut j c hj (fun hm => hno (List.mem_append_left _ hm)) hcur hc w hw k hk)
theorem Rinv.pop {i : Nat} (h : Rinv H ws R (O ++ [i]) (fun _ => False)) : Rinv H ws R O (fun j => j = i) := by
  refine ⟨h.len, h.sound, fun j hj => h.opn j (List.mem_append_left _ hj), ?_⟩
  intro j c hj hno hcur hc
  refine h.shut j c hj ?_ (fun f => f) hc
  intro hm
  rcases List.mem_append.1 hm with hm | hm
  · exact hno hm
  · simp at hm; exact hcur hm
theorem Rinv.close {i : Nat} {c : Hc} (h : Rinv H ws R O (fun j => j = i)) (hc : H[i]? = some (some c)) (hs : ∀ w ∈ c.succ, ∀ j, hit H w = some j → R[j]? = some true) : Rinv H ws R O (fun _ => False) := by
  refine ⟨h.len, h.sound, h.opn, ?_⟩
  intro j d hj hno _ hd
  by_cases e : j = i
  · subst e
    rw [hc] at hd; cases hd
    exact hs
  · exact h.shut j d hj hno e hd
theorem Rinv.done (h : Rinv H ws R [] (fun _ => False)) (hw : ∀ w ∈ ws, ∀ j, hit H w = some j → R[j]? = some true) (i : Nat) : R[i]? = some true ↔ Rch H ws i := by
  refine ⟨h.sound i, fun hr => ?_⟩
  induction hr with
  | root w i hm hh => exact hw w hm i hh
  | step j i w c hj hc hm hh ih => exact h.shut j c ih (by simp) (fun f => f) hc w hm i hh
end
/-- marking a word: marked, open, needed -/
def markP (H : List (Option Hc)) (s : List Bool × List Nat × Nat) (w : Nat) : List Bool × List Nat × Nat :=
  match hit H w with
  | none => s
  | some i => if s.1[i]? = some false then (s.1.set i true, s.2.1 ++ [i], s.2.2 + needO ((H[i]?).getD none)) else s
/-- one marking in all its ways -/
structure Mk (H : List (Option Hc)) (ws : List Nat) (s : List Bool × List Nat × Nat) (cur : Nat → Prop) : Prop where
  inv : Rinv H ws s.1 s.2.1 cur
  need : s.2.2 = needR H s.1
theorem Rinv.get {H : List (Option Hc)} {ws : List Nat} {R : List Bool} {O : List Nat} {cur : Nat → Prop} (h : Rinv H ws R O cur) {i : Nat} {c : Hc} (hc : H[i]? = some (some c)) : R[i]? = some true ∨ R[i]? = some false := by
  have hi : i < R.length := by rw [h.len]; exact (List.getElem?_eq_some_iff.1 hc).1
  rw [List.getElem?_eq_getElem hi]
  cases R[i] <;> simp
theorem hit_live {H : List (Option Hc)} {w i : Nat} (hh : hit H w = some i) : ∃ c, H[i]? = some (some c) := (Rch.root (ws := [w]) w i (by simp) hh).live
theorem Mk.mark {H : List (Option Hc)} {ws : List Nat} {s : List Bool × List Nat × Nat} {cur : Nat → Prop} (h : Mk H ws s cur) (w : Nat) (hw : ∀ i, hit H w = some i → Rch H ws i) : Mk H ws (markP H s w) cur ∧ (∀ j, hit H w = some j → (markP H s w).1[j]? = some true) ∧ (∀ j : Nat, s.1[j]? = some true → (markP H s w).1[j]? = some true) ∧ 2 * unmarked (markP H s w).1 + (markP H s w).2.1.length ≤ 2 * unmarked s.1 + s.2.1.length := by
  unfold markP
  cases hh : hit H w with
  | none =>
    refine ⟨h, ?_, fun j e => e, Nat.le_refl _⟩
    intro j e; cases e
  | some i =>
    obtain ⟨c, hc⟩ := hit_live hh
    simp only
    by_cases hr : s.1[i]? = some false
    · rw [if_pos hr]
      refine ⟨⟨h.inv.mark (hw i hh) hr, ?_⟩, ?_, fun j e => set_true e, ?_⟩
      · show s.2.2 + _ = _
        rw [hc, needR_set H s.1 i (some c) h.inv.len hc hr, h.need]; rfl
      · intro j e; cases e
        show (s.1.set i true)[i]? = _
        rw [List.getElem?_set_self (List.getElem?_eq_some_iff.1 hr).1]
      · have := unmarked_set s.1 i hr
        show 2 * unmarked (s.1.set i true) + (s.2.1 ++ [i]).length ≤ _
        rw [List.length_append]
        simp only [List.length_cons, List.length_nil]
        omega
    · rw [if_neg hr]
      refine ⟨h, ?_, fun j e => e, Nat.le_refl _⟩
      intro j e; cases e
      rcases h.inv.get hc with e | e
      · exact e
      · exact absurd e hr
/-- marking a list -/
theorem Mk.marks {H : List (Option Hc)} {ws : List Nat} {cur : Nat → Prop} (l : List Nat) (hl : ∀ w ∈ l, ∀ i, hit H w = some i → Rch H ws i) (s : List Bool × List Nat × Nat) (h : Mk H ws s cur) : Mk H ws (l.foldl (markP H) s) cur ∧ (∀ w ∈ l, ∀ j, hit H w = some j → (l.foldl (markP H) s).1[j]? = some true) ∧ (∀ j : Nat, s.1[j]? = some true → (l.foldl (markP H) s).1[j]? = some true) ∧ 2 * unmarked (l.foldl (markP H) s).1 + (l.foldl (markP H) s).2.1.length ≤ 2 * unmarked s.1 + s.2.1.length := by
  induction l generalizing s with
  | nil => exact ⟨h, fun w hw => absurd hw (by simp), fun j e => e, Nat.le_refl _⟩
  | cons w l ih =>
    obtain ⟨h1, h2, h3, h4⟩ := h.mark w (hl w (by simp))
    obtain ⟨g1, g2, g3, g4⟩ := ih (fun v hv => hl v (by simp [hv])) _ h1
    refine ⟨g1, ?_, fun j e => g3 j (h3 j e), by rw [List.foldl_cons]; omega⟩
    intro v hv j e
    rcases List.mem_cons.1 hv with rfl | hv
    · exact g3 j (h2 j e)
    · exact g2 v hv j e
theorem Mk.start (H : List (Option Hc)) (ws : List Nat) : Mk H ws (List.replicate H.length false, [], 0) (fun _ => False) := by
  refine ⟨⟨by simp, ?_, by simp, ?_⟩, (needR_false H _).symm⟩
  · intro i hi; simp [List.getElem?_replicate] at hi
  · intro i c hi; simp [List.getElem?_replicate] at hi
end Go.Proofs.Ytaebnnkhjlidiaa.W
/- Package heap: the closure that marks. -/
namespace Go.Proofs.Ytaebnnkhjlidiaa.W
open Go.ChangeShapes Go.WideShapes Go.RowKit Go.Shelf
set_option linter.unusedVariables false
/-- what reach works on: its boxes, its rows, all from B0 on -/
structure RSt (W : World) (B0 Bh Br Bn Bo hb : Nat) (vr vo : Value) (s : List Bool × List Nat × Nat) : Prop where
  bh : Boxed W Bh 31 (.pointer (some ⟨hb, 0, none⟩))
  br : Boxed W Br 60 vr
  bn : Boxed W Bn 3 (.int .i64 (s.2.2 : Nat))
  bo : Boxed W Bo 30 vo
  rrow : W.ownsRow B0 4 1 vr s.1.length (s.1.map .bool)
  orow : W.ownsRow B0 3 1 vo s.2.1.length (s.2.1.map (fun i => .int .i64 (i : Nat)))
  ne : vo.ownBlock ≠ some Bn
  l1 : B0 ≤ Bh
  l2 : B0 ≤ Br
  l3 : B0 ≤ Bn
  l4 : B0 ≤ Bo
/-- what marking may change -/
def RB (Bn Bo : Nat) (vr vo : Value) : Nat → Prop := fun k => k = Bn ∨ k = Bo ∨ vr.ownBlock = some k ∨ vo.ownBlock = some k
/-- a heap lies wholly below B0 -/
structure Low (B0 hb : Nat) (vc : Value) (T : Nat → Prop) : Prop where
  hb : hb < B0
  vc : ∀ k, vc.ownBlock = some k → k < B0
  st : ∀ k, T k → k < B0
section
variable {W W' : World} {hb sb B0 Bh Br Bn Bo : Nat} {vc vr vo : Value} {T : Nat → Prop} {H : List (Option Hc)} {u h : Nat} {s : List Bool × List Nat × Nat}
theorem HLay.low (g : HLay W hb sb vc T H u h) (l : Low B0 hb vc T) (hb' : Below B0 W W') : HLay W' hb sb vc T H u h :=
  g.kept hb'.size (hb'.block _ l.hb) (fun k e => hb'.block k (l.vc k e)) (fun k e => hb'.block k (l.st k e))
theorem RSt.below (r : RSt W B0 Bh Br Bn Bo hb vr vo s) (hb' : Below W.heap.size W W') : RSt W' B0 Bh Br Bn Bo hb vr vo s := by
  have k : ∀ {B t v}, Boxed W B t v → Boxed W' B t v := fun b => box_of (hb'.block _ b.lt) b
  exact ⟨k r.bh, k r.br, k r.bn, k r.bo, owns_on r.rrow (fun _ e => hb'.block _ (r.rrow.lt _ e).2), owns_on r.orow (fun _ e => hb'.block _ (r.orow.lt _ e).2), r.ne, r.l1, r.l2, r.l3, r.l4⟩
theorem RSt.need {R : List Bool} {O : List Nat} {m n : Nat} (r : RSt W B0 Bh Br Bn Bo hb vr vo (R, O, m)) (hw : IntKind.i64.wrap ((m : Int) + (n : Nat)) = ((m + n : Nat) : Int)) : RSt (W.setCell ⟨Bn, 0, none⟩ (.int .i64 ((m : Nat) + (n : Nat) : Int))).drew B0 Bh Br Bn Bo hb vr vo (R, O, m + n) := by
  have hne : ∀ {B t v}, Boxed W B t v → t ≠ 3 → Boxed (W.setCell ⟨Bn, 0, none⟩ (.int .i64 ((m : Nat) + (n : Nat) : Int))) B t v := by
    intro B t v hbx ht
    refine box_set hbx ?_
    rintro rfl
    have := r.bn
    unfold Boxed at this hbx
    rw [this] at hbx
    cases hbx
    exact ht rfl
  have hrow : ∀ {k}, vr.ownBlock = some k → k ≠ Bn := by
    rintro k e rfl
    rcases r.rrow.2 with ⟨h0, _⟩ | ⟨g', cap', cur, h0, _, hgg, _⟩
    · rw [h0] at e; cases e
    · rw [h0] at e
      cases e
      have := r.bn
      unfold Boxed at this
      rw [hgg] at this
      cases this
  refine ⟨hne r.bh (by decide), hne r.br (by decide), ?_, hne r.bo (by decide), owns_on r.rrow (fun k e => Below.heap_setCell _ _ _ _ (hrow e)), owns_on r.orow (fun k e => Below.heap_setCell _ _ _ _ (by rintro rfl; exact r.ne e)), r.ne, r.l1, r.l2, r.l3, r.l4⟩
  have e : (((m, n).1 + (m, n).2 : Nat) : Int) = (m : Int) + (n : Nat) := by simp
  have := r.bn.set (.int .i64 ((m : Nat) + (n : Nat) : Int))
  show Boxed _ Bn 3 (.int .i64 ((m + n : Nat) : Int))
  rw [Int.natCast_add]
  exact this
theorem RSt.push {R : List Bool} {O : List Nat} {m : Nat} (r : RSt W B0 Bh Br Bn Bo hb vr vo (R, O, m)) (hB : B0 ≤ W.heap.size) (hO : O.length ≤ 100000000) (i : Nat) (ty : TypeId) :
    ∃ v' w', (Builtin.append_ #[30, 30] ty #[vo, .slice (some ⟨W.heap.size, 0, none⟩) 1 1]).run Try.prog (W.alloc (.cells #[.int .i64 (i : Nat)] 3)) = .ok v' w' ∧ w'.cell? ⟨Bo, 0, none⟩ = some vo ∧ w'.frozen? ⟨Bo, 0, none⟩ = false ∧ RSt (w'.setCell ⟨Bo, 0, none⟩ v') B0 Bh Br Bn Bo hb vr v' (R, O ++ [i], m) ∧ Upd (RB Bn Bo vr vo) W (w'.setCell ⟨Bo, 0, none⟩ v') ∧ ∀ k, v'.ownBlock = some k → vo.ownBlock = some k ∨ W.heap.size ≤ k := by
  obtain ⟨i0, hi, hz0, hz1, hz2⟩ := info_parts info3
  have ra : RSt (W.alloc (.cells #[.int .i64 (i : Nat)] 3)) B0 Bh Br Bn Bo hb vr vo (R, O, m) := r.below ((Below.refl _ W).alloc (Nat.le_refl _) _)
  have hnew : (W.alloc (.cells #[.int .i64 (i : Nat)] 3)).cell? ((⟨W.heap.size, 0, none⟩ : Addr).add 0) = some (.int .i64 (i : Nat)) := by simp [Addr.add]
  obtain ⟨v', w', hr, ho, hg, hat⟩ := append_at (P := Try.prog) (W.alloc (.cells #[.int .i64 (i : Nat)] 3)) 30 ty 3 i0 (.int .i64 0) 1 8 under34 hi hz0 hz1 hz2 rfl (by decide) vo O.length _ (owns_base ra.orow (b' := 0) (fun _ _ => Nat.zero_le _)) ⟨W.heap.size, 0, none⟩ 1 1 [.int .i64 (i : Nat)] rfl (by
    intro j x hj
    match j, hj with
    | 0, hj => simp at hj; subst hj; exact hnew) (by intro x hx; simp at hx; subst hx; rfl) (by decide) (by decide) (by omega)
  have hU : Upd (fun k => vo.ownBlock = some k) (W.alloc (.cells #[.int .i64 (i : Nat)] 3)) w' := (Upd.refl _ _).grown hg (fun k e => .inl e)
  have hbk : ∀ {B t v}, Boxed (W.alloc (.cells #[.int .i64 (i : Nat)] 3)) B t v → vo.ownBlock ≠ some B → Boxed w' B t v := fun b hn => box_of (hU.block _ b.lt (fun e => hn e)) b
  have nh := own_ne (owns_base ra.orow (b' := 0) (fun _ _ => Nat.zero_le _)) ra.bh (by decide)
  have nr := own_ne (owns_base ra.orow (b' := 0) (fun _ _ => Nat.zero_le _)) ra.br (by decide)
  have no := own_ne (owns_base ra.orow (b' := 0) (fun _ _ => Nat.zero_le _)) ra.bo (by decide)
  have b1 := hbk ra.bh nh.symm
  have b2 := hbk ra.br nr.symm
  have b3 := hbk ra.bn ra.ne
  have b4 := hbk ra.bo no.symm
  have rr : w'.ownsRow B0 4 1 vr R.length (R.map .bool) := by
    refine owns_on ra.rrow (fun k e => hU.block k (ra.rrow.lt k e).2 ?_)
    intro e2
    rcases ra.rrow.2 with ⟨h0, _⟩ | ⟨g', cap', cur, h0, _, hgg, _⟩
    · rw [h0] at e; cases e
    · rw [h0] at e
      cases e
      exact own_ne (owns_base ra.orow (b' := 0) (fun _ _ => Nat.zero_le _)) hgg (by decide) e2.symm
  have hUw : Upd (RB Bn Bo vr vo) W w' := ((Upd.refl _ W).alloc _).trans' (hU.mono (fun k e => .inr (.inr (.inr e))))
  have hbs : ∀ {B t v}, Boxed w' B t v → t ≠ 30 → Boxed (w'.setCell ⟨Bo, 0, none⟩ v') B t v := by
    intro B t v hbx ht
    refine box_set hbx ?_
    rintro rfl
    unfold Boxed at b4 hbx
    rw [b4] at hbx
    cases hbx
    exact ht rfl
  have hv' : v'.ownBlock ≠ some Bo := (own_ne ho b4 (by decide)).symm
  have lo : ∀ k, v'.ownBlock = some k → B0 ≤ k := by
    intro k e
    rcases hat k e with e | e
    · exact (ra.orow.lt k e).1
    · have := e.1; rw [World.size_alloc] at this; omega
  refine ⟨v', w', hr, b4.cell, b4.frozen, ⟨hbs b1 (by decide), hbs b2 (by decide), hbs b3 (by decide), b4.set _, ?_, ?_, ?_, r.l1, r.l2, r.l3, r.l4⟩, ?_, ?_⟩
  · refine owns_on rr (fun k e => Below.heap_setCell _ _ _ _ ?_)
    rintro rfl
    exact own_ne (owns_base rr (b' := 0) (fun _ _ => Nat.zero_le _)) b4 (by decide) e.symm
  · show World.ownsRow _ B0 _ 1 v' (O ++ [i]).length ((O ++ [i]).map (fun i => .int .i64 (i : Nat)))
    rw [List.length_append, List.map_append]
    refine owns_on (owns_base ho lo) (fun k e => Below.heap_setCell _ _ _ _ ?_)
    rintro rfl
    exact hv' e
  · intro e
    rcases hat Bn e with e | e
    · exact r.ne e
    · have h2 := r.bn.lt
      have := e.1; rw [World.size_alloc] at this; omega
  · exact hUw.setCell (p := ⟨Bo, 0, none⟩) (.inl (.inr (.inl rfl))) v'
  · intro k e
    rcases hat k e with e | e
    · exact .inl e
    · right; have := e.1; rw [World.size_alloc] at this; omega
set_option maxRecDepth 20000 in
set_option maxHeartbeats 1000000 in
theorem mark_c (g : HLay W hb sb vc T H u h) (l : Low B0 hb vc T) (r : RSt W B0 Bh Br Bn Bo hb vr vo s) (hB0 : B0 ≤ W.heap.size) (hRl : s.1.length = H.length) (hn : s.2.2 ≤ 100000000) (hO : s.2.1.length ≤ 100000000) (w : Nat) (hw : w < 18446744073709551616) :
    Calls Try.prog 43 #[.int .u64 w, .pointer (some ⟨Bh, 0, none⟩), .pointer (some ⟨Br, 0, none⟩), .pointer (some ⟨Bn, 0, none⟩), .pointer (some ⟨Bo, 0, none⟩)] W fun e w' => e = .returned (.tuple #[]) ∧ Upd (RB Bn Bo vr vo) W w' ∧ ∃ vo', RSt w' B0 Bh Br Bn Bo hb vr vo' (markP H s w) ∧ ∀ k, vo'.ownBlock = some k → vo.ownBlock = some k ∨ W.heap.size ≤ k := by
  have cf := find_c g w hw
  have ch := r.bh.cell
  have cr := r.br.cell
  unfold markP
  cases hh : hit H w with
  | none =>
    rw [hh] at cf
    simp only [Option.getD_none, Option.isSome_none] at cf ⊢
    have HR := hid r
    clear r g hh
    go_enter Try.func43, Try.ntmps43
    go_wp2_with (go_at_call 28; (with_reducible refine cf.mono ?_); rintro e w' ⟨rfl, rfl⟩)
    refine bodyPost_ret (results_none rfl _ _ _) rfl ?_
    exact ⟨rfl, Upd.refl _ _, _, HR.out, fun k e => .inl e⟩
  | some i =>
    rw [hh] at cf
    obtain ⟨c, hc⟩ := hit_live hh
    simp only [Option.getD_some, Option.isSome_some] at cf ⊢
    have hi : i < H.length := (List.getElem?_eq_some_iff.1 hc).1
    have hlen := g.len
    obtain ⟨gR, cap, hvr, hcap⟩ := own_slice (owns_base r.rrow (b' := 0) (fun _ _ => Nat.zero_le _)) (by omega)
    subst hvr
    have hcell := r.rrow.cellAt i (by omega)
    have hfr := r.rrow.frozenAt i
    have i0 : (0 : Int) ≤ i := by omega
    have i1 : (i : Int) < s.1.length := by omega
    rw [List.getElem?_map] at hcell
    have hsi : i < s.1.length := by omega
    cases hb1 : s.1[i] with
    | true =>
      have e1 : s.1[i]? = some true := by rw [List.getElem?_eq_getElem hsi, hb1]
      rw [e1] at hcell ⊢
      simp only [Option.map_some] at hcell
      rw [if_neg (by decide)]
      have HR := hid r
      clear r g hh e1
      go_enter Try.func43, Try.ntmps43
      go_wp2_with (go_at_call 28; (with_reducible refine cf.mono ?_); rintro e w' ⟨rfl, rfl⟩)
      refine bodyPost_ret (results_none rfl _ _ _) rfl ?_
      exact ⟨rfl, Upd.refl _ _, _, HR.out, fun k e => .inl e⟩
    | false =>
      have e1 : s.1[i]? = some false := by rw [List.getElem?_eq_getElem hsi, hb1]
      rw [e1] at hcell ⊢
      simp only [Option.map_some] at hcell
      rw [if_pos rfl, hc]
      have hg1 := g.upd ((Upd.refl (fun k => k = gR) W).setCell (p := ⟨gR, i, none⟩) (.inl rfl) (.bool true)) (by have := l.hb; have := (r.rrow.lt gR rfl).1; omega) (fun k e => by have := l.vc k e; have := (r.rrow.lt gR rfl).1; omega) (fun k e => by have := l.st k e; have := (r.rrow.lt gR rfl).1; omega)
      have hBW : Upd (RB Bn Bo (.slice (some ⟨gR, 0, none⟩) s.1.length cap) vo) W (W.setCell ⟨gR, i, none⟩ (.bool true)) := (Upd.refl _ W).setCell (p := ⟨gR, i, none⟩) (.inl (.inr (.inr (.inl rfl)))) (.bool true)
      have hr1 : RSt (W.setCell ⟨gR, i, none⟩ (.bool true)) B0 Bh Br Bn Bo hb (.slice (some ⟨gR, 0, none⟩) s.1.length cap) vo (s.1.set i true, s.2.1, s.2.2) := by
        have hne : ∀ {B t v}, Boxed W B t v → t ≠ 4 → Boxed (W.setCell ⟨gR, i, none⟩ (.bool true)) B t v := by
          intro B t v hbx ht
          refine box_set hbx ?_
          rintro rfl
          rcases r.rrow.2 with ⟨h0, _⟩ | ⟨g', cap', cur, h0, _, hgg, _⟩
          · cases h0
          · cases h0
            unfold Boxed at hbx
            rw [hgg] at hbx
            cases hbx
            exact ht rfl
        have hst := (r.rrow.stored i (.bool true)).1
        refine ⟨hne r.bh (by decide), hne r.br (by decide), hne r.bn (by decide), hne r.bo (by decide), ?_, ?_, r.ne, r.l1, r.l2, r.l3, r.l4⟩
        · show World.ownsRow _ B0 _ 1 _ (s.1.set i true).length ((s.1.set i true).map .bool)
          rw [List.length_set, List.map_set]
          exact hst
        · refine owns_on r.orow (fun k e => Below.heap_setCell _ _ _ _ ?_)
          rintro rfl
          rcases r.rrow.2 with ⟨h0, _⟩ | ⟨g', cap', cur, h0, _, hgg, _⟩
          · cases h0
          · cases h0
            rcases r.orow.2 with ⟨h1, _⟩ | ⟨g'', cap'', cur'', h1, _, hgg', _⟩
            · rw [h1] at e; cases e
            · rw [h1] at e
              cases e
              rw [hgg] at hgg'
              cases hgg'
      go_enter Try.func43, Try.ntmps43
      go_upto_region 3 with (go_at_call 28; (with_reducible refine cf.mono ?_); rintro e w' ⟨rfl, hw⟩; (have hw' := hw.symm); subst hw'; clear hw)
      clear cf ch cr hcell hfr r g
      generalize World.setCell _ _ _ = W1 at *
      have ch := hr1.bh.cell
      have cn := hr1.bn.cell
      have fn := hr1.bn.frozen
      have cb := bytes_c (hg1.same (W' := W1.drew) rfl) i c hc
      have cu := unitsOf_c c.bytes.length (by have := Hc.bytes_len (hg1.ok i c hc); omega) W1.drew
      have hnd : 1 + (c.bytes.length + 7) / 8 = c.need := rfl
      rw [hnd] at cu
      have hnle : c.need ≤ 100000000 := by have := Hc.bytes_len (hg1.ok i c hc); unfold Hc.need; omega
      have hws : IntKind.i64.wrap (((s.2.2 : Nat) : Int) + (c.need : Nat)) = ((s.2.2 + c.need : Nat) : Int) := by rw [IntKind.wrap_i64]; omega
      have k8 : ∀ v : Value, (W1.drew.setCell ⟨Bn, 0, none⟩ v).cell? ⟨Bn, 0, none⟩ = some v := fun v => World.cell?_setCell_same' _ _ _ (by show (W1.cell? _).isSome = true; rw [cn]; rfl)
      go_region_with (first | (go_at_call 41; (with_reducible refine cb.mono ?_); rintro e w' ⟨rfl, hw⟩; (have hw' := hw.symm); subst hw'; clear hw) | (go_at_call 19; (with_reducible refine cu.mono ?_); rintro e w' ⟨rfl, hw⟩; (have hw' := hw.symm); subst hw'; clear hw))
      all_goals (
        have hr2 : RSt (W1.setCell ⟨Bn, 0, none⟩ (.int .i64 ((s.2.2 : Nat) + (c.need : Nat) : Int))).drew B0 Bh Br Bn Bo hb (.slice (some ⟨gR, 0, none⟩) s.1.length cap) vo (s.1.set i true, s.2.1, s.2.2 + c.need) := hr1.need hws
        have hBW2 : Upd (RB Bn Bo (.slice (some ⟨gR, 0, none⟩) s.1.length cap) vo) W (W1.setCell ⟨Bn, 0, none⟩ (.int .i64 ((s.2.2 : Nat) + (c.need : Nat) : Int))).drew := (hBW.setCell (p := ⟨Bn, 0, none⟩) (.inl (.inl rfl)) _).drew
        clear k8 cn fn ch cb cu hr1 hg1 hBW
        generalize World.drew (World.setCell W1 _ _) = W2 at *
        have co := hr2.bo.cell
        have fo := hr2.bo.frozen
        obtain ⟨v', W4, hrun, c4, f4, hr4, hB4, hnw⟩ := hr2.push (by have := hBW2.size; omega) hO i 30
        obtain ⟨oo, co', hvo⟩ := slice_of (owns_base hr2.orow (b' := 0) (fun _ _ => Nat.zero_le _))
        rw [hvo] at hrun c4 co
        obtain ⟨g4, cap4, hv4, _⟩ := own_slice (owns_base hr4.orow (b' := 0) (fun _ _ => Nat.zero_le _)) (by simp)
        subst hv4
        have hl1 : (s.2.1 ++ [i]).length = s.2.1.length + 1 := by simp
        rw [hl1, hRl] at hr4
        rw [hl1] at hrun hB4 hnw
        rw [hRl] at hB4 hBW2
        have HR := hid hr4
        have HB := hid (hBW2.trans' hB4)
        have HN := hid (show ∀ k, _ = some k → vo.ownBlock = some k ∨ W.heap.size ≤ k from fun k e => (hnw k e).imp_right (fun e => by have := hBW2.size; omega))
        clear hr2 hBW2 hB4 hr4 hnw
        go_wp2_with (at_builtin; refine Lib.wpList_append_run _ rfl (.tmp 31) (.tmp 33) 30 30 rfl _ _ (by simp [Act.eval]) (by simp [Act.eval]) _ _ hrun ?_)
        refine bodyPost_end (results_none rfl _ _ _) rfl ?_
        exact ⟨rfl, by rw [← hvo]; exact HB.out, _, HR.out, by rw [← hvo]; exact HN.out⟩)
end
end Go.Proofs.Ytaebnnkhjlidiaa.W
/- Package heap: reach. -/
namespace Go.Proofs.Ytaebnnkhjlidiaa.W
open Go.ChangeShapes Go.WideShapes Go.RowKit Go.Shelf
set_option linter.unusedVariables false
/-- a slice of words that can be read -/
def WordsAt (W : World) (v : Value) (ws : List Nat) : Prop := ∃ o cap, v = .slice o ws.length cap ∧ ws.length ≤ 1000000000000 ∧ (∀ w ∈ ws, w < 18446744073709551616) ∧ ∀ i (hi : i < ws.length), ∃ x, o = some x ∧ W.cell? (x.add i) = some (.int .u64 (ws[i] : Nat))
/-- a slice of such slices -/
def ListsAt (W : World) (v : Value) (ls : List (List Nat)) : Prop := ∃ o cap, v = .slice o ls.length cap ∧ ls.length ≤ 1000000000000 ∧ ∀ i (hi : i < ls.length), ∃ x u, o = some x ∧ W.cell? (x.add i) = some u ∧ WordsAt W u ls[i]
theorem made_one (v : Value) (n : Nat) : (madeCells #[v] n).toList = List.replicate n v := by
  apply List.ext_getElem?
  intro i
  by_cases hi : i < n
  · rw [List.getElem?_replicate, if_pos hi]
    simp [madeCells, hi, Nat.mod_one]
  · rw [List.getElem?_replicate, if_neg hi]
    simp [madeCells, hi]
theorem infoB : (Try.prog.info? 4).map (fun i => (i.zero, i.size, i.bytes)) = some (some (.bool false), 1, 1) := by kernel_rfl
theorem underB : Try.prog.underlying 60 = some (.slice 4) := by kernel_rfl
theorem make_bools (w : World) (n : Nat) (hn : n ≤ 1048576) : ∃ w', (Instr.makeSlice 60 (.int .i64 (n : Int)) (.int .i64 (n : Int))).run Try.prog w = .ok (.slice (some ⟨w.heap.size, 0, none⟩) n n) w' ∧ w'.ownsRow w.heap.size 4 1 (.slice (some ⟨w.heap.size, 0, none⟩) n n) n ((List.replicate n false).map .bool) ∧ w.grownBy w' none := by
  obtain ⟨i0, hi, hz0, hz1, hz2⟩ := info_parts infoB
  obtain ⟨w', h1, h2, h3⟩ := run_makeSlice_full (P := Try.prog) w w.heap.size 60 4 i0 (.bool false) 1 underB hi hz0 hz1 .i64 .i64 n (by omega) (by rw [hz2]; omega) (by simp [maxLen]; omega) (Nat.le_refl _)
  refine ⟨w', h1, ?_, h3⟩
  have e : (madeCells (Value.bool false).cells (n * 1)).toList = (List.replicate n false).map .bool := by
    rw [Nat.mul_one, List.map_replicate]
    exact made_one _ n
  rw [← e]
  exact h2
/-- the closure, as a value -/
def markF (Bh Br Bn Bo : Nat) : Value := .func (.func 43) #[] #[.pointer (some ⟨Bh, 0, none⟩), .pointer (some ⟨Br, 0, none⟩), .pointer (some ⟨Bn, 0, none⟩), .pointer (some ⟨Bo, 0, none⟩)]
theorem RSt.box {W W' : World} {B0 Bh Br Bn Bo hb B t : Nat} {vr vo v : Value} {s : List Bool × List Nat × Nat} (r : RSt W B0 Bh Br Bn Bo hb vr vo s) (hu : Upd (RB Bn Bo vr vo) W W') (b : Boxed W B t v) (h1 : t ≠ 3) (h2 : t ≠ 30) (h3 : t ≠ 4) : Boxed W' B t v := by
  refine box_of (hu.block _ b.lt ?_) b
  rintro (rfl | rfl | e | e)
  · have := r.bn
    unfold Boxed at this b
    rw [this] at b; cases b; exact h1 rfl
  · have := r.bo
    unfold Boxed at this b
    rw [this] at b; cases b; exact h2 rfl
  · exact own_ne (owns_base r.rrow (b' := 0) (fun _ _ => Nat.zero_le _)) b (Ne.symm h3) e.symm
  · exact own_ne (owns_base r.orow (b' := 0) (fun _ _ => Nat.zero_le _)) b (Ne.symm h1) e.symm
theorem RSt.bel {W W' : World} {B0 Bh Br Bn Bo hb : Nat} {vr vo : Value} {s : List Bool × List Nat × Nat} (r : RSt W B0 Bh Br Bn Bo hb vr vo s) (hu : Upd (RB Bn Bo vr vo) W W') (hB : B0 ≤ W.heap.size) : Below B0 W W' := by
  refine hu.below hB ?_
  rintro k (rfl | rfl | e | e)
  · exact r.l3
  · exact r.l4
  · exact (r.rrow.lt k e).1
  · exact (r.orow.lt k e).1
/-- marking under way, the closure in its box, beside the heap -/
structure Rw (W0 : World) (hb sb : Nat) (vc : Value) (T : Nat → Prop) (H : List (Option Hc)) (u h Br Bn Bo Bm : Nat) (vr : Value) (ws : List Nat) (cur : Nat → Prop) (W : World) (vo : Value) (s : List Bool × List Nat × Nat) : Prop where
  lay : HLay W hb sb vc T H u h
  low : Low W0.heap.size hb vc T
  r : RSt W W0.heap.size W0.heap.size Br Bn Bo hb vr vo s
  m : Boxed W Bm 90 (markF W0.heap.size Br Bn Bo)
  bel : Below W0.heap.size W0 W
  mm : Mk H ws s cur
  sum : sumH H ≤ 100000000
section
variable {W0 W : World} {hb sb Br Bn Bo Bm : Nat} {vc vr vo : Value} {T : Nat → Prop} {H : List (Option Hc)} {u h : Nat} {ws : List Nat} {cur : Nat → Prop} {s : List Bool × List Nat × Nat}
theorem Rw.len (q : Rw W0 hb sb vc T H u h Br Bn Bo Bm vr ws cur W vo s) (hO : s.2.1.length ≤ 2 * H.length) : s.1.length = H.length ∧ s.2.2 ≤ 100000000 ∧ s.2.1.length ≤ 100000000 := by
  have h1 := q.mm.inv.len
  have h2 := q.mm.need
  have h3 := needR_le H s.1
  have h4 := q.sum
  have h5 := q.lay.len
  omega
theorem Rw.mark (q : Rw W0 hb sb vc T H u h Br Bn Bo Bm vr ws cur W vo s) (hO : 2 * unmarked s.1 + s.2.1.length ≤ 2 * H.length) (w : Nat) (hw : w < 18446744073709551616) (hr : ∀ i, hit H w = some i → Rch H ws i) :
    Calls Try.prog 43 #[.int .u64 w, .pointer (some ⟨W0.heap.size, 0, none⟩), .pointer (some ⟨Br, 0, none⟩), .pointer (some ⟨Bn, 0, none⟩), .pointer (some ⟨Bo, 0, none⟩)] W fun e w' => e = .returned (.tuple #[]) ∧ ∃ vo', Rw W0 hb sb vc T H u h Br Bn Bo Bm vr ws cur w' vo' (markP H s w) ∧ Upd (RB Bn Bo vr vo) W w' ∧ ∀ k, vo'.ownBlock = some k → vo.ownBlock = some k ∨ W.heap.size ≤ k := by
  obtain ⟨l1, l2, l3⟩ := q.len (by omega)
  refine (mark_c q.lay q.low q.r (by have := q.bel.size; omega) l1 l2 l3 w hw).mono ?_
  rintro e w' ⟨rfl, hU, vo', hr', hn⟩
  have hb' := q.r.bel hU (by have := q.bel.size; omega)
  exact ⟨rfl, vo', ⟨q.lay.low q.low hb', q.low, hr', q.r.box hU q.m (by decide) (by decide) (by decide), q.bel.trans hb', (q.mm.mark w hr).1, q.sum⟩, hU, hn⟩
end
end Go.Proofs.Ytaebnnkhjlidiaa.W
/- Package heap: plain, isValue, areValues, of right cells. -/
namespace Go.Proofs.Ytaebnnkhjlidiaa.W
open Go.ChangeShapes Go.WideShapes Go.RowKit Go.Shelf
set_option linter.unusedVariables false
theorem shape_buf (k : Int) (hk : elB k > 0) (w : World) : Calls Try.prog 36 #[.int .i64 k, .bool false] w fun e w' => e = .returned (.int .i64 3) ∧ w' = w := by
  have := shape_c k false w
  have e : shp k false = 3 := by unfold shp; rw [if_pos hk, if_neg (by decide)]
  rw [e] at this
  exact this
theorem shape_view (k : Int) (hk : elB k > 0) (w : World) : Calls Try.prog 36 #[.int .i64 k, .bool true] w fun e w' => e = .returned (.int .i64 4) ∧ w' = w := by
  have := shape_c k true w
  have e : shp k true = 4 := by unfold shp; rw [if_pos hk, if_pos rfl]
  rw [e] at this
  exact this
theorem plain_num (i : Int) (ob ow : Option Addr) (bc wc : Nat) (W : World) :
    Calls Try.prog 37 #[cellV 2 false i ByteArray.empty (.slice ob 0 bc) (.slice ow 0 wc) 0 0 0] W fun e w' => e = .returned (.bool true) ∧ Below W.heap.size W w' := by
  have cs : ∀ w, Calls Try.prog 36 #[.int .i64 2, .bool false] w fun e w' => e = .returned (.int .i64 1) ∧ w' = w := fun w => shape_c 2 false w
  unfold cellV
  go_enter Try.func37, Try.ntmps37
  go_wp2_with (go_at_call 36; (with_reducible refine (cs _).mono ?_); rintro e w' ⟨rfl, hw⟩; (have hw' := hw.symm); subst hw'; clear hw)
  go_ret
  exact ⟨rfl, (Below.refl _ W).alloc (Nat.le_refl _) _⟩
theorem plain_text (t : ByteArray) (ob ow : Option Addr) (bc wc : Nat) (W : World) :
    Calls Try.prog 37 #[cellV 4 false 0 t (.slice ob 0 bc) (.slice ow 0 wc) 0 0 0] W fun e w' => e = .returned (.bool true) ∧ Below W.heap.size W w' := by
  have cs : ∀ w, Calls Try.prog 36 #[.int .i64 4, .bool false] w fun e w' => e = .returned (.int .i64 2) ∧ w' = w := fun w => shape_c 4 false w
  unfold cellV
  go_enter Try.func37, Try.ntmps37
  go_wp2_with (go_at_call 36; (with_reducible refine (cs _).mono ?_); rintro e w' ⟨rfl, hw⟩; (have hw' := hw.symm); subst hw'; clear hw)
  go_ret
  exact ⟨rfl, (Below.refl _ W).alloc (Nat.le_refl _) _⟩
theorem plain_buf (k : Int) (hk : elB k > 0) (ob ow : Option Addr) (bl bc wc : Nat) (W : World) :
    Calls Try.prog 37 #[cellV k false 0 ByteArray.empty (.slice ob bl bc) (.slice ow 0 wc) 0 0 0] W fun e w' => e = .returned (.bool true) ∧ Below W.heap.size W w' := by
  have cs : ∀ w, Calls Try.prog 36 #[.int .i64 k, .bool false] w fun e w' => e = .returned (.int .i64 3) ∧ w' = w := fun w => shape_buf k hk w
  unfold cellV
  go_enter Try.func37, Try.ntmps37
  go_wp2_with (go_at_call 36; (with_reducible refine (cs _).mono ?_); rintro e w' ⟨rfl, hw⟩; (have hw' := hw.symm); subst hw'; clear hw)
  go_ret
  exact ⟨rfl, (Below.refl _ W).alloc (Nat.le_refl _) _⟩
theorem plain_view (k : Int) (hk : elB k > 0) (ob ow : Option Addr) (bc wc : Nat) (base p n : Int) (W : World) :
    Calls Try.prog 37 #[cellV k true 0 ByteArray.empty (.slice ob 0 bc) (.slice ow 0 wc) base p n] W fun e w' => e = .returned (.bool true) ∧ Below W.heap.size W w' := by
  have cs : ∀ w, Calls Try.prog 36 #[.int .i64 k, .bool true] w fun e w' => e = .returned (.int .i64 4) ∧ w' = w := fun w => shape_view k hk w
  unfold cellV
  go_enter Try.func37, Try.ntmps37
  go_wp2_with (go_at_call 36; (with_reducible refine (cs _).mono ?_); rintro e w' ⟨rfl, hw⟩; (have hw' := hw.symm); subst hw'; clear hw)
  go_ret
  exact ⟨rfl, (Below.refl _ W).alloc (Nat.le_refl _) _⟩
theorem plain_row (ob ow : Option Addr) (bc wl wc : Nat) (W : World) :
    Calls Try.prog 37 #[cellV 9 false 0 ByteArray.empty (.slice ob 0 bc) (.slice ow wl wc) 0 0 0] W fun e w' => e = .returned (.bool true) ∧ Below W.heap.size W w' := by
  have cs : ∀ w, Calls Try.prog 36 #[.int .i64 9, .bool false] w fun e w' => e = .returned (.int .i64 5) ∧ w' = w := fun w => shape_c 9 false w
  unfold cellV
  go_enter Try.func37, Try.ntmps37
  go_wp2_with (go_at_call 36; (with_reducible refine (cs _).mono ?_); rintro e w' ⟨rfl, hw⟩; (have hw' := hw.symm); subst hw'; clear hw)
  go_ret
  exact ⟨rfl, (Below.refl _ W).alloc (Nat.le_refl _) _⟩
/-- may a word stand in a row? -/
def isVal (H : List (Option Hc)) (w : Nat) : Bool := if cls w = 7 then false else if cls w = 6 then (hit H w).isSome else true
theorem words_below {W W' : World} {v : Value} {ws : List Nat} (h : WordsAt W v ws) (hb' : Below W.heap.size W W') : WordsAt W' v ws := by
  obtain ⟨o, cap, rfl, h1, h2, h3⟩ := h
  refine ⟨o, cap, rfl, h1, h2, fun i hi => ?_⟩
  obtain ⟨x, hx, hc⟩ := h3 i hi
  exact ⟨x, hx, below_cell hb' hc⟩
section
variable {W : World} {hb sb : Nat} {vc : Value} {T : Nat → Prop} {H : List (Option Hc)} {u h : Nat}
/-- a finder over the heap -/
theorem among_c (g : HLay W hb sb vc T H u h) (w : Nat) (hw : w < 18446744073709551616) : Calls Try.prog 23 #[.pointer (some ⟨hb, 0, none⟩), .int .u64 w] W fun e w' => (∃ f n, e = .returned (.tuple #[.int .i64 f, .int .i64 n, .bool (hit H w).isSome]) ∧ ∀ id c, hit H w = some id → H[id]? = some (some c) → f = shp c.cl.kind c.cl.view ∧ n = (c.bytes.length : Int)) ∧ Below W.heap.size W w' := by
  have cf := find_c g w hw
  cases hh : hit H w with
  | none =>
    rw [hh] at cf
    clear g hh
    go_enter Try.func23, Try.ntmps23
    go_wp2_with (go_at_call 28; (with_reducible refine cf.mono ?_); rintro e w' ⟨rfl, hw⟩; (have hw' := hw.symm); subst hw'; clear hw)
    go_ret3
    exact ⟨⟨0, 0, rfl, fun id c e => by cases e⟩, Below.refl _ _⟩
  | some id =>
    rw [hh] at cf
    obtain ⟨-, -, c, hc⟩ := hit_some hh
    have hidl : id < H.length := (List.getElem?_eq_some_iff.1 hc).1
    obtain ⟨b, cap, hvc, hcell, _⟩ := g.at hidl
    have c1 := g.cell 1
    simp only [List.getElem?_cons_succ, List.getElem?_cons_zero] at c1
    rw [hvc] at c1
    have k0 := hcell 0 _ hc (by omega)
    have k1 := hcell 1 _ hc (by omega)
    have k2 := hcell 2 _ hc (by omega)
    have k3 := hcell 3 _ hc (by omega)
    have k4 := hcell 4 _ hc (by omega)
    simp only [clO, Cl.cells, List.getElem?_cons_succ, List.getElem?_cons_zero, Nat.add_zero] at k0 k1 k2 k3 k4
    have j0 : (0 : Int) ≤ id := by omega
    have j1 : (id : Int) < H.length := by omega
    have hB : Below W.heap.size W (W.alloc (.cells #[.int .i64 c.cl.kind, .bool c.cl.view, .int .u64 c.cl.base, .int .i64 c.cl.frm, .int .i64 c.cl.len] 76)) := (Below.refl _ W).alloc (Nat.le_refl _) _
    have cb := bytes_c (g.below hB) id c hc
    have hx := fun i cc (e : some id = some i) (e2 : H[i]? = some (some cc)) => (by cases e; rw [hc] at e2; cases e2; exact ⟨rfl, rfl⟩ : shp c.cl.kind c.cl.view = shp cc.cl.kind cc.cl.view ∧ (c.bytes.length : Int) = (cc.bytes.length : Int))
    have HX := hid hx
    have HB := hid hB
    have cs := shape_c c.cl.kind c.cl.view
    have n0 := World.cell?_alloc_new W #[.int .i64 c.cl.kind, .bool c.cl.view, .int .u64 c.cl.base, .int .i64 c.cl.frm, .int .i64 c.cl.len] 76 0
    have n1 := World.cell?_alloc_new W #[.int .i64 c.cl.kind, .bool c.cl.view, .int .u64 c.cl.base, .int .i64 c.cl.frm, .int .i64 c.cl.len] 76 1
    simp only [List.getElem?_toArray, List.getElem?_cons_succ, List.getElem?_cons_zero] at n0 n1
    clear g hcell hc hh hB hx
    go_enter Try.func23, Try.ntmps23
    go_wp2_with (first | (go_at_call 28; (with_reducible refine cf.mono ?_); rintro e w' ⟨rfl, hw⟩; (have hw' := hw.symm); subst hw'; clear hw) | (go_at_call 36; (with_reducible refine (cs _).mono ?_); rintro e w' ⟨rfl, hw⟩; (have hw' := hw.symm); subst hw'; clear hw) | (go_at_call 41; (with_reducible refine cb.mono ?_); rintro e w' ⟨rfl, hw⟩; (have hw' := hw.symm); subst hw'; clear hw))
    go_ret3
    exact ⟨⟨_, _, rfl, HX.out⟩, HB.out⟩
theorem isValue_c (g : HLay W hb sb vc T H u h) (w : Nat) (hw : w < 18446744073709551616) : Calls Try.prog 31 #[.int .u64 w, (.func (.func 23) #[.pointer (some ⟨hb, 0, none⟩)] #[])] W fun e w' => e = .returned (.bool (isVal H w)) ∧ Below W.heap.size W w' := by
  have cc := class_c w (by omega) (by omega) W
  have cf := among_c g w hw
  unfold isVal
  by_cases h7 : cls (w : Int) = 7
  · rw [h7] at cc
    rw [if_pos h7]
    clear h7 cf g
    go_enter Try.func31, Try.ntmps31
    go_wp2_with (go_at_call 53; (with_reducible refine cc.mono ?_); rintro e w' ⟨rfl, rfl⟩)
    go_ret
    exact ⟨rfl, by first | exact hB2 | exact Below.refl _ _⟩
  rw [if_neg h7]
  by_cases h6 : cls (w : Int) = 6
  · rw [h6] at cc
    rw [if_pos h6]
    clear h6 h7 g
    have cf2 : Calls Try.prog 23 #[.pointer (some ⟨hb, 0, none⟩), .int .u64 w] W fun e w' => (∃ f n, e = .returned (.tuple #[.int .i64 f, .int .i64 n, .bool (hit H w).isSome])) ∧ Below W.heap.size W w' := cf.mono (fun e w' q => ⟨⟨q.1.choose, q.1.choose_spec.choose, q.1.choose_spec.choose_spec.1⟩, q.2⟩)
    clear cf
    (have cf := cf2); clear cf2
    generalize (hit H w).isSome = bb at *
    go_enter Try.func31, Try.ntmps31
    go_wp2_with (first | (go_at_call 53; (with_reducible refine cc.mono ?_); rintro e w' ⟨rfl, hw⟩; (have hw' := hw.symm); subst hw'; clear hw) | (go_at_call 23; (with_reducible refine cf.mono ?_); rintro e w' ⟨⟨ff, nn, rfl⟩, hB2⟩))
    go_ret
    exact ⟨rfl, by first | exact hB2 | exact Below.refl _ _⟩
  rw [if_neg h6]
  clear cf g
  go_enter Try.func31, Try.ntmps31
  go_wp2_with (go_at_call 53; (with_reducible refine cc.mono ?_); rintro e w' ⟨rfl, rfl⟩)
  go_ret
  exact ⟨rfl, Below.refl _ _⟩
theorem areValues_c (g : HLay W hb sb vc T H u h) (v : Value) (ws : List Nat) (hv : WordsAt W v ws) (hok : ∀ w ∈ ws, isVal H w = true) : Calls Try.prog 40 #[v, (.func (.func 23) #[.pointer (some ⟨hb, 0, none⟩)] #[])] W fun e w' => e = .returned (.bool true) ∧ Below W.heap.size W w' := by
  obtain ⟨o, cap, rfl, hl, h64, hcell⟩ := hv
  have HC := hid hcell
  have HO := hid hok
  clear hcell hok
  go_enter Try.func40, Try.ntmps40
  go_wp2
  go_loopw [9] (fun ii wr => ∃ j : Nat, j ≤ ws.length ∧ ii = .int .i64 j ∧ Below W.heap.size W wr) (fun ii _ => ws.length - (intOf ii).toNat)
  case atStart => exact ⟨0, Nat.zero_le _, rfl, Below.refl _ _⟩
  case round =>
    obtain ⟨j, hj, rfl, hBj⟩ := hrel
    have w1 : IntKind.i64.wrap ((j : Int) + 1) = (j : Int) + 1 := by rw [IntKind.wrap_i64]; omega
    by_cases hlt : j < ws.length
    · obtain ⟨x, rfl, hc0⟩ := HC.out j hlt
      have hc := below_cell hBj hc0
      have ci := isValue_c (g.below hBj) ws[j] (h64 _ (List.getElem_mem hlt))
      rw [HO.out _ (List.getElem_mem hlt)] at ci
      have j0 : (0 : Int) ≤ j := by omega
      have j1 : (j : Int) < ws.length := by omega
      have HBJ := hid hBj
      clear HC HO h64 g hc0 hBj
      generalize ws[j] = wj at *
      go_wp2_with (go_at_call 31; (with_reducible refine ci.mono ?_); rintro e w2 ⟨rfl, hB2⟩)
      go_roundw
      case rel => exact ⟨j + 1, hlt, by go_num, HBJ.out.trans (hB2.mono HBJ.out.size)⟩
      case measure => show ws.length - (j + 1 : Int).toNat < ws.length - (j : Int).toNat; omega
    · have j1 : ¬ (j : Int) < ws.length := by omega
      clear HC HO h64 g
      go_wp2
      go_ret
      exact ⟨rfl, hBj⟩
theorem right_num (g : HLay W hb sb vc T H u h) (i : Int) (ob ow : Option Addr) (bc wc : Nat)  : Calls Try.prog 22 #[.agg #[.int .i64 2, .bool false, .int .i64 i, .string ByteArray.empty, .slice ob 0 bc, .slice ow 0 wc, .int .u64 0, .int .i64 0, .int .i64 0], (.func (.func 23) #[.pointer (some ⟨hb, 0, none⟩)] #[])] W fun e w' => e = .returned (.bool true) ∧ Below W.heap.size W w' := by
  have cp := plain_num i ob ow bc wc
  have cs : ∀ w, Calls Try.prog 36 #[.int .i64 2, .bool false] w fun e w' => e = .returned (.int .i64 1) ∧ w' = w := fun w => shape_c 2 false w
  unfold cellV at cp
  have hB := (show Below W.heap.size W (W.alloc (.cells #[.int .i64 2, .bool false, .int .i64 i, .string ByteArray.empty, .slice ob 0 bc, .slice ow 0 wc, .int .u64 0, .int .i64 0, .int .i64 0] 26)) from (Below.refl _ W).alloc (Nat.le_refl _) _)
  have n0 := World.cell?_alloc_new W #[.int .i64 2, .bool false, .int .i64 i, .string ByteArray.empty, .slice ob 0 bc, .slice ow 0 wc, .int .u64 0, .int .i64 0, .int .i64 0] 26 0
  have n1 := World.cell?_alloc_new W #[.int .i64 2, .bool false, .int .i64 i, .string ByteArray.empty, .slice ob 0 bc, .slice ow 0 wc, .int .u64 0, .int .i64 0, .int .i64 0] 26 1
  simp only [List.getElem?_toArray, List.getElem?_cons_succ, List.getElem?_cons_zero] at n0 n1
  have HB := hid hB
  go_enter Try.func22, Try.ntmps22
  go_wp2_with (first | (go_at_call 37; (with_reducible refine (cp _).mono ?_); rintro e w2 ⟨rfl, hB2⟩; (have z0 := below_cell hB2 n0); (have z1 := below_cell hB2 n1); (have HB2 := hid hB2); clear hB2) | (go_at_call 36; (with_reducible refine (cs _).mono ?_); rintro e w' ⟨rfl, hw⟩; (have hw' := hw.symm); subst hw'; clear hw))
  go_ret
  exact ⟨rfl, HB.out.trans (HB2.out.mono HB.out.size)⟩
theorem right_row (g : HLay W hb sb vc T H u h) (ob ow : Option Addr) (bc wc : Nat) (ws : List Nat) (hv : WordsAt W (.slice ow ws.length wc) ws) (hl : ws.length ≤ 1048576) (hok : ∀ w ∈ ws, isVal H w = true) : Calls Try.prog 22 #[.agg #[.int .i64 9, .bool false, .int .i64 0, .string ByteArray.empty, .slice ob 0 bc, .slice ow ws.length wc, .int .u64 0, .int .i64 0, .int .i64 0], (.func (.func 23) #[.pointer (some ⟨hb, 0, none⟩)] #[])] W fun e w' => e = .returned (.bool true) ∧ Below W.heap.size W w' := by
  have cp := plain_row ob ow bc ws.length wc
  have cs : ∀ w, Calls Try.prog 36 #[.int .i64 9, .bool false] w fun e w' => e = .returned (.int .i64 5) ∧ w' = w := fun w => shape_c 9 false w
  unfold cellV at cp
  have hB := (show Below W.heap.size W (W.alloc (.cells #[.int .i64 9, .bool false, .int .i64 0, .string ByteArray.empty, .slice ob 0 bc, .slice ow ws.length wc, .int .u64 0, .int .i64 0, .int .i64 0] 26)) from (Below.refl _ W).alloc (Nat.le_refl _) _)
  have n0 := World.cell?_alloc_new W #[.int .i64 9, .bool false, .int .i64 0, .string ByteArray.empty, .slice ob 0 bc, .slice ow ws.length wc, .int .u64 0, .int .i64 0, .int .i64 0] 26 0
  have n1 := World.cell?_alloc_new W #[.int .i64 9, .bool false, .int .i64 0, .string ByteArray.empty, .slice ob 0 bc, .slice ow ws.length wc, .int .u64 0, .int .i64 0, .int .i64 0] 26 1
  have n5 := World.cell?_alloc_new W #[.int .i64 9, .bool false, .int .i64 0, .string ByteArray.empty, .slice ob 0 bc, .slice ow ws.length wc, .int .u64 0, .int .i64 0, .int .i64 0] 26 5
  simp only [List.getElem?_toArray, List.getElem?_cons_succ, List.getElem?_cons_zero] at n0 n1 n5
  have ca : ∀ w, Below W.heap.size W w → Calls Try.prog 40 #[.slice ow ws.length wc, (.func (.func 23) #[.pointer (some ⟨hb, 0, none⟩)] #[])] w fun e w' => e = .returned (.bool true) ∧ Below w.heap.size w w' := fun w hb' => areValues_c (g.below hb') _ ws (words_below hv hb') hok
  have l1 : ¬ ((ws.length : Int) > 1048576) := by omega
  clear hv
  have HB := hid hB
  go_enter Try.func22, Try.ntmps22
  go_wp2_with (first | (go_at_call 37; (with_reducible refine (cp _).mono ?_); rintro e w2 ⟨rfl, hB2⟩; (have z0 := below_cell hB2 n0); (have z1 := below_cell hB2 n1); (have z5 := below_cell hB2 n5); (have HB2 := hid hB2); clear hB2) | (go_at_call 36; (with_reducible refine (cs _).mono ?_); rintro e w' ⟨rfl, hw⟩; (have hw' := hw.symm); subst hw'; clear hw) | (go_at_call 40; (with_reducible refine (ca _ (HB.out.trans (HB2.out.mono HB.out.size))).mono ?_); rintro e w3 ⟨rfl, hB3⟩))
  go_ret
  exact ⟨rfl, (HB.out.trans (HB2.out.mono HB.out.size)).trans (hB3.mono (HB.out.trans (HB2.out.mono HB.out.size)).size)⟩
end
end Go.Proofs.Ytaebnnkhjlidiaa.W
/- Package heap: cells that are handed over; a cell of noughts; rows whose words are written. -/
namespace Go.Proofs.Ytaebnnkhjlidiaa.W
open Go.ChangeShapes Go.WideShapes Go.RowKit Go.Shelf
set_option linter.unusedVariables false
theorem row_get (ws : List Nat) (j : Nat) : (ws.flatMap le8)[j]? = (ws[j / 8]?).map (fun w => w / 256 ^ (j % 8) % 256) := by
  induction ws generalizing j with
  | nil => simp
  | cons a ws ih =>
    rw [List.flatMap_cons]
    by_cases hj : j < 8
    · rw [List.getElem?_append_left (by rw [le8_len]; exact hj), le8_get a j hj, show j / 8 = 0 by omega, show j % 8 = j by omega]
      rfl
    · rw [List.getElem?_append_right (by rw [le8_len]; omega), le8_len, ih, show j / 8 = (j - 8) / 8 + 1 by omega, show j % 8 = (j - 8) % 8 by omega, List.getElem?_cons_succ]
theorem saved_row (ws : List Nat) (i x : Nat) (hi : i < ws.length) : saved (ws.flatMap le8) (8 * i) x 8 = (ws.set i x).flatMap le8 := by
  apply List.ext_getElem?
  intro j
  rw [saved_get _ _ _ _ _ (by rw [row_len]; omega), row_get, row_get]
  by_cases hj : j / 8 = i
  · rw [if_pos (by omega), hj, List.getElem?_set_self hi, show j - 8 * i = j % 8 by omega]
    rfl
  · rw [if_neg (by omega), List.getElem?_set_ne (Ne.symm hj)]
/-- a row of which i words are written -/
def upTo (ws : List Nat) (i : Nat) : List Nat := ws.take i ++ List.replicate (ws.length - i) 0
theorem upTo_len (ws : List Nat) (i : Nat) (h : i ≤ ws.length) : (upTo ws i).length = ws.length := by
  unfold upTo; rw [List.length_append, List.length_take, List.length_replicate]; omega
theorem upTo_zero (ws : List Nat) : upTo ws 0 = List.replicate ws.length 0 := by unfold upTo; simp
theorem upTo_all (ws : List Nat) : upTo ws ws.length = ws := by unfold upTo; simp
theorem upTo_set (ws : List Nat) (i : Nat) (h : i < ws.length) : (upTo ws i).set i ws[i] = upTo ws (i + 1) := by
  apply List.ext_getElem?
  intro j
  unfold upTo
  by_cases e : j = i
  · subst e
    rw [List.getElem?_set_self (by rw [List.length_append, List.length_take, List.length_replicate]; omega), List.getElem?_append_left (by rw [List.length_take]; omega), List.getElem?_take_of_lt (by omega), List.getElem?_eq_getElem h]
  · rw [List.getElem?_set_ne (Ne.symm e)]
    by_cases c : j < i
    · rw [List.getElem?_append_left (by rw [List.length_take]; omega), List.getElem?_append_left (by rw [List.length_take]; omega), List.getElem?_take_of_lt (by omega), List.getElem?_take_of_lt (by omega)]
    · rw [List.getElem?_append_right (by rw [List.length_take]; omega), List.getElem?_append_right (by rw [List.length_take]; omega), List.length_take, List.length_take, List.getElem?_replicate, List.getElem?_replicate]
      by_cases d : j < ws.length
      · rw [if_pos (by omega), if_pos (by omega)]
      · rw [if_neg (by omega), if_neg (by omega)]
theorem upTo_lt (ws : List Nat) (i n : Nat) (h : ∀ w ∈ ws, w < n) (hn : 0 < n) : ∀ w ∈ upTo ws i, w < n := by
  intro w hw
  unfold upTo at hw
  rcases List.mem_append.1 hw with e | e
  · exact h w (List.mem_of_mem_take e)
  · rw [(List.mem_replicate.1 e).2]; exact hn
/-- a cell of noughts -/
def Hc.zero : Hc → Hc
  | .num _ => .num 0
  | .text b => .text (List.replicate b.length 0)
  | .buf k b => .buf k (List.replicate b.length 0)
  | .view k b p n => .view k b p n
  | .row ws => .row (List.replicate ws.length 0)
theorem le8_zero : le8 0 = List.replicate 8 0 := by decide
theorem zero_bytes (c : Hc) : c.zero.bytes = List.replicate c.bytes.length 0 := by
  cases c with
  | num i => show le8 _ = List.replicate (le8 _).length 0; rw [le8_len]; exact le8_zero
  | text b => rfl
  | buf k b => rfl
  | view k b p n => rfl
  | row ws =>
    show (List.replicate ws.length 0).flatMap le8 = List.replicate (ws.flatMap le8).length 0
    rw [row_len]
    generalize ws.length = n
    induction n with
    | zero => rfl
    | succ n ih => rw [List.replicate_succ, List.flatMap_cons, ih, le8_zero, List.replicate_append_replicate, show 8 + 8 * n = 8 * (n + 1) by omega]
theorem zero_cl (c : Hc) : c.zero.cl = c.cl := by cases c <;> rfl
theorem zero_ok {c : Hc} (h : c.ok) : c.zero.ok := by
  cases c with
  | num i => exact ⟨by omega, by omega⟩
  | text b => exact ⟨fun x hx => by rw [(List.mem_replicate.1 hx).2]; omega, by rw [List.length_replicate]; exact h.2⟩
  | buf k b => exact ⟨h.1, fun x hx => by rw [(List.mem_replicate.1 hx).2]; omega, by rw [List.length_replicate]; exact h.2.2⟩
  | view k b p n => exact h
  | row ws => exact ⟨fun x hx => by rw [(List.mem_replicate.1 hx).2]; omega, by rw [List.length_replicate]; exact h.2⟩
theorem upd_cell {S : Nat → Prop} {W W' : World} {p : Addr} {v : Value} (hu : Upd S W W') (h : W.cell? p = some v) (hs : ¬ S p.block) : W'.cell? p = some v := by
  rcases Nat.lt_or_ge p.block W.heap.size with c | c
  · rw [World.cell?_of_block (hu.block _ c hs)]; exact h
  · unfold World.cell? at h
    rw [Array.getElem?_eq_none c] at h
    cases h
/-- a slice does not lie in S -/
def OutOf (S : Nat → Prop) (v : Value) : Prop := ∀ o n cap, v = .slice (some o) n cap → ¬ S o.block
theorem words_upd {S : Nat → Prop} {W W' : World} {v : Value} {ws : List Nat} (h : WordsAt W v ws) (hu : Upd S W W') (ho : OutOf S v) : WordsAt W' v ws := by
  obtain ⟨o, cap, rfl, h1, h2, h3⟩ := h
  refine ⟨o, cap, rfl, h1, h2, fun i hi => ?_⟩
  obtain ⟨x, rfl, hc⟩ := h3 i hi
  exact ⟨x, rfl, upd_cell hu hc (by have := ho x _ _ rfl; unfold Addr.add; split <;> exact this)⟩
/-- a slice of bytes that can be read -/
def BytesAt (W : World) (v : Value) (bs : List Nat) : Prop := ∃ o cap, v = .slice o bs.length cap ∧ (∀ b ∈ bs, b < 256) ∧ ∀ i (hi : i < bs.length), ∃ x, o = some x ∧ W.cell? (x.add i) = some (.int .u8 (bs[i] : Nat))
theorem bytes_upd {S : Nat → Prop} {W W' : World} {v : Value} {bs : List Nat} (h : BytesAt W v bs) (hu : Upd S W W') (ho : OutOf S v) : BytesAt W' v bs := by
  obtain ⟨o, cap, rfl, h1, h3⟩ := h
  refine ⟨o, cap, rfl, h1, fun i hi => ?_⟩
  obtain ⟨x, rfl, hc⟩ := h3 i hi
  exact ⟨x, rfl, upd_cell hu hc (by have := ho x _ _ rfl; unfold Addr.add; split <;> exact this)⟩
/-- a cell as it is handed over: v, outside S -/
def CellAt (W : World) (S : Nat → Prop) (v : Value) : Hc → Prop
  | .num i => ∃ ob bc ow wc, v = cellV 2 false i ByteArray.empty (.slice ob 0 bc) (.slice ow 0 wc) 0 0 0
  | .text b => ∃ t ob bc ow wc, v = cellV 4 false 0 t (.slice ob 0 bc) (.slice ow 0 wc) 0 0 0 ∧ b = t.data.toList.map UInt8.toNat
  | .buf k b => ∃ ob bc ow wc, v = cellV k false 0 ByteArray.empty (.slice ob b.length bc) (.slice ow 0 wc) 0 0 0 ∧ BytesAt W (.slice ob b.length bc) b ∧ OutOf S (.slice ob b.length bc)
  | .view k base p n => ∃ ob bc ow wc, v = cellV k true 0 ByteArray.empty (.slice ob 0 bc) (.slice ow 0 wc) base p n
  | .row ws => ∃ ob bc ow wc, v = cellV 9 false 0 ByteArray.empty (.slice ob 0 bc) (.slice ow ws.length wc) 0 0 0 ∧ WordsAt W (.slice ow ws.length wc) ws ∧ OutOf S (.slice ow ws.length wc)
theorem OutOf.mono {S S' : Nat → Prop} {v : Value} (h : OutOf S v) (hs : ∀ k, S' k → S k) : OutOf S' v := fun o n cap e k => h o n cap e (hs _ k)
theorem CellAt.mono {S S' : Nat → Prop} {W : World} {v : Value} {c : Hc} (h : CellAt W S v c) (hs : ∀ k, S' k → S k) : CellAt W S' v c := by
  cases c with
  | num i => exact h
  | text b => exact h
  | view k b p n => exact h
  | buf k b => obtain ⟨ob, bc, ow, wc, h1, h2, h3⟩ := h; exact ⟨ob, bc, ow, wc, h1, h2, h3.mono hs⟩
  | row ws => obtain ⟨ob, bc, ow, wc, h1, h2, h3⟩ := h; exact ⟨ob, bc, ow, wc, h1, h2, h3.mono hs⟩
theorem CellAt.upd {S S' : Nat → Prop} {W W' : World} {v : Value} {c : Hc} (h : CellAt W S v c) (hu : Upd S' W W') (hs : ∀ k, S' k → S k) : CellAt W' S v c := by
  cases c with
  | num i => exact h
  | text b => exact h
  | view k b p n => exact h
  | buf k b => obtain ⟨ob, bc, ow, wc, h1, h2, h3⟩ := h; exact ⟨ob, bc, ow, wc, h1, bytes_upd h2 hu (h3.mono hs), h3⟩
  | row ws => obtain ⟨ob, bc, ow, wc, h1, h2, h3⟩ := h; exact ⟨ob, bc, ow, wc, h1, words_upd h2 hu (h3.mono hs), h3⟩
theorem OutOf.next {S : Nat → Prop} {W W' : World} {v : Value} {n : Nat} (h : OutOf S v) (hlt : ∀ o n cap, v = .slice (some o) n cap → o.block < W.heap.size) : OutOf (Nx S W W') v := by
  rintro o n cap e (k | k)
  · exact h o n cap e k
  · have := hlt o n cap e; omega
/-- its parts, whatever cell -/
theorem CellAt.parts {S : Nat → Prop} {W : World} {v : Value} {c : Hc} (h : CellAt W S v c) (hc : c.ok) : ∃ i t ob bl bc ow wl wc, v = cellV c.cl.kind c.cl.view i t (.slice ob bl bc) (.slice ow wl wc) c.cl.base c.cl.frm c.cl.len ∧ t.size ≤ 8388608 ∧ bl ≤ 8388608 ∧ wl ≤ 1048576 ∧ sizeV c.cl.kind c.cl.view t.size bl wl = c.bytes.length := by
  have hs := shp_eq hc
  cases c with
  | num i =>
    obtain ⟨ob, bc, ow, wc, rfl⟩ := h
    refine ⟨i, ByteArray.empty, ob, 0, bc, ow, 0, wc, rfl, Nat.zero_le _, Nat.zero_le _, Nat.zero_le _, ?_⟩
    show sizeV 2 false 0 0 0 = (le8 _).length
    rw [le8_len]; decide
  | text b =>
    obtain ⟨t, ob, bc, ow, wc, rfl, hb⟩ := h
    have hl : b.length = t.size := by rw [hb, List.length_map]; rfl
    refine ⟨0, t, ob, 0, bc, ow, 0, wc, rfl, by have := hc.2; omega, Nat.zero_le _, Nat.zero_le _, ?_⟩
    show sizeV 4 false t.size 0 0 = b.length
    rw [hl]; rfl
  | buf k b =>
    obtain ⟨ob, bc, ow, wc, rfl, hb, ho⟩ := h
    refine ⟨0, ByteArray.empty, ob, b.length, bc, ow, 0, wc, rfl, Nat.zero_le _, hc.2.2, Nat.zero_le _, ?_⟩
    have e : shp k false = 3 := hs
    show sizeV k false 0 b.length 0 = b.length
    unfold sizeV
    rw [e, if_neg (by decide), if_neg (by decide), if_pos rfl]
  | view k base p n =>
    obtain ⟨ob, bc, ow, wc, rfl⟩ := h
    refine ⟨0, ByteArray.empty, ob, 0, bc, ow, 0, wc, rfl, Nat.zero_le _, Nat.zero_le _, Nat.zero_le _, ?_⟩
    have e : shp k true = 4 := hs
    show sizeV k true 0 0 0 = 0
    unfold sizeV
    rw [e, if_neg (by decide), if_neg (by decide), if_neg (by decide), if_neg (by decide)]
  | row ws =>
    obtain ⟨ob, bc, ow, wc, rfl, hb, ho⟩ := h
    refine ⟨0, ByteArray.empty, ob, 0, bc, ow, ws.length, wc, rfl, Nat.zero_le _, Nat.zero_le _, hc.2, ?_⟩
    show sizeV 9 false 0 0 ws.length = (ws.flatMap le8).length
    rw [row_len, Nat.mul_comm]; rfl
end Go.Proofs.Ytaebnnkhjlidiaa.W
/- Package heap: a range over pieces; bytes of a cell, piece by piece. -/
namespace Go.Proofs.Ytaebnnkhjlidiaa.W
open Go.ChangeShapes Go.WideShapes Go.RowKit Go.Shelf
set_option linter.unusedVariables false
theorem eg_pieces : ∀ args w, (callFunc 80 args).run Try.prog w = .ok (.enter 80 args) w := enters_of Try.func80 (by kernel_rfl) rfl
/-- the frame in which a round's body begins -/
def pAct (p1 p2 q1 q2 : Nat) (a : Act) (x y : Nat) : Act := { tmps := (((a.tmps.setIfInBounds p1 (.int .i64 (x : Int))).setIfInBounds p2 (.int .i64 (y : Int))).setIfInBounds q1 (.int .i64 (x : Int))).setIfInBounds q2 (.int .i64 (y : Int)), defers := [] }
theorem zip_two (t : Array Value) (p1 p2 : Nat) (v1 v2 : Value) : ((#[p1, p2] : Array Tmp).zip #[v1, v2]).foldl (fun t (p, v) => t.setIfInBounds p v) t = (t.setIfInBounds p1 v1).setIfInBounds p2 v2 := by
  simp
theorem pieces_law {g : Operand} {p1 p2 : Nat} {assign body : Code} {Q : Exit → Act → World → Prop} {a : Act} {W0 : World} {Bn : Nat} (nn : Nat) (hnn : nn ≤ 8388608) (hg : a.eval g = .func (.func 80) #[] #[.pointer (some ⟨Bn, 0, none⟩)])
    (I : Nat → World → Prop) (hL : ∀ i W, I i W → W.cell? ⟨Bn, 0, none⟩ = some (.int .i64 nn))
    (hI : ∀ i W W', I i W → Upd (fun k => k = W0.heap.size + 1) W W' → I i W') (h0 : I 0 W0) (q1 q2 : Nat)
    (hassign : ∀ (L x y : Nat) (W : World) (K : Act → World → Prop), K (pAct p1 p2 q1 q2 a x y) W → assign.wpIn (Fence.wide.inRound L) 7 Try.prog (Exit.then K (fun _ _ _ => False)) { tmps := (a.tmps.setIfInBounds p1 (.int .i64 (x : Int))).setIfInBounds p2 (.int .i64 (y : Int)), defers := [] } W)
    (hbody : ∀ (L : Nat) i (hi : i < pieceN nn) W, L = W0.heap.size + 1 → I i W → W0.heap.size + 2 ≤ W.heap.size → (∃ r, W.heap[L]? = some (.loop r)) → body.wpIn (Fence.wide.inRound L) 7 Try.prog (rndWay L W0.heap.size W (I (i + 1)) (fun _ _ => False)) (pAct p1 p2 q1 q2 a (pieceO nn i) (pieceW nn i)) W)
    (hdone : ∀ W, I (pieceN nn) W → W.heap[W0.heap.size]? = some (.deferred (some [])) → Q .normal { a with defers := { target := .collected W0.heap.size, args := #[] } :: a.defers } W) :
    (Code.rangeFunc g #[p1, p2] assign body).wp Try.prog Q a W0 := by
  have hlen : (piecesV nn).length = pieceN nn := by unfold piecesV; rw [List.length_map, List.length_range]
  have hget : ∀ i (hi : i < (piecesV nn).length), (piecesV nn)[i] = #[.int .i64 (pieceO nn i : Nat), .int .i64 (pieceW nn i : Nat)] := by
    intro i hi
    simp [piecesV]
  refine iter_law (pieces_iter Bn nn hnn) eg_pieces hg I (fun _ _ => False) hL hI (fun c W W' h _ => h) h0 (fun i => pAct p1 p2 q1 q2 a (pieceO nn i) (pieceW nn i)) ?_ ?_ ?_ ?_ (fun c W h => h.elim)
  · intro i hi; rw [hget i hi]; rfl
  · intro L i hi W K hK
    rw [hget i hi, zip_two]
    exact hassign L _ _ W K hK
  · intro L i hi W hLe hIi hs hr
    exact hbody L i (by rw [← hlen]; exact hi) W hLe hIi hs hr
  · intro W hW hD
    rw [hlen] at hW
    exact hdone W hW hD
theorem byte_leN (l : List Nat) (h : ∀ x ∈ l, x < 256) (j : Nat) (hj : j < l.length) : leN l / 256 ^ j % 256 = l[j] := by
  induction l generalizing j with
  | nil => simp at hj
  | cons a l ih =>
    have ha := h a (by simp)
    cases j with
    | zero => simp [leN]; omega
    | succ j =>
      have := ih (fun x hx => h x (List.mem_cons_of_mem _ hx)) j (by simpa using hj)
      have e : leN (a :: l) / 256 ^ (j + 1) = leN l / 256 ^ j := by
        rw [show 256 ^ (j + 1) = 256 * 256 ^ j by rw [Nat.pow_succ, Nat.mul_comm], ← Nat.div_div_eq_div_mul]
        congr 1
        simp [leN]; omega
      rw [e, this]; rfl
theorem saved_upTo (bs : List Nat) (h : ∀ x ∈ bs, x < 256) (o w : Nat) (ho : o + w ≤ bs.length) : saved (upTo bs o) o (leN (seg bs o w)) w = upTo bs (o + w) := by
  have hl := upTo_len bs o (by omega)
  have hs := seg_len bs o w ho
  apply List.ext_getElem?
  intro j
  rw [saved_get _ _ _ _ _ (by omega)]
  by_cases c : o ≤ j ∧ j < o + w
  · rw [if_pos c]
    have hj : j - o < (seg bs o w).length := by omega
    rw [byte_leN (seg bs o w) (fun x hx => h x (List.mem_of_mem_drop (List.mem_of_mem_take hx))) (j - o) hj]
    have e : (seg bs o w)[j - o]? = bs[j]? := by rw [seg_get _ _ _ _ (by omega), show o + (j - o) = j by omega]
    rw [List.getElem?_eq_getElem hj] at e
    rw [e]
    unfold upTo
    rw [List.getElem?_append_left (by rw [List.length_take]; omega), List.getElem?_take_of_lt (by omega)]
  · rw [if_neg c]
    unfold upTo
    by_cases d : j < o
    · rw [List.getElem?_append_left (by rw [List.length_take]; omega), List.getElem?_append_left (by rw [List.length_take]; omega), List.getElem?_take_of_lt (by omega), List.getElem?_take_of_lt (by omega)]
    · rw [List.getElem?_append_right (by rw [List.length_take]; omega), List.getElem?_append_right (by rw [List.length_take]; omega), List.length_take, List.length_take, List.getElem?_replicate, List.getElem?_replicate]
      by_cases f : j < bs.length
      · rw [if_pos (by omega), if_pos (by omega)]
      · rw [if_neg (by omega), if_neg (by omega)]
/-- bytes that can be read -/
def ByteRow (W : World) (o : Option Addr) (bs : List Nat) : Prop := bs = [] ∨ ∃ g p, o = some ⟨g, p, none⟩ ∧ ∀ i (hi : i < bs.length), W.cell? ⟨g, p + i, none⟩ = some (.int .u8 (bs[i] : Nat))
theorem byteRow_upd {S : Nat → Prop} {W W' : World} {o : Option Addr} {bs : List Nat} (h : ByteRow W o bs) (hu : Upd S W W') (ho : ∀ x, o = some x → ¬ S x.block) : ByteRow W' o bs := by
  rcases h with h | ⟨g, p, rfl, hc⟩
  · exact .inl h
  · exact .inr ⟨g, p, rfl, fun i hi => upd_cell hu (hc i hi) (show ¬ S g from ho ⟨g, p, none⟩ rfl)⟩
end Go.Proofs.Ytaebnnkhjlidiaa.W
