import Derived.Test.YtfooijjfjmpigaaGreatDoorKE
import Derived.Test.YtfooijjfjmpigaaGreatDoorKA
/- Stage 12, TreeKids: the places of kids, in plain words. -/
namespace Go.Proofs.YtfooijjfjmpigaaGreatDoor.W.Tr
set_option linter.unusedVariables false
/-- where the trees of a row begin, the first one at b -/
def plF : Fo → Nat → List Nat
  | .nil, _ => []
  | .cons n ks r, b => b :: plF r (b + 1 + (rowF ks).length)
theorem plF_len : ∀ (f : Fo) (b : Nat), (plF f b).length = f.len
  | .nil, b => rfl
  | .cons n ks r, b => by
    show (plF r _).length + 1 = r.len + 1
    rw [plF_len r]
theorem plF_in : ∀ (f : Fo) (b k : Nat), k ∈ plF f b → b ≤ k ∧ k < b + (rowF f).length
  | .nil, b, k, h => by cases h
  | .cons n ks r, b, k, h => by
    simp only [plF, List.mem_cons] at h
    have e : (rowF (Fo.cons n ks r)).length = 1 + (rowF ks).length + (rowF r).length := by simp [rowF]; omega
    rw [e]
    rcases h with rfl | h
    · omega
    · have := plF_in r _ k h
      omega
/-- the place behind all that is missing -/
def behG (L : List (Nd × Nat)) : Nat → Nat → Nat → Nat
  | 0, _, _ => L.length
  | r + 1, i, m => if m = 0 then i else if L.length < i + m then L.length else behG L r (i + 1) (m + min (kidsAt L i) L.length - 1)
theorem beh_go (L : List (Nd × Nat)) : ∀ (f : Fo) (A R : List (Nd × Nat)) (c r : Nat), L = A ++ (rowF f ++ R) → c ≤ R.length → (rowF f).length ≤ r → behG L r A.length (f.len + c) = behG L (r - (rowF f).length) (A.length + (rowF f).length) c
  | .nil, A, R, c, r, hL, hc, hr => by simp [rowF, Fo.len]
  | .cons n ks t, A, R, c, r, hL, hc, hr => by
    have e : rowF (Fo.cons n ks t) = (n, ks.len) :: (rowF ks ++ rowF t) := rfl
    have el : (rowF (Fo.cons n ks t)).length = 1 + (rowF ks).length + (rowF t).length := by rw [e]; simp; omega
    have ln : (Fo.cons n ks t).len = t.len + 1 := rfl
    have l1 := len_rowF ks
    have l2 := len_rowF t
    have hLl : L.length = A.length + (1 + (rowF ks).length + (rowF t).length) + R.length := by rw [hL, List.length_append, List.length_append, el]; omega
    obtain ⟨r', rfl⟩ : ∃ r', r = r' + 1 := ⟨r - 1, by omega⟩
    have hk : kidsAt L A.length = ks.len := by
      unfold kidsAt
      rw [hL, e, List.getElem?_append_right (Nat.le_refl _)]
      simp
    rw [ln]
    conv => lhs; unfold behG
    rw [if_neg (by omega), if_neg (by omega), hk, Nat.min_eq_left (by omega)]
    have e2 : t.len + 1 + c + ks.len - 1 = ks.len + (t.len + c) := by omega
    rw [e2]
    have h1 := beh_go L ks (A ++ [(n, ks.len)]) (rowF t ++ R) (t.len + c) r' (by rw [hL, e]; simp) (by simp; omega) (by omega)
    simp only [List.length_append, List.length_cons, List.length_nil, Nat.zero_add] at h1
    rw [h1]
    have h2 := beh_go L t (A ++ [(n, ks.len)] ++ rowF ks) R c (r' - (rowF ks).length) (by rw [hL, e]; simp) hc (by omega)
    simp only [List.length_append, List.length_cons, List.length_nil, Nat.zero_add] at h2
    rw [h2, el]
    congr 1 <;> omega
/-- behind a tree in the row -/
theorem beh_one (L : List (Nd × Nat)) (n : Nd) (ks : Fo) (A R : List (Nd × Nat)) (hL : L = A ++ ((n, ks.len) :: rowF ks ++ R)) : behG L (L.length + 1 - A.length) A.length 1 = A.length + 1 + (rowF ks).length := by
  have h := beh_go L (Fo.cons n ks .nil) A R 0 (L.length + 1 - A.length) (by rw [hL]; simp [rowF]) (Nat.zero_le _) (by rw [hL]; simp [rowF]; omega)
  have e : (rowF (Fo.cons n ks .nil)).length = 1 + (rowF ks).length := by simp [rowF]; omega
  have e1 : (Fo.cons n ks Fo.nil).len = 1 := rfl
  rw [e, e1] at h
  rw [show 1 + 0 = 1 from rfl] at h
  rw [h]
  obtain ⟨q, hq⟩ : ∃ q, L.length + 1 - A.length - (1 + (rowF ks).length) = q + 1 := ⟨L.length + 1 - A.length - (1 + (rowF ks).length) - 1, by rw [hL]; simp; omega⟩
  rw [hq]
  unfold behG
  rw [if_pos rfl]
  omega
/-- each place of a row is that of a node, with its kids behind it -/
theorem row_at : ∀ (f : Fo) (i : Nat), i < (rowF f).length → ∃ A n ks R, rowF f = A ++ ((n, ks.len) :: rowF ks ++ R) ∧ A.length = i
  | .nil, i, h => by simp [rowF] at h
  | .cons n ks t, i, h => by
    have e : rowF (Fo.cons n ks t) = (n, ks.len) :: (rowF ks ++ rowF t) := rfl
    rw [e] at h ⊢
    cases i with
    | zero => exact ⟨[], n, ks, rowF t, by simp, rfl⟩
    | succ i =>
      simp at h
      rcases Nat.lt_or_ge i (rowF ks).length with hi | hi
      · obtain ⟨A, m, q, R, h1, h2⟩ := row_at ks i hi
        refine ⟨(n, ks.len) :: A, m, q, R ++ rowF t, ?_, by simp [h2]⟩
        rw [List.cons_append]
        congr 1
        rw [show A ++ ((m, q.len) :: rowF q ++ (R ++ rowF t)) = (A ++ ((m, q.len) :: rowF q ++ R)) ++ rowF t by simp, ← h1]
      · obtain ⟨A, m, q, R, h1, h2⟩ := row_at t (i - (rowF ks).length) (by omega)
        refine ⟨(n, ks.len) :: (rowF ks ++ A), m, q, R, ?_, by simp [h2]; omega⟩
        rw [List.cons_append]
        congr 1
        rw [h1]
        simp
end Go.Proofs.YtfooijjfjmpigaaGreatDoor.W.Tr
/- Package tree: behind. -/
namespace Go.Proofs.YtfooijjfjmpigaaGreatDoor.W.Tr
open Go.ChangeShapes Go.WideShapes Go.RowKit Go.Shelf
set_option linter.unusedVariables false
set_option linter.unusedSimpArgs false
set_option maxRecDepth 100000 in
set_option maxHeartbeats 1000000 in
theorem behind_c (w : World) (gl lc : Nat) (L : List (Nd × Nat)) (hN : NR w (.slice (some ⟨gl, 0, none⟩) L.length lc) L) (hK : ∀ p ∈ L, p.2 ≤ 1000000) (i : Nat) (hi : i ≤ L.length) :
    Calls Tryz.prog 40 #[.slice (some ⟨gl, 0, none⟩) L.length lc, .int .i64 (i : Nat)] w fun e w' => e = .returned (.int .i64 (behG L (L.length + 1 - i) i 1 : Nat)) ∧ w' = w := by
  obtain ⟨R, hR⟩ : ∃ R, behG L (L.length + 1 - i) i 1 = R := ⟨_, rfl⟩
  rw [hR]
  have hL : L.length ≤ 1000000 := by obtain ⟨_, _, _, h, _⟩ := hN; exact h
  have HN := hid hN
  have HK := hid hK
  clear hN hK
  go_enter Tryz.func40, Tryz.ntmps40
  go_upto_region 2 with fail
  go_loopw [1, 5] (fun iv mv wr => ∃ (r i m : Nat), r = L.length + 1 - i ∧ i ≤ L.length ∧ m ≤ 3000000 ∧ iv = .int .i64 (i : Nat) ∧ mv = .int .i64 (m : Nat) ∧ behG L r i m = R ∧ wr = w) (fun iv _ _ => L.length + 1 - (intOf iv).toNat)
  case atStart => exact ⟨_, i, 1, rfl, hi, by omega, rfl, rfl, hR, rfl⟩
  case round =>
    clear hR hi
    obtain ⟨r, i, m, hr, hi, hm, rfl, rfl, hR, hw⟩ := hrel
    have hw' := hw.symm
    subst hw'
    clear hw
    obtain ⟨r', hr'⟩ : ∃ r', r = r' + 1 := ⟨r - 1, by omega⟩
    rw [hr'] at hR
    unfold behG at hR
    by_cases h0 : m = 0
    · subst h0
      rw [if_pos rfl] at hR
      subst hR
      go_wp2_with fail
      go_ret
      exact ⟨rfl, rfl⟩
    rw [if_neg h0] at hR
    have j1 : ((m : Nat) : Int) > 0 := by omega
    have j2 : IntKind.i64.wrap ((L.length : Int) - (i : Int)) = (L.length : Int) - (i : Int) := by rw [IntKind.wrap_i64]; omega
    by_cases hgt : L.length < i + m
    · rw [if_pos hgt] at hR
      subst hR
      have j3 : ((m : Nat) : Int) > (L.length : Int) - (i : Int) := by omega
      clear h0 hgt hr hr'
      go_wp2_with fail
      go_ret
      exact ⟨rfl, rfl⟩
    rw [if_neg hgt] at hR
    have j3 : ¬ ((m : Nat) : Int) > (L.length : Int) - (i : Int) := by omega
    have hlt : i < L.length := by omega
    have hq : L[i]? = some L[i] := List.getElem?_eq_getElem hlt
    have hk : kidsAt L i = L[i].2 := by unfold kidsAt; rw [hq]
    have hkb := HK.out L[i] (List.mem_of_getElem? hq)
    obtain ⟨-, -, c2, -, -, -⟩ := nr_cells HN.out i _ hq
    rw [hk] at hR
    generalize L[i].2 = k at *
    have j4 : (0 : Int) ≤ i := by omega
    have j5 : (i : Int) < L.length := by omega
    have j6 : max ((k : Nat) : Int) 0 = k := by omega
    have j7 : min ((k : Nat) : Int) (L.length : Int) = ((min k L.length : Nat) : Int) := by omega
    obtain ⟨q, hq'⟩ : ∃ q, q = min k L.length := ⟨_, rfl⟩
    have hqb : q ≤ 1000000 := by omega
    rw [← hq'] at hR j7
    have j8 : IntKind.i64.wrap ((q : Int) - 1) = (q : Int) - 1 := by rw [IntKind.wrap_i64]; omega
    have j9 : IntKind.i64.wrap ((m : Int) + ((q : Int) - 1)) = ((m + q - 1 : Nat) : Int) := by rw [IntKind.wrap_i64]; omega
    have j10 : IntKind.i64.wrap ((i : Int) + 1) = ((i + 1 : Nat) : Int) := by rw [IntKind.wrap_i64]; omega
    have HR := hid hR
    have hmq : m + q - 1 ≤ 3000000 := by omega
    have HE : Hid (r' = L.length + 1 - (i + 1)) := hid (by omega)
    clear hq hk hkb hR hq' hgt hr hr' h0
    go_wp2_with fail
    go_roundw
    case rel => exact ⟨r', i + 1, m + q - 1, HE.out, by omega, hmq, by first | rfl | go_num, by first | rfl | go_num, HR.out, trivial⟩
    case measure => show L.length + 1 - ((i + 1 : Nat) : Int).toNat < L.length + 1 - (i : Int).toNat; omega
end Go.Proofs.YtfooijjfjmpigaaGreatDoor.W.Tr
/- Package tree: kidPlaces, Kids and its iterator. -/
namespace Go.Proofs.YtfooijjfjmpigaaGreatDoor.W.Tr
open Go.ChangeShapes Go.WideShapes Go.RowKit Go.Shelf
set_option linter.unusedVariables false
set_option linter.unusedSimpArgs false
def iv (k : Nat) : Value := .int .i64 (k : Nat)
theorem infoI : (Tryz.prog.info? 3).map (fun i => (i.zero, i.size, i.bytes)) = some (some (.int .i64 0), 1, 8) := by kernel_rfl
theorem underI : Tryz.prog.underlying 38 = some (.slice 3) := by kernel_rfl
/-- a number behind a row of numbers -/
theorem append_int (W : World) (ty : TypeId) (v : Value) (n : Nat) (xs : List Value) {B0 : Nat} (hown : W.ownsRow B0 3 1 v n xs) (hB : B0 ≤ W.heap.size) (x : Nat) (hn : n ≤ 4000000) : ∃ v' w', (Builtin.append_ #[38, 38] ty #[v, .slice (some ⟨W.heap.size, 0, none⟩) 1 1]).run Tryz.prog (W.alloc (.cells #[.int .i64 (x : Nat)] 3)) = .ok v' w' ∧ w'.ownsRow B0 3 1 v' (n + 1) (xs ++ [iv x]) ∧ (W.alloc (.cells #[.int .i64 (x : Nat)] 3)).grownBy w' v.ownBlock := by
  obtain ⟨i0, hi, hz0, hz1, hz2⟩ := info_parts infoI
  have e0 := World.cell?_alloc_new W #[.int .i64 (x : Nat)] 3
  have ho := hown.alloc (.cells #[.int .i64 (x : Nat)] 3)
  obtain ⟨v', w', h1, h2, h3, _, h5⟩ := run_append_own_at (P := Tryz.prog) (W.alloc (.cells #[.int .i64 (x : Nat)] 3)) B0 38 ty 3 i0 _ 1 8 underI hi hz0 hz1 hz2 rfl (by omega) v n xs ho ⟨W.heap.size, 0, none⟩ 1 1 [iv x] (by simp) (by
    intro j u hj
    have e1 : ((⟨W.heap.size, 0, none⟩ : Addr).add j) = ⟨W.heap.size, j, none⟩ := by simp [Addr.add]; intro e; exact e.symm
    rw [e1, e0 j]
    simpa [iv] using hj) (by
    intro u hu
    simp at hu
    rcases hu with rfl
    rfl) (by unfold maxLen; omega) (by omega) (by simp; omega)
  exact ⟨v', w', h1, h2, h3⟩
/-- numbers in a row of one's own -/
def OI (W : World) (B : Nat) (v : Value) (ks : List Nat) : Prop := W.ownsRow B 3 1 v ks.length (ks.map iv)
theorem OI.below {W W' : World} {B : Nat} {v : Value} {ks : List Nat} (h : OI W B v ks) (hB : Below W.heap.size W W') : OI W' B v ks := owns_onX h (fun k e => hB.block k (h.lt k e).2)
set_option maxRecDepth 100000 in
set_option maxHeartbeats 1000000 in
theorem kidPlaces_c (w : World) (gl lc : Nat) (L : List (Nd × Nat)) (hN : NR w (.slice (some ⟨gl, 0, none⟩) L.length lc) L) (hgl : gl < w.heap.size) (hK : ∀ p ∈ L, p.2 ≤ 1000000) (A : List (Nd × Nat)) (n : Nd) (ks : Fo) (R : List (Nd × Nat)) (hL : L = A ++ ((n, ks.len) :: rowF ks ++ R)) :
    Calls Tryz.prog 22 #[.slice (some ⟨gl, 0, none⟩) L.length lc, .int .i64 (A.length : Nat)] w fun e w' => ∃ r, e = .returned r ∧ Below w.heap.size w w' ∧ OI w' w.heap.size r (plF ks (A.length + 1)) := by
  obtain ⟨T, hT⟩ : ∃ T, plF ks (A.length + 1) = T := ⟨_, rfl⟩
  rw [hT]
  have hLb : L.length ≤ 1000000 := by obtain ⟨_, _, _, h, _⟩ := hN; exact h
  have hat : L[A.length]? = some (n, ks.len) := by rw [hL, List.getElem?_append_right (Nat.le_refl _)]; simp
  have hlt := (List.getElem?_eq_some_iff.1 hat).1
  obtain ⟨-, -, c2, -, -, -⟩ := nr_cells hN A.length _ hat
  have hlen : A.length + 1 + (rowF ks).length + R.length = L.length := by rw [hL]; simp; omega
  have hL2 : L = (A ++ [(n, ks.len)]) ++ (rowF ks ++ R) := by rw [hL]; simp
  have hTl : T.length ≤ 1000000 := by rw [← hT, plF_len]; have := len_rowF ks; omega
  generalize hi : A.length = i at *
  have j1 : ¬ ((i : Nat) : Int) < 0 := by omega
  have j2 : ¬ ((i : Nat) : Int) ≥ L.length := by omega
  have j3 : IntKind.i64.wrap ((i : Int) + 1) = ((i + 1 : Nat) : Int) := by rw [IntKind.wrap_i64]; omega
  have j4 : (0 : Int) ≤ (i : Nat) := by omega
  have j5 : ((i : Nat) : Int) < L.length := by omega
  have HN := hid hN
  have HK := hid hK
  have HI := hid hi
  have HL2 := hid hL2
  have HT := hid hT
  simp only at c2
  clear hN hK hL hL2 hi hT hat hlen
  go_enter Tryz.func22, Tryz.ntmps22
  go_upto_region 6 with fail
  go_loopw [5, 6, 7] (fun pv at' lv wr => ∃ (A' : List (Nd × Nat)) (f : Fo) (dn : List Nat), L = A' ++ (rowF f ++ R) ∧ at' = .int .i64 (A'.length : Nat) ∧ lv = .int .i64 (f.len : Nat) ∧ dn ++ plF f A'.length = T ∧ (∃ o c, pv = .slice o dn.length c) ∧ OI wr w.heap.size pv dn ∧ Below w.heap.size w wr) (fun _ _ lv _ => (intOf lv).toNat)
  case atStart => exact ⟨A ++ [(n, ks.len)], ks, [], HL2.out, by simp [HI.out], rfl, by simpa [HI.out] using HT.out, ⟨_, _, rfl⟩, World.ownsRow_nil _ _ _ _, Below.refl _ _⟩
  case round =>
    obtain ⟨A', f, dn, hA, rfl, rfl, hdn, ⟨o, c, rfl⟩, ho, hB⟩ := hrel
    clear c2 HT HL2 HI
    cases f with
    | nil =>
      have e : dn = T := by simpa [plF] using hdn
      have HO := hid ho
      have HB := hid hB
      clear hdn ho hB hA
      simp only [Fo.len]
      go_wp2_with fail
      go_ret
      exact ⟨_, rfl, HB.out, by rw [← e]; exact HO.out⟩
    | cons n' ks' t =>
      have ln : (Fo.cons n' ks' t).len = t.len + 1 := rfl
      have e : rowF (Fo.cons n' ks' t) = (n', ks'.len) :: (rowF ks' ++ rowF t) := rfl
      have hA2 : L = A' ++ ((n', ks'.len) :: rowF ks' ++ (rowF t ++ R)) := by rw [hA, e]; simp
      have hb := beh_one L n' ks' A' (rowF t ++ R) hA2
      have hlt2 : A'.length < L.length := by rw [hA2]; simp
      have hlt3 : A'.length + 1 + (rowF ks').length ≤ L.length := by rw [hA2]; simp; omega
      have hdl : dn.length ≤ 1000000 := by have := congrArg List.length hdn; simp at this; omega
      have hdn2 : (dn ++ [A'.length]) ++ plF t (A'.length + 1 + (rowF ks').length) = T := by rw [← hdn]; simp [plF]
      have hlf : t.len ≤ 1000000 := by
        have h1 := len_rowF t
        have h2 := congrArg List.length hA2
        simp at h2
        omega
      have hA3 : L = (A' ++ (n', ks'.len) :: rowF ks') ++ (rowF t ++ R) := by rw [hA2]; simp
      have hA3l : (A' ++ (n', ks'.len) :: rowF ks').length = A'.length + 1 + (rowF ks').length := by simp; omega
      obtain ⟨v', w', hrun, h2, h3⟩ := append_int wr 38 _ _ _ ho hB.size A'.length (by omega)
      have hb' : Below w.heap.size w w' := (hB.alloc hB.size _).trans (((It.Upd.refl (fun k => w.heap.size ≤ k) _).grown h3 (fun k e => .inl (ho.lt k e).1)).below (Nat.le_trans hB.size (by simp)) (fun k e => e))
      have cb := behind_c w' gl lc L (HN.out.below hb' (fun k e => by cases e; exact hgl)) HK.out A'.length (by omega)
      rw [hb] at cb
      have ho' : OI w' w.heap.size v' (dn ++ [A'.length]) := by
        unfold OI
        rw [List.length_append, List.map_append]
        exact h2
      obtain ⟨o', c', hv'⟩ := slice_ofX h2
      subst hv'
      rw [ln]
      obtain ⟨u, hu⟩ : ∃ u, t.len + 1 = u := ⟨_, rfl⟩
      rw [hu]
      have HU := hid hu
      have k1 : ((u : Nat) : Int) > 0 := by omega
      have k2 : ((A'.length : Nat) : Int) < L.length := by omega
      have k3 : IntKind.i64.wrap (((u : Nat) : Int) - 1) = (t.len : Nat) := by rw [IntKind.wrap_i64]; omega
      have HO := hid ho'
      have HB := hid hb'
      have HD := hid hdn2
      have HA3 := hid hA3
      have HA4 := hid hA3l
      generalize hp : A'.length + 1 + (rowF ks').length = p at *
      have HPP := hid hp
      generalize hat : A'.length = a at *
      clear hp hat ho hB ho' hb' h2 h3 hb hdn hdn2 hA hA2 hA3 hA3l e ln hdl hlf hlt2 hlt3 hu
      go_wp2_with (first | (at_builtin; refine Lib.wpList_append_run _ rfl (.tmp 33) (.tmp 35) 38 38 rfl _ _ (by simp [Act.eval]) (by simp [Act.eval]) _ _ hrun ?_) | (go_at_call 40; (with_reducible refine cb.mono ?_); rintro e w5 ⟨rfl, hw5⟩; (have hw5' := hw5.symm); subst hw5'; clear hw5))
      go_roundw
      case rel => exact ⟨_, t, dn ++ [a], HA3.out, by rw [HA4.out], rfl, by rw [HA4.out]; exact HD.out, ⟨o', c', by simp⟩, HO.out, HB.out⟩
      case measure => (have := HU.out; show ((t.len : Nat) : Int).toNat < ((u : Nat) : Int).toNat; omega)
end Go.Proofs.YtfooijjfjmpigaaGreatDoor.W.Tr
/- Package tree: Kids and its iterator. -/
namespace Go.Proofs.YtfooijjfjmpigaaGreatDoor.W.Tr
open Go.ChangeShapes Go.WideShapes Go.RowKit Go.Shelf
set_option linter.unusedVariables false
set_option linter.unusedSimpArgs false
/-- what is told of a row of places -/
def kidV (ks : List Nat) : List (Array Value) := ks.map fun k => #[iv k]
theorem kidV_len (ks : List Nat) : (kidV ks).length = ks.length := by simp [kidV]
theorem kidV_at (ks : List Nat) (j : Nat) (hj : j < (kidV ks).length) : (kidV ks)[j] = #[.int .i64 ((ks.getD j 0 : Nat) : Int)] := by
  have h : j < ks.length := by simpa [kidV] using hj
  simp [kidV, iv, h]
theorem own_int {W : World} {m : Nat} {v : Value} {ks : List Nat} (h : OI W m v ks) {i : Nat} (hi : i < ks.length) : ∃ g c, v = .slice (some ⟨g, 0, none⟩) ks.length c ∧ ks.length ≤ c ∧ W.cell? ⟨g, i, none⟩ = some (.int .i64 ((ks.getD i 0 : Nat) : Int)) := by
  rcases h.2 with ⟨_, e0⟩ | ⟨g, c, cur, rfl, h2, h3, h4, h5, h6, h7⟩
  · omega
  · refine ⟨g, c, rfl, h4, ?_⟩
    have e1 : (ks.map iv)[i]? = some (.int .i64 ((ks.getD i 0 : Nat) : Int)) := by
      rw [List.getElem?_map, List.getD_eq_getElem?_getD, List.getElem?_eq_getElem hi]; rfl
    rw [cell_of_row _ g _ _ _ _ h3, ← e1, ← h7, List.getElem?_take, if_pos (by omega), Array.getElem?_toList]
theorem eg_kids : ∀ args w, (callFunc 23 args).run Tryz.prog w = .ok (.enter 23 args) w := enters_of Tryz.func23 (by kernel_rfl) rfl
set_option maxRecDepth 100000 in
set_option maxHeartbeats 4000000 in
theorem kids_iter (sb m : Nat) (v : Value) (ks : List Nat) (hl : ks.length ≤ 2000000) : IterD 23 #[.pointer (some ⟨sb, 0, none⟩)] (kidV ks) (fun W => W.cell? ⟨sb, 0, none⟩ = some v ∧ OI W m v ks) := by
  intro n l J X hn hL hB hY D0 W h0
  show CallsIn Fence.wide n Tryz.prog 23 #[.func (.yield l) #[] #[], .pointer (some ⟨sb, 0, none⟩)] W fun e W' => (∃ v, e = .returned v) ∧ ((∃ D', J (kidV ks).length D' W') ∨ X W')
  obtain ⟨⟨g0, g1⟩, -⟩ := hL 0 D0 W h0
  obtain ⟨o, cap, rfl⟩ := slice_ofX g1
  clear g1
  have HL := hid hL
  have HY := hid hY
  have H0 := hid h0
  refine callsIn_of_wp Tryz.func23 rfl trivial ?_ rfl
  simp only [Tryz.ntmps23, List.size_toArray, List.length_cons, List.length_nil, Nat.reduceAdd, Nat.reduceSub, Array.replicate_succ, Array.replicate_zero, List.push_toArray, List.append_toArray, List.nil_append, List.cons_append]
  clear hY hL hB h0
  refine wpIn_wide.2 ?_
  go_upto_region 1 with fail
  go_loopw [7] (fun i' wr => ∃ (j : Nat) (D : Nat → Prop), j ≤ ks.length ∧ i' = .int .i64 (j : Nat) ∧ J j D wr) (fun i' _ => ks.length - (intOf i').toNat)
  case atStart => exact ⟨0, D0, Nat.zero_le _, rfl, H0.out⟩
  case round =>
    obtain ⟨j, D, hj, rfl, hJ⟩ := hrel
    clear H0 g0
    obtain ⟨gr, gw⟩ := (HL.out j D wr hJ).1
    by_cases hlt : j < ks.length
    case neg =>
      have b0 : ¬ ((j : Nat) : Int) < ks.length := by omega
      have he : j = ks.length := by omega
      have HJ := hid hJ
      clear hJ gr gw
      go_wp2
      go_end0
      exact ⟨⟨_, rfl⟩, .inl ⟨D, by rw [kidV_len, ← he]; exact HJ.out⟩⟩
    have b0 : ((j : Nat) : Int) < ks.length := by omega
    have b1 : (0 : Int) ≤ j := by omega
    have hj2 : j < (kidV ks).length := by rw [kidV_len]; exact hlt
    obtain ⟨g, c, eo, hc, hcell⟩ := own_int gw hlt
    simp only [Value.slice.injEq, true_and] at eo
    obtain ⟨rfl, rfl⟩ := eo
    have yy := HY.out j hj2 D _ hJ
    rw [kidV_at] at yy
    generalize ks.getD j 0 = b at *
    have y2 : YieldAt Fence.wide (n - 1) Tryz.prog l #[.int .i64 (b : Nat)] wr fun e W' => (e = .returned (.bool true) ∧ (∃ D', J (j + 1) D' W') ∧ (∀ k, k < wr.heap.size → ¬ D k → W'.heap[k]? = wr.heap[k]?)) ∨ (e = .returned (.bool false) ∧ X W') := yy
    obtain ⟨fn', tmps, assign, body, hy, hR⟩ := y2
    have e1 : IntKind.i64.wrap ((j : Int) + 1) = ((j + 1 : Nat) : Int) := by rw [IntKind.wrap_i64]; omega
    clear yy hJ gw
    go_upto_region 3 with fail
    refine (wpIn_wide (n := n)).1 ?_
    gi_wp2
    refine hR.mono ?_
    rintro e W3 (⟨rfl, hK3, -⟩ | ⟨rfl, hX3⟩)
    · have K3 := hid hK3
      clear hK3 hy hR
      gi_wp2
      go_wp2
      go_roundw
      case rel =>
        obtain ⟨D', hD'⟩ := K3.out
        exact ⟨j + 1, D', by omega, by first | rfl | go_num, hD'⟩
      case measure => show ks.length - ((j + 1 : Nat) : Int).toNat < ks.length - (j : Int).toNat; omega
    · clear hy hR
      gi_wp2
      go_wp2
      refine bodyPost_ret (results_none rfl _ _ _) rfl ?_
      exact ⟨⟨_, rfl⟩, .inr hX3⟩
set_option maxRecDepth 100000 in
theorem kidsF_c (w : World) (gl lc : Nat) (L : List (Nd × Nat)) (hN : NR w (.slice (some ⟨gl, 0, none⟩) L.length lc) L) (hgl : gl < w.heap.size) (hK : ∀ p ∈ L, p.2 ≤ 1000000) (A : List (Nd × Nat)) (n : Nd) (ks : Fo) (R : List (Nd × Nat)) (hL : L = A ++ ((n, ks.len) :: rowF ks ++ R)) :
    Calls Tryz.prog 15 #[.slice (some ⟨gl, 0, none⟩) L.length lc, .int .i64 (A.length : Nat)] w fun e w' => ∃ sb r, e = .returned (.func (.func 23) #[] #[.pointer (some ⟨sb, 0, none⟩)]) ∧ Below w.heap.size w w' ∧ w'.heap[sb]? = some (.cells #[r] 38 (0, 0)) ∧ OI w' w.heap.size r (plF ks (A.length + 1)) ∧ w.heap.size ≤ sb ∧ sb + 1 = w'.heap.size ∧ ∀ k, r.ownBlock = some k → k < sb := by
  have ck := kidPlaces_c w gl lc L hN hgl hK A n ks R hL
  generalize A.length = i at *
  generalize plF ks (i + 1) = T at *
  clear hN hK hL
  go_enter Tryz.func15, Tryz.ntmps15
  go_wp2_with (go_at_call 22; (with_reducible refine ck.mono ?_); rintro e w2 ⟨r, rfl, hB2, ho2⟩; (obtain ⟨o, c, rfl⟩ := slice_ofX ho2); (have HB := hid hB2); (have HO := hid ho2); clear hB2 ho2 ck)
  go_ret
  have b3 : Below w2.heap.size w2 (w2.alloc (.cells #[.slice o T.length c] 38)) := (Below.refl _ w2).alloc (Nat.le_refl _) _
  exact ⟨w2.heap.size, _, rfl, HB.out.trans (b3.mono HB.out.size), World.alloc_heap_new w2 _, HO.out.below b3, HB.out.size, by simp, fun k e => (HO.out.lt k e).2⟩
end Go.Proofs.YtfooijjfjmpigaaGreatDoor.W.Tr
/- Stage 12, TreeKids: each node but the first is a kid once, in plain words. -/
namespace Go.Proofs.YtfooijjfjmpigaaGreatDoor.W.Tr
set_option linter.unusedVariables false
/-- the places of each node's kids, node by node -/
def klF : Fo → Nat → List (List Nat)
  | .nil, _ => []
  | .cons n ks r, b => plF ks (b + 1) :: (klF ks (b + 1) ++ klF r (b + 1 + (rowF ks).length))
theorem klF_len : ∀ (f : Fo) (b : Nat), (klF f b).length = (rowF f).length
  | .nil, b => rfl
  | .cons n ks r, b => by
    simp only [klF, rowF, List.length_cons, List.length_append]
    rw [klF_len ks, klF_len r]
theorem plF_not (f : Fo) (b k : Nat) (h : ¬ (b ≤ k ∧ k < b + (rowF f).length)) : (plF f b).count k = 0 :=
  List.count_eq_zero.2 (fun hm => h (plF_in f b k hm))
theorem kl_count : ∀ (f : Fo) (b k : Nat), (klF f b).flatten.count k + (plF f b).count k = if b ≤ k ∧ k < b + (rowF f).length then 1 else 0
  | .nil, b, k => by
    rw [if_neg (by simp [rowF])]
    rfl
  | .cons n ks r, b, k => by
    have h1 := kl_count ks (b + 1) k
    have h2 := kl_count r (b + 1 + (rowF ks).length) k
    have el : (rowF (Fo.cons n ks r)).length = 1 + (rowF ks).length + (rowF r).length := by simp [rowF]; omega
    have ec : (b :: plF r (b + 1 + (rowF ks).length)).count k = (plF r (b + 1 + (rowF ks).length)).count k + (if b = k then 1 else 0) := by
      rw [List.count_cons]
      by_cases h : b = k <;> simp [h]
    simp only [klF, plF, List.flatten_cons, List.flatten_append, List.count_append]
    rw [ec, el]
    split at h1 <;> split at h2 <;> (repeat' split) <;> omega
/-- each place of a row is that of a node, with its kids behind it, and their places -/
theorem row_kl : ∀ (f : Fo) (b i : Nat), i < (rowF f).length → ∃ A n ks R, rowF f = A ++ ((n, ks.len) :: rowF ks ++ R) ∧ A.length = i ∧ (klF f b)[i]? = some (plF ks (b + i + 1))
  | .nil, b, i, h => by simp [rowF] at h
  | .cons n ks t, b, i, h => by
    have e : rowF (Fo.cons n ks t) = (n, ks.len) :: (rowF ks ++ rowF t) := rfl
    have e2 : klF (Fo.cons n ks t) b = plF ks (b + 1) :: (klF ks (b + 1) ++ klF t (b + 1 + (rowF ks).length)) := rfl
    rw [e] at h ⊢
    rw [e2]
    cases i with
    | zero => exact ⟨[], n, ks, rowF t, by simp, rfl, rfl⟩
    | succ i =>
      simp at h
      rcases Nat.lt_or_ge i (rowF ks).length with hi | hi
      · obtain ⟨A, m, q, R, h1, h2, h3⟩ := row_kl ks (b + 1) i hi
        refine ⟨(n, ks.len) :: A, m, q, R ++ rowF t, ?_, by simp [h2], ?_⟩
        · rw [List.cons_append]
          congr 1
          rw [show A ++ ((m, q.len) :: rowF q ++ (R ++ rowF t)) = (A ++ ((m, q.len) :: rowF q ++ R)) ++ rowF t by simp, ← h1]
        · rw [List.getElem?_cons_succ, List.getElem?_append_left (by rw [klF_len]; exact hi), h3]
          congr 2
          omega
      · obtain ⟨A, m, q, R, h1, h2, h3⟩ := row_kl t (b + 1 + (rowF ks).length) (i - (rowF ks).length) (by omega)
        refine ⟨(n, ks.len) :: (rowF ks ++ A), m, q, R, ?_, by simp [h2]; omega, ?_⟩
        · rw [List.cons_append]
          congr 1
          rw [h1]
          simp
        · rw [List.getElem?_cons_succ, List.getElem?_append_right (by rw [klF_len]; exact hi), klF_len, h3]
          congr 2
          omega
/-- how often a place has been met behind i nodes -/
def metK (f : Fo) (i k : Nat) : Nat := ((klF f 0).take i).flatten.count k
theorem metK_all (nd : Nd) (m : Fo) (k : Nat) (hk : k < (rowF (Fo.one nd m)).length) : metK (Fo.one nd m) (rowF (Fo.one nd m)).length k = if 0 < k then 1 else 0 := by
  unfold metK
  rw [List.take_of_length_le (by rw [klF_len]; exact Nat.le_refl _)]
  have h := kl_count (Fo.one nd m) 0 k
  rw [if_pos (by omega)] at h
  have e : (plF (Fo.one nd m) 0).count k = if 0 < k then 0 else 1 := by
    have : plF (Fo.one nd m) 0 = [0] := rfl
    rw [this]
    cases k with
    | zero => rfl
    | succ k => rw [List.count_cons]; simp
  rw [e] at h
  split at h <;> split <;> omega
theorem metK_succ (f : Fo) (i k : Nat) (l : List Nat) (h : (klF f 0)[i]? = some l) : metK f (i + 1) k = metK f i k + l.count k := by
  unfold metK
  rw [List.take_add_one, h]
  simp [List.count_append]
theorem metK_le (f : Fo) (i k : Nat) : metK f i k ≤ 1 := by
  have h := kl_count f 0 k
  have h2 : metK f i k ≤ (klF f 0).flatten.count k := by
    unfold metK
    conv => rhs; rw [← List.take_append_drop i (klF f 0), List.flatten_append, List.count_append]
    omega
  split at h <;> omega
/-- along a row, the places rise -/
theorem plF_rise : ∀ (f : Fo) (b j : Nat), j + 1 < (plF f b).length → (plF f b).getD j 0 < (plF f b).getD (j + 1) 0
  | .nil, b, j, h => by simp [plF] at h
  | .cons n ks r, b, 0, h => by
    have e : plF (Fo.cons n ks r) b = b :: plF r (b + 1 + (rowF ks).length) := rfl
    rw [e] at h ⊢
    simp only [List.length_cons] at h
    have hm : (plF r (b + 1 + (rowF ks).length)).getD 0 0 ∈ plF r (b + 1 + (rowF ks).length) := by
      rw [List.getD_eq_getElem?_getD, List.getElem?_eq_getElem (by omega)]
      exact List.getElem_mem _
    have := plF_in r _ _ hm
    simp only [List.getD_cons_zero, List.getD_cons_succ]
    omega
  | .cons n ks r, b, j + 1, h => by
    have e : plF (Fo.cons n ks r) b = b :: plF r (b + 1 + (rowF ks).length) := rfl
    rw [e] at h ⊢
    simp only [List.length_cons] at h
    simp only [List.getD_cons_succ]
    exact plF_rise r _ j (by omega)
end Go.Proofs.YtfooijjfjmpigaaGreatDoor.W.Tr
