import Derived.Test.YthgcdohndchdkaaGreatDoorBase16
import Derived.Test.YthgcdohndchdkaaGreatDoorBase15
import Derived.Test.YthgcdohndchdkaaGreatDoorBase10
/- A range over an iterator that passes some by. -/
namespace Go.Proofs.YthgcdohndchdkaaGreatDoor.W
open Go.ChangeShapes Go.WideShapes Go.RowKit Go.Shelf
set_option linter.unusedVariables false
/-- the function gf, with lb captured, tells val k for each k below n that is of P, as long as it is asked, where G holds -/
def IterP (gf : Nat) (lb : Array Value) (n : Nat) (P : Nat → Bool) (val : Nat → Array Value) (G : Nat → World → Prop) : Prop :=
  ∀ (m l : Nat) (J : Nat → World → Prop) (X : World → Prop), 1 ≤ m → (∀ i W, J i W → G i W) → (∀ i W W', J i W → Below W.heap.size W W' → J i W') → (∀ i W, i < n → P i = false → J i W → J (i + 1) W) →
    (∀ i (hi : i < n) W, P i = true → J i W → YieldAt Fence.wide (m - 1) Tryz.prog l (val i) W fun e W' => (e = .returned (.bool true) ∧ J (i + 1) W') ∨ (e = .returned (.bool false) ∧ X W')) →
    ∀ W, J 0 W → CallsIn Fence.wide m Tryz.prog gf (#[.func (.yield l) #[] #[]] ++ lb) W fun e W' => (∃ v, e = .returned v) ∧ (J n W' ∨ X W')
theorem iterP_law {gf : Nat} {lb : Array Value} {n : Nat} {P : Nat → Bool} {val : Nat → Array Value} {G : Nat → World → Prop} (hit : IterP gf lb n P val G) (eg : ∀ args w, (callFunc gf args).run Tryz.prog w = .ok (.enter gf args) w)
    {g : Operand} {ps : Array Tmp} {assign body : Code} {Q : Exit → Act → World → Prop} {a : Act} {W0 : World} (hg : a.eval g = .func (.func gf) #[] lb)
    (I : Nat → World → Prop) (Ix : Code → World → Prop) (hL : ∀ i W, I i W → G i W)
    (hI : ∀ i W W', I i W → Upd (fun k => k = W0.heap.size + 1) W W' → I i W')
    (hIx : ∀ c W W', Ix c W → Upd (fun k => k = W0.heap.size + 1) W W' → Ix c W') (h0 : I 0 W0)
    (hskip : ∀ i W, i < n → P i = false → I i W → I (i + 1) W) (A : Nat → Act) (hsz : ∀ i, (val i).size = ps.size)
    (hassign : ∀ (L i : Nat) (W : World) (K : Act → World → Prop), K (A i) W → assign.wpIn (Fence.wide.inRound L) 7 Tryz.prog (Exit.then K (fun _ _ _ => False)) { tmps := (ps.zip (val i)).foldl (fun t (p, v) => t.setIfInBounds p v) a.tmps, defers := [] } W)
    (hbody : ∀ (L : Nat) i (hi : i < n) W, P i = true → L = W0.heap.size + 1 → I i W → W0.heap.size + 2 ≤ W.heap.size → (∃ r, W.heap[L]? = some (.loop r)) → body.wpIn (Fence.wide.inRound L) 7 Tryz.prog (rndWay L W0.heap.size W (I (i + 1)) Ix) (A i) W)
    (hdone : ∀ W, I n W → W.heap[W0.heap.size]? = some (.deferred (some [])) → Q .normal { a with defers := { target := .collected W0.heap.size, args := #[] } :: a.defers } W)
    (hstop : ∀ c W, Ix c W → W.heap[W0.heap.size]? = some (.deferred (some [])) → c.wp Tryz.prog Q { a with defers := { target := .collected W0.heap.size, args := #[] } :: a.defers } W) :
    (Code.rangeFunc g ps assign body).wp Tryz.prog Q a W0 := by
  have hUL : ∀ (W : World) (o : Obj), Upd (fun k => k = W0.heap.size + 1) W (W.putObj (W0.heap.size + 1) o) := fun W o => upd_put (S := fun k => k = W0.heap.size + 1) (L := W0.heap.size + 1) rfl o
  refine (wpIn_wide (n := 9)).1 (rf_law hg eg (fun W => I n W) Ix ?_ ?_ ?_)
  · intro r W1 hr1 hr2 hr3 hr4 hr5 hr6 hW1 hL1
    have hI1 : I 0 W1 := by
      refine hI 0 W0 W1 h0 ?_
      rw [hW1]; exact ((Upd.refl _ W0).alloc _).alloc _
    have hsz1 : W0.heap.size + 2 ≤ W1.heap.size := by rw [hW1]; simp
    have key := hit 8 (W0.heap.size + 1)
      (fun i W => I i W ∧ LoopAt W (W0.heap.size + 1) W0.heap.size r ∧ W0.heap.size + 2 ≤ W.heap.size)
      (fun W => ∃ c, Ix c W ∧ LoopAt W (W0.heap.size + 1) W0.heap.size { r with state := .done, pending := some c })
      (by omega) (fun i W h => hL i W h.1) ?_ (fun i W hi hp h => ⟨hskip i W hi hp h.1, h.2⟩) ?_ W1 ⟨hI1, hL1, hsz1⟩
    · refine key.mono ?_
      rintro e W3 ⟨hv, ⟨h1, h2, _⟩ | ⟨c, h1, h2⟩⟩
      · exact ⟨hv, .inl ⟨h1, r, h2, by rw [hr1]; simp, hr2⟩⟩
      · exact ⟨hv, .inr ⟨c, h1, _, h2, by simp, rfl⟩⟩
    · rintro i W W' ⟨h1, h2, h3⟩ hb
      exact ⟨hI i W W' h1 (Upd.of_below hb), h2.kept (hb.block _ (by omega)) (hb.block _ (by omega)), by have := hb.size; omega⟩
    · rintro i hi W hP ⟨hi1, hl1, hs1⟩
      have hargs : (val i).size = r.params.size := by rw [hr4]; exact hsz i
      refine YieldAt.mono (yield_law (Rn := fun W' => I (i + 1) W' ∧ LoopAt W' (W0.heap.size + 1) W0.heap.size r ∧ W0.heap.size + 2 ≤ W'.heap.size) (Rx := fun c W' => Ix c W' ∧ LoopAt W' (W0.heap.size + 1) W0.heap.size { r with state := .done, pending := some c }) hl1 hr1 hargs (A i) ?_ ?_) ?_
      · intro K hK
        rw [hr5, hr4, hr3]
        exact hassign _ i W K hK
      · intro W2 hW2 hl2
        have hI2 : I i W2 := by rw [hW2]; exact hI i W _ hi1 (hUL W _)
        have hs2 : W0.heap.size + 2 ≤ W2.heap.size := by rw [hW2]; simpa using hs1
        have hbd := hbody _ i hi W2 hP rfl hI2 hs2 ⟨_, hl2.lp⟩
        rw [← hr6] at hbd
        refine wpIn_mono hbd ?_
        intro e a3 W3 hp
        have put : ∀ q : Loop, (W3.heap[W0.heap.size + 1]? = W2.heap[W0.heap.size + 1]? ∧ W3.heap[W0.heap.size]? = W2.heap[W0.heap.size]?) → LoopAt W3 (W0.heap.size + 1) W0.heap.size { r with state := .busy } ∧ LoopAt (W3.putObj (W0.heap.size + 1) (.loop q)) (W0.heap.size + 1) W0.heap.size q ∧ W0.heap.size + 2 ≤ (W3.putObj (W0.heap.size + 1) (.loop q)).heap.size := by
          rintro q ⟨e1, e2⟩
          have hl3 := hl2.kept e1 e2
          refine ⟨hl3, hl3.put q, ?_⟩
          have := (Array.getElem?_eq_some_iff.1 hl3.lp).1
          simp; omega
        cases e with
        | normal =>
          obtain ⟨hk, hin⟩ := hp
          obtain ⟨p1, p2, p4⟩ := put { r with state := .ready, pending := none } hk
          have er : ({ r with state := .ready, pending := none } : Loop) = r := by cases r; simp_all
          refine ⟨p1, hI _ W3 _ hin (hUL W3 _), ?_, p4⟩
          rw [er] at p2 ⊢
          exact p2
        | ret =>
          obtain ⟨hk, hin⟩ := hp
          obtain ⟨p1, p2, p4⟩ := put { r with state := .done, pending := some .ret } hk
          exact ⟨p1, hIx _ W3 _ hin (hUL W3 _), p2⟩
        | exit id =>
          obtain ⟨hk, hin⟩ := hp
          obtain ⟨p1, p2, p4⟩ := put { r with state := .done, pending := some (.exit id) } hk
          exact ⟨p1, hIx _ W3 _ hin (hUL W3 _), p2⟩
        | goto t => exact hp.elim
        | panic ch => exact hp.elim
        | outgrown => exact hp.elim
      · rintro e W' (⟨rfl, h1⟩ | ⟨rfl, c, h1⟩)
        · exact .inl ⟨rfl, h1⟩
        · exact .inr ⟨rfl, c, h1⟩
  · intro W3 q hd hl
    exact hdone _ (hI _ W3 _ hd (hUL W3 _)) hl.defs
  · intro W3 q c hs hl
    exact wpIn_wide.2 (hstop c _ (hIx _ W3 _ hs (hUL W3 _)) hl.defs)
end Go.Proofs.YthgcdohndchdkaaGreatDoor.W
/- Package heap: live; a cell that is let go. -/
namespace Go.Proofs.YthgcdohndchdkaaGreatDoor.W
open Go.ChangeShapes Go.WideShapes Go.RowKit Go.Shelf
set_option linter.unusedVariables false
theorem live_c (W : World) (hb : Nat) : Calls Tryz.prog 154 #[.pointer (some ⟨hb, 0, none⟩)] W fun e w' => e = .returned (.func (.func 199) #[] #[.pointer (some ⟨W.heap.size, 0, none⟩)]) ∧ w' = W.alloc (.cells #[.pointer (some ⟨hb, 0, none⟩)] 23) := by
  go_enter Tryz.func154, Tryz.ntmps154
  go_wp2
  go_ret
  exact ⟨rfl, rfl⟩
theorem eg_live : ∀ args w, (callFunc 199 args).run Tryz.prog w = .ok (.enter 199 args) w := enters_of Tryz.func199 (by kernel_rfl) rfl
set_option maxHeartbeats 1000000 in
theorem live_iter (Bh hb n : Nat) (P : Nat → Bool) :
    IterP 199 #[.pointer (some ⟨Bh, 0, none⟩)] n P (fun k => #[.int .i64 (k : Nat)]) (fun i W => W.cell? ⟨Bh, 0, none⟩ = some (.pointer (some ⟨hb, 0, none⟩)) ∧ ∃ sb vc T H u h, HLay W hb sb vc T H u h ∧ H.length = n ∧ ∀ k, i ≤ k → k < n → ((H[k]?).getD none).isSome = P k) := by
  intro m l J X hm hL hB hS hY W h0
  show CallsIn Fence.wide m Tryz.prog 199 #[.func (.yield l) #[] #[], .pointer (some ⟨Bh, 0, none⟩)] W _
  have hn : n ≤ 1048576 := by
    obtain ⟨_, sb, vc, T, H, u, h, g, e, _⟩ := hL 0 W h0
    have := g.len
    omega
  refine callsIn_of_wp Tryz.func199 rfl trivial ?_ rfl
  simp only [Tryz.ntmps199, List.size_toArray, List.length_cons, List.length_nil, Nat.reduceAdd, Nat.reduceSub, Array.replicate_succ, Array.replicate_zero, List.push_toArray, List.append_toArray, List.nil_append, List.cons_append]
  gi_wp2
  gi_loopw [3] (fun ii wr => ∃ k : Nat, k ≤ n ∧ ii = .int .i64 k ∧ J k wr) (fun ii _ => n - (intOf ii).toNat)
  case atStart => exact ⟨0, Nat.zero_le _, rfl, h0⟩
  case round =>
    obtain ⟨k, hk, rfl, hJ⟩ := hrel
    obtain ⟨cB, sb, vc, T, H, u, h, g, hlen, hP⟩ := hL k wr hJ
    have c1 := g.cell 1
    simp only [List.getElem?_cons_succ, List.getElem?_cons_zero] at c1
    have k0 : (0 : Int) ≤ k := by omega
    have w1 : IntKind.i64.wrap ((k : Int) + 1) = (k : Int) + 1 := by rw [IntKind.wrap_i64]; omega
    by_cases hlt : k < n
    · have k1 : (k : Int) < H.length := by omega
      obtain ⟨b, cap, hvc, hcell, _⟩ := g.at (i := k) (by omega)
      have hget : H[k]? = some H[k] := List.getElem?_eq_getElem (by omega)
      have hc := hcell 0 H[k] hget (by omega)
      have hPk := hP k (Nat.le_refl _) hlt
      rw [hget] at hPk
      simp only [Option.getD_some] at hPk
      rw [hvc] at c1
      cases hx : H[k] with
      | none =>
        rw [hx] at hc hPk
        simp only [clO, Cl.cells, List.getElem?_cons_zero, Nat.add_zero] at hc
        have hJ2 := hid (hS k wr hlt (by rw [← hPk]; rfl) hJ)
        clear hY hL hB hS hP hcell hPk hx hget g hJ
        gi_wp2
        refine ⟨(fun f hf => by cases hf), ?_⟩
        gi_wp2
        go_roundw
        case rel => exact ⟨k + 1, by omega, by go_num, hJ2.out⟩
        case measure => show n - (k + 1 : Int).toNat < n - (k : Int).toNat; omega
      | some c =>
        rw [hx] at hc hPk
        simp only [clO, Cl.cells, List.getElem?_cons_zero, Nat.add_zero] at hc
        have hk0 := Hc.kind_ne (g.ok k c (by rw [hget, hx]))
        obtain ⟨fn, tmps, assign, body, hy, hR⟩ := hY k hlt wr (by rw [← hPk]; rfl) hJ
        have d2 : (c.cl.kind == 0) = false := by simpa using hk0
        clear hL hB hS hP hcell hPk hx hget g hJ hY
        gi_wp2
        refine hR.mono ?_
        rintro e W3 (⟨rfl, hK3⟩ | ⟨rfl, hX3⟩)
        · clear hy hR
          gi_wp2
          go_roundw
          case rel => exact ⟨k + 1, by omega, by go_num, hK3⟩
          case measure => show n - (k + 1 : Int).toNat < n - (k : Int).toNat; omega
        · clear hy hR
          gi_wp2
          refine bodyPost_ret (results_none rfl _ _ _) rfl ?_
          exact ⟨⟨_, rfl⟩, .inr hX3⟩
    · have he : k = n := by omega
      subst he
      have k1 : ¬ (k : Int) < H.length := by omega
      obtain ⟨o, cap, hvc⟩ := g.sl
      rw [hvc] at c1
      have HJ := hid hJ
      clear hY hL hB hS hP g hJ
      gi_wp2
      go_end0
      exact ⟨⟨_, rfl⟩, .inl HJ.out⟩
/-- five cells of the table are written -/
theorem flatC_cons (a : Option Hc) (H : List (Option Hc)) : flatC (a :: H) = (clO a).cells ++ flatC H := by simp [flatC]
theorem flatC_five (H : List (Option Hc)) (k : Nat) (c' : Option Hc) (hk : k < H.length) : (((((flatC H).set (k * 5) (.int .i64 (clO c').kind)).set (k * 5 + 1) (.bool (clO c').view)).set (k * 5 + 2) (.int .u64 (clO c').base)).set (k * 5 + 3) (.int .i64 (clO c').frm)).set (k * 5 + 4) (.int .i64 (clO c').len) = flatC (H.set k c') := by
  induction H generalizing k with
  | nil => simp at hk
  | cons a H ih =>
    cases k with
    | zero =>
      rw [List.set_cons_zero, flatC_cons, flatC_cons]
      simp [Cl.cells]
    | succ k =>
      have h5 : ∀ (l : List Value) (j : Nat) (v : Value), ((clO a).cells ++ l).set ((k + 1) * 5 + j) v = (clO a).cells ++ l.set (k * 5 + j) v := by
        intro l j v
        rw [List.set_append_right _ _ (by rw [Cl.cells_len]; omega), Cl.cells_len]
        congr 2
        omega
      have h50 : ∀ (l : List Value) (v : Value), ((clO a).cells ++ l).set ((k + 1) * 5) v = (clO a).cells ++ l.set (k * 5) v := fun l v => h5 l 0 v
      rw [List.set_cons_succ, flatC_cons, flatC_cons, h50, h5, h5, h5, h5, ih k (by simpa using hk)]
section
variable {W W' : World} {hb sb : Nat} {vc : Value} {T : Nat → Prop} {H : List (Option Hc)} {u h : Nat}
theorem HLay.gave (g : HLay W hb sb vc T H u h) (k : Nat) (hk : k < H.length) (hU : Upd T W W') (hS : St W' (Nx T W W') sb ((hA H).set k none) 8388608 1048577) {b cap : Nat} (hvc : vc = .slice (some ⟨b, 0, none⟩) H.length cap) :
    HLay (((((W'.setCell ⟨b, k * 5, none⟩ (.int .i64 0)).setCell ⟨b, k * 5 + 1, none⟩ (.bool false)).setCell ⟨b, k * 5 + 2, none⟩ (.int .u64 0)).setCell ⟨b, k * 5 + 3, none⟩ (.int .i64 0)).setCell ⟨b, k * 5 + 4, none⟩ (.int .i64 0)) hb sb vc (Nx T W W') (H.set k none) u h ∧
    Upd (fun x => T x ∨ x = b) W (((((W'.setCell ⟨b, k * 5, none⟩ (.int .i64 0)).setCell ⟨b, k * 5 + 1, none⟩ (.bool false)).setCell ⟨b, k * 5 + 2, none⟩ (.int .u64 0)).setCell ⟨b, k * 5 + 3, none⟩ (.int .i64 0)).setCell ⟨b, k * 5 + 4, none⟩ (.int .i64 0)) := by
  subst hvc
  have hbT := g.tvc b rfl
  have hbl := g.clt b rfl
  have hbh : b ≠ hb := by
    rintro rfl
    exact own_ne g.own g.obj (by decide) rfl
  have o0 : W'.ownsRow 0 126 5 (.slice (some ⟨b, 0, none⟩) H.length cap) H.length (flatC H) := owns_on g.own (fun k e => by cases e; exact hU.block b hbl hbT)
  have o1 := (o0.stored (k * 5) (.int .i64 0)).1
  have o2 := (o1.stored (k * 5 + 1) (.bool false)).1
  have o3 := (o2.stored (k * 5 + 2) (.int .u64 0)).1
  have o4 := (o3.stored (k * 5 + 3) (.int .i64 0)).1
  have o5 := (o4.stored (k * 5 + 4) (.int .i64 0)).1
  have e5 := flatC_five H k none hk
  simp only [clO] at e5
  rw [show ((0 : Nat) : Int) = 0 from rfl] at e5
  rw [e5] at o5
  have hx : ∀ x : Nat, x ≠ b → (((((W'.setCell ⟨b, k * 5, none⟩ (.int .i64 0)).setCell ⟨b, k * 5 + 1, none⟩ (.bool false)).setCell ⟨b, k * 5 + 2, none⟩ (.int .u64 0)).setCell ⟨b, k * 5 + 3, none⟩ (.int .i64 0)).setCell ⟨b, k * 5 + 4, none⟩ (.int .i64 0)).heap[x]? = W'.heap[x]? := by
    intro x hne
    rw [Below.heap_setCell _ _ _ _ hne, Below.heap_setCell _ _ _ _ hne, Below.heap_setCell _ _ _ _ hne, Below.heap_setCell _ _ _ _ hne, Below.heap_setCell _ _ _ _ hne]
  have hz : (((((W'.setCell ⟨b, k * 5, none⟩ (.int .i64 0)).setCell ⟨b, k * 5 + 1, none⟩ (.bool false)).setCell ⟨b, k * 5 + 2, none⟩ (.int .u64 0)).setCell ⟨b, k * 5 + 3, none⟩ (.int .i64 0)).setCell ⟨b, k * 5 + 4, none⟩ (.int .i64 0)).heap.size = W'.heap.size := by simp [World.setCell]
  have hNb : ¬ Nx T W W' b := by
    rintro (e | e)
    · exact hbT e
    · omega
  refine ⟨⟨?_, ?_, ?_, ?_, ?_, ?_, ?_, ?_, g.u1, g.h1⟩, ?_⟩
  · rw [hx hb (Ne.symm hbh), hU.block hb g.hlt g.thb]
    exact g.obj
  · rw [List.length_set]; exact o5
  · rw [← hA_set]
    exact hS.on (fun x e => hx x (by rintro rfl; exact hNb e))
  · rintro x (e | e)
    · rw [hz]; exact Nat.lt_of_lt_of_le (g.tlt x e) hU.size
    · rw [hz]; exact e.2
  · rintro (e | e)
    · exact g.thb e
    · have := g.hlt; omega
  · intro x e
    cases e
    exact hNb
  · intro i c e
    by_cases hik : i = k
    · subst hik
      rw [List.getElem?_set_self hk] at e
      cases e
    · rw [List.getElem?_set_ne (Ne.symm hik)] at e
      exact g.ok i c e
  · rw [List.length_set]; exact g.len
  · have hU' : Upd (fun x => T x ∨ x = b) W W' := hU.mono (fun x e => .inl e)
    exact ((((hU'.setCell (p := ⟨b, k * 5, none⟩) (.inl (.inr rfl)) _).setCell (p := ⟨b, k * 5 + 1, none⟩) (.inl (.inr rfl)) _).setCell (p := ⟨b, k * 5 + 2, none⟩) (.inl (.inr rfl)) _).setCell (p := ⟨b, k * 5 + 3, none⟩) (.inl (.inr rfl)) _).setCell (p := ⟨b, k * 5 + 4, none⟩) (.inl (.inr rfl)) _
end
end Go.Proofs.YthgcdohndchdkaaGreatDoor.W
/- A row of one's own beside a store grows by append, and is written. -/
namespace Go.Proofs.YthgcdohndchdkaaGreatDoor.W
open Go.ChangeShapes Go.WideShapes Go.RowKit Go.Shelf
set_option linter.unusedVariables false
section
variable {W : World} {sb : Nat} {A : List (Option (List Nat))} {B : Nat} {v : Value} {n : Nat} {xs : List Value}
theorem owns_base {b b' : Nat} {e : TypeId} {size : Nat} (h : W.ownsRow b e size v n xs) (hb : ∀ g, v.ownBlock = some g → b' ≤ g) : W.ownsRow b' e size v n xs := by
  refine ⟨h.1, ?_⟩
  rcases h.2 with hn | ⟨g, cap, cur, rfl, _, rest⟩
  · exact .inl hn
  · exact .inr ⟨g, cap, cur, rfl, hb g rfl, rest⟩
theorem under34 : Tryz.prog.underlying 88 = some (.slice 3) := by kernel_rfl
end
end Go.Proofs.YthgcdohndchdkaaGreatDoor.W
/- StoreFills: the row of lengths, written; the store beside it. -/
namespace Go.Proofs.YthgcdohndchdkaaGreatDoor.W
open Go.ChangeShapes Go.WideShapes Go.RowKit Go.Shelf
set_option linter.unusedVariables false
section
variable {W : World} {sb : Nat} {A : List (Option (List Nat))} {B : Nat} {v : Value} {n : Nat} {xs : List Value}
end
end Go.Proofs.YthgcdohndchdkaaGreatDoor.W
/- Package heap: the table of cells alone: it grows, a cell is written; what is put. -/
namespace Go.Proofs.YthgcdohndchdkaaGreatDoor.W
open Go.ChangeShapes Go.WideShapes Go.RowKit Go.Shelf
set_option linter.unusedVariables false
/-- the table: a heap but for its store -/
structure HTab (W : World) (hb sb : Nat) (vc : Value) (C : List (Option Hc)) (u h : Nat) : Prop where
  obj : W.heap[hb]? = some (.cells [.pointer (some ⟨sb, 0, none⟩), vc, .int .i64 u, .int .i64 h].toArray 58 (0, 0))
  own : W.ownsRow 0 126 5 vc C.length (flatC C)
/-- a cell is put -/
def putH (H : List (Option Hc)) (id : Nat) (x : Option Hc) : List (Option Hc) := if id < H.length then H.set id x else H ++ [x]
theorem hA_put (H : List (Option Hc)) (id : Nat) (c : Hc) : hA (putH H id (some c)) = putA (hA H) id (some c.bytes) := by
  unfold putH putA
  rw [hA_len]
  split
  · rw [← hA_set]; rfl
  · rw [hA_snoc]; rfl
theorem infoC : (Tryz.prog.info? 126).map (fun i => (i.zero, i.size, i.bytes)) = some (some (.agg #[.int .i64 0, .bool false, .int .u64 0, .int .i64 0, .int .i64 0]), 5, 40) := by kernel_rfl
theorem underC : Tryz.prog.underlying 56 = some (.slice 126) := by kernel_rfl
theorem flatC_snoc (H : List (Option Hc)) (c : Option Hc) : flatC (H ++ [c]) = flatC H ++ (clO c).cells := by simp [flatC]
section
variable {W W' : World} {hb sb : Nat} {vc : Value} {T : Nat → Prop} {H : List (Option Hc)} {u h : Nat}
theorem HLay.tab (g : HLay W hb sb vc T H u h) : HTab W hb sb vc H u h := ⟨g.obj, g.own⟩
theorem HTab.kept (g : HTab W hb sb vc H u h) (h0 : W'.heap[hb]? = W.heap[hb]?) (h1 : ∀ k, vc.ownBlock = some k → W'.heap[k]? = W.heap[k]?) : HTab W' hb sb vc H u h := ⟨h0.trans g.obj, owns_on g.own h1⟩
theorem HTab.hlt (g : HTab W hb sb vc H u h) : hb < W.heap.size := (Array.getElem?_eq_some_iff.1 g.obj).1
theorem HTab.cell (g : HTab W hb sb vc H u h) (j : Nat) : W.cell? ⟨hb, j, none⟩ = [Value.pointer (some ⟨sb, 0, none⟩), vc, .int .i64 u, .int .i64 h][j]? := by
  rw [cell_of_row W hb j _ _ (0, 0) g.obj]; simp
theorem HTab.ne (g : HTab W hb sb vc H u h) : vc.ownBlock ≠ some hb := (own_ne g.own g.obj (by decide)).symm
/-- one cell more -/
theorem HTab.grow (g : HTab W hb sb vc H u h) (hl : H.length ≤ 1048576) (ty : TypeId) :
    ∃ v' w', (Builtin.append_ #[56, 56] ty #[vc, .slice (some ⟨W.heap.size, 0, none⟩) 1 1]).run Tryz.prog (W.alloc (.cells #[.int .i64 0, .bool false, .int .u64 0, .int .i64 0, .int .i64 0] 126)) = .ok v' w' ∧ w'.cell? ⟨hb, 1, none⟩ = some vc ∧ w'.frozen? ⟨hb, 1, none⟩ = false ∧ HTab (w'.setCell ⟨hb, 1, none⟩ v') hb sb v' (H ++ [none]) u h ∧ Upd (fun k => k = hb ∨ vc.ownBlock = some k) W (w'.setCell ⟨hb, 1, none⟩ v') ∧ ∀ k, v'.ownBlock = some k → vc.ownBlock = some k ∨ W.heap.size ≤ k := by
  obtain ⟨i0, hi, hz0, hz1, hz2⟩ := info_parts infoC
  have hBa : Below W.heap.size W (W.alloc (.cells #[.int .i64 0, .bool false, .int .u64 0, .int .i64 0, .int .i64 0] 126)) := (Below.refl _ W).alloc (Nat.le_refl _) _
  have ga : HTab (W.alloc (.cells #[.int .i64 0, .bool false, .int .u64 0, .int .i64 0, .int .i64 0] 126)) hb sb vc H u h := g.kept (hBa.block _ g.hlt) (fun k e => hBa.block k (g.own.lt k e).2)
  have hnews : ∀ j v, (clO none).cells[j]? = some v → (W.alloc (.cells #[.int .i64 0, .bool false, .int .u64 0, .int .i64 0, .int .i64 0] 126)).cell? ((⟨W.heap.size, 0, none⟩ : Addr).add j) = some v := by
    intro j v hj
    have e : (⟨W.heap.size, 0, none⟩ : Addr).add j = ⟨W.heap.size, j, none⟩ := by unfold Addr.add; split <;> simp_all
    rw [e, World.cell?_alloc_new]
    simpa [clO, Cl.cells] using hj
  have ho1 : ∀ v ∈ (clO none).cells, v.oneCell' = true := by
    intro v hv
    simp [clO, Cl.cells] at hv
    rcases hv with rfl | rfl | rfl | rfl <;> rfl
  obtain ⟨v', w', hrun, hown, hgr, hnew⟩ := append_at (P := Tryz.prog) (W.alloc (.cells #[.int .i64 0, .bool false, .int .u64 0, .int .i64 0, .int .i64 0] 126)) 56 ty 126 i0 _ 5 40 underC hi hz0 hz1 hz2 rfl (by decide) vc H.length (flatC H) ga.own ⟨W.heap.size, 0, none⟩ 1 1 (clO none).cells rfl hnews ho1 (by decide) (by decide) (by omega)
  have hU : Upd (fun k => k = hb ∨ vc.ownBlock = some k) W w' := ((Upd.refl _ W).alloc _).trans' (((Upd.refl (fun k => k = hb ∨ vc.ownBlock = some k) _)).grown hgr (fun k e => .inl (.inr e)))
  have hob : w'.heap[hb]? = W.heap[hb]? := (hgr.block hb ga.hlt (fun e => ga.ne e.symm)).trans (hBa.block _ g.hlt)
  have hob' : w'.heap[hb]? = some (.cells [.pointer (some ⟨sb, 0, none⟩), vc, .int .i64 u, .int .i64 h].toArray 58 (0, 0)) := hob.trans g.obj
  have hv' : v'.ownBlock ≠ some hb := (own_ne hown hob' (by decide)).symm
  refine ⟨v', w', hrun, ?_, ?_, ⟨?_, ?_⟩, hU.setCell (p := ⟨hb, 1, none⟩) (.inl (.inl rfl)) _, ?_⟩
  · rw [World.cell?_of_block hob, g.cell 1]; rfl
  · rw [World.frozen?_of_block hob]; simp [World.frozen?, g.obj]
  · exact heap_set (b := hb) hob' 1 v'
  · rw [flatC_snoc, List.length_append]
    refine owns_on hown (fun k e => Below.heap_setCell _ _ _ _ ?_)
    rintro rfl
    exact hv' e
  · intro k e
    rcases hnew k e with e | e
    · exact .inl e
    · right; have := e.1; rw [World.size_alloc] at this; omega
/-- a cell is written -/
theorem HTab.write {b cap : Nat} (g : HTab W hb sb (.slice (some ⟨b, 0, none⟩) H.length cap) H u h) (k : Nat) (hk : k < H.length) (c : Option Hc) :
    HTab (((((W.setCell ⟨b, k * 5, none⟩ (.int .i64 (clO c).kind)).setCell ⟨b, k * 5 + 1, none⟩ (.bool (clO c).view)).setCell ⟨b, k * 5 + 2, none⟩ (.int .u64 (clO c).base)).setCell ⟨b, k * 5 + 3, none⟩ (.int .i64 (clO c).frm)).setCell ⟨b, k * 5 + 4, none⟩ (.int .i64 (clO c).len)) hb sb (.slice (some ⟨b, 0, none⟩) H.length cap) (H.set k c) u h ∧
    Upd (fun x => x = b) W (((((W.setCell ⟨b, k * 5, none⟩ (.int .i64 (clO c).kind)).setCell ⟨b, k * 5 + 1, none⟩ (.bool (clO c).view)).setCell ⟨b, k * 5 + 2, none⟩ (.int .u64 (clO c).base)).setCell ⟨b, k * 5 + 3, none⟩ (.int .i64 (clO c).frm)).setCell ⟨b, k * 5 + 4, none⟩ (.int .i64 (clO c).len)) := by
  have hne : hb ≠ b := by rintro rfl; exact g.ne rfl
  have o1 := (g.own.stored (k * 5) (.int .i64 (clO c).kind)).1
  have o2 := (o1.stored (k * 5 + 1) (.bool (clO c).view)).1
  have o3 := (o2.stored (k * 5 + 2) (.int .u64 (clO c).base)).1
  have o4 := (o3.stored (k * 5 + 3) (.int .i64 (clO c).frm)).1
  have o5 := (o4.stored (k * 5 + 4) (.int .i64 (clO c).len)).1
  rw [flatC_five H k c hk] at o5
  refine ⟨⟨?_, by rw [List.length_set]; exact o5⟩, ?_⟩
  · rw [Below.heap_setCell _ _ _ _ hne, Below.heap_setCell _ _ _ _ hne, Below.heap_setCell _ _ _ _ hne, Below.heap_setCell _ _ _ _ hne, Below.heap_setCell _ _ _ _ hne]
    exact g.obj
  · exact ((((((Upd.refl (fun x => x = b) W)).setCell (p := ⟨b, k * 5, none⟩) (.inl rfl) _).setCell (p := ⟨b, k * 5 + 1, none⟩) (.inl rfl) _).setCell (p := ⟨b, k * 5 + 2, none⟩) (.inl rfl) _).setCell (p := ⟨b, k * 5 + 3, none⟩) (.inl rfl) _).setCell (p := ⟨b, k * 5 + 4, none⟩) (.inl rfl) _
/-- a table and a store make a heap -/
theorem HTab.lay (g : HTab W hb sb vc H u h) (hs : St W T sb (hA H) 8388608 1048577) (h1 : ∀ k, T k → k < W.heap.size) (h2 : ¬ T hb) (h3 : ∀ k, vc.ownBlock = some k → ¬ T k) (h4 : ∀ (i : Nat) (c : Hc), H[i]? = some (some c) → c.ok) (h5 : H.length ≤ 1048576) (h6 : u ≤ 1048576) (h7 : h ≤ 1048576) : HLay W hb sb vc T H u h := ⟨g.obj, g.own, hs, h1, h2, h3, h4, h5, h6, h7⟩
end
end Go.Proofs.YthgcdohndchdkaaGreatDoor.W
/- Package heap: size, Need; cells as values. -/
namespace Go.Proofs.YthgcdohndchdkaaGreatDoor.W
open Go.ChangeShapes Go.WideShapes Go.RowKit Go.Shelf
set_option linter.unusedVariables false
/-- a cell as it is handed over -/
def cellV (k : Int) (v : Bool) (i : Int) (t : ByteArray) (b w : Value) (base : Int) (p n : Int) : Value := .agg #[.int .i64 k, .bool v, .int .i64 i, .string t, b, w, .int .u64 base, .int .i64 p, .int .i64 n]
/-- how many bytes of its own a cell has, whatever cell -/
def sizeV (k : Int) (v : Bool) (tl bl wl : Nat) : Nat := if shp k v = 1 then 8 else if shp k v = 2 then tl else if shp k v = 3 then bl else if shp k v = 5 then wl * 8 else 0
theorem size_c (k : Int) (v : Bool) (i : Int) (t : ByteArray) (ob ow : Option Addr) (bl bc wl wc : Nat) (base p n : Int) (hw : wl ≤ 1000000000) (W : World) :
    Calls Tryz.prog 153 #[cellV k v i t (.slice ob bl bc) (.slice ow wl wc) base p n] W fun e w' => e = .returned (.int .i64 (sizeV k v t.size bl wl : Nat)) ∧ Below W.heap.size W w' := by
  have cs : ∀ w, Calls Tryz.prog 148 #[.int .i64 k, .bool v] w fun e w' => e = .returned (.int .i64 (shp k v)) ∧ w' = w := fun w => shape_c k v w
  unfold cellV sizeV
  generalize shp k v = s at *
  have hB := (show Below W.heap.size W (W.alloc (.cells #[.int .i64 k, .bool v, .int .i64 i, .string t, .slice ob bl bc, .slice ow wl wc, .int .u64 base, .int .i64 p, .int .i64 n] 96)) from (Below.refl _ W).alloc (Nat.le_refl _) _)
  have hw8 : IntKind.i64.wrap ((wl : Int) * 8) = (wl : Int) * 8 := by rw [IntKind.wrap_i64]; omega
  by_cases h1 : s = 1
  · subst h1
    rw [if_pos rfl]
    go_enter Tryz.func153, Tryz.ntmps153
    go_wp2_with (go_at_call 148; (with_reducible refine (cs _).mono ?_); rintro e w' ⟨rfl, hw⟩; (have hw' := hw.symm); subst hw'; clear hw)
    go_ret
    exact ⟨rfl, hB⟩
  rw [if_neg h1]
  by_cases h2 : s = 2
  · subst h2
    rw [if_pos rfl]
    go_enter Tryz.func153, Tryz.ntmps153
    go_wp2_with (go_at_call 148; (with_reducible refine (cs _).mono ?_); rintro e w' ⟨rfl, hw⟩; (have hw' := hw.symm); subst hw'; clear hw)
    go_ret
    exact ⟨rfl, hB⟩
  rw [if_neg h2]
  by_cases h3 : s = 3
  · subst h3
    rw [if_pos rfl]
    go_enter Tryz.func153, Tryz.ntmps153
    go_wp2_with (go_at_call 148; (with_reducible refine (cs _).mono ?_); rintro e w' ⟨rfl, hw⟩; (have hw' := hw.symm); subst hw'; clear hw)
    go_ret
    exact ⟨rfl, hB⟩
  rw [if_neg h3]
  by_cases h5 : s = 5
  · subst h5
    rw [if_pos rfl]
    go_enter Tryz.func153, Tryz.ntmps153
    go_wp2_with (go_at_call 148; (with_reducible refine (cs _).mono ?_); rintro e w' ⟨rfl, hw⟩; (have hw' := hw.symm); subst hw'; clear hw)
    go_ret
    exact ⟨rfl, hB⟩
  rw [if_neg h5]
  go_enter Tryz.func153, Tryz.ntmps153
  go_wp2_with (go_at_call 148; (with_reducible refine (cs _).mono ?_); rintro e w' ⟨rfl, hw⟩; (have hw' := hw.symm); subst hw'; clear hw)
  go_ret
  exact ⟨rfl, hB⟩
theorem sizeV_le (k : Int) (v : Bool) (tl bl wl : Nat) (h1 : tl ≤ 80000000) (h2 : bl ≤ 80000000) (h3 : wl ≤ 10000000) : sizeV k v tl bl wl ≤ 80000000 := by
  unfold sizeV
  repeat' split
  all_goals omega
theorem need_c (k : Int) (v : Bool) (i : Int) (t : ByteArray) (ob ow : Option Addr) (bl bc wl wc : Nat) (base p n : Int) (ht : t.size ≤ 80000000) (hbl : bl ≤ 80000000) (hw : wl ≤ 10000000) (W : World) :
    Calls Tryz.prog 85 #[cellV k v i t (.slice ob bl bc) (.slice ow wl wc) base p n] W fun e w' => e = .returned (.int .i64 (1 + (sizeV k v t.size bl wl + 7) / 8 : Nat)) ∧ Below W.heap.size W w' := by
  have cs : ∀ w, Calls Tryz.prog 153 #[cellV k v i t (.slice ob bl bc) (.slice ow wl wc) base p n] w fun e w' => e = .returned (.int .i64 (sizeV k v t.size bl wl : Nat)) ∧ Below w.heap.size w w' := fun w => size_c k v i t ob ow bl bc wl wc base p n (by omega) w
  have hs := sizeV_le k v t.size bl wl ht hbl hw
  generalize sizeV k v t.size bl wl = z at *
  have cu : ∀ w, Calls Tryz.prog 152 #[.int .i64 z] w fun e w' => e = .returned (.int .i64 (1 + (z + 7) / 8 : Nat)) ∧ w' = w := fun w => unitsOf_c z (by omega) w
  unfold cellV at *
  have hB := (show Below W.heap.size W (W.alloc (.cells #[.int .i64 k, .bool v, .int .i64 i, .string t, .slice ob bl bc, .slice ow wl wc, .int .u64 base, .int .i64 p, .int .i64 n] 96)) from (Below.refl _ W).alloc (Nat.le_refl _) _)
  go_enter Tryz.func85, Tryz.ntmps85
  go_wp2_with (first | (go_at_call 153; (with_reducible refine (cs _).mono ?_); rintro e w2 ⟨rfl, hB2⟩) | (go_at_call 152; (with_reducible refine (cu _).mono ?_); rintro e w' ⟨rfl, hw⟩; (have hw' := hw.symm); subst hw'; clear hw))
  go_ret
  exact ⟨rfl, hB.trans (hB2.mono hB.size)⟩
end Go.Proofs.YthgcdohndchdkaaGreatDoor.W
/- Package heap: bytes of a cell are written: save, of a number. -/
namespace Go.Proofs.YthgcdohndchdkaaGreatDoor.W
open Go.ChangeShapes Go.WideShapes Go.RowKit Go.Shelf
set_option linter.unusedVariables false
theorem le8_get (x j : Nat) (h : j < 8) : (le8 x)[j]? = some (x / 256 ^ j % 256) := by
  unfold le8; rw [List.getElem?_map, List.getElem?_range h]; rfl
theorem saved_le8 (y : List Nat) (x : Nat) (h : y.length = 8) : saved y 0 x 8 = le8 x := by
  apply List.ext_getElem?
  intro j
  rw [saved_get _ _ _ _ _ (by omega)]
  by_cases hj : j < 8
  · rw [if_pos (by omega), le8_get x j hj, Nat.sub_zero]
  · rw [if_neg (by omega), List.getElem?_eq_none (by omega), List.getElem?_eq_none (by rw [le8_len]; omega)]
theorem flatC_same (H : List (Option Hc)) (i : Nat) (c d : Option Hc) (hc : H[i]? = some c) (he : clO d = clO c) : flatC (H.set i d) = flatC H := by
  induction H generalizing i with
  | nil => simp at hc
  | cons a H ih =>
    cases i with
    | zero =>
      simp at hc; subst hc
      rw [List.set_cons_zero, flatC_cons, flatC_cons, he]
    | succ i =>
      simp at hc
      rw [List.set_cons_succ, flatC_cons, flatC_cons, ih i hc]
section
variable {W W' : World} {hb sb : Nat} {vc : Value} {T : Nat → Prop} {H : List (Option Hc)} {u h : Nat}
/-- a cell's bytes are others -/
theorem HLay.saved (g : HLay W hb sb vc T H u h) (i : Nat) (c d : Hc) (hc : H[i]? = some (some c)) (he : d.cl = c.cl) (hd : d.ok) (hU : Upd T W W') (hS : St W' T sb ((hA H).set i (some d.bytes)) 8388608 1048577) : HLay W' hb sb vc T (H.set i (some d)) u h := by
  have hil := (List.getElem?_eq_some_iff.1 hc).1
  refine ⟨(hU.block hb g.hlt g.thb).trans g.obj, ?_, ?_, fun k e => Nat.lt_of_lt_of_le (g.tlt k e) hU.size, g.thb, g.tvc, ?_, by rw [List.length_set]; exact g.len, g.u1, g.h1⟩
  · rw [List.length_set, flatC_same H i (some c) (some d) hc he]
    exact owns_on g.own (fun k e => hU.block k (g.clt k e) (g.tvc k e))
  · rw [← hA_set]; exact hS
  · intro j e hj
    by_cases hij : j = i
    · subst hij
      rw [List.getElem?_set_self hil] at hj
      cases hj; exact hd
    · rw [List.getElem?_set_ne (Ne.symm hij)] at hj
      exact g.ok j e hj
theorem save_num (g : HLay W hb sb vc T H u h) (id : Nat) (i j : Int) (hc : H[id]? = some (some (.num j))) (h0 : -9223372036854775808 ≤ i) (h1 : i < 9223372036854775808) (ob ow : Option Addr) (bc wc : Nat) :
    Calls Tryz.prog 160 #[.pointer (some ⟨hb, 0, none⟩), .int .i64 id, .agg #[.int .i64 2, .bool false, .int .i64 i, .string ByteArray.empty, .slice ob 0 bc, .slice ow 0 wc, .int .u64 0, .int .i64 0, .int .i64 0]] W fun e w' => e = .returned (.tuple #[]) ∧ Upd T W w' ∧ HLay w' hb sb vc T (H.set id (some (.num i))) u h := by
  have hBa : Below W.heap.size W (W.alloc (.cells #[.int .i64 2, .bool false, .int .i64 i, .string ByteArray.empty, .slice ob 0 bc, .slice ow 0 wc, .int .u64 0, .int .i64 0, .int .i64 0] 96)) := (Below.refl _ W).alloc (Nat.le_refl _) _
  have ga := g.below hBa
  have hn : (i % 18446744073709551616).toNat < 18446744073709551616 := by omega
  have cv := save_st (ga.same (W' := (W.alloc (.cells #[.int .i64 2, .bool false, .int .i64 i, .string ByteArray.empty, .slice ob 0 bc, .slice ow 0 wc, .int .u64 0, .int .i64 0, .int .i64 0] 96)).drew) rfl).st id _ (hA_some hc) 0 8 (i % 18446744073709551616).toNat hn (.inr (.inr (.inr rfl))) (by omega) (by show 0 + 8 ≤ (le8 _).length; rw [le8_len]; omega)
  have e8 : saved (Hc.num j).bytes 0 (i % 18446744073709551616).toNat 8 = (Hc.num i).bytes := saved_le8 _ _ (le8_len _)
  rw [e8] at cv
  have ew : (((i % 18446744073709551616).toNat : Nat) : Int) = IntKind.u64.wrap i := by rw [IntKind.wrap_u64]; omega
  rw [ew, show ((0 : Nat) : Int) = 0 from rfl, show ((8 : Nat) : Int) = 8 from rfl] at cv
  have cs : ∀ w, Calls Tryz.prog 148 #[.int .i64 2, .bool false] w fun e w' => e = .returned (.int .i64 1) ∧ w' = w := fun w => shape_c 2 false w
  have fin : Hid (∀ w2, Upd T (W.alloc (.cells #[.int .i64 2, .bool false, .int .i64 i, .string ByteArray.empty, .slice ob 0 bc, .slice ow 0 wc, .int .u64 0, .int .i64 0, .int .i64 0] 96)) w2 → St w2 T sb ((hA H).set id (some (Hc.num i).bytes)) 8388608 1048577 → Upd T W w2 ∧ HLay w2 hb sb vc T (H.set id (some (.num i))) u h) := by
    show ∀ w2, _
    intro w2 hU2 hS2
    exact ⟨(Upd.of_below hBa).trans' hU2, ga.saved id _ (.num i) hc rfl ⟨h0, h1⟩ hU2 hS2⟩
  have c0 := ga.cell 0
  simp only [List.getElem?_cons_zero] at c0
  have c2 := World.cell?_alloc_new W #[.int .i64 2, .bool false, .int .i64 i, .string ByteArray.empty, .slice ob 0 bc, .slice ow 0 wc, .int .u64 0, .int .i64 0, .int .i64 0] 96 2
  simp only [List.getElem?_toArray, List.getElem?_cons_succ, List.getElem?_cons_zero] at c2
  have keep : Hid (∀ w2, Upd T (W.alloc (.cells #[.int .i64 2, .bool false, .int .i64 i, .string ByteArray.empty, .slice ob 0 bc, .slice ow 0 wc, .int .u64 0, .int .i64 0, .int .i64 0] 96)).drew w2 → w2.cell? ⟨hb, 0, none⟩ = some (.pointer (some ⟨sb, 0, none⟩)) ∧ w2.cell? ⟨W.heap.size, 2, none⟩ = some (.int .i64 i)) := by
    show ∀ w2, _
    intro w2 hU2
    have e1 := hU2.block hb ga.hlt g.thb
    have e2 := hU2.block W.heap.size (by show _ < (W.alloc _).heap.size; rw [World.size_alloc]; omega) (fun e => by have := g.tlt _ e; omega)
    exact ⟨(World.cell?_of_block e1).trans c0, (World.cell?_of_block e2).trans c2⟩
  clear ga e8 ew hn
  go_enter Tryz.func160, Tryz.ntmps160
  go_wp2_with (go_at_call 148; (with_reducible refine (cs _).mono ?_); rintro e w' ⟨rfl, hw⟩; (have hw' := hw.symm); subst hw'; clear hw)
  go_region_held3 (fun w' => w'.cell? ⟨hb, 0, none⟩ = some (.pointer (some ⟨sb, 0, none⟩)) ∧ w'.cell? ⟨W.heap.size, 2, none⟩ = some (.int .i64 i)) (first | exact ⟨c0, c2⟩ | exact k2) (first | (go_at_call 208; (with_reducible refine cv.mono ?_); rintro e w2 ⟨rfl, hU2, hS2⟩; (have k2 := keep.out w2 hU2); clear cv keep c0 c2))
  have hf := fin.out w2 ⟨hU2.os, hU2.tape, hU2.output, hU2.size, hU2.block⟩ hS2
  go_wp2
  go_end0
  exact ⟨rfl, hf.1, hf.2⟩
end
end Go.Proofs.YthgcdohndchdkaaGreatDoor.W
