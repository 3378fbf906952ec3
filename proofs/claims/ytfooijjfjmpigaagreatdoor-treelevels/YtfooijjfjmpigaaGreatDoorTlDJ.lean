import Derived.Test.YtfooijjfjmpigaaGreatDoorTlAJ
import Derived.Test.YtfooijjfjmpigaaGreatDoorJK
/- Stage 12, TreeLevels: level. -/
namespace Go.Proofs.YtfooijjfjmpigaaGreatDoor.W.Tr
open Go.ChangeShapes Go.WideShapes Go.RowKit Go.Shelf
set_option linter.unusedVariables false
set_option linter.unusedSimpArgs false
def allocs (w : World) (os : List Obj) : World := os.foldl World.alloc w
theorem allocs_size (os : List Obj) : ∀ w : World, (allocs w os).heap.size = w.heap.size + os.length := by
  induction os with
  | nil => intro w; rfl
  | cons o os ih =>
    intro w
    show (allocs (w.alloc o) os).heap.size = _
    rw [ih, World.size_alloc, List.length_cons]
    omega
theorem allocs_below (os : List Obj) : ∀ w : World, Below w.heap.size w (allocs w os) := by
  induction os with
  | nil => intro w; exact Below.refl _ _
  | cons o os ih =>
    intro w
    have h := ih (w.alloc o)
    have h0 : Below w.heap.size w (w.alloc o) := (Below.refl _ w).alloc (Nat.le_refl _) _
    exact h0.trans (h.mono h0.size)
theorem allocs_at (os : List Obj) : ∀ (w : World) (j : Nat) (o : Obj), os[j]? = some o → (allocs w os).heap[w.heap.size + j]? = some o := by
  induction os with
  | nil => intro w j o h; simp at h
  | cons p os ih =>
    intro w j o h
    cases j with
    | zero =>
      simp at h
      subst h
      have h1 := World.alloc_heap_new w p
      exact ((allocs_below os (w.alloc p)).block w.heap.size (by simp)).trans h1
    | succ j =>
      have := ih (w.alloc p) j o (by simpa using h)
      rw [World.size_alloc] at this
      rw [show w.heap.size + (j + 1) = w.heap.size + 1 + j by omega]
      exact this
def opRow (i : Nat) : List ByteArray := (opT.getD i []).map fun l => ⟨l.toArray⟩
/-- level's table, as it lies -/
def LvT (w W : World) : Prop := (∀ i, i < 9 → W.cell? ⟨w.heap.size + 9, i, none⟩ = some (.slice (some ⟨w.heap.size + i, 0, none⟩) (opRow i).length (opRow i).length)) ∧ ∀ i k x, i < 9 → (opRow i)[k]? = some x → W.cell? ⟨w.heap.size + i, k, none⟩ = some (.string x)
theorem row_cells0 {W : World} {b : Nat} {l : List ByteArray} (h : W.heap[b]? = some (.cells (l.map Value.string).toArray 9 (0, 0))) (k : Nat) (x : ByteArray) (hx : l[k]? = some x) : W.cell? ⟨b, k, none⟩ = some (.string x) := by
  rw [row_cellsX h k]
  simp [hx]
theorem lvT (w : World) : LvT w (World.alloc (World.alloc (World.alloc (World.alloc (World.alloc (World.alloc (World.alloc (World.alloc (World.alloc (World.alloc (w) (.cells #[.string ⟨#[111, 114]⟩] 9)) (.cells #[.string ⟨#[97, 110, 100]⟩] 9)) (.cells #[.string ⟨#[61, 61]⟩, .string ⟨#[33, 61]⟩, .string ⟨#[60]⟩, .string ⟨#[60, 61]⟩, .string ⟨#[62]⟩, .string ⟨#[62, 61]⟩] 9)) (.cells #[.string ⟨#[124]⟩] 9)) (.cells #[.string ⟨#[94]⟩] 9)) (.cells #[.string ⟨#[38]⟩] 9)) (.cells #[.string ⟨#[60, 60]⟩, .string ⟨#[62, 62]⟩] 9)) (.cells #[.string ⟨#[43]⟩, .string ⟨#[45]⟩] 9)) (.cells #[.string ⟨#[42]⟩, .string ⟨#[47]⟩, .string ⟨#[47, 47]⟩, .string ⟨#[37]⟩] 9)) (.cells #[.slice (some ⟨w.heap.size, 0, none⟩) 1 1, .slice (some ⟨w.heap.size + 1, 0, none⟩) 1 1, .slice (some ⟨w.heap.size + 2, 0, none⟩) 6 6, .slice (some ⟨w.heap.size + 3, 0, none⟩) 1 1, .slice (some ⟨w.heap.size + 4, 0, none⟩) 1 1, .slice (some ⟨w.heap.size + 5, 0, none⟩) 1 1, .slice (some ⟨w.heap.size + 6, 0, none⟩) 2 2, .slice (some ⟨w.heap.size + 7, 0, none⟩) 2 2, .slice (some ⟨w.heap.size + 8, 0, none⟩) 4 4] 55)) := by
  have h := allocs_at [.cells #[.string ⟨#[111, 114]⟩] 9, .cells #[.string ⟨#[97, 110, 100]⟩] 9, .cells #[.string ⟨#[61, 61]⟩, .string ⟨#[33, 61]⟩, .string ⟨#[60]⟩, .string ⟨#[60, 61]⟩, .string ⟨#[62]⟩, .string ⟨#[62, 61]⟩] 9, .cells #[.string ⟨#[124]⟩] 9, .cells #[.string ⟨#[94]⟩] 9, .cells #[.string ⟨#[38]⟩] 9, .cells #[.string ⟨#[60, 60]⟩, .string ⟨#[62, 62]⟩] 9, .cells #[.string ⟨#[43]⟩, .string ⟨#[45]⟩] 9, .cells #[.string ⟨#[42]⟩, .string ⟨#[47]⟩, .string ⟨#[47, 47]⟩, .string ⟨#[37]⟩] 9, .cells #[.slice (some ⟨w.heap.size, 0, none⟩) 1 1, .slice (some ⟨w.heap.size + 1, 0, none⟩) 1 1, .slice (some ⟨w.heap.size + 2, 0, none⟩) 6 6, .slice (some ⟨w.heap.size + 3, 0, none⟩) 1 1, .slice (some ⟨w.heap.size + 4, 0, none⟩) 1 1, .slice (some ⟨w.heap.size + 5, 0, none⟩) 1 1, .slice (some ⟨w.heap.size + 6, 0, none⟩) 2 2, .slice (some ⟨w.heap.size + 7, 0, none⟩) 2 2, .slice (some ⟨w.heap.size + 8, 0, none⟩) 4 4] 55] w
  refine ⟨fun i hi => ?_, fun i k x hi hx => ?_⟩
  · have h9 := row_cellsX (h 9 _ rfl) i
    have : i = 0 ∨ i = 1 ∨ i = 2 ∨ i = 3 ∨ i = 4 ∨ i = 5 ∨ i = 6 ∨ i = 7 ∨ i = 8 := by omega
    rcases this with rfl | rfl | rfl | rfl | rfl | rfl | rfl | rfl | rfl <;> exact h9
  · have : i = 0 ∨ i = 1 ∨ i = 2 ∨ i = 3 ∨ i = 4 ∨ i = 5 ∨ i = 6 ∨ i = 7 ∨ i = 8 := by omega
    rcases this with rfl | rfl | rfl | rfl | rfl | rfl | rfl | rfl | rfl
    · exact row_cells0 (l := opRow 0) (h 0 _ rfl) k x hx
    · exact row_cells0 (l := opRow 1) (h 1 _ rfl) k x hx
    · exact row_cells0 (l := opRow 2) (h 2 _ rfl) k x hx
    · exact row_cells0 (l := opRow 3) (h 3 _ rfl) k x hx
    · exact row_cells0 (l := opRow 4) (h 4 _ rfl) k x hx
    · exact row_cells0 (l := opRow 5) (h 5 _ rfl) k x hx
    · exact row_cells0 (l := opRow 6) (h 6 _ rfl) k x hx
    · exact row_cells0 (l := opRow 7) (h 7 _ rfl) k x hx
    · exact row_cells0 (l := opRow 8) (h 8 _ rfl) k x hx
theorem toL_inj {x y : ByteArray} (h : x.toList = y.toList) : x = y := by
  rw [ByteArray.toList_eq, ByteArray.toList_eq] at h
  cases x; cases y
  congr 1
  exact Array.toList_inj.1 h
theorem opRow_len (i : Nat) : (opRow i).length ≤ 6 := by
  by_cases h : i < 9
  · have : i = 0 ∨ i = 1 ∨ i = 2 ∨ i = 3 ∨ i = 4 ∨ i = 5 ∨ i = 6 ∨ i = 7 ∨ i = 8 := by omega
    rcases this with rfl | rfl | rfl | rfl | rfl | rfl | rfl | rfl | rfl <;> decide
  · unfold opRow
    rw [List.getD_eq_getElem?_getD, List.getElem?_eq_none (by show 9 ≤ i; omega)]
    simp
def LvR (s : ByteArray) (e : Ending) : Prop := (∃ i k : Nat, i < 9 ∧ (opRow i)[k]? = some s ∧ e = .returned (.int .i64 (i : Nat))) ∨ ((∀ i, i < 9 → s ∉ opRow i) ∧ e = .returned (.int .i64 (-1)))
set_option maxRecDepth 100000 in
set_option maxHeartbeats 1000000 in
theorem level_c (s : ByteArray) (w : World) : Calls Tryz.prog 13 #[.string s] w fun e w' => LvR s e ∧ Below w.heap.size w w' := by
  have HT := hid (lvT w)
  have hBel : Below w.heap.size w (World.alloc (World.alloc (World.alloc (World.alloc (World.alloc (World.alloc (World.alloc (World.alloc (World.alloc (World.alloc (w) (.cells #[.string ⟨#[111, 114]⟩] 9)) (.cells #[.string ⟨#[97, 110, 100]⟩] 9)) (.cells #[.string ⟨#[61, 61]⟩, .string ⟨#[33, 61]⟩, .string ⟨#[60]⟩, .string ⟨#[60, 61]⟩, .string ⟨#[62]⟩, .string ⟨#[62, 61]⟩] 9)) (.cells #[.string ⟨#[124]⟩] 9)) (.cells #[.string ⟨#[94]⟩] 9)) (.cells #[.string ⟨#[38]⟩] 9)) (.cells #[.string ⟨#[60, 60]⟩, .string ⟨#[62, 62]⟩] 9)) (.cells #[.string ⟨#[43]⟩, .string ⟨#[45]⟩] 9)) (.cells #[.string ⟨#[42]⟩, .string ⟨#[47]⟩, .string ⟨#[47, 47]⟩, .string ⟨#[37]⟩] 9)) (.cells #[.slice (some ⟨w.heap.size, 0, none⟩) 1 1, .slice (some ⟨w.heap.size + 1, 0, none⟩) 1 1, .slice (some ⟨w.heap.size + 2, 0, none⟩) 6 6, .slice (some ⟨w.heap.size + 3, 0, none⟩) 1 1, .slice (some ⟨w.heap.size + 4, 0, none⟩) 1 1, .slice (some ⟨w.heap.size + 5, 0, none⟩) 1 1, .slice (some ⟨w.heap.size + 6, 0, none⟩) 2 2, .slice (some ⟨w.heap.size + 7, 0, none⟩) 2 2, .slice (some ⟨w.heap.size + 8, 0, none⟩) 4 4] 55)) := allocs_below [.cells #[.string ⟨#[111, 114]⟩] 9, .cells #[.string ⟨#[97, 110, 100]⟩] 9, .cells #[.string ⟨#[61, 61]⟩, .string ⟨#[33, 61]⟩, .string ⟨#[60]⟩, .string ⟨#[60, 61]⟩, .string ⟨#[62]⟩, .string ⟨#[62, 61]⟩] 9, .cells #[.string ⟨#[124]⟩] 9, .cells #[.string ⟨#[94]⟩] 9, .cells #[.string ⟨#[38]⟩] 9, .cells #[.string ⟨#[60, 60]⟩, .string ⟨#[62, 62]⟩] 9, .cells #[.string ⟨#[43]⟩, .string ⟨#[45]⟩] 9, .cells #[.string ⟨#[42]⟩, .string ⟨#[47]⟩, .string ⟨#[47, 47]⟩, .string ⟨#[37]⟩] 9, .cells #[.slice (some ⟨w.heap.size, 0, none⟩) 1 1, .slice (some ⟨w.heap.size + 1, 0, none⟩) 1 1, .slice (some ⟨w.heap.size + 2, 0, none⟩) 6 6, .slice (some ⟨w.heap.size + 3, 0, none⟩) 1 1, .slice (some ⟨w.heap.size + 4, 0, none⟩) 1 1, .slice (some ⟨w.heap.size + 5, 0, none⟩) 1 1, .slice (some ⟨w.heap.size + 6, 0, none⟩) 2 2, .slice (some ⟨w.heap.size + 7, 0, none⟩) 2 2, .slice (some ⟨w.heap.size + 8, 0, none⟩) 4 4] 55] w
  go_enter Tryz.func13, Tryz.ntmps13
  go_upto_region 3 with fail
  generalize World.alloc (World.alloc (World.alloc (World.alloc (World.alloc (World.alloc (World.alloc (World.alloc (World.alloc (World.alloc (w) (.cells #[.string ⟨#[111, 114]⟩] 9)) (.cells #[.string ⟨#[97, 110, 100]⟩] 9)) (.cells #[.string ⟨#[61, 61]⟩, .string ⟨#[33, 61]⟩, .string ⟨#[60]⟩, .string ⟨#[60, 61]⟩, .string ⟨#[62]⟩, .string ⟨#[62, 61]⟩] 9)) (.cells #[.string ⟨#[124]⟩] 9)) (.cells #[.string ⟨#[94]⟩] 9)) (.cells #[.string ⟨#[38]⟩] 9)) (.cells #[.string ⟨#[60, 60]⟩, .string ⟨#[62, 62]⟩] 9)) (.cells #[.string ⟨#[43]⟩, .string ⟨#[45]⟩] 9)) (.cells #[.string ⟨#[42]⟩, .string ⟨#[47]⟩, .string ⟨#[47, 47]⟩, .string ⟨#[37]⟩] 9)) (.cells #[.slice (some ⟨w.heap.size, 0, none⟩) 1 1, .slice (some ⟨w.heap.size + 1, 0, none⟩) 1 1, .slice (some ⟨w.heap.size + 2, 0, none⟩) 6 6, .slice (some ⟨w.heap.size + 3, 0, none⟩) 1 1, .slice (some ⟨w.heap.size + 4, 0, none⟩) 1 1, .slice (some ⟨w.heap.size + 5, 0, none⟩) 1 1, .slice (some ⟨w.heap.size + 6, 0, none⟩) 2 2, .slice (some ⟨w.heap.size + 7, 0, none⟩) 2 2, .slice (some ⟨w.heap.size + 8, 0, none⟩) 4 4] 55) = W at *
  have HB := hid hBel
  clear hBel
  go_loopw [4, 5] (fun iv _ wr => ∃ i : Nat, i ≤ 9 ∧ iv = .int .i64 (i : Nat) ∧ (∀ i', i' < i → s ∉ opRow i') ∧ wr = W) (fun iv _ _ => 9 - (intOf iv).toNat)
  case atStart => exact ⟨0, by omega, rfl, fun i' h => by omega, rfl⟩
  case round =>
    obtain ⟨i, hi, rfl, hno, hw⟩ := hrel
    have hw' := hw.symm
    subst hw'
    clear hw
    by_cases hlt : i < 9
    case neg =>
      have e : i = 9 := by omega
      subst e
      have HNO := hid hno
      clear hno
      go_wp2_with fail
      go_ret
      exact ⟨.inr ⟨HNO.out, rfl⟩, HB.out⟩
    have j1 : (i : Int) < 9 := by omega
    have j2 : (0 : Int) ≤ i := by omega
    have j3 : IntKind.i64.wrap ((i : Int) + 1) = ((i + 1 : Nat) : Int) := by rw [IntKind.wrap_i64]; omega
    have c0 := HT.out.1 i hlt
    have cr := fun k x => HT.out.2 i k x hlt
    have hrl := opRow_len i
    have HC := hid cr
    have HNO := hid hno
    clear hno cr
    generalize hR : opRow i = R at *
    have HR := hid hR
    clear hR
    go_upto_region 6 with fail
    go_loopw [5] (fun kv wr' => ∃ k : Nat, k ≤ R.length ∧ kv = .int .i64 (k : Nat) ∧ (∀ k', k' < k → R[k']? ≠ some s) ∧ wr' = W) (fun kv _ => R.length - (intOf kv).toNat)
    case atStart => exact ⟨0, by omega, rfl, fun k' h => by omega, rfl⟩
    case round =>
      obtain ⟨k, hk, rfl, hnk, hw⟩ := hrel
      have hw' := hw.symm
      subst hw'
      clear hw
      by_cases hltk : k < R.length
      case neg =>
        have j4 : ¬ (k : Int) < R.length := by omega
        have hni : s ∉ R := by
          intro hm
          obtain ⟨k', hk'⟩ := List.getElem?_of_mem hm
          exact hnk k' (by have := (List.getElem?_eq_some_iff.1 hk').1; omega) hk'
        have HNI := hid hni
        clear hni hnk
        go_wp2_with fail
        go_roundw
        case rel => exact ⟨i + 1, by omega, by first | rfl | go_num, fun i' h => by
          rcases Nat.lt_or_ge i' i with g | g
          · exact HNO.out i' g
          · rw [show i' = i by omega, HR.out]; exact HNI.out, trivial⟩
        case measure => show 9 - ((i + 1 : Nat) : Int).toNat < 9 - (i : Int).toNat; omega
      have j4 : (k : Int) < R.length := by omega
      have j5 : (0 : Int) ≤ k := by omega
      have j6 : IntKind.i64.wrap ((k : Int) + 1) = ((k + 1 : Nat) : Int) := by rw [IntKind.wrap_i64]; omega
      have hx : R[k]? = some R[k] := List.getElem?_eq_getElem hltk
      have c1 := HC.out k _ hx
      have HX := hid hx
      generalize R[k] = x at *
      have HNK := hid hnk
      clear hnk hx
      cases hq : (x.toList == s.toList)
      · have hne : ¬ x = s := by
          rintro rfl
          simp at hq
        have HNE := hid hne
        clear hne
        go_wp2_with fail
        go_roundw
        case rel => exact ⟨k + 1, by omega, by first | rfl | go_num, fun k' h => by
          rcases Nat.lt_or_ge k' k with g | g
          · exact HNK.out k' g
          · rw [show k' = k by omega, HX.out]
            intro e
            exact HNE.out (Option.some.inj e), trivial⟩
        case measure => show R.length - ((k + 1 : Nat) : Int).toNat < R.length - (k : Int).toNat; omega
      · have hse : x = s := toL_inj (by simpa using hq)
        have HSE := hid hse
        clear hse
        go_wp2_with fail
        go_ret
        refine ⟨.inl ⟨i, k, hlt, ?_, rfl⟩, HB.out⟩
        rw [HR.out, HX.out, HSE.out]
end Go.Proofs.YtfooijjfjmpigaaGreatDoor.W.Tr
