import Derived.Test.YtkjaoandifednaaGreatDoorJO
import Derived.Laws.EntriesVeiled
import Derived.Scope
namespace Go.Proofs.YtkjaoandifednaaGreatDoor.W
open Go.ChangeShapes Go.WideShapes Go.RowKit Go.Shelf
set_option linter.unusedVariables false
def yv (t:Tk) (a c fa:Int):Array Value:=#[tv t a,.agg #[.int .i64 c,.int .i64 fa]]
def endTk:Tk:=⟨7,⟨#[]⟩,0,0⟩
def toksP:Nat→List UInt8→Nat→List (Array Value)
 | 0,_,_=>[]
 | f + 1,l,a=>if l.length≤a then [yv endTk a 0 0] else
  if (pieceP (l.drop a)).size=0 then [yv noTk 0 60 a] else
  if (pieceP (l.drop a)).code ≠ 0 then [yv noTk 0 (pieceP (l.drop a)).code a] else
  if (pieceP (l.drop a)).t.kind ≠ 0 then yv (pieceP (l.drop a)).t a 0 0 :: toksP f l (a + (pieceP (l.drop a)).size) else toksP f l (a + (pieceP (l.drop a)).size)
def valsP (l:List UInt8):List (Array Value):=if 65536 < l.length then [yv noTk 0 2 0] else toksP (l.length + 1) l 0
section
variable {f a:Nat} {l:List UInt8} {p:Pc}
theorem toks_end (h:l.length≤a):toksP (f + 1) l a=[yv endTk a 0 0]:=by unfold toksP;exact if_pos h
theorem toks_none (h:¬ l.length≤a) (hp:pieceP (l.drop a)=p) (h1:p.size=0):toksP (f + 1) l a=[yv noTk 0 60 a]:=by
 unfold toksP;rw [if_neg h,hp,if_pos h1]
theorem toks_bad (h:¬ l.length≤a) (hp:pieceP (l.drop a)=p) (h1:¬ p.size=0) (h2:¬ p.code=0):toksP (f + 1) l a=[yv noTk 0 p.code a]:=by
 unfold toksP;rw [if_neg h,hp,if_neg h1,if_pos h2]
theorem toks_tok (h:¬ l.length≤a) (hp:pieceP (l.drop a)=p) (h1:¬ p.size=0) (h2:p.code=0) (h3:¬ p.t.kind=0):toksP (f + 1) l a=yv p.t a 0 0 :: toksP f l (a + p.size):=by
 conv=>lhs;unfold toksP
 rw [if_neg h,hp,if_neg h1,if_neg (by rw [h2];decide),if_pos h3]
theorem toks_gap (h:¬ l.length≤a) (hp:pieceP (l.drop a)=p) (h1:¬ p.size=0) (h2:p.code=0) (h3:p.t.kind=0):toksP (f + 1) l a=toksP f l (a + p.size):=by
 conv=>lhs;unfold toksP
 rw [if_neg h,hp,if_neg h1,if_neg (by rw [h2];decide),if_neg (by rw [h3];decide)]
end
theorem piece_at (l:List UInt8):(¬ (gapP l).size=0→pieceP l=gapP l)∧((gapP l).size=0→(¬ (nameP l).size=0→pieceP l=nameP l)∧((nameP l).size=0→(¬ (doubleP l).size=0→pieceP l=doubleP l)∧((doubleP l).size=0→(¬ (wholeP l).size=0→pieceP l=wholeP l)∧((wholeP l).size=0→(¬ (quotedP l).size=0→pieceP l=quotedP l)∧((quotedP l).size=0→pieceP l=markP l))))):=by
 unfold pieceP orPc
 refine ⟨fun h=>if_neg h,fun h0=>⟨fun h=>?_,fun h1=>⟨fun h=>?_,fun h2=>⟨fun h=>?_,fun h3=>⟨fun h=>?_,fun h4=>?_⟩⟩⟩⟩⟩
 ·rw [if_pos h0,if_neg h]
 ·rw [if_pos h0,if_pos h1,if_neg h]
 ·rw [if_pos h0,if_pos h1,if_pos h2,if_neg h]
 ·rw [if_pos h0,if_pos h1,if_pos h2,if_pos h3,if_neg h]
 ·rw [if_pos h0,if_pos h1,if_pos h2,if_pos h3,if_pos h4]
theorem rdT:∃ d,Tryz.prog.underlying 99=some d∧(match d with | .struct _ | .array _ _=>true | _=>false)=true:=by
 have h:(Tryz.prog.underlying 99).map (fun d=>match d with | .struct _ | .array _ _=>true | _=>false)=some true:=by kernel_rfl
 cases hu:Tryz.prog.underlying 99 with
 | none=>rw [hu] at h;cases h
 | some d=>rw [hu] at h;injection h with h;exact ⟨d,rfl,h⟩
theorem rdSz:(Tryz.prog.info? 99).map (·.size)=some 6:=by kernel_rfl
theorem rd_ret {fn:Func} {p:Tmp} (h:fn.results = #[.cell p 99]) (tmps:Array Value) (w:World) (gb:Nat) (v0 v1 v2 v3 v4 v5:Value) (fr:Nat × Nat) (hp:tmps.getD p undef=.pointer (some ⟨gb,0,none⟩)) (hg:w.heap[gb]? = some (.cells #[v0,v1,v2,v3,v4,v5] 99 fr)):(results fn tmps).run Tryz.prog w=.ok (.agg #[v0,v1,v2,v3,v4,v5]) w:=by
 obtain ⟨d,hu,hd⟩:=rdT
 exact results_cell_row h tmps w gb _ _ fr d hp hg hu (by cases d <;> first | rfl | exact hd) (by rw [rdSz];rfl)
theorem readers_c (w:World):Calls Tryz.prog 42 #[] w fun e w'=>e=.returned (.agg #[.func (.func 65) #[] #[],.func (.func 66) #[] #[],.func (.func 67) #[] #[],.func (.func 68) #[] #[],.func (.func 69) #[] #[],.func (.func 70) #[] #[]])∧Below w.heap.size w w':=by
 go_enter Tryz.func42,Tryz.ntmps42
 go_wp2
 refine bodyPost_ret (rd_ret rfl _ _ w.heap.size _ _ _ _ _ _ (0,0) rfl (World.alloc_heap_new w _)) rfl ?_
 exact ⟨rfl,(Below.refl _ w).alloc (Nat.le_refl _) _⟩
theorem tokens_c (s:ByteArray) (w:World):Calls Tryz.prog 24 #[.string s] w fun e w'=>e=.returned (.func (.func 41) #[] #[.pointer (some ⟨w.heap.size,0,none⟩)])∧w'=w.alloc (.cells #[.string s] 9):=by
 go_enter Tryz.func24,Tryz.ntmps24
 go_wp2
 go_ret
 exact ⟨rfl,rfl⟩
theorem get_of_drop {α:Type} {l:List α} {i:Nat} {x:α} {r:List α} (h:l.drop i=x :: r):∃ hi:i < l.length,l[i]=x∧l.drop (i + 1)=r:=by
 have hi:i < l.length:=by
  rcases Nat.lt_or_ge i l.length with c | c
  ·exact c
  ·rw [List.drop_eq_nil_of_le c] at h;cases h
 rw [List.drop_eq_getElem_cons hi] at h
 injection h with h1 h2
 exact ⟨hi,h1,h2⟩
theorem quoteGo_le (f:Nat):∀ (r:List UInt8) (n:Nat) (acc:List UInt8),(quoteGo f r n acc).size≤n + r.length:=by
 induction f with
 | zero=>intro r n acc;exact Nat.le_add_right _ _
 | succ f ih=>
  intro r n acc
  cases r with
  | nil=>rw [quote_end];exact Nat.le_add_right _ _
  | cons c r=>
   by_cases h:c=34
   ·rw [quote_stop _ _ _ _ _ (Nat.succ_pos _) h];show n + 1≤n + (r.length + 1);omega
   ·by_cases h2:(speltP (c :: r)).2=0
    ·rw [quote_bad _ _ _ _ _ (Nat.succ_pos _) h h2];exact Nat.le_add_right _ _
    ·rw [quote_on _ _ _ _ _ h h2]
     refine Nat.le_trans (ih _ _ _) ?_
     have:=(speltP_lt (c :: r)).2
     rw [List.length_drop]
     omega
theorem piece_le (l:List UInt8):(pieceP l).size≤l.length:=by
 have hg:(gapP l).size≤l.length:=by
  show gapN l≤_
  unfold gapN
  split
  ·exact runN_le _ _
  ·exact runN_le _ _
 have hn:(nameP l).size≤l.length:=by
  unfold nameP
  split
  ·exact Nat.zero_le _
  ·split
   ·exact runN_le _ _
   ·exact runN_le _ _
 have hd:(doubleP l).size≤l.length:=by
  unfold doubleP
  split
  ·rename_i c
   have h2:2≤l.length:=by
    have:=congrArg List.length c
    rw [List.length_take] at this
    have e2:hexT.length=2:=rfl
    omega
   split
   ·exact (dblN_le l h2).2
   ·exact (dblN_le l h2).2
  ·exact Nat.zero_le _
 have hw:(wholeP l).size≤l.length:=by
  unfold wholeP
  split
  ·exact Nat.zero_le _
  ·split
   ·exact runN_le _ _
   ·exact runN_le _ _
 have hq:(quotedP l).size≤l.length:=by
  unfold quotedP
  split
  ·rename_i c
   have h1:1≤l.length:=by
    cases l with
    | nil=>cases c
    | cons a r=>simp
   rcases qd_cases (quoteGo l.length (l.drop 1) 1 []) with e | ⟨_,e⟩
   ·rw [e]
    refine Nat.le_trans (quoteGo_le _ _ _ _) ?_
    rw [List.length_drop]
    omega
   ·rw [e]
    exact h1
  ·exact Nat.zero_le _
 have hm:(markP l).size≤l.length:=by
  unfold markP
  split
  ·rename_i m e
   have:=List.find?_some e
   have h2:l.take m.length=m:=by simpa using this
   show m.length≤_
   rw [← h2,List.length_take]
   omega
  ·exact Nat.zero_le _
 unfold pieceP orPc
 repeat (first | assumption | (split <;> first | assumption | skip))
end Go.Proofs.YtkjaoandifednaaGreatDoor.W
