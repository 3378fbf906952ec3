import Derived.Test.YtkjaoandifednaaGreatDoorKG
import Derived.Test.YtkjaoandifednaaGreatDoorKL
import Derived.Test.YtkjaoandifednaaGreatDoorKN
import Derived.Test.YtkjaoandifednaaGreatDoorKA
namespace Go.Proofs.YtkjaoandifednaaGreatDoor.W.Tr
set_option linter.unusedVariables false
set_option linter.unusedSimpArgs false
def isK (s:ByteArray):Bool:=s.toList == []
def fillT:List ByteArray→List (List ByteArray)→List ByteArray
 | [],_=>[]
 | s :: ts,L=>if isK s=true then L.headD [] ++ fillT ts L.tail else s :: fillT ts L
theorem fill_w {s:ByteArray} {ts:List ByteArray} {L:List (List ByteArray)} (h:isK s=false):fillT (s :: ts) L=s :: fillT ts L:=by
 conv=>lhs;unfold fillT
 rw [h]
 rfl
theorem fill_k {s:ByteArray} {ts:List ByteArray} {k:List ByteArray} {L:List (List ByteArray)} (h:isK s=true):fillT (s :: ts) (k :: L)=k ++ fillT ts L:=by
 conv=>lhs;unfold fillT
 rw [h]
 rfl
def tkl (tk:Nd × Nat→List ByteArray):Fo→List (List ByteArray)
 | .nil=>[]
 | .cons n ks r=>fillT (tk (n,ks.len)) (tkl tk ks) :: tkl tk r
def cntK (ts:List ByteArray):Nat:=(ts.filter isK).length
def addB (out:List UInt8) (s:ByteArray):List UInt8:=(if out=[] then [] else out ++ [32]) ++ s.data.toList
def joinB (out:List UInt8) (ts:List ByteArray):List UInt8:=ts.foldl addB out
def wtT (ts:List ByteArray):Nat:=(ts.map (fun s=>s.size + 1)).sum
def szT (tk:Nd × Nat→List ByteArray) (L:List (Nd × Nat)):Nat:=(L.map fun p=>(tk p).length).sum
def byT (tk:Nd × Nat→List ByteArray) (L:List (Nd × Nat)):Nat:=(L.map fun p=>wtT (tk p)).sum
theorem wtT_app (a b:List ByteArray):wtT (a ++ b)=wtT a + wtT b:=by simp [wtT]
theorem szT_app (tk:Nd × Nat→List ByteArray) (a b:List (Nd × Nat)):szT tk (a ++ b)=szT tk a + szT tk b:=by simp [szT]
theorem byT_app (tk:Nd × Nat→List ByteArray) (a b:List (Nd × Nat)):byT tk (a ++ b)=byT tk a + byT tk b:=by simp [byT]
theorem szT_cons (tk:Nd × Nat→List ByteArray) (p:Nd × Nat) (b:List (Nd × Nat)):szT tk (p :: b)=(tk p).length + szT tk b:=by simp [szT]
theorem byT_cons (tk:Nd × Nat→List ByteArray) (p:Nd × Nat) (b:List (Nd × Nat)):byT tk (p :: b)=wtT (tk p) + byT tk b:=by simp [byT]
theorem wtT_cons (s:ByteArray) (b:List ByteArray):wtT (s :: b)=s.size + 1 + wtT b:=by simp [wtT]
theorem addB_len (out:List UInt8) (s:ByteArray):(addB out s).length≤out.length + (s.size + 1):=by
 unfold addB
 have e:s.data.toList.length=s.size:=by simp
 rw [List.length_append,e]
 split
 ·simp;omega
 ·simp;omega
theorem joinB_len:∀ (ts:List ByteArray) (out:List UInt8),(joinB out ts).length≤out.length + wtT ts
 | [],out=>by simp [joinB,wtT]
 | s :: ts,out=>by
  have h:=joinB_len ts (addB out s)
  have h2:=addB_len out s
  rw [wtT_cons]
  show (joinB (addB out s) ts).length≤_
  omega
theorem joinB_app (out:List UInt8) (a b:List ByteArray):joinB out (a ++ b)=joinB (joinB out a) b:=by simp [joinB]
def sumW (L:List (List ByteArray)):Nat:=(L.map wtT).sum
theorem fill_wt:∀ (ts:List ByteArray) (L:List (List ByteArray)),wtT (fillT ts L)≤wtT ts + sumW L
 | [],L=>by simp [fillT,wtT]
 | s :: ts,L=>by
  unfold fillT
  rw [wtT_cons]
  split
  ·rw [wtT_app]
   cases L with
   | nil=>have:=fill_wt ts [];simp [wtT,sumW] at *;omega
   | cons l L=>have:=fill_wt ts L;simp [sumW] at *;omega
  ·rw [wtT_cons]
   have:=fill_wt ts L
   omega
theorem tkl_wt (tk:Nd × Nat→List ByteArray):∀ f:Fo,sumW (tkl tk f)≤byT tk (rowF f)
 | .nil=>by simp [tkl,sumW]
 | .cons n ks r=>by
  have h1:=tkl_wt tk ks
  have h2:=tkl_wt tk r
  have h3:=fill_wt (tk (n,ks.len)) (tkl tk ks)
  have e:sumW (tkl tk (Fo.cons n ks r))=wtT (fillT (tk (n,ks.len)) (tkl tk ks)) + sumW (tkl tk r):=by simp [tkl,sumW]
  rw [e]
  show _≤byT tk ((n,ks.len) :: (rowF ks ++ rowF r))
  rw [byT_cons,byT_app]
  omega
theorem prF_word (tk:Nd × Nat→List ByteArray) (L:List (Nd × Nat)) (m:Nat) (s:ByteArray) (ls:List ByteArray) (i:Nat) (out:List UInt8) (hs:isK s=false) (hb:out.length + s.size + 2≤1000000000):prF tk L (m + 1) (s :: ls) i out=prF tk L m ls i (addB out s):=by
 conv=>lhs;unfold prF
 have e:(s.toList == [])=false:=hs
 rw [e]
 simp only [Bool.false_eq_true,if_false]
 rw [if_pos hb]
 rfl
theorem prF_kid (tk:Nd × Nat→List ByteArray) (L:List (Nd × Nat)) (m:Nat) (s:ByteArray) (ls:List ByteArray) (i:Nat) (out:List UInt8) (p:Nd × Nat) (hs:isK s=true) (hp:L[i]? = some p) (hb:(tk p).length + ls.length≤2000000):prF tk L (m + 1) (s :: ls) i out=prF tk L m (tk p ++ ls) (i + 1) out:=by
 conv=>lhs;unfold prF
 have e:(s.toList == [])=true:=hs
 rw [e]
 simp only [if_true]
 rw [hp]
 simp only
 rw [if_pos hb]
theorem cntK_cons (s:ByteArray) (ts:List ByteArray):cntK (s :: ts)=(if isK s=true then 1 else 0) + cntK ts:=by
 unfold cntK
 rw [List.filter_cons]
 split
 ·simp;omega
 ·simp
theorem prF_row (tk:Nd × Nat→List ByteArray) (L:List (Nd × Nat)) (f:Fo):∀ (ts ls:List ByteArray) (A R:List (Nd × Nat)) (out:List UInt8) (m:Nat),(∀ p ∈ rowF f,cntK (tk p)=p.2)→L=A ++ (rowF f ++ R)→cntK ts=f.len→ts.length + ls.length + szT tk (rowF f)≤2000000→out.length + wtT ts + byT tk (rowF f) + 2≤1000000000→prF tk L (m + (ts.length + szT tk (rowF f))) (ts ++ ls) A.length out=prF tk L m ls (A.length + (rowF f).length) (joinB out (fillT ts (tkl tk f))):=by
 induction f with
 | nil=>
  intro ts
  induction ts with
  | nil=>intro ls A R out m _ _ _ _ _;simp [szT,rowF,fillT,joinB]
  | cons s ts ih=>
   intro ls A R out m hp hL hc h1 h2
   rw [cntK_cons] at hc
   have hs:isK s=false:=by
    cases e:isK s
    ·rfl
    ·rw [e] at hc;simp [Fo.len] at hc
   rw [hs] at hc
   simp only [rowF,Fo.len,wtT_cons,List.length_cons,Bool.false_eq_true,if_false,Nat.zero_add] at *
   have e:m + (ts.length + 1 + szT tk [])=m + (ts.length + szT tk []) + 1:=by omega
   have hl:=addB_len out s
   rw [e,List.cons_append,prF_word tk L _ s _ _ out hs (by omega),ih ls A R (addB out s) m hp hL hc (by omega) (by omega)]
   rw [fill_w hs]
   rfl
 | cons n k r ihk ihr=>
  intro ts
  induction ts with
  | nil=>intro ls A R out m _ _ hc _ _;simp [cntK,Fo.len] at hc
  | cons s ts ih=>
   intro ls A R out m hp hL hc h1 h2
   rw [cntK_cons] at hc
   have er:rowF (Fo.cons n k r)=(n,k.len) :: (rowF k ++ rowF r):=rfl
   cases hs:isK s
   ·rw [hs] at hc
    simp only [wtT_cons,List.length_cons,Bool.false_eq_true,if_false,Nat.zero_add] at hc h1 h2
    have e:m + ((s :: ts).length + szT tk (rowF (Fo.cons n k r)))=m + (ts.length + szT tk (rowF (Fo.cons n k r))) + 1:=by rw [List.length_cons];omega
    have hl:=addB_len out s
    rw [e,List.cons_append,prF_word tk L _ s _ _ out hs (by omega),ih ls A R (addB out s) m hp hL hc (by omega) (by omega)]
    rw [fill_w hs]
    rfl
   ·rw [hs] at hc
    have hp0:∀ q ∈ rowF (Fo.cons n k r),cntK (tk q)=q.2:=hp
    rw [er] at hp hL h1 h2
    rw [er]
    have hat:L[A.length]? = some (n,k.len):=by rw [hL,List.getElem?_append_right (Nat.le_refl _)];simp
    simp only [szT_cons,byT_cons,szT_app,byT_app,wtT_cons,List.length_cons,List.length_append] at h1 h2 ⊢
    simp only [Fo.len,if_true] at hc
    have hcp:cntK (tk (n,k.len))=k.len:=hp (n,k.len) (by simp)
    have e:m + (ts.length + 1 + ((tk (n,k.len)).length + (szT tk (rowF k) + szT tk (rowF r))))=(m + (ts.length + szT tk (rowF r))) + ((tk (n,k.len)).length + szT tk (rowF k)) + 1:=by omega
    have w1:=fill_wt (tk (n,k.len)) (tkl tk k)
    have w2:=tkl_wt tk k
    have w3:=joinB_len (fillT (tk (n,k.len)) (tkl tk k)) out
    have i1:=ihk (tk (n,k.len)) (ts ++ ls) (A ++ [(n,k.len)]) (rowF r ++ R) out (m + (ts.length + szT tk (rowF r))) (fun q hq=>hp q (by simp [hq])) (by rw [hL];simp) hcp (by rw [List.length_append];omega) (by omega)
    have i2:=ihr ts ls (A ++ [(n,k.len)] ++ rowF k) R (joinB out (fillT (tk (n,k.len)) (tkl tk k))) m (fun q hq=>hp q (by simp [hq])) (by rw [hL];simp) (by omega) (by omega) (by omega)
    simp only [List.length_append,List.length_cons,List.length_nil] at i1 i2
    rw [e,List.cons_append,prF_kid tk L _ s _ _ out (n,k.len) hs hat (by rw [List.length_append];omega)]
    rw [i1,i2]
    have e3:A.length + (0 + 1) + (rowF k).length + (rowF r).length=A.length + ((rowF k).length + (rowF r).length + 1):=by omega
    rw [e3]
    show _=prF tk L m ls _ (joinB out (fillT (s :: ts) (fillT (tk (n,k.len)) (tkl tk k) :: tkl tk r)))
    rw [fill_k hs,joinB_app]
theorem prF_one (tk:Nd × Nat→List ByteArray) (n:Nd) (ks:Fo) (hp:∀ p ∈ rowF (Fo.one n ks),cntK (tk p)=p.2) (h1:1 + szT tk (rowF (Fo.one n ks))≤2000000) (h2:byT tk (rowF (Fo.one n ks)) + 3≤1000000000):∃ fuel,prF tk (rowF (Fo.one n ks)) fuel [tK] 0 []=some (let o:=joinB [] (fillT (tk (n,ks.len)) (tkl tk ks));if o=[] then [] else o ++ [10]):=by
 have k1:isK tK=true:=by kernel_rfl
 have w1:wtT [tK]=1:=rfl
 have h:=prF_row tk (rowF (Fo.one n ks)) (Fo.one n ks) [tK] [] [] [] [] 1 hp (by simp) (by rw [cntK_cons,k1];rfl) (by simp only [List.length_cons,List.length_nil];omega) (by rw [w1,List.length_nil];omega)
 refine ⟨1 + ([tK].length + szT tk (rowF (Fo.one n ks))),?_⟩
 rw [List.append_nil] at h
 rw [show (0:Nat)=([]:List (Nd × Nat)).length from rfl,h]
 have e:fillT [tK] (tkl tk (Fo.one n ks))=fillT (tk (n,ks.len)) (tkl tk ks):=by
  show fillT [tK] (fillT (tk (n,ks.len)) (tkl tk ks) :: tkl tk .nil)=_
  rw [fill_k k1]
  simp [fillT]
 rw [e]
 rfl
theorem isK_eq (s:ByteArray):isK s=(s.data.toList == []):=by unfold isK;rw [ByteArray.toList_eq]
theorem isK_lit (b:UInt8) (l:List UInt8):isK ⟨(b :: l).toArray⟩=false:=by rw [isK_eq];simp
theorem isK_tK:isK tK=true:=by kernel_rfl
theorem size_lit (l:List UInt8):(⟨l.toArray⟩:ByteArray).size=l.length:=rfl
theorem cntK_app (a b:List ByteArray):cntK (a ++ b)=cntK a + cntK b:=by simp [cntK]
theorem cntK_nil:cntK []=0:=rfl
theorem cntK_rep:∀ n,cntK (repT n [tK])=n
 | 0=>rfl
 | n + 1=>by
  have e:repT (n + 1) [tK]=tK :: repT n [tK]:=by simp [repT,List.replicate_succ]
  rw [e,cntK_cons,isK_tK,cntK_rep n]
  simp;omega
theorem cntK_rep2:∀ n,cntK (repT n [tK,⟨#[44]⟩])=n
 | 0=>rfl
 | n + 1=>by
  have e:repT (n + 1) [tK,⟨#[44]⟩]=tK :: ⟨#[44]⟩ :: repT n [tK,⟨#[44]⟩]:=by simp [repT,List.replicate_succ]
  rw [e,cntK_cons,cntK_cons,isK_tK,isK_lit,cntK_rep2 n]
  simp;omega
theorem cntK_com (n:Nat):cntK (comT n)=n:=by
 unfold comT
 split
 ·rename_i h;rw [h];rfl
 ·rw [cntK_app,cntK_rep2,cntK_cons,isK_tK]
  simp [cntK_nil];omega
theorem wtT_rep:∀ n,wtT (repT n [tK])=n
 | 0=>rfl
 | n + 1=>by
  have e:repT (n + 1) [tK]=tK :: repT n [tK]:=by simp [repT,List.replicate_succ]
  rw [e,wtT_cons,wtT_rep n]
  show 0 + 1 + n=n + 1
  omega
theorem wtT_rep2:∀ n,wtT (repT n [tK,⟨#[44]⟩])=3 * n
 | 0=>rfl
 | n + 1=>by
  have e:repT (n + 1) [tK,⟨#[44]⟩]=tK :: ⟨#[44]⟩ :: repT n [tK,⟨#[44]⟩]:=by simp [repT,List.replicate_succ]
  rw [e,wtT_cons,wtT_cons,wtT_rep2 n]
  show 0 + 1 + (1 + 1 + 3 * n)=3 * (n + 1)
  omega
theorem wtT_com (n:Nat):wtT (comT n)≤3 * n:=by
 unfold comT
 split
 ·rename_i h;rw [h];exact Nat.le_refl _
 ·rw [wtT_app,wtT_rep2]
  show 3 * (n - 1) + 1≤_
  omega
theorem wtT_nil:wtT []=0:=rfl
theorem tK_size:tK.size=0:=rfl
theorem k_name {t:ByteArray} (h:nameP t=true):isK t=false:=by
 cases e:isK t
 ·rfl
 ·exfalso
  rw [isK_eq] at e
  have e':t.data.toList=[]:=eq_of_beq e
  unfold nameP at h
  rw [e'] at h
  have:srcY []=[⟨endTk,0,0,0⟩]:=by kernel_rfl
  rw [this] at h
  cases h
theorem k_text {what:Int} {t:ByteArray} (h:textP what t=true) (hw:what=1∨what=3∨what=4):isK t=false:=by
 unfold textP at h
 rcases hw with rfl | rfl | rfl
 ·rw [if_pos rfl] at h
  exact k_name h
 ·cases e:isK t
  ·rfl
  ·exfalso
   have e':t=⟨#[]⟩:=by
    have:=lst t []
    rw [show (t.toList == [])=true from e] at this
    exact of_decide_eq_true this
   subst e'
   revert h
   simp only [Int.reduceEq,if_false,if_true]
   decide
 ·cases e:isK t
  ·rfl
  ·exfalso
   have e':t=⟨#[]⟩:=by
    have:=lst t []
    rw [show (t.toList == [])=true from e] at this
    exact of_decide_eq_true this
   subst e'
   have:textP 4 ⟨#[]⟩=false:=by kernel_rfl
   unfold textP at this
   rw [this] at h
   cases h
theorem esc_le (l:List UInt8):(l.flatMap escB).length≤4 * l.length:=esc_len l
theorem quo_size (t:ByteArray):(quoP t).size≤4 * t.size + 2∧isK (quoP t)=false:=by
 have h:=esc_le t.data.toList
 have e:t.data.toList.length=t.size:=by simp
 refine ⟨?_,?_⟩
 ·unfold quoP
  rw [size_lit,List.length_append,List.length_append]
  simp only [List.length_cons,List.length_nil]
  omega
 ·unfold quoP
  exact isK_lit _ _
theorem num_size (b:Bool) (i u:Int) (hi:-9223372036854775808≤i∧i≤9223372036854775807) (hu:0≤u∧u < 18446744073709551616):(⟨(numT b i u).toArray⟩:ByteArray).size≤64∧isK ⟨(numT b i u).toArray⟩=false:=by
 obtain ⟨_,h1,h2⟩:=num_y b i u hi.1 hi.2 hu.1 hu.2
 refine ⟨h2,?_⟩
 cases h:numT b i u with
 | nil=>rw [h] at h1;cases h1
 | cons c l=>exact isK_lit _ _
def TkF (c:Nat) (ts:List ByteArray):Prop:=cntK ts=c∧ts.length≤2 * c + 8∧wtT ts≤3 * c + 24200
set_option maxHeartbeats 2000000 in
theorem tok_f (k:Int) (c:Nat) (t x:ByteArray) (hk:1≤k∧k≤31) (h1:(ruleP k).least≤(c:Nat)) (h2:((c:Nat):Int)≤(ruleP k).most) (ht:textP (ruleP k).text t=true) (hs:t.size≤6000) (hx:x.size≤24002) (hX:isK x=false):TkF c (tokP k c t x):=by
 have hT:=k_text ht
 have:k=1∨k=2∨k=3∨k=4∨k=5∨k=6∨k=7∨k=8∨k=9∨k=10∨k=11∨k=12∨k=13∨k=14∨k=15∨k=16∨k=17∨k=18∨k=19∨k=20∨k=21∨k=22∨k=23∨k=24∨k=25∨k=26∨k=27∨k=28∨k=29∨k=30∨k=31:=by omega
 clear hk ht
 rcases this with rfl | rfl | rfl | rfl | rfl | rfl | rfl | rfl | rfl | rfl | rfl | rfl | rfl | rfl | rfl | rfl | rfl | rfl | rfl | rfl | rfl | rfl | rfl | rfl | rfl | rfl | rfl | rfl | rfl | rfl | rfl
 all_goals (simp only [tokP,ruleP,Int.reduceEq,reduceIte,true_or,or_true,or_self,forall_const,false_implies] at *)
 all_goals (first | ((refine ⟨?_,?_,?_⟩;(simp only [cntK_cons,cntK_app,cntK_nil,cntK_rep,cntK_com,isK_lit,isK_tK,hT,hX,Bool.false_eq_true,if_false,if_true] <;> omega);(simp only [List.length_cons,List.length_append,List.length_nil,repT_len];(try have:=comT_len c);(try have:=comT_len (c - 1));omega);(simp only [wtT_cons,wtT_app,wtT_nil,wtT_rep,size_lit,tK_size,List.length_cons,List.length_nil];(try have:=wtT_com c);(try have:=wtT_com (c - 1));omega));done) | skip)
 all_goals (split <;> rename_i hq <;> (first | ((refine ⟨?_,?_,?_⟩;(simp only [cntK_cons,cntK_app,cntK_nil,cntK_rep,cntK_com,isK_lit,isK_tK,hT,hX,Bool.false_eq_true,if_false,if_true] <;> omega);(simp only [List.length_cons,List.length_append,List.length_nil,repT_len];(try have:=comT_len c);(try have:=comT_len (c - 1));omega);(simp only [wtT_cons,wtT_app,wtT_nil,wtT_rep,size_lit,tK_size,List.length_cons,List.length_nil];(try have:=wtT_com c);(try have:=wtT_com (c - 1));omega));done) | (have hT:isK t=false:=Bool.eq_false_iff.2 hq;(refine ⟨?_,?_,?_⟩;(simp only [cntK_cons,cntK_app,cntK_nil,cntK_rep,cntK_com,isK_lit,isK_tK,hT,hX,Bool.false_eq_true,if_false,if_true] <;> omega);(simp only [List.length_cons,List.length_append,List.length_nil,repT_len];(try have:=comT_len c);(try have:=comT_len (c - 1));omega);(simp only [wtT_cons,wtT_app,wtT_nil,wtT_rep,size_lit,tK_size,List.length_cons,List.length_nil];(try have:=wtT_com c);(try have:=wtT_com (c - 1));omega));done)))
theorem sh_fits:∀ {f:Fo} {k:Int} {c m:Nat},ShK f k c m→∀ p ∈ rowF f,fitsP p=true
 | .nil,k,c,m,_,p,hp=>by simp [rowF] at hp
 | .cons n ks r,k,c,m,⟨h1,h2,h3,h4⟩,p,hp=>by
  simp only [rowF,List.mem_cons,List.mem_append] at hp
  rcases hp with rfl | hp | hp
  ·exact h1
  ·exact sh_fits h3 p hp
  ·exact sh_fits h4 p hp
theorem kid_sum:∀ f:Fo,((rowF f).map (·.2)).sum + f.len=(rowF f).length
 | .nil=>rfl
 | .cons n ks r=>by
  have h1:=kid_sum ks
  have h2:=kid_sum r
  simp only [rowF,Fo.len,List.map_cons,List.map_append,List.sum_cons,List.sum_append,List.length_cons,List.length_append]
  omega
theorem tkn_f (p:Nd × Nat) (hn:NdK p.1) (hf:fitsP p=true):TkF p.2 (tkN flP p):=by
 obtain ⟨⟨k,a,t,i,b⟩,c⟩:=p
 obtain ⟨hk,hs,hi,hb⟩:=hn
 unfold fitsP at hf
 simp only [Bool.and_eq_true,decide_eq_true_eq] at hf hk hs hi hb
 obtain ⟨⟨⟨h1,h2⟩,h3⟩,h4⟩:=hf
 have q1:=num_size true i b hi hb
 have q2:=num_size false i b hi hb
 have q3:=quo_size t
 unfold tkN
 refine tok_f k c t _ hk h1 h2 h3 hs ?_ ?_
 ·dsimp only
  split
  ·exact Nat.le_trans q2.1 (by omega)
  ·split
   ·exact Nat.le_trans q3.1 (by omega)
   ·exact Nat.le_trans q1.1 (by omega)
 ·dsimp only
  split
  ·exact q2.2
  ·split
   ·exact q3.2
   ·exact q1.2
theorem sums_le:∀ (L:List (Nd × Nat)),(∀ p ∈ L,TkF p.2 (tkN flP p))→szT (tkN flP) L≤2 * (L.map (·.2)).sum + 8 * L.length∧byT (tkN flP) L≤3 * (L.map (·.2)).sum + 24200 * L.length
 | [],_=>⟨by simp [szT],by simp [byT]⟩
 | p :: L,h=>by
  obtain ⟨h1,h2⟩:=sums_le L (fun q hq=>h q (by simp [hq]))
  obtain ⟨_,h3,h4⟩:=h p (by simp)
  rw [szT_cons,byT_cons]
  simp only [List.map_cons,List.sum_cons,List.length_cons]
  omega
def toksF (l:Fo):List ByteArray:=(tkl (tkN flP) l).flatten
def textF (l:Fo):List UInt8:=if joinB [] (toksF l)=[] then [] else joinB [] (toksF l) ++ [10]
theorem fill_rep:∀ (L:List (List ByteArray)),fillT (repT L.length [tK]) L=L.flatten
 | []=>rfl
 | k :: L=>by
  have e:repT (k :: L).length [tK]=tK :: repT L.length [tK]:=by simp [repT,List.replicate_succ]
  rw [e,fill_k isK_tK,fill_rep L]
  simp
theorem tkl_len (tk:Nd × Nat→List ByteArray):∀ f:Fo,(tkl tk f).length=f.len
 | .nil=>rfl
 | .cons n ks r=>by simp [tkl,Fo.len,tkl_len tk r]
theorem print_text {l:Fo} (hw:Wt .us l) (hall:AllN l) (hN:(rowF l).length≤6010):isT (rowF (Fo.one ⟨1,0,⟨#[]⟩,0,0⟩ l))=true∧∃ fuel,prF (tkN flP) (rowF (Fo.one ⟨1,0,⟨#[]⟩,0,0⟩ l)) fuel [tK] 0 []=some (textF l):=by
 have er:rowF (Fo.one ⟨1,0,⟨#[]⟩,0,0⟩ l)=(⟨1,0,⟨#[]⟩,0,0⟩,l.len) :: rowF l:=by simp [Fo.one,rowF]
 have hT:=wpg_isT (fo:=Fo.one ⟨1,0,⟨#[]⟩,0,0⟩ l) ⟨l,rfl,hw⟩ (by rw [er,List.length_cons];omega)
 refine ⟨hT,?_⟩
 have hsh:AllS 2 l:=wt_sh hw (by omega)
 have hsk:ShK l 1 l.len 0:=sh_all hsh fun j _ _=>rfl
 have hl:=lenR l
 have hfit:∀ p ∈ rowF (Fo.one ⟨1,0,⟨#[]⟩,0,0⟩ l),TkF p.2 (tkN flP p):=by
  rw [er]
  intro p hp
  rcases List.mem_cons.1 hp with rfl | hp
  ·refine tkn_f _ (nd_em 1 0 (by decide)) ?_
   refine fits_mk ⟨by kernel_rfl,by kernel_rfl⟩ ?_ ?_
   ·show (0:Int)≤_;omega
   ·show _≤(9223372036854775807:Int);omega
  ·exact tkn_f p (alln_row hall p hp) (sh_fits hsk p hp)
 obtain ⟨h1,h2⟩:=sums_le _ hfit
 have hk:=kid_sum (Fo.one ⟨1,0,⟨#[]⟩,0,0⟩ l)
 have h3:(rowF (Fo.one ⟨1,0,⟨#[]⟩,0,0⟩ l)).length≤6011:=by rw [er,List.length_cons];omega
 obtain ⟨fuel,hf⟩:=prF_one (tkN flP) ⟨1,0,⟨#[]⟩,0,0⟩ l (fun p hp=>(hfit p hp).1) (by omega) (by omega)
 refine ⟨fuel,?_⟩
 rw [hf]
 have e:fillT (tkN flP (⟨1,0,⟨#[]⟩,0,0⟩,l.len)) (tkl (tkN flP) l)=toksF l:=by
  have e1:tkN flP (⟨1,0,⟨#[]⟩,0,0⟩,l.len)=repT l.len [tK]:=by simp only [tkN,tokP,if_true]
  rw [e1,← tkl_len (tkN flP) l,fill_rep]
  rfl
 rw [e]
 rfl
end Go.Proofs.YtkjaoandifednaaGreatDoor.W.Tr
