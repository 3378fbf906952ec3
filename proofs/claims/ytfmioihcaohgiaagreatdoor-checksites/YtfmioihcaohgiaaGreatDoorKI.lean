import Derived.Test.YtfmioihcaohgiaaGreatDoorKF
import Derived.Test.YtfmioihcaohgiaaGreatDoorJF
open List renaming length_cons → z0z, length_append → z1z, length_nil → z3z, cons_append → z5z
open Nat renaming le_refl → z2z
open Bool renaming false_eq_true → z4z
open Go.Proofs.Tryz
set_option maxRecDepth 1000000
set_option maxHeartbeats 8000000
namespace Go.Proofs.YtfmioihcaohgiaaGreatDoor.W.Tr
set_option linter.unusedVariables false
set_option linter.unusedSimpArgs false
def isK(s:ByteArray):Bool:=s.toList==[]
def fillT:List ByteArray->List (List ByteArray)->List ByteArray
 | [],_=>[]
 | s::ts,L=>if isK s=true then L.headD []++fillT ts L.tail else s::fillT ts L
theorem fill_w{s:ByteArray}{ts:List ByteArray}{L:List (List ByteArray)}(h:isK s=false):fillT (s::ts) L=s::fillT ts L:=by
 conv=>lhs;unfold fillT
 rw[h]
 rfl
theorem fill_k{s:ByteArray}{ts:List ByteArray}{k:List ByteArray}{L:List (List ByteArray)}(h:isK s=true):fillT (s::ts) (k::L)=k++fillT ts L:=by
 conv=>lhs;unfold fillT
 rw[h]
 rfl
def tkl(tk:Nd × Nat->List ByteArray):Fo->List (List ByteArray)
 | .nil=>[]
 | .cons n ks r=>fillT (tk (n,ks.len)) (tkl tk ks)::tkl tk r
def cntK(ts:List ByteArray):Nat:=(ts.filter isK).length
def addB(out:List UInt8)(s:ByteArray):List UInt8:=(if out=[] then [] else out++[32])++s.data.toList
def joinB(out:List UInt8)(ts:List ByteArray):List UInt8:=ts.foldl addB out
def wtT(ts:List ByteArray):Nat:=(ts.map (λs=>s.size+1)).sum
def szT(tk:Nd × Nat->List ByteArray)(L:List (Nd × Nat)):Nat:=(L.map λp=>(tk p).length).sum
def byT(tk:Nd × Nat->List ByteArray)(L:List (Nd × Nat)):Nat:=(L.map λp=>wtT (tk p)).sum
theorem wtT_app(a b:List ByteArray):wtT (a++b)=wtT a+wtT b:=by simp[wtT]
theorem szT_app(tk:Nd × Nat->List ByteArray)(a b:List (Nd × Nat)):szT tk (a++b)=szT tk a+szT tk b:=by simp[szT]
theorem byT_app(tk:Nd × Nat->List ByteArray)(a b:List (Nd × Nat)):byT tk (a++b)=byT tk a+byT tk b:=by simp[byT]
theorem szT_cons(tk:Nd × Nat->List ByteArray)(p:Nd × Nat)(b:List (Nd × Nat)):szT tk (p::b)=(tk p).length+szT tk b:=by simp[szT]
theorem byT_cons(tk:Nd × Nat->List ByteArray)(p:Nd × Nat)(b:List (Nd × Nat)):byT tk (p::b)=wtT (tk p)+byT tk b:=by simp[byT]
theorem wtT_cons(s:ByteArray)(b:List ByteArray):wtT (s::b)=s.size+1+wtT b:=by simp[wtT]
theorem addB_len(out:List UInt8)(s:ByteArray):(addB out s).length<=out.length+(s.size+1):=by
 unfold addB
 have e:s.data.toList.length=s.size:=by simp
 rw[z1z,e]
 split
 ·simp;omega
 ·simp;omega
theorem joinB_len:∀ (ts:List ByteArray) (out:List UInt8),(joinB out ts).length<=out.length+wtT ts
 | [],out=>by simp[joinB,wtT]
 | s::ts,out=>by
  have h:=joinB_len ts (addB out s)
  have h2:=addB_len out s
  rw[wtT_cons]
  show (joinB (addB out s) ts).length<=_
  omega
theorem joinB_app(out:List UInt8)(a b:List ByteArray):joinB out (a++b)=joinB (joinB out a) b:=by simp[joinB]
def sumW(L:List (List ByteArray)):Nat:=(L.map wtT).sum
theorem fill_wt:∀ (ts:List ByteArray) (L:List (List ByteArray)),wtT (fillT ts L)<=wtT ts+sumW L
 | [],L=>by simp[fillT,wtT]
 | s::ts,L=>by
  unfold fillT
  rw[wtT_cons]
  split
  ·rw[wtT_app]
   cases L with
   | nil=>have:=fill_wt ts [];simp[wtT,sumW] at *;omega
   | cons l L=>have:=fill_wt ts L;simp[sumW] at *;omega
  ·rw[wtT_cons]
   have:=fill_wt ts L
   omega
theorem tkl_wt(tk:Nd × Nat->List ByteArray):∀f:Fo,sumW (tkl tk f)<=byT tk (rowF f)
 | .nil=>by simp[tkl,sumW]
 | .cons n ks r=>by
  have h1:=tkl_wt tk ks
  have h2:=tkl_wt tk r
  have h3:=fill_wt (tk (n,ks.len)) (tkl tk ks)
  have e:sumW (tkl tk (Fo.cons n ks r))=wtT (fillT (tk (n,ks.len)) (tkl tk ks))+sumW (tkl tk r):=by simp[tkl,sumW]
  rw[e]
  show _<=byT tk ((n,ks.len)::(rowF ks++rowF r))
  rw[byT_cons,byT_app]
  omega
theorem prF_word(tk:Nd × Nat->List ByteArray)(L:List (Nd × Nat))(m:Nat)(s:ByteArray)(ls:List ByteArray)(i:Nat)(out:List UInt8)(hs:isK s=false)(hb:out.length+s.size+2<=1000000000):prF tk L (m+1) (s::ls) i out=prF tk L m ls i (addB out s):=by
 conv=>lhs;unfold prF
 have e:(s.toList==[])=false:=hs
 rw[e]
 simp only[z4z,if_false]
 rw[if_pos hb]
 rfl
theorem prF_kid(tk:Nd × Nat->List ByteArray)(L:List (Nd × Nat))(m:Nat)(s:ByteArray)(ls:List ByteArray)(i:Nat)(out:List UInt8)(p:Nd × Nat)(hs:isK s=true)(hp:L[i]? = some p)(hb:(tk p).length+ls.length<=2000000):prF tk L (m+1) (s::ls) i out=prF tk L m (tk p++ls) (i+1) out:=by
 conv=>lhs;unfold prF
 have e:(s.toList==[])=true:=hs
 rw[e]
 simp only[if_true]
 rw[hp]
 simp only
 rw[if_pos hb]
theorem cntK_cons(s:ByteArray)(ts:List ByteArray):cntK (s::ts)=(if isK s=true then 1 else 0)+cntK ts:=by
 unfold cntK
 rw[List.filter_cons]
 split
 ·simp;omega
 ·simp
theorem prF_row(tk:Nd × Nat->List ByteArray)(L:List (Nd × Nat))(f:Fo):∀ (ts ls:List ByteArray) (A R:List (Nd × Nat)) (out:List UInt8) (m:Nat),(∀p ∈ rowF f,cntK (tk p)=p.2)->L=A++(rowF f++R)->cntK ts=f.len->ts.length+ls.length+szT tk (rowF f)<=2000000->out.length+wtT ts+byT tk (rowF f)+2<=1000000000->prF tk L (m+(ts.length+szT tk (rowF f))) (ts++ls) A.length out=prF tk L m ls (A.length+(rowF f).length) (joinB out (fillT ts (tkl tk f))):=by
 induction f with
 | nil=>
  intro ts
  induction ts with
  | nil=>intro ls A R out m _ _ _ _ _;simp[szT,rowF,fillT,joinB]
  | cons s ts ih=>
   intro ls A R out m hp hL hc h1 h2
   rw[cntK_cons] at hc
   have hs:isK s=false:=by
    cases e:isK s
    ·rfl
    ·rw[e] at hc;simp[Fo.len] at hc
   rw[hs] at hc
   simp only[rowF,Fo.len,wtT_cons,z0z,z4z,if_false,Nat.zero_add] at *
   have e:m+(ts.length+1+szT tk [])=m+(ts.length+szT tk [])+1:=by omega
   have hl:=addB_len out s
   rw[e,z5z,prF_word tk L _ s _ _ out hs (by omega),ih ls A R (addB out s) m hp hL hc (by omega) (by omega)]
   rw[fill_w hs]
   rfl
 | cons n k r ihk ihr=>
  intro ts
  induction ts with
  | nil=>intro ls A R out m _ _ hc _ _;simp[cntK,Fo.len] at hc
  | cons s ts ih=>
   intro ls A R out m hp hL hc h1 h2
   rw[cntK_cons] at hc
   have er:rowF (Fo.cons n k r)=(n,k.len)::(rowF k++rowF r):=rfl
   cases hs:isK s
   ·rw[hs] at hc
    simp only[wtT_cons,z0z,z4z,if_false,Nat.zero_add] at hc h1 h2
    have e:m+((s::ts).length+szT tk (rowF (Fo.cons n k r)))=m+(ts.length+szT tk (rowF (Fo.cons n k r)))+1:=by rw[z0z];omega
    have hl:=addB_len out s
    rw[e,z5z,prF_word tk L _ s _ _ out hs (by omega),ih ls A R (addB out s) m hp hL hc (by omega) (by omega)]
    rw[fill_w hs]
    rfl
   ·rw[hs] at hc
    have hp0:∀q ∈ rowF (Fo.cons n k r),cntK (tk q)=q.2:=hp
    rw[er] at hp hL h1 h2
    rw[er]
    have hat:L[A.length]? = some (n,k.len):=by rw[hL,List.getElem?_append_right (z2z _)];simp
    simp only[szT_cons,byT_cons,szT_app,byT_app,wtT_cons,z0z,z1z] at h1 h2 ⊢
    simp only[Fo.len,if_true] at hc
    have hcp:cntK (tk (n,k.len))=k.len:=hp (n,k.len) (by simp)
    have e:m+(ts.length+1+((tk (n,k.len)).length+(szT tk (rowF k)+szT tk (rowF r))))=(m+(ts.length+szT tk (rowF r)))+((tk (n,k.len)).length+szT tk (rowF k))+1:=by omega
    have w1:=fill_wt (tk (n,k.len)) (tkl tk k)
    have w2:=tkl_wt tk k
    have w3:=joinB_len (fillT (tk (n,k.len)) (tkl tk k)) out
    have i1:=ihk (tk (n,k.len)) (ts++ls) (A++[(n,k.len)]) (rowF r++R) out (m+(ts.length+szT tk (rowF r))) (λq hq=>hp q (by simp[hq])) (by rw[hL];simp) hcp (by rw[z1z];omega) (by omega)
    have i2:=ihr ts ls (A++[(n,k.len)]++rowF k) R (joinB out (fillT (tk (n,k.len)) (tkl tk k))) m (λq hq=>hp q (by simp[hq])) (by rw[hL];simp) (by omega) (by omega) (by omega)
    simp only[z1z,z0z,z3z] at i1 i2
    rw[e,z5z,prF_kid tk L _ s _ _ out (n,k.len) hs hat (by rw[z1z];omega)]
    rw[i1,i2]
    have e3:A.length+(0+1)+(rowF k).length+(rowF r).length=A.length+((rowF k).length+(rowF r).length+1):=by omega
    rw[e3]
    show _=prF tk L m ls _ (joinB out (fillT (s::ts) (fillT (tk (n,k.len)) (tkl tk k)::tkl tk r)))
    rw[fill_k hs,joinB_app]
theorem prF_one(tk:Nd × Nat->List ByteArray)(n:Nd)(ks:Fo)(hp:∀p ∈ rowF (Fo.one n ks),cntK (tk p)=p.2)(h1:1+szT tk (rowF (Fo.one n ks))<=2000000)(h2:byT tk (rowF (Fo.one n ks))+3<=1000000000):∃fuel,prF tk (rowF (Fo.one n ks)) fuel [tK] 0 []=some (let o:=joinB [] (fillT (tk (n,ks.len)) (tkl tk ks));if o=[] then [] else o++[10]):=by
 have k1:isK tK=true:=by kernel_rfl
 have w1:wtT [tK]=1:=rfl
 have h:=prF_row tk (rowF (Fo.one n ks)) (Fo.one n ks) [tK] [] [] [] [] 1 hp (by simp) (by rw[cntK_cons,k1];rfl) (by simp only[z0z,z3z];omega) (by rw[w1,z3z];omega)
 refine⟨1+([tK].length+szT tk (rowF (Fo.one n ks))),?_⟩
 rw[List.append_nil] at h
 rw[show (0:Nat)=([]:List (Nd × Nat)).length from rfl,h]
 have e:fillT [tK] (tkl tk (Fo.one n ks))=fillT (tk (n,ks.len)) (tkl tk ks):=by
  show fillT [tK] (fillT (tk (n,ks.len)) (tkl tk ks)::tkl tk .nil)=_
  rw[fill_k k1]
  simp[fillT]
 rw[e]
 rfl
open Go.ChangeShapes Go.WideShapes Go.RowKit Go.Shelf
def Qb(w:World)(l:List UInt8)(W:World):Prop:=Bd w.heap.size w.heap.size l W/\Below w.heap.size w W
theorem qb_byte(w W:World)(l:List UInt8)(h:Qb w l W)(hl:l.length<=100000000)(v:Int)(c:UInt8)(hc:v=c.toNat):Calls prog 79 #[.pointer (some ⟨w.heap.size,0,none⟩),.int .u8 v] W λe w'=>e=.returned .nilIface/\Qb w (l++[c]) w':=by
 subst hc
 refine(wbyte_c w.heap.size w.heap.size l c W h.1 (by omega) h.2.size).mono ?_
 rintro e w' ⟨rfl,h1,_,h2⟩
 exact⟨rfl,h1,h.2.trans h2⟩
theorem qb_str(w W:World)(l:List UInt8)(h:Qb w l W)(hl:l.length<=100000000)(s:ByteArray)(hs:s.size<=4)(m:List UInt8)(hm:s.data.toList=m):Calls prog 80 #[.pointer (some ⟨w.heap.size,0,none⟩),.string s] W λe w'=>e=.returned (.tuple #[.int .i64 s.size,.nilIface])/\Qb w (l++m) w':=by
 subst hm
 refine(wstr_c w.heap.size w.heap.size l s W h.1 (by omega) h.2.size).mono ?_
 rintro e w' ⟨rfl,h1,_,h2⟩
 exact⟨rfl,h1,h.2.trans h2⟩
theorem esc_len(l:List UInt8):(l.flatMap escB).length<=4*l.length:=by
 induction l with
 | nil=>simp
 | cons b l ih=>
  rw[List.flatMap_cons,z1z,z0z]
  have:(escB b).length<=4:=by
   unfold escB
   split
   ·simp
   ·split
    ·simp
    ·split <;> simp
  omega
theorem take_esc(l:List UInt8)(k:Nat)(hk:k<l.length):(l.take (k+1)).flatMap escB=(l.take k).flatMap escB++escB l[k]:=by
 rw[List.take_succ_eq_append_getElem hk,List.flatMap_append,List.flatMap_cons,List.flatMap_nil,List.append_nil]
def hexS:ByteArray:=⟨#[48,49,50,51,52,53,54,55,56,57,97,98,99,100,101,102]⟩
theorem hex_at:∀n:Fin 16,hexS.data.toList[n.val]? = some (hexB n.val):=by decide
theorem hex_get(i:Nat)(h:i<16):(⟨#[48,49,50,51,52,53,54,55,56,57,97,98,99,100,101,102]⟩:ByteArray)[i]'h=hexB i:=by
 have h1:=hex_at ⟨i,h⟩
 have h2:hexS.data.toList[i]? = some (hexS.data.toList[i]'h):=List.getElem?_eq_getElem h
 rw[h2] at h1
 exact Option.some.inj h1
theorem quoted_c(s:ByteArray)(hs:s.size<=1000000)(w:World):Calls prog 156 #[.string s] w λe w'=>e=.returned (.string (quoP s))/\Below w.heap.size w w':=by
 obtain⟨qs,hqs⟩:∃qs,quoP s=qs:=⟨_,rfl⟩
 rw[hqs]
 have q0:Qb w [] (w.alloc (.cells #[.pointer none,.slice none 0 0] 132)):=by
  refine⟨.inl ⟨z2z _,.slice none 0 0,World.alloc_heap_new w _,World.ownsRow_nil _ _ _ _,by simp[Value.ownBlock]⟩,(Below.refl _ w).alloc (z2z _) _⟩
 have c0:=qb_byte w _ [] q0 (by simp) 34 34 rfl
 have hsl:s.data.toList.length=s.size:=by simp
 go_enter func156,ntmps156
 go_upto_region 4 with(go_at_call 79;(with_reducible refine c0.mono ?_);rintro e w1 ⟨rfl,q1⟩;clear c0)
 go_loopw [9,4,5] (λkv _ _ wr=>∃k:Nat,k<=s.size/\kv=.int .i64 (k:Nat)/\Qb w ([34]++(s.data.toList.take k).flatMap escB) wr) (λkv _ _ _=>s.size-(intOf kv).toNat)
 case atStart=>exact⟨0,Nat.zero_le _,rfl,by simpa using q1⟩
 case round=>
  obtain⟨k,hk,rfl,q⟩:=hrel
  clear q1 q0
  have hll:([34]++(s.data.toList.take k).flatMap escB).length<=4000001:=by
   have:=esc_len (s.data.toList.take k)
   rw[List.length_take] at this
   rw[z1z,z0z,z3z]
   omega
  by_cases hlt:k<s.size
  case neg=>
   have hke:k=s.size:=by omega
   have j1:¬ ((k:Nat):Int)<s.size:=by omega
   have hx:([34]++(s.data.toList.take k).flatMap escB)=[34]++s.data.toList.flatMap escB:=by rw[List.take_of_length_le (by omega)]
   rw[hx] at q hll
   have c1:=qb_byte w wr _ q (by omega) 34 34 rfl
   have c2:∀W,Qb w ([34]++s.data.toList.flatMap escB++[34]) W->Calls prog 81 #[.pointer (some ⟨w.heap.size,0,none⟩)] W λe w'=>e=.returned (.string qs)/\Below w.heap.size w w':=by
    rw[<- hqs]
    intro W h
    refine(Tryz.Builder_String_any w.heap.size w.heap.size _ W h.1 h.2.size).mono ?_
    rintro e w' ⟨rfl,hB⟩
    exact⟨rfl,h.2.trans hB⟩
   have HQ:=hid q
   clear hqs q hx hll hke
   go_wp2_with (first|(go_at_call 79;(with_reducible refine c1.mono ?_);rintro e w5 ⟨rfl,q5⟩;(have c3:=c2 w5 q5);clear c1 q5 c2)|(go_at_call 81;(with_reducible refine c3.mono ?_);rintro e w6 ⟨rfl,hB6⟩;(have HB6:=hid hB6);clear hB6 c3))
   go_ret
   exact⟨rfl,HB6.out⟩
  have j1:((k:Nat):Int)<s.size:=by omega
  have j2:(0:Int)<=(k:Nat):=by omega
  have j3:IntKind.i64.wrap ((k:Int)+1)=((k+1:Nat):Int):=by rw[IntKind.wrap_i64];omega
  have ht:=take_esc s.data.toList k (by omega)
  have hq:∀W,Qb w ([34]++(s.data.toList.take k).flatMap escB++escB (s.data.toList[k]'(by omega))) W->Qb w ([34]++(s.data.toList.take (k+1)).flatMap escB) W:=by
   intro W h
   rw[ht,<- List.append_assoc]
   exact h
  have HN:=hid hq
  generalize [34]++(s.data.toList.take k).flatMap escB=l at *
  clear hq ht hqs
  have hsk:s.data.toList[k]'(by omega)=s[k]:=by simp;rfl
  rw[hsk] at HN
  clear hsk
  go_upto_region 8 with fail
  generalize s[k]=b at *
  have hn:b.toNat<256:=b.toNat_lt
  have hbb:∀m:Nat,m<256->(b=m.toUInt8↔b.toNat=m):=by
   intro m hm
   constructor
   ·rintro rfl
    simp
    omega
   ·intro e
    rw[<- e]
    simp
  have f34:=hbb 34 (by omega)
  have f92:=hbb 92 (by omega)
  have f10:=hbb 10 (by omega)
  clear hbb
  by_cases h34:b.toNat=34
  ·obtain rfl:b=34:=f34.2 h34
   have he:escB 34=[92,34]:=by decide
   rw[he] at HN
   have c1:=qb_byte w wr l q (by omega) 92 92 rfl
   have c2:=λW (h:Qb w (l++[92]) W)=>qb_byte w W _ h (by simp;omega) 34 34 rfl
   clear f34 f92 f10 he h34 hn
   go_wp2_with (go_at_call 79;first|((with_reducible refine c1.mono ?_);rintro e w5 ⟨rfl,q5⟩;(have c3:=c2 w5 q5);clear c1 q5 c2)|((with_reducible refine c3.mono ?_);rintro e w6 ⟨rfl,q6⟩;(have HQ6:=hid q6);clear q6 c3))
   go_roundw
   case rel=>exact⟨k+1,by omega,by first|rfl|go_num,HN.out _ (by have:=HQ6.out;simpa using this)⟩
   case measure=>show s.size-((k+1:Nat):Int).toNat<s.size-(k:Int).toNat;omega
  by_cases h92:b.toNat=92
  ·obtain rfl:b=92:=f92.2 h92
   have he:escB 92=[92,92]:=by decide
   rw[he] at HN
   have c1:=qb_byte w wr l q (by omega) 92 92 rfl
   have c2:=λW (h:Qb w (l++[92]) W)=>qb_byte w W _ h (by simp;omega) 92 92 rfl
   clear f34 f92 f10 he h92 hn
   go_wp2_with (go_at_call 79;first|((with_reducible refine c1.mono ?_);rintro e w5 ⟨rfl,q5⟩;(have c3:=c2 w5 q5);clear c1 q5 c2)|((with_reducible refine c3.mono ?_);rintro e w6 ⟨rfl,q6⟩;(have HQ6:=hid q6);clear q6 c3))
   go_roundw
   case rel=>exact⟨k+1,by omega,by first|rfl|go_num,HN.out _ (by have:=HQ6.out;simpa using this)⟩
   case measure=>show s.size-((k+1:Nat):Int).toNat<s.size-(k:Int).toNat;omega
  by_cases h10:b.toNat=10
  ·obtain rfl:b=10:=f10.2 h10
   have he:escB 10=[92,110]:=by decide
   rw[he] at HN
   have c1:=qb_str w wr l q (by omega) ⟨#[92,110]⟩ (by decide) [92,110] rfl
   clear f34 f92 f10 he h10 h34 h92 hn
   go_wp2_with (go_at_call 80;(with_reducible refine c1.mono ?_);rintro e w6 ⟨rfl,q6⟩;(have HQ6:=hid q6);clear q6 c1)
   go_roundw
   case rel=>exact⟨k+1,by omega,by first|rfl|go_num,HN.out _ (by have:=HQ6.out;simpa using this)⟩
   case measure=>show s.size-((k+1:Nat):Int).toNat<s.size-(k:Int).toNat;omega
  have g34:((b.toNat:Int)==34)=false:=by
   have:¬ (b.toNat:Int)=34:=by omega
   simpa using this
  have g92:((b.toNat:Int)==92)=false:=by
   have:¬ (b.toNat:Int)=92:=by omega
   simpa using this
  have g10:((b.toNat:Int)==10)=false:=by
   have:¬ (b.toNat:Int)=10:=by omega
   simpa using this
  have n34:¬ (b=34\/b=92):=by
   rintro(e|e)
   ·exact h34 (f34.1 e)
   ·exact h92 (f92.1 e)
  have n10:¬b=10:=λe=>h10 (f10.1 e)
  clear f34 f92 f10
  by_cases hC:b.toNat<32\/126<b.toNat
  case neg=>
   have he:escB b=[b]:=by
    unfold escB
    rw[if_neg n34,if_neg n10,if_neg]
    rintro(e|e)
    ·exact hC (.inl (by have:=UInt8.lt_iff_toNat_lt.1 e;simpa using this))
    ·exact hC (.inr (by have:=UInt8.lt_iff_toNat_lt.1 e;simpa using this))
   rw[he] at HN
   have c1:=qb_byte w wr l q (by omega) b.toNat b rfl
   have k1:¬ (b.toNat:Int)<32:=by omega
   have k2:¬ (b.toNat:Int)>126:=by omega
   clear he hC n34 n10 h34 h92 h10 hn
   go_wp2_with (go_at_call 79;(with_reducible refine c1.mono ?_);rintro e w6 ⟨rfl,q6⟩;(have HQ6:=hid q6);clear q6 c1)
   go_roundw
   case rel=>exact⟨k+1,by omega,by first|rfl|go_num,HN.out _ (by have:=HQ6.out;simpa using this)⟩
   case measure=>show s.size-((k+1:Nat):Int).toNat<s.size-(k:Int).toNat;omega
  have he:escB b=[92,120]++[hexB (b.toNat/16)]++[hexB (b.toNat%16)]:=by
   unfold escB
   rw[if_neg n34,if_neg n10,if_pos]
   ·rfl
   ·rcases hC with h|h
    ·exact .inl (UInt8.lt_iff_toNat_lt.2 (by simpa using h))
    ·exact .inr (UInt8.lt_iff_toNat_lt.2 (by simpa using h))
  rw[he] at HN
  have c1:=qb_str w wr l q (by omega) ⟨#[92,120]⟩ (by decide) [92,120] rfl
  have hm:bits .and .u8 (b.toNat:Int) 15=(b.toNat:Int)%16:=by
   have h:∀n:Fin 256,bits .and .u8 ((n.val:Nat):Int) 15=((n.val:Nat):Int)%16:=by decide +kernel
   exact h ⟨b.toNat,hn⟩
  have i1:(b.toNat:Int)/16<16:=by omega
  have i2:(b.toNat:Int)%16<16:=by omega
  have i3:(0:Int)<=(b.toNat:Int)/16:=by omega
  have i4:(0:Int)<=(b.toNat:Int)%16:=by omega
  have hC':(b.toNat:Int)<32\/¬ (b.toNat:Int)<32/\(b.toNat:Int)>126:=by omega
  clear he n34 n10 h34 h92 h10 hC
  rcases hC' with k1|⟨k1,k2⟩
  ·go_wp2_with (first|(go_at_call 80;(with_reducible refine c1.mono ?_);rintro e w5 ⟨rfl,q5⟩;clear c1)|(go_at_call 79;first|((with_reducible refine(qb_byte w _ _ q5 (by simp;omega) _ _ rfl).mono ?_);rintro e w6 ⟨rfl,q6⟩;rw[hex_get] at q6;clear q5)|((with_reducible refine(qb_byte w _ _ q6 (by simp;omega) _ _ rfl).mono ?_);rintro e w7 ⟨rfl,q7⟩;rw[hex_get] at q7;(have HQ7:=hid q7);clear q6 q7)))
   go_roundw
   case rel=>exact⟨k+1,by omega,by first|rfl|go_num,HN.out _ (by have:=HQ7.out;simpa using this)⟩
   case measure=>show s.size-((k+1:Nat):Int).toNat<s.size-(k:Int).toNat;omega
  ·go_wp2_with (first|(go_at_call 80;(with_reducible refine c1.mono ?_);rintro e w5 ⟨rfl,q5⟩;clear c1)|(go_at_call 79;first|((with_reducible refine(qb_byte w _ _ q5 (by simp;omega) _ _ rfl).mono ?_);rintro e w6 ⟨rfl,q6⟩;rw[hex_get] at q6;clear q5)|((with_reducible refine(qb_byte w _ _ q6 (by simp;omega) _ _ rfl).mono ?_);rintro e w7 ⟨rfl,q7⟩;rw[hex_get] at q7;(have HQ7:=hid q7);clear q6 q7)))
   go_roundw
   case rel=>exact⟨k+1,by omega,by first|rfl|go_num,HN.out _ (by have:=HQ7.out;simpa using this)⟩
   case measure=>show s.size-((k+1:Nat):Int).toNat<s.size-(k:Int).toNat;omega
section
variable (a:Int) (c:Nat) (t:ByteArray) (i b:Int) (w:World)
theorem ex_27(h0:0<=b)(h1:b<18446744073709551616)(ht:Tabs w):TK 113 #[nodV 27 a c t i b] [⟨(fltT b).toArray⟩] w:=by
 have bw:Below w.heap.size w (w.alloc (.cells #[.int .i64 27,.int .i64 a,.int .i64 (c:Nat),.string t,.int .i64 i,.int .u64 b] 40)):=(Below.refl _ w).alloc (z2z _) _
 have ci:=float_c b h0 h1 _ (ht.below bw)
 generalize (⟨(fltT b).toArray⟩:ByteArray)=x at *
 unfold TK nodV
 clear ht
 go_enter func113,ntmps113
 go_wp2_with (go_at_call 155;(with_reducible refine ci.mono ?_);rintro e w2 ⟨rfl,hB2⟩;(have HB:=hid (bw.trans (hB2.mono bw.size)));clear hB2 ci bw)
 go_ret
 exact⟨_,rfl,HB.out.alloc HB.out.size _,(lit1 w2 [.string x] [x] rfl (by simp)).base HB.out.size⟩
theorem ex_28(hs:t.size<=1000000):TK 113 #[nodV 28 a c t i b] [quoP t] w:=by
 have bw:Below w.heap.size w (w.alloc (.cells #[.int .i64 28,.int .i64 a,.int .i64 (c:Nat),.string t,.int .i64 i,.int .u64 b] 40)):=(Below.refl _ w).alloc (z2z _) _
 have ci:=quoted_c t hs (w.alloc (.cells #[.int .i64 28,.int .i64 a,.int .i64 (c:Nat),.string t,.int .i64 i,.int .u64 b] 40))
 generalize quoP t=x at *
 unfold TK nodV
 go_enter func113,ntmps113
 go_wp2_with (go_at_call 156;(with_reducible refine ci.mono ?_);rintro e w2 ⟨rfl,hB2⟩;(have HB:=hid (bw.trans (hB2.mono bw.size)));clear hB2 ci bw)
 go_ret
 exact⟨_,rfl,HB.out.alloc HB.out.size _,(lit1 w2 [.string x] [x] rfl (by simp)).base HB.out.size⟩
end
def flP(b:Int):ByteArray:=⟨(fltT b).toArray⟩
theorem print_all(w:World)(v:Value)(L:List (Nd × Nat))(hN:NR w v L)(hNl:∀k,v.ownBlock=some k->k<w.heap.size)(hT:isT L=true)(hok:∀p ∈ L,NdOk p/\0<=p.1.bits/\p.1.bits<18446744073709551616)(fuel:Nat)(res:List UInt8)(hpr:prF (tkN flP) L fuel [tK] 0 []=some res)(ht:Tabs w)(hm:MarksIn w) :
  Calls prog 26 #[v] w λe w'=>e=.returned (.tuple #[.string ⟨res.toArray⟩,.int .i64 0])/\Below w.heap.size w w':=by
 refine print_good flP w v L hN hNl hT (λp hp=>(hok p hp).1) ?_ ?_ fuel res hpr ht hm
 ·rintro⟨⟨k,a,t,i,b⟩,c⟩ hp rfl w' ht'
  exact ex_27 a c t i b w' (hok _ hp).2.1 (hok _ hp).2.2 ht'
 ·rintro⟨⟨k,a,t,i,b⟩,c⟩ hp rfl w' ht'
  exact ex_28 a c t i b w' (hok _ hp).1.size
end Go.Proofs.YtfmioihcaohgiaaGreatDoor.W.Tr
