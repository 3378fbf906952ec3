import Derived.Test.YtjplieobnknnpaaGreatDoorKF
import Derived.Test.YtjplieobnknnpaaGreatDoorJF
open List renaming length_cons → z0z, length_append → z1z, length_nil → z3z, cons_append → z5z
open Nat renaming le_refl → z2z
open Bool renaming false_eq_true → z4z
open Go.Proofs.Tryz
set_option maxRecDepth 1000000
set_option maxHeartbeats 8000000
namespace Go.Proofs.YtjplieobnknnpaaGreatDoor.W.Tr
set_option linter.unusedVariables false
set_option linter.unusedSimpArgs false
def isK(s:ByteArray):Bool:=s.toList==[]
def DR:List ByteArray->List (List ByteArray)->List ByteArray
 | [],_=>[]
 | s::ts,L=>if isK s=true then L.headD []++DR ts L.tail else s::DR ts L
theorem dY{s:ByteArray}{ts:List ByteArray}{L:List (List ByteArray)}(h:isK s=false):DR (s::ts) L=s::DR ts L:=by
 conv=>lhs;unfold DR
 rw[h]
 rfl
theorem Us{s:ByteArray}{ts:List ByteArray}{k:List ByteArray}{L:List (List ByteArray)}(h:isK s=true):DR (s::ts) (k::L)=k++DR ts L:=by
 conv=>lhs;unfold DR
 rw[h]
 rfl
def Dj(tk:Nd × Nat->List ByteArray):Fo->List (List ByteArray)
 | .nil=>[]
 | .cons n ks r=>DR (tk (n,ks.len)) (Dj tk ks)::Dj tk r
def Em(ts:List ByteArray):Nat:=(ts.filter isK).length
def KU(out:List UInt8)(s:ByteArray):List UInt8:=(if out=[] then [] else out++[32])++s.data.toList
def Gn(out:List UInt8)(ts:List ByteArray):List UInt8:=ts.foldl KU out
def Dl(ts:List ByteArray):Nat:=(ts.map (λs=>s.size+1)).sum
def Dy(tk:Nd × Nat->List ByteArray)(L:List (Nd × Nat)):Nat:=(L.map λp=>(tk p).length).sum
def IE(tk:Nd × Nat->List ByteArray)(L:List (Nd × Nat)):Nat:=(L.map λp=>Dl (tk p)).sum
theorem Nb(a b:List ByteArray):Dl (a++b)=Dl a+Dl b:=by simp[Dl]
theorem ABe(tk:Nd × Nat->List ByteArray)(a b:List (Nd × Nat)):Dy tk (a++b)=Dy tk a+Dy tk b:=by simp[Dy]
theorem Vo(tk:Nd × Nat->List ByteArray)(a b:List (Nd × Nat)):IE tk (a++b)=IE tk a+IE tk b:=by simp[IE]
theorem Yy(tk:Nd × Nat->List ByteArray)(p:Nd × Nat)(b:List (Nd × Nat)):Dy tk (p::b)=(tk p).length+Dy tk b:=by simp[Dy]
theorem TU(tk:Nd × Nat->List ByteArray)(p:Nd × Nat)(b:List (Nd × Nat)):IE tk (p::b)=Dl (tk p)+IE tk b:=by simp[IE]
theorem IX(s:ByteArray)(b:List ByteArray):Dl (s::b)=s.size+1+Dl b:=by simp[Dl]
theorem UN(out:List UInt8)(s:ByteArray):(KU out s).length<=out.length+(s.size+1):=by
 unfold KU
 have e:s.data.toList.length=s.size:=by simp
 rw[z1z,e]
 split
 ·simp;omega
 ·simp;omega
theorem bg:∀ (ts:List ByteArray) (out:List UInt8),(Gn out ts).length<=out.length+Dl ts
 | [],out=>by simp[Gn,Dl]
 | s::ts,out=>by
  have h:=bg ts (KU out s)
  have h2:=UN out s
  rw[IX]
  show (Gn (KU out s) ts).length<=_
  omega
theorem rT(out:List UInt8)(a b:List ByteArray):Gn out (a++b)=Gn (Gn out a) b:=by simp[Gn]
def Ke(L:List (List ByteArray)):Nat:=(L.map Dl).sum
theorem OJ:∀ (ts:List ByteArray) (L:List (List ByteArray)),Dl (DR ts L)<=Dl ts+Ke L
 | [],L=>by simp[DR,Dl]
 | s::ts,L=>by
  unfold DR
  rw[IX]
  split
  ·rw[Nb]
   cases L with
   | nil=>have:=OJ ts [];simp[Dl,Ke] at *;omega
   | cons l L=>have:=OJ ts L;simp[Ke] at *;omega
  ·rw[IX]
   have:=OJ ts L
   omega
theorem SN(tk:Nd × Nat->List ByteArray):∀f:Fo,Ke (Dj tk f)<=IE tk (AJ f)
 | .nil=>by simp[Dj,Ke]
 | .cons n ks r=>by
  have h1:=SN tk ks
  have h2:=SN tk r
  have h3:=OJ (tk (n,ks.len)) (Dj tk ks)
  have e:Ke (Dj tk (Fo.cons n ks r))=Dl (DR (tk (n,ks.len)) (Dj tk ks))+Ke (Dj tk r):=by simp[Dj,Ke]
  rw[e]
  show _<=IE tk ((n,ks.len)::(AJ ks++AJ r))
  rw[TU,Vo]
  omega
theorem dU(tk:Nd × Nat->List ByteArray)(L:List (Nd × Nat))(m:Nat)(s:ByteArray)(ls:List ByteArray)(i:Nat)(out:List UInt8)(hs:isK s=false)(hb:out.length+s.size+2<=1000000000):EF tk L (m+1) (s::ls) i out=EF tk L m ls i (KU out s):=by
 conv=>lhs;unfold EF
 have e:(s.toList==[])=false:=hs
 rw[e]
 simp only[z4z,if_false]
 rw[if_pos hb]
 rfl
theorem ACq(tk:Nd × Nat->List ByteArray)(L:List (Nd × Nat))(m:Nat)(s:ByteArray)(ls:List ByteArray)(i:Nat)(out:List UInt8)(p:Nd × Nat)(hs:isK s=true)(hp:L[i]? = some p)(hb:(tk p).length+ls.length<=2000000):EF tk L (m+1) (s::ls) i out=EF tk L m (tk p++ls) (i+1) out:=by
 conv=>lhs;unfold EF
 have e:(s.toList==[])=true:=hs
 rw[e]
 simp only[if_true]
 rw[hp]
 simp only
 rw[if_pos hb]
theorem JI(s:ByteArray)(ts:List ByteArray):Em (s::ts)=(if isK s=true then 1 else 0)+Em ts:=by
 unfold Em
 rw[List.filter_cons]
 split
 ·simp;omega
 ·simp
theorem ABf(tk:Nd × Nat->List ByteArray)(L:List (Nd × Nat))(f:Fo):∀ (ts ls:List ByteArray) (A R:List (Nd × Nat)) (out:List UInt8) (m:Nat),(∀p ∈ AJ f,Em (tk p)=p.2)->L=A++(AJ f++R)->Em ts=f.len->ts.length+ls.length+Dy tk (AJ f)<=2000000->out.length+Dl ts+IE tk (AJ f)+2<=1000000000->EF tk L (m+(ts.length+Dy tk (AJ f))) (ts++ls) A.length out=EF tk L m ls (A.length+(AJ f).length) (Gn out (DR ts (Dj tk f))):=by
 induction f with
 | nil=>
  intro ts
  induction ts with
  | nil=>intro ls A R out m _ _ _ _ _;simp[Dy,AJ,DR,Gn]
  | cons s ts ih=>
   intro ls A R out m hp hL hc h1 h2
   rw[JI] at hc
   have hs:isK s=false:=by
    cases e:isK s
    ·rfl
    ·rw[e] at hc;simp[Fo.len] at hc
   rw[hs] at hc
   simp only[AJ,Fo.len,IX,z0z,z4z,if_false,Nat.zero_add] at *
   have e:m+(ts.length+1+Dy tk [])=m+(ts.length+Dy tk [])+1:=by omega
   have hl:=UN out s
   rw[e,z5z,dU tk L _ s _ _ out hs (by omega),ih ls A R (KU out s) m hp hL hc (by omega) (by omega)]
   rw[dY hs]
   rfl
 | cons n k r ihk ihr=>
  intro ts
  induction ts with
  | nil=>intro ls A R out m _ _ hc _ _;simp[Em,Fo.len] at hc
  | cons s ts ih=>
   intro ls A R out m hp hL hc h1 h2
   rw[JI] at hc
   have er:AJ (Fo.cons n k r)=(n,k.len)::(AJ k++AJ r):=rfl
   cases hs:isK s
   ·rw[hs] at hc
    simp only[IX,z0z,z4z,if_false,Nat.zero_add] at hc h1 h2
    have e:m+((s::ts).length+Dy tk (AJ (Fo.cons n k r)))=m+(ts.length+Dy tk (AJ (Fo.cons n k r)))+1:=by rw[z0z];omega
    have hl:=UN out s
    rw[e,z5z,dU tk L _ s _ _ out hs (by omega),ih ls A R (KU out s) m hp hL hc (by omega) (by omega)]
    rw[dY hs]
    rfl
   ·rw[hs] at hc
    have hp0:∀q ∈ AJ (Fo.cons n k r),Em (tk q)=q.2:=hp
    rw[er] at hp hL h1 h2
    rw[er]
    have hat:L[A.length]? = some (n,k.len):=by rw[hL,List.getElem?_append_right (z2z _)];simp
    simp only[Yy,TU,ABe,Vo,IX,z0z,z1z] at h1 h2 ⊢
    simp only[Fo.len,if_true] at hc
    have hcp:Em (tk (n,k.len))=k.len:=hp (n,k.len) (by simp)
    have e:m+(ts.length+1+((tk (n,k.len)).length+(Dy tk (AJ k)+Dy tk (AJ r))))=(m+(ts.length+Dy tk (AJ r)))+((tk (n,k.len)).length+Dy tk (AJ k))+1:=by omega
    have w1:=OJ (tk (n,k.len)) (Dj tk k)
    have w2:=SN tk k
    have w3:=bg (DR (tk (n,k.len)) (Dj tk k)) out
    have i1:=ihk (tk (n,k.len)) (ts++ls) (A++[(n,k.len)]) (AJ r++R) out (m+(ts.length+Dy tk (AJ r))) (λq hq=>hp q (by simp[hq])) (by rw[hL];simp) hcp (by rw[z1z];omega) (by omega)
    have i2:=ihr ts ls (A++[(n,k.len)]++AJ k) R (Gn out (DR (tk (n,k.len)) (Dj tk k))) m (λq hq=>hp q (by simp[hq])) (by rw[hL];simp) (by omega) (by omega) (by omega)
    simp only[z1z,z0z,z3z] at i1 i2
    rw[e,z5z,ACq tk L _ s _ _ out (n,k.len) hs hat (by rw[z1z];omega)]
    rw[i1,i2]
    have e3:A.length+(0+1)+(AJ k).length+(AJ r).length=A.length+((AJ k).length+(AJ r).length+1):=by omega
    rw[e3]
    show _=EF tk L m ls _ (Gn out (DR (s::ts) (DR (tk (n,k.len)) (Dj tk k)::Dj tk r)))
    rw[Us hs,rT]
theorem jf(tk:Nd × Nat->List ByteArray)(n:Nd)(ks:Fo)(hp:∀p ∈ AJ (Fo.one n ks),Em (tk p)=p.2)(h1:1+Dy tk (AJ (Fo.one n ks))<=2000000)(h2:IE tk (AJ (Fo.one n ks))+3<=1000000000):∃fuel,EF tk (AJ (Fo.one n ks)) fuel [tK] 0 []=some (let o:=Gn [] (DR (tk (n,ks.len)) (Dj tk ks));if o=[] then [] else o++[10]):=by
 have k1:isK tK=true:=by kernel_rfl
 have w1:Dl [tK]=1:=rfl
 have h:=ABf tk (AJ (Fo.one n ks)) (Fo.one n ks) [tK] [] [] [] [] 1 hp (by simp) (by rw[JI,k1];rfl) (by simp only[z0z,z3z];omega) (by rw[w1,z3z];omega)
 refine⟨1+([tK].length+Dy tk (AJ (Fo.one n ks))),?_⟩
 rw[List.append_nil] at h
 rw[show (0:Nat)=([]:List (Nd × Nat)).length from rfl,h]
 have e:DR [tK] (Dj tk (Fo.one n ks))=DR (tk (n,ks.len)) (Dj tk ks):=by
  show DR [tK] (DR (tk (n,ks.len)) (Dj tk ks)::Dj tk .nil)=_
  rw[Us k1]
  simp[DR]
 rw[e]
 rfl
open Go.ChangeShapes Go.WideShapes Go.RowKit Go.Shelf
def Qb(w:World)(l:List UInt8)(W:World):Prop:=Bd w.heap.size w.heap.size l W/\Below w.heap.size w W
theorem JD(w W:World)(l:List UInt8)(h:Qb w l W)(hl:l.length<=100000000)(v:Int)(c:UInt8)(hc:v=c.toNat):Calls prog 67 #[.pointer (some ⟨w.heap.size,0,none⟩),.int .u8 v] W λe w'=>e=.returned .nilIface/\Qb w (l++[c]) w':=by
 subst hc
 refine(Rk w.heap.size w.heap.size l c W h.1 (by omega) h.2.size).mono ?_
 rintro e w' ⟨rfl,h1,_,h2⟩
 exact⟨rfl,h1,h.2.trans h2⟩
theorem fZ(w W:World)(l:List UInt8)(h:Qb w l W)(hl:l.length<=100000000)(s:ByteArray)(hs:s.size<=4)(m:List UInt8)(hm:s.data.toList=m):Calls prog 68 #[.pointer (some ⟨w.heap.size,0,none⟩),.string s] W λe w'=>e=.returned (.tuple #[.int .i64 s.size,.nilIface])/\Qb w (l++m) w':=by
 subst hm
 refine(Uc w.heap.size w.heap.size l s W h.1 (by omega) h.2.size).mono ?_
 rintro e w' ⟨rfl,h1,_,h2⟩
 exact⟨rfl,h1,h.2.trans h2⟩
theorem YW(l:List UInt8):(l.flatMap Di).length<=4*l.length:=by
 induction l with
 | nil=>simp
 | cons b l ih=>
  rw[List.flatMap_cons,z1z,z0z]
  have:(Di b).length<=4:=by
   unfold Di
   split
   ·simp
   ·split
    ·simp
    ·split <;> simp
  omega
theorem AAj(l:List UInt8)(k:Nat)(hk:k<l.length):(l.take (k+1)).flatMap Di=(l.take k).flatMap Di++Di l[k]:=by
 rw[List.take_succ_eq_append_getElem hk,List.flatMap_append,List.flatMap_cons,List.flatMap_nil,List.append_nil]
def Sg:ByteArray:=⟨#[48,49,50,51,52,53,54,55,56,57,97,98,99,100,101,102]⟩
theorem jo:∀n:Fin 16,Sg.data.toList[n.val]? = some (BA n.val):=by decide
theorem Qa(i:Nat)(h:i<16):(⟨#[48,49,50,51,52,53,54,55,56,57,97,98,99,100,101,102]⟩:ByteArray)[i]'h=BA i:=by
 have h1:=jo ⟨i,h⟩
 have h2:Sg.data.toList[i]? = some (Sg.data.toList[i]'h):=List.getElem?_eq_getElem h
 rw[h2] at h1
 exact Option.some.inj h1
theorem UG(s:ByteArray)(hs:s.size<=1000000)(w:World):Calls prog 154 #[.string s] w λe w'=>e=.returned (.string (JA s))/\Below w.heap.size w w':=by
 obtain⟨qs,hqs⟩:∃qs,JA s=qs:=⟨_,rfl⟩
 rw[hqs]
 have q0:Qb w [] (w.alloc (.cells #[.pointer none,.slice none 0 0] 122)):=by
  refine⟨.inl ⟨z2z _,.slice none 0 0,World.alloc_heap_new w _,World.ownsRow_nil _ _ _ _,by simp[Value.ownBlock]⟩,(Below.refl _ w).alloc (z2z _) _⟩
 have c0:=JD w _ [] q0 (by simp) 34 34 rfl
 have hsl:s.data.toList.length=s.size:=by simp
 go_enter func154,ntmps154
 go_upto_region 4 with(go_at_call 67;(with_reducible refine c0.mono ?_);rintro e w1 ⟨rfl,q1⟩;clear c0)
 go_loopw [9,4,5] (λkv _ _ wr=>∃k:Nat,k<=s.size/\kv=.int .i64 (k:Nat)/\Qb w ([34]++(s.data.toList.take k).flatMap Di) wr) (λkv _ _ _=>s.size-(intOf kv).toNat)
 case atStart=>exact⟨0,Nat.zero_le _,rfl,by simpa using q1⟩
 case round=>
  obtain⟨k,hk,rfl,q⟩:=hrel
  clear q1 q0
  have hll:([34]++(s.data.toList.take k).flatMap Di).length<=4000001:=by
   have:=YW (s.data.toList.take k)
   rw[List.length_take] at this
   rw[z1z,z0z,z3z]
   omega
  by_cases hlt:k<s.size
  case neg=>
   have hke:k=s.size:=by omega
   have j1:¬ ((k:Nat):Int)<s.size:=by omega
   have hx:([34]++(s.data.toList.take k).flatMap Di)=[34]++s.data.toList.flatMap Di:=by rw[List.take_of_length_le (by omega)]
   rw[hx] at q hll
   have c1:=JD w wr _ q (by omega) 34 34 rfl
   have c2:∀W,Qb w ([34]++s.data.toList.flatMap Di++[34]) W->Calls prog 69 #[.pointer (some ⟨w.heap.size,0,none⟩)] W λe w'=>e=.returned (.string qs)/\Below w.heap.size w w':=by
    rw[<- hqs]
    intro W h
    refine(Tryz.Builder_String_any w.heap.size w.heap.size _ W h.1 h.2.size).mono ?_
    rintro e w' ⟨rfl,hB⟩
    exact⟨rfl,h.2.trans hB⟩
   have HQ:=hid q
   clear hqs q hx hll hke
   go_wp2_with (first|(go_at_call 67;(with_reducible refine c1.mono ?_);rintro e w5 ⟨rfl,q5⟩;(have c3:=c2 w5 q5);clear c1 q5 c2)|(go_at_call 69;(with_reducible refine c3.mono ?_);rintro e w6 ⟨rfl,hB6⟩;(have HB6:=hid hB6);clear hB6 c3))
   go_ret
   exact⟨rfl,HB6.out⟩
  have j1:((k:Nat):Int)<s.size:=by omega
  have j2:(0:Int)<=(k:Nat):=by omega
  have j3:IntKind.i64.wrap ((k:Int)+1)=((k+1:Nat):Int):=by rw[IntKind.wrap_i64];omega
  have ht:=AAj s.data.toList k (by omega)
  have hq:∀W,Qb w ([34]++(s.data.toList.take k).flatMap Di++Di (s.data.toList[k]'(by omega))) W->Qb w ([34]++(s.data.toList.take (k+1)).flatMap Di) W:=by
   intro W h
   rw[ht,<- List.append_assoc]
   exact h
  have HN:=hid hq
  generalize [34]++(s.data.toList.take k).flatMap Di=l at *
  clear hq ht hqs
  have hsk:s.data.toList[k]'(by omega)=s[k]:=by simp;rfl
  rw[hsk] at HN
  clear hsk
  go_upto_region 8 with fail
  generalize s[k]=b at *
  have hn:b.toNat<256:=b.toNat_lt
  have hbb:∀m:Nat,m<256->(b=m.toUInt8↔b.toNat=m):=by
   intro m hm
   constructor
   ·rintro rfl
    simp
    omega
   ·intro e
    rw[<- e]
    simp
  have f34:=hbb 34 (by omega)
  have f92:=hbb 92 (by omega)
  have f10:=hbb 10 (by omega)
  clear hbb
  by_cases h34:b.toNat=34
  ·obtain rfl:b=34:=f34.2 h34
   have he:Di 34=[92,34]:=by decide
   rw[he] at HN
   have c1:=JD w wr l q (by omega) 92 92 rfl
   have c2:=λW (h:Qb w (l++[92]) W)=>JD w W _ h (by simp;omega) 34 34 rfl
   clear f34 f92 f10 he h34 hn
   go_wp2_with (go_at_call 67;first|((with_reducible refine c1.mono ?_);rintro e w5 ⟨rfl,q5⟩;(have c3:=c2 w5 q5);clear c1 q5 c2)|((with_reducible refine c3.mono ?_);rintro e w6 ⟨rfl,q6⟩;(have HQ6:=hid q6);clear q6 c3))
   go_roundw
   case rel=>exact⟨k+1,by omega,by first|rfl|go_num,HN.out _ (by have:=HQ6.out;simpa using this)⟩
   case measure=>show s.size-((k+1:Nat):Int).toNat<s.size-(k:Int).toNat;omega
  by_cases h92:b.toNat=92
  ·obtain rfl:b=92:=f92.2 h92
   have he:Di 92=[92,92]:=by decide
   rw[he] at HN
   have c1:=JD w wr l q (by omega) 92 92 rfl
   have c2:=λW (h:Qb w (l++[92]) W)=>JD w W _ h (by simp;omega) 92 92 rfl
   clear f34 f92 f10 he h92 hn
   go_wp2_with (go_at_call 67;first|((with_reducible refine c1.mono ?_);rintro e w5 ⟨rfl,q5⟩;(have c3:=c2 w5 q5);clear c1 q5 c2)|((with_reducible refine c3.mono ?_);rintro e w6 ⟨rfl,q6⟩;(have HQ6:=hid q6);clear q6 c3))
   go_roundw
   case rel=>exact⟨k+1,by omega,by first|rfl|go_num,HN.out _ (by have:=HQ6.out;simpa using this)⟩
   case measure=>show s.size-((k+1:Nat):Int).toNat<s.size-(k:Int).toNat;omega
  by_cases h10:b.toNat=10
  ·obtain rfl:b=10:=f10.2 h10
   have he:Di 10=[92,110]:=by decide
   rw[he] at HN
   have c1:=fZ w wr l q (by omega) ⟨#[92,110]⟩ (by decide) [92,110] rfl
   clear f34 f92 f10 he h10 h34 h92 hn
   go_wp2_with (go_at_call 68;(with_reducible refine c1.mono ?_);rintro e w6 ⟨rfl,q6⟩;(have HQ6:=hid q6);clear q6 c1)
   go_roundw
   case rel=>exact⟨k+1,by omega,by first|rfl|go_num,HN.out _ (by have:=HQ6.out;simpa using this)⟩
   case measure=>show s.size-((k+1:Nat):Int).toNat<s.size-(k:Int).toNat;omega
  have g34:((b.toNat:Int)==34)=false:=by
   have:¬ (b.toNat:Int)=34:=by omega
   simpa using this
  have g92:((b.toNat:Int)==92)=false:=by
   have:¬ (b.toNat:Int)=92:=by omega
   simpa using this
  have g10:((b.toNat:Int)==10)=false:=by
   have:¬ (b.toNat:Int)=10:=by omega
   simpa using this
  have n34:¬ (b=34\/b=92):=by
   rintro(e|e)
   ·exact h34 (f34.1 e)
   ·exact h92 (f92.1 e)
  have n10:¬b=10:=λe=>h10 (f10.1 e)
  clear f34 f92 f10
  by_cases hC:b.toNat<32\/126<b.toNat
  case neg=>
   have he:Di b=[b]:=by
    unfold Di
    rw[if_neg n34,if_neg n10,if_neg]
    rintro(e|e)
    ·exact hC (.inl (by have:=UInt8.lt_iff_toNat_lt.1 e;simpa using this))
    ·exact hC (.inr (by have:=UInt8.lt_iff_toNat_lt.1 e;simpa using this))
   rw[he] at HN
   have c1:=JD w wr l q (by omega) b.toNat b rfl
   have k1:¬ (b.toNat:Int)<32:=by omega
   have k2:¬ (b.toNat:Int)>126:=by omega
   clear he hC n34 n10 h34 h92 h10 hn
   go_wp2_with (go_at_call 67;(with_reducible refine c1.mono ?_);rintro e w6 ⟨rfl,q6⟩;(have HQ6:=hid q6);clear q6 c1)
   go_roundw
   case rel=>exact⟨k+1,by omega,by first|rfl|go_num,HN.out _ (by have:=HQ6.out;simpa using this)⟩
   case measure=>show s.size-((k+1:Nat):Int).toNat<s.size-(k:Int).toNat;omega
  have he:Di b=[92,120]++[BA (b.toNat/16)]++[BA (b.toNat%16)]:=by
   unfold Di
   rw[if_neg n34,if_neg n10,if_pos]
   ·rfl
   ·rcases hC with h|h
    ·exact .inl (UInt8.lt_iff_toNat_lt.2 (by simpa using h))
    ·exact .inr (UInt8.lt_iff_toNat_lt.2 (by simpa using h))
  rw[he] at HN
  have c1:=fZ w wr l q (by omega) ⟨#[92,120]⟩ (by decide) [92,120] rfl
  have hm:bits .and .u8 (b.toNat:Int) 15=(b.toNat:Int)%16:=by
   have h:∀n:Fin 256,bits .and .u8 ((n.val:Nat):Int) 15=((n.val:Nat):Int)%16:=by decide +kernel
   exact h ⟨b.toNat,hn⟩
  have i1:(b.toNat:Int)/16<16:=by omega
  have i2:(b.toNat:Int)%16<16:=by omega
  have i3:(0:Int)<=(b.toNat:Int)/16:=by omega
  have i4:(0:Int)<=(b.toNat:Int)%16:=by omega
  have hC':(b.toNat:Int)<32\/¬ (b.toNat:Int)<32/\(b.toNat:Int)>126:=by omega
  clear he n34 n10 h34 h92 h10 hC
  rcases hC' with k1|⟨k1,k2⟩
  ·go_wp2_with (first|(go_at_call 68;(with_reducible refine c1.mono ?_);rintro e w5 ⟨rfl,q5⟩;clear c1)|(go_at_call 67;first|((with_reducible refine(JD w _ _ q5 (by simp;omega) _ _ rfl).mono ?_);rintro e w6 ⟨rfl,q6⟩;rw[Qa] at q6;clear q5)|((with_reducible refine(JD w _ _ q6 (by simp;omega) _ _ rfl).mono ?_);rintro e w7 ⟨rfl,q7⟩;rw[Qa] at q7;(have HQ7:=hid q7);clear q6 q7)))
   go_roundw
   case rel=>exact⟨k+1,by omega,by first|rfl|go_num,HN.out _ (by have:=HQ7.out;simpa using this)⟩
   case measure=>show s.size-((k+1:Nat):Int).toNat<s.size-(k:Int).toNat;omega
  ·go_wp2_with (first|(go_at_call 68;(with_reducible refine c1.mono ?_);rintro e w5 ⟨rfl,q5⟩;clear c1)|(go_at_call 67;first|((with_reducible refine(JD w _ _ q5 (by simp;omega) _ _ rfl).mono ?_);rintro e w6 ⟨rfl,q6⟩;rw[Qa] at q6;clear q5)|((with_reducible refine(JD w _ _ q6 (by simp;omega) _ _ rfl).mono ?_);rintro e w7 ⟨rfl,q7⟩;rw[Qa] at q7;(have HQ7:=hid q7);clear q6 q7)))
   go_roundw
   case rel=>exact⟨k+1,by omega,by first|rfl|go_num,HN.out _ (by have:=HQ7.out;simpa using this)⟩
   case measure=>show s.size-((k+1:Nat):Int).toNat<s.size-(k:Int).toNat;omega
section
variable (a:Int) (c:Nat) (t:ByteArray) (i b:Int) (w:World)
theorem pO(h0:0<=b)(h1:b<18446744073709551616)(ht:Tabs w):TK 106 #[Ad 27 a c t i b] [⟨(Ec b).toArray⟩] w:=by
 have bw:Below w.heap.size w (w.alloc (.cells #[.int .i64 27,.int .i64 a,.int .i64 (c:Nat),.string t,.int .i64 i,.int .u64 b] 48)):=(Below.refl _ w).alloc (z2z _) _
 have ci:=yD b h0 h1 _ (ht.below bw)
 generalize (⟨(Ec b).toArray⟩:ByteArray)=x at *
 unfold TK Ad
 clear ht
 go_enter func106,ntmps106
 go_wp2_with (go_at_call 153;(with_reducible refine ci.mono ?_);rintro e w2 ⟨rfl,hB2⟩;(have HB:=hid (bw.trans (hB2.mono bw.size)));clear hB2 ci bw)
 go_ret
 exact⟨_,rfl,HB.out.alloc HB.out.size _,(Oc w2 [.string x] [x] rfl (by simp)).base HB.out.size⟩
theorem ACU(hs:t.size<=1000000):TK 106 #[Ad 28 a c t i b] [JA t] w:=by
 have bw:Below w.heap.size w (w.alloc (.cells #[.int .i64 28,.int .i64 a,.int .i64 (c:Nat),.string t,.int .i64 i,.int .u64 b] 48)):=(Below.refl _ w).alloc (z2z _) _
 have ci:=UG t hs (w.alloc (.cells #[.int .i64 28,.int .i64 a,.int .i64 (c:Nat),.string t,.int .i64 i,.int .u64 b] 48))
 generalize JA t=x at *
 unfold TK Ad
 go_enter func106,ntmps106
 go_wp2_with (go_at_call 154;(with_reducible refine ci.mono ?_);rintro e w2 ⟨rfl,hB2⟩;(have HB:=hid (bw.trans (hB2.mono bw.size)));clear hB2 ci bw)
 go_ret
 exact⟨_,rfl,HB.out.alloc HB.out.size _,(Oc w2 [.string x] [x] rfl (by simp)).base HB.out.size⟩
end
def GR(b:Int):ByteArray:=⟨(Ec b).toArray⟩
theorem AAQ(w:World)(v:Value)(L:List (Nd × Nat))(hN:NR w v L)(hNl:∀k,v.ownBlock=some k->k<w.heap.size)(hT:Ie L=true)(hok:∀p ∈ L,QG p/\0<=p.1.bits/\p.1.bits<18446744073709551616)(fuel:Nat)(res:List UInt8)(hpr:EF (EJ GR) L fuel [tK] 0 []=some res)(ht:Tabs w)(hm:MarksIn w) :
  Calls prog 23 #[v] w λe w'=>e=.returned (.tuple #[.string ⟨res.toArray⟩,.int .i64 0])/\Below w.heap.size w w':=by
 refine AAw GR w v L hN hNl hT (λp hp=>(hok p hp).1) ?_ ?_ fuel res hpr ht hm
 ·rintro⟨⟨k,a,t,i,b⟩,c⟩ hp rfl w' ht'
  exact pO a c t i b w' (hok _ hp).2.1 (hok _ hp).2.2 ht'
 ·rintro⟨⟨k,a,t,i,b⟩,c⟩ hp rfl w' ht'
  exact ACU a c t i b w' (hok _ hp).1.size
end Go.Proofs.YtjplieobnknnpaaGreatDoor.W.Tr
