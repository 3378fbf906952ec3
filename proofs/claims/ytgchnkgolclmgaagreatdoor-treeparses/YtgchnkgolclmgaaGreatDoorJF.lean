import Derived.Test.YtgchnkgolclmgaaGreatDoorJE
import Derived.Deep.QuietTactic
import Derived.BigQuiet
import Derived.RegionTactic
import Derived.Laws.Concat
open Nat renaming le_refl → aL, two_pow_pos → bO, pow_le_pow_right → bY, mul_lt_mul_of_pos_right → dR
open Go.World renaming setCell → aH, frozen?_setCell → ay
open Go.RowKit.Below renaming refl → aY
open Go.IntKind renaming u64 → dI, wrap_u64 → dQ
open Int renaming eq_ofNat_of_zero_le → gI
open Go.Lib renaming trimPrefix → eU
open Go.Proofs.Tryz
set_option maxRecDepth 1000000
set_option maxHeartbeats 8000000
namespace Go.Proofs.YtgchnkgolclmgaaGreatDoor.W
open Go.ChangeShapes Go.WideShapes Go.RowKit
def Ia(o:Option Int):Value:=.tuple #[.int .u64 (o.getD 0),.bool o.isSome]
theorem Ry(n:Nat)(h:n≠0):dX n<=n/\dX n≠0:=by
 obtain⟨o1,o2⟩:=rX n h
 have p:=bO (fH n)
 have:dX n*1<=dX n*2 ^ fH n:=Nat.mul_le_mul_left _ p
 omega
theorem Kg(n:Nat)(h:n≠0):n/2 ^ fH n=dX n:=by
 obtain⟨o1,o2⟩:=rX n h
 have e:n/2 ^ fH n=dX n*2 ^ fH n/2 ^ fH n:=by rw[<- o2]
 rw[e]
 exact Nat.mul_div_cancel _ (bO _)
theorem Nu(n:Nat)(h:n≠0)(h1:n<18446744073709551616):fH n<=63/\n.log2<=63:=by
 have e:=wS n h
 have l:n.log2<=63:=by
  apply Nat.le_of_not_lt
  intro hh
  have:2 ^ 64<=2 ^ n.log2:=bY (by decide) hh
  have:=(lC h).1
  omega
 omega
theorem uw(v p:Int)(w:World) :
  Calls prog 143 #[.agg #[.int .u64 v,.int .i64 p,.bool true]] w λe w'=>e=.returned (Ia none)/\Below w.heap.size w w':=by
 go_enter func143,ntmps143
 go_wp2_with fail
 go_ret2
 exact⟨rfl,(aY _ _).alloc (aL _) _⟩
theorem uq(p:Int)(w:World) :
  Calls prog 143 #[.agg #[.int .u64 0,.int .i64 p,.bool false]] w λe w'=>e=.returned (Ia (some 0))/\Below w.heap.size w w':=by
 go_enter func143,ntmps143
 go_wp2_with fail
 go_ret2
 exact⟨rfl,(aY _ _).alloc (aL _) _⟩
theorem wO(v p tw od lg:Int)(ans:Option Int)(w:World)(ht:Tabs w)(v0:¬v=0)(p0:-200000<=p)(p1:p<=200000)(t0:0<=tw)(t1:tw<=63)(l0:0<=lg)(l1:lg<=63)
  (ct:∀w,Tabs w->Calls prog 160 #[.int .u64 v] w λe w'=>e=.returned (.int .i64 tw)/\w'=w)
  (cl:∀w,Calls prog 161 #[.int .u64 od] w λe w'=>e=.returned (.int .i64 (lg+1))/\w'=w)
  (hod:v/2 ^ tw.toNat=od) (lo hi:Int) (hlo:p+tw=lo) (hhi:lo+(lg+1)-1=hi)
  (mQ:((53<lg+1\/¬53<lg+1/\lo < -1074\/¬53<lg+1/\¬lo < -1074/\1023<hi)/\ans=none) \/
   (¬53<lg+1/\¬lo < -1074/\¬1023<hi/\hi < -1022/\∃a,ans=some a/\dI.wrap (od*2 ^ (lo+1074).toNat)=a) \/
   (¬53<lg+1/\¬lo < -1074/\¬1023<hi/\¬hi < -1022/\∃a b c d,ans=some a/\dI.wrap (od*2 ^ (53-(lg+1)).toNat)=b/\bits .and .u64 b 4503599627370495=c/\dI.wrap ((hi+1023)*4503599627370496)=d/\bits .or .u64 d c=a)) :
  Calls prog 143 #[.agg #[.int .u64 v,.int .i64 p,.bool false]] w λe w'=>e=.returned (Ia ans)/\Below w.heap.size w w':=by
 have htW:Tabs (w.alloc (Obj.cells #[Value.int .u64 v,.int .i64 p,.bool false] 153)):=ht.below ((aY _ _).alloc (aL _) _)
 go_enter func143,ntmps143
 go_wp2_with (go_at_call 160;refine(ct _ htW).mono ?_;rintro e w' ⟨rfl,rfl⟩)
 go_quiet (fail)
 rcases mQ with⟨h|⟨h,h2⟩|⟨h,h2,h3⟩,rfl⟩|⟨h,h2,h3,h4,a,rfl,ha⟩|⟨h,h2,h3,h4,a,b,c,d,rfl,hb,hc,hd,ha⟩
 ·go_wp2_with (go_at_call 161;refine(cl _).mono ?_;rintro e w' ⟨rfl,rfl⟩)
  go_ret2
  exact⟨rfl,below_drewN ((aY _ _).alloc (aL _) _) _⟩
 ·go_wp2_with (go_at_call 161;refine(cl _).mono ?_;rintro e w' ⟨rfl,rfl⟩)
  go_ret2
  exact⟨rfl,below_drewN ((aY _ _).alloc (aL _) _) _⟩
 ·go_wp2_with (go_at_call 161;refine(cl _).mono ?_;rintro e w' ⟨rfl,rfl⟩)
  go_ret2
  exact⟨rfl,below_drewN ((aY _ _).alloc (aL _) _) _⟩
 ·go_wp2_with (go_at_call 161;refine(cl _).mono ?_;rintro e w' ⟨rfl,rfl⟩)
  go_ret2
  exact⟨rfl,below_drewN ((aY _ _).alloc (aL _) _) _⟩
 ·go_wp2_with (go_at_call 161;refine(cl _).mono ?_;rintro e w' ⟨rfl,rfl⟩)
  go_ret2
  exact⟨rfl,below_drewN ((aY _ _).alloc (aL _) _) _⟩
theorem AU(v p:Int)(wd:Bool)(v0:0<=v)(v1:v<18446744073709551616)(p0:-200000<=p)(p1:p<=200000)(w:World)(ht:Tabs w) :
  Calls prog 143 #[.agg #[.int .u64 v,.int .i64 p,.bool wd]] w λe w'=>e=.returned (Ia (E5 v.toNat wd p))/\Below w.heap.size w w':=by
 cases wd with
 | true=>exact uw v p w
 | false=>
  obtain⟨n,rfl⟩:=gI v0
  rw[Int.toNat_natCast]
  have e:E5 n false p=bH n p:=rfl
  rw[e]
  by_cases hn:n=0
  ·subst hn
   have e0:bH 0 p=some 0:=by unfold bH;rw[if_pos rfl]
   rw[e0]
   exact uq p w
  ·obtain⟨o1,o2⟩:=rX n hn
   obtain⟨o3,o4⟩:=Ry n hn
   obtain⟨t1,t2⟩:=Nu n hn (by omega)
   have lo:=wS n hn
   obtain⟨l1,l2⟩:=lC o4
   refine wO n p (fH n) (dX n) (dX n).log2 _ w ht (by omega) p0 p1 (by omega) (by omega) (by omega) (by omega) (λw h=>WT n (by omega) v1 w h) (λw=>Ac (dX n) (by omega) (by omega) w) ?_ _ _ rfl rfl ?_
   ·rw[Int.toNat_natCast]
    have:(n:Int)/2 ^ fH n=((n/2 ^ fH n:Nat):Int):=by simp
    rw[this,Kg n hn]
   ·unfold bH
    rw[if_neg hn]
    by_cases c1:52<(dX n).log2\/p+fH n < -1074\/1023<p+fH n+(dX n).log2
    ·rw[if_pos c1]
     refine Or.inl ⟨?_,rfl⟩
     by_cases g1:53<((dX n).log2:Int)+1
     ·exact Or.inl g1
     ·by_cases g2:p+fH n < -1074
      ·exact Or.inr (Or.inl ⟨g1,g2⟩)
      ·exact Or.inr (Or.inr ⟨g1,g2,by omega⟩)
    ·rw[if_neg c1]
     have k1:(dX n).log2<=52:=by omega
     have k2:-1074<=p+fH n:=by omega
     have k3:p+fH n+(dX n).log2<=1023:=by omega
     by_cases c2:p+fH n+(dX n).log2 < -1022
     ·rw[if_pos c2]
      refine Or.inr (Or.inl ⟨by omega,by omega,by omega,by omega,_,rfl,?_⟩)
      have e1:(dX n:Int)*2 ^ (p+fH n+1074).toNat=((dX n*2 ^ (p+fH n+1074).toNat:Nat):Int):=by simp
      have b1:dX n*2 ^ (p+fH n+1074).toNat<2 ^ ((dX n).log2+1)*2 ^ (p+fH n+1074).toNat:=dR l2 (bO _)
      rw[<- Nat.pow_add] at b1
      have b2:2 ^ ((dX n).log2+1+(p+fH n+1074).toNat)<=2 ^ 52:=bY (by decide) (by omega)
      have b3:(2:Nat) ^ 52=4503599627370496:=by decide
      rw[e1,dQ]
      omega
     ·rw[if_neg c2]
      have sh:(53-(((dX n).log2:Int)+1)).toNat=52-(dX n).log2:=by omega
      have e1:(dX n:Int)*2 ^ (52-(dX n).log2)=((dX n*2 ^ (52-(dX n).log2):Nat):Int):=by simp
      have a1:2 ^ (dX n).log2*2 ^ (52-(dX n).log2)<=dX n*2 ^ (52-(dX n).log2):=Nat.mul_le_mul_right _ l1
      have a2:dX n*2 ^ (52-(dX n).log2)<2 ^ ((dX n).log2+1)*2 ^ (52-(dX n).log2):=dR l2 (bO _)
      rw[<- Nat.pow_add] at a1 a2
      rw[show (dX n).log2+(52-(dX n).log2)=52 by omega] at a1
      rw[show (dX n).log2+1+(52-(dX n).log2)=53 by omega] at a2
      have e5:(2:Nat) ^ 52=4503599627370496:=by decide
      have e6:(2:Nat) ^ 53=9007199254740992:=by decide
      rw[e5] at a1
      rw[e6] at a2
      refine Or.inr (Or.inr ⟨by omega,by omega,by omega,by omega,_,((dX n*2 ^ (52-(dX n).log2):Nat):Int),((dX n*2 ^ (52-(dX n).log2)-4503599627370496:Nat):Int),(((p+fH n+(dX n).log2+1023).toNat*4503599627370496:Nat):Int),rfl,?_,?_,?_,?_⟩)
      ·rw[sh,e1,dQ]
       omega
      ·rw[Wu _ (by omega) (by omega)]
       omega
      ·rw[dQ]
       omega
      ·rw[u64_or_nat _ _ (by omega) (by omega),nat_join 52 _ _ (by rw[e5];exact Nat.mul_mod_left _ _) (by rw[e5];omega)]
def bG(l:List UInt8):Option (Nat × Int):=match l with|48::120::r=>readBody r|_=>none
def UM(m:Bool):Int:=if m=true then 9223372036854775808 else 0
def cO(s:Int)(o:Option (Nat × Int)):Int × Int:=match o with|none=>(0,20)|some (N,low)=>match bH N low with|none=>(0,21)|some a=>(s+a,0)
theorem yQ(s:Int)(l:List UInt8):Fx s l=cO s (bG l):=by
 unfold Fx bG cO
 split
 ·rfl
 ·rename_i hn
  split
  ·rename_i h
   split at h
   ·exact(hn _ rfl).elim
   ·rfl
  ·rename_i h
   split at h
   ·exact(hn _ rfl).elim
   ·cases h
theorem yR(l:List UInt8)(h64:l.length<=64)(h1:l≠uy)(h2:l≠nI)(h3:l≠45::nI):iQ l=cO (UM (jc l)) (bG (fK l)):=by
 unfold iQ
 rw[if_neg (by omega),if_neg h1,if_neg h2,if_neg h3]
 split
 ·exact yQ _ _
 ·rename_i hn
  obtain⟨e1,e2⟩:=rO l hn
  rw[e1,e2]
  exact yQ _ _
def uH(l:List UInt8)(sg v p:Int)(wd ok:Bool):Prop:=
 (ok=false/\bG (fK l)=none) \/
 (ok=true/\sg=UM (jc l)/\0<=v/\v<18446744073709551616/\-200000<=p/\p<=200000/\∃N low,bG (fK l)=some (N,low)/\bH N low=E5 v.toNat wd p)
theorem ql(r:List UInt8)(p:Int)(h:lV r=some p):-100000<=p/\p<=100000:=by
 unfold lV at h
 split at h
 ·rename_i sg ds
  by_cases c:(sg=43\/sg=45)/\ds≠[]/\ds.length<=5/\ds.all bI=true
  ·rw[if_pos c] at h
   obtain⟨-,-,c3,c4⟩:=c
   have h2:=zY ds (λc hc=>of_decide_eq_true (List.all_eq_true.1 c4 c hc))
   have h3:10 ^ ds.length<=10 ^ 5:=bY (by decide) c3
   have h4:(10:Nat) ^ 5=100000:=by decide
   injection h with h
   by_cases g:sg=45
   ·rw[if_pos g] at h;omega
   ·rw[if_neg g] at h;omega
  ·rw[if_neg c] at h;cases h
 ·cases h
theorem Mk(l d r:List UInt8)(sg v p pw:Int)(wd:Bool)(hd:fK l=48::120::d)(hs:sg=UM (jc l))(hD:BG d v p wd r true)(hp:lV r=some pw):uH l sg v (p+pw) wd true:=by
 have hr:=ql r pw hp
 rcases hD with⟨h,-⟩|⟨-,v0,v1,p0,p1,-,D,b,hb,he⟩
 ·cases h
 ·refine Or.inr ⟨rfl,hs,v0,v1,by omega,by omega,iI D,pw-4*b,?_,?_⟩
  ·rw[hd]
   show readBody d=_
   rw[hb,aK,hp];rfl
  ·rw[he pw]
   congr 1;omega
theorem zN(l d r:List UInt8)(sg v p:Int)(wd:Bool)(hd:fK l=48::120::d)(hD:BG d v p wd r true)(hp:lV r=none):uH l sg 0 0 false false:=by
 rcases hD with⟨h,-⟩|⟨-,v0,v1,p0,p1,-,D,b,hb,he⟩
 ·cases h
 ·refine Or.inl ⟨rfl,?_⟩
  rw[hd]
  show readBody d=_
  rw[hb,aK,hp];rfl
theorem zO(l d:List UInt8)(sg:Int)(hd:fK l=48::120::d)(hD:readBody d=none):uH l sg 0 0 false false:=
 Or.inl ⟨rfl,by rw[hd];exact hD⟩
theorem FN(l:List UInt8)(sg:Int)(hd:∀d,fK l≠48::120::d):uH l sg 0 0 false false:=by
 refine Or.inl ⟨rfl,?_⟩
 unfold bG
 split
 ·rename_i r e;exact absurd e (hd r)
 ·rfl
theorem uX{w w2:World}{x y z:Value}{t:TypeId}(hb:Below (w.alloc (.cells #[x,y,z] t)).heap.size (w.alloc (.cells #[x,y,z] t)) w2) :
  (∀i,w2.cell? ⟨w.heap.size,i,none⟩ = #[x,y,z][i]?)/\(∀i,w2.frozen? ⟨w.heap.size,i,none⟩=false)/\Below w.heap.size w w2:=by
 have lt:w.heap.size<(w.alloc (.cells #[x,y,z] t)).heap.size:=by simp
 refine⟨λi=>?_,λi=>?_,uD ((aY _ _).alloc (aL _) _) hb⟩
 ·rw[hb.cell lt]
  exact World.cell?_alloc_new w _ _ _
 ·rw[hb.frozen lt,frozen?_alloc_cells,World.frozen?]
  have:w.heap[w.heap.size]? = none:=Array.getElem?_eq_none (aL _)
  rw[this]
theorem oD(s U G:ByteArray)(m mk:Bool)(w:World)(hG:G.size<=64)
  (c1:∀w,Calls prog 144 #[.string s,.string ⟨#[45]⟩] w λe w'=>e=.returned (.tuple #[.string U,.bool m])/\w'=w)
  (c2:∀w,Calls prog 144 #[.string U,.string ⟨#[48,120]⟩] w λe w'=>e=.returned (.tuple #[.string G,.bool mk])/\w'=w)
  (l:List UInt8) (hm:m=jc l) (hmk:(mk=true/\fK l=48::120::G.data.toList)\/(mk=false/\∀d,fK l≠48::120::d)) :
  Calls prog 142 #[.string s] w λe w'=>(∃sg v p wd ok,e=.returned (.tuple #[.int .u64 sg,.agg #[.int .u64 v,.int .i64 p,.bool wd],.bool ok])/\uH l sg v p wd ok)/\Below w.heap.size w w':=by
 have HM:=hid hm
 clear hm
 rcases hmk with⟨rfl,hd⟩|⟨rfl,hd⟩
 ·have HD:=hid hd
  clear hd
  cases m with
  | false=>
   go_enter func142,ntmps142
   go_upto_region 8 with(first|((with_reducible (apply Calls.mono;first|exact c1 _|exact c2 _));rintro e w' ⟨rfl,rfl⟩)|(go_at_call 158;refine(rR G hG _).mono ?_;rintro e w2 ⟨⟨v,p,wd,r,ok,rfl,mQ⟩,hb⟩;obtain⟨hc,hf,hB⟩:=uX hb;(have a0:=hc 0);(have a1:=hc 1);(have a2:=hc 2);(have f0:=hf 0);(have f1:=hf 1);(have f2:=hf 2);simp at a0 a1 a2))
   generalize hW:aH (aH (aH w2 _ _) _ _) _ _=W3
   obtain⟨c3,g3⟩:=eX hW hc (aL _) hB
   have z3:∀i,W3.frozen? ⟨w.heap.size,i,none⟩=false:=by
    rw[<- hW];intro i;rw[ay,ay,ay];exact hf i
   clear hW hb a0 a1 a2 f0 f1 f2 hc hf hB
   have a0:=c3 0
   have a1:=c3 1
   have a2:=c3 2
   have f0:=z3 0
   have f1:=z3 1
   have f2:=z3 2
   simp at a0 a1 a2
   have C3:=hid c3
   have Z3:=hid z3
   clear c3 z3
   cases ok with
   | false=>
    have hn:readBody G.data.toList=none:=by
     rcases mQ with⟨-,h⟩|⟨h,-⟩
     ·exact h
     ·cases h
    have R:=hid (zO l G.data.toList 0 HD.out hn)
    clear hn mQ
    go_wp2_with fail
    generalize hV:aH (aH (aH _ _ _) _ _) _ _=V
    obtain⟨fR,gR⟩:=eX hV C3.out (aL _) g3
    exact bodyPost_ret (v:=.tuple #[.int .u64 0,.agg #[.int .u64 0,.int .i64 0,.bool false],.bool false]) (by simp[results,results142,go_sem,fR]) rfl ⟨⟨_,_,_,_,_,rfl,R.out⟩,gR⟩
   | true=>
    have rb:-1000<=p/\p<=1000/\r.length<=G.data.toList.length:=by
     rcases mQ with⟨h,-⟩|⟨-,-,-,h1,h2,h3,-⟩
     ·cases h
     ·exact⟨h1,h2,h3⟩
    obtain⟨p0,p1,rl⟩:=rb
    have hsz:(⟨r.toArray⟩:ByteArray).size=r.length:=by rw[<- size_list]
    have gl:=size_list G
    have cp:=uI ⟨r.toArray⟩ (by unfold maxLen;omega)
    clear hsz gl rl
    cases hp:lV r with
    | none=>
     have R:=hid (zN l G.data.toList r 0 v p wd HD.out mQ hp)
     have ep:lV (⟨r.toArray⟩:ByteArray).data.toList=none:=hp
     rw[ep] at cp
     clear mQ hp ep
     go_wp2_with (go_at_call 159;(with_reducible refine(cp _).mono ?_);rintro e w' ⟨rfl,rfl⟩)
     generalize hV:aH (aH (aH _ _ _) _ _) _ _=V
     obtain⟨fR,gR⟩:=eX hV C3.out (aL _) g3
     exact bodyPost_ret (v:=.tuple #[.int .u64 0,.agg #[.int .u64 0,.int .i64 0,.bool false],.bool false]) (by simp[results,results142,go_sem,fR]) rfl ⟨⟨_,_,_,_,_,rfl,R.out⟩,gR⟩
    | some pw=>
     obtain⟨q0,q1⟩:=ql r pw hp
     have R:=hid (Mk l G.data.toList r 0 v p pw wd HD.out (by rw[<- HM.out];rfl) mQ hp)
     have ep:lV (⟨r.toArray⟩:ByteArray).data.toList=some pw:=hp
     rw[ep] at cp
     clear mQ hp ep
     go_upto_region 14 with(go_at_call 159;(with_reducible refine(cp _).mono ?_);rintro e w' ⟨rfl,rfl⟩)
     generalize hV:aH _ _ _=V
     have cV:∀i,V.cell? ⟨w.heap.size,i,none⟩ = #[Value.int .u64 v,.int .i64 (p+pw),.bool wd][i]?:=by rw[<- hV];exact iq C3.out _ (show 1<3 by decide)
     have gV:Below w.heap.size w V:=by rw[<- hV];exact g3.setCell (p:=⟨w.heap.size,1,none⟩) (aL _) _
     have zV:∀i,V.frozen? ⟨w.heap.size,i,none⟩=false:=by rw[<- hV];intro i;rw[ay];exact Z3.out i
     have b0:=cV 0
     have b1:=cV 1
     have b2:=cV 2
     have y0:=zV 0
     have y1:=zV 1
     have y2:=zV 2
     simp at b0 b1 b2
     have CV:=hid cV
     clear a0 a1 a2 f0 f1 f2 hV cV zV
     go_region
     go_wp2_with fail
     generalize hX:aH (aH (aH _ _ _) _ _) _ _=X
     obtain⟨fR,gR⟩:=eX hX CV.out (aL _) gV
     exact bodyPost_ret (v:=.tuple #[.int .u64 0,.agg #[.int .u64 v,.int .i64 (p+pw),.bool wd],.bool true]) (by simp[results,results142,go_sem,fR]) rfl ⟨⟨_,_,_,_,_,rfl,R.out⟩,gR.drew⟩
  | true=>
   go_enter func142,ntmps142
   go_upto_region 8 with(first|((with_reducible (apply Calls.mono;first|exact c1 _|exact c2 _));rintro e w' ⟨rfl,rfl⟩)|(go_at_call 158;refine(rR G hG _).mono ?_;rintro e w2 ⟨⟨v,p,wd,r,ok,rfl,mQ⟩,hb⟩;obtain⟨hc,hf,hB⟩:=uX hb;(have a0:=hc 0);(have a1:=hc 1);(have a2:=hc 2);(have f0:=hf 0);(have f1:=hf 1);(have f2:=hf 2);simp at a0 a1 a2))
   generalize hW:aH (aH (aH w2 _ _) _ _) _ _=W3
   obtain⟨c3,g3⟩:=eX hW hc (aL _) hB
   have z3:∀i,W3.frozen? ⟨w.heap.size,i,none⟩=false:=by
    rw[<- hW];intro i;rw[ay,ay,ay];exact hf i
   clear hW hb a0 a1 a2 f0 f1 f2 hc hf hB
   have a0:=c3 0
   have a1:=c3 1
   have a2:=c3 2
   have f0:=z3 0
   have f1:=z3 1
   have f2:=z3 2
   simp at a0 a1 a2
   have C3:=hid c3
   have Z3:=hid z3
   clear c3 z3
   cases ok with
   | false=>
    have hn:readBody G.data.toList=none:=by
     rcases mQ with⟨-,h⟩|⟨h,-⟩
     ·exact h
     ·cases h
    have R:=hid (zO l G.data.toList 0 HD.out hn)
    clear hn mQ
    go_wp2_with fail
    generalize hV:aH (aH (aH _ _ _) _ _) _ _=V
    obtain⟨fR,gR⟩:=eX hV C3.out (aL _) g3
    exact bodyPost_ret (v:=.tuple #[.int .u64 0,.agg #[.int .u64 0,.int .i64 0,.bool false],.bool false]) (by simp[results,results142,go_sem,fR]) rfl ⟨⟨_,_,_,_,_,rfl,R.out⟩,gR⟩
   | true=>
    have rb:-1000<=p/\p<=1000/\r.length<=G.data.toList.length:=by
     rcases mQ with⟨h,-⟩|⟨-,-,-,h1,h2,h3,-⟩
     ·cases h
     ·exact⟨h1,h2,h3⟩
    obtain⟨p0,p1,rl⟩:=rb
    have hsz:(⟨r.toArray⟩:ByteArray).size=r.length:=by rw[<- size_list]
    have gl:=size_list G
    have cp:=uI ⟨r.toArray⟩ (by unfold maxLen;omega)
    clear hsz gl rl
    cases hp:lV r with
    | none=>
     have R:=hid (zN l G.data.toList r 0 v p wd HD.out mQ hp)
     have ep:lV (⟨r.toArray⟩:ByteArray).data.toList=none:=hp
     rw[ep] at cp
     clear mQ hp ep
     go_wp2_with (go_at_call 159;(with_reducible refine(cp _).mono ?_);rintro e w' ⟨rfl,rfl⟩)
     generalize hV:aH (aH (aH _ _ _) _ _) _ _=V
     obtain⟨fR,gR⟩:=eX hV C3.out (aL _) g3
     exact bodyPost_ret (v:=.tuple #[.int .u64 0,.agg #[.int .u64 0,.int .i64 0,.bool false],.bool false]) (by simp[results,results142,go_sem,fR]) rfl ⟨⟨_,_,_,_,_,rfl,R.out⟩,gR⟩
    | some pw=>
     obtain⟨q0,q1⟩:=ql r pw hp
     have R:=hid (Mk l G.data.toList r 9223372036854775808 v p pw wd HD.out (by rw[<- HM.out];rfl) mQ hp)
     have ep:lV (⟨r.toArray⟩:ByteArray).data.toList=some pw:=hp
     rw[ep] at cp
     clear mQ hp ep
     go_upto_region 14 with(go_at_call 159;(with_reducible refine(cp _).mono ?_);rintro e w' ⟨rfl,rfl⟩)
     generalize hV:aH _ _ _=V
     have cV:∀i,V.cell? ⟨w.heap.size,i,none⟩ = #[Value.int .u64 v,.int .i64 (p+pw),.bool wd][i]?:=by rw[<- hV];exact iq C3.out _ (show 1<3 by decide)
     have gV:Below w.heap.size w V:=by rw[<- hV];exact g3.setCell (p:=⟨w.heap.size,1,none⟩) (aL _) _
     have zV:∀i,V.frozen? ⟨w.heap.size,i,none⟩=false:=by rw[<- hV];intro i;rw[ay];exact Z3.out i
     have b0:=cV 0
     have b1:=cV 1
     have b2:=cV 2
     have y0:=zV 0
     have y1:=zV 1
     have y2:=zV 2
     simp at b0 b1 b2
     have CV:=hid cV
     clear a0 a1 a2 f0 f1 f2 hV cV zV
     go_region
     go_wp2_with fail
     generalize hX:aH (aH (aH _ _ _) _ _) _ _=X
     obtain⟨fR,gR⟩:=eX hX CV.out (aL _) gV
     exact bodyPost_ret (v:=.tuple #[.int .u64 9223372036854775808,.agg #[.int .u64 v,.int .i64 (p+pw),.bool wd],.bool true]) (by simp[results,results142,go_sem,fR]) rfl ⟨⟨_,_,_,_,_,rfl,R.out⟩,gR.drew⟩
 ·have R:=hid (FN l 0 hd)
  clear hd
  cases m <;>
  ·go_enter func142,ntmps142
   go_wp2_with (go_at_call 144;(first|(with_reducible refine(c1 _).mono ?_)|(with_reducible refine(c2 _).mono ?_));rintro e w' ⟨rfl,rfl⟩)
   exact bodyPost_ret (v:=.tuple #[.int .u64 0,.agg #[.int .u64 0,.int .i64 0,.bool false],.bool false]) (by simp[results,results142,go_sem]) rfl ⟨⟨_,_,_,_,_,rfl,R.out⟩,(aY _ _).alloc (aL _) _⟩
theorem zu(s:ByteArray)(hs:s.size<=64)(w:World) :
  Calls prog 142 #[.string s] w λe w'=>(∃sg v p wd ok,e=.returned (.tuple #[.int .u64 sg,.agg #[.int .u64 v,.int .i64 p,.bool wd],.bool ok])/\uH s.data.toList sg v p wd ok)/\Below w.heap.size w w':=by
 have sz:=size_list s
 have rl:=CG s.data.toList
 have hsz:∀x:List UInt8,(⟨x.toArray⟩:ByteArray).size=x.length:=λx=>by rw[<- size_list]
 have c2:=λw=>mF ⟨(fK s.data.toList).toArray⟩ ⟨#[48,120]⟩ w
 rcases qg (fK s.data.toList) 48 120 with⟨h1,h2⟩|⟨h1,h2,h3⟩
 ·have e1:Lib.hasPrefix (⟨(fK s.data.toList).toArray⟩:ByteArray).data.toList (⟨#[48,120]⟩:ByteArray).data.toList=true:=h1
  generalize hd:eU (fK s.data.toList) [48,120]=d at h2
  have e2:eU (⟨(fK s.data.toList).toArray⟩:ByteArray).data.toList (⟨#[48,120]⟩:ByteArray).data.toList=d:=hd
  rw[e1,e2] at c2
  have dl:d.length<=(fK s.data.toList).length:=by rw[h2];simp;omega
  exact oD s _ _ _ _ w (by rw[hsz];omega) (rC s) c2 s.data.toList rfl (Or.inl ⟨rfl,h2⟩)
 ·have e1:Lib.hasPrefix (⟨(fK s.data.toList).toArray⟩:ByteArray).data.toList (⟨#[48,120]⟩:ByteArray).data.toList=false:=h1
  have e2:eU (⟨(fK s.data.toList).toArray⟩:ByteArray).data.toList (⟨#[48,120]⟩:ByteArray).data.toList=fK s.data.toList:=h2
  rw[e1,e2] at c2
  exact oD s _ _ _ _ w (by rw[hsz];omega) (rC s) c2 s.data.toList rfl (Or.inr ⟨rfl,h3⟩)
def rZ(l:List UInt8):Option Int:=if l=uy then some 9221120237041090560 else if l=nI then some 9218868437227405312 else if l=45::nI then some 18442240474082181120 else none
def SK(o:Option Int):Value:=.tuple #[.int .u64 (o.getD 0),.bool o.isSome]
theorem vM(s:ByteArray)(w:World) :
  Calls prog 141 #[.string s] w λe w'=>e=.returned (SK (rZ s.data.toList))/\w'=w:=by
 have es:s.toList=s.data.toList:=toList_eq s
 by_cases h1:s.data.toList=uy
 ·have H:=hid (show rZ s.data.toList=some 9221120237041090560 by unfold rZ;rw[if_pos h1])
  have q:(s.toList==[110,97,110])=true:=by rw[es,h1];rfl
  clear es h1
  go_enter func141,ntmps141
  go_wp2_with fail
  go_ret2
  exact⟨by rw[H.out];rfl,rfl⟩
 ·have q:(s.toList==[110,97,110])=false:=by rw[es,beq_eq_false_iff_ne];exact h1
  by_cases h2:s.data.toList=nI
  ·have H:=hid (show rZ s.data.toList=some 9218868437227405312 by unfold rZ;rw[if_neg h1,if_pos h2])
   have q2:(s.toList==[105,110,102])=true:=by rw[es,h2];rfl
   clear es h1 h2
   go_enter func141,ntmps141
   go_wp2_with fail
   go_ret2
   exact⟨by rw[H.out];rfl,rfl⟩
  ·have q2:(s.toList==[105,110,102])=false:=by rw[es,beq_eq_false_iff_ne];exact h2
   by_cases h3:s.data.toList=45::nI
   ·have H:=hid (show rZ s.data.toList=some 18442240474082181120 by unfold rZ;rw[if_neg h1,if_neg h2,if_pos h3])
    have q3:(s.toList==[45,105,110,102])=true:=by rw[es,h3];rfl
    clear es h1 h2 h3
    go_enter func141,ntmps141
    go_wp2_with fail
    go_ret2
    exact⟨by rw[H.out];rfl,rfl⟩
   ·have H:=hid (show rZ s.data.toList=none by unfold rZ;rw[if_neg h1,if_neg h2,if_neg h3])
    have q3:(s.toList==[45,105,110,102])=false:=by rw[es,beq_eq_false_iff_ne];exact h3
    clear es h1 h2 h3
    go_enter func141,ntmps141
    go_wp2_with fail
    go_ret2
    exact⟨by rw[H.out];rfl,rfl⟩
theorem CS(l:List UInt8)(x:Int)(h:rZ l=some x):iQ l=(x,0):=by
 have nl:l=uy\/l=nI\/l=45::nI:=by
  unfold rZ at h
  by_cases h1:l=uy
  ·exact Or.inl h1
  ·by_cases h2:l=nI
   ·exact Or.inr (Or.inl h2)
   ·by_cases h3:l=45::nI
    ·exact Or.inr (Or.inr h3)
    ·rw[if_neg h1,if_neg h2,if_neg h3] at h;cases h
 rcases nl with rfl|rfl|rfl <;> (have e:some x=_:=h.symm;injection e with e;subst e;rfl)
theorem wF(l:List UInt8)(h64:l.length<=64)(h:rZ l=none):iQ l=cO (UM (jc l)) (bG (fK l)):=by
 unfold rZ at h
 by_cases h1:l=uy
 ·rw[if_pos h1] at h;cases h
 ·rw[if_neg h1] at h
  by_cases h2:l=nI
  ·rw[if_pos h2] at h;cases h
  ·rw[if_neg h2] at h
   by_cases h3:l=45::nI
   ·rw[if_pos h3] at h;cases h
   ·exact yR l h64 h1 h2 h3
theorem Oa(m:Bool)(a:Int)(a0:0<=a)(a1:a<9218868437227405312):bits .or .u64 (UM m) a=UM m+a:=by
 obtain⟨n,rfl⟩:=gI a0
 cases m with
 | false=>
  have:=u64_or_nat 0 n (by decide) (by omega)
  rw[Nat.zero_or] at this
  show bits .or .u64 ((0:Nat):Int) (n:Int)=0+(n:Int)
  rw[this];omega
 | true=>
  show bits .or .u64 ((9223372036854775808:Nat):Int) (n:Int)=9223372036854775808+(n:Int)
  rw[u64_or_nat _ _ (by decide) (by omega),nat_join 63 _ _ (by decide) (by omega)]
  omega
theorem rU(s:ByteArray)(hs:s.size<=maxLen)(w:World)(ht:Tabs w) :
  Calls prog 109 #[.string s] w λe w'=>e=.returned (.tuple #[.int .u64 (iQ s.data.toList).1,.int .i64 (iQ s.data.toList).2])/\Below w.heap.size w w':=by
 unfold maxLen at hs
 have sl:=size_list s
 by_cases c:s.size<=64
 ·cases hn:rZ s.data.toList with
  | some x=>
   have H:=hid (CS _ _ hn)
   have cn:=vM s
   rw[hn] at cn
   clear hn sl
   go_enter func109,ntmps109
   go_wp2_with (go_at_call 141;refine(cn _).mono ?_;rintro e w' ⟨rfl,rfl⟩;simp only[SK,Option.getD_some,Option.isSome_some])
   go_ret2
   exact⟨aZ (by rw[H.out]) (by rw[H.out]),aY _ _⟩
  | none=>
   have H:=hid (wF _ (by omega) hn)
   have cn:=vM s
   rw[hn] at cn
   clear hn sl
   go_enter func109,ntmps109
   go_upto_region 7 with(first|(go_at_call 141;refine(cn _).mono ?_;rintro e w' ⟨rfl,rfl⟩;simp only[SK,Option.getD_none,Option.isSome_none])|(go_at_call 142;refine(zu s c _).mono ?_;rintro e w2 ⟨⟨sg,v,p,wd,ok,rfl,mQ⟩,hb⟩))
   have ht3:Tabs (w2.alloc (Obj.cells #[Value.int .u64 v,.int .i64 p,.bool wd] 153)):=(ht.below hb).below ((aY _ _).alloc (aL _) _)
   have b3:=hb.alloc hb.size (Obj.cells #[Value.int .u64 v,.int .i64 p,.bool wd] 153)
   cases ok with
   | false=>
    have hn:bG (fK s.data.toList)=none:=by
     rcases mQ with⟨-,h⟩|⟨h,-⟩
     ·exact h
     ·cases h
    have H2:=hid (show iQ s.data.toList=(0,20) by rw[H.out,hn];rfl)
    clear hn mQ ht3
    go_wp2_with fail
    go_ret2
    exact⟨aZ (by rw[H2.out]) (by rw[H2.out]),b3⟩
   | true=>
    rcases mQ with⟨h,-⟩|⟨-,hsg,v0,v1,p0,p1,N,low,hbd,hex⟩
    ·cases h
    have cp:=AU v p wd v0 v1 p0 p1 _ ht3
    cases ho:E5 v.toNat wd p with
    | none=>
     have H2:=hid (show iQ s.data.toList=(0,21) by rw[H.out,hbd];unfold cO;simp only[hex,ho])
     rw[ho] at cp
     clear hex ho hbd hsg ht3
     go_wp2_with (go_at_call 143;refine cp.mono ?_;rintro e w4 ⟨rfl,hb4⟩;simp only[Ia,Option.getD_none,Option.isSome_none])
     go_ret2
     exact⟨aZ (by rw[H2.out]) (by rw[H2.out]),uD b3 hb4⟩
    | some a=>
     obtain⟨a0,a1⟩:=DT N low a (hex.trans ho)
     have H2:=hid (show iQ s.data.toList=(sg+a,0) by rw[H.out,hbd,<- hsg];unfold cO;simp only[hex,ho])
     have ho2:bits .or .u64 sg a=sg+a:=by rw[hsg];exact Oa _ a a0 a1
     rw[ho] at cp
     clear hex ho hbd hsg ht3
     go_wp2_with (go_at_call 143;refine cp.mono ?_;rintro e w4 ⟨rfl,hb4⟩;simp only[Ia,Option.getD_some,Option.isSome_some])
     go_ret2
     exact⟨aZ (by rw[H2.out]) (by rw[H2.out]),uD b3 hb4⟩
 ·have E:iQ s.data.toList=(0,2):=by unfold iQ;rw[if_pos (by omega)]
  have H:=hid E
  clear E
  go_enter func109,ntmps109
  go_wp2_with fail
  go_ret2
  exact⟨aZ (by rw[H.out]) (by rw[H.out]),aY _ _⟩
end Go.Proofs.YtgchnkgolclmgaaGreatDoor.W
