import Derived.Test.YtgchnkgolclmgaaGreatDoorRR4pnJ
import Derived.Test.YtgchnkgolclmgaaGreatDoorRR4mnJ
import Derived.Test.YtgchnkgolclmgaaGreatDoorRR4pdJ
import Derived.Test.YtgchnkgolclmgaaGreatDoorRR4mdJ
import Derived.Test.YtgchnkgolclmgaaGreatDoorRI4J
open Go.RowKit.Below renaming refl → aH
open Go.Proofs.Tryz
set_option maxRecDepth 1000000
set_option maxHeartbeats 8000000
namespace Go.Proofs.YtgchnkgolclmgaaGreatDoor.W
open Go.ChangeShapes Go.WideShapes Go.RowKit
set_option linter.unusedVariables false
def L6(p:Int × Int):Value:=.tuple #[.int .u64 p.1,.int .i64 p.2]
theorem EL(s:ByteArray)(w:World)(hs:s.size<=maxLen)(h:64<(s.size:Int)) :
  Calls prog 67 #[.string s] w λe w'=>e=.returned (L6 (0,2))/\Below w.heap.size w w':=by
 unfold maxLen at hs
 go_enter func67,ntmps67
 go_wp2_with fail
 go_ret2
 exact⟨rfl,aH _ _⟩
theorem IE(w:World) :
  Calls prog 67 #[.string ⟨#[110,97,110]⟩] w λe w'=>e=.returned (L6 (9221120237041090560,0))/\Below w.heap.size w w':=by
 go_enter func67,ntmps67
 go_wp2_with fail
 go_ret2
 exact⟨rfl,aH _ _⟩
theorem IG(w:World) :
  Calls prog 67 #[.string ⟨#[105,110,102]⟩] w λe w'=>e=.returned (L6 (9218868437227405312,0))/\Below w.heap.size w w':=by
 go_enter func67,ntmps67
 go_wp2_with fail
 go_ret2
 exact⟨rfl,aH _ _⟩
theorem EK(w:World) :
  Calls prog 67 #[.string ⟨#[45,105,110,102]⟩] w λe w'=>e=.returned (L6 (18442240474082181120,0))/\Below w.heap.size w w':=by
 go_enter func67,ntmps67
 go_wp2_with fail
 go_ret2
 exact⟨rfl,aH _ _⟩
theorem CO(w:World) :
  Calls prog 67 #[.string ⟨#[]⟩] w λe w'=>e=.returned (L6 (0,20))/\Below w.heap.size w w':=by
 go_enter func67,ntmps67
 go_wp2_with fail
 go_ret2
 exact⟨rfl,aH _ _⟩
def BA(T:ByteArray):Prop:=(T.size:Int)<2\/(∃h:1<T.size,((T[0].toNat:Int)!=48)=true)\/(∃h:1<T.size,((T[0].toNat:Int)!=48)=false/\((T[1].toNat:Int)!=120)=true)
theorem zq(T:ByteArray)(w:World)(he:T.toList.isEmpty=false)(t0:0<T.size)(t64:T.size<=64)(hc:((T[0].toNat:Int)==45)=false)(n1:(T.toList==[110,97,110])=false)(n2:(T.toList==[105,110,102])=false)(n3:(T.toList==[45,105,110,102])=false)(hn:BA T) :
  Calls prog 67 #[.string T] w λe w'=>e=.returned (L6 (0,20))/\Below w.heap.size w w':=by
 rcases hn with h|⟨t2,h⟩|⟨t2,h,g⟩
 ·go_enter func67,ntmps67
  go_wp2_with fail
  go_ret2
  exact⟨rfl,aH _ _⟩
 ·have t2':¬ (T.size:Int)<2:=by omega
  go_enter func67,ntmps67
  go_wp2_with fail
  go_ret2
  exact⟨rfl,aH _ _⟩
 ·have t2':¬ (T.size:Int)<2:=by omega
  go_enter func67,ntmps67
  go_wp2_with fail
  go_ret2
  exact⟨rfl,aH _ _⟩
theorem xk(s T:ByteArray)(w:World)(s0:0<s.size)(R4:s.size<=64)(he:s.toList.isEmpty=false)(hc:((s[0].toNat:Int)==45)=true)(hT:s.extract 1 s.size=T)(n1:(s.toList==[110,97,110])=false)(n2:(s.toList==[105,110,102])=false)(n3:(s.toList==[45,105,110,102])=false)(t64:T.size<=64)(hn:BA T) :
  Calls prog 67 #[.string s] w λe w'=>e=.returned (L6 (0,20))/\Below w.heap.size w w':=by
 rcases hn with h|⟨t2,h⟩|⟨t2,h,g⟩
 ·go_enter func67,ntmps67
  go_wp2_with fail
  go_ret2
  exact⟨rfl,aH _ _⟩
 ·have t2':¬ (T.size:Int)<2:=by omega
  go_enter func67,ntmps67
  go_wp2_with fail
  go_ret2
  exact⟨rfl,aH _ _⟩
 ·have t2':¬ (T.size:Int)<2:=by omega
  go_enter func67,ntmps67
  go_wp2_with fail
  go_ret2
  exact⟨rfl,aH _ _⟩
theorem uL(T:ByteArray)(h:BA T):bG T.data.toList=none:=by
 refine DZ T ?_
 rcases h with h|⟨t2,h⟩|⟨t2,h,g⟩
 ·exact Or.inl (by omega)
 ·refine Or.inr ⟨t2,Or.inl ?_⟩
  intro e;rw[e] at h;exact absurd h (by decide)
 ·refine Or.inr ⟨t2,Or.inr ?_⟩
  intro e;rw[e] at g;exact absurd g (by decide)
theorem Gg(c d:UInt8):((c.toNat:Int)!=(d.toNat:Int)) = !decide (c=d):=by rw[bne,iw]
theorem yw(T:ByteArray):BA T\/∃h:1<T.size,T[0]=48/\T[1]=120:=by
 by_cases h:1<T.size
 ·by_cases h0:T[0]=48
  ·by_cases h1:T[1]=120
   ·exact Or.inr ⟨h,h0,h1⟩
   ·refine Or.inl (Or.inr (Or.inr ⟨h,by rw[h0];rfl,?_⟩))
    rw[show (120:Int)=((120:UInt8).toNat:Int) from rfl,Gg,decide_eq_false h1];rfl
  ·refine Or.inl (Or.inr (Or.inl ⟨h,?_⟩))
   rw[show (48:Int)=((48:UInt8).toNat:Int) from rfl,Gg,decide_eq_false h0];rfl
 ·exact Or.inl (Or.inl (by omega))
theorem wQ(s:ByteArray)(l:List UInt8)(h:s.data.toList≠l):(s.toList==l)=false:=by
 rw[toList_eq,beq_eq_false_iff_ne];exact h
theorem vS(s:ByteArray)(l:List UInt8)(h:s.data.toList=l):s=⟨l.toArray⟩:=by
 cases s with|mk d=>cases d;simp_all
theorem ny(s:ByteArray)(hs:s.size<=maxLen)(w:World) :
  Calls prog 67 #[.string s] w λe w'=>e=.returned (L6 (iQ s.data.toList))/\Below w.heap.size w w':=by
 have sz:=size_list s
 have tl:=toList_eq s
 by_cases c64:s.size<=64
 ·by_cases h1:s.data.toList=uy
  ·have:=IE w
   rw[h1,vS s _ h1]
   exact this
  by_cases h2:s.data.toList=nI
  ·have:=IG w
   rw[h2,vS s _ h2]
   exact this
  by_cases h3:s.data.toList=45::nI
  ·have:=EK w
   rw[h3,vS s _ h3]
   exact this
  rw[yR _ (by omega) h1 h2 h3]
  have n1:=wQ s _ h1
  have n2:=wQ s _ h2
  have n3:=wQ s _ h3
  cases hl:s.data.toList with
  | nil=>
   rw[vS s _ hl]
   exact CO w
  | cons c r=>
   obtain⟨s0,h0⟩:=Ar s c r hl
   rw[hl] at tl
   have he:s.toList.isEmpty=false:=by rw[tl];rfl
   by_cases hc:c=45
   ·subst hc
    have hc':((s[0].toNat:Int)==45)=true:=by rw[h0];rfl
    have hx:s.extract 1 s.size=⟨r.toArray⟩:=by
     have:=zP s 1
     rw[hl] at this
     exact this
    have hr:(⟨r.toArray⟩:ByteArray).data.toList=r:=rfl
    have hrs:=size_list ⟨r.toArray⟩
    rw[hr] at hrs
    rw[hl] at sz
    simp only[List.length_cons] at sz
    show Calls _ _ _ _ λe w'=>e=.returned (L6 (cO 9223372036854775808 (bG r)))/\_
    generalize hT:(⟨r.toArray⟩:ByteArray)=T at *
    have hr2:T.data.toList=r:=by rw[<- hT]
    rw[<- hr2]
    have t64:T.size<=64:=by omega
    rcases yw T with hn|⟨t2,m0,m1⟩
    ·rw[uL T hn]
     exact xk s T w s0 c64 he hc' hx n1 n2 n3 t64 hn
    ·obtain⟨e1,ST⟩:=vC T 2 (by omega)
     by_cases hd:∃h:e1<T.size,T[e1]=46
     ·obtain⟨hel,pI⟩:=hd
      by_cases hne:e1=2
      ·exact mh s T w s0 c64 he hc' hx n1 n2 n3 t64 t2 m0 m1 e1 ST (λh=>absurd hne h)
      ·obtain⟨f1,SF⟩:=vC T (e1+1) (by omega)
       exact tQ s T w s0 c64 he hc' hx n1 n2 n3 t64 t2 m0 m1 e1 f1 hne hel pI ST SF
     ·exact mh s T w s0 c64 he hc' hx n1 n2 n3 t64 t2 m0 m1 e1 ST (λ_ h e=>hd ⟨h,e⟩)
   ·obtain⟨g1,g2⟩:=rO (c::r) (λd e=>hc (by injection e))
    rw[g1,g2]
    have hc':((s[0].toNat:Int)==45)=false:=by rw[h0,show (45:Int)=((45:UInt8).toNat:Int) from rfl,Av];exact decide_eq_false hc
    rw[<- hl]
    show Calls _ _ _ _ λe w'=>e=.returned (L6 (cO 0 (bG s.data.toList)))/\_
    rcases yw s with hn|⟨t2,m0,m1⟩
    ·rw[uL s hn]
     exact zq s w he s0 c64 hc' n1 n2 n3 hn
    ·obtain⟨e1,ST⟩:=vC s 2 (by omega)
     by_cases hd:∃h:e1<s.size,s[e1]=46
     ·obtain⟨hel,pI⟩:=hd
      by_cases hne:e1=2
      ·exact oC s w he s0 hc' n1 n2 n3 c64 t2 m0 m1 e1 ST (λh=>absurd hne h)
      ·obtain⟨f1,SF⟩:=vC s (e1+1) (by omega)
       exact uh s w he s0 hc' n1 n2 n3 c64 t2 m0 m1 e1 f1 hne hel pI ST SF
     ·exact oC s w he s0 hc' n1 n2 n3 c64 t2 m0 m1 e1 ST (λ_ h e=>hd ⟨h,e⟩)
 ·have E:iQ s.data.toList=(0,2):=by unfold iQ;rw[if_pos (by omega)]
  rw[E]
  exact EL s w hs (by omega)
end Go.Proofs.YtgchnkgolclmgaaGreatDoor.W
