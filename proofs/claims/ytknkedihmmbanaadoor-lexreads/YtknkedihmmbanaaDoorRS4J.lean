import Derived.Test.YtknkedihmmbanaaDoorRR4pnJ
import Derived.Test.YtknkedihmmbanaaDoorRR4mnJ
import Derived.Test.YtknkedihmmbanaaDoorRR4pdJ
import Derived.Test.YtknkedihmmbanaaDoorRR4mdJ
import Derived.Test.YtknkedihmmbanaaDoorRI4J
open Go.RowKit.Below renaming refl → z0z
open Go.Proofs.Tryd
set_option maxRecDepth 1000000
set_option maxHeartbeats 8000000
namespace Go.Proofs.YtknkedihmmbanaaDoor.W
open Go.ChangeShapes Go.WideShapes Go.RowKit
set_option linter.unusedVariables false
def pfV(p:Int × Int):Value:=.tuple #[.int .u64 p.1,.int .i64 p.2]
theorem refPF_long(s:ByteArray)(w:World)(hs:s.size<=maxLen)(h:64<(s.size:Int)) :
  Calls prog 47 #[.string s] w λe w'=>e=.returned (pfV (0,2))/\Below w.heap.size w w':=by
 unfold maxLen at hs
 go_enter func47,ntmps47
 go_wp2_with fail
 go_ret2
 exact⟨rfl,z0z _ _⟩
theorem refPF_nan(w:World) :
  Calls prog 47 #[.string ⟨#[110,97,110]⟩] w λe w'=>e=.returned (pfV (9221120237041090560,0))/\Below w.heap.size w w':=by
 go_enter func47,ntmps47
 go_wp2_with fail
 go_ret2
 exact⟨rfl,z0z _ _⟩
theorem refPF_inf(w:World) :
  Calls prog 47 #[.string ⟨#[105,110,102]⟩] w λe w'=>e=.returned (pfV (9218868437227405312,0))/\Below w.heap.size w w':=by
 go_enter func47,ntmps47
 go_wp2_with fail
 go_ret2
 exact⟨rfl,z0z _ _⟩
theorem refPF_minf(w:World) :
  Calls prog 47 #[.string ⟨#[45,105,110,102]⟩] w λe w'=>e=.returned (pfV (18442240474082181120,0))/\Below w.heap.size w w':=by
 go_enter func47,ntmps47
 go_wp2_with fail
 go_ret2
 exact⟨rfl,z0z _ _⟩
theorem refPF_empty(w:World) :
  Calls prog 47 #[.string ⟨#[]⟩] w λe w'=>e=.returned (pfV (0,20))/\Below w.heap.size w w':=by
 go_enter func47,ntmps47
 go_wp2_with fail
 go_ret2
 exact⟨rfl,z0z _ _⟩
def NoMark(T:ByteArray):Prop:=(T.size:Int)<2\/(∃h:1<T.size,((T[0].toNat:Int)!=48)=true)\/(∃h:1<T.size,((T[0].toNat:Int)!=48)=false/\((T[1].toNat:Int)!=120)=true)
theorem refPF_plusNo(T:ByteArray)(w:World)(he:T.toList.isEmpty=false)(t0:0<T.size)(t64:T.size<=64)(hc:((T[0].toNat:Int)==45)=false)(n1:(T.toList==[110,97,110])=false)(n2:(T.toList==[105,110,102])=false)(n3:(T.toList==[45,105,110,102])=false)(hn:NoMark T) :
  Calls prog 47 #[.string T] w λe w'=>e=.returned (pfV (0,20))/\Below w.heap.size w w':=by
 rcases hn with h|⟨t2,h⟩|⟨t2,h,g⟩
 ·go_enter func47,ntmps47
  go_wp2_with fail
  go_ret2
  exact⟨rfl,z0z _ _⟩
 ·have t2':¬ (T.size:Int)<2:=by omega
  go_enter func47,ntmps47
  go_wp2_with fail
  go_ret2
  exact⟨rfl,z0z _ _⟩
 ·have t2':¬ (T.size:Int)<2:=by omega
  go_enter func47,ntmps47
  go_wp2_with fail
  go_ret2
  exact⟨rfl,z0z _ _⟩
theorem refPF_minusNo(s T:ByteArray)(w:World)(s0:0<s.size)(s64:s.size<=64)(he:s.toList.isEmpty=false)(hc:((s[0].toNat:Int)==45)=true)(hT:s.extract 1 s.size=T)(n1:(s.toList==[110,97,110])=false)(n2:(s.toList==[105,110,102])=false)(n3:(s.toList==[45,105,110,102])=false)(t64:T.size<=64)(hn:NoMark T) :
  Calls prog 47 #[.string s] w λe w'=>e=.returned (pfV (0,20))/\Below w.heap.size w w':=by
 rcases hn with h|⟨t2,h⟩|⟨t2,h,g⟩
 ·go_enter func47,ntmps47
  go_wp2_with fail
  go_ret2
  exact⟨rfl,z0z _ _⟩
 ·have t2':¬ (T.size:Int)<2:=by omega
  go_enter func47,ntmps47
  go_wp2_with fail
  go_ret2
  exact⟨rfl,z0z _ _⟩
 ·have t2':¬ (T.size:Int)<2:=by omega
  go_enter func47,ntmps47
  go_wp2_with fail
  go_ret2
  exact⟨rfl,z0z _ _⟩
theorem noMark_body(T:ByteArray)(h:NoMark T):bodyR T.data.toList=none:=by
 refine body_noMark T ?_
 rcases h with h|⟨t2,h⟩|⟨t2,h,g⟩
 ·exact Or.inl (by omega)
 ·refine Or.inr ⟨t2,Or.inl ?_⟩
  intro e;rw[e] at h;exact absurd h (by decide)
 ·refine Or.inr ⟨t2,Or.inr ?_⟩
  intro e;rw[e] at g;exact absurd g (by decide)
theorem bne_chr(c d:UInt8):((c.toNat:Int)!=(d.toNat:Int)) = !decide (c=d):=by rw[bne,chr_eq]
theorem mark_ways(T:ByteArray):NoMark T\/∃h:1<T.size,T[0]=48/\T[1]=120:=by
 by_cases h:1<T.size
 ·by_cases h0:T[0]=48
  ·by_cases h1:T[1]=120
   ·exact Or.inr ⟨h,h0,h1⟩
   ·refine Or.inl (Or.inr (Or.inr ⟨h,by rw[h0];rfl,?_⟩))
    rw[show (120:Int)=((120:UInt8).toNat:Int) from rfl,bne_chr,decide_eq_false h1];rfl
  ·refine Or.inl (Or.inr (Or.inl ⟨h,?_⟩))
   rw[show (48:Int)=((48:UInt8).toNat:Int) from rfl,bne_chr,decide_eq_false h0];rfl
 ·exact Or.inl (Or.inl (by omega))
theorem names_of(s:ByteArray)(l:List UInt8)(h:s.data.toList≠l):(s.toList==l)=false:=by
 rw[toList_eq,beq_eq_false_iff_ne];exact h
theorem ba_list(s:ByteArray)(l:List UInt8)(h:s.data.toList=l):s=⟨l.toArray⟩:=by
 cases s with|mk d=>cases d;simp_all
theorem refParseFloat_c(s:ByteArray)(hs:s.size<=maxLen)(w:World) :
  Calls prog 47 #[.string s] w λe w'=>e=.returned (pfV (readF s.data.toList))/\Below w.heap.size w w':=by
 have sz:=size_list s
 have tl:=toList_eq s
 by_cases c64:s.size<=64
 ·by_cases h1:s.data.toList=nanT
  ·have:=refPF_nan w
   rw[h1,ba_list s _ h1]
   exact this
  by_cases h2:s.data.toList=infT
  ·have:=refPF_inf w
   rw[h2,ba_list s _ h2]
   exact this
  by_cases h3:s.data.toList=45::infT
  ·have:=refPF_minf w
   rw[h3,ba_list s _ h3]
   exact this
  rw[readF_ans _ (by omega) h1 h2 h3]
  have n1:=names_of s _ h1
  have n2:=names_of s _ h2
  have n3:=names_of s _ h3
  cases hl:s.data.toList with
  | nil=>
   rw[ba_list s _ hl]
   exact refPF_empty w
  | cons c r=>
   obtain⟨s0,h0⟩:=cons_at s c r hl
   rw[hl] at tl
   have he:s.toList.isEmpty=false:=by rw[tl];rfl
   by_cases hc:c=45
   ·subst hc
    have hc':((s[0].toNat:Int)==45)=true:=by rw[h0];rfl
    have hx:s.extract 1 s.size=⟨r.toArray⟩:=by
     have:=cut_from0 s 1
     rw[hl] at this
     exact this
    have hr:(⟨r.toArray⟩:ByteArray).data.toList=r:=rfl
    have hrs:=size_list ⟨r.toArray⟩
    rw[hr] at hrs
    rw[hl] at sz
    simp only[List.length_cons] at sz
    show Calls _ _ _ _ λe w'=>e=.returned (pfV (ansF 9223372036854775808 (bodyR r)))/\_
    generalize hT:(⟨r.toArray⟩:ByteArray)=T at *
    have hr2:T.data.toList=r:=by rw[<- hT]
    rw[<- hr2]
    have t64:T.size<=64:=by omega
    rcases mark_ways T with hn|⟨t2,m0,m1⟩
    ·rw[noMark_body T hn]
     exact refPF_minusNo s T w s0 c64 he hc' hx n1 n2 n3 t64 hn
    ·obtain⟨e1,ST⟩:=stop_at T 2 (by omega)
     by_cases hd:∃h:e1<T.size,T[e1]=46
     ·obtain⟨hel,hdot⟩:=hd
      by_cases hne:e1=2
      ·exact refPF_minusPlain s T w s0 c64 he hc' hx n1 n2 n3 t64 t2 m0 m1 e1 ST (λh=>absurd hne h)
      ·obtain⟨f1,SF⟩:=stop_at T (e1+1) (by omega)
       exact refPF_minusPoint s T w s0 c64 he hc' hx n1 n2 n3 t64 t2 m0 m1 e1 f1 hne hel hdot ST SF
     ·exact refPF_minusPlain s T w s0 c64 he hc' hx n1 n2 n3 t64 t2 m0 m1 e1 ST (λ_ h e=>hd ⟨h,e⟩)
   ·obtain⟨g1,g2⟩:=rest_not (c::r) (λd e=>hc (by injection e))
    rw[g1,g2]
    have hc':((s[0].toNat:Int)==45)=false:=by rw[h0,show (45:Int)=((45:UInt8).toNat:Int) from rfl,chr_is];exact decide_eq_false hc
    rw[<- hl]
    show Calls _ _ _ _ λe w'=>e=.returned (pfV (ansF 0 (bodyR s.data.toList)))/\_
    rcases mark_ways s with hn|⟨t2,m0,m1⟩
    ·rw[noMark_body s hn]
     exact refPF_plusNo s w he s0 c64 hc' n1 n2 n3 hn
    ·obtain⟨e1,ST⟩:=stop_at s 2 (by omega)
     by_cases hd:∃h:e1<s.size,s[e1]=46
     ·obtain⟨hel,hdot⟩:=hd
      by_cases hne:e1=2
      ·exact refPF_plusPlain s w he s0 hc' n1 n2 n3 c64 t2 m0 m1 e1 ST (λh=>absurd hne h)
      ·obtain⟨f1,SF⟩:=stop_at s (e1+1) (by omega)
       exact refPF_plusPoint s w he s0 hc' n1 n2 n3 c64 t2 m0 m1 e1 f1 hne hel hdot ST SF
     ·exact refPF_plusPlain s w he s0 hc' n1 n2 n3 c64 t2 m0 m1 e1 ST (λ_ h e=>hd ⟨h,e⟩)
 ·have E:readF s.data.toList=(0,2):=by unfold readF;rw[if_pos (by omega)]
  rw[E]
  exact refPF_long s w hs (by omega)
end Go.Proofs.YtknkedihmmbanaaDoor.W
