import Derived.Test.YtgchnkgolclmgaaGreatDoorJD
open List renaming all_eq_false → aH, take_append_drop → aL, length_cons → aY
open Go.Proofs.Tryz
set_option maxRecDepth 1000000
set_option maxHeartbeats 8000000
namespace Go.Proofs.YtgchnkgolclmgaaGreatDoor.W
open Go.ChangeShapes Go.WideShapes Go.RowKit
def Dm(D:ByteArray)(k:Nat)(n:Int)(ov:Bool):Prop:=
 k<=D.size/\(D.data.toList.take k).all bI=true/\0<=n/\n<=9223372036854775808/\(ov=false->n=(au (D.data.toList.take k):Int))/\(ov=true->9223372036854775808<(au (D.data.toList.take k):Int))
theorem Dm.start(D:ByteArray):Dm D 0 0 false:=⟨Nat.zero_le _,rfl,by omega,by omega,λ_=>rfl,by intro h;cases h⟩
theorem Dm.over{D:ByteArray}{k:Nat}{n:Int}{ov:Bool}(h:Dm D k n ov)(hk:k<D.size)(hd:bI D[k]=true)(ho:ov=true\/(9223372036854775808-((D[k].toNat:Int)-48))/10<n):Dm D (k+1) n true:=by
 obtain⟨h1,h2,h3,h4,h5,h6⟩:=h
 have d:=of_decide_eq_true hd
 have st:=lD D k hk
 refine⟨hk,xV D k hk hd h2,h3,h4,(by intro h;cases h),λ_=>?_⟩
 cases ov with
 | true=>have:=h6 rfl;omega
 | false=>
  rcases ho with ho|ho
  ·cases ho
  ·have:=h5 rfl;omega
theorem Dm.next{D:ByteArray}{k:Nat}{n:Int}(h:Dm D k n false)(hk:k<D.size)(hd:bI D[k]=true)(ho:¬ (9223372036854775808-((D[k].toNat:Int)-48))/10<n):Dm D (k+1) (10*n+((D[k].toNat:Int)-48)) false:=by
 obtain⟨h1,h2,h3,h4,h5,h6⟩:=h
 have d:=of_decide_eq_true hd
 have st:=lD D k hk
 have:=h5 rfl
 exact⟨hk,xV D k hk hd h2,by omega,by omega,λ_=>by omega,by intro h;cases h⟩
def uz(m:Bool)(n:Int)(ov:Bool):Int × Int:=if ov=true\/m=false/\n=9223372036854775808 then (0,13) else (if m=true then -n else n,0)
theorem qG(m:Bool)(n:Int):uz m n true=(0,13):=by unfold uz;rw[if_pos (Or.inl rfl)]
theorem Dc(n:Int):uz true n false=(-n,0):=by unfold uz;simp
theorem xS:uz false 9223372036854775808 false=(0,13):=by unfold uz;simp
theorem xU(n:Int)(h:n≠9223372036854775808):uz false n false=(n,0):=by unfold uz;simp[h]
theorem Ba(m:Bool)(d:List UInt8)(h:wU m<(au d:Int)):mU m d=(0,13):=by unfold mU;rw[if_neg (by omega)]
theorem KG(d:List UInt8)(h:(au d:Int)<=9223372036854775808):mU true d=(-(au d:Int),0):=by unfold mU wU;simp[h]
theorem KF(d:List UInt8)(h:(au d:Int)<=9223372036854775807):mU false d=((au d:Int),0):=by unfold mU wU;simp[h]
theorem Dm.done{D:ByteArray}{k:Nat}{n:Int}{ov:Bool}(h:Dm D k n ov)(hk:¬k<D.size)(m:Bool)(hf:D.data.toList≠[])(hz:(D.data.toList.head? == some 48&&(decide (1<D.data.toList.length)||m))=false) :
  gN m D.data.toList=uz m n ov:=by
 obtain⟨h1,h2,h3,h4,h5,h6⟩:=h
 rw[kJ D k hk] at h2 h5 h6
 have fm:qN m D.data.toList=true:=by
  unfold qN
  rw[h2,hz]
  have:D.data.toList.isEmpty=false:=by simpa using hf
  rw[this];rfl
 rw[tV m _ fm]
 cases ov with
 | true=>
  have:=h6 rfl
  rw[qG,Ba _ _ (by unfold wU;split <;> omega)]
 | false=>
  have:=h5 rfl
  cases m with
  | true=>rw[Dc,KG _ (by omega),this]
  | false=>
   by_cases q:n=9223372036854775808
   ·rw[q,xS,Ba _ _ (by unfold wU;simp;omega)]
   ·rw[xU n q,KF _ (by omega),this]
theorem sM(m:Bool)(D:ByteArray)(h:D.data.toList=[]\/(D.data.toList.head? == some 48&&(decide (1<D.data.toList.length)||m))=true\/D.data.toList.all bI=false):gN m D.data.toList=(0,20):=by
 unfold gN
 rw[if_neg]
 unfold qN
 rcases h with h|h|h
 ·rw[h];simp
 ·rw[h];simp
 ·rw[h];simp
theorem zP(s:ByteArray)(k:Nat):s.extract k s.size=⟨(s.data.toList.drop k).toArray⟩:=by
 obtain⟨⟨l⟩⟩:=s
 rw[ByteArray.extract_mk]
 have e:(⟨⟨l⟩⟩:ByteArray).size=l.length:=rfl
 rw[e]
 simp
 rw[List.take_of_length_le (by rw[List.length_drop];omega)]
theorem SQ(c:UInt8):bI c=(!(decide ((c.toNat:Int)<48)||decide (57<(c.toNat:Int)))):=by
 unfold bI
 rw[Bool.eq_iff_iff]
 simp only[decide_eq_true_eq,Bool.not_eq_true',Bool.or_eq_false_iff,decide_eq_false_iff_not]
 omega
theorem rQ(s D:ByteArray)(w:World)(s0:0<s.size)(R4:s.size<=64)(he:s.toList.isEmpty=false)(hc:((s[0].toNat:Int)==45)=true)(hD:s.extract 1 s.size=D)(d0:0<D.size)(d64:D.size<=64)(hde:D.toList.isEmpty=false)
  (hw:((D[0].toNat:Int)==48)=false) (hz:(D.data.toList.head? == some 48&&(decide (1<D.data.toList.length)||true))=false) :
  Calls prog 70 #[.string s] w λe w'=>e=.returned (.tuple #[.int .i64 (gN true D.data.toList).1,.int .i64 (gN true D.data.toList).2])/\w'=w:=by
 have HZ:=hid hz
 have hne:D.data.toList≠[]:=by
  intro e
  have:=size_list D
  rw[e] at this
  simp at this
  omega
 have Jr:=hid hne
 clear hz hne
 go_enter func70,ntmps70
 go_wp2_with fail
 go_loop [6,7,8] (λnv ov i=>∃ (k:Nat) (n:Int) (b:Bool),i=.int .i64 k/\nv=.int .u64 n/\ov=.bool b/\Dm D k n b) (λ_ _ i=>D.size-(intOf i).toNat)
 case atStart=>exact⟨0,0,false,rfl,rfl,rfl,Dm.start D⟩
 case round=>
  obtain⟨k,n,b,rfl,rfl,rfl,hcn⟩:=hrel
  have HC:=hid hcn
  obtain⟨k1,-,n0,n1,-,-⟩:=hcn
  by_cases hlt:k<D.size
  ·cases hd:bI D[k] with
   | false=>
    have R:=hid (sM true D (Or.inr (Or.inr (by
     rw[aH]
     exact⟨D[k],by rw[<- aL (k+1) D.data.toList,iA D k hlt];simp,by rw[hd];decide⟩))))
    rw[SQ] at hd
    have hd2:decide ((D[k].toNat:Int)<48)=true\/decide ((D[k].toNat:Int)<48)=false/\decide (57<(D[k].toNat:Int))=true:=by
     cases h1:decide ((D[k].toNat:Int)<48) with
     | true=>exact Or.inl rfl
     | false=>exact Or.inr ⟨rfl,by rw[h1] at hd;simpa using hd⟩
    clear hd
    rcases hd2 with g1|⟨g1,g2⟩
    ·go_wp2_with fail
     go_ret2
     exact⟨aZ (by rw[R.out]) (by rw[R.out]),rfl⟩
    ·go_wp2_with fail
     go_ret2
     exact⟨aZ (by rw[R.out]) (by rw[R.out]),rfl⟩
   | true=>
    have HD:=hid hd
    have dd:=of_decide_eq_true hd
    have g1:decide ((D[k].toNat:Int)<48)=false:=decide_eq_false (by omega)
    have g2:decide (57<(D[k].toNat:Int))=false:=decide_eq_false (by omega)
    have e1:=Bj D[k] dd
    have d0':=dd.1
    have d1':=dd.2
    clear hd dd
    cases b with
    | true=>
     have R:=hid (HC.out.over hlt HD.out (Or.inl rfl))
     go_wp2_with fail
     go_round
     case rel=>exact⟨k+1,n,true,by go_num,rfl,rfl,R.out⟩
     case measure=>simp[intOf];omega
    | false=>
     by_cases ho:(9223372036854775808-((D[k].toNat:Int)-48))/10<n
     ·have R:=hid (HC.out.over hlt HD.out (Or.inr ho))
      go_wp2_with fail
      go_round
      case rel=>exact⟨k+1,n,true,by go_num,rfl,rfl,R.out⟩
      case measure=>simp[intOf];omega
     ·have R:=hid (HC.out.next hlt HD.out ho)
      go_wp2_with fail
      go_round
      case rel=>exact⟨k+1,_,false,by go_num,by go_num,rfl,R.out⟩
      case measure=>simp[intOf];omega
  ·have R:=hid (show gN true D.data.toList=uz true n b from HC.out.done hlt true Jr.out HZ.out)
   cases b with
   | true=>
    have E:=hid (show gN true D.data.toList=(0,13) by rw[R.out,qG])
    go_wp2_with fail
    go_ret2
    exact⟨aZ (by rw[E.out]) (by rw[E.out]),rfl⟩
   | false=>
    have E:=hid (show gN true D.data.toList=(-n,0) by rw[R.out,Dc])
    have n2:0<n:=by
     have h5:=HC.out.2.2.2.2.1 rfl
     rw[kJ D k hlt] at h5
     have hg:=(JW (m:=true) (d:=D.data.toList) (by
      unfold qN
      have h2:=HC.out.2.1
      rw[kJ D k hlt] at h2
      rw[h2,HZ.out]
      have:D.data.toList.isEmpty=false:=by simpa using Jr.out
      rw[this];rfl)).2 rfl
     omega
    have w1:wrap64 (n-1)=n-1:=by unfold wrap64;omega
    have w2:wrap64 (-(n-1)) = -(n-1):=by unfold wrap64;omega
    have w3:wrap64 (-(n-1)-1) = -n:=by unfold wrap64;omega
    go_wp2_with fail
    go_ret2
    exact⟨aZ (by rw[E.out];first|rfl|omega) (by rw[E.out]),rfl⟩
theorem mg(s D:ByteArray)(w:World)(s0:0<s.size)(R4:s.size<=64)(he:s.toList.isEmpty=false)(hc:((s[0].toNat:Int)==45)=false)(hD:s=D)(d0:0<D.size)(d64:D.size<=64)(hde:D.toList.isEmpty=false)
  (hw:((D[0].toNat:Int)==48)=false\/((D[0].toNat:Int)==48)=true/\¬1<(D.size:Int)) (hz:(D.data.toList.head? == some 48&&(decide (1<D.data.toList.length)||false))=false) :
  Calls prog 70 #[.string s] w λe w'=>e=.returned (.tuple #[.int .i64 (gN false D.data.toList).1,.int .i64 (gN false D.data.toList).2])/\w'=w:=by
 subst hD
 have HZ:=hid hz
 have hne:s.data.toList≠[]:=by
  intro e
  have:=size_list s
  rw[e] at this
  simp at this
  omega
 have Jr:=hid hne
 clear hz hne
 rcases hw with hw|⟨hw,hw2⟩
 ·go_enter func70,ntmps70
  go_wp2_with fail
  go_loop [6,7,8] (λnv ov i=>∃ (k:Nat) (n:Int) (b:Bool),i=.int .i64 k/\nv=.int .u64 n/\ov=.bool b/\Dm s k n b) (λ_ _ i=>s.size-(intOf i).toNat)
  case atStart=>exact⟨0,0,false,rfl,rfl,rfl,Dm.start s⟩
  case round=>
   obtain⟨k,n,b,rfl,rfl,rfl,hcn⟩:=hrel
   have HC:=hid hcn
   obtain⟨k1,-,n0,n1,-,-⟩:=hcn
   by_cases hlt:k<s.size
   ·cases hd:bI s[k] with
    | false=>
     have R:=hid (sM false s (Or.inr (Or.inr (by
      rw[aH]
      exact⟨s[k],by rw[<- aL (k+1) s.data.toList,iA s k hlt];simp,by rw[hd];decide⟩))))
     rw[SQ] at hd
     have hd2:decide ((s[k].toNat:Int)<48)=true\/decide ((s[k].toNat:Int)<48)=false/\decide (57<(s[k].toNat:Int))=true:=by
      cases h1:decide ((s[k].toNat:Int)<48) with
      | true=>exact Or.inl rfl
      | false=>exact Or.inr ⟨rfl,by rw[h1] at hd;simpa using hd⟩
     clear hd
     rcases hd2 with g1|⟨g1,g2⟩
     ·go_wp2_with fail
      go_ret2
      exact⟨aZ (by rw[R.out]) (by rw[R.out]),rfl⟩
     ·go_wp2_with fail
      go_ret2
      exact⟨aZ (by rw[R.out]) (by rw[R.out]),rfl⟩
    | true=>
     have HD:=hid hd
     have dd:=of_decide_eq_true hd
     have g1:decide ((s[k].toNat:Int)<48)=false:=decide_eq_false (by omega)
     have g2:decide (57<(s[k].toNat:Int))=false:=decide_eq_false (by omega)
     have e1:=Bj s[k] dd
     have d0':=dd.1
     have d1':=dd.2
     clear hd dd
     cases b with
     | true=>
      have R:=hid (HC.out.over hlt HD.out (Or.inl rfl))
      go_wp2_with fail
      go_round
      case rel=>exact⟨k+1,n,true,by go_num,rfl,rfl,R.out⟩
      case measure=>simp[intOf];omega
     | false=>
      by_cases ho:(9223372036854775808-((s[k].toNat:Int)-48))/10<n
      ·have R:=hid (HC.out.over hlt HD.out (Or.inr ho))
       go_wp2_with fail
       go_round
       case rel=>exact⟨k+1,n,true,by go_num,rfl,rfl,R.out⟩
       case measure=>simp[intOf];omega
      ·have R:=hid (HC.out.next hlt HD.out ho)
       go_wp2_with fail
       go_round
       case rel=>exact⟨k+1,_,false,by go_num,by go_num,rfl,R.out⟩
       case measure=>simp[intOf];omega
   ·have R:=hid (show gN false s.data.toList=uz false n b from HC.out.done hlt false Jr.out HZ.out)
    cases b with
    | true=>
     have E:=hid (show gN false s.data.toList=(0,13) by rw[R.out,qG])
     go_wp2_with fail
     go_ret2
     exact⟨aZ (by rw[E.out]) (by rw[E.out]),rfl⟩
    | false=>
     by_cases q:n=9223372036854775808
     ·have E:=hid (show gN false s.data.toList=(0,13) by rw[R.out,q,xS])
      have q':(n==9223372036854775808)=true:=by rw[q];rfl
      go_wp2_with fail
      go_ret2
      exact⟨aZ (by rw[E.out]) (by rw[E.out]),rfl⟩
     ·have E:=hid (show gN false s.data.toList=(n,0) by rw[R.out,xU n q])
      have q':(n==9223372036854775808)=false:=by rw[beq_eq_false_iff_ne];exact q
      have n9:n<9223372036854775808:=by omega
      go_wp2_with fail
      go_ret2
      exact⟨aZ (by rw[E.out]) (by rw[E.out]),rfl⟩
 ·go_enter func70,ntmps70
  go_wp2_with fail
  go_loop [6,7,8] (λnv ov i=>∃ (k:Nat) (n:Int) (b:Bool),i=.int .i64 k/\nv=.int .u64 n/\ov=.bool b/\Dm s k n b) (λ_ _ i=>s.size-(intOf i).toNat)
  case atStart=>exact⟨0,0,false,rfl,rfl,rfl,Dm.start s⟩
  case round=>
   obtain⟨k,n,b,rfl,rfl,rfl,hcn⟩:=hrel
   have HC:=hid hcn
   obtain⟨k1,-,n0,n1,-,-⟩:=hcn
   by_cases hlt:k<s.size
   ·cases hd:bI s[k] with
    | false=>
     have R:=hid (sM false s (Or.inr (Or.inr (by
      rw[aH]
      exact⟨s[k],by rw[<- aL (k+1) s.data.toList,iA s k hlt];simp,by rw[hd];decide⟩))))
     rw[SQ] at hd
     have hd2:decide ((s[k].toNat:Int)<48)=true\/decide ((s[k].toNat:Int)<48)=false/\decide (57<(s[k].toNat:Int))=true:=by
      cases h1:decide ((s[k].toNat:Int)<48) with
      | true=>exact Or.inl rfl
      | false=>exact Or.inr ⟨rfl,by rw[h1] at hd;simpa using hd⟩
     clear hd
     rcases hd2 with g1|⟨g1,g2⟩
     ·go_wp2_with fail
      go_ret2
      exact⟨aZ (by rw[R.out]) (by rw[R.out]),rfl⟩
     ·go_wp2_with fail
      go_ret2
      exact⟨aZ (by rw[R.out]) (by rw[R.out]),rfl⟩
    | true=>
     have HD:=hid hd
     have dd:=of_decide_eq_true hd
     have g1:decide ((s[k].toNat:Int)<48)=false:=decide_eq_false (by omega)
     have g2:decide (57<(s[k].toNat:Int))=false:=decide_eq_false (by omega)
     have e1:=Bj s[k] dd
     have d0':=dd.1
     have d1':=dd.2
     clear hd dd
     cases b with
     | true=>
      have R:=hid (HC.out.over hlt HD.out (Or.inl rfl))
      go_wp2_with fail
      go_round
      case rel=>exact⟨k+1,n,true,by go_num,rfl,rfl,R.out⟩
      case measure=>simp[intOf];omega
     | false=>
      by_cases ho:(9223372036854775808-((s[k].toNat:Int)-48))/10<n
      ·have R:=hid (HC.out.over hlt HD.out (Or.inr ho))
       go_wp2_with fail
       go_round
       case rel=>exact⟨k+1,n,true,by go_num,rfl,rfl,R.out⟩
       case measure=>simp[intOf];omega
      ·have R:=hid (HC.out.next hlt HD.out ho)
       go_wp2_with fail
       go_round
       case rel=>exact⟨k+1,_,false,by go_num,by go_num,rfl,R.out⟩
       case measure=>simp[intOf];omega
   ·have R:=hid (show gN false s.data.toList=uz false n b from HC.out.done hlt false Jr.out HZ.out)
    cases b with
    | true=>
     have E:=hid (show gN false s.data.toList=(0,13) by rw[R.out,qG])
     go_wp2_with fail
     go_ret2
     exact⟨aZ (by rw[E.out]) (by rw[E.out]),rfl⟩
    | false=>
     by_cases q:n=9223372036854775808
     ·have E:=hid (show gN false s.data.toList=(0,13) by rw[R.out,q,xS])
      have q':(n==9223372036854775808)=true:=by rw[q];rfl
      go_wp2_with fail
      go_ret2
      exact⟨aZ (by rw[E.out]) (by rw[E.out]),rfl⟩
     ·have E:=hid (show gN false s.data.toList=(n,0) by rw[R.out,xU n q])
      have q':(n==9223372036854775808)=false:=by rw[beq_eq_false_iff_ne];exact q
      have n9:n<9223372036854775808:=by omega
      go_wp2_with fail
      go_ret2
      exact⟨aZ (by rw[E.out]) (by rw[E.out]),rfl⟩
theorem tO(s:ByteArray)(w:World)(he:s.toList.isEmpty=true)(s0:s.size=0) :
  Calls prog 70 #[.string s] w λe w'=>e=.returned (.tuple #[.int .i64 0,.int .i64 20])/\w'=w:=by
 go_enter func70,ntmps70
 go_wp2_with fail
 go_ret2
 exact⟨rfl,rfl⟩
theorem wB(s D:ByteArray)(w:World)(s0:0<s.size)(R4:s.size<=64)(he:s.toList.isEmpty=false)(hc:((s[0].toNat:Int)==45)=true)(hD:s.extract 1 s.size=D)(hde:D.toList.isEmpty=true) :
  Calls prog 70 #[.string s] w λe w'=>e=.returned (.tuple #[.int .i64 0,.int .i64 20])/\w'=w:=by
 go_enter func70,ntmps70
 go_wp2_with fail
 go_ret2
 exact⟨rfl,rfl⟩
theorem ug(s D:ByteArray)(w:World)(s0:0<s.size)(R4:s.size<=64)(he:s.toList.isEmpty=false)(hc:((s[0].toNat:Int)==45)=true)(hD:s.extract 1 s.size=D)(hde:D.toList.isEmpty=false)(d0:0<D.size)(hw:((D[0].toNat:Int)==48)=true) :
  Calls prog 70 #[.string s] w λe w'=>e=.returned (.tuple #[.int .i64 0,.int .i64 20])/\w'=w:=by
 by_cases h1:1<(D.size:Int)
 ·go_enter func70,ntmps70
  go_wp2_with fail
  go_ret2
  exact⟨rfl,rfl⟩
 ·go_enter func70,ntmps70
  go_wp2_with fail
  go_ret2
  exact⟨rfl,rfl⟩
theorem uf(s:ByteArray)(w:World)(s0:0<s.size)(R4:s.size<=64)(he:s.toList.isEmpty=false)(hc:((s[0].toNat:Int)==45)=false)(hw:((s[0].toNat:Int)==48)=true)(h1:1<(s.size:Int)) :
  Calls prog 70 #[.string s] w λe w'=>e=.returned (.tuple #[.int .i64 0,.int .i64 20])/\w'=w:=by
 go_enter func70,ntmps70
 go_wp2_with fail
 go_ret2
 exact⟨rfl,rfl⟩
theorem Av(c d:UInt8):((c.toNat:Int)==(d.toNat:Int))=decide (c=d):=by
 rw[Bool.eq_iff_iff,beq_iff_eq,decide_eq_true_eq]
 constructor
 ·intro e
  exact UInt8.toNat_inj.1 (by omega)
 ·intro e;subst e;rfl
theorem Ar(s:ByteArray)(c:UInt8)(r:List UInt8)(h:s.data.toList=c::r):∃h0:0<s.size,s[0]=c:=by
 obtain⟨⟨l⟩⟩:=s
 have hl:l=c::r:=h
 subst hl
 exact⟨Nat.succ_pos r.length,rfl⟩
theorem xg(s:ByteArray)(hs:s.size<=maxLen)(w:World) :
  Calls prog 70 #[.string s] w λe w'=>e=.returned (.tuple #[.int .i64 (kW s.data.toList).1,.int .i64 (kW s.data.toList).2])/\w'=w:=by
 have sz:=size_list s
 have tl:=toList_eq s
 unfold maxLen at hs
 by_cases c64:s.size<=64
 ·rw[wE _ (by omega)]
  cases hl:s.data.toList with
  | nil=>
   have e:gN (jc []) (fK [])=(0,20):=rfl
   rw[e]
   rw[hl] at sz tl
   exact tO s w (by rw[tl];rfl) sz.symm
  | cons c r=>
   obtain⟨s0,h0⟩:=Ar s c r hl
   rw[hl] at sz tl
   simp only[aY] at sz
   have he:s.toList.isEmpty=false:=by rw[tl];rfl
   by_cases hc:c=45
   ·subst hc
    have hc':((s[0].toNat:Int)==45)=true:=by rw[h0];rfl
    have hx:s.extract 1 s.size=⟨r.toArray⟩:=by
     have:=zP s 1
     rw[hl] at this
     exact this
    show Calls _ _ _ _ λe w'=>e=.returned (.tuple #[.int .i64 (gN true r).1,.int .i64 (gN true r).2])/\w'=w
    have hr:(⟨r.toArray⟩:ByteArray).data.toList=r:=rfl
    have hrt:=toList_eq ⟨r.toArray⟩
    rw[hr] at hrt
    have hrs:=size_list ⟨r.toArray⟩
    rw[hr] at hrs
    cases r with
    | nil=>
     have e:gN true []=(0,20):=rfl
     rw[e]
     exact wB s _ w s0 c64 he hc' hx (by rw[hrt];rfl)
    | cons d r=>
     obtain⟨d0,hd⟩:=Ar ⟨(d::r).toArray⟩ d r rfl
     by_cases hz:d=48
     ·subst hz
      have e:=sM true ⟨(48::r).toArray⟩ (Or.inr (Or.inl (by rw[hr];simp)))
      rw[hr] at e
      rw[e]
      exact ug s _ w s0 c64 he hc' hx (by rw[hrt];rfl) d0 (by rw[hd];rfl)
     ·have:=rQ s ⟨(d::r).toArray⟩ w s0 c64 he hc' hx d0 (by rw[<- hrs];omega) (by rw[hrt];rfl) (by rw[hd,show (48:Int)=((48:UInt8).toNat:Int) from rfl,Av];exact decide_eq_false hz) (by rw[hr];simp[hz])
      rw[hr] at this
      exact this
   ·obtain⟨e1,e2⟩:=rO (c::r) (λd e=>hc (by injection e))
    rw[e1,e2]
    have hc':((s[0].toNat:Int)==45)=false:=by rw[h0,show (45:Int)=((45:UInt8).toNat:Int) from rfl,Av];exact decide_eq_false hc
    by_cases hz:c=48
    ·subst hz
     have hw:((s[0].toNat:Int)==48)=true:=by rw[h0];rfl
     by_cases h1:1<(s.size:Int)
     ·have e:=sM false s (Or.inr (Or.inl (by rw[hl,decide_eq_true (show 1<(48::r).length by simp only[aY];omega)];rfl)))
      rw[hl] at e
      rw[e]
      exact uf s w s0 c64 he hc' hw h1
     ·have:=mg s s w s0 c64 he hc' rfl s0 c64 he (Or.inr ⟨hw,h1⟩) (by rw[hl,decide_eq_false (show ¬1<(48::r).length by simp only[aY];omega)];rfl)
      rw[hl] at this
      exact this
    ·have:=mg s s w s0 c64 he hc' rfl s0 c64 he (Or.inl (by rw[h0,show (48:Int)=((48:UInt8).toNat:Int) from rfl,Av];exact decide_eq_false hz)) (by rw[hl];simp[hz])
     rw[hl] at this
     exact this
 ·have E:kW s.data.toList=(0,2):=by unfold kW;rw[if_pos (by omega)]
  have H:=hid E
  clear E
  go_enter func70,ntmps70
  go_wp2_with fail
  go_ret2
  exact⟨aZ (by rw[H.out]) (by rw[H.out]),rfl⟩
end Go.Proofs.YtgchnkgolclmgaaGreatDoor.W
