import Derived.Test.YtknkedihmmbanaaDoorJD
open List renaming all_eq_false → z0z, take_append_drop → z1z, length_cons → z2z
open Go.Proofs.Tryd
set_option maxRecDepth 1000000
set_option maxHeartbeats 8000000
namespace Go.Proofs.YtknkedihmmbanaaDoor.W
open Go.ChangeShapes Go.WideShapes Go.RowKit
def Cnt(D:ByteArray)(k:Nat)(n:Int)(ov:Bool):Prop:=
 k<=D.size/\(D.data.toList.take k).all digB=true/\0<=n/\n<=9223372036854775808/\(ov=false->n=(valD (D.data.toList.take k):Int))/\(ov=true->9223372036854775808<(valD (D.data.toList.take k):Int))
theorem Cnt.start(D:ByteArray):Cnt D 0 0 false:=⟨Nat.zero_le _,rfl,by omega,by omega,λ_=>rfl,by intro h;cases h⟩
theorem Cnt.over{D:ByteArray}{k:Nat}{n:Int}{ov:Bool}(h:Cnt D k n ov)(hk:k<D.size)(hd:digB D[k]=true)(ho:ov=true\/(9223372036854775808-((D[k].toNat:Int)-48))/10<n):Cnt D (k+1) n true:=by
 obtain⟨h1,h2,h3,h4,h5,h6⟩:=h
 have d:=of_decide_eq_true hd
 have st:=valD_step D k hk
 refine⟨hk,all_step D k hk hd h2,h3,h4,(by intro h;cases h),λ_=>?_⟩
 cases ov with
 | true=>have:=h6 rfl;omega
 | false=>
  rcases ho with ho|ho
  ·cases ho
  ·have:=h5 rfl;omega
theorem Cnt.next{D:ByteArray}{k:Nat}{n:Int}(h:Cnt D k n false)(hk:k<D.size)(hd:digB D[k]=true)(ho:¬ (9223372036854775808-((D[k].toNat:Int)-48))/10<n):Cnt D (k+1) (10*n+((D[k].toNat:Int)-48)) false:=by
 obtain⟨h1,h2,h3,h4,h5,h6⟩:=h
 have d:=of_decide_eq_true hd
 have st:=valD_step D k hk
 have:=h5 rfl
 exact⟨hk,all_step D k hk hd h2,by omega,by omega,λ_=>by omega,by intro h;cases h⟩
def ansI(m:Bool)(n:Int)(ov:Bool):Int × Int:=if ov=true\/m=false/\n=9223372036854775808 then (0,13) else (if m=true then -n else n,0)
theorem ansI_over(m:Bool)(n:Int):ansI m n true=(0,13):=by unfold ansI;rw[if_pos (Or.inl rfl)]
theorem ansI_neg(n:Int):ansI true n false=(-n,0):=by unfold ansI;simp
theorem ansI_top:ansI false 9223372036854775808 false=(0,13):=by unfold ansI;simp
theorem ansI_pos(n:Int)(h:n≠9223372036854775808):ansI false n false=(n,0):=by unfold ansI;simp[h]
theorem valI_out(m:Bool)(d:List UInt8)(h:limI m<(valD d:Int)):valI m d=(0,13):=by unfold valI;rw[if_neg (by omega)]
theorem valI_neg(d:List UInt8)(h:(valD d:Int)<=9223372036854775808):valI true d=(-(valD d:Int),0):=by unfold valI limI;simp[h]
theorem valI_pos(d:List UInt8)(h:(valD d:Int)<=9223372036854775807):valI false d=((valD d:Int),0):=by unfold valI limI;simp[h]
theorem Cnt.done{D:ByteArray}{k:Nat}{n:Int}{ov:Bool}(h:Cnt D k n ov)(hk:¬k<D.size)(m:Bool)(hf:D.data.toList≠[])(hz:(D.data.toList.head? == some 48&&(decide (1<D.data.toList.length)||m))=false) :
  readD m D.data.toList=ansI m n ov:=by
 obtain⟨h1,h2,h3,h4,h5,h6⟩:=h
 rw[take_all D k hk] at h2 h5 h6
 have fm:formI m D.data.toList=true:=by
  unfold formI
  rw[h2,hz]
  have:D.data.toList.isEmpty=false:=by simpa using hf
  rw[this];rfl
 rw[readD_val m _ fm]
 cases ov with
 | true=>
  have:=h6 rfl
  rw[ansI_over,valI_out _ _ (by unfold limI;split <;> omega)]
 | false=>
  have:=h5 rfl
  cases m with
  | true=>rw[ansI_neg,valI_neg _ (by omega),this]
  | false=>
   by_cases q:n=9223372036854775808
   ·rw[q,ansI_top,valI_out _ _ (by unfold limI;simp;omega)]
   ·rw[ansI_pos n q,valI_pos _ (by omega),this]
theorem form_no(m:Bool)(D:ByteArray)(h:D.data.toList=[]\/(D.data.toList.head? == some 48&&(decide (1<D.data.toList.length)||m))=true\/D.data.toList.all digB=false):readD m D.data.toList=(0,20):=by
 unfold readD
 rw[if_neg]
 unfold formI
 rcases h with h|h|h
 ·rw[h];simp
 ·rw[h];simp
 ·rw[h];simp
theorem cut_from0(s:ByteArray)(k:Nat):s.extract k s.size=⟨(s.data.toList.drop k).toArray⟩:=by
 obtain⟨⟨l⟩⟩:=s
 rw[ByteArray.extract_mk]
 have e:(⟨⟨l⟩⟩:ByteArray).size=l.length:=rfl
 rw[e]
 simp
 rw[List.take_of_length_le (by rw[List.length_drop];omega)]
theorem lt48(c:UInt8):digB c=(!(decide ((c.toNat:Int)<48)||decide (57<(c.toNat:Int)))):=by
 unfold digB
 rw[Bool.eq_iff_iff]
 simp only[decide_eq_true_eq,Bool.not_eq_true',Bool.or_eq_false_iff,decide_eq_false_iff_not]
 omega
theorem refParseInt_minus(s D:ByteArray)(w:World)(s0:0<s.size)(s64:s.size<=64)(he:s.toList.isEmpty=false)(hc:((s[0].toNat:Int)==45)=true)(hD:s.extract 1 s.size=D)(d0:0<D.size)(d64:D.size<=64)(hde:D.toList.isEmpty=false)
  (hw:((D[0].toNat:Int)==48)=false) (hz:(D.data.toList.head? == some 48&&(decide (1<D.data.toList.length)||true))=false) :
  Calls prog 50 #[.string s] w λe w'=>e=.returned (.tuple #[.int .i64 (readD true D.data.toList).1,.int .i64 (readD true D.data.toList).2])/\w'=w:=by
 have HZ:=hid hz
 have hne:D.data.toList≠[]:=by
  intro e
  have:=size_list D
  rw[e] at this
  simp at this
  omega
 have HNE:=hid hne
 clear hz hne
 go_enter func50,ntmps50
 go_wp2_with fail
 go_loop [6,7,8] (λnv ov i=>∃ (k:Nat) (n:Int) (b:Bool),i=.int .i64 k/\nv=.int .u64 n/\ov=.bool b/\Cnt D k n b) (λ_ _ i=>D.size-(intOf i).toNat)
 case atStart=>exact⟨0,0,false,rfl,rfl,rfl,Cnt.start D⟩
 case round=>
  obtain⟨k,n,b,rfl,rfl,rfl,hcn⟩:=hrel
  have HC:=hid hcn
  obtain⟨k1,-,n0,n1,-,-⟩:=hcn
  by_cases hlt:k<D.size
  ·cases hd:digB D[k] with
   | false=>
    have R:=hid (form_no true D (Or.inr (Or.inr (by
     rw[z0z]
     exact⟨D[k],by rw[<- z1z (k+1) D.data.toList,take_snoc D k hlt];simp,by rw[hd];decide⟩))))
    rw[lt48] at hd
    have hd2:decide ((D[k].toNat:Int)<48)=true\/decide ((D[k].toNat:Int)<48)=false/\decide (57<(D[k].toNat:Int))=true:=by
     cases h1:decide ((D[k].toNat:Int)<48) with
     | true=>exact Or.inl rfl
     | false=>exact Or.inr ⟨rfl,by rw[h1] at hd;simpa using hd⟩
    clear hd
    rcases hd2 with g1|⟨g1,g2⟩
    ·go_wp2_with fail
     go_ret2
     exact⟨ret_ii (by rw[R.out]) (by rw[R.out]),rfl⟩
    ·go_wp2_with fail
     go_ret2
     exact⟨ret_ii (by rw[R.out]) (by rw[R.out]),rfl⟩
   | true=>
    have HD:=hid hd
    have dd:=of_decide_eq_true hd
    have g1:decide ((D[k].toNat:Int)<48)=false:=decide_eq_false (by omega)
    have g2:decide (57<(D[k].toNat:Int))=false:=decide_eq_false (by omega)
    have e1:=sub48 D[k] dd
    have d0':=dd.1
    have d1':=dd.2
    clear hd dd
    cases b with
    | true=>
     have R:=hid (HC.out.over hlt HD.out (Or.inl rfl))
     go_wp2_with fail
     go_round
     case rel=>exact⟨k+1,n,true,by go_num,rfl,rfl,R.out⟩
     case measure=>simp[intOf];omega
    | false=>
     by_cases ho:(9223372036854775808-((D[k].toNat:Int)-48))/10<n
     ·have R:=hid (HC.out.over hlt HD.out (Or.inr ho))
      go_wp2_with fail
      go_round
      case rel=>exact⟨k+1,n,true,by go_num,rfl,rfl,R.out⟩
      case measure=>simp[intOf];omega
     ·have R:=hid (HC.out.next hlt HD.out ho)
      go_wp2_with fail
      go_round
      case rel=>exact⟨k+1,_,false,by go_num,by go_num,rfl,R.out⟩
      case measure=>simp[intOf];omega
  ·have R:=hid (show readD true D.data.toList=ansI true n b from HC.out.done hlt true HNE.out HZ.out)
   cases b with
   | true=>
    have E:=hid (show readD true D.data.toList=(0,13) by rw[R.out,ansI_over])
    go_wp2_with fail
    go_ret2
    exact⟨ret_ii (by rw[E.out]) (by rw[E.out]),rfl⟩
   | false=>
    have E:=hid (show readD true D.data.toList=(-n,0) by rw[R.out,ansI_neg])
    have n2:0<n:=by
     have h5:=HC.out.2.2.2.2.1 rfl
     rw[take_all D k hlt] at h5
     have hg:=(form_good (m:=true) (d:=D.data.toList) (by
      unfold formI
      have h2:=HC.out.2.1
      rw[take_all D k hlt] at h2
      rw[h2,HZ.out]
      have:D.data.toList.isEmpty=false:=by simpa using HNE.out
      rw[this];rfl)).2 rfl
     omega
    have w1:wrap64 (n-1)=n-1:=by unfold wrap64;omega
    have w2:wrap64 (-(n-1)) = -(n-1):=by unfold wrap64;omega
    have w3:wrap64 (-(n-1)-1) = -n:=by unfold wrap64;omega
    go_wp2_with fail
    go_ret2
    exact⟨ret_ii (by rw[E.out];first|rfl|omega) (by rw[E.out]),rfl⟩
theorem refParseInt_plus(s D:ByteArray)(w:World)(s0:0<s.size)(s64:s.size<=64)(he:s.toList.isEmpty=false)(hc:((s[0].toNat:Int)==45)=false)(hD:s=D)(d0:0<D.size)(d64:D.size<=64)(hde:D.toList.isEmpty=false)
  (hw:((D[0].toNat:Int)==48)=false\/((D[0].toNat:Int)==48)=true/\¬1<(D.size:Int)) (hz:(D.data.toList.head? == some 48&&(decide (1<D.data.toList.length)||false))=false) :
  Calls prog 50 #[.string s] w λe w'=>e=.returned (.tuple #[.int .i64 (readD false D.data.toList).1,.int .i64 (readD false D.data.toList).2])/\w'=w:=by
 subst hD
 have HZ:=hid hz
 have hne:s.data.toList≠[]:=by
  intro e
  have:=size_list s
  rw[e] at this
  simp at this
  omega
 have HNE:=hid hne
 clear hz hne
 rcases hw with hw|⟨hw,hw2⟩
 ·go_enter func50,ntmps50
  go_wp2_with fail
  go_loop [6,7,8] (λnv ov i=>∃ (k:Nat) (n:Int) (b:Bool),i=.int .i64 k/\nv=.int .u64 n/\ov=.bool b/\Cnt s k n b) (λ_ _ i=>s.size-(intOf i).toNat)
  case atStart=>exact⟨0,0,false,rfl,rfl,rfl,Cnt.start s⟩
  case round=>
   obtain⟨k,n,b,rfl,rfl,rfl,hcn⟩:=hrel
   have HC:=hid hcn
   obtain⟨k1,-,n0,n1,-,-⟩:=hcn
   by_cases hlt:k<s.size
   ·cases hd:digB s[k] with
    | false=>
     have R:=hid (form_no false s (Or.inr (Or.inr (by
      rw[z0z]
      exact⟨s[k],by rw[<- z1z (k+1) s.data.toList,take_snoc s k hlt];simp,by rw[hd];decide⟩))))
     rw[lt48] at hd
     have hd2:decide ((s[k].toNat:Int)<48)=true\/decide ((s[k].toNat:Int)<48)=false/\decide (57<(s[k].toNat:Int))=true:=by
      cases h1:decide ((s[k].toNat:Int)<48) with
      | true=>exact Or.inl rfl
      | false=>exact Or.inr ⟨rfl,by rw[h1] at hd;simpa using hd⟩
     clear hd
     rcases hd2 with g1|⟨g1,g2⟩
     ·go_wp2_with fail
      go_ret2
      exact⟨ret_ii (by rw[R.out]) (by rw[R.out]),rfl⟩
     ·go_wp2_with fail
      go_ret2
      exact⟨ret_ii (by rw[R.out]) (by rw[R.out]),rfl⟩
    | true=>
     have HD:=hid hd
     have dd:=of_decide_eq_true hd
     have g1:decide ((s[k].toNat:Int)<48)=false:=decide_eq_false (by omega)
     have g2:decide (57<(s[k].toNat:Int))=false:=decide_eq_false (by omega)
     have e1:=sub48 s[k] dd
     have d0':=dd.1
     have d1':=dd.2
     clear hd dd
     cases b with
     | true=>
      have R:=hid (HC.out.over hlt HD.out (Or.inl rfl))
      go_wp2_with fail
      go_round
      case rel=>exact⟨k+1,n,true,by go_num,rfl,rfl,R.out⟩
      case measure=>simp[intOf];omega
     | false=>
      by_cases ho:(9223372036854775808-((s[k].toNat:Int)-48))/10<n
      ·have R:=hid (HC.out.over hlt HD.out (Or.inr ho))
       go_wp2_with fail
       go_round
       case rel=>exact⟨k+1,n,true,by go_num,rfl,rfl,R.out⟩
       case measure=>simp[intOf];omega
      ·have R:=hid (HC.out.next hlt HD.out ho)
       go_wp2_with fail
       go_round
       case rel=>exact⟨k+1,_,false,by go_num,by go_num,rfl,R.out⟩
       case measure=>simp[intOf];omega
   ·have R:=hid (show readD false s.data.toList=ansI false n b from HC.out.done hlt false HNE.out HZ.out)
    cases b with
    | true=>
     have E:=hid (show readD false s.data.toList=(0,13) by rw[R.out,ansI_over])
     go_wp2_with fail
     go_ret2
     exact⟨ret_ii (by rw[E.out]) (by rw[E.out]),rfl⟩
    | false=>
     by_cases q:n=9223372036854775808
     ·have E:=hid (show readD false s.data.toList=(0,13) by rw[R.out,q,ansI_top])
      have q':(n==9223372036854775808)=true:=by rw[q];rfl
      go_wp2_with fail
      go_ret2
      exact⟨ret_ii (by rw[E.out]) (by rw[E.out]),rfl⟩
     ·have E:=hid (show readD false s.data.toList=(n,0) by rw[R.out,ansI_pos n q])
      have q':(n==9223372036854775808)=false:=by rw[beq_eq_false_iff_ne];exact q
      have n9:n<9223372036854775808:=by omega
      go_wp2_with fail
      go_ret2
      exact⟨ret_ii (by rw[E.out]) (by rw[E.out]),rfl⟩
 ·go_enter func50,ntmps50
  go_wp2_with fail
  go_loop [6,7,8] (λnv ov i=>∃ (k:Nat) (n:Int) (b:Bool),i=.int .i64 k/\nv=.int .u64 n/\ov=.bool b/\Cnt s k n b) (λ_ _ i=>s.size-(intOf i).toNat)
  case atStart=>exact⟨0,0,false,rfl,rfl,rfl,Cnt.start s⟩
  case round=>
   obtain⟨k,n,b,rfl,rfl,rfl,hcn⟩:=hrel
   have HC:=hid hcn
   obtain⟨k1,-,n0,n1,-,-⟩:=hcn
   by_cases hlt:k<s.size
   ·cases hd:digB s[k] with
    | false=>
     have R:=hid (form_no false s (Or.inr (Or.inr (by
      rw[z0z]
      exact⟨s[k],by rw[<- z1z (k+1) s.data.toList,take_snoc s k hlt];simp,by rw[hd];decide⟩))))
     rw[lt48] at hd
     have hd2:decide ((s[k].toNat:Int)<48)=true\/decide ((s[k].toNat:Int)<48)=false/\decide (57<(s[k].toNat:Int))=true:=by
      cases h1:decide ((s[k].toNat:Int)<48) with
      | true=>exact Or.inl rfl
      | false=>exact Or.inr ⟨rfl,by rw[h1] at hd;simpa using hd⟩
     clear hd
     rcases hd2 with g1|⟨g1,g2⟩
     ·go_wp2_with fail
      go_ret2
      exact⟨ret_ii (by rw[R.out]) (by rw[R.out]),rfl⟩
     ·go_wp2_with fail
      go_ret2
      exact⟨ret_ii (by rw[R.out]) (by rw[R.out]),rfl⟩
    | true=>
     have HD:=hid hd
     have dd:=of_decide_eq_true hd
     have g1:decide ((s[k].toNat:Int)<48)=false:=decide_eq_false (by omega)
     have g2:decide (57<(s[k].toNat:Int))=false:=decide_eq_false (by omega)
     have e1:=sub48 s[k] dd
     have d0':=dd.1
     have d1':=dd.2
     clear hd dd
     cases b with
     | true=>
      have R:=hid (HC.out.over hlt HD.out (Or.inl rfl))
      go_wp2_with fail
      go_round
      case rel=>exact⟨k+1,n,true,by go_num,rfl,rfl,R.out⟩
      case measure=>simp[intOf];omega
     | false=>
      by_cases ho:(9223372036854775808-((s[k].toNat:Int)-48))/10<n
      ·have R:=hid (HC.out.over hlt HD.out (Or.inr ho))
       go_wp2_with fail
       go_round
       case rel=>exact⟨k+1,n,true,by go_num,rfl,rfl,R.out⟩
       case measure=>simp[intOf];omega
      ·have R:=hid (HC.out.next hlt HD.out ho)
       go_wp2_with fail
       go_round
       case rel=>exact⟨k+1,_,false,by go_num,by go_num,rfl,R.out⟩
       case measure=>simp[intOf];omega
   ·have R:=hid (show readD false s.data.toList=ansI false n b from HC.out.done hlt false HNE.out HZ.out)
    cases b with
    | true=>
     have E:=hid (show readD false s.data.toList=(0,13) by rw[R.out,ansI_over])
     go_wp2_with fail
     go_ret2
     exact⟨ret_ii (by rw[E.out]) (by rw[E.out]),rfl⟩
    | false=>
     by_cases q:n=9223372036854775808
     ·have E:=hid (show readD false s.data.toList=(0,13) by rw[R.out,q,ansI_top])
      have q':(n==9223372036854775808)=true:=by rw[q];rfl
      go_wp2_with fail
      go_ret2
      exact⟨ret_ii (by rw[E.out]) (by rw[E.out]),rfl⟩
     ·have E:=hid (show readD false s.data.toList=(n,0) by rw[R.out,ansI_pos n q])
      have q':(n==9223372036854775808)=false:=by rw[beq_eq_false_iff_ne];exact q
      have n9:n<9223372036854775808:=by omega
      go_wp2_with fail
      go_ret2
      exact⟨ret_ii (by rw[E.out]) (by rw[E.out]),rfl⟩
theorem refParseInt_none(s:ByteArray)(w:World)(he:s.toList.isEmpty=true)(s0:s.size=0) :
  Calls prog 50 #[.string s] w λe w'=>e=.returned (.tuple #[.int .i64 0,.int .i64 20])/\w'=w:=by
 go_enter func50,ntmps50
 go_wp2_with fail
 go_ret2
 exact⟨rfl,rfl⟩
theorem refParseInt_m0(s D:ByteArray)(w:World)(s0:0<s.size)(s64:s.size<=64)(he:s.toList.isEmpty=false)(hc:((s[0].toNat:Int)==45)=true)(hD:s.extract 1 s.size=D)(hde:D.toList.isEmpty=true) :
  Calls prog 50 #[.string s] w λe w'=>e=.returned (.tuple #[.int .i64 0,.int .i64 20])/\w'=w:=by
 go_enter func50,ntmps50
 go_wp2_with fail
 go_ret2
 exact⟨rfl,rfl⟩
theorem refParseInt_m48(s D:ByteArray)(w:World)(s0:0<s.size)(s64:s.size<=64)(he:s.toList.isEmpty=false)(hc:((s[0].toNat:Int)==45)=true)(hD:s.extract 1 s.size=D)(hde:D.toList.isEmpty=false)(d0:0<D.size)(hw:((D[0].toNat:Int)==48)=true) :
  Calls prog 50 #[.string s] w λe w'=>e=.returned (.tuple #[.int .i64 0,.int .i64 20])/\w'=w:=by
 by_cases h1:1<(D.size:Int)
 ·go_enter func50,ntmps50
  go_wp2_with fail
  go_ret2
  exact⟨rfl,rfl⟩
 ·go_enter func50,ntmps50
  go_wp2_with fail
  go_ret2
  exact⟨rfl,rfl⟩
theorem refParseInt_p48(s:ByteArray)(w:World)(s0:0<s.size)(s64:s.size<=64)(he:s.toList.isEmpty=false)(hc:((s[0].toNat:Int)==45)=false)(hw:((s[0].toNat:Int)==48)=true)(h1:1<(s.size:Int)) :
  Calls prog 50 #[.string s] w λe w'=>e=.returned (.tuple #[.int .i64 0,.int .i64 20])/\w'=w:=by
 go_enter func50,ntmps50
 go_wp2_with fail
 go_ret2
 exact⟨rfl,rfl⟩
theorem chr_is(c d:UInt8):((c.toNat:Int)==(d.toNat:Int))=decide (c=d):=by
 rw[Bool.eq_iff_iff,beq_iff_eq,decide_eq_true_eq]
 constructor
 ·intro e
  exact UInt8.toNat_inj.1 (by omega)
 ·intro e;subst e;rfl
theorem cons_at(s:ByteArray)(c:UInt8)(r:List UInt8)(h:s.data.toList=c::r):∃h0:0<s.size,s[0]=c:=by
 obtain⟨⟨l⟩⟩:=s
 have hl:l=c::r:=h
 subst hl
 exact⟨Nat.succ_pos r.length,rfl⟩
theorem refParseInt_c(s:ByteArray)(hs:s.size<=maxLen)(w:World) :
  Calls prog 50 #[.string s] w λe w'=>e=.returned (.tuple #[.int .i64 (readI s.data.toList).1,.int .i64 (readI s.data.toList).2])/\w'=w:=by
 have sz:=size_list s
 have tl:=toList_eq s
 unfold maxLen at hs
 by_cases c64:s.size<=64
 ·rw[readI_rest _ (by omega)]
  cases hl:s.data.toList with
  | nil=>
   have e:readD (minus1 []) (rest1 [])=(0,20):=rfl
   rw[e]
   rw[hl] at sz tl
   exact refParseInt_none s w (by rw[tl];rfl) sz.symm
  | cons c r=>
   obtain⟨s0,h0⟩:=cons_at s c r hl
   rw[hl] at sz tl
   simp only[z2z] at sz
   have he:s.toList.isEmpty=false:=by rw[tl];rfl
   by_cases hc:c=45
   ·subst hc
    have hc':((s[0].toNat:Int)==45)=true:=by rw[h0];rfl
    have hx:s.extract 1 s.size=⟨r.toArray⟩:=by
     have:=cut_from0 s 1
     rw[hl] at this
     exact this
    show Calls _ _ _ _ λe w'=>e=.returned (.tuple #[.int .i64 (readD true r).1,.int .i64 (readD true r).2])/\w'=w
    have hr:(⟨r.toArray⟩:ByteArray).data.toList=r:=rfl
    have hrt:=toList_eq ⟨r.toArray⟩
    rw[hr] at hrt
    have hrs:=size_list ⟨r.toArray⟩
    rw[hr] at hrs
    cases r with
    | nil=>
     have e:readD true []=(0,20):=rfl
     rw[e]
     exact refParseInt_m0 s _ w s0 c64 he hc' hx (by rw[hrt];rfl)
    | cons d r=>
     obtain⟨d0,hd⟩:=cons_at ⟨(d::r).toArray⟩ d r rfl
     by_cases hz:d=48
     ·subst hz
      have e:=form_no true ⟨(48::r).toArray⟩ (Or.inr (Or.inl (by rw[hr];simp)))
      rw[hr] at e
      rw[e]
      exact refParseInt_m48 s _ w s0 c64 he hc' hx (by rw[hrt];rfl) d0 (by rw[hd];rfl)
     ·have:=refParseInt_minus s ⟨(d::r).toArray⟩ w s0 c64 he hc' hx d0 (by rw[<- hrs];omega) (by rw[hrt];rfl) (by rw[hd,show (48:Int)=((48:UInt8).toNat:Int) from rfl,chr_is];exact decide_eq_false hz) (by rw[hr];simp[hz])
      rw[hr] at this
      exact this
   ·obtain⟨e1,e2⟩:=rest_not (c::r) (λd e=>hc (by injection e))
    rw[e1,e2]
    have hc':((s[0].toNat:Int)==45)=false:=by rw[h0,show (45:Int)=((45:UInt8).toNat:Int) from rfl,chr_is];exact decide_eq_false hc
    by_cases hz:c=48
    ·subst hz
     have hw:((s[0].toNat:Int)==48)=true:=by rw[h0];rfl
     by_cases h1:1<(s.size:Int)
     ·have e:=form_no false s (Or.inr (Or.inl (by rw[hl,decide_eq_true (show 1<(48::r).length by simp only[z2z];omega)];rfl)))
      rw[hl] at e
      rw[e]
      exact refParseInt_p48 s w s0 c64 he hc' hw h1
     ·have:=refParseInt_plus s s w s0 c64 he hc' rfl s0 c64 he (Or.inr ⟨hw,h1⟩) (by rw[hl,decide_eq_false (show ¬1<(48::r).length by simp only[z2z];omega)];rfl)
      rw[hl] at this
      exact this
    ·have:=refParseInt_plus s s w s0 c64 he hc' rfl s0 c64 he (Or.inl (by rw[h0,show (48:Int)=((48:UInt8).toNat:Int) from rfl,chr_is];exact decide_eq_false hz)) (by rw[hl];simp[hz])
     rw[hl] at this
     exact this
 ·have E:readI s.data.toList=(0,2):=by unfold readI;rw[if_pos (by omega)]
  have H:=hid E
  clear E
  go_enter func50,ntmps50
  go_wp2_with fail
  go_ret2
  exact⟨ret_ii (by rw[H.out]) (by rw[H.out]),rfl⟩
end Go.Proofs.YtknkedihmmbanaaDoor.W
