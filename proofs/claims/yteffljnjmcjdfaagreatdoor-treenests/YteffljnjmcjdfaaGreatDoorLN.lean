import Derived.Test.YteffljnjmcjdfaaGreatDoorTnAJ
import Derived.Test.YteffljnjmcjdfaaGreatDoorKF
import Derived.Test.YteffljnjmcjdfaaGreatDoorJE
import Derived.Test.YteffljnjmcjdfaaGreatDoorTnB0J
import Derived.Test.YteffljnjmcjdfaaGreatDoorTnB1J
import Derived.Test.YteffljnjmcjdfaaGreatDoorTnB2J
import Derived.Test.YteffljnjmcjdfaaGreatDoorTnB3J
import Derived.Test.YteffljnjmcjdfaaGreatDoorKG
open Array renaming toList_append → z3z
open Bool renaming and_eq_true → z2z
open Go.IntKind renaming i64 → z0z, wrap_i64 → z1z
open Go.Proofs.Tryz
set_option maxRecDepth 1000000
set_option maxHeartbeats 8000000
namespace Go.Proofs.YteffljnjmcjdfaaGreatDoor.W.Tr
open Go.ChangeShapes Go.WideShapes Go.RowKit Go.Shelf
set_option linter.unusedVariables false
set_option linter.unusedSimpArgs false
theorem repB_succ(k:Nat)(l:List UInt8):repB (k+1) l=repB k l++l:=by
 unfold repB
 rw[List.replicate_succ',List.flatten_append]
 simp
theorem repB_len(k:Nat)(l:List UInt8):(repB k l).length=k*l.length:=by simp[repB]
theorem text_c(s:ByteArray)(hs:s.size<=1000)(m:Nat)(hm:m<=1000)(w:World):Calls prog 10 #[.string s,.int .i64 (m:Nat)] w λe w'=>e=.returned (.string ⟨(repB m s.data.toList).toArray⟩)/\Below w.heap.size w w':=by
 obtain⟨i0,hi,hz0,hz1,hz2⟩:=info_parts infoU8
 have hsl:s.data.toList.length=s.size:=by simp
 go_enter func10,ntmps10
 go_upto_region 3 with fail
 have hB0:Below w.heap.size w (w.alloc (.cells #[] 5)):=(Below.refl _ w).alloc (Nat.le_refl _) _
 have ho0:(w.alloc (.cells #[] 5)).ownsRow w.heap.size 5 1 (.slice (some ⟨w.heap.size,0,none⟩) 0 0) 0 []:=⟨rfl,.inr ⟨w.heap.size,0,_,rfl,Nat.le_refl _,World.alloc_heap_new w _,Nat.le_refl _,by unfold maxLen;omega,rfl,rfl⟩⟩
 generalize w.alloc _=W0 at *
 go_loopw [5,6] (λbv iv wr=>∃k:Nat,k<=m/\iv=.int .i64 (k:Nat)/\(∃o cap,bv=.slice o (repB k s.data.toList).length cap)/\wr.ownsRow w.heap.size 5 1 bv (repB k s.data.toList).length (bytesV (repB k s.data.toList))/\Below w.heap.size w wr) (λ_ iv _=>m-(intOf iv).toNat)
 case atStart=>exact⟨0,Nat.zero_le _,rfl,⟨_,_,rfl⟩,ho0,hB0⟩
 case round=>
  obtain⟨k,hk,rfl,⟨o,cap,rfl⟩,ho,hB⟩:=hrel
  clear ho0 hB0
  have hkl:=repB_len k s.data.toList
  by_cases hlt:k<m
  ·have j1:(k:Int)<m:=by omega
   have j2:z0z.wrap ((k:Int)+1)=((k+1:Nat):Int):=by rw[z1z];omega
   have hbig:(repB k s.data.toList).length+s.size<=2000000:=by
    rw[hkl,hsl]
    have:k*s.size<=1000*1000:=Nat.mul_le_mul (by omega) hs
    omega
   obtain⟨v',w',hrun,h2,h3,_⟩:=Lib.run_append_own_string (P:=prog) wr w.heap.size 54 9 54 5 i0 underlying54 underlying9 hi hz0 hz1 hz2 _ _ _ ho s (by unfold maxLen;omega) (by omega) hB.size
   have hb':Below w.heap.size w w':=hB.trans (((It.Upd.refl (λk=>w.heap.size<=k) wr).grown h3 (λk e=>.inl (ho.lt k e).1)).below hB.size (λk e=>e))
   have ho':w'.ownsRow w.heap.size 5 1 v' (repB (k+1) s.data.toList).length (bytesV (repB (k+1) s.data.toList)):=by
    rw[repB_succ,List.length_append,hsl]
    have e2:bytesV (repB k s.data.toList++s.data.toList)=bytesV (repB k s.data.toList)++Lib.strCells s:=by simp[bytesV,Lib.strCells]
    rw[e2]
    exact h2
   have HB:=hid hb'
   have HO:=hid ho'
   obtain⟨o',c',hv'⟩:=slice_ofX ho'
   subst hv'
   clear hb' ho' h2 h3 ho hB
   go_wp2_with (at_builtin;refine Lib.wpList_append_run _ rfl (.tmp 13) (.tmp 14) 54 9 rfl _ _ (by simp[Act.eval]) (by simp[Act.eval]) _ _ hrun ?_)
   go_roundw
   case rel=>exact⟨k+1,by omega,rfl,⟨_,_,rfl⟩,HO.out,HB.out⟩
   case measure=>show m-((k+1:Nat):Int).toNat<m-(k:Int).toNat;omega
  ·have j1:¬ (k:Int)<m:=by omega
   have e:k=m:=by omega
   subst e
   have hc:=conv_own _ ho
   have HB:=hid hB
   clear ho hB hkl hsl
   go_wp2
   go_ret
   exact⟨rfl,HB.out⟩
theorem nest_good(o s:List UInt8)(m:Nat)(h:nestB o s m=true)(hm:m<=63)(src:ByteArray)(hsrc:src.data.toList=nestS o s m)(hsz:src.size<=1000000)(w:World)(ht:Tabs w)(hk:MarksIn w):Calls prog 7 #[.string src] w λe w'=>∃g n cap,5<n/\e=.returned (.tuple #[.slice (some ⟨g,0,none⟩) n cap,.agg #[.int .i64 0,.int .i64 0]])/\Below w.heap.size w w':=by
 unfold nestB nestG at h
 split at h
 ·rename_i f s' e
  simp only[z2z,Nat.ble_eq] at h
  refine(parse_good src hsz w ht hk (fo:=f) (s':=s') ⟨2000,by rw[hsrc];exact e⟩).mono ?_
  rintro e w' ⟨r,rfl,hB,ho⟩
  rcases ho.2 with⟨_,h0⟩|⟨g,cap,cur,rfl,_⟩
  ·omega
  ·exact⟨g,_,cap,by omega,rfl,hB⟩
 ·simp only[z2z,Nat.ble_eq] at h
  omega
 ·cases h
theorem nest_bad(o s:List UInt8)(m:Nat)(h:nestB o s m=true)(hm:¬m<=63)(src:ByteArray)(hsrc:src.data.toList=nestS o s m)(hsz:src.size<=1000000)(w:World)(ht:Tabs w)(hk:MarksIn w):Calls prog 7 #[.string src] w λe w'=>e=.returned (.tuple #[.slice none 0 0,.agg #[.int .i64 71,.int .i64 ((17+63*o.length+o.length-1:Nat):Int)]])/\Below w.heap.size w w':=by
 unfold nestB nestG at h
 split at h
 ·simp only[z2z,Nat.ble_eq] at h
  omega
 ·rename_i f e
  simp only[z2z,beq_iff_eq] at h
  obtain⟨⟨_,h1⟩,h2⟩:=h
  have:=parse_bad src hsz w ht hk (f:=f) ⟨2000,by rw[hsrc];exact e⟩
  unfold fv at this
  rw[h1,h2] at this
  exact this
 ·cases h
theorem txt_len(m:Nat)(hm:m<=100)(o:List UInt8)(ho:o.length<=2)(x:ByteArray)(hx:x.data.toList=repB m o):x.size<=1000:=by
 have h1:x.size=x.data.toList.length:=by simp
 rw[h1,hx,repB_len]
 have:m*o.length<=100*2:=Nat.mul_le_mul hm ho
 omega
theorem text_x(o:ByteArray)(ho:o.size<=1000)(m:Nat)(hm:m<=1000):∃x:ByteArray,x.data.toList=repB m o.data.toList/\∀w,Calls prog 10 #[.string o,.int .i64 (m:Nat)] w λe w'=>e=.returned (.string x)/\Below w.heap.size w w':=
 ⟨_,rfl,λw=>text_c o ho m hm w⟩
theorem nests_0(m:Nat)(hm:m<=100)(a1:Int)(k1:(bits .and .i64 a1 3==1)=false)(k2:(bits .and .i64 a1 3==2)=false)(k3:(bits .and .i64 a1 3==3)=false)(w:World)(ht:Tabs w)(hmk:MarksIn w):Calls prog 4 #[.int .i64 (m:Nat),.int .i64 a1] w λe w'=>e=.returned (.bool true)/\Below w.heap.size w w':=by
 have hN:=nest0 m hm
 obtain⟨x,hx,cx⟩:=text_x ⟨#[40]⟩ (by decide) m (by omega)
 obtain⟨y,hy,cy⟩:=text_x ⟨#[41]⟩ (by decide) m (by omega)
 have hxl:=txt_len m hm [40] (by decide) x hx
 have hyl:=txt_len m hm [41] (by decide) y hy
 have hsrc:(⟨#[102,110,32,102,40,97,41,32,123,32,114,101,116,117,114,110,32]⟩++x++⟨#[97]⟩++y++⟨#[59,32,125]⟩).data.toList=nestS [40] [41] m:=by
  simp only[ByteArray.data_append,z3z,hx,hy]
  rfl
 have hsz:(⟨#[102,110,32,102,40,97,41,32,123,32,114,101,116,117,114,110,32]⟩++x++⟨#[97]⟩++y++⟨#[59,32,125]⟩).size<=1000000:=by
  simp only[ByteArray.size_append]
  have e1:(⟨#[102,110,32,102,40,97,41,32,123,32,114,101,116,117,114,110,32]⟩:ByteArray).size=17:=rfl
  have e2:(⟨#[97]⟩:ByteArray).size=1:=rfl
  have e3:(⟨#[59,32,125]⟩:ByteArray).size=3:=rfl
  omega
 have HT:=hid ht
 have HM:=hid hmk
 clear ht hmk
 have j1:¬ ((m:Nat):Int)<0:=by omega
 have j2:¬ ((m:Nat):Int)>100:=by omega
 have j3:z0z.wrap ((m:Int)+1)=(m:Int)+1:=by rw[z1z];omega
 have z1:¬9223372036854775807<17+x.size:=by omega
 have z2:¬9223372036854775807<17+x.size+1:=by omega
 have z3:¬9223372036854775807<17+x.size+1+y.size:=by omega
 have z4:¬9223372036854775807<17+x.size+1+y.size+3:=by omega
 by_cases h63:m<=63
 ·have cp:=nest_good [40] [41] m hN h63 _ hsrc hsz
  have j4:(m:Int)+1<=64:=by omega
  clear hsrc hsz hN hx hy hxl hyl
  go_enter func4,ntmps4
  go_wp2_with (first|(go_at_call 10;first|((with_reducible refine(cx _).mono ?_);rintro e w2 ⟨rfl,hB2⟩;(have HB2:=hid hB2);clear hB2 cx)|((with_reducible refine(cy _).mono ?_);rintro e w3 ⟨rfl,hB3⟩;(have HB3:=hid (HB2.out.trans (hB3.mono HB2.out.size)));clear hB3 cy))|(go_at_call 7;(with_reducible refine(cp _ (HT.out.below HB3.out) (HM.out.below HB3.out)).mono ?_);rintro e w4 ⟨g,n,cap,hn5,rfl,hB4⟩;(have hn6:((n:Nat):Int)>5:=by omega);(have h4:=HB3.out.trans (hB4.mono HB3.out.size));(have HB5:=hid (h4.alloc h4.size (.cells #[.int .i64 0,.int .i64 0] 26)));clear hB4 h4 cp)|(go_at_call 8;(with_reducible refine(awake12_c _ (HT.out.below HB5.out) (HM.out.below HB5.out)).mono ?_);rintro e w6 ⟨rfl,hB6⟩;(have HB6:=hid (HB5.out.trans (hB6.mono HB5.out.size)));clear hB6))
  go_ret
  exact⟨rfl,HB6.out⟩
 ·have cp:∀w,Tabs w->MarksIn w->Calls prog 7 #[.string (⟨#[102,110,32,102,40,97,41,32,123,32,114,101,116,117,114,110,32]⟩++x++⟨#[97]⟩++y++⟨#[59,32,125]⟩)] w λe w'=>e=.returned (.tuple #[.slice none 0 0,.agg #[.int .i64 71,.int .i64 80]])/\Below w.heap.size w w':=nest_bad [40] [41] m hN h63 _ hsrc hsz
  have j4:¬ (m:Int)+1<=64:=by omega
  clear hsrc hsz hN hx hy hxl hyl
  go_enter func4,ntmps4
  go_wp2_with (first|(go_at_call 10;first|((with_reducible refine(cx _).mono ?_);rintro e w2 ⟨rfl,hB2⟩;(have HB2:=hid hB2);clear hB2 cx)|((with_reducible refine(cy _).mono ?_);rintro e w3 ⟨rfl,hB3⟩;(have HB3:=hid (HB2.out.trans (hB3.mono HB2.out.size)));clear hB3 cy))|(go_at_call 7;(with_reducible refine(cp _ (HT.out.below HB3.out) (HM.out.below HB3.out)).mono ?_);rintro e w4 ⟨rfl,hB4⟩;(have h4:=HB3.out.trans (hB4.mono HB3.out.size));(have HB5:=hid (h4.alloc h4.size (.cells #[.int .i64 71,.int .i64 80] 26)));clear hB4 h4 cp)|(go_at_call 8;(with_reducible refine(awake12_c _ (HT.out.below HB5.out) (HM.out.below HB5.out)).mono ?_);rintro e w6 ⟨rfl,hB6⟩;(have HB6:=hid (HB5.out.trans (hB6.mono HB5.out.size)));clear hB6))
  go_ret
  exact⟨rfl,HB6.out⟩
theorem nests_1(m:Nat)(hm:m<=100)(a1:Int)(hk:bits .and .i64 a1 3=1)(w:World)(ht:Tabs w)(hmk:MarksIn w):Calls prog 4 #[.int .i64 (m:Nat),.int .i64 a1] w λe w'=>e=.returned (.bool true)/\Below w.heap.size w w':=by
 have hN:=nest1 m hm
 obtain⟨x,hx,cx⟩:=text_x ⟨#[97,91]⟩ (by decide) m (by omega)
 obtain⟨y,hy,cy⟩:=text_x ⟨#[93]⟩ (by decide) m (by omega)
 have hxl:=txt_len m hm [97,91] (by decide) x hx
 have hyl:=txt_len m hm [93] (by decide) y hy
 have hsrc:(⟨#[102,110,32,102,40,97,41,32,123,32,114,101,116,117,114,110,32]⟩++x++⟨#[97]⟩++y++⟨#[59,32,125]⟩).data.toList=nestS [97,91] [93] m:=by
  simp only[ByteArray.data_append,z3z,hx,hy]
  rfl
 have hsz:(⟨#[102,110,32,102,40,97,41,32,123,32,114,101,116,117,114,110,32]⟩++x++⟨#[97]⟩++y++⟨#[59,32,125]⟩).size<=1000000:=by
  simp only[ByteArray.size_append]
  have e1:(⟨#[102,110,32,102,40,97,41,32,123,32,114,101,116,117,114,110,32]⟩:ByteArray).size=17:=rfl
  have e2:(⟨#[97]⟩:ByteArray).size=1:=rfl
  have e3:(⟨#[59,32,125]⟩:ByteArray).size=3:=rfl
  omega
 have HT:=hid ht
 have HM:=hid hmk
 clear ht hmk
 have j1:¬ ((m:Nat):Int)<0:=by omega
 have j2:¬ ((m:Nat):Int)>100:=by omega
 have j3:z0z.wrap ((m:Int)+1)=(m:Int)+1:=by rw[z1z];omega
 have z1:¬9223372036854775807<17+x.size:=by omega
 have z2:¬9223372036854775807<17+x.size+1:=by omega
 have z3:¬9223372036854775807<17+x.size+1+y.size:=by omega
 have z4:¬9223372036854775807<17+x.size+1+y.size+3:=by omega
 by_cases h63:m<=63
 ·have cp:=nest_good [97,91] [93] m hN h63 _ hsrc hsz
  have j4:(m:Int)+1<=64:=by omega
  clear hsrc hsz hN hx hy hxl hyl
  go_enter func4,ntmps4
  go_wp2_with (first|(go_at_call 10;first|((with_reducible refine(cx _).mono ?_);rintro e w2 ⟨rfl,hB2⟩;(have HB2:=hid hB2);clear hB2 cx)|((with_reducible refine(cy _).mono ?_);rintro e w3 ⟨rfl,hB3⟩;(have HB3:=hid (HB2.out.trans (hB3.mono HB2.out.size)));clear hB3 cy))|(go_at_call 7;(with_reducible refine(cp _ (HT.out.below HB3.out) (HM.out.below HB3.out)).mono ?_);rintro e w4 ⟨g,n,cap,hn5,rfl,hB4⟩;(have hn6:((n:Nat):Int)>5:=by omega);(have h4:=HB3.out.trans (hB4.mono HB3.out.size));(have HB5:=hid (h4.alloc h4.size (.cells #[.int .i64 0,.int .i64 0] 26)));clear hB4 h4 cp)|(go_at_call 8;(with_reducible refine(awake12_c _ (HT.out.below HB5.out) (HM.out.below HB5.out)).mono ?_);rintro e w6 ⟨rfl,hB6⟩;(have HB6:=hid (HB5.out.trans (hB6.mono HB5.out.size)));clear hB6))
  go_ret
  exact⟨rfl,HB6.out⟩
 ·have cp:∀w,Tabs w->MarksIn w->Calls prog 7 #[.string (⟨#[102,110,32,102,40,97,41,32,123,32,114,101,116,117,114,110,32]⟩++x++⟨#[97]⟩++y++⟨#[59,32,125]⟩)] w λe w'=>e=.returned (.tuple #[.slice none 0 0,.agg #[.int .i64 71,.int .i64 144]])/\Below w.heap.size w w':=nest_bad [97,91] [93] m hN h63 _ hsrc hsz
  have j4:¬ (m:Int)+1<=64:=by omega
  clear hsrc hsz hN hx hy hxl hyl
  go_enter func4,ntmps4
  go_wp2_with (first|(go_at_call 10;first|((with_reducible refine(cx _).mono ?_);rintro e w2 ⟨rfl,hB2⟩;(have HB2:=hid hB2);clear hB2 cx)|((with_reducible refine(cy _).mono ?_);rintro e w3 ⟨rfl,hB3⟩;(have HB3:=hid (HB2.out.trans (hB3.mono HB2.out.size)));clear hB3 cy))|(go_at_call 7;(with_reducible refine(cp _ (HT.out.below HB3.out) (HM.out.below HB3.out)).mono ?_);rintro e w4 ⟨rfl,hB4⟩;(have h4:=HB3.out.trans (hB4.mono HB3.out.size));(have HB5:=hid (h4.alloc h4.size (.cells #[.int .i64 71,.int .i64 144] 26)));clear hB4 h4 cp)|(go_at_call 8;(with_reducible refine(awake12_c _ (HT.out.below HB5.out) (HM.out.below HB5.out)).mono ?_);rintro e w6 ⟨rfl,hB6⟩;(have HB6:=hid (HB5.out.trans (hB6.mono HB5.out.size)));clear hB6))
  go_ret
  exact⟨rfl,HB6.out⟩
theorem nests_2(m:Nat)(hm:m<=100)(a1:Int)(hk:bits .and .i64 a1 3=2)(w:World)(ht:Tabs w)(hmk:MarksIn w):Calls prog 4 #[.int .i64 (m:Nat),.int .i64 a1] w λe w'=>e=.returned (.bool true)/\Below w.heap.size w w':=by
 have hN:=nest2 m hm
 obtain⟨x,hx,cx⟩:=text_x ⟨#[102,40]⟩ (by decide) m (by omega)
 obtain⟨y,hy,cy⟩:=text_x ⟨#[41]⟩ (by decide) m (by omega)
 have hxl:=txt_len m hm [102,40] (by decide) x hx
 have hyl:=txt_len m hm [41] (by decide) y hy
 have hsrc:(⟨#[102,110,32,102,40,97,41,32,123,32,114,101,116,117,114,110,32]⟩++x++⟨#[97]⟩++y++⟨#[59,32,125]⟩).data.toList=nestS [102,40] [41] m:=by
  simp only[ByteArray.data_append,z3z,hx,hy]
  rfl
 have hsz:(⟨#[102,110,32,102,40,97,41,32,123,32,114,101,116,117,114,110,32]⟩++x++⟨#[97]⟩++y++⟨#[59,32,125]⟩).size<=1000000:=by
  simp only[ByteArray.size_append]
  have e1:(⟨#[102,110,32,102,40,97,41,32,123,32,114,101,116,117,114,110,32]⟩:ByteArray).size=17:=rfl
  have e2:(⟨#[97]⟩:ByteArray).size=1:=rfl
  have e3:(⟨#[59,32,125]⟩:ByteArray).size=3:=rfl
  omega
 have HT:=hid ht
 have HM:=hid hmk
 clear ht hmk
 have j1:¬ ((m:Nat):Int)<0:=by omega
 have j2:¬ ((m:Nat):Int)>100:=by omega
 have j3:z0z.wrap ((m:Int)+1)=(m:Int)+1:=by rw[z1z];omega
 have z1:¬9223372036854775807<17+x.size:=by omega
 have z2:¬9223372036854775807<17+x.size+1:=by omega
 have z3:¬9223372036854775807<17+x.size+1+y.size:=by omega
 have z4:¬9223372036854775807<17+x.size+1+y.size+3:=by omega
 by_cases h63:m<=63
 ·have cp:=nest_good [102,40] [41] m hN h63 _ hsrc hsz
  have j4:(m:Int)+1<=64:=by omega
  clear hsrc hsz hN hx hy hxl hyl
  go_enter func4,ntmps4
  go_wp2_with (first|(go_at_call 10;first|((with_reducible refine(cx _).mono ?_);rintro e w2 ⟨rfl,hB2⟩;(have HB2:=hid hB2);clear hB2 cx)|((with_reducible refine(cy _).mono ?_);rintro e w3 ⟨rfl,hB3⟩;(have HB3:=hid (HB2.out.trans (hB3.mono HB2.out.size)));clear hB3 cy))|(go_at_call 7;(with_reducible refine(cp _ (HT.out.below HB3.out) (HM.out.below HB3.out)).mono ?_);rintro e w4 ⟨g,n,cap,hn5,rfl,hB4⟩;(have hn6:((n:Nat):Int)>5:=by omega);(have h4:=HB3.out.trans (hB4.mono HB3.out.size));(have HB5:=hid (h4.alloc h4.size (.cells #[.int .i64 0,.int .i64 0] 26)));clear hB4 h4 cp)|(go_at_call 8;(with_reducible refine(awake12_c _ (HT.out.below HB5.out) (HM.out.below HB5.out)).mono ?_);rintro e w6 ⟨rfl,hB6⟩;(have HB6:=hid (HB5.out.trans (hB6.mono HB5.out.size)));clear hB6))
  go_ret
  exact⟨rfl,HB6.out⟩
 ·have cp:∀w,Tabs w->MarksIn w->Calls prog 7 #[.string (⟨#[102,110,32,102,40,97,41,32,123,32,114,101,116,117,114,110,32]⟩++x++⟨#[97]⟩++y++⟨#[59,32,125]⟩)] w λe w'=>e=.returned (.tuple #[.slice none 0 0,.agg #[.int .i64 71,.int .i64 144]])/\Below w.heap.size w w':=nest_bad [102,40] [41] m hN h63 _ hsrc hsz
  have j4:¬ (m:Int)+1<=64:=by omega
  clear hsrc hsz hN hx hy hxl hyl
  go_enter func4,ntmps4
  go_wp2_with (first|(go_at_call 10;first|((with_reducible refine(cx _).mono ?_);rintro e w2 ⟨rfl,hB2⟩;(have HB2:=hid hB2);clear hB2 cx)|((with_reducible refine(cy _).mono ?_);rintro e w3 ⟨rfl,hB3⟩;(have HB3:=hid (HB2.out.trans (hB3.mono HB2.out.size)));clear hB3 cy))|(go_at_call 7;(with_reducible refine(cp _ (HT.out.below HB3.out) (HM.out.below HB3.out)).mono ?_);rintro e w4 ⟨rfl,hB4⟩;(have h4:=HB3.out.trans (hB4.mono HB3.out.size));(have HB5:=hid (h4.alloc h4.size (.cells #[.int .i64 71,.int .i64 144] 26)));clear hB4 h4 cp)|(go_at_call 8;(with_reducible refine(awake12_c _ (HT.out.below HB5.out) (HM.out.below HB5.out)).mono ?_);rintro e w6 ⟨rfl,hB6⟩;(have HB6:=hid (HB5.out.trans (hB6.mono HB5.out.size)));clear hB6))
  go_ret
  exact⟨rfl,HB6.out⟩
theorem nests_3(m:Nat)(hm:m<=100)(a1:Int)(hk:bits .and .i64 a1 3=3)(w:World)(ht:Tabs w)(hmk:MarksIn w):Calls prog 4 #[.int .i64 (m:Nat),.int .i64 a1] w λe w'=>e=.returned (.bool true)/\Below w.heap.size w w':=by
 have hN:=nest3 m hm
 obtain⟨x,hx,cx⟩:=text_x ⟨#[45,40]⟩ (by decide) m (by omega)
 obtain⟨y,hy,cy⟩:=text_x ⟨#[41]⟩ (by decide) m (by omega)
 have hxl:=txt_len m hm [45,40] (by decide) x hx
 have hyl:=txt_len m hm [41] (by decide) y hy
 have hsrc:(⟨#[102,110,32,102,40,97,41,32,123,32,114,101,116,117,114,110,32]⟩++x++⟨#[97]⟩++y++⟨#[59,32,125]⟩).data.toList=nestS [45,40] [41] m:=by
  simp only[ByteArray.data_append,z3z,hx,hy]
  rfl
 have hsz:(⟨#[102,110,32,102,40,97,41,32,123,32,114,101,116,117,114,110,32]⟩++x++⟨#[97]⟩++y++⟨#[59,32,125]⟩).size<=1000000:=by
  simp only[ByteArray.size_append]
  have e1:(⟨#[102,110,32,102,40,97,41,32,123,32,114,101,116,117,114,110,32]⟩:ByteArray).size=17:=rfl
  have e2:(⟨#[97]⟩:ByteArray).size=1:=rfl
  have e3:(⟨#[59,32,125]⟩:ByteArray).size=3:=rfl
  omega
 have HT:=hid ht
 have HM:=hid hmk
 clear ht hmk
 have j1:¬ ((m:Nat):Int)<0:=by omega
 have j2:¬ ((m:Nat):Int)>100:=by omega
 have j3:z0z.wrap ((m:Int)+1)=(m:Int)+1:=by rw[z1z];omega
 have z1:¬9223372036854775807<17+x.size:=by omega
 have z2:¬9223372036854775807<17+x.size+1:=by omega
 have z3:¬9223372036854775807<17+x.size+1+y.size:=by omega
 have z4:¬9223372036854775807<17+x.size+1+y.size+3:=by omega
 by_cases h63:m<=63
 ·have cp:=nest_good [45,40] [41] m hN h63 _ hsrc hsz
  have j4:(m:Int)+1<=64:=by omega
  clear hsrc hsz hN hx hy hxl hyl
  go_enter func4,ntmps4
  go_wp2_with (first|(go_at_call 10;first|((with_reducible refine(cx _).mono ?_);rintro e w2 ⟨rfl,hB2⟩;(have HB2:=hid hB2);clear hB2 cx)|((with_reducible refine(cy _).mono ?_);rintro e w3 ⟨rfl,hB3⟩;(have HB3:=hid (HB2.out.trans (hB3.mono HB2.out.size)));clear hB3 cy))|(go_at_call 7;(with_reducible refine(cp _ (HT.out.below HB3.out) (HM.out.below HB3.out)).mono ?_);rintro e w4 ⟨g,n,cap,hn5,rfl,hB4⟩;(have hn6:((n:Nat):Int)>5:=by omega);(have h4:=HB3.out.trans (hB4.mono HB3.out.size));(have HB5:=hid (h4.alloc h4.size (.cells #[.int .i64 0,.int .i64 0] 26)));clear hB4 h4 cp)|(go_at_call 8;(with_reducible refine(awake12_c _ (HT.out.below HB5.out) (HM.out.below HB5.out)).mono ?_);rintro e w6 ⟨rfl,hB6⟩;(have HB6:=hid (HB5.out.trans (hB6.mono HB5.out.size)));clear hB6))
  go_ret
  exact⟨rfl,HB6.out⟩
 ·have cp:∀w,Tabs w->MarksIn w->Calls prog 7 #[.string (⟨#[102,110,32,102,40,97,41,32,123,32,114,101,116,117,114,110,32]⟩++x++⟨#[97]⟩++y++⟨#[59,32,125]⟩)] w λe w'=>e=.returned (.tuple #[.slice none 0 0,.agg #[.int .i64 71,.int .i64 144]])/\Below w.heap.size w w':=nest_bad [45,40] [41] m hN h63 _ hsrc hsz
  have j4:¬ (m:Int)+1<=64:=by omega
  clear hsrc hsz hN hx hy hxl hyl
  go_enter func4,ntmps4
  go_wp2_with (first|(go_at_call 10;first|((with_reducible refine(cx _).mono ?_);rintro e w2 ⟨rfl,hB2⟩;(have HB2:=hid hB2);clear hB2 cx)|((with_reducible refine(cy _).mono ?_);rintro e w3 ⟨rfl,hB3⟩;(have HB3:=hid (HB2.out.trans (hB3.mono HB2.out.size)));clear hB3 cy))|(go_at_call 7;(with_reducible refine(cp _ (HT.out.below HB3.out) (HM.out.below HB3.out)).mono ?_);rintro e w4 ⟨rfl,hB4⟩;(have h4:=HB3.out.trans (hB4.mono HB3.out.size));(have HB5:=hid (h4.alloc h4.size (.cells #[.int .i64 71,.int .i64 144] 26)));clear hB4 h4 cp)|(go_at_call 8;(with_reducible refine(awake12_c _ (HT.out.below HB5.out) (HM.out.below HB5.out)).mono ?_);rintro e w6 ⟨rfl,hB6⟩;(have HB6:=hid (HB5.out.trans (hB6.mono HB5.out.size)));clear hB6))
  go_ret
  exact⟨rfl,HB6.out⟩
theorem nests_out(a0 a1:Int)(h:a0<0\/a0>100)(w:World):Calls prog 4 #[.int .i64 a0,.int .i64 a1] w λe w'=>e=.returned (.bool true)/\Below w.heap.size w w':=by
 by_cases h0:a0<0
 ·clear h
  go_enter func4,ntmps4
  go_wp2_with fail
  go_ret
  exact⟨rfl,Below.refl _ _⟩
 ·have h1:a0>100:=by omega
  clear h
  go_enter func4,ntmps4
  go_wp2_with fail
  go_ret
  exact⟨rfl,Below.refl _ _⟩
end Go.Proofs.YteffljnjmcjdfaaGreatDoor.W.Tr
namespace Go.Proofs.YteffljnjmcjdfaaGreatDoor.W
set_option linter.unusedVariables false
open Go.ChangeShapes Go.WideShapes Go.RowKit Go.Shelf
theorem treeNests_walk(a0 a1:Int)(w0:(Lit.int .i64 a0).wf=true)(w1:(Lit.int .i64 a1).wf=true)(w:World)(ht:Tabs w)(hm:MarksIn w):Calls prog 4 #[.int .i64 a0,.int .i64 a1] w λe w'=>e=.returned (.bool true)/\Below w.heap.size w w':=by
 by_cases h:a0<0\/a0>100
 ·exact Tr.nests_out a0 a1 h w
 ·obtain⟨m,rfl⟩:=Int.eq_ofNat_of_zero_le (show 0<=a0 by omega)
  have hm1:m<=100:=by omega
  by_cases k1:bits .and .i64 a1 3=1
  ·exact Tr.nests_1 m hm1 a1 k1 w ht hm
  by_cases k2:bits .and .i64 a1 3=2
  ·exact Tr.nests_2 m hm1 a1 k2 w ht hm
  by_cases k3:bits .and .i64 a1 3=3
  ·exact Tr.nests_3 m hm1 a1 k3 w ht hm
  exact Tr.nests_0 m hm1 a1 (by simpa using k1) (by simpa using k2) (by simpa using k3) w ht hm
end Go.Proofs.YteffljnjmcjdfaaGreatDoor.W
