import Derived.Test.YtfmioihcaohgiaaGreatDoorKN
import Derived.Test.YtfmioihcaohgiaaGreatDoorKD
open List renaming getElem?_toArray → z4z, getElem?_cons_succ → z5z, getElem?_cons_zero → z6z
open Nat renaming zero_le → z0z, le_refl → z2z
open Go.World renaming alloc_heap_new → z3z
open Go.RowKit.Below renaming refl → z1z
open Go.Proofs.Tryz
set_option maxRecDepth 1000000
set_option maxHeartbeats 8000000
namespace Go.Proofs.YtfmioihcaohgiaaGreatDoor.W.Tr
open Go.ChangeShapes Go.WideShapes Go.RowKit Go.Shelf
set_option linter.unusedVariables false
set_option linter.unusedSimpArgs false
section
variable (a:Int) (c:Nat) (t:ByteArray) (i b:Int) (w:World)
theorem tk_5(hc:c≤1000000):TK 77 #[nodV 5 a c t i b] ([⟨#[123]⟩]++repT c [tK]++[⟨#[125]⟩]) w:=by
 have cc:=fun w=>kids_c c hc w
 have hCL:(repT c [tK]).length≤2000000:=by rw[repT_len];simp;omega
 revert cc hCL
 generalize repT c [tK]=CL
 intro cc hCL
 unfold TK nodV at *
 have bA:=lit2B w (.cells #[.int .i64 5,.int .i64 a,.int .i64 (c:Nat),.string t,.int .i64 i,.int .u64 b] 40) (.cells #[.string ⟨#[123]⟩] 9)
 have o1:OS ((w.alloc (.cells #[.int .i64 5,.int .i64 a,.int .i64 (c:Nat),.string t,.int .i64 i,.int .u64 b] 40)).alloc (.cells #[.string ⟨#[123]⟩] 9)) 0 (.slice (some ⟨w.heap.size+1,0,none⟩) 1 1) [⟨#[123]⟩]:=(lit2 w (.cells #[.int .i64 5,.int .i64 a,.int .i64 (c:Nat),.string t,.int .i64 i,.int .u64 b] 40) [.string ⟨#[123]⟩] [⟨#[123]⟩] rfl (by simp)).base (z0z _)
 obtain⟨L0,hL0⟩:∃L0,[⟨#[123]⟩]++CL++[⟨#[125]⟩]=L0:=⟨_,rfl⟩
 rw[hL0]
 have HL0:=hid hL0
 clear hL0
 go_enter func77,ntmps77
 go_wp2_with (first|(go_at_call 109;(with_reducible refine(cc _).mono ?_);rintro e w3 ⟨v,rfl,b3,o3⟩;(have b3':=bA.trans (b3.mono bA.size));(have b4:Below w3.heap.size w3 (w3.alloc (.cells #[.string ⟨#[125]⟩] 9)):=(z1z _ w3).alloc (z2z _) _);(have hcat:=cat3 (w3.alloc (.cells #[.string ⟨#[125]⟩] 9)) _ _ _ _ _ _ ((o1.below b3).below b4) ((o3.base (z0z _)).below b4) (show OS _ 0 (.slice (some ⟨w3.heap.size,0,none⟩) 1 1) [⟨#[125]⟩] from os_lit (l:=[.string ⟨#[125]⟩]) rfl (z3z w3 _) (z0z _) (by simp)) (by simp;omega) (by first|(simp;done)|(simp;omega)));rw[HL0.out] at hcat;(have HB4:=hid (b3'.trans (b4.mono b3'.size)));clear b3 b3' b4 bA cc;(obtain⟨oo,oc,rfl⟩:=slice_ofX o3);clear o3 o1;simp only[World.size_alloc] at hcat HB4)|(go_at_call 110;(with_reducible refine hcat.mono ?_);rintro e w9 ⟨v9,rfl,b9,o9⟩;(have HF:=hid (And.intro (HB4.out.trans (b9.mono (by have:=HB4.out.size;simp at this;omega))) (o9.base (by have:=HB4.out.size;simp at this;omega))));clear b9 o9 hcat))
 go_ret
 exact⟨_,rfl,HF.out.1,HF.out.2⟩
theorem st_15(hc:c≤1000000):TK 112 #[nodV 15 a c t i b] ([⟨#[114,101,116,117,114,110]⟩]++repT c [tK]++[⟨#[59]⟩]) w:=by
 have cc:=fun w=>kids_c c hc w
 have hCL:(repT c [tK]).length≤2000000:=by rw[repT_len];simp;omega
 revert cc hCL
 generalize repT c [tK]=CL
 intro cc hCL
 unfold TK nodV at *
 have bA:=lit2B w (.cells #[.int .i64 15,.int .i64 a,.int .i64 (c:Nat),.string t,.int .i64 i,.int .u64 b] 40) (.cells #[.string ⟨#[114,101,116,117,114,110]⟩] 9)
 have o1:OS ((w.alloc (.cells #[.int .i64 15,.int .i64 a,.int .i64 (c:Nat),.string t,.int .i64 i,.int .u64 b] 40)).alloc (.cells #[.string ⟨#[114,101,116,117,114,110]⟩] 9)) 0 (.slice (some ⟨w.heap.size+1,0,none⟩) 1 1) [⟨#[114,101,116,117,114,110]⟩]:=(lit2 w (.cells #[.int .i64 15,.int .i64 a,.int .i64 (c:Nat),.string t,.int .i64 i,.int .u64 b] 40) [.string ⟨#[114,101,116,117,114,110]⟩] [⟨#[114,101,116,117,114,110]⟩] rfl (by simp)).base (z0z _)
 obtain⟨L0,hL0⟩:∃L0,[⟨#[114,101,116,117,114,110]⟩]++CL++[⟨#[59]⟩]=L0:=⟨_,rfl⟩
 rw[hL0]
 have HL0:=hid hL0
 clear hL0
 go_enter func112,ntmps112
 go_wp2_with (first|(go_at_call 109;(with_reducible refine(cc _).mono ?_);rintro e w3 ⟨v,rfl,b3,o3⟩;(have b3':=bA.trans (b3.mono bA.size));(have b4:Below w3.heap.size w3 (w3.alloc (.cells #[.string ⟨#[59]⟩] 9)):=(z1z _ w3).alloc (z2z _) _);(have hcat:=cat3 (w3.alloc (.cells #[.string ⟨#[59]⟩] 9)) _ _ _ _ _ _ ((o1.below b3).below b4) ((o3.base (z0z _)).below b4) (show OS _ 0 (.slice (some ⟨w3.heap.size,0,none⟩) 1 1) [⟨#[59]⟩] from os_lit (l:=[.string ⟨#[59]⟩]) rfl (z3z w3 _) (z0z _) (by simp)) (by simp;omega) (by first|(simp;done)|(simp;omega)));rw[HL0.out] at hcat;(have HB4:=hid (b3'.trans (b4.mono b3'.size)));clear b3 b3' b4 bA cc;(obtain⟨oo,oc,rfl⟩:=slice_ofX o3);clear o3 o1;simp only[World.size_alloc] at hcat HB4)|(go_at_call 110;(with_reducible refine hcat.mono ?_);rintro e w9 ⟨v9,rfl,b9,o9⟩;(have HF:=hid (And.intro (HB4.out.trans (b9.mono (by have:=HB4.out.size;simp at this;omega))) (o9.base (by have:=HB4.out.size;simp at this;omega))));clear b9 o9 hcat))
 go_ret
 exact⟨_,rfl,HF.out.1,HF.out.2⟩
end
theorem tk_st(k a:Int)(c:Nat)(t:ByteArray)(i b:Int)(ts:List ByteArray)(w:World)(hk:¬k=1∧¬k=2∧¬k=3∧¬k=4∧¬k=5∧¬k=12∧¬k=25)(h5:(ruleP k).sort=5)(h:∀w',Below w.heap.size w w'→TK 112 #[nodV k a c t i b] ts w'):TK 77 #[nodV k a c t i b] ts w:=by
 (have ne:∀j:Int,¬k=j→(k==j)=false:=fun j hj=>by simpa using hj);(have n1:=ne 1 (by omega));(have n2:=ne 2 (by omega));(have n3:=ne 3 (by omega));(have n4:=ne 4 (by omega));(have n5:=ne 5 (by omega));(have n12:=ne 12 (by omega));(have n25:=ne 25 (by omega));(have cr:=ruleOf_c k);(have bw:Below w.heap.size w (w.alloc (.cells #[.int .i64 k,.int .i64 a,.int .i64 (c:Nat),.string t,.int .i64 i,.int .u64 b] 40)):=(z1z _ w).alloc (z2z _) _);(have hn:=z3z w (.cells #[.int .i64 k,.int .i64 a,.int .i64 (c:Nat),.string t,.int .i64 i,.int .u64 b] 40));(have hfd:=ru_field)
 unfold rulV at cr
 rw[h5] at cr
 generalize ruleP k=r at *
 unfold TK nodV at *
 clear ne hk h5
 go_enter func77,ntmps77
 go_wp2_with (first|(go_at_call 104;(with_reducible refine(cr _).mono ?_);rintro e w2 ⟨rfl,hB2⟩;(have b2:=bw.trans (hB2.mono bw.size));(have hn2:=row_keepX hn hB2);(have q0:=row_cellsX hn2 0);(have q1:=row_cellsX hn2 1);(have q2:=row_cellsX hn2 2);(have q3:=row_cellsX hn2 3);(have q4:=row_cellsX hn2 4);(have q5:=row_cellsX hn2 5);simp only[z4z,z5z,z6z] at q0 q1 q2 q3 q4 q5;(have HB:=hid b2);clear hB2 b2 hn2 hn cr bw)|(go_at_call 112;(with_reducible refine(h _ HB.out).mono ?_);rintro e w3 ⟨v,rfl,hB3,hO3⟩;(have HF:=hid (And.intro (HB.out.trans (hB3.mono HB.out.size)) (OS.base hO3 HB.out.size)));clear hB3 hO3 h))
 go_ret
 exact⟨_,rfl,HF.out.1,HF.out.2⟩
theorem tk_ex(k a:Int)(c:Nat)(t:ByteArray)(i b:Int)(ts:List ByteArray)(w:World)(hk:¬k=1∧¬k=2∧¬k=3∧¬k=4∧¬k=5∧¬k=12∧¬k=25)(h5:(ruleP k).sort=7)(h:∀w',Below w.heap.size w w'→TK 113 #[nodV k a c t i b] ts w'):TK 77 #[nodV k a c t i b] ts w:=by
 (have ne:∀j:Int,¬k=j→(k==j)=false:=fun j hj=>by simpa using hj);(have n1:=ne 1 (by omega));(have n2:=ne 2 (by omega));(have n3:=ne 3 (by omega));(have n4:=ne 4 (by omega));(have n5:=ne 5 (by omega));(have n12:=ne 12 (by omega));(have n25:=ne 25 (by omega));(have cr:=ruleOf_c k);(have bw:Below w.heap.size w (w.alloc (.cells #[.int .i64 k,.int .i64 a,.int .i64 (c:Nat),.string t,.int .i64 i,.int .u64 b] 40)):=(z1z _ w).alloc (z2z _) _);(have hn:=z3z w (.cells #[.int .i64 k,.int .i64 a,.int .i64 (c:Nat),.string t,.int .i64 i,.int .u64 b] 40));(have hfd:=ru_field)
 unfold rulV at cr
 rw[h5] at cr
 generalize ruleP k=r at *
 unfold TK nodV at *
 clear ne hk h5
 go_enter func77,ntmps77
 go_wp2_with (first|(go_at_call 104;(with_reducible refine(cr _).mono ?_);rintro e w2 ⟨rfl,hB2⟩;(have b2:=bw.trans (hB2.mono bw.size));(have hn2:=row_keepX hn hB2);(have q0:=row_cellsX hn2 0);(have q1:=row_cellsX hn2 1);(have q2:=row_cellsX hn2 2);(have q3:=row_cellsX hn2 3);(have q4:=row_cellsX hn2 4);(have q5:=row_cellsX hn2 5);simp only[z4z,z5z,z6z] at q0 q1 q2 q3 q4 q5;(have HB:=hid b2);clear hB2 b2 hn2 hn cr bw)|(go_at_call 113;(with_reducible refine(h _ HB.out).mono ?_);rintro e w3 ⟨v,rfl,hB3,hO3⟩;(have HF:=hid (And.intro (HB.out.trans (hB3.mono HB.out.size)) (OS.base hO3 HB.out.size)));clear hB3 hO3 h))
 go_ret
 exact⟨_,rfl,HF.out.1,HF.out.2⟩
section
variable (a:Int) (c:Nat) (t:ByteArray) (i b:Int) (w:World)
theorem ex_26(h0:-9223372036854775808≤i)(h1:i≤9223372036854775807)(ht:Tabs w):TK 113 #[nodV 26 a c t i b] [⟨(intT i).toArray⟩] w:=by
 have bw:Below w.heap.size w (w.alloc (.cells #[.int .i64 26,.int .i64 a,.int .i64 (c:Nat),.string t,.int .i64 i,.int .u64 b] 40)):=(z1z _ w).alloc (z2z _) _
 have ci:=int_c i h0 h1 _ (ht.below bw)
 generalize (⟨(intT i).toArray⟩:ByteArray)=x at *
 unfold TK nodV
 clear ht
 go_enter func113,ntmps113
 go_wp2_with (go_at_call 154;(with_reducible refine ci.mono ?_);rintro e w2 ⟨rfl,hB2⟩;(have HB:=hid (bw.trans (hB2.mono bw.size)));clear hB2 ci bw)
 go_ret
 exact⟨_,rfl,HB.out.alloc HB.out.size _,(lit1 w2 [.string x] [x] rfl (by simp)).base HB.out.size⟩
end
end Go.Proofs.YtfmioihcaohgiaaGreatDoor.W.Tr
